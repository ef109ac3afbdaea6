import PyProof.Rows.All
import KE.KEqDict
import KE.KDictList
import KE.KIsAll
import KE.KDictOf
import KE.KItem
import KE.KRevIter
import Lean
import PySem.Challenge.RW_oncedone_k32_runs_cut
open Array renaming getElem?_toList->a0F,length_toList->a1d,getElem?_eq_getElem->a3P
open Bool renaming false_ne_true->A4,and_eq_true->a0Y,eq_iff_iff->a1G,and_true->a8l,true_and->b5y,and_eq_true_iff->b9Q,false_or->c9y
open Int renaming toNat_natCast->A7,eq_ofNat_of_zero_le->A8,emod_lt_of_pos->U2,emod_nonneg->W5,zero_add->X3,toNat->b7W
open List renaming length_map->c4,replicate->c8,getElem?_map->d8,getElem?_eq_getElem->g8,mem_cons->q9,size_toArray->t9,length_append->u8,getElem?_eq_some_iff->y4,mem_singleton->z9,length_cons->C6,mem_append_right->C7,mem_append->C8,mem_cons_of_mem->D4,map_append->D7,mem_map->D8,length_singleton->E4,mem_cons_self->F5,not_mem_nil->G5,map_cons->G8,length_take->J4,getElem_mem->J5,length_replicate->K0,nodup_cons->K5,lookup_cons->K6,getElem?_replicate->K7,getElem?_append_right->K8,getElem?_append_left->L3,range->L4,all_eq_true->M6,mem_append_left->O2,getD_eq_getElem?_getD->O3,getElem?_set_self->P5,take_add_one->P8,getElem?_set_ne->Q6,map_map->S9,getD->T0,length_set->T4,mem_iff_getElem?->T7,getLast?_concat->V0,length_nil->W3,replicate_succ->W7,take_length->X5,replicate_succ'->Z5,map_inj_right->a0u,find?_cons->a0x,any_cons->a0E,concat_eq_append->a0G,mem_of_getElem?->a0Q,reverse_nil->a0X,mem_filter->a1F,take_of_length_le->a1Y,flatten_cons->a1Z,length_filter_le->a2k,prefix_refl->a2m,lookup->a2v,getElem?_range->a2V,mem_range->a3y,filter_append->a3z,append_assoc->a4t,length_erase_of_mem->a4D,length_pos_of_mem->a5I,range_succ->a5P,append_nil->a5Q,eq_nil_or_concat->a5Y,dropLast_concat->a6A,map_congr_left->a7u,filterMap_cons->a7v,map_take->a8j,all_cons->a8k,mem_replicate->a8E,nodup_append->a9g,map_set->a9h,map_nil->a9i,length_range->a9j,flatten_replicate_singleton->a9k,length_drop->b0S,any_eq_true->b0T,length->b1n,of_mem_zip->b1V,exists_cons_of_ne_nil->b3P,drop_zero->b3Q,mem_or_eq_of_mem_set->b5r,drop_eq_getElem_cons->b5s,idxOf_lt_length_iff->b5x,length_eq_zero_iff->b7c,getElem?_cons_zero->b7d,getElem?_eq_none->b9I,mem_erase_of_ne->b9O,map_id->b9P,length_reverse->c2K,prefix_append->c2Q,mem_filterMap->c2R,map_replicate->c2S,getElem?_take->c2T,foldl->c2U,reverse_cons->c4Y,pairwise_map->c4Z,mem_reverse->c5B,idxOf_cons->c8g,forIn_cons->c8h,nodup_nil->c8m,all_nil->c9E
open Nat renaming le_refl->o5,ne_of_lt->C4,lt_of_lt_of_le->E6,le_trans->J8,lt_irrefl->M7,zero_le->O6,le_succ->X4,le_of_lt->a1c,zero_add->a3w,le_add_right->a5q,ne_of_gt->a5O,succ_mul->b9F,sub_zero->b9G,min_self->b9H,lt_succ_self->c8f,min_eq_left->c8l
open Option renaming map_eq_some_iff->O7,isSome_iff_exists->Z4,getD_some->a4C,map_some->a5p,isSome_map->a8D,getD_none->c2P
open PyProof.Rows renaming boot_isinstance->C0,boot_list->D3,callWith_type1->Q0,boot_dict->Q5,boot_int->a0l,slot_tuple_getitem->a1o,boot_tuple->a3k,boot_str->a3R,boot_bool->b0R,boot_min->b1l,boot_all->b1m,AllBare->b1X,envOfC->b3S,IntsAre->c5H,subscriptTail_builtinR->c8j
open PySem renaming starEach->i8,Shared->o0,boot_len->t6,wpAny_bind->u6,sizeLine->v6,compareOp->A3,mainGlobals->C2,wpAny_pure->E5,mem_of_lookup->F1,Program->F3,Around->L7,wpAny_truthy_bool->N6,behindInMarks->T9,bootBuiltins->W8,foldedSetIterable->Y9,binaryOp->a0a,backTo->a0m,attributeBase->a0n,FuncData->a0w,wpAny_Call_Name_kw->a1f,wpAny_passesOwn->a1p,wpAny_newObj_type->a1I,wpAny_mono->a1J,sysModules->a1K,assignEach->a1L,lookup_relabel_local->a1M,wpAny_holding->a2w,swapsWith->a2x,importedModules->a2y,strIterType->a3l,keywordEach->a3m,sizeLine_eq->a3Q,sliceBounds->a4F,letOwnedTupleGo->a4G,holding->a4H,codeAny->a4I,tupleKind_room_in1->a5R,NameKind->a5S,valueAt->a6a,wpAny_comprehension_free->a6B,relabel->a7w,Keyword->a7x,wpAny_call_entry->a8m,wpAny_execs_nil->a9m,call_meets->b0P,backToKw->b0Q,assign->b1o,call->b3G,tupleKind->b3R,wpAny_pyIter_list->b5z,wpAny_assign_Name->b5A,codeAny_mono->b7f,compEnvC->b9K,Operator->b9L,standAt->b9R,getMethod->b9S,callerA->b9T,Result->b9U,BindsTo->b9V,PlainAttrs->c5a,IsPart->c5b,wpAny_standAt->c5E,setItem->c5F,getItem->c5G,codeAny_compStart_list->c8k,wpAny_notOrdered_dict->c8o,wpAny_isTrue_Compare1->c8p,seqIndex_neg->c8q,lastMarks->c8r,builtinLookup_eq_fast->c8s,PassesOwn->c8t,wpAny_newFunctionEnv->c9D,wpAny_field->c9F,seqIndex_of->c9G
open PySem.F renaming plainAttrs_list->C3,type_list_append->F6,slot_list_append->F7,slot_dict_get->a5o,slot_NoneType_ne_refl->a9f,slot_dict_setdefault->b0N,type_list_extend->b3H,slot_list_extend->b3I,slot_list_index->b3M,plainAttrs_dict->b3N,args_dict_get_3->b3O,entry_dict_get->b5q,type_list_pop->b5u,slot_tuple_ne->b5v,slot_list_pop->b5w,slot_dict_ne->b7b
open PySem.Heap renaming get?_push_of_some->i9,lt_size->o9,get?_push_size->F2,get?_update_other->a5J,get?_update_self->a5Z,size_push->c8n
open PySem.W renaming mg_none_of->E1,nsIn->E2,findIn->G9,kia_one->N7,emptyDict->R9,mg_of->W6,keepIn->X2,instObj->Y6,fnOf->a0P,plainGet->a2d,hasDictIn->a3x,makesIn->a4E,lookIn->a5M,codeIn->a5N,plainGet_of->a6y,callWith_K->a7t,specialIn->a8f,plainOver->a8g,methodObj->a8h,isFn->a8i,takerIn->b0M,cellsFrom_some->b5p,kitx_tuple->b9E,kitx_list->b9M,kitx_dict->b9N,handedIn->c2J,takesIn->c2O,kitOne->c4W,keq_eq->c4X,mroIn->c5A
set_option Elab.async false
set_option linter.all false
set_option maxRecDepth 100000
set_option maxHeartbeats 0
abbrev Fg:=PySem.W.Frag
abbrev Nt:=List (List Nat)
theorem gI{α:Type}{l:List α}{i:Nat}{a:α}(h:l[i]?=some a):i<l.length:=(y4.mp h).1
theorem mI{α:Type}{l:List α}{i:Nat}{a:α}(h:l[i]?=some a):a∈l:=a0Q h
theorem d1C{p:Prop}[Decidable p](h:¬p):decide p=false:=decide_eq_false h
theorem d1D{p:Prop}[Decidable p](h:p):decide p=true:=decide_eq_true h
namespace L2
open PySem
def Y4(s:Stmt)(j:Nat):Stmt:=match s with
 | .ClassDef _ _ _ body _ _ _ _ _ _ _=>body.getD j (.Pass ⟨0,0,0,0⟩)
 | _=>.Pass ⟨0,0,0,0⟩
def a3f(s:Stmt):Arguments:=match s with
 | .FunctionDef _ a _ _ _ _ _ _ _ _=>a
 | _=>{ posonlyargs:=[],args:=[],vararg:=none,kwonlyargs:=[],kw_defaults:=[],kwarg:=none,defaults:=[] }
def a1B(s:Stmt):List Stmt:=match s with
 | .FunctionDef _ _ b _ _ _ _ _ _ _=>b
 | _=>[]
def l9(s:Stmt):Scope:=match s with
 | .FunctionDef _ _ _ _ _ _ sc _ _ _=>sc
 | _=>{ kind:=.function,names:=[],isGenerator:=false,isCoroutine:=false }
end L2
namespace HD
open PySem PySem.W L2
abbrev P:F3:=PySem.Challenge.pw_oncedone_k32_runs_cut
def top(i:Nat):Stmt:=P.main.body.getD i (.Pass ⟨0,0,0,0⟩)
def kE(Q:Params)(n:Str)(t:Nat)(v:Value):DictEntry:=⟨PyData.keyHash Q n,.str n t,v⟩
def kD(es:List DictEntry)(n:Nat):Obj:=⟨.type "dict",none,.dict es.toArray n,#[]⟩
def kF(x qual:Str)(st:Stmt)(pm cd:Value):Obj:=⟨.type "function",none,.func (fnOf x qual (a3f st) (a1B st) (l9 st) .none .none .none pm none cd .none),#[]⟩
def kC(n q:Str)(a b c:Nat)(i3 i4 i5 i6 i7:Int)(r8:Nat)(i10:Int)(r11 r13 r14 r15:Nat)(i16 i17:Int)(d:Nat):Obj:=⟨.type "code",none,.fields ([.str n a,.str q b,.str "/claim/cut.py" c,.int i3 0,.int i4 0,.int i5 0,.int i6 0,.int i7 0,.ref r8,.bool true,.int i10 0,.ref r11,.none,.ref r13,.ref r14,.ref r15,.int i16 0,.int i17 0,.str "/claim/cut.py" d]:List Value).toArray,([]:List (Option Value)).toArray⟩
def kN(n q:Str)(a b c:Nat)(i3 i4 i5 i6 i7:Int)(r8:Nat)(i10:Int)(r11 r15:Nat)(i16 i17:Int)(d:Nat):Obj:=⟨.type "code",none,.fields ([.str n a,.str q b,.str "/claim/cut.py" c,.int i3 0,.int i4 0,.int i5 0,.int i6 0,.int i7 0,.ref r8,.bool true,.int i10 0,.ref r11,.none,.none,.none,.ref r15,.int i16 0,.int i17 0,.str "/claim/cut.py" d]:List Value).toArray,([]:List (Option Value)).toArray⟩
abbrev m0:Value:=(.str "__main__" 164)
abbrev m1:Value:=(.str "oncedone.words" 194)
abbrev m2:Value:=(.str "oncedone.deeds" 253)
abbrev m3:Value:=(.str "oncedone.errors" 281)
abbrev m4:Value:=(.str "oncedone.checks" 401)
abbrev m5:Value:=(.str "oncedone.plans" 431)
abbrev m6:Value:=(.str "oncedone.runs" 561)
abbrev m7:Value:=(.str "law_oncedone_k32_runs_cut" 599)
def K1(Q:Params):Frag:=[
 (3,kD [kE Q "__name__" 165 (.str "law_oncedone_k32_runs_cut" 599),kE Q "__doc__" 166 .none,kE Q "__package__" 167 .none,kE Q "__loader__" 168 (.builtin "__main__.__loader__#opaque"),kE Q "__spec__" 169 .none,kE Q "__annotations__" 170 (.ref 6),kE Q "__builtins__" 171 (.ref 4),kE Q "__file__" 173 (.str "/claim/cut.py" 172),kE Q "__cached__" 174 .none,kE Q "_wall" 193 (.ref 21),kE Q "BOUND" 197 (.int (1000000000000) 196),kE Q "LETTERS" 199 (.str "abcdefghijklmnopqrstuvwxyz" 198),kE Q "FIGURES" 201 (.str "0123456789" 200),kE Q "LONGEST_NAME" 203 (.int (8) 202),kE Q "DEED_KINDS" 209 (.ref 22),kE Q "is_whole" 216 (.ref 29),kE Q "is_value" 223 (.ref 36),kE Q "is_name" 229 (.ref 41),kE Q "is_operand" 236 (.ref 48),kE Q "is_deed" 243 (.ref 55),kE Q "is_row" 252 (.ref 62),kE Q "worth_of" 262 (.ref 69),kE Q "worth" 273 (.ref 76),kE Q "set_by" 280 (.ref 83),kE Q "OnceError" 300 (.ref 93),kE Q "Wrong" 325 (.ref 113),kE Q "NoThing" 350 (.ref 132),kE Q "TooMany" 375 (.ref 151),kE Q "NoWay" 400 (.ref 170),kE Q "MOST" 404 (.int (400) 403),kE Q "is_below" 412 (.ref 179),kE Q "check_length" 421 (.ref 186),kE Q "check_each" 430 (.ref 193),kE Q "FIRST_STEP" 436 (.ref 194),kE Q "are_nexts" 442 (.ref 199),kE Q "check_nexts" 448 (.ref 204),kE Q "stops_of" 454 (.ref 209),kE Q "turned" 460 (.ref 214),kE Q "reached" 471 (.ref 221),kE Q "check_ways" 481 (.ref 228),kE Q "steps_of" 487 (.ref 233),kE Q "Plan" 560 (.ref 290),kE Q "worth_set" 571 (.ref 301),kE Q "step_behind" 580 (.ref 308),kE Q "run" 598 (.ref 315),kE Q "_law_bag" 606 (.ref 320),kE Q "_law_take" 619 (.ref 327),kE Q "_law_net" 632 (.ref 334),kE Q "_law_mended" 638 (.ref 339),kE Q "_law_base" 644 (.ref 344),kE Q "_law_names" 661 (.ref 351),kE Q "_law_value" 668 (.ref 358),kE Q "_law_operand" 676 (.ref 365),kE Q "_law_deed" 685 (.ref 372),kE Q "_law_row" 697 (.ref 379),kE Q "_law_plan" 703 (.ref 384),kE Q "_law_lists" 709 (.ref 389),kE Q "_law_whole" 716 (.ref 396),kE Q "_law_does" 724 (.ref 403),kE Q "_law_spoils" 732 (.ref 410),kE Q "_law_leads" 740 (.ref 417),kE Q "_law_is_step" 748 (.ref 424),kE Q "_law_places" 759 (.ref 431),kE Q "_law_of" 767 (.ref 438),kE Q "_law_worth" 777 (.ref 445),kE Q "_law_run" 796 (.ref 452),kE Q "_law_start" 802 (.ref 457),kE Q "_law_taken" 808 (.ref 462),kE Q "_law_prefix" 816 (.ref 469),kE Q "_law_cut" 836 (.ref 476),kE Q "_law_filled" 846 (.ref 483),kE Q "_law_rounds" 863 (.ref 490),kE Q "_law_chain" 869 (.ref 495),kE Q "law" 892 (.ref 502)] 74),
 (20,kC "_wall" "_wall" 187 188 189 1 1 0 0 3 15 181 16 17 18 19 191 1 192),
 (21,kF "_wall" "_wall" (top 0) m0 (.ref 20)),
 (22,⟨(.type "tuple"),none,.seq ([(.str "plus" 204),(.str "minus" 205),(.str "times" 206),(.str "less" 207),(.str "same" 208)]:List Value).toArray 0,([]:List (Option Value)).toArray⟩),
 (28,kC "is_whole" "is_whole" 210 211 212 10 1 0 0 3 23 181 24 25 26 27 214 10 215),
 (29,kF "is_whole" "is_whole" (top 7) m1 (.ref 28)),
 (35,kC "is_value" "is_value" 217 218 219 12 1 0 0 3 30 181 31 32 33 34 221 12 222),
 (36,kF "is_value" "is_value" (top 8) m1 (.ref 35)),
 (40,kN "is_name" "is_name" 224 225 226 14 1 0 0 3 37 181 38 39 227 14 228),
 (41,kF "is_name" "is_name" (top 9) m1 (.ref 40)),
 (47,kC "is_operand" "is_operand" 230 231 232 18 1 0 0 3 42 181 43 44 45 46 234 18 235),
 (48,kF "is_operand" "is_operand" (top 10) m1 (.ref 47)),
 (54,kC "is_deed" "is_deed" 237 238 239 20 1 0 0 3 49 181 50 51 52 53 241 20 242),
 (55,kF "is_deed" "is_deed" (top 11) m1 (.ref 54)),
 (61,kC "is_row" "is_row" 244 245 246 24 1 0 0 3 56 181 57 58 59 60 250 24 251),
 (62,kF "is_row" "is_row" (top 12) m1 (.ref 61)),
 (68,kC "worth_of" "worth_of" 255 256 257 39 2 0 0 3 63 181 64 65 66 67 260 39 261),
 (69,kF "worth_of" "worth_of" (top 14) m2 (.ref 68)),
 (75,kC "worth" "worth" 263 264 265 43 2 0 0 3 70 181 71 72 73 74 271 43 272),
 (76,kF "worth" "worth" (top 15) m2 (.ref 75)),
 (82,kC "set_by" "set_by" 274 275 276 56 1 0 0 3 77 181 78 79 80 81 278 56 279),
 (83,kF "set_by" "set_by" (top 16) m2 (.ref 82)),
 (92,kD [kE Q "__module__" 290 (.str "oncedone.errors" 281),kE Q "__firstlineno__" 294 (.int (59) 293),kE Q "__static_attributes__" 295 (.ref 91),kE Q "__weakref__" 297 (.ref 94),kE Q "__doc__" 298 .none] 3),
 (93,⟨(.type "type"),none,.cls { name := "OnceError",bases:=[(.type "ValueError")],mro:=[(.ref 93),(.type "ValueError"),(.type "Exception"),(.type "BaseException"),(.type "object")],ns:=92,qualname := "OnceError",hasDict:=true,subclasses:=[(.ref 113),(.ref 132),(.ref 151),(.ref 170)] },([some (.ref 84),none,some (.str "OnceError" 283),some (.str "OnceError" 291),some (.builtin "ValueError.__new__"),some (.bool true)]:List (Option Value)).toArray⟩),
 (109,kC "__init__" "Wrong.__init__" 313 314 315 63 2 0 0 3 104 181 105 106 107 108 318 63 319),
 (110,kF "__init__" "Wrong.__init__" (Y4 (top 19) 0) m3 (.ref 109)),
 (112,kD [kE Q "__module__" 308 (.str "oncedone.errors" 281),kE Q "__firstlineno__" 312 (.int (61) 311),kE Q "__init__" 320 (.ref 110),kE Q "__static_attributes__" 322 (.ref 111),kE Q "__doc__" 323 .none] 2),
 (113,⟨(.type "type"),none,.cls { name := "Wrong",bases:=[(.ref 93)],mro:=[(.ref 113),(.ref 93),(.type "ValueError"),(.type "Exception"),(.type "BaseException"),(.type "object")],ns:=112,qualname := "Wrong",hasDict:=true,subclasses:=[] },([some (.ref 97),none,some (.str "Wrong" 301),some (.str "Wrong" 309),some (.builtin "ValueError.__new__"),some (.bool true)]:List (Option Value)).toArray⟩),
 (128,kC "__init__" "NoThing.__init__" 338 339 340 67 2 0 0 3 123 181 124 125 126 127 343 67 344),
 (129,kF "__init__" "NoThing.__init__" (Y4 (top 20) 0) m3 (.ref 128)),
 (131,kD [kE Q "__module__" 333 (.str "oncedone.errors" 281),kE Q "__firstlineno__" 337 (.int (65) 336),kE Q "__init__" 345 (.ref 129),kE Q "__static_attributes__" 347 (.ref 130),kE Q "__doc__" 348 .none] 2),
 (132,⟨(.type "type"),none,.cls { name := "NoThing",bases:=[(.ref 93)],mro:=[(.ref 132),(.ref 93),(.type "ValueError"),(.type "Exception"),(.type "BaseException"),(.type "object")],ns:=131,qualname := "NoThing",hasDict:=true,subclasses:=[] },([some (.ref 116),none,some (.str "NoThing" 326),some (.str "NoThing" 334),some (.builtin "ValueError.__new__"),some (.bool true)]:List (Option Value)).toArray⟩),
 (147,kC "__init__" "TooMany.__init__" 363 364 365 71 2 0 0 3 142 181 143 144 145 146 368 71 369),
 (148,kF "__init__" "TooMany.__init__" (Y4 (top 21) 0) m3 (.ref 147)),
 (150,kD [kE Q "__module__" 358 (.str "oncedone.errors" 281),kE Q "__firstlineno__" 362 (.int (69) 361),kE Q "__init__" 370 (.ref 148),kE Q "__static_attributes__" 372 (.ref 149),kE Q "__doc__" 373 .none] 2),
 (151,⟨(.type "type"),none,.cls { name := "TooMany",bases:=[(.ref 93)],mro:=[(.ref 151),(.ref 93),(.type "ValueError"),(.type "Exception"),(.type "BaseException"),(.type "object")],ns:=150,qualname := "TooMany",hasDict:=true,subclasses:=[] },([some (.ref 135),none,some (.str "TooMany" 351),some (.str "TooMany" 359),some (.builtin "ValueError.__new__"),some (.bool true)]:List (Option Value)).toArray⟩)]
def c7Z:List Addr:=[3,20,21,22,28,29,35,36,40,41,47,48,54,55,61,62,68,69,75,76,82,83,92,93,109,110,112,113,128,129,131,132,147,148,150,151]
def K2(Q:Params):Frag:=[
 (166,kC "__init__" "NoWay.__init__" 388 389 390 75 2 0 0 3 161 181 162 163 164 165 393 75 394),
 (167,kF "__init__" "NoWay.__init__" (Y4 (top 22) 0) m3 (.ref 166)),
 (169,kD [kE Q "__module__" 383 (.str "oncedone.errors" 281),kE Q "__firstlineno__" 387 (.int (73) 386),kE Q "__init__" 395 (.ref 167),kE Q "__static_attributes__" 397 (.ref 168),kE Q "__doc__" 398 .none] 2),
 (170,⟨(.type "type"),none,.cls { name := "NoWay",bases:=[(.ref 93)],mro:=[(.ref 170),(.ref 93),(.type "ValueError"),(.type "Exception"),(.type "BaseException"),(.type "object")],ns:=169,qualname := "NoWay",hasDict:=true,subclasses:=[] },([some (.ref 154),none,some (.str "NoWay" 376),some (.str "NoWay" 384),some (.builtin "ValueError.__new__"),some (.bool true)]:List (Option Value)).toArray⟩),
 (178,kC "is_below" "is_below" 405 406 407 79 2 0 0 3 173 181 174 175 176 177 410 79 411),
 (179,kF "is_below" "is_below" (top 25) m4 (.ref 178)),
 (185,kC "check_length" "check_length" 413 414 415 81 3 0 0 3 180 181 181 182 183 184 419 81 420),
 (186,kF "check_length" "check_length" (top 26) m4 (.ref 185)),
 (192,kC "check_each" "check_each" 422 423 424 86 1 0 0 3 187 181 188 189 190 191 428 86 429),
 (193,kF "check_each" "check_each" (top 27) m4 (.ref 192)),
 (194,⟨(.type "tuple"),none,.seq ([(.int (-1) 434),(.int (0) 435)]:List Value).toArray 0,([]:List (Option Value)).toArray⟩),
 (198,kN "are_nexts" "are_nexts" 437 438 439 92 3 0 0 3 195 181 196 197 440 92 441),
 (199,kF "are_nexts" "are_nexts" (top 30) m5 (.ref 198)),
 (203,kN "check_nexts" "check_nexts" 443 444 445 97 2 0 0 3 200 181 201 202 446 97 447),
 (204,kF "check_nexts" "check_nexts" (top 31) m5 (.ref 203)),
 (208,kN "stops_of" "stops_of" 449 450 451 101 1 0 0 3 205 181 206 207 452 101 453),
 (209,kF "stops_of" "stops_of" (top 32) m5 (.ref 208)),
 (213,kN "turned" "turned" 455 456 457 103 1 0 0 3 210 181 211 212 458 103 459),
 (214,kF "turned" "turned" (top 33) m5 (.ref 213)),
 (220,kC "reached" "reached" 461 462 463 109 2 0 0 3 215 181 216 217 218 219 469 109 470),
 (221,kF "reached" "reached" (top 34) m5 (.ref 220)),
 (227,kC "check_ways" "check_ways" 472 473 474 118 1 0 0 3 222 181 223 224 225 226 479 118 480),
 (228,kF "check_ways" "check_ways" (top 35) m5 (.ref 227)),
 (232,kN "steps_of" "steps_of" 482 483 484 124 1 0 0 3 229 181 230 231 485 124 486),
 (233,kF "steps_of" "steps_of" (top 36) m5 (.ref 232)),
 (244,kN "__init__" "Plan.__init__" 500 501 502 131 3 0 0 3 241 181 242 243 503 131 504),
 (245,kF "__init__" "Plan.__init__" (Y4 (top 37) 0) m5 (.ref 244)),
 (251,kC "steps" "Plan.steps" 506 507 508 142 1 0 0 3 246 181 247 248 249 250 510 142 511),
 (252,kF "steps" "Plan.steps" (Y4 (top 37) 1) m5 (.ref 251)),
 (258,kC "leads_to" "Plan.leads_to" 513 514 515 145 2 0 0 3 253 181 254 255 256 257 518 145 519),
 (259,kF "leads_to" "Plan.leads_to" (Y4 (top 37) 2) m5 (.ref 258)),
 (265,kC "steps_into" "Plan.steps_into" 521 522 523 150 2 0 0 3 260 181 261 262 263 264 526 150 527),
 (266,kF "steps_into" "Plan.steps_into" (Y4 (top 37) 3) m5 (.ref 265)),
 (272,kC "stops" "Plan.stops" 529 530 531 153 1 0 0 3 267 181 268 269 270 271 533 153 534),
 (273,kF "stops" "Plan.stops" (Y4 (top 37) 4) m5 (.ref 272)),
 (279,kC "deeds" "Plan.deeds" 536 537 538 156 1 0 0 3 274 181 275 276 277 278 540 156 541)]
def c4R:List Addr:=[166,167,169,170,178,179,185,186,192,193,194,198,199,203,204,208,209,213,214,220,221,227,228,232,233,244,245,251,252,258,259,265,266,272,273,279]
def K3(Q:Params):Frag:=[
 (280,kF "deeds" "Plan.deeds" (Y4 (top 37) 5) m5 (.ref 279)),
 (286,kC "names" "Plan.names" 543 544 545 159 1 0 0 3 281 181 282 283 284 285 547 159 548),
 (287,kF "names" "Plan.names" (Y4 (top 37) 6) m5 (.ref 286)),
 (289,kD [kE Q "__module__" 495 (.str "oncedone.plans" 431),kE Q "__firstlineno__" 499 (.int (129) 498),kE Q "__init__" 505 (.ref 245),kE Q "steps" 512 (.ref 252),kE Q "leads_to" 520 (.ref 259),kE Q "steps_into" 528 (.ref 266),kE Q "stops" 535 (.ref 273),kE Q "deeds" 542 (.ref 280),kE Q "names" 549 (.ref 287),kE Q "__static_attributes__" 553 (.ref 288),kE Q "__dict__" 555 (.ref 291),kE Q "__weakref__" 557 (.ref 292),kE Q "__doc__" 558 .none] 4),
 (290,⟨(.type "type"),none,.cls { name := "Plan",bases:=[(.type "object")],mro:=[(.ref 290),(.type "object")],ns:=289,qualname := "Plan",hasDict:=true,subclasses:=[] },([none,none,some (.str "Plan" 488),some (.str "Plan" 496),some (.builtin "object.__new__"),some (.bool true)]:List (Option Value)).toArray⟩),
 (300,kC "worth_set" "worth_set" 563 564 565 162 3 0 0 3 295 181 296 297 298 299 569 162 570),
 (301,kF "worth_set" "worth_set" (top 39) m6 (.ref 300)),
 (307,kC "step_behind" "step_behind" 572 573 574 168 3 0 0 3 302 181 303 304 305 306 578 168 579),
 (308,kF "step_behind" "step_behind" (top 40) m6 (.ref 307)),
 (314,kC "run" "run" 581 582 583 172 4 0 0 3 309 181 310 311 312 313 596 172 597),
 (315,kF "run" "run" (top 41) m6 (.ref 314)),
 (319,kN "_law_bag" "_law_bag" 601 602 603 191 1 0 0 3 316 181 317 318 604 191 605),
 (320,kF "_law_bag" "_law_bag" (top 43) m7 (.ref 319)),
 (326,kC "_law_take" "_law_take" 607 608 609 193 2 0 0 3 321 181 322 323 324 325 617 193 618),
 (327,kF "_law_take" "_law_take" (top 44) m7 (.ref 326)),
 (333,kC "_law_net" "_law_net" 620 621 622 212 2 0 0 3 328 181 329 330 331 332 630 212 631),
 (334,kF "_law_net" "_law_net" (top 45) m7 (.ref 333)),
 (338,kN "_law_mended" "_law_mended" 633 634 635 230 1 0 0 3 335 181 336 337 636 230 637),
 (339,kF "_law_mended" "_law_mended" (top 46) m7 (.ref 338)),
 (343,kN "_law_base" "_law_base" 639 640 641 245 2 0 0 3 340 181 341 342 642 245 643),
 (344,kF "_law_base" "_law_base" (top 47) m7 (.ref 343)),
 (350,kC "_law_names" "_law_names" 645 646 647 249 2 0 0 3 345 181 346 347 348 349 659 249 660),
 (351,kF "_law_names" "_law_names" (top 48) m7 (.ref 350)),
 (357,kC "_law_value" "_law_value" 662 663 664 264 1 0 0 3 352 181 353 354 355 356 666 264 667),
 (358,kF "_law_value" "_law_value" (top 49) m7 (.ref 357)),
 (364,kC "_law_operand" "_law_operand" 669 670 671 266 2 0 0 3 359 181 360 361 362 363 674 266 675),
 (365,kF "_law_operand" "_law_operand" (top 50) m7 (.ref 364)),
 (371,kC "_law_deed" "_law_deed" 677 678 679 270 2 0 0 3 366 181 367 368 369 370 683 270 684),
 (372,kF "_law_deed" "_law_deed" (top 51) m7 (.ref 371)),
 (378,kC "_law_row" "_law_row" 686 687 688 273 4 0 0 3 373 181 374 375 376 377 695 273 696),
 (379,kF "_law_row" "_law_row" (top 52) m7 (.ref 378)),
 (383,kN "_law_plan" "_law_plan" 698 699 700 285 1 0 0 3 380 181 381 382 701 285 702),
 (384,kF "_law_plan" "_law_plan" (top 53) m7 (.ref 383)),
 (388,kN "_law_lists" "_law_lists" 704 705 706 300 1 0 0 3 385 181 386 387 707 300 708),
 (389,kF "_law_lists" "_law_lists" (top 54) m7 (.ref 388)),
 (395,kC "_law_whole" "_law_whole" 710 711 712 302 1 0 0 3 390 181 391 392 393 394 714 302 715)]
def c4Q:List Addr:=[280,286,287,289,290,300,301,307,308,314,315,319,320,326,327,333,334,338,339,343,344,350,351,357,358,364,365,371,372,378,379,383,384,388,389,395]
def K4(Q:Params):Frag:=[
 (396,kF "_law_whole" "_law_whole" (top 55) m7 (.ref 395)),
 (402,kC "_law_does" "_law_does" 717 718 719 304 2 0 0 3 397 181 398 399 400 401 722 304 723),
 (403,kF "_law_does" "_law_does" (top 56) m7 (.ref 402)),
 (409,kC "_law_spoils" "_law_spoils" 725 726 727 306 2 0 0 3 404 181 405 406 407 408 730 306 731),
 (410,kF "_law_spoils" "_law_spoils" (top 57) m7 (.ref 409)),
 (416,kC "_law_leads" "_law_leads" 733 734 735 308 2 0 0 3 411 181 412 413 414 415 738 308 739),
 (417,kF "_law_leads" "_law_leads" (top 58) m7 (.ref 416)),
 (423,kC "_law_is_step" "_law_is_step" 741 742 743 312 2 0 0 3 418 181 419 420 421 422 746 312 747),
 (424,kF "_law_is_step" "_law_is_step" (top 59) m7 (.ref 423)),
 (430,kC "_law_places" "_law_places" 749 750 751 318 2 0 0 3 425 181 426 427 428 429 757 318 758),
 (431,kF "_law_places" "_law_places" (top 60) m7 (.ref 430)),
 (437,kC "_law_of" "_law_of" 760 761 762 327 2 0 0 3 432 181 433 434 435 436 765 327 766),
 (438,kF "_law_of" "_law_of" (top 61) m7 (.ref 437)),
 (444,kC "_law_worth" "_law_worth" 768 769 770 331 2 0 0 3 439 181 440 441 442 443 775 331 776),
 (445,kF "_law_worth" "_law_worth" (top 62) m7 (.ref 444)),
 (451,kC "_law_run" "_law_run" 778 779 780 343 5 0 0 3 446 181 447 448 449 450 794 343 795),
 (452,kF "_law_run" "_law_run" (top 63) m7 (.ref 451)),
 (456,kN "_law_start" "_law_start" 797 798 799 366 2 0 0 3 453 181 454 455 800 366 801),
 (457,kF "_law_start" "_law_start" (top 64) m7 (.ref 456)),
 (461,kN "_law_taken" "_law_taken" 803 804 805 374 1 0 0 3 458 181 459 460 806 374 807),
 (462,kF "_law_taken" "_law_taken" (top 65) m7 (.ref 461)),
 (468,kC "_law_prefix" "_law_prefix" 809 810 811 376 2 0 0 3 463 181 464 465 466 467 814 376 815),
 (469,kF "_law_prefix" "_law_prefix" (top 66) m7 (.ref 468)),
 (475,kC "_law_cut" "_law_cut" 817 818 819 378 7 0 0 3 470 181 471 472 473 474 834 378 835),
 (476,kF "_law_cut" "_law_cut" (top 67) m7 (.ref 475)),
 (482,kC "_law_filled" "_law_filled" 837 838 839 388 2 0 0 3 477 181 478 479 480 481 844 388 845),
 (483,kF "_law_filled" "_law_filled" (top 68) m7 (.ref 482)),
 (489,kC "_law_rounds" "_law_rounds" 847 848 849 393 1 0 0 3 484 181 485 486 487 488 861 393 862),
 (490,kF "_law_rounds" "_law_rounds" (top 69) m7 (.ref 489)),
 (494,kN "_law_chain" "_law_chain" 864 865 866 407 1 0 0 3 491 181 492 493 867 407 868),
 (495,kF "_law_chain" "_law_chain" (top 70) m7 (.ref 494)),
 (501,kC "law" "law" 870 871 872 416 1 0 0 3 496 181 497 498 499 500 890 416 891),
 (502,kF "law" "law" (top 71) m7 (.ref 501))]
def c4P:List Addr:=[396,402,403,409,410,416,417,423,424,430,431,437,438,444,445,451,452,456,457,461,462,468,469,475,476,482,483,489,490,494,495,501,502]
def K(Q:Params):Frag:=K1 Q++(K2 Q++(K3 Q++K4 Q))
def adr:List Addr:=c7Z++(c4R++(c4Q++c4P))
def q:F3:=view P [71]
def loose:List Str:=(["_wall","BOUND","LETTERS","FIGURES","LONGEST_NAME","DEED_KINDS","is_whole","is_value","is_name","is_operand","is_deed","is_row","worth_of","worth","set_by","OnceError","Wrong","NoThing","TooMany","NoWay","MOST","is_below","check_length","check_each","FIRST_STEP","are_nexts","check_nexts","stops_of","turned","reached","check_ways","steps_of","Plan","worth_set","step_behind","run","_law_bag","_law_take","_law_net","_law_mended","_law_base","_law_names","_law_value","_law_operand","_law_deed","_law_row","_law_plan","_law_lists","_law_whole","_law_does","_law_spoils","_law_leads","_law_is_step","_law_places","_law_of","_law_worth","_law_run","_law_start","_law_taken","_law_prefix","_law_cut","_law_filled","_law_rounds","_law_chain"]:List String).map Str.ofString
theorem c2a{p q:F3}{loose:List Str}{Xt:o0->Bool}{α:Type}{Yf:o0->α}{Ya:World->α}{N m₀:Nat}{ann:Option Value}(e:opening p=plainProg p.main.scope.names)(hN:Nat.ble 600 N=true)(f:∀s,fenceModules? p s=some s)
  (size:∀w:World,((boot_heap w.params).isNs C2,(boot_heap w.params).objs.size,(boot_heap w.params).nsMap C2 "__annotations__")=(true,m₀,ann))
  {r:World->OsState->Option o0} (hr:∀w os x,r w os=some x->topRun treeTable p w m₀ ann N ⟨boot_heap w.params,Array.mk [],boot_drawn,boot_toks,os⟩ (topStub p)=some x)
  (ra:∀w os,(r w os).map (fun s₁=>staticsOk (a2y p.main.body) (boot_heap w.params) s₁.heap&&namesBound p s₁.heap&&gensDone s₁&&laidKept (boot_heap w.params) s₁.heap)=some true)
  (rb:∀w os,(r w os).map (openSeen q loose (a2y p.main.body) Xt true)=some (openGood q loose))
  (rc:∀w os,(r w os).map Yf=some (Ya w)) :
  LeftO p q loose Xt Yf Ya N:=fun w=>by
 obtain⟨⟨h,gs,d,k,os⟩,e1,e2⟩:=O7.mp (boot_open e hN f w)
 obtain⟨rfl,rfl,rfl,rfl⟩:h=boot_heap w.params/\gs=Array.mk []/\d=boot_drawn/\k=boot_toks:=by simpa using e2
 obtain⟨z1,z2,z3⟩:_/\_/\_:=by simpa only[Prod.mk.injEq]using size w
 obtain⟨s₁,r1,r3⟩:=O7.mp (ra w os)
 have rb:=rb w os
 have rc:=rc w os
 rw[r1]at rb rc
 have r1:=hr w os _ r1
 have r4:(openSeen q loose (a2y p.main.body) Xt true s₁,Yf s₁)=(openGood q loose,Ya w):=Prod.ext (Option.some.inj rb) (Option.some.inj rc)
 have t:topFrom treeTable p w N ⟨boot_heap w.params,Array.mk [],boot_drawn,boot_toks,os⟩=some s₁:=by
  unfold topFrom
  dsimp only
  rw[z1,z2,z3,r1]
  show(match staticsOk (a2y p.main.body) (boot_heap w.params) s₁.heap&&namesBound p s₁.heap&&gensDone s₁&&laidKept (boot_heap w.params) s₁.heap with | true=>some s₁ | false=>none)=_
  rw[r3]
 unfold openEnds
 rw[e1]
 show(topFrom treeTable p w N _).map _=_
 rw[t]
 exact congrArg some r4
abbrev b1e:Hook:=kHook K adr (fun _=>by kernel_rfl)
abbrev row:OpenLaw:=PySem.Challenge.rw_oncedone_k32_runs_cut
def kZ(x q:Str)(st:Stmt):Obj:=⟨.none,none,.func { fnOf x q (a3f st) (a1B st) (l9 st) .none .none .none .none none .none .none with globals:=0 },#[]⟩
def kS(xs:List Value)(n:Nat):Obj:=⟨.type "tuple",none,.seq xs.toArray n,([]:List (Option Value)).toArray⟩
noncomputable section
def kk(a:Addr)(Q:Params):Obj:=((K Q).lookup a).getD (boot_o_4 Q)
def h1(Q:Params):List Obj:=[
boot_o_0 Q,
boot_o_1 Q,
boot_o_2 Q,
kD [kE Q "__name__" 165 (.str "oncedone.checks" 401),kE Q "__doc__" 166 .none,kE Q "__package__" 167 .none,kE Q "__loader__" 168 (.builtin "__main__.__loader__#opaque"),kE Q "__spec__" 169 .none,kE Q "__annotations__" 170 (.ref 6),kE Q "__builtins__" 171 (.ref 4),kE Q "__file__" 173 (.str "/claim/cut.py" 172),kE Q "__cached__" 174 .none,kE Q "_wall" 193 (.ref 21),kE Q "BOUND" 197 (.int (1000000000000) 196),kE Q "LETTERS" 199 (.str "abcdefghijklmnopqrstuvwxyz" 198),kE Q "FIGURES" 201 (.str "0123456789" 200),kE Q "LONGEST_NAME" 203 (.int (8) 202),kE Q "DEED_KINDS" 209 (.ref 22),kE Q "is_whole" 216 (.ref 29),kE Q "is_value" 223 (.ref 36),kE Q "is_name" 229 (.ref 41),kE Q "is_operand" 236 (.ref 48),kE Q "is_deed" 243 (.ref 55),kE Q "is_row" 252 (.ref 62),kE Q "worth_of" 262 (.ref 69),kE Q "worth" 273 (.ref 76),kE Q "set_by" 280 (.ref 83),kE Q "OnceError" 300 (.ref 93),kE Q "Wrong" 325 (.ref 113),kE Q "NoThing" 350 (.ref 132),kE Q "TooMany" 375 (.ref 151),kE Q "NoWay" 400 (.ref 170),kE Q "MOST" 404 (.int (400) 403)] 30,
boot_o_4 Q,
boot_o_5 Q,
boot_o_6 Q,
boot_o_7 Q,
boot_o_8 Q,
boot_o_9 Q,
boot_o_10 Q,
kS [] 0,
⟨.none,none,.fields ([(.int (1) 0),(.int (0) 0),(.ref 20),(.int (10) 0),(.int (0) 0),(.ref 28),(.int (12) 0),(.int (0) 0),(.ref 35),(.int (14) 0),(.int (0) 0),(.ref 40),(.int (18) 0),(.int (0) 0),(.ref 47),(.int (20) 0),(.int (0) 0),(.ref 54),(.int (24) 0),(.int (0) 0),(.ref 61),(.int (39) 0),(.int (0) 0),(.ref 68),(.int (43) 0),(.int (0) 0),(.ref 75),(.int (56) 0),(.int (0) 0),(.ref 82),(.int (59) 0),(.int (0) 0),(.ref 89),(.int (61) 0),(.int (0) 0),(.ref 102),(.int (65) 0),(.int (0) 0),(.ref 121),(.int (69) 0),(.int (0) 0),(.ref 140),(.int (73) 0),(.int (0) 0),(.ref 159)]:List Value).toArray,([]:List (Option Value)).toArray⟩,
⟨(.type "code"),none,.fields ([(.str "<module>" 182),(.str "<module>" 183),(.str "/claim/cut.py" 184),(.int (1) 0),(.int (0) 0),(.int (0) 0),(.int (0) 0),(.int (0) 0),(.ref 11),(.bool false),(.int (181) 0),(.ref 12),.none,.none,.none,.none,(.int (185) 0),(.int (1) 0),(.str "/claim/cut.py" 186)]:List Value).toArray,([]:List (Option Value)).toArray⟩,
⟨(.type "frame"),none,.plain,([some (.ref 13),some (.ref 3),some (.ref 3),none,some (.str "__main__" 164),none,some (.ref 0)]:List (Option Value)).toArray⟩,
kS [] 0,
⟨.none,none,.fields ([]:List Value).toArray,([]:List (Option Value)).toArray⟩,
kS [(.str "k" 190)] 0,
kS [] 0,
kZ "_wall" "_wall" (top 0),
kk 20 Q,
kk 21 Q,
kk 22 Q,
kS [] 0,
⟨.none,none,.fields ([]:List Value).toArray,([]:List (Option Value)).toArray⟩,
kS [(.str "thing" 213)] 0,
kS [] 0,
kZ "is_whole" "is_whole" (top 7),
kk 28 Q,
kk 29 Q,
kS [] 0,
⟨.none,none,.fields ([]:List Value).toArray,([]:List (Option Value)).toArray⟩,
kS [(.str "thing" 220)] 0,
kS [] 0,
kZ "is_value" "is_value" (top 8),
kk 35 Q,
kk 36 Q,
kS [] 0,
⟨.none,none,.fields ([]:List Value).toArray,([]:List (Option Value)).toArray⟩,
kZ "is_name" "is_name" (top 9),
kk 40 Q,
kk 41 Q,
kS [] 0,
⟨.none,none,.fields ([]:List Value).toArray,([]:List (Option Value)).toArray⟩,
kS [(.str "thing" 233)] 0,
kS [] 0,
kZ "is_operand" "is_operand" (top 10),
kk 47 Q,
kk 48 Q,
kS [] 0,
⟨.none,none,.fields ([]:List Value).toArray,([]:List (Option Value)).toArray⟩,
kS [(.str "thing" 240)] 0,
kS [] 0,
kZ "is_deed" "is_deed" (top 11),
kk 54 Q,
kk 55 Q,
kS [] 0,
⟨.none,none,.fields ([]:List Value).toArray,([]:List (Option Value)).toArray⟩,
kS [(.str "thing" 247),(.str "kind" 248),(.str "rest" 249)] 0,
kS [] 0,
kZ "is_row" "is_row" (top 12),
kk 61 Q,
kk 62 Q,
kS [] 0,
⟨.none,none,.fields ([]:List Value).toArray,([]:List (Option Value)).toArray⟩,
kS [(.str "operand" 258),(.str "store" 259)] 0,
kS [] 0,
kZ "worth_of" "worth_of" (top 14),
kk 68 Q,
kk 69 Q,
kS [] 0,
⟨.none,none,.fields ([]:List Value).toArray,([]:List (Option Value)).toArray⟩,
kS [(.str "deed" 266),(.str "store" 267),(.str "kind" 268),(.str "one" 269),(.str "other" 270)] 0,
kS [] 0,
kZ "worth" "worth" (top 15),
kk 75 Q,
kk 76 Q,
kS [] 0,
⟨.none,none,.fields ([]:List Value).toArray,([]:List (Option Value)).toArray⟩,
kS [(.str "row" 277)] 0,
kS [] 0,
kZ "set_by" "set_by" (top 16),
kk 82 Q,
kk 83 Q,
kS [(.type "ValueError")] 0,
⟨(.type "builtin_function_or_method"),none,.fields ([(.builtin "type.__prepare__"),(.type "type")]:List Value).toArray,([]:List (Option Value)).toArray⟩,
kD [kE Q "__module__" 290 (.str "oncedone.errors" 281),kE Q "__qualname__" 292 (.str "OnceError" 291),kE Q "__firstlineno__" 294 (.int (59) 293),kE Q "__static_attributes__" 295 (.ref 91)] 4,
kS [] 0,
⟨.none,none,.fields ([]:List Value).toArray,([]:List (Option Value)).toArray⟩,
⟨(.type "code"),none,.fields ([(.str "OnceError" 285),(.str "OnceError" 286),(.str "/claim/cut.py" 287),(.int (59) 0),(.int (0) 0),(.int (0) 0),(.int (0) 0),(.int (0) 0),(.ref 87),(.bool false),(.int (181) 0),(.ref 88),.none,.none,.none,.none,(.int (288) 0),(.int (59) 0),(.str "/claim/cut.py" 289)]:List Value).toArray,([]:List (Option Value)).toArray⟩,
⟨(.type "frame"),none,.plain,([some (.ref 89),some (.ref 3),some (.ref 86),none,some (.str "oncedone.errors" 281),none,some (.ref 0)]:List (Option Value)).toArray⟩,
kS [] 0,
kk 92 Q,
kk 93 Q,
⟨(.type "getset_descriptor"),none,.fields ([(.str "__weakref__" 296),(.ref 93),(.builtin "ExceptionGroup.__weakref__"),.none]:List Value).toArray,([]:List (Option Value)).toArray⟩,
⟨(.type "super"),none,.fields ([(.ref 93),(.ref 93),(.ref 93)]:List Value).toArray,([]:List (Option Value)).toArray⟩,
⟨(.type "builtin_function_or_method"),none,.fields ([(.builtin "object.__init_subclass__"),(.ref 93)]:List Value).toArray,([]:List (Option Value)).toArray⟩,
kS [(.ref 93)] 0,
⟨(.type "builtin_function_or_method"),none,.fields ([(.builtin "type.__prepare__"),(.type "type")]:List Value).toArray,([]:List (Option Value)).toArray⟩,
kD [kE Q "__module__" 308 (.str "oncedone.errors" 281),kE Q "__qualname__" 310 (.str "Wrong" 309),kE Q "__firstlineno__" 312 (.int (61) 311),kE Q "__init__" 320 (.ref 110),kE Q "__static_attributes__" 322 (.ref 111)] 5,
kS [] 0,
⟨.none,none,.fields ([(.int (63) 0),(.int (4) 0),(.ref 109)]:List Value).toArray,([]:List (Option Value)).toArray⟩,
⟨(.type "code"),none,.fields ([(.str "Wrong" 303),(.str "Wrong" 304),(.str "/claim/cut.py" 305),(.int (61) 0),(.int (0) 0),(.int (0) 0),(.int (0) 0),(.int (0) 0),(.ref 100),(.bool false),(.int (181) 0),(.ref 101),.none,.none,.none,.none,(.int (306) 0),(.int (61) 0),(.str "/claim/cut.py" 307)]:List Value).toArray,([]:List (Option Value)).toArray⟩,
⟨(.type "frame"),none,.plain,([some (.ref 102),some (.ref 3),some (.ref 99),none,some (.str "oncedone.errors" 281),none,some (.ref 0)]:List (Option Value)).toArray⟩,
kS [] 0,
⟨.none,none,.fields ([]:List Value).toArray,([]:List (Option Value)).toArray⟩,
kS [(.str "self" 316),(.str "at" 317)] 0,
kS [] 0,
kZ "__init__" "Wrong.__init__" (Y4 (top 19) 0),
kk 109 Q,
kk 110 Q,
kS [(.str "at" 321)] 0,
kk 112 Q,
kk 113 Q,
⟨(.type "super"),none,.fields ([(.ref 113),(.ref 113),(.ref 113)]:List Value).toArray,([]:List (Option Value)).toArray⟩,
⟨(.type "builtin_function_or_method"),none,.fields ([(.builtin "object.__init_subclass__"),(.ref 113)]:List Value).toArray,([]:List (Option Value)).toArray⟩,
kS [(.ref 93)] 0,
⟨(.type "builtin_function_or_method"),none,.fields ([(.builtin "type.__prepare__"),(.type "type")]:List Value).toArray,([]:List (Option Value)).toArray⟩,
kD [kE Q "__module__" 333 (.str "oncedone.errors" 281),kE Q "__qualname__" 335 (.str "NoThing" 334),kE Q "__firstlineno__" 337 (.int (65) 336),kE Q "__init__" 345 (.ref 129),kE Q "__static_attributes__" 347 (.ref 130)] 5,
kS [] 0,
⟨.none,none,.fields ([(.int (67) 0),(.int (4) 0),(.ref 128)]:List Value).toArray,([]:List (Option Value)).toArray⟩,
⟨(.type "code"),none,.fields ([(.str "NoThing" 328),(.str "NoThing" 329),(.str "/claim/cut.py" 330),(.int (65) 0),(.int (0) 0),(.int (0) 0),(.int (0) 0),(.int (0) 0),(.ref 119),(.bool false),(.int (181) 0),(.ref 120),.none,.none,.none,.none,(.int (331) 0),(.int (65) 0),(.str "/claim/cut.py" 332)]:List Value).toArray,([]:List (Option Value)).toArray⟩,
⟨(.type "frame"),none,.plain,([some (.ref 121),some (.ref 3),some (.ref 118),none,some (.str "oncedone.errors" 281),none,some (.ref 0)]:List (Option Value)).toArray⟩,
kS [] 0,
⟨.none,none,.fields ([]:List Value).toArray,([]:List (Option Value)).toArray⟩,
kS [(.str "self" 341),(.str "at" 342)] 0,
kS [] 0,
kZ "__init__" "NoThing.__init__" (Y4 (top 20) 0),
kk 128 Q,
kk 129 Q,
kS [(.str "at" 346)] 0,
kk 131 Q,
kk 132 Q,
⟨(.type "super"),none,.fields ([(.ref 132),(.ref 132),(.ref 132)]:List Value).toArray,([]:List (Option Value)).toArray⟩,
⟨(.type "builtin_function_or_method"),none,.fields ([(.builtin "object.__init_subclass__"),(.ref 132)]:List Value).toArray,([]:List (Option Value)).toArray⟩,
kS [(.ref 93)] 0,
⟨(.type "builtin_function_or_method"),none,.fields ([(.builtin "type.__prepare__"),(.type "type")]:List Value).toArray,([]:List (Option Value)).toArray⟩,
kD [kE Q "__module__" 358 (.str "oncedone.errors" 281),kE Q "__qualname__" 360 (.str "TooMany" 359),kE Q "__firstlineno__" 362 (.int (69) 361),kE Q "__init__" 370 (.ref 148),kE Q "__static_attributes__" 372 (.ref 149)] 5,
kS [] 0,
⟨.none,none,.fields ([(.int (71) 0),(.int (4) 0),(.ref 147)]:List Value).toArray,([]:List (Option Value)).toArray⟩,
⟨(.type "code"),none,.fields ([(.str "TooMany" 353),(.str "TooMany" 354),(.str "/claim/cut.py" 355),(.int (69) 0),(.int (0) 0),(.int (0) 0),(.int (0) 0),(.int (0) 0),(.ref 138),(.bool false),(.int (181) 0),(.ref 139),.none,.none,.none,.none,(.int (356) 0),(.int (69) 0),(.str "/claim/cut.py" 357)]:List Value).toArray,([]:List (Option Value)).toArray⟩,
⟨(.type "frame"),none,.plain,([some (.ref 140),some (.ref 3),some (.ref 137),none,some (.str "oncedone.errors" 281),none,some (.ref 0)]:List (Option Value)).toArray⟩,
kS [] 0,
⟨.none,none,.fields ([]:List Value).toArray,([]:List (Option Value)).toArray⟩,
kS [(.str "self" 366),(.str "most" 367)] 0,
kS [] 0,
kZ "__init__" "TooMany.__init__" (Y4 (top 21) 0),
kk 147 Q,
kk 148 Q,
kS [(.str "most" 371)] 0,
kk 150 Q,
kk 151 Q,
⟨(.type "super"),none,.fields ([(.ref 151),(.ref 151),(.ref 151)]:List Value).toArray,([]:List (Option Value)).toArray⟩,
⟨(.type "builtin_function_or_method"),none,.fields ([(.builtin "object.__init_subclass__"),(.ref 151)]:List Value).toArray,([]:List (Option Value)).toArray⟩,
kS [(.ref 93)] 0,
⟨(.type "builtin_function_or_method"),none,.fields ([(.builtin "type.__prepare__"),(.type "type")]:List Value).toArray,([]:List (Option Value)).toArray⟩,
kD [kE Q "__module__" 383 (.str "oncedone.errors" 281),kE Q "__qualname__" 385 (.str "NoWay" 384),kE Q "__firstlineno__" 387 (.int (73) 386),kE Q "__init__" 395 (.ref 167),kE Q "__static_attributes__" 397 (.ref 168)] 5,
kS [] 0,
⟨.none,none,.fields ([(.int (75) 0),(.int (4) 0),(.ref 166)]:List Value).toArray,([]:List (Option Value)).toArray⟩,
⟨(.type "code"),none,.fields ([(.str "NoWay" 378),(.str "NoWay" 379),(.str "/claim/cut.py" 380),(.int (73) 0),(.int (0) 0),(.int (0) 0),(.int (0) 0),(.int (0) 0),(.ref 157),(.bool false),(.int (181) 0),(.ref 158),.none,.none,.none,.none,(.int (381) 0),(.int (73) 0),(.str "/claim/cut.py" 382)]:List Value).toArray,([]:List (Option Value)).toArray⟩,
⟨(.type "frame"),none,.plain,([some (.ref 159),some (.ref 3),some (.ref 156),none,some (.str "oncedone.errors" 281),none,some (.ref 0)]:List (Option Value)).toArray⟩,
kS [] 0,
⟨.none,none,.fields ([]:List Value).toArray,([]:List (Option Value)).toArray⟩,
kS [(.str "self" 391),(.str "at" 392)] 0,
kS [] 0,
kZ "__init__" "NoWay.__init__" (Y4 (top 22) 0),
kk 166 Q,
kk 167 Q,
kS [(.str "at" 396)] 0,
kk 169 Q,
kk 170 Q,
⟨(.type "super"),none,.fields ([(.ref 170),(.ref 170),(.ref 170)]:List Value).toArray,([]:List (Option Value)).toArray⟩,
⟨(.type "builtin_function_or_method"),none,.fields ([(.builtin "object.__init_subclass__"),(.ref 170)]:List Value).toArray,([]:List (Option Value)).toArray⟩]
abbrev bd:List Stmt:=behindTheImports P
abbrev en:Env:={ scope:=P.main.scope,locals:=mainNs,globals:=mainNs,cells:=[],code:=(.ref 13),frame:=some 14 }
abbrev cE:Code:=.body bd en
abbrev fB:List Frame:=[topFrame ⟨0,0,0,0⟩]
abbrev s0(w:World)(os:OsState):o0:=⟨boot_heap w.params,Array.mk [],boot_drawn,boot_toks,os⟩
def sa(w:World)(os:OsState):o0:=((topGo treeTable P w 11 (some (.ref 6)) 12 (s0 w os) (topStub P)).map (·.1)).getD (s0 w os)
abbrev s1(w:World)(os:OsState):o0:=⟨⟨Array.mk (h1 w.params),(boot_heap w.params).life⟩,Array.mk [],boot_drawn,405,os⟩
abbrev rn(w:World)(os:OsState):Option o0:=PySem.W.Fast.tw14082659384304107361 PySem.W.Fast.tw14364793385576792824 P w 11 (some (.ref 6)) 5778 (s1 w os) (restOf (bd.drop 25) en cE ⟨78,0,78,4⟩ fB)
end
theorem c9Y(w:World)(os:OsState):topGo treeTable P w 11 (some (.ref 6)) 12 (s0 w os) (topStub P)=some (sa w os,⟨denote treeTable cE,cE,⟨0,0,0,0⟩,fB⟩):=by kernel_rfl
theorem c9X(w:World)(os:OsState):segRun treeTable P w 11 (some (.ref 6)) 1 1 (sa w os) (blockOf bd en cE ⟨0,0,0,0⟩ fB)=some (.next,sa w os,cE,⟨0,0,0,0⟩):=by kernel_rfl
theorem c9W(w:World)(os:OsState):segRun treeTable P w 11 (some (.ref 6)) 1 1557 (sa w os) (piecesOf (bd.take 25) en cE ⟨0,0,0,0⟩ fB)=some (.next,s1 w os,cE,⟨78,0,78,4⟩):=by kernel_rfl
theorem c9V(w:World)(os:OsState)(x:o0)(h:rn w os=some x):topRun treeTable P w 11 (some (.ref 6)) 7348 (s0 w os) (topStub P)=some x:=by
 have h:topRun treeTable P w 11 (some (.ref 6)) 5778 (s1 w os) (restOf (bd.drop 25) en cE ⟨78,0,78,4⟩ fB)=some x:=by rw[PySem.W.Fast.te14082659384304107361,PySem.W.Fast.te14364793385576792824];exact h
 have h:=piece_app (c9W w os) h
 rw[List.take_append_drop]at h
 exact go_top (c9Y w os) (piece_block (c9X w os) h)
theorem c7y(w:World)(os:OsState):(rn w os).map (fun s₁=>staticsOk (a2y P.main.body) (boot_heap w.params) s₁.heap&&namesBound P s₁.heap&&gensDone s₁&&laidKept (boot_heap w.params) s₁.heap)=some true:=by kernel_rfl
theorem c7x(w:World)(os:OsState):(rn w os).map (PySem.W.Fast.tw4187177175401517315 q loose (a2y P.main.body) (fun s=>xlAt q [] s&&recOk (RowW.records row.row.toRowW) s) true)=some (openGood q loose):=by kernel_rfl
theorem c4t(w:World)(os:OsState):(rn w os).map (fun s=>c7Z.map s.heap.get?)=some ((K1 w.params).map fun p=>some p.2):=by kernel_rfl
theorem c4s(w:World)(os:OsState):(rn w os).map (fun s=>c4R.map s.heap.get?)=some ((K2 w.params).map fun p=>some p.2):=by kernel_rfl
theorem c4r(w:World)(os:OsState):(rn w os).map (fun s=>c4Q.map s.heap.get?)=some ((K3 w.params).map fun p=>some p.2):=by kernel_rfl
theorem c4q(w:World)(os:OsState):(rn w os).map (fun s=>c4P.map s.heap.get?)=some ((K4 w.params).map fun p=>some p.2):=by kernel_rfl
theorem c7w(w:World)(os:OsState):(rn w os).map (Hook.obs b1e)=some (Hook.val b1e w):=by
 obtain⟨s,h1,h2⟩:=O7.mp (c4t w os)
 have h3:=c4s w os
 have h4:=c4r w os
 have h5:=c4q w os
 rw[h1]at h3 h4 h5 ⊢
 have h3:c4R.map s.heap.get? = _:=Option.some.inj h3
 have h4:c4Q.map s.heap.get? = _:=Option.some.inj h4
 have h5:c4P.map s.heap.get? = _:=Option.some.inj h5
 show some ((c7Z++(c4R++(c4Q++c4P))).map s.heap.get?)=some ((K1 w.params++(K2 w.params++(K3 w.params++K4 w.params))).map fun p=>some p.2)
 rw[D7,D7,D7,D7,D7,D7,h2,h3,h4,h5]
theorem left:LeftO P q loose (fun s=>xlAt q [] s&&recOk (RowW.records row.row.toRowW) s) (Hook.obs b1e) (Hook.val b1e) 7348:=
 c2a (m₀:=11) (ann:=(some (.ref 6))) (r:=rn) (by kernel_rfl) (by kernel_rfl) (fun s=>by kernel_rfl) (fun w=>by kernel_rfl) c9V c7y (by rw[PySem.W.Fast.te4187177175401517315];exact c7x) c7w
theorem c8z:row.wellSaid=true:=by
 rw[PySem.W.Fast.te9446332074065402090]
 kernel_rfl
theorem fin(hc:∀d:DefRec,d.name = "law" -> d.params.defaults=[]->WalkO q loose (XL q []) (Hook.says b1e) row.row.toRowW d [] (fun f vs=>b3G f vs)):row.Holds:=by
 refine holds_law (l:=row) c8z fun said=>?_
 refine holds_open (q:=q) (loose:=loose) (Xt:=fun s=>xlAt q [] s&&recOk (RowW.records row.row.toRowW) s) (XP:=XL q []) (Yf:=Hook.obs b1e) (Ya:=Hook.val b1e) (YP:=Hook.says b1e) (N:=7348) left (Hook.of b1e) (Hook.keeps b1e) (fun s e=>xl_of s (b9Q.mp e).1) XL.keeps (by rfl) (by rfl) (by rfl) (fun s e=>recFacts_of (b9Q.mp e).2) (by rfl) said (by decide +kernel) ⟨rfl,rfl,rfl,rfl,rfl,by decide +kernel⟩ ?hw (hc _ rfl rfl)
 case hw=>w_witness2
end HD
set_option Elab.async false
set_option linter.all false
set_option maxRecDepth 100000
namespace L2
open PySem PySem.Spec PyProof.Rows
variable{us:List Value}{i t':Nat}{u:Value}{C a b dx f:Addr}{w:World}{h h':Heap}{pins:List (Addr×Obj)}{s:o0}{c e tg:Expr}{p pos:Pos}{Q:Value->o0->Prop}{es:List Expr}{ps:List Str}{m:Str->Option Value}
abbrev Key:=Sum Int Str
def b0o:Key->Value->Bool
 | .inl k,v=>Value.isInt k v
 | .inr x,v=>Value.isStrOf x v
def c9T(w:World):Key->Int
 | .inl k=>hashInt k
 | .inr x=>hashStr w x
theorem W1:∀ {k:Key} {v:Value},b0o k v=true->(∃i t,k=Sum.inl i/\v=Value.int i t)\/(∃x t,k=Sum.inr x/\v=Value.str x t)
 | .inl i,v,h=>by
  obtain⟨t,e⟩:=Value.isInt_shape (k:=i) (v:=v) h
  exact .inl ⟨i,t,rfl,e⟩
 | .inr x,v,h=>by
  obtain⟨t,e⟩:=Value.isStrOf_shape (x:=x) (v:=v) h
  exact .inr ⟨x,t,rfl,e⟩
theorem b9b(i:Int)(t:Tok):b0o (.inl i) (.int i t)=true:=by simp[b0o,Value.isInt]
theorem b9a(x:Str)(t:Tok):b0o (.inr x) (.str x t)=true:=by simp[b0o,Value.isStrOf]
theorem c7E(a b:Int):decide ((Sum.inl a:Key)=Sum.inl b)=(a == b):=by
 by_cases e:a=b
 ·subst e;simp
 ·have h:¬(Sum.inl a:Key)=Sum.inl b:=fun q=>e (Sum.inl.inj q)
  rw[d1C h]
  exact(beq_eq_false_iff_ne.mpr e).symm
theorem c7B(a b:Str):decide ((Sum.inr a:Key)=Sum.inr b)=decide (a=b):=by
 by_cases e:a=b
 ·subst e;simp
 ·have h:¬(Sum.inr a:Key)=Sum.inr b:=fun q=>e (Sum.inr.inj q)
  rw[d1C h,d1C e]
theorem c7D(a:Int)(b:Str):decide ((Sum.inl a:Key)=Sum.inr b)=false:=d1C (fun q=>nomatch q)
theorem c7C(a:Str)(b:Int):decide ((Sum.inr a:Key)=Sum.inl b)=false:=d1C (fun q=>nomatch q)
def V8(prog:F3)(w:World):PySem.KeyKind prog w Key where
 is:=b0o
 hash:=c9T w
 inj:=fun v a b ha hb=>by
  rcases W1 ha with ⟨i,t,rfl,rfl⟩ | ⟨x,t,rfl,rfl⟩
  ·rcases W1 hb with ⟨j,u,rfl,e⟩ | ⟨y,u,rfl,e⟩
   ·injection e with e1 _;rw[e1]
   ·exact nomatch e
  ·rcases W1 hb with ⟨j,u,rfl,e⟩ | ⟨y,u,rfl,e⟩
   ·exact nomatch e
   ·injection e with e1 _;rw[e1]
 byValue:=fun k v h=>by
  rcases W1 h with ⟨i,t,rfl,rfl⟩ | ⟨x,t,rfl,rfl⟩ <;> rfl
 pyHash:=fun hv h=>by
  rcases W1 hv with ⟨i,t,rfl,rfl⟩ | ⟨x,t,rfl,rfl⟩
  ·exact wpAny_pyHash_int h
  ·exact wpAny_pyHash_str h
 eqBool:=fun hu hv h=>by
  rcases W1 hu with ⟨i,t,rfl,rfl⟩ | ⟨x,t,rfl,rfl⟩
  ·rcases W1 hv with ⟨j,u,rfl,rfl⟩ | ⟨y,u,rfl,rfl⟩
   ·rw[c7E]at h;exact wpAny_eqBool_int h
   ·rw[c7D]at h;exact SeqAt.EqAt.int_str i t y u _ _ _ _ h
  ·rcases W1 hv with ⟨j,u,rfl,rfl⟩ | ⟨y,u,rfl,rfl⟩
   ·rw[c7C]at h;exact SeqAt.EqAt.str_int x t j u _ _ _ _ h
   ·rw[c7B]at h;exact wpAny_eqBool_str h
 «strs» := fun k x t v h=>by
  rcases W1 h with ⟨i,u,rfl,e⟩ | ⟨y,u,rfl,e⟩
  ·exact nomatch e
  ·injection e with e1 _
   subst e1
   cases v <;> rfl
theorem b4O(prog:F3)(w:World)(i:Int)(t:Tok):(V8 prog w).is (.inl i) (.int i t)=true:=b9b i t
theorem b4N(prog:F3)(w:World)(x:Str)(t:Tok):(V8 prog w).is (.inr x) (.str x t)=true:=b9a x t
inductive V where
 | non | bl (b:Bool) | int (i:Int) | str (x:Str) | byt (b:Array UInt8) | flt (b:UInt64) | ref (a:Addr) | ty (n:String)
 deriving DecidableEq
variable{v y:V}{xs:List V}{kvs:List (Key×V)}
def J1:V->Value->Prop
 | .non,u=>u=Value.none
 | .bl b,u=>u=Value.bool b
 | .int i,u=>∃t,u=Value.int i t
 | .str x,u=>∃t,u=Value.str x t
 | .byt b,u=>∃t,u=Value.bytes b t
 | .flt b,u=>∃t,u=Value.float b t
 | .ref a,u=>u=Value.ref a
 | .ty n,u=>u=Value.type n
abbrev J3:List V->List Value->Prop:=Paired J1
theorem J3.length(r:J3 xs us):xs.length=us.length:=Paired.length r
theorem J3.get:∀ {xs:List V} {us:List Value} {i:Nat} {x:V},J3 xs us->xs[i]? = some x->∃u,us[i]? = some u/\J1 x u
 | _,_,_,_,.nil,e=>by simp at e
 | _,_,0,_,.cons r _,e=>by simp at e;subst e;exact⟨_,rfl,r⟩
 | _,_,i+1,x,.cons _ t,e=>by
  obtain⟨u,h1,h2⟩:=J3.get (i:=i) (x:=x) t (by simpa using e)
  exact⟨u,by simpa using h1,h2⟩
theorem J3.set{x:V}(r:J1 x u):∀ {xs:List V} {us:List Value} (i:Nat),J3 xs us->J3 (xs.set i x) (us.set i u)
 | _,_,_,.nil=>.nil
 | _,_,0,.cons _ t=>.cons r t
 | _,_,i+1,.cons q t=>.cons q (J3.set r i t)
theorem J3.append:∀ {xs ys:List V} {us ws:List Value},J3 xs us->J3 ys ws->J3 (xs++ys) (us++ws)
 | _,_,_,_,.nil,s=>s
 | _,_,_,_,.cons r t,s=>.cons r (J3.append t s)
theorem J3.take:∀ {xs:List V} {us:List Value} (n:Nat),J3 xs us->J3 (xs.take n) (us.take n)
 | _,_,0,_=>.nil
 | _,_,_+1,.nil=>.nil
 | _,_,n+1,.cons r t=>.cons r (J3.take n t)
theorem J3.drop:∀ {xs:List V} {us:List Value} (n:Nat),J3 xs us->J3 (xs.drop n) (us.drop n)
 | _,_,0,r=>r
 | _,_,_+1,.nil=>.nil
 | _,_,n+1,.cons _ t=>J3.drop n t
def a5K:Option V->Option Value->Prop
 | some v,some u=>J1 v u
 | none,none=>True
 | _,_=>False
def KV{κ:Type}:List (κ×V)->List (κ×Value)->Prop:=Paired fun(p:κ×V) (q:κ×Value)=>p.1=q.1/\J1 p.2 q.2
def kV:Key->V
 | .inl i=>.int i
 | .inr x=>.str x
inductive HO where
 /-- a list -/
 | lst (xs:List V)
 /-- a tuple (never changes) -/
 | tup (xs:List V)
 /-- a dict whose keys are ints and texts;one whose keys are tuples of ints and texts (the empty one is both) -/
 | dK (kvs:List (Key×V)) | dT (kvs:List (List Key×V))
 /-- a set of ints: its members,its size -/
 | set (S:Int->Bool) (n:Nat)
 /-- an instance of the class at C,its dict at dx,its attributes -/
 | ins (C dx:Addr) (fs:List (Str×V))
 /-- the dict of the instance at x -/
 | own (x:Addr)
 /-- the dict of an exception -/
 | xd (fs:List (Str×V))
 /-- a bound method,f of x -/
 | met (f x:Addr)
 /-- a range object lo,lo+1,.. below hi -/
 | rng (lo hi:Int)
 /-- a thing that is known to the object (the script;a dict while a loop walks it): read,never written while it is so -/
 | frz (o:Obj) (u:HO)
 /-- a code object's table -/
 | tbl (ps:Array Value)
 /-- any other thing,by what is true of its one object (a def of one's own: SetO a S n:=HO.ext fun h=>..) -/
 | ext (φ:Heap->Prop)
variable{o:HO}
abbrev Hp:=Addr->Option HO
variable{H H':Hp}
def upd(H:Hp)(a:Addr)(o:HO):Hp:=fun b=>if b=a then some o else H b
theorem g7:upd H a o a=some o:=by unfold upd;rw[if_pos rfl]
theorem o4(h:b≠a):upd H a o b=H b:=by unfold upd;rw[if_neg h]
theorem a6F{u:HO}:upd (upd H a o) a u=upd H a u:=by
 funext b;unfold upd;split <;> rfl
theorem M3{u:HO}(h:H a=some o)(h':H b=some u)(d:o≠u):a≠b:=by
 intro e;subst e;rw[h]at h';exact d (Option.some.inj h')
theorem d9(h:H a=some o)(h':H b=none):a≠b:=by
 intro e;subst e;rw[h]at h';cases h'
section
variable (P:F3)(w:World)
def a0f(H:Hp)(h:Heap)(a:Addr):HO->Prop
 | .lst xs=>xs.length<=v6/\∃(its:List Value) (n:Nat),J3 xs its/\h.get? a=some { cls:=.type "list",data:=.seq its.toArray n }
 | .tup xs=>xs.length<=v6/\∃its:List Value,J3 xs its/\IsTup h a its.toArray
 | .dK kvs=>kvs.length<=v6/\(a == a1K)=false/\∃vs,KV kvs vs/\h.DictOf (V8 P w) a vs
 | .dT kvs=>kvs.length<=v6/\(a == a1K)=false/\∃xs:List (List Key×Addr×Value),
   Paired (fun(p:List Key×V) (q:List Key×Addr×Value)=>p.1=q.1/\H q.2.1=some (.tup (p.1.map kV))/\J1 p.2 q.2.2) kvs xs /\
   ∃o es ep,h.get? a=some o/\o.ExactDict/\o.data=.dict es ep/\es.toList=xs.map (entryOfKey (b3R (V8 P w)))/\(xs.map (·.1)).Nodup
 | .set S n=>h.SetOf (intKind P w) a S n
 | .ins C dx fs=>H dx=some (.own a)/\fs.length<=1000/\dx≠a/\h.get? a=some (Y6 C dx) /\
   ∃mA,h.Ns1 dx mA/\(∀f,a5K (fs.lookup f) (mA f))/\PySem.Within mA (fs.map (·.1))
 | .own _=>∃o,h.get? a=some o
 | .xd fs=>∃mA,h.Ns1 a mA/\∀f,a5K (fs.lookup f) (mA f)
 | .rng lo hi=>∃t u v,h.get? a=some { cls:=.type "range",data:=.fields #[.int lo t,.int hi u,.int 1 v] }
 | .frz o u=>h.get? a=some o/\a0f H h a u
 | .tbl ps=>h.get? a=some { cls:=.none,data:=.fields ps }
 | .met f x=>h.get? a=some (a8h (.ref f) (.ref x))
 | .ext φ=>φ h/\(∃o,h.get? a=some o)/\∀h1 h2:Heap,φ h1->(∀o,h1.get? a=some o->h2.get? a=some o)->φ h2
def HOk(H:Hp)(h:Heap):Prop:=∀a o,H a=some o->a0f P w H h a o
end
section
variable {P:F3}
theorem a0f.lt(x:a0f P w H h a o):a<h.objs.size:=by
 cases o with
 | lst xs=>obtain⟨_,_,_,_,e⟩:=x;exact o9 e
 | tup xs=>obtain⟨_,_,_,p⟩:=x;exact p.lt
 | dK kvs=>obtain⟨_,_,_,_,o,_,_,e,_⟩:=x;exact o9 e
 | dT kvs=>obtain⟨_,_,_,_,o,_,_,e,_⟩:=x;exact o9 e
 | set S n=>obtain⟨o,_,_,_,e,_⟩:=x;exact o9 e
 | ins C dx fs=>obtain⟨_,_,_,e,_⟩:=x;exact o9 e
 | own y=>obtain⟨_,e⟩:=x;exact o9 e
 | xd fs=>obtain⟨_,⟨_,_,_,e,_⟩,_⟩:=x;exact o9 e
 | rng lo hi=>obtain⟨_,_,_,e⟩:=x;exact o9 e
 | frz ob u=>obtain⟨e,_⟩:=x;exact o9 e
 | tbl ps=>exact o9 (show h.get? a=some _ from x)
 | met f y=>exact o9 (show h.get? a=some _ from x)
 | ext φ=>obtain⟨_,⟨_,e⟩,_⟩:=x;exact o9 e
theorem Paired.mapP{α β:Type}{F G:α->β->Prop}:∀ {l₁:List α} {l₂:List β},Paired F l₁ l₂->(∀a b,F a b->G a b)->Paired G l₁ l₂
 | _,_,.nil,_=>.nil
 | _,_,.cons r t,f=>.cons (f _ _ r) (Paired.mapP t f)
theorem a0f.stay(x:a0f P w H h a o)(k:∀b u,(b=a\/H b=some (.own a))->h.get? b=some u->h'.get? b=some u)
  (ho:∀b,H b=some (.own a)->H' b=some (.own a)) (ht:∀b xs,H b=some (.tup xs)->H' b=some (.tup xs)):a0f P w H' h' a o:=by
 induction o with
 | lst xs=>obtain⟨z,its,n,r,e⟩:=x;exact⟨z,its,n,r,k _ _ (.inl rfl) e⟩
 | tup xs=>obtain⟨z,its,r,ob,e,c⟩:=x;exact⟨z,its,r,ob,k _ _ (.inl rfl) e,c⟩
 | dK kvs=>obtain⟨z,y,vs,r,ob,es,ep,e,c⟩:=x;exact⟨z,y,vs,r,ob,es,ep,k _ _ (.inl rfl) e,c⟩
 | dT kvs=>
  obtain⟨z,y,xs,r,ob,es,ep,e,c⟩:=x
  exact⟨z,y,xs,Paired.mapP r fun p q z=>⟨z.1,ht _ _ z.2.1,z.2.2⟩,ob,es,ep,k _ _ (.inl rfl) e,c⟩
 | set S n=>obtain⟨ob,es,ep,t,e,c⟩:=x;exact⟨ob,es,ep,t,k _ _ (.inl rfl) e,c⟩
 | ins C dx fs=>
  obtain⟨d,z,ne,e,mA,⟨od,es,ep,e2,c⟩,r⟩:=x
  exact⟨ho _ d,z,ne,k _ _ (.inl rfl) e,mA,⟨od,es,ep,k _ _ (.inr d) e2,c⟩,r⟩
 | own y=>obtain⟨ob,e⟩:=x;exact⟨ob,k _ _ (.inl rfl) e⟩
 | xd fs=>obtain⟨mA,⟨od,es,ep,e,c⟩,r⟩:=x;exact⟨mA,⟨od,es,ep,k _ _ (.inl rfl) e,c⟩,r⟩
 | rng lo hi=>obtain⟨t,u,v,e⟩:=x;exact⟨t,u,v,k _ _ (.inl rfl) e⟩
 | frz ob u ih=>obtain⟨e,q⟩:=x;exact⟨k _ _ (.inl rfl) e,ih q⟩
 | tbl ps=>
  have e:h.get? a=some { cls:=.none,data:=.fields ps }:=x
  show h'.get? a=some { cls:=.none,data:=.fields ps }
  exact k a _ (.inl rfl) e
 | met f y=>
  have e:h.get? a=some (a8h (.ref f) (.ref y)):=x
  show h'.get? a=some (a8h (.ref f) (.ref y))
  exact k a _ (.inl rfl) e
 | ext φ=>obtain⟨p,⟨o,e⟩,st⟩:=x;exact⟨st _ _ p fun o q=>k _ _ (.inl rfl) q,⟨o,k _ _ (.inl rfl) e⟩,st⟩
theorem HOk.lt(x:HOk P w H h)(e:H a=some o):a<h.objs.size:=(x a o e).lt
theorem HOk.fresh(x:HOk P w H h)(e:h.objs.size<=a):H a=none:=by
 cases q:H a with
 | none=>rfl
 | some u=>exact absurd (E6 (x.lt q) e) (M7 _)
theorem HOk.kept(x:HOk P w H h)(k:∀b u,h.get? b=some u->h'.get? b=some u):HOk P w H h':=fun a o e=>
 (x a o e).stay (fun b u _ q=>k b u q) (fun _ q=>q) fun _ _ q=>q
theorem HOk.laid(x:HOk P w H h)(k:∀b u,h.get? b=some u->h'.get? b=some u)(hp:h.objs.size<=a)(new:a0f P w (upd H a o) h' a o):HOk P w (upd H a o) h':=fun b u e=>by
 have hn:=x.fresh hp
 by_cases hb:b=a
 ·subst hb;rw[g7]at e;cases e;exact new
 ·rw[o4 hb]at e
  exact(x b u e).stay (fun c v _ q=>k c v q) (fun c q=>by rw[o4 (d9 q hn)];exact q) fun c xs q=>by rw[o4 (d9 q hn)];exact q
end
def Rd(H:Hp)(a:Addr)(u:HO):Prop:=H a=some u\/∃o,H a=some (.frz o u)
theorem Rd.ok{P:F3}{u:HO}(r:Rd H a u)(x:HOk P w H h):a0f P w H h a u:=by
 rcases r with r | ⟨o,r⟩
 ·exact x a u r
 ·obtain⟨_,q⟩:=x a _ r
  exact q
def Mut:Option HO->Prop
 | some (.lst _)=>True
 | some (.dK _)=>True
 | some (.dT _)=>True
 | some (.set _ _)=>True
 | some (.ins _ _ _)=>True
 | some (.ext _)=>True
 | _=>False
section
variable {P:F3}{x e:Addr}{o':HO}
theorem HOk.write(ok:HOk P w H h)(mu:Mut (H x))(he:e=x\/H e=some (.own x))(k:∀b u,b≠e->h.get? b=some u->h'.get? b=some u)(heo:∃u,h'.get? e=some u)
  (new:a0f P w (upd H x o') h' x o'):HOk P w (upd H x o') h':=fun b u q=>by
 have nown:∀c y,H c=some (.own y)->c≠x:=fun c y r z=>by subst z;rw[r]at mu;exact mu
 have ntup:∀c xs,H c=some (.tup xs)->c≠x:=fun c xs r z=>by subst z;rw[r]at mu;exact mu
 by_cases hb:b=x
 ·subst hb;rw[g7]at q;cases q;exact new
 ·rw[o4 hb]at q
  by_cases hbe:b=e
  ·have q':H b=some (.own x):=by
    rcases he with z | z
    ·exact absurd (hbe.trans z) hb
    ·rw[hbe];exact z
   rw[q]at q';cases q'
   obtain⟨v,hv⟩:=heo
   exact⟨v,by rw[hbe];exact hv⟩
  ·refine(ok b u q).stay (fun c v hc r=>k c v ?_ r) (fun c r=>by rw[o4 (nown c b r)];exact r) fun c xs r=>by rw[o4 (ntup c xs r)];exact r
   rcases hc with rfl | hc
   ·exact hbe
   ·rintro rfl
    rcases he with z | z
    ·exact nown c b hc z
    ·rw[hc]at z;cases z;exact hb rfl
end
structure Un(fs ex:List Addr)(H H':Hp)(h h':Heap):Prop where
 keep:∀b o,h.get? b=some o->H b=none->b∉fs->b∉ex->h'.get? b=some o
 slot:∀b o,h.get? b=some o->H b=none->b∈fs->b∉ex->∃sl,h'.get? b=some { o with slots:=sl }
 free:∀b o,h.get? b=some o->H b=none->b∉ex->H' b=none
 there:∀b o,h.get? b=some o->b∉ex->∃o',h'.get? b=some o'
 tups:∀b xs,H b=some (.tup xs)->H' b=some (.tup xs)
 frzs:∀b o u,H b=some (.frz o u)->H' b=some (.frz o u)
 tbls:∀b ps,H b=some (.tbl ps)->∃more,H' b=some (.tbl (ps++more))
section
variable {fs fs' ex ex':List Addr}{H1 H2:Hp}{h1 h2:Heap}{x e:Addr}
theorem Un.any(u:Un fs ex H H1 h h1){ob:Obj}(q:h.get? b=some ob)(n:H b=none)(hx:b∉ex):∃sl,h1.get? b=some { ob with slots:=sl }:=by
 by_cases hb:b∈fs
 ·exact u.slot b ob q n hb hx
 ·exact⟨ob.slots,u.keep b ob q n hb hx⟩
theorem Un.kept(k:∀b u,h.get? b=some u->h'.get? b=some u):Un fs ex H H h h':=
 ⟨fun b ob q _ _ _=>k b ob q,fun b ob q _ _ _=>⟨ob.slots,k b ob q⟩,fun _ _ _ n _=>n,fun b ob q _=>⟨ob,k b ob q⟩,fun _ _ q=>q,fun _ _ _ q=>q,fun _ ps q=>⟨#[],by rw[q];simp⟩⟩
theorem Un.refl:Un fs ex H H h h:=Un.kept fun _ _ q=>q
theorem Un.laid(k:∀b u,h.get? b=some u->h'.get? b=some u)(hp:h.objs.size<=a)(hn:H a=none):Un fs ex H (upd H a o) h h' where
 keep:=fun b u q _ _ _=>k b u q
 slot:=fun b u q _ _ _=>⟨u.slots,k b u q⟩
 free:=fun b u q n _=>by rw[o4 (C4 (E6 (o9 q) hp))];exact n
 there:=fun b u q _=>⟨u,k b u q⟩
 tups:=fun b xs q=>by rw[o4 (d9 q hn)];exact q
 frzs:=fun b u xs q=>by rw[o4 (d9 q hn)];exact q
 tbls:=fun b ps q=>⟨#[],by rw[o4 (d9 q hn),q];simp⟩
theorem Un.write(mu:Mut (H x))(he:e=x\/H e=some (.own x))(k:∀b u,b≠e->h.get? b=some u->h'.get? b=some u)(heo:∃u,h'.get? e=some u):Un fs ex H (upd H x o) h h':=by
 have hx:∀b,H b=none->b≠x:=fun b n z=>by subst z;rw[n]at mu;exact mu
 have hb:∀b,H b=none->b≠e:=fun b n z=>by
  subst z
  rcases he with r | r
  ·exact hx b n r
  ·rw[n]at r;cases r
 have hm:∀b u,H b=some u->¬Mut (some u)->b≠x:=fun b u q nm z=>by subst z;rw[q]at mu;exact nm mu
 refine⟨fun b u q n _ _=>k b u (hb b n) q,fun b u q n _ _=>⟨u.slots,k b u (hb b n) q⟩,fun b u q n _=>by rw[o4 (hx b n)];exact n,fun b u q _=>?_,
  fun b xs q=>by rw[o4 (hm b _ q fun z=>z)];exact q,fun b u xs q=>by rw[o4 (hm b _ q fun z=>z)];exact q,fun b ps q=>⟨#[],by rw[o4 (hm b _ q fun z=>z),q];simp⟩⟩
 by_cases hbe:b=e
 ·subst hbe;exact heo
 ·exact⟨u,k b u hbe q⟩
end
def trk(h:Heap)(H:Hp):List Addr:=(L4 h.objs.size).filter fun a=>(H a).isSome
def b3k(h:Heap)(H:Hp):Heap:=PySem.W.hideAll h (trk h H)
theorem b9g(h:Heap)(H:Hp):(b3k h H).objs.size=h.objs.size:=PySem.W.hideAll_size _ _
theorem c2j{o:Obj}(e:h.get? b=some o)(n:H b=none):(b3k h H).get? b=some o:=
 PySem.W.hideAll_get _ e fun hm=>by
  have q:(H b).isSome=true:=(a1F.mp hm).2
  rw[n]at q;simp at q
theorem c4n{o:Obj}(e:(b3k h H).get? b=some o):h.get? b=some o/\H b=none:=by
 have e':h.get? b=some o:=PySem.W.of_hideAll (trk h H) e
 refine⟨e',?_⟩
 cases q:H b with
 | none=>rfl
 | some x=>
  have hm:b∈trk h H:=a1F.mpr ⟨a3y.mpr (o9 e'),by simp[q]⟩
  have z:(b3k h H).get? b=none:=PySem.W.hideAll_none (trk h H) hm
  rw[z]at e;cases e
def c4O(g h:Heap)(L:Addr):List (Addr×Obj):=(L4 h.objs.size).filterMap fun a=>if a=L\/(g.get? a).isSome=true then none else (h.get? a).map fun o=>(a,o)
def rest(g h:Heap)(L d:Addr):List (Addr×Obj):=(c4O g h L).filter fun p=>decide (p.1≠d)
structure Mod(K:Fg)(mg:Str->Option Value)(base:Heap):Prop where
 kin:K.In base
 glob:base.Ns C2 mg
 blt:∃mb,base.Ns builtinsNs mb/\∀x:Str,x ≠ "__name__" -> mb x=W8 x
 nolimit:base.NoLimit
structure Cx where
 prog:F3
 w:World
 K:Fg
 mg:Str->Option Value
 base:Heap
 A:L7
 N:List Str
 s₀:o0
 H₀:Hp
 env:Env
 outer:List Env
 stack:List Env
 ex:List Addr
 fn:Str->Bool
 calm:Bool
 pn:List (Addr×Obj)
 xe:Value->o0->Prop
variable{X:Cx}
def frs(l:List Env):List Addr:=l.filterMap (·.frame)
abbrev Cx.fs(X:Cx):List Addr:=frs X.outer
def Vis(sc:Scope)(x:Str):Prop:=sc.names.lookup x=some .local\/sc.names.lookup x=some .cell\/sc.names.lookup x=some .free
def Loc(sc:Scope)(x:Str):Prop:=sc.names.lookup x=some .local\/sc.names.lookup x=some .cell
def d0d(env:Env)(h:Heap)(m:Str->Option Value)(x:Str)(u:Value):Prop:=
 (env.kindOf x=some .local/\m x=some u)\/((env.kindOf x=some .cell\/env.kindOf x=some .free)/\∃c,env.cells.lookup x=some c/\h.IsCell c (some u))
structure Cx.Ok(X:Cx):Prop where
 mod:Mod X.K X.mg X.base
 kind:X.env.scope.kind=.function
 glob:X.env.globals=C2
 blt:X.env.builtins=builtinsNs
 above:X.s₀.heap.objs.size<=X.env.locals
 inj:∀x y c,X.env.cells.lookup x=some c->X.env.cells.lookup y=some c->x=y
 has:∀x,(X.env.kindOf x=some .cell\/X.env.kindOf x=some .free)->∃c,X.env.cells.lookup x=some c
 cab:∀x c,X.fn x=true->X.env.cells.lookup x=some c->X.s₀.heap.objs.size<=c
 hd:X.calm=true->X.A.handled=none
 frames:X.A.frames=some X.stack
 stk:X.stack=X.outer\/(X.stack=X.env::X.outer/\X.env.frame=some X.env.locals)
 exf:∀b∈X.ex,b≠X.env.locals/\∀x c,X.env.cells.lookup x=some c->c≠b
 bs:∀b o,X.base.get? b=some o->X.s₀.heap.get? b=some o/\X.H₀ b=none
 bsz:X.base.objs.size<=X.s₀.heap.objs.size
 noex:∀b o,X.base.get? b=some o->b∉X.ex
 exfs:∀b∈X.ex,b∉X.fs
 funs:X.s₀.heap.FunFrames X.base X.outer
 frf:∀b∈X.fs,X.H₀ b=none
structure Inv(X:Cx)(pins:List (Addr×Obj))(σ:List (Option V))(H:Hp)(s:o0):Prop where
 ok:X.Ok
 os:s.os=X.s₀.os
 bare:b1X s.gens
 base:Un X.fs X.ex X.H₀ H X.s₀.heap s.heap
 loc:∃m,s.heap.Ns X.env.locals m/\∀(i:Nat) (x:Str) (v:V),X.N[i]? = some x->σ[i]? = some (some v)->Vis X.env.scope x->∃u,J1 v u/\d0d X.env s.heap m x u
 cell:∀x c,X.env.cells.lookup x=some c->∃v,s.heap.IsCell c v
 free:H X.env.locals=none
 freeC:∀x c,X.env.cells.lookup x=some c->H c=none
 pin:∀p∈X.pn++pins,s.heap.get? p.1=some p.2/\H p.1=none/\p.1≠X.env.locals/\p.1∉X.fs/\∀v,p.2.data≠.cell v
 hok:HOk X.prog X.w H s.heap
 len:σ.length=X.N.length
section
variable {σ:List (Option V)}
theorem Cx.Ok.nofr(ok:X.Ok){o:Obj}(e:X.base.get? b=some o):b∉X.fs:=fun hb=>by
 have:=(ok.funs.mem hb).1
 rw[e]at this;cases this
theorem Inv.bs(I:Inv X pins σ H s):∀b o,X.base.get? b=some o->s.heap.get? b=some o/\H b=none:=fun b o e=>
 ⟨I.base.keep b o (I.ok.bs b o e).1 (I.ok.bs b o e).2 (I.ok.nofr e) (I.ok.noex b o e),I.base.free b o (I.ok.bs b o e).1 (I.ok.bs b o e).2 (I.ok.noex b o e)⟩
theorem Inv.bk(I:Inv X pins σ H s):∀b o,X.base.get? b=some o->s.heap.get? b=some o:=fun b o e=>(I.bs b o e).1
theorem Inv.mod(I:Inv X pins σ H s):Mod X.K X.mg X.base:=I.ok.mod
theorem Inv.kIn(I:Inv X pins σ H s):X.K.In s.heap:=I.ok.mod.kin.keeps I.bk
theorem Inv.lt(I:Inv X pins σ H s):X.env.locals<s.heap.objs.size:=let⟨_,hn,_⟩:=I.loc;hn.lt
theorem Inv.sz(I:Inv X pins σ H s):X.s₀.heap.objs.size<=s.heap.objs.size:=J8 I.ok.above (a1c I.lt)
theorem Inv.nofs(I:Inv X pins σ H s)(h:s.heap.objs.size<=a):a∉X.fs:=fun hb=>by
 obtain⟨_,o,ho,_⟩:=I.ok.funs.mem hb
 exact absurd (E6 (o9 ho) (J8 I.sz h)) (M7 _)
theorem Inv.cne(I:Inv X pins σ H s):∀x c,X.env.cells.lookup x=some c->c≠X.env.locals:=fun x c e z=>by
 obtain⟨v,o,ho,hd⟩:=I.cell x c e
 obtain⟨m,⟨o',es,ep,ho',hd',_⟩,_⟩:=I.loc
 rw[z,ho']at ho;cases ho;rw[hd']at hd;cases hd
theorem Inv.funs(I:Inv X pins σ H s):s.heap.FunFrames X.base X.outer:=by
 have all:∀(l:List Env),(∀b∈frs l,b∈X.fs)->X.s₀.heap.FunFrames X.base l->s.heap.FunFrames X.base l:=by
  intro l
  induction l with
  | nil=>intro _ _;trivial
  | cons env r ih=>
   intro hs hl
   obtain⟨hk,⟨L,o,hf,hn,ho,hd⟩,hr⟩:=hl
   have hL:L∈X.fs:=hs L (by unfold frs;rw[a7v,hf];exact F5)
   obtain⟨sl,e⟩:=I.base.slot L o ho (I.ok.frf L hL) hL fun z=>I.ok.exfs L z hL
   exact⟨hk,⟨L,_,hf,hn,e,hd⟩,ih (fun b hb=>hs b (by unfold frs;rw[a7v,hf];exact D4 _ hb)) hr⟩
 exact all X.outer (fun _ hb=>hb) I.ok.funs
theorem Inv.stack(I:Inv X pins σ H s):s.heap.FunFrames X.base X.stack:=by
 rcases I.ok.stk with e | ⟨e,hf⟩
 ·rw[e];exact I.funs
 ·rw[e]
  obtain⟨m,hn,_⟩:=I.loc
  refine .cons (by rw[I.ok.kind];decide) hf hn ?_ I.funs
  exact Heap.get?_none_of_le (J8 I.ok.bsz I.ok.above)
theorem Inv.stkSub(I:Inv X pins σ H s):∀b∈frs X.stack,b∈X.env.locals::X.fs:=fun b hb=>by
 rcases I.ok.stk with e | ⟨e,hf⟩
 ·rw[e]at hb;exact D4 _ hb
 ·rw[e]at hb
  unfold frs at hb
  rw[a7v,hf]at hb
  exact hb
theorem Inv.stkFree(I:Inv X pins σ H s):∀b∈frs X.stack,H b=none:=fun b hb=>by
 rcases q9.mp (I.stkSub b hb)with e | hb
 ·rw[e];exact I.free
 ·obtain⟨_,o,ho,_⟩:=I.ok.funs.mem hb
  exact I.base.free b o ho (I.ok.frf b hb) fun z=>I.ok.exfs b z hb
theorem Inv.step{g':Array GenState}{t':Nat}{d':Drawn}{ch:List Addr}(I:Inv X pins σ H s)
  (hch:∀b∈ch,(b∈X.ex\/X.s₀.heap.objs.size<=b)/\b≠X.env.locals/\(∀x c,X.env.cells.lookup x=some c->c≠b)/\∀p∈X.pn++pins,p.1≠b)
  (keep:∀b o,b≠X.env.locals->b∉X.fs->b∉ch->s.heap.get? b=some o->H b=none->h'.get? b=some o)
  (slot:∀b o,b≠X.env.locals->b∈X.fs->b∉ch->s.heap.get? b=some o->H b=none->∃sl,h'.get? b=some { o with slots:=sl }) (free:∀b o,b∉ch->s.heap.get? b=some o->H b=none->H' b=none)
  (there:∀b o,b∉ch->s.heap.get? b=some o->∃o',h'.get? b=some o')
  (tups:∀b xs,H b=some (.tup xs)->H' b=some (.tup xs)) (frzs:∀b o u,H b=some (.frz o u)->H' b=some (.frz o u)) (tbls:∀b ps,H b=some (.tbl ps)->∃more,H' b=some (.tbl (ps++more)))
  (ns:∀m,s.heap.Ns X.env.locals m->h'.Ns X.env.locals m) (hok:HOk X.prog X.w H' h') (hg:b1X g') :
  Inv X pins σ H' { s with heap:=h',gens:=g',drawn:=d',toks:=t' }:=by
 have neL:∀b o,X.s₀.heap.get? b=some o->b≠X.env.locals:=fun b o e=>C4 (E6 (o9 e) I.ok.above)
 have neC:∀b o,X.s₀.heap.get? b=some o->b∉X.ex->b∉ch:=fun b o e hx hb=>by
  rcases(hch b hb).1 with z | z
  ·exact hx z
  ·exact absurd (E6 (o9 e) z) (M7 _)
 have cellK:∀x c,X.env.cells.lookup x=some c->∀v,s.heap.IsCell c v->h'.IsCell c v:=fun x c e v ⟨o,ho,hd⟩=>by
  have nch:c∉ch:=fun z=>(hch c z).2.2.1 x c e rfl
  by_cases hc:c∈X.fs
  ·obtain⟨sl,q⟩:=slot c o (I.cne x c e) hc nch ho (I.freeC x c e)
   exact⟨_,q,hd⟩
  ·exact⟨o,keep c o (I.cne x c e) hc nch ho (I.freeC x c e),hd⟩
 refine⟨I.ok,I.os,hg,⟨fun b o e n hb hx=>?_,fun b o e n hb hx=>?_,fun b o e n hx=>?_,fun b o e hx=>?_,fun b xs e=>tups b xs (I.base.tups b xs e),fun b o xs e=>frzs b o xs (I.base.frzs b o xs e),fun b ps e=>?_⟩,?_,fun x c e=>?_,?_,fun x c e=>?_,fun p hp=>?_,hok,I.len⟩
 ·exact keep b o (neL b o e) hb (neC b o e hx) (I.base.keep b o e n hb hx) (I.base.free b o e n hx)
 ·obtain⟨sl,e1⟩:=I.base.slot b o e n hb hx
  obtain⟨sl',e2⟩:=slot b _ (neL b o e) hb (neC b o e hx) e1 (I.base.free b o e n hx)
  exact⟨sl',e2⟩
 ·obtain⟨o',e1⟩:=I.base.there b o e hx
  exact free b o' (neC b o e hx) e1 (I.base.free b o e n hx)
 ·obtain⟨o',e1⟩:=I.base.there b o e hx
  exact there b o' (neC b o e hx) e1
 ·obtain⟨m1,e1⟩:=I.base.tbls b ps e
  obtain⟨m2,e2⟩:=tbls b _ e1
  exact⟨m1++m2,by rw[e2,Array.append_assoc]⟩
 ·obtain⟨m,hn,hl⟩:=I.loc
  refine⟨m,ns m hn,fun i x v e1 e2 e3=>?_⟩
  obtain⟨u,r,l⟩:=hl i x v e1 e2 e3
  refine⟨u,r,?_⟩
  rcases l with l | ⟨k,c,e,z⟩
  ·exact .inl l
  ·exact .inr ⟨k,c,e,cellK x c e _ z⟩
 ·obtain⟨v,z⟩:=I.cell x c e
  exact⟨v,cellK x c e v z⟩
 ·obtain⟨m,⟨o,_,_,ho,_⟩,_⟩:=I.loc
  exact free _ o (fun z=>(hch _ z).2.1 rfl) ho I.free
 ·obtain⟨v,o,ho,hd⟩:=I.cell x c e
  exact free c o (fun z=>(hch c z).2.2.1 x c e rfl) ho (I.freeC x c e)
 ·obtain⟨e,n,ne,nf,d⟩:=I.pin p hp
  have nch:p.1∉ch:=fun z=>(hch p.1 z).2.2.2 p hp rfl
  exact⟨keep p.1 p.2 ne nf nch e n,free p.1 p.2 nch e n,ne,nf,d⟩
theorem Inv.un(I:Inv X pins σ H s)(u:Un X.fs [] H H' s.heap h')(hok:HOk X.prog X.w H' h'):Inv X pins σ H' { s with heap:=h',toks:=t' }:=by
 obtain⟨m,⟨o,es,ep,ho,r⟩,_⟩:=id I.loc
 obtain⟨sl,hL⟩:=u.any ho I.free (by simp)
 exact I.step (g':=s.gens) (d':=s.drawn) (ch:=[]) (fun _ z=>nomatch z) (fun b o _ hb _ e n=>u.keep b o e n hb (by simp)) (fun b o _ hb _ e n=>u.slot b o e n hb (by simp)) (fun b o _ e n=>u.free b o e n (by simp)) (fun b o _ e=>u.there b o e (by simp)) u.tups u.frzs u.tbls (fun m' hm=>by
  obtain⟨o',es',ep',ho',r'⟩:=hm
  rw[ho]at ho';cases ho'
  exact⟨_,es',ep',hL,r'⟩) hok I.bare
theorem Inv.call{g':Array GenState}{d':Drawn}{ch:List Addr}(I:Inv X pins σ H s)(u:Un (frs X.stack) ch H H' s.heap h')(hok:HOk X.prog X.w H' h')(hg:b1X g')
  (hch:∀b∈ch,(b∈X.ex\/X.s₀.heap.objs.size<=b)/\b≠X.env.locals/\(∀x c,X.env.cells.lookup x=some c->c≠b)/\∀p∈X.pn++pins,p.1≠b) :
  Inv X pins σ H' { s with heap:=h',gens:=g',drawn:=d',toks:=t' }:=by
 obtain⟨m,⟨o,es,ep,ho,r⟩,_⟩:=id I.loc
 obtain⟨sl,hL⟩:=u.any ho I.free fun z=>(hch _ z).2.1 rfl
 exact I.step (ch:=ch) hch (fun b o hL hb hc e n=>u.keep b o e n (fun z=>(q9.mp (I.stkSub b z)).elim hL hb) hc) (fun b o _ _ hc e n=>u.any e n hc) (fun b o hc e n=>u.free b o e n hc) (fun b o hc e=>u.there b o e hc) u.tups u.frzs u.tbls (fun m' hm=>by
  obtain⟨o',es',ep',ho',r'⟩:=hm
  rw[ho]at ho';cases ho'
  exact⟨_,es',ep',hL,r'⟩) hok hg
theorem Inv.turned{it:Addr}(I:Inv X pins σ H s)(k:∀b o,b≠it->s.heap.get? b=some o->h'.get? b=some o)(hn:H it=none)(hL:it≠X.env.locals)
  (h1:it∈X.ex\/X.s₀.heap.objs.size<=it) (h2:∀x c,X.env.cells.lookup x=some c->c≠it) (h3:∀p∈X.pn++pins,p.1≠it):Inv X pins σ H { s with heap:=h',toks:=t' }:=by
 have nit:∀b u,H b=some u->b≠it:=fun b u e z=>by rw[z,hn]at e;cases e
 refine I.step (g':=s.gens) (d':=s.drawn) (ch:=[it]) (fun b hb=>?_) (fun b o _ _ hc e _=>k b o (fun z=>hc (by simp[z])) e) (fun b o _ _ hc e _=>⟨o.slots,k b o (fun z=>hc (by simp[z])) e⟩) (fun _ _ _ _ n=>n)
  (fun b o hc e=>⟨o,k b o (fun z=>hc (by simp[z])) e⟩) (fun _ _ e=>e) (fun _ _ _ e=>e) (fun b ps e=>⟨#[],by rw[e];simp⟩) (fun m hm=>?_) (fun b u e=>?_) I.bare
 ·have e:b=it:=by simpa using hb
  subst e
  exact⟨h1,hL,h2,h3⟩
 ·obtain⟨o,es,ep,ho,r⟩:=hm
  exact⟨o,es,ep,k _ o (Ne.symm hL) ho,r⟩
 ·refine(I.hok b u e).stay (fun c v hc q=>k c v ?_ q) (fun _ q=>q) fun _ _ q=>q
  rcases hc with z | z
  ·rw[z];exact nit b u e
  ·exact nit c _ z
theorem Inv.tok(I:Inv X pins σ H s)(t:Nat):Inv X pins σ H { s with toks:=t }:=I.un (h':=s.heap) (t':=t) Un.refl I.hok
theorem Inv.kept(I:Inv X pins σ H s)(k:∀b u,s.heap.get? b=some u->h'.get? b=some u):Inv X pins σ H { s with heap:=h',toks:=t' }:=I.un (Un.kept k) (I.hok.kept k)
theorem Inv.laid(I:Inv X pins σ H s)(k:∀b u,s.heap.get? b=some u->h'.get? b=some u)(hp:s.heap.objs.size<=a)(new:a0f X.prog X.w (upd H a o) h' a o) :
  Inv X pins σ (upd H a o) { s with heap:=h',toks:=t' }:=I.un (Un.laid k hp (I.hok.fresh hp)) (I.hok.laid k hp new)
theorem Inv.write{x e:Addr}(I:Inv X pins σ H s)(mu:Mut (H x))(he:e=x\/H e=some (.own x))(k:∀b u,b≠e->s.heap.get? b=some u->h'.get? b=some u)(heo:∃u,h'.get? e=some u)
  (new:a0f X.prog X.w (upd H x o) h' x o):Inv X pins σ (upd H x o) { s with heap:=h',toks:=t' }:=I.un (Un.write mu he k heo) (I.hok.write mu he k heo new)
theorem Inv.weak{σ':List (Option V)}(I:Inv X pins σ H s)(hl:σ'.length=σ.length)(w:∀(i:Nat) v,σ'[i]? = some (some v)->σ[i]? = some (some v)):Inv X pins σ' H s:=
 ⟨I.ok,I.os,I.bare,I.base,let⟨m,hn,hl'⟩:=I.loc; ⟨m,hn,fun i x v e1 e2 e3=>hl' i x v e1 (w i v e2) e3⟩,I.cell,I.free,I.freeC,I.pin,I.hok,hl.trans I.len⟩
theorem Inv.pins_of{pins':List (Addr×Obj)}(I:Inv X pins σ H s)(h:∀p∈pins',s.heap.get? p.1=some p.2/\H p.1=none/\p.1≠X.env.locals/\p.1∉X.fs/\∀v,p.2.data≠.cell v):Inv X pins' σ H s:=
 ⟨I.ok,I.os,I.bare,I.base,I.loc,I.cell,I.free,I.freeC,fun p hp=>(C8.mp hp).elim (fun z=>I.pin p (O2 _ z)) (h p),I.hok,I.len⟩
theorem b4L{N:List Str}(hN:N.Nodup){j:Nat}{x:Str}(a:N[i]? = some x)(b:N[j]? = some x):i=j:=by
 obtain⟨h1,e1⟩:=y4.mp a
 obtain⟨h2,e2⟩:=y4.mp b
 exact(List.getElem_inj hN).mp (e1.trans e2.symm)
theorem b1B{M:Model}{A:L7}{E:Value->o0->Prop}{x:Str}{Q:Unit->o0->Prop}(I:Inv X pins σ H s)(hN:X.N.Nodup)(hi:X.N[i]? = some x)(hx:Loc X.env.scope x)(r:J1 v u)
  (h:∀s',Inv X pins (σ.set i (some v)) H s'->(∃a,Heap.SameBut a s.heap s'.heap/\(a=X.env.locals\/X.env.cells.lookup x=some a))->Q () s') (hf:X.fn x=true\/X.env.scope.names.lookup x=some .local:=by first | exact .inl rfl | exact .inr rfl | assumption):wpAny M A (storeName X.env x u) Q E s:=by
 obtain⟨m,hn,hl⟩:=id I.loc
 have hcls:(X.env.scope.kind == .class||(X.env.scope.kind == .module&&X.env.locals != X.env.globals))=false:=by rw[I.ok.kind];rfl
 have hiσ:i<σ.length:=by rw[I.len];exact(y4.mp hi).1
 have cne:=I.cne
 have tracked:∀ {a:Addr} {h':Heap},(∃o,s.heap.get? a=some o/\H a=none)->Heap.SameBut a s.heap h'->HOk X.prog X.w H h':=fun {a h'} ha hs b ob e=>by
  obtain⟨_,_,hfree⟩:=ha
  refine(I.hok b ob e).stay (fun c w' hc q=>(hs.2 c ?_).trans q) (fun _ q=>q) fun _ _ q=>q
  rintro rfl
  rcases hc with rfl | hc
  ·rw[hfree]at e;cases e
  ·rw[hfree]at hc;cases hc
 rcases hx with hk | hk
 ·refine wpAny_storeName_local hk hn (fun h' hn' hs=>?_) hcls
  obtain⟨oL,_,_,hoL,_⟩:=id hn
  refine h _ ⟨I.ok,I.os,I.bare,⟨fun b o e n hb hx=>?_,fun b o e n hb hx=>?_,I.base.free,fun b o e hx=>?_,I.base.tups,I.base.frzs,I.base.tbls⟩,⟨_,hn',fun j y v' e1 e2 e3=>?_⟩,fun y c e=>?_,I.free,I.freeC,fun p hp=>?_,tracked ⟨oL,hoL,I.free⟩ hs,by simpa using I.len⟩ ⟨_,hs,.inl rfl⟩
  ·exact(hs.2 b (C4 (E6 (o9 e) I.ok.above))).trans (I.base.keep b o e n hb hx)
  ·obtain⟨sl,e1⟩:=I.base.slot b o e n hb hx
   exact⟨sl,(hs.2 b (C4 (E6 (o9 e) I.ok.above))).trans e1⟩
  ·obtain⟨o',e1⟩:=I.base.there b o e hx
   exact⟨o',(hs.2 b (C4 (E6 (o9 e) I.ok.above))).trans e1⟩
  ·by_cases hj:j=i
   ·subst hj
    rw[hi]at e1;cases e1
    rw[P5 hiσ]at e2
    cases e2
    exact⟨u,r,.inl ⟨hk,by simp⟩⟩
   ·rw[Q6 (Ne.symm hj)]at e2
    obtain⟨u',r',q⟩:=hl j y v' e1 e2 e3
    refine⟨u',r',?_⟩
    rcases q with ⟨k,e⟩ | ⟨k,c,e,z⟩
    ·refine .inl ⟨k,?_⟩
     have:y≠x:=fun e=>hj (b4L hN e1 (e ▸ hi))
     simp[this,e]
    ·exact .inr ⟨k,c,e,z.sameBut hs (cne y c e)⟩
  ·obtain⟨w',z⟩:=I.cell y c e
   exact⟨w',z.sameBut hs (cne y c e)⟩
  ·obtain⟨e,n,ne,nf,d⟩:=I.pin p hp
   exact⟨(hs.2 p.1 ne).trans e,n,ne,nf,d⟩
 ·have hfn:X.fn x=true:=by
   rcases hf with z | z
   ·exact z
   ·rw[z]at hk;cases hk
  obtain⟨c,hc⟩:=I.ok.has x (.inl hk)
  obtain⟨w',z⟩:=I.cell x c hc
  refine wpAny_storeName_cell I.ok.kind hk hc z (fun h' hc' hs=>?_)
  obtain⟨oc,hoc,hocd⟩:=id z
  refine h { s with heap:=h' } ⟨I.ok,I.os,I.bare,⟨fun b o e n hb hx=>?_,fun b o e n hb hx=>?_,I.base.free,fun b o e hx=>?_,I.base.tups,I.base.frzs,I.base.tbls⟩,⟨m,hn.sameBut hs (Ne.symm (cne x c hc)),fun j y v' e1 e2 e3=>?_⟩,fun y c' e=>?_,I.free,I.freeC,fun p hp=>?_,tracked ⟨oc,hoc,I.freeC x c hc⟩ hs,by simpa using I.len⟩ ⟨c,hs,.inr hc⟩
  ·exact(hs.2 b (C4 (E6 (o9 e) (I.ok.cab x c hfn hc)))).trans (I.base.keep b o e n hb hx)
  ·obtain⟨sl,e1⟩:=I.base.slot b o e n hb hx
   exact⟨sl,(hs.2 b (C4 (E6 (o9 e) (I.ok.cab x c hfn hc)))).trans e1⟩
  ·obtain⟨o',e1⟩:=I.base.there b o e hx
   exact⟨o',(hs.2 b (C4 (E6 (o9 e) (I.ok.cab x c hfn hc)))).trans e1⟩
  ·by_cases hj:j=i
   ·subst hj
    rw[hi]at e1;cases e1
    rw[P5 hiσ]at e2
    cases e2
    exact⟨u,r,.inr ⟨.inl hk,c,hc,hc'⟩⟩
   ·rw[Q6 (Ne.symm hj)]at e2
    obtain⟨u',r',q⟩:=hl j y v' e1 e2 e3
    refine⟨u',r',?_⟩
    rcases q with q | ⟨k,c',e,z'⟩
    ·exact .inl q
    ·refine .inr ⟨k,c',e,z'.sameBut hs ?_⟩
     rintro rfl
     exact hj (b4L hN e1 (I.ok.inj _ _ _ e hc ▸ hi))
  ·by_cases hcc:c'=c
   ·subst hcc;exact⟨_,hc'⟩
   ·obtain⟨w2,z2⟩:=I.cell y c' e
    exact⟨w2,z2.sameBut hs hcc⟩
  ·obtain⟨e,n,ne,nf,d⟩:=I.pin p hp
   refine⟨(hs.2 p.1 ?_).trans e,n,ne,nf,d⟩
   intro q
   rw[q,hoc]at e
   have q':oc=p.2:=Option.some.inj e
   exact d w' (by rw[<-q'];exact hocd)
theorem a9C{M:Model}{A:L7}{E:Value->o0->Prop}{x:Str}{Q:Unit->o0->Prop}(I:Inv X pins σ H s)(hN:X.N.Nodup)(hi:X.N[i]? = some x)(hx:Loc X.env.scope x)(r:J1 v u)
  (h:∀s',Inv X pins (σ.set i (some v)) H s'->Q () s') (hf:X.fn x=true\/X.env.scope.names.lookup x=some .local:=by first | exact .inl rfl | exact .inr rfl | assumption):wpAny M A (storeName X.env x u) Q E s:=
 b1B I hN hi hx r (fun s' I' _=>h s' I') hf
theorem Inv.call'{s':o0}{ch:List Addr}(I:Inv X pins σ H s)(ho:s'.os=s.os)(u:Un (frs X.stack) ch H H' s.heap s'.heap)(hok:HOk X.prog X.w H' s'.heap)(hg:b1X s'.gens)
  (hch:∀b∈ch,(b∈X.ex\/X.s₀.heap.objs.size<=b)/\b≠X.env.locals/\(∀x c,X.env.cells.lookup x=some c->c≠b)/\∀p∈X.pn++pins,p.1≠b):Inv X pins σ H' s':=by
 obtain⟨h',g',d',t',o'⟩:=s'
 have e:o'=s.os:=ho
 subst e
 exact I.call (g':=g') (t':=t') (d':=d') u hok hg hch
end
abbrev XK:=Value->Option Addr->Hp->Prop
abbrev St:=List (Option V)
variable{σ:St}
abbrev VK:=V->Hp->Prop
abbrev TE:=St->Hp->VK->Prop
variable{ta te:TE}
abbrev TT:=St->Hp->(Bool->Hp->Prop)->Prop
abbrev TA:=St->Hp->(List V->Hp->Prop)->Prop
structure a6v where
 nx:St->Hp->Prop
 rt:VK
 bk:St->Hp->Prop:=fun _ _=>False
 ct:St->Hp->Prop:=fun _ _=>False
abbrev TS:=a6v->St->Hp->Prop
variable{tb:TS}
def EP(X:Cx)(pins:List (Addr×Obj))(σ:St)(Q:VK)(u:Value)(s':o0):Prop:=∃v H',Inv X pins σ H' s'/\J1 v u/\Q v H'
def TP(X:Cx)(pins:List (Addr×Obj))(σ:St)(Q:Bool->Hp->Prop)(b:Bool)(s':o0):Prop:=∃H',Inv X pins σ H' s'/\Q b H'
def AP(X:Cx)(pins:List (Addr×Obj))(σ:St)(Q:List V->Hp->Prop)(us:List Value)(s':o0):Prop:=∃vs H',Inv X pins σ H' s'/\J3 vs us/\Q vs H'
def SP(X:Cx)(pins:List (Addr×Obj))(D:a6v)(f:Flow)(s':o0):Prop:=
 match f with
 | .next=>∃σ' H',Inv X pins σ' H' s'/\D.nx σ' H'
 | .brk=>∃σ' H',Inv X pins σ' H' s'/\D.bk σ' H'
 | .cont=>∃σ' H',Inv X pins σ' H' s'/\D.ct σ' H'
 | .ret u=>∃v σ' H',Inv X pins σ' H' s'/\J1 v u/\D.rt v H'
def PE(X:Cx)(e:Expr)(t:TE):Prop:=
 ∀(pins:List (Addr×Obj)) (s:o0) (σ:St) (H:Hp) (Q:VK),Inv X pins σ H s->t σ H Q->wpAny (model X.prog X.w) X.A (eval e X.env) (EP X pins σ Q) X.xe s
def PT(X:Cx)(e:Expr)(t:TT):Prop:=
 ∀(pins:List (Addr×Obj)) (s:o0) (σ:St) (H:Hp) (Q:Bool->Hp->Prop),Inv X pins σ H s->t σ H Q->wpAny (model X.prog X.w) X.A (isTrue e X.env (eval e X.env)) (TP X pins σ Q) X.xe s
def PW(X:Cx)(e:Expr)(t:TT):Prop:=
 ∀(whole:Sem Value) (pins:List (Addr×Obj)) (s:o0) (σ:St) (H:Hp) (Q:Bool->Hp->Prop),Inv X pins σ H s->t σ H Q->wpAny (model X.prog X.w) X.A (isTrue e X.env whole) (TP X pins σ Q) X.xe s
theorem PW.pt{t:TT}(h:PW X e t):PT X e t:=h _
def PA(X:Cx)(es:List Expr)(t:TA):Prop:=
 ∀(pos:Pos) (pins:List (Addr×Obj)) (s:o0) (σ:St) (H:Hp) (Q:List V->Hp->Prop),Inv X pins σ H s->t σ H Q->wpAny (model X.prog X.w) X.A (spliced (a0m pos (i8 es X.env))) (AP X pins σ Q) X.xe s
def PS(X:Cx)(st:Stmt)(t:TS):Prop:=
 ∀(pins:List (Addr×Obj)) (s:o0) (σ:St) (H:Hp) (D:a6v),Inv X pins σ H s->t D σ H->wpAny (model X.prog X.w) X.A (exec st X.env) (SP X pins D) X.xe s
def PSs(X:Cx)(st:List Stmt)(t:TS):Prop:=
 ∀(pins:List (Addr×Obj)) (s:o0) (σ:St) (H:Hp) (D:a6v),Inv X pins σ H s->t D σ H->wpAny (model X.prog X.w) X.A (execs st X.env) (SP X pins D) X.xe s
theorem thn{α:Type}{t:Sem α}{Q Q':α->o0->Prop}{M:Model}{A:L7}{E:Value->o0->Prop}(h:wpAny M A t Q E s)(hQ:∀a s,Q a s->Q' a s):wpAny M A t Q' E s:=a1J h hQ fun _ _ x=>x
section
def c5(i:Nat):TE:=fun σ H Q=>∃v,σ[i]? = some (some v)/\Q v H
def tC(v:V):TE:=fun _ H Q=>Q v H
theorem c6G{x:Str}(hN:X.N[i]? = some x)(hv:Vis X.env.scope x)(hd:(x == ("__debug__" : Str))=false:=by decide)(hcd:(x == ("__classdict__" : Str))=false:=by decide):PE X (.Name x pos) (c5 i):=by
 intro pins s σ H Q I h
 obtain⟨v,e,h⟩:=h
 obtain⟨m,hn,hl⟩:=I.loc
 obtain⟨u,r,l⟩:=hl i x v hN e hv
 have fin:EP X pins σ Q u s:=⟨v,H,I,r,h⟩
 rcases l with ⟨hk,hm⟩ | ⟨hk,c,hc,hcell⟩
 ·exact wpAny_Name (wpAny_loadName_local I.ok.kind hk hn hm fin) hd
 ·rcases hk with hk | hk
  ·exact wpAny_Name (wpAny_loadName_cell I.ok.kind hk hc hcell fin) hd
  ·exact wpAny_Name (wpAny_loadName_free I.ok.kind hk hc hcell fin hcd) hd
theorem c6P{i j pos}:PE X (.Constant (.int i) j pos) (tC (.int i)):=fun _ _ _ H _ I h=>wpAny_Constant_int ⟨.int i,H,I.tok _,⟨_,rfl⟩,h⟩
theorem c9e{b j pos}:PE X (.Constant (.bool b) j pos) (tC (.bl b)):=fun _ _ _ H _ I h=>Constant_bool ⟨.bl b,H,I,rfl,h⟩
theorem c6M{j pos}:PE X (.Constant .none j pos) (tC .non):=fun _ _ _ H _ I h=>Constant_none ⟨.non,H,I,rfl,h⟩
theorem c6I{x j pos}:PE X (.Constant (.str x) j pos) (tC (.str x)):=fun _ _ _ H _ I h=>Calls.Constant_str ⟨.str x,H,I.tok _,⟨_,rfl⟩,h⟩
def Gl(X:Cx)(x:Str):Prop:=X.env.kindOf x=some .globalImplicit
theorem b3c{E:Value->o0->Prop}{x:Str}(I:Inv X pins σ H s)(hg:Gl X x)(hm:X.mg x=some u)(h:Q u s)
  (hd:(x == ("__debug__" : Str))=false:=by decide):wpAny (model X.prog X.w) X.A (eval (.Name x pos) X.env) Q E s:=
 Calls.Name_function_global I.ok.kind hg (Calls.loadGlobal_global (by rw[I.ok.glob];exact I.mod.glob.keeps I.bk) hm h) hd
theorem a5f{E:Value->o0->Prop}{x:Str}(I:Inv X pins σ H s)(hg:Gl X x)(hm:X.mg x=none)(hv:W8 x=some u)(h:Q u s)
  (hn:x ≠ "__name__" := by decide) (hd:(x == ("__debug__" : Str))=false:=by decide):wpAny (model X.prog X.w) X.A (eval (.Name x pos) X.env) Q E s:=by
 obtain⟨mb,h1,h2⟩:=I.mod.blt
 exact Calls.Name_function_global I.ok.kind hg (Calls.loadGlobal_builtin (by rw[I.ok.glob];exact I.mod.glob.keeps I.bk) hm (by rw[I.ok.blt];exact h1.keeps I.bk) ((h2 x hn).trans hv) h) hd
theorem c3M{x:Str}(hg:Gl X x)(hm:X.mg x=some u)(r:J1 v u)(hd:(x == ("__debug__" : Str))=false:=by decide):PE X (.Name x pos) (tC v):=
 fun _ _ _ H _ I h=>b3c I hg hm ⟨v,H,I,r,h⟩ hd
theorem c3R{x:Str}(hg:Gl X x)(hm:X.mg x=none)(hv:W8 x=some u)(r:J1 v u)(hn:x ≠ "__name__" := by decide)(hd:(x == ("__debug__" : Str))=false:=by decide):PE X (.Name x pos) (tC v):=
 fun _ _ _ H _ I h=>a5f I hg hm hv ⟨v,H,I,r,h⟩ hn hd
variable {a b:Expr}{tb:TE}
def PC(X:Cx)(op:CmpOp)(a b:Expr)(t:TE):Prop:=
 ∀(pins:List (Addr×Obj)) (s:o0) (σ:St) (H:Hp) (Q:VK),Inv X pins σ H s->t σ H Q ->
  wpAny (model X.prog X.w) X.A (eval a X.env) (fun v s₁=>wpAny (model X.prog X.w) X.A (eval b X.env) (fun u s₂=>wpAny (model X.prog X.w) X.A (A3 op v u) (EP X pins σ Q) X.xe s₂) X.xe s₁) X.xe s
def tB(t:TE):TT:=fun σ H Q=>t σ H fun x H1=>∃c,x=.bl c/\Q c H1
theorem c6R{op:CmpOp}{t:TE}(h:PC X op a b t)(h1:T9 op b=false:=by first | exact nobehind _ (by decide) (by decide) | rfl):PE X (.Compare a [op] [b] pos) t:=fun pins s σ H Q I hw=>wpAny_Compare1 (h pins s σ H Q I hw) h1
theorem c1m{op:CmpOp}{t:TE}(h:PC X op a b t)(h1:T9 op b=false:=by first | exact nobehind _ (by decide) (by decide) | rfl):PT X (.Compare a [op] [b] pos) (tB t):=by
 intro pins s σ H Q I hw
 refine c8p (thn (h pins s σ H _ I hw) fun v s1 h1=>thn h1 fun u s2 h2=>thn h2 fun c s3 ⟨x,H1,I1,r1,q1⟩=>?_) h1
 obtain⟨d,rfl,q⟩:=q1
 cases r1
 exact N6 ⟨H1,I1,q⟩
theorem c6v{t:TE}(h:PE X e t)(he:∀whole,isTrue e X.env whole=(do let v <-whole;b9R e.pos;a4H [v] (truthy v)):=by intro _;rfl):PT X e (tB t):=by
 intro pins s σ H Q I hw
 refine isTrue_plain (thn (h pins s σ H _ I hw) fun v s1 ⟨x,H1,I1,r1,q1⟩=>?_) (he _)
 obtain⟨d,rfl,q⟩:=q1
 cases r1
 exact N6 ⟨H1,I1,q⟩
variable {tA tB':TT}{rest:List Expr}
def a8F(t u:TT):TT:=fun σ H Q=>t σ H fun c H1=>if c=true then u σ H1 Q else Q false H1
def tOr(t u:TT):TT:=fun σ H Q=>t σ H fun c H1=>if c=true then Q true H1 else u σ H1 Q
def a2T(t:TT):TT:=fun σ H Q=>t σ H fun c H1=>Q (!c) H1
theorem c3u(ha:PT X a tA):PW X (.BoolOp .And [a] pos) tA:=by
 intro wh pins s σ H Q I h
 refine isTrue_and (thn (ha pins s σ H Q I h) fun c s1 e=>?_)
 cases c with
 | true=>exact isTrue_and_nil e
 | false=>exact e
theorem c6s(ha:PT X a tA):PW X (.BoolOp .Or [a] pos) tA:=by
 intro wh pins s σ H Q I h
 refine isTrue_or (thn (ha pins s σ H Q I h) fun c s1 e=>?_)
 cases c with
 | false=>exact isTrue_or_nil e
 | true=>exact e
theorem c6t(ha:PT X a tA)(hb:PW X (.BoolOp .And (b::rest) pos) tB'):PW X (.BoolOp .And (a::b::rest) pos) (a8F tA tB'):=by
 intro wh pins s σ H Q I h
 refine isTrue_and (thn (ha pins s σ H _ I h) fun c s1 ⟨H1,I1,q1⟩=>?_)
 cases c with
 | true=>exact hb wh pins s1 σ H1 Q I1 q1
 | false=>exact⟨H1,I1,q1⟩
theorem c8W(ha:PT X a tA)(hb:PW X (.BoolOp .Or (b::rest) pos) tB'):PW X (.BoolOp .Or (a::b::rest) pos) (tOr tA tB'):=by
 intro wh pins s σ H Q I h
 refine isTrue_or (thn (ha pins s σ H _ I h) fun c s1 ⟨H1,I1,q1⟩=>?_)
 cases c with
 | true=>exact⟨H1,I1,q1⟩
 | false=>exact hb wh pins s1 σ H1 Q I1 q1
theorem c6w(ha:PT X a tA):PT X (.UnaryOp .Not a pos) (a2T tA):=by
 intro pins s σ H Q I h
 exact isTrue_not (ha pins s σ H (fun c H1=>Q (!c) H1) I h)
def Y0(ta tb:TE):TE:=fun σ H Q=>ta σ H fun x H1=>∃c,x=.bl c/\if c=true then tb σ H1 Q else Q (.bl false) H1
def c3e(ta tb:TE):TE:=fun σ H Q=>ta σ H fun x H1=>∃c,x=.bl c/\if c=true then Q (.bl true) H1 else tb σ H1 Q
def b1z(ta:TE):TE:=fun σ H Q=>ta σ H fun x H1=>∃c,x=.bl c/\Q (.bl (!c)) H1
theorem c6K{op}{t:TE}(h:PE X a t):PE X (.BoolOp op [a] pos) t:=fun pins s σ H Q I hw=>BoolOp_one (h pins s σ H Q I hw)
theorem c6T(ha:PE X a ta)(hb:PE X (.BoolOp .And (b::rest) pos) tb):PE X (.BoolOp .And (a::b::rest) pos) (Y0 ta tb):=by
 intro pins s σ H Q I h
 refine BoolOp_and (thn (ha pins s σ H _ I h) fun v s1 ⟨x,H1,I1,r1,q1⟩=>?_)
 obtain⟨c,rfl,q1⟩:=q1
 cases r1
 refine N6 ?_
 cases c with
 | true=>exact hb pins s1 σ H1 Q I1 q1
 | false=>exact⟨.bl false,H1,I1,rfl,q1⟩
theorem c8Z(ha:PE X a ta)(hb:PE X (.BoolOp .Or (b::rest) pos) tb):PE X (.BoolOp .Or (a::b::rest) pos) (c3e ta tb):=by
 intro pins s σ H Q I h
 refine BoolOp_or (thn (ha pins s σ H _ I h) fun v s1 ⟨x,H1,I1,r1,q1⟩=>?_)
 obtain⟨c,rfl,q1⟩:=q1
 cases r1
 refine N6 ?_
 cases c with
 | false=>exact hb pins s1 σ H1 Q I1 q1
 | true=>exact⟨.bl true,H1,I1,rfl,q1⟩
theorem c6L(ha:PE X a ta):PE X (.UnaryOp .Not a pos) (b1z ta):=by
 intro pins s σ H Q I h
 refine UnaryOp_ (thn (ha pins s σ H _ I h) fun v s1 ⟨x,H1,I1,r1,q1⟩=>?_)
 obtain⟨c,rfl,q1⟩:=q1
 cases r1
 exact not_of (N6 ⟨.bl (!c),H1,I1,rfl,q1⟩)
def tIf(t:TT)(ta tb:TE):TE:=fun σ H Q=>t σ H fun c H1=>if c=true then ta σ H1 Q else tb σ H1 Q
theorem c1v(hc:PT X c tA)(ha:PE X a ta)(hb:PE X b tb):PE X (.IfExp c a b pos) (tIf tA ta tb):=by
 intro pins s σ H Q I h
 refine wpAny_IfExp (thn (hc pins s σ H _ I h) fun d s1 ⟨H1,I1,q1⟩=>?_)
 cases d with
 | true=>exact ha pins s1 σ H1 Q I1 q1
 | false=>exact hb pins s1 σ H1 Q I1 q1
end
def SqL(K:Fg)(H:Hp)(a:Addr)(xs:List V):Prop:=
 Rd H a (.lst xs) \/
  ∃(o:Obj) (its:Array Value) (n:Nat),K.lookup a=some o/\o.cls=.type "list" /\ o.dict=none/\o.data=.seq its n/\its.size<=v6/\J3 xs its.toList
def SqT(K:Fg)(H:Hp)(a:Addr)(xs:List V):Prop:=
 Rd H a (.tup xs) \/
  ∃(o:Obj) (its:Array Value) (n:Nat),K.lookup a=some o/\o.cls=.type "tuple" /\ o.data=.seq its n/\its.size<=v6/\J3 xs its.toList
def d0b:Value->Option V
 | .none=>some .non
 | .bool b=>some (.bl b)
 | .int i _=>some (.int i)
 | .str x _=>some (.str x)
 | .bytes b _=>some (.byt b)
 | .float b _=>some (.flt b)
 | .ref a=>some (.ref a)
 | .type n=>some (.ty n)
 | _=>none
theorem J1.abs{x:V}(r:J1 x u):d0b u=some x:=by
 cases x with
 | non=>cases r;rfl
 | bl _=>cases r;rfl
 | int _=>obtain⟨t,rfl⟩:=r;rfl
 | str _=>obtain⟨t,rfl⟩:=r;rfl
 | byt _=>obtain⟨t,rfl⟩:=r;rfl
 | flt _=>obtain⟨t,rfl⟩:=r;rfl
 | ref _=>cases r;rfl
 | ty _=>cases r;rfl
theorem J1.inj{x:V}(r:J1 x u)(q:J1 y u):x=y:=Option.some.inj (r.abs.symm.trans q.abs)
theorem J3.inj:∀ {xs ys:List V} {us:List Value},J3 xs us->J3 ys us->xs=ys
 | _,_,_,.nil,.nil=>rfl
 | _,_,_,.cons r t,.cons r' t'=>by rw[r.inj r',J3.inj t t']
section
variable {ys:List V}
theorem SqL.of{K:Fg}(h:H a=some (.lst xs)):SqL K H a xs:=.inl (.inl h)
theorem SqT.of{K:Fg}(h:H a=some (.tup xs)):SqT K H a xs:=.inl (.inl h)
theorem Inv.list(I:Inv X pins σ H s)(h:SqL X.K H a xs):∃its:List Value,J3 xs its/\PlainL s.heap a its.toArray/\xs.length<=v6:=by
 rcases h with h | ⟨o,its,n,hk,hc,hd,hs,hz,r⟩
 ·obtain⟨z,its,n,r,e⟩:=h.ok I.hok
  exact⟨its,r,⟨_,n,e,rfl,rfl,rfl⟩,z⟩
 ·refine⟨its.toList,r,⟨o,n,I.kIn a o hk,hc,hd,by simpa using hs⟩,?_⟩
  have e:=r.length
  simp only[a1d]at e
  omega
theorem Inv.tuple(I:Inv X pins σ H s)(h:SqT X.K H a xs):∃its:List Value,J3 xs its/\IsTup s.heap a its.toArray/\xs.length<=v6:=by
 rcases h with h | ⟨o,its,n,hk,hc,hs,hz,r⟩
 ·obtain⟨z,its,r,p⟩:=h.ok I.hok
  exact⟨its,r,p,z⟩
 ·refine⟨its.toList,r,⟨o,I.kIn a o hk,hc,n,by simpa using hs⟩,?_⟩
  have e:=r.length
  simp only[a1d]at e
  omega
theorem Inv.list_inj(I:Inv X pins σ H s)(h:SqL X.K H a xs)(h':SqL X.K H a ys):xs=ys:=by
 obtain⟨its,r,⟨o,n,e,_,_,d⟩,_⟩:=I.list h
 obtain⟨its',r',⟨o',n',e',_,_,d'⟩,_⟩:=I.list h'
 rw[e]at e';cases e'
 rw[d]at d'
 injection d' with d1 _
 have:its=its':=by simpa using congrArg Array.toList d1
 subst this
 exact r.inj r'
end
abbrev Cx.wish(X:Cx)(E:Value->o0->Prop):Cx:={ X with xe:=E }
abbrev Cx.nox(X:Cx):Cx:=X.wish fun _ _=>False
theorem Cx.Ok.wish(ok:X.Ok)(E:Value->o0->Prop):(X.wish E).Ok:=
 ⟨ok.mod,ok.kind,ok.glob,ok.blt,ok.above,ok.inj,ok.has,ok.cab,ok.hd,ok.frames,ok.stk,ok.exf,ok.bs,ok.bsz,ok.noex,ok.exfs,ok.funs,ok.frf⟩
theorem Cx.Ok.unwish{E:Value->o0->Prop}(ok:(X.wish E).Ok):X.Ok:=
 ⟨ok.mod,ok.kind,ok.glob,ok.blt,ok.above,ok.inj,ok.has,ok.cab,ok.hd,ok.frames,ok.stk,ok.exf,ok.bs,ok.bsz,ok.noex,ok.exfs,ok.funs,ok.frf⟩
section
variable {E:Value->o0->Prop}
theorem Inv.wish(I:Inv X pins σ H s)(E:Value->o0->Prop):Inv (X.wish E) pins σ H s:=⟨I.ok.wish E,I.os,I.bare,I.base,I.loc,I.cell,I.free,I.freeC,I.pin,I.hok,I.len⟩
theorem Inv.unwish(I:Inv (X.wish E) pins σ H s):Inv X pins σ H s:=⟨I.ok.unwish,I.os,I.bare,I.base,I.loc,I.cell,I.free,I.freeC,I.pin,I.hok,I.len⟩
theorem SP.unwish{D:a6v}{f:Flow}{s':o0}(h:SP (X.wish E) pins D f s'):SP X pins D f s':=by
 cases f with
 | next=>obtain⟨σ',H',I,q⟩:=h;exact⟨σ',H',I.unwish,q⟩
 | brk=>obtain⟨σ',H',I,q⟩:=h;exact⟨σ',H',I.unwish,q⟩
 | cont=>obtain⟨σ',H',I,q⟩:=h;exact⟨σ',H',I.unwish,q⟩
 | ret u=>obtain⟨v,σ',H',I,r,q⟩:=h;exact⟨v,σ',H',I.unwish,r,q⟩
theorem PSs.nox{st:List Stmt}{t:TS}(h:PSs X.nox st t):PSs X st t:=fun pins s σ H D I hw=>
 a1J (h pins s σ H D (I.wish _) hw) (fun _ _ q=>q.unwish) fun _ _ z=>False.elim z
end
section
variable {st:Stmt}{rest:List Stmt}{t u:TS}
def E9:TS:=fun D σ H=>D.nx σ H
def A0(t u:TS):TS:=fun D σ H=>t { D with nx:=u D } σ H
theorem c3B:PSs X [] E9:=fun _ _ σ H _ I h=>a9m ⟨σ,H,I,h⟩
theorem c1o(h1:PS X st t)(h2:PSs X rest u):PSs X (st::rest) (A0 t u):=by
 intro pins s σ H D I h
 refine wpAny_execs_cons (thn (h1 pins s σ H { D with nx:=u D } I h) fun f s1 q=>?_)
 cases f with
 | next=>
  obtain⟨σ',H',I',q⟩:=q
  exact h2 pins s1 σ' H' D I' q
 | ret v=>exact q
 | brk=>exact q
 | cont=>exact q
theorem c3A(h1:PS X st t):PSs X [st] t:=by
 intro pins s σ H D I h
 refine wpAny_execs_cons (thn (h1 pins s σ H D I h) fun f s1 q=>?_)
 cases f with
 | next=>exact a9m q
 | ret v=>exact q
 | brk=>exact q
 | cont=>exact q
theorem Inv.quiet(I:Inv X pins σ H s):interactive X.env=false:=by simp[interactive,I.ok.kind]
def a0L(te:TE):TS:=fun D σ H=>te σ H fun _ H1=>D.nx σ H1
theorem c3C(he:PE X e te)(hs:a2x e none pos.line X.env=pure false:=by rfl):PS X (.Expr e pos) (a0L te):=by
 intro pins s σ H D I h
 exact wpAny_Expr_any (thn (he pins s σ H _ I h) fun v s1 ⟨x,H1,I1,r1,q1⟩=>⟨σ,H1,I1,q1⟩) I.quiet hs
def G7(te:TE):TS:=fun D σ H=>te σ H D.rt
theorem c6y(he:PE X e te):PS X (.Return (some e) pos) (G7 te):=by
 intro pins s σ H D I h
 exact wpAny_Return_some (thn (he pins s σ H _ I h) fun v s1 ⟨x,H1,I1,r1,q1⟩=>⟨x,σ,H1,I1,r1,q1⟩)
def K9(c:TT)(t u:TS):TS:=fun D σ H=>c σ H fun b H1=>if b=true then t D σ H1 else u D σ H1
theorem c8X{a b:List Stmt}{tc:TT}(hc:PT X c tc)(ha:PSs X a t)(hb:PSs X b u):PS X (.If c a b pos) (K9 tc t u):=by
 intro pins s σ H D I h
 refine wpAny_If (thn (hc pins s σ H _ I h) fun d s1 ⟨H1,I1,q1⟩=>?_)
 cases d with
 | true=>exact ha pins s1 σ H1 D I1 q1
 | false=>exact hb pins s1 σ H1 D I1 q1
end
abbrev TG:=V->St->Hp->(St->Hp->Prop)->Prop
variable{g:TG}
abbrev TGs:=List V->St->Hp->(St->Hp->Prop)->Prop
def PG(X:Cx)(target:Expr)(t:TG):Prop:=
 ∀(pins:List (Addr×Obj)) (s:o0) (σ:St) (H:Hp) (v:V) (u:Value) (Q:St->Hp->Prop),Inv X pins σ H s->J1 v u->t v σ H Q ->
  wpAny (model X.prog X.w) X.A (b1o target X.env u) (fun _ s'=>∃σ' H',Inv X pins σ' H' s'/\Q σ' H') X.xe s
def PGs(X:Cx)(ts:List Expr)(t:TGs):Prop:=
 ∀(pins:List (Addr×Obj)) (s:o0) (σ:St) (H:Hp) (vs:List V) (us:List Value) (Q:St->Hp->Prop),Inv X pins σ H s->J3 vs us->t vs σ H Q ->
  wpAny (model X.prog X.w) X.A (assignInOrder ((a1L ts X.env).map (·.2)) us) (fun _ s'=>∃σ' H',Inv X pins σ' H' s'/\Q σ' H') X.xe s
abbrev b1j:=V->V->V->Hp->(Hp->Prop)->Prop
def c2D(X:Cx)(t:b1j):Prop:=
 ∀(pins:List (Addr×Obj)) (s:o0) (σ:St) (H:Hp) (o i v:V) (ov iv u:Value) (Q:Hp->Prop),Inv X pins σ H s->J1 o ov->J1 i iv->J1 v u->t o i v H Q ->
  wpAny (model X.prog X.w) X.A (c5F ov iv u) (fun _ s'=>∃H',Inv X pins σ H' s'/\Q H') X.xe s
abbrev TIp:=V->V->Hp->VK->Prop
def PIp(X:Cx)(op:b9L)(t:TIp):Prop:=
 ∀(pins:List (Addr×Obj)) (s:o0) (σ:St) (H:Hp) (x y:V) (v u:Value) (Q:VK),Inv X pins σ H s->J1 x v->J1 y u->t x y H Q ->
  wpAny (model X.prog X.w) X.A (inplaceOp op v u) (EP X pins σ Q) X.xe s
section
def u9(i:Nat):TG:=fun v σ H Q=>Q (σ.set i (some v)) H
theorem b2L{x:Str}(hN:X.N.Nodup)(hi:X.N[i]? = some x)(hx:Loc X.env.scope x)(hf:X.fn x=true\/X.env.scope.names.lookup x=some .local:=by first | exact .inl rfl | exact .inr rfl | assumption):PG X (.Name x pos) (u9 i):=by
 intro pins s σ H v u Q I r h
 exact b5A (a9C I hN hi hx r (fun s' I'=>⟨_,H,I',h⟩) hf)
def b0t:TGs:=fun vs σ H Q=>vs=[]/\Q σ H
def a0e(t:TG)(u:TGs):TGs:=fun vs σ H Q=>∃v r,vs=v::r/\t v σ H fun σ' H'=>u r σ' H' Q
theorem b7E:PGs X [] b0t:=by
 intro pins s σ H vs us Q I r h
 obtain⟨e,h⟩:=h
 subst e
 cases r
 exact assignInOrder_nil ⟨σ,H,I,h⟩
theorem a9Y{t:TG}{u:TGs}(h1:PG X e t)(h2:PGs X es u)
  (hs:(a1L (e::es) X.env).map (·.2)=b1o e X.env::(a1L es X.env).map (·.2):=by rfl):PGs X (e::es) (a0e t u):=by
 intro pins s σ H vs us Q I r h
 obtain⟨v,vr,e1,h⟩:=h
 subst e1
 cases r with
 | cons r rr=>
  rw[hs]
  refine assignInOrder_cons (thn (h1 pins s σ H _ _ _ I r h) fun _ s1 ⟨σ1,H1,I1,q1⟩=>?_)
  exact h2 pins s1 σ1 H1 _ _ Q I1 rr q1
def b0s(K:Fg)(n:Nat)(t:TGs):TG:=fun v σ H Q=>∃a xs,v=.ref a/\SqT K H a xs/\xs.length=n/\t xs σ H Q
theorem c1t{k:Nat}{t:TGs}{n:Nat}(hc:X.calm=true)(h:PGs X es t)
  (hn:(a1L es X.env).length=n:=by rfl) (hst:(a1L es X.env).findIdx? (·.1)=none:=by rfl):PG X (.Tuple es k pos) (b0s X.K n t):=by
 intro pins s σ H v u Q I r hw
 obtain⟨a,xs,e1,hq,hl,hw⟩:=hw
 subst e1
 cases r
 obtain⟨its,rv,ht,hz⟩:=I.tuple hq
 refine assign_Tuple_tuple (I.ok.hd hc) ht (by simp[hn,<-hl,rv.length]) hst fun h' hx=>?_
 have I1:Inv X pins σ H { s with heap:=h' }:=I.kept (t':=s.toks) fun b o e=>hx b o (C4 (o9 e)) e
 exact h pins _ σ H xs _ Q I1 (by simpa using rv) hw
def b3m(to ti:TE)(t:b1j):TG:=fun v σ H Q=>to σ H fun o H1=>ti σ H1 fun i H2=>t o i v H2 fun H3=>Q σ H3
theorem c6F{o i:Expr}{to ti:TE}{t:b1j}(ho:PE X o to)(hi:PE X i ti)(hs:c2D X t)
  (ha:∀v,b1o (.Subscript o i pos) X.env v=(do
   let ov <-a4H [v] (eval o X.env)
   let iv <-a4H [v,ov] (eval i X.env)
   b9R pos
   a4H [v,ov,iv] (c5F ov iv v)
   release [v,ov,iv] []):=by intro _;rfl):PG X (.Subscript o i pos) (b3m to ti t):=by
 intro pins s σ H v u Q I r h
 rw[ha]
 refine u6 (a2w (thn (ho pins s σ H _ I h) fun ov s1 ⟨x,H1,I1,r1,q1⟩=>?_))
 refine u6 (a2w (thn (hi pins s1 σ H1 _ I1 q1) fun iv s2 ⟨y,H2,I2,r2,q2⟩=>?_))
 refine u6 (c5E (u6 (a2w (thn (hs pins s2 σ H2 x y v ov iv u _ I2 r1 r2 r q2) fun _ s3 ⟨H3,I3,q3⟩=>?_))))
 exact wpAny_release ⟨σ,H3,I3,q3⟩
def F0(te:TE)(g:TG):TS:=fun D σ H=>te σ H fun x H1=>g x σ H1 D.nx
theorem c6B(he:PE X e te)(hg:PG X tg g)(hs:swapsWithSole [tg] e pos.line X.env=pure false:=by rfl)(hw:swappedStores [tg] e X.env=pure none:=by rfl)
  (h1:(a1L [tg] X.env).map (·.2)=[b1o tg X.env]:=by rfl):PS X (.Assign [tg] e pos) (F0 te g):=by
 intro pins s σ H D I h
 refine wpAny_Assign_stores (thn (he pins s σ H _ I h) fun v s1 ⟨x,H1,I1,r1,q1⟩=>?_) hs hw
 rw[h1]
 exact thn (hg pins s1 σ H1 x v _ I1 r1 q1) fun _ s2 q=>q
theorem c6x{x:Str}{pos':Pos}(hN:X.N.Nodup)(hi:X.N[i]? = some x)(hx:Loc X.env.scope x)(he:PE X e te)(hs:a2x e (some (.Name x pos')) pos.line X.env=pure false:=by rfl)(hf:X.fn x=true\/X.env.scope.names.lookup x=some .local:=by first | exact .inl rfl | exact .inr rfl | assumption) :
  PS X (.Assign [.Name x pos'] e pos) (F0 te (u9 i)):=by
 intro pins s σ H D I h
 refine wpAny_Assign_Name (thn (he pins s σ H _ I h) fun v s1 ⟨y,H1,I1,r1,q1⟩=>?_) hs
 exact a9C I1 hN hi hx r1 (fun s2 I2=>⟨_,H1,I2,q1⟩) hf
def b7t(to ti te:TE)(tget:V->V->Hp->VK->Prop)(tip:TIp)(tset:b1j):TS:=fun D σ H=>to σ H fun o H1=>ti σ H1 fun i H2=>tget o i H2 fun x H3=>te σ H3 fun y H4=>tip x y H4 fun z H5=>tset o i z H5 fun H6=>D.nx σ H6
def c8a(X:Cx)(t:V->V->Hp->VK->Prop):Prop:=
 ∀(pins:List (Addr×Obj)) (s:o0) (σ:St) (H:Hp) (o i:V) (ov iv:Value) (Q:VK),Inv X pins σ H s->J1 o ov->J1 i iv->t o i H Q ->
  wpAny (model X.prog X.w) X.A (c5G ov iv) (EP X pins σ Q) X.xe s
theorem c3E{o i:Expr}{to ti:TE}{tget:V->V->Hp->VK->Prop}{tip:TIp}{tset:b1j}{op:b9L}{tpos:Pos}(ho:PE X o to)(hi:PE X i ti)(hg:c8a X tget)(he:PE X e te)(hp:PIp X op tip)(hs:c2D X tset)
  (ha:∀ov iv new,augStore i ov iv new=(do a4H [new,ov,iv] (c5F ov iv new);release [new,ov,iv] [];pure .next):=by intros;rfl):PS X (.AugAssign (.Subscript o i tpos) op e pos) (b7t to ti te tget tip tset):=by
 intro pins s σ H D I h
 refine wpAny_AugAssign_SubscriptAny (thn (ho pins s σ H _ I h) fun ov s1 ⟨x1,H1,I1,r1,q1⟩=>?_) ha
 refine thn (hi pins s1 σ H1 _ I1 q1) fun iv s2 ⟨x2,H2,I2,r2,q2⟩=>?_
 refine thn (hg pins s2 σ H2 x1 x2 ov iv _ I2 r1 r2 q2) fun old s3 ⟨x3,H3,I3,r3,q3⟩=>?_
 refine thn (he pins s3 σ H3 _ I3 q3) fun v s4 ⟨x4,H4,I4,r4,q4⟩=>?_
 refine thn (hp pins s4 σ H4 x3 x4 old v _ I4 r3 r4 q4) fun new s5 ⟨x5,H5,I5,r5,q5⟩=>?_
 exact thn (hs pins s5 σ H5 x1 x2 x5 ov iv new _ I5 r1 r2 r5 q5) fun _ s6 ⟨H6,I6,q6⟩=>⟨σ,H6,I6,q6⟩
def ipI(f:Int->Int->Int):TIp:=fun x y H Q=>∃i j,x=.int i/\y=.int j/\Q (.int (f i j)) H
theorem c7J:PIp X .Add (ipI fun i j=>i+j):=by
 intro pins s σ H x y v u Q I r1 r2 h
 obtain⟨i,j,e1,e2,q⟩:=h
 subst e1;subst e2
 obtain⟨t,rfl⟩:=r1
 obtain⟨t',rfl⟩:=r2
 exact iadd_int ⟨.int _,H,I.tok _,⟨_,rfl⟩,q⟩
end
section
def a9z(c:TT)(tb:TS):TS:=fun D σ H=>∃W:Nat->St->Hp->Prop,(∃m,W m σ H)/\∀m σ H,W m σ H ->
 c σ H fun b H1=>if b=true then ∃N:St->Hp->Prop,(∀σ' H',N σ' H'->∃m',m'<m/\W m' σ' H')/\tb { D with nx:=N,ct:=N,bk:=D.nx } σ H1 else D.nx σ H1
theorem c1p{body:List Stmt}{tc:TT}(hp:c8t (model X.prog X.w) X.A X.env X.xe)(hc:PT X c tc)(hb:PSs X body tb):PS X (.While c body [] pos) (a9z tc tb):=by
 intro pins s σ H D I h
 obtain⟨W,⟨m0,w0⟩,turn⟩:=h
 refine wpAny_While (codeAny_whileLoop (fun n s'=>∃σ' H',Inv X pins σ' H' s'/\W n σ' H') ?_ m0 ⟨σ,H,I,w0⟩)
 rintro n s1 ⟨σ1,H1,I1,w1⟩
 refine a1p hp (thn (hc pins s1 σ1 H1 _ I1 (turn n σ1 H1 w1)) fun b s2 ⟨H2,I2,q2⟩=>?_)
 cases b with
 | true=>
  obtain⟨N,hN,q2⟩:=q2
  rw[if_pos rfl]
  refine a1p hp (thn (hb pins s2 σ1 H2 _ I2 q2) fun f s3 q3=>?_)
  cases f with
  | next=>
   obtain⟨σ3,H3,I3,n3⟩:=q3
   obtain⟨m',hm,w3⟩:=hN σ3 H3 n3
   exact⟨m',hm,σ3,H3,I3,w3⟩
  | cont=>
   obtain⟨σ3,H3,I3,n3⟩:=q3
   obtain⟨m',hm,w3⟩:=hN σ3 H3 n3
   exact⟨m',hm,σ3,H3,I3,w3⟩
  | brk=>exact q3
  | ret v=>exact q3
 | false=>
  rw[if_neg A4]
  exact a9m ⟨σ1,H2,I2,q2⟩
end
structure It where
 go:Nat->Hp->Prop
 yld:Nat->Hp->V->Hp->Prop
 stop:Nat->Hp->Prop
def a5L(X:Cx)(pins:List (Addr×Obj))(H:Hp)(b:Addr):Prop:=
 H b=none/\b≠X.env.locals/\b∉X.fs/\(b∈X.ex\/X.s₀.heap.objs.size<=b)/\(∀x c,X.env.cells.lookup x=some c->c≠b)/\∀p∈X.pn++pins,p.1≠b
theorem Inv.fpOk(I:Inv X pins σ H s)(hb:s.heap.objs.size<=b)(hn:H' b=none):a5L X pins H' b:=by
 refine⟨hn,a5O (E6 I.lt hb),I.nofs hb,.inr (J8 I.sz hb),fun x c e z=>?_,fun p hp z=>?_⟩
 ·obtain⟨v,q⟩:=I.cell x c e
  exact absurd (E6 q.lt (by rw[z];exact hb)) (M7 _)
 ·exact absurd (E6 (o9 (I.pin p hp).1) (by rw[z];exact hb)) (M7 _)
structure b5m(P:F3)(w:World)(K:Fg)(tg:Expr)(J:It)(fp:List Addr)(it:Addr)(tn:Nat->Heap->Prop):Prop where
 mem:it∈fp
 obj:∀i h,tn i h->∀b∈fp,∃o,h.get? b=some o/\∀v,o.data≠.cell v
 keep:∀i h h',tn i h->(∀b∈fp,∀o,h.get? b=some o->h'.get? b=some o)->tn i h'
 item:∀(X:Cx),X.prog=P->X.w=w->X.K=K->X.calm=true->∀(i:Nat) (pins:List (Addr×Obj)) (s:o0) (σ:St) (H:Hp) (E:Value->o0->Prop),Inv X pins σ H s->(∀b∈fp,a5L X pins H b)->tn i s.heap->J.go i H ->
  wpAny (model P w) X.A (pyNext (.ref it)) (fun r s1=>∃u,r=some u /\
   wpAny (model P w) X.A (a4G tg (.ref it) u) (fun _ s2=>∃x H',Inv X pins σ H' s2/\J1 x u/\J.yld i H x H'/\tn (i+1) s2.heap/\∀b∈fp,H' b=none) E s1) E s
 done:∀(X:Cx),X.prog=P->X.w=w->X.K=K->X.calm=true->∀(i:Nat) (pins:List (Addr×Obj)) (s:o0) (σ:St) (H:Hp) (E:Value->o0->Prop),Inv X pins σ H s->(∀b∈fp,a5L X pins H b)->tn i s.heap->J.stop i H ->
  wpAny (model P w) X.A (pyNext (.ref it)) (fun r s1=>r=none/\Inv X pins σ H s1) E s
 self:∀(A:L7) (i:Nat) (s:o0) (Q:Value->o0->Prop) (E:Value->o0->Prop),tn i s.heap->Q (.ref it) s->wpAny (model P w) A (pyIter (.ref it)) Q E s
abbrev TI:=St->Hp->(It->Hp->Prop)->Prop
def PIE(X:Cx)(pins:List (Addr×Obj))(σ:St)(tg:Expr)(R:It->Hp->Prop)(itv:Value)(s2:o0):Prop:=
 ∃(it:Addr) (fp:List Addr) (tn:Nat->Heap->Prop) (J:It) (H':Hp),itv=.ref it/\Inv X pins σ H' s2/\b5m X.prog X.w X.K tg J fp it tn/\tn 0 s2.heap/\(∀b∈fp,a5L X pins H' b)/\R J H'
def PI(X:Cx)(tg iter:Expr)(wi:TI):Prop:=
 ∀(pins:List (Addr×Obj)) (s:o0) (σ:St) (H:Hp) (R:It->Hp->Prop),Inv X pins σ H s->wi σ H R ->
  wpAny (model X.prog X.w) X.A (eval iter X.env) (fun v s1=>wpAny (model X.prog X.w) X.A (pyIter v) (PIE X pins σ tg R) X.xe s1) X.xe s
theorem c2k{M:Model}{A:L7}{E:Value->o0->Prop}{it:Addr}{o:Obj}{n:String}{vs:Array Value}{Q:Unit->o0->Prop}(ho:s.heap.get? it=some o)(hc:o.cls=.type n)(hd:o.data=.fields vs)
  (hn:["enumerate","zip","dict_itemiterator","dict_reverseitemiterator","odict_iterator","itertools.zip_longest","itertools.pairwise"].contains n=false) (hQ:Q () s):wpAny M A (a4G tg (.ref it) u) Q E s:=by
 unfold a4G
 cases tg <;> first
  | exact E5 hQ
  | (cases u <;> first
    | exact E5 hQ
    | (refine u6 (wpAny_load ho ?_)
       rw[hc,hd]
       show wpAny M A (if(["enumerate","zip","dict_itemiterator","dict_reverseitemiterator","odict_iterator","itertools.zip_longest","itertools.pairwise"].contains n&&vs[0]? == some (rawInt _))=true then _ else _) Q E s
       rw[if_neg (by intro h;rw[hn,Bool.false_and]at h;cases h)]
       exact E5 hQ))
def Itl(K:Fg)(a:Addr):It:=
 ⟨fun i H=>∃xs x,SqL K H a xs/\xs[i]? = some x,fun i H x H'=>H'=H/\∀xs,SqL K H a xs->xs[i]? = some x,fun i H=>∃xs,SqL K H a xs/\xs.length<=i⟩
def Itr(lo:Int)(n:Nat):It:=⟨fun i _=>i<n,fun i H x H'=>H'=H/\x=.int (lo+i),fun i _=>n<=i⟩
theorem b8g{P:F3}{K:Fg}(a it:Addr):b5m P w K tg (Itl K a) [it] it (fun i h=>h.IsListIter it a i) where
 mem:=by simp
 obj:=fun i h st b hb=>by
  have e:b=it:=by simpa using hb
  subst e
  obtain⟨o,e,c,d⟩:=st
  exact⟨o,e,fun v z=>by rw[d]at z;cases z⟩
 keep:=fun i h h' st k=>st.at fun o e=>k it (by simp) o e
 item:=by
  intro X hP hw hK hc i pins s σ H E I hf st hg
  subst hP hw hK
  obtain⟨xs,x,hq,hx⟩:=hg
  obtain⟨its,rv,p,hz⟩:=I.list hq
  obtain⟨u,hu,ru⟩:=rv.get hx
  obtain⟨f0,f1,f2,f3,f4,f5⟩:=hf it (by simp)
  refine wpAny_pyNext_list_item st p.isList (x:=u) (by simpa using hu) fun h' st' sb=>?_
  have I1:Inv X pins σ H { s with heap:=h' }:=I.turned (t':=s.toks) (fun b o hb e=>(sb.2 b hb).trans e) f0 f1 f3 f4 f5
  obtain⟨o,e,c,d⟩:=id st'
  exact⟨u,rfl,c2k (s:={ s with heap:=h' }) e c d (by decide) ⟨x,H,I1,ru,⟨rfl,fun ys hy=>by rw[I.list_inj hy hq];exact hx⟩,st',fun b hb=>(hf b hb).1⟩⟩
 done:=by
  intro X hP hw hK hc i pins s σ H E I hf st hg
  subst hP hw hK
  obtain⟨xs,hq,hx⟩:=hg
  obtain⟨its,rv,p,hz⟩:=I.list hq
  obtain⟨f0,f1,f2,f3,f4,f5⟩:=hf it (by simp)
  have hl:=rv.length
  exact wpAny_pyNext_list_end (I.ok.hd hc) st p.isList (by simp;omega) fun h' eb=>⟨rfl,I.turned (t':=s.toks) (fun b o hb e=>eb b o hb e) f0 f1 f3 f4 f5⟩
 self:=fun _ _ _ _ _ st h=>wpAny_pyIter_listiter st h
theorem b5F{P:F3}{K:Fg}(it:Addr)(lo:Int)(n:Nat):b5m P w K tg (Itr lo n) [it] it (fun i h=>IsRangeIter h it (lo+(i:Nat) * 1) ((n:Int) - (i:Nat)) 1) where
 mem:=by simp
 obj:=fun i h st b hb=>by
  have e:b=it:=by simpa using hb
  subst e
  exact⟨_,st,fun v z=>by
   have z':Data.fields _=Data.cell v:=z
   cases z'⟩
 keep:=fun i h h' st k=>k it (by simp) _ st
 item:=by
  intro X hP hw hK hc i pins s σ H E I hf st hg
  subst hP hw hK
  obtain⟨f0,f1,f2,f3,f4,f5⟩:=hf it (by simp)
  have W:=Walks.range (prog:=X.prog) (w:=X.w) (I.ok.hd hc) it lo 1 n
  refine W.item i s _ _ hg st fun v h' tk hv st' kk=>?_
  obtain⟨t,rfl⟩:=hv
  have I1:Inv X pins σ H { s with heap:=h',toks:=tk }:=I.turned (fun b o hb e=>kk b o (by simpa using hb) e) f0 f1 f3 f4 f5
  refine⟨_,rfl,c2k (s:={ s with heap:=h',toks:=tk }) (n := "range_iterator") st' rfl rfl (by decide) ⟨.int (lo+i),H,I1,⟨t,?_⟩,⟨rfl,rfl⟩,st',fun b hb=>(hf b hb).1⟩⟩
  rw[Int.mul_one]
 done:=by
  intro X hP hw hK hc i pins s σ H E I hf st hg
  subst hP hw hK
  obtain⟨f0,f1,f2,f3,f4,f5⟩:=hf it (by simp)
  exact wpAny_pyNext_range_end (I.ok.hd hc) st (by have:n<=i:=hg;omega) fun h' eb=>⟨rfl,I.turned (t':=s.toks) (fun b o hb e=>eb b o hb e) f0 f1 f3 f4 f5⟩
 self:=fun _ _ _ _ _ st h=>wpAny_pyIter_rangeiter st h
section
def a0M(K:Fg)(tl:TE):TI:=fun σ H R=>tl σ H fun x H1=>∃a,x=.ref a/\(∃xs,SqL K H1 a xs)/\R (Itl K a) H1
theorem c3I{l:Expr}{tl:TE}(hl:PE X l tl):PI X tg l (a0M X.K tl):=by
 intro pins s σ H R I h
 refine thn (hl pins s σ H _ I h) fun v s1 ⟨x,H1,I1,r1,q1⟩=>?_
 obtain⟨a,e,⟨xs,hq⟩,q⟩:=q1
 subst e
 cases r1
 obtain⟨its,rv,p,hz⟩:=I1.list hq
 refine b5z p.isList ?_
 refine⟨s1.heap.objs.size,[s1.heap.objs.size],_,_,H1,rfl,I1.kept (t':=s1.toks) fun b o e=>i9 _ e,b8g a _,⟨_,F2 _ rfl,rfl,rfl⟩,fun b hb=>?_,q⟩
 have e:b=s1.heap.objs.size:=by simpa using hb
 subst e
 exact I1.fpOk (o5 _) (I1.hok.fresh (o5 _))
theorem c1b{R:It->Hp->Prop}{E:Value->o0->Prop}{lo hi:Int}{t u v:Tok}{tk:Nat}(I:Inv X pins σ H s)(h1 : -(2 ^ 62)<=lo)(h2:lo<2 ^ 62)(h3 : -(2 ^ 62)<=hi)(h4:hi<2 ^ 62)
  (q:R (Itr lo (hi - lo).toNat) H):wpAny (model X.prog X.w) X.A (pyIter (.ref s.heap.objs.size)) (PIE X pins σ tg R) E { s with heap:=s.heap.push { cls:=.type "range",data:=.fields #[.int lo t,.int hi u,.int 1 v] },toks:=tk }:=by
 refine wpAny_pyIter_range (IsRange.new ..) (small_one h1 h2 h3 h4) ?_
 have I1:Inv X pins σ H { s with heap:=s.heap.push { cls:=.type "range",data:=.fields #[.int lo t,.int hi u,.int 1 v] },toks:=tk }:=I.kept fun b o e=>i9 _ e
 refine⟨(s.heap.push { cls:=.type "range",data:=.fields #[.int lo t,.int hi u,.int 1 v] }).objs.size,[(s.heap.push { cls:=.type "range",data:=.fields #[.int lo t,.int hi u,.int 1 v] }).objs.size],_,_,H,rfl,
  I1.kept (t':=tk) fun b o e=>i9 _ e,b5F _ lo (hi - lo).toNat,?_,fun b hb=>?_,q⟩
 ·have e1:lo+((0:Nat):Int) * 1=lo:=by simp
  have e2:(((hi - lo).toNat:Nat):Int) - ((0:Nat):Int)=Builtin.Range.rangeSize lo hi 1:=by rw[rangeSize_one];split <;> omega
  show IsRangeIter _ _ (lo+((0:Nat):Int) * 1) ((((hi - lo).toNat:Nat):Int) - ((0:Nat):Int)) 1
  rw[e1,e2]
  exact F2 _ rfl
 ·have e:b=(s.heap.push { cls:=.type "range",data:=.fields #[.int lo t,.int hi u,.int 1 v] }).objs.size:=by simpa using hb
  subst e
  exact I1.fpOk (o5 _) (I1.hok.fresh (o5 _))
def a1l(ta:TA):TI:=fun σ H R=>ta σ H fun vs H1=>∃j:Int,vs=[.int j] /\ -(2 ^ 62)<=j/\j<2 ^ 62/\R (Itr 0 j.toNat) H1
theorem b8C{a:Expr}{ta:TA}(hg:Gl X "range")(hm:X.mg "range" = none)(ha:PA X [a] ta)(hs:i8 [a] X.env=[(false,eval a X.env)]:=by rfl):PI X tg (.Call (.Name "range" p) [a] [] pos) (a1l ta):=by
 intro pins s σ H R I h
 refine Call_ (a5f I hg hm boot_range (Q0 (thn (ha pos pins s σ H _ I h) fun us s1 ⟨vs,H1,I1,r1,q1⟩=>?_) hs rfl))
 obtain⟨j,e,q1,q2,q⟩:=q1
 subst e
 cases r1 with
 | cons r rr=>
  cases rr
  obtain⟨t,rfl⟩:=r
  exact call_range_1 (c1b I1 (by omega) (by omega) q1 q2 (by simpa using q))
def a2C(wi:TI)(g:TG)(tb:TS):TS:=fun D σ H=>wi σ H fun J H1=>∃W:Nat->Nat->St->Hp->Prop,(∃m,W 0 m σ H1)/\∀i m σ H,W i m σ H ->
 (J.stop i H/\D.nx σ H)\/(J.go i H/\∃N:St->Hp->Prop,(∀σ' H',N σ' H'->∃m',m'<m/\W (i+1) m' σ' H')/\∀x H',J.yld i H x H'->g x σ H' fun σ2 H2=>tb { D with nx:=N,ct:=N,bk:=D.nx } σ2 H2)
def a6l(fp:List Addr)(h:Heap):List (Addr×Obj):=fp.filterMap fun b=>(h.get? b).map fun o=>(b,o)
theorem a1R{fp:List Addr}{o:Obj}(hb:b∈fp)(e:h.get? b=some o):(b,o)∈a6l fp h:=c2R.mpr ⟨b,hb,by rw[e];rfl⟩
theorem b8R{fp:List Addr}{p:Addr×Obj}(hp:p∈a6l fp h):p.1∈fp/\h.get? p.1=some p.2:=by
 obtain⟨b,hb,e⟩:=c2R.mp hp
 cases q:h.get? b with
 | none=>rw[q]at e;cases e
 | some o=>
  rw[q]at e
  have e':(b,o)=p:=Option.some.inj e
  subst e'
  exact⟨hb,q⟩
theorem Inv.pinned{fp:List Addr}(I:Inv X pins σ H s)(hf:∀b∈fp,a5L X pins H b)(ho:∀b∈fp,∃o,s.heap.get? b=some o/\∀v,o.data≠.cell v):Inv X (pins++a6l fp s.heap) σ H s:=
 I.pins_of fun p hp=>(C8.mp hp).elim (fun z=>I.pin p (C7 _ z)) fun z=>by
  obtain⟨hb,e⟩:=b8R z
  obtain⟨f0,f1,f2,_⟩:=hf p.1 hb
  obtain⟨o,e',d⟩:=ho p.1 hb
  rw[e]at e';cases e'
  exact⟨e,f0,f1,f2,d⟩
theorem Inv.unpinned{pl:List (Addr×Obj)}(I:Inv X (pins++pl) σ H s):Inv X pins σ H s:=I.pins_of fun p hp=>I.pin p (C7 _ (O2 _ hp))
theorem c6z{iter:Expr}{body:List Stmt}{wi:TI}(hp:c8t (model X.prog X.w) X.A X.env X.xe)(hc:X.calm=true)(hi:PI X tg iter wi)(hg:PG X tg g)(hb:PSs X body tb)
  (hs:∀x,Y9 iter X.env x=pure x:=by intro _;rfl):PS X (.For tg iter body [] pos) (a2C wi g tb):=by
 intro pins s σ H D I h
 refine wpAny_For (thn (hi pins s σ H _ I h) fun v s1 h1=>thn h1 fun itv s2 h2=>?_) hs
 obtain⟨it,fp,tn,J,H2,e,I2,T,st2,f2,W,⟨m0,w0⟩,turn⟩:=h2
 subst e
 have stat:∀ {H':Hp},(∀b∈fp,H' b=none)->∀b∈fp,a5L X pins H' b:=fun hn b hb=>⟨hn b hb,(f2 b hb).2⟩
 refine codeAny_forLoop_any (fun n s'=>∃i σ' H',Inv X pins σ' H' s'/\tn i s'.heap/\(∀b∈fp,H' b=none)/\W i n σ' H') ?_ m0 ⟨0,σ,H2,I2,st2,fun b hb=>(f2 b hb).1,w0⟩
 rintro n s3 ⟨i,σ3,H3,I3,st3,fr3,w3⟩
 rcases turn i n σ3 H3 w3 with ⟨stop,qn⟩ | ⟨go,N,hN,step⟩
 ·refine a1p hp (thn (T.done X rfl rfl rfl hc i pins s3 σ3 H3 X.xe I3 (stat fr3) st3 stop) fun r s4 ⟨hr,I4⟩=>?_)
  subst hr
  exact a9m ⟨σ3,H3,I4,qn⟩
 ·refine a1p hp (thn (T.item X rfl rfl rfl hc i pins s3 σ3 H3 X.xe I3 (stat fr3) st3 go) fun r s4 ⟨u,hr,h4⟩=>?_)
  subst hr
  refine a1p hp (thn h4 fun _ s5 ⟨x,H5,I5,r5,y5,st5,fr5⟩=>?_)
  have I5':=I5.pinned (stat fr5) (T.obj _ _ st5)
  refine a1p hp (thn (hg _ s5 σ3 H5 x u _ I5' r5 (step x H5 y5)) fun _ s6 ⟨σ6,H6,I6,q6⟩=>?_)
  refine a1p hp (thn (hb _ s6 σ6 H6 _ I6 q6) fun f s7 q7=>?_)
  have again:∀ {σ7:St} {H7:Hp},Inv X (pins++a6l fp s5.heap) σ7 H7 s7->N σ7 H7->∃m,m<n/\∃i σ' H',Inv X pins σ' H' s7/\tn i s7.heap/\(∀b∈fp,H' b=none)/\W i m σ' H':=fun {σ7 H7} I7 n7=>by
   obtain⟨m',hm,w7⟩:=hN σ7 H7 n7
   refine⟨m',hm,i+1,σ7,H7,I7.unpinned,T.keep _ _ _ st5 fun b hb o e=>(I7.pin (b,o) (C7 _ (C7 _ (a1R hb e)))).1,fun b hb=>?_,w7⟩
   obtain⟨o,e,d⟩:=T.obj _ _ st5 b hb
   exact(I7.pin (b,o) (C7 _ (C7 _ (a1R hb e)))).2.1
  cases f with
  | next=>obtain⟨σ7,H7,I7,n7⟩:=q7;exact again I7 n7
  | cont=>obtain⟨σ7,H7,I7,n7⟩:=q7;exact again I7 n7
  | brk=>obtain⟨σ7,H7,I7,q7⟩:=q7;exact⟨σ7,H7,I7.unpinned,q7⟩
  | ret v=>obtain⟨x7,σ7,H7,I7,r7,q7⟩:=q7;exact⟨x7,σ7,H7,I7.unpinned,r7,q7⟩
end
theorem a3M{K:Fg}{D:a6v}(Pv:Nat->St->Hp->Prop)(h0:Pv 0 σ H)(hl:∀i σ H,i<=xs.length->Pv i σ H->SqL K H a xs)
  (hs:∀i x σ H,xs[i]? = some x->Pv i σ H->g x σ H fun σ2 H2=>tb { D with nx:=Pv (i+1),ct:=Pv (i+1),bk:=D.nx } σ2 H2) (hd:∀σ H,Pv xs.length σ H->D.nx σ H) :
  ∃W:Nat->Nat->St->Hp->Prop,(∃m,W 0 m σ H)/\∀i m σ H,W i m σ H ->
   ((Itl K a).stop i H/\D.nx σ H)\/((Itl K a).go i H/\∃N:St->Hp->Prop,(∀σ' H',N σ' H'->∃m',m'<m/\W (i+1) m' σ' H')/\∀x H',(Itl K a).yld i H x H'->g x σ H' fun σ2 H2=>tb { D with nx:=N,ct:=N,bk:=D.nx } σ2 H2):=by
 refine⟨fun i m σ H=>m=xs.length - i/\i<=xs.length/\Pv i σ H,⟨xs.length,by simp,O6 _,h0⟩,?_⟩
 rintro i m σ H ⟨rfl,hi,p⟩
 have q:=hl i σ H hi p
 by_cases hlt:i<xs.length
 ·refine .inr ⟨⟨xs,xs[i],q,by simp[hlt]⟩,Pv (i+1),fun σ' H' p'=>⟨xs.length - (i+1),by omega,rfl,hlt,p'⟩,fun x H' y=>?_⟩
  obtain⟨e,y⟩:=y
  subst e
  exact hs i x σ _ (y xs q) p
 ·have e:i=xs.length:=by omega
  subst e
  exact .inl ⟨⟨xs,q,o5 _⟩,hd σ H p⟩
theorem a0I{lo:Int}{n:Nat}{D:a6v}(Pv:Nat->St->Hp->Prop)(h0:Pv 0 σ H)
  (hs:∀i σ H,i<n->Pv i σ H->g (.int (lo+i)) σ H fun σ2 H2=>tb { D with nx:=Pv (i+1),ct:=Pv (i+1),bk:=D.nx } σ2 H2) (hd:∀σ H,Pv n σ H->D.nx σ H) :
  ∃W:Nat->Nat->St->Hp->Prop,(∃m,W 0 m σ H)/\∀i m σ H,W i m σ H ->
   ((Itr lo n).stop i H/\D.nx σ H)\/((Itr lo n).go i H/\∃N:St->Hp->Prop,(∀σ' H',N σ' H'->∃m',m'<m/\W (i+1) m' σ' H')/\∀x H',(Itr lo n).yld i H x H'->g x σ H' fun σ2 H2=>tb { D with nx:=N,ct:=N,bk:=D.nx } σ2 H2):=by
 refine⟨fun i m σ H=>m=n - i/\i<=n/\Pv i σ H,⟨n,by simp,O6 _,h0⟩,?_⟩
 rintro i m σ H ⟨rfl,hi,p⟩
 by_cases hlt:i<n
 ·refine .inr ⟨hlt,Pv (i+1),fun σ' H' p'=>⟨n - (i+1),by omega,rfl,hlt,p'⟩,fun x H' y=>?_⟩
  obtain⟨e,y⟩:=y
  subst e y
  exact hs i σ _ hlt p
 ·have e:i=n:=by omega
  subst e
  exact .inl ⟨o5 _,hd σ H p⟩
abbrev R2:=V->V->Hp->VK->Prop
def OpR(X:Cx)(f:Value->Value->Sem Value)(r:R2):Prop:=
 ∀(pins:List (Addr×Obj)) (s:o0) (σ:St) (H:Hp) (x y:V) (v u:Value) (Q:VK),Inv X pins σ H s->J1 x v->J1 y u->r x y H Q ->
  wpAny (model X.prog X.w) X.A (f v u) (EP X pins σ Q) X.xe s
def UnR(X:Cx)(f:Value->Sem Value)(r:V->Hp->VK->Prop):Prop:=
 ∀(pins:List (Addr×Obj)) (s:o0) (σ:St) (H:Hp) (x:V) (v:Value) (Q:VK),Inv X pins σ H s->J1 x v->r x H Q ->
  wpAny (model X.prog X.w) X.A (f v) (EP X pins σ Q) X.xe s
def X0(X:Cx)(f:Value)(r:List V->Hp->VK->Prop):Prop:=
 ∀(pins:List (Addr×Obj)) (s:o0) (σ:St) (H:Hp) (xs:List V) (us:List Value) (Q:VK),Inv X pins σ H s->J3 xs us->r xs H Q ->
  wpAny (model X.prog X.w) X.A (call f us) (EP X pins σ Q) X.xe s
def tOp(r:R2)(ta tb:TE):TE:=fun σ H Q=>ta σ H fun x H1=>tb σ H1 fun y H2=>r x y H2 Q
def tUn(r:V->Hp->VK->Prop)(ta:TE):TE:=fun σ H Q=>ta σ H fun x H1=>r x H1 Q
def rI(C:Int->Int->Prop)(g:Int->Int->V):R2:=fun x y H Q=>∃i j,x=.int i/\y=.int j/\C i j/\Q (g i j) H
def rI0(g:Int->Int->V):R2:=fun x y H Q=>∃i j,x=.int i/\y=.int j/\Q (g i j) H
def rU(g:Int->V):V->Hp->VK->Prop:=fun x H Q=>∃i,x=.int i/\Q (g i) H
section
variable {a b:Expr}{tb tc:TE}
theorem c7T(ha:PE X a ta)(hb:PE X b tb){R:V->V->Hp->Prop}(I:Inv X pins σ H s)
  (h:ta σ H fun x H1=>tb σ H1 fun y H2=>R x y H2) {Q:Value->o0->Prop} {f:Value->Value->Sem Value}
  (hf:∀v u s2 x y H2,Inv X pins σ H2 s2->J1 x v->J1 y u->R x y H2->wpAny (model X.prog X.w) X.A (f v u) Q X.xe s2) :
  wpAny (model X.prog X.w) X.A (eval a X.env) (fun v s₁=>wpAny (model X.prog X.w) X.A (eval b X.env) (fun u s₂=>wpAny (model X.prog X.w) X.A (f v u) Q X.xe s₂) X.xe s₁) X.xe s:=by
 refine thn (ha pins s σ H _ I h) fun v s1 ⟨x,H1,I1,r1,q1⟩=>?_
 refine thn (hb pins s1 σ H1 _ I1 q1) fun u s2 ⟨y,H2,I2,r2,q2⟩=>?_
 exact hf v u s2 x y H2 I2 r1 r2 q2
theorem c9a{op:b9L}{r:R2}(ho:OpR X (a0a op) r)(ha:PE X a ta)(hb:PE X b tb):PE X (.BinOp a op b pos) (tOp r ta tb):=by
 intro pins s σ H Q I h
 exact wpAny_BinOp (c7T ha hb I h fun v u s2 x y H2 I2 rx ry q=>ho pins s2 σ H2 x y v u Q I2 rx ry q)
theorem c8Y{op:UnaryOp}{r:V->Hp->VK->Prop}(ho:UnR X (unaryOp op) r)(ha:PE X a ta):PE X (.UnaryOp op a pos) (tUn r ta):=by
 intro pins s σ H Q I h
 exact UnaryOp_ (thn (ha pins s σ H _ I h) fun v s1 ⟨x,H1,I1,r1,q1⟩=>ho pins s1 σ H1 x v Q I1 r1 q1)
theorem opI{f:Value->Value->Sem Value}{C:Int->Int->Prop}{g:Int->Int->Int}
  (rule:∀(i j:Int) (t u:Tok) (s:o0) (Q:Value->o0->Prop) (E:Value->o0->Prop),C i j->Q (.int (g i j) s.toks) { s with toks:=s.toks+1 }->wpAny (model X.prog X.w) X.A (f (.int i t) (.int j u)) Q E s) :
  OpR X f (rI C fun i j=>.int (g i j)):=by
 intro pins s σ H x y v u Q I rx ry h
 obtain⟨i,j,rfl,rfl,hc,q⟩:=h
 obtain⟨t,rfl⟩:=rx
 obtain⟨t',rfl⟩:=ry
 exact rule i j t t' s _ _ hc ⟨.int (g i j),H,I.tok _,⟨_,rfl⟩,q⟩
theorem c9l{f:Value->Value->Sem Value}{g:Int->Int->Int}
  (rule:∀(i j:Int) (t u:Tok) (s:o0) (Q:Value->o0->Prop) (E:Value->o0->Prop),Q (.int (g i j) s.toks) { s with toks:=s.toks+1 }->wpAny (model X.prog X.w) X.A (f (.int i t) (.int j u)) Q E s) :
  OpR X f (rI0 fun i j=>.int (g i j)):=by
 intro pins s σ H x y v u Q I rx ry h
 obtain⟨i,j,rfl,rfl,q⟩:=h
 obtain⟨t,rfl⟩:=rx
 obtain⟨t',rfl⟩:=ry
 exact rule i j t t' s _ _ ⟨.int (g i j),H,I.tok _,⟨_,rfl⟩,q⟩
theorem c4i{f:Value->Value->Sem Value}{g:Int->Int->Bool}
  (rule:∀(i j:Int) (t u:Tok) (s:o0) (Q:Value->o0->Prop) (E:Value->o0->Prop),Q (.bool (g i j)) s->wpAny (model X.prog X.w) X.A (f (.int i t) (.int j u)) Q E s) :
  OpR X f (rI0 fun i j=>.bl (g i j)):=by
 intro pins s σ H x y v u Q I rx ry h
 obtain⟨i,j,rfl,rfl,q⟩:=h
 obtain⟨t,rfl⟩:=rx
 obtain⟨t',rfl⟩:=ry
 exact rule i j t t' s _ _ ⟨.bl (g i j),H,I,rfl,q⟩
def c4V(i j:Int):Prop:=(-(2 ^ 64)<i/\i<2 ^ 64)\/(-(2 ^ 64)<j/\j<2 ^ 64)
theorem c4V.ok{i j:Int}(h:c4V i j):IntMulOk i j:=by
 rcases h with ⟨h1,h2⟩ | ⟨h1,h2⟩
 ·exact .of_left (intBits_le_64 h1 h2)
 ·exact .of_right (intBits_le_64 h1 h2)
theorem c7k:OpR X (a0a .Add) (rI0 fun i j=>.int (i+j)):=c9l fun _ _ _ _ _ _ _ q=>add_int q
theorem c6W:OpR X (a0a .Sub) (rI0 fun i j=>.int (i - j)):=c9l fun _ _ _ _ _ _ _ q=>sub_int q
theorem c7g:OpR X (a0a .Mult) (rI c4V fun i j=>.int (i * j)):=opI fun _ _ _ _ _ _ _ hc q=>mul_int q hc.ok
theorem c7h:OpR X (a0a .Mod) (rI (fun _ j=>0<j) fun i j=>.int (i % j)):=opI fun i j _ _ _ _ _ hc q=>by
 have h1:(0:Int)<j:=hc
 exact mod_int' (by omega) (by rw[Int.fmod_eq_emod_of_nonneg i (by omega)];exact q)
theorem unI{f:Value->Sem Value}{g:Int->Int}
  (rule:∀(i:Int) (t:Tok) (s:o0) (Q:Value->o0->Prop) (E:Value->o0->Prop),Q (.int (g i) s.toks) { s with toks:=s.toks+1 }->wpAny (model X.prog X.w) X.A (f (.int i t)) Q E s) :
  UnR X f (rU fun i=>.int (g i)):=by
 intro pins s σ H x v Q I rx h
 obtain⟨i,rfl,q⟩:=h
 obtain⟨t,rfl⟩:=rx
 exact rule i t s _ _ ⟨.int (g i),H,I.tok _,⟨_,rfl⟩,q⟩
theorem c5J:UnR X (unaryOp .USub) (rU fun i=>.int (-i)):=unI fun _ _ _ _ _ q=>neg_int q
end
def b4q:V->V->Bool
 | .non,.non=>true | .non,.int _=>true | .int _,.non=>true | .non,.bl _=>true | .bl _,.non=>true | .non,.str _=>true | .str _,.non=>true
 | .int _,.int _=>true | .bl _,.bl _=>true | .str _,.str _=>true | .byt _,.byt _=>true
 | .int _,.str _=>true | .str _,.int _=>true | .bl _,.str _=>true | .str _,.bl _=>true
 | _,_=>false
def rEq:R2:=fun x y H Q=>b4q x y=true/\Q (.bl (decide (x=y))) H
def rNe:R2:=fun x y H Q=>b4q x y=true/\Q (.bl (!decide (x=y))) H
theorem b7N{i j:Int}:decide (V.int i=V.int j)=(i == j):=by
 rw[a1G]
 simp
theorem c2t{i j:Bool}:decide (V.bl i=V.bl j)=(i == j):=by
 rw[a1G]
 simp
theorem b7M{i j:Str}:decide (V.str i=V.str j)=(i == j):=by
 rw[a1G]
 simp
theorem b7O{i j:Array UInt8}:decide (V.byt i=V.byt j)=(i.toList == j.toList):=by
 rw[a1G]
 cases i
 cases j
 simp
section
variable {a b:Expr}{tb tc:TE}
theorem O1{Q:VK}{k k':Bool}(I:Inv X pins σ H s)(q:Q (.bl k) H)(e:k=k'):EP X pins σ Q (.bool k') s:=by
 subst e
 exact⟨.bl k,H,I,rfl,q⟩
theorem c9k:OpR X (A3 .Eq) rEq:=by
 intro pins s σ H x y v u Q I rx ry h
 obtain⟨hs,q⟩:=h
 cases x with
 | non=>
  cases rx
  cases y with
  | non=>cases ry;exact PySem.EqNone.eq_none_none (O1 I q (by simp))
  | bl j=>cases ry;exact PySem.EqNone.eq_none_bool (O1 I q (by simp))
  | int j=>obtain⟨t',rfl⟩:=ry;exact PySem.EqNone.eq_none_int (O1 I q (by simp))
  | str j=>obtain⟨t',rfl⟩:=ry;exact PySem.EqNone.eq_none_str (O1 I q (by simp))
  | _=>exact absurd (show false=true from hs) A4
 | bl i=>
  cases rx
  cases y with
  | non=>cases ry;exact PySem.EqNone.eq_bool_none (O1 I q (by simp))
  | bl j=>cases ry;exact eq_bool (O1 I q c2t)
  | str j=>obtain⟨t',rfl⟩:=ry;exact PySem.EqMixed.eq_bool_str (O1 I q (by simp))
  | _=>exact absurd (show false=true from hs) A4
 | int i=>
  obtain⟨t,rfl⟩:=rx
  cases y with
  | non=>cases ry;exact PySem.EqNone.eq_int_none (O1 I q (by simp))
  | int j=>obtain⟨t',rfl⟩:=ry;exact eq_int (O1 I q b7N)
  | str j=>obtain⟨t',rfl⟩:=ry;exact PySem.EqMixed.eq_int_str (O1 I q (by simp))
  | _=>exact absurd (show false=true from hs) A4
 | str i=>
  obtain⟨t,rfl⟩:=rx
  cases y with
  | non=>cases ry;exact PySem.EqNone.eq_str_none (O1 I q (by simp))
  | bl j=>cases ry;exact PySem.EqMixed.eq_str_bool (O1 I q (by simp))
  | int j=>obtain⟨t',rfl⟩:=ry;exact PySem.EqMixed.eq_str_int (O1 I q (by simp))
  | str j=>obtain⟨t',rfl⟩:=ry;exact eq_str (O1 I q b7M)
  | _=>exact absurd (show false=true from hs) A4
 | byt i=>
  obtain⟨t,rfl⟩:=rx
  cases y with
  | byt j=>obtain⟨t',rfl⟩:=ry;exact PySem.W.eq_bytes (O1 I q b7O)
  | _=>exact absurd (show false=true from hs) A4
 | _=>cases y <;> exact absurd (show false=true from hs) A4
theorem c9f:OpR X (A3 .NotEq) rNe:=by
 intro pins s σ H x y v u Q I rx ry h
 obtain⟨hs,q⟩:=h
 cases x with
 | non=>
  cases rx
  cases y with
  | non=>cases ry;exact PySem.EqNone.ne_none_none (O1 I q (by simp))
  | bl j=>cases ry;exact PySem.EqNone.ne_none_bool (O1 I q (by simp))
  | int j=>obtain⟨t',rfl⟩:=ry;exact PySem.EqNone.ne_none_int (O1 I q (by simp))
  | str j=>obtain⟨t',rfl⟩:=ry;exact PySem.EqNone.ne_none_str (O1 I q (by simp))
  | _=>exact absurd (show false=true from hs) A4
 | bl i=>
  cases rx
  cases y with
  | non=>cases ry;exact PySem.EqNone.ne_bool_none (O1 I q (by simp))
  | bl j=>cases ry;exact ne_bool (O1 I q (congrArg not c2t))
  | str j=>obtain⟨t',rfl⟩:=ry;exact PySem.EqMixed.ne_bool_str (O1 I q (by simp))
  | _=>exact absurd (show false=true from hs) A4
 | int i=>
  obtain⟨t,rfl⟩:=rx
  cases y with
  | non=>cases ry;exact PySem.EqNone.ne_int_none (O1 I q (by simp))
  | int j=>obtain⟨t',rfl⟩:=ry;exact ne_int (O1 I q (congrArg not b7N))
  | str j=>obtain⟨t',rfl⟩:=ry;exact PySem.EqMixed.ne_int_str (O1 I q (by simp))
  | _=>exact absurd (show false=true from hs) A4
 | str i=>
  obtain⟨t,rfl⟩:=rx
  cases y with
  | non=>cases ry;exact PySem.EqNone.ne_str_none (O1 I q (by simp))
  | bl j=>cases ry;exact PySem.EqMixed.ne_str_bool (O1 I q (by simp))
  | int j=>obtain⟨t',rfl⟩:=ry;exact PySem.EqMixed.ne_str_int (O1 I q (by simp))
  | str j=>obtain⟨t',rfl⟩:=ry;exact ne_str (O1 I q (congrArg not b7M))
  | _=>exact absurd (show false=true from hs) A4
 | byt i=>
  obtain⟨t,rfl⟩:=rx
  cases y with
  | byt j=>obtain⟨t',rfl⟩:=ry;exact PySem.W.ne_bytes (O1 I q (congrArg not b7O))
  | _=>exact absurd (show false=true from hs) A4
 | _=>cases y <;> exact absurd (show false=true from hs) A4
theorem c9g:OpR X (A3 .Lt) (rI0 fun i j=>.bl (decide (i<j))):=c4i fun _ _ _ _ _ _ _ q=>lt_int q
theorem c9h:OpR X (A3 .LtE) (rI0 fun i j=>.bl (decide (i<=j))):=c4i fun _ _ _ _ _ _ _ q=>le_int q
theorem c9i:OpR X (A3 .Gt) (rI0 fun i j=>.bl (decide (j<i))):=c4i fun _ _ _ _ _ _ _ q=>gt_int q
theorem c9j:OpR X (A3 .GtE) (rI0 fun i j=>.bl (decide (j<=i))):=c4i fun _ _ _ _ _ _ _ q=>ge_int q
theorem b8I:OpR X (A3 .In) (fun x y H Q=>∃i j,x=.str i/\y=.str j/\Q (.bl (!(Builtin.Str.occurrences j i 0 j.length 1).isEmpty)) H):=by
 intro pins s σ H x y v u Q I rx ry h
 obtain⟨i,j,rfl,rfl,q⟩:=h
 obtain⟨t,rfl⟩:=rx
 obtain⟨t',rfl⟩:=ry
 exact in_str (O1 I q rfl)
theorem c7i:OpR X (A3 .Is) (fun x y H Q=>y=.non/\Q (.bl (decide (x=.non))) H):=by
 intro pins s σ H x y v u Q I rx ry h
 obtain⟨rfl,q⟩:=h
 cases ry
 refine is_none_gen (O1 I q ?_)
 cases x <;> first
  | (cases rx;rfl)
  | (obtain⟨t,rfl⟩:=rx;rfl)
theorem c4h:OpR X (A3 .IsNot) (fun x y H Q=>y=.non/\Q (.bl (!decide (x=.non))) H):=by
 intro pins s σ H x y v u Q I rx ry h
 obtain⟨rfl,q⟩:=h
 cases ry
 refine isnot_none_gen (O1 I q ?_)
 cases x <;> first
  | (cases rx;rfl)
  | (obtain⟨t,rfl⟩:=rx;rfl)
theorem OpR.or{f:Value->Value->Sem Value}{r r':R2}(h:OpR X f r)(h':OpR X f r'):OpR X f (fun x y H Q=>r x y H Q\/r' x y H Q):=by
 intro pins s σ H x y v u Q I rx ry q
 rcases q with q | q
 ·exact h pins s σ H x y v u Q I rx ry q
 ·exact h' pins s σ H x y v u Q I rx ry q
theorem Z9(b:Expr){op:CmpOp}(h:op≠.In:=by decide)(h2:op≠.NotIn:=by decide):T9 op b=false:=by
 have e1:(op == CmpOp.In)=false:=by cases op <;> first | rfl | exact absurd rfl h
 have e2:(op == CmpOp.NotIn)=false:=by cases op <;> first | rfl | exact absurd rfl h2
 cases b <;> simp[T9,e1,e2]
theorem c3P{op:CmpOp}{r:R2}(ho:OpR X (A3 op) r)(ha:PE X a ta)(hb:PE X b tb)(hm:T9 op b=false):PE X (.Compare a [op] [b] pos) (tOp r ta tb):=by
 intro pins s σ H Q I h
 exact wpAny_Compare1 (c7T ha hb I h fun v u s2 x y H2 I2 rx ry q=>ho pins s2 σ H2 x y v u Q I2 rx ry q) hm
def D0(t:TE):TT:=fun σ H Q=>t σ H fun x H'=>∃k,x=.bl k/\Q k H'
theorem c3z{op:CmpOp}{r:R2}(ho:OpR X (A3 op) r)(ha:PE X a ta)(hb:PE X b tb)(hm:T9 op b=false):PT X (.Compare a [op] [b] pos) (D0 (tOp r ta tb)):=by
 intro pins s σ H Q I h
 refine c8p (thn (ha pins s σ H _ I h) fun v s1 ⟨x,H1,I1,r1,q1⟩=>thn (hb pins s1 σ H1 _ I1 q1) fun u s2 ⟨y,H2,I2,r2,q2⟩=>
  thn (ho pins s2 σ H2 x y v u _ I2 r1 r2 q2) fun c s3 ⟨z,H3,I3,r3,k,e,q3⟩=>?_) hm
 subst e
 cases r3
 exact N6 ⟨H3,I3,q3⟩
def a3o(r r':R2)(ta tb tc:TE):TE:=fun σ H Q=>ta σ H fun x H1=>tb σ H1 fun y H2=>r x y H2 fun z H3=>∃k,z=.bl k /\
 (if k=true then tc σ H3 fun w' H4=>r' y w' H4 Q else Q (.bl false) H3)
theorem c1z{op op':CmpOp}{r r':R2}(ho:OpR X (A3 op) r)(ho':OpR X (A3 op') r')(ha:PE X a ta)(hb:PE X b tb)(hc:PE X c tc)
  (hm:c8r [op,op'] [b,c]=false:=by with_unfolding_all rfl):PE X (.Compare a [op,op'] [b,c] pos) (a3o r r' ta tb tc):=by
 intro pins s σ H Q I h
 refine Compare_chain (thn (ha pins s σ H _ I h) fun v s1 ⟨x,H1,I1,r1,q1⟩=>chain_link (thn (hb pins s1 σ H1 _ I1 q1) fun u s2 ⟨y,H2,I2,r2,q2⟩=>
  thn (ho pins s2 σ H2 x y v u _ I2 r1 r2 q2) fun d s3 ⟨z,H3,I3,r3,k,e,q3⟩=>?_)) hm
 subst e
 cases r3
 refine N6 ?_
 cases k with
 | false=>exact ite_ff ⟨.bl false,H3,I3,rfl,q3⟩
 | true=>exact ite_tt (chain_last (thn (hc pins s3 σ H3 _ I3 q3) fun w' s4 ⟨z',H4,I4,r4,q4⟩=>ho' pins s4 σ H4 y z' u w' Q I4 r2 r4 q4))
theorem c1n{op op':CmpOp}{r r':R2}(ho:OpR X (A3 op) r)(ho':OpR X (A3 op') r')(ha:PE X a ta)(hb:PE X b tb)(hc:PE X c tc)
  (hm:c8r [op,op'] [b,c]=false:=by with_unfolding_all rfl):PT X (.Compare a [op,op'] [b,c] pos) (D0 (a3o r r' ta tb tc)):=by
 intro pins s σ H Q I h
 refine isTrue_chain (thn (ha pins s σ H _ I h) fun v s1 ⟨x,H1,I1,r1,q1⟩=>test_link (thn (hb pins s1 σ H1 _ I1 q1) fun u s2 ⟨y,H2,I2,r2,q2⟩=>
  thn (ho pins s2 σ H2 x y v u _ I2 r1 r2 q2) fun d s3 ⟨z,H3,I3,r3,k,e,q3⟩=>?_)) hm
 subst e
 cases r3
 refine N6 ?_
 cases k with
 | false=>
  obtain⟨k',e',q'⟩:=q3
  cases e'
  exact ite_ff ⟨H3,I3,q'⟩
 | true=>
  refine ite_tt (test_last (thn (hc pins s3 σ H3 _ I3 q3) fun w' s4 ⟨z',H4,I4,r4,q4⟩=>thn (ho' pins s4 σ H4 y z' u w' _ I4 r2 r4 q4) fun d' s5 ⟨z2,H5,I5,r5,k2,e2,q5⟩=>?_))
  subst e2
  cases r5
  exact N6 ⟨H5,I5,q5⟩
theorem a6s:(v6:Nat)<2 ^ 63:=by rw[sizeLine_eq];decide
theorem b6p:OpR X (a0a .Add) (fun x y H Q=>∃i j,x=.str i/\y=.str j/\i.length+j.length<=v6/\Q (.str (i++j)) H):=by
 intro pins s σ H x y v u Q I rx ry h
 obtain⟨i,j,rfl,rfl,hz,q⟩:=h
 obtain⟨t,rfl⟩:=rx
 obtain⟨t',rfl⟩:=ry
 exact add_str (fun t' tk=>⟨.str (i++j),H,I.tok _,⟨_,rfl⟩,q⟩) hz
theorem a4Q{x:V}(r:J3 [x] us):∃u,us=[u]/\J1 x u:=by
 cases r with
 | cons r1 r2=>cases r2;exact⟨_,rfl,r1⟩
theorem b7h{x:V}(r:J3 [x,y] us):∃u w',us=[u,w']/\J1 x u/\J1 y w':=by
 cases r with
 | cons r1 r2=>
  cases r2 with
  | cons r3 r4=>cases r4;exact⟨_,_,rfl,r1,r3⟩
theorem c2B:X0 X (.builtin "abs") (fun xs H Q=>∃i,xs=[.int i]/\Q (.int (if i<0 then -i else i)) H):=by
 intro pins s σ H xs us Q I r h
 obtain⟨i,rfl,q⟩:=h
 obtain⟨u,rfl,t,rfl⟩:=a4Q r
 exact call_abs_int fun u tk=>⟨.int (if i<0 then -i else i),H,I.tok _,⟨_,rfl⟩,q⟩
theorem b9y(hc:X.calm=true):X0 X (.builtin "max") (fun xs H Q=>∃i j,xs=[.int i,.int j]/\Q (.int (if j > i then j else i)) H):=by
 intro pins s σ H xs us Q I r h
 obtain⟨i,j,rfl,q⟩:=h
 obtain⟨u,w',rfl,⟨t,rfl⟩,⟨t',rfl⟩⟩:=b7h r
 refine max_two_ints (I.ok.hd hc) fun h' tk k=>⟨_,H,I.kept k,?_,q⟩
 by_cases hj:j > i
 ·rw[if_pos hj,if_pos hj];exact⟨_,rfl⟩
 ·rw[if_neg hj,if_neg hj];exact⟨_,rfl⟩
theorem b9x(hc:X.calm=true):X0 X (.builtin "min") (fun xs H Q=>∃i j,xs=[.int i,.int j]/\Q (.int (if j<i then j else i)) H):=by
 intro pins s σ H xs us Q I r h
 obtain⟨i,j,rfl,q⟩:=h
 obtain⟨u,w',rfl,⟨t,rfl⟩,⟨t',rfl⟩⟩:=b7h r
 refine min_two_ints (I.ok.hd hc) fun h' tk k=>⟨_,H,I.kept k,?_,q⟩
 by_cases hj:j<i
 ·rw[if_pos hj,if_pos hj];exact⟨_,rfl⟩
 ·rw[if_neg hj,if_neg hj];exact⟨_,rfl⟩
theorem b9z:X0 X (.type "int") (fun xs H Q=>(∃i,xs=[.int i]/\Q (.int i) H)\/∃k,xs=[.bl k]/\Q (.int (if k then 1 else 0)) H):=by
 intro pins s σ H xs us Q I r h
 rcases h with ⟨i,rfl,q⟩ | ⟨k,rfl,q⟩
 ·obtain⟨u,rfl,t,rfl⟩:=a4Q r
  exact call_int_int ⟨.int i,H,I,⟨_,rfl⟩,q⟩
 ·obtain⟨u,rfl,r1⟩:=a4Q r
  cases r1
  exact call_int_bool ⟨.int (if k then 1 else 0),H,I.tok _,⟨_,rfl⟩,q⟩
end
structure b6Z(h:Heap)(x dx C:Addr)(mA:Str->Option Value):Prop where
 obj:h.get? x=some (Y6 C dx)
 ns:h.Ns1 dx mA
 ne:dx≠x
theorem b8Y{mA:Str->Option Value}(n:h.Ns1 dx mA):∃od,h.get? dx=some od/\∀name,a5M name od=some (mA name):=by
 obtain⟨o,es,ep,ho,hd,hk,_,hm⟩:=n
 refine⟨o,ho,fun name=>?_⟩
 have e:=hm name
 unfold nsFind findBy at e
 rw[<-Array.find?_toList]at e
 unfold a5M
 rw[hd]
 dsimp only
 split
 ·rename_i y q
  rw[q]at e
  exact congrArg some e
 ·rename_i q
  rw[q]at e
  have a:es.toList.any (·.refKey)=false:=by
   rw[List.any_eq_false]
   intro y hy
   obtain⟨z,t,hkey⟩:=hk y (Array.mem_toList_iff.mp hy)
   simp[DictEntry.refKey,hkey]
  have a':¬es.toList.any (·.refKey)=true:=by rw[a];exact A4
  rw[if_neg a']
  exact congrArg some e
theorem b6Z.look{x:Addr}{mA:Str->Option Value}(I:b6Z h x dx C mA):∃od,PySem.W.InstAt h x (Y6 C dx) C (some od)/\∀name,a5M name od=some (mA name):=
 let⟨od,ho,hl⟩:=b8Y I.ns
 ⟨od,⟨I.obj,rfl,rfl,ho⟩,hl⟩
section
variable {prog:F3}{A:L7}{E:Value->o0->Prop}{K:Fg}{x:Addr}{mA:Str->Option Value}{name:Str}{v:Value}
theorem c4I{expr:Bool}(X:K.In s.heap)(I:b6Z s.heap x dx C mA)(hg:a2d K C name=true)(hh:a3x K C=true)
  (ha:G9 K (.ref C) name=some none) (hv:mA name=some v) (hv':c2J v=true) (h:Q v { s with toks:=s.toks+1 }) :
  wpAny (model prog w) A (getAttr (.ref x) name expr) Q E s:=by
 obtain⟨od,J,hl⟩:=I.look
 exact PySem.W.get_value X J (a6y hg).1 (PySem.W.findObj_own hh ha rfl (by rw[hl,hv])) hv' h
theorem c2l{pl:Sem Bool}{Q:Value×List Value->o0->Prop}(X:K.In s.heap)(I:b6Z s.heap x dx C mA)(hg:a2d K C name=true)
  (hf:G9 K (.ref C) name=some (some (.ref f))) (ht:a8i K (.ref f)=true) (hv:mA name=none) (h:Q (.ref f,[.ref x]) s) :
  wpAny (model prog w) A (b9S (.ref x) name pl) Q E s:=by
 obtain⟨od,J,hl⟩:=I.look
 exact PySem.W.method_fn X J (a6y hg).1 (a6y hg).2 hf (beq_iff_eq.mp ht) (by show(a5M name od).map (·.isSome)=some false;rw[hl,hv];rfl) h
theorem c3i{ns:List Str}{Q:Unit->o0->Prop}(X:K.In s.heap)(I:b6Z s.heap x dx C mA)
  (hs:G9 K (.ref C) "__setattr__" = some (some (.builtin "object.__setattr__"))) (hp:a8g K C=true) (ht:b0M K C name=some none) (hh:a3x K C=true)
  (hw:PySem.Within mA ns) (hsz:ns.length<=v6)
  (h:∀h',b6Z h' x dx C (fun y=>if y=name then some v else mA y)->Heap.SameBut dx s.heap h'->Q () { s with heap:=h',toks:=s.toks+2 }) :
  wpAny (model prog w) A (setAttr (.ref x) name v) Q E s:=by
 obtain⟨od,J,hl⟩:=I.look
 refine PySem.W.set_plain X J hs (PySem.W.osa_open (s:={ s with toks:=s.toks+1 }) (r:=none) X J hp ht fun b=>?_)
 obtain⟨cd,hc,hd'⟩:=PySem.W.any_some hh
 have hx:s.heap.get? x=some ⟨.ref C,some dx,.plain,#[]⟩:=I.obj
 refine u6 (E5 (u6 (u6 (wpAny_loadPart hx (u6 (PySem.W.Looks.here (s:={ s with toks:=s.toks+1 }) (PySem.W.looks_clsIn X hc) ?_))))))
 rw[hd']
 refine E5 (a:=some dx) (u6 (E5 (u6 ?_)))
 refine wpAny_nsSet1 (s:={ s with toks:=s.toks+1 }) I.ns fun h' hn2 hs2=>?_
 obtain⟨oD,esD,epD,hoD,hdD,hcD⟩:=hn2.count (PySem.Within.cons name v hw)
 refine u6 (wpAny_lookBehind hoD (by rw[hdD];exact pastItsLine_dict (J8 hcD (by rw[C6];omega))) ?_)
 exact E5 (h _ ⟨(hs2.2 _ (Ne.symm I.ne)).trans I.obj,hn2,I.ne⟩ hs2)
theorem c1W{R:b9U->o0->Prop}{vs:List Value}{kw:List (Str×Value)}(X:K.In s.heap)(hm:a4E K C=true)
  (hi:G9 K (.ref C) "__init__" = some (some (.ref f))) (hf:PySem.W.typeIn K (.ref f)=some (.type "function"))
  (h:a4I (model prog w) (A.under (.builtin "type.__call__" ⟨.ref C::vs,kw⟩)) (.call (.ref f) ⟨.ref (s.heap.objs.size+1)::vs,kw⟩) (PySem.W.InitBack (s.heap.objs.size+1) R)
   { s with heap:=(s.heap.push R9).push (Y6 C s.heap.objs.size) }) :
  a4I (model prog w) A (.call (.ref C) ⟨vs,kw⟩) R s:=by
 obtain⟨hh,g,d,t,os⟩:=s
 exact PySem.W.make_core (PySem.W.makes_of X hm) (PySem.W.looks_findIn X hi) (fun self=>PySem.W.bind_fn X self hf) (.inl rfl) h
end
def a2U(f:Str)(v:V):List (Str×V)->List (Str×V)
 | []=>[(f,v)]
 | (g,x)::r=>if g=f then (g,v)::r else (g,x)::a2U f v r
theorem a8w(f g:Str)(v:V):∀fs:List (Str×V),(a2U f v fs).lookup g=if g=f then some v else fs.lookup g
 | []=>by
  show a2v g [(f,v)]=_
  by_cases h:g=f
  ·have hb:(g == f)=true:=beq_iff_eq.mpr h
   simp only[a2v,hb,if_pos h]
  ·have hb:(g == f)=false:=beq_eq_false_iff_ne.mpr h
   simp only[a2v,hb,if_neg h]
 | (k,x)::r=>by
  have ih:=a8w f g v r
  rw[show a2U f v ((k,x)::r)=(if k=f then (k,v)::r else (k,x)::a2U f v r)from rfl]
  by_cases hk:k=f
  ·rw[if_pos hk]
   by_cases h:g=k
   ·have hb:(g == k)=true:=beq_iff_eq.mpr h
    simp only[a2v,hb,if_pos (h.trans hk)]
   ·have hb:(g == k)=false:=beq_eq_false_iff_ne.mpr h
    simp only[a2v,hb,if_neg (fun e:g=f=>h (e.trans hk.symm))]
  ·rw[if_neg hk]
   by_cases h:g=k
   ·have hb:(g == k)=true:=beq_iff_eq.mpr h
    simp only[a2v,hb,if_neg (fun e:g=f=>hk (h.symm.trans e))]
   ·have hb:(g == k)=false:=beq_eq_false_iff_ne.mpr h
    simp only[a2v,hb]
    exact ih
theorem a7V(f:Str)(v:V):∀fs:List (Str×V),f∈(a2U f v fs).map (·.1)/\∀g,g∈fs.map (·.1)->g∈(a2U f v fs).map (·.1)
 | []=>⟨by simp[a2U],fun g h=>by simp at h⟩
 | (k,x)::r=>by
  obtain⟨i1,i2⟩:=a7V f v r
  rw[show a2U f v ((k,x)::r)=(if k=f then (k,v)::r else (k,x)::a2U f v r)from rfl]
  by_cases hk:k=f
  ·rw[if_pos hk]
   subst hk
   exact⟨by simp,fun g h=>by simpa using h⟩
  ·rw[if_neg hk]
   refine⟨?_,fun g h=>?_⟩
   ·rw[G8]
    exact D4 _ i1
   ·rw[G8]at h ⊢
    rcases q9.mp h with e | e
    ·exact q9.mpr (.inl e)
    ·exact D4 _ (i2 g e)
theorem a8x(f:Str)(v:V):∀fs:List (Str×V),(a2U f v fs).length<=fs.length+1
 | []=>by simp[a2U]
 | (k,x)::r=>by
  have ih:=a8x f v r
  rw[show a2U f v ((k,x)::r)=(if k=f then (k,v)::r else (k,x)::a2U f v r)from rfl]
  by_cases hk:k=f
  ·rw[if_pos hk,C6,C6];omega
  ·rw[if_neg hk,C6,C6];omega
theorem a5K.some_of{o:Option Value}(r:a5K (some v) o):∃u,o=some u/\J1 v u:=by
 cases o with
 | none=>exact(show False from r).elim
 | some u=>exact⟨u,rfl,r⟩
theorem a5K.none_of{o:Option Value}(r:a5K none o):o=none:=by
 cases o with
 | none=>rfl
 | some u=>exact(show False from r).elim
theorem b9h(r:J1 v u):c2J u=true:=by
 cases v with
 | non=>cases (show u=Value.none from r);rfl
 | bl b=>cases (show u=Value.bool b from r);rfl
 | int i=>obtain⟨t,e⟩:=(show ∃t,u=Value.int i t from r);cases e;rfl
 | str x=>obtain⟨t,e⟩:=(show ∃t,u=Value.str x t from r);cases e;rfl
 | byt b=>obtain⟨t,e⟩:=(show ∃t,u=Value.bytes b t from r);cases e;rfl
 | flt b=>obtain⟨t,e⟩:=(show ∃t,u=Value.float b t from r);cases e;rfl
 | ref a=>cases (show u=Value.ref a from r);rfl
 | ty n=>cases (show u=Value.type n from r);rfl
section
variable {P:F3}{fs fs':List (Str×V)}
theorem a8U(hok:HOk P w H h)(e:H a=some (.ins C dx fs)):∃mA,b6Z h a dx C mA/\(∀f,a5K (fs.lookup f) (mA f))/\PySem.Within mA (fs.map (·.1))/\fs.length<=1000/\H dx=some (.own a):=by
 obtain⟨d,z,ne,ob,mA,n,r,q⟩:=(show a0f P w H h a (.ins C dx fs)from hok a _ e)
 exact⟨mA,⟨ob,n,ne⟩,r,q,z,d⟩
end
structure Cls(K:Fg)(C:Addr):Prop where
 pg:a2d K C Str.empty=true
 hd:a3x K C=true
 po:a8g K C=true
 sa:G9 K (.ref C) "__setattr__" = some (some (.builtin "object.__setattr__"))
theorem Cls.get{K:Fg}(c:Cls K C)(f:Str):a2d K C f=true:=c.pg
def a2S(K:Fg)(C:Addr)(f:Str):Prop:=G9 K (.ref C) f=some none
theorem a2S.taker{K:Fg}{f:Str}(n:a2S K C f):b0M K C f=some none:=by
 unfold b0M
 rw[show G9 K (.ref C) f=some none from n]
 rfl
structure Con(K:Fg)(C:Addr)(f:Str)(v:V)(u:Value):Prop where
 at_:G9 K (.ref C) f=some (some u)
 rel:J1 v u
 get:a8f K u "__get__" = some none
 cp:PySem.W.copiedNames.contains f=false
structure c8b(K:Fg)(C:Addr)(m:Str)(f:Addr):Prop where
 at_:G9 K (.ref C) m=some (some (.ref f))
 fn:a8i K (.ref f)=true
 kp:X2 K (.ref f)=true
section
variable {fs:List (Str×V)}{f:Str}{A:L7}{E:Value->o0->Prop}
theorem b6I{b:Bool}(I:Inv X pins σ H s)(e:H a=some (.ins C dx fs))(c:Cls X.K C)(n:a2S X.K C f)(l:fs.lookup f=some v)
  (h:∀u s',Inv X pins σ H s'->J1 v u->Q u s'):wpAny (model X.prog X.w) A (getAttr (.ref a) f b) Q E s:=by
 obtain⟨mA,O,r,_,_,_⟩:=a8U I.hok e
 obtain⟨u,hu,ru⟩:=a5K.some_of (v:=v) (o:=mA f) (by rw[<-l];exact r f)
 exact c4I I.kIn O (c.get f) c.hd n hu (b9h ru) (h u _ (I.tok _) ru)
theorem b6H{m:Str}{g:Addr}{pl:Sem Bool}{Q:Value×List Value->o0->Prop}(I:Inv X pins σ H s)(e:H a=some (.ins C dx fs))(c:Cls X.K C)(k:c8b X.K C m g)(l:fs.lookup m=none)
  (h:Q (.ref g,[.ref a]) s):wpAny (model X.prog X.w) A (b9S (.ref a) m pl) Q E s:=by
 obtain⟨mA,O,r,_,_,_⟩:=a8U I.hok e
 have hn:mA m=none:=a5K.none_of (by rw[<-l];exact r m)
 exact c2l I.kIn O (c.get m) k.at_ k.fn hn h
theorem b5L{Q:Unit->o0->Prop}(I:Inv X pins σ H s)(e:H a=some (.ins C dx fs))(c:Cls X.K C)(n:a2S X.K C f)(hl:fs.length<1000)(ry:J1 y u)
  (h:∀s',Inv X pins σ (upd H a (.ins C dx (a2U f y fs))) s'->Q () s'):wpAny (model X.prog X.w) A (setAttr (.ref a) f u) Q E s:=by
 obtain⟨mA,O,r,wi,_,ho⟩:=a8U I.hok e
 have hz:(fs.map (·.1)).length<=v6:=by rw[c4,sizeLine_eq];omega
 refine c3i I.kIn O c.sa c.po n.taker c.hd wi hz fun h' O' sb=>h _ ?_
 have hd:∃o,h'.get? dx=some o:=let⟨o,_,_,e',_⟩:=O'.ns; ⟨o,e'⟩
 refine I.write (x:=a) (e:=dx) (by rw[e];exact True.intro) (.inr ho) (fun b q hb z=>(sb.2 b hb).trans z) hd ?_
 refine⟨by rw[o4 O.ne];exact ho,?_,O.ne,O'.obj,_,O'.ns,fun g=>?_,fun g hg=>?_⟩
 ·have:=a8x f y fs;omega
 ·show a5K ((a2U f y fs).lookup g) (if g=f then some u else mA g)
  rw[a8w]
  by_cases q:g=f
  ·rw[if_pos q,if_pos q];exact ry
  ·rw[if_neg q,if_neg q];exact r g
 ·by_cases q:g=f
  ·rw[q];exact(a7V f y fs).1
  ·refine(a7V f y fs).2 g (wi g fun z=>hg ?_)
   show(if g=f then some u else mA g)=none
   rw[if_neg q];exact z
theorem Inv.made(I:Inv X pins σ H s):Inv X pins σ (upd (upd H s.heap.objs.size (.own (s.heap.objs.size+1))) (s.heap.objs.size+1) (.ins C s.heap.objs.size []))
  { s with heap:=(s.heap.push R9).push (Y6 C s.heap.objs.size) }:=by
 have e1:(s.heap.push R9).get? s.heap.objs.size=some R9:=F2 s.heap rfl
 have e2:((s.heap.push R9).push (Y6 C s.heap.objs.size)).get? (s.heap.objs.size+1)=some (Y6 C s.heap.objs.size):=by
  have:=F2 (s.heap.push R9) (o:=Y6 C s.heap.objs.size) rfl
  rwa [c8n]at this
 have e3:(s.heap.push R9).Ns s.heap.objs.size (fun _=>none):=⟨R9,#[],_,e1,rfl,(fun e he=>absurd he (by simp)),fun _=>rfl⟩
 have I1:=I.laid (a:=s.heap.objs.size) (o:=.own (s.heap.objs.size+1)) (h':=s.heap.push R9) (t':=s.toks) (fun b u q=>i9 _ q) (o5 _) ⟨_,e1⟩
 refine I1.laid (a:=s.heap.objs.size+1) (o:=.ins C s.heap.objs.size []) (t':=s.toks) (fun b u q=>i9 _ q) (Nat.le_of_eq (c8n _ _)) ?_
 have ne:s.heap.objs.size≠s.heap.objs.size+1:=C4 (c8f _)
 refine⟨by rw[o4 ne,g7],O6 _,ne,e2,fun _=>none,(Heap.Ns1.of_empty e3).at fun o q=>i9 _ q,fun _=>True.intro,fun y hy=>absurd rfl hy⟩
theorem c4N{prog:F3}{env:Env}(hb:a0n e f env (eval e env)=eval e env)
  (h:wpAny (model prog w) A (eval e env) (fun o s₁=>wpAny (model prog w) A (getAttr o f true) Q E s₁) E s):wpAny (model prog w) A (eval (.Attribute e f pos) env) Q E s:=
 Attribute_any_ h (by rw[arm_eval_Attribute,hb])
end
def b4n(K:Fg)(ta:TE)(f:Str):TE:=fun σ H Q=>ta σ H fun x H1=>∃a C dx fs v,x=.ref a/\H1 a=some (.ins C dx fs)/\Cls K C/\a2S K C f/\fs.lookup f=some v/\Q v H1
def b8u(K:Fg)(ta tv:TE)(f:Str):TS:=fun D σ H=>tv σ H fun y H1=>ta σ H1 fun x H2=>∃a C dx fs,x=.ref a/\H2 a=some (.ins C dx fs)/\Cls K C/\a2S K C f/\fs.length<1000 /\
 D.nx σ (upd H2 a (.ins C dx (a2U f y fs)))
section
variable {o value:Expr}{f:Str}{pos' tpos:Pos}{tv:TE}
theorem c6Q(he:PE X e ta)(hb:a0n e f X.env (eval e X.env)=eval e X.env):PE X (.Attribute e f pos) (b4n X.K ta f):=by
 intro pins s σ H Q I h
 refine c4N hb (thn (he pins s σ H _ I h) fun u s1 ⟨x,H1,I1,rx,a,C,dx,fs,v,ex,ea,c,n,l,q⟩=>?_)
 subst ex
 obtain rfl:u=Value.ref a:=rx
 exact b6I I1 ea c n l fun u' s2 I2 ru=>⟨v,H1,I2,ru,q⟩
theorem c6A(ha:PE X o ta)(hv:PE X value tv)(hs:a2x value (some (.Attribute o f pos')) pos.line X.env=pure false):PS X (.Assign [.Attribute o f pos'] value pos) (b8u X.K ta tv f):=by
 intro pins s σ H D I h
 refine plainObj_wpAny_Assign_Attribute (thn (hv pins s σ H _ I h) fun u s1 ⟨y,H1,I1,ry,q⟩=>thn (ha pins s1 σ H1 _ I1 q) fun ov s2 ⟨x,H2,I2,rx,a,C,dx,fs,ex,ea,c,n,l,q2⟩=>?_) hs
 subst ex
 obtain rfl:ov=Value.ref a:=rx
 exact b5L I2 ea c n l ry fun s3 I3=>⟨σ,_,I3,q2⟩
end
section
variable {A:L7}{E:Value->o0->Prop}{c:Value}{b:Bool}
inductive a8c(K:Fg)(H:Hp):V->Value->Prop where
 | non:a8c K H .non (.type "NoneType")
 | bl (x:Bool):a8c K H (.bl x) (.type "bool")
 | int (i:Int):a8c K H (.int i) (.type "int")
 | str (x:Str):a8c K H (.str x) (.type "str")
 | flt (x:UInt64):a8c K H (.flt x) (.type "float")
 | lst {a:Addr} {xs:List V} (e:H a=some (.lst xs)):a8c K H (.ref a) (.type "list")
 | frz {a:Addr} {o:Obj} {xs:List V} (e:H a=some (.frz o (.lst xs))):a8c K H (.ref a) (.type "list")
 | tup {a:Addr} {xs:List V} (e:H a=some (.tup xs)):a8c K H (.ref a) (.type "tuple")
 | dK {a:Addr} {kvs:List (Key×V)} (e:H a=some (.dK kvs)):a8c K H (.ref a) (.type "dict")
 | dT {a:Addr} {kvs:List (List Key×V)} (e:H a=some (.dT kvs)):a8c K H (.ref a) (.type "dict")
 | ins {a C dx:Addr} {fs:List (Str×V)} (e:H a=some (.ins C dx fs)) (cl:Cls K C) (ha:G9 K (.ref C) "__class__" = some (some (.builtin "object.__class__")))
   (hn:a8f K (.builtin "object.__class__") "__get__" = some (some (.builtin "getset_descriptor.__get__"))) (htk:c2O K (.builtin "object.__class__")=some true)
   (hm:c5A K C (.type "object")=some true):a8c K H (.ref a) (.ref C)
theorem b9c{x:V}{t:Value}(I:Inv X pins σ H s)(rx:J1 x u)(ty:a8c X.K H x t)(e:c4W X.K t c=some b)(h:∀tk,Q (.bool b) { s with toks:=tk }) :
  wpAny (model X.prog X.w) A (call (.builtin "isinstance") [u,c]) Q E s:=by
 cases ty with
 | non=>cases (show u=Value.none from rx);exact N7 PySem.W.kitx_none I.kIn True.intro e (fun z=>nomatch z) h
 | bl y=>cases (show u=Value.bool y from rx);exact N7 PySem.W.kitx_bool I.kIn True.intro e (fun z=>nomatch z) h
 | int i=>obtain⟨t,q⟩:=(show ∃t,u=Value.int i t from rx);cases q;exact N7 PySem.W.kitx_int I.kIn True.intro e (fun z=>nomatch z) h
 | str y=>obtain⟨t,q⟩:=(show ∃t,u=Value.str y t from rx);cases q;exact N7 PySem.W.kitx_str I.kIn True.intro e (fun z=>nomatch z) h
 | flt y=>obtain⟨t,q⟩:=(show ∃t,u=Value.float y t from rx);cases q;exact N7 PySem.W.kitx_float I.kIn True.intro e (fun z=>nomatch z) h
 | @lst a xs ea=>
  cases (show u=Value.ref a from rx)
  obtain⟨_,_,n,_,h1⟩:=(show a0f X.prog X.w H s.heap a (.lst xs)from I.hok a _ ea)
  exact N7 b9M I.kIn ⟨_,h1,rfl⟩ e (fun z=>nomatch z) h
 | @frz a ob xs ea=>
  cases (show u=Value.ref a from rx)
  obtain⟨_,_,_,n,_,h1⟩:=(show a0f X.prog X.w H s.heap a (.frz ob (.lst xs))from I.hok a _ ea)
  exact N7 b9M I.kIn ⟨_,h1,rfl⟩ e (fun z=>nomatch z) h
 | @tup a xs ea=>
  cases (show u=Value.ref a from rx)
  obtain⟨_,_,_,p⟩:=(show a0f X.prog X.w H s.heap a (.tup xs)from I.hok a _ ea)
  obtain⟨o,h1,h2,_⟩:=p
  exact N7 b9E I.kIn ⟨o,h1,h2⟩ e (fun z=>nomatch z) h
 | @dK a kvs ea=>
  cases (show u=Value.ref a from rx)
  obtain⟨_,_,vs,_,p⟩:=(show a0f X.prog X.w H s.heap a (.dK kvs)from I.hok a _ ea)
  obtain⟨o,es,ep,h1,h2,_⟩:=p
  exact N7 b9N I.kIn ⟨o,h1,h2.1⟩ e (fun z=>nomatch z) h
 | @dT a kvs ea=>
  cases (show u=Value.ref a from rx)
  obtain⟨_,_,xs,_,o,es,ep,h1,h2,_⟩:=(show a0f X.prog X.w H s.heap a (.dT kvs)from I.hok a _ ea)
  exact N7 b9N I.kIn ⟨o,h1,h2.1⟩ e (fun z=>nomatch z) h
 | @ins a C dx fs ea cl ha hn htk hm=>
  cases (show u=Value.ref a from rx)
  obtain⟨mA,O,_⟩:=a8U I.hok ea
  obtain⟨od,J,_⟩:=O.look
  exact N7 (PySem.W.kitx_own (cl.get _) cl.hd ha hn htk hm) I.kIn J e (fun z=>nomatch z) h
end
structure T3(k:Nat)(A:L7):Prop where
 hd:A.handled=none
 dp:A.depth+3 * k+5<recursionLimit
 un:A.units+16 * k+200<cLine
theorem T3.mono{j k:Nat}{A:L7}(r:T3 k A)(h:j<=k):T3 j A:=⟨r.hd,by have:=r.dp;omega,by have:=r.un;omega⟩
theorem T3.deeper{k:Nat}{A:L7}(r:T3 (k+1) A)(env:Env):T3 k (A.deeper env):=
 ⟨r.hd,by have:=r.dp;show A.depth+1+3 * k+5<_;omega,by have:=r.un;show A.units+3+16 * k+200<_;omega⟩
theorem b6B{A:L7}{kw:List (Str×Value)}:(A.under (.builtin "type.__call__" ⟨.ref C::us,kw⟩)).depth=A.depth+1:=by
 first | rfl | simp[Around.under,Code.weight,Code.isCreation,Code.isGuard,Code.isCaller,Code.frames,Code.isFrame,guardIds]
theorem b6A{A:L7}{kw:List (Str×Value)}:(A.under (.builtin "type.__call__" ⟨.ref C::us,kw⟩)).units=A.units+1:=by
 first | rfl | simp[Around.under,Code.cUnits,Code.frames,Code.isFrame]
theorem T3.make{k:Nat}{A:L7}(r:T3 (k+1) A)(C:Addr)(us:List Value)(kw:List (Str×Value)):T3 k (A.under (.builtin "type.__call__" ⟨.ref C::us,kw⟩)):=
 ⟨r.hd,by have:=r.dp;rw[b6B];omega,by have:=r.un;rw[b6A];omega⟩
theorem T3.depth{k:Nat}{A:L7}(r:T3 k A):A.depth<recursionLimit:=by have:=r.dp;omega
theorem T3.units{k:Nat}{A:L7}(r:T3 k A):A.units+64<cLine:=by have:=r.un;omega
theorem T3.units0{k:Nat}{A:L7}(r:T3 k A):A.units<cLine:=by have:=r.un;omega
def c9:TA:=fun _ H Q=>Q [] H
def b6(ta:TE)(tr:TA):TA:=fun σ H Q=>ta σ H fun x H1=>tr σ H1 fun xs H2=>Q (x::xs) H2
section
variable {t:TA}
theorem c6U:PA X [] c9:=fun _ _ _ _ H Q I h=>Calls.spliced_nil ⟨[],H,I,.nil,h⟩
theorem c3T(ha:PE X e te)(hr:PA X es t)(hs:i8 (e::es) X.env=(false,eval e X.env)::i8 es X.env:=by rfl):PA X (e::es) (b6 te t):=by
 intro pos pins s σ H Q I h
 rw[hs]
 show wpAny _ _ (spliced ((false,eval e X.env)::a0m pos (i8 es X.env))) _ _ s
 refine Calls.spliced_cons (thn (ha pins s σ H _ I h) fun u s1 ⟨x,H1,I1,r1,q1⟩=>?_)
 exact thn (hr pos pins s1 σ H1 _ I1 q1) fun us s2 ⟨xs,H2,I2,r2,q2⟩=>⟨x::xs,H2,I2,.cons r1 r2,q2⟩
def V1(t:TA):TE:=fun σ H Q=>t σ H fun xs H1=>xs.length<=v6/\∀p,H1 p=none->Q (.ref p) (upd H1 p (.tup xs))
def L6(t:TA):TE:=fun σ H Q=>t σ H fun xs H1=>xs.length<=v6/\∀p,H1 p=none->Q (.ref p) (upd H1 p (.lst xs))
theorem c6H{x1}(h:PA X es t):PE X (.Tuple es x1 pos) (V1 t):=by
 intro pins s σ H Q I hq
 refine wpAny_Tuple_spliced (thn (h pos pins s σ H _ I hq) fun us s1 ⟨xs,H1,I1,r,z,q⟩=>⟨by rw[<-r.length];exact z,?_⟩)
 have hf:H1 s1.heap.objs.size=none:=I1.hok.fresh (o5 _)
 refine⟨.ref s1.heap.objs.size,upd H1 s1.heap.objs.size (.tup xs),I1.laid (t':=s1.toks) (fun b u e=>i9 _ e) (o5 _) ?_,rfl,q _ hf⟩
 exact⟨z,us,r,⟨_,F2 _ rfl,rfl,_,rfl⟩⟩
theorem c6O(h:PA X es t):PE X (.List es pos) (L6 t):=by
 intro pins s σ H Q I hq
 refine wpAny_List_spliced (thn (h pos pins s σ H _ I hq) fun us s1 ⟨xs,H1,I1,r,z,q⟩=>⟨by rw[<-r.length];exact z,?_⟩)
 have hf:H1 s1.heap.objs.size=none:=I1.hok.fresh (o5 _)
 refine⟨.ref s1.heap.objs.size,upd H1 s1.heap.objs.size (.lst xs),I1.laid (t':=s1.toks) (fun b u e=>i9 _ e) (o5 _) ?_,rfl,q _ hf⟩
 exact⟨z,us,0,r,F2 _ rfl⟩
end
abbrev Sp:=List V->Hp->VK->XK->Prop
abbrev CXT:=List Env->Hp->o0->XK->Value->o0->Prop
variable{CX:CXT}
structure b7a(P:F3)(w:World)(K:Fg)(mg:Str->Option Value)(base:Heap)(A:L7)(outer:List Env)(s:o0)(H:Hp):Prop where
 frames:A.frames=some outer
 mod:Mod K mg base
 bs:∀b o,base.get? b=some o->s.heap.get? b=some o/\H b=none
 bsz:base.objs.size<=s.heap.objs.size
 funs:s.heap.FunFrames base outer
 frf:∀b∈frs outer,H b=none
 hok:HOk P w H s.heap
 bare:b1X s.gens
def CE(outer:List Env)(P:F3)(w:World)(H:Hp)(s:o0)(Q:VK)(u:Value)(s':o0):Prop:=
 ∃v H',s'.os=s.os/\b1X s'.gens/\Un (frs outer) [] H H' s.heap s'.heap/\HOk P w H' s'.heap/\J1 v u/\Q v H'
def CR(CX:CXT)(outer:List Env)(P:F3)(w:World)(H:Hp)(s:o0)(Q:VK)(E:XK)(r:b9U)(s':o0):Prop:=
 match r with
 | .ok (.ret u)=>CE outer P w H s Q u s'
 | .ok _=>False
 | .error e=>CX outer H s E e s'
structure N5(P:F3)(w:World)(K:Fg)(mg:Str->Option Value)(base:Heap)(CX:CXT)(k:Nat)(f:Addr)(fd:a0w)(ps:List Str)(sp:Sp):Prop where
 len:∀vs H Q E,sp vs H Q E->vs.length=ps.length
 run:∀(A:L7) (outer:List Env) (s:o0) (H:Hp) (args:Args) (us:List Value) (vs:List V) (Q:VK) (E:XK),T3 k A->b7a P w K mg base A outer s H->b9V s fd args (ps.zip us)->J3 vs us->sp vs H Q E ->
  a4I (model P w) A (.call (.ref f) args) (CR CX outer P w H s Q E) s
theorem b7a.make{P:F3}{K:Fg}{mg:Str->Option Value}{base:Heap}{A:L7}{outer:List Env}(e:b7a P w K mg base A outer s H)(C:Addr)(us:List Value)(kw:List (Str×Value)) :
  b7a P w K mg base (A.under (.builtin "type.__call__" ⟨.ref C::us,kw⟩)) outer s H:=⟨by first | exact e.frames | (simpa[Around.under,Code.envs,Code.isFrame,pushEnvs]using e.frames),e.mod,e.bs,e.bsz,e.funs,e.frf,e.hok,e.bare⟩
section
variable {s':o0}
theorem Inv.env0(I:Inv X pins σ H s):b7a X.prog X.w X.K X.mg X.base X.A X.stack s H:=
 ⟨I.ok.frames,I.ok.mod,I.bs,J8 I.ok.bsz I.sz,I.stack,I.stkFree,I.hok,I.bare⟩
theorem Inv.after{Q:VK}(I:Inv X pins σ H s)(h:CE X.stack X.prog X.w H s Q u s'):EP X pins σ Q u s':=by
 obtain⟨v,H',os,bare,un,hok,r,q⟩:=h
 obtain⟨hh,g,d,t,os'⟩:=s'
 obtain rfl:os'=s.os:=os
 exact⟨v,H',I.call (h':=hh) (g':=g) (d':=d) (t':=t) (ch:=[]) un hok bare (fun b z=>absurd z (by simp)),r,q⟩
end
def w6(sp:Sp)(dvs:List V)(E:XK)(t:TA):TE:=fun σ H Q=>t σ H fun vs H1=>sp (vs++dvs) H1 Q E
def b1A(C:Addr)(m:Str)(sp:Sp)(dvs:List V)(E:XK)(ta:TE)(t:TA):TE:=fun σ H Q=>ta σ H fun x H1=>∃a dx fs,x=.ref a/\H1 a=some (.ins C dx fs)/\fs.lookup m=none /\
 t σ H1 fun vs H2=>sp (x::(vs++dvs)) H2 Q E
def a6J(C:Addr)(sp:Sp)(dvs:List V)(E:XK)(t:TA):TE:=fun σ H Q=>t σ H fun vs H1=>∀x dx,H1 x=none->H1 dx=none->dx≠x ->
 sp (.ref x::(vs++dvs)) (upd (upd H1 dx (.own x)) x (.ins C dx [])) (fun v H2=>v=.non/\Q (.ref x) H2) E
def a4B(K:Fg)(fd:a0w)(ps:List Str)(ds:List Value):Prop:=
 ∀(s:o0) (us:List Value),K.In s.heap->(us++ds).length=ps.length->b9V s fd ⟨us,[]⟩ (ps.zip (us++ds))
theorem a4B.all{K:Fg}{fd:a0w}(h:∀us:List Value,us.length=ps.length->bindArgs fd ⟨us,[]⟩=pure (ps.zip us)):a4B K fd ps []:=fun s us _ hl=>by
 rw[a5Q]at hl ⊢
 exact .of_eq (h us hl)
def a8d(CX:CXT)(X:Cx)(E:XK):Prop:=∀(pins:List (Addr×Obj)) (σ:St) (H:Hp) (s:o0) (e:Value) (s':o0),Inv X pins σ H s->CX X.stack H s E e s'->X.xe e s'
section
variable {k:Nat}{fd:a0w}{sp:Sp}{dvs:List V}{ds:List Value}{E:XK}{x m:Str}{apos:Pos}{o:Expr}{t:TA}
theorem c0V{Q:VK}{vs:List V}(F:N5 X.prog X.w X.K X.mg X.base CX k f fd ps sp)(hr:T3 k X.A)(hb:a4B X.K fd ps ds)(hd:J3 dvs ds)(hx:a8d CX X E)
  (I:Inv X pins σ H s) (r:J3 vs us) (h:sp (vs++dvs) H Q E):wpAny (model X.prog X.w) X.A (call (.ref f) us) (EP X pins σ Q) X.xe s:=by
 have r2:J3 (vs++dvs) (us++ds):=r.append hd
 have hl:(us++ds).length=ps.length:=by rw[<-r2.length];exact F.len _ _ _ _ h
 refine wpAny_call (b7f (F.run X.A X.stack s H ⟨us,[]⟩ (us++ds) (vs++dvs) Q E hr I.env0 (hb s us I.kIn hl) r2 h) fun r s' hq=>?_)
 cases r with
 | error e=>exact hx pins σ H s e s' I hq
 | ok fl=>
  cases fl with
  | ret u=>exact I.after hq
  | next=>exact False.elim hq
  | brk=>exact False.elim hq
  | cont=>exact False.elim hq
theorem c3Q(F:N5 X.prog X.w X.K X.mg X.base CX k f fd ps sp)(hr:T3 k X.A)(hg:Gl X x)(hm:X.mg x=some (.ref f))(hk:X2 X.K (.ref f)=true)(hb:a4B X.K fd ps ds)(hd:J3 dvs ds)(hx:a8d CX X E)
  (ha:PA X (e::es) t) (hdb:(x == ("__debug__" : Str))=false:=by decide) (he:i8 (e::es) X.env=(false,eval e X.env)::i8 es X.env:=by rfl) (hpl:(a0m pos (i8 es X.env)).any (·.1)=false:=by rfl) :
  PE X (.Call (.Name x p) (e::es) [] pos) (w6 sp dvs E t):=by
 intro pins s σ H Q I h
 refine a1f (b3c I hg hm ?_ hdb)
 refine a7t (h₀:=X.base) I.ok.mod.kin hk (thn (ha pos pins s σ H _ I h) fun us s1 ⟨vs,H1,I1,r,q⟩=>⟨I1.kIn,?_⟩) he hpl
 exact c0V F hr hb hd hx I1 r q
theorem c3K{pl:Sem Bool}(he:PE X o ta)(c:Cls X.K C)(hm:c8b X.K C m f)(F:N5 X.prog X.w X.K X.mg X.base CX k f fd ps sp)(hr:T3 k X.A)(hb:a4B X.K fd ps ds)(hd:J3 dvs ds)(hx:a8d CX X E)(ha:PA X (e::es) t)
  (hst:i8 (e::es) X.env=(false,eval e X.env)::i8 es X.env:=by rfl) (hpl:(a0m pos (i8 es X.env)).any (·.1)=false:=by rfl)
  (ht:eval (.Call (.Attribute o m apos) (e::es) [] pos) X.env=(do
   let ov <-eval o X.env
   b9R apos.atName
   let(f,first) <-a4H [ov] (b9S ov m pl)
   callWith pos f first (a0m pos (i8 (e::es) X.env)) (b0Q pos (a3m [] X.env))):=by rfl) :
  PE X (.Call (.Attribute o m apos) (e::es) [] pos) (b1A C m sp dvs E ta t):=by
 intro pins s σ H Q I h
 refine PySem.W.methodCall_KW (pl:=pl) (thn (he pins s σ H _ I h) fun u s1 ⟨x,H1,I1,rx,a,dx,fs,ex,ea,l,q⟩=>?_) ht
 subst ex
 obtain rfl:u=Value.ref a:=rx
 refine b6H I1 ea c hm l ?_
 refine a7t (first:=[.ref a]) (h₀:=X.base) I.ok.mod.kin hm.kp (thn (ha pos pins s1 σ H1 _ I1 q) fun us s2 ⟨vs,H2,I2,r,q2⟩=>⟨I2.kIn,?_⟩) hst hpl
 exact c0V (us:=.ref a::us) (vs:=.ref a::vs) F hr hb hd hx I2 (.cons rfl r) q2
structure Mk(K:Fg)(C f:Addr):Prop where
 makes:a4E K C=true
 init:G9 K (.ref C) "__init__" = some (some (.ref f))
 fn:a8i K (.ref f)=true
 kp:X2 K (.ref C)=true
theorem c0U{Q:VK}{vs:List V}(M:Mk X.K C f)(F:N5 X.prog X.w X.K X.mg X.base CX k f fd ps sp)(hr:T3 (k+1) X.A)(hb:a4B X.K fd ps ds)(hd:J3 dvs ds)
  (hx:a8d CX X E) (I:Inv X pins σ H s) (r:J3 vs us)
  (h:∀x dx,H x=none->H dx=none->dx≠x->sp (.ref x::(vs++dvs)) (upd (upd H dx (.own x)) x (.ins C dx [])) (fun v H2=>v=.non/\Q (.ref x) H2) E) :
  wpAny (model X.prog X.w) X.A (call (.ref C) us) (EP X pins σ Q) X.xe s:=by
 have hq:=h (s.heap.objs.size+1) s.heap.objs.size (I.hok.fresh (X4 _)) (I.hok.fresh (o5 _)) (C4 (c8f _))
 have I2:=Inv.made (C:=C) I
 have r2:J3 (V.ref (s.heap.objs.size+1)::(vs++dvs)) (Value.ref (s.heap.objs.size+1)::(us++ds)):=.cons rfl (r.append hd)
 have hl:(Value.ref (s.heap.objs.size+1)::us++ds).length=ps.length:=by
  have e:=r2.length
  rw[F.len _ _ _ _ hq]at e
  exact e.symm
 refine wpAny_call (c1W (f:=f) I.kIn M.makes M.init (beq_iff_eq.mp M.fn) (b7f (F.run _ X.stack _ _ ⟨Value.ref (s.heap.objs.size+1)::us,[]⟩ (Value.ref (s.heap.objs.size+1)::(us++ds)) _ _ E (hr.make C us [])
  (I2.env0.make C us []) (hb _ (Value.ref (s.heap.objs.size+1)::us) I2.kIn hl) r2 hq) fun r s' hq'=>?_))
 cases r with
 | error e=>exact hx pins σ _ _ e s' I2 hq'
 | ok fl=>
  cases fl with
  | ret u=>
   obtain⟨v,H',I3,rv,ev,q3⟩:=I2.after hq'
   subst ev
   exact⟨rv,⟨V.ref (s.heap.objs.size+1),H',I3,rfl,q3⟩⟩
  | next=>exact False.elim hq'
  | brk=>exact False.elim hq'
  | cont=>exact False.elim hq'
theorem c3L(M:Mk X.K C f)(F:N5 X.prog X.w X.K X.mg X.base CX k f fd ps sp)(hr:T3 (k+1) X.A)(hg:Gl X x)(hm:X.mg x=some (.ref C))(hb:a4B X.K fd ps ds)(hd:J3 dvs ds)(hx:a8d CX X E)
  (ha:PA X (e::es) t) (hdb:(x == ("__debug__" : Str))=false:=by decide) (he:i8 (e::es) X.env=(false,eval e X.env)::i8 es X.env:=by rfl) (hpl:(a0m pos (i8 es X.env)).any (·.1)=false:=by rfl) :
  PE X (.Call (.Name x p) (e::es) [] pos) (a6J C sp dvs E t):=by
 intro pins s σ H Q I h
 refine a1f (b3c I hg hm ?_ hdb)
 refine a7t (h₀:=X.base) I.ok.mod.kin M.kp (thn (ha pos pins s σ H _ I h) fun us s1 ⟨vs,H1,I1,r,q⟩=>⟨I1.kIn,?_⟩) he hpl
 exact c0U M F hr hb hd hx I1 r q
end
section
variable {k:Nat}{fd:a0w}{ks:List Str}{sp:Sp}{E:XK}{x m:Str}{apos kpos:Pos}{o:Expr}{kws:List a7x}{t tk:TA}{nm:Option Str}
structure d0e(K:Fg)(fd:a0w)(ps ks:List Str)(g:List Value->List Value->List Value)(gV:List V->List V->List V):Prop where
 to:∀(s:o0) (us ws:List Value),K.In s.heap->(g us ws).length=ps.length->b9V s fd ⟨us,ks.zip ws⟩ (ps.zip (g us ws))
 rel:∀ {vs:List V} {us:List Value} {zs:List V} {ws:List Value},J3 vs us->J3 zs ws->J3 (gV vs zs) (g us ws)
variable {g:List Value->List Value->List Value}{gV:List V->List V->List V}
end
structure D1(N P:List Str)(sc:Scope):Prop where
 kind:sc.kind=.function
 co:sc.isCoroutine=false
 gen:sc.isGenerator=false
 nd:N.Nodup
 pre:N.take P.length=P
 par:∀x∈P,sc.names.lookup x=some .local\/sc.names.lookup x=some .cell
 nofree:∀y∈sc.names,y.2≠.free
theorem b1P{kindOf:Str->Option a5S}{x:Str}:∀ {binds:List (Str×Value)} {m:Str->Option Value},(∀v,(x,v)∉binds)->bindL kindOf binds m x=m x
 | [],_,_=>rfl
 | (n,v)::r,m,h=>by
  unfold bindL
  rw[b1P fun w hw=>h w (D4 _ hw)]
  split
  ·have:x≠n:=by rintro rfl;exact h v F5
   simp[this]
  ·rfl
theorem b1R{kindOf:Str->Option a5S}{x:Str}:∀ {binds:List (Str×Value)} {m:Str->Option Value},(∀v,(x,v)∉binds)->bindC kindOf binds m x=m x
 | [],_,_=>rfl
 | (n,v)::r,m,h=>by
  unfold bindC
  rw[b1R fun w hw=>h w (D4 _ hw)]
  split
  ·rfl
  ·have:x≠n:=by rintro rfl;exact h v F5
   simp[this]
theorem b1Q{kindOf:Str->Option a5S}{x:Str}{v:Value}:∀ {P:List Str} {vs:List Value} {i:Nat} {m:Str->Option Value},P.Nodup->P[i]? = some x->vs[i]? = some v->kindOf x=some .local ->
  bindL kindOf (P.zip vs) m x=some v
 | [],_,_,_,_,h,_,_=>by simp at h
 | _::_,[],_,_,_,_,h,_=>by simp at h
 | p::P,w::vs,0,m,nd,h1,h2,hk=>by
  simp at h1 h2;subst h1;subst h2
  show bindL kindOf ((p,w)::P.zip vs) m p=_
  unfold bindL
  rw[b1P fun v hv=>(K5.mp nd).1 (b1V hv).1,if_pos hk]
  simp
 | p::P,w::vs,i+1,m,nd,h1,h2,hk=>by
  show bindL kindOf ((p,w)::P.zip vs) m x=_
  unfold bindL
  exact b1Q (i:=i) (K5.mp nd).2 (by simpa using h1) (by simpa using h2) hk
theorem b1S{kindOf:Str->Option a5S}{x:Str}{v:Value}:∀ {P:List Str} {vs:List Value} {i:Nat} {m:Str->Option Value},P.Nodup->P[i]? = some x->vs[i]? = some v->kindOf x≠some .local ->
  bindC kindOf (P.zip vs) m x=some v
 | [],_,_,_,_,h,_,_=>by simp at h
 | _::_,[],_,_,_,_,h,_=>by simp at h
 | p::P,w::vs,0,m,nd,h1,h2,hk=>by
  simp at h1 h2;subst h1;subst h2
  show bindC kindOf ((p,w)::P.zip vs) m p=_
  unfold bindC
  rw[b1R fun v hv=>(K5.mp nd).1 (b1V hv).1,if_neg hk]
  simp
 | p::P,w::vs,i+1,m,nd,h1,h2,hk=>by
  show bindC kindOf ((p,w)::P.zip vs) m x=_
  unfold bindC
  exact b1S (i:=i) (K5.mp nd).2 (by simpa using h1) (by simpa using h2) hk
def a6L(N:List Str)(vs:List V):St:=vs.map some++c8 (N.length - vs.length) none
def b5a(CX:CXT)(P:F3)(w:World)(K:Fg)(mg:Str->Option Value)(base:Heap)(N:List Str)(qual:Str)(scope:Scope)(f:Addr)(cd:Value)(A:L7)(outer:List Env)(s:o0)(H:Hp)(E:XK):Cx where
 prog:=P
 w:=w
 K:=K
 mg:=mg
 base:=base
 A:=A.deeper (b3S qual scope s.heap.objs.size f cd)
 N:=N
 s₀:=s
 H₀:=H
 env:=b3S qual scope s.heap.objs.size f cd
 outer:=outer
 stack:=b3S qual scope s.heap.objs.size f cd::outer
 ex:=[]
 calm:=true
 fn:=fun _=>true
 pn:=[]
 xe:=fun e s'=>wpAny (model P w) (A.deeper (b3S qual scope s.heap.objs.size f cd)) (leaving (b3S qual scope s.heap.objs.size f cd) e) (fun _ s''=>CX outer H s E e s'') (fun e' s''=>CX outer H s E e' s'') s'
theorem b5e{sc:Scope}{n:Nat}{x:Str}(h:sc.names.lookup x=some .cell):∃c,(cellsFrom n sc.names []).lookup x=some c:=by
 have q:=b5p sc.names n [] (.inl h)
 exact Z4.mp q
theorem b9f{P:F3}{K:Fg}{mg:Str->Option Value}{base:Heap}{N:List Str}{qual:Str}{scope:Scope}{cd:Value}{A:L7}{outer:List Env}{s1:o0}{E:XK}{vs:List V}
  (S:D1 N ps scope) (hd:A.handled=none) (e0:b7a P w K mg base A outer s H) (hl:vs.length=ps.length) (r:J3 vs us)
  (x:InCallC s s.heap.objs.size (bindL (b3S qual scope s.heap.objs.size f cd).kindOf (ps.zip us) fun _=>none) (cellsFrom (s.heap.objs.size+1) scope.names []) (bindC (b3S qual scope s.heap.objs.size f cd).kindOf (ps.zip us) fun _=>none) s1) :
  Inv (b5a CX P w K mg base N qual scope f cd A outer s H E) [] (a6L N vs) H s1:=by
 have hpl:ps.length<=N.length:=by have:=congrArg b1n S.pre;rw[J4]at this;omega
 obtain⟨h1,tk,rfl,hk⟩:=x.done
 have noA:∀b:Addr,b∉(b5a CX P w K mg base N qual scope f cd A outer s H E).ex:=fun b z=>absurd (show b∈([]:List Addr)from z) (by simp)
 refine⟨⟨e0.mod,S.kind,rfl,rfl,o5 _,fun y z c h1 h2=>?_,fun y hy=>?_,fun y c _ h=>?_,fun _=>hd,Around.frames_deeper e0.frames,.inr ⟨rfl,rfl⟩,fun b z=>absurd z (noA b),e0.bs,e0.bsz,fun b _ _=>noA b,fun b z=>absurd z (noA b),e0.funs,e0.frf⟩,
  rfl,e0.bare,Un.kept hk,⟨_,x.toInCall.ns,fun i y v h1 h2 h3=>?_⟩,fun y c h=>⟨_,x.cell y c h⟩,e0.hok.fresh (o5 _),fun y c h=>?_,fun p hp=>absurd (show p∈([]:List (Addr×Obj))from hp) (by simp),e0.hok.kept hk,?_⟩
 ·exact name_of_addr x.apart (F1 h1) (F1 h2)
 ·have hy:scope.names.lookup y=some .cell\/scope.names.lookup y=some .free:=hy
  rcases hy with hy | hy
  ·exact b5e hy
  ·exact absurd rfl (S.nofree _ (F1 hy))
 ·exact a1c (x.above y c (F1 h))
 ·have hi:i<vs.length:=by
   unfold a6L at h2
   by_cases hi:i<vs.length
   ·exact hi
   ·rw[K8 (by simpa using hi)]at h2
    rw[K7]at h2
    split at h2 <;> cases h2
  have ha:vs[i]? = some v:=by
   unfold a6L at h2
   rw[L3 (by simpa using hi),d8]at h2
   cases e:vs[i]? with
   | none=>rw[e]at h2;cases h2
   | some a=>rw[e]at h2;cases h2;rfl
  obtain⟨u,hu,rv⟩:=r.get ha
  have hp:ps[i]? = some y:=by
   rw[<-S.pre,List.getElem?_take_of_lt (by omega)];exact h1
  have ndP:ps.Nodup:=by rw[<-S.pre];exact S.nd.sublist (List.take_sublist _ _)
  refine⟨u,rv,?_⟩
  rcases S.par y (a0Q hp)with k | k
  ·exact .inl ⟨k,b1Q ndP hp hu k⟩
  ·obtain⟨c,e⟩:=b5e (n:=s.heap.objs.size+1) k
   refine .inr ⟨.inl k,c,e,?_⟩
   have q:=x.cell y c e
   rw[b1S ndP hp hu (by show scope.names.lookup y≠_;rw[k];decide)]at q
   exact q
 ·exact e0.hok.fresh (a1c (x.above y c (F1 h)))
 ·unfold a6L
  show _=N.length
  rw[u8,c4,K0]
  omega
theorem c9s{P:F3}{K:Fg}{mg:Str->Option Value}{base:Heap}{k:Nat}{name qual:Str}{params:Arguments}{body:List Stmt}{scope:Scope}{dV kV doc pm cdv ct oc:Value}{an od:Option Addr}
  {osl:Array (Option Value)} {N ps:List Str} {sp:Sp} (lk:K.lookup f=some ⟨oc,od,.func (a0P name qual params body scope dV kV doc pm an cdv ct),osl⟩) (hcd:a5N K cdv qual=true) (S:D1 N ps scope)
  (len:∀vs H Q E,sp vs H Q E->vs.length=ps.length)
  (hbody:∀(A:L7) (outer:List Env) (s:o0) (H:Hp) (vs:List V) (Q:VK) (E:XK),T3 k (A.deeper (b3S qual scope s.heap.objs.size f cdv))->sp vs H Q E ->
   ∃t,PSs (b5a CX P w K mg base N qual scope f cdv A outer s H E) body t/\t { nx:=fun _ H'=>Q .non H',rt:=Q } (a6L N vs) H) :
  N5 P w K mg base CX (k+1) f (a0P name qual params body scope dV kV doc pm an cdv ct) ps sp:=by
 refine⟨len,fun A outer s H args us vs Q E hr e0 hb r hsp=>?_⟩
 have hl:=len _ _ _ _ hsp
 have KX:K.In s.heap:=e0.mod.kin.keeps fun b o e=>(e0.bs b o e).1
 have lim:s.heap.NoLimit:=e0.mod.nolimit.keeps fun b o e=>(e0.bs b o e).1
 have hkind:∀y∈ps.zip us,scope.names.lookup y.1=some .local\/(scope.names.lookup y.1=some .cell/\((cellsFrom (s.heap.objs.size+1) scope.names []).lookup y.1).isSome=true):=fun⟨n,v⟩ hy=>by
  rcases S.par n (b1V hy).1 with q | q
  ·exact .inl q
  ·exact .inr ⟨q,b5p _ _ _ (.inl q)⟩
 refine codeAny_call_function hr.depth (KX _ _ lk) rfl S.co S.gen rfl (PySem.W.codeRec_of KX hcd) (hb _ _ _ _ ?_)
 refine wpAny_newFunctionEnv_cells S.kind hkind fun env he s1 x=>?_
 subst he
 refine⟨lim.keeps x.toInCall.keep,codeAny_func ?_⟩
 obtain⟨t,ht,hq⟩:=hbody A outer s H vs Q E (hr.deeper _) hsp
 have I:Inv (b5a CX P w K mg base N qual scope f cdv A outer s H E) [] (a6L N vs) H s1:=b9f S hr.hd e0 hl r x
 refine a1J (ht [] s1 (a6L N vs) H _ I hq) (fun fl s' hs=>?_) fun e s' hs=>hs
 have fin:∀ {σ':St} {H':Hp} {v:V} {u:Value},Inv (b5a CX P w K mg base N qual scope f cdv A outer s H E) [] σ' H' s'->J1 v u->Q v H'->CE outer P w H s Q u s':=
  fun {σ' H' v u} J rv q=>⟨v,H',J.os,J.bare,J.base,J.hok,rv,q⟩
 cases fl with
 | ret u=>
  obtain⟨v,σ',H',J,rv,q⟩:=hs
  exact fin J rv q
 | next=>
  obtain⟨σ',H',J,q⟩:=hs
  exact fin (v:=V.non) (u:=Value.none) J rfl q
 | brk=>
  obtain⟨_,_,_,q⟩:=hs
  exact False.elim q
 | cont=>
  obtain⟨_,_,_,q⟩:=hs
  exact False.elim q
section
variable {x:Str}{t:TA}{id T:String}{r:List V->Hp->VK->Prop}
def tCB(r:List V->Hp->VK->Prop)(t:TA):TE:=fun σ H Q=>t σ H fun vs H1=>r vs H1 Q
theorem c1A(hc:X0 X (.builtin id) r)(hg:Gl X x)(hm:X.mg x=none)(hv:W8 x=some (.builtin id))(ha:PA X (e::es) t)(hn:x ≠ "__name__" := by decide)(hdb:(x == ("__debug__" : Str))=false:=by decide)
  (he:i8 (e::es) X.env=(false,eval e X.env)::i8 es X.env:=by rfl) (hpl:(a0m pos (i8 es X.env)).any (·.1)=false:=by rfl):PE X (.Call (.Name x p) (e::es) [] pos) (tCB r t):=by
 intro pins s σ H Q I h
 refine a1f (a5f I hg hm hv ?_ hn hdb)
 exact PyProof.Rows.callWith_builtin1 (thn (ha pos pins s σ H _ I h) fun us s1 ⟨vs,H1,I1,r1,q1⟩=>hc pins s1 σ H1 vs us Q I1 r1 q1) he hpl
theorem b8D(hc:X0 X (.type T) r)(hg:Gl X x)(hm:X.mg x=none)(hv:W8 x=some (.type T))(ha:PA X (e::es) t)(hn:x ≠ "__name__" := by decide)(hdb:(x == ("__debug__" : Str))=false:=by decide)
  (he:i8 (e::es) X.env=(false,eval e X.env)::i8 es X.env:=by rfl) (hpl:(a0m pos (i8 es X.env)).any (·.1)=false:=by rfl):PE X (.Call (.Name x p) (e::es) [] pos) (tCB r t):=by
 intro pins s σ H Q I h
 refine a1f (a5f I hg hm hv ?_ hn hdb)
 exact Q0 (thn (ha pos pins s σ H _ I h) fun us s1 ⟨vs,H1,I1,r1,q1⟩=>hc pins s1 σ H1 vs us Q I1 r1 q1) he hpl
end
section
variable {κ:Type}[DecidableEq κ]
def a0v(kvs:List (κ×V))(k:κ):Option V:=(kvs.find? fun kv=>decide (kv.1=k)).map (·.2)
def a2g(kvs:List (κ×V))(k:κ)(v:V):List (κ×V):=
 if(kvs.any fun kv=>decide (kv.1=k))=true then kvs.map (fun kv=>if kv.1=k then (kv.1,v)else kv)else kvs++[(k,v)]
theorem a3F{p:κ×V}{r:List (κ×V)}{k:κ}(e:p.1=k):a0v (p::r) k=some p.2:=by simp[a0v,a0x,e]
theorem a2b{p:κ×V}{r:List (κ×V)}{k:κ}(e:¬p.1=k):a0v (p::r) k=a0v r k:=by simp[a0v,a0x,e]
theorem a9r(k:κ):∀kvs:List (κ×V),(kvs.any fun kv=>decide (kv.1=k))=(a0v kvs k).isSome
 | []=>rfl
 | p::r=>by
  rw[a0E]
  by_cases e:p.1=k
  ·simp only[a3F e,d1D e,Bool.true_or,Option.isSome_some]
  ·rw[a2b e,d1C e,c9y];exact a9r k r
theorem a3e(kvs:List (κ×V))(k:κ)(v:V):(a2g kvs k v).length<=kvs.length+1:=by
 unfold a2g
 split
 ·rw[c4];omega
 ·rw[u8,C6,W3];omega
theorem a5K.isSome_eq{o:Option V}{u:Option Value}(r:a5K o u):o.isSome=u.isSome:=by
 cases o with
 | none=>cases u with
  | none=>rfl
  | some _=>exact(show False from r).elim
 | some _=>cases u with
  | none=>exact(show False from r).elim
  | some _=>rfl
theorem a5K.getD{o:Option V}{u:Option Value}{d:V}{d':Value}(r:a5K o u)(rd:J1 d d'):J1 (o.getD d) (u.getD d'):=by
 cases o with
 | none=>cases u with
  | none=>exact rd
  | some _=>exact(show False from r).elim
 | some _=>cases u with
  | none=>exact(show False from r).elim
  | some _=>exact r
theorem KV.val{kvs:List (κ×V)}{vs:List (κ×Value)}(r:KV kvs vs)(k:κ):a5K (a0v kvs k) (a6a vs k):=by
 unfold KV at r
 induction r with
 | nil=>exact True.intro
 | @cons p q ps qs h t ih=>
  obtain⟨h1,h2⟩:=h
  by_cases e:p.1=k
  ·have e':q.1=k:=h1.symm.trans e
   have b:a6a (q::qs) k=some q.2:=by simp[a6a,a0x,e']
   rw[a3F e,b];exact h2
  ·have e':¬q.1=k:=fun z=>e (h1.trans z)
   have b:a6a (q::qs) k=a6a qs k:=by simp[a6a,a0x,e']
   rw[a2b e,b];exact ih
theorem KV.any{kvs:List (κ×V)}{vs:List (κ×Value)}(r:KV kvs vs)(k:κ):(kvs.any fun kv=>decide (kv.1=k))=vs.any fun kv=>decide (kv.1=k):=by
 unfold KV at r
 induction r with
 | nil=>rfl
 | cons h t ih=>rw[a0E,a0E,ih,h.1]
theorem KV.repl{kvs:List (κ×V)}{vs:List (κ×Value)}(r:KV kvs vs)(k:κ)(ry:J1 y u) :
  KV (kvs.map fun kv=>if kv.1=k then (kv.1,y)else kv) (vs.map fun kv=>if kv.1=k then (kv.1,u)else kv):=by
 unfold KV at r ⊢
 induction r with
 | nil=>exact .nil
 | @cons p q ps qs h t ih=>
  rw[G8,G8]
  refine .cons ?_ ih
  obtain⟨h1,h2⟩:=h
  by_cases e:p.1=k
  ·rw[if_pos e,if_pos (h1.symm.trans e)];exact⟨h1,ry⟩
  ·rw[if_neg e,if_neg (fun z=>e (h1.trans z))];exact⟨h1,h2⟩
theorem KV.put{kvs:List (κ×V)}{vs:List (κ×Value)}(r:KV kvs vs)(k:κ)(ry:J1 y u):KV (a2g kvs k y) (stored vs k u):=by
 unfold a2g stored
 rw[r.any k]
 by_cases e:(vs.any fun kv=>decide (kv.1=k))=true
 ·rw[if_pos e,if_pos e];exact r.repl k ry
 ·rw[if_neg e,if_neg e];exact Paired.snoc r ⟨rfl,ry⟩
theorem KV.length{kvs:List (κ×V)}{vs:List (κ×Value)}(r:KV kvs vs):kvs.length=vs.length:=Paired.length r
end
theorem b0p{P:F3}{k:Key}(r:J1 (kV k) u):(V8 P w).is k u=true:=by
 cases k with
 | inl i=>obtain⟨t,e⟩:=(show ∃t,u=Value.int i t from r);subst e;exact b4O P w i t
 | inr x=>obtain⟨t,e⟩:=(show ∃t,u=Value.str x t from r);subst e;exact b4N P w x t
theorem b1J{P:F3}:∀ {ks:List Key} {us:List Value},J3 (ks.map kV) us->ItemsAre (V8 P w) ks us
 | [],_,r=>by rw[a9i]at r;cases r;exact .nil
 | k::ks,_,r=>by
  rw[G8]at r
  cases r with
  | cons h t=>exact .cons (b0p h) (b1J t)
abbrev KT(H:Hp):List (List Key×V)->List (List Key×Addr×Value)->Prop:=Paired fun p q=>p.1=q.1/\H q.2.1=some (.tup (p.1.map kV))/\J1 p.2 q.2.2
theorem KT.val{kvs:List (List Key×V)}{xs:List (List Key×Addr×Value)}(r:KT H kvs xs)(k:List Key):a5K (a0v kvs k) ((atKey xs k).map (·.2)):=by
 induction r with
 | nil=>exact True.intro
 | @cons p q ps qs h t ih=>
  obtain⟨h1,_,h2⟩:=h
  by_cases e:p.1=k
  ·have e':q.1=k:=h1.symm.trans e
   have b:atKey (q::qs) k=some q.2:=by simp[atKey,a0x,e']
   rw[a3F e,b];exact h2
  ·have e':¬q.1=k:=fun z=>e (h1.trans z)
   have b:atKey (q::qs) k=atKey qs k:=by simp[atKey,a0x,e']
   rw[a2b e,b];exact ih
theorem KT.repl{kvs:List (List Key×V)}{xs:List (List Key×Addr×Value)}(r:KT H kvs xs)(k:List Key)(ry:J1 y u) :
  KT H (kvs.map fun kv=>if kv.1=k then (kv.1,y)else kv) (xs.map (putAt k u)):=by
 induction r with
 | nil=>exact .nil
 | @cons p q ps qs h t ih=>
  rw[G8,G8]
  refine .cons ?_ ih
  obtain⟨h1,h2,h3⟩:=h
  unfold putAt
  by_cases e:p.1=k
  ·rw[if_pos e,if_pos (h1.symm.trans e)];exact⟨h1,h2,ry⟩
  ·rw[if_neg e,if_neg (fun z=>e (h1.trans z))];exact⟨h1,h2,h3⟩
theorem KT.put{kvs:List (List Key×V)}{xs:List (List Key×Addr×Value)}(r:KT H kvs xs)(k:List Key)(hb:H b=some (.tup (k.map kV)))(ry:J1 y u) :
  KT H (a2g kvs k y) (storedH xs k b u):=by
 have e:(kvs.any fun kv=>decide (kv.1=k))=(atKey xs k).isSome:=by
  rw[a9r,(r.val k).isSome_eq,a8D]
 unfold a2g storedH
 rw[e]
 by_cases q:(atKey xs k).isSome=true
 ·rw[if_pos q,if_pos q];exact r.repl k ry
 ·rw[if_neg q,if_neg q];exact Paired.snoc r ⟨rfl,hb,ry⟩
theorem KT.keeps{kvs:List (List Key×V)}{xs:List (List Key×Addr×Value)}(r:KT H kvs xs)(ht:∀b ys,H b=some (.tup ys)->H' b=some (.tup ys)):KT H' kvs xs:=
 Paired.mapP r fun _ _ z=>⟨z.1,ht _ _ z.2.1,z.2.2⟩
section
variable {P:F3}
theorem c5o{u:HO}(ok:HOk P w H h)(e:Rd H a u):a0f P w H h a u:=e.ok ok
theorem b1M(ok:HOk P w H h)(e:Rd H a (.dK kvs)):kvs.length<=v6/\(a == a1K)=false/\∃vs,KV kvs vs/\h.DictOf (V8 P w) a vs:=
 show a0f P w H h a (.dK kvs)from c5o ok e
theorem a5i(ok:HOk P w H h)(e:H a=some (.dK kvs)):kvs.length<=v6/\(a == a1K)=false/\∃vs,KV kvs vs/\h.DictOf (V8 P w) a vs:=b1M ok (.inl e)
theorem b0n{ks:List Key}(ok:HOk P w H h)(e:H a=some (.tup (ks.map kV))):(b3R (V8 P w)).is h ks a:=by
 obtain⟨_,its,r,o,h1,h2,n,h3⟩:=(show a0f P w H h a (.tup (ks.map kV))from ok a _ e)
 exact⟨o,its.toArray,n,h1,h2,h3,by simpa using b1J r⟩
theorem b4Y{kvs:List (List Key×V)}(ok:HOk P w H h)(e:Rd H a (.dT kvs)):kvs.length<=v6/\(a == a1K)=false /\
  ∃xs,KT H kvs xs/\h.DictOfH (b3R (V8 P w)) a xs:=by
 obtain⟨z,y,xs,r,o,es,ep,h1,h2,h3,h4,h5⟩:=(show a0f P w H h a (.dT kvs)from c5o ok e)
 refine⟨z,y,xs,r,o,es,ep,h1,h2,h3,h4,fun x hx=>?_,h5⟩
 have all:∀ {l:List (List Key×V)} {m:List (List Key×Addr×Value)},KT H l m->∀x∈m,(b3R (V8 P w)).is h x.1 x.2.1:=by
  intro l m q
  induction q with
  | nil=>intro x hx;exact nomatch hx
  | @cons p q ps qs hq t ih=>
   intro x hx
   rcases q9.mp hx with e | hx
   ·subst e
    exact b0n ok (by rw[<-hq.1];exact hq.2.1)
   ·exact ih x hx
 exact all r x hx
theorem c9t{kvs:List (List Key×V)}(ok:HOk P w H h)(e:H a=some (.dT kvs)):kvs.length<=v6/\(a == a1K)=false /\
  ∃xs,KT H kvs xs/\h.DictOfH (b3R (V8 P w)) a xs:=b4Y ok (.inl e)
end
def a6w(H:Hp)(a:Addr)(y:V)(r:Option V):Prop:=
 (∃kvs k,Rd H a (.dK kvs)/\y=kV k/\r=a0v kvs k)\/∃kvs k b,Rd H a (.dT kvs)/\y=.ref b/\H b=some (.tup (k.map kV))/\r=a0v kvs k
def a8e(H:Hp)(a:Addr)(y v:V)(H':Hp):Prop:=
 (∃kvs k,H a=some (.dK kvs)/\y=kV k/\kvs.length<v6/\H'=upd H a (.dK (a2g kvs k v))) \/
 ∃kvs k b,H a=some (.dT kvs)/\y=.ref b/\H b=some (.tup (k.map kV))/\kvs.length<v6/\H'=upd H a (.dT (a2g kvs k v))
theorem a6w.k{k:Key}(e:H a=some (.dK kvs)):a6w H a (kV k) (a0v kvs k):=.inl ⟨kvs,k,.inl e,rfl,rfl⟩
theorem a8e.k{k:Key}(e:H a=some (.dK kvs))(hl:kvs.length<v6):a8e H a (kV k) v (upd H a (.dK (a2g kvs k v))):=.inl ⟨kvs,k,e,rfl,hl,rfl⟩
section
variable {r:Value}{o:Option V}{A:L7}{E:Value->o0->Prop}
theorem Inv.big(I:Inv X pins σ H s):a1K<s.heap.objs.size:=by
 have h:C2<s.heap.objs.size:=(I.mod.glob.keeps I.bk).lt
 exact Nat.lt_trans (by decide) h
theorem c9Z(hu:A.units+1<cLine)(I:Inv X pins σ H s)(g:a6w H a y o)(ry:J1 y u)(h:∀s',Inv X pins σ H s'->Q (.bool o.isSome) s') :
  wpAny (model X.prog X.w) A (A3 .In u (.ref a)) Q E s:=by
 rcases g with ⟨kvs,k,e,ey,l⟩ | ⟨kvs,k,b,e,ey,eb,l⟩
 ·subst ey
  obtain⟨z,hd,vs,rel,dd⟩:=b1M I.hok e
  refine wpAny_in_of (b0p ry) hd dd.mapOf ?_
  rw[<-(rel.val k).isSome_eq,<-l]
  exact h _ (I.tok _)
 ·subst ey
  cases (show u=Value.ref b from ry)
  obtain⟨z,hd,xs,rel,dd⟩:=b4Y I.hok e
  refine wpAny_in_heap (a5R hu) (b0n I.hok eb) hd dd ?_
  have q:=(rel.val k).isSome_eq
  rw[a8D]at q
  rw[<-q,<-l]
  exact h _ (I.tok _)
theorem c4M(hu:A.units+1<cLine)(I:Inv X pins σ H s)(g:a6w H a y o)(ry:J1 y u)(h:∀s',Inv X pins σ H s'->Q (.bool (!o.isSome)) s') :
  wpAny (model X.prog X.w) A (A3 .NotIn u (.ref a)) Q E s:=by
 rcases g with ⟨kvs,k,e,ey,l⟩ | ⟨kvs,k,b,e,ey,eb,l⟩
 ·subst ey
  obtain⟨z,hd,vs,rel,dd⟩:=b1M I.hok e
  refine wpAny_notIn_of (b0p ry) hd dd.mapOf ?_
  rw[<-(rel.val k).isSome_eq,<-l]
  exact h _ (I.tok _)
 ·subst ey
  cases (show u=Value.ref b from ry)
  obtain⟨z,hd,xs,rel,dd⟩:=b4Y I.hok e
  refine wpAny_notIn_heap (a5R hu) (b0n I.hok eb) hd dd ?_
  have q:=(rel.val k).isSome_eq
  rw[a8D]at q
  rw[<-q,<-l]
  exact h _ (I.tok _)
theorem a8V{ob:HO}(I:Inv X pins σ H s)(mu:Mut (H a))(hs:Heap.SameBut a s.heap h')(he:∃q,h'.get? a=some q)(new:a0f X.prog X.w (upd H a ob) h' a ob) :
  Inv X pins σ (upd H a ob) { s with heap:=h',toks:=t' }:=
 I.write (x:=a) (e:=a) mu (.inl rfl) (fun b q hb z=>(hs.2 b hb).trans z) he new
theorem b3p{P:F3}{vs:List (Key×Value)}(z:kvs.length<=v6)(hd:(a == a1K)=false)(rel:KV kvs vs)(dd:h'.DictOf (V8 P w) a vs) :
  a0f P w H' h' a (.dK kvs):=⟨z,hd,vs,rel,dd⟩
theorem b9j{Q:Unit->o0->Prop}(hu:A.units+1<cLine)(I:Inv X pins σ H s)(g:a8e H a y v H')(ry:J1 y u)(rv:J1 v r)(h:∀s',Inv X pins σ H' s'->Q () s') :
  wpAny (model X.prog X.w) A (c5F (.ref a) u r) Q E s:=by
 rcases g with ⟨kvs,k,e,ey,l,eH⟩ | ⟨kvs,k,b,e,ey,eb,l,eH⟩
 ·subst ey eH
  obtain⟨z,hd,vs,rel,dd⟩:=a5i I.hok e
  have hz:vs.length<=v6:=by rw[<-rel.length];exact z
  have hl:(a2g kvs k v).length<=v6:=by have:=a3e kvs k v;omega
  refine wpAny_setItem_pairs (hsz:=hz) (b0p ry) dd fun h' dd' hs=>h _ ?_
  have he:∃q,h'.get? a=some q:=let⟨q,_,_,hq,_⟩:=dd'; ⟨q,hq⟩
  exact a8V I (by rw[e];exact True.intro) hs he (b3p hl hd (rel.put k rv) dd')
 ·subst ey eH
  cases (show u=Value.ref b from ry)
  obtain⟨z,hd,xs,rel,dd⟩:=c9t I.hok e
  have hz:xs.length<=v6:=by rw[<-Paired.length rel];exact z
  have hl:(a2g kvs k v).length<=v6:=by have:=a3e kvs k v;omega
  refine wpAny_setItem_heap (hsz:=hz) (a5R hu) (b0n I.hok eb) dd fun h' dd' hs=>h _ ?_
  obtain⟨q,es,ep,hq,h2,h3,h4,_,h5⟩:=dd'
  refine a8V I (by rw[e];exact True.intro) hs ⟨q,hq⟩ ⟨hl,hd,_,(rel.put k eb rv).keeps fun c ys ec=>?_,q,es,ep,hq,h2,h3,h4,h5⟩
  rw[o4 (M3 ec e (fun z=>nomatch z))]
  exact ec
end
section
variable {k:Key}{A:L7}{E:Value->o0->Prop}
end
def b2g(ty td:TE):TE:=fun σ H Q=>ty σ H fun y H1=>td σ H1 fun x H2=>∃a o,x=.ref a/\a6w H2 a y o/\Q (.bl o.isSome) H2
def a5s(ty td:TE):TE:=fun σ H Q=>ty σ H fun y H1=>td σ H1 fun x H2=>∃a o,x=.ref a/\a6w H2 a y o/\Q (.bl (!o.isSome)) H2
def a2l(td ty tv:TE):TS:=fun D σ H=>tv σ H fun v H1=>td σ H1 fun x H2=>ty σ H2 fun y H3=>∃a H4,x=.ref a/\a8e H3 a y v H4/\D.nx σ H4
section
variable {o i value:Expr}{pos' tpos:Pos}{td ty tv:TE}
theorem c1B(hu:X.A.units+1<cLine)(hi:PE X i ty)(ho:PE X o td):PC X .In i o (b2g ty td):=by
 intro pins s σ H Q I h
 refine thn (hi pins s σ H _ I h) fun iv s1 ⟨y,H1,I1,ry,q1⟩=>thn (ho pins s1 σ H1 _ I1 q1) fun u s2 ⟨x,H2,I2,rx,a,ov,ex,g,q2⟩=>?_
 subst ex
 obtain rfl:u=Value.ref a:=rx
 exact c9Z hu I2 g ry fun s3 I3=>⟨.bl ov.isSome,H2,I3,rfl,q2⟩
theorem b8E(hu:X.A.units+1<cLine)(hi:PE X i ty)(ho:PE X o td):PC X .NotIn i o (a5s ty td):=by
 intro pins s σ H Q I h
 refine thn (hi pins s σ H _ I h) fun iv s1 ⟨y,H1,I1,ry,q1⟩=>thn (ho pins s1 σ H1 _ I1 q1) fun u s2 ⟨x,H2,I2,rx,a,ov,ex,g,q2⟩=>?_
 subst ex
 obtain rfl:u=Value.ref a:=rx
 exact c4M hu I2 g ry fun s3 I3=>⟨.bl (!ov.isSome),H2,I3,rfl,q2⟩
theorem c3D(hu:X.A.units+1<cLine)(ho:PE X o td)(hi:PE X i ty)(hv:PE X value tv)(hs:a2x value (some (.Subscript o i pos')) pos.line X.env=pure false) :
  PS X (.Assign [.Subscript o i pos'] value pos) (a2l td ty tv):=by
 intro pins s σ H D I h
 refine wpAny_Assign_Subscript (thn (hv pins s σ H _ I h) fun r s1 ⟨v,H1,I1,rv,q1⟩=>thn (ho pins s1 σ H1 _ I1 q1) fun u s2 ⟨x,H2,I2,rx,q2⟩=>thn (hi pins s2 σ H2 _ I2 q2) fun iv s3 ⟨y,H3,I3,ry,a,H4,ex,g,q3⟩=>?_) hs
 subst ex
 obtain rfl:u=Value.ref a:=rx
 exact b9j hu I3 g ry rv fun s4 I4=>⟨σ,H4,I4,q3⟩
end
theorem b4Z{P:F3}(h:Heap)(hb:a1K<h.objs.size):a0f P w H (h.push { cls:=.type "dict",data:=.dict #[] }) h.objs.size (.dK []):=
 ⟨O6 _,beq_eq_false_iff_ne.mpr (Ne.symm (C4 hb)),[],.nil,Heap.DictOf.new h⟩
def a2D:TE:=fun _ H Q=>∀p,H p=none->Q (.ref p) (upd H p (.dK []))
section
theorem c1w:PE X (.Dict [] [] pos) a2D:=fun pins s σ H Q I h=>
 wpAny_Dict_empty ⟨.ref s.heap.objs.size,_,I.laid (a:=s.heap.objs.size) (o:=.dK []) (t':=s.toks) (fun _ _ q=>i9 _ q) (o5 _) (b4Z s.heap I.big),rfl,h _ (I.hok.fresh (o5 _))⟩
end
def b5I:List (TE×TE)->St->Hp->(List (V×V)->Hp->Prop)->Prop
 | [],_,H,Q=>Q [] H
 | (tk,tv)::r,σ,H,Q=>tk σ H fun x H1=>tv σ H1 fun y H2=>b5I r σ H2 fun ps H3=>Q ((x,y)::ps) H3
abbrev VV:List (V×V)->List (Value×Value)->Prop:=Paired fun p q=>J1 p.1 q.1/\J1 p.2 q.2
def PPs(X:Cx)(pos:Pos)(keys:List (Option Expr))(values:List Expr)(trs:List (TE×TE)):Prop:=
 ∀(pins:List (Addr×Obj)) (s:o0) (σ:St) (H:Hp) (Q:List (V×V)->Hp->Prop),Inv X pins σ H s->b5I trs σ H Q ->
  wpAny (model X.prog X.w) X.A (evalPairs (pairTrees keys values X.env pos)) (fun vs s'=>∃ps H',Inv X pins σ H' s'/\VV ps vs/\Q ps H') X.xe s
theorem c3F:PPs X pos [] [] []:=fun pins s σ H Q I h=>pairTrees_nil_walk ⟨[],H,I,.nil,h⟩
theorem c1r{k v:Expr}{ks:List (Option Expr)}{vs:List Expr}{tk tv:TE}{trs:List (TE×TE)}(hk:PE X k tk)(hv:PE X v tv)(hr:PPs X pos ks vs trs) :
  PPs X pos (some k::ks) (v::vs) ((tk,tv)::trs):=fun pins s σ H Q I h=>
 pairTrees_cons_walk (thn (hk pins s σ H _ I h) fun u s1 ⟨x,H1,I1,rx,q1⟩=>thn (hv pins s1 σ H1 _ I1 q1) fun w2 s2 ⟨y,H2,I2,ry,q2⟩=>
  thn (hr pins s2 σ H2 _ I2 q2) fun ws s3 ⟨ps,H3,I3,rel,q3⟩=>⟨(x,y)::ps,H3,I3,.cons ⟨rx,ry⟩ rel,q3⟩)
def a7T(kvs more:List (Key×V)):List (Key×V):=more.foldl (fun acc kv=>a2g acc kv.1 kv.2) kvs
theorem KV.merge:∀ {more:List (Key×V)} {rs:List (Key×Value)} {kvs:List (Key×V)} {vs:List (Key×Value)},KV more rs->KV kvs vs->KV (a7T kvs more) (merged vs rs):=by
 intro more rs kvs vs r
 unfold KV at r
 induction r generalizing kvs vs with
 | nil=>intro q;exact q
 | @cons p q ps qs h t ih=>
  intro r0
  have e:KV (a2g kvs p.1 p.2) (stored vs q.1 q.2):=by
   have:=r0.put p.1 h.2
   rw[<-h.1];exact this
  exact ih e
theorem a5W:∀(more kvs:List (Key×V)),(a7T kvs more).length<=kvs.length+more.length
 | [],kvs=>by show kvs.length<=kvs.length+0;omega
 | p::r,kvs=>by
  have h1:=a5W r (a2g kvs p.1 p.2)
  have h2:=a3e kvs p.1 p.2
  show(a7T (a2g kvs p.1 p.2) r).length<=_
  rw[C6];omega
theorem b0E{P:F3}{w:World}:∀ {kvs:List (Key×V)} {ws:List (Value×Value)},VV (kvs.map fun kv=>(kV kv.1,kv.2)) ws->∃rs,Carries (V8 P w) ws rs/\KV kvs rs
 | [],_,r=>by rw[a9i]at r;cases r;exact⟨[],True.intro,.nil⟩
 | p::kvs,_,r=>by
  rw[G8]at r
  cases r with
  | @cons a b as bs h t=>
   obtain⟨rs,c,q⟩:=b0E (P:=P) (w:=w) t
   obtain⟨b1,b2⟩:=b
   exact⟨(p.1,b2)::rs,⟨b0p h.1,rfl,c⟩,.cons ⟨rfl,h.2⟩ q⟩
def a6K(trs:List (TE×TE)):TE:=fun σ H Q=>∀p,H p=none->b5I trs σ (upd H p (.dK [])) fun ps H2=>H2 p=some (.dK [])/\∃kvs:List (Key×V),ps=kvs.map (fun kv=>(kV kv.1,kv.2))/\kvs.length<=15/\Q (.ref p) (upd H2 p (.dK (a7T [] kvs)))
theorem c3N{keys:List (Option Expr)}{values:List Expr}{trs:List (TE×TE)}(h:PPs X pos keys values trs)(hall:keys.all (·.isSome)=true)(hl:keys.length=values.length)(h0:keys≠[])
  (h15:keys.length<=15):PE X (.Dict keys values pos) (a6K trs):=by
 intro pins s σ H Q I q
 have hn:=I.hok.fresh (o5 s.heap.objs.size)
 have I1:=I.laid (a:=s.heap.objs.size) (o:=.dK []) (h':=s.heap.push { cls:=.type "dict",data:=.dict #[] }) (t':=s.toks) (fun _ _ q=>i9 _ q) (o5 _) (b4Z s.heap I.big)
 refine wpAny_Dict_walk (knd:=V8 X.prog X.w) hall hl h0 h15 (thn (h pins _ σ _ _ I1 (q _ hn)) fun ws s2 ⟨ps,H2,I2,rel,e,kvs,ep,lk,q2⟩=>?_)
 subst ep
 obtain⟨rs,c,rk⟩:=b0E (P:=X.prog) (w:=X.w) rel
 obtain⟨z,hd,vs0,r0,dd⟩:=a5i I2.hok e
 cases r0
 refine⟨rs,c,dd,fun h' dd' hs=>⟨.ref s.heap.objs.size,_,?_,rfl,q2⟩⟩
 have hz:(a7T [] kvs).length<=v6:=by
  have h1:=a5W kvs []
  rw[W3]at h1
  rw[sizeLine_eq];omega
 have he:∃q,h'.get? s.heap.objs.size=some q:=let⟨q,_,_,hq,_⟩:=dd'; ⟨q,hq⟩
 exact a8V I2 (by rw[e];exact True.intro) hs he (b3p hz hd (rk.merge .nil) dd')
structure M1(X:Cx)(o:Expr)(m:Str)(apos:Pos)(e:Expr)(cpos:Pos):Prop where
 base:a0n o m X.env (eval o X.env)=eval o X.env
 few:((a0m cpos (i8 [e] X.env)).all (fun x => !x.1)&&(b0Q cpos (a3m [] X.env)).all (fun x=>x.1.isSome)
  && decide (([e]:List Expr).length+([]:List a7x).length+(if([]:List a7x).isEmpty then 0 else 1)<30))=true
 line:(apos.endLine == cpos.line)=true
 trees:a0m cpos (i8 [e] X.env)=[(false,eval e X.env)]
structure M2(X:Cx)(o:Expr)(m:Str)(apos:Pos)(e f:Expr)(cpos:Pos):Prop where
 base:a0n o m X.env (eval o X.env)=eval o X.env
 few:((a0m cpos (i8 [e,f] X.env)).all (fun x => !x.1)&&(b0Q cpos (a3m [] X.env)).all (fun x=>x.1.isSome)
  && decide (([e,f]:List Expr).length+([]:List a7x).length+(if([]:List a7x).isEmpty then 0 else 1)<30))=true
 line:(apos.endLine == cpos.line)=true
 trees:a0m cpos (i8 [e,f] X.env)=[(false,eval e X.env),(false,eval f X.env)]
def IsD(H:Hp)(a:Addr):Prop:=(∃kvs,Rd H a (.dK kvs))\/∃kvs,Rd H a (.dT kvs)
theorem c7I(I:Inv X pins σ H s)(d:IsD H a) :
  s.TypeIs (.ref a) "dict" /\ (∀b,Value.ref a=.ref b->∃ob,s.heap.get? b=some ob/\ob.dict=none)/\(a == a1K)=false:=by
 rcases d with ⟨kvs,e⟩ | ⟨kvs,e⟩
 ·obtain⟨_,hd,vs,_,dd⟩:=b1M I.hok e
  refine⟨dd.typeIs,fun b q=>?_,hd⟩
  cases q
  obtain⟨ob,_,_,h1,h2,_⟩:=dd
  exact⟨ob,h1,h2.2.1⟩
 ·obtain⟨_,hd,xs,_,dd⟩:=b4Y I.hok e
  refine⟨dd.typeIs,fun b q=>?_,hd⟩
  cases q
  obtain⟨ob,_,_,h1,h2,_⟩:=dd
  exact⟨ob,h1,h2.2.1⟩
section
variable {d:V}{r:Value}{o:Option V}{A:L7}{E:Value->o0->Prop}
theorem c7Q(hu:A.units+1<cLine)(I:Inv X pins σ H s)(g:a6w H a y o)(ry:J1 y u)(rd:J1 d r)(h:∀w' s',Inv X pins σ H s'->J1 (o.getD d) w'->Q w' s') :
  wpAny (model X.prog X.w) A (call (.builtin "dict.get") [.ref a,u,r]) Q E s:=by
 rcases g with ⟨kvs,k,e,ey,l⟩ | ⟨kvs,k,b,e,ey,eb,l⟩
 ·subst ey
  obtain⟨z,hd,vs,rel,dd⟩:=b1M I.hok e
  refine call_meetsIn a5o dd.typeIs b5q (b3O _ _ _) (meets_dict_get_default (V8 X.prog X.w) a (b0p ry) hd r) ⟨_,dd.mapOf,h _ _ (I.tok _) ?_⟩
  rw[l]
  exact(rel.val k).getD rd
 ·subst ey
  cases (show u=Value.ref b from ry)
  obtain⟨z,hd,xs,rel,dd⟩:=b4Y I.hok e
  refine call_meetsIn a5o dd.typeIs b5q (b3O _ _ _) (meetsH_dict_get_default (b3R (V8 X.prog X.w)) a b hd r) ⟨a5R hu,k,xs,b0n I.hok eb,dd,h _ _ (I.tok _) ?_⟩
  rw[l]
  exact(rel.val k).getD rd
end
def a7B(td ty tx:TE):TE:=fun σ H Q=>td σ H fun x H1=>∃a,x=.ref a/\IsD H1 a/\ty σ H1 fun y H2=>tx σ H2 fun z H3=>∃o,a6w H3 a y o/\Q (o.getD z) H3
section
variable {o f:Expr}{apos cpos:Pos}{td ty tx:TE}
theorem c1x(hu:X.A.units+1<cLine)(ho:PE X o td)(he:PE X e ty)(hf:PE X f tx)(m:M2 X o "get" apos e f cpos):PE X (.Call (.Attribute o "get" apos) [e,f] [] cpos) (a7B td ty tx):=by
 intro pins s σ H Q I h
 refine wpAny_Call_method m.base m.few m.line b3N a5o PySem.F.type_dict_get (thn (ho pins s σ H _ I h) fun u s1 ⟨x,H1,I1,rx,a,ex,d,q1⟩=>?_)
 subst ex
 obtain rfl:u=Value.ref a:=rx
 obtain⟨t1,t2,_⟩:=c7I I1 d
 refine⟨t1,t2,?_⟩
 rw[m.trees]
 refine Calls.callWith_builtin rfl (Calls.evalArgs_plain (Calls.spliced_cons (thn (he pins s1 σ H1 _ I1 q1) fun iv s2 ⟨y,H2,I2,ry,q2⟩=>
  Calls.spliced_cons (thn (hf pins s2 σ H2 _ I2 q2) fun fv s3 ⟨z,H3,I3,rz,ov,g,q3⟩=>Calls.spliced_nil ?_))))
 exact c7Q hu I3 g ry rz fun w' s4 I4 rw'=>⟨_,H3,I4,rw',q3⟩
end
section
variable {A:L7}{E:Value->o0->Prop}
theorem c2u(I:Inv X pins σ H s)(e:Rd H a (.dK kvs))(h:∀p s',H p=none->Inv X pins σ (upd H p (.dK kvs)) s'->Q (.ref p) s'):wpAny (model X.prog X.w) A (call (.type "dict") [.ref a]) Q E s:=by
 obtain⟨z,hd,vs,rel,dd⟩:=b1M I.hok e
 refine kt_call_dict hd dd (by rw[<-rel.length];exact z) fun h' dd' hs=>?_
 refine h _ _ (I.hok.fresh (o5 _)) (I.laid (a:=s.heap.objs.size) (o:=.dK kvs) (t':=s.toks) (fun b q hq=>?_) (o5 _) (b3p z (beq_eq_false_iff_ne.mpr (Ne.symm (C4 I.big))) rel dd'))
 exact(hs.2 b (C4 (o9 hq))).trans (i9 _ hq)
end
section
variable {A:L7}{E:Value->o0->Prop}
end
end L2
namespace HT
open PySem PyProof.Rows
section
open PySem.SeqAt
open PySem.AutoSeq1 (wpAny_loadPart')
open PySem.MeetsSeq PySem.MeetsSeq2 PySem.MeetsSeq3
end
section
variable {prog:F3}{w:World}{A:L7}{E:Value->o0->Prop}{s:o0}
def sIx(n d:Nat):Option Int->Nat
 | none=>d
 | some v=>if v<0 then (v+(n:Int)).toNat else min v.toNat n
theorem a6V(n d k:Nat):sIx n d (some (k:Int))=min k n:=by
 show(if(k:Int)<0 then ((k:Int)+(n:Int)).toNat else min (k:Int).toNat n)=min k n
 rw[if_neg (by omega),A7]
theorem c6d(n d:Nat)(hd:d<=n)(o:Option Int):sIx n d o<=n:=by
 cases o with
 | none=>exact hd
 | some v=>
  show(if v<0 then (v+(n:Int)).toNat else min v.toNat n)<=n
  by_cases hv:v<0
  ·rw[if_pos hv];omega
  ·rw[if_neg hv];exact Nat.min_le_right _ _
theorem b7P(v:Int)(n d:Nat):(if v<0 then max (v+(n:Int)) 0 else min v (n:Int))=((sIx n d (some v):Nat):Int):=by
 show(if v<0 then max (v+(n:Int)) 0 else min v (n:Int))=(((if v<0 then (v+(n:Int)).toNat else min v.toNat n):Nat):Int)
 by_cases hv:v<0
 ·simp only[if_pos hv];omega
 ·simp only[if_neg hv];omega
theorem b6X(lo hi:Option Int)(n:Nat):Builtin.Slice.sliceAdjust lo hi 1 (n:Int)=(((sIx n 0 lo:Nat):Int),((sIx n n hi:Nat):Int)):=by
 have h1:¬((1:Int)<0):=by omega
 unfold Builtin.Slice.sliceAdjust
 simp only[h1,if_false]
 refine Prod.ext ?_ ?_
 ·cases lo with
  | none=>rfl
  | some v=>exact b7P v n 0
 ·cases hi with
  | none=>rfl
  | some v=>exact b7P v n n
theorem b6j(i j:Nat):Builtin.Slice.slicePlaces (i:Int) (j:Int) 1=j - i:=by
 unfold Builtin.Slice.slicePlaces
 have h1:(1:Int) > 0:=by omega
 simp only[h1,if_true,Int.ediv_one]
 split <;> omega
theorem a9G{v:Value}{o:Option Int}{Q:Option Int->o0->Prop}(p:c5b v o)(h:Q o s):wpAny (model prog w) A (Builtin.Slice.slicePartIndex v) Q E s:=by
 cases p with
 | none=>exact slicePart_none h
 | int i t=>exact slicePart_int h
theorem a7C{sl:Addr}{vl vu:Value}{lo hi:Option Int}{n:Nat}{Q:Int×Int×Nat->o0->Prop}(hs:s.heap.IsSliceOf sl vl vu .none)(pl:c5b vl lo)(pu:c5b vu hi)
  (h:Q (((sIx n 0 lo:Nat):Int),1,sIx n n hi - sIx n 0 lo) s):wpAny (model prog w) A (Builtin.Slice.sliceApplied (.ref sl) (pure (n:Int))) Q E s:=by
 obtain⟨os,hos,hcs,hds⟩:=id hs
 unfold Builtin.Slice.sliceApplied Builtin.Slice.sliceFields
 refine u6 (u6 (c9F hos hds (x:=vl) rfl (u6 (c9F hos hds (x:=vu) rfl (u6 (c9F hos hds (x:=.none) rfl (E5 ?_)))))))
 refine u6 (slicePart_none ?_)
 show wpAny _ _ (if((1:Int) == 0)=true then _ else _) _ _ s
 rw[if_neg (by decide)]
 refine u6 (a9G pl (u6 (a9G pu (u6 (E5 ?_)))))
 show wpAny _ _ (match Builtin.Slice.sliceAdjust lo hi 1 (n:Int)with | (lo,hi)=>pure (lo,(1:Int),Builtin.Slice.slicePlaces lo hi 1)) _ _ s
 rw[b6X lo hi n]
 show wpAny _ _ (pure (((sIx n 0 lo:Nat):Int),(1:Int),Builtin.Slice.slicePlaces ((sIx n 0 lo:Nat):Int) ((sIx n n hi:Nat):Int) 1)) _ _ s
 rw[b6j]
 exact E5 h
theorem c1s(xs:Array Value)(i k:Nat):((L4 k).filterMap fun(m:Nat)=>xs[((i:Int)+(m:Int) * 1).toNat]?).toArray=((xs.toList.drop i).take k).toArray:=by
 have e:(fun(m:Nat)=>xs[((i:Int)+(m:Int) * 1).toNat]?)=fun m=>xs[i+m]?:=by
  funext m
  have:((i:Int)+(m:Int) * 1).toNat=i+m:=by omega
  rw[this]
 rw[e]
 have:=pick_run xs i k
 rw[List.filterMap_map]at this
 have e2:((fun x=>xs[x]?) ∘ fun x=>i+x)=fun m=>xs[i+m]?:=rfl
 rw[e2]at this
 rw[this]
theorem a7d{t sl:Addr}{items:Array Value}{vl vu:Value}{lo hi:Option Int}{Q:Value->o0->Prop}(ht:IsTup s.heap t items)(hs:s.heap.IsSliceOf sl vl vu .none)(pl:c5b vl lo)(pu:c5b vu hi)
  (hw:¬(sIx items.size 0 lo=0/\sIx items.size items.size hi=items.size))
  (h:Q (.ref s.heap.objs.size) { s with heap:=s.heap.push { cls:=.type "tuple",data:=.seq ((items.toList.drop (sIx items.size 0 lo)).take (sIx items.size items.size hi - sIx items.size 0 lo)).toArray } })
  (hsz:items.size<=v6):wpAny (model prog w) A (c5G (.ref t) (.ref sl)) Q E s:=by
 have htake:sizeOk (.seq ((items.toList.drop (sIx items.size 0 lo)).take (sIx items.size items.size hi - sIx items.size 0 lo)).toArray):=by
  show((items.toList.drop (sIx items.size 0 lo)).take (sIx items.size items.size hi - sIx items.size 0 lo)).toArray.size<=v6
  rw[t9,J4,b0S,a1d]
  omega
 have hj:sIx items.size items.size hi<=items.size:=c6d _ _ (o5 _) hi
 obtain⟨os,hos,hcs,hds⟩:=id hs
 have hTs:s.TypeIs (.ref sl) "slice" := ⟨os,hos,hcs⟩
 unfold c5G
 try with_reducible refine a2w ?_
 first | refine u6 (E5 ?_) | skip
 refine u6 (wpAny_sequenceKey ht.typeIs (by decide) ?_)
 refine u6 (wpAny_callSpecial?_slot (name:=Str.ofString "__getitem__") ht.typeIs a1o
  (a8m a1o ht.typeIs entry_tuple_getitem ?_ (args_tuple_getitem _ _)))
 show wpAny _ _ (Builtin.Tuple.tupleItemsOf (.ref t) >>= _) _ _ s
 refine u6 (tupleItemsOf_ ht ?_)
 refine u6 (wpAny_typeOf hTs ?_)
 rw[if_pos (by decide)]
 refine u6 (a7C hs pl pu ?_)
 have hno:¬((((sIx items.size 0 lo:Nat):Int) == 0&&(1:Int) == 1&&(sIx items.size items.size hi - sIx items.size 0 lo) == items.size)=true):=by
  intro q
  rw[a0Y,a0Y]at q
  have q1:((sIx items.size 0 lo:Nat):Int)=0:=eq_of_beq q.1.1
  have q2:sIx items.size items.size hi - sIx items.size 0 lo=items.size:=eq_of_beq q.2
  exact hw ⟨by omega,by omega⟩
 show wpAny _ _ (if(((sIx items.size 0 lo:Nat):Int) == 0&&(1:Int) == 1&&(sIx items.size items.size hi - sIx items.size 0 lo) == items.size)=true then _ else _) _ _ s
 rw[if_neg hno,c1s]
 first
  | exact u6 (m:=Builtin.Tuple.tupleExact _) (a1I (E5 ⟨_,rfl,E5 h⟩) htake)
  | exact u6 (m:=Builtin.Tuple.tupleExact _) (a1I (u6 (E5 (E5 ⟨_,rfl,E5 h⟩))) htake)
  | exact u6 (u6 (m:=Builtin.Tuple.tupleExact _) (a1I (E5 (E5 ⟨_,rfl,E5 h⟩)) htake))
  | exact u6 (u6 (m:=Builtin.Tuple.tupleExact _) (a1I (E5 ⟨_,rfl,E5 h⟩) htake))
end
end HT
namespace L2
open PySem PySem.Spec PyProof.Rows
variable{X:Cx}{n:Nat}{pins:List (Addr×Obj)}{σ:St}{H:Hp}{s:o0}{xs:List V}{us:List Value}
abbrev TO:=St->Hp->(Option Int->Hp->Prop)->Prop
def PO(X:Cx)(e:Option Expr)(t:TO):Prop:=
 ∀(pins:List (Addr×Obj)) (s:o0) (σ:St) (H:Hp) (Q:Option Int->Hp->Prop),Inv X pins σ H s->t σ H Q ->
  wpAny (model X.prog X.w) X.A (evalPart e X.env) (fun u s'=>∃o H',Inv X pins σ H' s'/\c5b u o/\Q o H') X.xe s
def a1v:TO:=fun _ H Q=>Q none H
def a4S(t:TE):TO:=fun σ H Q=>t σ H fun x H1=>∃i,x=.int i/\Q (some i) H1
section
variable {e:Expr}{te:TE}{lo hi:Option Expr}{tl th:TO}{pos p2:Pos}
theorem c3H:PO X none a1v:=by
 intro pins s σ H Q I h
 rw[evalPart_none]
 exact E5 ⟨none,H,I,.none,h⟩
theorem c3G(h:PE X e te):PO X (some e) (a4S te):=by
 intro pins s σ H Q I hw
 rw[evalPart_some]
 refine thn (h pins s σ H _ I hw) fun u s1 ⟨x,H1,I1,r1,q1⟩=>?_
 obtain⟨i,rfl,q⟩:=q1
 obtain⟨t,rfl⟩:=r1
 exact⟨some i,H1,I1,.int i t,q⟩
def SlR(X:Cx)(r:V->Option Int->Option Int->Hp->VK->Prop):Prop:=
 ∀(pins:List (Addr×Obj)) (s:o0) (σ:St) (H:Hp) (x:V) (v vl vu:Value) (lo hi:Option Int) (sl:Addr) (Q:VK),Inv X pins σ H s->J1 x v->s.heap.IsSliceOf sl vl vu .none->c5b vl lo->c5b vu hi->r x lo hi H Q ->
  ∃T id,typeLookup (.type T) "__getitem__" = pure (some (.builtin id))/\s.TypeIs v T/\wpAny (model X.prog X.w) X.A (c5G v (.ref sl)) (EP X pins σ Q) X.xe s
theorem SlR.or{r r':V->Option Int->Option Int->Hp->VK->Prop}(h:SlR X r)(h':SlR X r'):SlR X (fun x lo hi H Q=>r x lo hi H Q\/r' x lo hi H Q):=by
 intro pins s σ H x v vl vu lo hi sl Q I rx hs pl pu q
 rcases q with q | q
 ·exact h pins s σ H x v vl vu lo hi sl Q I rx hs pl pu q
 ·exact h' pins s σ H x v vl vu lo hi sl Q I rx hs pl pu q
def tSl(r:V->Option Int->Option Int->Hp->VK->Prop)(te:TE)(tl th:TO):TE:=fun σ H Q=>te σ H fun x H1=>tl σ H1 fun l H2=>th σ H2 fun u H3=>r x l u H3 Q
theorem c1u{r:V->Option Int->Option Int->Hp->VK->Prop}(hr:SlR X r)(he:PE X e te)(hl:PO X lo tl)(hu:PO X hi th):PE X (.Subscript e (.Slice lo hi none p2) pos) (tSl r te tl th):=by
 intro pins s σ H Q I h
 refine Subscript_ (thn (he pins s σ H _ I h) fun v s1 ⟨x,H1,I1,r1,q1⟩=>?_)
 refine wpAny_Slice (thn (hl pins s1 σ H1 _ I1 q1) fun vl s2 ⟨l,H2,I2,pl,q2⟩=>thn (hu pins s2 σ H2 _ I2 q2) fun vu s3 ⟨u,H3,I3,pu,q3⟩=>?_)
 rw[evalPart_none]
 refine E5 ?_
 have I4:Inv X pins σ H3 { s3 with heap:=s3.heap.push { cls:=.type "slice",data:=.fields #[vl,vu,.none] } }:=I3.kept (t':=s3.toks) fun b ob q=>i9 _ q
 obtain⟨T,id,hT,ht,hg⟩:=hr pins { s3 with heap:=s3.heap.push { cls:=.type "slice",data:=.fields #[vl,vu,.none] } } σ H3 x v vl vu l u s3.heap.objs.size Q I4 r1 (Heap.IsSliceOf.new ..) pl pu q3
 show wpAny (model X.prog X.w) X.A (subscriptTail e (.Slice lo hi none p2) v (.ref s3.heap.objs.size)) (EP X pins σ Q) X.xe { s3 with heap:=s3.heap.push { cls:=.type "slice",data:=.fields #[vl,vu,.none] } }
 exact tail_any (ops:=[.ref s3.heap.objs.size,v]) ht hT hg (by with_unfolding_all rfl)
def a4m(xs:List V)(lo hi:Option Int):List V:=(xs.drop (HT.sIx xs.length 0 lo)).take (HT.sIx xs.length xs.length hi - HT.sIx xs.length 0 lo)
theorem a8B(xs:List V)(lo hi:Option Int):(a4m xs lo hi).length<=xs.length:=by
 unfold a4m
 rw[J4,b0S]
 omega
def c9O(K:Fg):V->Option Int->Option Int->Hp->VK->Prop:=fun x lo hi H Q=>∃a xs,x=.ref a/\SqT K H a xs /\
 ¬(HT.sIx xs.length 0 lo=0/\HT.sIx xs.length xs.length hi=xs.length)/\∀p,H p=none->Q (.ref p) (upd H p (.tup (a4m xs lo hi)))
theorem c5L:SlR X (c9O X.K):=by
 intro pins s σ H x v vl vu lo hi sl Q I rx hs pl pu h
 obtain⟨a,xs,rfl,hx,hw,q⟩:=h
 cases rx
 obtain⟨its,r,ht,hz⟩:=I.tuple hx
 have hlen:its.toArray.size=xs.length:=by rw[t9];exact r.length.symm
 refine⟨"tuple",_,a1o.lookup,ht.typeIs,?_⟩
 refine HT.a7d ht hs pl pu (by rw[hlen];exact hw) ?_ (by rw[hlen];exact hz)
 rw[hlen]
 refine⟨.ref s.heap.objs.size,_,I.laid (t':=s.toks) (o:=.tup (a4m xs lo hi)) (fun b ob q=>i9 _ q) (o5 _) ?_,rfl,q _ (I.hok.fresh (o5 _))⟩
 exact⟨J8 (a8B xs lo hi) hz,_,(r.drop (HT.sIx xs.length 0 lo)).take (HT.sIx xs.length xs.length hi - HT.sIx xs.length 0 lo),IsTup.new _ _⟩
end
def ixN(n:Nat)(i:Int):Option Nat:=if 0<=i then (if i<n then some i.toNat else none)else if -(n:Int)<=i then some (i+n).toNat else none
def atI{α:Type}(xs:List α)(i:Int):Option α:=(ixN xs.length i).bind fun j=>xs[j]?
theorem b7H{i:Int}{j:Nat}(h:ixN n i=some j):seqIndex? i n=some j/\j<n /\ -(n:Int)<=i/\i<n:=by
 unfold ixN at h
 by_cases h0:0<=i
 ·rw[if_pos h0]at h
  by_cases h1:i<n
  ·rw[if_pos h1]at h
   have e:i.toNat=j:=Option.some.inj h
   exact⟨by rw[c9G h0 h1,e],by omega,by omega,h1⟩
  ·rw[if_neg h1]at h;cases h
 ·rw[if_neg h0]at h
  by_cases h1 : -(n:Int)<=i
  ·rw[if_pos h1]at h
   have e:(i+n).toNat=j:=Option.some.inj h
   exact⟨by rw[c8q (by omega) h1,e],by omega,h1,by omega⟩
  ·rw[if_neg h1]at h;cases h
theorem b3z{α:Type}{xs:List α}{i:Int}{v:α}(h:atI xs i=some v):∃j,seqIndex? i xs.length=some j/\xs[j]? = some v/\j<xs.length /\ -(xs.length:Int)<=i/\i<xs.length:=by
 unfold atI at h
 cases e:ixN xs.length i with
 | none=>rw[e]at h;cases h
 | some j=>
  rw[e]at h
  obtain⟨h1,h2,h3,h4⟩:=b7H e
  exact⟨j,h1,h,h2,h3,h4⟩
theorem a0W{α:Type}{xs:List α}{j:Nat}{v:α}(h:xs[j]? = some v):atI xs (j:Int)=some v:=by
 have hj:j<xs.length:=(y4.mp h).1
 have e:ixN xs.length (j:Int)=some j:=by
  unfold ixN
  rw[if_pos (by omega),if_pos (by omega)];simp
 unfold atI;rw[e];exact h
def b3E(b:Expr):Prop:=∀o i,subscripted b false o i=operate [o,i] (c5G o i)
def IxR(X:Cx)(r:R2):Prop:=
 ∀(value slice:Expr) (pins:List (Addr×Obj)) (s:o0) (σ:St) (H:Hp) (x y:V) (v u:Value) (Q:VK),Inv X pins σ H s->J1 x v->J1 y u->r x y H Q ->
  subscripted slice false v u=operate [v,u] (c5G v u)->wpAny (model X.prog X.w) X.A (subscriptTail value slice v u) (EP X pins σ Q) X.xe s
def MtR(X:Cx)(id:String)(r:V->List V->Hp->VK->Prop):Prop:=
 ∀(pins:List (Addr×Obj)) (s:o0) (σ:St) (H:Hp) (x:V) (xs:List V) (v:Value) (us:List Value) (Q:VK),Inv X pins σ H s->J1 x v->J3 xs us->r x xs H Q ->
  wpAny (model X.prog X.w) X.A (call (.builtin id) (v::us)) (EP X pins σ Q) X.xe s
section
variable {a b:Expr}{ta tb:TE}{pos:Pos}
theorem IxR.or{r r':R2}(h:IxR X r)(h':IxR X r'):IxR X (fun x y H Q=>r x y H Q\/r' x y H Q):=by
 intro value slice pins s σ H x y v u Q I rx ry q hs
 rcases q with q | q
 ·exact h value slice pins s σ H x y v u Q I rx ry q hs
 ·exact h' value slice pins s σ H x y v u Q I rx ry q hs
theorem c9c{r:R2}(hr:IxR X r)(ha:PE X a ta)(hb:PE X b tb)(hs:b3E b):PE X (.Subscript a b pos) (tOp r ta tb):=by
 intro pins s σ H Q I h
 exact Subscript_ (c7T ha hb I h fun v u s2 x y H2 I2 rx ry q=>hr a b pins s2 σ H2 x y v u Q I2 rx ry q (hs _ _))
def c8P(K:Fg):R2:=fun x y H Q=>∃p xs i v,x=.ref p/\y=.int i/\SqL K H p xs/\atI xs i=some v/\Q v H
def c8N(K:Fg):R2:=fun x y H Q=>∃p xs i v,x=.ref p/\y=.int i/\SqT K H p xs/\atI xs i=some v/\Q v H
def c8O:R2:=fun x y H Q=>∃z i c,x=.str z/\y=.int i/\z.length<=v6/\atI z.cps.toList i=some c/\Q (.str ⟨#[c]⟩) H
theorem c4A:IxR X (c8P X.K):=by
 intro value slice pins s σ H x y v u Q I rx ry h hs
 obtain⟨p,xs,i,z,rfl,rfl,hq,he,q⟩:=h
 cases rx
 obtain⟨t,rfl⟩:=ry
 obtain⟨its,r,pl,hz⟩:=I.list hq
 obtain⟨j,h1,h2,h3,h4,h5⟩:=b3z he
 obtain⟨w,ew,rw'⟩:=r.get h2
 have hl:=r.length
 have hn:=a6s
 have fin:EP X pins σ Q w s:=⟨z,H,I,rw',q⟩
 by_cases h0:0<=i
 ·have hj:i.toNat=j:=by
   rw[c9G h0 h5]at h1
   exact Option.some.inj h1
  exact item_listR pl.isList h0 (by omega) (by rw[hj];simpa using ew) fin hs
 ·have hj:(i+(its.toArray.size:Int)).toNat=j:=by
   rw[c8q (by omega) h4]at h1
   rw[t9,<-hl]
   exact Option.some.inj h1
  exact c8j (x:=w) pl.isList.typeIs slot_list_getitem.lookup
   (wpAny_getItem_list_neg (Q:=fun r s'=>r=w/\EP X pins σ Q r s') pl.isList (by omega) (by rw[t9] <;> omega) (by omega) (by rw[hj];simpa using ew) ⟨rfl,fin⟩) hs
theorem c7F:IxR X (c8N X.K):=by
 intro value slice pins s σ H x y v u Q I rx ry h hs
 obtain⟨p,xs,i,z,rfl,rfl,hq,he,q⟩:=h
 cases rx
 obtain⟨t,rfl⟩:=ry
 obtain⟨its,r,pl,hz⟩:=I.tuple hq
 obtain⟨j,h1,h2,h3,h4,h5⟩:=b3z he
 obtain⟨w,ew,rw'⟩:=r.get h2
 have hl:=r.length
 have hn:=a6s
 have fin:EP X pins σ Q w s:=⟨z,H,I,rw',q⟩
 exact c8j (x:=w) pl.typeIs slot_tuple_getitem.lookup
  (getItem_tuple (j:=j) (Q:=fun r s'=>r=w/\EP X pins σ Q r s') pl (by omega) (by omega) (by rw[t9,<-hl];exact h1) (by simpa using ew) ⟨rfl,fin⟩) hs
theorem c7G:IxR X c8O:=by
 intro value slice pins s σ H x y v u Q I rx ry h hs
 obtain⟨z,i,c,rfl,rfl,hz,he,q⟩:=h
 obtain⟨t,rfl⟩:=rx
 obtain⟨t',rfl⟩:=ry
 obtain⟨j,h1,h2,h3,h4,h5⟩:=b3z he
 have hl:z.cps.toList.length=z.length:=by simp[Str.length]
 rw[hl]at h1 h4 h5
 have hn:=a6s
 exact tail_any (typeIs_str s z t) slot_str_getitem.lookup (getItem_str (c:=c) (by
  have e1:decide (i < -(2 ^ 63:Int))=false:=d1C (by omega)
  have e2:decide (i ≥ 2 ^ 63)=false:=d1C (by omega)
  rw[e1,e2,Bool.or_false]) (by rw[h1];simpa using h2) ⟨.str ⟨#[c]⟩,H,I.tok _,⟨_,rfl⟩,q⟩) hs
def rIx(K:Fg):R2:=fun x y H Q=>c8P K x y H Q\/c8N K x y H Q\/c8O x y H Q
theorem c2f:IxR X (rIx X.K):=c4A.or (c7F.or c7G)
theorem b6z(its:List Value)(n j:Nat)(u:Value):Obj.mapSeq (·.setIfInBounds j u) { cls:=.type "list",data:=.seq its.toArray n }={ cls:=.type "list",data:=.seq (its.set j u).toArray n }:=by
 simp[Obj.mapSeq]
theorem Inv.lst{pins:List (Addr×Obj)}{σ:St}{H:Hp}{s:o0}{p:Addr}{xs:List V}(I:Inv X pins σ H s)(h:H p=some (.lst xs)) :
  ∃(its:List Value) (n:Nat),J3 xs its/\s.heap.get? p=some { cls:=.type "list",data:=.seq its.toArray n }/\xs.length<=v6:=by
 obtain⟨z,its,n,r,e⟩:=I.hok p _ h
 exact⟨its,n,r,e,z⟩
theorem Inv.lstUpd{p:Addr}{ys:List V}{its its':List Value}{n':Nat}{f:Obj->Obj}(I:Inv X pins σ H s)(h:H p=some (.lst xs))
  (ho:s.heap.get? p=some { cls:=.type "list",data:=.seq its.toArray n }) (hf:f { cls:=.type "list",data:=.seq its.toArray n }={ cls:=.type "list",data:=.seq its'.toArray n' }) (r:J3 ys its') (hz:ys.length<=v6) (t:Nat) :
  Inv X pins σ (upd H p (.lst ys)) { s with heap:=s.heap.update p f,toks:=t }:=by
 have e:(s.heap.update p f).get? p=some { cls:=.type "list",data:=.seq its'.toArray n' }:=by
  rw[a5Z f ho (by rw[hf] <;> rfl),hf]
 refine I.write (x:=p) (e:=p) (by rw[h];trivial) (.inl rfl) (fun b u hb q=>(a5J _ _ (Ne.symm hb)).trans q) ⟨_,e⟩ ?_
 exact⟨hz,its',n',r,e⟩
def c8M:V->V->V->Hp->(Hp->Prop)->Prop:=fun o i v H Q=>∃p xs k j,o=.ref p/\i=.int k/\H p=some (.lst xs)/\ixN xs.length k=some j/\Q (upd H p (.lst (xs.set j v)))
theorem c0y:c2D X c8M:=by
 intro pins s σ H o i v ov iv u Q I ro ri rv h
 obtain⟨p,xs,k,j,rfl,rfl,hp,hj,q⟩:=h
 cases ro
 obtain⟨t,rfl⟩:=ri
 obtain⟨its,n,r,ho,hz⟩:=I.lst hp
 obtain⟨h1,h2,h3,h4⟩:=b7H hj
 have hl:=r.length
 have hn:=a6s
 have I':Inv X pins σ (upd H p (.lst (xs.set j v))) { s with heap:=s.heap.update p (Obj.mapSeq (·.setIfInBounds j u)) }:=
  I.lstUpd hp ho (b6z its n j u) (r.set rv j) (by rw[T4];exact hz) s.toks
 by_cases h0:0<=k
 ·have hk:k.toNat=j:=by
   rw[c9G h0 h4]at h1
   exact Option.some.inj h1
  exact PySem.W.ki_setAt ho h0 (by omega) (by rw[t9,<-hl];exact h4) (by rw[hk];exact⟨_,I',q⟩)
 ·have hk:(k+(its.toArray.size:Int)).toNat=j:=by
   rw[c8q (by omega) h3]at h1
   rw[t9,<-hl]
   exact Option.some.inj h1
  exact PySem.W.ki_setBack ho (by omega) (by rw[t9,<-hl];exact h3) (by omega) (by rw[hk];exact⟨_,I',q⟩)
theorem b2n(lo hi:Option Int)(n:Nat):(a4F lo hi none n).1=((HT.sIx n 0 lo:Nat):Int)/\(a4F lo hi none n).2.1=((HT.sIx n n hi:Nat):Int)/\(a4F lo hi none n).2.2=1:=by
 refine⟨?_,?_,rfl⟩
 ·cases lo with
  | none=>simp[a4F,HT.sIx]
  | some i=>
   simp only[a4F,HT.sIx,c2P,show(1:Int) > 0 by decide,if_true]
   by_cases h:i<0
   ·simp only[h,if_true] <;> omega
   ·simp only[h,if_false] <;> omega
 ·cases hi with
  | none=>simp[a4F,HT.sIx]
  | some i=>
   simp only[a4F,HT.sIx,c2P,show(1:Int) > 0 by decide,if_true]
   by_cases h:i<0
   ·simp only[h,if_true] <;> omega
   ·simp only[h,if_false] <;> omega
theorem b0W(its:List Value)(lo hi:Option Int):slicePick its.toArray lo hi none=((its.drop (HT.sIx its.length 0 lo)).take (HT.sIx its.length its.length hi - HT.sIx its.length 0 lo)).toArray:=by
 obtain⟨h1,h2,h3⟩:=b2n lo hi its.toArray.size
 unfold slicePick
 rw[h1,h2,h3]
 simp only[sliceRange_one,pick_run,t9] <;> rfl
def c6g(K:Fg):V->Option Int->Option Int->Hp->VK->Prop:=fun x lo hi H Q=>∃a xs,x=.ref a/\SqL K H a xs/\∀p,H p=none->Q (.ref p) (upd H p (.lst (a4m xs lo hi)))
theorem b7u:SlR X (c6g X.K):=by
 intro pins s σ H x v vl vu lo hi sl Q I rx hs pl pu h
 obtain⟨a,xs,rfl,hx,q⟩:=h
 cases rx
 obtain⟨its,r,ht,hz⟩:=I.list hx
 have hlen:=r.length
 refine⟨"list",_,slot_list_getitem.lookup,ht.isList.typeIs,?_⟩
 refine wpAny_getItem_list_slice ht.isList hs pl pu .none (by simp) ?_ (by rw[t9] <;> omega)
 rw[b0W,<-hlen]
 refine⟨.ref s.heap.objs.size,_,I.laid (t':=s.toks) (o:=.lst (a4m xs lo hi)) (fun b ob q=>i9 _ q) (o5 _) ?_,rfl,q _ (I.hok.fresh (o5 _))⟩
 exact⟨J8 (a8B xs lo hi) hz,_,0,(r.drop (HT.sIx xs.length 0 lo)).take (HT.sIx xs.length xs.length hi - HT.sIx xs.length 0 lo),F2 _ rfl⟩
def N4:V->Bool
 | .non=>true
 | .bl _=>true
 | .int _=>true
 | .str _=>true
 | _=>false
def eqV:V->V->Bool
 | .non,.non=>true
 | .bl a,.bl b=>a == b
 | .bl a,.int b=>(if a then 1 else 0) == b
 | .int a,.bl b=>a == (if b then 1 else 0)
 | .int a,.int b=>a == b
 | .str a,.str b=>a == b
 | _,_=>false
theorem b0v{A:L7}{y x:V}{u v:Value}(ry:J1 y u)(rx:J1 x v)(fy:N4 y=true)(fx:N4 x=true):SeqAt.EqAt A s u v (eqV y x):=by
 cases y with
 | non=>
  cases ry
  cases x with
  | non=>cases rx;exact SeqAt.EqAt.same _
  | bl b=>cases rx;exact SeqAt.EqAt.none_bool b
  | int b=>obtain⟨t,rfl⟩:=rx;exact SeqAt.EqAt.none_int b t
  | str b=>obtain⟨t,rfl⟩:=rx;exact SeqAt.EqAt.none_str b t
  | _=>exact absurd (show false=true from fx) A4
 | bl a=>
  cases ry
  cases x with
  | non=>cases rx;exact SeqAt.EqAt.bool_none a
  | bl b=>cases rx;exact SeqAt.EqAt.bool_bool a b
  | int b=>obtain⟨t,rfl⟩:=rx;exact SeqAt.EqAt.bool_int a b t
  | str b=>obtain⟨t,rfl⟩:=rx;exact SeqAt.EqAt.bool_str a b t
  | _=>exact absurd (show false=true from fx) A4
 | int a=>
  obtain⟨t',rfl⟩:=ry
  cases x with
  | non=>cases rx;exact SeqAt.EqAt.int_none a t'
  | bl b=>cases rx;exact SeqAt.EqAt.int_bool a t' b
  | int b=>obtain⟨t,rfl⟩:=rx;exact SeqAt.EqAt.int_int a t' b t
  | str b=>obtain⟨t,rfl⟩:=rx;exact SeqAt.EqAt.int_str a t' b t
  | _=>exact absurd (show false=true from fx) A4
 | str a=>
  obtain⟨t',rfl⟩:=ry
  cases x with
  | non=>cases rx;exact SeqAt.EqAt.str_none a t'
  | bl b=>cases rx;exact SeqAt.EqAt.str_bool a t' b
  | int b=>obtain⟨t,rfl⟩:=rx;exact SeqAt.EqAt.str_int a t' b t
  | str b=>obtain⟨t,rfl⟩:=rx;exact SeqAt.EqAt.str_str a t' b t
  | _=>exact absurd (show false=true from fx) A4
 | _=>exact absurd (show false=true from fy) A4
def eqU(x:V)(u:Value):Bool:=match u with
 | .none=>eqV .non x
 | .bool b=>eqV (.bl b) x
 | .int i _=>eqV (.int i) x
 | .str z _=>eqV (.str z) x
 | _=>false
theorem c2o{x y:V}{u:Value}(r:J1 y u)(f:N4 y=true):eqU x u=eqV y x:=by
 cases y with
 | non=>cases r;rfl
 | bl b=>cases r;rfl
 | int i=>obtain⟨t,rfl⟩:=r;rfl
 | str z=>obtain⟨t,rfl⟩:=r;rfl
 | _=>exact absurd (show false=true from f) A4
theorem a7n{x:V}:∀ {xs:List V} {us:List Value},J3 xs us->xs.all N4=true->us.any (eqU x)=xs.any fun y=>eqV y x
 | _,_,.nil,_=>rfl
 | y::xs,u::us,.cons r t,f=>by
  rw[a8k,a0Y]at f
  rw[a0E,a0E,c2o r f.1,a7n t f.2]
theorem a5e{A:L7}{x:V}{v:Value}(rx:J1 x v)(fx:N4 x=true):∀ {xs:List V} {us:List Value},J3 xs us->xs.all N4=true->∀u∈us,SeqAt.EqAt A s u v (eqU x u)
 | _,_,.nil,_=>fun u hu=>by cases hu
 | y::xs,u::us,.cons r t,f=>fun u' hu=>by
  rw[a8k,a0Y]at f
  rcases q9.mp hu with rfl | hu
  ·rw[c2o r f.1];exact b0v r rx f.1 fx
  ·exact a5e rx fx t f.2 u' hu
def inV(x:V)(xs:List V):Bool:=xs.any fun y=>eqV y x
def rIn(K:Fg)(neg:Bool):R2:=fun x y H Q=>∃p xs,y=.ref p/\(SqL K H p xs\/SqT K H p xs)/\N4 x=true/\xs.all N4=true/\Q (.bl (if neg then !inV x xs else inV x xs)) H
theorem b1G:OpR X (A3 .In) (rIn X.K false):=by
 intro pins s σ H x y v u Q I rx ry h
 obtain⟨p,xs,rfl,hq,fx,fs,q⟩:=h
 cases ry
 rcases hq with hq | hq
 ·obtain⟨its,r,pl,hz⟩:=I.list hq
  refine SeqAt.in_listAt (eqU x) pl.isList (fun w hw=>a5e rx fx r fs w (by simpa using hw)) ⟨.bl _,H,I,rfl,?_⟩
  rw[show its.toArray.any (eqU x)=its.any (eqU x) by simp,a7n r fs]
  exact q
 ·obtain⟨its,r,pl,hz⟩:=I.tuple hq
  refine SeqAt.in_tupleAt (eqU x) pl (fun w hw=>a5e rx fx r fs w (by simpa using hw)) ⟨.bl _,H,I,rfl,?_⟩
  rw[show its.toArray.any (eqU x)=its.any (eqU x) by simp,a7n r fs]
  exact q
theorem b2W:OpR X (A3 .NotIn) (rIn X.K true):=by
 intro pins s σ H x y v u Q I rx ry h
 obtain⟨p,xs,rfl,hq,fx,fs,q⟩:=h
 cases ry
 rcases hq with hq | hq
 ·obtain⟨its,r,pl,hz⟩:=I.list hq
  refine SeqAt.notIn_listAt (eqU x) pl.isList (fun w hw=>a5e rx fx r fs w (by simpa using hw)) ⟨.bl _,H,I,rfl,?_⟩
  rw[show its.toArray.any (eqU x)=its.any (eqU x) by simp,a7n r fs]
  exact q
 ·obtain⟨its,r,pl,hz⟩:=I.tuple hq
  refine SeqAt.notIn_tupleAt (eqU x) pl (fun w hw=>a5e rx fx r fs w (by simpa using hw)) ⟨.bl _,H,I,rfl,?_⟩
  rw[show its.toArray.any (eqU x)=its.any (eqU x) by simp,a7n r fs]
  exact q
theorem b2V:OpR X (A3 .NotIn) (fun x y H Q=>∃i j,x=.str i/\y=.str j/\Q (.bl (!(!(Builtin.Str.occurrences j i 0 j.length 1).isEmpty))) H):=by
 intro pins s σ H x y v u Q I rx ry h
 obtain⟨i,j,rfl,rfl,q⟩:=h
 obtain⟨t,rfl⟩:=rx
 obtain⟨t',rfl⟩:=ry
 exact notIn_str ⟨.bl _,H,I,rfl,q⟩
theorem a7g:X0 X (.builtin "len") (fun xs H Q=>∃p ys,xs=[.ref p]/\(SqL X.K H p ys\/SqT X.K H p ys)/\Q (.int ys.length) H):=by
 intro pins s σ H xs us Q I r h
 obtain⟨p,ys,rfl,hq,q⟩:=h
 obtain⟨u,rfl,rx⟩:=a4Q r
 cases rx
 have hn:=a6s
 rcases hq with hq | hq
 ·obtain⟨its,r',pl,hz⟩:=I.list hq
  have hlen:=r'.length
  exact Calls.call_len_list pl.isList (by simp only[t9] <;> omega) ⟨.int ys.length,H,I.tok _,⟨s.toks+1,by rw[t9,hlen]⟩,q⟩
 ·obtain⟨its,r',pl,hz⟩:=I.tuple hq
  have hlen:=r'.length
  exact len_tuple pl (by simp only[t9] <;> omega) ⟨.int ys.length,H,I.tok _,⟨s.toks+1,by rw[t9,hlen]⟩,q⟩
theorem b3v:X0 X (.builtin "len") (fun xs H Q=>∃z,xs=[.str z]/\z.length<=v6/\Q (.int z.length) H):=by
 intro pins s σ H xs us Q I r h
 obtain⟨z,rfl,hz,q⟩:=h
 obtain⟨u,rfl,t,rfl⟩:=a4Q r
 have hn:=a6s
 exact len_str (by omega) ⟨.int z.length,H,I.tok _,⟨_,rfl⟩,q⟩
theorem X0.or{f:Value}{r r':List V->Hp->VK->Prop}(h:X0 X f r)(h':X0 X f r'):X0 X f (fun xs H Q=>r xs H Q\/r' xs H Q):=by
 intro pins s σ H xs us Q I rs q
 rcases q with q | q
 ·exact h pins s σ H xs us Q I rs q
 ·exact h' pins s σ H xs us Q I rs q
theorem b3u:X0 X (.type "list") (fun xs H Q=>∃p ys,xs=[.ref p]/\(SqL X.K H p ys\/SqT X.K H p ys)/\∀l,H l=none->Q (.ref l) (upd H l (.lst ys))):=by
 intro pins s σ H xs us Q I r h
 obtain⟨p,ys,rfl,hq,q⟩:=h
 obtain⟨u,rfl,rx⟩:=a4Q r
 cases rx
 have fin:∀(its:List Value),J3 ys its->ys.length<=v6->∀(h':Heap) (c':Nat),(∀b o',s.heap.get? b=some o'->h'.get? b=some o') ->
   h'.get? s.heap.objs.size=some { cls:=.type "list",dict:=none,data:=.seq its.toArray c',slots := #[] }->EP X pins σ Q (.ref s.heap.objs.size) { s with heap:=h' }:=fun its r' hz h' c' kp e=>
  ⟨.ref s.heap.objs.size,_,I.laid (t':=s.toks) kp (o5 _) (show a0f X.prog X.w _ h' _ (.lst ys)from⟨hz,its,c',r',e⟩),rfl,q _ (I.hok.fresh (o5 _))⟩
 rcases hq with hq | hq
 ·obtain⟨its,r',pl,hz⟩:=I.list hq
  have hlen:=r'.length
  obtain⟨o,ho,hc,n,hd⟩:=pl.isList
  exact call_list_seq p (.inl rfl) ho hc hd (fun h' c' kp e=>fin its r' hz h' c' kp e) (by simp only[t9] <;> omega)
 ·obtain⟨its,r',pl,hz⟩:=I.tuple hq
  have hlen:=r'.length
  obtain⟨o,ho,hc,n,hd⟩:=pl
  exact call_list_seq p (.inr rfl) ho hc hd (fun h' c' kp e=>fin its r' hz h' c' kp e) (by simp only[t9] <;> omega)
def tyV(K:Fg)(T:String)(x:V)(H:Hp):Prop:=match x with
 | .str _=>T = "str"
 | .int _=>T = "int"
 | .ref p=>(T = "list" /\ ∃xs,SqL K H p xs)\/(T = "tuple" /\ ∃o,K.lookup p=some o/\o.cls=.type "tuple" /\ o.dict=none) \/
   (T = "dict" /\ ((∃kvs,H p=some (.dK kvs))\/∃kvs,H p=some (.dT kvs)))\/(T = "set" /\ ∃S n,H p=some (.set S n))
 | _=>False
theorem c0k{T:String}{x:V}{v:Value}(I:Inv X pins σ H s)(r:J1 x v)(ty:tyV X.K T x H) :
  s.TypeIs v T/\∀a,v=.ref a->∃ob,s.heap.get? a=some ob/\ob.dict=none:=by
 cases x with
 | str z=>
  obtain⟨t,rfl⟩:=r
  cases (show T = "str" from ty)
  exact⟨typeIs_str s z t,fun _ e=>nomatch e⟩
 | int i=>
  obtain⟨t,rfl⟩:=r
  cases (show T = "int" from ty)
  exact⟨typeIs_int s i t,fun _ e=>nomatch e⟩
 | ref p=>
  cases r
  rcases ty with ⟨rfl,xs,hq⟩ | ⟨rfl,o,hk,hc,hd⟩ | ⟨rfl,hk⟩ | ⟨rfl,S,n,hk⟩
  ·obtain⟨its,_,pl,_⟩:=I.list hq
   refine⟨pl.isList.typeIs,fun a e=>?_⟩
   cases e
   obtain⟨o,n,e,c,hd,_⟩:=pl
   exact⟨o,e,hd⟩
  ·refine⟨⟨o,I.kIn p o hk,hc⟩,fun a e=>?_⟩
   cases e
   exact⟨o,I.kIn _ o hk,hd⟩
  ·have z:∃o,s.heap.get? p=some o/\o.ExactDict:=by
    rcases hk with ⟨kvs,hk⟩ | ⟨kvs,hk⟩
    ·obtain⟨_,_,_,_,o,_,_,e,ex,_⟩:=I.hok p _ hk
     exact⟨o,e,ex⟩
    ·obtain⟨_,_,_,_,o,_,_,e,ex,_⟩:=I.hok p _ hk
     exact⟨o,e,ex⟩
   obtain⟨o,e,ex⟩:=z
   refine⟨⟨o,e,ex.1⟩,fun a e2=>?_⟩
   cases e2
   exact⟨o,e,ex.2.1⟩
  ·obtain⟨o,_,_,_,e,ex,_⟩:=I.hok p _ hk
   refine⟨⟨o,e,ex.1⟩,fun a e2=>?_⟩
   cases e2
   exact⟨o,e,ex.2.1⟩
 | _=>exact False.elim ty
def c0s(K:Fg)(T:String)(r:V->List V->Hp->VK->Prop)(to:TE):TE:=fun σ H Q=>to σ H fun x H1=>tyV K T x H1/\r x [] H1 Q
def tBM(K:Fg)(T:String)(r:V->List V->Hp->VK->Prop)(to:TE)(t:TA):TE:=fun σ H Q=>to σ H fun x H1=>tyV K T x H1/\t σ H1 fun xs H2=>r x xs H2 Q
variable {o e:Expr}{es:List Expr}{to:TE}{t:TA}{name:Str}{apos cpos:Pos}{T id:String}{r:V->List V->Hp->VK->Prop}
theorem c6S(pa:c5a T)(slot:Slot T name id)(hty:typeOf (.builtin id)=pure (.type "method_descriptor"))(hm:MtR X id r)(ho:PE X o to)
  (hbase:a0n o name X.env (eval o X.env)=eval o X.env:=by rfl) (hline:(apos.endLine == cpos.line)=true:=by rfl):PE X (.Call (.Attribute o name apos) [] [] cpos) (c0s X.K T r to):=by
 intro pins s σ H Q I h
 refine wpAny_Call_method0_late hbase hline (thn (ho pins s σ H _ I h) fun v s1 ⟨x,H1,I1,r1,ty,q1⟩=>?_)
 obtain⟨h1,h2⟩:=c0k I1 r1 ty
 exact⟨T,id,pa,slot,hty,h1,h2,Calls.callWith_builtin rfl (PySem.evalArgs_none (hm pins s1 σ H1 x [] v [] Q I1 r1 .nil q1))⟩
theorem c9d(pa:c5a T)(slot:Slot T name id)(hty:typeOf (.builtin id)=pure (.type "method_descriptor"))(hm:MtR X id r)(ho:PE X o to)(ha:PA X (e::es) t)
  (hbase:a0n o name X.env (eval o X.env)=eval o X.env:=by rfl)
  (hfew:((a0m cpos (i8 (e::es) X.env)).all (fun x => !x.1)&&(b0Q cpos (a3m [] X.env)).all (fun x=>x.1.isSome)
   && decide ((e::es).length+([]:List a7x).length+(if([]:List a7x).isEmpty then 0 else 1)<30))=true:=by rfl)
  (hline:(apos.endLine == cpos.line)=true:=by rfl) (hs:i8 (e::es) X.env=(false,eval e X.env)::i8 es X.env:=by rfl) (hplain:(a0m cpos (i8 es X.env)).any (·.1)=false:=by rfl) :
  PE X (.Call (.Attribute o name apos) (e::es) [] cpos) (tBM X.K T r to t):=by
 intro pins s σ H Q I h
 refine wpAny_Call_method_late hbase hfew hline rfl (thn (ho pins s σ H _ I h) fun v s1 ⟨x,H1,I1,r1,ty,q1⟩=>?_)
 obtain⟨h1,h2⟩:=c0k I1 r1 ty
 refine⟨T,id,pa,slot,hty,h1,h2,?_⟩
 have hA:=ha cpos pins s1 σ H1 _ I1 q1
 rw[hs]at hA ⊢
 refine Calls.callWith_builtin (by show(false||(a0m cpos (i8 es X.env)).any (·.1))=false;rw[hplain] <;> rfl) (Calls.evalArgs_plain ?_)
 exact thn hA fun us s2 ⟨vs,H2,I2,r2,q2⟩=>hm pins s2 σ H2 x vs v us Q I2 r1 r2 q2
end
def MtM(X:Cx)(id:String)(r:V->List V->Hp->VK->Prop):Prop:=
 ∀(pins:List (Addr×Obj)) (s:o0) (σ:St) (H:Hp) (x:V) (xs:List V) (v:Value) (us:List Value) (Q:VK),Inv X pins σ H s->J1 x v->J3 xs us->r x xs H Q ->
  wpAny (model X.prog X.w) X.A (call (.builtin id) (v::us)) (EP X pins σ Q) X.xe s
theorem J3.one:∀ {x:V} {us:List Value},J3 [x] us->∃u,us=[u]/\J1 x u
 | _,_,.cons r .nil=>⟨_,rfl,r⟩
theorem J3.zero:∀ {us:List Value},J3 [] us->us=[]
 | _,.nil=>rfl
theorem J3.dropLast(h:J3 xs us):J3 xs.dropLast us.dropLast:=by
 induction h with
 | nil=>exact .nil
 | cons r t ih=>
  cases t with
  | nil=>exact .nil
  | cons q t'=>exact .cons r ih
theorem J3.reverse(h:J3 xs us):J3 xs.reverse us.reverse:=by
 induction h with
 | nil=>exact .nil
 | cons r t ih=>rw[c4Y,c4Y];exact J3.append ih (.cons r .nil)
theorem J3.rep(h:J3 xs us):∀k:Nat,J3 (c8 k xs).flatten (c8 k us).flatten
 | 0=>.nil
 | k+1=>by
  rw[W7,W7,a1Z,a1Z]
  exact J3.append h (J3.rep h k)
theorem b6M{α:Type}(l:List α):l.eraseIdx (l.length - 1)=l.dropLast:=by
 induction l with
 | nil=>rfl
 | cons a r ih=>
  cases r with
  | nil=>rfl
  | cons b r=>
   have e:(a::b::r).length - 1=((b::r).length - 1)+1:=by
    have h1:(a::b::r).length=r.length+2:=rfl
    have h2:(b::r).length=r.length+1:=rfl
    omega
   rw[e,List.eraseIdx_cons_succ,ih]
   all_goals rfl
theorem b1K(its:List Value):∀(k:Nat) (acc:List Value),
  c2U (fun x1 x2=>x1++x2) acc.toArray (c8 k its.toArray)=(acc++(c8 k its).flatten).toArray
 | 0,acc=>by simp
 | k+1,acc=>by
  have e:acc.toArray++its.toArray=(acc++its).toArray:=by simp
  have e2:(acc++its)++(c8 k its).flatten=acc++(c8 (k+1) its).flatten:=by
   rw[W7,a1Z,a4t]
  rw[<-e2,<-b1K its k (acc++its),<-e,W7,List.foldl_cons]
section
variable {l b:Addr}{ys zs:List V}
theorem Inv.lset{its its':List Value}{f:Array Value->Array Value}{t':Nat}(I:Inv X pins σ H s)(hH:H l=some (.lst xs))
  (e:s.heap.get? l=some { cls:=.type "list",data:=.seq its.toArray n }) (hf:f its.toArray=its'.toArray) (hv:J3 ys its') (hz:ys.length<=v6) :
  Inv X pins σ (upd H l (.lst ys)) { s with heap:=s.heap.update l (Obj.mapSeq f),toks:=t' }:=by
 have q:=PySem.IsL.update e f
 rw[hf]at q
 refine I.write (x:=l) (e:=l) (by rw[hH];exact trivial) (.inl rfl) (fun b' u hb hu=>(a5J s.heap (Obj.mapSeq f) (Ne.symm hb)).trans hu) ⟨_,q⟩ ?_
 exact⟨hz,its',_,hv,q⟩
theorem Inv.lnew{its:List Value}{t':Nat}(I:Inv X pins σ H s)(hv:J3 ys its)(hz:ys.length<=v6) :
  Inv X pins σ (upd H s.heap.objs.size (.lst ys)) { s with heap:=s.heap.push { cls:=.type "list",data:=.seq its.toArray },toks:=t' }:=
 I.laid (fun _ _ q=>i9 _ q) (o5 _) ⟨hz,its,0,hv,F2 _ rfl⟩
theorem Inv.fresh(I:Inv X pins σ H s):H s.heap.objs.size=none:=I.hok.fresh (o5 _)
theorem Inv.lstM(I:Inv X pins σ H s)(hH:H l=some (.lst xs)):xs.length<=v6/\∃(its:List Value) (n:Nat),J3 xs its/\xs.length=its.length/\s.heap.get? l=some { cls:=.type "list",data:=.seq its.toArray n }:=by
 obtain⟨z,its,n,r,e⟩:=I.hok l _ hH
 exact⟨z,its,n,r,r.length,e⟩
theorem b4K(h:n<=v6):Builtin.List.listTooLong n=false:=by
 unfold Builtin.List.listTooLong
 exact d1C (by omega)
end
section
def c3s:V->List V->Hp->VK->Prop:=fun x vs H Q=>∃l xs y,x=.ref l/\vs=[y]/\H l=some (.lst xs)/\xs.length<v6/\Q .non (upd H l (.lst (xs++[y])))
theorem a7S:MtM X "list.append" c3s:=by
 intro pins s σ H x vs v us Q I rx rv h
 obtain⟨l,xs,y,rfl,rfl,hH,hz,q⟩:=h
 cases rx
 obtain⟨u,rfl,ru⟩:=rv.one
 obtain⟨z,its,n,r,hl,e⟩:=I.lstM hH
 refine b0P F.slot_list_append ⟨_,e,rfl⟩ F.entry_list_append (F.args_list_append_2 _ _) (PySem.list_append l its.toArray n u (by rw[t9];omega)) ⟨e,?_⟩
 refine⟨.non,_,I.lset (its':=its++[u]) hH e (by simp) (r.append (.cons ru .nil)) ?_,rfl,q⟩
 rw[u8,E4]
 omega
def c3r:V->List V->Hp->VK->Prop:=fun x vs H Q=>∃l b xs zs,x=.ref l/\vs=[.ref b]/\H l=some (.lst xs)/\H b=some (.lst zs)/\xs.length+zs.length<=v6/\Q .non (upd H l (.lst (xs++zs)))
theorem b8U:MtM X "list.extend" c3r:=by
 intro pins s σ H x vs v us Q I rx rv h
 obtain⟨l,b,xs,zs,rfl,rfl,hH,hB,hz,q⟩:=h
 cases rx
 obtain⟨u,rfl,ru⟩:=rv.one
 cases ru
 obtain⟨z,its,n,r,hl,e⟩:=I.lstM hH
 obtain⟨z2,its2,n2,r2,hl2,e2⟩:=I.lstM hB
 have hsz:its.toArray.size+its2.toArray.size<=v6:=by rw[t9,t9];omega
 have hlong:¬(!its.toArray.isEmpty&&Builtin.List.listTooLong (its.toArray.size+its2.toArray.size))=true:=by
  rw[b4K hsz,Bool.and_false]
  exact A4
 refine b0P F.slot_list_extend ⟨_,e,rfl⟩ F.entry_list_extend (F.args_list_extend_2 _ _)
  (AutoSeq1.list_extend_list_list_0 l its.toArray n b its2.toArray n2 hlong (by rw[t9];omega) (by omega)) ⟨e,e2,?_⟩
 refine⟨.non,_,I.lset (its':=its++its2) hH e (by simp) (r.append r2) ?_,rfl,q⟩
 rw[u8]
 omega
def c9P:V->List V->Hp->VK->Prop:=fun x vs H Q=>∃l xs y,x=.ref l/\vs=[]/\H l=some (.lst xs)/\xs[xs.length - 1]? = some y/\Q y (upd H l (.lst xs.dropLast))
theorem c7t:MtM X "list.pop" c9P:=by
 intro pins s σ H x vs v us Q I rx rv h
 obtain⟨l,xs,y,rfl,rfl,hH,hy,q⟩:=h
 cases rx
 have hus:=rv.zero
 subst hus
 obtain⟨z,its,n,r,hl,e⟩:=I.lstM hH
 obtain⟨u,hu,ru⟩:=r.get hy
 have hy':its.toArray[its.toArray.size - 1]? = some u:=by
  show its.toArray[its.length - 1]? = some u
  rw[<-a0F,<-hl]
  exact hu
 refine b0P F.slot_list_pop ⟨_,e,rfl⟩ F.entry_list_pop (F.args_list_pop_1 _) (MeetsSeq.list_pop_last l its.toArray n u hy' (by rw[t9];omega)) ⟨e,?_⟩
 refine⟨y,_,I.lset (its':=its.dropLast) hH e ?_ r.dropLast ?_,ru,q⟩
 ·show its.toArray.eraseIdxIfInBounds (its.toArray.size - 1)=its.dropLast.toArray
  rw[t9,List.eraseIdxIfInBounds_toArray,b6M]
 ·rw[List.length_dropLast]
  omega
def c9Q:R2:=fun x y H Q=>∃l b xs zs,x=.ref l/\y=.ref b/\H l=some (.lst xs)/\H b=some (.lst zs)/\xs.length+zs.length<=v6/\∀p,H p=none->Q (.ref p) (upd H p (.lst (xs++zs)))
theorem c7j:OpR X (a0a .Add) c9Q:=by
 intro pins s σ H x y v u Q I rx ry h
 obtain⟨l,b,xs,zs,rfl,rfl,hH,hB,hz,q⟩:=h
 cases rx
 cases ry
 obtain⟨z,its,n,r,hl,e⟩:=I.lstM hH
 obtain⟨z2,its2,n2,r2,hl2,e2⟩:=I.lstM hB
 refine PySem.P.add_list e e2 ?_ (by rw[t9,t9];omega)
 have ea:its.toArray++its2.toArray=(its++its2).toArray:=by simp
 rw[ea]
 exact⟨.ref _,_,I.lnew (t':=s.toks) (r.append r2) (by rw[u8];omega),rfl,q _ I.fresh⟩
def b6a:R2:=fun x y H Q=>∃l k xs,x=.ref l/\y=.int k/\H l=some (.lst xs) /\ -(2 ^ 63)<=k/\k<2 ^ 63/\xs.length * k.toNat<=v6 /\
 ∀p,H p=none->Q (.ref p) (upd H p (.lst (c8 k.toNat xs).flatten))
theorem b3b{α:Type}(xs:List α)(k:Nat):(c8 k xs).flatten.length=k * xs.length:=by
 induction k with
 | zero=>simp
 | succ k ih=>rw[W7,a1Z,u8,ih,b9F,Nat.add_comm]
theorem c6X:OpR X (a0a .Mult) b6a:=by
 intro pins s σ H x y v u Q I rx ry h
 obtain⟨l,k,xs,rfl,rfl,hH,h1,h2,hz,q⟩:=h
 cases rx
 obtain⟨t,rfl⟩:=ry
 obtain⟨z,its,n,r,hl,e⟩:=I.lstM hH
 have hlen:its.toArray.size * k.toNat<=v6:=by rw[t9,<-hl];exact hz
 have hcap:¬its.toArray.size * k.toNat > (2 ^ 63 - 1) / 8:=by
  have:(v6:Nat)<=(2 ^ 63 - 1) / 8:=by decide
  omega
 have hfit:¬(!Builtin.List.listFitsIndex k)=true:=by
  rw[fitsIndex_both h1 h2]
  exact A4
 have hlong:¬Builtin.List.listTooLong (its.toArray.size * k.toNat)=true:=by
  rw[b4K hlen]
  exact A4
 have hnew:c2U (fun x1 x2=>x1++x2) #[] (c8 (if its.toArray.isEmpty=true then 0 else k.toNat) its.toArray)=(c8 k.toNat its).flatten.toArray:=by
  have f0:∀m:Nat,c2U (fun x1 x2=>x1++x2) #[] (c8 m its.toArray)=(c8 m its).flatten.toArray:=fun m=>by
   have:=b1K its m []
   rw[List.nil_append]at this
   exact this
  rw[f0]
  cases its with
  | nil=>simp
  | cons a r'=>rw[if_neg (by simp)]
 refine wpAny_binaryOp_repeat_ref (T := "list") (U := "int") (by decide) ⟨_,e,rfl⟩ (fun s'=>typeIs_int s' k t) noFill_list_mul F.fills_int_mul F.slot_int_rmul repeat_list F.slot_int_index.lookup
  (b0P F.slot_int_rmul (typeIs_int s k t) F.entry_int_rmul (F.args_int_rmul_2 _ _) (int___rmul___int_list k t l its.toArray n)
   ⟨e,rfl,⟨_,e,rfl⟩,b0P F.slot_list_mul ⟨_,e,rfl⟩ F.entry_list_mul (F.args_list_mul_2 _ _) (AutoListH.list___mul___list_int_3 l its.toArray n k t hfit hcap hlong) ⟨e,?_⟩⟩)
 rw[hnew]
 exact⟨.ref _,_,I.lnew (t':=s.toks) (r.rep k.toNat) (by rw[b3b,Nat.mul_comm];exact hz),rfl,q _ I.fresh⟩
end
section
variable {prog:F3}{w:World}{A:L7}{E:Value->o0->Prop}
set_option maxRecDepth 100000 in
end
section
end
end L2
namespace Att
open PySem PySem.W PySem.Calls PyProof.Rows
theorem a8I{P:Params}{h:Heap}:∀(ns:List Int) (vs:List Value),WellAll P h vs (ns.map WData.int)->c5H vs ns:=by
 intro ns
 induction ns with
 | nil=>
  intro vs w
  rw[a9i]at w
  cases w
  exact .nil
 | cons n ns ih=>
  intro vs w
  rw[G8]at w
  cases w with
  | cons a b=>
   cases a
   exact .cons _ _ (ih _ b)
theorem b8l{l:OpenLaw}{n:Nat}(hn:l.most=some n){P:Params}{h:Heap}{args:List WData}{vals:List Value}
  (hpre:l.row.toRowW.claim.pre args=true) (hwl:WellAll P h vals args) :
  ∃a vs ns,vals=[Value.ref a]/\args=[WData.list (ns.map WData.int)]/\h.get? a=some { cls:=.type "list",data:=.seq vs.toArray }/\c5H vs ns/\ns.length<=n:=by
 have hsh:WShape.hasAll [] args [.list .int]=true:=(pre_splitW hpre).1
 have hc:l.pre.holds [] { args:=args }=true:=(pre_splitW hpre).2
 obtain⟨d,r,rfl,h1,h2⟩:=hasAllW_cons hsh
 obtain rfl:=hasAllW_nil h2
 obtain⟨xs,rfl,h3⟩:=hasW_list h1
 obtain⟨ns,rfl⟩:=items_int h3
 have hlen:ns.length<=n:=by
  unfold OpenLaw.pre at hc
  have h4:(WTm.not (.lt (.lit (.int (n:Int))) (.len (.arg 0)))).holds [] { args:=[.list (ns.map .int)] }=true:=by
   have h4:=(holds_andW hc).1
   rw[hn]at h4
   exact h4
  have h5:=condW_of h4 (w_not (w_lt w_lit (w_len_list (w_arg rfl))))
  rw[c4]at h5
  refine Nat.le_of_not_lt fun q=>?_
  have q':(n:Int)<((ns.length:Nat):Int):=by omega
  first
   | (rw[d1D q']at h5;exact absurd h5 (by decide))
   | (simp at h5;omega)
 cases hwl with
 | cons w1 w2=>
  cases w2
  cases w1 with
  | list ho hall=>exact⟨_,_,ns,rfl,rfl,ho,a8I ns _ hall,hlen⟩
theorem b8A(l:OpenLaw)(args:List WData):l.row.toRowW.claim.post args (.bool true) args=true:=
 postW_of (r:=l.row.toRowW) (X:=(true == true))
  (show WShape.has [] (.bool true) .bool=true by first | rfl | decide | simp[WShape.has,WShape.arms,WShape.armsAll])
  (show(WTm.eq .res (.lit (.bool true))).value [] { args:=args,res:=some (.bool true),after:=args }=some (.bool (true == true))from w_eq_bool (w_res rfl) w_lit) rfl
theorem b5l{l:OpenLaw}{n:Nat}{q:F3}{loose:List Str}{XP:(Str->Option Value)->Heap->Prop}{YP:World->Heap->Prop}{d:DefRec}
  (hn:l.most=some n) (hdf:d.params.defaults=[])
  (call:∀(w:World) (s₀ s₁:o0) (mg mb:Str->Option Value) (fa:Addr) (o:Obj) (pm cd doc:Value) (a:Addr) (vs:List Value) (ns:List Int),
   Ground q loose [] XP w s₀ mg mb s₁.heap->YP w s₁.heap ->
   s₁.heap.get? fa=some o->o.data=.func (docDef d.name d.params d.body d.scope pm cd doc)->s₁.heap.CodeRec cd d.name->mg d.name=some (.ref fa) ->
   s₁.heap.get? a=some { cls:=.type "list",data:=.seq vs.toArray }->c5H vs ns->ns.length<=n->s₁.gens = #[] ->
   a4I (model l.prog w) b9T (.call (.ref fa) ⟨[.ref a],[]⟩) (fun r s'=>r=.ok (.ret (.bool true))/\OldK s₁.heap s'.heap/\s'.os=s₁.os/\b1X s'.gens) s₁) :
  WalkO q loose XP YP l.row.toRowW d [] (fun f vs=>b3G f vs):=by
 intro w s₀ s₁ mg mb G Y fa o pm cd doc dV kV ho hd hcd hD hmg hg args vals as hpre hlay hrd hwl hlo
 obtain rfl:dV=.none:=Dflts.none hD hdf
 obtain rfl:kV=.none:=Dflts.noKw hD
 obtain⟨a,vs,ns,rfl,rfl,hobj,hints,hlen⟩:=b8l hn hpre hwl
 refine enter_call (b7f (call w s₀ s₁ mg mb fa o pm cd doc a vs ns G Y ho (fd_plain hd) hcd hmg hobj hints hlen hg) fun r s' hq=>?_)
 obtain⟨rfl,h2,h3,h4⟩:=hq
 exact⟨.inl ⟨.bool true,.bool true,[],rfl,fun _=>rfl,.bool true,b8A l _,fun _=>⟨List.Pairwise.nil,fun _ hm=>(nomatch hm)⟩⟩,h2,h3,h4⟩
section
variable {prog:F3}{w:World}{A:L7}{E:Value->o0->Prop}{s:o0}{K:Frag}
end
end Att
namespace L2
open PySem PySem.Spec PyProof.Rows
theorem a7z:∀ {vs:List Value} {ns:List Int},c5H vs ns->J3 (ns.map V.int) vs
 | _,_,.nil=>.nil
 | _,_,.cons n t h=>.cons ⟨t,rfl⟩ (a7z h)
def c4T(H:Hp):Prop:=∀b,H b=none\/∃o xs,H b=some (.frz o (.lst xs))
theorem c2c{P:F3}{w:World}{K:Fg}{mg mb:Str->Option Value}{CX:CXT}{k:Nat}{fa a:Addr}{fd:a0w}{x:Str}{sp:Sp}{s₁:o0}{vs:List Value}{ns:List Int}
  (KX:K.In s₁.heap) (hns:s₁.heap.Ns C2 mg) (hb:s₁.heap.Ns builtinsNs mb) (hbb:∀x:Str,x ≠ "__name__" -> mb x=W8 x) (hlim:s₁.heap.NoLimit) (hg:s₁.gens = #[])
  (ha:s₁.heap.get? a=some { cls:=.type "list",data:=.seq vs.toArray }) (hi:c5H vs ns) (hl:ns.length<=v6) (hr:T3 k b9T)
  (F:∀base:Heap,K.In base->base.Ns C2 mg->N5 P w K mg base CX k fa fd [x] sp) (hbind:∀(s:o0) (u:Value),b9V s fd ⟨[u],[]⟩ [(x,u)])
  (hsp:∀H:Hp,c4T H->SqL K H a (ns.map V.int)->sp [.ref a] H (fun v _=>v=.bl true) fun _ _ _=>False)
  (hCX:∀H e s',CX [] H s₁ (fun _ _ _=>False) e s'->False) :
  a4I (model P w) b9T (.call (.ref fa) ⟨[.ref a],[]⟩) (fun r s'=>r=.ok (.ret (.bool true))/\OldK s₁.heap s'.heap/\s'.os=s₁.os/\b1X s'.gens) s₁:=by
 have rv:=a7z hi
 have lenV:=hi.length
 have core:∀H:Hp,c4T H->SqL K H a (ns.map V.int)->HOk P w H s₁.heap->(∀b,H b≠none->b=a)->(H a≠none->K.lookup a=none) ->
   a4I (model P w) b9T (.call (.ref fa) ⟨[.ref a],[]⟩) (fun r s'=>r=.ok (.ret (.bool true))/\OldK s₁.heap s'.heap/\s'.os=s₁.os/\b1X s'.gens) s₁:=by
  intro H hO hS hok hA hK
  have base_of:∀ {b:Addr} {o:Obj},s₁.heap.get? b=some o->H b=none->(b3k s₁.heap H).get? b=some o:=fun e n=>c2j e n
  have noA:∀ {b:Addr} {o:Obj} {es:Array DictEntry} {ep:Nat},s₁.heap.get? b=some o->o.data=.dict es ep->H b=none:=fun {b o es ep} e d=>by
   cases q:H b with
   | none=>rfl
   | some u=>
    have e':b=a:=hA b (by rw[q];simp)
    subst e'
    rw[ha]at e;cases e
    have d':Data.seq vs.toArray _=Data.dict es ep:=d
    cases d'
  have nsK:∀ {b:Addr} {m:Str->Option Value},s₁.heap.Ns b m->(b3k s₁.heap H).Ns b m:=fun {b m} ⟨o,es,ep,e,d,r⟩=>⟨o,es,ep,base_of e (noA e d),d,r⟩
  have hKb:K.In (b3k s₁.heap H):=fun b o e=>base_of (KX b o e) (by
   cases q:H b with
   | none=>rfl
   | some u=>
    have e':b=a:=hA b (by rw[q];simp)
    subst e'
    rw[hK (by rw[q];simp)]at e;cases e)
  have hM:Mod K mg (b3k s₁.heap H):=⟨hKb,nsK hns,⟨mb,nsK hb,hbb⟩,let⟨mc,h1,h2⟩:=hlim; ⟨mc,nsK h1,h2⟩⟩
  have e0:b7a P w K mg (b3k s₁.heap H) b9T [] s₁ H:=⟨rfl,hM,fun b o e=>c4n e,Nat.le_of_eq (b9g _ _),trivial,fun b hb=>absurd (show b∈([]:List Addr)from hb) (by simp),hok,.of_eq hg⟩
  refine b7f ((F _ hKb (nsK hns)).run b9T [] s₁ H ⟨[.ref a],[]⟩ [.ref a] [.ref a] _ _ hr e0 (hbind s₁ (.ref a)) (.cons rfl .nil) (hsp H hO hS)) fun r s' h=>?_
  cases r with
  | error e=>exact(hCX H e s' h).elim
  | ok fl=>
   cases fl with
   | next=>exact False.elim h
   | brk=>exact False.elim h
   | cont=>exact False.elim h
   | ret u=>
    obtain⟨v,H',os,bare,un,hok',r',q⟩:=h
    have q':v=.bl true:=q
    subst q'
    obtain rfl:u=Value.bool true:=r'
    refine⟨rfl,OldK.of_keep fun b o e=>?_,os,bare⟩
    cases q:H b with
    | none=>exact un.keep b o e q (by intro z;exact absurd (show b∈([]:List Addr)from z) (by simp)) (by simp)
    | some u=>
     rcases hO b with z | ⟨ob,xs,z⟩
     ·rw[q]at z;cases z
     ·have z2:=un.frzs b ob _ z
      obtain⟨e1,_⟩:=hok b _ z
      obtain⟨e2,_⟩:=hok' b _ z2
      rw[e]at e1;cases e1
      exact e2
 cases hk:K.lookup a with
 | some o=>
  have e:=KX a o hk
  rw[ha]at e
  cases e
  refine core (fun _=>none) (fun _=>.inl rfl) (.inr ⟨_,vs.toArray,_,hk,rfl,rfl,rfl,by rw[t9,lenV];exact hl,by simpa using rv⟩) (fun b u z=>by have z':(none:Option HO)=some u:=z;cases z') (fun b z=>absurd rfl z) fun z=>absurd rfl z
 | none=>
  refine core (fun b=>if b=a then some (.frz { cls:=.type "list",data:=.seq vs.toArray } (.lst (ns.map V.int)))else none) (fun b=>?_) (.inl (.inr ⟨{ cls:=.type "list",data:=.seq vs.toArray },if_pos rfl⟩)) (fun b u z=>?_) (fun b z=>?_) fun _=>hk
  ·by_cases hb:b=a
   ·exact .inr ⟨_,_,if_pos hb⟩
   ·exact .inl (if_neg hb)
  ·by_cases hb:b=a
   ·have z':=(if_pos hb).symm.trans z
    cases z'
    subst hb
    exact⟨ha,by rw[c4];exact hl,vs,_,rv,ha⟩
   ·have z':=(if_neg hb).symm.trans z
    cases z'
  ·by_cases hb:b=a
   ·exact hb
   ·exact absurd (if_neg hb) z
theorem c3b{l:PySem.W.OpenLaw}{n k:Nat}{q:F3}{loose:List Str}{XP:(Str->Option Value)->Heap->Prop}{YP:World->Heap->Prop}{d:DefRec}{K:Params->Fg}{CX:World->CXT}{sp:World->Sp}{x:Str}
  (hn:l.most=some n) (hn2:n<=v6) (hdf:d.params.defaults=[]) (hr:T3 k b9T)
  (hY:∀(w:World) (h:Heap),YP w h->(K w.params).In h)
  (F:∀(w:World) (mg:Str->Option Value) (fa:Addr) (h:Heap),(K w.params).In h->h.Ns C2 mg->mg d.name=some (.ref fa) ->
   ∃fd:a0w,(∀(s:o0) (u:Value),b9V s fd ⟨[u],[]⟩ [(x,u)]) /\
    ∀base:Heap,(K w.params).In base->base.Ns C2 mg->N5 l.prog w (K w.params) mg base (CX w) k fa fd [x] (sp w))
  (hsp:∀(w:World) (H:Hp) (a:Addr) (ns:List Int),ns.length<=n->c4T H->SqL (K w.params) H a (ns.map V.int)->sp w [.ref a] H (fun v _=>v=.bl true) fun _ _ _=>False)
  (hCX:∀(w:World) (H:Hp) (s:o0) (e:Value) (s':o0),CX w [] H s (fun _ _ _=>False) e s'->False) :
  PySem.W.WalkO q loose XP YP l.row.toRowW d [] (fun f vs=>b3G f vs):=by
 refine Att.b5l hn hdf fun w s₀ s₁ mg mb fa o pm cd doc a vs ns G Y ho hd hcd hmg hobj hints hlen hg=>?_
 have KX:=hY w _ Y
 obtain⟨fd,hb,hF⟩:=F w mg fa _ KX G.T.g hmg
 exact c2c KX G.T.g G.T.b G.T.builtins G.T.nolimit hg hobj hints (J8 hlen hn2) hr hF hb (fun H hO hS=>hsp w H a ns hlen hO hS) fun H e s'=>hCX w H s₁ e s'
abbrev CX0:CXT:=fun _ _ _ _ _ _=>False
abbrev E0:XK:=fun _ _ _=>False
theorem c1C{X:Cx}:a8d CX0 X E0:=fun _ _ _ _ _ _ _ h=>h.elim
structure Fun(K:Fg)(x qual:Str)(st:Stmt)(f:Addr)(fd:a0w):Prop where
 ex:∃(oc:Value) (od:Option Addr) (kV doc pm:Value) (an:Option Addr) (cdv ct:Value) (osl:Array (Option Value)),
  fd=a0P x qual (a3f st) (a1B st) (l9 st) .none kV doc pm an cdv ct/\K.lookup f=some ⟨oc,od,.func fd,osl⟩/\a5N K cdv qual=true
 kp:X2 K (.ref f)=true
section
variable {P:F3}{w:World}{K:Fg}{mg:Str->Option Value}{base:Heap}
theorem Fun.ok{x qual:Str}{st:Stmt}{f:Addr}{fd:a0w}{N ps:List Str}{k:Nat}{sp:Sp}(F:Fun K x qual st f fd)(S:D1 N ps (l9 st))(len:∀vs H Q E,sp vs H Q E->vs.length=ps.length)
  (hbody:∀(cdv:Value) (A:L7) (outer:List Env) (s:o0) (H:Hp) (vs:List V) (Q:VK) (E:XK),T3 k (A.deeper (b3S qual (l9 st) s.heap.objs.size f cdv))->sp vs H Q E ->
   ∃t,PSs (b5a CX0 P w K mg base N qual (l9 st) f cdv A outer s H E).nox (a1B st) t/\t { nx:=fun _ H'=>Q .non H',rt:=Q } (a6L N vs) H):N5 P w K mg base CX0 (k+1) f fd ps sp:=by
 obtain⟨oc,od,kV,doc,pm,an,cdv,ct,osl,rfl,lk,hcd⟩:=F.ex
 refine c9s lk hcd S len fun A outer s H vs Q E hr hsp=>?_
 obtain⟨t,h,q⟩:=hbody cdv A outer s H vs Q E hr hsp
 exact⟨t,h.nox,q⟩
theorem Fun.binds{x qual:Str}{st:Stmt}{f:Addr}{fd:a0w}{ps:List Str}(F:Fun K x qual st f fd)
  (h:∀(kV doc pm:Value) (an:Option Addr) (cdv ct:Value) (us:List Value),us.length=ps.length->bindArgs (a0P x qual (a3f st) (a1B st) (l9 st) .none kV doc pm an cdv ct) ⟨us,[]⟩=pure (ps.zip us)):a4B K fd ps []:=by
 obtain⟨oc,od,kV,doc,pm,an,cdv,ct,osl,rfl,lk,hcd⟩:=F.ex
 exact .all (h kV doc pm an cdv ct)
theorem c7M{x qual:Str}{st:Stmt}{f:Addr}{oc:Value}{od an:Option Addr}{osl:Array (Option Value)}{kV doc pm cdv ct:Value}(l:K.lookup f=some ⟨oc,od,.func (a0P x qual (a3f st) (a1B st) (l9 st) .none kV doc pm an cdv ct),osl⟩)
  (c:a5N K cdv qual=true) (k:X2 K (.ref f)=true):Fun K x qual st f (a0P x qual (a3f st) (a1B st) (l9 st) .none kV doc pm an cdv ct):=⟨⟨oc,od,kV,doc,pm,an,cdv,ct,osl,rfl,l,c⟩,k⟩
end
theorem b4T{A:L7}{k:Nat}(hr:T3 k A):A.units+1<cLine:=Nat.lt_of_le_of_lt (Nat.add_le_add_left (by decide:1<=64) _) hr.units
section
variable {X:Cx}
end
theorem c7H{A B:Prop}(h:B):if false=true then A else B:=by
 rw[if_neg A4]
 exact h
theorem b4Q{A B:Prop}(h:A):if true=true then A else B:=by
 rw[if_pos rfl]
 exact h
theorem Z0{c A B:Prop}[Decidable c](h1:c->A)(h2:¬c->B):if c then A else B:=by
 by_cases h:c
 ·rw[if_pos h]
  exact h1 h
 ·rw[if_neg h]
  exact h2 h
def A9(H H':Hp):Prop:=∀b o,H b=some o->H' b=some o
theorem A9.refl(H:Hp):A9 H H:=fun _ _ h=>h
theorem A9.trans{H H1 H2:Hp}(a:A9 H H1)(b:A9 H1 H2):A9 H H2:=fun c o h=>b c o (a c o h)
theorem A9.free{H H':Hp}(e:A9 H H'){l:Addr}(h:H' l=Option.none):H l=Option.none:=by
 cases q:H l with
 | none=>rfl
 | some o=>
  rw[e l o q]at h
  cases h
section
variable {κ:Type}[DecidableEq κ]
end
end L2
set_option maxHeartbeats 4000000
namespace L2
open PySem PySem.Spec PyProof.Rows
variable{env:Env}{scope:Scope}{X:Cx}{w:World}{s:o0}{elt iter:Expr}{elts ifs:List Expr}{p pos tp:Pos}{pins:List (Addr×Obj)}{σ:St}{H:Hp}{cl:List (Str×Addr)}{fp:List Addr}{tt:TT}{te:TE}{xs:List V}{us:List Value}{u:Value}{ps:List Str}{sp:Sp}
theorem b3q:∀(names:List (Str×a5S)) (cs:List (Str×Addr)),(∀y∈names,y.2=.free->∃c,env.cells.lookup y.1=some c) ->
  (∀y c,cs.lookup y=some c->env.cells.lookup y=some c) ->
  ∃cl,(forIn names cs (fun(x:Str×a5S) (r:List (Str×Addr))=>(if(x.2 == NameKind.free)=true then (do let c <-cellOf env x.1;pure (ForInStep.yield ((x.1,c)::r)))else pure (ForInStep.yield r):Sem (ForInStep (List (Str×Addr)))))=(pure cl:Sem (List (Str×Addr)))) /\
   (∀y c,cl.lookup y=some c->env.cells.lookup y=some c)/\(∀y,(y,NameKind.free)∈names\/(cs.lookup y).isSome=true->(cl.lookup y).isSome=true)
 | [],cs,_,h=>⟨cs,rfl,h,fun y q=>q.elim (fun z=>absurd z (by simp)) id⟩
 | (n,k)::r,cs,hc,h=>by
  by_cases e:(k == NameKind.free)=true
  ·have ek:k=.free:=by simpa using e
   obtain⟨c,hcc⟩:=hc (n,k) F5 ek
   have h':∀y d,((n,c)::cs).lookup y=some d->env.cells.lookup y=some d:=by
    intro y d q
    rw[K6]at q
    cases eq:y == n with
    | true=>
     rw[eq]at q
     have e2:y=n:=by simpa using eq
     cases q;rw[e2];exact hcc
    | false=>rw[eq]at q;exact h y d q
   obtain⟨cl,h1,h2,h3⟩:=b3q r ((n,c)::cs) (fun y hy=>hc y (D4 _ hy)) h'
   refine⟨cl,?_,h2,fun y q=>h3 y ?_⟩
   ·rw[c8h]
    show((if(k == NameKind.free)=true then (do let c <-cellOf env n;pure (ForInStep.yield ((n,c)::cs)))else pure (ForInStep.yield cs):Sem (ForInStep (List (Str×Addr)))) >>= _)=_
    rw[if_pos e]
    have ec:cellOf env n=pure c:=by unfold cellOf;rw[hcc]
    rw[ec]
    exact h1
   ·rcases q with q | q
    ·rcases q9.mp q with q | q
     ·cases q
      right
      simp[K6]
     ·exact .inl q
    ·right
     rw[K6]
     cases y == n
     ·exact q
     ·rfl
  ·obtain⟨cl,h1,h2,h3⟩:=b3q r cs (fun y hy=>hc y (D4 _ hy)) h
   refine⟨cl,?_,h2,fun y q=>h3 y ?_⟩
   ·rw[c8h]
    show((if(k == NameKind.free)=true then (do let c <-cellOf env n;pure (ForInStep.yield ((n,c)::cs)))else pure (ForInStep.yield cs):Sem (ForInStep (List (Str×Addr)))) >>= _)=_
    rw[if_neg e]
    exact h1
   ·rcases q with q | q
    ·rcases q9.mp q with q | q
     ·cases q
      exact absurd rfl e
     ·exact .inl q
    ·exact .inr q
theorem a6t(hc:∀y∈scope.names,y.2=.free->∃c,env.cells.lookup y.1=some c) :
  ∃cl,closureFor scope env=pure cl/\(∀y c,cl.lookup y=some c->env.cells.lookup y=some c)/\∀y,(y,NameKind.free)∈scope.names->(cl.lookup y).isSome=true:=by
 obtain⟨cl,h1,h2,h3⟩:=b3q scope.names [] hc (fun y c q=>by cases q)
 refine⟨cl,?_,h2,fun y q=>h3 y (.inl q)⟩
 unfold closureFor
 first
  | exact h1
  | (show(forIn scope.names [] _ >>= fun r=>pure r)=_;rw[h1];rfl)
theorem R4{env:Env}:∀ {names:List (Str×a5S)} {y:Str} {k:a5S},
  (names.map fun(n,k)=>if(k == NameKind.free&&env.scope.kind == .function&&env.kindOf n == some .cell)then (n,NameKind.cell)else (n,k)).lookup y=some k ->
  names.lookup y=some k\/(names.lookup y=some .free/\k=.cell)
 | [],_,_,h=>by cases h
 | (n,k0)::r,y,k,h=>by
  have ih := @R4 env r y k
  rw[G8]at h
  rw[K6]
  cases hx:y == n with
  | true=>
   by_cases hc:(k0 == NameKind.free&&env.scope.kind == .function&&env.kindOf n == some .cell)=true
   ·have e2:k0=.free:=by simp at hc;exact hc.1.1
    dsimp only at h
    rw[if_pos hc,K6,hx]at h
    cases h
    exact .inr ⟨by rw[e2],rfl⟩
   ·dsimp only at h
    rw[if_neg hc,K6,hx]at h
    exact .inl h
  | false=>
   by_cases hc:(k0 == NameKind.free&&env.scope.kind == .function&&env.kindOf n == some .cell)=true
   ·dsimp only at h
    rw[if_pos hc,K6,hx]at h
    exact ih h
   ·dsimp only at h
    rw[if_neg hc,K6,hx]at h
    exact ih h
def hid(x:Str)(N:List Str):List Str:=N.map fun y=>if y=x then ("." : Str)++x else y
def X6(X:Cx)(scope:Scope)(cl:List (Str×Addr))(C:Addr)(x:Str)(fp:List Addr)(s3:o0)(H3:Hp):Cx:=
 { X with N:=x::hid x X.N,s₀:=s3,H₀:=H3,env:=b9K scope cl C X.env,outer:=X.stack,stack:=X.stack,ex:=fp,fn:=fun _=>false,pn:=[],xe:=fun _ _=>False }
structure U1(N:List Str)(osc sc:Scope)(x:Str):Prop where
 kind:sc.kind=.function
 cell:∀y∈sc.names,y.2≠.cell
 names:∀y∈sc.names,y.2=.local->sc.names.lookup y.1=some .local
 own:sc.names.lookup x=some .local
 fr:∀y∈sc.names,y.2=.free->osc.names.lookup y.1=some .cell\/osc.names.lookup y.1=some .free
 see:∀y∈hid x N,sc.names.lookup y≠some .local
 dot:sc.names.lookup (("." : Str)++x)=none
 nd:(x::hid x N).Nodup
def a0c(wi:TI)(tt:TT)(te:TE):TE:=fun σ H Q=>wi σ H fun J H1=>∀D,H1 D=none->∃W:Nat->Nat->List V->Hp->Prop,
 (∃m,W 0 m [] (upd H1 D (.lst [])))/\∀i m ys H2,W i m ys H2->H2 D=some (.lst ys) /\
  ((J.stop i H2 /\ Q (.ref D) H2) \/ (J.go i H2 /\ ∀ x H3,J.yld i H2 x H3 -> tt (some x :: σ) H3 fun ok H4 => if ok = true then
    te (some x::σ) H4 (fun y H5=>H5 D=some (.lst ys)/\ys.length<v6/\∃m',m'<m/\W (i+1) m' (ys++[y]) (upd H5 D (.lst (ys++[y]))))
    else ∃m',m'<m/\W (i+1) m' ys H4))
def PTs(X:Cx)(ifs:List Expr)(t:TT):Prop:=
 ∀(pins:List (Addr×Obj)) (s:o0) (σ:St) (H:Hp) (Q:Bool->Hp->Prop),Inv X pins σ H s->t σ H Q ->
  wpAny (model X.prog X.w) X.A (forIn ifs true fun c r=>if r=true then do let ok <-isTrue c X.env (eval c X.env);pure (ForInStep.yield ok)else pure (ForInStep.yield r)) (TP X pins σ Q) X.xe s
def a0b:TT:=fun _ H Q=>Q true H
theorem c3y:PTs X [] a0b:=fun _ _ _ H _ I h=>wpAny_tests_nil ⟨H,I,h⟩
theorem c3x{c:Expr}{t:TT}(h:PT X c t):PTs X [c] t:=fun pins s σ H Q I hq=>wpAny_tests_one (h pins s σ H Q I hq)
theorem b1N{prog:F3}{A:L7}{R:b9U->o0->Prop}{target:Expr}{it acc:Value}(I:Nat->o0->Prop)
  (turn:∀n s,I n s->wpAny (model prog w) A (pyNext it) (fun r s₁=>match r with
   | none=>R (.ok .next) s₁
   | some v=>wpAny (model prog w) A (a4G target it v) (fun _ s₂=>wpAny (model prog w) A (b1o target env v) (fun _ s₃=>
     wpAny (model prog w) A (forIn ifs true fun c r=>if r=true then do let ok <-isTrue c env (eval c env);pure (ForInStep.yield ok)else pure (ForInStep.yield r)) (fun ok s₄=>
      if ok=true then wpAny (model prog w) A (eval elt env) (fun x s₅=>
       wpAny (model prog w) A (call (.builtin "list.append") [acc,x]) (fun _ s₆=>∃m,m<n/\I m s₆) (fun _ _=>False) s₅) (fun _ _=>False) s₄
      else ∃m,m<n/\I m s₄) (fun _ _=>False) s₃) (fun _ _=>False) s₂) (fun _ _=>False) s₁) (fun _ _=>False) s)
  (n:Nat) (h:I n s) :
  a4I (model prog w) A (.compLoop (.ListComp elt [⟨target,iter,ifs,0⟩] scope pos) 0 it acc env) R s:=by
 have up:∀ {α:Type} {m:Sem α} {Q:α->o0->Prop} {E:Value->o0->Prop} {s:o0},wpAny (model prog w) A m Q (fun _ _=>False) s->wpAny (model prog w) A m Q E s:=
  fun h=>a1J h (fun _ _ q=>q) fun _ _ f=>f.elim
 refine codeAny_loop rfl I (fun n s hI=>?_) n h
 refine wpAny_noted ?_
 rw[compTurn_list]
 refine u6 (c5E (u6 (up (thn (turn n s hI) fun r s₁ h₁=>?_))))
 cases r with
 | none=>exact E5 h₁
 | some v=>
  refine u6 (up (thn h₁ fun _ s₂ h₂=>u6 (up (thn h₂ fun _ s₃ h₃=>u6 (up (thn h₃ fun ok s₄ h₄=>?_))))))
  cases ok with
  | false=>exact E5 ⟨rfl,by simpa using h₄⟩
  | true=>
   rw[if_pos rfl]at h₄
   exact u6 (u6 (up (thn h₄ fun x s₅ h₅=>u6 (up (thn h₅ fun _ s₆ h₆=>E5 (E5 ⟨rfl,h₆⟩))))))
section
variable {x:Str}{px:Pos}
theorem c2y{s3:o0}{h4:Heap}{tk:Nat}(hc:U1 X.N X.env.scope scope x)(I:Inv X pins σ H s3)
  (hcl:∀y c,cl.lookup y=some c->X.env.cells.lookup y=some c) (hcl2:∀y,(y,NameKind.free)∈scope.names->(cl.lookup y).isSome=true)
  (fpo:∀b∈fp,a5L X pins H b) (fpl:∀b∈fp,b<s3.heap.objs.size)
  (hn:h4.Ns s3.heap.objs.size (fun _=>none)) (k:∀b o,s3.heap.get? b=some o->h4.get? b=some o) :
  Inv (X6 X scope cl s3.heap.objs.size x fp s3 H) [] (none::σ) H { s3 with heap:=h4,toks:=tk }:=by
 have low:∀x y,(X6 X scope cl s3.heap.objs.size x fp s3 H).env.cells.lookup y=cl.lookup y:=fun _ _=>rfl
 have below:∀y c,cl.lookup y=some c->c<s3.heap.objs.size:=fun y c e=>by
  obtain⟨v,q⟩:=I.cell y c (hcl y c e)
  exact q.lt
 have kinds:∀y,((X6 X scope cl s3.heap.objs.size x fp s3 H).env.kindOf y=some .cell\/(X6 X scope cl s3.heap.objs.size x fp s3 H).env.kindOf y=some .free)->scope.names.lookup y=some .free:=by
  intro y hy
  rcases hy with hy | hy
  ·rcases R4 hy with q | ⟨q,_⟩
   ·exact absurd rfl (hc.cell _ (F1 q))
   ·exact q
  ·rcases R4 hy with q | ⟨q,z⟩
   ·exact q
   ·cases z
 refine⟨⟨I.ok.mod,?_,I.ok.glob,I.ok.blt,o5 _,fun y z c h1 h2=>?_,fun y hy=>?_,fun y c h=>?_,I.ok.hd,I.ok.frames,.inl rfl,fun b hb=>⟨?_,fun y c e z=>?_⟩,fun b o e=>I.bs b o e,J8 I.ok.bsz I.sz,fun b o e hb=>?_,fun b hb hf=>?_,I.stack,I.stkFree⟩,
  rfl,I.bare,Un.kept k,⟨_,hn,fun i y v h1 h2 h3=>?_⟩,fun y c e=>?_,I.fresh,fun y c e=>?_,fun p hp=>absurd (show p∈([]:List (Addr×Obj))from hp) (by simp),I.hok.kept k,?_⟩
 ·exact hc.kind
 ·exact I.ok.inj y z c (hcl _ _ h1) (hcl _ _ h2)
 ·have:=hcl2 y (F1 (kinds y hy))
  exact Z4.mp this
 ·cases h
 ·exact C4 (fpl b hb)
 ·exact(fpo b hb).2.2.2.2.1 y c (hcl y c e) z
 ·rcases(fpo b hb).2.2.2.1 with q | q
  ·exact I.ok.noex b o e q
  ·exact absurd (E6 (o9 (I.ok.bs b o e).1) q) (M7 _)
 ·rcases q9.mp (I.stkSub b hf)with e | e
  ·exact(fpo b hb).2.1 e
  ·exact(fpo b hb).2.2.1 e
 ·-- the names
  have h1:(x::hid x X.N)[i]? = some y:=h1
  cases i with
  | zero=>cases h2
  | succ i=>
   have h1:(hid x X.N)[i]? = some y:=h1
   have h2:σ[i]? = some (some v):=h2
   have my:y∈hid x X.N:=a0Q h1
   have h3:(a7w scope X.env).names.lookup y=some .local\/(a7w scope X.env).names.lookup y=some .cell\/(a7w scope X.env).names.lookup y=some .free:=h3
   have hf:scope.names.lookup y=some .free:=by
    rcases h3 with q | q
    ·rcases R4 q with q | ⟨_,z⟩
     ·exact absurd q (hc.see y my)
     ·cases z
    ·exact kinds y q
   have hy:X.N[i]? = some y:=by
    unfold hid at h1
    rw[d8]at h1
    cases e:X.N[i]? with
    | none=>rw[e]at h1;cases h1
    | some z=>
     rw[e]at h1
     by_cases ez:z=x
     ·rw[a5p,if_pos ez]at h1
      have h1:=Option.some.inj h1
      subst h1
      rw[hc.dot]at hf
      cases hf
     ·rw[a5p,if_neg ez]at h1
      exact h1
   obtain⟨m,_,hl⟩:=I.loc
   obtain⟨c,hcc⟩:=Z4.mp (hcl2 y (F1 hf))
   have vis:Vis X.env.scope y:=by
    rcases hc.fr _ (F1 hf) rfl with q | q
    ·exact .inr (.inl q)
    ·exact .inr (.inr q)
   obtain⟨u,ru,lk⟩:=hl i y v hy h2 vis
   refine⟨u,ru,.inr ⟨?_,c,hcc,?_⟩⟩
   ·rcases h3 with q | q
    ·rcases R4 q with q | ⟨_,z⟩
     ·exact absurd q (hc.see y my)
     ·cases z
    ·exact q
   ·have hce:=hcl y c hcc
    rcases lk with ⟨q,_⟩ | ⟨_,c',e',z⟩
    ·rcases hc.fr _ (F1 hf) rfl with q' | q'
     ·have q:X.env.scope.names.lookup y=some .local:=q
      rw[show X.env.scope.names.lookup y=some NameKind.cell from q']at q
      cases q
     ·have q:X.env.scope.names.lookup y=some .local:=q
      rw[show X.env.scope.names.lookup y=some NameKind.free from q']at q
      cases q
    ·rw[e']at hce
     cases hce
     obtain⟨o,ho,hd⟩:=z
     exact⟨o,k _ _ ho,hd⟩
 ·obtain⟨v,o,ho,hd⟩:=I.cell y c (hcl y c e)
  exact⟨v,o,k _ _ ho,hd⟩
 ·exact I.freeC y c (hcl y c e)
 ·show(none::σ).length=(x::hid x X.N).length
  have:=I.len
  simp[hid,this]
theorem b0x{H1:Hp}{s2:o0}{it:Addr}{tn:Nat->Heap->Prop}{J:It}{Q:VK}{E:Value->o0->Prop}
  {RR:Value->Addr->b9U->o0->Prop} (hc:U1 X.N X.env.scope scope x) (hcalm:X.calm=true)
  (hcl:∀y c,cl.lookup y=some c->X.env.cells.lookup y=some c) (hcl2:∀y,(y,NameKind.free)∈scope.names->(cl.lookup y).isSome=true)
  (ht:∀C fp s3 H3,PTs (X6 X scope cl C x fp s3 H3) ifs tt) (he:∀C fp s3 H3,PE (X6 X scope cl C x fp s3 H3) elt te)
  (I:Inv X pins σ H1 s2) (T:b5m X.prog X.w X.K (.Name x px) J fp it tn) (st:tn 0 s2.heap) (fpo:∀b∈fp,a5L X pins H1 b)
  (h:∀D,H1 D=none->∃W:Nat->Nat->List V->Hp->Prop,
   (∃m,W 0 m [] (upd H1 D (.lst [])))/\∀i m ys H2,W i m ys H2->H2 D=some (.lst ys) /\
   ((J.stop i H2 /\ Q (.ref D) H2) \/ (J.go i H2 /\ ∀ x H3,J.yld i H2 x H3 -> tt (some x :: σ) H3 fun ok H4 => if ok = true then
     te (some x::σ) H4 (fun y H5=>H5 D=some (.lst ys)/\ys.length<v6/\∃m',m'<m/\W (i+1) m' (ys++[y]) (upd H5 D (.lst (ys++[y]))))
     else ∃m',m'<m/\W (i+1) m' ys H4)))
  (hRR:∀D C s' H' m,Inv X pins σ H' s'->s'.heap.Ns C m->H' C=none->C≠X.env.locals->X.s₀.heap.objs.size<=C->(∀y c,X.env.cells.lookup y=some c->c≠C)->(∀p∈X.pn++pins,p.1≠C)->Q (.ref D) H'->RR (.ref D) C (.ok .next) s') :
  wpAny (model X.prog X.w) X.A (newList []) (fun acc s₃=>wpAny (model X.prog X.w) X.A (newFunctionEnv scope X.env.globals cl [] X.env.qual none .none (some X.env)) (fun cenv s₄=>
   a4I (model X.prog X.w) X.A (.compStart (.ListComp elt [⟨.Name x px,iter,ifs,0⟩] scope pos) 0 (.ref it) acc { cenv with scope:=a7w scope X.env }) (RR acc cenv.locals) s₄) E s₃) E s2:=by
 refine a1I (hd:=by size_fits) ?_
 have I3:=I.lnew (ys:=[]) (its:=[]) (t':=s2.toks) .nil (by show 0<=v6;exact O6 _)
 obtain⟨W,⟨m0,w0⟩,turn⟩:=h _ I.fresh
 generalize hD:s2.heap.objs.size=D at I3 w0 turn ⊢
 generalize hs3:({ s2 with heap:=s2.heap.push { cls:=.type "list",data:=.seq ([]:List Value).toArray } }:o0)=s3
 have hs3':({ s2 with heap:=s2.heap.push { cls:=.type "list",data:=.seq ([]:List Value).toArray },toks:=s2.toks }:o0)=s3:=hs3
 rw[hs3']at I3
 have keep3:∀b o,s2.heap.get? b=some o->s3.heap.get? b=some o:=fun b o e=>by rw[<-hs3];exact i9 _ e
 have fpl:∀b∈fp,b<s3.heap.objs.size:=fun b hb=>by
  obtain⟨o,e,_⟩:=T.obj _ _ st b hb
  exact o9 (keep3 b o e)
 have fpD:∀b∈fp,b≠D:=fun b hb z=>by
  obtain⟨o,e,_⟩:=T.obj _ _ st b hb
  exact absurd (o9 e) (by rw[z,hD];exact M7 _)
 have fpo3:∀b∈fp,a5L X pins (upd H1 D (.lst [])) b:=fun b hb=>⟨by rw[o4 (fpD b hb)];exact(fpo b hb).1,(fpo b hb).2⟩
 show wpAny _ _ _ _ _ s3
 refine c9D hc.cell (by intro y hy;simp at hy) (fun h₁ hns₁ hsb₁=>?_) hc.kind
 dsimp only[newEnv]at hns₁ hsb₁ ⊢
 have keep4:∀b o,s3.heap.get? b=some o->h₁.get? b=some o:=fun b o e=>hsb₁.extBut b o (C4 (o9 e)) (i9 _ e)
 have I4:=c2y (tk:=s3.toks+([]:List (Str×Value)).length) hc I3 hcl hcl2 fpo3 fpl hns₁ keep4
 have st4:tn 0 h₁:=T.keep _ _ _ st fun b hb o e=>keep4 b o (keep3 b o e)
 have loop:∀s₄:o0,s₄={ s3 with heap:=h₁,toks:=s3.toks+([]:List (Str×Value)).length } ->
   a4I (model X.prog X.w) X.A (.compLoop (.ListComp elt [⟨.Name x px,iter,ifs,0⟩] scope pos) 0 (.ref it) (.ref D) (b9K scope cl s3.heap.objs.size X.env)) (RR (.ref D) s3.heap.objs.size) s₄:=by
  rintro s₄ rfl
  have stat:∀ {H':Hp},(∀b∈fp,H' b=none)->∀b∈fp,a5L (X6 X scope cl s3.heap.objs.size x fp s3 (upd H1 D (.lst []))) [] H' b:=fun hn b hb=>
   ⟨hn b hb,C4 (fpl b hb),fun hf=>by
    rcases q9.mp (I3.stkSub b hf)with e | e
    ·exact(fpo b hb).2.1 e
    ·exact(fpo b hb).2.2.1 e,.inl hb,fun y c e=>(fpo b hb).2.2.2.2.1 y c (hcl y c e),fun p hp=>absurd (show p∈([]:List (Addr×Obj))from hp) (by simp)⟩
  refine b1N (env:=b9K scope cl s3.heap.objs.size X.env) (fun n s'=>∃i ys H',Inv (X6 X scope cl s3.heap.objs.size x fp s3 (upd H1 D (.lst []))) [] (none::σ) H' s'/\tn i s'.heap/\(∀b∈fp,H' b=none)/\W i n ys H') ?_ m0
   ⟨0,[],_,I4,st4,fun b hb=>(fpo3 b hb).1,w0⟩
  rintro n s5 ⟨i,ys,H5,I5,st5,fr5,w5⟩
  obtain⟨hDy,alt⟩:=turn i n ys H5 w5
  rcases alt with ⟨stop,q⟩ | ⟨go,step⟩
  ·refine a1J (T.done (X6 X scope cl s3.heap.objs.size x fp s3 (upd H1 D (.lst []))) rfl rfl rfl hcalm i [] s5 _ H5 (fun _ _=>False) I5 (stat fr5) st5 stop) (fun r s6 ⟨hr,I6⟩=>?_) fun _ _ f=>f
   subst hr
   obtain⟨m6,n6,_⟩:=I6.loc
   have J6:Inv X pins σ H5 s6:=by
    refine I3.call' (ch:=fp) I6.os I6.base I6.hok I6.bare fun b hb=>?_
    obtain⟨_,f1,f2,f3,f4,f5⟩:=fpo3 b hb
    exact⟨f3,f1,f4,f5⟩
   refine hRR D _ s6 H5 m6 J6 n6 I6.free (a5O I3.lt) I3.sz (fun y c e z=>?_) (fun p hp z=>?_) q
   ·obtain⟨v,q⟩:=I3.cell y c e
    exact absurd q.lt (by rw[z];exact M7 _)
   ·exact absurd (o9 (I3.pin p hp).1) (by rw[z];exact M7 _)
  ·refine a1J (T.item (X6 X scope cl s3.heap.objs.size x fp s3 (upd H1 D (.lst []))) rfl rfl rfl hcalm i [] s5 _ H5 (fun _ _=>False) I5 (stat fr5) st5 go) (fun r s6 ⟨u,hr,h6⟩=>?_) fun _ _ f=>f
   subst hr
   refine thn h6 fun _ s6 ⟨xv,H6,I6,r6,y6,st6,fr6⟩=>?_
   have I6':=I6.pinned (stat fr6) (T.obj _ _ st6)
   refine b5A (a9C (i:=0) I6' ?nd rfl (.inl ?loc) r6 (fun s7 I7=>?_) (.inr ?loc))
   case nd=>exact hc.nd
   case loc=>exact a1M hc.own
   have I7:Inv (X6 X scope cl s3.heap.objs.size x fp s3 (upd H1 D (.lst []))) ([]++a6l fp s6.heap) (some xv::σ) H6 s7:=I7
   have again:∀ {s8:o0} {H8:Hp} {ys8:List V},Inv (X6 X scope cl s3.heap.objs.size x fp s3 (upd H1 D (.lst []))) ([]++a6l fp s6.heap) (some xv::σ) H8 s8->(∃m',m'<n/\W (i+1) m' ys8 H8) ->
     ∃m,m<n/\∃i ys H',Inv (X6 X scope cl s3.heap.objs.size x fp s3 (upd H1 D (.lst []))) [] (none::σ) H' s8/\tn i s8.heap/\(∀b∈fp,H' b=none)/\W i m ys H':=by
    rintro s8 H8 ys8 I8 ⟨m',hm,w8⟩
    refine⟨m',hm,i+1,ys8,H8,(I8.unpinned (pins:=[])).weak rfl (fun j v e=>?_),T.keep _ _ _ st6 fun b hb o e=>(I8.pin (b,o) (C7 _ (C7 _ (a1R hb e)))).1,fun b hb=>?_,w8⟩
    ·cases j with
     | zero=>cases e
     | succ j=>exact e
    ·obtain⟨o,e,d⟩:=T.obj _ _ st6 b hb
     exact(I8.pin (b,o) (C7 _ (C7 _ (a1R hb e)))).2.1
   refine thn (ht _ fp s3 _ _ s7 _ H6 _ I7 (step xv H6 y6)) (fun ok s8 ⟨H8,I8,q8⟩=>?_)
   cases ok with
   | false=>exact again I8 (by simpa using q8)
   | true=>
    rw[if_pos rfl]at q8
    rw[if_pos rfl]
    refine thn (he _ fp s3 _ _ s8 _ H8 _ I8 q8) (fun v s9 ⟨y,H9,I9,r9,hD9,hz9,w9⟩=>?_)
    refine a1J (a7S (X:=X6 X scope cl s3.heap.objs.size x fp s3 (upd H1 D (.lst []))) _ s9 _ H9 (.ref D) [y] (.ref D) [v] (fun _ H'=>H'=upd H9 D (.lst (ys++[y]))) I9 rfl (.cons r9 .nil) ⟨D,ys,y,rfl,rfl,hD9,hz9,rfl⟩) (fun _ s10 ⟨_,H10,I10,_,e10⟩=>?_) fun _ _ f=>f
    subst e10
    exact again I10 w9
 exact c8k (loop _ rfl) (T.self X.A 0 _ _ _ st4 (loop _ rfl))
theorem b0w(hc:U1 X.N X.env.scope scope x)(I:Inv X pins σ H s):∀y∈scope.names,y.2=.free->∃c,X.env.cells.lookup y.1=some c:=by
 intro y hy e
 rcases hc.fr y hy e with q | q
 ·exact I.ok.has y.1 (.inl q)
 ·exact I.ok.has y.1 (.inr q)
theorem c3O{wi:TI}(hc:U1 X.N X.env.scope scope x)(hcalm:X.calm=true)(hi:PI X (.Name x px) iter wi)
  (ht:∀cl C fp s3 H3,PTs (X6 X scope cl C x fp s3 H3) ifs tt) (he:∀cl C fp s3 H3,PE (X6 X scope cl C x fp s3 H3) elt te)
  (hs:∀x,Y9 iter X.env x=pure x:=by intro _;rfl) :
  PE X (.ListComp elt [⟨.Name x px,iter,ifs,0⟩] scope pos) (a0c wi tt te):=by
 intro pins s σ H Q I h
 obtain⟨cl,hclos,hcl,hcl2⟩:=a6t (b0w hc I)
 rw[eval_ListComp]
 refine a6B (use:=none) rfl hs hclos hc.kind hc.names (thn (hi pins s σ H _ I h) fun v s1 h1=>thn h1 fun itv s2 ⟨it,fp,tn,J,H2,e,I2,T,st,fpo,R⟩=>?_)
 subst e
 refine b0x (RR:=fun acc C=>compPost (model X.prog X.w) X.A X.xe none (EP X pins σ Q) acc C) (Q:=Q) hc hcalm hcl hcl2 (ht cl) (he cl) I2 T st fpo R ?_
 intro D C s' H' m I' n f1 f2 f3 f4 f5 q
 exact⟨m,n,fun h' sb=>⟨.ref D,H',I'.turned (t':=s'.toks) (fun b o hb e=>(sb.2 b hb).trans e) f1 f2 (.inr f3) f4 f5,rfl,q⟩⟩
theorem b6g{wi:TI}{i:Nat}{y:Str}{py spos:Pos}(hN:X.N.Nodup)(hiy:X.N[i]? = some y)(hy:X.env.scope.names.lookup y=some .local)(hc:U1 X.N X.env.scope scope x)(hcalm:X.calm=true)(hi:PI X (.Name x px) iter wi)
  (ht:∀cl C fp s3 H3,PTs (X6 X scope cl C x fp s3 H3) ifs tt) (he:∀cl C fp s3 H3,PE (X6 X scope cl C x fp s3 H3) elt te)
  (hsw:a2x (.ListComp elt [⟨.Name x px,iter,ifs,0⟩] scope pos) (some (.Name y py)) spos.line X.env=pure true:=by rfl)
  (hs:∀x,Y9 iter X.env x=pure x:=by intro _;rfl) :
  PS X (.Assign [.Name y py] (.ListComp elt [⟨.Name x px,iter,ifs,0⟩] scope pos) spos) (fun D σ H=>a0c wi tt te σ H fun v H1=>D.nx (σ.set i (some v)) H1):=by
 intro pins s σ H D I h
 obtain⟨cl,hclos,hcl,hcl2⟩:=a6t (b0w hc I)
 rw[exec_Assign_Name_used _ _ _ _ hsw]
 refine u6 (c5E (u6 ?_))
 show wpAny _ X.A (do let _ <-comprehension (.ListComp elt [⟨.Name x px,iter,ifs,0⟩] scope pos) scope X.env _ (newList []) false (eval iter X.env) (some (b1o (.Name y py) X.env))) _ _ s
 refine u6 (a1J (a6B (use:=some (b1o (.Name y py) X.env)) (Q:=fun _ s'=>SP X pins D .next s') rfl hs hclos hc.kind hc.names
  (thn (hi pins s σ H _ I h) fun v s1 h1=>thn h1 fun itv s2 ⟨it,fp,tn,J,H2,e,I2,T,st,fpo,R⟩=>?_)) (fun _ s' hq=>E5 (E5 hq)) fun _ _ e=>e)
 subst e
 refine b0x (RR:=fun acc C=>compPost (model X.prog X.w) X.A X.xe (some (b1o (.Name y py) X.env)) (fun _ s'=>SP X pins D .next s') acc C) (Q:=fun v H1=>D.nx (σ.set i (some v)) H1) hc hcalm hcl hcl2 (ht cl) (he cl) I2 T st fpo R ?_
 intro E C s' H' m I' n f1 f2 f3 f4 f5 q
 show wpAny _ _ (b1o (.Name y py) X.env (.ref E)) _ _ _
 refine b5A (b1B (v:=.ref E) I' hN hiy (.inl hy) rfl (fun s'' I'' ch=>?_) (.inr hy))
 obtain⟨a,sb,ha⟩:=ch
 have hCa:C≠a:=by
  rcases ha with e | e
  ·rw[e];exact f2
  ·exact fun z=>f4 y a e z.symm
 exact⟨m,n.sameBut sb hCa,fun h' sb'=>⟨_,_,I''.turned (t':=s''.toks) (fun b o hb e=>(sb'.2 b hb).trans e) f1 f2 (.inr f3) f4 f5,q⟩⟩
end
section
theorem OpR.imp{f:Value->Value->Sem Value}{r r':R2}(h:OpR X f r)(i:∀x y H Q,r' x y H Q->r x y H Q):OpR X f r':=fun pins s σ H x y u v Q I rx ry q=>h pins s σ H x y u v Q I rx ry (i _ _ _ _ q)
theorem X0.imp{f:Value}{r r':List V->Hp->VK->Prop}(h:X0 X f r)(i:∀xs H Q,r' xs H Q->r xs H Q):X0 X f r':=fun pins s σ H xs us Q I rx q=>h pins s σ H xs us Q I rx (i _ _ _ q)
theorem IxR.imp{r r':R2}(h:IxR X r)(i:∀x y H Q,r' x y H Q->r x y H Q):IxR X r':=by
 intro value slice pins s σ H x y v u Q I rx ry q hs
 exact h value slice pins s σ H x y v u Q I rx ry (i _ _ _ _ q) hs
theorem SlR.imp{r r':V->Option Int->Option Int->Hp->VK->Prop}(h:SlR X r)(i:∀x lo hi H Q,r' x lo hi H Q->r x lo hi H Q):SlR X r':=fun pins s σ H x v vl vu lo hi sl Q I rx hs pl pu q=>h pins s σ H x v vl vu lo hi sl Q I rx hs pl pu (i _ _ _ _ _ q)
def X1:R2:=fun x y H Q=>match x,y with
 | .int i,.int j=>Q (.int (i+j)) H
 | .str i,.str j=>i.length+j.length<=v6/\Q (.str (i++j)) H
 | .ref a,.ref b=>match H a,H b with
  | some (.lst xs),some (.lst ys)=>xs.length+ys.length<=v6/\∀p,H p=none->Q (.ref p) (upd H p (.lst (xs++ys)))
  | _,_=>False
 | _,_=>False
theorem c4g:OpR X (a0a .Add) X1:=by
 refine(c7k.or (b6p.or c7j)).imp fun x y H Q h=>?_
 unfold X1 at h
 split at h
 ·exact .inl ⟨_,_,rfl,rfl,h⟩
 ·exact .inr (.inl ⟨_,_,rfl,rfl,h.1,h.2⟩)
 ·split at h
  ·exact .inr (.inr ⟨_,_,_,_,rfl,rfl,by assumption,by assumption,h.1,h.2⟩)
  ·exact h.elim
 ·exact h.elim
def q2I(C:Int->Int->Prop)(g:Int->Int->V):R2:=fun x y H Q=>match x,y with
 | .int i,.int j=>C i j/\Q (g i j) H
 | _,_=>False
def b4C(g:Int->Int->V):R2:=fun x y H Q=>match x,y with
 | .int i,.int j=>Q (g i j) H
 | _,_=>False
theorem b6f{f:Value->Value->Sem Value}{C:Int->Int->Prop}{g:Int->Int->V}(h:OpR X f (rI C g)):OpR X f (q2I C g):=h.imp fun x y H Q q=>by
 unfold q2I at q
 split at q
 ·exact⟨_,_,rfl,rfl,q.1,q.2⟩
 ·exact q.elim
theorem a6Z{f:Value->Value->Sem Value}{g:Int->Int->V}(h:OpR X f (rI0 g)):OpR X f (b4C g):=h.imp fun x y H Q q=>by
 unfold b4C at q
 split at q
 ·exact⟨_,_,rfl,rfl,q⟩
 ·exact q.elim
abbrev a6k:R2:=b4C fun i j=>.int (i - j)
abbrev b1a:R2:=q2I c4V fun i j=>.int (i * j)
abbrev a3K:R2:=q2I (fun _ j=>0<j) fun i j=>.int (i % j)
abbrev c1i:R2:=q2I (fun _ j=>0<j/\j<2 ^ 64) fun i j=>.int (i / j)
abbrev qLt:R2:=b4C fun i j=>.bl (decide (i<j))
abbrev qLe:R2:=b4C fun i j=>.bl (decide (i<=j))
abbrev qGt:R2:=b4C fun i j=>.bl (decide (j<i))
abbrev qGe:R2:=b4C fun i j=>.bl (decide (j<=i))
theorem c3U:OpR X (a0a .Sub) a6k:=a6Z c6W
theorem c3Z:OpR X (a0a .Mult) b1a:=b6f c7g
theorem c4a:OpR X (a0a .Mod) a3K:=b6f c7h
theorem c4f:OpR X (a0a .FloorDiv) c1i:=b6f (opI fun i j _ _ _ _ _ hc q=>by
 have hl:j.natAbs.log2<9000:=by
  have:j.natAbs<2 ^ 64:=by have:=hc.1;have:=hc.2;omega
  by_cases h0:j.natAbs=0
  ·rw[h0];decide +kernel
  ·exact Nat.lt_trans ((Nat.log2_lt h0).mpr this) (by decide)
 refine floordiv_int (by omega) ?_ (.inl (PyProof.noPylong_of_log2 hl))
 rw[Int.fdiv_eq_ediv_of_nonneg _ (by omega)]
 exact q)
theorem c6Z:OpR X (A3 .Lt) qLt:=a6Z c9g
theorem c7a:OpR X (A3 .LtE) qLe:=a6Z c9h
theorem c7d:OpR X (A3 .Gt) qGt:=a6Z c9i
theorem c7e:OpR X (A3 .GtE) qGe:=a6Z c9j
def qIx:R2:=fun x y H Q=>match x,y with
 | .ref p,.int i=>match H p with
  | some (.lst xs)=>∃v,atI xs i=some v/\Q v H
  | some (.tup xs)=>∃v,atI xs i=some v/\Q v H
  | _=>False
 | .str z,.int i=>z.length<=v6/\∃c,atI z.cps.toList i=some c/\Q (.str ⟨#[c]⟩) H
 | _,_=>False
theorem c9U:IxR X qIx:=c2f.imp fun x y H Q h=>by
 unfold qIx at h
 split at h
 ·split at h
  ·obtain⟨v,e,q⟩:=h
   exact .inl ⟨_,_,_,v,rfl,rfl,SqL.of (by assumption),e,q⟩
  ·obtain⟨v,e,q⟩:=h
   exact .inr (.inl ⟨_,_,_,v,rfl,rfl,SqT.of (by assumption),e,q⟩)
  ·exact h.elim
 ·obtain⟨z,c,e,q⟩:=h
  exact .inr (.inr ⟨_,_,c,rfl,rfl,z,e,q⟩)
 ·exact h.elim
def qSl:V->Option Int->Option Int->Hp->VK->Prop:=fun x lo hi H Q=>match x with
 | .ref a=>match H a with
  | some (.lst xs)=>∀p,H p=none->Q (.ref p) (upd H p (.lst (a4m xs lo hi)))
  | some (.tup xs)=>¬(HT.sIx xs.length 0 lo=0/\HT.sIx xs.length xs.length hi=xs.length)/\∀p,H p=none->Q (.ref p) (upd H p (.tup (a4m xs lo hi)))
  | _=>False
 | _=>False
theorem c9I:SlR X qSl:=(b7u.or c5L).imp fun x lo hi H Q h=>by
 unfold qSl at h
 split at h
 ·split at h
  ·exact .inl ⟨_,_,rfl,SqL.of (by assumption),h⟩
  ·exact .inr ⟨_,_,rfl,SqT.of (by assumption),h.1,h.2⟩
  ·exact h.elim
 ·exact h.elim
def V7:List V->Hp->VK->Prop:=fun xs H Q=>match xs with
 | [.ref p]=>match H p with
  | some (.lst ys)=>Q (.int ys.length) H
  | some (.tup ys)=>Q (.int ys.length) H
  | _=>False
 | [.str z]=>z.length<=v6/\Q (.int z.length) H
 | _=>False
theorem b9r:X0 X (.builtin "len") V7:=(a7g.or b3v).imp fun xs H Q h=>by
 unfold V7 at h
 split at h
 ·split at h
  ·exact .inl ⟨_,_,rfl,.inl (SqL.of (by assumption)),h⟩
  ·exact .inl ⟨_,_,rfl,.inr (SqT.of (by assumption)),h⟩
  ·exact h.elim
 ·exact .inr ⟨_,rfl,h.1,h.2⟩
 ·exact h.elim
def c1j:List V->Hp->VK->Prop:=fun xs H Q=>match xs with
 | [.int i]=>Q (.int (if i<0 then -i else i)) H
 | _=>False
theorem b9w:X0 X (.builtin "abs") c1j:=c2B.imp fun xs H Q h=>by
 unfold c1j at h
 split at h
 ·exact⟨_,rfl,h⟩
 ·exact h.elim
def a6Y:V->V->V->Hp->(Hp->Prop)->Prop:=fun o i v H Q=>match o,i with
 | .ref p,.int k=>match H p with
  | some (.lst xs)=>∃j,ixN xs.length k=some j/\Q (upd H p (.lst (xs.set j v)))
  | _=>False
 | _,_=>False
theorem c8x:c2D X a6Y:=by
 intro pins s σ H o i v u1 u2 u3 Q I r1 r2 r3 h
 refine c0y pins s σ H o i v u1 u2 u3 Q I r1 r2 r3 ?_
 unfold a6Y at h
 split at h
 ·split at h
  ·obtain⟨j,e,q⟩:=h
   exact⟨_,_,_,j,rfl,rfl,by assumption,e,q⟩
  ·exact h.elim
 ·exact h.elim
def a0t(xs ys:List V):Bool:=(L4 (min xs.length ys.length)).all (fun j=>eqV (xs.getD j .non) (ys.getD j .non))&&xs.length == ys.length
def eqO(x y:V)(H:Hp):Option Bool:=if b4q x y=true then some (decide (x=y))else match x,y with
 | .ref a,.ref b=>match H a,H b with
  | some (.tup xs),some (.tup ys)=>if xs.all N4=true/\ys.all N4=true then some (a0t xs ys)else none
  | some (.lst xs),some (.lst ys)=>if xs.all N4=true/\ys.all N4=true then some (a0t xs ys)else none
  | _,_=>none
 | .non,.ref a=>match H a with
  | some (.tup _)=>some false
  | _=>none
 | .ref a,.non=>match H a with
  | some (.tup _)=>some false
  | _=>none
 | _,_=>none
def qEq:R2:=fun x y H Q=>∃b,eqO x y H=some b/\Q (.bl b) H
def qNe:R2:=fun x y H Q=>∃b,eqO x y H=some b/\Q (.bl (!b)) H
theorem a5B{A:L7}{ys:List V}{ws:List Value}(rx:J3 xs us)(ry:J3 ys ws)(fx:xs.all N4=true)(fy:ys.all N4=true) :
  ∀j (h1:j<us.toArray.size) (h2:j<ws.toArray.size),SeqAt.EqAt A s us.toArray[j] ws.toArray[j] (eqV (xs.getD j .non) (ys.getD j .non)):=by
 intro j h1 h2
 have l1:=rx.length
 have l2:=ry.length
 have h1':j<us.length:=by simpa using h1
 have h2':j<ws.length:=by simpa using h2
 have e1:xs[j]? = some (xs[j]'(by omega)):=by simp
 have e2:ys[j]? = some (ys[j]'(by omega)):=by simp
 obtain⟨u,hu,ru⟩:=rx.get e1
 obtain⟨w,hw,rw'⟩:=ry.get e2
 have z1:us.toArray[j]=u:=by
  have:us[j]? = some us[j]:=by simp
  rw[this]at hu
  simpa using hu
 have z2:ws.toArray[j]=w:=by
  have:ws[j]? = some ws[j]:=by simp
  rw[this]at hw
  simpa using hw
 rw[z1,z2]
 have g1:xs.getD j .non=xs[j]'(by omega):=by simp[T0,e1]
 have g2:ys.getD j .non=ys[j]'(by omega):=by simp[T0,e2]
 rw[g1,g2]
 exact b0v ru rw' (M6.mp fx _ (J5 _)) (M6.mp fy _ (J5 _))
theorem c5p{x y:V}{v:Value}{k:Bool}(I:Inv X pins σ H s)(hu:X.A.units<cLine)(rx:J1 x v)(ry:J1 y u)(hs:¬b4q x y=true)(e:eqO x y H=some k) :
  SeqAt.RcAt X.A s v u k/\SeqAt.RcNeAt X.A s v u (!k):=by
 unfold eqO at e
 rw[if_neg hs]at e
 split at e
 ·rename_i a b
  cases rx
  cases ry
  split at e
  ·rename_i xs ys ha hb
   split at e
   ·rename_i hf
    cases e
    obtain⟨us,r1,t1,_⟩:=I.tuple (SqT.of ha)
    obtain⟨ws,r2,t2,_⟩:=I.tuple (SqT.of hb)
    have l1:=r1.length
    have l2:=r2.length
    have q1:=SeqAt.RcAt.tuples (A:=X.A) t1 t2 hu (a5B r1 r2 hf.1 hf.2)
    have q2:=SeqAt.RcNeAt.tuples (A:=X.A) t1 t2 hu (a5B r1 r2 hf.1 hf.2)
    simp only[t9,<-l1,<-l2]at q1 q2
    exact⟨q1,q2⟩
   ·cases e
  ·rename_i xs ys ha hb
   split at e
   ·rename_i hf
    cases e
    obtain⟨us,r1,t1,_⟩:=I.list (SqL.of ha)
    obtain⟨ws,r2,t2,_⟩:=I.list (SqL.of hb)
    have l1:=r1.length
    have l2:=r2.length
    by_cases hl:us.toArray.size=ws.toArray.size
    ·have q1:=SeqAt.RcAt.lists (A:=X.A) t1.isList t2.isList hl hu (a5B r1 r2 hf.1 hf.2)
     have q2:=SeqAt.RcNeAt.lists (A:=X.A) t1.isList t2.isList hl hu (a5B r1 r2 hf.1 hf.2)
     have hl':xs.length=ys.length:=by simpa[<-l1,<-l2]using hl
     have ef:a0t xs ys=(L4 us.toArray.size).all fun j=>eqV (xs.getD j .non) (ys.getD j .non):=by
      unfold a0t
      rw[hl',b9H,t9,<-l1,hl']
      simp
     rw[ef]
     exact⟨q1,q2⟩
    ·have hl2:(us.toArray.size != ws.toArray.size)=true:=by simpa using hl
     have q1:=SeqAt.RcAt.lists_lengths (A:=X.A) t1.isList t2.isList hl2 hu
     have q2:=SeqAt.RcNeAt.lists_lengths (A:=X.A) t1.isList t2.isList hl2 hu
     have ef:a0t xs ys=false:=by
      unfold a0t
      have:¬xs.length=ys.length:=by simpa[<-l1,<-l2]using hl
      simp[this]
     rw[ef]
     exact⟨q1,q2⟩
   ·cases e
  ·cases e
 ·cases rx
  cases ry
  split at e
  ·cases e
   obtain⟨us,_,t1,_⟩:=I.tuple (SqT.of (by assumption))
   exact⟨SeqAt.RcAt.none_tuple t1 hu,SeqAt.RcNeAt.none_tuple t1 hu⟩
  ·cases e
 ·cases rx
  cases ry
  split at e
  ·cases e
   obtain⟨us,_,t1,_⟩:=I.tuple (SqT.of (by assumption))
   exact⟨SeqAt.RcAt.tuple_none t1 hu,SeqAt.RcNeAt.tuple_none t1 hu⟩
  ·cases e
 ·cases e
theorem c7f(hu:X.A.units<cLine):OpR X (A3 .Eq) qEq:=by
 intro pins s σ H x y v u Q I rx ry h
 obtain⟨k,e,q⟩:=h
 by_cases hs:b4q x y=true
 ·unfold eqO at e
  rw[if_pos hs]at e
  cases e
  exact c9k pins s σ H x y v u Q I rx ry ⟨hs,q⟩
 ·exact(c5p I hu rx ry hs e).1 _ _ _ _ ⟨.bl k,H,I,rfl,q⟩
theorem c6Y(hu:X.A.units<cLine):OpR X (A3 .NotEq) qNe:=by
 intro pins s σ H x y v u Q I rx ry h
 obtain⟨k,e,q⟩:=h
 by_cases hs:b4q x y=true
 ·unfold eqO at e
  rw[if_pos hs]at e
  cases e
  exact c9f pins s σ H x y v u Q I rx ry ⟨hs,q⟩
 ·exact(c5p I hu rx ry hs e).2 _ _ _ _ ⟨.bl (!k),H,I,rfl,q⟩
def qIn(neg:Bool):R2:=fun x y H Q=>match x,y with
 | .str i,.str j=>Q (.bl (if neg then !(!(Builtin.Str.occurrences j i 0 j.length 1).isEmpty)else !(Builtin.Str.occurrences j i 0 j.length 1).isEmpty)) H
 | x,.ref p=>match H p with
  | some (.lst xs)=>N4 x=true/\xs.all N4=true/\Q (.bl (if neg then !inV x xs else inV x xs)) H
  | some (.tup xs)=>N4 x=true/\xs.all N4=true/\Q (.bl (if neg then !inV x xs else inV x xs)) H
  | _=>False
 | _,_=>False
theorem c7c:OpR X (A3 .In) (qIn false):=(b8I.or b1G).imp fun x y H Q h=>by
 unfold qIn at h
 split at h
 ·exact .inl ⟨_,_,rfl,rfl,h⟩
 ·split at h
  ·exact .inr ⟨_,_,rfl,.inl (SqL.of (by assumption)),h.1,h.2.1,h.2.2⟩
  ·exact .inr ⟨_,_,rfl,.inr (SqT.of (by assumption)),h.1,h.2.1,h.2.2⟩
  ·exact h.elim
 ·exact h.elim
theorem b8G:OpR X (A3 .NotIn) (qIn true):=(b2V.or b2W).imp fun x y H Q h=>by
 unfold qIn at h
 split at h
 ·exact .inl ⟨_,_,rfl,rfl,h⟩
 ·split at h
  ·exact .inr ⟨_,_,rfl,.inl (SqL.of (by assumption)),h.1,h.2.1,h.2.2⟩
  ·exact .inr ⟨_,_,rfl,.inr (SqT.of (by assumption)),h.1,h.2.1,h.2.2⟩
  ·exact h.elim
 ·exact h.elim
def Z3:V->List V->Hp->VK->Prop:=fun x vs H Q=>match x,vs with
 | .ref l,[y]=>match H l with
  | some (.lst xs)=>xs.length<v6/\Q .non (upd H l (.lst (xs++[y])))
  | _=>False
 | _,_=>False
theorem b6y:MtR X "list.append" Z3:=fun pins s σ H x xs v us Q I rx rv h=>by
 refine a7S pins s σ H x xs v us Q I rx rv ?_
 unfold Z3 at h
 split at h
 ·split at h
  ·exact⟨_,_,_,rfl,rfl,by assumption,h.1,h.2⟩
  ·exact h.elim
 ·exact h.elim
def a3p:List V->Option (List Str)
 | []=>some []
 | .str s::r=>(a3p r).map (s :: ·)
 | _=>none
theorem b5J(ss:List Str):a3p (ss.map V.str)=some ss:=by
 induction ss with
 | nil=>rfl
 | cons s r ih=>simp[a3p,ih]
theorem a9B:∀ {xs:List V} {us:List Value} {ss:List Str},J3 xs us->a3p xs=some ss->StrsAre us ss
 | _,_,ss,.nil,e=>by cases e;exact .nil
 | x::xs,_,ss,.cons r t,e=>by
  cases x with
  | str s=>
   obtain⟨k,rfl⟩:=r
   cases e2:a3p xs with
   | none=>simp[a3p,e2]at e
   | some ss2=>
    simp[a3p,e2]at e
    subst e
    exact .cons _ _ (a9B t e2)
  | _=>simp[a3p]at e
def a9V:V->List V->Hp->VK->Prop:=fun x vs H Q=>match x,vs with
 | .str x,[.ref l]=>match H l with
  | some (.lst xs)=>∃ss,a3p xs=some ss/\(ss.map (·.length)).sum+ss.length * x.length<=16777216/\Q (.str (Txt.join x ss)) H
  | _=>False
 | _,_=>False
theorem c1V:MtR X "str.join" a9V:=fun pins s σ H x xs v us Q I rx rv h=>by
 unfold a9V at h
 split at h
 ·split at h
  ·obtain⟨ss,e,hk,q⟩:=h
   obtain⟨t,rfl⟩:=rx
   obtain⟨u,rfl,ru⟩:=rv.one
   cases ru
   obtain⟨its,r,p,hz⟩:=I.list (SqL.of (by assumption))
   exact join_list p.isList (a9B r e) hk fun t' k=>⟨.str _,H,I.tok _,⟨_,rfl⟩,q⟩
  ·exact h.elim
 ·exact h.elim
def a3n(x:V)(H:Hp):Option String:=match x with
 | .non=>some "NoneType"
 | .bl _=>some "bool"
 | .int _=>some "int"
 | .str _=>some "str"
 | .ref a=>match H a with
  | some (.lst _)=>some "list"
  | some (.tup _)=>some "tuple"
  | some (.dK _)=>some "dict"
  | some (.dT _)=>some "dict"
  | _=>none
 | _=>none
def b6G(t c:String):Bool:=t == c||(t == "bool" && c == "int")
def a7U:List String:=["int","bool","str","list","tuple","dict"]
theorem c2d(K:Fg):∀t ∈ "NoneType" :: a7U,∀c∈a7U,c4W K (.type t) (.type c)=some (b6G t c):=by
 intro t ht c hc
 simp only[a7U,q9,G5,or_false]at ht hc
 rcases ht with rfl | rfl | rfl | rfl | rfl | rfl | rfl <;> rcases hc with rfl | rfl | rfl | rfl | rfl | rfl <;> kernel_rfl
theorem c8v{K:Fg}{x:V}{t:String}(h:a3n x H=some t):a8c K H x (.type t)/\t ∈ "NoneType" :: a7U:=by
 unfold a3n at h
 split at h
 ·cases h;exact⟨.non,by decide⟩
 ·cases h;exact⟨.bl _,by decide⟩
 ·cases h;exact⟨.int _,by decide⟩
 ·cases h;exact⟨.str _,by decide⟩
 ·split at h
  ·cases h;exact⟨.lst (by assumption),by decide⟩
  ·cases h;exact⟨.tup (by assumption),by decide⟩
  ·cases h;exact⟨.dK (by assumption),by decide⟩
  ·cases h;exact⟨.dT (by assumption),by decide⟩
  ·cases h
 ·cases h
def a4g:List V->Hp->VK->Prop:=fun xs H Q=>match xs with
 | [x,.ty c]=>∃t,a3n x H=some t/\c∈a7U/\Q (.bl (b6G t c)) H
 | _=>False
theorem b9s:X0 X (.builtin "isinstance") a4g:=fun pins s σ H xs us Q I r h=>by
 unfold a4g at h
 split at h
 ·obtain⟨t,e,hc,q⟩:=h
  obtain⟨u,u2,rfl,ru,ru2⟩:=b7h r
  cases ru2
  obtain⟨ty,ht⟩:=c8v (K:=X.K) e
  exact b9c I ru ty (c2d X.K t ht _ hc) fun tk=>⟨.bl _,H,I.tok _,rfl,q⟩
 ·exact h.elim
def b8y:V->V->Hp->VK->Prop:=fun x y H Q=>match x,y with
 | .ref p,.int i=>match H p with
  | some (.lst xs)=>0<=i/\∃v,xs[i.toNat]? = some v/\Q v H
  | _=>False
 | _,_=>False
theorem c9r:c8a X b8y:=fun pins s σ H o i ov iv Q I r1 r2 h=>by
 unfold b8y at h
 split at h
 ·split at h
  ·obtain⟨h0,v,e,q⟩:=h
   cases r1
   obtain⟨t,rfl⟩:=r2
   obtain⟨its,r,pl,hz⟩:=I.list (SqL.of (by assumption))
   obtain⟨u,eu,ru⟩:=r.get e
   have hl:=(y4.mp e).1
   have hn:=a6s
   exact wpAny_getItem_list pl.isList h0 (by omega) (by simpa using eu) ⟨v,H,I,ru,q⟩
  ·exact h.elim
 ·exact h.elim
def qIs:R2:=fun x y H Q=>y=.non/\Q (.bl (decide (x=.non))) H
def b6c:R2:=fun x y H Q=>y=.non/\Q (.bl (!decide (x=.non))) H
theorem c7b:OpR X (A3 .Is) qIs:=c7i
theorem b8H:OpR X (A3 .IsNot) b6c:=c4h
structure F8(P:F3)(w:World)(K:Fg)(mg:Str->Option Value)(base:Heap)(k:Nat)(x:Str)(ps:List Str)(sp:Sp):Prop where
 ex:∃f fd,N5 P w K mg base CX0 k f fd ps sp/\mg x=some (.ref f)/\X2 K (.ref f)=true/\a4B K fd ps []
theorem c6J{k j:Nat}{x:Str}{e:Expr}{es:List Expr}{t:TA}{p:Pos}(C:F8 X.prog X.w X.K X.mg X.base k x ps sp)(hr:T3 j X.A)(hk:k<=j)(hg:Gl X x)(ha:PA X (e::es) t)
  (hdb:(x == ("__debug__" : Str))=false:=by decide) (he:i8 (e::es) X.env=(false,eval e X.env)::i8 es X.env:=by rfl) (hpl:(a0m pos (i8 es X.env)).any (·.1)=false:=by rfl) :
  PE X (.Call (.Name x p) (e::es) [] pos) (w6 sp [] E0 t):=by
 obtain⟨f,fd,F,hm,hkp,hb⟩:=C.ex
 exact c3Q F (hr.mono hk) hg hm hkp hb .nil c1C ha hdb he hpl
theorem b9o{P:F3}{K:Fg}{mg:Str->Option Value}{base:Heap}{k:Nat}{x q:Str}{st:Stmt}{f:Addr}{fd:a0w}(F:Fun K x q st f fd)(O:N5 P w K mg base CX0 k f fd ps sp)
  (hm:mg x=some (.ref f)) (hb:a4B K fd ps []):F8 P w K mg base k x ps sp:=⟨f,fd,O,hm,F.kp,hb⟩
def a2J:List V->Hp->VK->Prop:=fun xs H Q=>match xs with
 | [.ref p]=>match H p with
  | some (.lst ys)=>∀l,H l=none->Q (.ref l) (upd H l (.lst ys))
  | some (.tup ys)=>∀l,H l=none->Q (.ref l) (upd H l (.lst ys))
  | _=>False
 | _=>False
theorem b6S:X0 X (.type "list") a2J:=b3u.imp fun xs H Q h=>by
 unfold a2J at h
 split at h
 ·split at h
  ·exact⟨_,_,rfl,.inl (SqL.of (by assumption)),h⟩
  ·exact⟨_,_,rfl,.inr (SqT.of (by assumption)),h⟩
  ·exact h.elim
 ·exact h.elim
theorem b4e:∀ {kvs:List (Key×V)} {k:Key} {x:V},(kvs.map (·.1)).Nodup->(k,x)∈kvs->a0v kvs k=some x
 | [],_,_,_,h=>by cases h
 | (k0,x0)::r,k,x,nd,h=>by
  have nd':k0∉r.map (·.1)/\(r.map (·.1)).Nodup:=K5.mp nd
  unfold a0v
  rw[a0x]
  by_cases e:k0=k
  ·rw[show decide (((k0,x0):Key×V).1=k)=true from d1D e]
   rcases q9.mp h with z | z
   ·cases z;rfl
   ·exact absurd (D8.mpr ⟨_,z,e.symm⟩) nd'.1
  ·rw[show decide (((k0,x0):Key×V).1=k)=false from d1C e]
   rcases q9.mp h with z | z
   ·cases z;exact absurd rfl e
   ·exact b4e nd'.2 z
theorem c4E{A:L7}{kb:List (Key×Value)}{kvs:List (Key×V)}(r2:KV kvs kb)(nd:(kvs.map (·.1)).Nodup)(fl:kvs.all (fun p=>N4 p.2)=true) :
  ∀ {l:List (Key×V)} {la:List (Key×Value)},KV l la->(∀p∈l,p∈kvs)->PySem.W.KeqHits A s kb la true:=by
 intro l la r
 unfold KV at r
 induction r with
 | nil=>intro _;exact .nil
 | @cons p q l1 l2 h hr ih=>
  intro hm
  obtain⟨k,x⟩:=p
  obtain⟨k',v⟩:=q
  obtain⟨e,rv⟩:=h
  have e:k=k':=e
  subst e
  have mem:=hm (k,x) F5
  have rel:=r2.val k
  rw[b4e nd mem]at rel
  obtain⟨y,hy,ry⟩:=rel.some_of
  have fx:N4 x=true:=M6.mp fl _ mem
  have eq:SeqAt.EqAt A s v y (eqV x x):=b0v rv ry fx fx
  have ex:eqV x x=true:=by
   cases x with
   | non=>rfl
   | bl b=>simp[eqV]
   | int i=>simp[eqV]
   | str s=>simp[eqV]
   | byt b=>cases fx
   | flt b=>cases fx
   | ref a=>cases fx
   | ty n=>cases fx
  rw[ex]at eq
  exact PySem.W.KeqHits.hit (e:=true) (b:=true) hy eq (ih fun p hp=>hm p (D4 _ hp))
def a3c:List V->Hp->VK->Prop:=fun xs H Q=>match xs with
 | [.ref a]=>match H a with
  | some (.dK kvs)=>∀p,H p=none->Q (.ref p) (upd H p (.dK kvs))
  | _=>False
 | _=>False
theorem b6V:X0 X (.type "dict") a3c:=fun pins s σ H xs us Q I r h=>by
 unfold a3c at h
 split at h
 ·split at h
  ·obtain⟨u,rfl,ru⟩:=a4Q r
   cases ru
   exact c2u I (.inl (by assumption)) fun p s' hp I'=>⟨.ref p,_,I',rfl,h p hp⟩
  ·exact h.elim
 ·exact h.elim
def b6d:List V->Hp->VK->Prop:=fun xs H Q=>match xs with
 | [.int i]=>Q (.int i) H
 | [.bl k]=>Q (.int (if k then 1 else 0)) H
 | _=>False
theorem b9t:X0 X (.type "int") b6d:=b9z.imp fun xs H Q h=>by
 unfold b6d at h
 split at h
 ·exact .inl ⟨_,rfl,h⟩
 ·exact .inr ⟨_,rfl,h⟩
 ·exact h.elim
end
def Its(x:Str):It:=⟨fun i _=>i<x.length,fun i H v H'=>H'=H/\∃c,x.cps[i]? = some c/\v=.str ⟨#[c]⟩,fun i _=>x.length<=i⟩
theorem c0m{P:F3}{K:Fg}{tg:Expr}(x:Str)(t:Tok)(it:Addr):b5m P w K tg (Its x) [it] it (fun i h=>h.IsStrIter it (a3l x) x t i) where
 mem:=by simp
 obj:=fun i h st b hb=>by
  have e:b=it:=by simpa using hb
  subst e
  obtain⟨o,e,c,d⟩:=st
  exact⟨o,e,fun v z=>by rw[d]at z;cases z⟩
 keep:=fun i h h' st k=>let⟨o,ho,r⟩:=st; ⟨o,k it (by simp) o ho,r⟩
 item:=by
  intro X hP hw hK hc i pins s σ H E I hf st hg
  subst hP hw hK
  have hi:i<x.cps.size:=hg
  obtain⟨f0,f1,f2,f3,f4,f5⟩:=hf it (by simp)
  have hx:x.cps[i]? = some x.cps[i]:=by simp[hi]
  have fin:∀h',h'.IsStrIter it (a3l x) x t (i+1)->Heap.SameBut it s.heap h'->∃u,some (Value.str ⟨#[x.cps[i]]⟩ s.toks)=some u /\
    wpAny (model X.prog X.w) X.A (a4G tg (.ref it) u) (fun _ s2=>∃v H',Inv X pins σ H' s2/\J1 v u/\(Its x).yld i H v H'/\s2.heap.IsStrIter it (a3l x) x t (i+1)/\∀b∈[it],H' b=none) E { s with heap:=h',toks:=s.toks+1 }:=by
   intro h' st' sb
   have I1:Inv X pins σ H { s with heap:=h',toks:=s.toks+1 }:=I.turned (t':=s.toks+1) (fun b o hb e=>(sb.2 b hb).trans e) f0 f1 f3 f4 f5
   obtain⟨o,e,c,d⟩:=id st'
   refine⟨_,rfl,c2k (s:={ s with heap:=h',toks:=s.toks+1 }) e c d ?_ ⟨.str ⟨#[x.cps[i]]⟩,H,I1,⟨_,rfl⟩,⟨rfl,_,hx,rfl⟩,st',fun b hb=>(hf b hb).1⟩⟩
   unfold a3l
   split <;> decide
  unfold a3l at st fin ⊢
  split at st
  ·rename_i ha
   simp only[ha]at fin ⊢
   exact wpAny_pyNext_ascii_item st hx fun h' st' sb=>fin h' st' sb
  ·rename_i ha
   simp only[ha]at fin ⊢
   exact wpAny_pyNext_wide_item st hx fun h' st' sb=>fin h' st' sb
 done:=by
  intro X hP hw hK hc i pins s σ H E I hf st hg
  subst hP hw hK
  have hi:x.cps.size<=i:=hg
  obtain⟨f0,f1,f2,f3,f4,f5⟩:=hf it (by simp)
  have hx:x.cps[i]? = none:=by simp[hi]
  unfold a3l at st
  split at st
  ·exact wpAny_pyNext_ascii_end (I.ok.hd hc) st hx fun h' eb=>⟨rfl,I.turned (t':=s.toks) (fun b o hb e=>eb b o hb e) f0 f1 f3 f4 f5⟩
  ·exact wpAny_pyNext_wide_end (I.ok.hd hc) st hx fun h' eb=>⟨rfl,I.turned (t':=s.toks) (fun b o hb e=>eb b o hb e) f0 f1 f3 f4 f5⟩
 self:=fun _ _ _ _ _ st h=>by
  unfold a3l at st
  split at st
  ·exact wpAny_pyIter_striter_ascii st h
  ·exact wpAny_pyIter_striter_wide st h
def c4D(tl:TE):TI:=fun σ H R=>tl σ H fun v H1=>∃x,v=.str x/\R (Its x) H1
section
variable {tg:Expr}
theorem c6E{l:Expr}{tl:TE}(hl:PE X l tl):PI X tg l (c4D tl):=by
 intro pins s σ H R I h
 refine thn (hl pins s σ H _ I h) fun v s1 ⟨y,H1,I1,r1,x,e,q1⟩=>?_
 subst e
 obtain⟨t,rfl⟩:=r1
 refine wpAny_pyIter_strU ?_
 have k:∀b u,s1.heap.get? b=some u->(s1.heap.push { cls:=.type (a3l x),data:=.fields #[.str x t,.int 0 0] }).get? b=some u:=fun b u q=>i9 _ q
 refine⟨s1.heap.objs.size,[s1.heap.objs.size],_,Its x,H1,rfl,I1.kept (t':=s1.toks) k,c0m x t _,⟨_,F2 _ rfl,rfl,rfl⟩,fun b hb=>?_,q1⟩
 have e:b=s1.heap.objs.size:=by simpa using hb
 subst e
 exact I1.fpOk (o5 _) I1.fresh
def Y5:List V->Option (List Bool)
 | []=>some []
 | .bl b::r=>(Y5 r).map (b :: ·)
 | _=>none
theorem a7Z:∀ {xs:List V} {bs:List Bool} {i:Nat} {x:V},Y5 xs=some bs->xs[i]? = some x->∃b,bs[i]? = some b/\x=.bl b
 | [],_,_,_,_,h=>by simp at h
 | y::r,bs,i,x,e,h=>by
  cases y with
  | bl b=>
   cases e2:Y5 r with
   | none=>simp[Y5,e2]at e
   | some bs2=>
    simp[Y5,e2]at e
    subst e
    cases i with
    | zero=>simp at h;exact⟨b,rfl,h.symm⟩
    | succ i=>
     obtain⟨b',h1,h2⟩:=a7Z (i:=i) e2 (by simpa using h)
     exact⟨b',by simpa using h1,h2⟩
  | _=>simp[Y5]at e
theorem a7Y:∀ {xs:List V} {bs:List Bool},Y5 xs=some bs->xs.length=bs.length
 | [],_,e=>by cases e;rfl
 | y::r,bs,e=>by
  cases y with
  | bl b=>
   cases e2:Y5 r with
   | none=>simp[Y5,e2]at e
   | some bs2=>
    simp[Y5,e2]at e
    subst e
    simp[a7Y e2]
  | _=>simp[Y5]at e
theorem b9B(bs:List Bool):((L4 bs.length).all fun i=>(bs[i]?).getD true)=bs.all id:=by
 rw[a1G,M6,M6]
 constructor
 ·intro h b hb
  obtain⟨i,hi,rfl⟩:=List.mem_iff_getElem.mp hb
  have:=h i (by simpa using hi)
  simpa[hi]using this
 ·intro h i hi
  have hl:i<bs.length:=by simpa using hi
  have:=h bs[i] (J5 _)
  simpa[hl]using this
def b2H:List V->Hp->VK->Prop:=fun vs H Q=>match vs with
 | [.ref l]=>match H l with
  | some (.lst xs)=>∃bs,Y5 xs=some bs/\Q (.bl (bs.all id)) H
  | _=>False
 | _=>False
theorem b9v(hc:X.calm=true):X0 X (.builtin "all") b2H:=fun pins s σ H xs us Q I r h=>by
 unfold b2H at h
 split at h
 ·split at h
  ·rename_i l _ ys hl
   obtain⟨bs,e,q⟩:=h
   obtain⟨u,rfl,ru⟩:=a4Q r
   cases ru
   obtain⟨its,rv,pl,hz⟩:=I.list (SqL.of hl)
   have hlt:l<s.heap.objs.size:=by obtain⟨_,e,_⟩:=pl.isList;exact o9 e
   have hlen:=rv.length
   have hbl:=a7Y e
   refine call_all_walk (b5z pl.isList ?_)
   refine⟨s.heap.objs.size,[s.heap.objs.size,l],[s.heap.objs.size],its.toArray.size,_,_,fun i=>(bs[i]?).getD true,rfl,Walks.list (A:=X.A.in1) (I.ok.hd hc) _ l (C4 hlt) its.toArray,
    ⟨⟨_,F2 _ rfl,rfl,rfl⟩,pl.isList.push _⟩,fun i v s' Q' E' hP hQ=>?_,fun h' tk hk=>?_⟩
   ·have hP:its[i]? = some v:=by simpa using hP
    have hi:i<ys.length:=by rw[hlen];exact(y4.mp hP).1
    have ey:ys[i]? = some ys[i]:=by simp[hi]
    obtain⟨b,eb,ez⟩:=a7Z e ey
    obtain⟨u,eu,ru⟩:=rv.get ey
    rw[hP]at eu
    cases eu
    rw[ez]at ru
    cases ru
    simp only[eb,a4C]at hQ
    exact N6 hQ
   ·have e2:((L4 its.toArray.size).all fun i=>(bs[i]?).getD true)=bs.all id:=by
     rw[t9,<-hlen,hbl]
     exact b9B bs
    rw[e2]
    exact⟨.bl _,H,I.kept (t':=tk) fun b x e=>hk b x (fun hm=>by rw[z9.mp hm]at e;exact M7 _ (o9 e)) (i9 _ e),rfl,q⟩
  ·exact h.elim
 ·exact h.elim
end
section
theorem Inv.turnedL{h':Heap}{t':Nat}(I:Inv X pins σ H s)(k:∀b o,b∉fp->s.heap.get? b=some o->h'.get? b=some o)(hf:∀b∈fp,a5L X pins H b) :
  Inv X pins σ H { s with heap:=h',toks:=t' }:=by
 have nit:∀b u,H b=some u->b∉fp:=fun b u e z=>by rw[(hf b z).1]at e;cases e
 refine I.step (g':=s.gens) (d':=s.drawn) (ch:=fp) (fun b hb=>?_) (fun b o _ _ hc e _=>k b o hc e) (fun b o _ _ hc e _=>⟨o.slots,k b o hc e⟩) (fun _ _ _ _ n=>n)
  (fun b o hc e=>⟨o,k b o hc e⟩) (fun _ _ e=>e) (fun _ _ _ e=>e) (fun b ps e=>⟨#[],by rw[e];simp⟩) (fun m hm=>?_) (fun b u e=>?_) I.bare
 ·obtain⟨_,f1,_,f3,f4,f5⟩:=hf b hb
  exact⟨f3,f1,f4,f5⟩
 ·obtain⟨o,es,ep,ho,r⟩:=hm
  exact⟨o,es,ep,k _ o (fun z=>(hf _ z).2.1 rfl) ho,r⟩
 ·refine(I.hok b u e).stay (fun c v hc q=>k c v ?_ q) (fun _ q=>q) fun _ _ q=>q
  rcases hc with z | z
  ·rw[z];exact nit b u e
  ·exact nit c _ z
theorem Inv.pairL{h':Heap}{t':Nat}{x y:V}{v:Value}(I:Inv X pins σ H s)(hf:∀b∈fp,a5L X pins H b)(fl:∀b∈fp,b≠s.heap.objs.size)
  (rx:J1 x u) (ry:J1 y v) (ht:h'.get? s.heap.objs.size=some { cls:=.type "tuple",data:=.seq #[u,v] }) (k:∀b o,b∉fp->s.heap.get? b=some o->h'.get? b=some o) :
  Inv X pins σ (upd H s.heap.objs.size (.tup [x,y])) { s with heap:=h',toks:=t' }:=by
 have I1:Inv X pins σ (upd H s.heap.objs.size (.tup [x,y])) { s with heap:=s.heap.push { cls:=.type "tuple",data:=.seq #[u,v] },toks:=s.toks }:=
  I.laid (fun b u e=>i9 _ e) (o5 _) ⟨by show 2<=v6;decide,[u,v],.cons rx (.cons ry .nil),⟨_,F2 _ rfl,rfl,_,rfl⟩⟩
 refine Inv.turnedL (s:={ s with heap:=s.heap.push { cls:=.type "tuple",data:=.seq #[u,v] },toks:=s.toks }) (fp:=fp) I1 (fun b o hb e=>?_) fun b hb=>⟨by rw[o4 (fl b hb)];exact(hf b hb).1,(hf b hb).2⟩
 by_cases hz:b=s.heap.objs.size
 ·subst hz
  have e2:=F2 s.heap (o:={ cls:=.type "tuple",data:=.seq #[u,v] }) rfl
  rw[show(s.heap.push { cls:=.type "tuple",data:=.seq #[u,v] }).get? s.heap.objs.size=some o from e]at e2
  cases e2
  exact ht
 ·refine k b o hb ?_
  have e:(s.heap.push { cls:=.type "tuple",data:=.seq #[u,v] }).get? b=some o:=e
  rwa [Heap.get?_push_ne _ _ _ hz]at e
def Ite(K:Fg)(a:Addr):It:=
 ⟨fun i H=>∃xs x,SqL K H a xs/\xs[i]? = some x,fun i H v H'=>∃p x,H p=none/\v=.ref p/\H'=upd H p (.tup [.int i,x])/\∀xs,SqL K H a xs->xs[i]? = some x,fun i H=>∃xs,SqL K H a xs/\xs.length<=i⟩
theorem b8h{P:F3}{K:Fg}{x1}(a e it:Addr)(hne:e≠it):b5m P w K (.Tuple elts x1 tp) (Ite K a) [e,it] e (fun i h=>(∃old,IsEnum h e it i old)/\h.IsListIter it a i) where
 mem:=by simp
 obj:=fun i h st b hb=>by
  obtain⟨⟨old,he⟩,o,e1,c,d⟩:=st
  rcases q9.mp hb with rfl | hb
  ·exact⟨_,he,fun v z=>by
    have z':Data.fields _=Data.cell v:=z
    cases z'⟩
  ·have:b=it:=by simpa using hb
   subst this
   exact⟨o,e1,fun v z=>by rw[d]at z;cases z⟩
 keep:=fun i h h' st k=>by
  obtain⟨⟨old,he⟩,hi⟩:=st
  exact⟨⟨old,k e (by simp) _ he⟩,hi.at fun o q=>k it (by simp) o q⟩
 item:=by
  intro X hP hw hK hc i pins s σ H E I hf st hg
  subst hP hw hK
  obtain⟨⟨old,he⟩,hit⟩:=st
  obtain⟨xs,x,hq,hx⟩:=hg
  obtain⟨its,rv,p,hz⟩:=I.list hq
  obtain⟨u,hu,ru⟩:=rv.get hx
  refine wpAny_pyNext_enum_item he hit p.isList (x:=u) (by simpa using hu) hne fun h1 ho hit1 hT hsz hk=>?_
  refine⟨_,rfl,?_⟩
  refine wpAny_letOwnedTupleGo_enum (s:={ s with heap:=h1,toks:=s.toks+1 }) ho fun h2 he2 hs2=>?_
  have hs2:Heap.SameBut e h1 h2:=hs2
  have le:e≠s.heap.objs.size:=C4 (o9 he)
  have li:it≠s.heap.objs.size:=by obtain⟨_,q,_⟩:=hit;exact C4 (o9 q)
  have fl:∀b∈[e,it],b≠s.heap.objs.size:=fun b hb=>by
   rcases q9.mp hb with rfl | hb
   ·exact le
   ·have:b=it:=by simpa using hb
    subst this;exact li
  have I2:=I.pairL (h':=h2) (t':=s.toks+1) (x:=.int i) (y:=x) (u:=.int i s.toks) (v:=u) hf fl ⟨_,rfl⟩ ru ((hs2.2 _ (Ne.symm le)).trans hT) fun b o hb q=>by
   have n1:b≠e:=fun z=>hb (by simp[z])
   have n2:b≠it:=fun z=>hb (by simp[z])
   exact(hs2.2 b n1).trans (hk b o n1 n2 q)
  refine⟨.ref s.heap.objs.size,_,I2,rfl,⟨_,x,I.fresh,rfl,rfl,fun ys hy=>by rw[I.list_inj hy hq];exact hx⟩,⟨⟨u,by simpa using he2⟩,hit1.at fun o q=>(hs2.2 it (Ne.symm hne)).trans q⟩,fun b hb=>?_⟩
  rw[o4 (fl b hb)];exact(hf b hb).1
 done:=by
  intro X hP hw hK hc i pins s σ H E I hf st hg
  subst hP hw hK
  obtain⟨⟨old,he⟩,hit⟩:=st
  obtain⟨xs,hq,hx⟩:=hg
  obtain⟨its,rv,p,hz⟩:=I.list hq
  obtain⟨f0,f1,f2,f3,f4,f5⟩:=hf it (by simp)
  have hl:=rv.length
  exact wpAny_pyNext_enum_end (I.ok.hd hc) he hit p.isList (by simp;omega) fun h' eb=>⟨rfl,I.turned (t':=s.toks) (fun b o hb e=>eb b o hb e) f0 f1 f3 f4 f5⟩
 self:=fun _ _ _ _ _ st h=>by
  obtain⟨⟨old,he⟩,_⟩:=st
  exact wpAny_pyIter_enum he h
def a8z(K:Fg)(ta:TA):TI:=fun σ H R=>ta σ H fun vs H1=>∃a,vs=[.ref a]/\(∃xs,SqL K H1 a xs)/\R (Ite K a) H1
theorem c3J{x1}{a:Expr}{ta:TA}(hg:Gl X "enumerate")(hm:X.mg "enumerate" = none)(ha:PA X [a] ta)(hs:i8 [a] X.env=[(false,eval a X.env)]:=by rfl) :
  PI X (.Tuple elts x1 tp) (.Call (.Name "enumerate" p) [a] [] pos) (a8z X.K ta):=by
 intro pins s σ H R I h
 refine Call_ (a5f I hg hm boot_enumerate (Q0 (thn (ha pos pins s σ H _ I h) fun us s1 ⟨vs,H1,I1,r1,q1⟩=>?_) hs rfl))
 obtain⟨b,e,⟨xs,hq⟩,q⟩:=q1
 subst e
 cases r1 with
 | cons r rr=>
  cases rr
  cases r
  obtain⟨its,rv,pl,hz⟩:=I1.list hq
  refine call_enumerate_list pl.isList fun h' he hit hsz hk=>?_
  have I2:Inv X pins σ H1 { s1 with heap:=h' }:=I1.kept (t':=s1.toks) hk
  refine wpAny_pyIter_enum he ⟨_,[s1.heap.objs.size+1,s1.heap.objs.size],_,_,H1,rfl,I2,b8h b (s1.heap.objs.size+1) s1.heap.objs.size (Nat.succ_ne_self _),⟨⟨_,he⟩,hit⟩,fun c hc=>?_,q⟩
  rcases q9.mp hc with rfl | hc
  ·exact I1.fpOk (by omega) (I1.hok.fresh (by omega))
  ·have:c=s1.heap.objs.size:=by simpa using hc
   subst this
   exact I1.fpOk (o5 _) (I1.hok.fresh (o5 _))
def Itz(K:Fg)(a b:Addr):It:=
 ⟨fun i H=>∃xs ys x y,SqL K H a xs/\SqL K H b ys/\xs[i]? = some x/\ys[i]? = some y,fun i H v H'=>∃p x y,H p=none/\v=.ref p/\H'=upd H p (.tup [x,y])/\(∀xs,SqL K H a xs->xs[i]? = some x)/\∀ys,SqL K H b ys->ys[i]? = some y,
  fun i H=>∃xs ys,SqL K H a xs/\SqL K H b ys/\(xs.length<=i\/ys.length<=i)⟩
theorem V4{h:Heap}{a b:Addr}{o o':Obj}(h1:h.get? a=some o)(h2:h.get? b=some o')(hc:o.cls≠o'.cls):a≠b:=fun z=>by
 subst z;rw[h1]at h2;cases h2;exact hc rfl
theorem c0l{P:F3}{K:Fg}{x1}(a b z TI TO i1 i2:Addr)(n1:TI≠z)(n2:TO≠z)(n3:i1≠z)(n4:i2≠z)(n5:TI≠TO)(n6:TI≠i1)(n7:TI≠i2)(n8:TO≠i1)(n9:TO≠i2)(n10:i1≠i2) :
  b5m P w K (.Tuple elts x1 tp) (Itz K a b) [z,TI,TO,i1,i2] z (fun i h=>IsZip h z TI TO .none/\IsPair h TI (.ref i1) (.ref i2)/\(∃u v,IsPair h TO u v)/\h.IsListIter i1 a i/\h.IsListIter i2 b i) where
 mem:=by simp
 obj:=fun i h st c hb=>by
  obtain⟨hz,hTI,⟨u,v,hTO⟩,⟨o1,e1,c1,d1⟩,⟨o2,e2,c2,d2⟩⟩:=st
  simp only[q9,G5,or_false]at hb
  rcases hb with rfl | rfl | rfl | rfl | rfl
  ·exact⟨_,hz,fun v z=>by
    have z':Data.fields _=Data.cell v:=z
    cases z'⟩
  ·exact⟨_,hTI,fun v z=>by
    have z':Data.seq _ _=Data.cell v:=z
    cases z'⟩
  ·exact⟨_,hTO,fun v z=>by
    have z':Data.seq _ _=Data.cell v:=z
    cases z'⟩
  ·exact⟨o1,e1,fun v z=>by rw[d1]at z;cases z⟩
  ·exact⟨o2,e2,fun v z=>by rw[d2]at z;cases z⟩
 keep:=fun i h h' st k=>by
  obtain⟨hz,hTI,⟨u,v,hTO⟩,h1,h2⟩:=st
  exact⟨k z (by simp) _ hz,k TI (by simp) _ hTI,⟨u,v,k TO (by simp) _ hTO⟩,h1.at fun o q=>k i1 (by simp) o q,h2.at fun o q=>k i2 (by simp) o q⟩
 item:=by
  intro X hP hw hK hc i pins s σ H E I hf st hg
  subst hP hw hK
  obtain⟨hz,hTI,⟨u,v,hTO⟩,h1,h2⟩:=st
  obtain⟨xs,ys,x,y,hqa,hqb,hx,hy⟩:=hg
  obtain⟨ia,ra,pa,za⟩:=I.list hqa
  obtain⟨ib,rb,pb,zb⟩:=I.list hqb
  obtain⟨ux,hux,rux⟩:=ra.get hx
  obtain⟨uy,huy,ruy⟩:=rb.get hy
  obtain⟨oa,la,ca,_⟩:=id pa.isList
  obtain⟨ob,lb,cb,_⟩:=id pb.isList
  obtain⟨o1,e1,c1,_⟩:=id h1
  obtain⟨o2,e2,c2,_⟩:=id h2
  have D:ZipApart z TI TO i1 i2 a b:=⟨n1,n2,n3,n4,n5,n6,n7,n8,n9,n10,
   V4 la hz (by rw[ca];intro z;injection z with z;revert z;decide),V4 la hTO (by rw[ca];intro z;injection z with z;revert z;decide),V4 la e1 (by rw[ca,c1];intro z;injection z with z;revert z;decide),V4 la e2 (by rw[ca,c2];intro z;injection z with z;revert z;decide),
   V4 lb hz (by rw[cb];intro z;injection z with z;revert z;decide),V4 lb hTO (by rw[cb];intro z;injection z with z;revert z;decide),V4 lb e1 (by rw[cb,c1];intro z;injection z with z;revert z;decide),V4 lb e2 (by rw[cb,c2];intro z;injection z with z;revert z;decide)⟩
  refine wpAny_pyNext_zip_item D hz hTI hTO h1 h2 pa.isList pb.isList (x:=ux) (y:=uy) (by simpa using hux) (by simpa using huy) fun h3 a1 a2 a3 a4 a5 a6 hk=>?_
  refine⟨_,rfl,?_⟩
  refine wpAny_letOwnedTupleGo_zip (s:={ s with heap:=h3 }) a1 fun h4 hz4 hs4=>?_
  have hs4:Heap.SameBut z h3 h4:=hs4
  have lz:z≠s.heap.objs.size:=C4 (o9 hz)
  have fl:∀c∈[z,TI,TO,i1,i2],c≠s.heap.objs.size:=fun c hc=>by
   simp only[q9,G5,or_false]at hc
   rcases hc with rfl | rfl | rfl | rfl | rfl
   ·exact lz
   ·exact C4 (o9 hTI)
   ·exact C4 (o9 hTO)
   ·exact C4 (o9 e1)
   ·exact C4 (o9 e2)
  have I2:=I.pairL (h':=h4) (t':=s.toks) (x:=x) (y:=y) (u:=ux) (v:=uy) hf fl rux ruy ((hs4.2 _ (Ne.symm lz)).trans a5) fun c o hc q=>by
   have m1:c≠z:=fun z=>hc (by simp[z])
   have m3:c≠TO:=fun z=>hc (by simp[z])
   have m4:c≠i1:=fun z=>hc (by simp[z])
   have m5:c≠i2:=fun z=>hc (by simp[z])
   exact(hs4.2 c m1).trans (hk c o m1 m3 m4 m5 q)
  refine⟨.ref s.heap.objs.size,_,I2,rfl,⟨_,x,y,I.fresh,rfl,rfl,fun zs hy=>by rw[I.list_inj hy hqa];exact hx,fun zs hy'=>by rw[I.list_inj hy' hqb];exact hy⟩,
   ⟨hz4,hs4.extBut _ _ n1 (hk _ _ n1 n5 n6 n7 hTI),⟨_,_,hs4.extBut _ _ n2 a2⟩,a3.extBut hs4.extBut n3,a4.extBut hs4.extBut n4⟩,fun c hc=>?_⟩
  rw[o4 (fl c hc)];exact(hf c hc).1
 done:=by
  intro X hP hw hK hc i pins s σ H E I hf st hg
  subst hP hw hK
  obtain⟨hz,hTI,⟨u,v,hTO⟩,h1,h2⟩:=st
  obtain⟨xs,ys,hqa,hqb,hx⟩:=hg
  obtain⟨ia,ra,pa,za⟩:=I.list hqa
  obtain⟨ib,rb,pb,zb⟩:=I.list hqb
  obtain⟨oa,la,ca,_⟩:=id pa.isList
  obtain⟨ob,lb,cb,_⟩:=id pb.isList
  obtain⟨o1,e1,c1,_⟩:=id h1
  obtain⟨o2,e2,c2,_⟩:=id h2
  have D:ZipApart z TI TO i1 i2 a b:=⟨n1,n2,n3,n4,n5,n6,n7,n8,n9,n10,
   V4 la hz (by rw[ca];intro z;injection z with z;revert z;decide),V4 la hTO (by rw[ca];intro z;injection z with z;revert z;decide),V4 la e1 (by rw[ca,c1];intro z;injection z with z;revert z;decide),V4 la e2 (by rw[ca,c2];intro z;injection z with z;revert z;decide),
   V4 lb hz (by rw[cb];intro z;injection z with z;revert z;decide),V4 lb hTO (by rw[cb];intro z;injection z with z;revert z;decide),V4 lb e1 (by rw[cb,c1];intro z;injection z with z;revert z;decide),V4 lb e2 (by rw[cb,c2];intro z;injection z with z;revert z;decide)⟩
  have la':=ra.length
  have lb':=rb.length
  have hend:ia.toArray[i]? = none\/ib.toArray[i]? = none:=by
   rcases hx with hx | hx
   ·left;simp;omega
   ·right;simp;omega
  refine wpAny_pyNext_zip_end (I.ok.hd hc) D hz hTI hTO h1 h2 pa.isList pb.isList hend fun h' hk=>⟨rfl,?_⟩
  refine I.turnedL (t':=s.toks) (fp:=[z,TI,TO,i1,i2]) (fun c o hc q=>?_) hf
  exact hk c o (fun z=>hc (by simp[z])) (fun z=>hc (by simp[z])) (fun z=>hc (by simp[z])) (fun z=>hc (by simp[z])) q
 self:=fun _ _ _ _ _ st h=>wpAny_pyIter_zip st.1 h
def c4C(K:Fg)(ta:TA):TI:=fun σ H R=>ta σ H fun vs H1=>∃a b,vs=[.ref a,.ref b]/\(∃xs,SqL K H1 a xs)/\(∃xs,SqL K H1 b xs)/\R (Itz K a b) H1
theorem c6D{x1}{a b:Expr}{ta:TA}(hg:Gl X "zip")(hm:X.mg "zip" = none)(ha:PA X [a,b] ta)(hs:i8 [a,b] X.env=[(false,eval a X.env),(false,eval b X.env)]:=by rfl)(hs2:i8 [b] X.env=[(false,eval b X.env)]:=by rfl) :
  PI X (.Tuple elts x1 tp) (.Call (.Name "zip" p) [a,b] [] pos) (c4C X.K ta):=by
 intro pins s σ H R I h
 refine Call_ (a5f I hg hm boot_zip (Q0 (thn (ha pos pins s σ H _ I h) fun us s1 ⟨vs,H1,I1,r1,q1⟩=>?_) (by rw[hs,hs2]) (by rw[hs2];rfl)))
 obtain⟨c,d,e,⟨xs,hq⟩,⟨ys,hq'⟩,q⟩:=q1
 subst e
 cases r1 with
 | cons r rr=>
  cases rr with
  | cons r' rr=>
   cases rr
   cases r
   cases r'
   obtain⟨ia,ra,pa,za⟩:=I1.list hq
   obtain⟨ib,rb,pb,zb⟩:=I1.list hq'
   refine call_zip_2 pa.isList pb.isList fun h' hz hTI hTO h1 h2 hsz hk=>?_
   have I2:Inv X pins σ H1 { s1 with heap:=h' }:=I1.kept (t':=s1.toks) hk
   have N:∀n:Nat,n+2≠n+4/\n+3≠n+4/\n≠n+4/\n+1≠n+4/\n+2≠n+3/\n+2≠n/\n+2≠n+1/\n+3≠n/\n+3≠n+1/\n≠n+1:=fun n=>by omega
   obtain⟨m1,m2,m3,m4,m5,m6,m7,m8,m9,m10⟩:=N s1.heap.objs.size
   refine wpAny_pyIter_zip hz ⟨_,[s1.heap.objs.size+4,s1.heap.objs.size+2,s1.heap.objs.size+3,s1.heap.objs.size,s1.heap.objs.size+1],_,_,H1,rfl,I2,
    c0l c d (s1.heap.objs.size+4) (s1.heap.objs.size+2) (s1.heap.objs.size+3) s1.heap.objs.size (s1.heap.objs.size+1) m1 m2 m3 m4 m5 m6 m7 m8 m9 m10,⟨hz,hTI,⟨_,_,hTO⟩,h1,h2⟩,fun y hy=>?_,q⟩
   have:s1.heap.objs.size<=y:=by
    simp only[q9,G5,or_false]at hy
    rcases hy with rfl | rfl | rfl | rfl | rfl
    ·exact a5q _ _
    ·exact a5q _ _
    ·exact a5q _ _
    ·exact o5 _
    ·exact a5q _ _
   exact I1.fpOk this (I1.hok.fresh this)
end
def b3l(x y:Str)(N:List Str):List Str:=N.map fun z=>if z=x then ("." : Str)++x else if z=y then ("." : Str)++y else z
def V9(X:Cx)(scope:Scope)(cl:List (Str×Addr))(C:Addr)(x y:Str)(fp:List Addr)(s3:o0)(H3:Hp):Cx:=
 { X with N:=x::y::b3l x y X.N,s₀:=s3,H₀:=H3,env:=b9K scope cl C X.env,outer:=X.stack,stack:=X.stack,ex:=fp,fn:=fun _=>false,pn:=[],xe:=fun _ _=>False }
structure a4s(N:List Str)(osc sc:Scope)(x y:Str):Prop where
 kind:sc.kind=.function
 cell:∀y∈sc.names,y.2≠.cell
 names:∀y∈sc.names,y.2=.local->sc.names.lookup y.1=some .local
 own:sc.names.lookup x=some .local
 own2:sc.names.lookup y=some .local
 fr:∀y∈sc.names,y.2=.free->osc.names.lookup y.1=some .cell\/osc.names.lookup y.1=some .free
 see:∀z∈b3l x y N,sc.names.lookup z≠some .local
 dot:sc.names.lookup (("." : Str)++x)=none
 dot2:sc.names.lookup (("." : Str)++y)=none
 nd:(x::y::b3l x y N).Nodup
def a9A(K:Fg)(wi:TI)(tt:TT)(te:TE):TE:=fun σ H Q=>wi σ H fun J H1=>∀D,H1 D=none->∃W:Nat->Nat->List V->Hp->Prop,
 (∃m,W 0 m [] (upd H1 D (.lst [])))/\∀i m ys H2,W i m ys H2->H2 D=some (.lst ys) /\
  ((J.stop i H2 /\ Q (.ref D) H2) \/ (J.go i H2 /\ ∀ x H3,J.yld i H2 x H3 -> ∃ a u v,x = .ref a /\ SqT K H3 a [u,v] /\ tt (some u :: some v :: σ) H3 fun ok H4 => if ok = true then
    te (some u::some v::σ) H4 (fun y H5=>H5 D=some (.lst ys)/\ys.length<v6/\∃m',m'<m/\W (i+1) m' (ys++[y]) (upd H5 D (.lst (ys++[y]))))
    else ∃m',m'<m/\W (i+1) m' ys H4))
section
variable {x x2:Str}{px py2 pt:Pos}{kt}
theorem b9k{s3:o0}{h4:Heap}{tk:Nat}(hc:a4s X.N X.env.scope scope x x2)(I:Inv X pins σ H s3)
  (hcl:∀y c,cl.lookup y=some c->X.env.cells.lookup y=some c) (hcl2:∀y,(y,NameKind.free)∈scope.names->(cl.lookup y).isSome=true)
  (fpo:∀b∈fp,a5L X pins H b) (fpl:∀b∈fp,b<s3.heap.objs.size)
  (hn:h4.Ns s3.heap.objs.size (fun _=>none)) (k:∀b o,s3.heap.get? b=some o->h4.get? b=some o) :
  Inv (V9 X scope cl s3.heap.objs.size x x2 fp s3 H) [] (none::none::σ) H { s3 with heap:=h4,toks:=tk }:=by
 have low:∀x y,(V9 X scope cl s3.heap.objs.size x x2 fp s3 H).env.cells.lookup y=cl.lookup y:=fun _ _=>rfl
 have below:∀y c,cl.lookup y=some c->c<s3.heap.objs.size:=fun y c e=>by
  obtain⟨v,q⟩:=I.cell y c (hcl y c e)
  exact q.lt
 have kinds:∀y,((V9 X scope cl s3.heap.objs.size x x2 fp s3 H).env.kindOf y=some .cell\/(V9 X scope cl s3.heap.objs.size x x2 fp s3 H).env.kindOf y=some .free)->scope.names.lookup y=some .free:=by
  intro y hy
  rcases hy with hy | hy
  ·rcases R4 hy with q | ⟨q,_⟩
   ·exact absurd rfl (hc.cell _ (F1 q))
   ·exact q
  ·rcases R4 hy with q | ⟨q,z⟩
   ·exact q
   ·cases z
 refine⟨⟨I.ok.mod,?_,I.ok.glob,I.ok.blt,o5 _,fun y z c h1 h2=>?_,fun y hy=>?_,fun y c h=>?_,I.ok.hd,I.ok.frames,.inl rfl,fun b hb=>⟨?_,fun y c e z=>?_⟩,fun b o e=>I.bs b o e,J8 I.ok.bsz I.sz,fun b o e hb=>?_,fun b hb hf=>?_,I.stack,I.stkFree⟩,
  rfl,I.bare,Un.kept k,⟨_,hn,fun i y v h1 h2 h3=>?_⟩,fun y c e=>?_,I.fresh,fun y c e=>?_,fun p hp=>absurd (show p∈([]:List (Addr×Obj))from hp) (by simp),I.hok.kept k,?_⟩
 ·exact hc.kind
 ·exact I.ok.inj y z c (hcl _ _ h1) (hcl _ _ h2)
 ·have:=hcl2 y (F1 (kinds y hy))
  exact Z4.mp this
 ·cases h
 ·exact C4 (fpl b hb)
 ·exact(fpo b hb).2.2.2.2.1 y c (hcl y c e) z
 ·rcases(fpo b hb).2.2.2.1 with q | q
  ·exact I.ok.noex b o e q
  ·exact absurd (E6 (o9 (I.ok.bs b o e).1) q) (M7 _)
 ·rcases q9.mp (I.stkSub b hf)with e | e
  ·exact(fpo b hb).2.1 e
  ·exact(fpo b hb).2.2.1 e
 ·-- the names
  have h1:(x::x2::b3l x x2 X.N)[i]? = some y:=h1
  cases i with
  | zero=>cases h2
  | succ i=>
   cases i with
   | zero=>cases h2
   | succ i=>
   have h1:(b3l x x2 X.N)[i]? = some y:=h1
   have h2:σ[i]? = some (some v):=h2
   have my:y∈b3l x x2 X.N:=a0Q h1
   have h3:(a7w scope X.env).names.lookup y=some .local\/(a7w scope X.env).names.lookup y=some .cell\/(a7w scope X.env).names.lookup y=some .free:=h3
   have hf:scope.names.lookup y=some .free:=by
    rcases h3 with q | q
    ·rcases R4 q with q | ⟨_,z⟩
     ·exact absurd q (hc.see y my)
     ·cases z
    ·exact kinds y q
   have hy:X.N[i]? = some y:=by
    unfold b3l at h1
    rw[d8]at h1
    cases e:X.N[i]? with
    | none=>rw[e]at h1;cases h1
    | some z=>
     rw[e]at h1
     by_cases ez:z=x
     ·rw[a5p,if_pos ez]at h1
      have h1:=Option.some.inj h1
      subst h1
      rw[hc.dot]at hf
      cases hf
     ·rw[a5p,if_neg ez]at h1
      by_cases ez2:z=x2
      ·rw[if_pos ez2]at h1
       have h1:=Option.some.inj h1
       subst h1
       rw[hc.dot2]at hf
       cases hf
      ·rw[if_neg ez2]at h1
       exact h1
   obtain⟨m,_,hl⟩:=I.loc
   obtain⟨c,hcc⟩:=Z4.mp (hcl2 y (F1 hf))
   have vis:Vis X.env.scope y:=by
    rcases hc.fr _ (F1 hf) rfl with q | q
    ·exact .inr (.inl q)
    ·exact .inr (.inr q)
   obtain⟨u,ru,lk⟩:=hl i y v hy h2 vis
   refine⟨u,ru,.inr ⟨?_,c,hcc,?_⟩⟩
   ·rcases h3 with q | q
    ·rcases R4 q with q | ⟨_,z⟩
     ·exact absurd q (hc.see y my)
     ·cases z
    ·exact q
   ·have hce:=hcl y c hcc
    rcases lk with ⟨q,_⟩ | ⟨_,c',e',z⟩
    ·rcases hc.fr _ (F1 hf) rfl with q' | q'
     ·have q:X.env.scope.names.lookup y=some .local:=q
      rw[show X.env.scope.names.lookup y=some NameKind.cell from q']at q
      cases q
     ·have q:X.env.scope.names.lookup y=some .local:=q
      rw[show X.env.scope.names.lookup y=some NameKind.free from q']at q
      cases q
    ·rw[e']at hce
     cases hce
     obtain⟨o,ho,hd⟩:=z
     exact⟨o,k _ _ ho,hd⟩
 ·obtain⟨v,o,ho,hd⟩:=I.cell y c (hcl y c e)
  exact⟨v,o,k _ _ ho,hd⟩
 ·exact I.freeC y c (hcl y c e)
 ·show(none::none::σ).length=(x::x2::b3l x x2 X.N).length
  have:=I.len
  simp[b3l,this]
theorem b5c{H1:Hp}{s2:o0}{it:Addr}{tn:Nat->Heap->Prop}{J:It}{Q:VK}{E:Value->o0->Prop}
  {RR:Value->Addr->b9U->o0->Prop} (hc:a4s X.N X.env.scope scope x x2) (hcalm:X.calm=true)
  (hcl:∀y c,cl.lookup y=some c->X.env.cells.lookup y=some c) (hcl2:∀y,(y,NameKind.free)∈scope.names->(cl.lookup y).isSome=true)
  (ht:∀C fp s3 H3,PTs (V9 X scope cl C x x2 fp s3 H3) ifs tt) (he:∀C fp s3 H3,PE (V9 X scope cl C x x2 fp s3 H3) elt te)
  (I:Inv X pins σ H1 s2) (T:b5m X.prog X.w X.K (.Tuple [.Name x px,.Name x2 py2] kt pt) J fp it tn) (st:tn 0 s2.heap) (fpo:∀b∈fp,a5L X pins H1 b)
  (h:∀D,H1 D=none->∃W:Nat->Nat->List V->Hp->Prop,
   (∃m,W 0 m [] (upd H1 D (.lst [])))/\∀i m ys H2,W i m ys H2->H2 D=some (.lst ys) /\
   ((J.stop i H2 /\ Q (.ref D) H2) \/ (J.go i H2 /\ ∀ x H3,J.yld i H2 x H3 -> ∃ a u v,x = .ref a /\ SqT X.K H3 a [u,v] /\ tt (some u :: some v :: σ) H3 fun ok H4 => if ok = true then
     te (some u::some v::σ) H4 (fun y H5=>H5 D=some (.lst ys)/\ys.length<v6/\∃m',m'<m/\W (i+1) m' (ys++[y]) (upd H5 D (.lst (ys++[y]))))
     else ∃m',m'<m/\W (i+1) m' ys H4)))
  (hRR:∀D C s' H' m,Inv X pins σ H' s'->s'.heap.Ns C m->H' C=none->C≠X.env.locals->X.s₀.heap.objs.size<=C->(∀y c,X.env.cells.lookup y=some c->c≠C)->(∀p∈X.pn++pins,p.1≠C)->Q (.ref D) H'->RR (.ref D) C (.ok .next) s') :
  wpAny (model X.prog X.w) X.A (newList []) (fun acc s₃=>wpAny (model X.prog X.w) X.A (newFunctionEnv scope X.env.globals cl [] X.env.qual none .none (some X.env)) (fun cenv s₄=>
   a4I (model X.prog X.w) X.A (.compStart (.ListComp elt [⟨.Tuple [.Name x px,.Name x2 py2] kt pt,iter,ifs,0⟩] scope pos) 0 (.ref it) acc { cenv with scope:=a7w scope X.env }) (RR acc cenv.locals) s₄) E s₃) E s2:=by
 refine a1I (hd:=by size_fits) ?_
 have I3:=I.lnew (ys:=[]) (its:=[]) (t':=s2.toks) .nil (by show 0<=v6;exact O6 _)
 obtain⟨W,⟨m0,w0⟩,turn⟩:=h _ I.fresh
 generalize hD:s2.heap.objs.size=D at I3 w0 turn ⊢
 generalize hs3:({ s2 with heap:=s2.heap.push { cls:=.type "list",data:=.seq ([]:List Value).toArray } }:o0)=s3
 have hs3':({ s2 with heap:=s2.heap.push { cls:=.type "list",data:=.seq ([]:List Value).toArray },toks:=s2.toks }:o0)=s3:=hs3
 rw[hs3']at I3
 have keep3:∀b o,s2.heap.get? b=some o->s3.heap.get? b=some o:=fun b o e=>by rw[<-hs3];exact i9 _ e
 have fpl:∀b∈fp,b<s3.heap.objs.size:=fun b hb=>by
  obtain⟨o,e,_⟩:=T.obj _ _ st b hb
  exact o9 (keep3 b o e)
 have fpD:∀b∈fp,b≠D:=fun b hb z=>by
  obtain⟨o,e,_⟩:=T.obj _ _ st b hb
  exact absurd (o9 e) (by rw[z,hD];exact M7 _)
 have fpo3:∀b∈fp,a5L X pins (upd H1 D (.lst [])) b:=fun b hb=>⟨by rw[o4 (fpD b hb)];exact(fpo b hb).1,(fpo b hb).2⟩
 show wpAny _ _ _ _ _ s3
 refine c9D hc.cell (by intro y hy;simp at hy) (fun h₁ hns₁ hsb₁=>?_) hc.kind
 dsimp only[newEnv]at hns₁ hsb₁ ⊢
 have keep4:∀b o,s3.heap.get? b=some o->h₁.get? b=some o:=fun b o e=>hsb₁.extBut b o (C4 (o9 e)) (i9 _ e)
 have I4:=b9k (tk:=s3.toks+([]:List (Str×Value)).length) hc I3 hcl hcl2 fpo3 fpl hns₁ keep4
 have st4:tn 0 h₁:=T.keep _ _ _ st fun b hb o e=>keep4 b o (keep3 b o e)
 have loop:∀s₄:o0,s₄={ s3 with heap:=h₁,toks:=s3.toks+([]:List (Str×Value)).length } ->
   a4I (model X.prog X.w) X.A (.compLoop (.ListComp elt [⟨.Tuple [.Name x px,.Name x2 py2] kt pt,iter,ifs,0⟩] scope pos) 0 (.ref it) (.ref D) (b9K scope cl s3.heap.objs.size X.env)) (RR (.ref D) s3.heap.objs.size) s₄:=by
  rintro s₄ rfl
  have stat:∀ {H':Hp},(∀b∈fp,H' b=none)->∀b∈fp,a5L (V9 X scope cl s3.heap.objs.size x x2 fp s3 (upd H1 D (.lst []))) [] H' b:=fun hn b hb=>
   ⟨hn b hb,C4 (fpl b hb),fun hf=>by
    rcases q9.mp (I3.stkSub b hf)with e | e
    ·exact(fpo b hb).2.1 e
    ·exact(fpo b hb).2.2.1 e,.inl hb,fun y c e=>(fpo b hb).2.2.2.2.1 y c (hcl y c e),fun p hp=>absurd (show p∈([]:List (Addr×Obj))from hp) (by simp)⟩
  refine b1N (env:=b9K scope cl s3.heap.objs.size X.env) (fun n s'=>∃i ys H',Inv (V9 X scope cl s3.heap.objs.size x x2 fp s3 (upd H1 D (.lst []))) [] (none::none::σ) H' s'/\tn i s'.heap/\(∀b∈fp,H' b=none)/\W i n ys H') ?_ m0
   ⟨0,[],_,I4,st4,fun b hb=>(fpo3 b hb).1,w0⟩
  rintro n s5 ⟨i,ys,H5,I5,st5,fr5,w5⟩
  obtain⟨hDy,alt⟩:=turn i n ys H5 w5
  rcases alt with ⟨stop,q⟩ | ⟨go,step⟩
  ·refine a1J (T.done (V9 X scope cl s3.heap.objs.size x x2 fp s3 (upd H1 D (.lst []))) rfl rfl rfl hcalm i [] s5 _ H5 (fun _ _=>False) I5 (stat fr5) st5 stop) (fun r s6 ⟨hr,I6⟩=>?_) fun _ _ f=>f
   subst hr
   obtain⟨m6,n6,_⟩:=I6.loc
   have J6:Inv X pins σ H5 s6:=by
    refine I3.call' (ch:=fp) I6.os I6.base I6.hok I6.bare fun b hb=>?_
    obtain⟨_,f1,f2,f3,f4,f5⟩:=fpo3 b hb
    exact⟨f3,f1,f4,f5⟩
   refine hRR D _ s6 H5 m6 J6 n6 I6.free (a5O I3.lt) I3.sz (fun y c e z=>?_) (fun p hp z=>?_) q
   ·obtain⟨v,q⟩:=I3.cell y c e
    exact absurd q.lt (by rw[z];exact M7 _)
   ·exact absurd (o9 (I3.pin p hp).1) (by rw[z];exact M7 _)
  ·refine a1J (T.item (V9 X scope cl s3.heap.objs.size x x2 fp s3 (upd H1 D (.lst []))) rfl rfl rfl hcalm i [] s5 _ H5 (fun _ _=>False) I5 (stat fr5) st5 go) (fun r s6 ⟨u,hr,h6⟩=>?_) fun _ _ f=>f
   subst hr
   refine thn h6 fun _ s6 ⟨xv,H6,I6,r6,y6,st6,fr6⟩=>?_
   have I6':=I6.pinned (stat fr6) (T.obj _ _ st6)
   obtain⟨pa,u1,u2,rfl,hsq,step⟩:=step xv H6 y6
   have hpg:PG (V9 X scope cl s3.heap.objs.size x x2 fp s3 (upd H1 D (.lst []))) (.Tuple [.Name x px,.Name x2 py2] kt pt) (b0s X.K 2 (a0e (u9 0) (a0e (u9 1) b0t))):=
    c1t (X:=V9 X scope cl s3.heap.objs.size x x2 fp s3 (upd H1 D (.lst []))) hcalm (a9Y (b2L (i:=0) hc.nd rfl (.inl (a1M hc.own)) (.inr (a1M hc.own))) (a9Y (b2L (i:=1) hc.nd rfl (.inl (a1M hc.own2)) (.inr (a1M hc.own2))) b7E))
   refine thn (hpg _ s6 (none::none::σ) H6 (.ref pa) u (fun σ' H'=>σ'=some u1::some u2::σ/\H'=H6) I6' r6 ⟨pa,[u1,u2],rfl,hsq,rfl,_,_,rfl,_,_,rfl,rfl,rfl,rfl⟩) fun _ s7 ⟨σ7,H7,I7,e7,e7'⟩=>?_
   subst e7 e7'
   have again:∀ {s8:o0} {H8:Hp} {ys8:List V},Inv (V9 X scope cl s3.heap.objs.size x x2 fp s3 (upd H1 D (.lst []))) ([]++a6l fp s6.heap) (some u1::some u2::σ) H8 s8->(∃m',m'<n/\W (i+1) m' ys8 H8) ->
     ∃m,m<n/\∃i ys H',Inv (V9 X scope cl s3.heap.objs.size x x2 fp s3 (upd H1 D (.lst []))) [] (none::none::σ) H' s8/\tn i s8.heap/\(∀b∈fp,H' b=none)/\W i m ys H':=by
    rintro s8 H8 ys8 I8 ⟨m',hm,w8⟩
    refine⟨m',hm,i+1,ys8,H8,(I8.unpinned (pins:=[])).weak rfl (fun j v e=>?_),T.keep _ _ _ st6 fun b hb o e=>(I8.pin (b,o) (C7 _ (C7 _ (a1R hb e)))).1,fun b hb=>?_,w8⟩
    ·cases j with
     | zero=>cases e
     | succ j=>
      cases j with
      | zero=>cases e
      | succ j=>exact e
    ·obtain⟨o,e,d⟩:=T.obj _ _ st6 b hb
     exact(I8.pin (b,o) (C7 _ (C7 _ (a1R hb e)))).2.1
   refine thn (ht _ fp s3 _ _ s7 _ _ _ I7 step) (fun ok s8 ⟨H8,I8,q8⟩=>?_)
   cases ok with
   | false=>exact again I8 (by simpa using q8)
   | true=>
    rw[if_pos rfl]at q8
    rw[if_pos rfl]
    refine thn (he _ fp s3 _ _ s8 _ H8 _ I8 q8) (fun v s9 ⟨y,H9,I9,r9,hD9,hz9,w9⟩=>?_)
    refine a1J (a7S (X:=V9 X scope cl s3.heap.objs.size x x2 fp s3 (upd H1 D (.lst []))) _ s9 _ H9 (.ref D) [y] (.ref D) [v] (fun _ H'=>H'=upd H9 D (.lst (ys++[y]))) I9 rfl (.cons r9 .nil) ⟨D,ys,y,rfl,rfl,hD9,hz9,rfl⟩) (fun _ s10 ⟨_,H10,I10,_,e10⟩=>?_) fun _ _ f=>f
    subst e10
    exact again I10 w9
 exact c8k (loop _ rfl) (T.self X.A 0 _ _ _ st4 (loop _ rfl))
theorem b5b(hc:a4s X.N X.env.scope scope x x2)(I:Inv X pins σ H s):∀y∈scope.names,y.2=.free->∃c,X.env.cells.lookup y.1=some c:=by
 intro y hy e
 rcases hc.fr y hy e with q | q
 ·exact I.ok.has y.1 (.inl q)
 ·exact I.ok.has y.1 (.inr q)
theorem c1y{wi:TI}(hc:a4s X.N X.env.scope scope x x2)(hcalm:X.calm=true)(hi:PI X (.Tuple [.Name x px,.Name x2 py2] kt pt) iter wi)
  (ht:∀cl C fp s3 H3,PTs (V9 X scope cl C x x2 fp s3 H3) ifs tt) (he:∀cl C fp s3 H3,PE (V9 X scope cl C x x2 fp s3 H3) elt te)
  (hs:∀x,Y9 iter X.env x=pure x:=by intro _;rfl) :
  PE X (.ListComp elt [⟨.Tuple [.Name x px,.Name x2 py2] kt pt,iter,ifs,0⟩] scope pos) (a9A X.K wi tt te):=by
 intro pins s σ H Q I h
 obtain⟨cl,hclos,hcl,hcl2⟩:=a6t (b5b hc I)
 rw[eval_ListComp]
 refine a6B (use:=none) rfl hs hclos hc.kind hc.names (thn (hi pins s σ H _ I h) fun v s1 h1=>thn h1 fun itv s2 ⟨it,fp,tn,J,H2,e,I2,T,st,fpo,R⟩=>?_)
 subst e
 refine b5c (RR:=fun acc C=>compPost (model X.prog X.w) X.A X.xe none (EP X pins σ Q) acc C) (Q:=Q) hc hcalm hcl hcl2 (ht cl) (he cl) I2 T st fpo R ?_
 intro D C s' H' m I' n f1 f2 f3 f4 f5 q
 exact⟨m,n,fun h' sb=>⟨.ref D,H',I'.turned (t':=s'.toks) (fun b o hb e=>(sb.2 b hb).trans e) f1 f2 (.inr f3) f4 f5,rfl,q⟩⟩
end
section
variable {x x2:Str}{px py2 pt:Pos}{kt:Nat}
end
section
def b8x:List V->Hp->VK->Prop:=fun xs H Q=>match xs with
 | [.int i,.int j]=>Q (.int (if j<i then j else i)) H
 | _=>False
theorem b9p(hc:X.calm=true):X0 X (.builtin "min") b8x:=(b9x hc).imp fun xs H Q h=>by
 unfold b8x at h
 split at h
 ·exact⟨_,_,rfl,h⟩
 ·exact h.elim
theorem b9A:∀bs:List Bool,((L4 bs.length).any fun i=>(bs[i]?).getD false)=bs.any id:=by
 intro bs
 induction bs with
 | nil=>rfl
 | cons b r ih=>
  rw[C6,List.range_succ_eq_map,a0E,List.any_map,a0E]
  rw[<-ih]
  rfl
def b6e:List V->Hp->VK->Prop:=fun vs H Q=>match vs with
 | [.ref l]=>match H l with
  | some (.lst xs)=>∃bs,Y5 xs=some bs/\Q (.bl (bs.any id)) H
  | _=>False
 | _=>False
theorem b9u(hc:X.calm=true):X0 X (.builtin "any") b6e:=fun pins s σ H xs us Q I r h=>by
 unfold b6e at h
 split at h
 ·split at h
  ·rename_i l _ ys hl
   obtain⟨bs,e,q⟩:=h
   obtain⟨u,rfl,ru⟩:=a4Q r
   cases ru
   obtain⟨its,rv,pl,hz⟩:=I.list (SqL.of hl)
   have hlt:l<s.heap.objs.size:=by obtain⟨_,e,_⟩:=pl.isList;exact o9 e
   have hlen:=rv.length
   have hbl:=a7Y e
   refine call_any_walk (b5z pl.isList ?_)
   refine⟨s.heap.objs.size,[s.heap.objs.size,l],[s.heap.objs.size],its.toArray.size,_,_,fun i=>(bs[i]?).getD false,rfl,Walks.list (A:=X.A.in1) (I.ok.hd hc) _ l (C4 hlt) its.toArray,
    ⟨⟨_,F2 _ rfl,rfl,rfl⟩,pl.isList.push _⟩,fun i v s' Q' E' hP hQ=>?_,fun h' tk hk=>?_⟩
   ·have hP:its[i]? = some v:=by simpa using hP
    have hi:i<ys.length:=by rw[hlen];exact(y4.mp hP).1
    have ey:ys[i]? = some ys[i]:=by simp[hi]
    obtain⟨b,eb,ez⟩:=a7Z e ey
    obtain⟨u,eu,ru⟩:=rv.get ey
    rw[hP]at eu
    cases eu
    rw[ez]at ru
    cases ru
    simp only[eb,a4C]at hQ
    exact N6 hQ
   ·have e2:((L4 its.toArray.size).any fun i=>(bs[i]?).getD false)=bs.any id:=by
     rw[t9,<-hlen,hbl]
     exact b9A bs
    rw[e2]
    exact⟨.bl _,H,I.kept (t':=tk) fun b x e=>hk b x (fun hm=>by rw[z9.mp hm]at e;exact M7 _ (o9 e)) (i9 _ e),rfl,q⟩
  ·exact h.elim
 ·exact h.elim
def a2i:List V->Option (List Int)
 | []=>some []
 | .int i::r=>(a2i r).map (i :: ·)
 | _=>none
theorem b0q(ns:List Int):a2i (ns.map V.int)=some ns:=by
 induction ns with
 | nil=>rfl
 | cons s r ih=>simp[a2i,ih]
theorem a5h:∀ {xs:List V} {us:List Value} {ss:List Int},J3 xs us->a2i xs=some ss->c5H us ss
 | _,_,ss,.nil,e=>by cases e;exact .nil
 | x::xs,_,ss,.cons r t,e=>by
  cases x with
  | int s=>
   obtain⟨k,rfl⟩:=r
   cases e2:a2i xs with
   | none=>simp[a2i,e2]at e
   | some ss2=>
    simp[a2i,e2]at e
    subst e
    exact .cons _ _ (a5h t e2)
  | _=>simp[a2i]at e
def a5A:List V->Hp->VK->Prop:=fun vs H Q=>match vs with
 | [.ref l]=>match H l with
  | some (.lst xs)=>∃ns,a2i xs=some ns/\ns.length<64/\∀(p:Addr) (ms:List Int),ms.Perm ns->ms.Pairwise (· <= ·)->H p=none->Q (.ref p) (upd H p (.lst (ms.map V.int)))
  | _=>False
 | _=>False
theorem b3t:X0 X (.builtin "sorted") a5A:=fun pins s σ H xs us Q I r h=>by
 unfold a5A at h
 split at h
 ·split at h
  ·rename_i l _ ys hl
   obtain⟨ns,e,hn,q⟩:=h
   obtain⟨u,rfl,ru⟩:=a4Q r
   cases ru
   obtain⟨its,rv,pl,hz⟩:=I.list (SqL.of hl)
   have hi:=a5h rv e
   have hil:=hi.length
   refine sorted_ints pl.isList hi (by omega) fun out ns' a1 a2 a3=>?_
   obtain⟨c,he⟩:=sortedAll_at s.heap its out
   have hl':=a2.length_eq
   refine⟨.ref _,_,I.laid (t':=s.toks) (a:=s.heap.objs.size+1) (o:=.lst (ns'.map V.int)) (fun b ob q=>sortedAll_old q) (X4 _) ?_,rfl,q _ ns' a2 a3 (I.hok.fresh (X4 _))⟩
   refine⟨by rw[c4,sizeLine_eq];omega,out.toList,c,a7z a1,?_⟩
   exact he
  ·exact h.elim
 ·exact h.elim
def a7K:V->List V->Hp->VK->Prop:=fun x vs H Q=>match x,vs with
 | .ref l,[.int k]=>match H l with
  | some (.lst xs)=>∃ns,a2i xs=some ns/\ns.length<10000/\k∈ns/\Q (.int (ns.idxOf k:Nat)) H
  | _=>False
 | _,_=>False
theorem b8T:MtR X "list.index" a7K:=fun pins s σ H x xs v us Q I rx rv h=>by
 unfold a7K at h
 split at h
 ·split at h
  ·rename_i l k _ ys hl
   obtain⟨ns,e,hn,hk,q⟩:=h
   cases rx
   obtain⟨u,rfl,⟨t,rfl⟩⟩:=rv.one
   obtain⟨its,r,pl,hz⟩:=I.list (SqL.of hl)
   have hi:=a5h r e
   obtain⟨⟨cls,dd,data,sl⟩,ho,hc,n,hd⟩:=id pl.isList
   simp only at hc hd
   subst hc hd
   have hlen:=hi.length
   have hj:ns.idxOf k<ns.length:=b5x.mpr hk
   refine b0P b3M ⟨_,ho,rfl⟩ PySem.F.entry_list_index (PySem.F.args_list_index_2 _ _)
    (PySem.SeqAt.list_indexAt l its.toArray n dd sl (.int k t) (isInt k) (ns.idxOf k) (by simpa[hlen]using hj) (by omega) ?_ ?_) ⟨ho,fun y hy=>(eq_isInt k t hi y (by simpa using hy)).at _ _,⟨.int _,H,I.tok _,⟨_,rfl⟩,q⟩⟩
   ·show isInt k its[ns.idxOf k]=true
    rw[isInt_at k hi _ (by omega) hj]
    simpa using List.getElem_idxOf hj
   ·intro j hjs hlt
    show isInt k its[j]=false
    rw[isInt_at k hi j (by simpa using hjs) (by omega)]
    exact ne_of_lt_idxOf hlt _
  ·exact h.elim
 ·exact h.elim
def a4h:V->List V->Hp->VK->Prop:=fun x vs H Q=>match x,vs with
 | .ref l,[.ref b]=>match H l,H b with
  | some (.lst xs),some (.lst zs)=>xs.length+zs.length<=v6/\Q .non (upd H l (.lst (xs++zs)))
  | _,_=>False
 | _,_=>False
theorem b6x:MtR X "list.extend" a4h:=fun pins s σ H x xs v us Q I rx rv h=>by
 refine b8U pins s σ H x xs v us Q I rx rv ?_
 unfold a4h at h
 split at h
 ·split at h
  ·exact⟨_,_,_,_,rfl,rfl,by assumption,by assumption,h.1,h.2⟩
  ·exact h.elim
 ·exact h.elim
def b6b:V->List V->Hp->VK->Prop:=fun x vs H Q=>match x,vs with
 | .ref l,[]=>match H l with
  | some (.lst xs)=>∃y,xs[xs.length - 1]? = some y/\Q y (upd H l (.lst xs.dropLast))
  | _=>False
 | _,_=>False
theorem c4o:MtR X "list.pop" b6b:=fun pins s σ H x xs v us Q I rx rv h=>by
 refine c7t pins s σ H x xs v us Q I rx rv ?_
 unfold b6b at h
 split at h
 ·split at h
  ·obtain⟨y,e,q⟩:=h
   exact⟨_,_,y,rfl,rfl,by assumption,e,q⟩
  ·exact h.elim
 ·exact h.elim
def a7J:List V->Hp->VK->Prop:=fun xs H Q=>match xs with
 | [.ref p]=>match H p with
  | some (.dK kvs)=>∀l,H l=none->Q (.ref l) (upd H l (.lst (kvs.map fun kv=>kV kv.1)))
  | _=>False
 | _=>False
theorem c9o{P:F3}{k:Key}(r:(V8 P w).is k u=true):J1 (kV k) u:=by
 rcases W1 (show b0o k u=true from r)with ⟨i,t,rfl,rfl⟩ | ⟨x,t,rfl,rfl⟩
 ·exact⟨t,rfl⟩
 ·exact⟨t,rfl⟩
theorem b7g:∀ {xs:List V} {us:List Value},xs.length=us.length->(∀(i:Nat) x u,xs[i]? = some x->us[i]? = some u->J1 x u)->J3 xs us
 | [],[],_,_=>.nil
 | x::xs,u::us,hl,h=>.cons (h 0 x u rfl rfl) (b7g (by simpa using hl) fun i y v a b=>h (i+1) y v (by simpa using a) (by simpa using b))
 | [],u::us,hl,_=>by cases hl
 | x::xs,[],hl,_=>by cases hl
theorem c5w:∀ {l:List (Key×V)} {la:List (Key×Value)} {i:Nat} {k:Key} {x:Value},KV l la->la[i]? = some (k,x)->∃y,l[i]? = some (k,y)
 | p::l,q::la,0,k,x,h,e=>by
  have h:Paired _ _ _:=h
  cases h with
  | cons h t=>
   cases e
   exact⟨p.2,by rw[b7d];rw[show k=p.1 from h.1.symm]⟩
 | p::l,q::la,i+1,k,x,h,e=>by
  have h:Paired _ _ _:=h
  cases h with
  | cons h t => 
   obtain⟨y,hy⟩:=c5w (i:=i) (show KV l la from t) (by simpa using e)
   exact⟨y,by simpa using hy⟩
 | [],la,i,k,x,h,e=>by
  have h:Paired _ _ _:=h
  cases h
  cases e
 | p::l,[],i,k,x,h,e=>by
  have h:Paired _ _ _:=h
  cases h
theorem b5k(hc:X.calm=true):X0 X (.type "list") a7J:=fun pins s σ H xs us Q I r h=>by
 unfold a7J at h
 split at h
 ·split at h
  ·rename_i p _ kvs hp
   obtain⟨u,rfl,ru⟩:=a4Q r
   cases ru
   obtain⟨hz,hS,vs,rk,hD⟩:=a5i I.hok hp
   obtain⟨ep,hat⟩:=hD.dictAt
   have hl:=Paired.length rk
   refine PySem.W.kdl_call (PySem.W.kdl_dict (knd:=V8 X.prog X.w) (kvs:=vs) (ep:=ep) hS) (I.ok.hd hc) hat (by omega) fun h' tk acc c hk ha hit=>?_
   refine⟨.ref _,_,I.laid (t':=tk) (a:=s.heap.objs.size) (o:=.lst (kvs.map fun kv=>kV kv.1)) hk (o5 _) ?_,rfl,h _ (I.hok.fresh (o5 _))⟩
   refine⟨by rw[c4];exact hz,acc.toList,c,?_,by simpa using ha⟩
   refine b7g (by have:=hit.1;rw[c4];simp;omega) fun i x u a b=>?_
   obtain⟨k,y,e1,e2⟩:=hit.2 i u (by rw[<-a0F];exact b)
   obtain⟨z,e3⟩:=c5w rk e1
   rw[d8,e3]at a
   cases a
   exact c9o e2
  ·exact h.elim
 ·exact h.elim
inductive Dq(K:Fg)(H:Hp):Nat->V->V->Prop
 | flat {n:Nat} {x:V}:N4 x=true->Dq K H n x x
 | tup {n:Nat} {a b:Addr} {xs ys:List V}:SqT K H a xs->SqT K H b ys->xs.length=ys.length->(∀(j:Nat) x y,xs[j]? = some x->ys[j]? = some y->Dq K H n x y)->Dq K H (n+1) (.ref a) (.ref b)
 | lst {n:Nat} {a b:Addr} {xs ys:List V}:SqL K H a xs->SqL K H b ys->xs.length=ys.length->(∀(j:Nat) x y,xs[j]? = some x->ys[j]? = some y->Dq K H n x y)->Dq K H (n+1) (.ref a) (.ref b)
theorem b4W{x:V}(h:N4 x=true):eqV x x=true:=by
 cases x with
 | non=>rfl
 | bl b=>simp[eqV]
 | int i=>simp[eqV]
 | str s=>simp[eqV]
 | byt b=>cases h
 | flt b=>cases h
 | ref a=>cases h
 | ty n=>cases h
theorem a7o{n:Nat}:(L4 n).all (fun _=>true)=true:=by simp
theorem Dq.both(I:Inv X pins σ H s){n:Nat}{x y:V}(d:Dq X.K H n x y):∀ {A:L7} {v u:Value},A.units+n<cLine->J1 x v->J1 y u ->
  SeqAt.EqAt A s v u true/\(∀a b,x=.ref a->y=.ref b->SeqAt.RcAt A s v u true/\SeqAt.RcNeAt A s v u false):=by
 induction d with
 | @flat n x hf=>
  intro A v u hu rv ru
  refine⟨?_,fun a b e=>by subst e;cases hf⟩
  have:=b0v (A:=A) (s:=s) rv ru hf hf
  rwa [b4W hf]at this
 | @tup n a b xs ys ha hb hl hq ih=>
  intro A v u hu rv ru
  cases rv
  cases ru
  obtain⟨us,r1,t1,_⟩:=I.tuple ha
  obtain⟨ws,r2,t2,_⟩:=I.tuple hb
  have l1:=r1.length
  have l2:=r2.length
  have el:∀j (h1:j<us.toArray.size) (h2:j<ws.toArray.size),SeqAt.EqAt A.in1 s us.toArray[j] ws.toArray[j] true:=by
   intro j h1 h2
   have h1':j<xs.length:=by simpa[l1]using h1
   have h2':j<ys.length:=by simpa[l2]using h2
   obtain⟨u1,e1,q1⟩:=r1.get (i:=j) (x:=xs[j]) (by simp)
   obtain⟨u2,e2,q2⟩:=r2.get (i:=j) (x:=ys[j]) (by simp)
   have z1:us.toArray[j]=u1:=by
    have:=(y4.mp e1).2
    simpa using this
   have z2:ws.toArray[j]=u2:=by
    have:=(y4.mp e2).2
    simpa using this
   rw[z1,z2]
   exact(ih j _ _ (by simp) (by simp) (A:=A.in1) (by show A.units+1+n<cLine;omega) q1 q2).1
  have c1:SeqAt.RcAt A s (.ref a) (.ref b) true:=by
   have q:=SeqAt.RcAt.tuples (A:=A) (e:=fun _=>true) t1 t2 (by omega) el
   have e:us.toArray.size=ws.toArray.size:=by simp[<-l1,<-l2,hl]
   rw[a7o,e,beq_self_eq_true]at q
   exact q
  have c2:SeqAt.RcNeAt A s (.ref a) (.ref b) false:=by
   have q:=SeqAt.RcNeAt.tuples (A:=A) (e:=fun _=>true) t1 t2 (by omega) el
   have e:us.toArray.size=ws.toArray.size:=by simp[<-l1,<-l2,hl]
   rw[a7o,e,beq_self_eq_true]at q
   exact q
  refine⟨?_,fun _ _ _ _=>⟨c1,c2⟩⟩
  by_cases e:a=b
  ·subst e;exact SeqAt.EqAt.same _
  ·exact SeqAt.EqAt.of_refs e c1
 | @lst n a b xs ys ha hb hl hq ih=>
  intro A v u hu rv ru
  cases rv
  cases ru
  obtain⟨us,r1,t1,_⟩:=I.list ha
  obtain⟨ws,r2,t2,_⟩:=I.list hb
  have l1:=r1.length
  have l2:=r2.length
  have el:∀j (h1:j<us.toArray.size) (h2:j<ws.toArray.size),SeqAt.EqAt A.in1 s us.toArray[j] ws.toArray[j] true:=by
   intro j h1 h2
   have h1':j<xs.length:=by simpa[l1]using h1
   have h2':j<ys.length:=by simpa[l2]using h2
   obtain⟨u1,e1,q1⟩:=r1.get (i:=j) (x:=xs[j]) (by simp)
   obtain⟨u2,e2,q2⟩:=r2.get (i:=j) (x:=ys[j]) (by simp)
   have z1:us.toArray[j]=u1:=by
    have:=(y4.mp e1).2
    simpa using this
   have z2:ws.toArray[j]=u2:=by
    have:=(y4.mp e2).2
    simpa using this
   rw[z1,z2]
   exact(ih j _ _ (by simp) (by simp) (A:=A.in1) (by show A.units+1+n<cLine;omega) q1 q2).1
  have e:us.toArray.size=ws.toArray.size:=by simp[<-l1,<-l2,hl]
  have c1:SeqAt.RcAt A s (.ref a) (.ref b) true:=by
   have q:=SeqAt.RcAt.lists (A:=A) (e:=fun _=>true) t1.isList t2.isList e (by omega) el
   rw[a7o]at q
   exact q
  have c2:SeqAt.RcNeAt A s (.ref a) (.ref b) false:=by
   have q:=SeqAt.RcNeAt.lists (A:=A) (e:=fun _=>true) t1.isList t2.isList e (by omega) el
   rw[a7o]at q
   exact q
  refine⟨?_,fun _ _ _ _=>⟨c1,c2⟩⟩
  by_cases e:a=b
  ·subst e;exact SeqAt.EqAt.same _
  ·exact SeqAt.EqAt.of_refs e c1
def a9X(K:Fg):R2:=fun x y H Q=>∃a b n,x=.ref a/\y=.ref b/\n<=20/\Dq K H n x y/\Q (.bl true) H
def c6n(K:Fg):R2:=fun x y H Q=>∃a b n,x=.ref a/\y=.ref b/\n<=20/\Dq K H n x y/\Q (.bl false) H
theorem c4c{k:Nat}(hr:T3 k X.A):OpR X (A3 .Eq) (a9X X.K):=by
 intro pins s σ H x y v u Q I rx ry ⟨a,b,n,e1,e2,hn,d,q⟩
 have hu:=hr.units
 exact((d.both I (A:=X.A) (by omega) rx ry).2 a b e1 e2).1 _ _ _ _ ⟨.bl true,H,I,rfl,q⟩
theorem c3W{k:Nat}(hr:T3 k X.A):OpR X (A3 .NotEq) (c6n X.K):=by
 intro pins s σ H x y v u Q I rx ry ⟨a,b,n,e1,e2,hn,d,q⟩
 have hu:=hr.units
 exact((d.both I (A:=X.A) (by omega) rx ry).2 a b e1 e2).2 _ _ _ _ ⟨.bl false,H,I,rfl,q⟩
def c3t(K:Fg):R2:=fun x y H Q=>∃a b xs ys,x=.ref a/\y=.ref b/\SqT K H a xs/\SqT K H b ys/\xs.all N4=true/\ys.all N4=true/\Q (.bl (a0t xs ys)) H
theorem c4e{k:Nat}(hr:T3 k X.A):OpR X (A3 .Eq) (c3t X.K):=by
 intro pins s σ H x y v u Q I rx ry ⟨a,b,xs,ys,e1,e2,ha,hb,fx,fy,q⟩
 have hu:=hr.units
 subst e1 e2
 cases rx
 cases ry
 obtain⟨us,r1,t1,_⟩:=I.tuple ha
 obtain⟨ws,r2,t2,_⟩:=I.tuple hb
 have l1:=r1.length
 have l2:=r2.length
 have q1:=SeqAt.RcAt.tuples (A:=X.A) t1 t2 (by omega) (a5B r1 r2 fx fy)
 simp only[t9,<-l1,<-l2]at q1
 exact q1 _ _ _ _ ⟨.bl (a0t xs ys),H,I,rfl,q⟩
def c6p(K:Fg):R2:=fun x y H Q=>∃a b xs ys,x=.ref a/\y=.ref b/\SqT K H a xs/\SqT K H b ys/\xs.all N4=true/\ys.all N4=true/\Q (.bl (!a0t xs ys)) H
theorem c3Y{k:Nat}(hr:T3 k X.A):OpR X (A3 .NotEq) (c6p X.K):=by
 intro pins s σ H x y v u Q I rx ry ⟨a,b,xs,ys,e1,e2,ha,hb,fx,fy,q⟩
 have hu:=hr.units
 subst e1 e2
 cases rx
 cases ry
 obtain⟨us,r1,t1,_⟩:=I.tuple ha
 obtain⟨ws,r2,t2,_⟩:=I.tuple hb
 have l1:=r1.length
 have l2:=r2.length
 have q1:=SeqAt.RcNeAt.tuples (A:=X.A) t1 t2 (by omega) (a5B r1 r2 fx fy)
 simp only[t9,<-l1,<-l2]at q1
 exact q1 _ _ _ _ ⟨.bl (!a0t xs ys),H,I,rfl,q⟩
def c1e(K:Fg):List V->Hp->VK->Prop:=fun vs H Q=>∃p xs,vs=[.ref p]/\SqT K H p xs/\Q (.int xs.length) H
theorem b6T:X0 X (.builtin "len") (c1e X.K):=a7g.imp fun xs H Q ⟨p,ys,e,h,q⟩=>⟨p,ys,e,.inr h,q⟩
def c6r(K:Fg):R2:=fun x y H Q=>∃p xs,y=.ref p/\SqT K H p xs/\N4 x=true/\xs.all N4=true/\Q (.bl (inV x xs)) H
theorem c4b:OpR X (A3 .In) (c6r X.K):=b1G.imp fun x y H Q ⟨p,xs,e,h1,h2,h3,q⟩=>⟨p,xs,e,.inr h1,h2,h3,q⟩
def a9W(K:Fg):R2:=fun x y H Q=>∃p i xs v,x=.ref p/\y=.int i/\SqT K H p xs/\atI xs i=some v/\Q v H
theorem c9p:IxR X (a9W X.K):=c2f.imp fun x y H Q ⟨p,i,xs,v,e1,e2,h,e,q⟩=>.inr (.inl ⟨p,xs,i,v,e1,e2,h,e,q⟩)
def c1f(K:Fg):List V->Hp->VK->Prop:=fun vs H Q=>∃p xs,vs=[.ref p,.ty "tuple"]/\SqT K H p xs/\Q (.bl true) H
theorem b6U:X0 X (.builtin "isinstance") (c1f X.K):=fun pins s σ H xs us Q I r h=>by
 obtain⟨p,ys,rfl,hp,q⟩:=h
 obtain⟨u,u2,rfl,ru,ru2⟩:=b7h r
 cases ru
 cases ru2
 obtain⟨its,rv,⟨o,h1,h2,_⟩,_⟩:=I.tuple hp
 exact N7 b9E I.kIn ⟨o,h1,h2⟩ (c2d X.K "tuple" (by decide) "tuple" (by decide)) (fun z=>nomatch z) fun tk=>⟨.bl true,H,I.tok _,rfl,q⟩
theorem c1q{e c:Option Expr}:PS X (.Raise e c pos) (fun _ _ _=>False):=fun _ _ _ _ _ _ h=>h.elim
structure b5o(P:F3)(w:World)(K:Fg)(mg:Str->Option Value)(base:Heap)(k:Nat)(x:Str)(C:Addr)(ps:List Str)(sp:Sp):Prop where
 ex:∃f fd,N5 P w K mg base CX0 k f fd ps sp/\mg x=some (.ref C)/\Mk K C f/\a4B K fd ps []
theorem c9b{k j:Nat}{x:Str}{C:Addr}{e:Expr}{es:List Expr}{t:TA}{p:Pos}(M:b5o X.prog X.w X.K X.mg X.base k x C ps sp)(hr:T3 j X.A)(hk:k+1<=j)(hg:Gl X x)(ha:PA X (e::es) t)
  (hdb:(x == ("__debug__" : Str))=false:=by decide) (he:i8 (e::es) X.env=(false,eval e X.env)::i8 es X.env:=by rfl) (hpl:(a0m pos (i8 es X.env)).any (·.1)=false:=by rfl) :
  PE X (.Call (.Name x p) (e::es) [] pos) (a6J C sp [] E0 t):=by
 obtain⟨f,fd,F,hm,hM,hb⟩:=M.ex
 exact c3L hM F (hr.mono hk) hg hm hb .nil c1C ha hdb he hpl
structure a9d(P:F3)(w:World)(K:Fg)(mg:Str->Option Value)(base:Heap)(k:Nat)(m:Str)(C:Addr)(ps:List Str)(sp:Sp):Prop where
 ex:∃f fd,N5 P w K mg base CX0 k f fd ps sp/\Cls K C/\c8b K C m f/\a4B K fd ps []
theorem c6N{pl:Sem Bool}{k j:Nat}{m:Str}{C:Addr}{o e:Expr}{es:List Expr}{ta:TE}{t:TA}{apos:Pos}(M:a9d X.prog X.w X.K X.mg X.base k m C ps sp)(hr:T3 j X.A)(hk:k<=j)(ho:PE X o ta)(ha:PA X (e::es) t)
  (hst:i8 (e::es) X.env=(false,eval e X.env)::i8 es X.env:=by rfl) (hpl:(a0m pos (i8 es X.env)).any (·.1)=false:=by rfl)
  (ht:eval (.Call (.Attribute o m apos) (e::es) [] pos) X.env=(do
   let ov <-eval o X.env
   b9R apos.atName
   let(f,first) <-a4H [ov] (b9S ov m pl)
   callWith pos f first (a0m pos (i8 (e::es) X.env)) (b0Q pos (a3m [] X.env))):=by rfl) :
  PE X (.Call (.Attribute o m apos) (e::es) [] pos) (b1A C m sp [] E0 ta t):=by
 obtain⟨f,fd,F,c,hm,hb⟩:=M.ex
 exact c3K (pl:=pl) ho c hm F (hr.mono hk) hb .nil c1C ha hst hpl ht
end
theorem a6W{env:Env}:∀ {names:List (Str×a5S)} {y:Str},names.lookup y=some .free ->
  (names.map fun(n,k)=>if(k == NameKind.free&&env.scope.kind == .function&&env.kindOf n == some .cell)then (n,NameKind.cell)else (n,k)).lookup y=some .cell \/
  (names.map fun(n,k)=>if(k == NameKind.free&&env.scope.kind == .function&&env.kindOf n == some .cell)then (n,NameKind.cell)else (n,k)).lookup y=some .free
 | [],_,h=>by cases h
 | (n,k0)::r,y,h=>by
  have ih := @a6W env r y
  rw[K6]at h
  rw[G8]
  dsimp only
  cases hx:y == n with
  | true=>
   rw[hx]at h
   cases h
   by_cases hc:(NameKind.free == NameKind.free&&env.scope.kind == .function&&env.kindOf n == some .cell)=true
   ·rw[if_pos hc,K6,hx];exact .inl rfl
   ·rw[if_neg hc,K6,hx];exact .inr rfl
  | false=>
   rw[hx]at h
   by_cases hc:(k0 == NameKind.free&&env.scope.kind == .function&&env.kindOf n == some .cell)=true
   ·rw[if_pos hc,K6,hx];exact ih h
   ·rw[if_neg hc,K6,hx];exact ih h
theorem b7J{sc1 sc:Scope}(h:∀y∈sc.names,y.2=.free->sc1.names.lookup y.1=some .free):∀y∈sc.names,y.2=.free->(a7w sc1 env).names.lookup y.1=some .cell\/(a7w sc1 env).names.lookup y.1=some .free:=
 fun y hy e=>a6W (h y hy e)
end L2
namespace PySem
open Sem (wp)
namespace F
end F
section
variable {prog:F3}{w:World}{A:L7}{E:Value->o0->Prop}{h:Heap}{g:Array GenState}{d:Drawn}{t:Nat}{os:OsState}{a:Addr}{xs:Array Value}{n:Nat}{sl:Array (Option Value)}
end
end PySem
namespace PySem
open Sem (wp)
namespace F
end F
section
variable {prog:F3}{w:World}{K:Type}[DecidableEq K]{knd:KeyKind prog w K}{A:L7}{s:o0}{R:b9U->o0->Prop}
end
section
variable {prog:F3}{w:World}{K:Type}[DecidableEq K]{knd:KeyKind prog w K}{A:L7}{E:Value->o0->Prop}{s:o0}
end
end PySem
namespace L2
open PySem PySem.Spec PyProof.Rows
section
variable {X:Cx}
end
section
variable {X:Cx}{tg:Expr}
end
section
variable {X:Cx}
end
section
variable {X:Cx}
end
structure IsC(K:Fg)(C:Addr):Prop where
 cl:Cls K C
 ha:G9 K (.ref C) "__class__" = some (some (.builtin "object.__class__"))
 hn:a8f K (.builtin "object.__class__") "__get__" = some (some (.builtin "getset_descriptor.__get__"))
 htk:c2O K (.builtin "object.__class__")=some true
 hm:c5A K C (.type "object")=some true
section
variable {P:F3}{w:World}{K:Type}[DecidableEq K]{knd:HeapKind P w K}{A:L7}{E:Value->o0->Prop}{s:o0}
end
section
variable {X:Cx}
end
end L2
namespace PySem
open Sem (wp)
section
variable {prog:F3}{w:World}{A:L7}{E:Value->o0->Prop}{s:o0}
end
end PySem
namespace L2
open PySem PySem.Spec PyProof.Rows
section
variable {X:Cx}
end
end L2
namespace PySem
open Sem (wp)
section
variable {prog:F3}{w:World}{K:Type}[DecidableEq K]{knd:HeapKind prog w K}{A:L7}{s:o0}{R:b9U->o0->Prop}
end
section
variable {prog:F3}{w:World}{K:Type}[DecidableEq K]{knd:HeapKind prog w K}{A:L7}{E:Value->o0->Prop}{s:o0}
end
end PySem
namespace L2
open PySem PySem.Spec PyProof.Rows
variable{X:Cx}{pins:List (Addr×Obj)}{σ:St}{H:Hp}{s:o0}
section
end
section
variable {a:Addr}
end
abbrev XE:=List Key×Addr×V
section
variable {a b:Addr}{xs:List XE}{k:List Key}
end
section
variable {i o:Expr}{ti to:TE}
end
section
end
section
variable {a:Addr}
end
section
def b3j(k2:List (Key×V)):List (Key×V)->Bool
 | []=>true
 | p::r=>match a0v k2 p.1 with
  | none=>false
  | some y=>eqV p.2 y&&b3j k2 r
theorem b4U{A:L7}{kb:List (Key×Value)}{k2:List (Key×V)}(r2:KV k2 kb)(f2:∀k y,a0v k2 k=some y->N4 y=true):∀ {l:List (Key×V)} {la:List (Key×Value)},KV l la->l.all (fun p=>N4 p.2)=true->PySem.W.KeqHits A s kb la (b3j k2 l):=by
 intro l la r
 unfold KV at r
 induction r with
 | nil=>intro _;exact .nil
 | @cons p q l1 l2 h hr ih=>
  intro fl
  obtain⟨k,x⟩:=p
  obtain⟨k',v⟩:=q
  obtain⟨e,rv⟩:=h
  obtain rfl:k=k':=e
  rw[a8k,a0Y]at fl
  have rel:=r2.val k
  unfold b3j
  cases z:a0v k2 k with
  | none=>
   rw[z]at rel
   simp only[z]
   refine .miss ?_
   cases w:a6a kb k with
   | none=>rfl
   | some y=>rw[w]at rel;exact rel.elim
  | some y=>
   rw[z]at rel
   obtain⟨u,hu,ru⟩:=rel.some_of
   simp only[z]
   exact .hit hu (b0v rv ru fl.1 (f2 k y z)) (ih fl.2)
theorem a5V:isSubtype (.type "NoneType") (.type "dict")=pure false:=by rw[isSubtype_type];kernel_rfl
def c6o:R2:=fun x y H Q=>(∃a kvs,x=.ref a/\y=.non/\H a=some (.dK kvs)/\Q (.bl true) H) \/
 ∃a b k1 k2,x=.ref a/\y=.ref b/\H a=some (.dK k1)/\H b=some (.dK k2)/\k1.all (fun p=>N4 p.2)=true/\(∀k y,a0v k2 k=some y->N4 y=true)/\Q (.bl (!(k1.length == k2.length&&b3j k2 k1))) H
theorem c3X(hu:X.A.units<cLine):OpR X (A3 .NotEq) c6o:=by
 intro pins s σ H x y v u Q I rx ry h
 rcases h with ⟨a,kvs,rfl,rfl,h1,q⟩ | ⟨a,b,k1,k2,rfl,rfl,h1,h2,f1,f2,q⟩
 ·cases rx
  cases ry
  obtain⟨_,ha,va,r1,d1⟩:=a5i I.hok h1
  have ht:=d1.typeIs
  have one:∀Q':Value->o0->Prop,Q' .notImplemented s->wpAny (model X.prog X.w) X.A (call (.builtin "dict.__ne__") [.ref a,.none]) Q' X.xe s:=by
   intro Q' hq
   refine a8m b7b ht PySem.F.entry_dict_ne ?_ (PySem.F.args_dict_ne_2 _ _)
   show wpAny _ _ (Builtin.Dict.dictSlotArgs "__ne__" ⟨[.ref a,.none],[]⟩ >>= _) _ _ s
   refine u6 ?_
   unfold Builtin.Dict.dictSlotArgs
   refine u6 (c8o ht ?_)
   show wpAny _ _ (pure (Value.ref a,Value.none)) _ _ s
   refine E5 ?_
   refine u6 (wpAny_isInstance (T := "NoneType") rfl a5V ?_)
   simp only[Bool.not_false,if_true]
   refine u6 (wpAny_rule ?_)
   refine E5 ?_
   exact⟨_,rfl,hq⟩
  exact SeqAt.rc_ne_decline_or (k:=false) ht rfl (by decide) a5V b7b a9f one
   (fun _ z=>call_gives a9f rfl PySem.F.entry_NoneType_ne (PySem.F.args_NoneType_ne_2 _ _) (SeqAt.NoneType___ne___none_ref_0 a) z)
   (fun _ z=>wpAny_of_eq (rfl:isSame (.ref a) .none=pure false) z) (.inr hu) ⟨.bl true,H,I,rfl,q⟩
 ·cases rx
  cases ry
  obtain⟨_,ha,va,r1,d1⟩:=a5i I.hok h1
  obtain⟨_,hb,vb,r2,d2⟩:=a5i I.hok h2
  have l1:=Paired.length r1
  have l2:=Paired.length r2
  refine PySem.W.keq_ne ha hb d1 d2 hu (fun _=>b4U r2 f2 r1 f1) ?_
  rw[<-l1,<-l2]
  exact⟨.bl _,H,I,rfl,q⟩
end
theorem b8S:typeLookup (.type "list_reverseiterator") "__len__" = pure none:=by rw[typeLookup_type,c8s];kernel_rfl
theorem c2i:typeLookup (.type "list_reverseiterator") "__length_hint__" = pure (some (.builtin "list_reverseiterator.__length_hint__")):=by rw[typeLookup_type,c8s];kernel_rfl
section
variable {prog:F3}{w:World}{A:L7}{E:Value->o0->Prop}{r l:Addr}{items:Array Value}
abbrev c4S(items:Array Value):Nat->Value->Prop:=fun i v=>items[items.size - 1 - i]? = some v
theorem c0Y{Q:Bool->o0->Prop}(hT:s.TypeIs (.ref r) "list_reverseiterator")(h:Q false s):wpAny (model prog w) A (Builtin.List.listLengthHint (.ref r)) Q E s:=by
 unfold Builtin.List.listLengthHint
 refine u6 (wpAny_specialOf hT b8S ?_)
 show wpAny _ A (specialOf (Value.ref r) (Str.ofString "__length_hint__") >>= _) _ _ _
 refine u6 (wpAny_specialOf hT c2i ?_)
 generalize hid:("list_reverseiterator.__length_hint__" : String)=id0
 wp_delta
 rw[show splitId id0=some ("list_reverseiterator","__length_hint__")from by subst hid;decide +kernel]
 subst hid
 refine u6 (wpAny_isInstance (b:=true) hT (by rw[isSubtype_type];kernel_rfl) ?_)
 exact E5 h
theorem b5Z{R:b9U->o0->Prop}(hh:A.handled=none)(hit:s.heap.IsRevIter r l ((items.size:Int) - 1))(hl:s.heap.IsList l items)(hne:l≠r)(S:Addr)(hSr:S≠r)(hSl:S≠l)(res:Value)(c₀:Nat)(hS:s.heap.get? S=some { cls:=.type "list",data:=.seq #[] c₀ })
  (hR:∀h' tk acc' c',(∀b o,b≠S->b≠r->s.heap.get? b=some o->h'.get? b=some o)->h'.get? S=some { cls:=.type "list",dict:=none,data:=.seq acc' c',slots := #[] }->ItemsOf (c4S items) acc' items.size->R (.ok (.ret res)) { s with heap:=h',toks:=tk }) (hn:items.size<=v6) :
  wpAny (model prog w) A.in1 (Builtin.List.listExtendWith (.ref S) (.ref r) res)
   (fun fin s'=>match fin with | .done f=>R (.ok f) s' | .again c'=>c'.quiet=true/\a4I (model prog w) A c' R s') (fun e s'=>R (.error e) s') s:=by
 have W:=Walks.listRev (prog:=prog) (w:=w) (A:=A.in1) hh r l hne items
 have hSf:S∉[r,l]:=by simp only[q9,G5,or_false,not_or];exact⟨hSr,hSl⟩
 have h1:Builtin.List.listSameRef (.ref S) (.ref r)=false:=by simp[Builtin.List.listSameRef,hSr]
 have hz:(items.size:Int) - 1 - ((0:Nat):Int)=(items.size:Int) - 1:=by omega
 unfold Builtin.List.listExtendWith
 refine u6 (wpAny_typeOf hit.typeIs ?_)
 rw[if_neg (by rw[h1];decide)]
 refine u6 (wpAny_pyIter_revIter hit ?_)
 refine u6 (a2w (c0Y hit.typeIs ?_))
 rw[if_neg (by decide)]
 refine E5 ⟨plainId_quiet PySem.F.plain_extend_loop _,?_⟩
 refine codeAny_extend_loopS W.toS hn S hSf res items.size 0 _ #[] c₀ rfl (O6 _) ⟨O6 _,by rw[hz];exact hit,hl⟩ hS (ItemsOf.nil _) fun s' acc' c' hm hS' hacc=>?_
 rw[Moved.eq_with hm]
 exact hR s'.heap s'.toks acc' c' (fun b o hb hr e=>hm.heap b o (by simp only[q9,G5,or_false,not_or];exact⟨hb,hr⟩) e) hS' hacc
theorem c0X{R:b9U->o0->Prop}(hh:A.handled=none)(hit:s.heap.IsRevIter r l ((items.size:Int) - 1))(hl:s.heap.IsList l items)(hne:l≠r)(S:Addr)(hSr:S≠r)(hSl:S≠l)(hS:s.heap.get? S=some { cls:=.type "list",data:=.seq #[] })
  (hR:∀h' tk acc' c',(∀b o,b≠S->b≠r->s.heap.get? b=some o->h'.get? b=some o)->h'.get? S=some { cls:=.type "list",dict:=none,data:=.seq acc' c',slots := #[] }->ItemsOf (c4S items) acc' items.size->R (.ok (.ret .none)) { s with heap:=h',toks:=tk }) (hn:items.size<=v6) :
  wpAny (model prog w) A.in1 (Builtin.«list.__init__» ⟨[.ref S,.ref r],[]⟩)
   (fun fin s'=>match fin with | .done f=>R (.ok f) s' | .again c'=>c'.quiet=true/\a4I (model prog w) A c' R s') (fun e s'=>R (.error e) s') s:=by
 show wpAny _ _ (do let old <-Builtin.List.listItems (.ref S);Builtin.List.listUpdate (.ref S) (fun _ => #[]);letGo old.toList.reverse;Builtin.List.listExtendWith (.ref S) (.ref r) .none) _ _ s
 refine u6 ?_
 unfold Builtin.List.listItems
 refine u6 (wpAny_seqItems hS rfl (E5 ?_))
 show wpAny _ _ (updateSeq S (fun _ => #[]) >>= fun _=>letGo (#[]:Array Value).toList.reverse >>= fun _=>Builtin.List.listExtendWith (.ref S) (.ref r) .none) _ _ s
 refine u6 (wpAny_updateSeq hS rfl ?_)
 have hS₂:=a5Z (Obj.mapSeq (fun _=>(#[]:Array Value))) hS rfl
 have oth:∀b o,b≠S->s.heap.get? b=some o->(s.heap.update S (Obj.mapSeq (fun _=>(#[]:Array Value)))).get? b=some o:=
  fun b o hb e=>(a5J _ _ (Ne.symm hb)).trans e
 refine u6 (wpAny_letGo ?_)
 refine b5Z hh (hit.at fun o e=>oth _ _ hSr.symm e) (hl.at fun o e=>oth _ _ hSl.symm e) hne S hSr hSl .none _ hS₂ (fun h' tk acc' c' hk hS' hacc=>?_) hn
 exact hR h' tk acc' c' (fun b o hb hr e=>hk b o hb hr (oth b o hb e)) hS' hacc
theorem c0Z{Q:Value->o0->Prop}(hh:A.handled=none)(hit:s.heap.IsRevIter r l ((items.size:Int) - 1))(hl:s.heap.IsList l items)(hne:l≠r)(hn:items.size<=v6)
  (hQ:∀h' tk acc' c',(∀b o,b≠r->s.heap.get? b=some o->h'.get? b=some o)->h'.get? s.heap.objs.size=some { cls:=.type "list",dict:=none,data:=.seq acc' c',slots := #[] }->ItemsOf (c4S items) acc' items.size->Q (.ref s.heap.objs.size) { s with heap:=h',toks:=tk }) :
  wpAny (model prog w) A (call (.type "list") [.ref r]) Q E s:=by
 refine callType_codes (Q₁:=fun obj s₁=>obj=.ref s.heap.objs.size/\s₁={ s with heap:=s.heap.push { cls:=.type "list",data:=.seq #[] } }) PySem.F.called_list (PySem.F.typeCall_list_1 _) PySem.F.entry_list_init
  (code_list_new _ ⟨rfl,rfl⟩) fun obj s₁ h₁=>?_
 obtain⟨rfl,rfl⟩:=h₁
 have hS:(s.heap.push { cls:=.type "list",data:=.seq #[] }).get? s.heap.objs.size=some { cls:=.type "list",data:=.seq #[] }:=F2 _ rfl
 have lr:r<s.heap.objs.size:=let⟨_,e,_⟩:=hit;o9 e
 have ll:l<s.heap.objs.size:=let⟨_,e,_⟩:=hl;o9 e
 refine⟨⟨_,hS,rfl⟩,PySem.F.args_list_init_2 _ _,c0X (A:=A.in1) hh (hit.at fun o e=>i9 _ e) (hl.at fun o e=>i9 _ e) hne _ (a5O lr) (a5O ll) hS (fun h' tk acc' c' hk hS' hacc=>?_) hn⟩
 exact⟨rfl,hQ h' tk acc' c' (fun b o hr e=>hk b o (C4 (o9 e)) hr (i9 _ e)) hS' hacc⟩
end
section
variable {e:Expr}{te:TE}{p p2 pos pos2:Pos}
def b7s(te:TE):TE:=fun σ H Q=>te σ H fun x H1=>∃a xs,x=.ref a/\H1 a=some (.lst xs)/\∀p,H1 p=none->Q (.ref p) (upd H1 p (.lst xs.reverse))
theorem c0j{xs:List V}{its:List Value}(r:J3 xs its){acc:Array Value}(h:ItemsOf (c4S its.toArray) acc its.length):J3 xs.reverse acc.toList:=by
 have e:acc.toList=its.reverse:=by
  apply List.ext_getElem?
  intro j
  by_cases hj:j<its.length
  ·have hz:j<acc.size:=by rw[h.1];exact hj
   have q:=h.2 j _ (a3P hz)
   rw[List.getElem?_reverse hj,a0F,a3P hz]
   simpa using q.symm
  ·rw[b9I (by rw[a1d,h.1];omega),b9I (by rw[c2K];omega)]
 rw[e]
 exact r.reverse
theorem b6k(he:PE X e te)(hc:X.calm=true)(g1:Gl X "list")(m1:X.mg "list" = none)(g2:Gl X "reversed")(m2:X.mg "reversed" = none)(bl:W8 "list" = some (.type "list"))(br:W8 "reversed" = some (.type "reversed"))
  (s1:i8 [e] X.env=(false,eval e X.env)::i8 [] X.env:=by rfl):PE X (.Call (.Name "list" p) [.Call (.Name "reversed" p2) [e] [] pos2] [] pos) (b7s te):=by
 intro pins s σ H Q I h
 refine a1f (a5f I g1 m1 bl ?_ (by decide) (by decide))
 refine Q0 (e:=.Call (.Name "reversed" p2) [e] [] pos2) (rest:=[]) ?_ rfl rfl
 show wpAny _ _ (spliced ((false,eval (.Call (.Name "reversed" p2) [e] [] pos2) X.env)::[])) _ _ s
 refine Calls.spliced_cons ?_
 refine a1f (a5f I g2 m2 br ?_ (by decide) (by decide))
 refine Q0 (e:=e) (rest:=[]) ?_ s1 rfl
 rw[s1]
 refine Calls.spliced_cons (thn (he pins s σ H _ I h) fun u s1 hu=>?_)
 obtain⟨x,H1,I1,r1,a,xs,rfl,hl,q⟩:=hu
 cases r1
 obtain⟨its,rv,pl,hz⟩:=I1.list (SqL.of hl)
 have hil:=rv.length
 refine Calls.spliced_nil (call_reversed_list pl.isList ?_)
 refine Calls.spliced_nil ?_
 have hlt:a<s1.heap.objs.size:=let⟨_,e,_⟩:=pl.isList;o9 e
 have hsz:its.toArray.size=its.length:=by simp
 refine c0Z (l:=a) (items:=its.toArray) (I1.ok.hd hc) ⟨_,F2 _ rfl,rfl,rfl⟩ (pl.isList.at fun o e=>i9 _ e) (C4 hlt) (by rw[hsz];omega) fun h' tk acc' c' hk hS hacc=>?_
 have hps:(s1.heap.push (revObj a ((its.toArray.size:Int) - 1))).objs.size=s1.heap.objs.size+1:=by simp[Heap.push]
 rw[hsz]at hacc
 refine⟨.ref _,upd H1 (s1.heap.objs.size+1) (.lst xs.reverse),I1.laid (t':=tk) (fun b u e=>hk b u (C4 (o9 e)) (i9 _ e)) (X4 _) ?_,by rw[hps];rfl,q _ (I1.hok.fresh (X4 _))⟩
 rw[hps]at hS
 exact⟨by rw[c2K];exact hz,acc'.toList,c',c0j rv hacc,by simpa using hS⟩
end
section
variable {prog:F3}{w:World}{A:L7}{E:Value->o0->Prop}{l b:Addr}{items items2:Array Value}
def EqW(prog:F3)(w:World)(A:L7)(s:o0)(y x:Value):Prop:=∀(E:Value->o0->Prop) (Q:Bool->o0->Prop),Q true s->wpAny (model prog w) A (eqBool y x) Q E s
theorem b5G{Q:Value->o0->Prop}(hl:s.heap.IsTuple l items)(hb:s.heap.IsTuple b items2)(hsz:items.size=items2.size)(hu:A.units<cLine)
  (he:∀j (h1:j<items.size) (h2:j<items2.size),EqW prog w A.in1 s items[j] items2[j]) (h:Q (.bool false) s):wpAny (model prog w) A (richCompare .NotEq (.ref l) (.ref b)) Q E s:=by
 obtain⟨⟨cls,dd,data,sl⟩,ho,hc,n,hd⟩:=id hl
 obtain⟨⟨cls2,dd2,data2,sl2⟩,ho2,hc2,n2,hd2⟩:=id hb
 simp only at hc hd hc2 hd2
 subst hc hd hc2 hd2
 refine wpAny_richCompare_same_room (op:=.NotEq) ⟨_,ho,rfl⟩ ⟨_,ho2,rfl⟩ b5v (a8m b5v ⟨_,ho,rfl⟩ PySem.F.entry_tuple_ne ?_ (PySem.F.args_tuple_ne_2 _ _)) hu
 obtain⟨hp,g,d,tk,os⟩:=s
 have f2:=AutoSeq1.sub_tuple_tuple
 have hZ:(items.toList.zip items2.toList).length=items.size:=by simp[hsz]
 wp_walk using wpAny_loadPart' ho,wpAny_loadPart' ho2,wpAny_forIn_list _ (fun rest b s'=>b.1=none/\s'=⟨hp,g,d,tk,os⟩/\∃i,rest=(items.toList.zip items2.toList).drop i) _
 case turn=>
  rintro⟨y,x⟩ rest b s' ⟨hb',rfl,i,hz⟩
  have hlt:i<(items.toList.zip items2.toList).length:=by
   rcases Nat.lt_or_ge i (items.toList.zip items2.toList).length with h' | h'
   ·exact h'
   ·rw[List.drop_of_length_le h']at hz;cases hz
  have h1:i<items.size:=hZ ▸ hlt
  have h2:i<items2.size:=hsz ▸ h1
  rw[b5s hlt]at hz
  injection hz with hyx hrest
  have hy:y=items[i]:=by have:=congrArg Prod.fst hyx;simpa using this
  have hx:x=items2[i]:=by have:=congrArg Prod.snd hyx;simpa using this
  subst hy hx
  refine u6 (he i h1 h2 _ _ ?_)
  wp_walk
  exact⟨rfl,rfl,i+1,hrest⟩
 case fin=>
  rintro⟨b1,b2⟩ s' ⟨hb',rfl,i,hz⟩
  simp only at hb'
  subst hb'
  wp_walk
  rw[show Builtin.Tuple.tupleCompareSizes CmpOp.NotEq items.size items2.size=.bool false by simp[Builtin.Tuple.tupleCompareSizes,hsz]]
  exact⟨_,rfl,(fun z=>nomatch z),h⟩
 case h=>
  exact⟨rfl,rfl,0,by simp⟩
end
section
def Dd(K:Fg)(H:Hp)(x y:V):Prop:=Dq K H 3 x y\/∃d e kvs,x=.ref d/\y=.ref e/\H d=some (.dK kvs)/\H e=some (.dK kvs)/\(kvs.map (·.1)).Nodup/\kvs.all (fun p=>N4 p.2)=true
theorem Dd.eqW(I:Inv X pins σ H s){x y:V}(d:Dd X.K H x y){A:L7}{v u:Value}(hu:A.units+3<cLine)(rx:J1 x v)(ry:J1 y u):EqW X.prog X.w A s v u:=by
 rcases d with d | ⟨a,b,kvs,rfl,rfl,h1,h2,nd,fl⟩
 ·exact fun E Q q=>(d.both I hu rx ry).1 _ _ E Q q
 ·cases rx
  cases ry
  obtain⟨_,sa,va,r1,d1⟩:=a5i I.hok h1
  obtain⟨_,sb,vb,r2,d2⟩:=a5i I.hok h2
  have l1:=Paired.length r1
  have l2:=Paired.length r2
  by_cases e:a=b
  ·subst e;exact fun E Q q=>SeqAt.EqAt.same _ _ _ E Q q
  ·intro E Q q
   unfold eqBool
   refine a2w ?_
   refine wpAny_ite_split (fun hab=>absurd (by have:=eq_of_beq hab;injection this) e) (fun _=>?_)
   refine u6 (c4X sa sb d1 d2 (by omega) (fun _=>c4E r2 nd fl r1 fun p hp=>hp) ?_)
   rw[show va.length=vb.length by omega,beq_self_eq_true,b5y]
   exact N6 q
theorem c2r(I:Inv X pins σ H s){xs ys:List V}{us ws:List Value}(r1:J3 xs us)(r2:J3 ys ws){A:L7}(hu:A.units+3<cLine)
  (h:∀(j:Nat) x y,xs[j]? = some x->ys[j]? = some y->Dd X.K H x y):∀j (h1:j<us.toArray.size) (h2:j<ws.toArray.size),EqW X.prog X.w A s us.toArray[j] ws.toArray[j]:=by
 intro j h1 h2
 have l1:=r1.length
 have l2:=r2.length
 have h1':j<xs.length:=by simpa[l1]using h1
 have h2':j<ys.length:=by simpa[l2]using h2
 obtain⟨u1,e1,q1⟩:=r1.get (i:=j) (x:=xs[j]) (by simp)
 obtain⟨u2,e2,q2⟩:=r2.get (i:=j) (x:=ys[j]) (by simp)
 have z1:us.toArray[j]=u1:=by
  have:=(y4.mp e1).2
  simpa using this
 have z2:ws.toArray[j]=u2:=by
  have:=(y4.mp e2).2
  simpa using this
 rw[z1,z2]
 exact(h j _ _ (by simp) (by simp)).eqW I hu q1 q2
def b8w(K:Fg):R2:=fun x y H Q=>∃a b xs ys,x=.ref a/\y=.ref b/\SqT K H a xs/\SqT K H b ys/\xs.length=ys.length/\(∀(j:Nat) u v,xs[j]? = some u->ys[j]? = some v->Dd K H u v)/\Q (.bl false) H
theorem c3V{k:Nat}(hr:T3 k X.A):OpR X (A3 .NotEq) (b8w X.K):=by
 intro pins s σ H x y v u Q I rx ry ⟨a,b,xs,ys,e1,e2,ha,hb,hl,d,q⟩
 subst e1 e2
 cases rx
 cases ry
 have hu:=hr.units
 obtain⟨us,r1,t1,_⟩:=I.tuple ha
 obtain⟨ws,r2,t2,_⟩:=I.tuple hb
 have l1:=r1.length
 have l2:=r2.length
 exact b5G t1 t2 (by simp;omega) (by omega) (c2r I r1 r2 (A:=X.A.in1) (by show X.A.units+1+3<cLine;omega) d) ⟨.bl false,H,I,rfl,q⟩
end
section
def c6q:List V->Hp->VK->Prop:=fun xs H Q=>∃i j,xs=[.int i,.int j]/\Q (.int (if j > i then j else i)) H
theorem b9q(hc:X.calm=true):X0 X (.builtin "max") c6q:=b9y hc
theorem b2o{prog:F3}{w:World}{K:Type}[DecidableEq K]{knd:KeyKind prog w K}{A:L7}{E:Value->o0->Prop}{d:Addr}{kvs:List (K×Value)}{k:K}{key dflt:Value}{Q:Value->o0->Prop}(hkey:knd.is k key=true)(hm:s.heap.DictOf knd d kvs)
  (h1:∀v,a6a kvs k=some v->Q v { s with toks:=s.toks+1 })
  (h2:a6a kvs k=none->∀h',h'.DictOf knd d (stored kvs k dflt)->Heap.SameBut d s.heap h'->Q dflt { s with heap:=h',toks:=s.toks+1 })
  (hsz:kvs.length<=v6):wpAny (model prog w) A (dictSetDefault d key dflt) Q E s:=by
 have hmap:=hm.mapOf
 obtain⟨o,es,ep,ho,hc,hd,hk,hp,hn⟩:=hm
 have hf:∀k,findBy knd.is es k=a6a kvs k:=fun k=>by
  rw[<-hp.find k]
  obtain⟨l⟩:=es
  simp[findBy]
 have hes:es.size<=v6:=by
  have e1:=hp.length
  have e2:es.toList.length=es.size:=by simp
  omega
 unfold dictSetDefault
 try with_reducible refine a2w ?_
 refine u6 (knd.pyHash hkey ?_)
 refine u6 (wpAny_dictFind_of (s:={ s with toks:=s.toks+1 }) hkey ho hd hk ?_)
 have hidx:(es.findIdx? fun e=>knd.is k e.key)=kvs.findIdx? fun kv=>decide (kv.1=k):=by
  rw[<-hp.findIdx k];obtain⟨l⟩:=es;simp
 cases hi:es.findIdx? fun e=>knd.is k e.key with
 | some i=>
  have hfk:a6a kvs k=(es[i]?).map (·.val):=by rw[<-hf k,findBy_of_findIdx?,hi]
  refine u6 (wpAny_dictEntries (s:={ s with toks:=s.toks+1 }) ho hd ?_)
  cases he:es[i]? with
  | none=>
   exfalso
   have:=Array.findIdx?_eq_some_iff_findIdx_eq.mp hi
   have hlt:i<es.size:=this.1
   rw[a3P hlt]at he
   exact nomatch he
  | some e=>
   rw[he]at hfk
   exact u6 (wpAny_rule (E5 (h1 e.val hfk)))
 | none=>
  have hfk:a6a kvs k=none:=by rw[<-hf k,findBy_of_findIdx?,hi]
  have hnot:k∉kvs.map (·.1):=not_mem_of_findIdx_none (hidx ▸ hi)
  have hany:¬(kvs.any fun kv=>decide (kv.1=k))=true:=by
   rw[b0T];rintro⟨kv,hkv,he⟩
   exact hnot (D8.mpr ⟨kv,hkv,of_decide_eq_true he⟩)
  refine u6 (wpAny_rule (u6 (wpAny_updateDictKeys (hz:=hes) (s:={ s with toks:=s.toks+1 }) ho hd (E5 (h2 hfk _ ⟨_,_,ep+1,a5Z _ ho (Obj.isFreed_of_dict (Obj.data_mapDictKeys hd _)),
   hc.mapDictKeys _,Obj.data_mapDictKeys hd _,hk.push hkey _,?_,?_⟩ (Heap.SameBut.update ..))))))
  ·rw[stored,if_neg hany]
   have:=hp.append hkey (knd.hash k) dflt
   obtain⟨l⟩:=es
   simpa using this
  ·rw[stored,if_neg hany,D7,a9g]
   refine⟨hn,by simp,?_⟩
   intro a ha b hb
   simp only[G8,a9i,z9]at hb
   subst hb
   exact fun e=>hnot (e ▸ ha)
def b2G:V->List V->Hp->VK->Prop:=fun x vs H Q=>∃a k v kvs,x=.ref a/\vs=[kV k,v]/\H a=some (.dK kvs)/\kvs.length<v6/\(∀u,a0v kvs k=some u->Q u H)/\(a0v kvs k=none->Q v (upd H a (.dK (a2g kvs k v))))
theorem b6w:MtR X "dict.setdefault" b2G:=fun pins s σ H x xs v us Q I rx rv h=>by
 obtain⟨a,k,y,kvs,rfl,rfl,ha,hl,q1,q2⟩:=h
 cases rx
 obtain⟨u,r,rfl⟩:∃u r,us=[u,r]:=by
  cases rv with
  | cons h1 h2=>cases h2 with
   | cons h3 h4=>cases h4;exact⟨_,_,rfl⟩
 have ru:J1 (kV k) u:=by cases rv with | cons h1 _=>exact h1
 have rr:J1 y r:=by cases rv with | cons _ h2=>cases h2 with | cons h3 _=>exact h3
 obtain⟨z,hd,vs,rel,dd⟩:=a5i I.hok ha
 have hz:vs.length<=v6:=by rw[<-rel.length];exact z
 have hlp:(a2g kvs k y).length<=v6:=by have:=a3e kvs k y;omega
 refine a8m b0N dd.typeIs PySem.F.entry_dict_setdefault ?_ (PySem.F.args_dict_setdefault_3 _ _ _)
 unfold Builtin.«dict.setdefault»
 refine u6 ?_
 unfold Builtin.Dict.keyAndDefault
 refine u6 (c8o dd.typeIs ?_)
 show wpAny _ _ (pure (a,u,some r)) _ _ s
 refine E5 ?_
 show wpAny _ _ (if(a == a1K)=true then _ else (dictSetDefault a u r >>= _)) _ _ s
 rw[if_neg (by rw[hd];exact A4)]
 refine u6 (b2o (b0p ru) dd (fun v hv=>?_) (fun hn h' dd' hs=>?_) hz)
 ·have rv:=rel.val k
  rw[hv]at rv
  cases e:a0v kvs k with
  | none=>rw[e]at rv;exact rv.elim
  | some w=>
   rw[e]at rv
   exact E5 ⟨v,rfl,w,H,I.tok _,rv,q1 w e⟩
 ·have rv:=rel.val k
  rw[hn]at rv
  cases e:a0v kvs k with
  | some w=>rw[e]at rv;exact rv.elim
  | none=>
   have he:∃q,h'.get? a=some q:=let⟨q,_,_,hq,_⟩:=dd'; ⟨q,hq⟩
   exact E5 ⟨r,rfl,y,_,a8V I (by rw[ha];exact True.intro) hs he (b3p hlp hd (rel.put k rr) dd'),rr,q2 e⟩
def c1h:R2:=fun x y H Q=>∃a b k1 k2,x=.ref a/\y=.ref b/\H a=some (.dK k1)/\H b=some (.dK k2)/\k1.all (fun p=>N4 p.2)=true/\(∀k y,a0v k2 k=some y->N4 y=true)/\Q (.bl (k1.length == k2.length&&b3j k2 k1)) H
theorem c4d(hu:X.A.units<cLine):OpR X (A3 .Eq) c1h:=by
 intro pins s σ H x y v u Q I rx ry ⟨a,b,k1,k2,e1,e2,h1,h2,f1,f2,q⟩
 subst e1 e2
 cases rx
 cases ry
 obtain⟨_,ha,va,r1,d1⟩:=a5i I.hok h1
 obtain⟨_,hb,vb,r2,d2⟩:=a5i I.hok h2
 have l1:=Paired.length r1
 have l2:=Paired.length r2
 refine c4X ha hb d1 d2 hu (fun _=>b4U r2 f2 r1 f1) ?_
 rw[<-l1,<-l2]
 exact⟨.bl _,H,I,rfl,q⟩
def c1g:R2:=fun x y H Q=>∃b c,x=.bl b/\y=.bl c/\Q (.bl (!(b == c))) H
theorem c1I:OpR X (A3 .IsNot) c1g:=by
 intro pins s σ H x y v u Q I rx ry ⟨b,c,e1,e2,q⟩
 subst e1 e2
 cases rx
 cases ry
 exact wpAny_isNot_plain rfl (O1 I q (by cases b <;> cases c <;> rfl))
end
end L2
namespace Y
open PySem PySem.Spec PyProof.Rows L2
structure y'E(X:Cx)(e:Expr)(t:TE):Prop where h:PE X e t
structure y'A(X:Cx)(e:List Expr)(t:TA):Prop where h:PA X e t
structure y'S(X:Cx)(e:Stmt)(t:TS):Prop where h:PS X e t
structure b0V(X:Cx)(e:List Stmt)(t:TS):Prop where h:PSs X e t
structure y'T(X:Cx)(e:Expr)(t:TT):Prop where h:PT X e t
structure y'W(X:Cx)(e:Expr)(t:TT):Prop where h:PW X e t
structure c0e(X:Cx)(e:List Expr)(t:TT):Prop where h:PTs X e t
structure b2d(X:Cx)(tg e:Expr)(t:TI):Prop where h:PI X tg e t
structure y'G(X:Cx)(e:Expr)(t:TG):Prop where h:PG X e t
structure c2Z(X:Cx)(e:List Expr)(t:TGs):Prop where h:PGs X e t
structure y'O(X:Cx)(e:Option Expr)(t:TO):Prop where h:PO X e t
structure U5(X:Cx)(f:Value->Value->Sem Value)(r:R2):Prop where h:OpR X f r
structure c5c(X:Cx)(f:Value->Sem Value)(r:V->Hp->VK->Prop):Prop where h:UnR X f r
structure Z2(X:Cx)(f:Value)(r:List V->Hp->VK->Prop):Prop where h:X0 X f r
structure a8p(X:Cx)(id:String)(r:V->List V->Hp->VK->Prop):Prop where h:MtR X id r
structure c0g(X:Cx)(r:R2):Prop where h:IxR X r
structure c0f(X:Cx)(r:V->Option Int->Option Int->Hp->VK->Prop):Prop where h:SlR X r
structure b5E(X:Cx)(t:b1j):Prop where h:c2D X t
structure c0h(X:Cx)(t:V->V->Hp->VK->Prop):Prop where h:c8a X t
structure c5d(X:Cx)(op:b9L)(t:TIp):Prop where h:PIp X op t
section
variable {X:Cx}{st:Stmt}{rest:List Stmt}{t u:TS}{e a b c o i:Expr}{es more:List Expr}{te ta tb tc to ti:TE}{tt tu:TT}{tr:TA}{pos p pos':Pos}{x:Str}
theorem o8:b0V X [] E9:=⟨L2.c3B⟩
theorem b9(h1:y'S X st t)(h2:b0V X rest u):b0V X (st::rest) (A0 t u):=⟨L2.c1o h1.h h2.h⟩
theorem c7(h1:y'S X st t):b0V X [st] t:=⟨L2.c3A h1.h⟩
theorem b9W{n:Nat}(hN:X.N.Nodup)(hi:X.N[n]? = some x)(hx:Loc X.env.scope x)(he:y'E X e te)(hs:a2x e (some (.Name x pos')) pos.line X.env=pure false:=by rfl)(hf:X.fn x=true\/X.env.scope.names.lookup x=some .local:=by first | exact .inl rfl | exact .inr rfl) :
  y'S X (.Assign [.Name x pos'] e pos) (F0 te (u9 n)):=⟨L2.c6x hN hi hx he.h hs hf⟩
theorem a1s{tg:Expr}{g:TG}(he:y'E X e te)(hg:y'G X tg g)(hs:swapsWithSole [tg] e pos.line X.env=pure false:=by rfl)(hw:swappedStores [tg] e X.env=pure none:=by rfl)
  (h1:(a1L [tg] X.env).map (·.2)=[b1o tg X.env]:=by rfl):y'S X (.Assign [tg] e pos) (F0 te g):=⟨L2.c6B he.h hg.h hs hw h1⟩
theorem b7Y{tget:V->V->Hp->VK->Prop}{tip:TIp}{tset:b1j}{op:b9L}(ho:y'E X o to)(hi:y'E X i ti)(hg:c0h X tget)(he:y'E X e te)(hp:c5d X op tip)(hs:b5E X tset)
  (ha:∀ov iv new,augStore i ov iv new=(do a4H [new,ov,iv] (c5F ov iv new);release [new,ov,iv] [];pure .next):=by intros;rfl):y'S X (.AugAssign (.Subscript o i p) op e pos) (b7t to ti te tget tip tset):=⟨L2.c3E ho.h hi.h hg.h he.h hp.h hs.h ha⟩
theorem A5{la lb:List Stmt}(hc:y'T X c tt)(ha:b0V X la t)(hb:b0V X lb u):y'S X (.If c la lb pos) (K9 tt t u):=⟨L2.c8X hc.h ha.h hb.h⟩
theorem g9(he:y'E X e te):y'S X (.Return (some e) pos) (G7 te):=⟨L2.c6y he.h⟩
theorem N9(he:y'E X e te)(hs:a2x e none pos.line X.env=pure false:=by rfl):y'S X (.Expr e pos) (a0L te):=⟨L2.c3C he.h hs⟩
theorem Q8{tg:Expr}{wi:TI}{g:TG}{body:List Stmt}(hp:c8t (model X.prog X.w) X.A X.env X.xe)(hc:X.calm=true)(hi:b2d X tg e wi)(hg:y'G X tg g)(hb:b0V X body t)
  (hs:∀x,Y9 e X.env x=pure x:=by intro _;rfl):y'S X (.For tg e body [] pos) (a2C wi g t):=⟨L2.c6z hp hc hi.h hg.h hb.h hs⟩
theorem b7Z{n:Nat}(hN:X.N.Nodup)(hi:X.N[n]? = some x)(hx:Loc X.env.scope x)(hf:X.fn x=true\/X.env.scope.names.lookup x=some .local:=by first | exact .inl rfl | exact .inr rfl):y'G X (.Name x pos) (u9 n):=⟨L2.b2L hN hi hx hf⟩
theorem a1O:c2Z X [] b0t:=⟨L2.b7E⟩
theorem J9{g:TG}{gs:TGs}(h1:y'G X e g)(h2:c2Z X es gs)(h:(a1L (e::es) X.env).map (·.2)=b1o e X.env::(a1L es X.env).map (·.2):=by rfl):c2Z X (e::es) (a0e g gs):=⟨L2.a9Y h1.h h2.h h⟩
theorem a2A{k n:Nat}{gs:TGs}(hc:X.calm=true)(h:c2Z X es gs)(hn:(a1L es X.env).length=n:=by rfl)(hst:(a1L es X.env).findIdx? (·.1)=none:=by rfl):y'G X (.Tuple es k pos) (b0s X.K n gs):=⟨L2.c1t hc h.h hn hst⟩
theorem a3C{ts:b1j}(ho:y'E X o to)(hi:y'E X i ti)(hs:b5E X ts)
  (ha:∀v,b1o (.Subscript o i pos) X.env v=(do
   let ov <-a4H [v] (eval o X.env)
   let iv <-a4H [v,ov] (eval i X.env)
   b9R pos
   a4H [v,ov,iv] (c5F ov iv v)
   release [v,ov,iv] []):=by intro _;rfl):y'G X (.Subscript o i pos) (b3m to ti ts):=⟨L2.c6F ho.h hi.h hs.h ha⟩
theorem L5{tg:Expr}(hg:Gl X "range")(hm:X.mg "range" = none)(ha:y'A X [a] tr)(hs:i8 [a] X.env=[(false,eval a X.env)]:=by rfl):b2d X tg (.Call (.Name "range" p) [a] [] pos) (a1l tr):=⟨L2.b8C hg hm ha.h hs⟩
theorem Q1{tg:Expr}(h:y'E X e te):b2d X tg e (a0M X.K te):=⟨L2.c3I h.h⟩
theorem G6:y'A X [] c9:=⟨L2.c6U⟩
theorem O0(ha:y'E X e te)(hr:y'A X es tr)(hs:i8 (e::es) X.env=(false,eval e X.env)::i8 es X.env:=by rfl):y'A X (e::es) (b6 te tr):=⟨L2.c3T ha.h hr.h hs⟩
theorem N8:c0e X [] a0b:=⟨L2.c3y⟩
theorem b1p(h:y'T X e tt):c0e X [e] tt:=⟨L2.c3x h.h⟩
theorem R8{elt iter:Expr}{px:Pos}{ifs:List Expr}{scope:Scope}{wi:TI}(hc:U1 X.N X.env.scope scope x)(hcalm:X.calm=true)(hi:b2d X (.Name x px) iter wi)
  (ht:∀cl C fp s3 H3,c0e (X6 X scope cl C x fp s3 H3) ifs tt) (he:∀cl C fp s3 H3,y'E (X6 X scope cl C x fp s3 H3) elt te)
  (hs:∀x,Y9 iter X.env x=pure x:=by intro _;rfl):y'E X (.ListComp elt [⟨.Name x px,iter,ifs,0⟩] scope pos) (a0c wi tt te):=
 ⟨L2.c3O hc hcalm hi.h (fun cl C fp s3 H3=>(ht cl C fp s3 H3).h) (fun cl C fp s3 H3=>(he cl C fp s3 H3).h) hs⟩
theorem a3T{elt iter:Expr}{px py spos:Pos}{ifs:List Expr}{scope:Scope}{wi:TI}{n:Nat}{y:Str}(hN:X.N.Nodup)(hiy:X.N[n]? = some y)(hy:X.env.scope.names.lookup y=some .local)(hc:U1 X.N X.env.scope scope x)(hcalm:X.calm=true)(hi:b2d X (.Name x px) iter wi)
  (ht:∀cl C fp s3 H3,c0e (X6 X scope cl C x fp s3 H3) ifs tt) (he:∀cl C fp s3 H3,y'E (X6 X scope cl C x fp s3 H3) elt te)
  (hsw:a2x (.ListComp elt [⟨.Name x px,iter,ifs,0⟩] scope pos) (some (.Name y py)) spos.line X.env=pure true:=by rfl)
  (hs:∀x,Y9 iter X.env x=pure x:=by intro _;rfl) :
  y'S X (.Assign [.Name y py] (.ListComp elt [⟨.Name x px,iter,ifs,0⟩] scope pos) spos) (fun D σ H=>a0c wi tt te σ H fun v H1=>D.nx (σ.set n (some v)) H1):=
 ⟨L2.b6g hN hiy hy hc hcalm hi.h (fun cl C fp s3 H3=>(ht cl C fp s3 H3).h) (fun cl C fp s3 H3=>(he cl C fp s3 H3).h) hsw hs⟩
theorem b7{n:Int}{j}:y'E X (.Constant (.int n) j pos) (tC (.int n)):=⟨L2.c6P⟩
theorem L8{v:Bool}{j}:y'E X (.Constant (.bool v) j pos) (tC (.bl v)):=⟨L2.c9e⟩
theorem a4K{j}:y'E X (.Constant .none j pos) (tC .non):=⟨L2.c6M⟩
theorem p8{j}:y'E X (.Constant (.str x) j pos) (tC (.str x)):=⟨L2.c6I⟩
theorem c6(n:Nat)(hN:X.N[n]? = some x:=by rfl)(hv:Vis X.env.scope x:=by first | exact Or.inl rfl | exact Or.inr (Or.inl rfl) | exact Or.inr (Or.inr rfl))(hd:(x == ("__debug__" : Str))=false:=by decide)
  (hcd:(x == ("__classdict__" : Str))=false:=by decide):y'E X (.Name x pos) (c5 n):=⟨L2.c6G hN hv hd hcd⟩
theorem U4{v:V}{u:Value}(hg:Gl X x)(hm:X.mg x=none)(hv:W8 x=some u)(r:J1 v u)(hn:x ≠ "__name__" := by decide)(hd:(x == ("__debug__" : Str))=false:=by decide):y'E X (.Name x pos) (tC v):=⟨L2.c3R hg hm hv r hn hd⟩
theorem T2{v:V}(hm:∃u,X.mg x=some u/\J1 v u)(hg:Gl X x)(hd:(x == ("__debug__" : Str))=false:=by decide):y'E X (.Name x pos) (tC v):=by
 obtain⟨u,h1,h2⟩:=hm
 exact⟨L2.c3M hg h1 h2 hd⟩
theorem v7{op:b9L}{r:R2}(ho:U5 X (a0a op) r)(ha:y'E X a ta)(hb:y'E X b tb):y'E X (.BinOp a op b pos) (tOp r ta tb):=⟨L2.c9a ho.h ha.h hb.h⟩
theorem a2n{op:UnaryOp}{r:V->Hp->VK->Prop}(ho:c5c X (unaryOp op) r)(ha:y'E X a ta):y'E X (.UnaryOp op a pos) (tUn r ta):=⟨L2.c8Y ho.h ha.h⟩
theorem b3U(ha:y'E X a ta):y'E X (.UnaryOp .Not a pos) (b1z ta):=⟨L2.c6L ha.h⟩
theorem U3{op:CmpOp}{r:R2}(ho:U5 X (A3 op) r)(ha:y'E X a ta)(hb:y'E X b tb)(hm:T9 op b=false):y'E X (.Compare a [op] [b] pos) (tOp r ta tb):=⟨L2.c3P ho.h ha.h hb.h hm⟩
theorem T1{op:CmpOp}{r:R2}(ho:U5 X (A3 op) r)(ha:y'E X a ta)(hb:y'E X b tb)(hm:T9 op b=false):y'T X (.Compare a [op] [b] pos) (D0 (tOp r ta tb)):=⟨L2.c3z ho.h ha.h hb.h hm⟩
theorem a3U{op op':CmpOp}{r r':R2}(ho:U5 X (A3 op) r)(ho':U5 X (A3 op') r')(ha:y'E X a ta)(hb:y'E X b tb)(hc:y'E X c tc)
  (hm:c8r [op,op'] [b,c]=false:=by with_unfolding_all rfl):y'E X (.Compare a [op,op'] [b,c] pos) (a3o r r' ta tb tc):=⟨L2.c1z ho.h ho'.h ha.h hb.h hc.h hm⟩
theorem b5B{op op':CmpOp}{r r':R2}(ho:U5 X (A3 op) r)(ho':U5 X (A3 op') r')(ha:y'E X a ta)(hb:y'E X b tb)(hc:y'E X c tc)
  (hm:c8r [op,op'] [b,c]=false:=by with_unfolding_all rfl):y'T X (.Compare a [op,op'] [b,c] pos) (D0 (a3o r r' ta tb tc)):=⟨L2.c1n ho.h ho'.h ha.h hb.h hc.h hm⟩
theorem Q9{op}(h:y'E X a te):y'E X (.BoolOp op [a] pos) te:=⟨L2.c6K h.h⟩
theorem M9(ha:y'E X a ta)(hb:y'E X (.BoolOp .And (b::more) pos) tb):y'E X (.BoolOp .And (a::b::more) pos) (Y0 ta tb):=⟨L2.c6T ha.h hb.h⟩
theorem c2V(ha:y'E X a ta)(hb:y'E X (.BoolOp .Or (b::more) pos) tb):y'E X (.BoolOp .Or (a::b::more) pos) (c3e ta tb):=⟨L2.c8Z ha.h hb.h⟩
theorem a1P(hc:y'T X c tt)(ha:y'E X a ta)(hb:y'E X b tb):y'E X (.IfExp c a b pos) (tIf tt ta tb):=⟨L2.c1v hc.h ha.h hb.h⟩
theorem D5{k}(h:y'A X es tr):y'E X (.Tuple es k pos) (V1 tr):=⟨L2.c6H h.h⟩
theorem v8(h:y'A X es tr):y'E X (.List es pos) (L6 tr):=⟨L2.c6O h.h⟩
theorem a1h:y'O X none a1v:=⟨L2.c3H⟩
theorem a1g(h:y'E X e te):y'O X (some e) (a4S te):=⟨L2.c3G h.h⟩
theorem a0y{lo hi:Option Expr}{tl th:TO}{r:V->Option Int->Option Int->Hp->VK->Prop}(hr:c0f X r)(he:y'E X e te)(hl:y'O X lo tl)(hu:y'O X hi th):y'E X (.Subscript e (.Slice lo hi none p) pos) (tSl r te tl th):=⟨L2.c1u hr.h he.h hl.h hu.h⟩
theorem a1S{r:R2}(hr:c0g X r)(ha:y'E X a ta)(hb:y'E X b tb)(hs:b3E b):y'E X (.Subscript a b pos) (tOp r ta tb):=⟨L2.c9c hr.h ha.h hb.h hs⟩
theorem b9Z{k j:Nat}{ps:List Str}{sp:Sp}(C:F8 X.prog X.w X.K X.mg X.base k x ps sp)(hr:T3 j X.A)(hk:k<=j)(hg:Gl X x)(ha:y'A X (e::es) tr)
  (hdb:(x == ("__debug__" : Str))=false:=by decide) (he:i8 (e::es) X.env=(false,eval e X.env)::i8 es X.env:=by rfl) (hpl:(a0m pos (i8 es X.env)).any (·.1)=false:=by rfl) :
  y'E X (.Call (.Name x p) (e::es) [] pos) (w6 sp [] E0 tr):=⟨L2.c6J C hr hk hg ha.h hdb he hpl⟩
theorem o6{id:String}{r:List V->Hp->VK->Prop}(hc:Z2 X (.builtin id) r)(hg:Gl X x)(hm:X.mg x=none)(hv:W8 x=some (.builtin id))(ha:y'A X (e::es) tr)(hn:x ≠ "__name__" := by decide)(hdb:(x == ("__debug__" : Str))=false:=by decide)
  (he:i8 (e::es) X.env=(false,eval e X.env)::i8 es X.env:=by rfl) (hpl:(a0m pos (i8 es X.env)).any (·.1)=false:=by rfl):y'E X (.Call (.Name x p) (e::es) [] pos) (tCB r tr):=⟨L2.c1A hc.h hg hm hv ha.h hn hdb he hpl⟩
theorem I0{id:String}{r:List V->Hp->VK->Prop}(hc:Z2 X (.type id) r)(hg:Gl X x)(hm:X.mg x=none)(hv:W8 x=some (.type id))(ha:y'A X (e::es) tr)(hn:x ≠ "__name__" := by decide)(hdb:(x == ("__debug__" : Str))=false:=by decide)
  (he:i8 (e::es) X.env=(false,eval e X.env)::i8 es X.env:=by rfl) (hpl:(a0m pos (i8 es X.env)).any (·.1)=false:=by rfl):y'E X (.Call (.Name x p) (e::es) [] pos) (tCB r tr):=⟨L2.b8D hc.h hg hm hv ha.h hn hdb he hpl⟩
theorem Z1{ty id:String}{name:Str}{r:V->List V->Hp->VK->Prop}{apos:Pos}(pa:c5a ty)(slot:Slot ty name id)(hty:typeOf (.builtin id)=pure (.type "method_descriptor"))(hm:a8p X id r)(ho:y'E X o to)(ha:y'A X (e::es) tr)
  (hbase:a0n o name X.env (eval o X.env)=eval o X.env:=by rfl)
  (hfew:((a0m pos (i8 (e::es) X.env)).all (fun x => !x.1)&&(b0Q pos (a3m [] X.env)).all (fun x=>x.1.isSome)
   && decide ((e::es).length+([]:List a7x).length+(if([]:List a7x).isEmpty then 0 else 1)<30))=true:=by rfl)
  (hline:(apos.endLine == pos.line)=true:=by rfl) (hs:i8 (e::es) X.env=(false,eval e X.env)::i8 es X.env:=by rfl) (hplain:(a0m pos (i8 es X.env)).any (·.1)=false:=by rfl) :
  y'E X (.Call (.Attribute o name apos) (e::es) [] pos) (tBM X.K ty r to tr):=⟨L2.c9d pa slot hty hm.h ho.h ha.h hbase hfew hline hs hplain⟩
theorem Q7(ha:y'T X a tt):y'T X (.UnaryOp .Not a pos) (a2T tt):=⟨L2.c6w ha.h⟩
theorem a0H(ha:y'T X a tt):y'W X (.BoolOp .And [a] pos) tt:=⟨L2.c3u ha.h⟩
theorem W9(ha:y'T X a tt):y'W X (.BoolOp .Or [a] pos) tt:=⟨L2.c6s ha.h⟩
theorem a1r(ha:y'T X a tt)(hb:y'W X (.BoolOp .And (b::more) pos) tu):y'W X (.BoolOp .And (a::b::more) pos) (a8F tt tu):=⟨L2.c6t ha.h hb.h⟩
theorem T5(ha:y'T X a tt)(hb:y'W X (.BoolOp .Or (b::more) pos) tu):y'W X (.BoolOp .Or (a::b::more) pos) (tOr tt tu):=⟨L2.c8W ha.h hb.h⟩
theorem Q4(h:y'W X e tt):y'T X e tt:=⟨PW.pt h.h⟩
theorem O4(h:y'E X e te)(he:∀whole,isTrue e X.env whole=(do let v <-whole;b9R e.pos;a4H [v] (truthy v)):=by intro _;rfl):y'T X e (tB te):=⟨L2.c6v h.h he⟩
theorem E3:U5 X (a0a .Add) X1:=⟨L2.c4g⟩
theorem W4:U5 X (a0a .Sub) a6k:=⟨L2.c3U⟩
theorem a1i:U5 X (a0a .Mult) b1a:=⟨L2.c3Z⟩
theorem a4M:U5 X (a0a .Mult) b6a:=⟨L2.c6X⟩
theorem P7:U5 X (a0a .Mod) a3K:=⟨L2.c4a⟩
theorem a7y:U5 X (a0a .FloorDiv) c1i:=⟨L2.c4f⟩
theorem C1{k:Nat}(hr:T3 k X.A):U5 X (A3 .Eq) qEq:=⟨L2.c7f hr.units0⟩
theorem a2a{k:Nat}(hr:T3 k X.A):U5 X (A3 .NotEq) qNe:=⟨L2.c6Y hr.units0⟩
theorem V5:Z2 X (.type "list") a2J:=⟨L2.b6S⟩
theorem X8:U5 X (A3 .Lt) qLt:=⟨L2.c6Z⟩
theorem a3E:U5 X (A3 .LtE) qLe:=⟨L2.c7a⟩
theorem a1u:U5 X (A3 .Gt) qGt:=⟨L2.c7d⟩
theorem c0c:U5 X (A3 .GtE) qGe:=⟨L2.c7e⟩
theorem a4O:U5 X (A3 .In) (qIn false):=⟨L2.c7c⟩
theorem a4N:U5 X (A3 .NotIn) (qIn true):=⟨L2.b8G⟩
theorem c0b:U5 X (A3 .Is) qIs:=⟨L2.c7b⟩
theorem b3X:U5 X (A3 .IsNot) b6c:=⟨L2.b8H⟩
theorem a0g:Z2 X (.type "dict") a3c:=⟨L2.b6V⟩
theorem a4P:Z2 X (.type "int") b6d:=⟨L2.b9t⟩
theorem a0z:y'E X (.Dict [] [] pos) a2D:=⟨L2.c1w⟩
theorem c0a{k:Nat}(hr:T3 k X.A)(hi:y'E X i ti)(ho:y'E X o to)(h1:T9 .In o=false):y'E X (.Compare i [.In] [o] pos) (b2g ti to):=⟨L2.c6R (L2.c1B (b4T hr) hi.h ho.h) h1⟩
theorem b3T{k:Nat}(hr:T3 k X.A)(hi:y'E X i ti)(ho:y'E X o to)(h1:T9 .In o=false):y'T X (.Compare i [.In] [o] pos) (tB (b2g ti to)):=⟨L2.c1m (L2.c1B (b4T hr) hi.h ho.h) h1⟩
theorem a0q{k:Nat}(hr:T3 k X.A)(ho:y'E X o to)(hi:y'E X i ti)(hv:y'E X e te)(hs:a2x e (some (.Subscript o i pos')) pos.line X.env=pure false:=by rfl):y'S X (.Assign [.Subscript o i pos'] e pos) (a2l to ti te):=⟨L2.c3D (b4T hr) ho.h hi.h hv.h hs⟩
theorem a6c{k:Nat}{apos:Pos}{f:Expr}{tf:TE}(hr:T3 k X.A)(ho:y'E X o to)(he:y'E X e te)(hf:y'E X f tf)(m1:a0n o "get" X.env (eval o X.env)=eval o X.env:=by rfl)
  (m2:((a0m pos (i8 [e,f] X.env)).all (fun x => !x.1)&&(b0Q pos (a3m [] X.env)).all (fun x=>x.1.isSome)
   && decide (([e,f]:List Expr).length+([]:List a7x).length+(if([]:List a7x).isEmpty then 0 else 1)<30))=true:=by rfl)
  (m3:(apos.endLine == pos.line)=true:=by rfl) (m4:a0m pos (i8 [e,f] X.env)=[(false,eval e X.env),(false,eval f X.env)]:=by rfl) :
  y'E X (.Call (.Attribute o "get" apos) [e,f] [] pos) (a7B to te tf):=⟨L2.c1x (b4T hr) ho.h he.h hf.h ⟨m1,m2,m3,m4⟩⟩
theorem b9Y{tg:Expr}(h:y'E X e te):b2d X tg e (c4D te):=⟨L2.c6E h.h⟩
theorem a8o(hc:X.calm=true):Z2 X (.builtin "all") b2H:=⟨L2.b9v hc⟩
theorem a1q:c5c X (unaryOp .USub) (rU fun i=>.int (-i)):=⟨L2.c5J⟩
theorem c5I:c0g X qIx:=⟨L2.c9U⟩
theorem a6b:c0f X qSl:=⟨L2.c9I⟩
theorem b7X:c0f X (c6g X.K):=⟨L2.b7u⟩
theorem a3S:b5E X a6Y:=⟨L2.c8x⟩
theorem c2X:c0h X b8y:=⟨L2.c9r⟩
theorem c0d:c5d X .Add (ipI fun i j=>i+j):=⟨L2.c7J⟩
theorem A6:Z2 X (.builtin "len") V7:=⟨L2.b9r⟩
theorem b4c:Z2 X (.builtin "abs") c1j:=⟨L2.b9w⟩
theorem Q2:Z2 X (.builtin "isinstance") a4g:=⟨L2.b9s⟩
theorem R3:a8p X "list.append" Z3:=⟨L2.b6y⟩
theorem b5D:a8p X "str.join" a9V:=⟨L2.c1V⟩
end
theorem b3Z{P:F3}{w:World}{K:Fg}{mg:Str->Option Value}{base:Heap}{x qual:Str}{st:Stmt}{f:Addr}{fd:a0w}{N ps:List Str}{k:Nat}{sp:Sp}(F:Fun K x qual st f fd)(y'S:D1 N ps (l9 st))(len:∀vs H Q y'E,sp vs H Q y'E->vs.length=ps.length)
  (hbody:∀(cdv:Value) (y'A:L7) (outer:List Env) (s:o0) (H:Hp) (vs:List V) (Q:VK) (y'E:XK),T3 k (y'A.deeper (b3S qual (l9 st) s.heap.objs.size f cdv))->sp vs H Q y'E ->
   ∃t,b0V (b5a CX0 P w K mg base N qual (l9 st) f cdv y'A outer s H y'E).nox (a1B st) t/\t { nx:=fun _ H'=>Q .non H',rt:=Q } (a6L N vs) H):N5 P w K mg base CX0 (k+1) f fd ps sp:=
 F.ok y'S len fun cdv y'A outer s H vs Q y'E hr h=>let⟨t,a,b⟩:=hbody cdv y'A outer s H vs Q y'E hr h; ⟨t,a.h,b⟩
end Y
namespace Y
open PySem PySem.Spec PyProof.Rows L2
section
variable {X:Cx}{st:Stmt}{rest:List Stmt}{t u:TS}{e a b c o i:Expr}{es more:List Expr}{te ta tb tc to ti:TE}{tt tu:TT}{tr:TA}{pos p pos':Pos}{x y:Str}
theorem a3B{elts:List Expr}{x1}{tp:Pos}(hg:Gl X "enumerate")(hm:X.mg "enumerate" = none)(ha:y'A X [a] tr)(hs:i8 [a] X.env=[(false,eval a X.env)]:=by rfl) :
  b2d X (.Tuple elts x1 tp) (.Call (.Name "enumerate" p) [a] [] pos) (a8z X.K tr):=⟨L2.c3J hg hm ha.h hs⟩
theorem b9X{elts:List Expr}{x1}{tp:Pos}(hg:Gl X "zip")(hm:X.mg "zip" = none)(ha:y'A X [a,b] tr)(hs:i8 [a,b] X.env=[(false,eval a X.env),(false,eval b X.env)]:=by rfl)(hs2:i8 [b] X.env=[(false,eval b X.env)]:=by rfl) :
  b2d X (.Tuple elts x1 tp) (.Call (.Name "zip" p) [a,b] [] pos) (c4C X.K tr):=⟨L2.c6D hg hm ha.h hs hs2⟩
theorem a9p{elt iter:Expr}{px py pt:Pos}{kt}{ifs:List Expr}{scope:Scope}{wi:TI}(hc:a4s X.N X.env.scope scope x y)(hcalm:X.calm=true)(hi:b2d X (.Tuple [.Name x px,.Name y py] kt pt) iter wi)
  (ht:∀cl C fp s3 H3,c0e (V9 X scope cl C x y fp s3 H3) ifs tt) (he:∀cl C fp s3 H3,y'E (V9 X scope cl C x y fp s3 H3) elt te)
  (hs:∀x,Y9 iter X.env x=pure x:=by intro _;rfl):y'E X (.ListComp elt [⟨.Tuple [.Name x px,.Name y py] kt pt,iter,ifs,0⟩] scope pos) (a9A X.K wi tt te):=
 ⟨L2.c1y hc hcalm hi.h (fun cl C fp s3 H3=>(ht cl C fp s3 H3).h) (fun cl C fp s3 H3=>(he cl C fp s3 H3).h) hs⟩
theorem a9n{body:List Stmt}(hp:c8t (model X.prog X.w) X.A X.env X.xe)(hc:y'T X c tt)(hb:b0V X body t):y'S X (.While c body [] pos) (a9z tt t):=⟨L2.c1p hp hc.h hb.h⟩
theorem a2z{e c:Option Expr}:y'S X (.Raise e c pos) (fun _ _ _=>False):=⟨L2.c1q⟩
theorem a4L{f:Str}(he:y'E X e te)(hb:a0n e f X.env (eval e X.env)=eval e X.env:=by rfl):y'E X (.Attribute e f pos) (b4n X.K te f):=⟨L2.c6Q he.h hb⟩
theorem a9o{f:Str}(ha:y'E X o to)(hv:y'E X e te)(hs:a2x e (some (.Attribute o f pos')) pos.line X.env=pure false:=by rfl):y'S X (.Assign [.Attribute o f pos'] e pos) (b8u X.K to te f):=⟨L2.c6A ha.h hv.h hs⟩
theorem c2W{k j:Nat}{C:Addr}{ps:List Str}{sp:Sp}(M:b5o X.prog X.w X.K X.mg X.base k x C ps sp)(hr:T3 j X.A)(hk:k+1<=j)(hg:Gl X x)(ha:y'A X (e::es) tr)
  (hdb:(x == ("__debug__" : Str))=false:=by decide) (he:i8 (e::es) X.env=(false,eval e X.env)::i8 es X.env:=by rfl) (hpl:(a0m pos (i8 es X.env)).any (·.1)=false:=by rfl) :
  y'E X (.Call (.Name x p) (e::es) [] pos) (a6J C sp [] E0 tr):=⟨L2.c9b M hr hk hg ha.h hdb he hpl⟩
theorem b3V{pl:Sem Bool}{k j:Nat}{m:Str}{C:Addr}{ps:List Str}{sp:Sp}{apos:Pos}(M:a9d X.prog X.w X.K X.mg X.base k m C ps sp)(hr:T3 j X.A)(hk:k<=j)(ho:y'E X o to)(ha:y'A X (e::es) tr)
  (hst:i8 (e::es) X.env=(false,eval e X.env)::i8 es X.env:=by rfl) (hpl:(a0m pos (i8 es X.env)).any (·.1)=false:=by rfl)
  (ht:eval (.Call (.Attribute o m apos) (e::es) [] pos) X.env=(do
   let ov <-eval o X.env
   b9R apos.atName
   let(f,first) <-a4H [ov] (b9S ov m pl)
   callWith pos f first (a0m pos (i8 (e::es) X.env)) (b0Q pos (a3m [] X.env))):=by rfl) :
  y'E X (.Call (.Attribute o m apos) (e::es) [] pos) (b1A C m sp [] E0 to tr):=⟨L2.c6N (pl:=pl) M hr hk ho.h ha.h hst hpl ht⟩
theorem b3W{ty id:String}{name:Str}{r:V->List V->Hp->VK->Prop}{apos:Pos}(pa:c5a ty)(slot:Slot ty name id)(hty:typeOf (.builtin id)=pure (.type "method_descriptor"))(hm:a8p X id r)(ho:y'E X o to)
  (hbase:a0n o name X.env (eval o X.env)=eval o X.env:=by rfl) (hline:(apos.endLine == pos.line)=true:=by rfl):y'E X (.Call (.Attribute o name apos) [] [] pos) (c0s X.K ty r to):=⟨L2.c6S pa slot hty hm.h ho.h hbase hline⟩
structure c2Y(X:Cx)(pos:Pos)(ks:List (Option Expr))(vs:List Expr)(trs:List (TE×TE)):Prop where h:PPs X pos ks vs trs
theorem a3A:c2Y X pos [] [] []:=⟨L2.c3F⟩
theorem a1N{ks:List (Option Expr)}{vs:List Expr}{trs:List (TE×TE)}(hk:y'E X a ta)(hv:y'E X b tb)(hr:c2Y X pos ks vs trs):c2Y X pos (some a::ks) (b::vs) ((ta,tb)::trs):=⟨L2.c1r hk.h hv.h hr.h⟩
theorem a3D{keys:List (Option Expr)}{values:List Expr}{trs:List (TE×TE)}(h:c2Y X pos keys values trs)(hall:keys.all (·.isSome)=true:=by rfl)(hl:keys.length=values.length:=by rfl)(h0:keys≠[]:=by intro z;cases z)
  (h15:keys.length<=15:=by decide):y'E X (.Dict keys values pos) (a6K trs):=⟨L2.c3N h.h hall hl h0 h15⟩
theorem a4J{k:Nat}(hr:T3 k X.A)(hi:y'E X i ti)(ho:y'E X o to)(h1:T9 .NotIn o=false):y'T X (.Compare i [.NotIn] [o] pos) (tB (a5s ti to)):=⟨L2.c1m (L2.b8E (b4T hr) hi.h ho.h) h1⟩
theorem a8n(hc:X.calm=true):Z2 X (.builtin "min") b8x:=⟨L2.b9p hc⟩
theorem b4b(hc:X.calm=true):Z2 X (.builtin "any") b6e:=⟨L2.b9u hc⟩
theorem a9q:Z2 X (.builtin "sorted") a5A:=⟨L2.b3t⟩
theorem b0U(hc:X.calm=true):Z2 X (.type "list") a7J:=⟨L2.b5k hc⟩
theorem b2c:Z2 X (.builtin "isinstance") (c1f X.K):=⟨L2.b6U⟩
theorem b3Y:a8p X "list.index" a7K:=⟨L2.b8T⟩
theorem a6C:a8p X "list.extend" a4h:=⟨L2.b6x⟩
theorem b1t:a8p X "list.pop" b6b:=⟨L2.c4o⟩
theorem a1Q{k:Nat}(hr:T3 k X.A):U5 X (A3 .Eq) (a9X X.K):=⟨L2.c4c hr⟩
theorem b8a{k:Nat}(hr:T3 k X.A):U5 X (A3 .NotEq) (c6n X.K):=⟨L2.c3W hr⟩
theorem b1s{k:Nat}(hr:T3 k X.A):U5 X (A3 .Eq) (c3t X.K):=⟨L2.c4e hr⟩
theorem b8c{k:Nat}(hr:T3 k X.A):U5 X (A3 .NotEq) (c6p X.K):=⟨L2.c3Y hr⟩
theorem b2b:Z2 X (.builtin "len") (c1e X.K):=⟨L2.b6T⟩
theorem b8d:U5 X (A3 .In) (c6r X.K):=⟨L2.c4b⟩
theorem a2o:c0g X (a9W X.K):=⟨L2.c9p⟩
end
end Y
namespace Y
open PySem PySem.Spec PyProof.Rows L2
end Y
namespace Y
open PySem PySem.Spec PyProof.Rows L2
end Y
namespace Y
open PySem PySem.Spec PyProof.Rows L2
end Y
namespace Y
open PySem PySem.Spec PyProof.Rows L2
end Y
namespace Y
open PySem PySem.Spec PyProof.Rows L2
end Y
namespace Y
open PySem PySem.Spec PyProof.Rows L2
section
variable {X:Cx}{e0 e1 e2 e3 e4:Expr}{t0 t1 t2 t3 t4:TE}
theorem p9(h0:y'E X e0 t0)(s0:i8 [e0] X.env=(false,eval e0 X.env)::i8 [] X.env:=by rfl):y'A X [e0] (b6 t0 c9):=(O0 h0 G6 s0)
theorem v9(h0:y'E X e0 t0)(h1:y'E X e1 t1)(s0:i8 [e0,e1] X.env=(false,eval e0 X.env)::i8 [e1] X.env:=by rfl)(s1:i8 [e1] X.env=(false,eval e1 X.env)::i8 [] X.env:=by rfl):y'A X [e0,e1] (b6 t0 (b6 t1 c9)):=(O0 h0 (O0 h1 G6 s1) s0)
theorem a2B(h0:y'E X e0 t0)(h1:y'E X e1 t1)(h2:y'E X e2 t2)(s0:i8 [e0,e1,e2] X.env=(false,eval e0 X.env)::i8 [e1,e2] X.env:=by rfl)(s1:i8 [e1,e2] X.env=(false,eval e1 X.env)::i8 [e2] X.env:=by rfl)(s2:i8 [e2] X.env=(false,eval e2 X.env)::i8 [] X.env:=by rfl):y'A X [e0,e1,e2] (b6 t0 (b6 t1 (b6 t2 c9))):=(O0 h0 (O0 h1 (O0 h2 G6 s2) s1) s0)
theorem a0A(h0:y'E X e0 t0)(h1:y'E X e1 t1)(h2:y'E X e2 t2)(h3:y'E X e3 t3)(s0:i8 [e0,e1,e2,e3] X.env=(false,eval e0 X.env)::i8 [e1,e2,e3] X.env:=by rfl)(s1:i8 [e1,e2,e3] X.env=(false,eval e1 X.env)::i8 [e2,e3] X.env:=by rfl)(s2:i8 [e2,e3] X.env=(false,eval e2 X.env)::i8 [e3] X.env:=by rfl)(s3:i8 [e3] X.env=(false,eval e3 X.env)::i8 [] X.env:=by rfl):y'A X [e0,e1,e2,e3] (b6 t0 (b6 t1 (b6 t2 (b6 t3 c9)))):=(O0 h0 (O0 h1 (O0 h2 (O0 h3 G6 s3) s2) s1) s0)
theorem b1q(h0:y'E X e0 t0)(h1:y'E X e1 t1)(h2:y'E X e2 t2)(h3:y'E X e3 t3)(h4:y'E X e4 t4)(s0:i8 [e0,e1,e2,e3,e4] X.env=(false,eval e0 X.env)::i8 [e1,e2,e3,e4] X.env:=by rfl)(s1:i8 [e1,e2,e3,e4] X.env=(false,eval e1 X.env)::i8 [e2,e3,e4] X.env:=by rfl)(s2:i8 [e2,e3,e4] X.env=(false,eval e2 X.env)::i8 [e3,e4] X.env:=by rfl)(s3:i8 [e3,e4] X.env=(false,eval e3 X.env)::i8 [e4] X.env:=by rfl)(s4:i8 [e4] X.env=(false,eval e4 X.env)::i8 [] X.env:=by rfl):y'A X [e0,e1,e2,e3,e4] (b6 t0 (b6 t1 (b6 t2 (b6 t3 (b6 t4 c9))))):=(O0 h0 (O0 h1 (O0 h2 (O0 h3 (O0 h4 G6 s4) s3) s2) s1) s0)
end
end Y
local macro_rules | `(tactic| walk_at "sc") => `(tactic| exact ⟨rfl, rfl, rfl, by decide +kernel, rfl, by decide +kernel, by decide +kernel⟩)
namespace Y
open PySem PySem.Spec PyProof.Rows L2
section
variable {X:Cx}{e a b o:Expr}{es:List Expr}{te ta tb to:TE}{tr:TA}{pos p pos':Pos}{x:Str}
theorem z7(n:Nat)(hN:X.N.Nodup)(he:y'E X e te)(hi:X.N[n]? = some x:=by rfl)(hx:Loc X.env.scope x:=by first | exact Or.inl rfl | exact Or.inr rfl)(hs:a2x e (some (.Name x pos')) pos.line X.env=pure false:=by rfl)(hf:X.fn x=true\/X.env.scope.names.lookup x=some .local:=by first | exact .inl rfl | exact .inr rfl) :
  y'S X (.Assign [.Name x pos'] e pos) (F0 te (u9 n)):=b9W hN hi hx he hs hf
theorem M8(n:Nat)(hN:X.N.Nodup)(hi:X.N[n]? = some x:=by rfl)(hx:Loc X.env.scope x:=by first | exact Or.inl rfl | exact Or.inr rfl)(hf:X.fn x=true\/X.env.scope.names.lookup x=some .local:=by first | exact .inl rfl | exact .inr rfl):y'G X (.Name x pos) (u9 n):=b7Z hN hi hx hf
theorem o3{k j:Nat}{ps:List Str}{sp:Sp}(C:F8 X.prog X.w X.K X.mg X.base k x ps sp)(hr:T3 j X.A)(ha:y'A X (e::es) tr)(hk:k<=j:=by decide)(hg:Gl X x:=by rfl)
  (hdb:(x == ("__debug__" : Str))=false:=by decide) (he:i8 (e::es) X.env=(false,eval e X.env)::i8 es X.env:=by rfl) (hpl:(a0m pos (i8 es X.env)).any (·.1)=false:=by rfl) :
  y'E X (.Call (.Name x p) (e::es) [] pos) (w6 sp [] E0 tr):=b9Z C hr hk hg ha hdb he hpl
theorem b1Z{k j:Nat}{C:Addr}{ps:List Str}{sp:Sp}(M:b5o X.prog X.w X.K X.mg X.base k x C ps sp)(hr:T3 j X.A)(ha:y'A X (e::es) tr)(hk:k+1<=j:=by decide)(hg:Gl X x:=by rfl)
  (hdb:(x == ("__debug__" : Str))=false:=by decide) (he:i8 (e::es) X.env=(false,eval e X.env)::i8 es X.env:=by rfl) (hpl:(a0m pos (i8 es X.env)).any (·.1)=false:=by rfl) :
  y'E X (.Call (.Name x p) (e::es) [] pos) (a6J C sp [] E0 tr):=c2W M hr hk hg ha hdb he hpl
theorem u7(ha:y'E X a ta)(hb:y'E X b tb)(hs:b3E b:=by exact fun _ _=>rfl):y'E X (.Subscript a b pos) (tOp qIx ta tb):=a1S c5I ha hb hs
theorem a1t{op:CmpOp}{r:R2}(ho:U5 X (A3 op) r)(ha:y'E X a ta)(hb:y'E X b tb)(hm:T9 op b=false:=by exact Z9 _):y'E X (.Compare a [op] [b] pos) (tOp r ta tb):=U3 ho ha hb hm
theorem C9{op:CmpOp}{r:R2}(ho:U5 X (A3 op) r)(ha:y'E X a ta)(hb:y'E X b tb)(hm:T9 op b=false:=by exact Z9 _):y'T X (.Compare a [op] [b] pos) (D0 (tOp r ta tb)):=T1 ho ha hb hm
end
end Y
namespace Y
open PySem PySem.Spec PyProof.Rows L2
section
variable {X:Cx}{e o i:Expr}{te to ti:TE}{t:TS}{pos p:Pos}{k:Nat}
end
end Y
namespace Y
open PySem PySem.Spec PyProof.Rows L2
end Y
namespace Y
open PySem PySem.Spec PyProof.Rows L2
section
variable {X:Cx}{i o:Expr}{ti to:TE}{pos:Pos}{k:Nat}
end
end Y
namespace Y
open PySem PySem.Spec PyProof.Rows L2
section
variable {X:Cx}{k:Nat}
theorem b8b(hr:T3 k X.A):U5 X (A3 .NotEq) c6o:=⟨L2.c3X hr.units0⟩
end
end Y
namespace Y
open PySem PySem.Spec PyProof.Rows L2
section
variable {X:Cx}{e o i:Expr}{te to ti:TE}{t:TS}{pos p:Pos}{k:Nat}
end
end Y
namespace Y
open PySem PySem.Spec PyProof.Rows L2
section
variable {X:Cx}{k:Nat}{e:Expr}{te:TE}{p p2 pos pos2:Pos}
theorem a5r(hr:T3 k X.A):U5 X (A3 .NotEq) (b8w X.K):=⟨L2.c3V hr⟩
theorem b1Y(he:y'E X e te)(hc:X.calm=true)(g1:Gl X "list")(m1:X.mg "list" = none)(g2:Gl X "reversed")(m2:X.mg "reversed" = none)(bl:W8 "list" = some (.type "list"))(br:W8 "reversed" = some (.type "reversed"))
  (s1:i8 [e] X.env=(false,eval e X.env)::i8 [] X.env:=by rfl):y'E X (.Call (.Name "list" p) [.Call (.Name "reversed" p2) [e] [] pos2] [] pos) (b7s te):=⟨L2.b6k he.h hc g1 m1 g2 m2 bl br s1⟩
end
end Y
namespace Y
open PySem PySem.Spec PyProof.Rows L2
section
variable {X:Cx}{k:Nat}
theorem b4a(hc:X.calm=true):Z2 X (.builtin "max") c6q:=⟨L2.b9q hc⟩
theorem b2a:a8p X "dict.setdefault" b2G:=⟨L2.b6w⟩
theorem b5C:U5 X (A3 .IsNot) c1g:=⟨L2.c1I⟩
theorem b1r(hr:T3 k X.A):U5 X (A3 .Eq) c1h:=⟨L2.c4d hr.units0⟩
end
end Y
namespace RD
open PySem PySem.Spec L2
variable{C a b c d dx na nl p ra sd tk:Addr}{H H' H0 H1:Hp}{o:HO}{xs ys:List V}{i:Int}{D:a6v}{σ:St}{ta te:TE}{tt:TT}{Q:VK}{v:V}{m n:Nat}{f:V->List V->Hp->VK->Prop}{z:Str}{cs ks l:List Nat}{ss:List Str}{QD:Hp->Prop}{R:It->Hp->Prop}{M N:Nt}{L L0 ns:List Int}{as rs:List Addr}{Z:Addr->Prop}{RC:Nat->List V}
def D9(b:Addr)(H H':Hp):Prop:=(∀a o,H a=some o->a≠b->H' a=some o)/\∀o,H b=some o->∃o',H' b=some o'
theorem D9.refl(b:Addr)(H:Hp):D9 b H H:=⟨fun _ _ h _=>h,fun o h=>⟨o,h⟩⟩
theorem D9.trans{H2:Hp}(x:D9 b H H1)(y:D9 b H1 H2):D9 b H H2:=
 ⟨fun a o h n=>y.1 a o (x.1 a o h n) n,fun o h=>let⟨o',h'⟩:=x.2 o h;y.2 o' h'⟩
theorem D9.upd(b:Addr)(H:Hp)(o:HO):D9 b H (upd H b o):=⟨fun a u h n=>by rw[o4 n];exact h,fun _ _=>⟨o,g7⟩⟩
theorem D9.new(h:H p=none):D9 b H (L2.upd H p o):=
 ⟨fun a u e _=>by rw[o4 (d9 e h)];exact e,fun u e=>⟨u,by rw[o4 (d9 e h)];exact e⟩⟩
theorem D9.of_same(s:A9 H H'):D9 b H H':=⟨fun a o h _=>s a o h,fun o h=>⟨o,s _ _ h⟩⟩
theorem D6(h:H p=none):A9 H (L2.upd H p o):=fun a u e=>by rw[o4 (d9 e h)];exact e
theorem D9.none(k:D9 b H H')(h:H' p=Option.none):H p=Option.none:=by
 cases e:H p with
 | none=>rfl
 | some o=>
  by_cases z:p=b
  ·subst z
   obtain⟨o',h'⟩:=k.2 o e
   rw[h]at h'
   cases h'
  ·rw[k.1 p o e z]at h
   cases h
theorem D9.tup{b a:Addr}{H H':Hp}{xs ys:List V}(k:D9 b H H')(hb:H b=some (.lst ys))(h:H a=some (.tup xs)):H' a=some (.tup xs):=
 k.1 a _ h (M3 h hb (by intro z;cases z))
structure Bag(H:Hp)(b c:Addr):Prop where
 ex:∃(i0 i1 i2:Int) (ns:List Int),H b=some (.lst [.int i0,.int i1,.int i2,.ref c])/\H c=some (.lst (ns.map V.int))/\0<=i0/\0<=i1/\i1<2147483647/\0<=i2/\∀x∈ns,0<=x
theorem Bag.lst{H:Hp}{b c:Addr}(h:Bag H b c):∃xs,H b=some (.lst xs):=by
 obtain⟨i0,i1,i2,ns,h,_⟩:=h.ex
 exact⟨_,h⟩
theorem Bag.same(h:Bag H b c)(s:A9 H H'):Bag H' b c:=by
 obtain⟨i0,i1,i2,ns,h1,h2,r⟩:=h.ex
 exact⟨i0,i1,i2,ns,s _ _ h1,s _ _ h2,r⟩
theorem Bag.new(h:Bag H b c)(n:H p=none):Bag (L2.upd H p o) b c:=h.same (D6 n)
theorem Bag.put(h:Bag H b c)(n1:p≠b)(n2:p≠c):Bag (L2.upd H p o) b c:=by
 obtain⟨i0,i1,i2,ns,h1,h2,r⟩:=h.ex
 exact⟨i0,i1,i2,ns,by rw[o4 n1.symm];exact h1,by rw[o4 n2.symm];exact h2,r⟩
theorem Bag.nb(h:Bag H b c)(n:H p=none):p≠b/\p≠c:=by
 obtain⟨i0,i1,i2,ns,h1,h2,r⟩:=h.ex
 exact⟨(d9 h1 n).symm,(d9 h2 n).symm⟩
theorem D9.put(k:D9 b H H')(n:H p=Option.none):D9 b H (L2.upd H' p o):=
 ⟨fun a u e z=>by rw[o4 (d9 e n)];exact k.1 a u e z,fun u e=>by
  obtain⟨o',h⟩:=k.2 u e
  exact⟨o',by rw[o4 (d9 e n)];exact h⟩⟩
theorem V3{α:Type}(a:α)(r:List α):atI (a::r) 0=some a:=by
 have := @a0W α (a::r) 0 a rfl
 simpa using this
theorem a0O{α:Type}(a b:α)(r:List α):atI (a::b::r) 1=some b := @a0W α (a::b::r) 1 b rfl
theorem a8b{α:Type}(a b c:α)(r:List α):atI (a::b::c::r) 2=some c := @a0W α (a::b::c::r) 2 c rfl
theorem c7V{α:Type}(a b c d:α)(r:List α):atI (a::b::c::d::r) 3=some d := @a0W α (a::b::c::d::r) 3 d rfl
theorem a2R{α:Type}{xs:List α}(h0:0<=i)(h1:i<xs.length):∃v,atI xs i=some v/\xs[i.toNat]? = some v:=by
 have hl:i.toNat<xs.length:=by omega
 have e:xs[i.toNat]? = some (xs[i.toNat]'hl):=by simp[hl]
 refine⟨_,?_,e⟩
 have:=a0W e
 rwa [Int.toNat_of_nonneg h0]at this
section
variable {t u:TS}{tb tc to ti:TE}{tu:TT}{tr:TA}{QB:Bool->Hp->Prop}{QA:List V->Hp->Prop}{QO:Option Int->Hp->Prop}{x y:V}{j:Int}{r r':R2}{K:Fg}
theorem a0o(h:t { D with nx:=u D } σ H):A0 t u D σ H:=h
theorem Y8{P:St->Hp->Prop}(tail:∀σ H,P σ H->u D σ H)(main:∀nx:St->Hp->Prop,(∀σ H,P σ H->nx σ H)->t { D with nx:=nx } σ H):A0 t u D σ H:=main _ tail
theorem c5m{g:TG}(h:te σ H fun x H1=>g x σ H1 D.nx):F0 te g D σ H:=h
theorem b2A{QS:St->Hp->Prop}(h:QS (σ.set n (some v)) H):u9 n v σ H QS:=h
theorem c5Y{QS:St->Hp->Prop}{ts:b1j}(h:to σ H fun o H1=>ti σ H1 fun i H2=>ts o i v H2 fun H3=>QS σ H3):b3m to ti ts v σ H QS:=h
theorem c0N(h:te σ H D.rt):G7 te D σ H:=h
theorem c5Z(h:te σ H fun _ H1=>D.nx σ H1):a0L te D σ H:=h
theorem c8G(h:tt σ H fun b H1=>if b=true then t D σ H1 else u D σ H1):K9 tt t u D σ H:=h
theorem c0P(h:D.nx σ H):E9 D σ H:=h
theorem c0K(h:te σ H fun x H'=>∃k,x=.bl k/\QB k H'):D0 te σ H QB:=h
theorem c9K(h:te σ H fun x H'=>∃k,x=.bl k/\QB k H'):tB te σ H QB:=h
theorem c8C(h:tt σ H fun c H1=>QB (!c) H1):a2T tt σ H QB:=h
theorem c8J(h:tt σ H fun c H1=>if c=true then tu σ H1 QB else QB false H1):a8F tt tu σ H QB:=h
theorem c9M(h:tt σ H fun c H1=>if c=true then QB true H1 else tu σ H1 QB):tOr tt tu σ H QB:=h
theorem c6c(h:ta σ H fun x H1=>∃c,x=.bl c/\if c=true then tb σ H1 Q else Q (.bl false) H1):Y0 ta tb σ H Q:=h
theorem c8B(h:ta σ H fun x H1=>∃c,x=.bl c/\if c=true then Q (.bl true) H1 else tb σ H1 Q):c3e ta tb σ H Q:=h
theorem c5V(h:ta σ H fun x H1=>∃c,x=.bl c/\Q (.bl (!c)) H1):b1z ta σ H Q:=h
theorem c8F(h:tt σ H fun c H1=>if c=true then ta σ H1 Q else tb σ H1 Q):tIf tt ta tb σ H Q:=h
theorem c3o(h:ta σ H fun x H1=>tb σ H1 fun y H2=>r x y H2 Q):tOp r ta tb σ H Q:=h
theorem a4d(h:ta σ H fun x H1=>tb σ H1 fun y H2=>r x y H2 fun z H3=>∃k,z=.bl k/\(if k=true then tc σ H3 fun w' H4=>r' y w' H4 Q else Q (.bl false) H3)):a3o r r' ta tb tc σ H Q:=h
theorem c9J{f:V->Hp->VK->Prop}(h:ta σ H fun x H1=>f x H1 Q):tUn f ta σ H Q:=h
theorem c8D(h:Q (.int (-i)) H):rU (fun i=>.int (-i)) (.int i) H Q:=⟨i,rfl,h⟩
theorem c0J(e:σ[n]? = some (some v))(h:Q v H):c5 n σ H Q:=⟨v,e,h⟩
theorem s_c(h:Q v H):tC v σ H Q:=h
theorem c0T(h:te σ H fun x H1=>tr σ H1 fun xs H2=>QA (x::xs) H2):b6 te tr σ H QA:=h
theorem c5k(h:QA [] H):c9 σ H QA:=h
theorem c6a{sp:Sp}{E:XK}(h:tr σ H fun vs H1=>sp (vs++[]) H1 Q E):w6 sp [] E tr σ H Q:=h
theorem c9N{f:List V->Hp->VK->Prop}(h:tr σ H fun vs H1=>f vs H1 Q):tCB f tr σ H Q:=h
def New(o:HO)(n:Nat)(H:Hp)(Q:VK):Prop:=n<=v6/\∀p,H p=none->Q (.ref p) (upd H p o)
theorem z8(hl:n<=100000)(h:∀p H',H p=none->H' p=some o->A9 H H'->Q (.ref p) H'):New o n H Q:=
 ⟨J8 hl (by rw[a3Q];decide),fun p hp=>h p _ hp g7 (D6 hp)⟩
theorem c8A(h:tr σ H fun xs H1=>New (.tup xs) xs.length H1 Q):V1 tr σ H Q:=h
theorem c8E(h:tr σ H fun xs H1=>New (.lst xs) xs.length H1 Q):L6 tr σ H Q:=h
theorem c9L{f:V->Option Int->Option Int->Hp->VK->Prop}{tl th:TO}(h:te σ H fun x H1=>tl σ H1 fun l H2=>th σ H2 fun u H3=>f x l u H3 Q):tSl f te tl th σ H Q:=h
theorem c5T(h:te σ H fun x H1=>∃i,x=.int i/\QO (some i) H1):a4S te σ H QO:=h
theorem c0O(h:QO none H):a1v σ H QO:=h
theorem b5T(h:QB true H):a0b σ H QB:=h
theorem a6j(h:to σ H fun x H1=>tyV K "list" x H1/\tr σ H1 fun xs H2=>f x xs H2 Q):tBM K "list" f to tr σ H Q:=h
theorem c8I{s:Str}(h:tr σ H fun xs H2=>f (.str s) xs H2 Q):tBM K "str" f (tC (.str s)) tr σ H Q:=⟨rfl,h⟩
theorem c6b{tget:V->V->Hp->VK->Prop}{tip:TIp}{tset:b1j}(h:to σ H fun o H1=>ti σ H1 fun i H2=>tget o i H2 fun x H3=>te σ H3 fun y H4=>tip x y H4 fun z H5=>tset o i z H5 fun H6=>D.nx σ H6):b7t to ti te tget tip tset D σ H:=h
theorem c8U(h:Q (.int (i+j)) H):X1 (.int i) (.int j) H Q:=h
theorem c1d{a b:Str}(hl:a.length+b.length<=v6)(h:Q (.str (a++b)) H):X1 (.str a) (.str b) H Q:=⟨hl,h⟩
theorem a4f(ha:H a=some (.lst xs))(hb:H b=some (.lst ys))(h:New (.lst (xs++ys)) (xs.length+ys.length) H Q):X1 (.ref a) (.ref b) H Q:=by
 unfold X1
 simp only[ha,hb]
 exact h
theorem c6l{g:Int->Int->V}(h:Q (g i j) H):b4C g (.int i) (.int j) H Q:=h
theorem Y2{C:Int->Int->Prop}{g:Int->Int->V}(hc:C i j)(h:Q (g i j) H):q2I C g (.int i) (.int j) H Q:=⟨hc,h⟩
theorem c9S{f:Int->Int->Int}(h:Q (.int (f i j)) H):ipI f (.int i) (.int j) H Q:=⟨i,j,rfl,rfl,h⟩
theorem L9(hp:H p=some (.lst xs))(he:atI xs i=some v)(h:Q v H):qIx (.ref p) (.int i) H Q:=by
 unfold qIx
 simp only[hp]
 exact⟨v,he,h⟩
theorem F4(hp:H p=some (.tup xs))(he:atI xs i=some v)(h:Q v H):qIx (.ref p) (.int i) H Q:=by
 unfold qIx
 simp only[hp]
 exact⟨v,he,h⟩
theorem b7D{c:Nat}(hz:z.length<=v6)(he:atI z.cps.toList i=some c)(h:Q (.str ⟨#[c]⟩) H):qIx (.str z) (.int i) H Q:=⟨hz,c,he,h⟩
theorem b1F{QH:Hp->Prop}{k:Nat}(hp:H p=some (.lst xs))(he:ixN xs.length i=some k)(h:QH (upd H p (.lst (xs.set k v)))):a6Y (.ref p) (.int i) v H QH:=by
 unfold a6Y
 simp only[hp]
 exact⟨k,he,h⟩
theorem c8Q(hp:H p=some (.lst xs))(h0:0<=i)(he:xs[i.toNat]? = some v)(h:Q v H):b8y (.ref p) (.int i) H Q:=by
 unfold b8y
 simp only[hp]
 exact⟨h0,v,he,h⟩
theorem O8(hp:H p=some (.lst xs))(h:Q (.int xs.length) H):V7 [.ref p] H Q:=by
 unfold V7
 simp only[hp]
 exact h
theorem a4Y(hp:H p=some (.tup xs))(h:Q (.int xs.length) H):V7 [.ref p] H Q:=by
 unfold V7
 simp only[hp]
 exact h
theorem c6j(hz:z.length<=v6)(h:Q (.int z.length) H):V7 [.str z] H Q:=⟨hz,h⟩
theorem c8V(h:Q (.int (if i<0 then -i else i)) H):c1j [.int i] H Q:=h
theorem c8R(hs:b4q x y=true)(h:Q (.bl (decide (x=y))) H):qEq x y H Q:=⟨_,if_pos hs,h⟩
theorem c9R(hs:b4q x y=true)(h:Q (.bl (!decide (x=y))) H):qNe x y H Q:=⟨_,if_pos hs,h⟩
theorem a5C(ha:H a=some (.lst xs))(hb:H b=some (.lst ys))(fx:xs.all N4=true)(fy:ys.all N4=true):eqO (.ref a) (.ref b) H=some (a0t xs ys):=by
 unfold eqO
 rw[if_neg (by intro z;cases z)]
 simp only[ha,hb]
 rw[if_pos ⟨fx,fy⟩]
theorem c2n(v:V)(h:N4 v=true):eqV v v=true:=by
 cases v with
 | non=>rfl
 | bl b=>simp[eqV]
 | int i=>simp[eqV]
 | str s=>simp[eqV]
 | byt b=>cases h
 | flt b=>cases h
 | ref a=>cases h
 | ty n=>cases h
theorem a8A(xs:List V)(h:xs.all N4=true):a0t xs xs=true:=by
 unfold a0t
 rw[b9H,beq_self_eq_true,a8l,M6]
 intro j hj
 have hl:j<xs.length:=by simpa using hj
 have e:xs.getD j .non=xs[j]:=by simp[T0,hl]
 rw[e]
 exact c2n _ (M6.mp h _ (J5 _))
theorem b4A(hp:H p=some (.tup xs))(hx:N4 x=true)(ha:xs.all N4=true)(h:Q (.bl (inV x xs)) H):qIn false x (.ref p) H Q:=by
 unfold qIn
 cases x <;> first | (simp only[hp];exact⟨hx,ha,h⟩) | cases hx
theorem c6i(hp:H p=some (.lst xs))(hx:N4 x=true)(ha:xs.all N4=true)(h:Q (.bl (!inV x xs)) H):qIn true x (.ref p) H Q:=by
 unfold qIn
 cases x <;> first | (simp only[hp];exact⟨hx,ha,h⟩) | cases hx
theorem a0p{l:Addr}(hp:H l=some (.lst xs))(hl:xs.length<v6)(h:Q .non (upd H l (.lst (xs++[y])))):Z3 (.ref l) [y] H Q:=by
 unfold Z3
 simp only[hp]
 exact⟨hl,h⟩
theorem c5q{lo hi:Option Int}(ha:H a=some (.tup xs))(hw:¬(HT.sIx xs.length 0 lo=0/\HT.sIx xs.length xs.length hi=xs.length))(h:∀p H',H p=none->H' p=some (.tup (a4m xs lo hi))->A9 H H'->Q (.ref p) H'):qSl (.ref a) lo hi H Q:=by
 unfold qSl
 simp only[ha]
 exact⟨hw,fun p hp=>h p _ hp g7 (D6 hp)⟩
theorem b1E{lo hi:Option Int}(ha:H a=some (.lst xs))(h:∀p H',H p=none->H' p=some (.lst (a4m xs lo hi))->A9 H H'->Q (.ref p) H'):qSl (.ref a) lo hi H Q:=by
 unfold qSl
 simp only[ha]
 exact fun p hp=>h p _ hp g7 (D6 hp)
theorem a3b{s c:String}(e:a3n x H=some s)(hc:c∈a7U)(h:Q (.bl (b6G s c)) H):a4g [x,.ty c] H Q:=⟨s,e,hc,h⟩
theorem c6k{s:Str}{l:Addr}(hp:H l=some (.lst xs))(e:a3p xs=some ss)(hl:(ss.map (·.length)).sum+ss.length * s.length<=16777216)(h:Q (.str (Txt.join s ss)) H):a9V (.str s) [.ref l] H Q:=by
 unfold a9V
 simp only[hp]
 exact⟨ss,e,hl,h⟩
end
section
variable {D:Addr}{K:Fg}
theorem a2Q{lo:Int}(Pv:Nat->List V->Hp->Prop)(h0:Pv 0 [] (upd H1 D (.lst [])))(hP:∀i ys H,Pv i ys H->H D=some (.lst ys))
  (step:∀i ys H2,i<n->Pv i ys H2->∀R:VK,(∀y H5,H5 D=some (.lst ys)->ys.length<v6->Pv (i+1) (ys++[y]) (upd H5 D (.lst (ys++[y])))->R y H5)->te (some (.int (lo+i))::σ) H2 R)
  (done:∀ys H2,Pv n ys H2->QD H2) :
  ∃W:Nat->Nat->List V->Hp->Prop,(∃m,W 0 m [] (upd H1 D (.lst [])))/\∀i m ys H2,W i m ys H2->H2 D=some (.lst ys) /\
   (((Itr lo n).stop i H2 /\ QD H2) \/ ((Itr lo n).go i H2 /\ ∀ x H3,(Itr lo n).yld i H2 x H3 -> a0b (some x :: σ) H3 fun ok H4 => if ok = true then
     te (some x::σ) H4 (fun y H5=>H5 D=some (.lst ys)/\ys.length<v6/\∃m',m'<m/\W (i+1) m' (ys++[y]) (upd H5 D (.lst (ys++[y]))))
     else ∃m',m'<m/\W (i+1) m' ys H4)):=by
 refine⟨fun i m ys H=>m=n - i/\i<=n/\Pv i ys H,⟨n,rfl,O6 _,h0⟩,?_⟩
 rintro i m ys H2 ⟨rfl,hi,p⟩
 refine⟨hP i ys H2 p,?_⟩
 by_cases hlt:i<n
 ·refine .inr ⟨hlt,fun x H3 y=>?_⟩
  obtain⟨e,y⟩:=y
  subst e y
  refine b5T ?_
  rw[if_pos rfl]
  exact step i ys _ hlt p _ fun y H5 h1 h2 h3=>⟨h1,h2,n - (i+1),by omega,rfl,hlt,h3⟩
 ·have e:i=n:=by omega
  subst e
  exact .inl ⟨o5 _,done ys H2 p⟩
theorem a0T(Pv:Nat->List V->Hp->Prop)(h0:Pv 0 [] (upd H1 D (.lst [])))(hP:∀i ys H,Pv i ys H->H D=some (.lst ys))(hl:∀i ys H,i<=xs.length->Pv i ys H->SqL K H a xs)
  (step:∀i x ys H2,xs[i]? = some x->Pv i ys H2->∀R:VK,(∀y H5,H5 D=some (.lst ys)->ys.length<v6->Pv (i+1) (ys++[y]) (upd H5 D (.lst (ys++[y])))->R y H5)->te (some x::σ) H2 R)
  (done:∀ys H2,Pv xs.length ys H2->QD H2) :
  ∃W:Nat->Nat->List V->Hp->Prop,(∃m,W 0 m [] (upd H1 D (.lst [])))/\∀i m ys H2,W i m ys H2->H2 D=some (.lst ys) /\
   (((Itl K a).stop i H2 /\ QD H2) \/ ((Itl K a).go i H2 /\ ∀ x H3,(Itl K a).yld i H2 x H3 -> a0b (some x :: σ) H3 fun ok H4 => if ok = true then
     te (some x::σ) H4 (fun y H5=>H5 D=some (.lst ys)/\ys.length<v6/\∃m',m'<m/\W (i+1) m' (ys++[y]) (upd H5 D (.lst (ys++[y]))))
     else ∃m',m'<m/\W (i+1) m' ys H4)):=by
 refine⟨fun i m ys H=>m=xs.length - i/\i<=xs.length/\Pv i ys H,⟨xs.length,rfl,O6 _,h0⟩,?_⟩
 rintro i m ys H2 ⟨rfl,hi,p⟩
 refine⟨hP i ys H2 p,?_⟩
 have q:=hl i ys H2 hi p
 by_cases hlt:i<xs.length
 ·refine .inr ⟨⟨xs,xs[i],q,by simp[hlt]⟩,fun x H3 y=>?_⟩
  obtain⟨e,y⟩:=y
  subst e
  refine b5T ?_
  rw[if_pos rfl]
  exact step i x ys _ (y xs q) p _ fun y H5 h1 h2 h3=>⟨h1,h2,xs.length - (i+1),by omega,rfl,hlt,h3⟩
 ·have e:i=xs.length:=by omega
  subst e
  exact .inl ⟨⟨xs,q,o5 _⟩,done ys H2 p⟩
theorem a0i{wi:TI}(h:wi σ H1 fun J H1=>∀D,H1 D=none->∃W:Nat->Nat->List V->Hp->Prop,
 (∃m,W 0 m [] (upd H1 D (.lst [])))/\∀i m ys H2,W i m ys H2->H2 D=some (.lst ys) /\
  ((J.stop i H2 /\ Q (.ref D) H2) \/ (J.go i H2 /\ ∀ x H3,J.yld i H2 x H3 -> tt (some x :: σ) H3 fun ok H4 => if ok = true then
    te (some x::σ) H4 (fun y H5=>H5 D=some (.lst ys)/\ys.length<v6/\∃m',m'<m/\W (i+1) m' (ys++[y]) (upd H5 D (.lst (ys++[y]))))
    else ∃m',m'<m/\W (i+1) m' ys H4))):a0c wi tt te σ H1 Q:=h
theorem a0N{ta:TA}(h:ta σ H1 fun vs H2=>∃j:Int,vs=[.int j] /\ -(2 ^ 62)<=j/\j<2 ^ 62/\R (Itr 0 j.toNat) H2):a1l ta σ H1 R:=h
theorem a0C(h:ta σ H1 fun x H2=>∃a,x=.ref a/\(∃xs,SqL K H2 a xs)/\R (Itl K a) H2):a0M K ta σ H1 R:=h
theorem a1z{wi:TI}{g:TG}{tb:TS}{D:a6v}(h:wi σ H1 fun J H1=>∃W:Nat->Nat->St->Hp->Prop,(∃m,W 0 m σ H1)/\∀i m σ H,W i m σ H ->
 (J.stop i H/\D.nx σ H)\/(J.go i H/\∃N:St->Hp->Prop,(∀σ' H',N σ' H'->∃m',m'<m/\W (i+1) m' σ' H')/\∀x H',J.yld i H x H'->g x σ H' fun σ2 H2=>tb { D with nx:=N,ct:=N,bk:=D.nx } σ2 H2)):a2C wi g tb D σ H1:=h
end
def O5(H H':Hp):Prop:=∀a xs,H a=some (.tup xs)->H' a=some (.tup xs)
theorem O5.trans{H2:Hp}(x:O5 H H1)(y:O5 H1 H2):O5 H H2:=fun a xs h=>y a xs (x a xs h)
theorem O5.put(h:H p=some (.lst ys)):O5 H (upd H p o):=fun a xs e=>by
 rw[o4 (M3 e h (by intro z;cases z))];exact e
theorem A9.ts(s:A9 H H'):O5 H H':=fun a xs h=>s a _ h
theorem D9.ts(k:D9 b H H')(hB:Bag H b c):O5 H H':=fun a xs h=>by
 obtain⟨ys,hb⟩:=hB.lst
 exact k.tup hb h
def OpV(v:V):Prop:=(∃s,v=.str s)\/∃n:Int,v=.int n/\0<=n/\n<1000000000000
def c8e(H:Hp)(p:Addr):Prop:=∃k v1 v2,H p=some (.tup [.str k,v1,v2])/\OpV v1/\OpV v2/\k∈(["plus","minus","times","less","same"]:List Str)
inductive b1T(H:Hp):List V->Prop
 | set (n:Str) (p:Addr):c8e H p->b1T H [.str "set",.str n,.ref p]
 | copy (n:Str) (v:V):OpV v->b1T H [.str "copy",.str n,v]
 | take (n:Str):b1T H [.str "take",.str n]
 | tell (v:V):OpV v->b1T H [.str "tell",v]
 | ask (v:V):OpV v->b1T H [.str "ask",v]
 | skip:b1T H [.str "skip"]
structure d0f(H:Hp)(a:Addr):Prop where
 ex:∃ss:List Str,H a=some (.lst (ss.map V.str))/\ss≠[]/\ss.length<=8
theorem small(h:n<=100000):n<=v6:=J8 h (by rw[a3Q];decide)
theorem J7(h:n<100000):n<v6:=E6 h (by rw[a3Q];decide)
theorem J2{c:Bool}{A B:Prop}(hc:c=true)(h:A):if c=true then A else B:=by rw[if_pos hc];exact h
theorem C5{c:Bool}{A B:Prop}(hc:c=false)(h:B):if c=true then A else B:=by rw[hc];exact L2.c7H h
section
variable {t u:TS}{tb tc to ti:TE}{tu:TT}{tr:TA}{QB:Bool->Hp->Prop}{QA:List V->Hp->Prop}{x y:V}{j:Int}{K:Fg}
theorem a4X(h:∀p H',H p=none->H' p=some (.dK [])->A9 H H'->Q (.ref p) H'):a2D σ H Q:=fun p hp=>h p _ hp g7 (D6 hp)
theorem c0S(h:ti σ H fun y H1=>to σ H1 fun x H2=>∃a o,x=.ref a/\a6w H2 a y o/\Q (.bl o.isSome) H2):b2g ti to σ H Q:=h
theorem a9R(h:ti σ H fun y H1=>to σ H1 fun x H2=>∃a o,x=.ref a/\a6w H2 a y o/\Q (.bl (!o.isSome)) H2):a5s ti to σ H Q:=h
theorem a3r(h:te σ H fun v H1=>to σ H1 fun x H2=>ti σ H2 fun y H3=>∃a H4,x=.ref a/\a8e H3 a y v H4/\D.nx σ H4):a2l to ti te D σ H:=h
theorem b4x{f:Str}(h:ta σ H fun x H1=>∃a C dx fs v,x=.ref a/\H1 a=some (.ins C dx fs)/\Cls K C/\a2S K C f/\fs.lookup f=some v/\Q v H1):b4n K ta f σ H Q:=h
theorem b5V{f:Str}(h:te σ H fun y H1=>ta σ H1 fun x H2=>∃a C dx fs,x=.ref a/\H2 a=some (.ins C dx fs)/\Cls K C/\a2S K C f/\fs.length<1000/\D.nx σ (upd H2 a (.ins C dx (a2U f y fs)))):b8u K ta te f D σ H:=h
theorem c0R{m:Str}{sp:Sp}{E:XK}(h:ta σ H fun x H1=>∃a dx fs,x=.ref a/\H1 a=some (.ins C dx fs)/\fs.lookup m=none/\tr σ H1 fun vs H2=>sp (x::(vs++[])) H2 Q E):b1A C m sp [] E ta tr σ H Q:=h
theorem b2y{sp:Sp}{E:XK}(h:tr σ H fun vs H1=>∀x dx,H1 x=none->H1 dx=none->dx≠x ->
 sp (.ref x::(vs++[])) (upd (upd H1 dx (.own x)) x (.ins C dx [])) (fun v H2=>v=.non/\Q (.ref x) H2) E):a6J C sp [] E tr σ H Q:=h
theorem c5l(h:to σ H fun x H1=>tyV K "list" x H1/\f x [] H1 Q):c0s K "list" f to σ H Q:=h
theorem X9(h:H p=some (.lst xs)):tyV K "list" (.ref p) H:=.inl ⟨rfl,xs,SqL.of h⟩
theorem a8P{a b:Nat}{QS:St->Hp->Prop}(hp:SqT K H p [x,y])(h:QS ((σ.set a (some x)).set b (some y)) H):b0s K 2 (a0e (u9 a) (a0e (u9 b) b0t)) (.ref p) σ H QS:=
 ⟨p,_,rfl,hp,rfl,_,_,rfl,_,_,rfl,rfl,h⟩
theorem a6U(h:tr σ H fun vs H1=>∃a,vs=[.ref a]/\(∃xs,SqL K H1 a xs)/\R (Ite K a) H1):a8z K tr σ H R:=h
theorem c5W(h:tr σ H fun vs H1=>∃a b,vs=[.ref a,.ref b]/\(∃xs,SqL K H1 a xs)/\(∃xs,SqL K H1 b xs)/\R (Itz K a b) H1):c4C K tr σ H R:=h
theorem b7w(h:∃W:Nat->St->Hp->Prop,(∃m,W m σ H)/\∀m σ H,W m σ H ->
 tt σ H fun b H1=>if b=true then ∃N:St->Hp->Prop,(∀σ' H',N σ' H'->∃m',m'<m/\W m' σ' H')/\t { D with nx:=N,ct:=N,bk:=D.nx } σ H1 else D.nx σ H1):a9z tt t D σ H:=h
theorem c5S(h:te σ H fun v H1=>D.nx (σ.set n (some v)) H1):(fun D σ H=>te σ H fun v H1=>(D:a6v).nx (σ.set n (some v)) H1:TS) D σ H:=h
theorem b7y{wi:TI}(h:wi σ H1 fun J H1=>∀D,H1 D=none->∃W:Nat->Nat->List V->Hp->Prop,
 (∃m,W 0 m [] (upd H1 D (.lst [])))/\∀i m ys H2,W i m ys H2->H2 D=some (.lst ys) /\
  ((J.stop i H2 /\ Q (.ref D) H2) \/ (J.go i H2 /\ ∀ x H3,J.yld i H2 x H3 -> ∃ a u v,x = .ref a /\ SqT K H3 a [u,v] /\ tt (some u :: some v :: σ) H3 fun ok H4 => if ok = true then
    te (some u::some v::σ) H4 (fun y H5=>H5 D=some (.lst ys)/\ys.length<v6/\∃m',m'<m/\W (i+1) m' (ys++[y]) (upd H5 D (.lst (ys++[y]))))
    else ∃m',m'<m/\W (i+1) m' ys H4))):a9A K wi tt te σ H1 Q:=h
theorem c7S{J:It}{D:Addr}(n:Nat)(Pv:Nat->List V->Hp->Prop)(h0:Pv 0 [] (upd H1 D (.lst [])))(hP:∀i ys H,Pv i ys H->H D=some (.lst ys))(stop:∀ys H,Pv n ys H->J.stop n H/\QD H)(go:∀i ys H,i<n->Pv i ys H->J.go i H)
  (step:∀i ys H2,i<n->Pv i ys H2->∀x H3,J.yld i H2 x H3->∀(R:VK) (S:Hp->Prop),(∀y H5,H5 D=some (.lst ys)->ys.length<v6->Pv (i+1) (ys++[y]) (upd H5 D (.lst (ys++[y])))->R y H5)->(∀H4,Pv (i+1) ys H4->S H4) ->
   tt (some x::σ) H3 fun ok H4=>if ok=true then te (some x::σ) H4 R else S H4) :
  ∃W:Nat->Nat->List V->Hp->Prop,(∃m,W 0 m [] (upd H1 D (.lst [])))/\∀i m ys H2,W i m ys H2->H2 D=some (.lst ys) /\
   ((J.stop i H2 /\ QD H2) \/ (J.go i H2 /\ ∀ x H3,J.yld i H2 x H3 -> tt (some x :: σ) H3 fun ok H4 => if ok = true then
     te (some x::σ) H4 (fun y H5=>H5 D=some (.lst ys)/\ys.length<v6/\∃m',m'<m/\W (i+1) m' (ys++[y]) (upd H5 D (.lst (ys++[y]))))
     else ∃m',m'<m/\W (i+1) m' ys H4)):=by
 refine⟨fun i m ys H=>m=n - i/\i<=n/\Pv i ys H,⟨n,rfl,O6 _,h0⟩,?_⟩
 rintro i m ys H2 ⟨rfl,hi,p⟩
 refine⟨hP i ys H2 p,?_⟩
 by_cases hlt:i<n
 ·exact .inr ⟨go i ys H2 hlt p,fun x H3 hy=>step i ys H2 hlt p x H3 hy _ _ (fun y H5 h1 h2 h3=>⟨h1,h2,n - (i+1),by omega,rfl,hlt,h3⟩) fun H4 h4=>⟨n - (i+1),by omega,rfl,hlt,h4⟩⟩
 ·have e:i=n:=by omega
  subst e
  exact .inl (stop ys H2 p)
theorem c2x{J:It}{D:Addr}(n:Nat)(Pv:Nat->List V->Hp->Prop)(h0:Pv 0 [] (upd H1 D (.lst [])))(hP:∀i ys H,Pv i ys H->H D=some (.lst ys))(stop:∀ys H,Pv n ys H->J.stop n H/\QD H)(go:∀i ys H,i<n->Pv i ys H->J.go i H)
  (step:∀i ys H2,i<n->Pv i ys H2->∀x H3,J.yld i H2 x H3->∃a u v,x=.ref a/\SqT K H3 a [u,v]/\∀(R:VK) (S:Hp->Prop),(∀y H5,H5 D=some (.lst ys)->ys.length<v6->Pv (i+1) (ys++[y]) (upd H5 D (.lst (ys++[y])))->R y H5)->(∀H4,Pv (i+1) ys H4->S H4) ->
   tt (some u::some v::σ) H3 fun ok H4=>if ok=true then te (some u::some v::σ) H4 R else S H4) :
  ∃W:Nat->Nat->List V->Hp->Prop,(∃m,W 0 m [] (upd H1 D (.lst [])))/\∀i m ys H2,W i m ys H2->H2 D=some (.lst ys) /\
   ((J.stop i H2 /\ QD H2) \/ (J.go i H2 /\ ∀ x H3,J.yld i H2 x H3 -> ∃ a u v,x = .ref a /\ SqT K H3 a [u,v] /\ tt (some u :: some v :: σ) H3 fun ok H4 => if ok = true then
     te (some u::some v::σ) H4 (fun y H5=>H5 D=some (.lst ys)/\ys.length<v6/\∃m',m'<m/\W (i+1) m' (ys++[y]) (upd H5 D (.lst (ys++[y]))))
     else ∃m',m'<m/\W (i+1) m' ys H4)):=by
 refine⟨fun i m ys H=>m=n - i/\i<=n/\Pv i ys H,⟨n,rfl,O6 _,h0⟩,?_⟩
 rintro i m ys H2 ⟨rfl,hi,p⟩
 refine⟨hP i ys H2 p,?_⟩
 by_cases hlt:i<n
 ·refine .inr ⟨go i ys H2 hlt p,fun x H3 hy=>?_⟩
  obtain⟨a,u,v,e,hs,st⟩:=step i ys H2 hlt p x H3 hy
  exact⟨a,u,v,e,hs,st _ _ (fun y H5 h1 h2 h3=>⟨h1,h2,n - (i+1),by omega,rfl,hlt,h3⟩) fun H4 h4=>⟨n - (i+1),by omega,rfl,hlt,h4⟩⟩
 ·have e:i=n:=by omega
  subst e
  exact .inl (stop ys H2 p)
theorem b7K{J:It}{g:TG}{tb:TS}(n:Nat)(Pv:Nat->St->Hp->Prop)(h0:Pv 0 σ H)(stop:∀σ H,Pv n σ H->J.stop n H/\D.nx σ H)(go:∀i σ H,i<n->Pv i σ H->J.go i H)
  (hs:∀i σ H,i<n->Pv i σ H->∀x H',J.yld i H x H'->g x σ H' fun σ2 H2=>tb { D with nx:=Pv (i+1),ct:=Pv (i+1),bk:=D.nx } σ2 H2) :
  ∃W:Nat->Nat->St->Hp->Prop,(∃m,W 0 m σ H)/\∀i m σ H,W i m σ H ->
   (J.stop i H/\D.nx σ H)\/(J.go i H/\∃N:St->Hp->Prop,(∀σ' H',N σ' H'->∃m',m'<m/\W (i+1) m' σ' H')/\∀x H',J.yld i H x H'->g x σ H' fun σ2 H2=>tb { D with nx:=N,ct:=N,bk:=D.nx } σ2 H2):=by
 refine⟨fun i m σ H=>m=n - i/\i<=n/\Pv i σ H,⟨n,rfl,O6 _,h0⟩,?_⟩
 rintro i m σ H ⟨rfl,hi,p⟩
 by_cases hlt:i<n
 ·exact .inr ⟨go i σ H hlt p,Pv (i+1),fun σ' H' p'=>⟨n - (i+1),by omega,rfl,hlt,p'⟩,fun x H' hy=>hs i σ H hlt p x H' hy⟩
 ·have e:i=n:=by omega
  subst e
  exact .inl (stop σ H p)
theorem c5s(h:Q (.int (if j<i then j else i)) H):b8x [.int i,.int j] H Q:=h
theorem a8C(bs:List Bool):Y5 (bs.map V.bl)=some bs:=by
 induction bs with
 | nil=>rfl
 | cons s r ih=>simp[Y5,ih]
theorem c8S{l:Addr}{bs:List Bool}(hl:H l=some (.lst (bs.map V.bl)))(h:Q (.bl (bs.any id)) H):b6e [.ref l] H Q:=by
 unfold b6e
 simp only[hl]
 exact⟨bs,a8C bs,h⟩
theorem c8T{l:Addr}{bs:List Bool}(hl:H l=some (.lst (bs.map V.bl)))(h:Q (.bl (bs.all id)) H):b2H [.ref l] H Q:=by
 unfold b2H
 simp only[hl]
 exact⟨bs,a8C bs,h⟩
theorem b4B{l:Addr}{zs:List V}(hl:H l=some (.lst xs))(hb:H b=some (.lst zs))(hz:xs.length+zs.length<=v6)(h:Q .non (upd H l (.lst (xs++zs)))):a4h (.ref l) [.ref b] H Q:=by
 unfold a4h
 simp only[hl,hb]
 exact⟨hz,h⟩
theorem c5r{l:Addr}(hl:H l=some (.lst (xs++[y])))(h:Q y (upd H l (.lst xs))):b6b (.ref l) [] H Q:=by
 unfold b6b
 simp only[hl]
 refine⟨y,by simp,?_⟩
 simpa using h
theorem a1V(hp:H p=some (.lst ys))(h:∀l H',H l=none->H' l=some (.lst ys)->A9 H H'->Q (.ref l) H'):a2J [.ref p] H Q:=by
 unfold a2J
 simp only[hp]
 exact fun l hl=>h l _ hl g7 (D6 hl)
end
def IL(l:List Nat):List V:=l.map fun(n:Nat)=>V.int (n:Int)
theorem U0(l:List Nat):(IL l).length=l.length:=by simp[IL]
theorem a9e(l:List Nat):(IL l).all N4=true:=by
 rw[M6]
 intro x hx
 obtain⟨s,_,rfl⟩:=D8.mp hx
 rfl
def KS(ks:List Nat):List (Key×V):=ks.map fun(k:Nat)=>(Sum.inl (k:Int),V.bl true)
theorem c2E(ks:List Nat)(k:Nat):(a0v (KS ks) (Sum.inl (k:Int))).isSome=decide (k∈ks):=by
 induction ks with
 | nil=>rfl
 | cons a r ih=>
  by_cases e:a=k
  ·subst e
   rw[show KS (a::r)=(Sum.inl (a:Int),V.bl true)::KS r from rfl,a3F rfl]
   simp
  ·rw[show KS (a::r)=(Sum.inl (a:Int),V.bl true)::KS r from rfl,a2b (by intro z;have:=Sum.inl.inj z;exact e (by omega)),ih]
   have:(k∈a::r)↔k∈r:=by
    rw[q9]
    exact⟨fun h=>h.elim (fun z=>absurd z.symm e) id,.inr⟩
   simp[this]
def a4Z(ks:List Nat)(k:Nat):List Nat:=if k∈ks then ks else ks++[k]
theorem c8c(ks:List Nat)(k:Nat):a2g (KS ks) (Sum.inl (k:Int)) (V.bl true)=KS (a4Z ks k):=by
 unfold a2g a4Z
 rw[a9r,c2E]
 by_cases h:k∈ks
 ·rw[if_pos (d1D h),if_pos h]
  unfold KS
  rw[S9]
  apply a7u
  intro a _
  show(if(Sum.inl (a:Int):Key)=Sum.inl (k:Int)then ((Sum.inl (a:Int):Key),V.bl true)else ((Sum.inl (a:Int):Key),V.bl true))=_
  split <;> rfl
 ·rw[if_neg (by simpa using h),if_neg h]
  simp[KS]
theorem a0D{k j:Nat}:j∈a4Z ks k↔j∈ks\/j=k:=by
 unfold a4Z
 split
 ·rename_i h
  exact⟨.inl,fun q=>q.elim id fun z=>z ▸ h⟩
 ·simp
theorem a8S{k:Nat}(h:ks.Nodup):(a4Z ks k).Nodup:=by
 unfold a4Z
 split
 ·exact h
 ·rename_i hk
  rw[a9g]
  exact⟨h,by simp,fun a ha b hb=>by rw[z9.mp hb];intro z;exact hk (z ▸ ha)⟩
theorem c8d(ks:List Nat):(KS ks).length=ks.length:=by simp[KS]
theorem b0j:∀(n:Nat) (ks:List Nat),ks.Nodup->(∀k∈ks,k<n)->ks.length<=n:=by
 intro n
 induction n with
 | zero=>
  intro ks _ h
  cases ks with
  | nil=>exact o5 _
  | cons a r=>exact absurd (h a F5) (Nat.not_lt_zero _)
 | succ n ih=>
  intro ks nd h
  by_cases hn:n∈ks
  ·have:=ih (ks.erase n) (nd.erase n) fun k hk=>by
    have h1:=(List.Nodup.mem_erase_iff nd).mp hk
    have:=h k h1.2
    have:=h1.1
    omega
   rw[a4D hn]at this
   omega
  ·have:=ih ks nd fun k hk=>by
    have:=h k hk
    have:k≠n:=fun z=>hn (z ▸ hk)
    omega
   omega
theorem a5D(h:H d=some (.dK (KS ks)))(k:Nat):∃o,a6w H d (.int (k:Int)) o/\o.isSome=decide (k∈ks):=⟨_,a6w.k (k:=Sum.inl (k:Int)) h,c2E ks k⟩
theorem b3n(h:H d=some (.dK (KS ks)))(hl:ks.length<100000)(k:Nat):a8e H d (.int (k:Int)) (.bl true) (upd H d (.dK (KS (a4Z ks k)))):=by
 rw[<-c8c]
 exact a8e.k (k:=Sum.inl (k:Int)) h (J7 (by rw[c8d];exact hl))
end RD
namespace RD
variable{C a b c d dx na nl p ra sd tk:Addr}{H H' H0 H1:Hp}{o:HO}{xs ys:List V}{i:Int}{D:a6v}{σ:St}{ta te:TE}{tt:TT}{Q:VK}{v:V}{m n:Nat}{f:V->List V->Hp->VK->Prop}{z:Str}{cs ks l:List Nat}{ss:List Str}{QD:Hp->Prop}{R:It->Hp->Prop}{M N:Nt}{L L0 ns:List Int}{as rs:List Addr}{Z:Addr->Prop}{RC:Nat->List V}
theorem c1T:∀(l m:List Nat),l.Nodup->(∀x∈l,x∈m)->l.length<=m.length
 | [],_,_,_=>O6 _
 | a::r,m,nd,h=>by
  have ha:=h a F5
  have:=c1T r (m.erase a) (K5.mp nd).2 fun x hx=>(b9O (show x≠a from fun z=>(K5.mp nd).1 (z ▸ hx))).mpr (h x (D4 _ hx))
  rw[a4D ha]at this
  have:=a5I ha
  rw[C6]
  omega
inductive Gd(N:Nt):Nat->Prop
 | stop {k:Nat}:N[k]? = some []->Gd N k
 | step {k t:Nat} {l:List Nat}:N[k]? = some l->t∈l->Gd N t->Gd N k
inductive Rc(N:Nt):Nat->Prop
 | zero:Rc N 0
 | step {k t:Nat} {l:List Nat}:Rc N k->N[k]? = some l->t∈l->Rc N t
structure a1n(N:Nt):Prop where
 pos:0<N.length
 le:N.length<=400
 two:∀l∈N,l.length<=2
 lt:∀l∈N,∀t∈l,t<N.length
 rc:∀k,k<N.length->Rc N k
 gd:∀k,k<N.length->Gd N k
def a3d(N:Nt)(G:List Nat):List (List Nat):=(L4 N.length).map fun k=>if k∈G then N.getD k [] else (N.length - 1)::(N.getD k []).drop 1
theorem b1I(N:Nt)(G:List Nat):(a3d N G).length=N.length:=by simp[a3d]
theorem b0k{G:List Nat}{k:Nat}(h:k<N.length):(a3d N G)[k]? = some (if k∈G then N.getD k [] else (N.length - 1)::(N.getD k []).drop 1):=by
 unfold a3d
 rw[d8,a2V h]
 rfl
theorem a7a{G:List Nat}{k:Nat}(h:N[k]? = some l)(hk:k∈G):(a3d N G)[k]? = some l:=by
 have hl:=(y4.mp h).1
 rw[b0k hl,if_pos hk]
 simp[T0,h]
theorem b1H{G:List Nat}{k:Nat}(h:N[k]? = some l)(hk:¬k∈G):(a3d N G)[k]? = some ((N.length - 1)::l.drop 1):=by
 have hl:=(y4.mp h).1
 rw[b0k hl,if_neg hk]
 simp[T0,h]
theorem c4J{G:List Nat}(hG:∀k∈G,Gd N k)(hl:N[N.length - 1]? = some [])(hm:N.length - 1∈G):∀k,k<N.length->Gd (a3d N G) k:=by
 have last:Gd (a3d N G) (N.length - 1):=.stop (a7a hl hm)
 have out:∀k,k<N.length->¬k∈G->Gd (a3d N G) k:=fun k hk h=>.step (b1H (l:=N[k]) (by simp) h) F5 last
 have go:∀k,Gd N k->Gd (a3d N G) k:=by
  intro k h
  induction h with
  | @stop k h=>
   by_cases hk:k∈G
   ·exact .stop (a7a h hk)
   ·exact out k (y4.mp h).1 hk
  | @step k t l h ht _ ih=>
   by_cases hk:k∈G
   ·exact .step (a7a h hk) ht ih
   ·exact out k (y4.mp h).1 hk
 intro k hk
 by_cases h:k∈G
 ·exact go k (hG k h)
 ·exact out k hk h
theorem b4P{G:List Nat}(hp:0<N.length)(hs:∀l∈N,l.length<=2/\∀t∈l,t<N.length)(hl:N[N.length - 1]? = some [])(hm:N.length - 1∈G):∀l∈a3d N G,l.length<=2/\∀t∈l,t<N.length:=by
 intro l hl'
 obtain⟨k,hk⟩:=T7.mp hl'
 have hkl:k<N.length:=by have:=(y4.mp hk).1;rwa [b1I]at this
 rw[b0k hkl]at hk
 have e:N.getD k []=N[k]:=by simp[T0,hkl]
 rw[e]at hk
 obtain⟨h1,h2⟩:=hs N[k] (J5 _)
 by_cases hg:k∈G
 ·rw[if_pos hg]at hk
  cases hk
  exact⟨h1,h2⟩
 ·rw[if_neg hg]at hk
  cases hk
  refine⟨?_,fun t ht=>?_⟩
  ·rw[C6,b0S];omega
  ·rcases q9.mp ht with z | z
   ·omega
   ·exact h2 t (List.drop_subset _ _ z)
def a6d(N:Nt)(O:List Nat):List (List Nat):=O.map fun k=>(N.getD k []).map fun t=>O.idxOf t
theorem c2g{O:List Nat}{t:Nat}(h:t∈O):O.idxOf t<O.length:=b5x.mpr h
theorem b2h{O:List Nat}{k:Nat}(hk:k∈O)(h:N[k]? = some l):(a6d N O)[O.idxOf k]? = some (l.map fun t=>O.idxOf t):=by
 unfold a6d
 have:O[O.idxOf k]? = some k:=by
  rw[g8 (c2g hk)]
  simp
 rw[d8,this]
 simp[T0,h]
theorem b6K{O:List Nat}(h0:0∈O)(hs:O.Pairwise (· <= ·)):O.idxOf 0=0:=by
 cases O with
 | nil=>cases h0
 | cons a r=>
  have:a=0:=by
   rcases q9.mp h0 with z | z
   ·exact z.symm
   ·have:=(List.pairwise_cons.mp hs).1 0 z
    omega
  subst this
  simp
theorem b8e{O:List Nat}(h0:0∈O)(hs:O.Pairwise (· <= ·))(hnd:O.Nodup)(hlt:∀k∈O,k<N.length)(hN:N.length<=400)(hcl:∀k∈O,∀l,N[k]? = some l->∀t∈l,t∈O)(hrc:∀k∈O,Rc N k)
  (hsm:∀l∈N,l.length<=2) (hgd:∀k,k<N.length->Gd N k):a1n (a6d N O):=by
 have hlen:(a6d N O).length=O.length:=by simp[a6d]
 have rc:∀k,Rc N k->k∈O/\Rc (a6d N O) (O.idxOf k):=by
  intro k h
  induction h with
  | zero=>
   refine⟨h0,?_⟩
   rw[b6K h0 hs]
   exact .zero
  | @step k t l _ hl ht ih=>
   obtain⟨i1,i2⟩:=ih
   exact⟨hcl k i1 l hl t ht,.step i2 (b2h i1 hl) (D8.mpr ⟨t,ht,rfl⟩)⟩
 have gd:∀k,Gd N k->k∈O->Gd (a6d N O) (O.idxOf k):=by
  intro k h
  induction h with
  | @stop k h=>
   intro hk
   exact .stop (by rw[b2h hk h];rfl)
  | @step k t l h ht _ ih=>
   intro hk
   exact .step (b2h hk h) (D8.mpr ⟨t,ht,rfl⟩) (ih (hcl k hk l h t ht))
 have at_:∀i,i<O.length->∃k∈O,O.idxOf k=i:=fun i hi=>⟨O[i],J5 _,hnd.idxOf_getElem i hi⟩
 have mem:∀l∈a6d N O,∃k∈O,∃l',N[k]? = some l'/\l=l'.map fun t=>O.idxOf t:=by
  intro l hl
  obtain⟨k,hk,rfl⟩:=D8.mp hl
  refine⟨k,hk,N[k]'(hlt k hk),by simp[hlt k hk],?_⟩
  simp[T0,hlt k hk]
 refine⟨?_,?_,fun l hl=>?_,fun l hl t ht=>?_,fun i hi=>?_,fun i hi=>?_⟩
 ·rw[hlen]
  exact a5I h0
 ·rw[hlen]
  exact J8 (b0j _ _ hnd hlt) hN
 ·obtain⟨k,hk,l',e,rfl⟩:=mem l hl
  rw[c4]
  exact hsm l' (a0Q e)
 ·obtain⟨k,hk,l',e,rfl⟩:=mem l hl
  obtain⟨t',ht',rfl⟩:=D8.mp ht
  rw[hlen]
  exact c2g (hcl k hk l' e t' ht')
 ·rw[hlen]at hi
  obtain⟨k,hk,rfl⟩:=at_ i hi
  exact(rc k (hrc k hk)).2
 ·rw[hlen]at hi
  obtain⟨k,hk,rfl⟩:=at_ i hi
  exact gd k (hgd k (hlt k hk)) hk
end RD
namespace RD
open PySem PySem.Spec PyProof.Rows L2
variable{C a b c d dx na nl p ra sd tk:Addr}{H H' H0 H1:Hp}{o:HO}{xs ys:List V}{i:Int}{D:a6v}{σ:L2.St}{ta te:TE}{tt:TT}{Q:VK}{v:V}{m n:Nat}{f:V->List V->Hp->VK->Prop}{z:Str}{cs ks l:List Nat}{ss:List Str}{QD:Hp->Prop}{R:It->Hp->Prop}{M N:Nt}{L L0 ns:List Int}{as rs:List Addr}{Z:Addr->Prop}{RC:Nat->List V}
structure Cn where
 S8:Addr
 a4v:Addr
 a0K:Addr
structure a7s(K:Fg)(c:Cn):Prop where
 a1H:Cls K c.S8
 a0Z:a2S K c.S8 "entries"
 a0r:a2S K c.S8 "nexts"
 a2t:a2S K c.S8 "rows"
 b3J:∀H,SqT K H c.a4v [.str "plus",.str "minus",.str "times",.str "less",.str "same"]
 a4u:∀H,SqT K H c.a0K [.int (-1),.int (0)]
def spD(n m:Nat)(t:TS):Sp:=fun vs H Q _=>vs.length=n/\t { nx:=fun _ H'=>Q .non H',rt:=Q } (vs.map some++c8 (m - vs.length) none) H
def c5i(K:Fg):TS:=G7 (L6 (b6 (tC (.int 0)) (b6 (tC (.int 1234567891)) (b6 (tC (.int 0)) (b6 (a0c (a0M K (tSl (c6g K) (c5 0) a1v (a4S (tC (.int 63))))) a0b (tCB c1j (b6 (c5 0) c9))) c9)))))
def b2m(K:Fg):Sp:=spD 1 1 (c5i K)
def c0n(K:Fg):TS:=A0 (K9 (D0 (tOp qEq (tOp qIx (c5 0) (tC (.int 0))) (tC (.int 0)))) (A0 (F0 (tC (.int 12345)) (u9 2)) (A0 (K9 (D0 (tOp qLt (tOp qIx (c5 0) (tC (.int 2))) (tCB V7 (b6 (tOp qIx (c5 0) (tC (.int 3))) c9)))) (A0 (F0 (tOp qIx (tOp qIx (c5 0) (tC (.int 3))) (tOp qIx (c5 0) (tC (.int 2)))) (u9 3)) (A0 (b7t (c5 0) (tC (.int 2)) (tC (.int 1)) b8y (ipI fun i j=>i+j) a6Y) (A0 (K9 (D0 (tOp qGe (c5 3) (tC (.int 1000000000000000000)))) (F0 (c5 3) (b3m (c5 0) (tC (.int 0)) a6Y)) E9) (F0 (tOp X1 (tOp a3K (c5 3) (tC (.int 2147483647))) (tC (.int 1))) (u9 2))))) E9) (F0 (tOp a3K (tOp X1 (tOp b1a (tOp qIx (c5 0) (tC (.int 1))) (tC (.int 48271))) (c5 2)) (tC (.int 2147483647))) (b3m (c5 0) (tC (.int 1)) a6Y)))) E9) (A0 (K9 (D0 (tOp qGt (tOp qIx (c5 0) (tC (.int 0))) (tC (.int 0)))) (A0 (F0 (tOp a3K (tOp qIx (c5 0) (tC (.int 0))) (c5 1)) (u9 4)) (A0 (F0 (tOp c1i (tOp qIx (c5 0) (tC (.int 0))) (c5 1)) (b3m (c5 0) (tC (.int 0)) a6Y)) (G7 (c5 4)))) E9) (A0 (F0 (tOp a3K (tOp b1a (tOp qIx (c5 0) (tC (.int 1))) (tC (.int 39373))) (tC (.int 1000000007))) (u9 5)) (A0 (F0 (tOp a3K (tOp b1a (c5 5) (tC (.int 30011))) (tC (.int 998244353))) (u9 6)) (A0 (K9 (D0 (tOp qGt (c5 1) (tC (.int 1000000)))) (G7 (tOp a3K (tOp X1 (tOp b1a (c5 6) (tC (.int 1000000000))) (c5 5)) (c5 1))) E9) (G7 (tOp a3K (tOp c1i (c5 6) (tC (.int 3))) (c5 1)))))))
def E7(K:Fg):Sp:=spD 2 7 (c0n K)
def b4h(K:Fg):TS:=G7 (tIf (D0 (tOp (qIn false) (tOp qIx (c5 0) (tC (.int 0))) (V1 (b6 (tC (.str "set")) (b6 (tC (.str "copy")) (b6 (tC (.str "take")) c9)))))) (tOp qIx (c5 0) (tC (.int 1))) (tC .non))
def a3H(K:Fg):Sp:=spD 1 1 (b4h K)
def a9t(K:Fg):TS:=A0 (K9 (tB (tCB a4g (b6 (c5 0) (b6 (tC (.ty "str")) c9)))) (G7 (a7B (c5 1) (c5 0) (tC (.int 0)))) E9) (G7 (c5 0))
def a0d(K:Fg):Sp:=spD 2 2 (a9t K)
def b7j(K:Fg):TS:=A0 (F0 (tOp qIx (c5 0) (tC (.int 0))) (u9 2)) (A0 (F0 (w6 (a0d K) [] E0 (b6 (tOp qIx (c5 0) (tC (.int 1))) (b6 (c5 1) c9))) (u9 3)) (A0 (F0 (w6 (a0d K) [] E0 (b6 (tOp qIx (c5 0) (tC (.int 2))) (b6 (c5 1) c9))) (u9 4)) (A0 (K9 (D0 (tOp qEq (c5 2) (tC (.str "plus")))) (G7 (tOp a3K (tOp X1 (c5 3) (c5 4)) (tC (.int 1000000000000)))) E9) (A0 (K9 (D0 (tOp qEq (c5 2) (tC (.str "minus")))) (G7 (tOp a3K (tOp a6k (c5 3) (c5 4)) (tC (.int 1000000000000)))) E9) (A0 (K9 (D0 (tOp qEq (c5 2) (tC (.str "times")))) (G7 (tOp a3K (tOp b1a (c5 3) (c5 4)) (tC (.int 1000000000000)))) E9) (A0 (K9 (D0 (tOp qEq (c5 2) (tC (.str "less")))) (G7 (tIf (D0 (tOp qLt (c5 3) (c5 4))) (tC (.int 1)) (tC (.int 0)))) E9) (G7 (tIf (D0 (tOp qEq (c5 3) (c5 4))) (tC (.int 1)) (tC (.int 0))))))))))
def a6M(K:Fg):Sp:=spD 2 5 (b7j K)
def a8q(K:Fg):TS:=A0 (K9 (D0 (tOp qEq (tOp qIx (c5 0) (tC (.int 0))) (tC (.str "set")))) (G7 (w6 (a6M K) [] E0 (b6 (tOp qIx (c5 0) (tC (.int 2))) (b6 (c5 1) c9)))) E9) (A0 (K9 (D0 (tOp qEq (tOp qIx (c5 0) (tC (.int 0))) (tC (.str "copy")))) (G7 (w6 (a0d K) [] E0 (b6 (tOp qIx (c5 0) (tC (.int 2))) (b6 (c5 1) c9)))) E9) (G7 (tIf (D0 (tOp qGt (tCB V7 (b6 (c5 2) c9)) (tC (.int 0)))) (c0s K "list" b6b (c5 2)) (tC (.int 0)))))
def a2p(K:Fg):Sp:=spD 3 3 (a8q K)
def a5T(K:Fg):TS:=A0 (K9 (a8F (D0 (tOp qEq (tOp qIx (c5 1) (tC (.int 0))) (tC (.str "ask")))) (D0 (tOp qEq (w6 (a0d K) [] E0 (b6 (tOp qIx (c5 1) (tC (.int 1))) (b6 (c5 2) c9))) (tC (.int 0))))) (G7 (V1 (b6 (c5 0) (b6 (tC (.int 1)) c9)))) E9) (G7 (V1 (b6 (c5 0) (b6 (tC (.int 0)) c9))))
def a1w(K:Fg):Sp:=spD 3 3 (a5T K)
def a4x(K:Fg)(c:Cn):TS:=A0 (K9 (D0 (tOp (c3t K) (c5 1) (tC (.ref c.a0K)))) (G7 (tC (.int 0))) E9) (G7 (tOp qIx (tOp qIx (b4n K (c5 0) "nexts") (tOp qIx (c5 1) (tC (.int 0)))) (tOp qIx (c5 1) (tC (.int 1)))))
def Z8(K:Fg)(c:Cn):Sp:=spD 2 2 (a4x K c)
def c5e(K:Fg)(c:Cn):TS:=A0 (F0 (tCB a3c (b6 (c5 1) c9)) (u9 4)) (A0 (F0 (b7s (c5 2)) (u9 5)) (A0 (F0 (L6 c9) (u9 6)) (A0 (F0 (L6 c9) (u9 7)) (A0 (F0 (tC (.ref c.a0K)) (u9 8)) (A0 (F0 (tC (.bl false)) (u9 9)) (A0 (a9z (a8F (D0 (tOp qLt (tCB V7 (b6 (c5 7) c9)) (c5 3))) (a2T (tB (c5 9)))) (A0 (a0L (tBM K "list" Z3 (c5 7) (b6 (c5 8) c9))) (A0 (F0 (b1A c.S8 "leads_to" (Z8 K c) [] E0 (c5 0) (b6 (c5 8) c9)) (u9 10)) (A0 (F0 (tOp qIx (b4n K (c5 0) "rows") (c5 10)) (u9 11)) (A0 (K9 (D0 (tOp b6c (w6 (a3H K) [] E0 (b6 (c5 11) c9)) (tC .non))) (a2l (c5 4) (w6 (a3H K) [] E0 (b6 (c5 11) c9)) (w6 (a2p K) [] E0 (b6 (c5 11) (b6 (c5 4) (b6 (c5 5) c9))))) (K9 (D0 (tOp qEq (tOp qIx (c5 11) (tC (.int 0))) (tC (.str "tell")))) (a0L (tBM K "list" Z3 (c5 6) (b6 (w6 (a0d K) [] E0 (b6 (tOp qIx (c5 11) (tC (.int 1))) (b6 (c5 4) c9))) c9))) E9)) (A0 (F0 (tOp qEq (tCB V7 (b6 (tOp qIx (b4n K (c5 0) "nexts") (c5 10)) c9)) (tC (.int 0))) (u9 9)) (F0 (w6 (a1w K) [] E0 (b6 (c5 10) (b6 (c5 11) (b6 (c5 4) c9)))) (u9 8)))))))) (G7 (V1 (b6 (c5 6) (b6 (c5 7) (b6 (c5 4) (b6 (c5 9) c9))))))))))))
def a1a(K:Fg)(c:Cn):Sp:=spD 4 12 (c5e K c)
def a4R(K:Fg):TS:=A0 (K9 (tOr (a2T (tB (tCB a4g (b6 (c5 0) (b6 (tC (.ty "list")) c9))))) (D0 (tOp qLt (tCB V7 (b6 (c5 0) c9)) (c5 2)))) (fun _ _ _=>False) E9) (K9 (D0 (tOp qGt (tCB V7 (b6 (c5 0) c9)) (tC (.int 400)))) (fun _ _ _=>False) E9)
def a0V(K:Fg):Sp:=spD 3 3 (a4R K)
def a7A(K:Fg):TS:=A0 (K9 (tOr (a2T (tB (tCB a4g (b6 (c5 0) (b6 (tC (.ty "str")) c9))))) (a2T (D0 (a3o qLe qLe (tC (.int 1)) (tCB V7 (b6 (c5 0) c9)) (tC (.int 8)))))) (G7 (tC (.bl false))) E9) (G7 (Y0 (tOp (qIn false) (tOp qIx (c5 0) (tC (.int 0))) (tC (.str "abcdefghijklmnopqrstuvwxyz"))) (tCB b2H (b6 (a0c (c4D (c5 0)) a0b (tOp (qIn false) (c5 0) (tOp X1 (tC (.str "abcdefghijklmnopqrstuvwxyz")) (tC (.str "0123456789"))))) c9))))
def a0h(K:Fg):Sp:=spD 1 1 (a7A K)
def b5H(K:Fg):TS:=G7 (Y0 (tCB a4g (b6 (c5 0) (b6 (tC (.ty "int")) c9))) (b1z (tCB a4g (b6 (c5 0) (b6 (tC (.ty "bool")) c9)))))
def a2c(K:Fg):Sp:=spD 1 1 (b5H K)
def a9x(K:Fg):TS:=G7 (Y0 (w6 (a2c K) [] E0 (b6 (c5 0) c9)) (a3o qLe qLt (tC (.int 0)) (c5 0) (tC (.int 1000000000000))))
def a2Y(K:Fg):Sp:=spD 1 1 (a9x K)
def a6G(K:Fg):TS:=G7 (c3e (w6 (a0h K) [] E0 (b6 (c5 0) c9)) (w6 (a2Y K) [] E0 (b6 (c5 0) c9)))
def Y7(K:Fg):Sp:=spD 1 1 (a6G K)
def b1y(K:Fg)(c:Cn):TS:=A0 (K9 (tOr (a2T (tB (tCB a4g (b6 (c5 0) (b6 (tC (.ty "tuple")) c9))))) (D0 (tOp qNe (tCB V7 (b6 (c5 0) c9)) (tC (.int 3))))) (G7 (tC (.bl false))) E9) (G7 (Y0 (tOp (c6r K) (tOp qIx (c5 0) (tC (.int 0))) (tC (.ref c.a4v))) (Y0 (w6 (Y7 K) [] E0 (b6 (tOp qIx (c5 0) (tC (.int 1))) c9)) (w6 (Y7 K) [] E0 (b6 (tOp qIx (c5 0) (tC (.int 2))) c9)))))
def a3X(K:Fg)(c:Cn):Sp:=spD 1 1 (b1y K c)
def b4l(K:Fg)(c:Cn):TS:=A0 (K9 (tOr (a2T (tB (tCB a4g (b6 (c5 0) (b6 (tC (.ty "tuple")) c9))))) (D0 (tOp qEq (tCB V7 (b6 (c5 0) c9)) (tC (.int 0))))) (G7 (tC (.bl false))) E9) (A0 (F0 (tOp qIx (c5 0) (tC (.int 0))) (u9 1)) (A0 (F0 (tSl qSl (c5 0) (a4S (tC (.int 1))) a1v) (u9 2)) (A0 (K9 (D0 (tOp qEq (c5 1) (tC (.str "set")))) (G7 (Y0 (tOp qEq (tCB V7 (b6 (c5 2) c9)) (tC (.int 2))) (Y0 (w6 (a0h K) [] E0 (b6 (tOp qIx (c5 2) (tC (.int 0))) c9)) (w6 (a3X K c) [] E0 (b6 (tOp qIx (c5 2) (tC (.int 1))) c9))))) E9) (A0 (K9 (D0 (tOp qEq (c5 1) (tC (.str "copy")))) (G7 (Y0 (tOp qEq (tCB V7 (b6 (c5 2) c9)) (tC (.int 2))) (Y0 (w6 (a0h K) [] E0 (b6 (tOp qIx (c5 2) (tC (.int 0))) c9)) (w6 (Y7 K) [] E0 (b6 (tOp qIx (c5 2) (tC (.int 1))) c9))))) E9) (A0 (K9 (D0 (tOp qEq (c5 1) (tC (.str "take")))) (G7 (Y0 (tOp qEq (tCB V7 (b6 (c5 2) c9)) (tC (.int 1))) (w6 (a0h K) [] E0 (b6 (tOp qIx (c5 2) (tC (.int 0))) c9)))) E9) (A0 (K9 (D0 (tOp (qIn false) (c5 1) (V1 (b6 (tC (.str "tell")) (b6 (tC (.str "ask")) c9))))) (G7 (Y0 (tOp qEq (tCB V7 (b6 (c5 2) c9)) (tC (.int 1))) (w6 (Y7 K) [] E0 (b6 (tOp qIx (c5 2) (tC (.int 0))) c9)))) E9) (G7 (Y0 (tOp qEq (c5 1) (tC (.str "skip"))) (tOp qEq (tCB V7 (b6 (c5 2) c9)) (tC (.int 0)))))))))))
def a5x(K:Fg)(c:Cn):Sp:=spD 1 3 (b4l K c)
def a6I(K:Fg):TS:=a2C (a8z K (b6 (c5 0) c9)) (b0s K 2 (a0e (u9 1) (a0e (u9 2) (b0t)))) (K9 (a2T (tB (c5 2))) (fun _ _ _=>False) E9)
def a0R(K:Fg):Sp:=spD 1 3 (a6I K)
def a9y(K:Fg):TS:=G7 (Y0 (w6 (a2c K) [] E0 (b6 (c5 0) c9)) (a3o qLe qLt (tC (.int 0)) (c5 0) (c5 1)))
def a2Z(K:Fg):Sp:=spD 2 2 (a9y K)
def a8s(K:Fg):TS:=A0 (K9 (a2T (tB (tCB a4g (b6 (c5 1) (b6 (tC (.ty "list")) c9))))) (G7 (tC (.bl false))) E9) (A0 (F0 (tIf (D0 (tOp qEq (tOp qIx (c5 0) (tC (.int 0))) (tC (.str "ask")))) (V1 (b6 (tC (.int 2)) c9)) (V1 (b6 (tC (.int 0)) (b6 (tC (.int 1)) c9)))) (u9 3)) (G7 (Y0 (tOp (qIn false) (tCB V7 (b6 (c5 1) c9)) (c5 3)) (tCB b2H (b6 (a0c (a0M K (c5 1)) a0b (w6 (a2Z K) [] E0 (b6 (c5 0) (b6 (c5 3) c9)))) c9)))))
def a2r(K:Fg):Sp:=spD 3 4 (a8s K)
def a5U(K:Fg):TS:=A0 (K9 (tOr (a2T (tB (tCB a4g (b6 (c5 1) (b6 (tC (.ty "list")) c9))))) (D0 (tOp qNe (tCB V7 (b6 (c5 1) c9)) (tCB V7 (b6 (c5 0) c9))))) (fun _ _ _=>False) E9) (a0L (w6 (a0R K) [] E0 (b6 (a9A K (c4C K (b6 (c5 0) (b6 (c5 1) c9))) a0b (w6 (a2r K) [] E0 (b6 (c5 0) (b6 (c5 1) (b6 (tCB V7 (b6 (c5 2) c9)) c9))))) c9)))
def a1x(K:Fg):Sp:=spD 2 2 (a5U K)
def b1u(K:Fg):TS:=A0 (F0 a2D (u9 2)) (A0 (F0 (tCB a2J (b6 (c5 0) c9)) (u9 3)) (A0 (a9z (D0 (tOp qGt (tCB V7 (b6 (c5 3) c9)) (tC (.int 0)))) (A0 (F0 (c0s K "list" b6b (c5 3)) (u9 4)) (K9 (tB (a5s (c5 4) (c5 2))) (A0 (a2l (c5 2) (c5 4) (tC (.bl true))) (a0L (tBM K "list" a4h (c5 3) (b6 (tOp qIx (c5 1) (c5 4)) c9)))) E9))) (G7 (c5 2))))
def a2G(K:Fg):Sp:=spD 2 5 (b1u K)
def b4g(K:Fg):TS:=A0 (fun D σ H=>(a0c (a0M K (c5 0)) a0b (L6 c9)) σ H fun v H1=>D.nx (σ.set 1 (some v)) H1) (A0 (a2C (a8z K (b6 (c5 0) c9)) (b0s K 2 (a0e (u9 2) (a0e (u9 3) (b0t)))) (a2C (a0M K (c5 3)) (u9 4) (a0L (tBM K "list" Z3 (tOp qIx (c5 1) (c5 4)) (b6 (c5 2) c9))))) (G7 (c5 1)))
def a5t(K:Fg):Sp:=spD 1 5 (b4g K)
def a9u(K:Fg):TS:=G7 (a9A K (a8z K (b6 (c5 0) c9)) (D0 (tOp qEq (tCB V7 (b6 (c5 1) c9)) (tC (.int 0)))) (c5 0))
def a2W(K:Fg):Sp:=spD 1 1 (a9u K)
def a6H(K:Fg):TS:=A0 (F0 (w6 (a2G K) [] E0 (b6 (L6 (b6 (tC (.int 0)) c9)) (b6 (c5 0) c9))) (u9 1)) (A0 (F0 (w6 (a2G K) [] E0 (b6 (w6 (a2W K) [] E0 (b6 (c5 0) c9)) (b6 (w6 (a5t K) [] E0 (b6 (c5 0) c9)) c9))) (u9 2)) (a2C (a1l (b6 (tCB V7 (b6 (c5 0) c9)) c9)) (u9 3) (K9 (tOr (tB (a5s (c5 3) (c5 1))) (tB (a5s (c5 3) (c5 2)))) (fun _ _ _=>False) E9)))
def a1T(K:Fg):Sp:=spD 1 4 (a6H K)
def a9v(K:Fg)(c:Cn):TS:=A0 (F0 (L6 (b6 (tC (.ref c.a0K)) c9)) (u9 1)) (A0 (a2C (a8z K (b6 (c5 0) c9)) (b0s K 2 (a0e (u9 2) (a0e (u9 3) (b0t)))) (a0L (tBM K "list" a4h (c5 1) (b6 (a0c (a1l (b6 (tCB V7 (b6 (c5 3) c9)) c9)) a0b (V1 (b6 (c5 3) (b6 (c5 0) c9)))) c9)))) (G7 (c5 1)))
def a2X(K:Fg)(c:Cn):Sp:=spD 1 4 (a9v K c)
def a8t(K:Fg)(c:Cn):TS:=A0 (a0L (w6 (a0V K) [] E0 (b6 (c5 1) (b6 (tC (.int 0)) (b6 (tC (.int 1)) c9))))) (A0 (a0L (w6 (a0R K) [] E0 (b6 (a0c (a0M K (c5 1)) a0b (w6 (a5x K c) [] E0 (b6 (c5 0) c9))) c9))) (A0 (a0L (w6 (a1x K) [] E0 (b6 (c5 1) (b6 (c5 2) c9)))) (A0 (a0L (w6 (a1T K) [] E0 (b6 (c5 2) c9))) (A0 (b8u K (c5 0) (tCB a2J (b6 (c5 1) c9)) "rows") (A0 (b8u K (c5 0) (a0c (a0M K (c5 2)) a0b (tCB a2J (b6 (c5 0) c9))) "nexts") (A0 (b8u K (c5 0) (a0c (a0M K (c5 1)) a0b (L6 c9)) "entries") (a2C (a0M K (w6 (a2X K c) [] E0 (b6 (b4n K (c5 0) "nexts") c9))) (u9 3) (a0L (tBM K "list" Z3 (tOp qIx (b4n K (c5 0) "entries") (b1A c.S8 "leads_to" (Z8 K c) [] E0 (c5 0) (b6 (c5 3) c9))) (b6 (c5 3) c9))))))))))
def Y1(K:Fg)(c:Cn):Sp:=spD 3 4 (a8t K c)
def b4i(K:Fg)(c:Cn):TS:=A0 (F0 (tOp X1 (tC (.int 1)) (w6 (E7 K) [] E0 (b6 (c5 0) (b6 (tC (.int 1333)) c9)))) (u9 1)) (A0 (F0 (L6 (b6 (V1 (b6 (tC (.str "set")) (b6 (tC (.str "n")) (b6 (V1 (b6 (tC (.str "plus")) (b6 (tC (.str "n")) (b6 (tC (.int 1)) c9)))) c9)))) (b6 (V1 (b6 (tC (.str "set")) (b6 (tC (.str "m")) (b6 (V1 (b6 (tC (.str "less")) (b6 (tC (.str "n")) (b6 (c5 1) c9)))) c9)))) (b6 (V1 (b6 (tC (.str "ask")) (b6 (tC (.str "m")) c9))) (b6 (V1 (b6 (tC (.str "tell")) (b6 (tC (.str "n")) c9))) c9))))) (u9 2)) (A0 (F0 (a6J c.S8 (Y1 K c) [] E0 (b6 (c5 2) (b6 (L6 (b6 (L6 (b6 (tC (.int 1)) c9)) (b6 (L6 (b6 (tC (.int 2)) c9)) (b6 (L6 (b6 (tC (.int 0)) (b6 (tC (.int 3)) c9))) (b6 (L6 c9) c9))))) c9))) (u9 3)) (A0 (F0 (w6 (a1a K c) [] E0 (b6 (c5 3) (b6 a2D (b6 (L6 c9) (b6 (tC (.int 4000)) c9))))) (b0s K 4 (a0e (u9 4) (a0e (u9 5) (a0e (u9 6) (a0e (u9 7) (b0t))))))) (A0 (F0 (tOp X1 (L6 (b6 (V1 (b6 (tUn (rU fun i=>.int (-i)) (tC (.int 1))) (b6 (tC (.int 0)) c9))) c9)) (tOp b6a (L6 (b6 (V1 (b6 (tC (.int 0)) (b6 (tC (.int 0)) c9))) (b6 (V1 (b6 (tC (.int 1)) (b6 (tC (.int 0)) c9))) (b6 (V1 (b6 (tC (.int 2)) (b6 (tC (.int 0)) c9))) c9)))) (c5 1))) (u9 8)) (A0 (F0 (V1 (b6 (tC (.int 2)) (b6 (tC (.int 1)) c9))) (b3m (c5 8) (tOp b1a (tC (.int 3)) (c5 1)) a6Y)) (A0 (K9 (tOr (D0 (tOp qNe (c5 4) (L6 (b6 (c5 1) c9)))) (tOr (D0 (tOp (c6n K) (c5 5) (c5 8))) (tOr (D0 (tOp c6o (c5 6) (a6K ((tC (.str "n"),c5 1)::(tC (.str "m"),tC (.int 0))::[])))) (D0 (tOp c1g (c5 7) (tC (.bl true))))))) (G7 (tC (.bl false))) E9) (A0 (F0 (a6J c.S8 (Y1 K c) [] E0 (b6 (L6 (b6 (V1 (b6 (tC (.str "ask")) (b6 (tC (.int 1)) c9))) (b6 (V1 (b6 (tC (.str "skip")) c9)) c9))) (b6 (L6 (b6 (L6 (b6 (tC (.int 0)) (b6 (tC (.int 1)) c9))) (b6 (L6 c9) c9))) c9))) (u9 9)) (A0 (K9 (D0 (tOp (b8w K) (w6 (a1a K c) [] E0 (b6 (c5 9) (b6 a2D (b6 (L6 c9) (b6 (tC (.int 4000)) c9))))) (V1 (b6 (L6 c9) (b6 (tOp X1 (L6 (b6 (V1 (b6 (tUn (rU fun i=>.int (-i)) (tC (.int 1))) (b6 (tC (.int 0)) c9))) c9)) (tOp b6a (L6 (b6 (V1 (b6 (tC (.int 0)) (b6 (tC (.int 0)) c9))) c9)) (tC (.int 3999)))) (b6 a2D (b6 (tC (.bl false)) c9))))))) (G7 (tC (.bl false))) E9) (A0 (F0 (w6 (E7 K) [] E0 (b6 (c5 0) (b6 (tOp X1 (tOp b1a (tC (.int 3)) (c5 1)) (tC (.int 1))) c9))) (u9 10)) (G7 (Y0 (tOp (a9X K) (tOp qIx (w6 (a1a K c) [] E0 (b6 (c5 3) (b6 a2D (b6 (L6 c9) (b6 (c5 10) c9))))) (tC (.int 1))) (tSl qSl (c5 8) a1v (a4S (c5 10)))) (tOp qEq (tOp qIx (w6 (a1a K c) [] E0 (b6 (c5 3) (b6 (a6K ((tC (.str "n"),c5 1)::[])) (b6 (L6 c9) (b6 (tC (.int 4)) c9))))) (tC (.int 0))) (L6 (b6 (tOp X1 (c5 1) (tC (.int 1))) c9))))))))))))))
def a5u(K:Fg)(c:Cn):Sp:=spD 1 11 (b4i K c)
def b7r(K:Fg)(c:Cn):TS:=A0 (F0 (tOp X1 (tC (.int 341)) (w6 (E7 K) [] E0 (b6 (c5 0) (b6 (tC (.int 60)) c9)))) (u9 1)) (A0 (F0 (tOp X1 (tOp b6a (L6 (b6 (V1 (b6 (tC (.str "set")) (b6 (tC (.str "n")) (b6 (V1 (b6 (tC (.str "plus")) (b6 (tC (.str "n")) (b6 (tC (.int 1)) c9)))) c9)))) c9)) (tOp a6k (c5 1) (tC (.int 1)))) (L6 (b6 (V1 (b6 (tC (.str "tell")) (b6 (tC (.str "n")) c9))) c9))) (u9 2)) (A0 (F0 (a6J c.S8 (Y1 K c) [] E0 (b6 (c5 2) (b6 (tOp X1 (a0c (a1l (b6 (tOp a6k (c5 1) (tC (.int 1))) c9)) a0b (L6 (b6 (tOp X1 (c5 0) (tC (.int 1))) c9))) (L6 (b6 (L6 c9) c9))) c9))) (u9 3)) (A0 (F0 (tOp X1 (L6 (b6 (V1 (b6 (tUn (rU fun i=>.int (-i)) (tC (.int 1))) (b6 (tC (.int 0)) c9))) c9)) (a0c (a1l (b6 (tOp a6k (c5 1) (tC (.int 1))) c9)) a0b (V1 (b6 (c5 0) (b6 (tC (.int 0)) c9))))) (u9 4)) (A0 (F0 (w6 (E7 K) [] E0 (b6 (c5 0) (b6 (c5 1) c9))) (u9 5)) (A0 (K9 (D0 (tOp (b8w K) (w6 (a1a K c) [] E0 (b6 (c5 3) (b6 a2D (b6 (L6 c9) (b6 (tC (.int 400)) c9))))) (V1 (b6 (L6 (b6 (tOp a6k (c5 1) (tC (.int 1))) c9)) (b6 (c5 4) (b6 (a6K ((tC (.str "n"),tOp a6k (c5 1) (tC (.int 1)))::[])) (b6 (tC (.bl true)) c9))))))) (G7 (tC (.bl false))) E9) (G7 (tOp (a9X K) (tSl qSl (w6 (a1a K c) [] E0 (b6 (c5 3) (b6 (a6K ((tC (.str "n"),tC (.int 5))::[])) (b6 (L6 c9) (b6 (c5 5) c9))))) a1v (a4S (tC (.int 2)))) (V1 (b6 (L6 c9) (b6 (tSl qSl (c5 4) a1v (a4S (c5 5))) c9))))))))))
def a6R(K:Fg)(c:Cn):Sp:=spD 1 6 (b7r K c)
def c5g(K:Fg):TS:=A0 (F0 (L6 c9) (u9 2)) (A0 (a2C (a1l (b6 (c5 1) c9)) (u9 3) (A0 (F0 (tCB b8x (b6 (tOp X1 (c5 3) (tC (.int 1))) (b6 (tOp a6k (c5 1) (tC (.int 1))) c9))) (u9 4)) (A0 (F0 (L6 (b6 (c5 4) (b6 (w6 (E7 K) [] E0 (b6 (c5 0) (b6 (c5 1) c9))) c9))) (u9 5)) (A0 (F0 (w6 (E7 K) [] E0 (b6 (c5 0) (b6 (tC (.int 8)) c9))) (u9 6)) (A0 (K9 (D0 (tOp qLt (c5 6) (tC (.int 3)))) (F0 (L6 (b6 (tOp qIx (c5 5) (tC (.int 1))) (b6 (c5 4) c9))) (u9 5)) E9) (A0 (K9 (D0 (tOp qEq (c5 6) (tC (.int 3)))) (F0 (L6 (b6 (tOp qIx (c5 5) (tC (.int 1))) (b6 (w6 (E7 K) [] E0 (b6 (c5 0) (b6 (c5 1) c9))) c9))) (u9 5)) E9) (A0 (K9 (tOr (a8F (D0 (tOp qGt (c5 6) (tC (.int 3)))) (D0 (tOp qLt (c5 6) (tC (.int 7))))) (D0 (tOp qEq (c5 1) (tC (.int 1))))) (F0 (L6 (b6 (c5 4) c9)) (u9 5)) E9) (A0 (K9 (D0 (tOp qEq (c5 6) (tC (.int 7)))) (F0 (L6 (b6 (tOp qIx (c5 5) (tUn (rU fun i=>.int (-i)) (tC (.int 1)))) c9)) (u9 5)) E9) (A0 (K9 (tOr (D0 (tOp qEq (c5 3) (tOp a6k (c5 1) (tC (.int 1))))) (a8F (D0 (tOp qEq (c5 6) (tC (.int 6)))) (D0 (tOp qEq (w6 (E7 K) [] E0 (b6 (c5 0) (b6 (tC (.int 4)) c9))) (tC (.int 0)))))) (F0 (L6 c9) (u9 5)) E9) (a0L (tBM K "list" Z3 (c5 2) (b6 (c5 5) c9)))))))))))) (G7 (c5 2)))
def b2k(K:Fg):Sp:=spD 2 7 (c5g K)
def b4k(K:Fg):TS:=A0 (F0 a2D (u9 1)) (A0 (a2C (a1l (b6 (tCB V7 (b6 (c5 0) c9)) c9)) (u9 2) (a2C (a1l (b6 (tCB V7 (b6 (c5 0) c9)) c9)) (u9 3) (K9 (tOr (D0 (tOp qEq (tOp qIx (c5 0) (c5 3)) (L6 c9))) (tB (tCB b6e (b6 (a0c (a0M K (tOp qIx (c5 0) (c5 3))) a0b (b2g (c5 0) (c5 2))) c9)))) (a2l (c5 1) (c5 3) (tC (.bl true))) E9))) (A0 (F0 (a0c (a1l (b6 (tCB V7 (b6 (c5 0) c9)) c9)) a0b (tIf (tB (b2g (c5 0) (c5 2))) (tOp qIx (c5 1) (c5 0)) (tOp X1 (L6 (b6 (tOp a6k (tCB V7 (b6 (c5 1) c9)) (tC (.int 1))) c9)) (tSl qSl (tOp qIx (c5 1) (c5 0)) (a4S (tC (.int 1))) a1v)))) (u9 0)) (A0 (F0 (a6K ((tC (.int 0),tC (.bl true))::[])) (u9 4)) (A0 (a2C (a1l (b6 (tCB V7 (b6 (c5 0) c9)) c9)) (u9 2) (a2C (a1l (b6 (tCB V7 (b6 (c5 0) c9)) c9)) (u9 3) (K9 (tB (b2g (c5 3) (c5 4))) (a2C (a0M K (tOp qIx (c5 0) (c5 3))) (u9 5) (a2l (c5 4) (c5 5) (tC (.bl true)))) E9))) (A0 (F0 (tCB a5A (b6 (tCB a7J (b6 (c5 4) c9)) c9)) (u9 6)) (G7 (a0c (a0M K (c5 6)) a0b (a0c (a0M K (tOp qIx (c5 1) (c5 0))) a0b (tBM K "list" a7K (c5 8) (b6 (c5 0) c9))))))))))
def a5w(K:Fg):Sp:=spD 1 7 (b4k K)
def c0r(K:Fg):TS:=A0 (F0 (tC (.str "abcdefghijklmnopqrstuvwxyz")) (u9 2)) (A0 (F0 (tOp X1 (c5 2) (tC (.str "0123456789"))) (u9 3)) (G7 (tOp X1 (L6 (b6 (tOp qIx (c5 2) (w6 (E7 K) [] E0 (b6 (c5 0) (b6 (tC (.int 26)) c9)))) c9)) (a0c (a1l (b6 (tOp a6k (c5 1) (tC (.int 1))) c9)) a0b (tOp qIx (c5 4) (w6 (E7 K) [] E0 (b6 (c5 1) (b6 (tC (.int 36)) c9))))))))
def a6S(K:Fg):Sp:=spD 2 4 (c0r K)
def b7o(K:Fg):TS:=A0 (F0 (tC (.str "abcdefghijklmnopqrstuvwxyz")) (u9 2)) (A0 (F0 (tOp X1 (tC (.int 1)) (w6 (E7 K) [] E0 (b6 (c5 0) (b6 (tC (.int 8)) c9)))) (u9 3)) (A0 (F0 (L6 (b6 (w6 (a6S K) [] E0 (b6 (c5 0) (b6 (c5 3) c9))) (b6 (w6 (a6S K) [] E0 (b6 (c5 0) (b6 (tOp X1 (tOp a3K (c5 3) (tC (.int 8))) (tC (.int 1))) c9))) c9))) (u9 4)) (A0 (F0 (L6 (b6 (w6 (E7 K) [] E0 (b6 (c5 0) (b6 (c5 3) c9))) (b6 (w6 (E7 K) [] E0 (b6 (c5 0) (b6 (tOp X1 (tOp a3K (c5 3) (tC (.int 8))) (tC (.int 1))) c9))) c9))) (u9 5)) (A0 (F0 (w6 (E7 K) [] E0 (b6 (c5 0) (b6 (tC (.int 26)) c9))) (u9 6)) (A0 (F0 (L6 c9) (u9 7)) (A0 (a2C (a1l (b6 (c5 1) c9)) (u9 8) (A0 (F0 (tCB a2J (b6 (tOp qIx (c5 4) (tOp a3K (c5 8) (tC (.int 2)))) c9)) (u9 9)) (A0 (F0 (tOp qIx (c5 2) (tOp a3K (tOp X1 (c5 6) (tOp c1i (c5 8) (tC (.int 2)))) (tC (.int 26)))) (b3m (c5 9) (tOp qIx (c5 5) (tOp a3K (c5 8) (tC (.int 2)))) a6Y)) (a0L (tBM K "list" Z3 (c5 7) (b6 (tBM K "str" a9V (tC (.str "")) (b6 (c5 9) c9)) c9)))))) (A0 (F0 (tOp qIx (L6 (b6 (tC (.str "k0")) (b6 (tC (.str "k1")) (b6 (tC (.str "set")) (b6 (tC (.str "ask")) (b6 (tC (.str "plus")) (b6 (tC (.str "k2")) c9))))))) (w6 (E7 K) [] E0 (b6 (c5 0) (b6 (tC (.int 6)) c9)))) (u9 10)) (A0 (K9 (a8F (D0 (tOp qEq (w6 (E7 K) [] E0 (b6 (c5 0) (b6 (tC (.int 2)) c9))) (tC (.int 0)))) (D0 (tOp (qIn true) (c5 10) (c5 7)))) (F0 (c5 10) (b3m (c5 7) (w6 (E7 K) [] E0 (b6 (c5 0) (b6 (c5 1) c9))) a6Y)) E9) (G7 (c5 7))))))))))
def a6P(K:Fg):Sp:=spD 2 11 (b7o K)
def b7l(K:Fg):TS:=G7 (tOp qIx (L6 (b6 (tC (.int 0)) (b6 (tC (.int 1)) (b6 (tC (.int 2)) (b6 (tC (.int 999999999999)) (b6 (w6 (E7 K) [] E0 (b6 (c5 0) (b6 (tC (.int 1000000000000)) c9))) c9)))))) (w6 (E7 K) [] E0 (b6 (c5 0) (b6 (tC (.int 5)) c9))))
def a2F(K:Fg):Sp:=spD 1 1 (b7l K)
def b1v(K:Fg):TS:=A0 (K9 (D0 (tOp qEq (w6 (E7 K) [] E0 (b6 (c5 0) (b6 (tC (.int 4)) c9))) (tC (.int 0)))) (G7 (w6 (a2F K) [] E0 (b6 (c5 0) c9))) E9) (G7 (tOp qIx (c5 1) (w6 (E7 K) [] E0 (b6 (c5 0) (b6 (tCB V7 (b6 (c5 1) c9)) c9)))))
def a0B(K:Fg):Sp:=spD 2 2 (b1v K)
def c0q(K:Fg):TS:=A0 (F0 (tOp qIx (L6 (b6 (tC (.str "plus")) (b6 (tC (.str "minus")) (b6 (tC (.str "times")) (b6 (tC (.str "less")) (b6 (tC (.str "same")) c9)))))) (w6 (E7 K) [] E0 (b6 (c5 0) (b6 (tC (.int 5)) c9)))) (u9 2)) (G7 (V1 (b6 (c5 2) (b6 (w6 (a0B K) [] E0 (b6 (c5 0) (b6 (c5 1) c9))) (b6 (w6 (a0B K) [] E0 (b6 (c5 0) (b6 (c5 1) c9))) c9)))))
def a8L(K:Fg):Sp:=spD 2 3 (c0q K)
def c5f(K:Fg):TS:=A0 (F0 (tOp qIx (c5 1) (w6 (E7 K) [] E0 (b6 (c5 0) (b6 (tCB V7 (b6 (c5 1) c9)) c9)))) (u9 4)) (A0 (K9 (D0 (tOp qGt (w6 (E7 K) [] E0 (b6 (c5 0) (b6 (tC (.int 3)) c9))) (tC (.int 0)))) (F0 (tOp qIx (c5 1) (tOp X1 (c5 2) (w6 (E7 K) [] E0 (b6 (c5 0) (b6 (tOp a6k (tCB V7 (b6 (c5 1) c9)) (c5 2)) c9))))) (u9 4)) E9) (A0 (F0 (w6 (E7 K) [] E0 (b6 (c5 0) (b6 (tC (.int 8)) c9))) (u9 5)) (A0 (K9 (D0 (tOp qLt (c5 5) (tC (.int 5)))) (G7 (V1 (b6 (tC (.str "set")) (b6 (c5 4) (b6 (tOp qIx (c5 3) (w6 (E7 K) [] E0 (b6 (c5 0) (b6 (tCB V7 (b6 (c5 3) c9)) c9)))) c9))))) E9) (A0 (K9 (D0 (tOp qEq (c5 5) (tC (.int 5)))) (G7 (V1 (b6 (tC (.str "copy")) (b6 (c5 4) (b6 (w6 (a0B K) [] E0 (b6 (c5 0) (b6 (c5 1) c9))) c9))))) E9) (A0 (K9 (D0 (tOp qEq (c5 5) (tC (.int 6)))) (G7 (tOp qIx (L6 (b6 (V1 (b6 (tC (.str "take")) (b6 (c5 4) c9))) (b6 (V1 (b6 (tC (.str "tell")) (b6 (w6 (a0B K) [] E0 (b6 (c5 0) (b6 (c5 1) c9))) c9))) c9))) (w6 (E7 K) [] E0 (b6 (c5 0) (b6 (tC (.int 2)) c9))))) E9) (G7 (V1 (b6 (tC (.str "skip")) c9))))))))
def b2j(K:Fg):Sp:=spD 4 6 (c5f K)
def c0o(K:Fg):TS:=A0 (F0 (tOp X1 (tC (.int 1)) (w6 (E7 K) [] E0 (b6 (c5 0) (b6 (tC (.int 9)) c9)))) (u9 1)) (A0 (K9 (D0 (tOp qEq (w6 (E7 K) [] E0 (b6 (c5 0) (b6 (tC (.int 8)) c9))) (tC (.int 0)))) (F0 (tOp X1 (tC (.int 15)) (w6 (E7 K) [] E0 (b6 (c5 0) (b6 (tC (.int 10)) c9)))) (u9 1)) E9) (A0 (F0 (w6 (a5w K) [] E0 (b6 (w6 (b2k K) [] E0 (b6 (c5 0) (b6 (c5 1) c9))) c9)) (u9 2)) (A0 (F0 (tOp X1 (tC (.int 1)) (w6 (E7 K) [] E0 (b6 (c5 0) (b6 (tC (.int 3)) c9)))) (u9 3)) (A0 (F0 (w6 (a6P K) [] E0 (b6 (c5 0) (b6 (tOp X1 (tOp X1 (c5 3) (tC (.int 1))) (w6 (E7 K) [] E0 (b6 (c5 0) (b6 (tC (.int 2)) c9)))) c9))) (u9 4)) (A0 (fun D σ H=>(a0c (a1l (b6 (tOp X1 (tC (.int 1)) (w6 (E7 K) [] E0 (b6 (c5 0) (b6 (tC (.int 3)) c9)))) c9)) a0b (w6 (a8L K) [] E0 (b6 (c5 1) (b6 (tSl qSl (c5 5) a1v (a4S (c5 4))) c9)))) σ H fun v H1=>D.nx (σ.set 5 (some v)) H1) (A0 (F0 (L6 c9) (u9 6)) (A0 (a2C (a0M K (c5 2)) (u9 7) (K9 (D0 (tOp qEq (tCB V7 (b6 (c5 7) c9)) (tC (.int 2)))) (a0L (tBM K "list" Z3 (c5 6) (b6 (V1 (b6 (tC (.str "ask")) (b6 (w6 (a0B K) [] E0 (b6 (c5 0) (b6 (c5 4) c9))) c9))) c9))) (a0L (tBM K "list" Z3 (c5 6) (b6 (w6 (b2j K) [] E0 (b6 (c5 0) (b6 (c5 4) (b6 (c5 3) (b6 (c5 5) c9))))) c9))))) (G7 (V1 (b6 (c5 6) (b6 (c5 2) (b6 (c5 4) (b6 (c5 5) c9)))))))))))))
def a8K(K:Fg):Sp:=spD 1 8 (c0o K)
def b7p(K:Fg):TS:=G7 (a0c (a0M K (c5 0)) a0b (tCB a2J (b6 (c5 0) c9)))
def a6Q(K:Fg):Sp:=spD 1 1 (b7p K)
def b7n(K:Fg):TS:=A0 (F0 a2D (u9 2)) (A0 (a2C (a0M K (c5 1)) (u9 3) (K9 (D0 (tOp qEq (w6 (E7 K) [] E0 (b6 (c5 0) (b6 (tC (.int 2)) c9))) (tC (.int 0)))) (a2l (c5 2) (c5 3) (w6 (a2F K) [] E0 (b6 (c5 0) c9))) E9)) (A0 (fun D σ H=>(a0c (a0M K (L6 (b6 (tC (.str "spare")) (b6 (tC (.str "k9")) (b6 (tC (.str "x1")) (b6 (tC (.str "y2")) (b6 (tC (.str "z3")) (b6 (tC (.str "w4")) c9)))))))) (D0 (tOp (qIn true) (c5 0) (c5 2))) (c5 0)) σ H fun v H1=>D.nx (σ.set 4 (some v)) H1) (A0 (a2l (c5 2) (tOp qIx (c5 4) (tC (.int 0))) (w6 (a2F K) [] E0 (b6 (c5 0) c9))) (G7 (c5 2)))))
def a6O(K:Fg):Sp:=spD 2 5 (b7n K)
def b7m(K:Fg):TS:=G7 (a0c (a1l (b6 (w6 (E7 K) [] E0 (b6 (c5 0) (b6 (tC (.int 7)) c9))) c9)) a0b (w6 (a2F K) [] E0 (b6 (c5 1) c9)))
def a6N(K:Fg):Sp:=spD 1 1 (b7m K)
def a9w(K:Fg):TS:=G7 (tOp (a9X K) (c5 0) (tSl qSl (c5 1) a1v (a4S (tCB V7 (b6 (c5 0) c9)))))
def a2u(K:Fg):Sp:=spD 2 2 (a9w K)
def b7k(K:Fg):TS:=G7 (Y0 (tCB a4g (b6 (c5 0) (b6 (tC (.ty "int")) c9))) (b1z (tCB a4g (b6 (c5 0) (b6 (tC (.ty "bool")) c9)))))
def a4T(K:Fg):Sp:=spD 1 1 (b7k K)
def b1x(K:Fg):TS:=A0 (K9 (tOr (a2T (tB (tCB (c1f K) (b6 (c5 1) (b6 (tC (.ty "tuple")) c9))))) (tOr (D0 (tOp qNe (tCB (c1e K) (b6 (c5 1) c9)) (tC (.int 2)))) (tOr (a2T (tB (w6 (a4T K) [] E0 (b6 (tOp (a9W K) (c5 1) (tC (.int 0))) c9)))) (a2T (tB (w6 (a4T K) [] E0 (b6 (tOp (a9W K) (c5 1) (tC (.int 1))) c9))))))) (G7 (tC (.bl false))) E9) (A0 (K9 (D0 (tOp (c3t K) (c5 1) (V1 (b6 (tUn (rU fun i=>.int (-i)) (tC (.int 1))) (b6 (tC (.int 0)) c9))))) (G7 (tC (.bl true))) E9) (G7 (Y0 (a3o qLe qLt (tC (.int 0)) (tOp (a9W K) (c5 1) (tC (.int 0))) (tCB V7 (b6 (c5 0) c9))) (a3o qLe qLt (tC (.int 0)) (tOp (a9W K) (c5 1) (tC (.int 1))) (tCB V7 (b6 (tOp qIx (c5 0) (tOp (a9W K) (c5 1) (tC (.int 0)))) c9))))))
def a3W(K:Fg):Sp:=spD 2 2 (b1x K)
def b7q(K:Fg):TS:=A0 (K9 (D0 (tOp qLt (tOp (a9W K) (c5 1) (tC (.int 0))) (tC (.int 0)))) (G7 (tC (.int 0))) E9) (G7 (tOp qIx (tOp qIx (c5 0) (tOp (a9W K) (c5 1) (tC (.int 0)))) (tOp (a9W K) (c5 1) (tC (.int 1)))))
def a4U(K:Fg):Sp:=spD 2 2 (b7q K)
def b4j(K:Fg):TS:=A0 (K9 (a2T (tB (tCB a4g (b6 (c5 1) (b6 (tC (.ty "list")) c9))))) (G7 (tC .non)) E9) (A0 (F0 (L6 c9) (u9 2)) (A0 (a2C (a8z K (b6 (c5 1) c9)) (b0s K 2 (a0e (u9 3) (a0e (u9 4) (b0t)))) (A0 (K9 (tOr (a2T (tB (w6 (a3W K) [] E0 (b6 (c5 0) (b6 (c5 4) c9))))) (a8F (D0 (tOp qGt (c5 3) (tC (.int 0)))) (D0 (tOp qNe (tOp (a9W K) (c5 4) (tC (.int 0))) (tOp qIx (c5 2) (tUn (rU fun i=>.int (-i)) (tC (.int 1)))))))) (G7 (tC .non)) E9) (a0L (tBM K "list" Z3 (c5 2) (b6 (w6 (a4U K) [] E0 (b6 (c5 0) (b6 (c5 4) c9))) c9))))) (G7 (c5 2))))
def a5v(K:Fg):Sp:=spD 2 5 (b4j K)
def c9H(K:Fg):TS:=A0 (K9 (tB (tCB a4g (b6 (c5 0) (b6 (tC (.ty "str")) c9)))) (G7 (a7B (c5 1) (c5 0) (tC (.int 0)))) E9) (G7 (c5 0))
def a8v(K:Fg):Sp:=spD 2 2 (c9H K)
def a8r(K:Fg):TS:=A0 (F0 (w6 (a8v K) [] E0 (b6 (tOp qIx (c5 0) (tC (.int 1))) (b6 (c5 1) c9))) (u9 2)) (A0 (F0 (w6 (a8v K) [] E0 (b6 (tOp qIx (c5 0) (tC (.int 2))) (b6 (c5 1) c9))) (u9 3)) (A0 (K9 (D0 (tOp qEq (tOp qIx (c5 0) (tC (.int 0))) (tC (.str "plus")))) (G7 (tOp a3K (tOp X1 (c5 2) (c5 3)) (tC (.int 1000000000000)))) E9) (A0 (K9 (D0 (tOp qEq (tOp qIx (c5 0) (tC (.int 0))) (tC (.str "minus")))) (G7 (tOp a3K (tOp a6k (c5 2) (c5 3)) (tC (.int 1000000000000)))) E9) (A0 (K9 (D0 (tOp qEq (tOp qIx (c5 0) (tC (.int 0))) (tC (.str "times")))) (G7 (tOp a3K (tOp b1a (c5 2) (c5 3)) (tC (.int 1000000000000)))) E9) (A0 (K9 (D0 (tOp qEq (tOp qIx (c5 0) (tC (.int 0))) (tC (.str "less")))) (G7 (tCB b6d (b6 (tOp qLt (c5 2) (c5 3)) c9))) E9) (G7 (tCB b6d (b6 (tOp qEq (c5 2) (c5 3)) c9))))))))
def a2q(K:Fg):Sp:=spD 2 4 (a8r K)
def b1w(K:Fg):TS:=A0 (F0 (tCB a3c (b6 (c5 2) c9)) (u9 5)) (A0 (F0 (L6 c9) (u9 6)) (A0 (F0 (L6 c9) (u9 7)) (A0 (F0 (tC (.int 0)) (u9 8)) (A0 (F0 (V1 (b6 (tUn (rU fun i=>.int (-i)) (tC (.int 1))) (b6 (tC (.int 0)) c9))) (u9 9)) (A0 (a2C (a1l (b6 (c5 4) c9)) (u9 10) (A0 (F0 (w6 (a4U K) [] E0 (b6 (c5 1) (b6 (c5 9) c9))) (u9 11)) (A0 (F0 (tOp qIx (c5 0) (c5 11)) (u9 12)) (A0 (a0L (tBM K "list" Z3 (c5 7) (b6 (c5 9) c9))) (A0 (K9 (D0 (tOp qEq (tOp qIx (c5 12) (tC (.int 0))) (tC (.str "set")))) (a2l (c5 5) (tOp qIx (c5 12) (tC (.int 1))) (w6 (a2q K) [] E0 (b6 (tOp qIx (c5 12) (tC (.int 2))) (b6 (c5 5) c9)))) E9) (A0 (K9 (D0 (tOp qEq (tOp qIx (c5 12) (tC (.int 0))) (tC (.str "copy")))) (a2l (c5 5) (tOp qIx (c5 12) (tC (.int 1))) (w6 (a8v K) [] E0 (b6 (tOp qIx (c5 12) (tC (.int 2))) (b6 (c5 5) c9)))) E9) (A0 (K9 (D0 (tOp qEq (tOp qIx (c5 12) (tC (.int 0))) (tC (.str "take")))) (A0 (a2l (c5 5) (tOp qIx (c5 12) (tC (.int 1))) (tOp qIx (tOp X1 (c5 3) (tOp b6a (L6 (b6 (tC (.int 0)) c9)) (tOp X1 (c5 8) (tC (.int 1))))) (c5 8))) (F0 (tOp X1 (c5 8) (tC (.int 1))) (u9 8))) E9) (A0 (K9 (D0 (tOp qEq (tOp qIx (c5 12) (tC (.int 0))) (tC (.str "tell")))) (a0L (tBM K "list" Z3 (c5 6) (b6 (w6 (a8v K) [] E0 (b6 (tOp qIx (c5 12) (tC (.int 1))) (b6 (c5 5) c9))) c9))) E9) (A0 (K9 (D0 (tOp qEq (tOp qIx (c5 1) (c5 11)) (L6 c9))) (G7 (V1 (b6 (c5 6) (b6 (c5 7) (b6 (c5 5) (b6 (tC (.bl true)) c9)))))) E9) (F0 (V1 (b6 (c5 11) (b6 (tCB b6d (b6 (Y0 (tOp qEq (tOp qIx (c5 12) (tC (.int 0))) (tC (.str "ask"))) (tOp qEq (w6 (a8v K) [] E0 (b6 (tOp qIx (c5 12) (tC (.int 1))) (b6 (c5 5) c9))) (tC (.int 0)))) c9)) c9))) (u9 9))))))))))) (G7 (V1 (b6 (c5 6) (b6 (c5 7) (b6 (c5 5) (b6 (tC (.bl false)) c9)))))))))))
def a2H(K:Fg):Sp:=spD 5 13 (b1w K)
def c5h(K:Fg)(c:Cn):TS:=A0 (F0 (w6 (a1a K c) [] E0 (b6 (c5 0) (b6 (tCB a3c (b6 (c5 3) c9)) (b6 (tCB a2J (b6 (c5 4) c9)) (b6 (c5 5) c9))))) (u9 7)) (A0 (F0 (c5 7) (b0s K 4 (a0e (u9 8) (a0e (u9 9) (a0e (u9 10) (a0e (u9 11) (b0t))))))) (A0 (K9 (tOr (D0 (tOp qNe (tCB V7 (b6 (c5 9) c9)) (tCB b8x (b6 (c5 5) (b6 (tCB V7 (b6 (tOp qIx (c5 6) (tC (.int 1))) c9)) c9))))) (tOr (a2T (tB (w6 (a2u K) [] E0 (b6 (c5 9) (b6 (tOp qIx (c5 6) (tC (.int 1))) c9))))) (a2T (tB (w6 (a2u K) [] E0 (b6 (c5 8) (b6 (tOp qIx (c5 6) (tC (.int 0))) c9))))))) (G7 (tC (.bl false))) E9) (A0 (F0 (w6 (a5v K) [] E0 (b6 (c5 2) (b6 (c5 9) c9))) (u9 12)) (A0 (K9 (tOr (D0 (tOp qIs (c5 12) (tC .non))) (D0 (tOp qNe (c5 11) (Y0 (tOp qNe (c5 12) (L6 c9)) (tOp qEq (tOp qIx (c5 2) (tOp qIx (c5 12) (tUn (rU fun i=>.int (-i)) (tC (.int 1))))) (L6 c9)))))) (G7 (tC (.bl false))) E9) (A0 (F0 (w6 (a2H K) [] E0 (b6 (c5 1) (b6 (c5 2) (b6 (c5 3) (b6 (c5 4) (b6 (tCB V7 (b6 (c5 9) c9)) c9)))))) (u9 13)) (G7 (Y0 (tOp (a9X K) (tOp qIx (c5 13) (tC (.int 1))) (c5 9)) (Y0 (tOp (a9X K) (tOp qIx (c5 13) (tC (.int 0))) (c5 8)) (tOp c1h (tOp qIx (c5 13) (tC (.int 2))) (c5 10))))))))))
def b2l(K:Fg)(c:Cn):Sp:=spD 7 14 (c5h K c)
def b4m(K:Fg):TS:=A0 (F0 (tCB a3c (b6 (c5 0) c9)) (u9 2)) (A0 (a2C (a0M K (c5 1)) (u9 3) (a0L (tBM K "dict" b2G (c5 2) (b6 (c5 3) (b6 (tC (.int 0)) c9))))) (G7 (c5 2)))
def a3I(K:Fg):Sp:=spD 2 4 (b4m K)
def c0p(K:Fg)(c:Cn):TS:=A0 (F0 (w6 (b2m K) [] E0 (b6 (c5 0) c9)) (u9 1)) (A0 (K9 (a8F (D0 (tOp qEq (w6 (E7 K) [] E0 (b6 (c5 1) (b6 (tC (.int 8)) c9))) (tC (.int 7)))) (a2T (tB (w6 (a5u K c) [] E0 (b6 (c5 1) c9))))) (G7 (tC (.bl false))) E9) (A0 (K9 (a8F (D0 (tOp qEq (w6 (E7 K) [] E0 (b6 (c5 1) (b6 (tC (.int 16)) c9))) (tC (.int 15)))) (a2T (tB (w6 (a6R K c) [] E0 (b6 (c5 1) c9))))) (G7 (tC (.bl false))) E9) (A0 (F0 (w6 (a8K K) [] E0 (b6 (c5 1) c9)) (b0s K 4 (a0e (u9 2) (a0e (u9 3) (a0e (u9 4) (a0e (u9 5) (b0t))))))) (A0 (F0 (a6J c.S8 (Y1 K c) [] E0 (b6 (tCB a2J (b6 (c5 2) c9)) (b6 (w6 (a6Q K) [] E0 (b6 (c5 3) c9)) c9))) (u9 6)) (A0 (F0 (w6 (a6O K) [] E0 (b6 (c5 1) (b6 (c5 4) c9))) (u9 7)) (A0 (F0 (w6 (a6N K) [] E0 (b6 (c5 1) c9)) (u9 8)) (A0 (F0 (w6 (a1a K c) [] E0 (b6 (c5 6) (b6 (tCB a3c (b6 (c5 7) c9)) (b6 (tCB a2J (b6 (c5 8) c9)) (b6 (tC (.int 120)) c9))))) (u9 9)) (A0 (F0 (tCB V7 (b6 (tOp qIx (c5 9) (tC (.int 1))) c9)) (u9 10)) (A0 (K9 (tOr (D0 (tOp qLt (c5 10) (tC (.int 1)))) (tOr (D0 (tOp qGt (c5 10) (tC (.int 120)))) (D0 (tOp (c6p K) (tOp qIx (tOp qIx (c5 9) (tC (.int 1))) (tC (.int 0))) (V1 (b6 (tUn (rU fun i=>.int (-i)) (tC (.int 1))) (b6 (tC (.int 0)) c9))))))) (G7 (tC (.bl false))) E9) (A0 (a2C (a1l (b6 (tC (.int 4)) c9)) (u9 11) (A0 (F0 (tOp qIx (L6 (b6 (w6 (E7 K) [] E0 (b6 (c5 1) (b6 (tOp X1 (c5 10) (tC (.int 1))) c9))) (b6 (tCB c6q (b6 (tC (.int 0)) (b6 (tOp a6k (c5 10) (tC (.int 1))) c9))) (b6 (c5 10) (b6 (w6 (E7 K) [] E0 (b6 (c5 1) (b6 (tC (.int 121)) c9))) c9))))) (w6 (E7 K) [] E0 (b6 (c5 1) (b6 (tC (.int 4)) c9)))) (u9 12)) (K9 (a2T (tB (w6 (b2l K c) [] E0 (b6 (c5 6) (b6 (c5 2) (b6 (c5 3) (b6 (c5 7) (b6 (c5 8) (b6 (c5 12) (b6 (c5 9) c9)))))))))) (G7 (tC (.bl false))) E9))) (A0 (K9 (tB (tOp qIx (c5 9) (tC (.int 3)))) (A0 (F0 (w6 (a1a K c) [] E0 (b6 (c5 6) (b6 (tCB a3c (b6 (c5 7) c9)) (b6 (tCB a2J (b6 (c5 8) c9)) (b6 (tOp X1 (c5 10) (w6 (E7 K) [] E0 (b6 (c5 1) (b6 (tC (.int 200)) c9)))) c9))))) (u9 13)) (K9 (D0 (tOp (b8w K) (c5 13) (c5 9))) (G7 (tC (.bl false))) E9)) E9) (A0 (F0 (w6 (a1a K c) [] E0 (b6 (c5 6) (b6 (c5 7) (b6 (c5 8) (b6 (tC (.int 0)) c9))))) (u9 14)) (A0 (K9 (D0 (tOp (b8w K) (c5 14) (V1 (b6 (L6 c9) (b6 (L6 c9) (b6 (c5 7) (b6 (tC (.bl false)) c9))))))) (G7 (tC (.bl false))) E9) (A0 (a2l (tOp qIx (c5 14) (tC (.int 2))) (tC (.str "more")) (tC (.int 1))) (A0 (K9 (a8F (D0 (tOp qEq (a7B (c5 7) (tC (.str "more")) (tC (.int 0))) (tC (.int 1)))) (D0 (tOp (qIn true) (tC (.str "more")) (c5 4)))) (G7 (tC (.bl false))) E9) (A0 (F0 (w6 (a3I K) [] E0 (b6 (c5 7) (b6 (c5 4) c9))) (u9 15)) (A0 (F0 (w6 (a1a K c) [] E0 (b6 (c5 6) (b6 (tCB a3c (b6 (c5 15) c9)) (b6 (tOp X1 (c5 8) (tOp b6a (L6 (b6 (tC (.int 0)) c9)) (w6 (E7 K) [] E0 (b6 (c5 1) (b6 (tC (.int 5)) c9))))) (b6 (tC (.int 120)) c9))))) (u9 16)) (G7 (Y0 (tOp (a9X K) (tOp qIx (c5 16) (tC (.int 0))) (tOp qIx (c5 9) (tC (.int 0)))) (Y0 (tOp (a9X K) (tOp qIx (c5 16) (tC (.int 1))) (tOp qIx (c5 9) (tC (.int 1)))) (tOp c1h (tOp qIx (c5 16) (tC (.int 2))) (w6 (a3I K) [] E0 (b6 (tOp qIx (c5 9) (tC (.int 2))) (b6 (c5 4) c9))))))))))))))))))))))))
def a9E(K:Fg):Sp:=fun vs H Q _=>vs.length=1/\∀c,a7s K c->c0p K c { nx:=fun _ H'=>Q .non H',rt:=Q } (vs.map some++c8 (17 - vs.length) none) H
end RD
local macro_rules | `(tactic| walk_at "st") => `(tactic| (with_reducible first
 | refine RD.c5m ?_ | refine RD.b2A ?_ | refine RD.c5Y ?_ | refine RD.c0N ?_ | refine RD.c5Z ?_ | refine RD.c8G ?_ | refine RD.c0P ?_ | refine RD.c0K ?_ | refine RD.c9K ?_ | refine RD.c8C ?_ | refine RD.c8J ?_ | refine RD.c9M ?_ | refine RD.c6c ?_ | refine RD.c8B ?_ | refine RD.c5V ?_ | refine RD.c8F ?_ | refine RD.c3o ?_ | refine RD.a4d ?_ | refine RD.c9J ?_ | refine RD.c8D ?_ | refine RD.s_c ?_ | refine RD.c0T ?_ | refine RD.c5k ?_ | refine RD.c6a ?_ | refine RD.c9N ?_ | refine RD.c8A ?_ | refine RD.c8E ?_ | refine RD.c9L ?_ | refine RD.c5T ?_ | refine RD.c0O ?_ | refine RD.s_rev ?_ | refine RD.b5T ?_ | refine RD.c6b ?_ | refine RD.c8I ?_
 | refine RD.c0J (by with_unfolding_all rfl) ?_ | refine Exists.intro _ (And.intro (Eq.refl (L2.V.bl _)) ?_) | refine Exists.intro _ (And.intro (Eq.refl (L2.V.int _)) ?_)
 | refine RD.c8U ?_ | refine RD.c6l ?_ | refine RD.c9S ?_ | refine RD.c8V ?_ | refine RD.c8R rfl ?_ | refine RD.c9R rfl ?_))
local macro_rules | `(tactic| walk_at "ev") => `(tactic| repeat walk_at "st")
local macro_rules | `(tactic| walk_at "go") => `(tactic| repeat (first | with_reducible refine RD.a0o ?_ | walk_at "st"))
local macro_rules | `(tactic| ext) => `(tactic| walk_at "ev")
local macro_rules | `(tactic| exists $t:term) => `(tactic| (refine $t; walk_at "ev"))
local macro_rules | `(tactic| specialize $t:term) => `(tactic| (with_reducible refine $t; walk_at "ev"))
local macro_rules | `(tactic| exact_mod_cast $t:term) => `(tactic| with_reducible refine $t)
local macro_rules | `(tactic| nofun) => `(tactic| (with_reducible refine RD.a0o ?_; walk_at "ev"))
namespace RD
open PySem PySem.Spec L2
variable{C a b c d dx na nl p ra sd tk:Addr}{H H' H0 H1:Hp}{o:HO}{xs ys:List V}{i:Int}{D:a6v}{σ:St}{ta te:TE}{tt:TT}{Q:VK}{v:V}{m n:Nat}{f:V->List V->Hp->VK->Prop}{z:Str}{cs ks l:List Nat}{ss:List Str}{QD:Hp->Prop}{R:It->Hp->Prop}{M N:Nt}{L L0 ns:List Int}{as rs:List Addr}{Z:Addr->Prop}{RC:Nat->List V}
section
variable {D:Addr}
theorem c5X(h:ta σ H fun v H2=>∃x,v=.str x/\R (Its x) H2):c4D ta σ H R:=h
theorem c2w{x:Str}(Pv:Nat->List V->Hp->Prop)(h0:Pv 0 [] (upd H1 D (.lst [])))(hP:∀i ys H,Pv i ys H->H D=some (.lst ys))
  (step:∀i c ys H2,x.cps[i]? = some c->Pv i ys H2->∀(R:VK) (R':Hp->Prop),(∀y H5,H5 D=some (.lst ys)->ys.length<v6->Pv (i+1) (ys++[y]) (upd H5 D (.lst (ys++[y])))->R y H5)->(∀H4,Pv (i+1) ys H4->R' H4) ->
   tt (some (.str ⟨#[c]⟩)::σ) H2 fun ok H4=>if ok=true then te (some (.str ⟨#[c]⟩)::σ) H4 R else R' H4)
  (done:∀ys H2,Pv x.length ys H2->QD H2) :
  ∃W:Nat->Nat->List V->Hp->Prop,(∃m,W 0 m [] (upd H1 D (.lst [])))/\∀i m ys H2,W i m ys H2->H2 D=some (.lst ys) /\
   (((Its x).stop i H2 /\ QD H2) \/ ((Its x).go i H2 /\ ∀ v H3,(Its x).yld i H2 v H3 -> tt (some v :: σ) H3 fun ok H4 => if ok = true then
     te (some v::σ) H4 (fun y H5=>H5 D=some (.lst ys)/\ys.length<v6/\∃m',m'<m/\W (i+1) m' (ys++[y]) (upd H5 D (.lst (ys++[y]))))
     else ∃m',m'<m/\W (i+1) m' ys H4)):=by
 refine⟨fun i m ys H=>m=x.length - i/\i<=x.length/\Pv i ys H,⟨x.length,rfl,O6 _,h0⟩,?_⟩
 rintro i m ys H2 ⟨rfl,hi,p⟩
 refine⟨hP i ys H2 p,?_⟩
 by_cases hlt:i<x.length
 ·refine .inr ⟨hlt,fun v H3 y=>?_⟩
  obtain⟨e,c,hc,ev⟩:=y
  subst e ev
  exact step i c ys _ hc p _ _ (fun y H5 h1 h2 h3=>⟨h1,h2,x.length - (i+1),by omega,rfl,hlt,h3⟩) fun H4 h=>⟨x.length - (i+1),by omega,rfl,hlt,h⟩
 ·have e:i=x.length:=by omega
  subst e
  exact .inl ⟨o5 _,done ys H2 p⟩
end
def sgn(S:Str)(c:Nat):Bool := !(Builtin.Str.occurrences S ⟨#[c]⟩ 0 S.length 1).isEmpty
theorem c5t{S:Str}{c:Nat}(h:Q (.bl (sgn S c)) H):qIn false (.str ⟨#[c]⟩) (.str S) H Q:=h
abbrev LET:Str := "abcdefghijklmnopqrstuvwxyz"
abbrev SGN:Str := "abcdefghijklmnopqrstuvwxyz0123456789"
theorem c0x:LET++("0123456789" : Str)=SGN:=by decide +kernel
def a4y(z:Str):Bool:=decide (1<=z.length)&&decide (z.length<=8)&&(match z.cps[0]? with | some c=>sgn LET c | none=>false)&&z.cps.toList.all (sgn SGN)
theorem b4R{K:Fg}{E:XK}(hz:z.length<=100)(k:∀H',A9 H H'->Q (.bl (a4y z)) H'):a0h K [.str z] H Q E:=by
 refine⟨rfl,?_⟩
 unfold a7A
 have hz':=small (show z.length<=100000 by omega)
 nofun
 exists a3b (s := "str") rfl (by decide) ?_
 exists C5 (by decide) ?_
 exists c6j hz' ?_
 by_cases h1:1<=z.length
 case neg=>
  exists C5 (d1C (by omega)) ?_
  exists J2 rfl ?_
  have e:a4y z=false:=by unfold a4y;rw[d1C h1];simp
  rw[<-e]
  exact k H (A9.refl _)
 exists J2 (d1D (by omega)) ?_
 by_cases h8:z.length<=8
 case neg=>
  rw[d1C (show ¬((z.length:Int)<=8) by omega)]
  exists J2 rfl ?_
  have e:a4y z=false:=by unfold a4y;rw[d1C h8];simp
  rw[<-e]
  exact k H (A9.refl _)
 rw[d1D (show(z.length:Int)<=8 by omega)]
 exists C5 rfl ?_
 have hl:z.cps.toList.length=z.length:=a1d
 obtain⟨c0,hc0,hc1⟩:=a2R (xs:=z.cps.toList) (i:=0) (by decide) (by omega)
 have hc2:z.cps[0]? = some c0:=by rw[<-a0F];exact hc1
 exists b7D hz' hc0 ?_
 have en:a4y z=(sgn LET c0&&z.cps.toList.all (sgn SGN)):=by
  unfold a4y
  rw[d1D h1,d1D h8,hc2]
  simp
 refine c5t (S:=LET) ?_
 refine⟨_,rfl,?_⟩
 cases hs:sgn LET c0 with
 | false=>
  refine c7H ?_
  have e:a4y z=false:=by rw[en,hs];rfl
  rw[<-e]
  exact k H (A9.refl _)
 | true=>
  exists b4Q ?_
  specialize a0i (c5X ?_)
  refine⟨z,rfl,fun D hD=>?_⟩
  refine c2w (fun i ys H2=>ys=(z.cps.toList.take i).map (fun c=>V.bl (sgn SGN c))/\H2=upd H D (.lst ys)) ⟨by simp,rfl⟩ ?_ ?_ ?_
  ·rintro i ys _ ⟨_,rfl⟩
   exact g7
  ·rintro i c ys _ hc ⟨rfl,rfl⟩ R R' hR hR'
   have hc':z.cps.toList[i]? = some c:=by rw[a0F];exact hc
   ext
   exists b4Q ?_
   refine c1d (small (by decide +kernel)) ?_
   have e:(("abcdefghijklmnopqrstuvwxyz" : Str)++("0123456789" : Str))=SGN:=c0x
   rw[e]
   refine c5t (S:=SGN) ?_
   refine hR (.bl (sgn SGN c)) _ g7 (J7 ?_) ⟨?_,?_⟩
   ·rw[c4,J4];omega
   ·rw[P8,hc'];simp
   ·rw[a6F]
  ·rintro ys _ ⟨rfl,rfl⟩
   ext
   have eb:Y5 ((z.cps.toList.take z.length).map (fun c=>V.bl (sgn SGN c)))=some ((z.cps.toList.take z.length).map (sgn SGN)):=by
    generalize z.cps.toList.take z.length=l
    induction l with
    | nil=>rfl
    | cons a r ih=>simp[Y5,ih]
   have ea:((z.cps.toList.take z.length).map (sgn SGN)).all id=a4y z:=by
    rw[en,hs,b5y,a1Y (by omega),List.all_map]
    rfl
   refine(show b2H [.ref D] _ _ from ?_)
   unfold b2H
   simp only[g7]
   refine⟨_,eb,?_⟩
   rw[ea]
   exact k _ (D6 hD)
def NmS(s:Str):Prop:=a4y s=true/\s.length<=8
def OpN(v:V):Prop:=(∃s,v=.str s/\NmS s)\/∃n:Int,v=.int n/\0<=n/\n<1000000000000
abbrev b7V:List Str:=["plus","minus","times","less","same"]
def a5n(H:Hp)(p:Addr):Prop:=∃k v1 v2,H p=some (.tup [.str k,v1,v2])/\OpN v1/\OpN v2/\k∈b7V
theorem a5n.ts(h:a5n H p)(t:O5 H H'):a5n H' p:=by
 obtain⟨k,v1,v2,h,a,b,c⟩:=h
 exact⟨k,v1,v2,t _ _ h,a,b,c⟩
inductive a6u(H:Hp):List V->Prop
 | set (n:Str) (p:Addr):NmS n->a5n H p->a6u H [.str "set",.str n,.ref p]
 | copy (n:Str) (v:V):NmS n->OpN v->a6u H [.str "copy",.str n,v]
 | take (n:Str):NmS n->a6u H [.str "take",.str n]
 | tell (v:V):OpN v->a6u H [.str "tell",v]
 | ask (v:V):OpN v->a6u H [.str "ask",v]
 | skip:a6u H [.str "skip"]
theorem a6u.ts(h:a6u H xs)(t:O5 H H'):a6u H' xs:=by
 cases h with
 | set n p a d=>exact .set n p a (d.ts t)
 | copy n v a o=>exact .copy n v a o
 | take n a=>exact .take n a
 | tell v o=>exact .tell v o
 | ask v o=>exact .ask v o
 | skip=>exact .skip
def b0K(H:Hp)(v:V)(ask:Bool):Prop:=∃p xs,v=.ref p/\H p=some (.tup xs)/\a6u H xs/\(∃k r,xs=.str k::r/\decide ((k:Str) = "ask")=ask)
theorem b0K.ts{a:Bool}(h:b0K H v a)(t:O5 H H'):b0K H' v a:=by
 obtain⟨p,xs,rfl,h,r,q⟩:=h
 exact⟨p,xs,rfl,t _ _ h,r.ts t,q⟩
theorem c7K{n:Int}(k:Q (.bl true) H) :
  G7 (Y0 (tCB a4g (b6 (c5 0) (b6 (tC (.ty "int")) c9))) (b1z (tCB a4g (b6 (c5 0) (b6 (tC (.ty "bool")) c9))))) { nx:=fun _ H'=>Q .non H',rt:=Q } [some (.int n)] H:=by
 ext
 exists a3b (s := "int") rfl (by decide) ?_
 exists J2 (by decide) ?_
 exists a3b (s := "int") rfl (by decide) ?_
 exact k
theorem a7c{K:Fg}{n:Int}{E:XK}(k:Q (.bl true) H):a2c K [.int n] H Q E:=⟨rfl,c7K k⟩
theorem b3e{K:Fg}{n:Int}{E:XK}(h0:0<=n)(h1:n<1000000000000)(k:Q (.bl true) H):a2Y K [.int n] H Q E:=by
 refine⟨rfl,?_⟩
 unfold a9x
 ext
 refine a7c ?_
 exists ⟨_,rfl,b4Q ?_⟩
 exists J2 (d1D h0) ?_
 show Q (.bl (decide (n<1000000000000))) H
 rw[d1D h1]
 exact k
theorem b3f{K:Fg}{n m:Int}{E:XK}(h0:0<=n)(h1:n<m)(k:Q (.bl true) H):a2Z K [.int n,.int m] H Q E:=by
 refine⟨rfl,?_⟩
 unfold a9y
 ext
 refine a7c ?_
 exists ⟨_,rfl,b4Q ?_⟩
 exists J2 (d1D h0) ?_
 show Q (.bl (decide (n<m))) H
 rw[d1D h1]
 exact k
theorem a4l{K:Fg}{E:XK}(h:NmS z)(k:∀H',A9 H H'->Q (.bl true) H'):a0h K [.str z] H Q E:=by
 refine b4R (by have:=h.2;omega) fun H' s=>?_
 rw[h.1]
 exact k H' s
theorem b4S{K:Fg}{n:Int}{E:XK}(k:Q (.bl false) H):a0h K [.int n] H Q E:=by
 refine⟨rfl,?_⟩
 unfold a7A
 nofun
 exists a3b (s := "int") rfl (by decide) ?_
 refine J2 (by decide) ?_
 exists J2 rfl ?_
 exact k
theorem a0S{K:Fg}{E:XK}(h:OpN v)(k:∀H',A9 H H'->Q (.bl true) H'):Y7 K [v] H Q E:=by
 refine⟨rfl,?_⟩
 unfold a6G
 ext
 rcases h with ⟨s,rfl,hs⟩ | ⟨n,rfl,h0,h1⟩
 ·refine a4l hs fun G s=>?_
  exact⟨_,rfl,b4Q (k G s)⟩
 ·refine b4S ?_
  exists ⟨_,rfl,c7H ?_⟩
  exact b3e h0 h1 (k H (A9.refl _))
theorem c2e{k:Str}(h:k∈b7V):inV (.str k) [.str "plus",.str "minus",.str "times",.str "less",.str "same"]=true:=by
 simp only[b7V,q9,G5,or_false]at h
 rcases h with rfl | rfl | rfl | rfl | rfl <;> decide +kernel
theorem b6F{K:Fg}{c:Cn}{E:XK}(ck:a7s K c)(h:a5n H p)(k:∀H',A9 H H'->Q (.bl true) H'):a3X K c [.ref p] H Q E:=by
 obtain⟨kd,v1,v2,hp,o1,o2,hk⟩:=h
 refine⟨rfl,?_⟩
 unfold b1y
 nofun
 exists a3b (s := "tuple") (by simp only[a3n,hp]) (by decide) ?_
 exists C5 (by decide) ?_
 exists a4Y hp ?_
 exists C5 (by simp) ?_
 exists F4 hp (V3 _ _) ?_
 refine⟨_,_,rfl,ck.b3J H,rfl,rfl,?_⟩
 exists ⟨_,rfl,J2 (c2e hk) ?_⟩
 exists F4 hp (a0O _ _ _) ?_
 refine a0S o1 fun G1 s1=>?_
 exists ⟨_,rfl,b4Q ?_⟩
 exists F4 (s1 _ _ hp) (a8b _ _ _ _) ?_
 exact a0S o2 fun G2 s2=>k G2 (s1.trans s2)
theorem c9w(a:V)(r:List V):a4m (a::r) (some 1) none=r:=by
 unfold a4m
 have e:HT.sIx (a::r).length 0 (some 1)=1:=by
  have:=HT.a6V (a::r).length 0 1
  rw[show((1:Nat):Int)=1 from rfl]at this
  rw[this,C6]
  omega
 rw[e]
 show List.take ((a::r).length - 1) r=r
 rw[a1Y (by simp)]
theorem c1S(a:V)(r:List V):¬(HT.sIx (a::r).length 0 (some 1)=0/\HT.sIx (a::r).length (a::r).length none=(a::r).length):=by
 intro h
 have e:HT.sIx (a::r).length 0 (some 1)=1:=by
  have:=HT.a6V (a::r).length 0 1
  rw[show((1:Nat):Int)=1 from rfl]at this
  rw[this,C6]
  omega
 omega
theorem b9d{K:Fg}{c:Cn}{a:Bool}{E:XK}(ck:a7s K c)(h:b0K H v a)(k:∀H',A9 H H'->Q (.bl true) H'):a5x K c [v] H Q E:=by
 obtain⟨p,xs,rfl,hp,hr,kd,r,rfl,_⟩:=h
 refine⟨rfl,?_⟩
 unfold b4l
 nofun
 exists a3b (s := "tuple") (by simp only[a3n,hp]) (by decide) ?_
 exists C5 (by decide) ?_
 exists a4Y hp ?_
 exists C5 (d1C (by intro z;have:=V.int.inj z;rw[C6]at this;omega)) ?_
 nofun
 exists F4 hp (V3 _ _) ?_
 nofun
 refine c5q hp (c1S _ _) fun q G hq e s=>?_
 rw[c9w]at e
 ext
 have hr:=hr.ts (A9.ts s)
 cases hr with
 | set n d hn hd=>
  nofun
  exists J2 (by decide) ?_
  exists a4Y e ?_
  exists J2 (by simp) ?_
  exists F4 e (V3 _ _) ?_
  refine a4l hn fun G1 s1=>?_
  exists ⟨_,rfl,b4Q ?_⟩
  exists F4 (s1 _ _ e) (a0O _ _ _) ?_
  exact b6F ck (hd.ts (A9.ts s1)) fun G2 s2=>k G2 ((s.trans s1).trans s2)
 | copy n v hn ho=>
  nofun
  exists C5 (by decide) ?_
  nofun
  exists J2 (by decide) ?_
  exists a4Y e ?_
  exists J2 (by simp) ?_
  exists F4 e (V3 _ _) ?_
  refine a4l hn fun G1 s1=>?_
  exists ⟨_,rfl,b4Q ?_⟩
  exists F4 (s1 _ _ e) (a0O _ _ _) ?_
  exact a0S ho fun G2 s2=>k G2 ((s.trans s1).trans s2)
 | take n hn=>
  nofun
  exists C5 (by decide) ?_
  nofun
  exists C5 (by decide) ?_
  nofun
  exists J2 (by decide) ?_
  exists a4Y e ?_
  exists J2 (by simp) ?_
  exists F4 e (V3 _ _) ?_
  exact a4l hn fun G1 s1=>k G1 (s.trans s1)
 | tell v ho=>
  nofun
  exists C5 (by decide) ?_
  nofun
  exists C5 (by decide) ?_
  nofun
  exists C5 (by decide) ?_
  nofun
  refine z8 (by simp) fun q2 G2 hq2 e2 s2=>?_
  exists b4A e2 rfl rfl ?_
  exists J2 (by decide +kernel) ?_
  exists a4Y (s2 _ _ e) ?_
  exists J2 (by simp) ?_
  exists F4 (s2 _ _ e) (V3 _ _) ?_
  exact a0S ho fun G1 s1=>k G1 ((s.trans s2).trans s1)
 | ask v ho=>
  nofun
  exists C5 (by decide) ?_
  nofun
  exists C5 (by decide) ?_
  nofun
  exists C5 (by decide) ?_
  nofun
  refine z8 (by simp) fun q2 G2 hq2 e2 s2=>?_
  exists b4A e2 rfl rfl ?_
  exists J2 (by decide +kernel) ?_
  exists a4Y (s2 _ _ e) ?_
  exists J2 (by simp) ?_
  exists F4 (s2 _ _ e) (V3 _ _) ?_
  exact a0S ho fun G1 s1=>k G1 ((s.trans s2).trans s1)
 | skip=>
  nofun
  exists C5 (by decide) ?_
  nofun
  exists C5 (by decide) ?_
  nofun
  exists C5 (by decide) ?_
  nofun
  refine z8 (by simp) fun q2 G2 hq2 e2 s2=>?_
  exists b4A e2 rfl rfl ?_
  exists C5 (by decide +kernel) ?_
  exists J2 (by decide) ?_
  exists a4Y (s2 _ _ e) ?_
  have e0:decide (V.int ((([]:List V).length:Nat):Int)=V.int 0)=true:=by decide
  rw[e0]
  exact k G2 (s.trans s2)
theorem ix0{α:Type}(a b c d:α):ixN [a,b,c,d].length 0=some 0:=by
 show ixN 4 0=some 0
 decide
theorem ix1{α:Type}(a b c d:α):ixN [a,b,c,d].length 1=some 1:=by
 show ixN 4 1=some 1
 decide
theorem ix2{α:Type}(a b c d:α):ixN [a,b,c,d].length 2=some 2:=by
 show ixN 4 2=some 2
 decide
structure b0L(H:Hp)(b:Addr)(i0 i1 i2:Int)(c:Addr)(ns:List Int):Prop where
 hb:H b=some (.lst [.int i0,.int i1,.int i2,.ref c])
 hc:H c=some (.lst (ns.map V.int))
 p0:0<=i0
 p1:0<=i1
 p1':i1<2147483647
 p2:0<=i2
 pn:∀x∈ns,0<=x
theorem b0L.bag{i0 i1 i2:Int}(h:b0L H b i0 i1 i2 c ns):Bag H b c:=⟨i0,i1,i2,ns,h.hb,h.hc,h.p0,h.p1,h.p1',h.p2,h.pn⟩
theorem Bag.parts(h:Bag H b c):∃i0 i1 i2 ns,b0L H b i0 i1 i2 c ns:=by
 obtain⟨i0,i1,i2,ns,h1,h2,h3,h4,h5,h6,h7⟩:=h.ex
 exact⟨i0,i1,i2,ns,h1,h2,h3,h4,h5,h6,h7⟩
theorem b0L.ne{i0 i1 i2:Int}(h:b0L H b i0 i1 i2 c ns):c≠b:=M3 h.hc h.hb (by
  intro z
  have z:=HO.lst.inj z
  cases ns with
  | nil=>cases z
  | cons a r=>cases r with
   | nil=>cases z
   | cons a2 r=>cases r with
    | nil=>cases z
    | cons a3 r=>cases r with
     | nil=>cases z
     | cons a4 r=>simp at z)
theorem b0L.put{i0 i1 i2 j0 j1 j2:Int}(h:b0L H b i0 i1 i2 c ns)(q0:0<=j0)(q1:0<=j1)(q1':j1<2147483647)(q2:0<=j2) :
  b0L (upd H b (.lst [.int j0,.int j1,.int j2,.ref c])) b j0 j1 j2 c ns:=⟨g7,by rw[o4 h.ne];exact h.hc,q0,q1,q1',q2,h.pn⟩
theorem G0{K:Fg}{many:Int}{E:XK}(hB:Bag H b c)(h0:0<many)(h1:many<2 ^ 64)
  (k:∀n H',0<=n->n<many->Bag H' b c->D9 b H H'->Q (.int n) H'):E7 K [.ref b,.int many] H Q E:=by
 obtain⟨i0,i1,i2,ns,B⟩:=hB.parts
 refine⟨rfl,?_⟩
 unfold c0n
 refine Y8 (P:=fun σ H1=>∃x2 x3 j0 j1 j2,σ=[some (.ref b),some (.int many),x2,x3,none,none,none]/\b0L H1 b j0 j1 j2 c ns/\D9 b H H1) ?_ ?_
 ·-- the second part
  rintro _ H1 ⟨x2,x3,j0,j1,j2,rfl,B1,k1⟩
  refine Y8 (P:=fun σ H2=>H2=H1/\σ=[some (.ref b),some (.int many),x2,x3,none,none,none]) ?_ ?_
  ·rintro _ _ ⟨rfl,rfl⟩
   walk_at "go"
   refine L9 B1.hb (a0O _ _ _) ?_
   walk_at "go"
   refine Y2 (.inr (by omega)) ?_
   walk_at "go"
   refine Y2 (by omega) ?_
   walk_at "go"
   have g1:=W5 (j1 * 39373) (show(1000000007:Int)≠0 by decide)
   have g2:=U2 (j1 * 39373) (show(0:Int)<1000000007 by decide)
   refine Y2 (.inr (by omega)) ?_
   walk_at "go"
   refine Y2 (by omega) ?_
   walk_at "go"
   have g3:=W5 (j1 * 39373 % 1000000007 * 30011) (show(998244353:Int)≠0 by decide)
   have g4:=U2 (j1 * 39373 % 1000000007 * 30011) (show(0:Int)<998244353 by decide)
   refine Z0 (fun _=>?_) (fun _=>?_)
   ·walk_at "go"
    refine Y2 (.inr (by omega)) ?_
    walk_at "go"
    refine Y2 h0 ?_
    exact k _ _ (W5 _ (by omega)) (U2 _ h0) B1.bag k1
   ·walk_at "go"
    refine Y2 (by omega) ?_
    walk_at "go"
    refine Y2 h0 ?_
    exact k _ _ (W5 _ (by omega)) (U2 _ h0) B1.bag k1
  ·intro nx hnx
   walk_at "go"
   refine L9 B1.hb (V3 _ _) ?_
   walk_at "go"
   refine Z0 (fun _=>?_) (fun _=>?_)
   ·walk_at "go"
    refine L9 B1.hb (V3 _ _) ?_
    walk_at "go"
    refine Y2 h0 ?_
    walk_at "go"
    refine L9 B1.hb (V3 _ _) ?_
    walk_at "go"
    refine Y2 ⟨h0,h1⟩ ?_
    walk_at "go"
    refine b1F B1.hb (ix0 _ _ _ _) ?_
    walk_at "go"
    refine k _ _ (W5 _ (by omega)) (U2 _ h0) (B1.put (Int.ediv_nonneg B1.p0 (by omega)) B1.p1 B1.p1' B1.p2).bag (k1.trans (D9.upd _ _ _))
   ·walk_at "go"
    exact hnx _ _ ⟨rfl,rfl⟩
 ·intro nx hnx
  walk_at "go"
  refine L9 B.hb (V3 _ _) ?_
  walk_at "go"
  refine Z0 (fun e=>?_) (fun _=>?_)
  ·have e:i0=0:=by simpa using e
   subst e
   nofun
   exact_mod_cast Y8 (P:=fun σ H1=>∃m x3 j0 j2,σ=[some (.ref b),some (.int many),some (.int m),x3,none,none,none]/\b0L H1 b j0 i1 j2 c ns/\D9 b H H1/\0<=m) ?_ ?_
   ·rintro _ H1 ⟨m,x3,j0,j2,rfl,B1,k1,hm⟩
    walk_at "go"
    refine L9 B1.hb (a0O _ _ _) ?_
    walk_at "go"
    refine Y2 (.inr (by omega)) ?_
    walk_at "go"
    refine Y2 (by omega) ?_
    walk_at "go"
    refine b1F B1.hb (ix1 _ _ _ _) ?_
    have g1:=W5 (i1 * 48271+m) (show(2147483647:Int)≠0 by decide)
    have g2:=U2 (i1 * 48271+m) (show(0:Int)<2147483647 by decide)
    exact hnx _ _ ⟨_,x3,j0,_,j2,rfl,B1.put B1.p0 g1 g2 B1.p2,k1.trans (D9.upd _ _ _)⟩
   ·intro nx2 hnx2
    walk_at "go"
    refine L9 B.hb (a8b _ _ _ _) ?_
    walk_at "go"
    refine L9 B.hb (c7V _ _ _ _ _) ?_
    walk_at "go"
    refine O8 B.hc ?_
    walk_at "go"
    refine Z0 (fun e=>?_) (fun _=>?_)
    ·have e:i2<(ns.length:Int):=by simpa using e
     obtain⟨v,ev,ev2⟩:=a2R (xs:=ns.map V.int) B.p2 (by simpa using e)
     obtain⟨z,ez,rfl⟩:∃z,ns[i2.toNat]? = some z/\v=V.int z:=by
      rw[d8]at ev2
      cases q:ns[i2.toNat]? with
      | none=>rw[q]at ev2;cases ev2
      | some z=>rw[q]at ev2;exact⟨z,rfl,(Option.some.inj ev2).symm⟩
     have hz:0<=z:=B.pn z (mI ez)
     walk_at "go"
     refine L9 B.hb (c7V _ _ _ _ _) ?_
     walk_at "go"
     refine L9 B.hb (a8b _ _ _ _) ?_
     walk_at "go"
     refine L9 B.hc ev ?_
     walk_at "go"
     exists c8Q B.hb (by decide) rfl ?_
     refine b1F B.hb (ix2 _ _ _ _) ?_
     have B2:=B.put (j0:=0) (j1:=i1) (j2:=i2+1) (Int.le_refl _) B.p1 B.p1' (by have:=B.p2;omega)
     exact_mod_cast Y8 (P:=fun σ H1=>∃j0,σ=[some (.ref b),some (.int many),some (.int 12345),some (.int z),none,none,none]/\b0L H1 b j0 i1 (i2+1) c ns/\D9 b H H1) ?_ ?_
     ·rintro _ H1 ⟨j0,rfl,B1,k1⟩
      walk_at "go"
      refine Y2 (by omega) ?_
      walk_at "go"
      have g1:=W5 z (show(2147483647:Int)≠0 by decide)
      exact hnx2 _ _ ⟨_,_,j0,_,rfl,B1,k1,by omega⟩
     ·intro nx3 hnx3
      walk_at "go"
      refine Z0 (fun _=>?_) (fun _=>?_)
      ·walk_at "go"
       refine b1F B2.hb (ix0 _ _ _ _) ?_
       refine hnx3 _ _ ⟨z,rfl,?_,(D9.upd _ _ _).trans (D9.upd _ _ _)⟩
       exact B2.put hz B.p1 B.p1' (by have:=B.p2;omega)
      ·walk_at "go"
       exact hnx3 _ _ ⟨0,rfl,B2,D9.upd _ _ _⟩
    ·walk_at "go"
     exact hnx2 _ _ ⟨_,_,0,i2,rfl,B,D9.refl _ _,by decide⟩
  ·walk_at "go"
   exact hnx _ _ ⟨_,_,i0,i1,i2,rfl,B,D9.refl _ _⟩
theorem c7U{K:Fg}{E:XK}(hS:SqL K H a (ns.map V.int))(hl:ns.length<=63)
  (k:∀b c H',Bag H' b c->A9 H H'->H b=none->Q (.ref b) H'):b2m K [.ref a] H Q E:=by
 refine⟨rfl,?_⟩
 unfold c5i
 walk_at "go"
 exact_mod_cast a0i (a0C ?_)
 walk_at "go"
 refine⟨a,_,rfl,hS,fun p hp=>⟨p,rfl,⟨_,SqL.of g7⟩,fun D hD=>?_⟩⟩
 have hcut:a4m (ns.map V.int) none (some 63)=ns.map V.int:=by
  unfold a4m
  have e:HT.sIx (ns.map V.int).length 0 none=0:=rfl
  have e2:HT.sIx (ns.map V.int).length (ns.map V.int).length (some 63)=ns.length:=by
   have:=HT.a6V (ns.map V.int).length (ns.map V.int).length 63
   rw[c4]at this ⊢
   rw[show((63:Nat):Int)=63 from rfl]at this
   rw[this];omega
  rw[e,e2,b3Q,b9G,a1Y (by simp)]
 rw[hcut]at hD ⊢
 have s1:A9 H (upd H p (.lst (ns.map V.int))):=D6 hp
 refine a0T (xs:=ns.map V.int) (fun i ys H2=>ys=(ns.take i).map (fun x=>V.int (if x<0 then -x else x))/\H2=upd (upd H p (.lst (ns.map V.int))) D (.lst ys)) ⟨by simp,rfl⟩ ?_ ?_ ?_ ?_
 ·rintro i ys _ ⟨_,rfl⟩
  exact g7
 ·rintro i ys _ _ ⟨_,rfl⟩
  refine SqL.of ?_
  rw[o4 (d9 g7 hD),g7]
 ·rintro i x ys _ hx ⟨rfl,rfl⟩ R hR
  rw[d8]at hx
  cases e:ns[i]? with
  | none=>rw[e]at hx;cases hx
  | some z=>
   rw[e]at hx
   cases hx
   ext
   refine hR _ _ g7 (J7 ?_) ⟨?_,?_⟩
   ·rw[c4,J4];omega
   ·rw[P8,e];simp
   ·rw[a6F]
 ·rintro ys _ ⟨rfl,rfl⟩
  ext
  refine z8 (by simp) fun b H4 hb hb4 s4=>?_
  rw[c4,a1Y (o5 _)]at hb s4
  refine k b D _ ⟨0,1234567891,0,ns.map (fun x=>if x<0 then -x else x),hb4,?_,by decide,by decide,by decide,by decide,?_⟩ ?_ ?_
  ·rw[s4 D _ g7,S9];rfl
  ·intro x hx
   obtain⟨y,_,rfl⟩:=D8.mp hx
   split <;> omega
  ·exact(s1.trans (D6 hD)).trans s4
  ·exact(s1.trans (D6 hD)).free hb
structure a2j(H:Hp)(a:Addr):Prop where
 ex:∃ss:List Str,H a=some (.lst (ss.map V.str))/\ss≠[]/\ss.length<=8/\∀s∈ss,NmS s
theorem a2j.kept(h:a2j H a)(hB:Bag H b c)(k:D9 b H H'):a2j H' a/\a≠b:=by
 obtain⟨ss,h1,h2,h3,h4⟩:=h.ex
 obtain⟨i0,i1,i2,ns,hb,_⟩:=hB.ex
 have ne:a≠b:=M3 h1 hb (by
  intro z
  have z:=HO.lst.inj z
  cases ss with
  | nil=>exact h2 rfl
  | cons s r=>cases z)
 exact⟨⟨ss,k.1 a _ h1 ne,h2,h3,h4⟩,ne⟩
theorem a2j.same(h:a2j H a)(s:A9 H H'):a2j H' a:=by
 obtain⟨ss,h1,h2,h3⟩:=h.ex
 exact⟨ss,s _ _ h1,h2,h3⟩
theorem c3h:∀c∈LET.cps.toList,sgn LET c=true:=by decide +kernel
theorem c3g:∀c∈SGN.cps.toList,sgn SGN c=true:=by decide +kernel
theorem c4p:∀c∈LET.cps.toList,sgn SGN c=true:=by decide +kernel
theorem b6D(cs:List Nat):Txt.join (Str.ofString "") (cs.map fun k=>(⟨#[k]⟩:Str))=⟨cs.toArray⟩:=by
 show Builtin.Str.glued ("") _=_
 rw[StrLaws.glued_eq_join]
 exact PyProof.Rows.join_ones cs
theorem c9n{ch:Nat}(h1:ch∈LET.cps.toList)(h2:∀c∈cs,c∈SGN.cps.toList)(hl:cs.length<=7):NmS ((⟨#[ch]⟩:Str)++⟨cs.toArray⟩):=by
 have hlen:((⟨#[ch]⟩:Str)++⟨cs.toArray⟩).length=cs.length+1:=by
  rw[Str.length_append]
  show 1+cs.toArray.size=_
  rw[t9];omega
 have hc:((⟨#[ch]⟩:Str)++⟨cs.toArray⟩).cps=(ch::cs).toArray:=by
  rw[Str.cps_append]
  show #[ch]++cs.toArray=_
  simp
 refine⟨?_,by omega⟩
 unfold a4y
 rw[hlen,hc]
 have e0:(ch::cs).toArray[0]? = some ch:=by simp
 rw[e0]
 simp only[a0Y,decide_eq_true_eq,M6]
 refine⟨⟨⟨by omega,by omega⟩,c3h ch h1⟩,?_⟩
 intro c hcc
 have hcc:c∈ch::cs:=by simpa using hcc
 rcases q9.mp hcc with q | q
 ·subst q;exact c4p _ h1
 ·exact c3g c (h2 c q)
theorem c3f{s:Str}(h:∀s∈ss,NmS s)(hs:NmS s):∀t∈ss++[s],NmS t:=by
 intro t ht
 rcases C8.mp ht with q | q
 ·exact h t q
 ·rw[z9.mp q];exact hs
structure a7r(H:Hp)(a:Addr):Prop where
 ex:∃ps:List Addr,H a=some (.lst (ps.map V.ref))/\ps≠[]/\ps.length<=8/\∀p∈ps,a5n H p
theorem a0j(hB:Bag H b c)(h:H a=some (.lst (as.map V.ref))):a≠b:=by
 obtain⟨i0,i1,i2,ns,hb,_⟩:=hB.ex
 refine M3 h hb ?_
 intro z
 have z:=HO.lst.inj z
 cases as with
 | nil=>cases z
 | cons s r=>cases z
theorem a9I(hB:Bag H b c)(h:H a=some (.lst xs))(hl:xs.length<=3):a≠b:=by
 obtain⟨i0,i1,i2,ns,hb,_⟩:=hB.ex
 refine M3 h hb ?_
 intro z
 have z:=HO.lst.inj z
 rw[z]at hl
 simp at hl
theorem a7r.kept(h:a7r H a)(hB:Bag H b c)(k:D9 b H H'):a7r H' a:=by
 obtain⟨ps,h1,h2,h3,h4⟩:=h.ex
 exact⟨ps,k.1 a _ h1 (a0j hB h1),h2,h3,fun p hp=>(h4 p hp).ts (D9.ts k hB)⟩
theorem a7r.same(h:a7r H a)(k:A9 H H'):a7r H' a:=by
 obtain⟨ps,h1,h2,h3,h4⟩:=h.ex
 exact⟨ps,k a _ h1,h2,h3,fun p hp=>(h4 p hp).ts (A9.ts k)⟩
structure J0(H:Hp)(a:Addr)(N:Nt):Prop where
 ex:∃as:List Addr,H a=some (.lst (as.map V.ref))/\as.length=N.length/\∀(i:Nat) x l,as[i]? = some x->N[i]? = some l->H x=some (.lst (IL l))
theorem J0.same(h:J0 H a N)(k:A9 H H'):J0 H' a N:=by
 obtain⟨as,h1,h2,h3⟩:=h.ex
 exact⟨as,k a _ h1,h2,fun i x l e1 e2=>k _ _ (h3 i x l e1 e2)⟩
theorem J0.kept(h:J0 H a N)(hB:Bag H b c)(hN:∀l∈N,l.length<=2)(k:D9 b H H'):J0 H' a N:=by
 obtain⟨as,h1,h2,h3⟩:=h.ex
 refine⟨as,k.1 a _ h1 (a0j hB h1),h2,fun i x l e1 e2=>?_⟩
 have q:=h3 i x l e1 e2
 refine k.1 _ _ q (a9I hB q ?_)
 rw[U0]
 have:=hN l (mI e2)
 omega
theorem J0.at(h:J0 H a N){k:Nat}(e:N[k]? = some l):∃(xs:List V) (x:Addr),H a=some (.lst xs)/\atI xs (k:Int)=some (.ref x)/\H x=some (.lst (IL l))/\xs.length=N.length:=by
 obtain⟨as,h1,h2,h3⟩:=h.ex
 have hk:k<as.length:=by rw[h2];exact(gI e)
 have e1:as[k]? = some as[k]:=by simp
 refine⟨_,as[k],h1,?_,h3 k _ l e1 e,by rw[c4,h2]⟩
 exact a0W (by rw[d8,e1];rfl)
theorem J0.len(h:J0 H a N):∃xs,H a=some (.lst xs)/\xs.length=N.length:=by
 obtain⟨as,h1,h2,h3⟩:=h.ex
 exact⟨_,h1,by rw[c4,h2]⟩
theorem c5z{j t:Nat}(e:l[j]? = some t):atI (IL l) (j:Int)=some (.int (t:Int)):=a0W (by unfold IL;rw[d8,e];rfl)
theorem b2K{K:Fg}{E:XK}(hB:Bag H b c)(ha:H a=some (.lst xs))(na:a≠b)(h0:xs≠[])(hl:xs.length<=100)
  (k:∀(n:Int) v H',atI xs n=some v->v∈xs->H' a=some (.lst xs)->Bag H' b c->D9 b H H'->Q (.int n) H'):E7 K [.ref b,.int xs.length] H Q E:=by
 have hp:0<xs.length:=List.length_pos_iff.mpr h0
 refine G0 hB (by omega) (by omega) fun n H1 n0 n1 B1 k1=>?_
 obtain⟨v,hv,hv2⟩:=a2R (xs:=xs) n0 n1
 exact k n v H1 hv (mI hv2) (k1.1 _ _ ha na) B1 k1
theorem a9F{α:Type}(l:List α):l=[]\/∃r a,l=r++[a]:=by
 cases h:l.reverse with
 | nil=>left;simpa using h
 | cons a r=>
  right
  refine⟨r.reverse,a,?_⟩
  have:=congrArg List.reverse h
  simpa using this
theorem b0H{α:Type}{xs:List α}{a:α}:atI (xs++[a]) (-1)=some a:=by
 unfold atI ixN
 rw[if_neg (by decide),if_pos (by rw[u8,E4];omega)]
 have:(-1+((xs++[a]).length:Int)).toNat=xs.length:=by rw[u8,E4];omega
 rw[this]
 simp
structure b1k(H0 H:Hp)(b c D:Addr)(m:Nat)(as:List Addr)(N:Nt):Prop where
 bag:Bag H b c
 kept:D9 b H0 H
 hD:H D=some (.lst (as.map V.ref))
 nb:D≠b
 nc:D≠c
 len:as.length=N.length
 at_:∀(i:Nat) x l,as[i]? = some x->N[i]? = some l->H x=some (.lst (IL l))/\x≠D/\x≠b
 small:∀l∈N,l.length<=2/\∀t∈l,t<m
theorem b1k.next{D:Addr}(h:b1k H0 H b c D m as N)(B:Bag H' b c)(k:D9 b H H'):b1k H0 H' b c D m as N:=
 ⟨B,h.kept.trans k,k.1 _ _ h.hD h.nb,h.nb,h.nc,h.len,fun i x l e1 e2=>let⟨q1,q2,q3⟩:=h.at_ i x l e1 e2; ⟨k.1 _ _ q1 q3,q2,q3⟩,h.small⟩
structure a7p(H:Hp)(b D q:Addr)(m:Nat)(l:List Nat):Prop where
 h:H q=some (.lst (IL l))
 nD:q≠D
 nb:q≠b
 len:l.length<=2
 lt:∀t∈l,t<m
theorem a7p.next{D q:Addr}(h:a7p H b D q m l)(k:D9 b H H'):a7p H' b D q m l:=⟨k.1 _ _ h.h h.nb,h.nD,h.nb,h.len,h.lt⟩
theorem V6{α:Type}{xs:List α}{x y:α}{i:Nat}(h:(xs++[x])[i]? = some y):(i<xs.length/\xs[i]? = some y)\/(i=xs.length/\y=x):=by
 by_cases hi:i<xs.length
 ·left
  rw[L3 hi]at h
  exact⟨hi,h⟩
 ·right
  rw[K8 (by omega)]at h
  have:i - xs.length=0:=by
   have:=(gI h)
   simp at this
   omega
  rw[this]at h
  simp at h
  exact⟨by omega,h.symm⟩
theorem c5x{a b:Int}:decide (V.int a=V.int b)=decide (a=b):=by
 by_cases h:a=b
 ·subst h;simp
 ·rw[d1C h,d1C (fun z=>h (V.int.inj z))]
theorem c4u(h:l≠[]):∃z:Nat,atI (IL l) (-1)=some (.int (z:Int))/\z∈l:=by
 rcases a9F l with rfl | ⟨r,z,rfl⟩
 ·exact(h rfl).elim
 ·refine⟨z,?_,by simp⟩
  rw[show IL (r++[z])=IL r++[V.int (z:Int)] by simp[IL]]
  exact b0H
theorem c7r{K:Fg}{E:XK}(hB:Bag H b c)(m0:0<m)(m1:m<=24)
  (k:∀a N H',J0 H' a N->N.length=m->(∀l∈N,l.length<=2/\∀t∈l,t<m)->N[m - 1]? = some []->Bag H' b c->D9 b H H'->Q (.ref a) H'):b2k K [.ref b,.int (m:Int)] H Q E:=by
 refine⟨rfl,?_⟩
 unfold c5g
 nofun
 exists z8 (by simp) fun D H1 hD e1 s1=>?_
 obtain⟨nb,nc⟩:=hB.nb hD
 have B1:=hB.same s1
 exact_mod_cast a0o ?_
 specialize a1z (a0N ?_)
 refine⟨m,rfl,by omega,by omega,?_⟩
 rw[A7]
 refine a0I (fun i σ H2=>∃x3 x4 x5 x6 as N,σ=[some (.ref b),some (.int (m:Int)),some (.ref D),x3,x4,x5,x6]/\b1k H H2 b c D m as N/\N.length=i/\(i=m->N[m - 1]? = some [])) ?_ ?_ ?_
 ·exact⟨_,_,_,_,[],[],rfl,⟨B1,D9.of_same s1,e1,nb,nc,rfl,fun i x l e=>by simp at e,fun l h=>by simp at h⟩,rfl,fun z=>by omega⟩
 ·rintro i _ H2 hi ⟨x3,x4,x5,x6,as,N,rfl,I2,hlen,_⟩
  ext
  rw[X3]
  nofun
  exists c5s ?_
  obtain⟨r,hr,hrm⟩:∃r:Nat,(if(m:Int) - 1<(i:Int)+1 then (m:Int) - 1 else (i:Int)+1)=(r:Int)/\r<m:=by
   by_cases h:(m:Int) - 1<(i:Int)+1
   ·exact⟨m - 1,by rw[if_pos h];omega,by omega⟩
   ·exact⟨i+1,by rw[if_neg h];omega,by omega⟩
  rw[hr]
  nofun
  refine G0 I2.bag (by omega) (by omega) fun j H3 j0 j1 B3 k3=>?_
  obtain⟨j,rfl⟩:=A8 j0
  ext
  exists z8 (by simp) fun q H4 hq e4 s4=>?_
  have I3:=I2.next B3 k3
  have I4:=I3.next (B3.same s4) (D9.of_same s4)
  have S4:a7p H4 b D q m [r,j]:=⟨e4,(d9 I3.hD hq).symm,(B3.nb hq).1,by simp,fun t ht=>by
   simp only[q9,G5,or_false]at ht
   rcases ht with rfl | rfl
   ·exact hrm
   ·omega⟩
  nofun
  exists G0 I4.bag (by decide) (by decide) fun w H5 w0 w1 B5 k5=>?_
  have I5:=I4.next B5 k5
  have S5:=S4.next k5
  exact_mod_cast Y8 (P:=fun σ H6=>∃q l,σ=[some (.ref b),some (.int (m:Int)),some (.ref D),some (.int (i:Int)),some (.int (r:Int)),some (.ref q),some (.int w)]/\b1k H H6 b c D m as N/\a7p H6 b D q m l/\l.length=2) ?_ ?_
  rotate_left
  ·intro nx hnx
   ext
   refine Z0 (fun _=>?_) (fun _=>?_)
   ·ext
    exists L9 S5.h (a0O _ _ _) ?_
    refine z8 (by simp) fun q6 H6 hq6 e6 s6=>?_
    exact hnx _ _ ⟨q6,[j,r],rfl,I5.next (B5.same s6) (D9.of_same s6),⟨e6,(d9 I5.hD hq6).symm,(B5.nb hq6).1,by simp,fun t ht=>by
     simp only[q9,G5,or_false]at ht
     rcases ht with rfl | rfl
     ·exact S5.lt _ (by simp)
     ·exact S5.lt _ (by simp)⟩,rfl⟩
   ·ext
    exact hnx _ _ ⟨q,[r,j],rfl,I5,S5,rfl⟩
  rintro _ H6 ⟨q,l,rfl,I6,S6,hl6⟩
  obtain⟨l0,l1,rfl⟩:∃l0 l1,l=[l0,l1]:=by
   match l,hl6 with
   | [a,b],_=>exact⟨a,b,rfl⟩
  exact_mod_cast Y8 (P:=fun σ H6=>∃q l,σ=[some (.ref b),some (.int (m:Int)),some (.ref D),some (.int (i:Int)),some (.int (r:Int)),some (.ref q),some (.int w)]/\b1k H H6 b c D m as N/\a7p H6 b D q m l/\l.length=2) ?_ ?_
  rotate_left
  ·intro nx hnx
   ext
   refine Z0 (fun _=>?_) (fun _=>?_)
   ·ext
    exists L9 S6.h (a0O _ _ _) ?_
    refine G0 I6.bag (by omega) (by omega) fun j2 H7 z0 z1 B7 k7=>?_
    obtain⟨j2,rfl⟩:=A8 z0
    ext
    have I7:=I6.next B7 k7
    refine z8 (by simp) fun q8 H8 hq8 e8 s8=>?_
    exact hnx _ _ ⟨q8,[l1,j2],rfl,I7.next (B7.same s8) (D9.of_same s8),⟨e8,(d9 I7.hD hq8).symm,(B7.nb hq8).1,by simp,fun t ht=>by
     simp only[q9,G5,or_false]at ht
     rcases ht with rfl | rfl
     ·exact S6.lt _ (by simp)
     ·omega⟩,rfl⟩
   ·ext
    exact hnx _ _ ⟨q,_,rfl,I6,S6,rfl⟩
  clear S6 I6 l0 l1 hl6 S5 I5 S4 I4 I3 B3 k3 B5 k5 s4 e4 hq
  rintro _ H6 ⟨q,l,rfl,I6,S6,hl6⟩
  obtain⟨l0,l1,rfl⟩:∃l0 l1,l=[l0,l1]:=by
   match l,hl6 with
   | [a,b],_=>exact⟨a,b,rfl⟩
  exact_mod_cast Y8 (P:=fun σ H6=>∃q l,σ=[some (.ref b),some (.int (m:Int)),some (.ref D),some (.int (i:Int)),some (.int (r:Int)),some (.ref q),some (.int w)]/\b1k H H6 b c D m as N/\a7p H6 b D q m l/\l≠[]) ?_ ?_
  rotate_left
  ·intro nx hnx
   have one:∀H7,H7=H6->New (.lst [V.int (r:Int)]) 1 H7 fun v H1=>nx [some (.ref b),some (.int (m:Int)),some (.ref D),some (.int (i:Int)),some (.int (r:Int)),some v,some (.int w)] H1:=by
    rintro _ rfl
    refine z8 (by simp) fun q8 H8 hq8 e8 s8=>?_
    exact hnx _ _ ⟨q8,[r],rfl,I6.next (I6.bag.same s8) (D9.of_same s8),⟨e8,(d9 I6.hD hq8).symm,(I6.bag.nb hq8).1,by simp,fun t ht=>by rw[z9.mp ht];exact hrm⟩,by simp⟩
   ext
   refine Z0 (fun a3=>?_) (fun a3=>?_)
   ·ext
    refine Z0 (fun a7=>?_) (fun a7=>?_)
    ·exists J2 rfl ?_
     exact one _ rfl
    ·ext
     refine Z0 (fun a1=>?_) (fun a1=>?_)
     ·ext
      exact one _ rfl
     ·ext
      exact hnx _ _ ⟨q,_,rfl,I6,S6,by simp⟩
   ·ext
    exists C5 rfl ?_
    refine Z0 (fun a1=>?_) (fun a1=>?_)
    ·ext
     exact one _ rfl
    ·ext
     exact hnx _ _ ⟨q,_,rfl,I6,S6,by simp⟩
  clear S6 I6 l0 l1 hl6
  rintro _ H6 ⟨q,l,rfl,I6,S6,hl6⟩
  exact_mod_cast Y8 (P:=fun σ H6=>∃q l,σ=[some (.ref b),some (.int (m:Int)),some (.ref D),some (.int (i:Int)),some (.int (r:Int)),some (.ref q),some (.int w)]/\b1k H H6 b c D m as N/\a7p H6 b D q m l) ?_ ?_
  rotate_left
  ·intro nx hnx
   ext
   refine Z0 (fun a7=>?_) (fun a7=>?_)
   ·ext
    obtain⟨z,hz,hzl⟩:=c4u hl6
    exists L9 S6.h hz ?_
    refine z8 (by simp) fun q8 H8 hq8 e8 s8=>?_
    exact hnx _ _ ⟨q8,[z],rfl,I6.next (I6.bag.same s8) (D9.of_same s8),⟨e8,(d9 I6.hD hq8).symm,(I6.bag.nb hq8).1,by simp,fun t ht=>by rw[z9.mp ht];exact S6.lt _ hzl⟩⟩
   ·ext
    exact hnx _ _ ⟨q,_,rfl,I6,S6⟩
  clear S6 I6 hl6 l
  rintro _ H6 ⟨q,l,rfl,I6,S6⟩
  exact_mod_cast Y8 (P:=fun σ H6=>∃q l,σ=[some (.ref b),some (.int (m:Int)),some (.ref D),some (.int (i:Int)),some (.int (r:Int)),some (.ref q),some (.int w)]/\b1k H H6 b c D m as N/\a7p H6 b D q m l/\(i+1=m->l=[])) ?_ ?_
  rotate_left
  ·intro nx hnx
   have none:∀H7,b1k H H7 b c D m as N->New (.lst []) 0 H7 fun v H1=>nx [some (.ref b),some (.int (m:Int)),some (.ref D),some (.int (i:Int)),some (.int (r:Int)),some v,some (.int w)] H1:=by
    intro H7 I7
    refine z8 (by simp) fun q8 H8 hq8 e8 s8=>?_
    exact hnx _ _ ⟨q8,[],rfl,I7.next (I7.bag.same s8) (D9.of_same s8),⟨e8,(d9 I7.hD hq8).symm,(I7.bag.nb hq8).1,by simp,fun t ht=>by simp at ht⟩,fun _=>rfl⟩
   ext
   refine Z0 (fun a1=>?_) (fun a1=>?_)
   ·exists J2 rfl ?_
    exact none _ I6
   ·rw[c5x]at a1
    have a1:¬((i:Int)=(m:Int) - 1):=fun z=>a1 (d1D z)
    ext
    refine Z0 (fun a6=>?_) (fun a6=>?_)
    ·ext
     exists G0 I6.bag (by decide) (by decide) fun z H7 z0 z1 B7 k7=>?_
     refine Z0 (fun a0=>?_) (fun a0=>?_)
     ·ext
      exact none _ (I6.next B7 k7)
     ·ext
      exact hnx _ _ ⟨q,l,rfl,I6.next B7 k7,S6.next k7,fun z=>by omega⟩
    ·exists C5 rfl ?_
     exact hnx _ _ ⟨q,l,rfl,I6,S6,fun z=>by omega⟩
  clear S6 I6 l
  rintro _ H6 ⟨q,l,rfl,I6,S6,hlast⟩
  ext
  specialize a6j ?_
  exists ⟨X9 I6.hD,?_⟩
  refine a0p I6.hD (J7 (by rw[c4,I6.len];omega)) ?_
  have nqc:D≠c:=I6.nc
  refine⟨_,_,_,_,as++[q],N++[l],rfl,⟨I6.bag.put I6.nb nqc,I6.kept.put hD,by rw[g7];simp,I6.nb,I6.nc,by simp[I6.len],?_,?_⟩,by simp[hlen],?_⟩
  ·intro i' x' l' e1' e2'
   rcases V6 e1' with ⟨hi1,f1⟩ | ⟨hi1,f1⟩
   ·rcases V6 e2' with ⟨hi2,f2⟩ | ⟨hi2,f2⟩
    ·obtain⟨g1,g2,g3⟩:=I6.at_ i' x' l' f1 f2
     exact⟨by rw[o4 g2];exact g1,g2,g3⟩
    ·have:=I6.len;omega
   ·rcases V6 e2' with ⟨hi2,f2⟩ | ⟨hi2,f2⟩
    ·have:=I6.len;omega
    ·subst f1 f2
     exact⟨by rw[o4 S6.nD];exact S6.h,S6.nD,S6.nb⟩
  ·intro l' hl'
   rcases C8.mp hl' with z | z
   ·exact I6.small l' z
   ·rw[z9.mp z];exact⟨S6.len,S6.lt⟩
  ·intro z
   rw[hlast z]
   have:m - 1=N.length:=by omega
   rw[this];simp
 ·rintro _ H2 ⟨x3,x4,x5,x6,as,N,rfl,I2,hlen,hlast⟩
  ext
  exact k D N H2 ⟨as,I2.hD,I2.len,fun i x l e1 e2=>(I2.at_ i x l e1 e2).1⟩ hlen I2.small (hlast rfl) I2.bag I2.kept
theorem c7u:∀c∈LET.cps.toList,c∈SGN.cps.toList:=by decide +kernel
def NmL(cs:List Nat):Prop:=∃ch r,cs=ch::r/\ch∈LET.cps.toList/\(∀c∈r,c∈SGN.cps.toList)/\r.length<=7
def SL(cs:List Nat):List V:=cs.map fun k=>V.str (⟨#[k]⟩:Str)
theorem c2C(cs:List Nat):(SL cs).length=cs.length:=by simp[SL]
theorem c2v(ch:Nat)(r:List Nat):(⟨(ch::r).toArray⟩:Str)=(⟨#[ch]⟩:Str)++⟨r.toArray⟩:=by
 apply congrArg Str.mk
 show _ = #[ch]++r.toArray
 simp
theorem NmL.nm(h:NmL cs):NmS ⟨cs.toArray⟩:=by
 obtain⟨ch,r,rfl,h1,h2,h3⟩:=h
 rw[c2v]
 exact c9n h1 h2 h3
theorem NmL.set(h:NmL cs){i ch:Nat}(hc:ch∈LET.cps.toList):NmL (cs.set i ch):=by
 obtain⟨c0,r,rfl,h1,h2,h3⟩:=h
 cases i with
 | zero=>exact⟨ch,r,rfl,hc,h2,h3⟩
 | succ i=>
  refine⟨c0,r.set i ch,rfl,h1,fun c hcc=>?_,by rw[T4];exact h3⟩
  rcases b5r hcc with q | q
  ·exact h2 c q
  ·rw[q];exact c7u ch hc
theorem c4z{l:Addr}(h:H l=some (.lst (SL cs)))(hl:cs.length<=100)(k:Q (.str ⟨cs.toArray⟩) H):a9V (.str "") [.ref l] H Q:=by
 have he:SL cs=(cs.map fun k=>(⟨#[k]⟩:Str)).map V.str:=by unfold SL;rw[S9];rfl
 rw[he]at h
 have hsum:((cs.map fun k=>(⟨#[k]⟩:Str)).map (·.length)).sum=cs.length:=by
  clear h he hl k
  induction cs with
  | nil=>rfl
  | cons s r ih=>
   rw[G8,G8,List.sum_cons,ih,C6]
   show 1+_=_
   omega
 refine c6k h (b5J _) ?_ ?_
 ·rw[hsum,c4]
  show cs.length+cs.length * 0<=_
  omega
 ·have hj:Txt.join (Str.ofString "") (cs.map fun k=>(⟨#[k]⟩:Str))=⟨cs.toArray⟩:=b6D cs
  show Q (.str (Txt.join (Str.ofString "") (cs.map fun k=>(⟨#[k]⟩:Str)))) H
  rw[hj]
  exact k
theorem b0l{n:Int}(h0:0<=n)(h1:n<26):∃ch,atI ("abcdefghijklmnopqrstuvwxyz" : Str).cps.toList n=some ch/\ch∈LET.cps.toList:=by
 obtain⟨ch,hc,hc2⟩:=a2R (xs:=("abcdefghijklmnopqrstuvwxyz" : Str).cps.toList) h0 (by
  have:(("abcdefghijklmnopqrstuvwxyz" : Str).cps.toList).length=26:=by decide +kernel
  omega)
 exact⟨ch,hc,mI hc2⟩
theorem c0w{n:Int}(h0:0<=n)(h1:n<36):∃ch,atI (("abcdefghijklmnopqrstuvwxyz" : Str)++("0123456789" : Str)).cps.toList n=some ch/\ch∈SGN.cps.toList:=by
 obtain⟨ch,hc,hc2⟩:=a2R (xs:=(("abcdefghijklmnopqrstuvwxyz" : Str)++("0123456789" : Str)).cps.toList) h0 (by
  have:((("abcdefghijklmnopqrstuvwxyz" : Str)++("0123456789" : Str)).cps.toList).length=36:=by decide +kernel
  omega)
 refine⟨ch,hc,?_⟩
 rw[<-c0x]
 exact mI hc2
theorem b7U{K:Fg}{E:XK}(hB:Bag H b c)(n0:1<=n)(n1:n<=8)(k:∀a cs H',H a=none->H' a=some (.lst (SL cs))->NmL cs->cs.length=n->Bag H' b c->D9 b H H'->Q (.ref a) H'):a6S K [.ref b,.int (n:Int)] H Q E:=by
 refine⟨rfl,?_⟩
 unfold c0r
 nofun
 nofun
 exists c1d (small (by decide +kernel)) ?_
 refine G0 hB (by decide) (by decide) fun i H1 i0 i1 B1 k1=>?_
 obtain⟨ch,hc,hcm⟩:=b0l i0 i1
 exists b7D (small (by decide +kernel)) hc ?_
 refine z8 (by simp) fun p H2 hp e2 s2=>?_
 have B2:=B1.same s2
 specialize a0i (a0N ?_)
 refine⟨(n:Int) - 1,rfl,by omega,by omega,fun D hD=>?_⟩
 obtain⟨nb,nc⟩:=B2.nb hD
 obtain⟨pb,_⟩:=B1.nb hp
 refine a2Q (fun i ys H3=>∃cs:List Nat,ys=SL cs/\cs.length=i/\(∀c∈cs,c∈SGN.cps.toList)/\H3 D=some (.lst ys)/\Bag H3 b c/\D9 b H2 H3) ?_ ?_ ?_ ?_
 ·exact⟨[],rfl,rfl,by simp,g7,B2.new hD,D9.new hD⟩
 ·rintro i ys H3 ⟨_,_,_,_,h,_⟩
  exact h
 ·rintro i ys H3 hi ⟨cs,rfl,rfl,h1,hd,B3,k3⟩ R hR
  ext
  refine G0 B3 (by decide) (by decide) fun j H4 j0 j1 B4 k4=>?_
  obtain⟨cj,hcj,hcm2⟩:=c0w j0 j1
  refine b7D (small (by decide +kernel)) hcj ?_
  refine hR _ _ (k4.1 _ _ hd nb) (J7 (by rw[c2C];omega)) ⟨cs++[cj],by simp[SL],by simp,?_,g7,B4.put nb nc,(k3.trans k4).put hD⟩
  intro s hs
  rcases C8.mp hs with q | q
  ·exact h1 s q
  ·rw[z9.mp q];exact hcm2
 ·rintro ys H3 ⟨cs,rfl,hn,h1,hd,B3,k3⟩
  refine a4f (k3.1 _ _ e2 pb) hd (z8 (by simp[SL];omega) fun a H4 ha e4 s4=>?_)
  have e5:[V.str (⟨#[ch]⟩:Str)]++SL cs=SL (ch::cs):=by simp[SL]
  rw[e5]at e4
  have k03:D9 b H H3:=(k1.trans (D9.of_same s2)).trans k3
  exact k a (ch::cs) H4 (k03.none ha) e4 ⟨ch,cs,rfl,hcm,h1,by omega⟩ (by rw[C6];omega) (B3.same s4) (k03.trans (D9.of_same s4))
theorem c1U{K:Fg}{E:XK}(hB:Bag H b c)(m0:2<=m)(m1:m<=5)(k:∀a ss H',H' a=some (.lst ((ss:List Str).map V.str))->ss.length=m->(∀s∈ss,NmS s)->a≠b->Bag H' b c->D9 b H H'->Q (.ref a) H') :
  a6P K [.ref b,.int (m:Int)] H Q E:=by
 refine⟨rfl,?_⟩
 unfold b7o
 nofun
 nofun
 refine G0 hB (by decide) (by decide) fun z H1 z0 z1 B1 k1=>?_
 obtain⟨z,rfl⟩:=A8 z0
 ext
 obtain⟨sz,hsz⟩:∃sz:Nat,(1:Int)+(z:Int)=(sz:Int):=⟨1+z,by omega⟩
 obtain⟨tz,htz⟩:∃tz:Nat,(sz:Int) % 8+1=(tz:Int):=⟨sz % 8+1,by omega⟩
 have ht8:1<=tz/\tz<=8:=by omega
 rw[hsz]
 nofun
 exists b7U B1 (by omega) (by omega) fun a1 c1 H2 _ e2 n2 l2 B2 k2=>?_
 exists Y2 (by decide) ?_
 rw[htz]
 exists b7U B2 ht8.1 ht8.2 fun a2 c2 H3 f3 e3 n3 l3 B3 k3=>?_
 exists z8 (by simp) fun ba H4 hba e4 s4=>?_
 have short1:∀ {H:Hp} {a:Addr} {cs:List Nat},Bag H b c->H a=some (.lst (SL cs))->a≠b:=by
  intro H a cs hB h
  obtain⟨i0,i1,i2,ns,hb,_⟩:=hB.ex
  refine M3 h hb ?_
  intro z
  have z:=HO.lst.inj z
  cases cs with
  | nil=>cases z
  | cons s r=>cases z
 have A1:H4 a1=some (.lst (SL c1)):=s4 _ _ (k3.1 _ _ e2 (short1 B2 e2))
 have A2:H4 a2=some (.lst (SL c2)):=s4 _ _ e3
 have B4:=B3.same s4
 nofun
 refine G0 B4 (by omega) (by omega) fun p1 H5 p10 p11 B5 k5=>?_
 obtain⟨p1,rfl⟩:=A8 p10
 ext
 exists Y2 (by decide) ?_
 rw[htz]
 refine G0 B5 (by omega) (by omega) fun p2 H6 p20 p21 B6 k6=>?_
 obtain⟨p2,rfl⟩:=A8 p20
 ext
 exists z8 (by simp) fun sa H7 hsa e7 s7=>?_
 nofun
 exists G0 (B6.same s7) (by decide) (by decide) fun f H8 f0 f1 B8 k8=>?_
 nofun
 exists z8 (by simp) fun D H9 hD e9 s9=>?_
 have B9:=B8.same s9
 have k49:D9 b H4 H9:=(((k5.trans k6).trans (D9.of_same s7)).trans k8).trans (D9.of_same s9)
 have A1':H9 a1=some (.lst (SL c1)):=k49.1 _ _ A1 (short1 B4 A1)
 have A2':H9 a2=some (.lst (SL c2)):=k49.1 _ _ A2 (short1 B4 A2)
 have Ba:H9 ba=some (.lst [.ref a1,.ref a2]):=k49.1 _ _ e4 (B3.nb hba).1
 have Sa:H9 sa=some (.lst [.int (p1:Int),.int (p2:Int)]):=s9 _ _ (k8.1 _ _ e7 (B6.nb hsa).1)
 obtain⟨nb,nc⟩:=B8.nb hD
 have k08:D9 b H H8:=((((k1.trans k2).trans k3).trans (D9.of_same s4)).trans ((k5.trans k6).trans (D9.of_same s7))).trans k8
 have hD0:=k08.none hD
 have k09:D9 b H H9:=k08.trans (D9.of_same s9)
 have f0':=f0
 exact_mod_cast a0o ?_
 specialize a1z (a0N ?_)
 refine⟨m,rfl,by omega,by omega,?_⟩
 rw[A7]
 refine a0I (fun i σ H10=>∃y8 y9 ss,σ=[some (.ref b),some (.int (m:Int)),some (.str "abcdefghijklmnopqrstuvwxyz"),some (.int (sz:Int)),some (.ref ba),some (.ref sa),some (.int f),some (.ref D),y8,y9,none]/\H10 D=some (.lst ((ss:List Str).map V.str))/\ss.length=i/\(∀s∈ss,NmS s)/\(∀x o,H9 x=some o->x≠D->H10 x=some o)/\A9 H8 H10) ?_ ?_ ?_
 ·exact⟨_,_,[],rfl,e9,rfl,by simp,fun x o e _=>e,s9⟩
 ·rintro i _ H10 hi ⟨y8,y9,ss,rfl,hD10,ls,hss,fr,s10⟩
  ext
  rw[X3]
  have nba:ba≠D:=d9 (k8.1 _ _ (s7 _ _ (k6.1 _ _ (k5.1 _ _ e4 (B3.nb hba).1) (B3.nb hba).1)) (B3.nb hba).1) hD
  have nsa:sa≠D:=d9 (k8.1 _ _ e7 (B6.nb hsa).1) hD
  have na1:a1≠D:=M3 A1' e9 (by
   intro z
   have z:=HO.lst.inj z
   obtain⟨ch,r,rfl,_⟩:=n2
   cases z)
  have na2:a2≠D:=M3 A2' e9 (by
   intro z
   have z:=HO.lst.inj z
   obtain⟨ch,r,rfl,_⟩:=n3
   cases z)
  have one:∀(ax:Addr) (cx:List Nat) (px:Nat),H10 ax=some (.lst (SL cx))->NmL cx->cx.length<=8->px<cx.length->∀R:VK,
    (∀q H11,H10 q=none->H11 q=some (.lst (SL cx))->A9 H10 H11->R (.ref q) H11)->a2J [.ref ax] H10 R:=fun ax cx px h _ _ _ R hR=>a1V h fun q H11 a b c=>hR q H11 a b c
  have step:∀(ax:Addr) (cx:List Nat) (px:Nat),atI [V.ref a1,V.ref a2] ((i:Int) % 2)=some (.ref ax)->atI [V.int (p1:Int),V.int (p2:Int)] ((i:Int) % 2)=some (.int (px:Int))->H10 ax=some (.lst (SL cx))->NmL cx->cx.length<=8->px<cx.length->True:=fun _ _ _ _ _ _ _ _ _=>trivial
  obtain⟨ax,cx,px,g1,g2,g3,g4,g5,g6⟩:∃(ax:Addr) (cx:List Nat) (px:Nat),atI [V.ref a1,V.ref a2] ((i:Int) % 2)=some (.ref ax)/\atI [V.int (p1:Int),V.int (p2:Int)] ((i:Int) % 2)=some (.int (px:Int))/\H10 ax=some (.lst (SL cx))/\NmL cx/\cx.length<=8/\px<cx.length:=by
   rcases(show i % 2=0\/i % 2=1 by omega)with q | q
   ·have e:(i:Int) % 2=0:=by omega
    rw[e]
    exact⟨a1,c1,p1,V3 _ _,V3 _ _,fr _ _ A1' na1,n2,by omega,by omega⟩
   ·have e:(i:Int) % 2=1:=by omega
    rw[e]
    exact⟨a2,c2,p2,a0O _ _ _,a0O _ _ _,fr _ _ A2' na2,n3,by omega,by omega⟩
  clear one step
  nofun
  refine Y2 (by decide) ?_
  exists L9 (fr _ _ Ba nba) g1 ?_
  exists a1V g3 fun q H11 hq e11 s11=>?_
  nofun
  exists Y2 ⟨by decide,by decide⟩ ?_
  refine Y2 (by decide) ?_
  obtain⟨ch,hc,hcm⟩:=b0l (n:=(f+(i:Int) / 2) % 26) (W5 _ (by decide)) (U2 _ (by decide))
  exists b7D (small (by decide +kernel)) hc ?_
  refine Y2 (by decide) ?_
  refine L9 (s11 _ _ (fr _ _ Sa nsa)) g2 ?_
  have hix:ixN (SL cx).length (px:Int)=some px:=by
   unfold ixN
   rw[if_pos (by omega),if_pos (by rw[c2C];omega),A7]
  refine b1F e11 hix ?_
  have eset:(SL cx).set px (V.str (⟨#[ch]⟩:Str))=SL (cx.set px ch):=by unfold SL;rw[a9h]
  rw[eset]
  have nm:=(g4.set (i:=px) hcm).nm
  ext
  have hqD:q≠D:=(d9 hD10 hq).symm
  specialize a6j ?_
  have hD12:(upd H11 q (.lst (SL (cx.set px ch)))) D=some (.lst (ss.map V.str)):=by rw[o4 hqD.symm];exact s11 _ _ hD10
  exists ⟨X9 hD12,?_⟩
  exists c4z g7 (by rw[T4];omega) ?_
  refine a0p hD12 (J7 (by rw[c4];omega)) ?_
  refine⟨_,_,ss++[⟨(cx.set px ch).toArray⟩],rfl,by rw[g7];simp,by simp[ls],c3f hss nm,fun x o e n=>?_,fun x o e=>?_⟩
  ·have:=fr x o e n
   rw[o4 n,o4 (d9 this hq)]
   exact s11 _ _ this
  ·have:=s10 x o e
   rw[o4 (d9 e hD),o4 (d9 this hq)]
   exact s11 _ _ this
 rintro _ H10 ⟨y8,y9,ss,rfl,hD10,ls,hss,fr,s10⟩
 have B10:=B8.same s10
 have k10:D9 b H8 H10:=D9.of_same s10
 nofun
 exists z8 (by simp) fun wa H11 hwa e11 s11=>?_
 refine G0 (B10.same s11) (by decide) (by decide) fun wi H12 wi0 wi1 B12 k12=>?_
 have hwa':=k12.1 _ _ e11 (B10.nb hwa).1
 obtain⟨v,hv,hv2⟩:=a2R (xs:=([.str "k0",.str "k1",.str "set",.str "ask",.str "plus",.str "k2"]:List V)) wi0 (by simpa using wi1)
 refine L9 hwa' hv ?_
 have:∃w:Str,v=.str w/\NmS w:=by
  have m:=mI hv2
  simp only[q9,G5,or_false]at m
  have mw:∀s∈(["k0","k1","set","ask","plus","k2"]:List Str),a4y s=true/\s.length<=8:=by decide +kernel
  rcases m with rfl | rfl | rfl | rfl | rfl | rfl <;> exact⟨_,rfl,mw _ (by simp)⟩
 obtain⟨wd,rfl,hwd⟩:=this
 ext
 have hD12:H12 D=some (.lst (ss.map V.str)):=k12.1 _ _ (s11 _ _ hD10) nb
 have k012:D9 b H H12:=(k08.trans k10).trans ((D9.of_same s11).trans k12)
 exact_mod_cast Y8 (P:=fun σ H13=>∃ss:List Str,σ[7]? = some (some (V.ref D))/\H13 D=some (.lst (ss.map V.str))/\ss.length=m/\(∀s∈ss,NmS s)/\Bag H13 b c/\D9 b H H13) ?_ ?_
 rotate_left
 ·intro nx hnx
  ext
  refine G0 B12 (by decide) (by decide) fun q H13 _ _ B13 k13=>?_
  have hD13:=k13.1 _ _ hD12 nb
  ext
  refine Z0 (fun _=>?_) (fun _=>?_)
  ·ext
   refine c6i hD13 rfl (by
    rw[M6]
    intro x hx
    obtain⟨s,_,rfl⟩:=D8.mp hx
    rfl) ?_
   ext
   refine Z0 (fun _=>?_) (fun _=>?_)
   ·ext
    refine G0 B13 (by omega) (by omega) fun u H14 u0 u1 B14 k14=>?_
    obtain⟨u,rfl⟩:=A8 u0
    have hD14:=k14.1 _ _ hD13 nb
    have hix:ixN (ss.map V.str).length (u:Int)=some u:=by
     unfold ixN
     rw[if_pos (by omega),if_pos (by rw[c4];omega),A7]
    refine b1F hD14 hix ?_
    refine hnx _ _ ⟨ss.set u wd,rfl,by rw[g7,a9h],by rw[T4];exact ls,fun s hs=>?_,B14.put nb nc,((k012.trans k13).trans k14).put hD0⟩
    rcases b5r hs with q | q
    ·exact hss s q
    ·rw[q];exact hwd
   ·ext
    exact hnx _ _ ⟨ss,rfl,hD13,ls,hss,B13,k012.trans k13⟩
  ·exists C5 rfl ?_
   exact hnx _ _ ⟨ss,rfl,hD13,ls,hss,B13,k012.trans k13⟩
 rintro σ H13 ⟨ss',hσ,hD13,ls',hss',B13,k13⟩
 exact_mod_cast c0N ?_
 exact_mod_cast c0J hσ ?_
 exact k D ss' H13 hD13 ls' hss' nb B13 k13
theorem a6E{K:Fg}{E:XK}(hB:Bag H b c)(k:∀n H',0<=n->n<1000000000000->Bag H' b c->D9 b H H'->Q (.int n) H'):a2F K [.ref b] H Q E:=by
 refine⟨rfl,?_⟩
 unfold b7l
 ext
 exists G0 hB (by decide) (by decide) fun n2 H2 b0 b1 B2 k2=>?_
 exists z8 (by simp) fun p G hp e s=>?_
 refine G0 (B2.same s) (by decide) (by decide) fun n3 H3 c0 c1 B3 k3=>?_
 have hp3:=k3.1 p _ e (B2.nb hp).1
 have kk:D9 b H H3:=k2.trans ((D9.of_same s).trans k3)
 obtain⟨v,hv,hv2⟩:=a2R (xs:=([.int 0,.int 1,.int 2,.int 999999999999,.int n2]:List V)) c0 (by simpa using c1)
 refine L9 hp3 hv ?_
 have:∃n,v=.int n/\0<=n/\n<1000000000000:=by
  have m:=mI hv2
  simp only[q9,G5,or_false]at m
  rcases m with rfl | rfl | rfl | rfl | rfl
  ·exact⟨0,rfl,by decide,by decide⟩
  ·exact⟨1,rfl,by decide,by decide⟩
  ·exact⟨2,rfl,by decide,by decide⟩
  ·exact⟨_,rfl,by decide,by decide⟩
  ·exact⟨_,rfl,by omega,by omega⟩
 obtain⟨n,rfl,q0,q1⟩:=this
 exact k n H3 q0 q1 B3 kk
theorem c9v(xs:List V):a4m xs (some 1) none=xs.drop 1:=by
 cases xs with
 | nil=>rfl
 | cons a r=>rw[c9w];rfl
theorem c4U(l:List Nat)(n:Nat):(IL l).drop n=IL (l.drop n):=by unfold IL;rw[List.map_drop]
theorem b6J(xs:List V):a0t xs []=decide (xs.length=0):=by
 unfold a0t
 rw[show min xs.length ([]:List V).length=0 by simp]
 simp only[List.range_zero,c9E,b5y,W3]
 by_cases h:xs.length=0
 ·rw[h];rfl
 ·rw[d1C h]
  simpa using h
theorem c7X{G:List Nat}(h:(l.map fun t=>decide (t∈G)).any id=true):∃t∈l,t∈G:=by
 obtain⟨x,hx,e⟩:=b0T.mp h
 obtain⟨t,ht,rfl⟩:=D8.mp hx
 exact⟨t,ht,of_decide_eq_true e⟩
theorem b7I{α:Type}(l:List Nat)(f:Nat->α)(i:Nat){t:Nat}(e:l[i]? = some t):(l.take (i+1)).map f=(l.take i).map f++[f t]:=by
 rw[P8,e];simp
structure a4A(H0 H:Hp)(d:Addr)(N:Nt)(G:List Nat):Prop where
 same:A9 H0 H
 hd:H d=some (.dK (KS G))
 nd:G.Nodup
 lt:∀k∈G,k<N.length
 gd:∀k∈G,Gd N k
theorem a4A.next{G:List Nat}(h:a4A H0 H d N G)(s:A9 H H'):a4A H0 H' d N G:=⟨h.same.trans s,s _ _ h.hd,h.nd,h.lt,h.gd⟩
theorem a4A.put{G:List Nat}(h:a4A H0 H d N G)(n:H0 d=none){k:Nat}(hk:k<N.length)(g:Gd N k):a4A H0 (upd H d (.dK (KS (a4Z G k)))) d N (a4Z G k):=
 ⟨fun b o e=>by rw[o4 (d9 e n)];exact h.same b o e,g7,a8S h.nd,fun j hj=>(a0D.mp hj).elim (h.lt j) fun z=>z ▸ hk,fun j hj=>(a0D.mp hj).elim (h.gd j) fun z=>z ▸ g⟩
theorem c4G{K:Fg}{i:Nat}{x2 x4 x5 x6:Option V}{G:List Nat}(n0:H0 d=none)(hn:J0 H a N)(hN:N.length<=24)(hl:N[i]? = some l)(hl2:l.length<=2)(hG:a4A H0 H d N G)
  (k:∀H' G',a4A H0 H' d N G'->(∀j∈G,j∈G')->(l=[]->i∈G')->J0 H' a N->D.nx [some (.ref a),some (.ref d),x2,some (.int (i:Int)),x4,x5,x6] H') :
  K9 (tOr (D0 (tOp qEq (tOp qIx (c5 0) (c5 3)) (L6 (c9)))) (tB (tCB b6e (b6 (a0c (a0M K (tOp qIx (c5 0) (c5 3))) (a0b) (b2g (c5 0) (c5 2))) (c9))))) (a2l (c5 1) (c5 3) (tC (.bl true))) (E9) D
   [some (.ref a),some (.ref d),x2,some (.int (i:Int)),x4,x5,x6] H:=by
 have hi:i<N.length:=(gI hl)
 have hGl:G.length<100000:=by
  have:=b0j _ _ hG.nd hG.lt
  omega
 have put:∀H1,J0 H1 a N->a4A H0 H1 d N G->a≠d->(∀x,H1 x=some (.dK (KS G))->True)->Gd N i->a2l (c5 1) (c5 3) (tC (.bl true)) D [some (.ref a),some (.ref d),x2,some (.int (i:Int)),x4,x5,x6] H1:=by
  intro H1 n1 g1 nad _ gd
  specialize a3r ?_
  refine⟨d,_,rfl,b3n g1.hd hGl i,?_⟩
  refine k _ (a4Z G i) (g1.put n0 hi gd) (fun j hj=>a0D.mpr (.inl hj)) (fun _=>a0D.mpr (.inr rfl)) ?_
  obtain⟨as,q1,q2,q3⟩:=n1.ex
  refine⟨as,by rw[o4 nad];exact q1,q2,fun j x l' e1 e2=>?_⟩
  have q:=q3 j x l' e1 e2
  rw[o4 (M3 q g1.hd (by intro z;cases z))]
  exact q
 obtain⟨xs,x,h1,h2,h3,_⟩:=hn.at hl
 have nad:a≠d:=M3 h1 hG.hd (by intro z;cases z)
 ext
 exists L9 h1 h2 ?_
 refine z8 (by simp) fun p H1 hp e1 s1=>?_
 refine⟨_,a5C (s1 _ _ h3) e1 (a9e l) rfl,?_⟩
 rw[b6J,U0]
 ext
 by_cases hz:l=[]
 ·refine J2 (d1D (by rw[hz];rfl)) ?_
  refine J2 rfl ?_
  exact put H1 (hn.same s1) (hG.next s1) nad (fun _ _=>trivial) (.stop (hz ▸ hl))
 exists C5 (d1C fun z=>hz (b7c.mp z)) ?_
 specialize a0i (a0C ?_)
 refine L9 (s1 _ _ h1) h2 ?_
 refine⟨x,rfl,⟨_,SqL.of (s1 _ _ h3)⟩,fun E hE=>?_⟩
 have G1:=hG.next s1
 refine a0T (xs:=IL l) (fun j ys H2=>ys=(l.take j).map (fun t=>V.bl (decide (t∈G)))/\H2 E=some (.lst ys)/\A9 H1 H2) ⟨by simp,g7,D6 hE⟩ ?_ ?_ ?_ ?_
 ·rintro j ys H2 ⟨_,h,_⟩
  exact h
 ·rintro j ys H2 _ ⟨_,_,s2⟩
  exact SqL.of (s2 _ _ (s1 _ _ h3))
 ·rintro j y ys H2 hy ⟨rfl,hE2,s2⟩ R hR
  have hy:(l.map fun(n:Nat)=>V.int (n:Int))[j]? = some y:=hy
  rw[d8]at hy
  cases ht:l[j]? with
  | none=>rw[ht]at hy;cases hy
  | some t=>
   rw[ht]at hy
   cases hy
   have hj:=(gI ht)
   specialize c0S ?_
   obtain⟨o,g1,g2⟩:=a5D (s2 _ _ G1.hd) t
   refine⟨d,o,rfl,g1,?_⟩
   rw[g2]
   refine hR _ _ hE2 (J7 ?_) ⟨?_,g7,fun b o e=>?_⟩
   ·rw[c4,J4]
    omega
   ·rw[b7I l _ j ht]
   ·rw[o4 (d9 e hE)];exact s2 b o e
 ·rintro ys H2 ⟨rfl,hE2,s2⟩
  rw[U0,X5]at hE2
  have he:l.map (fun t=>V.bl (decide (t∈G)))=(l.map fun t=>decide (t∈G)).map V.bl:=by rw[S9];rfl
  rw[he]at hE2
  ext
  exists c8S hE2 ?_
  refine Z0 (fun c=>?_) (fun c=>?_)
  ·obtain⟨t,t1,t2⟩:=c7X c
   exact put H2 ((hn.same s1).same s2) (G1.next s2) nad (fun _ _=>trivial) (.step hl t1 (hG.gd t t2))
  ·ext
   exact k H2 G (G1.next s2) (fun j hj=>hj) (fun z=>(hz z).elim) ((hn.same s1).same s2)
structure b3D(H0 H:Hp)(d:Addr)(N:Nt)(S:List Nat):Prop where
 same:A9 H0 H
 hd:H d=some (.dK (KS S))
 nd:S.Nodup
 lt:∀k∈S,k<N.length
 rc:∀k∈S,Rc N k
 zero:0∈S
theorem b3D.put{S:List Nat}(h:b3D H0 H d N S)(n:H0 d=none){k:Nat}(hk:k<N.length)(g:Rc N k):b3D H0 (upd H d (.dK (KS (a4Z S k)))) d N (a4Z S k):=
 ⟨fun b o e=>by rw[o4 (d9 e n)];exact h.same b o e,g7,a8S h.nd,fun j hj=>(a0D.mp hj).elim (h.lt j) fun z=>z ▸ hk,fun j hj=>(a0D.mp hj).elim (h.rc j) fun z=>z ▸ g,a0D.mpr (.inl h.zero)⟩
def a6x(N:Nt)(S:List Nat):Prop:=∀k∈S,∀l,N[k]? = some l->∀t∈l,t∈S
theorem c3w{S:List Nat}{k:Nat}(h:k∈S):a4Z S k=S:=by unfold a4Z;rw[if_pos h]
theorem J0.dput{ks:List (Key×V)}(h:J0 H a N)(hd:H d=some (.dK ks)):J0 (upd H d o) a N:=by
 obtain⟨as,q1,q2,q3⟩:=h.ex
 exact⟨as,by rw[o4 (M3 q1 hd (by intro z;cases z))];exact q1,q2,fun j x l e1 e2=>by
  have q:=q3 j x l e1 e2
  rw[o4 (M3 q hd (by intro z;cases z))];exact q⟩
theorem c1a{K:Fg}{i:Nat}{x1 x2 x5 x6:Option V}{S:List Nat}(n0:H0 d=none)(hn:J0 H a N)(hN:N.length<=24)(hl:N[i]? = some l)(hlt:∀t∈l,t<N.length)(hS:b3D H0 H d N S)
  (k:∀H' S' x5,b3D H0 H' d N S'->(∀j∈S,j∈S')->(i∈S->∀t∈l,t∈S')->(a6x N S->S'=S)->J0 H' a N->D.nx [some (.ref a),x1,x2,some (.int (i:Int)),some (.ref d),x5,x6] H') :
  K9 (tB (b2g (c5 3) (c5 4))) (a2C (a0M K (tOp qIx (c5 0) (c5 3))) (u9 5) (a2l (c5 4) (c5 5) (tC (.bl true)))) (E9) D [some (.ref a),x1,x2,some (.int (i:Int)),some (.ref d),x5,x6] H:=by
 ext
 specialize c0S ?_
 obtain⟨o,g1,g2⟩:=a5D hS.hd i
 refine⟨d,o,rfl,g1,?_⟩
 rw[g2]
 ext
 refine Z0 (fun c=>?_) (fun c=>?_)
 ·have hi:i∈S:=of_decide_eq_true c
  obtain⟨xs,x,h1,h2,h3,_⟩:=hn.at hl
  specialize a1z (a0C ?_)
  refine L9 h1 h2 ?_
  refine⟨x,rfl,⟨_,SqL.of h3⟩,a3M (xs:=IL l) (fun j σ H2=>∃S' x5,σ=[some (.ref a),x1,x2,some (.int (i:Int)),some (.ref d),x5,x6]/\b3D H0 H2 d N S'/\(∀j∈S,j∈S')/\(∀t∈l.take j,t∈S')/\(a6x N S->S'=S)/\J0 H2 a N/\H2 x=some (.lst (IL l))) ?_ ?_ ?_ ?_⟩
  ·exact⟨S,x5,rfl,hS,fun _ h=>h,by simp,fun _=>rfl,hn,h3⟩
  ·rintro j σ H2 _ ⟨_,_,_,_,_,_,_,_,h⟩
   exact SqL.of h
  ·rintro j y _ H2 hy ⟨S',x5,rfl,I2,i1,i2,i3,n2,hx2⟩
   have hy:(l.map fun(n:Nat)=>V.int (n:Int))[j]? = some y:=hy
   rw[d8]at hy
   cases ht:l[j]? with
   | none=>rw[ht]at hy;cases hy
   | some t=>
    rw[ht]at hy
    cases hy
    have tm:=mI ht
    ext
    specialize a3r ?_
    refine⟨d,_,rfl,b3n I2.hd (by have:=b0j _ _ I2.nd I2.lt;omega) t,?_⟩
    refine⟨a4Z S' t,_,rfl,I2.put n0 (hlt t tm) (.step (hS.rc i hi) hl tm),fun j hj=>a0D.mpr (.inl (i1 j hj)),fun z hz=>?_,fun hc=>?_,n2.dput I2.hd,?_⟩
    ·rw[P8,ht]at hz
     rcases C8.mp hz with q | q
     ·exact a0D.mpr (.inl (i2 z q))
     ·exact a0D.mpr (.inr (by simpa using q))
    ·rw[i3 hc]
     exact c3w (hc i hi l hl t tm)
    ·rw[o4 (M3 hx2 I2.hd (by intro z;cases z))];exact hx2
  ·rintro _ H2 ⟨S',x5,rfl,I2,i1,i2,i3,n2,hx2⟩
   refine k H2 S' x5 I2 i1 (fun _ t ht=>i2 t ?_) i3 n2
   rw[U0,X5];exact ht
 ·ext
  exact k H S x5 hS (fun _ h=>h) (fun h=>(c (d1D h)).elim) (fun _=>rfl) hn
theorem b4M{ms:List Int}{S:List Nat}(h:ms.Perm (S.map fun(n:Nat)=>(n:Int))):∃O:List Nat,O.Perm S/\ms=O.map fun(n:Nat)=>(n:Int):=by
 refine⟨ms.map b7W,?_,?_⟩
 ·have:=h.map b7W
  rw[S9]at this
  have e:(b7W ∘ fun(n:Nat)=>(n:Int))=id:=by funext n;simp
  rw[e,b9P]at this
  exact this
 ·rw[S9]
  have:∀x∈ms,((fun(n:Nat)=>(n:Int)) ∘ b7W) x=id x:=by
   intro x hx
   obtain⟨n,_,rfl⟩:=D8.mp (h.subset hx)
   simp
  rw[a7u this,b9P]
theorem b5K{O:List Nat}(h:(O.map fun(n:Nat)=>(n:Int)).Pairwise (· <= ·)):O.Pairwise (· <= ·):=by
 rw[c4Z]at h
 exact h.imp fun q=>by omega
theorem c2h(O:List Nat)(t:Nat):(O.map fun(n:Nat)=>(n:Int)).idxOf (t:Int)=O.idxOf t:=by
 induction O with
 | nil=>rfl
 | cons a r ih=>
  rw[G8,c8g,c8g]
  by_cases e:a=t
  ·subst e;simp
  ·have:((a:Int) == (t:Int))=false:=by simp;omega
   have e2:(a == t)=false:=by simpa using e
   rw[this,e2,ih]
theorem O9{i:Nat}(h:i<N.length):N[i]? = some N[i]:=by simp
theorem b8V{K:Fg}{E:XK}(hn:J0 H a N)(hp:0<N.length)(hN:N.length<=24)(hs:∀l∈N,l.length<=2/\∀t∈l,t<N.length)(hl:N[N.length - 1]? = some [])
  (k:∀a' N' H',J0 H' a' N'->a1n N'->N'.length<=24->A9 H H'->Q (.ref a') H'):a5w K [.ref a] H Q E:=by
 refine⟨rfl,?_⟩
 unfold b4k
 nofun
 exists a4X fun d H1 hd e1 s1=>?_
 have n1:=hn.same s1
 obtain⟨xs0,hx0,lx0⟩:=hn.len
 exact_mod_cast Y8 (P:=fun σ H2=>∃x2 x3 G,σ=[some (.ref a),some (.ref d),x2,x3,none,none,none]/\a4A H H2 d N G/\N.length - 1∈G/\J0 H2 a N) ?_ ?_
 rotate_left
 ·intro nx hnx
  specialize a1z (a0N ?_)
  refine O8 (s1 _ _ hx0) ?_
  refine⟨N.length,by rw[lx0],by omega,by omega,?_⟩
  rw[A7]
  refine a0I (fun i σ H2=>∃x2 x3 G,σ=[some (.ref a),some (.ref d),x2,x3,none,none,none]/\a4A H H2 d N G/\(0<i->N.length - 1∈G)/\J0 H2 a N) ?_ ?_ ?_
  ·exact⟨_,_,[],rfl,⟨s1,e1,by simp,by simp,by simp⟩,by omega,n1⟩
  ·rintro i _ H2 hi ⟨x2,x3,G,rfl,I2,g2,n2⟩
   ext
   obtain⟨xs2,hx2,lx2⟩:=n2.len
   specialize a1z (a0N ?_)
   refine O8 hx2 ?_
   refine⟨N.length,by rw[lx2],by omega,by omega,?_⟩
   rw[A7]
   refine a0I (fun j σ H3=>∃x3 G,σ=[some (.ref a),some (.ref d),some (.int (0+(i:Int))),x3,none,none,none]/\a4A H H3 d N G/\(j=N.length->N.length - 1∈G)/\J0 H3 a N) ?_ ?_ ?_
   ·exact⟨_,G,rfl,I2,by omega,n2⟩
   ·rintro j _ H3 hj ⟨x3,G3,rfl,I3,g3,n3⟩
    exact_mod_cast b2A ?_
    rw[X3 (j:Int)]
    refine c4G hd n3 hN (O9 hj) (hs _ (J5 _)).1 I3 fun H4 G4 I4 sub4 h4 n4=>?_
    refine⟨_,G4,rfl,I4,fun z=>?_,n4⟩
    have e:N.length - 1=j:=by omega
    rw[e]at hl ⊢
    refine h4 ?_
    rw[O9 hj]at hl
    exact Option.some.inj hl
   ·rintro _ H3 ⟨x3,G3,rfl,I3,g3,n3⟩
    exact⟨_,_,G3,rfl,I3,fun _=>g3 rfl,n3⟩
  ·rintro _ H2 ⟨x2,x3,G,rfl,I2,g2,n2⟩
   exact hnx _ _ ⟨x2,x3,G,rfl,I2,g2 hp,n2⟩
 rintro _ H2 ⟨x2,x3,G,rfl,I2,hlast,n2⟩
 nofun
 exact_mod_cast a0i (a0N ?_)
 obtain⟨xs2,hx2,lx2⟩:=n2.len
 ext
 refine O8 hx2 ?_
 refine⟨N.length,by rw[lx2],by omega,by omega,fun A hA=>?_⟩
 rw[A7]
 refine a2Q (fun i ys H3=>∃as:List Addr,ys=as.map V.ref/\as.length=i/\(∀(j:Nat) x l,as[j]? = some x->(a3d N G)[j]? = some l->H3 x=some (.lst (IL l))/\x≠A)/\H3 A=some (.lst ys)/\A9 H2 H3) ?_ ?_ ?_ ?_
 ·exact⟨[],rfl,rfl,by simp,g7,D6 hA⟩
 ·rintro i ys H3 ⟨_,_,_,_,h,_⟩
  exact h
 ·rintro i ys H3 hi ⟨as,rfl,la,at3,hA3,s3⟩ R hR
  rw[X3]
  obtain⟨ys0,x,f1,f2,f3,f4⟩:=(n2.same s3).at (O9 hi)
  have more:∀q H4,A9 H3 H4->(∀l,(a3d N G)[i]? = some l->H4 q=some (.lst (IL l)))->q≠A->R (.ref q) H4:=by
   intro q H4 s4 hq nq
   refine hR _ _ (s4 _ _ hA3) (J7 (by rw[c4];omega)) ⟨as++[q],by simp,by simp[la],?_,g7,fun b o e=>?_⟩
   ·intro j y l' h1 h2
    rcases V6 h1 with ⟨_,g1⟩ | ⟨hj,g1⟩
    ·obtain⟨g2,g3⟩:=at3 j y l' g1 h2
     exact⟨by rw[o4 g3];exact s4 _ _ g2,g3⟩
    ·rw[hj,la]at h2
     subst g1
     exact⟨by rw[o4 nq];exact hq l' h2,nq⟩
   ·rw[o4 (d9 e hA)]
    exact s4 _ _ (s3 _ _ e)
  ext
  specialize c0S ?_
  obtain⟨o,g1,g2⟩:=a5D (s3 _ _ I2.hd) i
  refine⟨d,o,rfl,g1,?_⟩
  rw[g2]
  ext
  refine Z0 (fun c=>?_) (fun c=>?_)
  ·ext
   refine L9 f1 f2 ?_
   refine more x H3 (A9.refl _) (fun l hl'=>?_) ?_
   ·rw[a7a (O9 hi) (of_decide_eq_true c)]at hl'
    cases hl'
    exact f3
   ·refine(d9 (H:=H2) (a:=x) (b:=A) (o:=.lst (IL N[i])) ?_ hA)
    obtain⟨ys1,x',f1',f2',f3',_⟩:=n2.at (O9 hi)
    have e1:=s3 _ _ f1'
    rw[f1]at e1
    cases e1
    rw[f2]at f2'
    cases f2'
    exact f3'
  ·ext
   exists O8 f1 ?_
   exists z8 (by simp) fun p1 H4 hp1 e4 s4=>?_
   exists L9 (s4 _ _ f1) f2 ?_
   refine b1E (s4 _ _ f3) fun p2 H5 hp2 e5 s5=>?_
   rw[c9v,c4U]at e5
   have hl2:=(hs _ (J5 (l:=N) (h:=hi))).1
   refine a4f (s5 _ _ e4) e5 (z8 (by simp[U0];omega) fun p3 H6 hp3 e6 s6=>?_)
   refine more p3 H6 ((s4.trans s5).trans s6) (fun l hl'=>?_) ?_
   ·rw[b1H (O9 hi) (fun z=>c (d1D z))]at hl'
    cases hl'
    rw[e6,f4]
    have:((N.length:Int) - 1)=((N.length - 1:Nat):Int):=by omega
    rw[this]
    rfl
   ·exact(d9 ((s4.trans s5) _ _ hA3) hp3).symm
 rintro ys H3 ⟨as,rfl,la,at3,hA3,s3⟩
 obtain⟨N2,hN2⟩:∃N2,N2=a3d N G:=⟨_,rfl⟩
 have len2:N2.length=N.length:=by rw[hN2,b1I]
 have n3:J0 H3 A N2:=⟨as,hA3,by rw[len2,la],fun i x l h1 h2=>(at3 i x l h1 (hN2 ▸ h2)).1⟩
 have small2:∀l∈N2,l.length<=2/\∀t∈l,t<N2.length:=by
  rw[len2,hN2]
  exact b4P hp hs hl hlast
 have gd2:∀k,k<N2.length->Gd N2 k:=by
  rw[len2,hN2]
  exact c4J I2.gd hl hlast
 have s03:A9 H H3:=I2.same.trans s3
 clear at3 hN2 la
 ext
 nofun
 intro r hr
 refine⟨g7,[(Sum.inl 0,V.bl true)],rfl,by simp,?_⟩
 have e4:(upd (upd H3 r (.dK [])) r (.dK (a7T [] [(Sum.inl 0,V.bl true)])))=upd H3 r (.dK (KS [0])):=by
  rw[a6F];rfl
 rw[e4]
 ext
 obtain⟨H4,hH4⟩:∃H4,H4=upd H3 r (.dK (KS [0])):=⟨_,rfl⟩
 rw[<-hH4]
 have s4:A9 H3 H4:=hH4 ▸ D6 hr
 have er:H4 r=some (.dK (KS [0])):=hH4 ▸ g7
 have n4:=n3.same s4
 clear hH4 e4
 have hp2:0<N2.length:=by omega
 exact_mod_cast Y8 (P:=fun σ H5=>∃x2 x3 x5 S,σ=[some (.ref A),some (.ref d),x2,x3,some (.ref r),x5,none]/\b3D H3 H5 r N2 S/\a6x N2 S/\J0 H5 A N2) ?_ ?_
 rotate_left
 ·intro nx hnx
  obtain⟨ys4,hy4,ly4⟩:=n4.len
  specialize a1z (a0N ?_)
  refine O8 hy4 ?_
  refine⟨N2.length,by rw[ly4],by omega,by omega,?_⟩
  rw[A7]
  refine a0I (fun i σ H5=>∃x2 x3 x5 S,σ=[some (.ref A),some (.ref d),x2,x3,some (.ref r),x5,none]/\b3D H3 H5 r N2 S/\(a6x N2 S\/i+1<=S.length)/\J0 H5 A N2) ?_ ?_ ?_
  ·exact⟨_,_,_,[0],rfl,⟨s4,er,by simp,by simpa using hp2,by simpa using Rc.zero,by simp⟩,.inr (by simp),n4⟩
  ·rintro i _ H5 hi ⟨x2,x3,x5,S,rfl,I5,g5,n5⟩
   ext
   obtain⟨ys5,hy5,ly5⟩:=n5.len
   specialize a1z (a0N ?_)
   refine O8 hy5 ?_
   refine⟨N2.length,by rw[ly5],by omega,by omega,?_⟩
   rw[A7]
   refine a0I (fun j σ H6=>∃x3 x5 S',σ=[some (.ref A),some (.ref d),some (.int (0+(i:Int))),x3,some (.ref r),x5,none]/\b3D H3 H6 r N2 S'/\(∀k∈S,k∈S')/\(∀k∈S,k<j->∀l,N2[k]? = some l->∀t∈l,t∈S')/\(a6x N2 S->S'=S)/\J0 H6 A N2) ?_ ?_ ?_
   ·exact⟨_,_,S,rfl,I5,fun _ h=>h,by omega,fun _=>rfl,n5⟩
   ·rintro j _ H6 hj ⟨x3,x5,S',rfl,I6,b1,b2,b3,n6⟩
    exact_mod_cast b2A ?_
    rw[X3 (j:Int)]
    refine c1a hr n6 (by omega) (O9 hj) (small2 _ (J5 _)).2 I6 fun H7 S7 x5 I7 c1 c2 c3 n7=>?_
    refine⟨_,x5,S7,rfl,I7,fun k hk=>c1 k (b1 k hk),fun k hk hkj l hl' t ht=>?_,fun hc=>?_,n7⟩
    ·by_cases e:k=j
     ·subst e
      rw[O9 hj]at hl'
      cases hl'
      exact c2 (b1 k hk) t ht
     ·exact c1 t (b2 k hk (by omega) l hl' t ht)
    ·have:=b3 hc
     rw[this]at c3
     exact c3 hc
   ·rintro _ H6 ⟨x3,x5,S',rfl,I6,b1,b2,b3,n6⟩
    refine⟨_,x3,x5,S',rfl,I6,?_,n6⟩
    rcases g5 with hc | hc
    ·exact .inl (by rw[b3 hc];exact hc)
    ·by_cases hcl:a6x N2 S
     ·exact .inl (by rw[b3 hcl];exact hcl)
     ·right
      obtain⟨t,t1,t2⟩:∃t,t∈S'/\¬t∈S:=by
       refine Classical.byContradiction fun hno=>hcl fun k hk l hl' t ht=>?_
       refine Classical.byContradiction fun hts=>hno ⟨t,b2 k hk (I5.lt k hk) l hl' t ht,hts⟩
      have:(t::S).length<=S'.length:=by
       have nd:(t::S).Nodup:=K5.mpr ⟨t2,I5.nd⟩
       have sub:∀k∈t::S,k∈S':=fun k hk=>(q9.mp hk).elim (fun z=>z ▸ t1) (b1 k)
       exact c1T _ _ nd sub
      rw[C6]at this
      omega
  ·rintro _ H5 ⟨x2,x3,x5,S,rfl,I5,g5,n5⟩
   refine hnx _ _ ⟨x2,x3,x5,S,rfl,I5,g5.elim id fun h=>?_,n5⟩
   have:=b0j _ _ I5.nd I5.lt
   omega
 rintro _ H5 ⟨y2,y3,y5,S,rfl,I5,hcl,n5⟩
 have hSl:=b0j _ _ I5.nd I5.lt
 nofun
 have ek:(KS S).map (fun kv=>kV kv.1)=(S.map fun(n:Nat)=>(n:Int)).map V.int:=by
  unfold KS;rw[S9,S9];rfl
 have ld:a7J [.ref r] H5=fun Q=>∀l,H5 l=none->Q (.ref l) (upd H5 l (.lst ((KS S).map fun kv=>kV kv.1))):=by
  unfold a7J
  simp only[I5.hd]
 rw[ld]
 intro p6 hp6
 rw[ek]
 obtain⟨H6,hH6⟩:∃H6,H6=upd H5 p6 (.lst ((S.map fun(n:Nat)=>(n:Int)).map V.int)):=⟨_,rfl⟩
 rw[<-hH6]
 have s6:A9 H5 H6:=hH6 ▸ D6 hp6
 have e6:H6 p6=some (.lst ((S.map fun(n:Nat)=>(n:Int)).map V.int)):=hH6 ▸ g7
 clear hH6 ld
 ext
 have so:a5A [.ref p6] H6=fun Q=>∃ns,a2i ((S.map fun(n:Nat)=>(n:Int)).map V.int)=some ns/\ns.length<64/\∀(p:Addr) (ms:List Int),ms.Perm ns->ms.Pairwise (· <= ·)->H6 p=none->Q (.ref p) (upd H6 p (.lst (ms.map V.int))):=by
  unfold a5A
  simp only[e6]
 rw[so]
 refine⟨_,b0q _,by rw[c4];omega,fun p7 ms hperm hsort hp7=>?_⟩
 obtain⟨O,hO,rfl⟩:=b4M hperm
 have hsO:=b5K hsort
 have ndO:O.Nodup:=hO.nodup_iff.mpr I5.nd
 have memO:∀k,k∈O↔k∈S:=fun k=>hO.mem_iff
 obtain⟨H7,hH7⟩:∃H7,H7=upd H6 p7 (.lst ((O.map fun(n:Nat)=>(n:Int)).map V.int)):=⟨_,rfl⟩
 rw[<-hH7]
 have s7:A9 H6 H7:=hH7 ▸ D6 hp7
 have e7:H7 p7=some (.lst ((O.map fun(n:Nat)=>(n:Int)).map V.int)):=hH7 ▸ g7
 clear hH7 so
 have hOl:O.length<=24:=by rw[hO.length_eq];omega
 ext
 have n7:=(n5.same s6).same s7
 have s07:A9 H H7:=((s03.trans I5.same).trans s6).trans s7
 have valid:a1n (a6d N2 O):=b8e ((memO 0).mpr I5.zero) hsO ndO (fun k hk=>I5.lt k ((memO k).mp hk)) (by omega) (fun k hk l hl' t ht=>(memO t).mpr (hcl k ((memO k).mp hk) l hl' t ht)) (fun k hk=>I5.rc k ((memO k).mp hk))
  (fun l hl'=>(small2 l hl').1) gd2
 specialize a0i (a0C ?_)
 refine⟨p7,rfl,⟨_,SqL.of e7⟩,fun B hB=>?_⟩
 refine a0T (xs:=(O.map fun(n:Nat)=>(n:Int)).map V.int) (fun i ys H8=>∃bs:List Addr,ys=bs.map V.ref/\bs.length=i/\(∀(j:Nat) x l,bs[j]? = some x->(a6d N2 O)[j]? = some l->H8 x=some (.lst (IL l))/\x≠B)/\H8 B=some (.lst ys)/\A9 H7 H8) ?_ ?_ ?_ ?_ ?_
 ·exact⟨[],rfl,rfl,by simp,g7,D6 hB⟩
 ·rintro i ys H8 ⟨_,_,_,_,h,_⟩
  exact h
 ·rintro i ys H8 _ ⟨_,_,_,_,_,s8⟩
  exact SqL.of (s8 _ _ e7)
 ·rintro i x ys H8 hx ⟨bs,rfl,lb,at8,hB8,s8⟩ R hR
  rw[d8,d8]at hx
  cases ho:O[i]? with
  | none=>rw[ho]at hx;cases hx
  | some kk=>
   rw[ho]at hx
   cases hx
   have hko:=mI ho
   have hks:=(memO kk).mp hko
   have hkl:=I5.lt kk hks
   obtain⟨ys8,x8,f1,f2,f3,_⟩:=(n7.same s8).at (O9 hkl)
   obtain⟨l8,hl8⟩:∃l8,l8=N2[kk]:=⟨_,rfl⟩
   rw[<-hl8]at f3
   have hN8:N2[kk]? = some l8:=by rw[hl8];exact O9 hkl
   specialize a0i (a0C ?_)
   refine L9 f1 f2 ?_
   refine⟨x8,rfl,⟨_,SqL.of f3⟩,fun C hC=>?_⟩
   refine a0T (xs:=IL l8) (fun j zs H9=>zs=IL ((l8.take j).map fun t=>O.idxOf t)/\H9 C=some (.lst zs)/\A9 H8 H9) ⟨rfl,g7,D6 hC⟩ ?_ ?_ ?_ ?_
   ·rintro j zs H9 ⟨_,h,_⟩
    exact h
   ·rintro j zs H9 _ ⟨_,_,s9⟩
    exact SqL.of (s9 _ _ f3)
   ·rintro j y zs H9 hy ⟨rfl,hC9,s9⟩ R' hR'
    have hy:(l8.map fun(n:Nat)=>V.int (n:Int))[j]? = some y:=hy
    rw[d8]at hy
    cases ht:l8[j]? with
    | none=>rw[ht]at hy;cases hy
    | some t=>
     rw[ht]at hy
     cases hy
     have htO:t∈O:=(memO t).mpr (hcl kk hks l8 hN8 t (mI ht))
     specialize a6j ?_
     have e9:H9 p7=_:=s9 _ _ (s8 _ _ e7)
     exists ⟨X9 e9,?_⟩
     have ix:a7K (.ref p7) [.int (t:Int)] H9=fun Q=>∃ns,a2i ((O.map fun(n:Nat)=>(n:Int)).map V.int)=some ns/\ns.length<10000/\(t:Int)∈ns/\Q (.int (ns.idxOf (t:Int):Nat)) H9:=by
      unfold a7K
      simp only[e9]
     rw[ix]
     refine⟨_,b0q _,by rw[c4];omega,D8.mpr ⟨t,htO,rfl⟩,?_⟩
     rw[c2h]
     have hl2:=(small2 l8 (mI hN8)).1
     refine hR' _ _ hC9 (J7 ?_) ⟨?_,g7,fun b o e=>?_⟩
     ·rw[U0,c4,J4];omega
     ·unfold IL
      rw[b7I l8 (fun t=>O.idxOf t) j ht]
      simp
     ·rw[o4 (d9 e hC)];exact s9 _ _ e
   ·rintro zs H9 ⟨rfl,hC9,s9⟩
    rw[U0,X5]at hC9
    refine hR _ _ (s9 _ _ hB8) (J7 (by rw[c4];have:=(gI ho);omega)) ⟨bs++[C],by simp,by simp[lb],?_,g7,fun b o e=>?_⟩
    ·have nCB:C≠B:=(d9 hB8 hC).symm
     intro j y l' h1 h2
     rcases V6 h1 with ⟨_,g1⟩ | ⟨hj,g1⟩
     ·obtain⟨g2,g3⟩:=at8 j y l' g1 h2
      exact⟨by rw[o4 g3];exact s9 _ _ g2,g3⟩
     ·rw[hj,lb]at h2
      subst g1
      refine⟨?_,nCB⟩
      rw[o4 nCB,hC9]
      have h2':(a6d N2 O)[i]? = some (l8.map fun t=>O.idxOf t):=by
       unfold a6d
       rw[d8,ho]
       simp[T0,hN8]
      rw[h2']at h2
      cases h2
      rfl
    ·rw[o4 (d9 e hB)]
     exact s9 _ _ (s8 _ _ e)
 ·rintro ys H8 ⟨bs,rfl,lb,at8,hB8,s8⟩
  rw[c4,c4]at lb
  have hlen:(a6d N2 O).length=O.length:=by simp[a6d]
  exact k B (a6d N2 O) H8 ⟨bs,hB8,by rw[lb,hlen],fun i x l h1 h2=>(at8 i x l h1 h2).1⟩ valid (by rw[hlen];exact hOl) (s07.trans s8)
structure U9(H:Hp)(a:Addr)(N:Nt):Prop where
 ex:∃rs:List Addr,H a=some (.lst (rs.map V.ref))/\rs.length=N.length/\∀(i:Nat) x l,rs[i]? = some x->N[i]? = some l->b0K H (.ref x) (l.length == 2)
theorem U9.same(h:U9 H a N)(k:A9 H H'):U9 H' a N:=by
 obtain⟨rs,h1,h2,h3⟩:=h.ex
 exact⟨rs,k a _ h1,h2,fun i x l e1 e2=>(h3 i x l e1 e2).ts (A9.ts k)⟩
theorem U9.kept(h:U9 H a N)(hB:Bag H b c)(k:D9 b H H'):U9 H' a N:=by
 obtain⟨rs,h1,h2,h3⟩:=h.ex
 exact⟨rs,k.1 a _ h1 (a0j hB h1),h2,fun i x l e1 e2=>(h3 i x l e1 e2).ts (D9.ts k hB)⟩
theorem a2M{K:Fg}{E:XK}(hB:Bag H b c)(hN:a2j H a)(k:∀v H',OpN v->Bag H' b c->D9 b H H'->Q v H'):a0B K [.ref b,.ref a] H Q E:=by
 refine⟨rfl,?_⟩
 unfold b1v
 nofun
 exists G0 hB (by decide) (by decide) fun n1 H1 a0 a1 B1 k1=>?_
 refine Z0 (fun _=>?_) (fun _=>?_)
 ·ext
  exact a6E B1 fun n H2 q0 q1 B2 k2=>k _ _ (.inr ⟨n,rfl,q0,q1⟩) B2 (k1.trans k2)
 ·ext
  obtain⟨N1,ne⟩:=hN.kept hB k1
  obtain⟨ss,h1,h2,h3,h4⟩:=N1.ex
  exists O8 h1 ?_
  refine b2K B1 h1 ne (by simpa using h2) (by rw[c4];omega) fun n v H2 e1 e2 a2 B2 k2=>?_
  refine L9 a2 e1 ?_
  obtain⟨s,hs,rfl⟩:=D8.mp e2
  exact k _ _ (.inl ⟨s,rfl,h4 s hs⟩) B2 (k1.trans k2)
theorem c4L{K:Fg}{E:XK}(hB:Bag H b c)(hN:a2j H a)(k:∀p H',a5n H' p->H p=none->Bag H' b c->D9 b H H'->Q (.ref p) H'):a8L K [.ref b,.ref a] H Q E:=by
 refine⟨rfl,?_⟩
 unfold c0q
 nofun
 exists z8 (by decide) fun p G hp e s=>?_
 refine G0 (hB.same s) (by decide) (by decide) fun n1 H1 a0 a1 B1 k1=>?_
 have hp1:=k1.1 p _ e (hB.nb hp).1
 have k01:D9 b H H1:=(D9.of_same s).trans k1
 obtain⟨v,hv,hv2⟩:=a2R (xs:=([.str "plus",.str "minus",.str "times",.str "less",.str "same"]:List V)) a0 (by simpa using a1)
 refine L9 hp1 hv ?_
 have:∃kd:Str,v=.str kd/\kd∈b7V:=by
  have m:=mI hv2
  simp only[q9,G5,or_false]at m
  rcases m with rfl | rfl | rfl | rfl | rfl <;> exact⟨_,rfl,by simp⟩
 obtain⟨kd,rfl,hkd⟩:=this
 ext
 obtain⟨N1,_⟩:=hN.kept hB k01
 exists a2M B1 N1 fun v1 H2 o1 B2 k2=>?_
 obtain⟨N2,_⟩:=N1.kept B1 k2
 exists a2M B2 N2 fun v2 H3 o2 B3 k3=>?_
 refine z8 (by simp) fun q G hq e s=>?_
 have k03:=(k01.trans k2).trans k3
 exact k q _ ⟨kd,v1,v2,e,o1,o2,hkd⟩ (k03.none hq) (B3.same s) (k03.trans (D9.of_same s))
theorem c6f{K:Fg}{few:Nat}{E:XK}(hB:Bag H b c)(ha:H a=some (.lst (ss.map V.str)))(hl:ss.length<=8)(hf:few<ss.length)(hss:∀s∈ss,NmS s)(hP:a7r H p)
  (k:∀v H',b0K H' v false->Bag H' b c->D9 b H H'->Q v H'):b2j K [.ref b,.ref a,.int (few:Int),.ref p] H Q E:=by
 have hN:a2j H a:=⟨ss,ha,by intro z;subst z;simp at hf,hl,hss⟩
 have ne0:ss.map V.str≠[]:=by intro z;rw[List.map_eq_nil_iff.mp z]at hf;simp at hf
 have nab:=(hN.kept hB (D9.refl b H)).2
 refine⟨rfl,?_⟩
 unfold c5f
 nofun
 exists O8 ha ?_
 refine b2K hB ha nab ne0 (by rw[c4];omega) fun n v H1 e1 e2 a1 B1 k1=>?_
 refine L9 a1 e1 ?_
 obtain⟨s1,hs1,rfl⟩:=D8.mp e2
 ext
 exact_mod_cast Y8 (P:=fun σ H2=>∃s,NmS s/\σ=[some (.ref b),some (.ref a),some (.int (few:Int)),some (.ref p),some (.str s),none]/\Bag H2 b c/\D9 b H H2) ?_ ?_
 rotate_left
 ·intro nx hnx
  ext
  exists G0 B1 (by decide) (by decide) fun q H2 _ _ B2 k2=>?_
  refine Z0 (fun _=>?_) (fun _=>?_)
  ·ext
   have a2:=k2.1 _ _ a1 nab
   exists O8 a2 ?_
   rw[c4]
   exists G0 B2 (by omega) (by omega) fun u H3 u0 u1 B3 k3=>?_
   obtain⟨v,hv,hv2⟩:=a2R (xs:=ss.map V.str) (i:=(few:Int)+u) (by omega) (by rw[c4];omega)
   refine L9 (k3.1 _ _ a2 nab) hv ?_
   obtain⟨s,hs,rfl⟩:=D8.mp (mI hv2)
   exact hnx _ _ ⟨s,hss s hs,rfl,B3,(k1.trans k2).trans k3⟩
  ·ext
   exact hnx _ _ ⟨s1,hss s1 hs1,rfl,B2,k1.trans k2⟩
 rintro _ H2 ⟨s,ns,rfl,B2,k2⟩
 nofun
 refine G0 B2 (by decide) (by decide) fun w H3 w0 w1 B3 k3=>?_
 have k03:=k2.trans k3
 obtain⟨N3,_⟩:=hN.kept hB k03
 have P3:=hP.kept hB k03
 ext
 nofun
 refine Z0 (fun _=>?_) (fun _=>?_)
 ·obtain⟨ps,p1,p2,p3,p4⟩:=P3.ex
  ext
  exists O8 p1 ?_
  refine b2K B3 p1 (a0j B3 p1) (by simpa using p2) (by rw[c4];omega) fun n v H4 f1 f2 a4 B4 k4=>?_
  refine L9 a4 f1 ?_
  obtain⟨d,hd,rfl⟩:=D8.mp f2
  have hd4:=(p4 d hd).ts (D9.ts k4 B3)
  ext
  refine z8 (by simp) fun q G hq e s5=>?_
  exact k _ _ ⟨q,_,rfl,e,.set _ d ns (hd4.ts (A9.ts s5)),_,_,rfl,by decide⟩ (B4.same s5) ((k03.trans k4).trans (D9.of_same s5))
 ext
 nofun
 refine Z0 (fun _=>?_) (fun _=>?_)
 ·ext
  exists a2M B3 N3 fun v H4 o1 B4 k4=>?_
  refine z8 (by simp) fun q G hq e s5=>?_
  exact k _ _ ⟨q,_,rfl,e,.copy _ v ns o1,_,_,rfl,by decide⟩ (B4.same s5) ((k03.trans k4).trans (D9.of_same s5))
 ext
 nofun
 refine Z0 (fun _=>?_) (fun _=>?_)
 ·ext
  exists z8 (by simp) fun q1 G1 hq1 e1 s1=>?_
  have B4:=B3.same s1
  exists a2M B4 (N3.same s1) fun v H5 o1 B5 k5=>?_
  exists z8 (by simp) fun q2 G2 hq2 e2 s2=>?_
  exists z8 (by simp) fun q3 G3 hq3 e3 s3=>?_
  have sB:=(B5.same s2)
  refine G0 (sB.same s3) (by decide) (by decide) fun j H6 j0 j1 B6 k6=>?_
  obtain⟨x,hx,hx2⟩:=a2R (xs:=[V.ref q1,V.ref q2]) j0 (by simpa using j1)
  refine L9 (k6.1 _ _ e3 (sB.nb hq3).1) hx ?_
  have kk:D9 b H H6:=((k03.trans (D9.of_same s1)).trans k5).trans ((D9.of_same (s2.trans s3)).trans k6)
  have f1:H6 q1=_:=k6.1 _ _ (s3 _ _ (s2 _ _ (k5.1 _ _ e1 (B3.nb hq1).1))) (B3.nb hq1).1
  have f2:H6 q2=_:=k6.1 _ _ (s3 _ _ e2) (B5.nb hq2).1
  have m:=mI hx2
  simp only[q9,G5,or_false]at m
  rcases m with rfl | rfl
  ·exact k _ _ ⟨q1,_,rfl,f1,.take _ ns,_,_,rfl,by decide⟩ B6 kk
  ·exact k _ _ ⟨q2,_,rfl,f2,.tell v o1,_,_,rfl,by decide⟩ B6 kk
 ext
 refine z8 (by simp) fun q G hq e s5=>?_
 exact k _ _ ⟨q,_,rfl,e,.skip,_,_,rfl,by decide⟩ (B3.same s5) (k03.trans (D9.of_same s5))
theorem d0a(ss:List Str)(few:Nat):a4m (ss.map V.str) none (some (few:Int))=(ss.take few).map V.str:=by
 unfold a4m
 have e:HT.sIx (ss.map V.str).length 0 none=0:=rfl
 have e2:HT.sIx (ss.map V.str).length (ss.map V.str).length (some (few:Int))=min few ss.length:=by
  have:=HT.a6V (ss.map V.str).length (ss.map V.str).length few
  rw[c4]at this ⊢
  rw[this]
 rw[e,e2,b3Q,b9G,a8j]
 rw[Nat.min_comm,List.take_eq_take_min (i:=few),c4]
 congr 1
 omega
theorem b8B{K:Fg}{E:XK}(hB:Bag H b c)
  (k:∀p ra na sa da N H',H' p=some (.tup [.ref ra,.ref na,.ref sa,.ref da])->U9 H' ra N->J0 H' na N->a2j H' sa->(∃ss:List Str,H' sa=some (.lst (ss.map V.str))/\2<=ss.length/\ss.length<=5)->a7r H' da->a1n N->N.length<=24->ra≠da->na≠da->Bag H' b c->D9 b H H'->Q (.ref p) H'):a8K K [.ref b] H Q E:=by
 refine⟨rfl,?_⟩
 unfold c0o
 nofun
 exists G0 hB (by decide) (by decide) fun n1 H1 a0 a1 B1 k1=>?_
 exact_mod_cast Y8 (P:=fun σ H2=>∃m:Nat,σ=[some (.ref b),some (.int (m:Int)),none,none,none,none,none,none]/\0<m/\m<=24/\Bag H2 b c/\D9 b H H2) ?_ ?_
 rotate_left
 ·intro nx hnx
  ext
  exists G0 B1 (by decide) (by decide) fun n2 H2 b0 b1 B2 k2=>?_
  refine Z0 (fun _=>?_) (fun _=>?_)
  ·ext
   exists G0 B2 (by decide) (by decide) fun n3 H3 c0 c1 B3 k3=>?_
   obtain⟨n3,rfl⟩:=A8 c0
   exact hnx _ _ ⟨15+n3,rfl,by omega,by omega,B3,(k1.trans k2).trans k3⟩
  ·ext
   obtain⟨n1,rfl⟩:=A8 a0
   exact hnx _ _ ⟨1+n1,rfl,by omega,by omega,B2,k1.trans k2⟩
 rintro _ H2 ⟨m,rfl,m0,m1,B2,k2⟩
 nofun
 exists c7r B2 m0 m1 fun a N0 H3 n3 l3 s3 z3 B3 k3=>?_
 exists b8V n3 (by omega) (by omega) (by rw[l3];exact s3) (by rw[l3];exact z3) fun na N H4 n4 v4 lN s4=>?_
 have B4:=B3.same s4
 have k4:D9 b H H4:=(k2.trans k3).trans (D9.of_same s4)
 nofun
 refine G0 B4 (by decide) (by decide) fun f H5 f0 f1 B5 k5=>?_
 obtain⟨f,rfl⟩:=A8 f0
 ext
 obtain⟨few,hfew,hfew1⟩:∃few:Nat,(1:Int)+(f:Int)=(few:Int)/\1<=few/\few<=3:=⟨1+f,by omega,by omega⟩
 rw[hfew]
 nofun
 refine G0 B5 (by decide) (by decide) fun g H6 g0 g1 B6 k6=>?_
 obtain⟨g,rfl⟩:=A8 g0
 ext
 obtain⟨mn,hmn,hmn1⟩:∃mn:Nat,(few:Int)+1+(g:Int)=(mn:Int)/\few<mn/\mn<=5/\2<=mn:=⟨few+1+g,by omega,by omega⟩
 rw[hmn]
 exists c1U B6 hmn1.2.2 hmn1.2.1 fun sa ss H7 e7 l7 hss nsb B7 k7=>?_
 have n7:=((n4.kept B4 v4.two k5).kept B5 v4.two k6).kept B6 v4.two k7
 have k07:D9 b H H7:=((k4.trans k5).trans k6).trans k7
 exact_mod_cast a0o ?_
 specialize a0i (a0N ?_)
 exists G0 B7 (by decide) (by decide) fun n8 H8 d0 d1 B8 k8=>?_
 obtain⟨n8,rfl⟩:=A8 d0
 refine⟨1+n8,rfl,by omega,by omega,fun D hD=>?_⟩
 obtain⟨nb,nc⟩:=B8.nb hD
 have n8':=n7.kept B7 v4.two k8
 have e8:=k8.1 _ _ e7 nsb
 obtain⟨xsn,hxn,_⟩:=n8'.len
 have nnaD:na≠D:=d9 hxn hD
 refine a2Q (fun i ys H9=>∃ps:List Addr,ys=ps.map V.ref/\ps.length=i/\(∀p∈ps,a5n H9 p)/\H9 D=some (.lst ys)/\Bag H9 b c/\D9 b H8 H9) ?_ ?_ ?_ ?_
 ·exact⟨[],rfl,rfl,by simp,g7,B8.new hD,D9.new hD⟩
 ·rintro i ys H9 ⟨_,_,_,_,h,_⟩
  exact h
 ·rintro i ys H9 hi ⟨ps,rfl,lp,hp,hD9,B9,k9⟩ R hR
  ext
  refine b1E (k9.1 _ _ e8 nsb) fun q H10 hq e10 s10=>?_
  rw[d0a]at e10
  ext
  have N10:a2j H10 q:=⟨ss.take few,e10,by
   intro z
   have:=congrArg b1n z
   rw[J4,W3]at this
   omega,by rw[J4];omega,fun s hs=>hss s (List.mem_of_mem_take hs)⟩
  have B10:=B9.same s10
  refine c4L B10 N10 fun p H11 hd11 _ B11 k11=>?_
  have hD11:=k11.1 _ _ (s10 _ _ hD9) nb
  refine hR _ _ hD11 (J7 (by rw[c4];omega)) ⟨ps++[p],by simp,by simp[lp],fun q hq=>?_,g7,B11.put nb nc,((k9.trans (D9.of_same s10)).trans k11).put hD⟩
  rcases C8.mp hq with z | z
  ·exact(((hp q z).ts (A9.ts s10)).ts (D9.ts k11 B10)).ts (O5.put hD11)
  ·rw[z9.mp z];exact hd11.ts (O5.put hD11)
 rintro ys H9 ⟨ps,rfl,lp,hp,hD9,B9,k9⟩
 have P9:a7r H9 D:=⟨ps,hD9,by intro z;subst z;simp at lp;omega,by omega,hp⟩
 have n9:=n8'.kept B8 v4.two k9
 have e9:=k9.1 _ _ e8 nsb
 have k09:D9 b H H9:=(k07.trans k8).trans k9
 ext
 nofun
 exists z8 (by simp) fun R' H10 hR' e10 s10=>?_
 have n10:=n9.same s10
 have B10:=B9.same s10
 obtain⟨rb,rc⟩:=B9.nb hR'
 have nRD:R'≠D:=(d9 hD9 hR').symm
 exact_mod_cast a0o ?_
 specialize a1z (a0C ?_)
 obtain⟨as,q1,q2,q3⟩:=id n9.ex
 have hR0:H R'=none:=k09.none hR'
 refine⟨na,rfl,⟨_,SqL.of (s10 _ _ q1)⟩,a3M (xs:=as.map V.ref) (fun i σ H11=>∃y7 rs,σ=[some (.ref b),some (.int (m:Int)),some (.ref na),some (.int (few:Int)),some (.ref sa),some (.ref D),some (.ref R'),y7]/\(rs:List Addr).length=i/\(∀(j:Nat) x l,rs[j]? = some x->N[j]? = some l->b0K H11 (.ref x) (l.length == 2))/\H11 R'=some (.lst (rs.map V.ref))/\Bag H11 b c/\D9 b H9 H11) ?_ ?_ ?_ ?_⟩
 ·exact⟨_,[],rfl,rfl,by simp,e10,B10,D9.of_same s10⟩
 ·rintro i σ H11 _ ⟨_,_,_,_,_,_,_,k11⟩
  exact SqL.of (k11.1 _ _ q1 (a0j B9 q1))
 ·rintro i x _ H11 hx ⟨y7,rs,rfl,lr,hr,hR11,B11,k11⟩
  rw[d8]at hx
  cases hxa:as[i]? with
  | none=>rw[hxa]at hx;cases hx
  | some xa=>
   rw[hxa]at hx
   cases hx
   have hi:i<N.length:=by rw[<-q2];exact(gI hxa)
   have hx9:=q3 i xa _ hxa (O9 hi)
   have hx11:=k11.1 _ _ hx9 (a9I B9 hx9 (by rw[U0];have:=v4.two _ (J5 hi);omega))
   have P11:=P9.kept B9 k11
   have e11:=k11.1 _ _ e9 nsb
   ext
   exists O8 hx11 ?_
   rw[U0]
   by_cases h2:N[i].length=2
   ·exists J2 (d1D (by rw[h2];rfl)) ?_
    specialize a6j ?_
    exists ⟨X9 hR11,?_⟩
    exists a2M B11 ⟨ss,e11,by intro z;subst z;simp at l7;omega,by omega,hss⟩ fun v H12 o12 B12 k12=>?_
    exists z8 (by simp) fun q H13 hq e13 s13=>?_
    have hR13:=s13 _ _ (k12.1 _ _ hR11 rb)
    have r13:b0K H13 (.ref q) (N[i].length == 2):=⟨q,_,rfl,e13,.ask v o12,_,_,rfl,by rw[h2];decide⟩
    refine a0p hR13 (J7 (by rw[c4];omega)) ?_
    refine⟨_,rs++[q],rfl,by simp[lr],fun j y l g1 g2=>?_,by rw[g7];simp,(B12.same s13).put rb rc,((k11.trans k12).trans (D9.of_same s13)).put hR'⟩
    rcases V6 g1 with ⟨_,f1⟩ | ⟨hj,f1⟩
    ·exact(((hr j y l f1 g2).ts (D9.ts k12 B11)).ts (A9.ts s13)).ts (O5.put hR13)
    ·rw[hj,lr,O9 hi]at g2
     cases g2
     subst f1
     exact r13.ts (O5.put hR13)
   ·exists C5 (d1C (by intro z;have:=V.int.inj z;omega)) ?_
    specialize a6j ?_
    exists ⟨X9 hR11,?_⟩
    refine c6f B11 e11 (by omega) (by omega) hss P11 fun v H12 r12 B12 k12=>?_
    obtain⟨pv,xv,rfl,_⟩:=id r12
    ext
    have hR12:=k12.1 _ _ hR11 rb
    have hm2:(N[i].length == 2)=false:=by simpa using h2
    refine a0p hR12 (J7 (by rw[c4];omega)) ?_
    refine⟨_,rs++[pv],rfl,by simp[lr],fun j y l g1 g2=>?_,by rw[g7];simp,B12.put rb rc,(k11.trans k12).put hR'⟩
    rcases V6 g1 with ⟨_,f1⟩ | ⟨hj,f1⟩
    ·exact((hr j y l f1 g2).ts (D9.ts k12 B11)).ts (O5.put hR12)
    ·rw[hj,lr,O9 hi]at g2
     cases g2
     subst f1
     rw[hm2]
     exact r12.ts (O5.put hR12)
 ·rintro _ H11 ⟨y7,rs,rfl,lr,hr,hR11,B11,k11⟩
  rw[c4]at lr
  ext
  refine z8 (by simp) fun p H12 hp12 e12 s12=>?_
  have N11:a2j H11 sa:=⟨ss,k11.1 _ _ e9 nsb,by intro z;subst z;simp at l7;omega,by omega,hss⟩
  exact k p R' na sa D N H12 e12 ((⟨rs,hR11,by rw[lr,q2],hr⟩:U9 H11 R' N).same s12) ((n9.kept B9 v4.two k11).same s12) (N11.same s12) ⟨ss,s12 _ _ (k11.1 _ _ e9 nsb),by omega,by omega⟩ ((P9.kept B9 k11).same s12) v4 lN nRD nnaD (B11.same s12) ((k09.trans k11).trans (D9.of_same s12))
theorem b8Z{K:Fg}{E:XK}(hn:J0 H a N)(h400:N.length<=400)(k:∀a' ns H',H a'=none->H' a'=some (.lst ((ns:List Addr).map V.ref))->(∀y∈ns,H y=none/\y≠a'/\∃xs,H' y=some (.lst xs))->J0 H' a' N->A9 H H'->Q (.ref a') H'):a6Q K [.ref a] H Q E:=by
 obtain⟨ns,m1,m2,m3⟩:=id hn.ex
 refine⟨rfl,?_⟩
 unfold b7p
 ext
 specialize a0i (a0C ?_)
 refine⟨a,rfl,⟨_,SqL.of m1⟩,fun np hnp=>?_⟩
 refine a0T (xs:=ns.map V.ref) (fun i ys H8=>∃as:List Addr,ys=as.map V.ref/\as.length=i/\(∀(j:Nat) y l,as[j]? = some y->N[j]? = some l->H8 y=some (.lst (IL l))/\y≠np/\H y=none)/\H8 np=some (.lst ys)/\A9 H H8) ?_ ?_ ?_ ?_ ?_
 ·exact⟨[],rfl,rfl,by simp,g7,D6 hnp⟩
 ·rintro i ys H8 ⟨_,_,_,_,h,_⟩
  exact h
 ·rintro i ys H8 _ ⟨_,_,_,_,_,s8⟩
  exact SqL.of (s8 _ _ m1)
 ·rintro i y ys H8 hy ⟨as,rfl,la,at8,hnp8,s8⟩ R hR
  rw[d8]at hy
  cases hnx:ns[i]? with
  | none=>rw[hnx]at hy;cases hy
  | some nx=>
   rw[hnx]at hy
   cases hy
   have hi:i<N.length:=by rw[<-m2];exact(gI hnx)
   ext
   refine a1V (s8 _ _ (m3 i nx _ hnx (O9 hi))) fun q H9 hq e9 s9=>?_
   have nq:q≠np:=(d9 hnp8 hq).symm
   refine hR _ _ (s9 _ _ hnp8) (J7 (by rw[c4];omega)) ⟨as++[q],by simp,by simp[la],fun j y l g1 g2=>?_,g7,fun b o e=>?_⟩
   ·rcases V6 g1 with ⟨_,f1⟩ | ⟨hj,f1⟩
    ·obtain⟨f2,f3,f4⟩:=at8 j y l f1 g2
     exact⟨by rw[o4 f3];exact s9 _ _ f2,f3,f4⟩
    ·rw[hj,la,O9 hi]at g2
     cases g2
     subst f1
     exact⟨by rw[o4 nq];exact e9,nq,s8.free hq⟩
   ·rw[o4 (d9 e hnp)];exact s9 _ _ (s8 _ _ e)
 ·rintro ys H8 ⟨as,rfl,la,at8,hnp8,s8⟩
  rw[c4,m2]at la
  refine k np as H8 hnp hnp8 (fun y hy=>?_) ⟨as,hnp8,la,fun i y l a b=>(at8 i y l a b).1⟩ s8
  obtain⟨i,hi⟩:=T7.mp hy
  have q:=at8 i y _ hi (O9 (show i<N.length by have:=(gI hi);omega))
  exact⟨q.2.2,q.2.1,_,q.1⟩
theorem big(h:n<=1000000):n<=v6:=J8 h (by rw[a3Q];decide)
theorem a8J{K:Fg}{E:XK}(ha:H a=some (.lst xs))(h1:1<=xs.length)(h2:xs.length<=400)(k:Q .non H):a0V K [.ref a,.int 0,.int 1] H Q E:=by
 refine⟨rfl,?_⟩
 unfold a4R
 nofun
 exists a3b (s := "list") (by simp only[a3n,ha]) (by decide) ?_
 exists C5 (by decide) ?_
 exists O8 ha ?_
 exists C5 (d1C (by omega)) ?_
 exists O8 ha ?_
 exists C5 (d1C (by omega)) ?_
 exact k
theorem a5X{K:Fg}{E:XK}(ha:H a=some (.lst (c8 n (V.bl true))))(k:∀H',A9 H H'->Q .non H'):a0R K [.ref a] H Q E:=by
 refine⟨rfl,?_⟩
 unfold a6I
 specialize a1z (a6U ?_)
 refine⟨a,rfl,⟨_,SqL.of ha⟩,?_⟩
 refine b7K n (fun i σ H2=>∃x1 x2,σ=[some (.ref a),x1,x2]/\A9 H H2) ⟨_,_,rfl,A9.refl _⟩ ?_ ?_ ?_
 ·rintro _ H2 ⟨x1,x2,rfl,s2⟩
  exact⟨⟨_,SqL.of (s2 _ _ ha),by simp⟩,k H2 s2⟩
 ·rintro i _ H2 hi ⟨x1,x2,rfl,s2⟩
  exact⟨_,V.bl true,SqL.of (s2 _ _ ha),by rw[K7,if_pos hi]⟩
 ·rintro i _ H2 hi ⟨x1,x2,rfl,s2⟩ x H3 ⟨p,y,hp,rfl,rfl,hy⟩
  have hy:=hy _ (SqL.of (s2 _ _ ha))
  rw[K7,if_pos hi]at hy
  cases hy
  exists a8P (SqT.of g7) ?_
  exists C5 rfl ?_
  exact⟨_,_,rfl,s2.trans (D6 hp)⟩
theorem a9s(n:Nat):c8 n (V.bl true)++[V.bl true]=c8 (n+1) (V.bl true):=by
 rw[Z5]
theorem c7v(h:n=0\/n=1):inV (.int (n:Int)) [.int 0,.int 1]=true:=by
 rcases h with rfl | rfl <;> decide
theorem b3A{K:Fg}{x:Addr}{E:XK}(hv:b0K H v (l.length == 2))(hx:H x=some (.lst (IL l)))(h2:l.length<=2)(hlt:∀t∈l,t<m)(k:∀H',A9 H H'->Q (.bl true) H') :
  a2r K [v,.ref x,.int (m:Int)] H Q E:=by
 obtain⟨p,xs,rfl,hp,_,kd,r,rfl,hk⟩:=hv
 refine⟨rfl,?_⟩
 unfold a8s
 nofun
 exists a3b (s := "list") (by simp only[a3n,hx]) (by decide) ?_
 exists C5 (by decide) ?_
 exact_mod_cast Y8 (P:=fun σ H1=>∃w ws,σ=[some (.ref p),some (.ref x),some (.int (m:Int)),some (.ref w)]/\H1 w=some (.tup ws)/\ws.all N4=true/\inV (.int (l.length:Int)) ws=true/\A9 H H1) ?_ ?_
 rotate_left
 ·intro nx hnx
  ext
  exists F4 hp (V3 _ _) ?_
  by_cases e:kd = "ask"
  ·exists J2 (d1D (by rw[e])) ?_
   refine z8 (by simp) fun w H1 hw e1 s1=>?_
   rw[d1D e]at hk
   have:l.length=2:=by simpa using hk.symm
   exact hnx _ _ ⟨w,_,rfl,e1,rfl,by rw[this];decide,s1⟩
  ·exists C5 (d1C (fun z=>e (V.str.inj z))) ?_
   refine z8 (by simp) fun w H1 hw e1 s1=>?_
   rw[d1C e]at hk
   have:¬l.length=2:=by
    intro z
    rw[z]at hk
    exact absurd hk (by decide)
   exact hnx _ _ ⟨w,_,rfl,e1,rfl,c7v (by omega),s1⟩
 rintro _ H1 ⟨w,ws,rfl,hw,fw,iw,s1⟩
 ext
 exists O8 (s1 _ _ hx) ?_
 rw[U0]
 refine b4A hw rfl fw ?_
 exists ⟨_,rfl,J2 iw ?_⟩
 specialize a0i (a0C ?_)
 refine⟨x,rfl,⟨_,SqL.of (s1 _ _ hx)⟩,fun D hD=>?_⟩
 refine a0T (xs:=IL l) (fun i ys H2=>ys=c8 i (V.bl true)/\H2 D=some (.lst ys)/\A9 H1 H2) ⟨rfl,g7,D6 hD⟩ ?_ ?_ ?_ ?_
 ·rintro i ys H2 ⟨_,h,_⟩
  exact h
 ·rintro i ys H2 _ ⟨_,_,s2⟩
  exact SqL.of (s2 _ _ (s1 _ _ hx))
 ·rintro i y ys H2 hy ⟨rfl,hD2,s2⟩ R hR
  have hy:(l.map fun(n:Nat)=>V.int (n:Int))[i]? = some y:=hy
  rw[d8]at hy
  cases ht:l[i]? with
  | none=>rw[ht]at hy;cases hy
  | some t=>
   rw[ht]at hy
   cases hy
   have hi:=(gI ht)
   have:=hlt t (mI ht)
   ext
   refine b3f (by omega) (by omega) ?_
   refine hR _ _ hD2 (J7 (by rw[K0];omega)) ⟨a9s i,g7,fun b o e=>?_⟩
   rw[o4 (d9 e hD)];exact s2 _ _ e
 ·rintro ys H2 ⟨rfl,hD2,s2⟩
  ext
  have e:c8 (IL l).length (V.bl true)=(c8 l.length true).map V.bl:=by rw[U0];simp
  rw[e]at hD2
  refine c8T hD2 ?_
  have:(c8 l.length true).all id=true:=by simp
  rw[this]
  exact k H2 (s1.trans s2)
theorem b0y{K:Fg}{E:XK}(hr:U9 H ra N)(hn:J0 H na N)(h400:N.length<=400)(h2:∀l∈N,l.length<=2)(hlt:∀l∈N,∀t∈l,t<N.length)(k:∀H',A9 H H'->Q .non H') :
  a1x K [.ref ra,.ref na] H Q E:=by
 obtain⟨rs,r1,r2,r3⟩:=id hr.ex
 obtain⟨as,a1,a2,a3⟩:=id hn.ex
 refine⟨rfl,?_⟩
 unfold a5U
 nofun
 exists a3b (s := "list") (by simp only[a3n,a1]) (by decide) ?_
 exists C5 (by decide) ?_
 exists O8 a1 ?_
 exists O8 r1 ?_
 exists C5 (by rw[c4,c4,r2,a2];simp) ?_
 specialize b7y (c5W ?_)
 refine⟨ra,na,rfl,⟨_,SqL.of r1⟩,⟨_,SqL.of a1⟩,fun D hD=>?_⟩
 refine c2x N.length (fun i ys H2=>ys=c8 i (V.bl true)/\H2 D=some (.lst ys)/\A9 H H2) ⟨rfl,g7,D6 hD⟩ ?_ ?_ ?_ ?_
 ·rintro i ys H2 ⟨_,h,_⟩
  exact h
 ·rintro ys H2 ⟨rfl,hD2,s2⟩
  exists ⟨⟨_,_,SqL.of (s2 _ _ r1),SqL.of (s2 _ _ a1),.inl (by rw[c4,r2];exact o5 _)⟩,?_⟩
  exact a5X hD2 fun H3 s3=>k H3 (s2.trans s3)
 ·rintro i ys H2 hi ⟨_,_,s2⟩
  have e1:rs[i]? = some (rs[i]'(by omega)):=by simp[r2,hi]
  have e2:as[i]? = some (as[i]'(by omega)):=by simp[a2,hi]
  exact⟨_,_,_,_,SqL.of (s2 _ _ r1),SqL.of (s2 _ _ a1),by rw[d8,e1];rfl,by rw[d8,e2];rfl⟩
 ·rintro i ys H2 hi ⟨rfl,hD2,s2⟩ x H3 ⟨p,y1,y2,hp,rfl,rfl,g1,g2⟩
  obtain⟨rx,e1⟩:∃rx,rs[i]? = some rx:=⟨_,g8 (by omega)⟩
  obtain⟨ax,e2⟩:∃ax,as[i]? = some ax:=⟨_,g8 (by omega)⟩
  have g1:=g1 _ (SqL.of (s2 _ _ r1))
  have g2:=g2 _ (SqL.of (s2 _ _ a1))
  rw[d8,e1]at g1
  rw[d8,e2]at g2
  cases g1
  cases g2
  refine⟨p,_,_,rfl,SqT.of g7,fun R S hR hS=>?_⟩
  have s3:A9 H2 (upd H2 p (.tup [V.ref rx,V.ref ax])):=D6 hp
  obtain⟨H3,hH3⟩:∃H3,H3=upd H2 p (.tup [V.ref rx,V.ref ax]):=⟨_,rfl⟩
  rw[<-hH3]at s3 ⊢
  ext
  exists J2 rfl ?_
  have s03:=s2.trans s3
  exists O8 (s03 _ _ r1) ?_
  have hl:=O9 hi
  rw[c4,r2]
  refine b3A ((r3 i _ _ e1 hl).ts (A9.ts s03)) (s03 _ _ (a3 i _ _ e2 hl)) (h2 _ (J5 hi)) (hlt _ (J5 hi)) fun H4 s4=>?_
  refine hR _ _ (s4 _ _ (s3 _ _ hD2)) (J7 (by rw[K0];omega)) ⟨a9s i,g7,fun b o e=>?_⟩
  rw[o4 (d9 e hD)];exact s4 _ _ (s03 _ _ e)
def a5g(N:Nt)(k:Nat):Bool:=(N.getD k []).isEmpty
def b2i(N:Nt):List Nat:=(L4 N.length).filter (a5g N)
theorem b8W{k:Nat}(h:N[k]? = some []):k∈b2i N:=by
 refine a1F.mpr ⟨a3y.mpr (gI h),?_⟩
 unfold a5g
 simp[T0,h]
theorem b4o{K:Fg}{E:XK}(hn:J0 H na N)(h400:N.length<=400)(k:∀a H',H a=none->H' a=some (.lst (IL (b2i N)))->A9 H H'->Q (.ref a) H'):a2W K [.ref na] H Q E:=by
 obtain⟨as,a1,a2,a3⟩:=id hn.ex
 refine⟨rfl,?_⟩
 unfold a9u
 ext
 specialize b7y (a6U ?_)
 refine⟨na,rfl,⟨_,SqL.of a1⟩,fun D hD=>?_⟩
 refine c2x N.length (fun i ys H2=>ys=IL ((L4 i).filter (a5g N))/\H2 D=some (.lst ys)/\A9 H H2) ⟨rfl,g7,D6 hD⟩ ?_ ?_ ?_ ?_
 ·rintro i ys H2 ⟨_,h,_⟩
  exact h
 ·rintro ys H2 ⟨rfl,hD2,s2⟩
  exact⟨⟨_,SqL.of (s2 _ _ a1),by rw[c4,a2];exact o5 _⟩,k D H2 hD hD2 s2⟩
 ·rintro i ys H2 hi ⟨_,_,s2⟩
  exact⟨_,_,SqL.of (s2 _ _ a1),by rw[d8,g8 (show i<as.length by omega)];rfl⟩
 ·rintro i ys H2 hi ⟨rfl,hD2,s2⟩ x H3 ⟨p,y,hp,rfl,rfl,g1⟩
  obtain⟨ax,e1⟩:∃ax,as[i]? = some ax:=⟨_,g8 (by omega)⟩
  have g1:=g1 _ (SqL.of (s2 _ _ a1))
  rw[d8,e1]at g1
  cases g1
  refine⟨p,_,_,rfl,SqT.of g7,fun R S hR hS=>?_⟩
  have s3:A9 H2 (upd H2 p (.tup [V.int (i:Int),V.ref ax])):=D6 hp
  obtain⟨H3,hH3⟩:∃H3,H3=upd H2 p (.tup [V.int (i:Int),V.ref ax]):=⟨_,rfl⟩
  rw[<-hH3]at s3 ⊢
  have s03:=s2.trans s3
  have hl:=O9 hi
  ext
  exists O8 (s03 _ _ (a3 i _ _ e1 hl)) ?_
  have hst:a5g N i=decide (V.int ((IL N[i]).length:Int)=V.int 0):=by
   rw[c5x,U0]
   unfold a5g
   simp only[T0,hl,a4C]
   cases N[i] with
   | nil=>rfl
   | cons a r=>
    rw[List.isEmpty_cons,eq_comm,decide_eq_false_iff_not,C6]
    omega
  rw[<-hst]
  cases hb:a5g N i with
  | true=>
   exists J2 rfl ?_
   refine hR _ _ (s3 _ _ hD2) (J7 ?_) ⟨?_,g7,fun b o e=>?_⟩
   ·rw[U0]
    have:=a2k (a5g N) (L4 i)
    rw[a9j]at this
    omega
   ·rw[a5P,a3z]
    unfold IL
    rw[D7]
    congr 1
    simp[hb]
   ·rw[o4 (d9 e hD)];exact s03 _ _ e
  | false=>
   refine C5 rfl ?_
   refine hS _ ⟨?_,s3 _ _ hD2,s03⟩
   rw[a5P,a3z]
   simp[hb]
theorem c5v{α:Type}{l:List α}(nd:l.Nodup){i j:Nat}{x:α}(h1:l[i]? = some x)(h2:l[j]? = some x):i=j:=
 (List.getElem?_inj (gI h1) nd).mp (h1.trans h2.symm)
structure a5m(H0 H:Hp)(a:Addr)(as:List Addr)(M:Nt):Prop where
 same:A9 H0 H
 h:H a=some (.lst (as.map V.ref))
 len:as.length=M.length
 nd:as.Nodup
 na:a∉as
 at_:∀(i:Nat) x l,as[i]? = some x->M[i]? = some l->H x=some (.lst (IL l))
 new:H0 a=none/\∀x∈as,H0 x=none
theorem a5m.next(h:a5m H0 H a as M)(s:A9 H H'):a5m H0 H' a as M:=
 ⟨h.same.trans s,s _ _ h.h,h.len,h.nd,h.na,fun i x l e1 e2=>s _ _ (h.at_ i x l e1 e2),h.new⟩
theorem a5m.add(h:a5m H0 H a as M){t p:Nat}{x:Addr}(e1:as[t]? = some x)(e2:M[t]? = some l) :
  a5m H0 (upd H x (.lst (IL (l++[p])))) a as (M.set t (l++[p])):=by
 have hx:=mI e1
 have hxa:x≠a:=fun z=>h.na (z ▸ hx)
 refine⟨fun b o e=>by rw[o4 (d9 e (h.new.2 x hx))];exact h.same b o e,by rw[o4 hxa.symm];exact h.h,by rw[T4];exact h.len,h.nd,h.na,fun i y l' f1 f2=>?_,h.new⟩
 by_cases e:i=t
 ·subst e
  rw[e1]at f1
  cases f1
  rw[P5 (gI e2)]at f2
  cases f2
  exact g7
 ·rw[Q6 (Ne.symm e)]at f2
  have:y≠x:=by
   rintro rfl
   exact e (c5v h.nd f1 e1)
  rw[o4 this]
  exact h.at_ i y l' f1 f2
theorem a5m.net(h:a5m H0 H a as M):J0 H a M:=⟨as,h.h,h.len,h.at_⟩
theorem a5m.nil(n:H0 a=none)(s:A9 H0 H)(e:H a=some (.lst [])):a5m H0 H a [] []:=⟨s,e,rfl,by simp,by simp,by simp,n,by simp⟩
theorem a5m.snoc(h:a5m H0 H a as M)(hp:H p=none)(ep:H' p=some (.lst (IL [])))(s:A9 H H') :
  a5m H0 (upd H' a (.lst ((as++[p]).map V.ref))) a (as++[p]) (M++[[]]):=by
 have npa:p≠a:=(d9 h.h hp).symm
 have npas:p∉as:=fun z=>by
  obtain⟨i,hi⟩:=T7.mp z
  have hl:i<M.length:=by rw[<-h.len];exact(gI hi)
  have:=h.at_ i p _ hi (O9 hl)
  rw[hp]at this
  cases this
 have fr0:H0 p=none:=h.same.free hp
 refine⟨fun b o e=>by rw[o4 (d9 e h.new.1)];exact s _ _ (h.same b o e),g7,by simp[h.len],?_,?_,fun i x l f1 f2=>?_,h.new.1,fun x hx=>?_⟩
 ·rw[a9g]
  exact⟨h.nd,by simp,fun x hx y hy=>by rw[z9.mp hy];intro z;exact npas (z ▸ hx)⟩
 ·intro z
  rcases C8.mp z with q | q
  ·exact h.na q
  ·exact npa (z9.mp q).symm
 ·rcases V6 f1 with ⟨hi,g1⟩ | ⟨hi,g1⟩
  ·rcases V6 f2 with ⟨hj,g2⟩ | ⟨hj,g2⟩
   ·have:x≠a:=fun z=>h.na (z ▸ mI g1)
    rw[o4 this]
    exact s _ _ (h.at_ i x l g1 g2)
   ·have:=h.len;omega
  ·rcases V6 f2 with ⟨hj,g2⟩ | ⟨hj,g2⟩
   ·have:=h.len;omega
   ·subst g1 g2
    rw[o4 npa]
    exact ep
 ·rcases C8.mp hx with q | q
  ·exact h.new.2 x q
  ·rw[z9.mp q];exact fr0
theorem c3j{t u:Nat}{l':List Nat}(h:(M.set t l)[u]? = some l'):(u=t/\l'=l)\/(u≠t/\M[u]? = some l'):=by
 by_cases e:u=t
 ·subst e
  have hl:=(gI h)
  rw[T4]at hl
  rw[P5 hl]at h
  exact .inl ⟨rfl,(Option.some.inj h).symm⟩
 ·rw[Q6 (Ne.symm e)]at h
  exact .inr ⟨e,h⟩
theorem b8f{K:Fg}{E:XK}(hn:J0 H na N)(h400:N.length<=400)(h2:∀l∈N,l.length<=2)(hlt:∀l∈N,∀t∈l,t<N.length)
  (k:∀a M H',J0 H' a M->M.length=N.length->(∀(p:Nat) (l:List Nat),N[p]? = some l->∀t∈l,∃l',M[t]? = some l'/\p∈l')->(∀l∈M,l.length<=2 * N.length/\∀p∈l,p<N.length)->A9 H H'->Q (.ref a) H'):a5t K [.ref na] H Q E:=by
 obtain⟨ns,a1,a2,a3⟩:=id hn.ex
 refine⟨rfl,?_⟩
 unfold b4g
 exact_mod_cast a0o ?_
 specialize a0i (a0C ?_)
 refine⟨na,rfl,⟨_,SqL.of a1⟩,fun A hA=>?_⟩
 refine a0T (xs:=ns.map V.ref) (fun i ys H2=>∃as,ys=as.map V.ref/\a5m H H2 A as (c8 i [])) ?_ ?_ ?_ ?_ ?_
 ·exact⟨[],rfl,.nil hA (D6 hA) g7⟩
 ·rintro i ys H2 ⟨as,rfl,I⟩
  exact I.h
 ·rintro i ys H2 _ ⟨as,rfl,I⟩
  exact SqL.of (I.same _ _ a1)
 ·rintro i x ys H2 hx ⟨as,rfl,I⟩ R hR
  have hi:i<N.length:=by
   have:=(gI hx)
   rw[c4,a2]at this
   exact this
  ext
  refine z8 (by simp) fun p H3 hp e3 s3=>?_
  have:=I.len
  rw[K0]at this
  refine hR _ _ (s3 _ _ I.h) (J7 (by rw[c4];omega)) ⟨as++[p],by simp,?_⟩
  have q:=I.snoc hp e3 s3
  rw[show c8 i ([]:List Nat)++[[]]=c8 (i+1) [] from by rw[Z5]]at q
  rw[show as.map V.ref++[V.ref p]=(as++[p]).map V.ref by simp]
  exact q
 rintro ys H2 ⟨as,rfl,I2⟩
 rw[c4,a2]at I2
 ext
 exact_mod_cast a0o ?_
 specialize a1z (a6U ?_)
 refine⟨na,rfl,⟨_,SqL.of (I2.same _ _ a1)⟩,?_⟩
 refine b7K N.length (fun i σ H3=>∃x2 x3 x4 M,σ=[some (.ref na),some (.ref A),x2,x3,x4]/\a5m H H3 A as M/\M.length=N.length/\(∀(p:Nat) (l:List Nat),p<i->N[p]? = some l->∀t∈l,∃l',M[t]? = some l'/\p∈l')/\(∀l∈M,l.length<=2 * i/\∀p∈l,p<N.length)) ?_ ?_ ?_ ?_
 ·exact⟨_,_,_,_,rfl,I2,by simp,by omega,fun l hl=>by rw[List.eq_of_mem_replicate hl];simp⟩
 ·rintro _ H3 ⟨x2,x3,x4,M,rfl,I3,lM,g1,g2⟩
  exists ⟨⟨_,SqL.of (I3.same _ _ a1),by rw[c4,a2];exact o5 _⟩,?_⟩
  exact k A M H3 I3.net lM (fun p l hl=>g1 p l (gI hl) hl) g2 I3.same
 ·rintro i _ H3 hi ⟨x2,x3,x4,M,rfl,I3,lM,g1,g2⟩
  exact⟨_,_,SqL.of (I3.same _ _ a1),by rw[d8,g8 (show i<ns.length by omega)];rfl⟩
 ·rintro i _ H3 hi ⟨x2,x3,x4,M,rfl,I3,lM,g1,g2⟩ x H4 ⟨p,y,hp,rfl,rfl,gy⟩
  obtain⟨nx,e1⟩:∃nx,ns[i]? = some nx:=⟨_,g8 (by omega)⟩
  have gy:=gy _ (SqL.of (I3.same _ _ a1))
  rw[d8,e1]at gy
  cases gy
  refine a8P (SqT.of g7) ?_
  have s4:A9 H3 (upd H3 p (.tup [V.int (i:Int),V.ref nx])):=D6 hp
  obtain⟨H4,hH4⟩:∃H4,H4=upd H3 p (.tup [V.int (i:Int),V.ref nx]):=⟨_,rfl⟩
  rw[<-hH4]at s4 ⊢
  have I4:=I3.next s4
  have hl:=O9 hi
  obtain⟨l,hle⟩:∃l,l=N[i]:=⟨_,rfl⟩
  rw[<-hle]at hl
  have hx:H nx=some (.lst (IL l)):=a3 i nx l e1 hl
  have hll:=h2 l (mI hl)
  specialize a1z (a0C ?_)
  refine⟨nx,rfl,⟨_,SqL.of (I4.same _ _ hx)⟩,a3M (xs:=IL l) (fun j σ H5=>∃x4 M',σ=[some (.ref na),some (.ref A),some (.int (i:Int)),some (.ref nx),x4]/\a5m H H5 A as M'/\M'.length=N.length/\(∀(p:Nat) (l:List Nat),p<i->N[p]? = some l->∀t∈l,∃l',M'[t]? = some l'/\p∈l')/\(∀t∈l.take j,∃l',M'[t]? = some l'/\i∈l')/\(∀l∈M',l.length<=2 * i+j/\∀p∈l,p<N.length)) ?_ ?_ ?_ ?_⟩
  ·exact⟨_,M,rfl,I4,lM,g1,by simp,g2⟩
  ·rintro j σ H5 _ ⟨_,_,_,I5,_⟩
   exact SqL.of (I5.same _ _ hx)
  ·rintro j y _ H5 hy ⟨x4,M',rfl,I5,lM',c1,c2,c3⟩
   have hy:(l.map fun(n:Nat)=>V.int (n:Int))[j]? = some y:=hy
   rw[d8]at hy
   cases ht:l[j]? with
   | none=>rw[ht]at hy;cases hy
   | some t=>
    rw[ht]at hy
    cases hy
    have tm:=mI ht
    have hj:=(gI ht)
    have htn:t<N.length:=hlt l (mI hl) t tm
    ext
    obtain⟨z,hz⟩:∃z,as[t]? = some z:=⟨_,g8 (by have:=I5.len;omega)⟩
    have hMt:=O9 (show t<M'.length by omega)
    have hMz:=I5.at_ t z _ hz hMt
    specialize a6j ?_
    refine L9 I5.h (a0W (by rw[d8,hz];rfl)) ?_
    exists ⟨X9 hMz,?_⟩
    have hb:=c3 _ (J5 (show t<M'.length by omega))
    refine a0p hMz (J7 (by rw[U0];omega)) ?_
    refine⟨_,M'.set t (M'[t]++[i]),rfl,?_,by rw[T4];exact lM',?_,?_,?_⟩
    ·have:=I5.add (p:=i) hz hMt
     rw[show IL M'[t]++[V.int (i:Int)]=IL (M'[t]++[i]) by simp[IL]]
     exact this
    ·intro p' l' hp' hl' u hu
     obtain⟨l'',q1,q2⟩:=c1 p' l' hp' hl' u hu
     by_cases e:u=t
     ·subst e
      rw[hMt]at q1
      cases q1
      exact⟨_,P5 (by omega),O2 _ q2⟩
     ·exact⟨l'',by rw[Q6 (Ne.symm e)];exact q1,q2⟩
    ·intro u hu
     rw[P8,ht]at hu
     by_cases e:u=t
     ·subst e
      exact⟨_,P5 (by omega),by simp⟩
     ·rcases C8.mp hu with q | q
      ·obtain⟨l'',q1,q2⟩:=c2 u q
       exact⟨l'',by rw[Q6 (Ne.symm e)];exact q1,q2⟩
      ·exact absurd (by simpa using q) e
    ·intro l' hl'
     obtain⟨u,hu⟩:=T7.mp hl'
     rcases c3j hu with ⟨_,rfl⟩ | ⟨_,q⟩
     ·refine⟨by rw[u8,E4];omega,fun p' hp'=>?_⟩
      rcases C8.mp hp' with q | q
      ·exact hb.2 p' q
      ·rw[z9.mp q];exact hi
     ·obtain⟨r1,r2⟩:=c3 l' (mI q)
      exact⟨by omega,r2⟩
  ·rintro _ H5 ⟨x4,M',rfl,I5,lM',c1,c2,c3⟩
   rw[U0,X5]at c2
   refine⟨_,_,x4,M',rfl,I5,lM',fun p' l' hp' hl' t ht=>?_,fun l' hl'=>?_⟩
   ·by_cases e:p'=i
    ·subst e
     rw[hl]at hl'
     cases hl'
     exact c2 t ht
    ·exact c1 p' l' (by omega) hl' t ht
   ·obtain⟨r1,r2⟩:=c3 l' hl'
    rw[U0]at r1
    exact⟨by omega,r2⟩
theorem a9U{K:Fg}{ba la:Addr}{bs:List Nat}{B:Nat}{E:XK}(hb:H ba=some (.lst (IL bs)))(hm:J0 H la M)(h400:M.length<=400)(hB:B<=800)(hl:∀l∈M,l.length<=B/\∀t∈l,t<M.length)(hbs:∀x∈bs,x<M.length)(lb:bs.length<=400)
  (k:∀d S H',H' d=some (.dK (KS S))->S.Nodup->(∀x∈S,x<M.length)->(∀x∈bs,x∈S)->a6x M S->A9 H H'->Q (.ref d) H'):a2G K [.ref ba,.ref la] H Q E:=by
 refine⟨rfl,?_⟩
 unfold b1u
 nofun
 exists a4X fun d H1 hd e1 s1=>?_
 nofun
 exists a1V (s1 _ _ hb) fun w H2 hw e2 s2=>?_
 have s02:=s1.trans s2
 have hw0:H w=none:=s1.free hw
 have ndw:d≠w:=d9 e1 hw
 exact_mod_cast a0o ?_
 exact_mod_cast b7w ?_
 refine⟨fun m σ H3=>∃x4 ws S,σ=[some (.ref ba),some (.ref la),some (.ref d),some (.ref w),x4]/\H3 w=some (.lst (IL ws))/\H3 d=some (.dK (KS S))/\A9 H H3/\S.Nodup/\(∀x∈S,x<M.length)/\(∀x∈ws,x<M.length) /\
  (∀x∈bs,x∈S\/x∈ws)/\(∀k∈S,∀l,M[k]? = some l->∀t∈l,t∈S\/t∈ws)/\ws.length<=400+S.length * B/\m=(M.length - S.length) * (B+1)+ws.length,?_,?_⟩
 ·exact⟨_,_,bs,[],rfl,e2,s2 _ _ e1,s02,by simp,by simp,hbs,fun x hx=>.inr hx,by simp,by omega,rfl⟩
 rintro m _ H3 ⟨x4,ws,S,rfl,hw3,hd3,s3,nd,hS,hws,c1,c2,c3,rfl⟩
 ext
 exists O8 hw3 ?_
 have hSl:=b0j _ _ nd hS
 rcases a9F ws with rfl | ⟨r,p,rfl⟩
 ·exists C5 (d1C (by rw[U0];simp)) ?_
  refine k d S H3 hd3 nd hS (fun x hx=>(c1 x hx).elim id fun z=>by simp at z) (fun a ha l hl' t ht=>(c2 a ha l hl' t ht).elim id fun z=>by simp at z) s3
 refine J2 (d1D (by rw[U0,u8,E4];omega)) ?_
 have hp:p<M.length:=hws p (by simp)
 have eIL:IL (r++[p])=IL r++[V.int (p:Int)]:=by simp[IL]
 rw[eIL]at hw3
 refine⟨fun σ H4=>∃m' x4 ws S',σ=[some (.ref ba),some (.ref la),some (.ref d),some (.ref w),x4]/\H4 w=some (.lst (IL ws))/\H4 d=some (.dK (KS S'))/\A9 H H4/\S'.Nodup/\(∀x∈S',x<M.length)/\(∀x∈ws,x<M.length) /\
  (∀x∈bs,x∈S'\/x∈ws)/\(∀k∈S',∀l,M[k]? = some l->∀t∈l,t∈S'\/t∈ws)/\ws.length<=400+S'.length * B/\m'=(M.length - S'.length) * (B+1)+ws.length/\m'<(M.length - S.length) * (B+1)+(r++[p]).length,?_,?_⟩
 ·rintro σ' H4 ⟨m',x4,ws,S',e,r1,r2,r3,r4,r5,r6,r7,r8,r9,r10,r11⟩
  exact⟨m',r11,x4,ws,S',e,r1,r2,r3,r4,r5,r6,r7,r8,r9,r10⟩
 nofun
 specialize c5l ?_
 exists ⟨X9 hw3,c5r hw3 ?_⟩
 have sW:A9 H (upd H3 w (.lst (IL r))):=fun b o e=>by rw[o4 (d9 e hw0)];exact s3 b o e
 have hdW:(upd H3 w (.lst (IL r))) d=some (.dK (KS S)):=by rw[o4 ndw];exact hd3
 have hwW:(upd H3 w (.lst (IL r))) w=some (.lst (IL r)):=g7
 obtain⟨H4,hH4⟩:∃H4,H4=upd H3 w (.lst (IL r)):=⟨_,rfl⟩
 rw[<-hH4]at sW hdW hwW ⊢
 rw[u8,E4]at c3 ⊢
 specialize a9R ?_
 obtain⟨o,g1,g2⟩:=a5D hdW p
 refine⟨d,o,rfl,g1,?_⟩
 rw[g2]
 ext
 by_cases hps:p∈S
 ·exists C5 (by rw[d1D hps];rfl) ?_
  refine⟨_,_,r,S,rfl,hwW,hdW,sW,nd,hS,fun x hx=>hws x (O2 _ hx),fun x hx=>?_,fun a ha l hl' t ht=>?_,by omega,rfl,by omega⟩
  ·rcases c1 x hx with z | z
   ·exact .inl z
   ·rcases C8.mp z with q | q
    ·exact .inr q
    ·exact .inl (z9.mp q ▸ hps)
  ·rcases c2 a ha l hl' t ht with z | z
   ·exact .inl z
   ·rcases C8.mp z with q | q
    ·exact .inr q
    ·exact .inl (z9.mp q ▸ hps)
 refine J2 (by rw[d1C hps];rfl) ?_
 obtain⟨xs,y,f1,f2,f3,_⟩:=(hm.same sW).at (O9 hp)
 obtain⟨l,hle⟩:∃l,l=M[p]:=⟨_,rfl⟩
 have hlp:M[p]? = some l:=by rw[hle];exact O9 hp
 rw[<-hle]at f3
 obtain⟨b1,b2⟩:=hl l (mI hlp)
 have hput:a4Z S p=S++[p]:=by unfold a4Z;rw[if_neg hps]
 have hS1:S.length<M.length:=by
  have:=b0j _ _ (a8S (k:=p) nd) fun x hx=>(a0D.mp hx).elim (hS x) fun z=>z ▸ hp
  rw[hput,u8,E4]at this
  omega
 exact_mod_cast a0o ?_
 specialize a3r ?_
 refine⟨d,_,rfl,b3n hdW (by omega) p,?_⟩
 rw[hput]
 obtain⟨H5,hH5⟩:∃H5,H5=upd H4 d (.dK (KS (S++[p]))):=⟨_,rfl⟩
 have hd5:H5 d=some (.dK (KS (S++[p]))):=hH5 ▸ g7
 have oth:∀b o,H4 b=some o->b≠d->H5 b=some o:=fun b o e n=>by rw[hH5,o4 n];exact e
 have s5:A9 H H5:=fun b o e=>oth b o (sW b o e) (d9 e hd)
 rw[<-hH5]
 have hw5:=oth w _ hwW (Ne.symm ndw)
 have fx5:=oth _ _ f1 (M3 f1 hdW (by intro z;cases z))
 have fy5:=oth _ _ f3 (M3 f3 hdW (by intro z;cases z))
 ext
 specialize a6j ?_
 exists ⟨X9 hw5,?_⟩
 refine L9 fx5 f2 ?_
 have hSB:S.length * B<=400 * 800:=Nat.mul_le_mul (by omega) hB
 ext
 refine b4B hw5 fy5 (big (by rw[U0,U0];omega)) ?_
 have e6:IL r++IL l=IL (r++l):=by simp[IL]
 rw[e6]
 ext
 have key:(M.length - (S.length+1)) * (B+1)+(B+1)=(M.length - S.length) * (B+1):=by
  rw[<-b9F]
  congr 1
  omega
 refine⟨_,_,r++l,S++[p],rfl,g7,by rw[o4 ndw];exact hd5,fun b o e=>by rw[o4 (d9 e hw0)];exact s5 b o e,hput ▸ a8S nd,fun x hx=>?_,fun x hx=>?_,fun x hx=>?_,fun a ha l' hl' t ht=>?_,?_,rfl,?_⟩
 ·rcases C8.mp hx with q | q
  ·exact hS x q
  ·rw[z9.mp q];exact hp
 ·rcases C8.mp hx with q | q
  ·exact hws x (O2 _ q)
  ·exact b2 x q
 ·rcases c1 x hx with z | z
  ·exact .inl (O2 _ z)
  ·rcases C8.mp z with q | q
   ·exact .inr (O2 _ q)
   ·exact .inl (C7 _ q)
 ·rcases C8.mp ha with q | q
  ·rcases c2 a q l' hl' t ht with z | z
   ·exact .inl (O2 _ z)
   ·rcases C8.mp z with u | u
    ·exact .inr (O2 _ u)
    ·exact .inl (C7 _ u)
  ·rw[z9.mp q,hlp]at hl'
   cases hl'
   exact .inr (C7 _ ht)
 ·rw[u8,u8,E4,b9F]
  omega
 ·rw[u8,u8,E4]
  omega
theorem b1f{K:Fg}{E:XK}(hn:J0 H na N)(hv:a1n N)(k:∀H',A9 H H'->Q .non H'):a1T K [.ref na] H Q E:=by
 refine⟨rfl,?_⟩
 unfold a6H
 nofun
 exists z8 (by simp) fun p1 H1 hp1 e1 s1=>?_
 exists a9U (bs:=[0]) (B:=2) e1 (hn.same s1) hv.le (by decide) (fun l hl=>⟨hv.two l hl,hv.lt l hl⟩) (by simpa using hv.pos) (by simp) fun d1 S1 H2 hd1 nd1 hS1 hb1 cl1 s2=>?_
 have in1:∀x,Rc N x->x∈S1:=by
  intro x h
  induction h with
  | zero=>exact hb1 0 (by simp)
  | @step a t l _ hl ht ih=>exact cl1 a ih l hl t ht
 nofun
 exists b4o ((hn.same s1).same s2) hv.le fun sa H3 _ e3 s3=>?_
 exists b8f (((hn.same s1).same s2).same s3) hv.le hv.two hv.lt fun ta M H4 m4 lM hM1 hM2 s4=>?_
 have lst:(b2i N).length<=N.length:=by
  have:=a2k (a5g N) (L4 N.length)
  rwa [a9j]at this
 have hle:=hv.le
 refine a9U (bs:=b2i N) (B:=2 * N.length) (s4 _ _ e3) m4 (by omega) (by omega) (fun l hl=>⟨(hM2 l hl).1,by rw[lM];exact(hM2 l hl).2⟩) (fun x hx=>by
  rw[lM]
  exact a3y.mp (a1F.mp hx).1) (by omega) fun d2 S2 H5 hd2 nd2 hS2 hb2 cl2 s5=>?_
 have in2:∀x,Gd N x->x∈S2:=by
  intro x h
  induction h with
  | @stop a h=>exact hb2 a (b8W h)
  | @step a t l h ht _ ih=>
   obtain⟨l',q1,q2⟩:=hM1 a l h t ht
   exact cl2 t ih l' q1 a q2
 have s05:=(((s1.trans s2).trans s3).trans s4).trans s5
 have hd1':H5 d1=_:=s5 _ _ (s4 _ _ (s3 _ _ hd1))
 obtain⟨ys,hy,ly⟩:=(hn.same s05).len
 ext
 specialize a1z (a0N ?_)
 refine O8 hy ?_
 refine⟨N.length,by rw[ly],by omega,by omega,?_⟩
 rw[A7]
 refine a0I (fun i σ H6=>∃x3,σ=[some (.ref na),some (.ref d1),some (.ref d2),x3]/\H6=H5) ⟨_,rfl,rfl⟩ ?_ ?_
 ·rintro i _ H6 hi ⟨x3,rfl,rfl⟩
  ext
  rw[X3]
  specialize a9R ?_
  obtain⟨o,g1,g2⟩:=a5D hd1' i
  refine⟨d1,o,rfl,g1,?_⟩
  rw[g2,d1D (in1 i (hv.rc i hi))]
  ext
  exists C5 rfl ?_
  specialize a9R ?_
  obtain⟨o',g1',g2'⟩:=a5D hd2 i
  refine⟨d2,o',rfl,g1',?_⟩
  rw[g2',d1D (in2 i (hv.gd i hi))]
  ext
  exists C5 rfl ?_
  exact⟨_,rfl,rfl⟩
 ·rintro _ H6 ⟨x3,rfl,rfl⟩
  exact k _ s05
abbrev Stp:=Int×Int
variable{s:Stp}
def FST:Stp:=(-1,0)
def a3V(N:Nt)(p:Nat):List Stp:=(L4 (N.getD p []).length).map fun(a:Nat)=>((p:Int),(a:Int))
def a6e(N:Nt)(i:Nat):List Stp:=FST::(L4 i).flatMap (a3V N)
def a2E(N:Nt):List Stp:=a6e N N.length
def L1(N:Nt)(s:Stp):Nat:=if s=FST then 0 else (N.getD s.1.toNat []).getD s.2.toNat 0
theorem a8u(N:Nt)(i:Nat):a6e N (i+1)=a6e N i++a3V N i:=by
 unfold a6e
 rw[a5P,List.flatMap_append]
 simp
def a1E(N:Nt)(s:Stp):Prop:=s=FST\/∃(p q:Nat) (l:List Nat) (t:Nat),s=((p:Int),(q:Int))/\N[p]? = some l/\l[q]? = some t
theorem b9e(h:s∈a2E N):a1E N s:=by
 rcases q9.mp h with z | z
 ·exact .inl z
 ·obtain⟨p,hp,q⟩:=List.mem_flatMap.mp z
  have hp:=a3y.mp hp
  obtain⟨a,ha,rfl⟩:=D8.mp q
  have ha:=a3y.mp ha
  have e:N.getD p []=N[p]:=by simp[T0,hp]
  rw[e]at ha
  exact .inr ⟨p,a,N[p],N[p][a],rfl,O9 hp,by simp⟩
theorem a7b(hv:a1n N)(h:a1E N s):L1 N s<N.length:=by
 unfold L1
 rcases h with rfl | ⟨p,q,l,t,rfl,h1,h2⟩
 ·rw[if_pos rfl];exact hv.pos
 ·split
  ·exact hv.pos
  ·have:(N.getD ((p:Int),(q:Int)).1.toNat []).getD ((p:Int),(q:Int)).2.toNat 0=t:=by
    show(N.getD (p:Int).toNat []).getD (q:Int).toNat 0=t
    rw[A7,A7]
    simp[T0,h1,h2]
   rw[this]
   exact hv.lt l (mI h1) t (mI h2)
def a0U(K:Fg)(H:Hp)(a:Addr)(s:Stp):Prop:=H a=some (.tup [.int s.1,.int s.2])\/(s=FST/\∀H,SqT K H a [.int (-1),.int 0])
theorem a0U.ts{K:Fg}(h:a0U K H a s)(t:O5 H H'):a0U K H' a s:=by
 rcases h with h | h
 ·exact .inl (t _ _ h)
 ·exact .inr h
theorem a0U.sq{K:Fg}(h:a0U K H a s):SqT K H a [.int s.1,.int s.2]:=by
 rcases h with h | ⟨e,h⟩
 ·exact SqT.of h
 ·subst e;exact h H
structure E8(K:Fg)(H:Hp)(l:Addr)(S:List Stp):Prop where
 ex:∃vs:List Addr,H l=some (.lst (vs.map V.ref))/\vs.length=S.length/\∀(i:Nat) x s,vs[i]? = some x->S[i]? = some s->a0U K H x s
theorem E8.same{K:Fg}{l:Addr}{S:List Stp}(h:E8 K H l S)(s:A9 H H'):E8 K H' l S:=by
 obtain⟨vs,h1,h2,h3⟩:=h.ex
 exact⟨vs,s _ _ h1,h2,fun i x t e1 e2=>(h3 i x t e1 e2).ts (A9.ts s)⟩
theorem E8.kept{K:Fg}{l:Addr}{S:List Stp}(h:E8 K H l S)(hB:Bag H b c)(k:D9 b H H'):E8 K H' l S:=by
 obtain⟨vs,h1,h2,h3⟩:=h.ex
 exact⟨vs,k.1 _ _ h1 (a0j hB h1),h2,fun i x t e1 e2=>(h3 i x t e1 e2).ts (D9.ts k hB)⟩
theorem E8.put{K:Fg}{l y:Addr}{S:List Stp}(h:E8 K H l S)(hy:H y=some (.lst xs))(n:l≠y):E8 K (upd H y (.lst ys)) l S:=by
 obtain⟨vs,h1,h2,h3⟩:=h.ex
 exact⟨vs,by rw[o4 n];exact h1,h2,fun i x t e1 e2=>(h3 i x t e1 e2).ts (O5.put hy)⟩
theorem b4p{K:Fg}{c:Cn}{E:XK}(ck:a7s K c)(hn:J0 H na N)(h400:N.length<=400)(h2:∀l∈N,l.length<=2)
  (k:∀a H',H a=none->E8 K H' a (a2E N)->A9 H H'->Q (.ref a) H'):a2X K c [.ref na] H Q E:=by
 obtain⟨ns,a1,a2,a3⟩:=id hn.ex
 refine⟨rfl,?_⟩
 unfold a9v
 nofun
 exists z8 (by simp) fun D H1 hD e1 s1=>?_
 exact_mod_cast a0o ?_
 specialize a1z (a6U ?_)
 refine⟨na,rfl,⟨_,SqL.of (s1 _ _ a1)⟩,?_⟩
 refine b7K N.length (fun i σ H2=>∃x2 x3 vs,σ=[some (.ref na),some (.ref D),x2,x3]/\H2 D=some (.lst ((vs:List Addr).map V.ref))/\vs.length=(a6e N i).length/\vs.length<=1+2 * i/\(∀(j:Nat) x s,vs[j]? = some x->(a6e N i)[j]? = some s->a0U K H2 x s)/\A9 H H2) ?_ ?_ ?_ ?_
 ·refine⟨_,_,[c.a0K],rfl,e1,rfl,by simp,fun j x s f1 f2=>?_,s1⟩
  cases j with
  | zero=>
   cases f1
   cases f2
   exact .inr ⟨rfl,ck.a4u⟩
  | succ j=>simp at f1
 ·rintro _ H2 ⟨x2,x3,vs,rfl,hD2,lv,_,at2,s2⟩
  exists ⟨⟨_,SqL.of (s2 _ _ a1),by rw[c4,a2];exact o5 _⟩,?_⟩
  exact k D H2 hD ⟨vs,hD2,lv,at2⟩ s2
 ·rintro i _ H2 hi ⟨x2,x3,vs,rfl,hD2,lv,_,at2,s2⟩
  exact⟨_,_,SqL.of (s2 _ _ a1),by rw[d8,g8 (show i<ns.length by omega)];rfl⟩
 ·rintro i _ H2 hi ⟨x2,x3,vs,rfl,hD2,lv,lv2,at2,s2⟩ x H3 ⟨p,y,hp,rfl,rfl,gy⟩
  obtain⟨nx,f1⟩:∃nx,ns[i]? = some nx:=⟨_,g8 (by omega)⟩
  have gy:=gy _ (SqL.of (s2 _ _ a1))
  rw[d8,f1]at gy
  cases gy
  refine a8P (SqT.of g7) ?_
  have s3:A9 H2 (upd H2 p (.tup [V.int (i:Int),V.ref nx])):=D6 hp
  obtain⟨H3,hH3⟩:∃H3,H3=upd H2 p (.tup [V.int (i:Int),V.ref nx]):=⟨_,rfl⟩
  rw[<-hH3]at s3 ⊢
  have s03:=s2.trans s3
  have hl:=O9 hi
  obtain⟨l,hle⟩:∃l,l=N[i]:=⟨_,rfl⟩
  rw[<-hle]at hl
  have hll:=h2 l (mI hl)
  have hx:=s03 _ _ (a3 i nx l f1 hl)
  ext
  specialize a6j ?_
  exists ⟨X9 (s3 _ _ hD2),?_⟩
  specialize a0i (a0N ?_)
  refine O8 hx ?_
  rw[U0]
  refine⟨l.length,rfl,by omega,by omega,fun A hA=>?_⟩
  rw[A7]
  refine a2Q (fun j ys H4=>∃ws:List Addr,ys=ws.map V.ref/\ws.length=j/\(∀(q:Nat) x,ws[q]? = some x->H4 x=some (.tup [.int (i:Int),.int (q:Int)]))/\H4 A=some (.lst ys)/\A9 H3 H4) ?_ ?_ ?_ ?_
  ·exact⟨[],rfl,rfl,by simp,g7,D6 hA⟩
  ·rintro j ys H4 ⟨_,_,_,_,h,_⟩
   exact h
  ·rintro j ys H4 hj ⟨ws,rfl,lw,at4,hA4,s4⟩ R hR
   ext
   refine z8 (by simp) fun z H5 hz e5 s5=>?_
   rw[X3]at e5
   have nzA:z≠A:=(d9 hA4 hz).symm
   refine hR _ _ (s5 _ _ hA4) (J7 (by rw[c4];omega)) ⟨ws++[z],by simp,by simp[lw],fun q x hq=>?_,g7,fun b o e=>?_⟩
   ·rcases V6 hq with ⟨_,g⟩ | ⟨hq',g⟩
    ·have:=s5 _ _ (at4 q x g)
     rw[o4 (M3 this (s5 _ _ hA4) (by intro z;cases z))]
     exact this
    ·subst g
     rw[o4 nzA,e5,hq',lw]
   ·rw[o4 (d9 e hA)];exact s5 _ _ (s4 _ _ e)
  ·rintro ys H4 ⟨ws,rfl,lw,at4,hA4,s4⟩
   ext
   have hD4:H4 D=_:=s4 _ _ (s3 _ _ hD2)
   have s04:=s03.trans s4
   refine b4B hD4 hA4 (big (by rw[c4,c4];omega)) ?_
   rw[<-D7]
   have hon:a3V N i=(L4 l.length).map fun(a:Nat)=>((i:Int),(a:Int)):=by
    unfold a3V
    simp[T0,hl]
   have hU:=a8u N i
   have lon:(a3V N i).length=l.length:=by rw[hon];simp
   refine⟨_,_,vs++ws,rfl,g7,by rw[hU,u8,u8,lv,lw,lon],by rw[u8];omega,fun j x s g1 g2=>?_,fun b o e=>?_⟩
   ·rw[hU]at g2
    by_cases hj:j<vs.length
    ·rw[L3 hj]at g1
     rw[L3 (by omega)]at g2
     exact((at2 j x s g1 g2).ts (A9.ts (s3.trans s4))).ts (O5.put hD4)
    ·rw[K8 (by omega)]at g1
     rw[K8 (by omega),<-lv,hon,d8]at g2
     have hq:j - vs.length<l.length:=by
      have:=(gI g1)
      omega
     rw[a2V hq]at g2
     cases g2
     have:=at4 _ _ g1
     exact .inl (by rw[o4 (M3 this hD4 (by intro z;cases z))];exact this)
   ·rw[o4 (d9 e hD)];exact s04 _ _ e
def c5y(c:Cn)(H:Hp)(x:Addr)(N:Nt):Prop:=∃dx fs n,H x=some (.ins c.S8 dx fs)/\fs.lookup ("nexts" : Str)=some (V.ref n)/\J0 H n N
theorem eq2(p q:Int):a0t [.int p,.int q] [.int (-1),.int 0]=decide ((p,q)=FST):=by
 unfold a0t
 simp only[C6,W3,a3w,Nat.reduceAdd,b9H]
 rw[show L4 2=[0,1] from rfl]
 simp only[a8k,c9E,a8l,T0,b7d,List.getElem?_cons_succ,a4C,beq_self_eq_true]
 unfold FST
 by_cases h:p = -1
 ·by_cases h':q=0
  ·subst h h';decide
  ·subst h
   simp[eqV,h']
 ·simp[eqV,h]
theorem a8y{K:Fg}{c:Cn}{x:Addr}{E:XK}(ck:a7s K c)(hp:c5y c H x N)(ha:a0U K H a s)(hs:a1E N s)(k:Q (.int (L1 N s:Nat)) H):Z8 K c [.ref x,.ref a] H Q E:=by
 refine⟨rfl,?_⟩
 unfold a4x
 nofun
 refine⟨_,_,_,_,rfl,rfl,ha.sq,ck.a4u H,rfl,rfl,?_⟩
 rw[eq2]
 ext
 by_cases e:s=FST
 ·exists J2 (d1D e) ?_
  unfold L1 at k
  rw[if_pos e]at k
  exact k
 ·exists C5 (d1C e) ?_
  rcases hs with z | ⟨p,q,l,t,rfl,h1,h2⟩
  ·exact(e z).elim
  rcases ha with ha | ⟨z,_⟩
  rotate_left
  ·exact(e z).elim
  obtain⟨dx,fs,n,hx,hf,hn⟩:=hp
  specialize b4x ?_
  exists ⟨x,_,dx,fs,_,rfl,hx,ck.a1H,ck.a0r,hf,?_⟩
  refine F4 ha (V3 _ _) ?_
  obtain⟨xs,y,f1,f2,f3,_⟩:=hn.at h1
  exists L9 f1 f2 ?_
  refine F4 ha (a0O _ _ _) ?_
  refine L9 f3 (c5z h2) ?_
  have:L1 N ((p:Int),(q:Int))=t:=by
   unfold L1
   rw[if_neg e]
   show(N.getD (p:Int).toNat []).getD (q:Int).toNat 0=t
   rw[A7,A7]
   simp[T0,h1,h2]
  rw[this]at k
  exact k
structure c2F(K:Fg)(H0 H:Hp)(e:Addr)(es:List Addr)(P:List (List Stp)):Prop where
 same:A9 H0 H
 h:H e=some (.lst (es.map V.ref))
 len:es.length=P.length
 nd:es.Nodup
 na:e∉es
 at_:∀(i:Nat) y S,es[i]? = some y->P[i]? = some S->E8 K H y S
 new:H0 e=none/\∀y∈es,H0 y=none
theorem c2F.add{K:Fg}{e:Addr}{es:List Addr}{P:List (List Stp)}(h:c2F K H0 H e es P){t:Nat}{y:Addr}{S:List Stp}{vs:List Addr}(e1:es[t]? = some y)(e2:P[t]? = some S)(hy:H y=some (.lst (vs.map V.ref)))
  (lv:vs.length=S.length) (at2:∀(i:Nat) x s,vs[i]? = some x->S[i]? = some s->a0U K H x s) (ha:a0U K H a s):c2F K H0 (upd H y (.lst ((vs++[a]).map V.ref))) e es (P.set t (S++[s])):=by
 have hm:=mI e1
 have ye:y≠e:=fun z=>h.na (z ▸ hm)
 refine⟨fun b o q=>by rw[o4 (d9 q (h.new.2 y hm))];exact h.same b o q,by rw[o4 ye.symm];exact h.h,by rw[T4];exact h.len,h.nd,h.na,fun i z S' f1 f2=>?_,h.new⟩
 by_cases q:i=t
 ·subst q
  rw[e1]at f1
  cases f1
  rw[P5 (gI e2)]at f2
  cases f2
  refine⟨vs++[a],g7,by simp[lv],fun j x s' g1 g2=>?_⟩
  rcases V6 g1 with ⟨_,k1⟩ | ⟨j1,k1⟩
  ·rcases V6 g2 with ⟨_,k2⟩ | ⟨j2,k2⟩
   ·exact(at2 j x s' k1 k2).ts (O5.put hy)
   ·omega
  ·rcases V6 g2 with ⟨_,k2⟩ | ⟨j2,k2⟩
   ·omega
   ·subst k1 k2
    exact ha.ts (O5.put hy)
 ·rw[Q6 (Ne.symm q)]at f2
  have:z≠y:=by
   rintro rfl
   exact q (c5v h.nd f1 e1)
  exact(h.at_ i z S' f1 f2).put hy this
structure d0c(K:Fg)(c:Cn)(H:Hp)(x:Addr)(N:Nt):Prop where
 ex:∃dx r n e es,H x=some (.ins c.S8 dx [("rows",.ref r),("nexts",.ref n),("entries",.ref e)])/\U9 H r N/\J0 H n N/\H e=some (.lst ((es:List Addr).map V.ref))/\es.length=N.length /\
  ∀(t:Nat) y,es[t]? = some y->E8 K H y ((a2E N).filter fun s=>decide (L1 N s=t))
structure a4z(K:Fg)(c:Cn)(Z:Addr->Prop)(rs:List Addr)(H:Hp)(x:Addr)(N:Nt):Prop where
 ex:∃dx r n e es ns,H x=some (.ins c.S8 dx [("rows",.ref r),("nexts",.ref n),("entries",.ref e)])/\(U9 H r N/\H r=some (.lst (rs.map V.ref)))/\H n=some (.lst ((ns:List Addr).map V.ref))/\ns.length=N.length/\(∀(i:Nat) y l,ns[i]? = some y->N[i]? = some l->H y=some (.lst (IL l))) /\
  H e=some (.lst ((es:List Addr).map V.ref))/\es.length=N.length/\(∀(t:Nat) y,es[t]? = some y->E8 K H y ((a2E N).filter fun s=>decide (L1 N s=t)))/\∀z,Z z->z≠r/\z≠n/\z≠e/\z∉ns/\z∉es
theorem a4z.same{K:Fg}{c:Cn}{x:Addr}(h:a4z K c Z rs H x N)(s:A9 H H'):a4z K c Z rs H' x N:=by
 obtain⟨dx,r,n,e,es,ns,h1,⟨h2,h2r⟩,h3,h4,h5,h6,h7,h8,h9⟩:=h.ex
 exact⟨dx,r,n,e,es,ns,s _ _ h1,⟨h2.same s,s _ _ h2r⟩,s _ _ h3,h4,fun i y l a b=>s _ _ (h5 i y l a b),s _ _ h6,h7,fun t y q=>(h8 t y q).same s,h9⟩
theorem a4z.kept{K:Fg}{c:Cn}{x:Addr}(h:a4z K c Z rs H x N)(hB:Bag H b d)(h2':∀l∈N,l.length<=2)(k:D9 b H H'):a4z K c Z rs H' x N:=by
 obtain⟨dx,r,n,e,es,ns,h1,⟨h2,h2r⟩,h3,h4,h5,h6,h7,h8,h9⟩:=h.ex
 obtain⟨bs,hb⟩:=hB.lst
 refine⟨dx,r,n,e,es,ns,k.1 _ _ h1 (M3 h1 hb (by intro z;cases z)),⟨h2.kept hB k,k.1 _ _ h2r (a0j hB h2r)⟩,k.1 _ _ h3 (a0j hB h3),h4,fun i y l a b=>?_,k.1 _ _ h6 (a0j hB h6),h7,fun t y q=>(h8 t y q).kept hB k,h9⟩
 have q:=h5 i y l a b
 exact k.1 _ _ q (a9I hB q (by rw[U0];have:=h2' l (mI b);omega))
theorem J0.ins{H:Hp}{a x C dx:Addr}{N:Nt}{fs:List (Str×V)}{o:HO}(h:J0 H a N)(hx:H x=some (.ins C dx fs)):J0 (upd H x o) a N:=by
 obtain⟨as,q1,q2,q3⟩:=h.ex
 exact⟨as,by rw[o4 (M3 q1 hx (by intro z;cases z))];exact q1,q2,fun j y l e1 e2=>by
  have q:=q3 j y l e1 e2
  rw[o4 (M3 q hx (by intro z;cases z))];exact q⟩
theorem O5.ins{H:Hp}{x C dx:Addr}{fs:List (Str×V)}{o:HO}(hx:H x=some (.ins C dx fs)):O5 H (upd H x o):=fun a xs e=>by
 rw[o4 (M3 e hx (by intro z;cases z))];exact e
theorem U9.ins{H:Hp}{a x C dx:Addr}{N:Nt}{fs:List (Str×V)}{o:HO}(h:U9 H a N)(hx:H x=some (.ins C dx fs)):U9 (upd H x o) a N:=by
 obtain⟨as,q1,q2,q3⟩:=h.ex
 exact⟨as,by rw[o4 (M3 q1 hx (by intro z;cases z))];exact q1,q2,fun j y l e1 e2=>(q3 j y l e1 e2).ts (O5.ins hx)⟩
theorem b8k(h:∀l∈N,l.length<=2):(a2E N).length<=1+2 * N.length:=by
 have go:∀i,i<=N.length->(a6e N i).length<=1+2 * i:=by
  intro i
  induction i with
  | zero=>intro _;show 1<=1;exact o5 _
  | succ i ih=>
   intro hi
   rw[a8u,u8]
   have:=ih (by omega)
   have h2:(a3V N i).length<=2:=by
    unfold a3V
    rw[c4,a9j]
    have e:N.getD i []=N[i]:=by simp[T0,show i<N.length by omega]
    rw[e]
    exact h _ (J5 _)
   omega
 exact go _ (o5 _)
theorem b6L{S:List Stp}{f:Stp->Nat}{i t:Nat}(h:S[i]? = some s):(S.take (i+1)).filter (fun s=>decide (f s=t))=(S.take i).filter (fun s=>decide (f s=t))++(if f s=t then [s] else []):=by
 rw[P8,h,a3z]
 congr 1
 by_cases e:f s=t
 ·rw[if_pos e];simp[e]
 ·rw[if_neg e];simp[e]
theorem b2I{K:Fg}{c:Cn}{x:Addr}{E:XK}(ck:a7s K c)(hrs:H ra=some (.lst (rs.map V.ref)))(hr:U9 H ra N)(hn:J0 H na N)(hv:a1n N)(hx:H x=some (.ins c.S8 dx []))
  (k:∀H',a4z K c (fun z=>∃o,H z=some o/\z≠x) rs H' x N->(∀b o,H b=some o->b≠x->H' b=some o)->Q .non H'):Y1 K c [.ref x,.ref ra,.ref na] H Q E:=by
 obtain⟨rs',r1,r2,r3⟩:=id hr.ex
 obtain rfl:rs'=rs:=by
  rw[hrs]at r1
  exact(a0u (f:=V.ref) (fun a b h=>V.ref.inj h) |>.mp (HO.lst.inj (Option.some.inj r1))).symm
 obtain⟨ns,n1,n2,n3⟩:=id hn.ex
 have hpos:=hv.pos
 have h400:=hv.le
 refine⟨rfl,?_⟩
 unfold a8t
 nofun
 exists a8J r1 (by rw[c4];omega) (by rw[c4];omega) ?_
 nofun
 specialize a0i (a0C ?_)
 refine⟨ra,rfl,⟨_,SqL.of r1⟩,fun D hD=>?_⟩
 refine a0T (xs:=rs'.map V.ref) (fun i ys H2=>ys=c8 i (V.bl true)/\H2 D=some (.lst ys)/\A9 H H2) ⟨rfl,g7,D6 hD⟩ ?_ ?_ ?_ ?_
 ·rintro i ys H2 ⟨_,h,_⟩
  exact h
 ·rintro i ys H2 _ ⟨_,_,s2⟩
  exact SqL.of (s2 _ _ r1)
 ·rintro i y ys H2 hy ⟨rfl,hD2,s2⟩ R hR
  rw[d8]at hy
  cases hrx:rs'[i]? with
  | none=>rw[hrx]at hy;cases hy
  | some rx=>
   rw[hrx]at hy
   cases hy
   have hi:i<N.length:=by rw[<-r2];exact(gI hrx)
   ext
   refine b9d ck ((r3 i rx _ hrx (O9 hi)).ts (A9.ts s2)) fun H3 s3=>?_
   refine hR _ _ (s3 _ _ hD2) (J7 (by rw[K0];omega)) ⟨a9s i,g7,fun b o e=>?_⟩
   rw[o4 (d9 e hD)];exact s3 _ _ (s2 _ _ e)
 rintro ys H2 ⟨rfl,hD2,s2⟩
 ext
 refine a5X hD2 fun H3 s3=>?_
 have s03:=s2.trans s3
 ext
 nofun
 refine b0y (hr.same s03) (hn.same s03) h400 hv.two hv.lt fun H4 s4=>?_
 have s04:=s03.trans s4
 ext
 nofun
 refine b1f (hn.same s04) hv fun H5 s5=>?_
 have s05:=s04.trans s5
 ext
 exact_mod_cast a0o ?_
 specialize b5V ?_
 refine a1V (s05 _ _ r1) fun rp H6 hrp e6 s6=>?_
 have s06:=s05.trans s6
 ext
 refine⟨x,_,dx,[],rfl,s06 _ _ hx,ck.a1H,ck.a2t,by simp,?_⟩
 obtain⟨H7,hH7⟩:∃H7,H7=upd H6 x (.ins c.S8 dx (a2U "rows" (.ref rp) [])):=⟨_,rfl⟩
 have x7:H7 x=some (.ins c.S8 dx [("rows",.ref rp)]):=hH7 ▸ g7
 have f7:∀b o,H6 b=some o->b≠x->H7 b=some o:=fun b o e n=>by rw[hH7,o4 n];exact e
 have rows7:U9 H7 rp N:=by
  have q:U9 H6 rp N:=⟨rs',e6,r2,fun i y l a b=>(r3 i y l a b).ts (A9.ts s06)⟩
  rw[hH7]
  exact q.ins (s06 _ _ hx)
 have net7:J0 H7 na N:=by rw[hH7];exact(hn.same s06).ins (s06 _ _ hx)
 have ra7:H7 ra=some (.lst (rs'.map V.ref)):=f7 _ _ (s06 _ _ r1) (M3 r1 hx (by intro z;cases z))
 rw[<-hH7]
 clear hH7
 exact_mod_cast a0o ?_
 exact_mod_cast b5V ?_
 exact_mod_cast a0i (a0C ?_)
 obtain⟨ns',m1,m2,m3⟩:=id net7.ex
 ext
 refine⟨na,rfl,⟨_,SqL.of m1⟩,fun np hnp=>?_⟩
 refine a0T (xs:=ns'.map V.ref) (fun i ys H8=>∃as:List Addr,ys=as.map V.ref/\as.length=i/\(∀(j:Nat) y l,as[j]? = some y->N[j]? = some l->H8 y=some (.lst (IL l))/\y≠np)/\H8 np=some (.lst ys)/\A9 H7 H8/\∀y∈as,H7 y=none) ?_ ?_ ?_ ?_ ?_
 ·exact⟨[],rfl,rfl,by simp,g7,D6 hnp,by simp⟩
 ·rintro i ys H8 ⟨_,_,_,_,h,_⟩
  exact h
 ·rintro i ys H8 _ ⟨_,_,_,_,_,s8,_⟩
  exact SqL.of (s8 _ _ m1)
 ·rintro i y ys H8 hy ⟨as,rfl,la,at8,hnp8,s8,fr8⟩ R hR
  rw[d8]at hy
  cases hnx:ns'[i]? with
  | none=>rw[hnx]at hy;cases hy
  | some nx=>
   rw[hnx]at hy
   cases hy
   have hi:i<N.length:=by rw[<-m2];exact(gI hnx)
   ext
   refine a1V (s8 _ _ (m3 i nx _ hnx (O9 hi))) fun q H9 hq e9 s9=>?_
   have nq:q≠np:=(d9 hnp8 hq).symm
   refine hR _ _ (s9 _ _ hnp8) (J7 (by rw[c4];omega)) ⟨as++[q],by simp,by simp[la],fun j y l g1 g2=>?_,g7,fun b o e=>?_,fun y hy=>?_⟩
   ·rcases V6 g1 with ⟨_,f1⟩ | ⟨hj,f1⟩
    ·obtain⟨f2,f3⟩:=at8 j y l f1 g2
     exact⟨by rw[o4 f3];exact s9 _ _ f2,f3⟩
    ·rw[hj,la,O9 hi]at g2
     cases g2
     subst f1
     exact⟨by rw[o4 nq];exact e9,nq⟩
   ·rw[o4 (d9 e hnp)];exact s9 _ _ (s8 _ _ e)
   ·rcases C8.mp hy with z | z
    ·exact fr8 y z
    ·rw[z9.mp z];exact s8.free hq
 rintro ys H8 ⟨as,rfl,la,at8,hnp8,s8,fr8⟩
 rw[c4,m2]at la
 have net8:J0 H8 np N:=⟨as,hnp8,la,fun i y l a b=>(at8 i y l a b).1⟩
 ext
 refine⟨x,_,dx,_,rfl,s8 _ _ x7,ck.a1H,ck.a0r,by simp,?_⟩
 obtain⟨H9,hH9⟩:∃H9,H9=upd H8 x (.ins c.S8 dx (a2U "nexts" (.ref np) [("rows",.ref rp)])):=⟨_,rfl⟩
 have x9:H9 x=some (.ins c.S8 dx [("rows",.ref rp),("nexts",.ref np)]):=by
  rw[hH9,g7]
  simp only[a2U]
  rw[if_neg (by decide)]
 have f9:∀b o,H8 b=some o->b≠x->H9 b=some o:=fun b o e n=>by rw[hH9,o4 n];exact e
 have rows9:U9 H9 rp N:=by rw[hH9];exact(rows7.same s8).ins (s8 _ _ x7)
 have net9:J0 H9 np N:=by rw[hH9];exact net8.ins (s8 _ _ x7)
 have ra9:H9 ra=some (.lst (rs'.map V.ref)):=f9 _ _ (s8 _ _ ra7) (M3 ra7 x7 (by intro z;cases z))
 rw[<-hH9]
 clear hH9
 exact_mod_cast a0o ?_
 exact_mod_cast b5V ?_
 specialize a0i (a0C ?_)
 refine⟨ra,rfl,⟨_,SqL.of ra9⟩,fun ep hep=>?_⟩
 refine a0T (xs:=rs'.map V.ref) (fun i ys H10=>∃es,ys=es.map V.ref/\a5m H9 H10 ep es (c8 i [])) ?_ ?_ ?_ ?_ ?_
 ·exact⟨[],rfl,.nil hep (D6 hep) g7⟩
 ·rintro i ys H10 ⟨es,rfl,I⟩
  exact I.h
 ·rintro i ys H10 _ ⟨es,rfl,I⟩
  exact SqL.of (I.same _ _ ra9)
 ·rintro i y ys H10 hy ⟨es,rfl,I⟩ R hR
  have hi:i<N.length:=by
   have:=(gI hy)
   rw[c4,r2]at this
   exact this
  ext
  refine z8 (by simp) fun p H11 hp e11 s11=>?_
  have:=I.len
  rw[K0]at this
  refine hR _ _ (s11 _ _ I.h) (J7 (by rw[c4];omega)) ⟨es++[p],by simp,?_⟩
  have q:=I.snoc hp e11 s11
  rw[show c8 i ([]:List Nat)++[[]]=c8 (i+1) [] from by rw[Z5]]at q
  rw[show es.map V.ref++[V.ref p]=(es++[p]).map V.ref by simp]
  exact q
 rintro ys H10 ⟨es,rfl,I10⟩
 rw[c4,r2]at I10
 ext
 have x10:=I10.same _ _ x9
 refine⟨x,_,dx,_,rfl,x10,ck.a1H,ck.a0Z,by simp,?_⟩
 obtain⟨F,hF⟩:∃F:List (Str×V),F=([("rows",.ref rp),("nexts",.ref np),("entries",.ref ep)]:List (Str×V)):=⟨_,rfl⟩
 have hput:a2U "entries" (.ref ep) [("rows",.ref rp),("nexts",.ref np)]=F:=by
  rw[hF]
  simp only[a2U]
  rw[if_neg (by decide),if_neg (by decide)]
 rw[hput]
 obtain⟨H11,hH11⟩:∃H11,H11=upd H10 x (.ins c.S8 dx F):=⟨_,rfl⟩
 obtain⟨H0,hH0⟩:∃H0,H0=upd H9 x (.ins c.S8 dx F):=⟨_,rfl⟩
 have x0:H0 x=some (.ins c.S8 dx F):=hH0 ▸ g7
 have f0:∀b o,H9 b=some o->b≠x->H0 b=some o:=fun b o e n=>by rw[hH0,o4 n];exact e
 have rows0:U9 H0 rp N:=by rw[hH0];exact rows9.ins x9
 have net0:J0 H0 np N:=by rw[hH0];exact net9.ins x9
 have np0:H0 np=some (.lst (as.map V.ref)):=by
  have:=f9 _ _ hnp8 (M3 hnp8 (s8 _ _ x7) (by intro z;cases z))
  exact f0 _ _ this (M3 this x9 (by intro z;cases z))
 have rp0:H0 rp=some (.lst (rs'.map V.ref)):=by
  have q:=s8 _ _ (f7 _ _ e6 (M3 e6 (s06 _ _ hx) (by intro z;cases z)))
  have q:=f9 _ _ q (M3 q (s8 _ _ x7) (by intro z;cases z))
  exact f0 _ _ q (M3 q x9 (by intro z;cases z))
 have at0:∀(i:Nat) y l,as[i]? = some y->N[i]? = some l->H0 y=some (.lst (IL l)):=fun i y l a b=>by
  have q:=(at8 i y l a b).1
  have q:=f9 _ _ q (M3 q (s8 _ _ x7) (by intro z;cases z))
  exact f0 _ _ q (M3 q x9 (by intro z;cases z))
 have old9:∀b o,H b=some o->b≠x->H9 b=some o:=fun b o e n=>f9 _ _ (s8 _ _ (f7 _ _ (s06 _ _ e) n)) n
 have ent11:c2F K H0 H11 ep es (c8 N.length []):=by
  have nxe:x≠ep:=d9 x9 hep
  have nxes:∀y∈es,x≠y:=fun y hy=>d9 x9 (I10.new.2 y hy)
  refine⟨fun b o e=>?_,by rw[hH11,o4 nxe.symm];exact I10.h,by rw[K0];have:=I10.len;rwa [K0]at this,I10.nd,I10.na,fun i y S a b=>?_,by rw[hH0,o4 nxe.symm];exact hep,fun y hy=>by rw[hH0,o4 (nxes y hy).symm];exact I10.new.2 y hy⟩
  ·rw[hH0]at e
   rw[hH11]
   by_cases q:b=x
   ·subst q
    rw[g7]at e ⊢
    exact e
   ·rw[o4 q]at e ⊢
    exact I10.same _ _ e
  ·have hi:=(gI b)
   rw[K0]at hi
   have q:=I10.at_ i y [] a (by rw[K7,if_pos hi])
   rw[K7,if_pos hi]at b
   cases b
   refine⟨[],?_,rfl,by simp⟩
   rw[hH11,o4 (M3 q x10 (by intro z;cases z))]
   exact q
 have old:∀b o,H b=some o->b≠x->H0 b=some o:=fun b o e n=>f0 _ _ (f9 _ _ (s8 _ _ (f7 _ _ (s06 _ _ e) n)) n) n
 rw[<-hH11]
 clear hH11 hH0 I10 x10 f0 f9 x9 ra9 net9 rows9
 specialize a1z (a0C ?_)
 specialize b4x ?_
 exists ⟨x,_,dx,F,.ref np,rfl,ent11.same _ _ x0,ck.a1H,ck.a0r,by rw[hF];rfl,?_⟩
 refine b4p ck (net0.same ent11.same) h400 hv.two fun sl H12 hsl S12 s12=>?_
 obtain⟨vs,v1,v2,v3⟩:=id S12.ex
 have nsl:sl∉es:=fun z=>by
  obtain⟨i,hi⟩:=T7.mp z
  have hil:i<N.length:=by
   have:=ent11.len
   rw[K0]at this
   rw[<-this];exact(gI hi)
  obtain⟨ws,w1,_⟩:=(ent11.at_ i sl [] hi (by rw[K7,if_pos hil])).ex
  rw[hsl]at w1
  cases w1
 refine⟨sl,rfl,⟨_,SqL.of v1⟩,a3M (xs:=vs.map V.ref) (fun i σ H13=>∃x3 P,σ=[some (.ref x),some (.ref ra),some (.ref na),x3]/\c2F K H0 H13 ep es P/\P.length=N.length/\(∀t,t<N.length->P[t]? = some (((a2E N).take i).filter fun s=>decide (L1 N s=t)))/\E8 K H13 sl (a2E N)/\H13 sl=some (.lst (vs.map V.ref))) ?_ ?_ ?_ ?_⟩
 ·refine⟨_,c8 N.length [],rfl,⟨ent11.same.trans s12,s12 _ _ ent11.h,ent11.len,ent11.nd,ent11.na,fun i y S a b=>(ent11.at_ i y S a b).same s12,ent11.new⟩,by simp,fun t ht=>by rw[K7,if_pos ht];simp,S12,v1⟩
 ·rintro i σ H13 _ ⟨_,_,_,_,_,_,_,h⟩
  exact SqL.of h
 ·rintro i y _ H13 hy ⟨x3,P,rfl,I13,lP,hP,S13,hsl13⟩
  rw[d8]at hy
  cases hvx:vs[i]? with
  | none=>rw[hvx]at hy;cases hy
  | some vx=>
   rw[hvx]at hy
   cases hy
   obtain⟨ws,w1,w2,w3⟩:=S13.ex
   have ews:ws=vs:=by
    rw[hsl13]at w1
    have:=a0u (f:=V.ref) (fun a b h=>V.ref.inj h) |>.mp (HO.lst.inj (Option.some.inj w1))
    exact this.symm
   subst ews
   have hi:i<(a2E N).length:=by rw[<-w2];exact(gI hvx)
   obtain⟨s,hs⟩:∃s,(a2E N)[i]? = some s:=⟨_,g8 hi⟩
   have hst:=w3 i vx s hvx hs
   have hm:=mI hs
   have his:=b9e hm
   have hlt:=a7b hv his
   have x13:=I13.same _ _ x0
   ext
   specialize a6j ?_
   specialize b4x ?_
   refine⟨x,_,dx,F,.ref ep,rfl,x13,ck.a1H,ck.a0Z,by rw[hF];rfl,?_⟩
   specialize c0R ?_
   exists ⟨x,dx,F,rfl,x13,by rw[hF];rfl,?_⟩
   refine a8y ck ⟨dx,F,np,x13,by rw[hF];rfl,net0.same I13.same⟩ hst his ?_
   obtain⟨z,hz⟩:∃z,es[L1 N s]? = some z:=⟨_,g8 (by have:=I13.len;omega)⟩
   refine L9 I13.h (a0W (by rw[d8,hz];rfl)) ?_
   have hPt:=hP _ hlt
   obtain⟨us,u1,u2,u3⟩:=(I13.at_ _ z _ hz hPt).ex
   exists ⟨X9 u1,?_⟩
   have hul:us.length<=i:=by
    rw[u2]
    refine J8 (a2k _ _) ?_
    rw[J4];omega
   have hlen1:(a2E N).length<=1000:=by
    rw[<-w2]
    have:(a2E N).length<=1+2 * N.length:=b8k hv.two
    omega
   refine a0p u1 (J7 (by rw[c4];omega)) ?_
   have add:=I13.add (a:=vx) (s:=s) hz hPt u1 u2 u3 hst
   rw[show us.map V.ref++[V.ref vx]=(us++[vx]).map V.ref by simp]
   have nz:sl≠z:=fun q=>nsl (q ▸ mI hz)
   refine⟨_,_,rfl,add,by rw[T4];exact lP,fun t ht=>?_,S13.put u1 nz,by rw[o4 nz];exact hsl13⟩
   rw[b6L hs]
   by_cases q:L1 N s=t
   ·subst q
    rw[P5 (by omega),if_pos rfl]
   ·rw[Q6 q,if_neg q,a5Q]
    exact hP t ht
 ·rintro _ H13 ⟨x3,P,rfl,I13,lP,hP,S13,hsl13⟩
  have f8:∀b o,H b=some o->b≠x->H7 b=some o:=fun b o e n=>f7 _ _ (s06 _ _ e) n
  refine k H13 ⟨dx,rp,np,ep,es,as,hF ▸ I13.same _ _ x0,⟨rows0.same I13.same,I13.same _ _ rp0⟩,I13.same _ _ np0,la,fun i y l a b=>I13.same _ _ (at0 i y l a b),I13.h,by rw[I13.len,lP],fun t y hy=>?_,fun z ⟨o,ho,hzx⟩=>⟨d9 (s05 _ _ ho) hrp,d9 (f8 _ _ ho hzx) hnp,d9 (old9 _ _ ho hzx) hep,fun q=>d9 (f8 _ _ ho hzx) (fr8 z q) rfl,fun q=>d9 (old _ _ ho hzx) (I13.new.2 z q) rfl⟩⟩ fun b o e n=>I13.same _ _ (old b o e n)
  have ht:t<N.length:=by
   have:=(gI hy)
   have:=I13.len
   omega
  have q:=I13.at_ t y _ hy (hP t ht)
  rw[c4,v2,X5]at q
  exact q
structure d0g(H:Hp)(d:Addr)(ds:List V):Prop where
 h:H d=some (.tup ds)
 ex:∃k v1 v2,ds=[.str k,v1,v2]/\OpN v1/\OpN v2
def b9D(H:Hp)(p:Addr)(xs:List V):Prop:=H p=some (.tup xs)/\a6u H xs
theorem b9D.ts(h:b9D H p xs)(t:O5 H H'):b9D H' p xs:=⟨t _ _ h.1,h.2.ts t⟩
theorem b0K.x{a:Bool}(h:b0K H (.ref p) a):∃xs,b9D H p xs:=by
 obtain⟨q,xs,e,h1,h2,_⟩:=h
 cases e
 exact⟨xs,h1,h2⟩
theorem a6u.head(h:a6u H xs):∃k r,xs=.str k::r:=by cases h <;> exact⟨_,_,rfl⟩
def sbV(xs:List V):Option Str:=match xs with
 | .str k :: .str n::_=>if k=("set" : Str)\/k=("copy" : Str)\/k=("take" : Str)then some n else none
 | _=>none
def nmV(o:Option Str):V:=match o with
 | some s=>.str s
 | none=>.non
section
variable {K:Fg}{E:XK}
theorem b1D(hr:b9D H p xs)(k:∀H',A9 H H'->Q (nmV (sbV xs)) H'):a3H K [.ref p] H Q E:=by
 obtain⟨hp,rS⟩:=id hr
 refine⟨rfl,?_⟩
 unfold b4h
 obtain⟨k0,r,rfl⟩:=rS.head
 ext
 exists F4 hp (V3 _ _) ?_
 refine z8 (by simp) fun l H1 hl e1 s1=>?_
 refine b4A e1 rfl rfl ?_
 refine⟨_,rfl,?_⟩
 have hp1:=s1 _ _ hp
 have k1:=k H1 s1
 cases rS with
 | set n p2 nm d2=>
  exists J2 (by decide +kernel) ?_
  exact F4 hp1 (a0O _ _ _) k1
 | copy n v nm o=>
  exists J2 (by decide +kernel) ?_
  exact F4 hp1 (a0O _ _ _) k1
 | take n nm=>
  exists J2 (by decide +kernel) ?_
  exact F4 hp1 (a0O _ _ _) k1
 | tell v o=>
  exists C5 (by decide +kernel) ?_
  rw[show sbV [.str "tell",v]=none by rcases o with ⟨s,rfl,_⟩ | ⟨i,rfl,_⟩ <;> rfl]at k1
  exact k1
 | ask v o=>
  exists C5 (by decide +kernel) ?_
  rw[show sbV [.str "ask",v]=none by rcases o with ⟨s,rfl,_⟩ | ⟨i,rfl,_⟩ <;> rfl]at k1
  exact k1
 | skip=>
  exists C5 (by decide +kernel) ?_
  exact k1
end
theorem a8R:∀(l m:List Str),l.Nodup->(∀x∈l,x∈m)->l.length<=m.length
 | [],m,_,_=>O6 _
 | x::l,m,nd,h=>by
  obtain⟨n1,n2⟩:=K5.mp nd
  have hx:=h x (F5 ..)
  have:=a8R l (m.erase x) n2 fun y hy=>(b9O (fun e=>n1 (by rw[<-e];exact hy))).mpr (h y (D4 _ hy))
  rw[a4D hx]at this
  have:=a5I hx
  rw[C6]
  omega
section
def b0J(H:Hp)(rs:List Addr)(RC:Nat->List V):Prop:=∀(i:Nat) p,rs[i]? = some p->b9D H p (RC i)
theorem b0J.ts(h:b0J H rs RC)(t:O5 H H'):b0J H' rs RC:=fun i p e=>(h i p e).ts t
theorem c0W(hR:U9 H ra N)(hra:H ra=some (.lst (rs.map V.ref))):∃RC,b0J H rs RC:=by
 obtain⟨rs',r1,r2,r3⟩:=hR.ex
 obtain rfl:rs'=rs:=by
  rw[hra]at r1
  exact(a0u (f:=V.ref) (fun a b h=>V.ref.inj h) |>.mp (HO.lst.inj (Option.some.inj r1))).symm
 refine⟨fun i=>match rs'[i]? with
  | some p=>(match H p with
   | some (.tup xs)=>xs
   | _=>[])
  | none=>[],fun i p hp=>?_⟩
 have hi:=(gI hp)
 obtain⟨xs,hx⟩:=(r3 i p _ hp (O9 (by omega))).x
 simp only[hp,hx.1]
 exact hx
theorem c6m{l:Addr}{s:Str}(h:H l=some (.lst (ss.map V.str)))(k:Q (.bl (decide (s∈ss))) H):qIn false (.str s) (.ref l) H Q:=by
 have e:inV (.str s) (ss.map V.str)=decide (s∈ss):=by
  unfold inV
  rw[a1G,b0T,decide_eq_true_iff]
  constructor
  ·rintro⟨z,hz,e⟩
   obtain⟨u,hu,rfl⟩:=D8.mp hz
   have:u=s:=by simpa[eqV]using e
   rw[<-this];exact hu
  ·intro h
   exact⟨_,D8.mpr ⟨s,h,rfl⟩,by simp[eqV]⟩
 unfold qIn
 simp only[h]
 refine⟨rfl,?_,?_⟩
 ·rw[M6]
  intro x hx
  obtain⟨u,_,rfl⟩:=D8.mp hx
  rfl
 ·rw[e];exact k
theorem c1c{l:Addr}{s:Str}(h:H l=some (.lst (ss.map V.str)))(k:Q (.bl (!decide (s∈ss))) H):qIn true (.str s) (.ref l) H Q:=by
 have z:=c6m (Q:=fun v _=>v=.bl (decide (s∈ss))) (s:=s) h rfl
 unfold qIn at z ⊢
 simp only[h]at z ⊢
 refine⟨z.1,z.2.1,?_⟩
 have e:=V.bl.inj z.2.2
 have e:inV (.str s) (ss.map V.str)=decide (s∈ss):=e
 show Q (.bl (!inV (.str s) (ss.map V.str))) H
 rw[e];exact k
end
structure b1U(c:Cn)(H:Hp)(x:Addr)(N:Nt)(rs:List Addr):Prop where
 ex:∃dx fs n r,H x=some (.ins c.S8 dx fs)/\fs.lookup ("nexts" : Str)=some (V.ref n)/\J0 H n N/\fs.lookup ("rows" : Str)=some (V.ref r)/\H r=some (.lst (rs.map V.ref))/\rs.length=N.length
theorem b1U.x{c:Cn}{x:Addr}(h:b1U c H x N rs):c5y c H x N:=by
 obtain⟨dx,fs,n,r,h1,h2,h3,_⟩:=h.ex
 exact⟨dx,fs,n,h1,h2,h3⟩
theorem b1U.same{c:Cn}{x:Addr}(h:b1U c H x N rs)(s:A9 H H'):b1U c H' x N rs:=by
 obtain⟨dx,fs,n,r,h1,h2,h3,h4,h5,h6⟩:=h.ex
 exact⟨dx,fs,n,r,s _ _ h1,h2,h3.same s,h4,s _ _ h5,h6⟩
theorem a4z.r{K:Fg}{c:Cn}{x:Addr}(h:a4z K c Z rs H x N):b1U c H x N rs:=by
 obtain⟨dx,r,n,e,es,ns,h1,⟨h2,h2r⟩,h3,h4,h5,h6,h7,h8,_⟩:=h.ex
 refine⟨dx,_,n,r,h1,rfl,⟨ns,h3,h4,h5⟩,rfl,h2r,?_⟩
 obtain⟨rs',q1,q2,_⟩:=h2.ex
 rw[h2r]at q1
 have:=congrArg b1n (HO.lst.inj (Option.some.inj q1))
 rw[c4,c4]at this
 omega
abbrev Sto:=List (Str×Int)
variable{S0:Sto}
def SD(S:Sto):List (Key×V):=S.map fun p=>(Sum.inr p.1,.int p.2)
def U6(S:Sto)(s:Str):Int:=match S with
 | []=>0
 | p::r=>if p.1=s then p.2 else U6 r s
def P6(S:Sto)(n:Str)(i:Int):Sto:=match S with
 | []=>[(n,i)]
 | p::r=>if p.1=n then (p.1,i)::r else p::P6 r n i
def bdS(S:Sto):Prop:=(S.map (·.1)).Nodup/\∀p∈S,0<=p.2/\p.2<1000000000000
def Z7(S:Sto)(v:V):Int:=match v with
 | .str s=>U6 S s
 | .int i=>i
 | _=>0
def wv(kd:Str)(x y:Int):Int:=if kd = "plus" then (x+y) % 1000000000000 else if kd = "minus" then (x - y) % 1000000000000 else if kd = "times" then x * y % 1000000000000 else if kd = "less" then (if x<y then 1 else 0)else (if x=y then 1 else 0)
inductive Rw
 | set (n k:Str) (a b:V) | copy (n:Str) (v:V) | take (n:Str) | tell (v:V) | ask (v:V) | skip
variable{w:Rw}
def RwS(H:Hp)(xs:List V)(w:Rw):Prop:=match w with
 | .set n k a b=>∃q,xs=[.str "set",.str n,.ref q]/\H q=some (.tup [.str k,a,b])/\OpN a/\OpN b/\NmS n
 | .copy n v=>xs=[.str "copy",.str n,v]/\OpN v/\NmS n
 | .take n=>xs=[.str "take",.str n]/\NmS n
 | .tell v=>xs=[.str "tell",v]/\OpN v
 | .ask v=>xs=[.str "ask",v]/\OpN v
 | .skip=>xs=[.str "skip"]
structure Rs where
 S:Sto
 L:List Int
 T:List Int
 W:List Stp
 p:Stp
 e:Bool
def doR(w:Rw)(S:Sto)(L T:List Int):Sto×List Int×List Int:=match w with
 | .set n k a b=>(P6 S n (wv k (Z7 S a) (Z7 S b)),L,T)
 | .copy n v=>(P6 S n (Z7 S v),L,T)
 | .take n=>(P6 S n (L.getLast?.getD 0),L.dropLast,T)
 | .tell v=>(S,L,T++[Z7 S v])
 | _=>(S,L,T)
def a1y(w:Rw)(S:Sto):Int:=match w with
 | .ask v=>if Z7 S v=0 then 1 else 0
 | _=>0
def st1(N:Nt)(W:Nat->Rw)(r:Rs):Rs:=
 let t:=L1 N r.p
 let d:=doR (W t) r.S r.L r.T
 ⟨d.1,d.2.1,d.2.2,r.W++[r.p],((t:Int),a1y (W t) d.1),decide ((N.getD t []).length=0)⟩
def rn(N:Nt)(W:Nat->Rw):Nat->Rs->Rs
 | 0,r=>r
 | m+1,r=>if r.e=true then r else rn N W m (st1 N W r)
section
variable {S:Sto}{n s:Str}
theorem b6Y:a0v (SD S) (Sum.inr s)=none/\U6 S s=0\/a0v (SD S) (Sum.inr s)=some (.int (U6 S s)):=by
 induction S with
 | nil=>exact .inl ⟨rfl,rfl⟩
 | cons p r ih=>
  show a0v ((Sum.inr p.1,.int p.2)::SD r) _=none/\_\/a0v ((Sum.inr p.1,.int p.2)::SD r) _=_
  unfold U6
  by_cases e:p.1=s
  ·rw[a3F (by rw[e]),if_pos e];exact .inr rfl
  ·rw[a2b (by intro z;exact e (Sum.inr.inj z)),if_neg e];exact ih
theorem b8z{kv:Key×V}{r:List (Key×V)}{k:Key}{x:V}:a2g (kv::r) k x=if kv.1=k then (kv.1,x)::r.map (fun q=>if q.1=k then (q.1,x)else q)else kv::a2g r k x:=by
 unfold a2g
 rw[a0E]
 by_cases e:kv.1=k
 ·rw[if_pos e,if_pos (by rw[d1D e];rfl),G8,if_pos e]
 ·rw[if_neg e,d1C e,c9y]
  by_cases a:(r.any fun kv=>decide (kv.1=k))=true
  ·rw[if_pos a,if_pos a,G8,if_neg e]
  ·rw[if_neg a,if_neg a];rfl
theorem b3C(nd:(S.map (·.1)).Nodup):a2g (SD S) (Sum.inr n) (.int i)=SD (P6 S n i):=by
 induction S with
 | nil=>rfl
 | cons p r ih=>
  obtain⟨n1,n2⟩:=K5.mp nd
  show a2g ((Sum.inr p.1,.int p.2)::SD r) _ _=SD (P6 (p::r) n i)
  rw[b8z]
  unfold P6
  by_cases e:p.1=n
  ·rw[if_pos (by rw[e]),if_pos e]
   show _=(Sum.inr p.1,V.int i)::SD r
   congr 1
   refine(a7u fun q hq=>?_).trans (b9P _)
   obtain⟨u,hu,rfl⟩:=D8.mp hq
   exact if_neg fun z=>n1 (D8.mpr ⟨u,hu,(Sum.inr.inj z).trans e.symm⟩)
  ·rw[if_neg (by intro z;exact e (Sum.inr.inj z)),if_neg e,ih n2];rfl
theorem a2P:U6 (P6 S n i) s=if s=n then i else U6 S s:=by
 induction S with
 | nil=>
  unfold P6 U6
  by_cases e:s=n
  ·rw[if_pos e,if_pos e.symm]
  ·rw[if_neg e,if_neg (Ne.symm e)];rfl
 | cons p r ih=>
  unfold P6
  by_cases e:p.1=n
  ·rw[if_pos e]
   unfold U6
   by_cases f:p.1=s
   ·rw[if_pos f,if_pos (f.symm.trans e)]
   ·rw[if_neg f,if_neg (fun z=>f (e.trans z.symm)),if_neg f]
  ·rw[if_neg e]
   unfold U6
   by_cases f:p.1=s
   ·rw[if_pos f,if_neg (fun z=>e (f.trans z)),if_pos f]
   ·rw[if_neg f,ih,if_neg f]
theorem a2K:(P6 S n i).length<=S.length+1:=by
 induction S with
 | nil=>exact o5 _
 | cons p r ih=>
  unfold P6
  split
  ·simp
  ·rw[C6,C6];omega
theorem a3L:∀x,x∈(P6 S n i).map (·.1)↔x∈S.map (·.1)\/x=n:=by
 intro x
 induction S with
 | nil=>simp[P6]
 | cons p r ih=>
  unfold P6
  split
  ·rename_i e
   simp only[G8,q9]
   constructor
   ·intro h;exact .inl h
   ·rintro(h | h)
    ·exact h
    ·exact .inl (h.trans e.symm)
  ·simp only[G8,q9,ih]
   constructor
   ·rintro(h | h | h)
    ·exact .inl (.inl h)
    ·exact .inl (.inr h)
    ·exact .inr h
   ·rintro((h | h) | h)
    ·exact .inl h
    ·exact .inr (.inl h)
    ·exact .inr (.inr h)
theorem bdS.put(h:bdS S)(h0:0<=i)(h1:i<1000000000000):bdS (P6 S n i):=by
 induction S with
 | nil=>exact⟨by simp[P6],fun p hp=>by rw[show P6 [] n i=[(n,i)] from rfl,z9]at hp;rw[hp];exact⟨h0,h1⟩⟩
 | cons p r ih=>
  obtain⟨a,b⟩:=h
  obtain⟨n1,n2⟩:=K5.mp a
  unfold P6
  by_cases e:p.1=n
  ·rw[if_pos e]
   exact⟨a,fun q hq=>(q9.mp hq).elim (fun z=>by rw[z];exact⟨h0,h1⟩) fun z=>b q (D4 _ z)⟩
  ·rw[if_neg e]
   obtain⟨c,d⟩:=ih ⟨n2,fun q hq=>b q (D4 _ hq)⟩
   refine⟨K5.mpr ⟨fun z=>?_,c⟩,fun q hq=>(q9.mp hq).elim (fun z=>by rw[z];exact b p (F5 ..)) (d q)⟩
   rcases(a3L (S:=r) p.1).mp z with z | z
   ·exact n1 z
   ·exact e z
theorem bdS.get(h:bdS S):0<=U6 S s/\U6 S s<1000000000000:=by
 induction S with
 | nil=>exact⟨(by decide:(0:Int)<=0),(by decide:(0:Int)<1000000000000)⟩
 | cons p r ih=>
  obtain⟨a,b⟩:=h
  unfold U6
  split
  ·exact b p (F5 ..)
  ·exact ih ⟨(K5.mp a).2,fun q hq=>b q (D4 _ hq)⟩
theorem bdS.wof(h:bdS S)(o:OpN v):0<=Z7 S v/\Z7 S v<1000000000000:=by
 rcases o with ⟨s,rfl,_⟩ | ⟨i,rfl,h0,h1⟩
 ·exact h.get
 ·exact⟨h0,h1⟩
theorem c8u{k:Str}{x y:Int}:0<=wv k x y/\wv k x y<1000000000000:=by
 unfold wv
 split
 ·omega
 split
 ·omega
 split
 ·exact⟨W5 _ (by decide),U2 _ (by decide)⟩
 split <;> split <;> omega
theorem RwS.ts(h:RwS H xs w)(t:O5 H H'):RwS H' xs w:=by
 cases w with
 | set n k a b=>obtain⟨q,h1,h2,h3⟩:=h;exact⟨q,h1,t _ _ h2,h3⟩
 | _=>exact h
theorem a6u.rw(h:a6u H xs):∃w,RwS H xs w:=by
 cases h with
 | set n p nm d=>obtain⟨k,a,b,h,o1,o2,_⟩:=d;exact⟨.set n k a b,p,rfl,h,o1,o2,nm⟩
 | copy n v nm o=>exact⟨.copy n v,rfl,o,nm⟩
 | take n nm=>exact⟨.take n,rfl,nm⟩
 | tell v o=>exact⟨.tell v,rfl,o⟩
 | ask v o=>exact⟨.ask v,rfl,o⟩
 | skip=>exact⟨.skip,rfl⟩
end
section
variable {K:Fg}{l:Addr}{S:Sto}{v1 v2:V}{kd:Str}{E:XK}
theorem a0s(a b:Str):(decide (V.str a=V.str b)=true)↔a=b:=⟨fun h=>V.str.inj (of_decide_eq_true h),fun h=>d1D (congrArg V.str h)⟩
theorem b4y{td ty tx:TE}(h:td σ H fun x H1=>∃a,x=.ref a/\IsD H1 a/\ty σ H1 fun y H2=>tx σ H2 fun z H3=>∃o,a6w H3 a y o/\Q (o.getD z) H3):a7B td ty tx σ H Q:=h
theorem a1j(hS:H a=some (.dK (SD S)))(o:OpN v)(k:Q (.int (Z7 S v)) H):a0d K [v,.ref a] H Q E:=by
 refine⟨rfl,?_⟩
 unfold a9t
 nofun
 rcases o with ⟨x,rfl,_⟩ | ⟨n,rfl,_⟩
 ·refine a3b (s := "str") rfl (by decide) ?_
  refine⟨_,rfl,?_⟩
  exists J2 (by decide) ?_
  specialize b4y ?_
  exists ⟨a,rfl,.inl ⟨_,.inl hS⟩,?_⟩
  refine⟨_,a6w.k (k:=Sum.inr x) hS,?_⟩
  have k:Q (.int (U6 S x)) H:=k
  rcases b6Y (S:=S) (s:=x)with ⟨e,z⟩ | e
  ·rw[e];rw[z]at k;exact k
  ·rw[e];exact k
 ·refine a3b (s := "int") rfl (by decide) ?_
  refine⟨_,rfl,?_⟩
  exists C5 (by decide) ?_
  exact k
theorem c0i(hp:H p=some (.tup [.str kd,v1,v2]))(hS:H a=some (.dK (SD S)))(bd:bdS S)(o1:OpN v1)(o2:OpN v2)(k:Q (.int (wv kd (Z7 S v1) (Z7 S v2))) H):a6M K [.ref p,.ref a] H Q E:=by
 obtain⟨x0,x1⟩:=bd.wof o1
 obtain⟨y0,y1⟩:=bd.wof o2
 refine⟨rfl,?_⟩
 unfold b7j
 nofun
 exists F4 hp (V3 _ _) ?_
 nofun
 exists F4 hp (a0O _ _ _) ?_
 exists a1j hS o1 ?_
 nofun
 exists F4 hp (a8b _ _ _ _) ?_
 refine a1j hS o2 ?_
 generalize Z7 S v1=x at *
 generalize Z7 S v2=y at *
 unfold wv at k
 ext
 nofun
 refine Z0 (fun e=>?_) (fun e=>?_)
 ·rw[if_pos ((a0s _ _).mp e)]at k
  ext
  exact Y2 (by decide) k
 rw[if_neg (fun z=>e ((a0s _ _).mpr z))]at k
 ext
 nofun
 refine Z0 (fun e=>?_) (fun e=>?_)
 ·rw[if_pos ((a0s _ _).mp e)]at k
  ext
  exact Y2 (by decide) k
 rw[if_neg (fun z=>e ((a0s _ _).mpr z))]at k
 ext
 nofun
 refine Z0 (fun e=>?_) (fun e=>?_)
 ·rw[if_pos ((a0s _ _).mp e)]at k
  ext
  exists Y2 (.inl (by omega)) ?_
  exact Y2 (by decide) k
 rw[if_neg (fun z=>e ((a0s _ _).mpr z))]at k
 ext
 nofun
 refine Z0 (fun e=>?_) (fun e=>?_)
 ·rw[if_pos ((a0s _ _).mp e)]at k
  ext
  refine Z0 (fun e=>?_) (fun e=>?_)
  ·rw[if_pos (by simpa using e)]at k
   ext
   exact k
  ·rw[if_neg (by simpa using e)]at k
   ext
   exact k
 rw[if_neg (fun z=>e ((a0s _ _).mpr z))]at k
 ext
 refine Z0 (fun e=>?_) (fun e=>?_)
 ·rw[if_pos (by simpa using e)]at k
  ext
  exact k
 ·rw[if_neg (by simpa using e)]at k
  ext
  exact k
def b5M(w:Rw)(S:Sto)(L:List Int):Option (Str×Int):=match w with
 | .set n k a b=>some (n,wv k (Z7 S a) (Z7 S b))
 | .copy n v=>some (n,Z7 S v)
 | .take n=>some (n,L.getLast?.getD 0)
 | _=>none
def c2b(w:Rw)(L:List Int):List Int:=match w with
 | .take _=>L.dropLast
 | _=>L
theorem c5n(h:RwS H xs w):sbV xs=(b5M w S L).map (·.1):=by
 cases w with
 | set n k a b=>obtain⟨q,rfl,_⟩:=h;rfl
 | copy n v=>obtain⟨rfl,_⟩:=h;rfl
 | take n=>obtain⟨rfl,_⟩:=h;rfl
 | tell v=>obtain⟨rfl,o⟩:=h;rcases o with ⟨s,rfl,_⟩ | ⟨i,rfl,_⟩ <;> rfl
 | ask v=>obtain⟨rfl,o⟩:=h;rcases o with ⟨s,rfl,_⟩ | ⟨i,rfl,_⟩ <;> rfl
 | skip=>cases h;rfl
theorem b7v{n:Str}(h:RwS H xs w)(bd:bdS S)(bl:∀x∈L,0<=x/\x<1000000000000)(e:b5M w S L=some (n,i)):0<=i/\i<1000000000000:=by
 cases w with
 | set n k a b=>cases e;exact c8u
 | copy n v=>cases e;exact bd.wof h.2.1
 | take n=>
  cases e
  cases z:L.getLast? with
  | none=>exact⟨by decide,by decide⟩
  | some x=>exact bl x (List.mem_of_getLast? z)
 | _=>cases e
theorem b2f{n:Str}(hp:H p=some (.tup xs))(h:RwS H xs w)(hS:H a=some (.dK (SD S)))(bd:bdS S)(hL:H l=some (.lst (L.map V.int)))(e:b5M w S L=some (n,i))
  (k:∀H',H' l=some (.lst ((c2b w L).map V.int))->(∀b o,b≠l->H b=some o->H' b=some o)->Q (.int i) H'):a2p K [.ref p,.ref a,.ref l] H Q E:=by
 refine⟨rfl,?_⟩
 unfold a8q
 nofun
 cases w with
 | set n k0 a0 b0=>
  obtain⟨q,rfl,hq,o1,o2,nm⟩:=h
  cases e
  exists F4 hp (V3 _ _) ?_
  exists J2 (by decide) ?_
  exists F4 hp (a8b _ _ _ _) ?_
  exact c0i hq hS bd o1 o2 (k H hL fun b o _ e=>e)
 | copy n v=>
  obtain⟨rfl,o,nm⟩:=h
  cases e
  exists F4 hp (V3 _ _) ?_
  exists C5 (by decide) ?_
  nofun
  exists F4 hp (V3 _ _) ?_
  exists J2 (by decide) ?_
  exists F4 hp (a8b _ _ _ _) ?_
  exact a1j hS o (k H hL fun b o _ e=>e)
 | take n=>
  obtain⟨rfl,nm⟩:=h
  cases e
  exists F4 hp (V3 _ _) ?_
  exists C5 (by decide) ?_
  nofun
  exists F4 hp (V3 _ _) ?_
  exists C5 (by decide) ?_
  exists O8 hL ?_
  rcases a5Y L with rfl | ⟨L',x,rfl⟩
  ·exists C5 (by decide) ?_
   exact k H hL fun b o _ e=>e
  ·exists J2 (by simp) ?_
   specialize c5l ?_
   rw[a0G,D7]at hL
   refine⟨X9 hL,c5r hL ?_⟩
   have k':=k (upd H l (.lst (L'.map V.int))) (by rw[g7];show _=some (HO.lst (((L'.concat x).dropLast).map V.int));rw[a0G,a6A]) (fun b o nb e=>by rw[o4 nb];exact e)
   rw[a0G,V0]at k'
   exact k'
 | _=>cases e
theorem a9D{t:Nat}(hp:H p=some (.tup xs))(h:RwS H xs w)(hS:H a=some (.dK (SD S)))(k:∀q H',H q=none->H' q=some (.tup [.int (t:Int),.int (a1y w S)])->A9 H H'->Q (.ref q) H'):a1w K [.int (t:Int),.ref p,.ref a] H Q E:=by
 refine⟨rfl,?_⟩
 unfold a5T
 nofun
 cases w with
 | set n k0 a0 b0=>
  obtain⟨q0,rfl,_⟩:=h
  exists F4 hp (V3 _ _) ?_
  refine C5 (by decide) ?_
  exists C5 (by decide) ?_
  refine z8 (by simp) fun q H1 hq e1 s1=>?_
  exact k q H1 hq e1 s1
 | copy n v=>
  obtain⟨rfl,_⟩:=h
  exists F4 hp (V3 _ _) ?_
  refine C5 (by decide) ?_
  exists C5 (by decide) ?_
  refine z8 (by simp) fun q H1 hq e1 s1=>?_
  exact k q H1 hq e1 s1
 | take n=>
  obtain⟨rfl,_⟩:=h
  exists F4 hp (V3 _ _) ?_
  refine C5 (by decide) ?_
  exists C5 (by decide) ?_
  refine z8 (by simp) fun q H1 hq e1 s1=>?_
  exact k q H1 hq e1 s1
 | tell v=>
  obtain⟨rfl,_⟩:=h
  exists F4 hp (V3 _ _) ?_
  refine C5 (by decide) ?_
  exists C5 (by decide) ?_
  refine z8 (by simp) fun q H1 hq e1 s1=>?_
  exact k q H1 hq e1 s1
 | skip=>
  obtain rfl:=h
  exists F4 hp (V3 _ _) ?_
  refine C5 (by decide) ?_
  exists C5 (by decide) ?_
  refine z8 (by simp) fun q H1 hq e1 s1=>?_
  exact k q H1 hq e1 s1
 | ask v=>
  obtain⟨rfl,o⟩:=h
  exists F4 hp (V3 _ _) ?_
  exists J2 (by decide) ?_
  exists F4 hp (a0O _ _ _) ?_
  exists a1j hS o ?_
  have k:∀q H',H q=none->H' q=some (.tup [.int (t:Int),.int (if Z7 S v=0 then 1 else 0)])->A9 H H'->Q (.ref q) H':=k
  by_cases z:Z7 S v=0
  ·rw[if_pos z]at k
   exists J2 (by rw[z];rfl) ?_
   refine z8 (by simp) fun q H1 hq e1 s1=>?_
   exact k q H1 hq e1 s1
  ·rw[if_neg z]at k
   exists C5 (d1C fun q=>z (V.int.inj q)) ?_
   refine z8 (by simp) fun q H1 hq e1 s1=>?_
   exact k q H1 hq e1 s1
end
theorem c7s(r n e:Addr)(m:Str)(h:m∉(["rows","nexts","entries"]:List Str)):([("rows",.ref r),("nexts",.ref n),("entries",.ref e)]:List (Str×V)).lookup m=none:=by
 rw[List.lookup_eq_none_iff]
 intro p hp
 simp only[q9,G5,or_false]at h hp
 rcases hp with rfl | rfl | rfl
 ·simp;intro z;exact h (.inl z)
 ·simp;intro z;exact h (.inr (.inl z))
 ·simp;intro z;exact h (.inr (.inr z))
def a7q(K:Fg)(H:Hp)(q:Addr)(r:Rs):Prop:=∃tl wl sl,H q=some (.tup [.ref tl,.ref wl,.ref sl,.bl r.e])/\H tl=some (.lst (r.T.map V.int))/\E8 K H wl r.W/\H sl=some (.dK (SD r.S))/\bdS r.S
def b9C(K:Fg)(H0 H:Hp)(q:Addr)(r:Rs):Prop:=∃tl wl sl,H0 tl=none/\H0 wl=none/\H0 sl=none/\tl≠wl/\H q=some (.tup [.ref tl,.ref wl,.ref sl,.bl r.e])/\H tl=some (.lst (r.T.map V.int))/\E8 K H wl r.W/\H sl=some (.dK (SD r.S))/\bdS r.S
theorem b9C.t{K:Fg}{q:Addr}{r:Rs}(h:b9C K H0 H q r):a7q K H q r:=let⟨tl,wl,sl,_,_,_,_,h⟩:=h; ⟨tl,wl,sl,h⟩
def c2H(N:Nt)(W:Nat->Rw):Prop:=∀(i:Nat) l,N[i]? = some l->(l.length=2↔∃v,W i=.ask v)
section
variable {K:Fg}{c:Cn}{x:Addr}{W:Nat->Rw}{S:Sto}{T:List Int}{E:XK}
theorem b3o{n:Str}(e:b5M w S L=some (n,i)):doR w S L T=(P6 S n i,c2b w L,T):=by
 cases w with
 | set n k a b=>cases e;rfl
 | copy n v=>cases e;rfl
 | take n=>cases e;rfl
 | _=>cases e
theorem a9H(S':Sto)(h:a1y w S'≠0):∃v,w=.ask v:=by
 cases w with
 | ask v=>exact⟨v,rfl⟩
 | _=>exact(h rfl).elim
theorem a5y(S':Sto):a1y w S'=0\/a1y w S'=1:=by
 cases w with
 | ask v=>show(if _ then _ else _)=_\/(if _ then _ else _)=_;split;exact .inr rfl;exact .inl rfl
 | _=>exact .inl rfl
theorem E8.snoc{wl:Addr}{Ws:List Stp}{ps:List Addr}(h1:H wl=some (.lst (ps.map V.ref)))(h2:ps.length=Ws.length)(h3:∀(i:Nat) x s,ps[i]? = some x->Ws[i]? = some s->a0U K H x s)(ha:a0U K H a s):E8 K (upd H wl (.lst (ps.map V.ref++[.ref a]))) wl (Ws++[s]):=by
 have tp:O5 H (upd H wl (.lst (ps.map V.ref++[.ref a]))):=O5.put h1
 refine⟨ps++[a],by rw[g7,D7];rfl,by simp[h2],fun i p t f1 f2=>?_⟩
 rcases V6 f1 with ⟨hi,f1⟩ | ⟨hi,f1⟩
 ·rcases V6 f2 with ⟨_,f2⟩ | ⟨hj,_⟩
  ·exact(h3 i p t f1 f2).ts tp
  ·omega
 ·subst f1
  rcases V6 f2 with ⟨hj,_⟩ | ⟨_,f2⟩
  ·omega
  ·subst f2
   exact ha.ts tp
theorem E8.off{wl:Addr}{Ws:List Stp}(h:E8 K H wl Ws)(n:wl≠a)(t:O5 H (upd H a o)):E8 K (upd H a o) wl Ws:=by
 obtain⟨ps,h1,h2,h3⟩:=h.ex
 exact⟨ps,by rw[o4 n];exact h1,h2,fun i p s a c=>(h3 i p s a c).ts t⟩
theorem a9T{r:Rs}(h:r.e=true):∀m,rn N W m r=r
 | 0=>rfl
 | m+1=>by unfold rn;rw[if_pos h]
theorem c6e{st:Addr}(ck:a7s K c)(hz:a4z K c Z rs H x N)(hv:a1n N)(hr:b0J H rs RC)(hw:∀(i:Nat) p,rs[i]? = some p->RwS H (RC i) (W i))(ha:c2H N W)
  (hst:H st=some (.dK (SD S0))) (bd:bdS S0) (l0:S0.length<=100) (htk:H tk=some (.lst (L0.map V.int))) (bl:∀x∈L0,0<=x/\x<1000000000000) (hm:m<=5000)
  (k:∀q H',b9C K H H' q (rn N W m ⟨S0,L0.reverse,[],[],FST,false⟩)->A9 H H'->Q (.ref q) H'):a1a K c [.ref x,.ref st,.ref tk,.int (m:Int)] H Q E:=by
 have h400:=hv.le
 have hp:=hz.r
 have h6:rs.length=N.length:=by obtain⟨_,_,_,_,_,_,_,_,_,q⟩:=id hp.ex;exact q
 obtain⟨dx,r0,n0,e0,es,ns',h1,⟨_,h5⟩,h3a,h3b,h3c,_⟩:=id hz.ex
 have h3:J0 H n0 N:=⟨ns',h3a,h3b,h3c⟩
 refine⟨rfl,?_⟩
 unfold c5e
 nofun
 unfold a3c
 simp only[hst]
 intro sd hsd
 have s1:A9 H (upd H sd (.dK (SD S0))):=D6 hsd
 obtain⟨H1,hH1⟩:∃H1,H1=upd H sd (.dK (SD S0)):=⟨_,rfl⟩
 have d1:H1 sd=some (.dK (SD S0)):=hH1 ▸ g7
 rw[<-hH1]at s1 ⊢
 ext
 exact_mod_cast a0o ?_
 exact_mod_cast c5m ?_
 show b7s _ _ _ _
 refine⟨_,rfl,tk,_,rfl,s1 _ _ htk,fun lf hlf=>?_⟩
 have s2:A9 H1 (upd H1 lf (.lst (L0.map V.int).reverse)):=D6 hlf
 obtain⟨H2,hH2⟩:∃H2,H2=upd H1 lf (.lst (L0.map V.int).reverse):=⟨_,rfl⟩
 have f2:H2 lf=some (.lst (L0.reverse.map V.int)):=by rw[hH2,g7,List.map_reverse]
 rw[<-hH2]at s2 ⊢
 ext
 nofun
 exists z8 (by simp) fun tl H3 htl t3 s3=>?_
 nofun
 exists z8 (by simp) fun wl H4 hwl w4 s4=>?_
 nofun
 nofun
 have s04:=((s1.trans s2).trans s3).trans s4
 have n1:lf≠tl:=d9 f2 htl
 have n2:lf≠wl:=d9 (s3 _ _ f2) hwl
 have n3:tl≠wl:=d9 t3 hwl
 have flf:H lf=none:=s1.free hlf
 have ftl:H tl=none:=(s1.trans s2).free htl
 have fwl:H wl=none:=((s1.trans s2).trans s3).free hwl
 obtain⟨q0,hq0⟩:∃q0:Rs,q0=⟨S0,L0.reverse,[],[],FST,false⟩:=⟨_,rfl⟩
 rw[<-hq0]at k
 exact_mod_cast a0o ?_
 exact_mod_cast b7w ?_
 refine⟨fun μ σ Hi=>∃(q:Rs) (sa:Addr) (y10 y11:Option V),σ=[some (.ref x),some (.ref st),some (.ref tk),some (.int (m:Int)),some (.ref sd),some (.ref lf),some (.ref tl),some (.ref wl),some (.ref sa),some (.bl q.e),y10,y11]/\Hi sd=some (.dK (SD q.S))/\Hi lf=some (.lst (q.L.map V.int))/\Hi tl=some (.lst (q.T.map V.int))/\E8 K Hi wl q.W/\a0U K Hi sa q.p/\A9 H Hi/\bdS q.S/\(∀x∈q.L,0<=x/\x<1000000000000)/\q.S.length<=100+q.W.length/\q.T.length<=q.W.length/\q.W.length<=m/\(q.e=false->a1E N q.p)/\rn N W (m - q.W.length) q=rn N W m q0/\μ=m - q.W.length,?_,?_⟩
 ·subst hq0
  exact⟨_,⟨S0,L0.reverse,[],[],FST,false⟩,_,_,_,rfl,s4 _ _ (s3 _ _ (s2 _ _ d1)),s4 _ _ (s3 _ _ f2),s4 _ _ t3,⟨[],w4,rfl,fun i p s e=>(nomatch e)⟩,.inr ⟨rfl,ck.a4u⟩,s04,bd,fun x hx=>bl x (c5B.mp hx),by simpa using l0,o5 _,O6 _,fun _=>.inl rfl,rfl,rfl⟩
 rintro μ _ Hi ⟨q,sa,y10,y11,rfl,g1,g2,g3,g4,g5,si,b1,b2,b3,b4,b5,is,er,rfl⟩
 obtain⟨ps,p1,p2,p3⟩:=id g4.ex
 ext
 refine O8 p1 ?_
 rw[c4,p2]
 ext
 have fin:rn N W m q0=q->G7 (V1 (b6 (c5 6) (b6 (c5 7) (b6 (c5 4) (b6 (c5 9) (c9)))))) { nx:=fun _ H'=>Q .non H',rt:=Q } [some (.ref x),some (.ref st),some (.ref tk),some (.int (m:Int)),some (.ref sd),some (.ref lf),some (.ref tl),some (.ref wl),some (.ref sa),some (.bl q.e),y10,y11] Hi:=fun e=>by
  ext
  refine z8 (by simp) fun tp H5 htp e5 s5=>?_
  refine k tp H5 ?_ (si.trans s5)
  rw[e]
  exact⟨tl,wl,sd,ftl,fwl,hsd,n3,e5,s5 _ _ g3,g4.same s5,s5 _ _ g1,b1⟩
 by_cases hge:m<=q.W.length
 ·have hz:q.W.length=m:=by omega
  refine C5 (d1C (by omega)) ?_
  refine C5 rfl ?_
  exact fin (by rw[<-er,hz,Nat.sub_self];rfl)
 have hlt:q.W.length<m:=by omega
 exists J2 (d1D (by omega)) ?_
 cases he:q.e with
 | true=>
  refine C5 rfl ?_
  rw[<-he]
  exact fin (by rw[<-er,a9T he])
 | false=>
 refine J2 rfl ?_
 refine⟨fun σ Hj=>∃(q':Rs) (sa:Addr) (y10 y11:Option V),σ=[some (.ref x),some (.ref st),some (.ref tk),some (.int (m:Int)),some (.ref sd),some (.ref lf),some (.ref tl),some (.ref wl),some (.ref sa),some (.bl q'.e),y10,y11]/\Hj sd=some (.dK (SD q'.S))/\Hj lf=some (.lst (q'.L.map V.int))/\Hj tl=some (.lst (q'.T.map V.int))/\E8 K Hj wl q'.W/\a0U K Hj sa q'.p/\A9 H Hj/\bdS q'.S/\(∀x∈q'.L,0<=x/\x<1000000000000)/\q'.S.length<=100+q'.W.length/\q'.T.length<=q'.W.length/\q'.W.length<=m/\(q'.e=false->a1E N q'.p)/\rn N W (m - q'.W.length) q'=rn N W m q0/\q'.W.length=q.W.length+1,?_,?_⟩
 ·rintro σ' Hj ⟨q',sa,y10,y11,a1,a2,a3,a4,a5,a6,a7,a8,a9,a10,a11,a12,a13,a14,a15⟩
  exact⟨_,by omega,q',sa,y10,y11,a1,a2,a3,a4,a5,a6,a7,a8,a9,a10,a11,a12,a13,a14,rfl⟩
 have is:=is he
 obtain⟨t,ht⟩:∃t,t=L1 N q.p:=⟨_,rfl⟩
 have htn:t<N.length:=ht ▸ a7b hv is
 obtain⟨l,hle⟩:∃l,l=N[t]:=⟨_,rfl⟩
 have hl:=O9 htn
 rw[<-hle]at hl
 obtain⟨rx,hrx⟩:∃rx,rs[t]? = some rx:=⟨_,g8 (by omega)⟩
 nofun
 specialize a6j ?_
 exists ⟨X9 p1,?_⟩
 refine a0p p1 (J7 (by rw[c4];omega)) ?_
 have tp:O5 Hi (upd Hi wl (.lst (ps.map V.ref++[.ref sa]))):=O5.put p1
 have w5:=E8.snoc p1 p2 p3 g5
 obtain⟨H5,hH5⟩:∃H5,H5=upd Hi wl (.lst (ps.map V.ref++[.ref sa])):=⟨_,rfl⟩
 have sd5:H5 sd=some (.dK (SD q.S)):=by rw[hH5,o4 (M3 g1 p1 (by intro z;cases z))];exact g1
 have lf5:H5 lf=some (.lst (q.L.map V.int)):=by rw[hH5,o4 n2];exact g2
 have tl5:H5 tl=some (.lst (q.T.map V.int)):=by rw[hH5,o4 n3];exact g3
 have s5:A9 H H5:=fun b o e=>by rw[hH5,o4 (d9 e fwl)];exact si _ _ e
 rw[<-hH5]at tp w5 ⊢
 ext
 nofun
 specialize c0R ?_
 exists ⟨x,dx,_,rfl,s5 _ _ h1,c7s r0 n0 e0 _ (by decide),?_⟩
 refine a8y ck ((hp.same s5).x) (g5.ts tp) is ?_
 rw[<-ht]
 ext
 nofun
 specialize b4x ?_
 exists ⟨x,_,dx,_,.ref r0,rfl,s5 _ _ h1,ck.a1H,ck.a2t,rfl,?_⟩
 exists L9 (s5 _ _ h5) (a0W (by rw[d8,hrx];rfl)) ?_
 have rX:=(hr t rx hrx).ts (A9.ts s5)
 have rW:=(hw t rx hrx).ts (A9.ts s5)
 obtain⟨hx,rS⟩:=id rX
 exact_mod_cast Y8 (P:=fun σ Hj=>σ=[some (.ref x),some (.ref st),some (.ref tk),some (.int (m:Int)),some (.ref sd),some (.ref lf),some (.ref tl),some (.ref wl),some (.ref sa),some (.bl false),some (.int (t:Int)),some (.ref rx)]/\Hj sd=some (.dK (SD (doR (W t) q.S q.L q.T).1))/\Hj lf=some (.lst ((doR (W t) q.S q.L q.T).2.1.map V.int))/\Hj tl=some (.lst ((doR (W t) q.S q.L q.T).2.2.map V.int))/\E8 K Hj wl (q.W++[q.p])/\A9 H Hj/\bdS (doR (W t) q.S q.L q.T).1/\(∀x∈(doR (W t) q.S q.L q.T).2.1,0<=x/\x<1000000000000)/\(doR (W t) q.S q.L q.T).1.length<=q.S.length+1/\(doR (W t) q.S q.L q.T).2.2.length<=q.T.length+1) ?_ ?_
 rotate_left
 ·intro nx hnx
  ext
  refine b1D rX fun H6 s6=>?_
  have s56:=s5.trans s6
  cases hs:b5M (W t) q.S q.L with
  | some ni=>
   obtain⟨n,i⟩:=ni
   have esb:sbV (RC t)=some n:=by rw[c5n (S:=q.S) (L:=q.L) rW,hs];rfl
   rw[esb]
   refine⟨rfl,_,rfl,J2 rfl ?_⟩
   specialize a3r ?_
   exists b2f (s6 _ _ hx) (rW.ts (A9.ts s6)) (s6 _ _ sd5) b1 (s6 _ _ lf5) hs fun H7 lf7 o7=>?_
   have ne7:∀ {b:Addr} {o:HO},H6 b=some o->(∀xs,o≠.lst xs)->H7 b=some o:=fun {b o} e z=>o7 b o (fun q=>by rw[q,s6 _ _ lf5]at e;cases e;exact z _ rfl) e
   have t7:O5 H6 H7:=fun b ys e=>ne7 e fun _ z=>nomatch z
   have s07:A9 H H7:=fun b o e=>o7 b o (d9 e flf) (s56 _ _ e)
   refine b1D (rX.ts (O5.trans (A9.ts s6) t7)) fun H8 s8=>?_
   rw[esb]
   have sd8:H8 sd=some (.dK (SD q.S)):=s8 _ _ (ne7 (s6 _ _ sd5) fun _ z=>nomatch z)
   refine⟨sd,_,rfl,a8e.k (k:=Sum.inr n) sd8 (J7 (by unfold SD;rw[c4];omega)),?_⟩
   rw[b3C b1.1]
   have b8:=b7v rW b1 b2 hs
   rw[b3o hs]at hnx
   have t8:O5 H8 (upd H8 sd (.dK (SD (P6 q.S n i)))):=fun b ys e=>(o4 (M3 e sd8 (by intro z;cases z))).trans e
   have up:∀ {a:Addr} {ys:List V},H8 a=some (.lst ys)->upd H8 sd (.dK (SD (P6 q.S n i))) a=some (.lst ys):=fun {a ys} e=>(o4 (M3 e sd8 (by intro z;cases z))).trans e
   refine hnx _ _ ⟨rfl,g7,up (s8 _ _ lf7),up (s8 _ _ (o7 tl _ n1.symm (s6 _ _ tl5))),?_,fun b o e=>by rw[o4 (d9 e hsd)];exact s8 _ _ (s07 _ _ e),b1.put b8.1 b8.2,fun x hx=>b2 x ?_,a2K,X4 _⟩
   ·obtain⟨ps',a1,a2,a3⟩:=(w5.same s6).ex
    have w7:E8 K H7 wl (q.W++[q.p]):=⟨ps',o7 wl _ n2.symm a1,a2,fun i p s e1 e2=>(a3 i p s e1 e2).ts t7⟩
    exact(w7.same s8).off (M3 (s8 _ _ (o7 wl _ n2.symm a1)) sd8 (by intro z;cases z)) t8
   ·have hx:x∈c2b (W t) q.L:=hx
    cases hw':W t with
    | take n=>rw[hw']at hx;exact List.dropLast_subset _ hx
    | _=>rw[hw']at hx;exact hx
  | none=>
   have esb:sbV (RC t)=none:=by rw[c5n (S:=q.S) (L:=q.L) rW,hs];rfl
   rw[esb]
   exists ⟨rfl,_,rfl,C5 rfl ?_⟩
   have hx6:=s6 _ _ hx
   generalize hwt:W t=wt at rW hs hnx
   have stay:doR wt q.S q.L q.T=(q.S,q.L,q.T)->nx [some (.ref x),some (.ref st),some (.ref tk),some (.int (m:Int)),some (.ref sd),some (.ref lf),some (.ref tl),some (.ref wl),some (.ref sa),some (.bl false),some (.int (t:Int)),some (.ref rx)] H6:=fun e=>by
    rw[e]at hnx
    exact hnx _ _ ⟨rfl,s6 _ _ sd5,s6 _ _ lf5,s6 _ _ tl5,w5.same s6,s56,b1,b2,X4 _,X4 _⟩
   cases wt with
   | set n k0 a0 b0=>cases hs
   | copy n v=>cases hs
   | take n=>cases hs
   | tell v=>
    obtain⟨exs,o⟩:=rW
    rw[exs]at hx6
    exists F4 hx6 (V3 _ _) ?_
    exists J2 (by decide) ?_
    specialize a6j ?_
    exists ⟨X9 (s6 _ _ tl5),?_⟩
    exists F4 hx6 (a0O _ _ _) ?_
    exists a1j (s6 _ _ sd5) o ?_
    refine a0p (s6 _ _ tl5) (J7 (by rw[c4];omega)) ?_
    have t7:O5 H6 (upd H6 tl (.lst (q.T.map V.int++[.int (Z7 q.S v)]))):=O5.put (s6 _ _ tl5)
    refine hnx _ _ ⟨rfl,by rw[o4 (M3 (s6 _ _ sd5) (s6 _ _ tl5) (by intro z;cases z))];exact s6 _ _ sd5,by rw[o4 n1];exact s6 _ _ lf5,by rw[g7];show _=some (HO.lst ((q.T++[Z7 q.S v]).map V.int));rw[D7];rfl,(w5.same s6).off n3.symm t7,fun b o e=>by rw[o4 (d9 e ftl)];exact s56 _ _ e,b1,b2,X4 _,by show(q.T++[_]).length<=_;simp⟩
   | ask v=>
    obtain⟨exs,o⟩:=rW
    rw[exs]at hx6
    exists F4 hx6 (V3 _ _) ?_
    exists C5 (by decide) ?_
    exact stay rfl
   | skip=>
    have exs:RC t=[.str "skip"]:=rW
    rw[exs]at hx6
    exists F4 hx6 (V3 _ _) ?_
    exists C5 (by decide) ?_
    exact stay rfl
 rintro _ Hj ⟨rfl,j1,j2,j3,j4,j5,j6,j7,j8,j9⟩
 obtain⟨us,y,f1,f2',f3,_⟩:=(h3.same j5).at hl
 nofun
 specialize b4x ?_
 exists ⟨x,_,dx,_,.ref n0,rfl,j5 _ _ h1,ck.a1H,ck.a0r,rfl,?_⟩
 exists L9 f1 f2' ?_
 refine O8 f3 ?_
 rw[U0]
 ext
 exists a9D ((hr t rx hrx).ts (A9.ts j5)).1 ((hw t rx hrx).ts (A9.ts j5)) j1 fun sb Hk hsb ek sk=>?_
 have gd:N.getD t []=l:=by rw[O3,hl];rfl
 have e1:st1 N W q=⟨(doR (W t) q.S q.L q.T).1,(doR (W t) q.S q.L q.T).2.1,(doR (W t) q.S q.L q.T).2.2,q.W++[q.p],((t:Int),a1y (W t) (doR (W t) q.S q.L q.T).1),decide (l.length=0)⟩:=by
  unfold st1
  rw[<-ht]
  show Rs.mk _ _ _ _ _ (decide ((N.getD t []).length=0))=_
  rw[gd]
 refine⟨st1 N W q,sb,some (.int (t:Int)),some (.ref rx),?_,?_⟩
 ·rw[e1]
  show _=[_,_,_,_,_,_,_,_,_,some (V.bl (decide (l.length=0))),_,_]
  rw[show decide (V.int (l.length:Int)=V.int 0)=decide (l.length=0)from decide_eq_decide.mpr ⟨fun z=>by have:=V.int.inj z;omega,fun z=>by rw[z];rfl⟩]
  rfl
 rw[e1]
 refine⟨sk _ _ j1,sk _ _ j2,sk _ _ j3,j4.same sk,.inl ek,j5.trans sk,j6,j7,?_,?_,?_,fun z=>?_,?_,?_⟩
 ·show(doR (W t) q.S q.L q.T).1.length<=100+(q.W++[q.p]).length
  rw[u8,E4];omega
 ·show(doR (W t) q.S q.L q.T).2.2.length<=(q.W++[q.p]).length
  rw[u8,E4];omega
 ·show(q.W++[q.p]).length<=m
  rw[u8,E4];omega
 ·have z:¬l.length=0:=of_decide_eq_false z
  have l2:=hv.two l (mI hl)
  refine .inr ⟨t,(a1y (W t) (doR (W t) q.S q.L q.T).1).toNat,l,_,?_,hl,g8 ?_⟩
  ·rcases a5y (w:=W t) (doR (W t) q.S q.L q.T).1 with u | u <;> rw[u] <;> rfl
  ·rcases a5y (w:=W t) (doR (W t) q.S q.L q.T).1 with u | u
   ·rw[u];show 0<l.length;omega
   ·have:=(ha t l hl).mpr (a9H (doR (W t) q.S q.L q.T).1 (by rw[u];decide))
    rw[u];show 1<l.length;omega
 ·rw[<-e1,<-er]
  show rn N W (m - (q.W++[q.p]).length) _=_
  rw[u8,E4,show m - q.W.length=(m - (q.W.length+1))+1 by omega]
  show _=if q.e=true then q else rn N W _ (st1 N W q)
  rw[if_neg (by rw[he];decide)]
 ·show(q.W++[q.p]).length=_
  rw[u8,E4]
end
theorem b1C(n:Nat){K:Fg}{S:List Stp}(ha:E8 K H a S)(hb:E8 K H b S):Dq K H (n+2) (.ref a) (.ref b):=by
 obtain⟨vs,v1,v2,v3⟩:=ha.ex
 obtain⟨us,u1,u2,u3⟩:=hb.ex
 refine .lst (SqL.of v1) (SqL.of u1) (by simp[v2,u2]) fun j x y f1 f2=>?_
 rw[d8]at f1 f2
 cases e1:vs[j]? with
 | none=>rw[e1]at f1;cases f1
 | some v=>
  cases e2:us[j]? with
  | none=>rw[e2]at f2;cases f2
  | some u=>
   rw[e1]at f1
   rw[e2]at f2
   cases f1
   cases f2
   obtain⟨s,hs⟩:∃s,S[j]? = some s:=⟨_,g8 (by have:=(gI e1);omega)⟩
   refine .tup (v3 j v s e1 hs).sq (u3 j u s e2 hs).sq rfl fun i x y g1 g2=>?_
   rw[g1]at g2
   cases g2
   rcases i with _ | _ | i
   ·cases g1;exact .flat rfl
   ·cases g1;exact .flat rfl
   ·simp at g1
theorem a3G{K:Fg}{S:List Stp}(ha:E8 K H a S)(hb:E8 K H b S):Dq K H 2 (.ref a) (.ref b):=b1C 0 ha hb
section
variable {K:Fg}{r:Rs}
theorem a7q.same{q:Addr}(h:a7q K H q r)(s:A9 H H'):a7q K H' q r:=by
 obtain⟨tl,wl,sl,h1,h2,h3,h4,h5⟩:=h
 exact⟨tl,wl,sl,s _ _ h1,s _ _ h2,h3.same s,s _ _ h4,h5⟩
theorem c9x{S:Sto}(h:bdS S):((SD S).map (·.1)).Nodup:=by
 unfold SD
 rw[S9]
 show(List.map (fun p:Str×Int=>(Sum.inr p.1:Key)) S).Nodup
 rw[show(fun p:Str×Int=>(Sum.inr p.1:Key))=(fun s=>(Sum.inr s:Key)) ∘ (fun p:Str×Int=>p.1)from rfl,<-S9]
 exact c4Z.mpr (List.Pairwise.imp (fun ne e=>ne (Sum.inr.inj e)) h.1)
theorem a9c{S:Sto}:(SD S).all (fun p=>N4 p.2)=true:=by
 rw[M6]
 intro z hz
 obtain⟨u,_,rfl⟩:=D8.mp hz
 rfl
theorem a7q.dd{q:Addr}(h1:a7q K H p r)(h2:a7q K H q r):∃xs ys,H p=some (.tup xs)/\H q=some (.tup ys)/\xs.length=4/\ys.length=4/\ys[3]? = some (.bl r.e)/\∀(j:Nat) u v,xs[j]? = some u->ys[j]? = some v->Dd K H u v:=by
 obtain⟨t1,w1,s1,a1,a2,a3,a4,a5⟩:=h1
 obtain⟨t2,w2,s2,b1,b2,b3,b4,b5⟩:=h2
 refine⟨_,_,a1,b1,rfl,rfl,rfl,fun j u v e1 e2=>?_⟩
 match j with
 | 0=>
  cases e1;cases e2
  refine .inl (.lst (SqL.of a2) (SqL.of b2) rfl fun i x y f1 f2=>?_)
  rw[f1]at f2
  cases f2
  rw[d8]at f1
  obtain⟨z,_,rfl⟩:=O7.mp f1
  exact .flat rfl
 | 1=>
  cases e1;cases e2
  exact .inl (b1C 1 a3 b3)
 | 2=>
  cases e1;cases e2
  refine .inr ⟨s1,s2,_,rfl,rfl,a4,b4,c9x a5,a9c⟩
 | 3=>
  cases e1;cases e2
  exact .inl (.flat rfl)
 | j+4=>cases e1
end
structure PlK(K:Fg)(c:Cn)(H:Hp)(x:Addr)(N:Nt)(rs:List Addr)(RC:Nat->List V)(W:Nat->Rw):Prop where
 pz:∃Z:Addr->Prop,a4z K c Z rs H x N
 rc:b0J H rs RC
 rw:∀(i:Nat) p,rs[i]? = some p->RwS H (RC i) (W i)
 ask:c2H N W
section
variable {K:Fg}{c:Cn}{x:Addr}{W:Nat->Rw}{E:XK}
theorem PlK.same(h:PlK K c H x N rs RC W)(s:A9 H H'):PlK K c H' x N rs RC W:=let⟨Z,p⟩:=h.pz; ⟨⟨Z,p.same s⟩,h.rc.ts (A9.ts s),fun i p e=>(h.rw i p e).ts (A9.ts s),h.ask⟩
theorem PlK.kept(h:PlK K c H x N rs RC W)(hB:Bag H b d)(hv:a1n N)(k:D9 b H H'):PlK K c H' x N rs RC W:=let⟨Z,p⟩:=h.pz; ⟨⟨Z,p.kept hB hv.two k⟩,h.rc.ts (k.ts hB),fun i p e=>(h.rw i p e).ts (k.ts hB),h.ask⟩
theorem PlK.len(h:PlK K c H x N rs RC W):rs.length=N.length:=by
 obtain⟨Z,p⟩:=h.pz
 obtain⟨_,_,_,_,_,_,_,_,_,q⟩:=p.r.ex
 exact q
theorem c7W{q:Bool}(h:RwS H xs w)(hq:∃k r,xs=.str k::r/\decide ((k:Str) = "ask")=q):q=true↔∃v,w=.ask v:=by
 obtain⟨k,r,e,rfl⟩:=hq
 cases w with
 | set n k0 a0 b0=>
  obtain⟨_,rfl,_⟩:=h
  cases e
  exact⟨fun z=>absurd z (by decide),fun⟨v,z⟩=>nomatch z⟩
 | copy n v=>
  obtain⟨rfl,_⟩:=h
  cases e
  exact⟨fun z=>absurd z (by decide),fun⟨v,z⟩=>nomatch z⟩
 | take n=>
  obtain⟨rfl,_⟩:=h
  cases e
  exact⟨fun z=>absurd z (by decide),fun⟨v,z⟩=>nomatch z⟩
 | tell v=>
  obtain⟨rfl,_⟩:=h
  cases e
  exact⟨fun z=>absurd z (by decide),fun⟨v,z⟩=>nomatch z⟩
 | ask v=>
  obtain⟨rfl,_⟩:=h
  cases e
  exact⟨fun _=>⟨v,rfl⟩,fun _=>by decide⟩
 | skip=>
  cases h
  cases e
  exact⟨fun z=>absurd z (by decide),fun⟨v,z⟩=>nomatch z⟩
theorem c6C(hz:a4z K c Z rs H x N):∃RC W,PlK K c H x N rs RC W:=by
 obtain⟨dx,r,n,e,es,ns,h1,⟨hR,hra⟩,_⟩:=id hz.ex
 obtain⟨RC,hr⟩:=c0W hR hra
 have ex:∀i:Nat,∃w:Rw,∀p,rs[i]? = some p->RwS H (RC i) w:=fun i=>by
  cases e:rs[i]? with
  | none=>exact⟨.skip,fun p z=>nomatch z⟩
  | some p=>
   obtain⟨w,hw⟩:=(hr i p e).2.rw
   exact⟨w,fun _ _=>hw⟩
 obtain⟨W,hW⟩:=Classical.axiomOfChoice ex
 refine⟨RC,W,⟨Z,hz⟩,hr,hW,fun i l hl=>?_⟩
 obtain⟨rs',r1,r2,r3⟩:=hR.ex
 obtain rfl:rs'=rs:=by
  rw[hra]at r1
  exact(a0u (f:=V.ref) (fun a b h=>V.ref.inj h) |>.mp (HO.lst.inj (Option.some.inj r1))).symm
 have hi:=(gI hl)
 obtain⟨p,hp⟩:∃p,rs'[i]? = some p:=⟨_,g8 (by omega)⟩
 obtain⟨p',xs,ep,hx,_,hq⟩:=r3 i p l hp hl
 cases ep
 rw[(hr i p hp).1]at hx
 cases hx
 rw[<-c7W (hW i p hp) hq]
 simp
theorem a1A{st:Addr}(ck:a7s K c)(h:PlK K c H x N rs RC W)(hv:a1n N)
  (hst:H st=some (.dK (SD S0))) (bd:bdS S0) (l0:S0.length<=100) (htk:H tk=some (.lst (L0.map V.int))) (bl:∀x∈L0,0<=x/\x<1000000000000) (hm:m<=5000)
  (k:∀q H',b9C K H H' q (rn N W m ⟨S0,L0.reverse,[],[],FST,false⟩)->A9 H H'->Q (.ref q) H'):a1a K c [.ref x,.ref st,.ref tk,.int (m:Int)] H Q E:=by
 obtain⟨Z,pz⟩:=h.pz
 exact c6e ck pz hv h.rc h.rw h.ask hst bd l0 htk bl hm k
end
inductive Fw(N:Nt):Stp->List Stp->Nat->Prop
 | one {s:Stp}:a1E N s->Fw N s [] (L1 N s)
 | cons {s s':Stp} {r:List Stp} {t:Nat}:a1E N s->s'.1=(L1 N s:Int)->Fw N s' r t->Fw N s (s'::r) t
theorem c7N{p q:Nat}:¬(((p:Int),(q:Int)):Stp)=FST:=by
 unfold FST
 intro z
 have:=congrArg Prod.fst z
 simp at this
theorem b7G{p q:Nat}{t:Nat}(h1:N[p]? = some l)(h2:l[q]? = some t):L1 N ((p:Int),(q:Int))=t:=by
 unfold L1
 rw[if_neg (by
  unfold FST
  intro z
  have:=congrArg Prod.fst z
  simp at this)]
 show(N.getD (p:Int).toNat []).getD (q:Int).toNat 0=t
 rw[A7,A7]
 simp[T0,h1,h2]
theorem b0m{K:Fg}{E:XK}(hn:J0 H na N)(ha:a0U K H a s)(hs:a1E N s)(k:Q (.int (L1 N s:Nat)) H):a4U K [.ref na,.ref a] H Q E:=by
 have sq:=ha.sq
 refine⟨rfl,?_⟩
 unfold b7q
 nofun
 exists ⟨a,0,_,_,rfl,rfl,sq,V3 _ _,?_⟩
 rcases hs with rfl | ⟨p,q,l,t,rfl,h1,h2⟩
 ·exists J2 (by decide) ?_
  exact k
 ·exists C5 (d1C (by show ¬((p:Int)<0);omega)) ?_
  obtain⟨xs,y,f1,f2,f3,_⟩:=hn.at h1
  refine⟨a,0,_,_,rfl,rfl,sq,V3 _ _,?_⟩
  exists L9 f1 f2 ?_
  refine⟨a,1,_,_,rfl,rfl,sq,a0O _ _ _,?_⟩
  refine L9 f3 (c5z h2) ?_
  rw[b7G h1 h2]at k
  exact k
theorem a6D{K:Fg}{n:Int}{E:XK}(k:Q (.bl true) H):a4T K [.int n] H Q E:=by
 refine⟨rfl,?_⟩
 unfold b7k
 ext
 exists a3b rfl (by decide) ?_
 exists J2 rfl ?_
 exists a3b rfl (by decide) ?_
 exact k
theorem b6E{K:Fg}{E:XK}(hn:J0 H na N)(ha:a0U K H a s)(hs:a1E N s)(k:∀H',A9 H H'->Q (.bl true) H'):a3W K [.ref na,.ref a] H Q E:=by
 have sq:=ha.sq
 refine⟨rfl,?_⟩
 unfold b1x
 nofun
 exists ⟨a,_,rfl,sq,?_⟩
 exists C5 rfl ?_
 exists ⟨a,_,rfl,sq,?_⟩
 exists C5 rfl ?_
 exists ⟨a,0,_,_,rfl,rfl,sq,V3 _ _,?_⟩
 exists a6D ?_
 exists C5 rfl ?_
 exists ⟨a,1,_,_,rfl,rfl,sq,a0O _ _ _,?_⟩
 exists a6D ?_
 exists C5 rfl ?_
 nofun
 refine z8 (by simp) fun z H1 hz e1 s1=>?_
 have sq1:=(ha.ts (A9.ts s1)).sq
 refine⟨_,_,_,_,rfl,rfl,sq1,SqT.of e1,rfl,rfl,?_⟩
 rw[eq2]
 ext
 rcases hs with rfl | ⟨p,q,l,t,rfl,h1,h2⟩
 ·exists J2 (by decide) ?_
  exact k H1 s1
 ·refine C5 (by
   have:decide ((((p:Int),(q:Int)).1,((p:Int),(q:Int)).2)=FST)=false:=d1C c7N
   rw[this]) ?_
  obtain⟨xs,y,f1,f2,f3,f4⟩:=hn.at h1
  ext
  exists ⟨a,0,_,_,rfl,rfl,sq1,V3 _ _,?_⟩
  exists J2 (d1D (by show(0:Int)<=(p:Int);omega)) ?_
  exists O8 (s1 _ _ f1) ?_
  have hp:=(gI h1)
  have hq:=(gI h2)
  exists J2 (d1D (by show(p:Int)<(xs.length:Int);omega)) ?_
  exists ⟨a,1,_,_,rfl,rfl,sq1,a0O _ _ _,?_⟩
  exists J2 (d1D (by show(0:Int)<=(q:Int);omega)) ?_
  refine⟨a,0,_,_,rfl,rfl,sq1,V3 _ _,?_⟩
  exists L9 (s1 _ _ f1) f2 ?_
  refine O8 (s1 _ _ f3) ?_
  rw[U0]
  ext
  have:=k H1 s1
  rw[show decide (((p:Int),(q:Int)).2<(l.length:Int))=true from d1D (by show(q:Int)<(l.length:Int);omega)]
  exact this
theorem b3F(a b:List Nat):IL (a++b)=IL a++IL b:=by unfold IL;rw[D7]
theorem b2J{K:Fg}{w:Addr}{S:List Stp}{E:XK}(hn:J0 H na N)(hw:E8 K H w S)(his:∀x∈S,a1E N x)(hlk:∀(i:Nat) a b,S[i]? = some a->S[i+1]? = some b->b.1=(L1 N a:Int))(lS:S.length<=1000)
  (k:∀D H',H D=none->H' D=some (.lst (IL (S.map (L1 N))))->A9 H H'->Q (.ref D) H'):a5v K [.ref na,.ref w] H Q E:=by
 obtain⟨vs,v1,v2,v3⟩:=hw.ex
 refine⟨rfl,?_⟩
 unfold b4j
 nofun
 exists a3b (s := "list") (by simp only[a3n,v1]) (by decide) ?_
 exists C5 (by decide) ?_
 nofun
 exists z8 (by simp) fun D H1 hD e1 s1=>?_
 exact_mod_cast a0o ?_
 specialize a1z (a6U ?_)
 refine⟨w,rfl,⟨_,SqL.of (s1 _ _ v1)⟩,?_⟩
 refine b7K S.length (fun i σ H2=>∃x3 x4,σ=[some (.ref na),some (.ref w),some (.ref D),x3,x4]/\H2 D=some (.lst (IL ((S.take i).map (L1 N))))/\A9 H H2) ⟨_,_,rfl,e1,s1⟩ ?_ ?_ ?_
 ·rintro _ H2 ⟨x3,x4,rfl,hD2,s2⟩
  exists ⟨⟨_,SqL.of (s2 _ _ v1),by rw[c4,v2];exact o5 _⟩,?_⟩
  rw[X5]at hD2
  exact k D H2 hD hD2 s2
 ·rintro i _ H2 hi ⟨x3,x4,rfl,hD2,s2⟩
  exact⟨_,_,SqL.of (s2 _ _ v1),by rw[d8,g8 (show i<vs.length by omega)];rfl⟩
 ·rintro i _ H2 hi ⟨x3,x4,rfl,hD2,s2⟩ x H3 ⟨p,y,hp,rfl,rfl,gy⟩
  obtain⟨va,f1⟩:∃va,vs[i]? = some va:=⟨_,g8 (by omega)⟩
  have gy:=gy _ (SqL.of (s2 _ _ v1))
  rw[d8,f1]at gy
  cases gy
  obtain⟨s,hs⟩:∃s,S[i]? = some s:=⟨_,g8 hi⟩
  refine a8P (SqT.of g7) ?_
  have s3:A9 H2 (upd H2 p (.tup [V.int (i:Int),V.ref va])):=D6 hp
  obtain⟨H3,hH3⟩:∃H3,H3=upd H2 p (.tup [V.int (i:Int),V.ref va]):=⟨_,rfl⟩
  rw[<-hH3]at s3 ⊢
  have s03:=s2.trans s3
  have st3:a0U K H3 va s:=(v3 i va s f1 hs).ts (A9.ts s03)
  have iss:=his s (mI hs)
  have tk:(S.take (i+1)).map (L1 N)=(S.take i).map (L1 N)++[L1 N s]:=by
   rw[P8,hs,D7];rfl
  nofun
  exists b6E (hn.same s03) st3 iss fun H4 s4=>?_
  refine C5 rfl ?_
  have hD4:=s4 _ _ (s3 _ _ hD2)
  have st4:=st3.ts (A9.ts s4)
  ext
  cases i with
  | zero=>
   refine C5 (d1C (by omega)) ?_
   exists C5 rfl ?_
   specialize a6j ?_
   exists ⟨X9 hD4,?_⟩
   exists b0m (hn.same (s03.trans s4)) st4 iss ?_
   refine a0p hD4 (J7 (by rw[U0,c4,J4];omega)) ?_
   refine⟨_,_,rfl,?_,fun b o e=>?_⟩
   ·rw[g7,tk,b3F]
    rfl
   ·rw[o4 (d9 e hD)];exact s4 _ _ (s03 _ _ e)
  | succ j=>
   exists J2 (d1D (by omega)) ?_
   exists ⟨va,0,_,_,rfl,rfl,st4.sq,V3 _ _,?_⟩
   obtain⟨s',hs'⟩:∃s',S[j]? = some s':=⟨_,g8 (by omega)⟩
   have tk':(S.take (j+1)).map (L1 N)=(S.take j).map (L1 N)++[L1 N s']:=by
    rw[P8,hs',D7];rfl
   have hD4':=hD4
   rw[tk',b3F]at hD4'
   exists L9 hD4' b0H ?_
   refine C5 (by
    have:=hlk j s' s hs' hs
    rw[this]
    simp) ?_
   ext
   specialize a6j ?_
   exists ⟨X9 hD4,?_⟩
   exists b0m (hn.same (s03.trans s4)) st4 iss ?_
   refine a0p hD4 (J7 (by rw[U0,c4,J4];omega)) ?_
   refine⟨_,_,rfl,?_,fun b o e=>?_⟩
   ·rw[g7,tk,b3F]
    rfl
   ·rw[o4 (d9 e hD)];exact s4 _ _ (s03 _ _ e)
def V2(w:Rw):Str:=match w with
 | .set .. => "set"
 | .copy .. => "copy"
 | .take .. => "take"
 | .tell .. => "tell"
 | .ask .. => "ask"
 | .skip => "skip"
section
variable {K:Fg}{l:Addr}{S:Sto}{v1 v2:V}{T:List Int}{kd:Str}{E:XK}
theorem c3q(h:RwS H xs w):∃r,xs=.str (V2 w)::r:=by
 cases w with
 | set n k a b=>obtain⟨q,rfl,_⟩:=h;exact⟨_,rfl⟩
 | copy n v=>obtain⟨rfl,_⟩:=h;exact⟨_,rfl⟩
 | take n=>obtain⟨rfl,_⟩:=h;exact⟨_,rfl⟩
 | tell v=>obtain⟨rfl,_⟩:=h;exact⟨_,rfl⟩
 | ask v=>obtain⟨rfl,_⟩:=h;exact⟨_,rfl⟩
 | skip=>cases h;exact⟨_,rfl⟩
theorem c7z(h:V2 w=("set" : Str)):∃n k a b,w=.set n k a b:=by
 cases w with
 | set n k a b=>exact⟨n,k,a,b,rfl⟩
 | _=>dsimp only[V2]at h;exact absurd h (by decide)
theorem c4x(h:V2 w=("copy" : Str)):∃n v,w=.copy n v:=by
 cases w with
 | copy n v=>exact⟨n,v,rfl⟩
 | _=>dsimp only[V2]at h;exact absurd h (by decide)
theorem c4w(h:V2 w=("take" : Str)):∃n,w=.take n:=by
 cases w with
 | take n=>exact⟨n,rfl⟩
 | _=>dsimp only[V2]at h;exact absurd h (by decide)
theorem c4v(h:V2 w=("tell" : Str)):∃v,w=.tell v:=by
 cases w with
 | tell v=>exact⟨v,rfl⟩
 | _=>dsimp only[V2]at h;exact absurd h (by decide)
theorem c7A(h:V2 w=("ask" : Str)):∃v,w=.ask v:=by
 cases w with
 | ask v=>exact⟨v,rfl⟩
 | _=>dsimp only[V2]at h;exact absurd h (by decide)
theorem b4J(hS:H a=some (.dK (SD S)))(o:OpN v)(k:Q (.int (Z7 S v)) H):a8v K [v,.ref a] H Q E:=by
 obtain⟨_,h⟩:=a1j (K:=K) (E:=E) hS o k
 exact⟨rfl,h⟩
theorem b2F{b:Bool}(h:Q (.int (if b then 1 else 0)) H):b6d [.bl b] H Q:=h
theorem b3d(hp:H p=some (.tup [.str kd,v1,v2]))(hS:H a=some (.dK (SD S)))(bd:bdS S)(o1:OpN v1)(o2:OpN v2)(k:Q (.int (wv kd (Z7 S v1) (Z7 S v2))) H):a2q K [.ref p,.ref a] H Q E:=by
 obtain⟨x0,x1⟩:=bd.wof o1
 obtain⟨y0,y1⟩:=bd.wof o2
 refine⟨rfl,?_⟩
 unfold a8r
 nofun
 exists F4 hp (a0O _ _ _) ?_
 exists b4J hS o1 ?_
 nofun
 exists F4 hp (a8b _ _ _ _) ?_
 refine b4J hS o2 ?_
 generalize Z7 S v1=x at *
 generalize Z7 S v2=y at *
 unfold wv at k
 ext
 nofun
 exists F4 hp (V3 _ _) ?_
 refine Z0 (fun e=>?_) (fun e=>?_)
 ·rw[if_pos ((a0s _ _).mp e)]at k
  ext
  exact Y2 (by decide) k
 rw[if_neg (fun z=>e ((a0s _ _).mpr z))]at k
 ext
 nofun
 exists F4 hp (V3 _ _) ?_
 refine Z0 (fun e=>?_) (fun e=>?_)
 ·rw[if_pos ((a0s _ _).mp e)]at k
  ext
  exact Y2 (by decide) k
 rw[if_neg (fun z=>e ((a0s _ _).mpr z))]at k
 ext
 nofun
 exists F4 hp (V3 _ _) ?_
 refine Z0 (fun e=>?_) (fun e=>?_)
 ·rw[if_pos ((a0s _ _).mp e)]at k
  ext
  exists Y2 (.inl (by omega)) ?_
  exact Y2 (by decide) k
 rw[if_neg (fun z=>e ((a0s _ _).mpr z))]at k
 ext
 nofun
 exists F4 hp (V3 _ _) ?_
 refine Z0 (fun e=>?_) (fun e=>?_)
 ·rw[if_pos ((a0s _ _).mp e)]at k
  ext
  refine b2F ?_
  rw[show(if decide (x<y)=true then (1:Int)else 0)=if x<y then 1 else 0 by simp]
  exact k
 rw[if_neg (fun z=>e ((a0s _ _).mpr z))]at k
 ext
 refine b2F ?_
 rw[show(if decide (V.int x=V.int y)=true then (1:Int)else 0)=if x=y then 1 else 0 by simp]
 exact k
theorem b3h{k0 kk:Str}{r:List V}{body:TS}(e12:σ[12]? = some (some (.ref p)))(hx:H p=some (.tup (.str k0::r)))(h1:k0=kk->body D σ H)(h2:k0≠kk->D.nx σ H) :
  K9 (D0 (tOp qEq (tOp qIx (c5 12) (tC (.int 0))) (tC (.str kk)))) body E9 D σ H:=by
 refine c8G (c0K (c3o (c3o (c0J e12 (s_c (F4 hx (V3 _ _) (s_c (c8R rfl ?_))))))))
 refine⟨_,rfl,?_⟩
 refine Z0 (fun e=>?_) (fun e=>?_)
 ·exact h1 ((a0s _ _).mp e)
 ·exact c0P (h2 fun z=>e ((a0s _ _).mpr z))
theorem c8L(n:Nat):(c8 n [V.int 0]).flatten=(c8 n (0:Int)).map V.int:=by
 induction n with
 | zero=>rfl
 | succ n ih=>rw[W7,a1Z,ih,W7];rfl
theorem c3d(L:List Int)(u:Nat):(L++c8 (u+1) 0)[u]? = some (((L.drop u).reverse).getLast?.getD 0):=by
 rw[List.getLast?_reverse]
 by_cases h:u<L.length
 ·rw[L3 h,g8 h,b5s h];rfl
 ·rw[K8 (by omega),List.drop_eq_nil_of_le (by omega),K7,if_pos (by omega)];rfl
theorem b9i(L:List Int)(u:Nat):((L.drop u).reverse).dropLast=(L.drop (u+1)).reverse:=by
 rw[List.dropLast_reverse,List.tail_drop]
end
section
variable {K:Fg}{st:Addr}{W:Nat->Rw}{E:XK}
theorem b6C(hra:H ra=some (.lst (rs.map V.ref)))(lrs:rs.length=N.length)(hn:J0 H na N)(hv:a1n N)(hr:b0J H rs RC)(hw:∀(i:Nat) p,rs[i]? = some p->RwS H (RC i) (W i))(ha:c2H N W)
  (hst:H st=some (.dK (SD S0))) (bd:bdS S0) (l0:S0.length<=100) (htk:H tk=some (.lst (L0.map V.int))) (bl:∀x∈L0,0<=x/\x<1000000000000) (lL:L0.length<=100) (hm:m<=1000)
  (k:∀q H',b9C K H H' q (rn N W m ⟨S0,L0.reverse,[],[],FST,false⟩)->A9 H H'->Q (.ref q) H'):a2H K [.ref ra,.ref na,.ref st,.ref tk,.int (m:Int)] H Q E:=by
 have h400:=hv.le
 refine⟨rfl,?_⟩
 unfold b1w
 nofun
 unfold a3c
 simp only[hst]
 intro sd hsd
 have s1:A9 H (upd H sd (.dK (SD S0))):=D6 hsd
 obtain⟨H1,hH1⟩:∃H1,H1=upd H sd (.dK (SD S0)):=⟨_,rfl⟩
 have d1:H1 sd=some (.dK (SD S0)):=hH1 ▸ g7
 rw[<-hH1]at s1 ⊢
 ext
 nofun
 exists z8 (by simp) fun tl H3 htl t3 s3=>?_
 nofun
 exists z8 (by simp) fun wl H4 hwl w4 s4=>?_
 nofun
 nofun
 exists z8 (by simp) fun fs H5 hfs f5 s5=>?_
 have s05:=((s1.trans s3).trans s4).trans s5
 have n3:tl≠wl:=d9 t3 hwl
 have ftl:H tl=none:=s1.free htl
 have fwl:H wl=none:=(s1.trans s3).free hwl
 obtain⟨q0,hq0⟩:∃q0:Rs,q0=⟨S0,L0.reverse,[],[],FST,false⟩:=⟨_,rfl⟩
 rw[<-hq0]at k
 exact_mod_cast a0o ?_
 specialize a1z (a0N ?_)
 refine⟨m,rfl,by omega,by omega,?_⟩
 rw[A7]
 refine a0I (fun i σ Hi=>∃(q:Rs) (sa:Addr) (u:Nat) (y10 y11 y12:Option V),σ=[some (.ref ra),some (.ref na),some (.ref st),some (.ref tk),some (.int (m:Int)),some (.ref sd),some (.ref tl),some (.ref wl),some (.int (u:Int)),some (.ref sa),y10,y11,y12]/\Hi sd=some (.dK (SD q.S))/\q.L=(L0.drop u).reverse/\Hi tl=some (.lst (q.T.map V.int))/\E8 K Hi wl q.W/\a0U K Hi sa q.p/\A9 H Hi/\bdS q.S/\q.S.length<=100+i/\q.T.length<=i/\q.W.length=i/\u<=i/\q.e=false/\a1E N q.p/\rn N W (m - i) q=rn N W m q0) ?_ ?_ ?_
 ·subst hq0
  exact⟨⟨S0,L0.reverse,[],[],FST,false⟩,_,0,_,_,_,rfl,s5 _ _ (s4 _ _ (s3 _ _ d1)),by simp,s5 _ _ (s4 _ _ t3),⟨[],s5 _ _ w4,rfl,fun i p s e=>(nomatch e)⟩,.inl f5,s05,bd,by simpa using l0,o5 _,rfl,o5 _,rfl,.inl rfl,rfl⟩
 ·rintro i _ Hi hi ⟨q,sa,u,y10,y11,y12,rfl,g1,g2,g3,g4,g5,si,b1,b3,b4,b5,bu,he,is,er⟩
  rw[X3]
  have b2:∀x∈q.L,0<=x/\x<1000000000000:=fun x hx=>by
   rw[g2]at hx
   exact bl x (List.mem_of_mem_drop (c5B.mp hx))
  obtain⟨ps,p1,p2,p3⟩:=id g4.ex
  obtain⟨t,ht⟩:∃t,t=L1 N q.p:=⟨_,rfl⟩
  have htn:t<N.length:=ht ▸ a7b hv is
  obtain⟨l,hle⟩:∃l,l=N[t]:=⟨_,rfl⟩
  have hl:=O9 htn
  rw[<-hle]at hl
  obtain⟨rx,hrx⟩:∃rx,rs[t]? = some rx:=⟨_,g8 (by omega)⟩
  ext
  nofun
  refine b0m (hn.same si) g5 is ?_
  rw[<-ht]
  ext
  nofun
  exists L9 (si _ _ hra) (a0W (by rw[d8,hrx];rfl)) ?_
  nofun
  specialize a6j ?_
  exists ⟨X9 p1,?_⟩
  refine a0p p1 (J7 (by rw[c4];omega)) ?_
  have w5:=E8.snoc p1 p2 p3 g5
  obtain⟨H6,hH6⟩:∃H6,H6=upd Hi wl (.lst (ps.map V.ref++[.ref sa])):=⟨_,rfl⟩
  have sd6:H6 sd=some (.dK (SD q.S)):=by rw[hH6,o4 (M3 g1 p1 (by intro z;cases z))];exact g1
  have tl6:H6 tl=some (.lst (q.T.map V.int)):=by rw[hH6,o4 n3];exact g3
  have s6:A9 H H6:=fun b o e=>by rw[hH6,o4 (d9 e fwl)];exact si _ _ e
  rw[<-hH6]at w5 ⊢
  ext
  obtain⟨w,hwd⟩:∃w,w=W t:=⟨_,rfl⟩
  have rwH:=hw t rx hrx
  rw[<-hwd]at rwH
  obtain⟨r0,exs⟩:=c3q rwH
  have hxH:H rx=some (.tup (.str (V2 w)::r0)):=exs ▸ (hr t rx hrx).1
  have row:∀ {Hj:Hp},A9 H Hj->RwS Hj (.str (V2 w)::r0) w:=fun sj=>exs ▸ rwH.ts (A9.ts sj)
  obtain⟨dS,hdS⟩:∃dS,dS=(doR w q.S q.L q.T).1:=⟨_,rfl⟩
  obtain⟨dT,hdT⟩:∃dT,dT=(doR w q.S q.L q.T).2.2:=⟨_,rfl⟩
  obtain⟨du,hdu⟩:∃du,du=if V2 w=("take" : Str)then u+1 else u:=⟨_,rfl⟩
  obtain⟨P,hP⟩:∃P:List Str->St->Hp->Prop,P=fun dn σ Hj=>σ=[some (.ref ra),some (.ref na),some (.ref st),some (.ref tk),some (.int (m:Int)),some (.ref sd),some (.ref tl),some (.ref wl),some (.int ((if V2 w∈dn then du else u:Nat):Int)),some (.ref sa),some (.int (i:Int)),some (.int (t:Int)),some (.ref rx)]/\Hj sd=some (.dK (SD (if V2 w∈dn then dS else q.S)))/\Hj tl=some (.lst ((if V2 w∈dn then dT else q.T).map V.int))/\E8 K Hj wl (q.W++[q.p])/\A9 H Hj:=⟨_,rfl⟩
  have put:∀ {Hj:Hp} {n:Str} {j:Int} {D:a6v} {σ:St},Hj sd=some (.dK (SD q.S))->Hj tl=some (.lst (q.T.map V.int))->E8 K Hj wl (q.W++[q.p])->A9 H Hj->(∀Hk,Hk sd=some (.dK (SD (P6 q.S n j)))->Hk tl=some (.lst (q.T.map V.int))->E8 K Hk wl (q.W++[q.p])->A9 H Hk->D.nx σ Hk)->∃a H4,V.ref sd=.ref a/\a8e Hj a (.str n) (.int j) H4/\D.nx σ H4:=fun {Hj n j D σ} e1 e2 e3 e4 kk=>by
   refine⟨sd,_,rfl,a8e.k (k:=Sum.inr n) e1 (J7 (by unfold SD;rw[c4];omega)),?_⟩
   rw[b3C b1.1]
   have t8:O5 Hj (upd Hj sd (.dK (SD (P6 q.S n j)))):=fun b ys e=>(o4 (M3 e e1 (by intro z;cases z))).trans e
   obtain⟨ps',a1,_⟩:=id e3.ex
   exact kk _ g7 ((o4 (M3 e2 e1 (by intro z;cases z))).trans e2) (e3.off (M3 a1 e1 (by intro z;cases z)) t8) fun b o e=>by rw[o4 (d9 e hsd)];exact e4 _ _ e
  have skip:∀ {dn dn':List Str} {σ:St} {Hj:Hp},(V2 w∈dn'↔V2 w∈dn)->P dn σ Hj->P dn' σ Hj:=fun {dn dn' σ Hj} e h=>by
   rw[hP]at h ⊢
   by_cases z:V2 w∈dn
   ·simp only[if_pos z]at h
    simp only[if_pos (e.mpr z)]
    exact h
   ·simp only[if_neg z]at h
    simp only[if_neg (fun y=>z (e.mp y))]
    exact h
  have P0:P [] [some (.ref ra),some (.ref na),some (.ref st),some (.ref tk),some (.int (m:Int)),some (.ref sd),some (.ref tl),some (.ref wl),some (.int (u:Int)),some (.ref sa),some (.int (i:Int)),some (.int (t:Int)),some (.ref rx)] H6:=by
   rw[hP]
   simp only[if_neg (fun z:V2 w∈([]:List Str)=>nomatch z)]
   exact⟨by first | trivial | rfl,sd6,tl6,w5,s6⟩
  exact_mod_cast Y8 (P:=P ["set"]) ?_ ?_
  rotate_left
  ·intro nx hnx
   refine b3h rfl (s6 _ _ hxH) (fun e=>?_) (fun e=>hnx _ _ (skip (by simp[e]) P0))
   have hW:=row s6
   have hx:=s6 _ _ hxH
   obtain⟨n,k0,a0,b0,rfl⟩:=c7z e
   obtain⟨q2,er0,hq2,o1,o2,nm⟩:=hW
   cases er0
   specialize a3r ?_
   exists F4 hx (a8b _ _ _ _) ?_
   exists b3d hq2 sd6 b1 o1 o2 ?_
   refine F4 hx (a0O _ _ _) ?_
   refine put sd6 tl6 w5 s6 fun Hk k1 k2 k3 k4=>hnx _ _ ?_
   rw[hP]
   simp only[if_pos (show V2 (Rw.set n k0 a0 b0)∈(["set"]:List Str)from z9.mpr rfl)]
   rw[hdS,hdT,hdu]
   exact⟨rfl,k1,k2,k3,k4⟩
  rintro σ1 H7 P1
  exact_mod_cast Y8 (P:=P ["set","copy"]) ?_ ?_
  rotate_left
  ·intro nx hnx
   have P1':=P1
   rw[hP]at P1
   obtain⟨rfl,k1,k2,k3,s7⟩:=P1
   refine b3h rfl (s7 _ _ hxH) (fun e=>?_) (fun e=>hnx _ _ (skip (by simp[e]) P1'))
   have hW:=row s7
   have hx:=s7 _ _ hxH
   have nd:V2 w∉(["set"]:List Str):=by rw[e];decide
   simp only[if_neg nd]at k1 k2
   obtain⟨n,v,rfl⟩:=c4x e
   obtain⟨er0,o,nm⟩:=hW
   cases er0
   specialize a3r ?_
   exists F4 hx (a8b _ _ _ _) ?_
   exists b4J k1 o ?_
   refine F4 hx (a0O _ _ _) ?_
   refine put k1 k2 k3 s7 fun Hk j1 j2 j3 j4=>hnx _ _ ?_
   rw[hP]
   simp only[if_pos (show V2 (Rw.copy n v)∈(["set","copy"]:List Str)from(show("copy" : Str)∈(["set","copy"]:List Str) by decide))]
   rw[hdS,hdT,hdu]
   exact⟨rfl,j1,j2,j3,j4⟩
  rintro σ2 H8 P2
  exact_mod_cast Y8 (P:=P ["set","copy","take"]) ?_ ?_
  rotate_left
  ·intro nx hnx
   have P2':=P2
   rw[hP]at P2
   obtain⟨rfl,k1,k2,k3,s8⟩:=P2
   refine b3h rfl (s8 _ _ hxH) (fun e=>?_) (fun e=>hnx _ _ (skip (by simp[e]) P2'))
   have hW:=row s8
   have hx:=s8 _ _ hxH
   have nd:V2 w∉(["set","copy"]:List Str):=by rw[e];decide
   simp only[if_neg nd]at k1 k2 ⊢
   obtain⟨n,rfl⟩:=c4w e
   obtain⟨er0,nm⟩:=hW
   cases er0
   exact_mod_cast a0o ?_
   specialize a3r ?_
   exists z8 (by simp) fun z0 Ha hz0 ea sa'=>?_
   refine⟨z0,_,_,rfl,rfl,ea,by omega,by omega,?_,fun z1 hz1=>?_⟩
   ·rw[sizeLine_eq];simp;omega
   have sb:A9 Ha (upd Ha z1 (.lst (c8 ((u:Int)+1).toNat [V.int 0]).flatten)):=D6 hz1
   obtain⟨Hb,hHb⟩:∃Hb,Hb=upd Ha z1 (.lst (c8 ((u:Int)+1).toNat [V.int 0]).flatten):=⟨_,rfl⟩
   have eb:Hb z1=some (.lst ((c8 (u+1) (0:Int)).map V.int)):=by
    rw[hHb,g7,show((u:Int)+1).toNat=u+1 by omega,c8L]
   rw[<-hHb]at sb ⊢
   have s8b:=sa'.trans sb
   refine a4f (s8b _ _ (s8 _ _ htk)) eb ?_
   refine z8 (by simp;omega) fun z2 Hc hz2 ec sc=>?_
   have s8c:=s8b.trans sc
   have ta:=c3d L0 u
   ext
   exists L9 ec (a0W (j:=u) (v:=.int (((L0.drop u).reverse).getLast?.getD 0)) (by rw[<-D7,d8,ta];rfl)) ?_
   refine F4 (s8c _ _ hx) (a0O _ _ _) ?_
   exists put (s8c _ _ k1) (s8c _ _ k2) (k3.same s8c) (s8.trans s8c) fun Hk j1 j2 j3 j4=>?_
   refine hnx _ _ ?_
   rw[hP]
   simp only[if_pos (show V2 (Rw.take n)∈(["set","copy","take"]:List Str)from(show("take" : Str)∈(["set","copy","take"]:List Str) by decide))]
   rw[hdS,hdT,hdu]
   refine⟨rfl,?_,j2,j3,j4⟩
   show Hk sd=some (.dK (SD (P6 q.S n (q.L.getLast?.getD 0))))
   rw[g2]
   exact j1
  rintro σ3 H9 P3
  exact_mod_cast Y8 (P:=P ["set","copy","take","tell"]) ?_ ?_
  rotate_left
  ·intro nx hnx
   have P3':=P3
   rw[hP]at P3
   obtain⟨rfl,k1,k2,k3,s9⟩:=P3
   refine b3h rfl (s9 _ _ hxH) (fun e=>?_) (fun e=>hnx _ _ (skip (by simp[e]) P3'))
   have hW:=row s9
   have hx:=s9 _ _ hxH
   have nd:V2 w∉(["set","copy","take"]:List Str):=by rw[e];decide
   simp only[if_neg nd]at k1 k2 ⊢
   obtain⟨v,rfl⟩:=c4v e
   obtain⟨er0,o⟩:=hW
   cases er0
   ext
   specialize a6j ?_
   exists ⟨X9 k2,?_⟩
   exists F4 hx (a0O _ _ _) ?_
   exists b4J k1 o ?_
   refine a0p k2 (J7 (by rw[c4];omega)) ?_
   have t10:O5 H9 (upd H9 tl (.lst (q.T.map V.int++[.int (Z7 q.S v)]))):=O5.put k2
   refine hnx _ _ ?_
   rw[hP]
   simp only[if_pos (show V2 (Rw.tell v)∈(["set","copy","take","tell"]:List Str)from(show("tell" : Str)∈(["set","copy","take","tell"]:List Str) by decide))]
   rw[hdS,hdT,hdu]
   refine⟨rfl,(o4 (M3 k1 k2 (by intro z;cases z))).trans k1,?_,k3.off n3.symm t10,fun b o e=>by rw[o4 (d9 e ftl)];exact s9 _ _ e⟩
   rw[g7]
   show _=some (HO.lst ((q.T++[Z7 q.S v]).map V.int))
   rw[D7];rfl
  rintro σ4 H10 P4
  have fin:(if V2 w∈(["set","copy","take","tell"]:List Str)then du else u)=du/\(if V2 w∈(["set","copy","take","tell"]:List Str)then dS else q.S)=dS/\(if V2 w∈(["set","copy","take","tell"]:List Str)then dT else q.T)=dT:=by
   rw[hdS,hdT,hdu]
   cases w with
   | ask v=>exact⟨rfl,rfl,rfl⟩
   | skip=>exact⟨rfl,rfl,rfl⟩
   | set n k a b=>exact⟨if_pos (show("set" : Str)∈_ by decide),if_pos (show("set" : Str)∈_ by decide),if_pos (show("set" : Str)∈_ by decide)⟩
   | copy n v=>exact⟨if_pos (show("copy" : Str)∈_ by decide),if_pos (show("copy" : Str)∈_ by decide),if_pos (show("copy" : Str)∈_ by decide)⟩
   | take n=>exact⟨if_pos (show("take" : Str)∈_ by decide),if_pos (show("take" : Str)∈_ by decide),if_pos (show("take" : Str)∈_ by decide)⟩
   | tell v=>exact⟨if_pos (show("tell" : Str)∈_ by decide),if_pos (show("tell" : Str)∈_ by decide),if_pos (show("tell" : Str)∈_ by decide)⟩
  rw[hP]at P4
  simp only[fin.1,fin.2.1,fin.2.2]at P4
  obtain⟨rfl,k1,k2,k3,s10⟩:=P4
  have gd:N.getD t []=l:=by rw[O3,hl];rfl
  have eL:(doR w q.S q.L q.T).2.1=(L0.drop du).reverse:=by
   rw[hdu]
   cases w with
   | take n=>show q.L.dropLast=_;rw[g2,b9i];rfl
   | _=>exact g2
  have e1:st1 N W q=⟨dS,(L0.drop du).reverse,dT,q.W++[q.p],((t:Int),a1y w dS),decide (l.length=0)⟩:=by
   unfold st1
   rw[<-ht]
   show Rs.mk (doR (W t) q.S q.L q.T).1 (doR (W t) q.S q.L q.T).2.1 (doR (W t) q.S q.L q.T).2.2 (q.W++[q.p]) ((t:Int),a1y (W t) (doR (W t) q.S q.L q.T).1) (decide ((N.getD t []).length=0))=_
   rw[<-hwd,gd,eL,<-hdS,<-hdT]
  have er1:rn N W (m - (i+1)) (st1 N W q)=rn N W m q0:=by
   rw[<-er,show m - i=(m - (i+1))+1 by omega]
   show _=if q.e=true then q else rn N W _ (st1 N W q)
   rw[if_neg (by rw[he];decide)]
  have bS:bdS dS/\dS.length<=q.S.length+1/\dT.length<=q.T.length+1/\du<=u+1:=by
   refine⟨?_,?_,?_,by rw[hdu];split <;> omega⟩
   ·rw[hdS]
    cases hs:b5M w q.S q.L with
    | some ni=>rw[b3o hs];have:=b7v rwH b1 b2 hs;exact b1.put this.1 this.2
    | none=>
     cases w with
     | set n k a b=>cases hs
     | copy n v=>cases hs
     | take n=>cases hs
     | _=>exact b1
   ·rw[hdS]
    cases hs:b5M w q.S q.L with
    | some ni=>rw[b3o hs];exact a2K
    | none=>
     cases w with
     | set n k a b=>cases hs
     | copy n v=>cases hs
     | take n=>cases hs
     | _=>exact X4 _
   ·rw[hdT]
    cases w with
    | tell v=>show(q.T++[_]).length<=_;simp
    | _=>exact X4 _
  obtain⟨us,y,f1,f2',f3,_⟩:=(hn.same s10).at hl
  nofun
  exists L9 f1 f2' ?_
  refine z8 (by simp) fun z0 H11 hz0 e11 s11=>?_
  refine⟨_,a5C (s11 _ _ f3) e11 (a9e l) rfl,?_⟩
  refine⟨_,rfl,?_⟩
  have s011:=s10.trans s11
  by_cases hz:l.length=0
  ·have hz':l=[]:=b7c.mp hz
   exists J2 (by rw[hz'];rfl) ?_
   refine z8 (by simp) fun tp H12 htp e12 s12=>?_
   refine k tp H12 ?_ (s011.trans s12)
   rw[<-er1,a9T (by rw[e1];exact d1D hz),e1]
   have s1012:=s11.trans s12
   refine⟨tl,wl,sd,ftl,fwl,hsd,n3,?_,s1012 _ _ k2,k3.same s1012,s1012 _ _ k1,bS.1⟩
   rw[e12]
   show _=some (HO.tup [_,_,_,V.bl (decide (l.length=0))])
   rw[d1D hz]
  ·have hz':l≠[]:=fun z=>hz (by rw[z];rfl)
   exists C5 (by cases l with | nil=>exact(hz' rfl).elim | cons a r=>rfl) ?_
   have hx:=s011 _ _ hxH
   exists F4 hx (V3 _ _) ?_
   have l2:=hv.two l (mI hl)
   have nxt:∀ {Hz:Hp} {sb:Addr},A9 H11 Hz->Hz sb=some (.tup [.int (t:Int),.int (a1y w dS)])->∃(q:Rs) (sa:Addr) (u:Nat) (y10 y11 y12:Option V),[some (.ref ra),some (.ref na),some (.ref st),some (.ref tk),some (.int (m:Int)),some (.ref sd),some (.ref tl),some (.ref wl),some (.int (du:Int)),some (.ref sb),some (.int (i:Int)),some (.int (t:Int)),some (.ref rx)]=[some (.ref ra),some (.ref na),some (.ref st),some (.ref tk),some (.int (m:Int)),some (.ref sd),some (.ref tl),some (.ref wl),some (.int (u:Int)),some (.ref sa),y10,y11,y12]/\Hz sd=some (.dK (SD q.S))/\q.L=(L0.drop u).reverse/\Hz tl=some (.lst (q.T.map V.int))/\E8 K Hz wl q.W/\a0U K Hz sa q.p/\A9 H Hz/\bdS q.S/\q.S.length<=100+(i+1)/\q.T.length<=i+1/\q.W.length=i+1/\u<=i+1/\q.e=false/\a1E N q.p/\rn N W (m - (i+1)) q=rn N W m q0:=fun {Hz sb} sz ez=>by
    have s10z:=s11.trans sz
    refine⟨⟨dS,(L0.drop du).reverse,dT,q.W++[q.p],((t:Int),a1y w dS),decide (l.length=0)⟩,sb,du,_,_,_,rfl,s10z _ _ k1,rfl,s10z _ _ k2,k3.same s10z,.inl ez,s10.trans s10z,bS.1,by have:=bS.2.1;show dS.length<=_;omega,by have:=bS.2.2.1;show dT.length<=_;omega,by show(q.W++[q.p]).length=_;rw[u8,b5];rfl,by have:=bS.2.2.2;omega,d1C hz,?_,by rw[<-e1];exact er1⟩
    refine .inr ⟨t,(a1y w dS).toNat,l,_,?_,hl,g8 ?_⟩
    ·rcases a5y (w:=w) dS with u | u <;> rw[u] <;> rfl
    ·rcases a5y (w:=w) dS with u | u
     ·rw[u];show 0<l.length;omega
     ·have:=(ha t l hl).mpr (hwd ▸ a9H dS (by rw[u];decide))
      rw[u];show 1<l.length;omega
   have plain:V2 w≠("ask" : Str)->a1y w dS=0:=fun z=>by
    cases w with
    | ask v=>exact(z rfl).elim
    | _=>rfl
   by_cases ek:V2 w=("ask" : Str)
   ·refine J2 (by rw[ek];decide) ?_
    have hW:=row s011
    obtain⟨v,rfl⟩:=c7A ek
    obtain⟨er0,o⟩:=hW
    cases er0
    ext
    exists F4 hx (a0O _ _ _) ?_
    exists b4J (s11 _ _ k1) o ?_
    exists b2F ?_
    exists z8 (by simp) fun sb Hz hsb ez sz=>?_
    refine nxt sz ?_
    rw[ez]
    show _=some (HO.tup [_,V.int (if Z7 dS v=0 then 1 else 0)])
    rw[show(if decide (V.int (Z7 dS v)=V.int 0)=true then (1:Int)else 0)=if Z7 dS v=0 then 1 else 0 by simp]
   ·exists C5 (d1C fun z=>ek (V.str.inj z)) ?_
    exists b2F ?_
    exists z8 (by simp) fun sb Hz hsb ez sz=>?_
    refine nxt sz ?_
    rw[ez,plain ek];rfl
 ·rintro _ Hi ⟨q,sa,u,y10,y11,y12,rfl,g1,g2,g3,g4,g5,si,b1,b3,b4,b5,bu,he,is,er⟩
  rw[Nat.sub_self]at er
  have er:q=rn N W m q0:=er
  ext
  refine z8 (by simp) fun tp H12 htp e12 s12=>?_
  refine k tp H12 ?_ (si.trans s12)
  rw[<-er]
  exact⟨tl,wl,sd,ftl,fwl,hsd,n3,by rw[e12,he],s12 _ _ g3,g4.same s12,s12 _ _ g1,b1⟩
end
structure b5n(N:Nt)(r:Rs):Prop where
 is:∀s∈r.W,a1E N s
 lk:∀(i:Nat) a b,r.W[i]? = some a->r.W[i+1]? = some b->b.1=(L1 N a:Int)
 nx:r.e=false->a1E N r.p/\∀a,r.W.getLast? = some a->r.p.1=(L1 N a:Int)
section
variable {K:Fg}{W:Nat->Rw}{r:Rs}{E:XK}
theorem c3S(hv:a1n N)(ha:c2H N W)(h:b5n N r)(he:r.e=false):b5n N (st1 N W r):=by
 obtain⟨is,lk⟩:=h.nx he
 obtain⟨t,ht⟩:∃t,t=L1 N r.p:=⟨_,rfl⟩
 have htn:t<N.length:=ht ▸ a7b hv is
 obtain⟨l,hle⟩:∃l,l=N[t]:=⟨_,rfl⟩
 have hl:=O9 htn
 rw[<-hle]at hl
 have gd:N.getD t []=l:=by rw[O3,hl];rfl
 obtain⟨dS,hdS⟩:∃dS,dS=(doR (W t) r.S r.L r.T).1:=⟨_,rfl⟩
 have e1:st1 N W r=⟨dS,(doR (W t) r.S r.L r.T).2.1,(doR (W t) r.S r.L r.T).2.2,r.W++[r.p],((t:Int),a1y (W t) dS),decide (l.length=0)⟩:=by
  unfold st1
  rw[<-ht,hdS]
  show Rs.mk _ _ _ _ _ (decide ((N.getD t []).length=0))=_
  rw[gd]
 rw[e1]
 refine⟨fun s hs=>?_,fun i a b f1 f2=>?_,fun z=>⟨?_,fun a e=>?_⟩⟩
 ·rcases C8.mp hs with q | q
  ·exact h.is s q
  ·rw[z9.mp q];exact is
 ·rcases V6 f2 with ⟨h2,f2⟩ | ⟨h2,f2⟩
  ·rcases V6 f1 with ⟨_,f1⟩ | ⟨h1,_⟩
   ·exact h.lk i a b f1 f2
   ·omega
  ·rcases V6 f1 with ⟨h1,f1⟩ | ⟨h1,_⟩
   ·rw[f2]
    refine lk a ?_
    rw[List.getLast?_eq_getElem?,show r.W.length - 1=i by omega]
    exact f1
   ·omega
 ·have z:¬l.length=0:=of_decide_eq_false z
  have l2:=hv.two l (mI hl)
  refine .inr ⟨t,(a1y (W t) dS).toNat,l,_,?_,hl,g8 ?_⟩
  ·rcases a5y (w:=W t) dS with u | u <;> rw[u] <;> rfl
  ·rcases a5y (w:=W t) dS with u | u
   ·rw[u];show 0<l.length;omega
   ·have:=(ha t l hl).mpr (a9H dS (by rw[u];decide))
    rw[u];show 1<l.length;omega
 ·have e:(r.W++[r.p]).getLast? = some a:=e
  rw[V0]at e
  cases e
  rw[<-ht]
theorem b7B(hv:a1n N)(ha:c2H N W):∀(m:Nat) (r:Rs),b5n N r->b5n N (rn N W m r)/\(rn N W m r).W.length<=r.W.length+m
 | 0,r,h=>⟨h,o5 _⟩
 | m+1,r,h=>by
  unfold rn
  cases he:r.e with
  | true=>rw[if_pos rfl];exact⟨h,by omega⟩
  | false=>
   rw[if_neg (by decide)]
   obtain⟨a,b⟩:=b7B hv ha m _ (c3S (W:=W) hv ha h he)
   refine⟨a,J8 b ?_⟩
   show(r.W++[r.p]).length+m<=_
   rw[u8,E4];omega
theorem b8F:b5n N ⟨S0,L0,[],[],FST,false⟩:=⟨(fun s h=>nomatch h),(fun i a b h=>nomatch h),fun _=>⟨.inl rfl,fun a h=>nomatch h⟩⟩
end
section
variable {K:Fg}{E:XK}
def c0v:List Str:=["spare","k9","x1","y2","z3","w4"]
abbrev c4y(ss:List Str)(S:Sto):Prop:=∀x∈S.map (·.1),x∈ss\/x∈c0v
theorem c0u(l5:ss.length<=5):((["spare","k9","x1","y2","z3","w4"]:List Str).filter fun s => !decide (s∈ss))≠[]:=by
 intro z
 have:=a8R (["spare","k9","x1","y2","z3","w4"]:List Str) ss (by decide) fun x hx=>by
  by_cases h:x∈ss
  ·exact h
  ·have m:x∈(["spare","k9","x1","y2","z3","w4"]:List Str).filter fun s => !decide (s∈ss):=a1F.mpr ⟨hx,by simp[h]⟩
   rw[z]at m
   cases m
 have l6:(["spare","k9","x1","y2","z3","w4"]:List Str).length=6:=rfl
 omega
theorem c0t(hB:Bag H b d)(hn:H nl=some (.lst (ss.map V.str)))(nb:nl≠b)(l5:ss.length<=5)
  (k:∀sd S H',H sd=none->H' sd=some (.dK (SD S))->bdS S->S.length<=90->c4y ss S->Bag H' b d->D9 b H H'->Q (.ref sd) H'):a6O K [.ref b,.ref nl] H Q E:=by
 refine⟨rfl,?_⟩
 unfold b7n
 nofun
 exists a4X fun sd H1 hsd e1 s1=>?_
 have B1:=hB.same s1
 have nsd:=(hB.nb hsd).1
 have nsc:=(hB.nb hsd).2
 have put:∀ {Hi:Hp} {S:Sto} {n:Str} {i:Int} {m:Nat} {D:a6v} {σ:St},Hi sd=some (.dK (SD S))->bdS S->c4y ss S->(n∈ss\/n∈c0v)->S.length<=m->m<=99->Bag Hi b d->D9 b H Hi->(∀H',(∃S,H' sd=some (.dK (SD S))/\bdS S/\c4y ss S/\S.length<=m+1/\Bag H' b d/\D9 b H H')->D.nx σ H')->0<=i->i<1000000000000->∃a H4,V.ref sd=.ref a/\a8e Hi a (.str n) (.int i) H4/\D.nx σ H4:=fun {Hi S n i m D σ} g1 g2 gk gn g3 g4 g5 g6 kk i0 i1=>by
  refine⟨sd,_,rfl,a8e.k (k:=Sum.inr n) g1 (J7 (by unfold SD;rw[c4];omega)),?_⟩
  rw[b3C g2.1]
  exact kk _ ⟨P6 S n i,g7,g2.put i0 i1,fun x hx=>((a3L (S:=S) x).mp hx).elim (gk x) fun z=>z ▸ gn,by have:=a2K (S:=S) (n:=n) (i:=i);omega,g5.put nsd nsc,g6.put hsd⟩
 exact_mod_cast a0o ?_
 specialize a1z (a0C ?_)
 refine⟨nl,rfl,⟨_,SqL.of (s1 _ _ hn)⟩,a3M (xs:=ss.map V.str) (fun j σ H2=>∃y3 S,σ=[some (.ref b),some (.ref nl),some (.ref sd),y3,none]/\H2 sd=some (.dK (SD S))/\bdS S/\c4y ss S/\S.length<=j/\Bag H2 b d/\D9 b H H2) ⟨_,[],rfl,e1,⟨c8m,fun p hp=>nomatch hp⟩,(fun x hx=>nomatch hx),o5 _,B1,D9.of_same s1⟩ ?_ ?_ ?_⟩
 ·rintro j σ H2 _ ⟨_,_,_,_,_,_,_,_,k2⟩
  exact SqL.of (k2.1 _ _ hn nb)
 ·rintro j v _ H2 hv ⟨y3,S,rfl,g1,g2,gk,g3,B2,k2⟩
  rw[d8]at hv
  obtain⟨s,hs,rfl⟩:=O7.mp hv
  have hj:=(gI hs)
  ext
  refine G0 B2 (by decide) (by decide) fun n3 H3 c0 c1 B3 k3=>?_
  have g13:=k3.1 _ _ g1 nsd
  ext
  refine Z0 (fun _=>?_) (fun _=>?_)
  ·specialize a3r ?_
   exists a6E B3 fun i H4 i0 i1 B4 k4=>?_
   exact put (k4.1 _ _ g13 nsd) g2 gk (.inl (mI hs)) g3 (by omega) B4 ((k2.trans k3).trans k4) (fun H' ⟨S',q⟩=>⟨_,S',rfl,q⟩) i0 i1
  ·ext
   exact⟨_,S,rfl,g13,g2,gk,by omega,B3,k2.trans k3⟩
 rintro _ H2 ⟨y3,S,rfl,g1,g2,gk,g3,B2,k2⟩
 rw[c4]at g3
 ext
 exact_mod_cast a0o ?_
 refine c5S ?_
 specialize a0i (a0C ?_)
 refine z8 (by simp) fun l0 H3 hl0 e3 s3=>?_
 obtain⟨sp,hsp⟩:∃sp:List Str,sp=(["spare","k9","x1","y2","z3","w4"]:List Str):=⟨_,rfl⟩
 have e3:H3 l0=some (.lst (sp.map V.str)):=by rw[hsp];exact e3
 have ne:=c0u l5
 rw[<-hsp]at ne
 have hn3:=s3 _ _ (k2.1 _ _ hn nb)
 refine⟨l0,rfl,⟨_,SqL.of e3⟩,fun D hD=>?_⟩
 refine c7S (J:=Itl K l0) sp.length (fun i ys H9=>ys=((sp.take i).filter fun s => !decide (s∈ss)).map V.str/\H9 D=some (.lst ys)/\A9 H3 H9) ⟨rfl,g7,D6 hD⟩ ?_ ?_ ?_ ?_
 ·rintro i ys H9 ⟨_,h,_⟩
  exact h
 ·rintro ys H9 ⟨rfl,hD9,s9⟩
  refine⟨⟨_,SqL.of (s9 _ _ e3),by rw[c4];exact o5 _⟩,?_⟩
  rw[X5]at hD9
  have s29:=s3.trans s9
  have B9:=B2.same s29
  have k9:=k2.trans (D9.of_same s29)
  obtain⟨s,r,hf⟩:=b3P ne
  rw[hf]at hD9
  ext
  exact_mod_cast a0o ?_
  specialize a3r ?_
  exists a6E B9 fun i H10 i0 i1 B10 k10=>?_
  refine L9 (k10.1 _ _ hD9 ((B2.same s3).nb hD).1) (V3 _ _) ?_
  refine put (m:=5) (k10.1 _ _ (s29 _ _ g1) nsd) g2 gk (.inr ?_) (by omega) (by omega) B10 (k9.trans k10) ?_ i0 i1
  ·have:s∈sp.filter fun s => !decide (s∈ss):=by rw[hf];exact F5 ..
   have:=(a1F.mp this).1
   rw[hsp]at this;exact this
  rintro H' ⟨S',q1,q2,qk,q3,q4,q5⟩
  ext
  exact k sd S' H' hsd q1 q2 (by omega) qk q4 q5
 ·rintro i ys H9 hi ⟨_,_,s9⟩
  exact⟨_,.str (sp[i]'hi),SqL.of (s9 _ _ e3),by rw[d8,g8 hi];rfl⟩
 ·rintro i ys H9 hi ⟨rfl,hD9,s9⟩ v H10 ⟨rfl,gv⟩ R S' hR hS'
  have gv:=gv _ (SqL.of (s9 _ _ e3))
  rw[d8,g8 hi]at gv
  cases gv
  have tk:(sp.take (i+1)).filter (fun s => !decide (s∈ss))=(sp.take i).filter (fun s => !decide (s∈ss))++if(!decide (sp[i]∈ss))=true then [sp[i]] else []:=by
   rw[P8,g8 hi,a3z]
   congr 1
   simp only[Option.toList_some,List.filter_cons,List.filter_nil]
  ext
  refine c1c (s9 _ _ hn3) ?_
  refine⟨_,rfl,?_⟩
  cases hb : !decide (sp[i]∈ss)with
  | false=>
   rw[hb,if_neg (by decide),a5Q]at tk
   exact C5 rfl (hS' _ ⟨by rw[tk],hD9,s9⟩)
  | true=>
   rw[hb,if_pos rfl]at tk
   exists J2 rfl ?_
   have l6:sp.length=6:=by rw[hsp];rfl
   have lle:((sp.take i).filter fun s => !decide (s∈ss)).length<=i:=by
    refine J8 (a2k _ _) ?_
    rw[J4];omega
   exact hR _ _ hD9 (J7 (by rw[c4];omega)) ⟨by rw[tk,D7];rfl,g7,fun b o e=>by rw[o4 (d9 e hD)];exact s9 _ _ e⟩
end
section
variable {K:Fg}{w:Addr}{S:List Stp}{E:XK}
structure WS(H:Hp)(w:Addr)(S:List Stp):Prop where
 ex:∃ps:List Addr,H w=some (.lst (ps.map V.ref))/\ps.length=S.length/\∀(i:Nat) p s,ps[i]? = some p->S[i]? = some s->H p=some (.tup [.int s.1,.int s.2])
theorem WS.at(h:WS H w S):E8 K H w S:=by
 obtain⟨ps,h1,h2,h3⟩:=h.ex
 exact⟨ps,h1,h2,fun i p s a c=>.inl (h3 i p s a c)⟩
theorem WS.same(h:WS H w S)(s:A9 H H'):WS H' w S:=by
 obtain⟨ps,h1,h2,h3⟩:=h.ex
 exact⟨ps,s _ _ h1,h2,fun i p t a c=>s _ _ (h3 i p t a c)⟩
theorem WS.kept(h:WS H w S)(hB:Bag H b d)(k:D9 b H H'):WS H' w S:=by
 obtain⟨ps,h1,h2,h3⟩:=h.ex
 obtain⟨bs,hb⟩:=hB.lst
 exact⟨ps,k.1 _ _ h1 (a0j hB h1),h2,fun i p t a c=>k.tup hb (h3 i p t a c)⟩
end
def U7(m:Nat):List (List Nat):=((L4 m).map fun k=>[k+1])++[[]]
section
variable {k t e:Nat}{W:List Stp}
theorem a5E:(U7 m).length=m+1:=by simp[U7]
theorem a3N(h:k<m):(U7 m)[k]? = some [k+1]:=by
 unfold U7
 rw[L3 (by simpa using h),d8,a2V h]
 rfl
theorem a7W:(U7 m)[m]? = some []:=by
 unfold U7
 rw[K8 (by simp)]
 simp
theorem a3g(h:(U7 m)[k]? = some l):(k<m/\l=[k+1])\/(k=m/\l=[]):=by
 by_cases q:k<m
 ·rw[a3N q]at h
  cases h
  exact .inl ⟨q,rfl⟩
 ·have:=(gI h)
  rw[a5E]at this
  have:k=m:=by omega
  subst this
  rw[a7W]at h
  cases h
  exact .inr ⟨rfl,rfl⟩
theorem b5d(h:m<=399):a1n (U7 m):=by
 have len:(U7 m).length=m+1:=a5E
 refine⟨by omega,by omega,fun l hl=>?_,fun l hl t ht=>?_,fun k hk=>?_,fun k hk=>?_⟩
 ·obtain⟨k,hk⟩:=T7.mp hl
  rcases a3g hk with ⟨_,rfl⟩ | ⟨_,rfl⟩ <;> simp
 ·obtain⟨k,hk⟩:=T7.mp hl
  rcases a3g hk with ⟨h1,rfl⟩ | ⟨_,rfl⟩
  ·have:t=k+1:=by simpa using ht
   omega
  ·cases ht
 ·rw[len]at hk
  induction k with
  | zero=>exact .zero
  | succ k ih=>exact .step (ih (by omega)) (a3N (by omega)) (by simp)
 ·rw[len]at hk
  have go:∀j k,k+j=m->Gd (U7 m) k:=by
   intro j
   induction j with
   | zero=>
    intro k e
    have:k=m:=by omega
    subst this
    exact .stop a7W
   | succ j ih=>
    intro k e
    exact .step (a3N (by omega)) (z9.mpr rfl) (ih (k+1) (by omega))
  exact go (m - k) k (by omega)
def a3v(m:Nat):List Stp:=(L4 m).map fun(k:Nat)=>((k:Int),((0:Nat):Int))
theorem b0z(h:k<m):L1 (U7 m) ((k:Int),((0:Nat):Int))=k+1:=b7G (a3N h) rfl
theorem c7P(h:k<m):(a3v m)[k]? = some ((k:Int),((0:Nat):Int)):=by
 unfold a3v
 rw[d8,a2V h];rfl
theorem b7L:(a3v m).length=m:=by simp[a3v]
end
theorem b9l{tn:TE}(hm:m<=400)(htn:∀(s:St) (R:VK) (H':Hp),R (.int (m:Int)) H'->tn σ H' R)
  (k:∀a H',H a=none->J0 H' a (U7 m)->A9 H H'->Q (.ref a) H'):tOp X1 (a0c (a1l (b6 tn c9)) a0b (L6 (b6 (tOp X1 (c5 0) (tC (.int 1))) c9))) (L6 (b6 (L6 c9) c9)) σ H Q:=by
 exact_mod_cast c3o ?_
 exact_mod_cast a0i (a0N ?_)
 exact_mod_cast c0T ?_
 refine htn σ _ _ ?_
 exact_mod_cast c5k ?_
 refine⟨(m:Int),rfl,by omega,by omega,fun D hD=>?_⟩
 rw[A7]
 refine a2Q (fun i ys H10=>∃as:List Addr,ys=as.map V.ref/\as.length=i/\(∀(j:Nat) y,as[j]? = some y->H10 y=some (.lst (IL [j+1]))/\y≠D)/\H10 D=some (.lst ys)/\A9 H H10) ?_ ?_ ?_ ?_
 ·exact⟨[],rfl,rfl,by simp,g7,D6 hD⟩
 ·rintro i ys H10 ⟨_,_,_,_,h,_⟩
  exact h
 ·rintro i ys H10 hi ⟨as,rfl,la,at10,hD10,s10⟩ R hR
  rw[X3]
  ext
  refine z8 (by simp) fun y H11 hy e11 s11=>?_
  have nyD:y≠D:=(d9 hD10 hy).symm
  refine hR _ _ (s11 _ _ hD10) (J7 (by rw[c4];omega)) ⟨as++[y],by simp,by simp[la],fun j z e=>?_,g7,fun b o e=>?_⟩
  ·rcases V6 e with ⟨_,e⟩ | ⟨hj,e⟩
   ·obtain⟨q1,q2⟩:=at10 j z e
    exact⟨by rw[o4 q2];exact s11 _ _ q1,q2⟩
   ·subst e
    refine⟨?_,nyD⟩
    rw[o4 nyD,e11,hj,la]
    rfl
  ·rw[o4 (d9 e hD)];exact s11 _ _ (s10 _ _ e)
 rintro _ H10 ⟨as,rfl,la,at10,hD10,s10⟩
 ext
 exists z8 (by simp) fun y2 H12 hy2 e12 s12=>?_
 refine z8 (by simp) fun y3 H13 hy3 e13 s13=>?_
 have s1013:=s12.trans s13
 refine a4f (s1013 _ _ hD10) e13 ?_
 refine z8 (a1c (by rw[c4];show as.length+1<100000;omega)) fun na H14 hna e14 s14=>?_
 have s1014:=s1013.trans s14
 refine k na H14 ((s10.trans s1013).free hna) ⟨as++[y2],by rw[D7];exact e14,by rw[u8,la,a5E];rfl,fun i x l f1 f2=>?_⟩ (s10.trans s1014)
 rcases a3g f2 with ⟨hi,rfl⟩ | ⟨hi,rfl⟩
 ·rw[L3 (by omega)]at f1
  exact s1014 _ _ (at10 i x f1).1
 ·rw[K8 (by omega),show i - as.length=0 by omega]at f1
  cases f1
  exact(s13.trans s14) _ _ e12
def c2G(N:Nt)(r:Rs):Prop:=r.e=match r.W.getLast? with
 | none=>false
 | some a=>decide ((N.getD (L1 N a) []).length=0)
section
variable {W:Nat->Rw}{r:Rs}{S:Sto}{T:List Int}
theorem a3s:∀(m j:Nat) (r:Rs),rn N W (m+j) r=rn N W j (rn N W m r)
 | 0,j,r=>by rw[a3w];rfl
 | m+1,j,r=>by
  rw[show m+1+j=(m+j)+1 by omega]
  show(if r.e=true then r else rn N W (m+j) (st1 N W r))=rn N W j (if r.e=true then r else rn N W m (st1 N W r))
  by_cases h:r.e=true
  ·rw[if_pos h,if_pos h,a9T h]
  ·rw[if_neg h,if_neg h,a3s m j]
theorem a4e(h:r.e=false):rn N W 1 r=st1 N W r:=by
 show(if r.e=true then r else st1 N W r)=_
 rw[if_neg (by rw[h];decide)]
theorem c9u:T <+: (doR w S L T).2.2:=by
 cases w with
 | tell v=>exact c2Q _ _
 | _=>exact a2m _
theorem b5X:∀(m:Nat) (r:Rs),r.W <+: (rn N W m r).W/\r.T <+: (rn N W m r).T
 | 0,r=>⟨a2m _,a2m _⟩
 | m+1,r=>by
  unfold rn
  split
  ·exact⟨a2m _,a2m _⟩
  ·obtain⟨a,b⟩:=b5X m (st1 N W r)
   exact⟨(c2Q _ _).trans a,c9u.trans b⟩
theorem a9S:∀(m:Nat) (r:Rs),(rn N W m r).W.length=r.W.length+m\/((rn N W m r).e=true/\(rn N W m r).W.length<=r.W.length+m)
 | 0,r=>.inl rfl
 | m+1,r=>by
  unfold rn
  by_cases h:r.e=true
  ·rw[if_pos h];exact .inr ⟨h,by omega⟩
  ·rw[if_neg h]
   have e:(st1 N W r).W.length=r.W.length+1:=by show(r.W++[r.p]).length=_;simp
   rcases a9S m (st1 N W r)with q | ⟨q1,q2⟩
   ·exact .inl (by rw[q,e];omega)
   ·exact .inr ⟨q1,by omega⟩
theorem b7C(h0:r.W=[])(m:Nat):rn N W (rn N W m r).W.length r=rn N W m r:=by
 obtain⟨k,hk⟩:∃k,k=(rn N W m r).W.length:=⟨_,rfl⟩
 rw[<-hk]
 have le:k<=m:=by
  have:=a9S (N:=N) (W:=W) m r
  rw[h0]at this
  simp only[W3,a3w]at this
  omega
 obtain⟨j,rfl⟩:∃j,m=k+j:=⟨m - k,by omega⟩
 rw[a3s]at hk ⊢
 obtain⟨q,hq⟩:∃q,q=rn N W k r:=⟨_,rfl⟩
 rw[<-hq]at hk ⊢
 cases j with
 | zero=>rfl
 | succ j=>
  show q=if q.e=true then q else rn N W j (st1 N W q)
  have hk:k=(if q.e=true then q else rn N W j (st1 N W q)).W.length:=hk
  by_cases h:q.e=true
  ·rw[if_pos h]
  ·exfalso
   rw[if_neg h]at hk
   have lq:q.W.length=k:=by
    have:=a9S (N:=N) (W:=W) k r
    rw[<-hq,h0]at this
    rcases this with z | ⟨z,_⟩
    ·simpa using z
    ·exact(h z).elim
   have:=(b5X (N:=N) (W:=W) j (st1 N W q)).1.length_le
   have e:(st1 N W q).W.length=q.W.length+1:=by show(q.W++[q.p]).length=_;simp
   omega
theorem b5Y(h0:r.W=[]){M:Nat}(h:m<=M):(rn N W m r).W.length=min m (rn N W M r).W.length/\(rn N W m r).W <+: (rn N W M r).W/\(rn N W m r).T <+: (rn N W M r).T:=by
 obtain⟨j,rfl⟩:∃j,M=m+j:=⟨M - m,by omega⟩
 rw[a3s]
 obtain⟨a,b⟩:=b5X (N:=N) (W:=W) j (rn N W m r)
 refine⟨?_,a,b⟩
 have la:=a.length_le
 rcases a9S (N:=N) (W:=W) m r with q | ⟨q,q2⟩
 ·rw[h0]at q
  simp only[W3,a3w]at q
  omega
 ·rw[a9T q]
  rw[h0]at q2
  simp only[W3,a3w]at q2
  omega
theorem b2E{M:Nat}(h:m<=M)(he:(rn N W m r).e=true):rn N W M r=rn N W m r:=by
 obtain⟨j,rfl⟩:∃j,M=m+j:=⟨M - m,by omega⟩
 rw[a3s,a9T he]
theorem c7O:c2G N (st1 N W r):=by
 unfold c2G
 have e:(st1 N W r).W.getLast? = some r.p:=by show(r.W++[r.p]).getLast? = _;rw[V0]
 rw[e]
 rfl
theorem c2q:∀(m:Nat) (r:Rs),c2G N r->c2G N (rn N W m r)
 | 0,r,h=>h
 | m+1,r,h=>by
  unfold rn
  split
  ·exact h
  ·exact c2q m _ c7O
theorem c2p:c2G N ⟨S0,L0,[],[],FST,false⟩:=rfl
end
structure Sm(ss:List Str)(r r':Rs):Prop where
 g:∀s,U6 r'.S s=U6 r.S s
 k:∀s,s∈r'.S.map (·.1)↔s∈r.S.map (·.1)\/s∈ss
 l:∃j,r'.L=c8 j 0++r.L
 t:r'.T=r.T
 w:r'.W=r.W
 p:r'.p=r.p
 e:r'.e=r.e
section
variable {W:Nat->Rw}{r r':Rs}{S S':Sto}
theorem b4d(h:∀s,U6 S' s=U6 S s):Z7 S' v=Z7 S v:=by
 cases v with
 | str s=>exact h s
 | _=>rfl
theorem c1l{n:Str}(h:∀s,U6 S' s=U6 S s)(s:Str):U6 (P6 S' n i) s=U6 (P6 S n i) s:=by rw[a2P,a2P,h]
theorem c1k{n:Str}{i':Int}(h:∀s,s∈S'.map (·.1)↔s∈S.map (·.1)\/s∈ss)(s:Str):s∈(P6 S' n i).map (·.1)↔s∈(P6 S n i').map (·.1)\/s∈ss:=by
 rw[a3L,a3L,h]
 constructor
 ·rintro((a | a) | a)
  ·exact .inl (.inl a)
  ·exact .inr a
  ·exact .inl (.inr a)
 ·rintro((a | a) | a)
  ·exact .inl (.inl a)
  ·exact .inr a
  ·exact .inl (.inr a)
theorem c5M(h:∀s,U6 S' s=U6 S s):a1y w S'=a1y w S:=by
 cases w with
 | ask v=>show(if Z7 S' v=0 then (1:Int)else 0)=if Z7 S v=0 then 1 else 0;rw[b4d h]
 | _=>rfl
theorem c5K(j:Nat)(L:List Int):(c8 j 0++L).getLast?.getD 0=L.getLast?.getD 0/\∃i,(c8 j 0++L).dropLast=c8 i 0++L.dropLast:=by
 rcases a5Y L with rfl | ⟨L',x,rfl⟩
 ·refine⟨?_,j - 1,?_⟩
  ·rw[a5Q]
   cases j with
   | zero=>rfl
   | succ j=>rw[Z5,V0];rfl
  ·simp
 ·rw[a0G,<-a4t,V0,V0,a6A,a6A]
  exact⟨rfl,j,rfl⟩
theorem c8w(h:Sm ss r r'):Sm ss (st1 N W r) (st1 N W r'):=by
 obtain⟨S,L,T,Wl,p,e⟩:=r
 obtain⟨S',L',T',W',p',e'⟩:=r'
 obtain⟨g,k,⟨j,l⟩,t,w,p,e⟩:=h
 dsimp only at g k l t w p e
 subst l t w p e
 unfold st1
 dsimp only
 generalize L1 N p'=a
 generalize W a=u
 have z:=c5K j L
 cases u with
 | set n k0 a0 b0=>
  have e1:wv k0 (Z7 S' a0) (Z7 S' b0)=wv k0 (Z7 S a0) (Z7 S b0):=by rw[b4d g,b4d g]
  refine⟨?_,?_,⟨j,rfl⟩,rfl,rfl,rfl,rfl⟩
  ·intro s;show U6 (P6 S' n _) s=U6 (P6 S n _) s;rw[e1];exact c1l g s
  ·exact c1k k
 | copy n v=>
  have e1:Z7 S' v=Z7 S v:=b4d g
  refine⟨?_,?_,⟨j,rfl⟩,rfl,rfl,rfl,rfl⟩
  ·intro s;show U6 (P6 S' n _) s=U6 (P6 S n _) s;rw[e1];exact c1l g s
  ·exact c1k k
 | take n=>
  refine⟨?_,?_,z.2,rfl,rfl,rfl,rfl⟩
  ·intro s;show U6 (P6 S' n _) s=U6 (P6 S n _) s;rw[z.1];exact c1l g s
  ·exact c1k k
 | tell v=>
  refine⟨g,k,⟨j,rfl⟩,?_,rfl,rfl,rfl⟩
  show _++[Z7 S' v]=_++[Z7 S v]
  rw[b4d g]
 | ask v=>
  refine⟨g,k,⟨j,rfl⟩,rfl,rfl,?_,rfl⟩
  show((a:Int),a1y (.ask v) S')=((a:Int),a1y (.ask v) S)
  rw[c5M g]
 | skip=>exact⟨g,k,⟨j,rfl⟩,rfl,rfl,rfl,rfl⟩
theorem c5j:∀(m:Nat) {r r':Rs},Sm ss r r'->Sm ss (rn N W m r) (rn N W m r')
 | 0,r,r',h=>h
 | m+1,r,r',h=>by
  unfold rn
  rw[h.e]
  split
  ·exact h
  ·exact c5j m (c8w h)
theorem b7i{s:Str}{x:V}(h:a0v (SD S) (Sum.inr s)=some x):s∈S.map (·.1):=by
 induction S with
 | nil=>cases h
 | cons p r ih=>
  have h:a0v ((Sum.inr p.1,V.int p.2)::SD r) (Sum.inr s)=some x:=h
  by_cases e:p.1=s
  ·exact D8.mpr ⟨p,F5 ..,e⟩
  ·rw[a2b (by intro z;exact e (Sum.inr.inj z))]at h
   obtain⟨q,h1,h2⟩:=D8.mp (ih h)
   exact D8.mpr ⟨q,D4 _ h1,h2⟩
theorem b7F{s:Str}(h:s∈S.map (·.1)):a0v (SD S) (Sum.inr s)=some (.int (U6 S s)):=by
 induction S with
 | nil=>cases h
 | cons p r ih=>
  show a0v ((Sum.inr p.1,V.int p.2)::SD r) (Sum.inr s)=_
  unfold U6
  by_cases e:p.1=s
  ·rw[a3F (by rw[e]),if_pos e]
  ·rw[a2b (by intro z;exact e (Sum.inr.inj z)),if_neg e]
   refine ih ?_
   rcases q9.mp h with q | q
   ·exact(e q.symm).elim
   ·exact q
theorem b0I(k:Key)(y:V)(h:a0v (SD S) k=some y):N4 y=true:=by
 cases k with
 | inl i=>
  exfalso
  induction S with
  | nil=>cases h
  | cons p r ih=>
   have h:a0v ((Sum.inr p.1,V.int p.2)::SD r) (Sum.inl i)=some y:=h
   rw[a2b (by intro z;cases z)]at h
   exact ih h
 | inr s=>
  have:=b7F (b7i h)
  rw[h]at this
  cases this
  rfl
theorem c4F{s1:List (Str×Int)}(h:∀p∈s1,a0v (SD S') (Sum.inr p.1)=some (.int p.2)):b3j (SD S') (SD s1)=true:=by
 induction s1 with
 | nil=>rfl
 | cons p r ih=>
  show(match a0v (SD S') (Sum.inr p.1)with | none=>false | some y=>eqV (.int p.2) y&&b3j (SD S') (SD r))=true
  rw[h p (F5 ..)]
  show(eqV (V.int p.2) (V.int p.2)&&b3j (SD S') (SD r))=true
  rw[ih fun q hq=>h q (D4 _ hq),a8l]
  exact b4W rfl
theorem c4H{p:Str×Int}(nd:(S.map (·.1)).Nodup)(h:p∈S):U6 S p.1=p.2:=by
 induction S with
 | nil=>cases h
 | cons q r ih=>
  obtain⟨n1,n2⟩:=K5.mp nd
  unfold U6
  rcases q9.mp h with z | z
  ·rw[if_pos (by rw[z]),z]
  ·rw[if_neg (fun e:q.1=p.1=>n1 (D8.mpr ⟨p,z,e.symm⟩))]
   exact ih n2 z
theorem b3B(b1:bdS S)(b2:bdS S')(g:∀s,U6 S s=U6 S' s)(k:∀s,s∈S.map (·.1)↔s∈S'.map (·.1)):((SD S).length == (SD S').length&&b3j (SD S') (SD S))=true:=by
 have l1:(SD S).length=(S.map (·.1)).length:=by unfold SD;rw[c4,c4]
 have l2:(SD S').length=(S'.map (·.1)).length:=by unfold SD;rw[c4,c4]
 rw[c4F (s1:=S) fun p hp=>?_,a8l,l1,l2]
 ·refine beq_iff_eq.mpr (Nat.le_antisymm ?_ ?_)
  ·exact a8R _ _ b1.1 fun x hx=>(k x).mp hx
  ·exact a8R _ _ b2.1 fun x hx=>(k x).mpr hx
 ·rw[b7F ((k p.1).mp (D8.mpr ⟨p,hp,rfl⟩)),<-g,c4H b1.1 hp]
end
section
variable {K:Fg}{c:Cn}{x q:Addr}{W:Nat->Rw}{E:XK}
theorem a6X{kvs:List (Key×V)}(h:H a=some (.dK kvs))(k:∀p H',H p=none->H' p=some (.dK kvs)->A9 H H'->Q (.ref p) H'):a3c [.ref a] H Q:=by
 unfold a3c
 simp only[h]
 intro p hp
 exact k p _ hp g7 (D6 hp)
theorem b8i(hB:Bag H b d)(k:∀tl L H',H tl=none->H' tl=some (.lst ((L:List Int).map V.int))->(∀x∈L,0<=x/\x<1000000000000)->L.length<=90->Bag H' b d->D9 b H H'->Q (.ref tl) H'):a6N K [.ref b] H Q E:=by
 refine⟨rfl,?_⟩
 unfold b7m
 exact_mod_cast c0N ?_
 specialize a0i (a0N ?_)
 refine G0 hB (by decide) (by decide) fun n2 H2 b0 b1 B2 k2=>?_
 obtain⟨n,rfl⟩:=A8 b0
 ext
 refine⟨(n:Int),rfl,by omega,by omega,fun tl htl=>?_⟩
 obtain⟨ntl,ntc⟩:=B2.nb htl
 rw[A7]
 refine a2Q (fun i ys H10=>∃L:List Int,ys=L.map V.int/\L.length=i/\(∀x∈L,0<=x/\x<1000000000000)/\H10 tl=some (.lst ys)/\Bag H10 b d/\D9 b H2 H10) ⟨[],rfl,rfl,by simp,g7,B2.new htl,D9.new htl⟩ ?_ ?_ ?_
 ·rintro i ys H10 ⟨_,_,_,_,h,_⟩
  exact h
 ·rintro i ys H10 hi ⟨L,rfl,rfl,bl,hd,B10,k10⟩ R hR
  ext
  refine a6E B10 fun v H11 v0 v1 B11 k11=>?_
  refine hR _ _ (k11.1 _ _ hd ntl) (J7 (by rw[c4];omega)) ⟨L++[v],by simp,by simp,fun x hx=>?_,g7,B11.put ntl ntc,(k10.trans k11).put htl⟩
  rcases C8.mp hx with q | q
  ·exact bl x q
  ·rw[z9.mp q];exact⟨v0,v1⟩
 rintro ys H10 ⟨L,rfl,lL,bl,htl10,B10,k10⟩
 exact k tl L H10 (k2.none htl) htl10 bl (by omega) B10 (k2.trans k10)
theorem a7f(xs:List V){k:Nat}(hk:k<=xs.length):a4m xs none (some (k:Int))=xs.take k:=by
 unfold a4m
 have e1:HT.sIx xs.length 0 none=0:=rfl
 have e2:HT.sIx xs.length xs.length (some (k:Int))=k:=by
  rw[HT.a6V]
  omega
 rw[e1,e2,b3Q,b9G]
theorem b4f{α:Type}{a b:List α}(h:a <+: b):b.take a.length=a:=(List.prefix_iff_eq_take.mp h).symm
theorem E8.pre{w z:Addr}{S1 S:List Stp}{ps:List Addr}(h:E8 K H w S)(hp:S1 <+: S)(hw:H w=some (.lst (ps.map V.ref)))(hz:H z=some (.lst ((ps.map V.ref).take S1.length))):E8 K H z S1:=by
 obtain⟨ps',h1,h2,h3⟩:=h.ex
 rw[hw]at h1
 obtain rfl:ps=ps':=(a0u (f:=V.ref) (fun a b h=>V.ref.inj h) |>.mp (HO.lst.inj (Option.some.inj h1)))
 have le:=hp.length_le
 refine⟨ps.take S1.length,by rw[hz,a8j],by rw[J4,h2];omega,fun i p s f1 f2=>?_⟩
 have hi:=(gI f2)
 rw[c2T,if_pos hi]at f1
 refine h3 i p s f1 ?_
 rw[<-b4f hp,c2T,if_pos hi]at f2
 exact f2
theorem b6h{S1 S2:List Stp}(h1:E8 K H p S1)(h2:E8 K H q S2)(hp:S1 <+: S2)(k:∀H',A9 H H'->Q (.bl true) H'):a2u K [.ref p,.ref q] H Q E:=by
 obtain⟨ps,p1,p2,_⟩:=id h1.ex
 obtain⟨qs,q1,q2,_⟩:=id h2.ex
 have le:=hp.length_le
 refine⟨rfl,?_⟩
 unfold a9w
 ext
 refine O8 p1 ?_
 rw[c4,p2]
 ext
 refine b1E q1 fun z H1 hz e1 s1=>?_
 rw[a7f _ (by rw[c4];omega)]at e1
 exact⟨p,z,2,rfl,rfl,by decide,a3G (h1.same s1) ((h2.same s1).pre hp (s1 _ _ q1) e1),k H1 s1⟩
theorem a8T(n:Nat){T:List Int}(h1:H p=some (.lst (T.map V.int)))(h2:H q=some (.lst (T.map V.int))):Dq K H (n+1) (.ref p) (.ref q):=by
 refine .lst (SqL.of h1) (SqL.of h2) rfl fun i x y f1 f2=>?_
 rw[f1]at f2
 cases f2
 rw[d8]at f1
 obtain⟨z,_,rfl⟩:=O7.mp f1
 exact .flat rfl
theorem b6i{S1 S2:List Int}(h1:H p=some (.lst (S1.map V.int)))(h2:H q=some (.lst (S2.map V.int)))(hp:S1 <+: S2)(k:∀H',A9 H H'->Q (.bl true) H'):a2u K [.ref p,.ref q] H Q E:=by
 have le:=hp.length_le
 refine⟨rfl,?_⟩
 unfold a9w
 ext
 refine O8 h1 ?_
 rw[c4]
 ext
 refine b1E h2 fun z H1 hz e1 s1=>?_
 rw[a7f _ (by rw[c4];omega),<-a8j,b4f hp]at e1
 exact⟨p,z,1,rfl,rfl,by decide,a8T 0 (s1 _ _ h1) e1,k H1 s1⟩
theorem b4V:a0t (IL l) []=decide (l.length=0):=by cases l <;> rfl
theorem c7R{lg:Addr}(ck:a7s K c)(pk:PlK K c H x N rs RC W)(hv:a1n N)(hra:H ra=some (.lst (rs.map V.ref)))(hn:J0 H na N)
  (hsd:H sd=some (.dK (SD S0))) (bd:bdS S0) (l0:S0.length<=100) (htk:H tk=some (.lst (L0.map V.int))) (bl:∀x∈L0,0<=x/\x<1000000000000) (lL:L0.length<=100) (hm:m<=120)
  (hlg:a7q K H lg (rn N W 120 ⟨S0,L0.reverse,[],[],FST,false⟩)) (k:∀H',A9 H H'->Q (.bl true) H'):b2l K c [.ref x,.ref ra,.ref na,.ref sd,.ref tk,.int (m:Int),.ref lg] H Q E:=by
 obtain⟨r0,hr0⟩:∃r0:Rs,r0=⟨S0,L0.reverse,[],[],FST,false⟩:=⟨_,rfl⟩
 rw[<-hr0]at hlg
 have h0:r0.W=[]:=by rw[hr0]
 obtain⟨c1,c2,c3⟩:=b5Y (N:=N) (W:=W) h0 hm
 have cb:=b7C (N:=N) (W:=W) h0 m
 obtain⟨pr,lW⟩:=b7B (W:=W) hv pk.ask m r0 (by rw[hr0];exact b8F)
 have ew:=c2q (N:=N) (W:=W) m r0 (by rw[hr0];exact c2p)
 obtain⟨r,hr⟩:∃r,r=rn N W m r0:=⟨_,rfl⟩
 obtain⟨R,hR⟩:∃R,R=rn N W 120 r0:=⟨_,rfl⟩
 rw[<-hR]at hlg
 rw[<-hr]at c1 c2 c3 cb pr lW ew
 rw[<-hR]at c1 c2 c3
 rw[h0]at lW
 have lW:r.W.length<=0+m:=lW
 refine⟨rfl,?_⟩
 unfold c5h
 nofun
 exists a6X hsd fun a0 H1 ha0 e1 s1=>?_
 exists a1V (s1 _ _ htk) fun a1 H2 ha1 e2 s2=>?_
 refine a1A ck (pk.same (s1.trans s2)) hv (s2 _ _ e1) bd l0 e2 bl (by omega) fun q H3 r3 s3=>?_
 rw[<-hr0,<-hr]at r3
 have s03:=(s1.trans s2).trans s3
 obtain⟨tl,wl,sl,t1,t2,t3,t4,t5⟩:=r3.t
 obtain⟨tl',wl',sl',u1,u2,u3,u4,u5⟩:=hlg.same s03
 obtain⟨ps,p1,p2,_⟩:=id t3.ex
 obtain⟨ps',p1',p2',_⟩:=id u3.ex
 ext
 nofun
 refine⟨q,_,rfl,SqT.of t1,rfl,_,_,rfl,_,_,rfl,_,_,rfl,_,_,rfl,rfl,?_⟩
 nofun
 exists O8 p1 ?_
 exists F4 u1 (a0O _ _ _) ?_
 exists O8 p1' ?_
 refine c5s ?_
 rw[c4,c4,p2,p2']
 have em:(if((R.W.length:Nat):Int)<(m:Int)then ((R.W.length:Nat):Int)else (m:Int))=((r.W.length:Nat):Int):=by
  rw[c1];split <;> omega
 rw[em]
 ext
 exists C5 (by simp) ?_
 exists F4 u1 (a0O _ _ _) ?_
 refine b6h t3 u3 c2 fun H4 s4=>?_
 refine⟨_,rfl,?_⟩
 exists C5 rfl ?_
 exists F4 (s4 _ _ u1) (V3 _ _) ?_
 refine b6i (s4 _ _ t2) (s4 _ _ u2) c3 fun H5 s5=>?_
 refine⟨_,rfl,?_⟩
 exists C5 rfl ?_
 have s35:=s4.trans s5
 have s05:=s03.trans s35
 nofun
 exists b2J (hn.same s05) (t3.same s35) pr.is pr.lk (by omega) fun D H6 hD e6 s6=>?_
 have s36:=s35.trans s6
 have s06:=s03.trans s36
 nofun
 exists ⟨rfl,_,rfl,C5 rfl ?_⟩
 refine z8 (by simp) fun z0 H7 hz0 e7 s7=>?_
 refine⟨_,a5C (s7 _ _ e6) e7 (a9e _) rfl,?_⟩
 rw[b4V,c4]
 refine⟨_,rfl,?_⟩
 have s37:=s36.trans s7
 have s07:=s06.trans s7
 have tail:∀H8,A9 H7 H8->∀y12:Option V,(A0 (F0 (w6 (a2H K) [] E0 (b6 (c5 1) (b6 (c5 2) (b6 (c5 3) (b6 (c5 4) (b6 (tCB V7 (b6 (c5 9) (c9))) (c9))))))) (u9 13)) (G7 (Y0 (tOp (a9X K) (tOp qIx (c5 13) (tC (.int 1))) (c5 9)) (Y0 (tOp (a9X K) (tOp qIx (c5 13) (tC (.int 0))) (c5 8)) (tOp c1h (tOp qIx (c5 13) (tC (.int 2))) (c5 10)))))) { nx:=fun _ H'=>Q .non H',rt:=Q } [some (.ref x),some (.ref ra),some (.ref na),some (.ref sd),some (.ref tk),some (.int (m:Int)),some (.ref lg),some (.ref q),some (.ref tl),some (.ref wl),some (.ref sl),some (.bl r.e),y12,none] H8:=fun H8 s8 y12=>by
  have s08:=s07.trans s8
  have s38:=s37.trans s8
  nofun
  refine O8 (s38 _ _ p1) ?_
  rw[c4,p2]
  ext
  refine b6C (s08 _ _ hra) pk.len (hn.same s08) hv (pk.same s08).rc (pk.same s08).rw pk.ask (s08 _ _ hsd) bd l0 (s08 _ _ htk) bl lL (by omega) fun q2 H9 r9 s9=>?_
  rw[<-hr0,cb]at r9
  have s39:=s38.trans s9
  obtain⟨tl2,wl2,sl2,v1,v2,v3,v4,v5⟩:=r9.t
  ext
  exists F4 v1 (a0O _ _ _) ?_
  refine⟨wl2,wl,2,rfl,rfl,by decide,a3G v3 (t3.same s39),_,rfl,?_⟩
  exists J2 rfl ?_
  exists F4 v1 (V3 _ _) ?_
  refine⟨tl2,tl,1,rfl,rfl,by decide,a8T 0 v2 (s39 _ _ t2),_,rfl,?_⟩
  exists J2 rfl ?_
  exists F4 v1 (a8b _ _ _ _) ?_
  refine⟨sl2,sl,_,_,rfl,rfl,v4,s39 _ _ t4,a9c,b0I,?_⟩
  rw[b3B v5 t5 (fun _=>rfl) fun _=>Iff.rfl]
  exact k H9 (s08.trans s9)
 rcases a5Y r.W with hw | ⟨W',a,hw⟩
 ·have he:r.e=false:=by rw[ew,hw];rfl
  exists C5 (by rw[hw];rfl) ?_
  exists C5 (by rw[he];rfl) ?_
  exact tail H7 (A9.refl _) _
 ·rw[a0G]at hw
  have is:=pr.is a (by rw[hw];simp)
  obtain⟨t,ht⟩:∃t,t=L1 N a:=⟨_,rfl⟩
  have htn:t<N.length:=ht ▸ a7b hv is
  obtain⟨l,hle⟩:∃l,l=N[t]:=⟨_,rfl⟩
  have hl:=O9 htn
  rw[<-hle]at hl
  have gd:N.getD t []=l:=by rw[O3,hl];rfl
  have he:r.e=decide (l.length=0):=by
   rw[ew,hw,V0]
   show decide ((N.getD (L1 N a) []).length=0)=_
   rw[<-ht,gd]
  exists J2 (by rw[hw];simp) ?_
  rw[hw,D7,b3F]at e6
  have e6:H6 D=some (.lst (IL (W'.map (L1 N))++[.int ((L1 N a:Nat):Int)])):=e6
  rw[<-ht]at e6
  exists L9 (s7 _ _ e6) b0H ?_
  obtain⟨us,y,f1,f2',f3,_⟩:=(hn.same s07).at hl
  exists L9 f1 f2' ?_
  refine z8 (by simp) fun z1 H8 hz1 e8 s8=>?_
  refine⟨_,a5C (s8 _ _ f3) e8 (a9e _) rfl,?_⟩
  rw[b4V,<-he]
  ext
  exists C5 (by simp) ?_
  exact tail H8 s8 _
end
section
variable {K:Fg}{c:Cn}{x q:Addr}{S:Sto}{E:XK}
theorem c8H{to:TE}{tr:TA}(h:to σ H fun x H1=>tyV K "dict" x H1/\tr σ H1 fun xs H2=>f x xs H2 Q):tBM K "dict" f to tr σ H Q:=h
theorem c3c{kvs:List (Key×V)}(h:H p=some (.dK kvs)):tyV K "dict" (.ref p) H:=.inr (.inr (.inl ⟨rfl,.inl ⟨kvs,h⟩⟩))
theorem b1L(hsd:H sd=some (.dK (SD S)))(bd:bdS S)(lS:S.length<=1000)(hn:H nl=some (.lst (ss.map V.str)))
  (l5:ss.length<=5) (k:∀q S' H',H q=none->H' q=some (.dK (SD S'))->bdS S'->S'.length<=S.length+ss.length->(∀s,U6 S' s=U6 S s)->(∀s,s∈S'.map (·.1)↔s∈S.map (·.1)\/s∈ss)->A9 H H'->Q (.ref q) H'):a3I K [.ref sd,.ref nl] H Q E:=by
 refine⟨rfl,?_⟩
 unfold b4m
 nofun
 exists a6X hsd fun q H1 hq e1 s1=>?_
 exact_mod_cast a0o ?_
 specialize a1z (a0C ?_)
 refine⟨nl,rfl,⟨_,SqL.of (s1 _ _ hn)⟩,a3M (xs:=ss.map V.str) (fun i σ Hi=>∃y3 S',σ=[some (.ref sd),some (.ref nl),some (.ref q),y3]/\Hi q=some (.dK (SD S'))/\bdS S'/\S'.length<=S.length+i/\(∀s,U6 S' s=U6 S s)/\(∀s,s∈S'.map (·.1)↔s∈S.map (·.1)\/s∈ss.take i)/\A9 H Hi) ⟨_,S,rfl,e1,bd,o5 _,fun _=>rfl,fun s=>by simp,s1⟩ ?_ ?_ ?_⟩
 ·rintro i σ Hi _ ⟨_,_,_,_,_,_,_,_,si⟩
  exact SqL.of (si _ _ hn)
 ·rintro i v _ Hi hv ⟨y3,S',rfl,g1,g2,g3,g4,g5,si⟩
  rw[d8]at hv
  obtain⟨s,hs,rfl⟩:=O7.mp hv
  have hi:=(gI hs)
  have tk:ss.take (i+1)=ss.take i++[s]:=by rw[P8,hs];rfl
  ext
  specialize c8H ?_
  exists ⟨c3c g1,?_⟩
  refine⟨q,Sum.inr s,.int 0,_,rfl,rfl,g1,J7 (by unfold SD;rw[c4];omega),fun u hu=>?_,fun hu=>?_⟩
  ·refine⟨_,S',rfl,g1,g2,by omega,g4,fun z=>?_,si⟩
   rw[g5,tk,C8,z9]
   constructor
   ·rintro(a | a)
    ·exact .inl a
    ·exact .inr (.inl a)
   ·rintro(a | a | rfl)
    ·exact .inl a
    ·exact .inr a
    ·exact(g5 z).mp (b7i hu)
  ·rw[b3C g2.1]
   have g0:U6 S' s=0:=by
    rcases b6Y (S:=S') (s:=s)with ⟨_,z⟩ | z
    ·exact z
    ·rw[hu]at z;cases z
   refine⟨_,P6 S' s 0,rfl,g7,g2.put (by decide) (by decide),by have:=a2K (S:=S') (n:=s) (i:=0);omega,fun z=>?_,fun z=>?_,fun b o e=>by rw[o4 (d9 e hq)];exact si _ _ e⟩
   ·rw[a2P,<-g4]
    by_cases e:z=s
    ·rw[if_pos e,e,g0]
    ·rw[if_neg e]
   ·rw[a3L,g5,tk,C8,z9,or_assoc]
 rintro _ Hi ⟨y3,S',rfl,g1,g2,g3,g4,g5,si⟩
 rw[c4]at g3 g5
 rw[X5]at g5
 ext
 exact k q S' Hi hq g1 g2 g3 g4 g5 si
end
abbrev Y3:List (List Nat):=[[1],[2],[0,3],[]]
abbrev a7e:List (List Nat):=[[0,1],[]]
def blk(k:Nat):List Stp:=(c8 k [((0:Int),(0:Int)),(1,0),(2,0)]).flatten
def nm(a v:Int):Sto:=[("n",a),("m",v)]
theorem b0G(k:Nat):blk (k+1)=blk k++[((0:Int),(0:Int)),(1,0),(2,0)]:=by
 unfold blk
 rw[Z5,List.flatten_append]
 simp
theorem b3y(k:Nat):(blk k).length=3 * k:=by
 induction k with
 | zero=>rfl
 | succ k ih=>rw[b0G,u8,ih];show 3 * k+3=_;omega
theorem c2s(k:Nat):(FST::blk (k+1)).set (3 * (k+1)) (2,1)=FST::blk k++[((0:Int),(0:Int)),(1,0),(2,1)]:=by
 rw[b0G]
 show(FST::(blk k++[((0:Int),(0:Int)),(1,0),(2,0)])).set (3 * k+2+1) (2,1)=_
 rw[List.set_cons_succ,List.set_append_right _ _ (by rw[b3y];omega),b3y,show 3 * k+2 - 3 * k=2 by omega]
 rfl
section
variable {W:Nat->Rw}{M a:Int}{S:Sto}{Wl:List Stp}{p:Stp}
theorem b2e(h0:0<=a)(h1:a+1<1000000000000):wv "plus" a 1=a+1:=by
 unfold wv
 rw[if_pos rfl]
 omega
theorem c3a{b:Int}:wv "less" a b=if a<b then 1 else 0:=by
 unfold wv
 rw[if_neg (by decide),if_neg (by decide),if_neg (by decide),if_pos rfl]
theorem c1Z(w0:W 0=.set "n" "plus" (.str "n") (.int 1))(w1:W 1=.set "m" "less" (.str "n") (.int M))(w2:W 2=.ask (.str "m"))(hp:L1 Y3 p=0)(ha:U6 S "n" = a)(a0:0<=a)(a1:a+1<1000000000000) :
  rn Y3 W 3 ⟨S,[],[],Wl,p,false⟩=⟨P6 (P6 S "n" (a+1)) "m" (if a+1<M then 1 else 0),[],[],Wl++[p,(0,0),(1,0)],(2,if a+1<M then 0 else 1),false⟩:=by
 have e1:st1 Y3 W ⟨S,[],[],Wl,p,false⟩=⟨P6 S "n" (a+1),[],[],Wl++[p],(0,0),false⟩:=by
  unfold st1
  dsimp only
  rw[hp,w0]
  show Rs.mk (P6 S "n" (wv "plus" (U6 S "n") 1)) [] [] _ _ _=_
  rw[ha,b2e a0 a1]
  rfl
 have e2:st1 Y3 W ⟨P6 S "n" (a+1),[],[],Wl++[p],(0,0),false⟩=⟨P6 (P6 S "n" (a+1)) "m" (if a+1<M then 1 else 0),[],[],Wl++[p]++[(0,0)],(1,0),false⟩:=by
  unfold st1
  dsimp only
  rw[show L1 Y3 (0,0)=1 by decide,w1]
  show Rs.mk (P6 (P6 S "n" (a+1)) "m" (wv "less" (U6 (P6 S "n" (a+1)) "n") M)) [] [] _ _ _=_
  rw[a2P,if_pos rfl,c3a]
  rfl
 have e3:st1 Y3 W ⟨P6 (P6 S "n" (a+1)) "m" (if a+1<M then 1 else 0),[],[],Wl++[p]++[(0,0)],(1,0),false⟩=⟨P6 (P6 S "n" (a+1)) "m" (if a+1<M then 1 else 0),[],[],Wl++[p,(0,0),(1,0)],(2,if a+1<M then 0 else 1),false⟩:=by
  unfold st1
  dsimp only
  rw[show L1 Y3 (1,0)=2 by decide,w2]
  show Rs.mk (P6 (P6 S "n" (a+1)) "m" (if a+1<M then 1 else 0)) [] [] _ (2,if U6 (P6 (P6 S "n" (a+1)) "m" (if a+1<M then 1 else 0)) "m" = 0 then 1 else 0) _=_
  rw[a2P,if_pos rfl]
  have:(if(if a+1<M then (1:Int)else 0)=0 then (1:Int)else 0)=if a+1<M then 0 else 1:=by split <;> simp
  rw[this,a4t,a4t]
  rfl
 show(if false=true then _ else rn Y3 W 2 (st1 Y3 W _))=_
 rw[if_neg (by decide),e1]
 show(if false=true then _ else rn Y3 W 1 (st1 Y3 W _))=_
 rw[if_neg (by decide),e2,a4e rfl,e3]
theorem c6u{b v:Int}:P6 (nm a v) "n" b=nm b v:=by
 unfold nm P6
 rw[if_pos rfl]
theorem c3v{b v w:Int}:P6 (P6 (nm a v) "n" b) "m" w=nm b w:=by
 rw[c6u]
 unfold nm P6
 rw[if_neg (show ¬(("n" : Str) = "m") by decide)]
 unfold P6
 rw[if_pos rfl]
theorem c1X(w0:W 0=.set "n" "plus" (.str "n") (.int 1))(w1:W 1=.set "m" "less" (.str "n") (.int M))(w2:W 2=.ask (.str "m"))(hM:M<=5000):∀k:Nat,(k:Int)+1<=M ->
  rn Y3 W (3 * (k+1)) ⟨[],[],[],[],FST,false⟩=⟨nm (k+1) (if(k:Int)+1<M then 1 else 0),[],[],FST::blk k++[((0:Int),(0:Int)),(1,0)],(2,if(k:Int)+1<M then 0 else 1),false⟩
 | 0,h=>by
  rw[show 3 * (0+1)=3 from rfl,c1Z (a:=0) w0 w1 w2 (by decide) rfl (by decide) (by decide)]
  rfl
 | k+1,h=>by
  rw[show 3 * (k+1+1)=3 * (k+1)+3 by omega,a3s,c1X w0 w1 w2 hM k (by omega),if_pos (show(k:Int)+1<M by omega),if_pos (show(k:Int)+1<M by omega),c1Z (a:=(k:Int)+1) w0 w1 w2 (by decide) rfl (by omega) (by omega),c3v,b0G]
  simp
theorem c1Y(w0:W 0=.set "n" "plus" (.str "n") (.int 1))(w1:W 1=.set "m" "less" (.str "n") (.int M))(w2:W 2=.ask (.str "m"))(w3:W 3=.tell (.str "n"))(hM:M<=5000)(k:Nat)(hk:(k:Int)+1=M) :
  rn Y3 W (3 * (k+1)+1) ⟨[],[],[],[],FST,false⟩=⟨nm M 0,[],[M],FST::blk k++[((0:Int),(0:Int)),(1,0),(2,1)],(3,0),true⟩:=by
 rw[a3s,c1X w0 w1 w2 hM k (by omega),a4e rfl,if_neg (by omega),if_neg (by omega)]
 unfold st1
 dsimp only
 rw[show L1 Y3 (2,1)=3 by decide,w3,hk]
 simp
 exact⟨rfl,rfl,rfl,rfl⟩
theorem b8X(w0:W 0=.set "n" "plus" (.str "n") (.int 1))(w1:W 1=.set "m" "less" (.str "n") (.int M))(w2:W 2=.ask (.str "m"))(w3:W 3=.tell (.str "n"))(h0:0<=M)(hM:M<=5000) :
  (rn Y3 W 4 ⟨[("n",M)],[],[],[],FST,false⟩).T=[M+1]:=by
 rw[show 4=3+1 from rfl,a3s,c1Z (a:=M) w0 w1 w2 (by decide) rfl (by omega) (by omega),a4e rfl,if_neg (by omega),if_neg (by omega)]
 unfold st1
 dsimp only
 rw[show L1 Y3 (2,1)=3 by decide,w3]
 show []++[U6 (P6 (P6 [("n",M)] "n" (M+1)) "m" 0) "n"]=_
 rw[a2P,if_neg (by decide),a2P,if_pos rfl]
 rfl
theorem c2m(w0:W 0=.ask (.int 1)):∀k:Nat,rn a7e W (k+1) ⟨[],[],[],[],FST,false⟩=⟨[],[],[],FST::c8 k ((0:Int),(0:Int)),(0,0),false⟩
 | 0=>by
  rw[a4e rfl]
  unfold st1
  dsimp only
  rw[show L1 a7e FST=0 by decide,w0]
  rfl
 | k+1=>by
  rw[a3s,c2m w0 k,a4e rfl]
  unfold st1
  dsimp only
  rw[show L1 a7e (0,0)=0 by decide,w0,Z5]
  rfl
theorem b4X(k:Nat):a3v (k+1)=a3v k++[((k:Int),((0:Nat):Int))]:=by
 unfold a3v
 rw[a5P,D7]
 rfl
theorem b3r(ws:∀i,i<m->W i=.set "n" "plus" (.str "n") (.int 1))(hm:m<=400)(ha:U6 S "n" = a)(hp:∀x,P6 S "n" x=[(("n" : Str),x)])(a0:0<=a)(a1:a<=1000):∀k:Nat,k<m ->
  rn (U7 m) W (k+1) ⟨S,[],[],[],FST,false⟩=⟨[("n",a+(k:Int)+1)],[],[],FST::a3v k,((k:Int),0),false⟩
 | 0,h=>by
  rw[a4e rfl]
  unfold st1
  dsimp only
  rw[show L1 (U7 m) FST=0 from if_pos rfl,ws 0 h]
  show Rs.mk (P6 S "n" (wv "plus" (U6 S "n") 1)) [] [] ([]++[FST]) _ (decide (((U7 m).getD 0 []).length=0))=_
  rw[ha,b2e a0 (by omega),hp,O3,a3N h,show a+((0:Nat):Int)+1=a+1 by omega]
  rfl
 | k+1,h=>by
  rw[a3s,b3r ws hm ha hp a0 a1 k (by omega),a4e rfl]
  unfold st1
  dsimp only
  rw[show L1 (U7 m) ((k:Int),0)=k+1 from b0z (by omega),ws (k+1) h]
  show Rs.mk (P6 [("n",a+(k:Int)+1)] "n" (wv "plus" (a+(k:Int)+1) 1)) [] [] ((FST::a3v k)++[((k:Int),0)]) _ (decide (((U7 m).getD (k+1) []).length=0))=_
  rw[b2e (by omega) (by omega),O3,a3N h,b4X,show a+((k+1:Nat):Int)+1=a+(k:Int)+1+1 by omega]
  rfl
theorem b1O(ws:∀i,i<m->W i=.set "n" "plus" (.str "n") (.int 1))(wt:W m=.tell (.str "n"))(h1:0<m)(hm:m<=400) :
  rn (U7 m) W (m+1) ⟨[],[],[],[],FST,false⟩=⟨[("n",(m:Int))],[],[(m:Int)],FST::a3v m,((m:Int),0),true⟩:=by
 obtain⟨k,rfl⟩:∃k,m=k+1:=⟨m - 1,by omega⟩
 rw[a3s,b3r (a:=0) ws hm rfl (fun x=>rfl) (by decide) (by decide) k (by omega),a4e rfl]
 unfold st1
 dsimp only
 rw[show L1 (U7 (k+1)) ((k:Int),0)=k+1 from b0z (by omega),wt]
 show Rs.mk [("n",0+(k:Int)+1)] [] [0+(k:Int)+1] ((FST::a3v k)++[((k:Int),0)]) _ (decide (((U7 (k+1)).getD (k+1) []).length=0))=_
 rw[O3,a7W,b4X,show 0+(k:Int)+1=((k+1:Nat):Int) by omega]
 rfl
end
section
variable {K:Fg}{c:Cn}{x q:Addr}{W:Nat->Rw}{E:XK}
theorem b2D{n kd:Str}{a0 b0:V}(h:RwS H [.str "set",.str n,.ref q] w)(hq:H q=some (.tup [.str kd,a0,b0])):w=.set n kd a0 b0:=by
 cases w with
 | set n1 k1 a1 b1=>
  obtain⟨q1,e,h1,_⟩:=h
  cases e
  rw[hq]at h1
  cases h1
  rfl
 | copy n v=>exact absurd (V.str.inj (List.cons.inj h.1).1) (by decide)
 | take n=>exact absurd (V.str.inj (List.cons.inj h.1).1) (by decide)
 | tell v=>exact absurd (V.str.inj (List.cons.inj h.1).1) (by decide)
 | ask v=>exact absurd (V.str.inj (List.cons.inj h.1).1) (by decide)
 | skip=>exact absurd (V.str.inj (List.cons.inj h).1) (by decide)
theorem b4z(h:RwS H [.str "tell",v] w):w=.tell v:=by
 cases w with
 | set n1 k1 a1 b1=>
  obtain⟨q1,e,_⟩:=h
  exact absurd (V.str.inj (List.cons.inj e).1) (by decide)
 | copy n v=>exact absurd (V.str.inj (List.cons.inj h.1).1) (by decide)
 | take n=>exact absurd (V.str.inj (List.cons.inj h.1).1) (by decide)
 | tell v=>obtain⟨e,_⟩:=h;cases e;rfl
 | ask v=>exact absurd (V.str.inj (List.cons.inj h.1).1) (by decide)
 | skip=>exact absurd (V.str.inj (List.cons.inj h).1) (by decide)
theorem b7A(h:RwS H [.str "ask",v] w):w=.ask v:=by
 cases w with
 | set n1 k1 a1 b1=>
  obtain⟨q1,e,_⟩:=h
  exact absurd (V.str.inj (List.cons.inj e).1) (by decide)
 | copy n v=>exact absurd (V.str.inj (List.cons.inj h.1).1) (by decide)
 | take n=>exact absurd (V.str.inj (List.cons.inj h.1).1) (by decide)
 | tell v=>exact absurd (V.str.inj (List.cons.inj h.1).1) (by decide)
 | ask v=>obtain⟨e,_⟩:=h;cases e;rfl
 | skip=>exact absurd (V.str.inj (List.cons.inj h).1) (by decide)
theorem PlK.row{i:Nat}(pk:PlK K c H x N rs RC W)(hp:rs[i]? = some p)(h:H p=some (.tup xs)):RwS H xs (W i):=by
 have a:=(pk.rc i p hp).1
 rw[h]at a
 cases a
 exact pk.rw i p hp
theorem a8Q(ck:a7s K c)(hrs:H ra=some (.lst (rs.map V.ref)))(R:U9 H ra N)(T:J0 H na N)(hv:a1n N)(hx:H x=none)(hdx:H dx=none)
  (k:∀H' RC W,PlK K c H' x N rs RC W->A9 H H'->Q .non H'):Y1 K c [.ref x,.ref ra,.ref na] (upd (upd H dx (.own x)) x (.ins c.S8 dx [])) Q E:=by
 have sm:A9 H (upd (upd H dx (.own x)) x (.ins c.S8 dx [])):=fun b o e=>by
  rw[o4 (d9 e hx),o4 (d9 e hdx)];exact e
 obtain⟨H9,hH9⟩:∃H9,H9=upd (upd H dx (.own x)) x (.ins c.S8 dx []):=⟨_,rfl⟩
 have x9:H9 x=some (.ins c.S8 dx []):=hH9 ▸ g7
 rw[<-hH9]at sm ⊢
 refine b2I ck (sm _ _ hrs) (R.same sm) (T.same sm) hv x9 fun H10 pz old=>?_
 obtain⟨RC,W,pk⟩:=c6C pz
 exact k H10 RC W pk fun b o e=>old b o (sm _ _ e) (d9 e hx)
theorem b2B{n:Str}{tv:TE}(hv:∀(R:VK) H',R (.int i) H'->tv σ H' R)(k:∀p H',H p=none->H' p=some (.dK [(Sum.inr n,.int i)])->A9 H H'->Q (.ref p) H'):a6K ((tC (.str n),tv)::[]) σ H Q:=by
 intro p hp
 show tv σ (upd H p (.dK [])) _
 refine hv _ _ ?_
 refine⟨g7,[(Sum.inr n,.int i)],rfl,by simp,?_⟩
 rw[a6F]
 exact k p _ hp g7 (D6 hp)
theorem c3p{tv tw:TE}{j:Int}(hv:∀(R:VK) H',R (.int i) H'->tv σ H' R)(hw:∀(R:VK) H',R (.int j) H'->tw σ H' R)(k:∀p H',H p=none->H' p=some (.dK (SD (nm i j)))->A9 H H'->Q (.ref p) H'):a6K ((tC (.str "n"),tv)::(tC (.str "m"),tw)::[]) σ H Q:=by
 intro p hp
 show tv σ (upd H p (.dK [])) _
 refine hv _ _ ?_
 show tw σ (upd H p (.dK [])) _
 refine hw _ _ ?_
 refine⟨g7,[(Sum.inr "n",.int i),(Sum.inr "m",.int j)],rfl,by simp,?_⟩
 rw[a6F]
 exact k p _ hp g7 (D6 hp)
theorem c4K{k:Nat}(h:k<=m):a3v k <+: a3v m:=by
 have e:(a3v m).take k=a3v k:=by
  unfold a3v
  rw[<-a8j,List.take_range,c8l h]
 rw[<-e]
 exact List.take_prefix _ _
theorem a8a:bdS []:=⟨c8m,fun p hp=>nomatch hp⟩
theorem b6W{n:Str}(h0:0<=i)(h1:i<1000000000000):bdS [(n,i)]:=a8a.put (n:=n) h0 h1
theorem c2z(ck:a7s K c)(hB:Bag H b d)(k:∀H',Bag H' b d->D9 b H H'->Q (.bl true) H'):a6R K c [.ref b] H Q E:=by
 have nmN:NmS "n" := ⟨by decide +kernel,by decide +kernel⟩
 refine⟨rfl,?_⟩
 unfold b7r
 nofun
 exists G0 hB (by decide) (by decide) fun n0 H0 n00 n01 B0 k0=>?_
 obtain⟨m,hm⟩:∃m:Nat,341+n0=((m:Nat):Int)+1:=⟨(340+n0).toNat,by omega⟩
 have m0:340<=m:=by omega
 have m1:m<=399:=by omega
 have em:(341+n0 - 1:Int)=(m:Int):=by omega
 have hv:a1n (U7 m):=b5d m1
 have rl:(U7 m).length=m+1:=a5E
 nofun
 exists z8 (by simp) fun dd H1 hdd e1 s1=>?_
 exists z8 (by simp) fun p0 H2 hp0 e2 s2=>?_
 exists z8 (by simp) fun l0 H3 hl0 e3 s3=>?_
 rw[em]
 refine⟨l0,_,_,rfl,rfl,e3,by omega,by omega,a1c (J7 (by show 1 * ((m:Int).toNat)<100000;omega)),fun r1 hr1=>?_⟩
 have ef:(c8 ((m:Int)).toNat [V.ref p0]).flatten=(c8 m p0).map V.ref:=by
  rw[A7,a9k,c2S]
 rw[ef]
 have s4:A9 H3 (upd H3 r1 (.lst ((c8 m p0).map V.ref))):=D6 hr1
 obtain⟨H4,hH4⟩:∃H4,H4=upd H3 r1 (.lst ((c8 m p0).map V.ref)):=⟨_,rfl⟩
 have e4:H4 r1=some (.lst ((c8 m p0).map V.ref)):=hH4 ▸ g7
 rw[<-hH4]at s4 ⊢
 ext
 exists z8 (by simp) fun pt H5 hpt e5 s5=>?_
 refine z8 (by simp) fun l1 H6 hl1 e6 s6=>?_
 have s46:=s5.trans s6
 refine a4f (s46 _ _ e4) e6 ?_
 refine z8 (by simp;omega) fun ra H7 hra e7 s7=>?_
 have ea:(c8 m p0).map V.ref++[V.ref pt]=(c8 m p0++[pt]).map V.ref:=by rw[D7];rfl
 rw[ea]at e7
 obtain⟨rs,hrs⟩:∃rs,rs=c8 m p0++[pt]:=⟨_,rfl⟩
 rw[<-hrs]at e7
 have lrs:rs.length=m+1:=by rw[hrs];simp
 have s47:=s46.trans s7
 have s17:A9 H1 H7:=((s2.trans s3).trans s4).trans s47
 have d7:=s17 _ _ e1
 have p7:H7 p0=some (.tup [.str "set",.str "n",.ref dd]):=((s3.trans s4).trans s47) _ _ e2
 have t7:H7 pt=some (.tup [.str "tell",.str "n"]):=(s6.trans s7) _ _ e5
 have dn:a5n H7 dd:=⟨"plus",.str "n",.int 1,d7,.inl ⟨_,rfl,nmN⟩,.inr ⟨1,rfl,by decide,by decide⟩,by decide⟩
 have at0:∀i,i<m->rs[i]? = some p0:=fun i hi=>by
  rw[hrs,L3 (by simpa using hi),K7,if_pos hi]
 have atm:rs[m]? = some pt:=by
  rw[hrs,K8 (by simp)]
  simp
 have R7:U9 H7 ra (U7 m):=⟨rs,e7,by rw[lrs,rl],fun i x l f1 f2=>by
  rcases a3g f2 with ⟨hi,rfl⟩ | ⟨hi,rfl⟩
  ·rw[at0 i hi]at f1
   cases f1
   exact⟨p0,_,rfl,p7,.set _ _ nmN dn,_,_,rfl,rfl⟩
  ·subst hi
   rw[atm]at f1
   cases f1
   exact⟨pt,_,rfl,t7,.tell _ (.inl ⟨_,rfl,nmN⟩),_,_,rfl,by decide⟩⟩
 ext
 nofun
 specialize b2y ?_
 refine b9l (m:=m) (by omega) (fun _ R H' h=>by
  ext
  rw[em]
  exact h) fun na H8 hna T8 s8=>?_
 ext
 intro x dx hx hdx hne
 refine a8Q ck (s8 _ _ e7) (R7.same s8) T8 hv hx hdx fun H10 RC W pk s810=>⟨rfl,?_⟩
 have s710:=s8.trans s810
 have s010:A9 H0 H10:=(s1.trans s17).trans s710
 have ws:∀i,i<m->W i=.set "n" "plus" (.str "n") (.int 1):=fun i hi=>b2D (pk.row (at0 i hi) (s710 _ _ p7)) (s710 _ _ d7)
 have wt:W m=.tell (.str "n"):=b4z (pk.row atm (s710 _ _ t7))
 ext
 nofun
 exists z8 (by simp) fun f0 H11 hf0 e11 s11=>?_
 exists z8 (by simp) fun l2 H12 hl2 e12 s12=>?_
 specialize a0i (a0N ?_)
 rw[em]
 refine⟨(m:Int),rfl,by omega,by omega,fun T hT=>?_⟩
 rw[A7]
 refine a2Q (n:=m) (fun i ys H13=>∃vs:List Addr,ys=vs.map V.ref/\vs.length=i/\(∀(j:Nat) a,vs[j]? = some a->H13 a=some (.tup [.int (j:Int),.int 0]))/\H13 T=some (.lst ys)/\A9 H12 H13) ⟨[],rfl,rfl,by simp,g7,D6 hT⟩ ?_ ?_ ?_
 ·rintro i ys H13 ⟨_,_,_,_,h,_⟩
  exact h
 ·rintro i ys H13 hi ⟨vs,rfl,lv,at7,hD7,s7⟩ R hR
  rw[X3]
  ext
  refine z8 (by simp) fun y H8 hy e8 s8=>?_
  have hD8:=s8 _ _ hD7
  refine hR _ _ hD8 (J7 (by rw[c4];omega)) ⟨vs++[y],by simp,by simp[lv],fun j z e=>?_,g7,fun b o e=>?_⟩
  ·rcases V6 e with ⟨_,e⟩ | ⟨hj,e⟩
   ·exact O5.put hD8 _ _ (s8 _ _ (at7 j z e))
   ·subst e
    rw[hj,lv]
    exact O5.put hD8 _ _ e8
  ·rw[o4 (d9 e hT)];exact s8 _ _ (s7 _ _ e)
 rintro _ H13 ⟨vs,rfl,lv,at13,e13,s13⟩
 ext
 refine a4f (s13 _ _ e12) e13 ?_
 refine z8 (by simp;omega) fun w H14 hw e14 s14=>?_
 have e14:H14 w=some (.lst ((f0::vs).map V.ref)):=e14
 have s1214:=s13.trans s14
 have s1014:=(s11.trans s12).trans s1214
 have W14:WS H14 w (FST::a3v m):=⟨f0::vs,e14,by simp[lv,b7L],fun i p s f1 f2=>by
  cases i with
  | zero=>
   cases f1
   cases f2
   exact(s12.trans s1214) _ _ e11
  | succ i=>
   have f1:vs[i]? = some p:=f1
   have f2:(a3v m)[i]? = some s:=f2
   have hi:=(gI f1)
   rw[c7P (by omega)]at f2
   cases f2
   exact s14 _ _ (at13 i p f1)⟩
 have s014:=s010.trans s1014
 ext
 nofun
 refine G0 (B0.same s014) (by omega) (by omega) fun n1 H15 n10 n11 B15 k15=>?_
 obtain⟨j,rfl⟩:=A8 n10
 have jm:j<=m:=by omega
 have pk15:=(pk.same s1014).kept (B0.same s014) hv k15
 have W15:=W14.kept (B0.same s014) k15
 have e15:=k15.1 _ _ e14 (a0j (B0.same s014) e14)
 ext
 nofun
 exists a4X fun d0 H16 hd0 e16 s16=>?_
 exists z8 (by simp) fun t0 H17 ht0 e17 s17'=>?_
 refine a1A (S0:=[]) (L0:=[]) (m:=400) ck (pk15.same (s16.trans s17')) hv (s17' _ _ e16) a8a (by simp) e17 (by simp) (by decide) fun q H18 r18 s18=>?_
 have er:rn (U7 m) W 400 ⟨[],([]:List Int).reverse,[],[],FST,false⟩=⟨[("n",(m:Int))],[],[(m:Int)],FST::a3v m,((m:Int),0),true⟩:=by
  rw[a0X,b2E (m:=m+1) (by omega) (by rw[b1O ws wt (by omega) (by omega)]),b1O ws wt (by omega) (by omega)]
 rw[er]at r18
 have s1518:=(s16.trans s17').trans s18
 ext
 rw[em]
 exists z8 (by simp) fun t1 H19 ht1 e19 s19=>?_
 exists b2B (i:=(m:Int)) (fun R H' h=>by walk_at "ev";rw[em];exact h) fun d1 H20 hd1 e20 s20=>?_
 refine z8 (by simp) fun tp H21 htp e21 s21=>?_
 have s1821:=(s19.trans s20).trans s21
 have s1521:=s1518.trans s1821
 have rt:a7q K H21 tp ⟨[("n",(m:Int))],[],[(m:Int)],FST::a3v m,((m:Int),0),true⟩:=⟨t1,w,d1,e21,(s20.trans s21) _ _ e19,(W15.same s1521).at,s21 _ _ e20,b6W (by omega) (by omega)⟩
 obtain⟨xs,ys,a1,b1,la,lb,_,dd⟩:=(r18.t.same s1821).dd rt
 refine⟨q,tp,xs,ys,rfl,rfl,SqT.of a1,SqT.of b1,by rw[la,lb],dd,_,rfl,?_⟩
 exists C5 rfl ?_
 exists b2B (i:=5) (fun R H' h=>by walk_at "ev";exact h) fun d2 H22 hd2 e22 s22=>?_
 exists z8 (by simp) fun t2 H23 ht2 e23 s23=>?_
 have s1523:=(s1521.trans s22).trans s23
 refine a1A (S0:=[("n",5)]) (L0:=[]) (m:=j) ck (pk15.same s1523) hv (s23 _ _ e22) (b6W (by decide) (by decide)) (by simp) e23 (by simp) (by omega) fun q2 H24 r24 s24=>?_
 have s1524:=s1523.trans s24
 obtain⟨r,hr⟩:∃r,r=rn (U7 m) W j ⟨[("n",5)],([]:List Int).reverse,[],[],FST,false⟩:=⟨_,rfl⟩
 have fr:r.T=[]/\r.W <+: FST::a3v m/\r.W.length=j:=by
  rw[hr,a0X]
  cases j with
  | zero=>exact⟨rfl,List.nil_prefix,rfl⟩
  | succ i=>
   rw[b3r (a:=5) ws (by omega) rfl (fun x=>rfl) (by decide) (by decide) i (by omega)]
   exact⟨rfl,List.cons_prefix_cons.mpr ⟨rfl,c4K (by omega)⟩,by simp[b7L]⟩
 rw[<-hr]at r24
 obtain⟨tl,wl,sl,u1,u2,u3,_⟩:=r24.t
 rw[fr.1]at u2
 ext
 refine c5q u1 (by show ¬(0=0/\2=4);decide) fun z0 H25 hz0 e25 s25=>?_
 have e25:H25 z0=some (.tup [.ref tl,.ref wl]):=e25
 ext
 exists z8 (by simp) fun z1 H26 hz1 e26 s26=>?_
 have s1526:=(s1524.trans s25).trans s26
 refine b1E (s1526 _ _ e15) fun z2 H27 hz2 e27 s27=>?_
 rw[a7f _ (by simp[lv];omega),<-fr.2.2]at e27
 have W27:=((W15.same s1526).same s27).at (K:=K)
 have Z27:=W27.pre fr.2.1 (s27 _ _ (s1526 _ _ e15)) e27
 ext
 refine z8 (by simp) fun z3 H28 hz3 e28 s28=>?_
 have s2428:=((s25.trans s26).trans s27).trans s28
 have s1528:=s1524.trans s2428
 refine⟨z0,z3,3,rfl,rfl,by decide,.tup (SqT.of (((s26.trans s27).trans s28) _ _ e25)) (SqT.of e28) rfl fun i u v f1 f2=>?_,k H28 (B15.same s1528) ((k0.trans (D9.of_same s014)).trans (k15.trans (D9.of_same s1528)))⟩
 match i with
 | 0=>
  cases f1;cases f2
  exact a8T 1 (T:=[]) (s2428 _ _ u2) ((s27.trans s28) _ _ e26)
 | 1=>
  cases f1;cases f2
  exact a3G (u3.same s2428) (Z27.same s28)
 | i+2=>cases f1
end
def fsJ:Nat->Stp
 | 0=>(0,0)
 | 1=>(1,0)
 | 2=>(2,0)
 | 3=>FST
 | _=>(2,1)
def faJ(a0 a1 a2 a3 a4:Addr):Nat->Addr
 | 0=>a0
 | 1=>a1
 | 2=>a2
 | 3=>a3
 | _=>a4
def b0r(n:Nat):List Nat:=3::(c8 n [0,1,2]).flatten
section
variable {K:Fg}{c:Cn}{x q:Addr}{W:Nat->Rw}{E:XK}
theorem b3i{α:Type}(f:Nat->α)(n:Nat):(b0r n).map f=f 3::(c8 n [f 0,f 1,f 2]).flatten:=by simp[b0r,List.map_flatten]
theorem c4B(k:Nat):((b0r (k+1)).set (3 * (k+1)) 4).map fsJ=FST::blk k++[((0:Int),(0:Int)),(1,0),(2,1)]:=by
 rw[a9h,b3i,<-c2s]
 rfl
theorem b8j{J:List Nat}{fa:Nat->Addr}{fs:Nat->Stp}{w:Addr}(hw:H w=some (.lst ((J.map fa).map V.ref)))(h:∀j,a0U K H (fa j) (fs j)):E8 K H w (J.map fs):=by
 refine⟨J.map fa,hw,by simp,fun i x s f1 f2=>?_⟩
 rw[d8]at f1 f2
 obtain⟨j,hj,rfl⟩:=O7.mp f1
 rw[hj]at f2
 cases f2
 exact h j
theorem a2O:a1n Y3:=by
 have r1:Rc Y3 1:=.step .zero (l:=[1]) rfl (by simp)
 have r2:Rc Y3 2:=.step r1 (l:=[2]) rfl (by simp)
 have r3:Rc Y3 3:=.step r2 (l:=[0,3]) rfl (by simp)
 have g3:Gd Y3 3:=.stop rfl
 have g2:Gd Y3 2:=.step (l:=[0,3]) rfl (by simp) g3
 have g1:Gd Y3 1:=.step (l:=[2]) rfl (by simp) g2
 have g0:Gd Y3 0:=.step (l:=[1]) rfl (by simp) g1
 refine⟨by decide,by decide,by decide,by decide,fun k hk=>?_,fun k hk=>?_⟩
 ·match k with
  | 0=>exact .zero
  | 1=>exact r1
  | 2=>exact r2
  | 3=>exact r3
  | k+4=>exact absurd hk (by show ¬k+4<4;omega)
 ·match k with
  | 0=>exact g0
  | 1=>exact g1
  | 2=>exact g2
  | 3=>exact g3
  | k+4=>exact absurd hk (by show ¬k+4<4;omega)
theorem b0u:a1n a7e:=by
 have r1:Rc a7e 1:=.step .zero (l:=[0,1]) rfl (by simp)
 have g1:Gd a7e 1:=.stop rfl
 have g0:Gd a7e 0:=.step (l:=[0,1]) rfl (by simp) g1
 refine⟨by decide,by decide,by decide,by decide,fun k hk=>?_,fun k hk=>?_⟩
 ·match k with
  | 0=>exact .zero
  | 1=>exact r1
  | k+2=>exact absurd hk (by show ¬k+2<2;omega)
 ·match k with
  | 0=>exact g0
  | 1=>exact g1
  | k+2=>exact absurd hk (by show ¬k+2<2;omega)
theorem c9q(h:n<m):ixN m (n:Int)=some n:=by
 unfold ixN
 rw[if_pos (by omega),if_pos (by omega),A7]
theorem c6h{R:Hp->Prop}(h:H p=some (.lst xs))(hn:n<xs.length)(k:R (upd H p (.lst (xs.set n v)))):a6Y (.ref p) (.int (n:Int)) v H R:=by
 unfold a6Y
 simp only[h]
 exact⟨n,c9q hn,k⟩
theorem b8v(ck:a7s K c)(hB:Bag H b d)(k:∀H',Bag H' b d->D9 b H H'->Q (.bl true) H'):a5u K c [.ref b] H Q E:=by
 have nmN:NmS "n" := ⟨by decide +kernel,by decide +kernel⟩
 have nmM:NmS "m" := ⟨by decide +kernel,by decide +kernel⟩
 refine⟨rfl,?_⟩
 unfold b4i
 nofun
 exists G0 hB (by decide) (by decide) fun n0 H0 n00 n01 B0 k0=>?_
 obtain⟨i,hi⟩:∃i:Nat,1+n0=(i:Int)+1:=⟨n0.toNat,by omega⟩
 rw[hi]
 have i1:i<1333:=by omega
 obtain⟨M,hM⟩:∃M:Int,M=(i:Int)+1:=⟨_,rfl⟩
 rw[<-hM]
 have M0:0<=M:=by omega
 have M1:M<=1333:=by omega
 nofun
 exists z8 (by simp) fun d0 H1 hd0 e1 s1=>?_
 exists z8 (by simp) fun p0 H2 hp0 e2 s2=>?_
 exists z8 (by simp) fun d1 H3 hd1 e3 s3=>?_
 exists z8 (by simp) fun p1 H4 hp1 e4 s4=>?_
 exists z8 (by simp) fun p2 H5 hp2 e5 s5=>?_
 exists z8 (by simp) fun p3 H6 hp3 e6 s6=>?_
 exists z8 (by simp) fun ra H7 hra e7 s7=>?_
 have s67:=s6.trans s7
 have s57:=s5.trans s67
 have s47:=s4.trans s57
 have s37:=s3.trans s47
 have s27:=s2.trans s37
 have s17:=s1.trans s27
 have d0':=s27 _ _ e1
 have p0':=s37 _ _ e2
 have d1':=s47 _ _ e3
 have p1':=s57 _ _ e4
 have p2':=s67 _ _ e5
 have p3':=s7 _ _ e6
 have e7:H7 ra=some (.lst ([p0,p1,p2,p3].map V.ref)):=e7
 have dn0:a5n H7 d0:=⟨"plus",.str "n",.int 1,d0',.inl ⟨_,rfl,nmN⟩,.inr ⟨1,rfl,by decide,by decide⟩,by decide⟩
 have dn1:a5n H7 d1:=⟨"less",.str "n",.int M,d1',.inl ⟨_,rfl,nmN⟩,.inr ⟨M,rfl,M0,by omega⟩,by decide⟩
 have R7:U9 H7 ra Y3:=⟨[p0,p1,p2,p3],e7,rfl,fun j x l f1 f2=>by
  match j with
  | 0=>cases f1;cases f2;exact⟨p0,_,rfl,p0',.set _ _ nmN dn0,_,_,rfl,rfl⟩
  | 1=>cases f1;cases f2;exact⟨p1,_,rfl,p1',.set _ _ nmM dn1,_,_,rfl,rfl⟩
  | 2=>cases f1;cases f2;exact⟨p2,_,rfl,p2',.ask _ (.inl ⟨_,rfl,nmM⟩),_,_,rfl,rfl⟩
  | 3=>cases f1;cases f2;exact⟨p3,_,rfl,p3',.tell _ (.inl ⟨_,rfl,nmN⟩),_,_,rfl,rfl⟩
  | j+4=>cases f1⟩
 nofun
 specialize b2y ?_
 exists z8 (by simp) fun n0 H8 hn0 e8 s8=>?_
 exists z8 (by simp) fun n1 H9 hn1 e9 s9=>?_
 exists z8 (by simp) fun n2 H10 hn2 e10 s10=>?_
 exists z8 (by simp) fun n3 H11 hn3 e11 s11=>?_
 exists z8 (by simp) fun na H12 hna e12 s12=>?_
 have s1112:=s11.trans s12
 have s1012:=s10.trans s1112
 have s912:=s9.trans s1012
 have s712:=s8.trans s912
 have T12:J0 H12 na Y3:=⟨[n0,n1,n2,n3],e12,rfl,fun j x l f1 f2=>by
  match j with
  | 0=>cases f1;cases f2;exact s912 _ _ e8
  | 1=>cases f1;cases f2;exact s1012 _ _ e9
  | 2=>cases f1;cases f2;exact s1112 _ _ e10
  | 3=>cases f1;cases f2;exact s12 _ _ e11
  | j+4=>cases f1⟩
 intro x dx hx hdx hne
 refine a8Q ck (s712 _ _ e7) (R7.same s712) T12 a2O hx hdx fun H13 RC W pk s1213=>⟨rfl,?_⟩
 have s713:=s712.trans s1213
 have w0:W 0=.set "n" "plus" (.str "n") (.int 1):=b2D (pk.row (i:=0) rfl (s713 _ _ p0')) (s713 _ _ d0')
 have w1:W 1=.set "m" "less" (.str "n") (.int M):=b2D (pk.row (i:=1) rfl (s713 _ _ p1')) (s713 _ _ d1')
 have w2:W 2=.ask (.str "m"):=b7A (pk.row (i:=2) rfl (s713 _ _ p2'))
 have w3:W 3=.tell (.str "n"):=b4z (pk.row (i:=3) rfl (s713 _ _ p3'))
 have s013:=s17.trans s713
 obtain⟨mt,hmt⟩:∃mt:Nat,mt=4000:=⟨_,rfl⟩
 have fin:rn Y3 W mt ⟨[],[],[],[],FST,false⟩=⟨nm M 0,[],[M],FST::blk i++[((0:Int),(0:Int)),(1,0),(2,1)],(3,0),true⟩:=by
  have:=c1Y w0 w1 w2 w3 (by omega) i hM.symm
  rw[b2E (m:=3 * (i+1)+1) (by omega) (by rw[this]),this]
 ext
 nofun
 exists a4X fun d2 H14 hd2 e14 s14=>?_
 exists z8 (by simp) fun t0 H15 ht0 e15 s15=>?_
 have s1315:=s14.trans s15
 rw[show(4000:Int)=(mt:Int) by rw[hmt];rfl]
 refine a1A (S0:=[]) (L0:=[]) ck (pk.same s1315) a2O (s15 _ _ e14) a8a (by simp) e15 (by simp) (by omega) fun q H16 r16 s16=>?_
 rw[a0X,fin]at r16
 have s1316:=s1315.trans s16
 obtain⟨tl,wl,sl,u1,u2,u3,u4,u5⟩:=r16.t
 refine⟨q,_,rfl,SqT.of u1,rfl,_,_,rfl,_,_,rfl,_,_,rfl,_,_,rfl,rfl,?_⟩
 nofun
 exists z8 (by simp) fun f3 H17 hf3 e17 s17'=>?_
 exists z8 (by simp) fun l0 H18 hl0 e18 s18=>?_
 exists z8 (by simp) fun f0 H19 hf0 e19 s19=>?_
 exists z8 (by simp) fun f1 H20 hf1 e20 s20=>?_
 exists z8 (by simp) fun f2 H21 hf2 e21 s21=>?_
 exists z8 (by simp) fun l1 H22 hl1 e22 s22=>?_
 refine⟨l1,_,_,rfl,rfl,e22,by omega,by omega,a1c (J7 (by show 3 * M.toNat<100000;omega)),fun l2 hl2=>?_⟩
 have eM:M.toNat=i+1:=by omega
 rw[eM]
 have s23:A9 H22 (upd H22 l2 (.lst (c8 (i+1) [V.ref f0,V.ref f1,V.ref f2]).flatten)):=D6 hl2
 obtain⟨H23,hH23⟩:∃H23,H23=upd H22 l2 (.lst (c8 (i+1) [V.ref f0,V.ref f1,V.ref f2]).flatten):=⟨_,rfl⟩
 have e23:H23 l2=some (.lst (c8 (i+1) [V.ref f0,V.ref f1,V.ref f2]).flatten):=hH23 ▸ g7
 rw[<-hH23]at s23 ⊢
 have s2223:=s22.trans s23
 have s2123:=s21.trans s2223
 have s2023:=s20.trans s2123
 have s1923:=s19.trans s2023
 have s1823:=s18.trans s1923
 have lr:(c8 (i+1) [V.ref f0,V.ref f1,V.ref f2]).flatten.length=3 * (i+1):=by rw[b3b];show(i+1) * 3=_;omega
 refine a4f (s1923 _ _ e18) e23 ?_
 exists z8 (by rw[lr];simp;omega) fun du H24 hdu e24 s24=>?_
 nofun
 exists z8 (by simp) fun f4 H25 hf4 e25 s25=>?_
 exists Y2 (.inl (by omega)) ?_
 rw[show(3 * M:Int)=((3 * (i+1):Nat):Int) by omega]
 have ea:[V.ref f3]++(c8 (i+1) [V.ref f0,V.ref f1,V.ref f2]).flatten=((b0r (i+1)).map (faJ f0 f1 f2 f3 f4)).map V.ref:=by
  rw[S9,b3i];rfl
 rw[ea]at e24
 have lJ:(b0r (i+1)).length=3 * (i+1)+1:=by
  have:=congrArg b1n (b3i id (i+1))
  rw[c4]at this
  rw[this,C6,b3b]
  show(i+1) * 3+1=_
  omega
 refine c6h (s25 _ _ e24) (by rw[c4,c4,lJ];omega) ?_
 have eset:(((b0r (i+1)).map (faJ f0 f1 f2 f3 f4)).map V.ref).set (3 * (i+1)) (V.ref f4)=(((b0r (i+1)).set (3 * (i+1)) 4).map (faJ f0 f1 f2 f3 f4)).map V.ref:=by
  rw[S9,S9,a9h];rfl
 rw[eset]
 have t26:O5 H25 (upd H25 du (.lst ((((b0r (i+1)).set (3 * (i+1)) 4).map (faJ f0 f1 f2 f3 f4)).map V.ref))):=O5.put (s25 _ _ e24)
 have s1623:A9 H16 H23:=s17'.trans (s18.trans s1923)
 have fdu:H16 du=none:=s1623.free hdu
 have s1626:A9 H16 (upd H25 du (.lst ((((b0r (i+1)).set (3 * (i+1)) 4).map (faJ f0 f1 f2 f3 f4)).map V.ref))):=fun b o e=>by
  rw[o4 (d9 e fdu)];exact s25 _ _ (s24 _ _ (s1623 _ _ e))
 obtain⟨H26,hH26⟩:∃H26,H26=upd H25 du (.lst ((((b0r (i+1)).set (3 * (i+1)) 4).map (faJ f0 f1 f2 f3 f4)).map V.ref)):=⟨_,rfl⟩
 have e26:H26 du=some (.lst ((((b0r (i+1)).set (3 * (i+1)) 4).map (faJ f0 f1 f2 f3 f4)).map V.ref)):=hH26 ▸ g7
 rw[<-hH26]at t26 s1626 ⊢
 have s2325:=s24.trans s25
 have D26:E8 K H26 du (FST::blk i++[((0:Int),(0:Int)),(1,0),(2,1)]):=by
  rw[<-c4B]
  refine b8j e26 fun j=>?_
  match j with
  | 0=>exact .inl (t26 _ _ (s2325 _ _ (s2023 _ _ e19)))
  | 1=>exact .inl (t26 _ _ (s2325 _ _ (s2123 _ _ e20)))
  | 2=>exact .inl (t26 _ _ (s2325 _ _ (s2223 _ _ e21)))
  | 3=>exact .inl (t26 _ _ (s2325 _ _ (s1823 _ _ e17)))
  | j+4=>exact .inl (t26 _ _ e25)
 ext
 nofun
 refine z8 (by simp) fun z0 H27 hz0 e27 s27'=>?_
 refine⟨_,a5C (s27' _ _ (s1626 _ _ u2)) e27 rfl rfl,?_⟩
 refine⟨_,rfl,?_⟩
 exists C5 (by rw[show([M].map V.int)=[V.int M] from rfl,a8A _ rfl];rfl) ?_
 have s1627:=s1626.trans s27'
 refine⟨wl,du,2,rfl,rfl,by decide,a3G (u3.same s1627) (D26.same s27'),_,rfl,?_⟩
 exists C5 rfl ?_
 refine c3p (i:=M) (j:=0) (fun R H' h=>by walk_at "ev";exact h) (fun R H' h=>by walk_at "ev";exact h) fun d3 H28 hd3 e28 s28=>?_
 have s1628:=s1627.trans s28
 refine .inr ⟨sl,d3,_,_,rfl,rfl,s1628 _ _ u4,e28,a9c,b0I,?_⟩
 rw[b3B u5 u5 (fun _=>rfl) fun _=>Iff.rfl]
 refine⟨_,rfl,?_⟩
 exists C5 rfl ?_
 refine⟨true,true,rfl,rfl,_,rfl,?_⟩
 exists C5 rfl ?_
 nofun
 specialize b2y ?_
 exists z8 (by simp) fun p5 H29 hp5 e29 s29=>?_
 exists z8 (by simp) fun p6 H30 hp6 e30 s30=>?_
 exists z8 (by simp) fun rb H31 hrb e31 s31=>?_
 exists z8 (by simp) fun n5 H32 hn5 e32 s32=>?_
 exists z8 (by simp) fun n6 H33 hn6 e33 s33=>?_
 exists z8 (by simp) fun nb H34 hnb e34 s34=>?_
 have e31:H31 rb=some (.lst ([p5,p6].map V.ref)):=e31
 have s3334:=s33.trans s34
 have s3134:=s32.trans s3334
 have p5':=((s30.trans s31).trans s3134) _ _ e29
 have p6':=(s31.trans s3134) _ _ e30
 have R34:U9 H34 rb a7e:=⟨[p5,p6],s3134 _ _ e31,rfl,fun j x l f1 f2=>by
  match j with
  | 0=>cases f1;cases f2;exact⟨p5,_,rfl,p5',.ask _ (.inr ⟨1,rfl,by decide,by decide⟩),_,_,rfl,rfl⟩
  | 1=>cases f1;cases f2;exact⟨p6,_,rfl,p6',.skip,_,_,rfl,rfl⟩
  | j+2=>cases f1⟩
 have T34:J0 H34 nb a7e:=⟨[n5,n6],e34,rfl,fun j x l f1 f2=>by
  match j with
  | 0=>cases f1;cases f2;exact s3334 _ _ e32
  | 1=>cases f1;cases f2;exact s34 _ _ e33
  | j+2=>cases f1⟩
 have s2834:=(s29.trans s30).trans (s31.trans s3134)
 intro y dy hy hdy hney
 refine a8Q ck (s3134 _ _ e31) R34 T34 b0u hy hdy fun H35 RC2 W2 pk2 s3435=>⟨rfl,?_⟩
 have v0:W2 0=.ask (.int 1):=b7A (pk2.row (i:=0) rfl (s3435 _ _ p5'))
 have s1635:=(s1628.trans s2834).trans s3435
 ext
 nofun
 exists a4X fun d4 H36 hd4 e36 s36=>?_
 exists z8 (by simp) fun t1 H37 ht1 e37 s37'=>?_
 have s3537:=s36.trans s37'
 refine a1A (S0:=[]) (L0:=[]) ck (pk2.same s3537) b0u (s37' _ _ e36) a8a (by simp) e37 (by simp) (by omega) fun q2 H38 r38 s38=>?_
 obtain⟨mu,hmu⟩:∃mu:Nat,mu=3999:=⟨_,rfl⟩
 rw[a0X,show mt=mu+1 by omega,c2m v0 mu]at r38
 have s1638:=(s1635.trans s3537).trans s38
 ext
 exists z8 (by simp) fun t2 H39 ht2 e39 s39=>?_
 exists z8 (by simp) fun g0 H40 hg0 e40 s40=>?_
 exists z8 (by simp) fun l3 H41 hl3 e41 s41=>?_
 exists z8 (by simp) fun g1 H42 hg1 e42 s42=>?_
 exists z8 (by simp) fun l4 H43 hl4 e43 s43=>?_
 rw[show(3999:Int)=(mu:Int) by rw[hmu];rfl]
 refine⟨l4,_,_,rfl,rfl,e43,by omega,by omega,a1c (J7 (by show 1 * (mu:Int).toNat<100000;omega)),fun l5 hl5=>?_⟩
 have ef:(c8 ((mu:Int)).toNat [V.ref g1]).flatten=(c8 mu g1).map V.ref:=by
  rw[A7,a9k,c2S]
 rw[ef]
 have s44:A9 H43 (upd H43 l5 (.lst ((c8 mu g1).map V.ref))):=D6 hl5
 obtain⟨H44,hH44⟩:∃H44,H44=upd H43 l5 (.lst ((c8 mu g1).map V.ref)):=⟨_,rfl⟩
 have e44:H44 l5=some (.lst ((c8 mu g1).map V.ref)):=hH44 ▸ g7
 rw[<-hH44]at s44 ⊢
 have s4244:=(s43.trans s44)
 have s4144:=s42.trans s4244
 refine a4f (s4144 _ _ e41) e44 ?_
 exists z8 (by simp;omega) fun l6 H45 hl6 e45 s45=>?_
 exists a4X fun d5 H46 hd5 e46 s46=>?_
 refine z8 (by simp) fun tp H47 htp e47 s47'=>?_
 have s4547:=s46.trans s47'
 have s4447:=s45.trans s4547
 have s3847:A9 H38 H47:=((s39.trans s40).trans (s41.trans s4144)).trans s4447
 have D47:E8 K H47 l6 (FST::c8 mu ((0:Int),(0:Int))):=by
  refine⟨g0::c8 mu g1,?_,by simp,fun j x s f1 f2=>?_⟩
  ·rw[s4547 _ _ e45];rfl
  ·cases j with
   | zero=>cases f1;cases f2;exact .inl (((s41.trans s4144).trans s4447) _ _ e40)
   | succ j=>
    have f1:(c8 mu g1)[j]? = some x:=f1
    have f2:(c8 mu ((0:Int),(0:Int)))[j]? = some s:=f2
    rw[(a8E.mp (mI f1)).2,(a8E.mp (mI f2)).2]
    exact .inl ((s4244.trans s4447) _ _ e42)
 have rt:a7q K H47 tp ⟨[],[],[],FST::c8 mu ((0:Int),(0:Int)),(0,0),false⟩:=⟨t2,l6,d5,e47,(((s40.trans s41).trans s4144).trans s4447) _ _ e39,D47,s47' _ _ e46,a8a⟩
 obtain⟨xs,ys,a1,b1,la,lb,_,dd⟩:=(r38.t.same s3847).dd rt
 refine⟨q2,tp,xs,ys,rfl,rfl,SqT.of a1,SqT.of b1,by rw[la,lb],dd,_,rfl,?_⟩
 exists C5 rfl ?_
 have s1647:=s1638.trans s3847
 have s047:=(s013.trans s1316).trans s1647
 have B47:=B0.same s047
 nofun
 exists Y2 (.inl (by omega)) ?_
 refine G0 B47 (by omega) (by omega) fun n7 H48 n70 n71 B48 k48=>?_
 obtain⟨j,rfl⟩:=A8 n70
 ext
 have s2647:A9 H26 H47:=((s27'.trans s28).trans (s2834.trans s3435)).trans (s3537.trans (s38.trans s3847))
 have e47':=s2647 _ _ e26
 have e48:=k48.1 _ _ e47' (a0j B47 e47')
 have D48:E8 K H48 du (FST::blk i++[((0:Int),(0:Int)),(1,0),(2,1)]):=by
  obtain⟨vs,v1,v2,v3⟩:=(D26.same s2647).ex
  exact⟨vs,k48.1 _ _ v1 (a0j B47 v1),v2,fun i x s f1 f2=>(v3 i x s f1 f2).ts (k48.ts B47)⟩
 have pk48:=(pk.same (s1316.trans s1647)).kept B47 a2O k48
 exists a4X fun d6 H49 hd6 e49 s49=>?_
 exists z8 (by simp) fun t3 H50 ht3 e50 s50=>?_
 have s4850:=s49.trans s50
 refine a1A (S0:=[]) (L0:=[]) (m:=j) ck (pk48.same s4850) a2O (s50 _ _ e49) a8a (by simp) e50 (by simp) (by omega) fun q3 H51 r51 s51=>?_
 rw[a0X]at r51
 obtain⟨c1,c2,_⟩:=b5Y (N:=Y3) (W:=W) (r:=⟨[],[],[],[],FST,false⟩) rfl (show j<=mt by omega)
 rw[fin]at c1 c2
 have lD:(FST::blk i++[((0:Int),(0:Int)),(1,0),(2,1)]).length=3 * (i+1)+1:=by
  rw[u8,C6,b3y];show 3 * i+1+3=_;omega
 have c1:(rn Y3 W j ⟨[],[],[],[],FST,false⟩).W.length=min j (FST::blk i++[((0:Int),(0:Int)),(1,0),(2,1)]).length:=c1
 rw[lD,c8l (by omega)]at c1
 obtain⟨tl2,wl2,sl2,x1,x2,x3,_⟩:=r51.t
 have s4851:=s4850.trans s51
 ext
 exists F4 x1 (a0O _ _ _) ?_
 refine b1E (s4851 _ _ e48) fun z1 H52 hz1 e52 s52=>?_
 rw[a7f _ (by rw[c4,c4,T4,lJ];omega)]at e52
 have e52':=e52
 rw[<-c1]at e52'
 have Z52:=((D48.same s4851).same s52).pre c2 (s52 _ _ (s4851 _ _ e48)) e52'
 refine⟨wl2,z1,2,rfl,rfl,by decide,a3G (x3.same s52) Z52,_,rfl,?_⟩
 exists J2 rfl ?_
 exists b2B (i:=M) (fun R H' h=>by walk_at "ev";exact h) fun d7 H53 hd7 e53 s53=>?_
 exists z8 (by simp) fun t4 H54 ht4 e54 s54=>?_
 have s4854:=(s4851.trans s52).trans (s53.trans s54)
 refine a1A (S0:=[("n",M)]) (L0:=[]) (m:=4) ck (pk48.same s4854) a2O (s54 _ _ e53) (b6W M0 (by omega)) (by simp) e54 (by simp) (by decide) fun q4 H55 r55 s55=>?_
 rw[a0X]at r55
 obtain⟨tl3,wl3,sl3,y1,y2,_⟩:=r55.t
 rw[b8X w0 w1 w2 w3 M0 (by omega)]at y2
 ext
 exists F4 y1 (V3 _ _) ?_
 refine z8 (by simp) fun z2 H56 hz2 e56 s56=>?_
 refine⟨_,a5C (s56 _ _ y2) e56 rfl rfl,?_⟩
 rw[show([M+1].map V.int)=[V.int (M+1)] from rfl,a8A _ rfl]
 have s4856:=(s4854.trans s55).trans s56
 exact k H56 (B48.same s4856) ((k0.trans (D9.of_same s047)).trans (k48.trans (D9.of_same s4856)))
end
structure Fx(K:Fg)(c:Cn)(H:Hp)(x ra na sa sd tk:Addr)(N:Nt)(rs:List Addr)(RC:Nat->List V)(W:Nat->Rw)(S:Sto)(L:List Int)(ss:List Str):Prop where
 pk:PlK K c H x N rs RC W
 ra:H ra=some (.lst (rs.map V.ref))
 na:J0 H na N
 sa:H sa=some (.lst (ss.map V.str))
 sd:H sd=some (.dK (SD S))
 tk:H tk=some (.lst (L.map V.int))
section
variable {K:Fg}{c:Cn}{x sa lg:Addr}{W:Nat->Rw}{S:Sto}{r:Rs}{E:XK}
theorem b3g{tl:Addr}(hB:Bag H b d)(h:H tl=some (.lst (L.map V.int))):tl≠b:=by
 obtain⟨i0,i1,i2,ns,hb,_⟩:=hB.ex
 refine M3 h hb fun e=>?_
 have e:=HO.lst.inj e
 have:=congrArg (fun l=>l[3]?) e
 simp only[d8]at this
 cases z:L[3]? with
 | none=>rw[z]at this;cases this
 | some j=>rw[z]at this;cases this
theorem Fx.same(h:Fx K c H x ra na sa sd tk N rs RC W S L ss)(s:A9 H H'):Fx K c H' x ra na sa sd tk N rs RC W S L ss:=⟨h.pk.same s,s _ _ h.ra,h.na.same s,s _ _ h.sa,s _ _ h.sd,s _ _ h.tk⟩
theorem Fx.kept(h:Fx K c H x ra na sa sd tk N rs RC W S L ss)(hB:Bag H b d)(hv:a1n N)(ns:sa≠b)(k:D9 b H H'):Fx K c H' x ra na sa sd tk N rs RC W S L ss:=by
 obtain⟨xs,hb⟩:=hB.lst
 exact⟨h.pk.kept hB hv k,k.1 _ _ h.ra (a0j hB h.ra),h.na.kept hB hv.two k,k.1 _ _ h.sa ns,k.1 _ _ h.sd (M3 h.sd hb (by intro z;cases z)),k.1 _ _ h.tk (b3g hB h.tk)⟩
theorem a7q.kept(h:a7q K H p r)(hB:Bag H b d)(k:D9 b H H'):a7q K H' p r:=by
 obtain⟨xs,hb⟩:=hB.lst
 obtain⟨tl,wl,sl,h1,h2,h3,h4,h5⟩:=h
 exact⟨tl,wl,sl,k.ts hB _ _ h1,k.1 _ _ h2 (b3g hB h2),h3.kept hB k,k.1 _ _ h4 (M3 h4 hb (by intro z;cases z)),h5⟩
theorem c8K:∀(m:Nat) (r:Rs),(rn N W m r).S.length<=r.S.length+m
 | 0,r=>o5 _
 | m+1,r=>by
  unfold rn
  split
  ·omega
  ·refine J8 (c8K m _) ?_
   have:(doR (W (L1 N r.p)) r.S r.L r.T).1.length<=r.S.length+1:=by
    cases W (L1 N r.p)with
    | set n k a b=>exact a2K
    | copy n v=>exact a2K
    | take n=>exact a2K
    | _=>exact X4 _
   show(doR (W (L1 N r.p)) r.S r.L r.T).1.length+m<=_
   omega
theorem c7L{s:Str}(h:s∉S.map (·.1)):U6 S s=0:=by
 induction S with
 | nil=>rfl
 | cons p r ih=>
  unfold U6
  rw[if_neg (fun e=>h (D8.mpr ⟨p,F5 ..,e⟩))]
  exact ih fun z=>h (D4 _ z)
theorem law_reading(K:Fg)(hl:ns.length<=63)(hO:c4T H)(hS:SqL K H a (ns.map V.int)):a9E K [.ref a] H (fun v _=>v=.bl true) (fun _ _ _=>False):=by
 refine⟨rfl,fun c ck=>?_⟩
 unfold c0p
 nofun
 exists c7U hS hl fun b d H1 B1 s1 _=>?_
 exact_mod_cast Y8 (P:=fun σ Hi=>σ=[some (.ref a),some (.ref b),none,none,none,none,none,none,none,none,none,none,none,none,none,none,none]/\Bag Hi b d) ?_ ?_
 rotate_left
 ·intro nx hnx
  ext
  exists G0 B1 (by decide) (by decide) fun n1 H2 a0 a1 B2 k2=>?_
  refine Z0 (fun _=>?_) (fun _=>?_)
  ·ext
   refine b8v ck B2 fun H3 B3 k3=>?_
   refine⟨_,rfl,?_⟩
   exists C5 rfl ?_
   exact hnx _ _ ⟨rfl,B3⟩
  ·ext
   exact hnx _ _ ⟨rfl,B2⟩
 rintro _ H2 ⟨rfl,B2⟩
 exact_mod_cast Y8 (P:=fun σ Hi=>σ=[some (.ref a),some (.ref b),none,none,none,none,none,none,none,none,none,none,none,none,none,none,none]/\Bag Hi b d) ?_ ?_
 rotate_left
 ·intro nx hnx
  ext
  exists G0 B2 (by decide) (by decide) fun n1 H3 a0 a1 B3 k3=>?_
  refine Z0 (fun _=>?_) (fun _=>?_)
  ·ext
   refine c2z ck B3 fun H4 B4 k4=>?_
   refine⟨_,rfl,?_⟩
   exists C5 rfl ?_
   exact hnx _ _ ⟨rfl,B4⟩
  ·ext
   exact hnx _ _ ⟨rfl,B3⟩
 rintro _ H3 ⟨rfl,B3⟩
 nofun
 refine b8B B3 fun p1 ra na sa da N H4 e4 R T M4 ⟨ss,hss,ss2,ss5⟩ P4 hv l24 nra nna B4 k4=>?_
 refine⟨p1,_,rfl,SqT.of e4,rfl,_,_,rfl,_,_,rfl,_,_,rfl,_,_,rfl,rfl,?_⟩
 obtain⟨rs,hrs,lrs,_⟩:=id R.ex
 have nsa:sa≠b:=(M4.kept B4 (D9.of_same (A9.refl _))).2
 nofun
 specialize b2y ?_
 exists a1V hrs fun ra' H5 hra' e5 s5=>?_
 exists b8Z (T.same s5) hv.le fun na' ms H6 hna' e6 f6 T6 s6=>?_
 have s46:=s5.trans s6
 have r6:H6 ra'=some (.lst (rs.map V.ref)):=s6 _ _ e5
 have R6:U9 H6 ra' N:=by
  obtain⟨rs',q1,q2,q3⟩:=id (R.same s46).ex
  rw[s46 _ _ hrs]at q1
  obtain rfl:rs'=rs:=(a0u (f:=V.ref) (fun a b h=>V.ref.inj h) |>.mp (HO.lst.inj (Option.some.inj q1))).symm
  exact⟨rs',r6,q2,q3⟩
 intro x dx hx hdx hne
 refine a8Q ck r6 R6 T6 hv hx hdx fun H7 RC W pk s67=>⟨rfl,?_⟩
 have s47:=s46.trans s67
 have B7:=B4.same s47
 ext
 nofun
 exists c0t B7 (s47 _ _ hss) nsa ss5 fun sd S H8 hsd e8 bd lS kf B8 k8=>?_
 nofun
 exists b8i B8 fun tk L H9 htk e9 bl lL B9 k9=>?_
 have nsd:=(B7.nb hsd).1
 have k79:=k8.trans k9
 have F9:Fx K c H9 x ra na sa sd tk N rs RC W S L ss:=⟨pk.kept B7 hv k79,k79.1 _ _ (s47 _ _ hrs) (a0j B7 (s47 _ _ hrs)),(T.same s47).kept B7 hv.two k79,k79.1 _ _ (s47 _ _ hss) nsa,k9.1 _ _ e8 nsd,e9⟩
 obtain⟨r0,hr0⟩:∃r0:Rs,r0=⟨S,L.reverse,[],[],FST,false⟩:=⟨_,rfl⟩
 have h0:r0.W=[]:=by rw[hr0]
 obtain⟨mx,hmx⟩:∃mx:Nat,mx=120:=⟨_,rfl⟩
 obtain⟨R0,hR0⟩:∃R0,R0=rn N W mx r0:=⟨_,rfl⟩
 have lW:R0.W.length<=120:=by
  have:=a9S (N:=N) (W:=W) mx r0
  rw[h0,<-hR0]at this
  simp only[W3,a3w]at this
  omega
 have fW:∃rest,R0.W=FST::rest:=by
  have:=(b5Y (N:=N) (W:=W) h0 (show 1<=mx by omega)).2.1
  rw[<-hR0,a4e (by rw[hr0])]at this
  have e:(st1 N W r0).W=[FST]:=by
   show r0.W++[r0.p]=_
   rw[hr0];rfl
  rw[e]at this
  obtain⟨t,ht⟩:=this
  exact⟨t,ht.symm⟩
 have back:rn N W R0.W.length r0=R0:=by rw[hR0];exact b7C h0 mx
 nofun
 exists a6X F9.sd fun a0 H10 ha0 e10 s10=>?_
 exists a1V (s10 _ _ F9.tk) fun a1 H11 ha1 e11 s11=>?_
 have s911:=s10.trans s11
 rw[show(120:Int)=(mx:Int) by rw[hmx];rfl]
 refine a1A ck (F9.pk.same s911) hv (s11 _ _ e10) bd (by omega) e11 bl (by omega) fun lg H12 r12 s12=>?_
 rw[<-hr0,<-hR0]at r12
 have s912:=s911.trans s12
 have F12:=F9.same s912
 have B12:=B9.same s912
 have g12:=r12.t
 obtain⟨tl,wl,sl,t1,t2,t3,t4,t5⟩:=r12.t
 obtain⟨ps,p1',p2,p3⟩:=id t3.ex
 ext
 nofun
 exists F4 t1 (a0O _ _ _) ?_
 refine O8 p1' ?_
 rw[c4,p2]
 ext
 obtain⟨rest,hrest⟩:=fW
 obtain⟨sz,hsz⟩:∃sz:Nat,sz=R0.W.length:=⟨_,rfl⟩
 have sz1:1<=sz:=by rw[hsz,hrest];simp
 rw[<-hsz]
 rw[<-hsz]at back lW
 nofun
 exists C5 (by simp;omega) ?_
 exists C5 (by simp;omega) ?_
 exists F4 t1 (a0O _ _ _) ?_
 obtain⟨f0,ps',hps⟩:∃f0 ps',ps=f0::ps':=b3P (by intro z;rw[z,hrest]at p2;simp at p2)
 have st0:a0U K H12 f0 FST:=p3 0 f0 FST (by rw[hps];rfl) (by rw[hrest];rfl)
 exists L9 p1' (by rw[hps];exact V3 _ _) ?_
 refine z8 (by simp) fun z0 H13 hz0 e13 s13=>?_
 have sq:SqT K H13 f0 [.int (-1),.int 0]:=by
  rcases st0 with z | z
  ·exact SqT.of (s13 _ _ z)
  ·exact z.2 H13
 refine⟨f0,z0,_,_,rfl,rfl,sq,SqT.of e13,rfl,rfl,?_⟩
 refine⟨_,rfl,?_⟩
 exists C5 (by decide) ?_
 have F13:=F12.same s13
 have B13:=B12.same s13
 have g13:=g12.same s13
 exact_mod_cast a0o ?_
 specialize a1z (a0N ?_)
 refine⟨4,rfl,by omega,by omega,?_⟩
 refine a0I (fun i σ Hi=>∃(y11 y12:Option V),σ=[some (.ref a),some (.ref b),some (.ref ra),some (.ref na),some (.ref sa),some (.ref da),some (.ref x),some (.ref sd),some (.ref tk),some (.ref lg),some (.int (sz:Int)),y11,y12,none,none,none,none]/\Bag Hi b d/\D9 b H13 Hi) ⟨_,_,rfl,B13,D9.of_same (A9.refl _)⟩ ?_ ?_
 ·rintro i _ Hi hi ⟨y11,y12,rfl,Bi,ki⟩
  rw[X3]
  ext
  nofun
  exists G0 Bi (by omega) (by omega) fun n1 Hj a0 a1 Bj kj=>?_
  exists ⟨_,_,rfl,?_⟩
  exists G0 Bj (by decide) (by decide) fun n2 Hk b0 b1 Bk kk=>?_
  exists z8 (by simp) fun z1 Hl hz1 el sl'=>?_
  refine G0 (Bk.same sl') (by decide) (by decide) fun n3 Hm c0 c1 Bm km=>?_
  have em:=km.1 _ _ el (Bk.nb hz1).1
  obtain⟨v,hv1,hv2⟩:=a2R c0 (by show n3<(([V.int n1,.int (if(sz:Int) - 1 > 0 then (sz:Int) - 1 else 0),.int (sz:Int),.int n2]:List V).length:Int);exact c1)
  refine L9 em hv1 ?_
  obtain⟨mm,rfl,hmm⟩:∃mm:Nat,v=.int (mm:Int)/\mm<=120:=by
   have m:=mI hv2
   simp only[q9,G5,or_false]at m
   obtain⟨j1,rfl⟩:=A8 a0
   obtain⟨j2,rfl⟩:=A8 b0
   rcases m with rfl | rfl | rfl | rfl
   ·exact⟨j1,rfl,by omega⟩
   ·exact⟨sz - 1,by congr 1;split <;> omega,by omega⟩
   ·exact⟨sz,rfl,by omega⟩
   ·exact⟨j2,rfl,by omega⟩
  ext
  have kim:=((kj.trans kk).trans (D9.of_same sl')).trans km
  have Fm:=F13.kept B13 hv nsa (ki.trans kim)
  have gm:=g13.kept B13 (ki.trans kim)
  rw[hR0,hmx,hr0]at gm
  refine c7R ck Fm.pk hv Fm.ra Fm.na Fm.sd bd (by omega) Fm.tk bl (by omega) hmm gm fun Hn sn=>?_
  refine⟨_,rfl,?_⟩
  exists C5 rfl ?_
  exact⟨_,_,rfl,Bm.same sn,(ki.trans kim).trans (D9.of_same sn)⟩
 rintro _ Hi ⟨y11,y12,rfl,Bi,ki⟩
 ext
 have Fi:=F13.kept B13 hv nsa ki
 have gi:=g13.kept B13 ki
 clear F9 F12 F13 g12 g13 B12 B13 ki
 exact_mod_cast Y8 (P:=fun σ Hj=>∃y13:Option V,σ=[some (.ref a),some (.ref b),some (.ref ra),some (.ref na),some (.ref sa),some (.ref da),some (.ref x),some (.ref sd),some (.ref tk),some (.ref lg),some (.int (sz:Int)),y11,y12,y13,none,none,none]/\Bag Hj b d/\D9 b Hi Hj) ?_ ?_
 rotate_left
 ·intro nx hnx
  ext
  obtain⟨tl,wl,sl,t1,t2,t3,t4,t5⟩:=id gi
  refine F4 t1 (c7V _ _ _ _ _) ?_
  refine⟨_,rfl,?_⟩
  refine Z0 (fun he=>?_) (fun _=>?_)
  ·nofun
   exists a6X Fi.sd fun a0 Hj ha0 ej sj=>?_
   exists a1V (sj _ _ Fi.tk) fun a1 Hk ha1 ek sk=>?_
   have sik:=sj.trans sk
   have Bk:=Bi.same sik
   refine G0 Bk (by decide) (by decide) fun n1 Hl n10 n11 Bl kl=>?_
   obtain⟨j,rfl⟩:=A8 n10
   obtain⟨xs,hb⟩:=Bk.lst
   ext
   rw[show(sz:Int)+(j:Int)=((sz+j:Nat):Int) by omega]
   have Fl:=(Fi.same sik).kept Bk hv nsa kl
   refine a1A ck Fl.pk hv (kl.1 _ _ (sk _ _ ej) (M3 (sk _ _ ej) hb (by intro z;cases z))) bd (by omega) (kl.1 _ _ ek (b3g Bk ek)) bl (by omega) fun q Hm rm sm=>?_
   have er:rn N W (sz+j) r0=R0:=by
    rw[b2E (m:=sz) (by omega) (by rw[back];exact he),back]
   rw[<-hr0,er]at rm
   ext
   have gm:=((gi.same sik).kept Bk kl).same sm
   obtain⟨xs',ys',a1',b1',la,lb,_,dd⟩:=rm.t.dd gm
   refine⟨q,lg,xs',ys',rfl,rfl,SqT.of a1',SqT.of b1',by rw[la,lb],dd,_,rfl,?_⟩
   exists C5 rfl ?_
   exact hnx _ _ ⟨_,rfl,Bl.same sm,((D9.of_same sik).trans kl).trans (D9.of_same sm)⟩
  ·ext
   exact hnx _ _ ⟨_,rfl,Bi,D9.of_same (A9.refl _)⟩
 rintro _ Hj ⟨y13,rfl,Bj,kj⟩
 have Fj:=Fi.kept Bi hv nsa kj
 have gj:=gi.kept Bi kj
 clear Fi gi
 nofun
 refine a1A (m:=0) ck Fj.pk hv Fj.sd bd (by omega) Fj.tk bl (by decide) fun q Hk rk sk=>?_
 have rk':b9C K Hj Hk q ⟨S,L.reverse,[],[],FST,false⟩:=rk
 obtain⟨tl,wl,sl,f1,f2,f3,f4,t1,t2,t3,t4,t5⟩:=id rk'
 ext
 nofun
 exists z8 (by simp) fun z1 Hl hz1 el sl1=>?_
 exists z8 (by simp) fun z2 Hm hz2 em sl2=>?_
 refine z8 (by simp) fun z3 Hn hz3 en sl3=>?_
 have skn:=(sl1.trans sl2).trans sl3
 have rt:a7q K Hn z3 ⟨S,L.reverse,[],[],FST,false⟩:=⟨z1,z2,sd,en,(sl2.trans sl3) _ _ el,⟨[],sl3 _ _ em,rfl,fun i p s e=>nomatch e⟩,skn _ _ (sk _ _ Fj.sd),bd⟩
 obtain⟨xs',ys',a1',b1',la,lb,_,dd⟩:=(rk'.t.same skn).dd rt
 refine⟨q,z3,xs',ys',rfl,rfl,SqT.of a1',SqT.of b1',by rw[la,lb],dd,_,rfl,?_⟩
 exists C5 rfl ?_
 have sjn:=sk.trans skn
 exact_mod_cast a0o ?_
 specialize a3r ?_
 exists F4 (skn _ _ t1) (a8b _ _ _ _) ?_
 have t4n:Hn sl=some (.dK (SD S)):=skn _ _ t4
 refine⟨sl,_,rfl,a8e.k (k:=Sum.inr "more") t4n (J7 (by unfold SD;rw[c4];omega)),?_⟩
 obtain⟨Ho,hHo⟩:∃Ho,Ho=upd Hn sl (.dK (a2g (SD S) (Sum.inr "more") (.int 1))):=⟨_,rfl⟩
 have sjo:A9 Hj Ho:=fun b o e=>by rw[hHo,o4 (d9 e f3)];exact sjn _ _ e
 rw[<-hHo]
 have Fo:=Fj.same sjo
 have go:=gj.same sjo
 have Bo:=Bj.same sjo
 clear Fj gj
 exact_mod_cast Y8 (P:=fun σ Hp=>σ=[some (.ref a),some (.ref b),some (.ref ra),some (.ref na),some (.ref sa),some (.ref da),some (.ref x),some (.ref sd),some (.ref tk),some (.ref lg),some (.int (sz:Int)),y11,y12,y13,some (.ref q),none,none]/\Hp=Ho) ?_ ?_
 rotate_left
 ·intro nx hnx
  ext
  specialize b4y ?_
  exists ⟨sd,rfl,.inl ⟨_,.inl Fo.sd⟩,?_⟩
  refine⟨_,a6w.k (k:=Sum.inr "more") Fo.sd,?_⟩
  have ev:(a0v (SD S) (Sum.inr "more")).getD (.int 0)=.int (U6 S "more"):=by
   rcases b6Y (S:=S) (s := "more")with ⟨e,z⟩ | e
   ·rw[e,z];rfl
   ·rw[e];rfl
  rw[ev]
  ext
  refine Z0 (fun e=>?_) (fun _=>?_)
  ·ext
   refine c1c Fo.sa ?_
   refine⟨_,rfl,?_⟩
   by_cases hin:("more" : Str)∈ss
   ·exists C5 (by simp[hin]) ?_
    exact hnx _ _ ⟨rfl,rfl⟩
   ·exfalso
    have:("more" : Str)∉S.map (·.1):=fun z=>(kf _ z).elim hin (by decide)
    rw[c7L this]at e
    exact absurd e (by decide)
  ·ext
   exact hnx _ _ ⟨rfl,rfl⟩
 rintro _ _ ⟨rfl,rfl⟩
 nofun
 exists b1L Fo.sd bd (by omega) Fo.sa ss5 fun q2 S2 Hp hq2 ep bd2 lS2 gS2 kS2 sp=>?_
 nofun
 exists a6X ep fun a0 Hq ha0 eq sq'=>?_
 exists z8 (by simp) fun z4 Hr hz4 er sr=>?_
 have sor:=(sp.trans sq').trans sr
 have Br:=Bo.same sor
 refine G0 Br (by decide) (by decide) fun n1 Hs n10 n11 Bs ks=>?_
 obtain⟨j,rfl⟩:=A8 n10
 obtain⟨xs,hb⟩:=Br.lst
 have Fs:=(Fo.same sor).kept Br hv nsa ks
 have gs:=(go.same sor).kept Br ks
 have es:=ks.1 _ _ er (Bo.same (sp.trans sq') |>.nb hz4).1
 have ds:=ks.1 _ _ (sr _ _ eq) (M3 (sr _ _ eq) hb (by intro z;cases z))
 ext
 refine⟨z4,_,_,rfl,rfl,es,by omega,by omega,a1c (J7 (by show 1 * (j:Int).toNat<100000;omega)),fun z5 hz5=>?_⟩
 rw[A7,c8L]
 have st:A9 Hs (upd Hs z5 (.lst ((c8 j (0:Int)).map V.int))):=D6 hz5
 obtain⟨Ht,hHt⟩:∃Ht,Ht=upd Hs z5 (.lst ((c8 j (0:Int)).map V.int)):=⟨_,rfl⟩
 have et:Ht z5=some (.lst ((c8 j (0:Int)).map V.int)):=hHt ▸ g7
 rw[<-hHt]at st ⊢
 refine a4f (st _ _ Fs.tk) et ?_
 refine z8 (by simp;omega) fun z6 Hu hz6 eu su=>?_
 rw[<-D7]at eu
 have ssu:=st.trans su
 ext
 refine a1A ck (Fs.pk.same ssu) hv (ssu _ _ ds) bd2 (by omega) eu (fun y hy=>?_) (by omega) fun q3 Hv rv sv=>?_
 ·rcases C8.mp hy with z | z
  ·exact bl y z
  ·rw[(a8E.mp z).2];exact⟨by decide,by decide⟩
 have sm:Sm ss R0 (rn N W mx ⟨S2,(L++c8 j 0).reverse,[],[],FST,false⟩):=by
  rw[hR0,hr0]
  exact c5j mx ⟨gS2,kS2,⟨j,by rw[List.reverse_append,List.reverse_replicate]⟩,rfl,rfl,rfl,rfl⟩
 obtain⟨R1,hR1⟩:∃R1,R1=rn N W mx ⟨S2,(L++c8 j 0).reverse,[],[],FST,false⟩:=⟨_,rfl⟩
 rw[<-hR1]at rv sm
 have gv:=(gs.same ssu).same sv
 have Fv:=(Fs.same ssu).same sv
 obtain⟨tl1,wl1,sl1',u1,u2,u3,u4,u5⟩:=rv.t
 obtain⟨tl2,wl2,sl2',v1,v2,v3,v4,v5⟩:=id gv
 rw[sm.t]at u2
 rw[sm.w]at u3
 ext
 exists F4 u1 (V3 _ _) ?_
 refine F4 v1 (V3 _ _) ?_
 refine⟨tl1,tl2,1,rfl,rfl,by decide,a8T 0 u2 v2,_,rfl,?_⟩
 exists J2 rfl ?_
 exists F4 u1 (a0O _ _ _) ?_
 refine F4 v1 (a0O _ _ _) ?_
 refine⟨wl1,wl2,2,rfl,rfl,by decide,a3G u3 v3,_,rfl,?_⟩
 exists J2 rfl ?_
 exists F4 u1 (a8b _ _ _ _) ?_
 exists F4 v1 (a8b _ _ _ _) ?_
 have lR:R0.S.length<=1000:=by
  have:=c8K (N:=N) (W:=W) mx r0
  rw[<-hR0]at this
  have e:r0.S.length=S.length:=by rw[hr0]
  omega
 refine b1L v4 v5 lR Fv.sa ss5 fun q4 S3 Hw hq4 ew bd3 lS3 gS3 kS3 sw=>?_
 refine⟨sl1',q4,_,_,rfl,rfl,sw _ _ u4,ew,a9c,b0I,?_⟩
 rw[b3B u5 bd3 (fun s=>(sm.g s).trans (gS3 s).symm) fun s=>(sm.k s).trans (kS3 s).symm]
end
end RD
set_option maxHeartbeats 0
namespace PR
open PySem L2 RD Y
abbrev d0h:Str:="__init__"
abbrev d0i:Str:="_law_script"
abbrev d0j:Str:="_law_bag"
abbrev d0k:Str:="_law_bag_here"
abbrev d0l:Str:="_law_many"
abbrev d0m:Str:="_law_take"
abbrev d0n:Str:="store"
abbrev d0o:Str:="worth_of"
abbrev d0p:Str:="worth_set"
abbrev d0q:Str:="place"
abbrev d0r:Str:="step_behind"
abbrev d0s:Str:="check_length"
abbrev d0t:Str:="thing"
abbrev d0u:Str:="is_whole"
abbrev d0v:Str:="is_value"
abbrev d0w:Str:="is_operand"
abbrev d0x:Str:="check_each"
abbrev d0y:Str:="is_below"
abbrev d0z:Str:="following"
abbrev d0A:Str:="are_nexts"
abbrev d0B:Str:="rows"
abbrev d0C:Str:="nexts"
abbrev d0D:Str:="check_nexts"
abbrev d0E:Str:="stops_of"
abbrev d0F:Str:="check_ways"
abbrev d0G:Str:="steps_of"
abbrev d0H:Str:="_law_rows"
abbrev d0I:Str:="_law_plan_here"
abbrev d0J:Str:="_law_way"
abbrev d0K:Str:="_law_store"
abbrev d0L:Str:="_law_most"
abbrev d0M:Str:="_law_rounds"
abbrev d0N:Str:="_law_k"
abbrev d0O:Str:="_law_chain"
abbrev d0P:Str:="_law_nexts"
abbrev d0Q:Str:="_law_net"
abbrev d0R:Str:="_law_good"
abbrev d0S:Str:="_law_turn"
abbrev d0T:Str:="_law_reached"
abbrev d0U:Str:="_law_one"
abbrev d0V:Str:="_law_order"
abbrev d0W:Str:="_law_mended"
abbrev d0X:Str:="_law_size"
abbrev d0Y:Str:="_law_letters"
abbrev d0Z:Str:="_law_signs"
abbrev d1a:Str:="_law_base"
abbrev d1b:Str:="_law_names_here"
abbrev d1c:Str:="_law_names"
abbrev d1d:Str:="_law_value"
abbrev d1e:Str:="_law_operand"
abbrev d1f:Str:="_law_deed"
abbrev d1g:Str:="_law_few"
abbrev d1h:Str:="_law_deeds"
abbrev d1i:Str:="_law_name"
abbrev d1j:Str:="_law_row"
abbrev d1k:Str:="_law_after"
abbrev d1l:Str:="_law_plan"
abbrev d1m:Str:="_law_lists"
abbrev d1n:Str:="_law_start_here"
abbrev d1o:Str:="_law_start"
abbrev d1p:Str:="_law_taken"
abbrev d1q:Str:="_law_other"
abbrev d1r:Str:="_law_prefix"
abbrev d1s:Str:="_law_whole"
abbrev d1t:Str:="_law_step"
abbrev d1u:Str:="_law_is_step"
abbrev d1v:Str:="_law_leads"
abbrev d1w:Str:="_law_places"
abbrev d1x:Str:="_law_worth"
abbrev d1y:Str:="_law_taken_here"
abbrev d1z:Str:="_law_run"
abbrev d1A:Str:="_law_cut"
abbrev d1B:Str:="_law_filled"
section
def top(i:Nat):Stmt:=PySem.Challenge.pw_oncedone_k32_runs_cut.main.body.getD i (.Pass ⟨0,0,0,0⟩)
abbrev b7z:Stmt:=top 43
abbrev b5U:Stmt:=top 44
abbrev a9L:Stmt:=top 16
abbrev a6f:Stmt:=top 14
abbrev b2t:Stmt:=top 15
abbrev a4V:Stmt:=top 39
abbrev a3q:Stmt:=top 40
abbrev a2f:Stmt:=Y4 (top 37) 2
abbrev c0L:Stmt:=top 41
abbrev a2I:Stmt:=top 26
abbrev a5z:Stmt:=top 9
abbrev a6g:Stmt:=top 7
abbrev a6h:Stmt:=top 8
abbrev a4a:Stmt:=top 10
abbrev a7I:Stmt:=top 11
abbrev a9P:Stmt:=top 12
abbrev a4c:Stmt:=top 27
abbrev a6i:Stmt:=top 25
abbrev a3a:Stmt:=top 30
abbrev a1U:Stmt:=top 31
abbrev a7E:Stmt:=top 34
abbrev a6T:Stmt:=top 33
abbrev a3Y:Stmt:=top 32
abbrev a4b:Stmt:=top 35
abbrev a3Z:Stmt:=top 36
abbrev a1k:Stmt:=Y4 (top 37) 0
abbrev a9M:Stmt:=top 69
abbrev a4d:Stmt:=top 70
abbrev c0Q:Stmt:=top 45
abbrev a3J:Stmt:=top 46
abbrev b2C:Stmt:=top 47
abbrev b2x:Stmt:=top 48
abbrev b2v:Stmt:=top 49
abbrev a7F:Stmt:=top 50
abbrev b5W:Stmt:=top 51
abbrev c0M:Stmt:=top 52
abbrev b2w:Stmt:=top 53
abbrev a8O:Stmt:=top 54
abbrev a8N:Stmt:=top 64
abbrev a8M:Stmt:=top 65
abbrev a9N:Stmt:=top 66
abbrev b2u:Stmt:=top 55
abbrev a7H:Stmt:=top 59
abbrev b2z:Stmt:=top 58
abbrev a9O:Stmt:=top 60
abbrev c5U:Stmt:=top 61
abbrev a4W:Stmt:=top 62
abbrev a7G:Stmt:=top 63
abbrev Y8:Stmt:=top 67
abbrev a9Q:Stmt:=top 68
abbrev b7x:Stmt:=top 71
structure Txt(K:Fg)(mg:Str->Option Value)(c:Cn):Prop where
 c9C:mg "abs" = none
 c5D:mg "all" = none
 c9B:mg "any" = none
 c2N:mg "bool" = none
 a6z:mg "dict" = none
 a2e:mg "enumerate" = none
 b5t:mg "int" = none
 M5:mg "isinstance" = none
 Q3:mg "len" = none
 a1e:mg "list" = none
 c9A:mg "max" = none
 c5C:mg "min" = none
 Z6:mg "range" = none
 b7e:mg "reversed" = none
 c2M:mg "sorted" = none
 c2L:mg "str" = none
 b3L:mg "tuple" = none
 c9z:mg "zip" = none
 a9l:∃u,mg "BOUND" = some u/\J1 (.int 1000000000000) u
 b3K:∃u,mg "DEED_KINDS" = some u/\J1 (.ref c.a4v) u
 b9J:∃u,mg "FIGURES" = some u/\J1 (.str "0123456789") u
 a4w:∃u,mg "FIRST_STEP" = some u/\J1 (.ref c.a0K) u
 b1W:∃u,mg "LETTERS" = some u/\J1 (.str "abcdefghijklmnopqrstuvwxyz") u
 b0O:∃u,mg "LONGEST_NAME" = some u/\J1 (.int 8) u
 c8i:∃u,mg "MOST" = some u/\J1 (.int 400) u
abbrev scF(ns:List (Str×a5S)):Scope:={ kind:=.function,names:=ns,isGenerator:=false,isCoroutine:=false,more:=[] }
local macro_rules | `(tactic| walk_at "c0") => `(tactic| exact ⟨rfl, by decide +kernel, by decide +kernel, rfl, by decide +kernel, by decide +kernel, rfl, by decide +kernel⟩)
local macro_rules | `(tactic| walk_at "c1") => `(tactic| exact ⟨rfl, by decide +kernel, by decide +kernel, rfl, b7J (by decide +kernel), by decide +kernel, rfl, by decide +kernel⟩)
local macro_rules | `(tactic| walk_at "c2") => `(tactic| exact ⟨rfl, by decide +kernel, by decide +kernel, rfl, rfl, by decide +kernel, by decide +kernel, rfl, rfl, by decide +kernel⟩)
local macro_rules | `(tactic| walk_at "c3") => `(tactic| exact ⟨rfl, by decide +kernel, by decide +kernel, rfl, rfl, b7J (by decide +kernel), by decide +kernel, rfl, rfl, by decide +kernel⟩)
def c2I(f:List Value->Prop):List Str->Prop
 | []=>f []
 | _::r=>∀u,c2I (fun us=>f (u::us)) r
theorem c2I.mp:∀ {ps:List Str} {f:List Value->Prop},c2I f ps->∀us,us.length=ps.length->f us
 | [],_,h,[],_=>h
 | _::_,_,h,u::us,e=>c2I.mp (h u) us (Nat.succ.inj e)
section
variable {P:F3}{w:World}{K:Fg}{mg:Str->Option Value}{base h:Heap}{c:Cn}{f C:Addr}{fd:a0w}{x q:Str}{st:Stmt}{N ps:List Str}{k:Nat}{t:TS}{pm cd:Value}{sp:Sp}
open PySem.Spec PyProof.Rows in
theorem fk(F:Fun K x q st f fd)(S:D1 N ps (l9 st))(b:∀cdv A outer s H E,T3 k (A.deeper (b3S q (l9 st) s.heap.objs.size f cdv))->N.Nodup->b0V (b5a CX0 P w K mg base N q (l9 st) f cdv A outer s H E).nox (a1B st) t):N5 P w K mg base CX0 (k+1) f fd ps (spD ps.length N.length t):=
 b3Z F S (fun _ _ _ _ h=>h.1) fun cdv A outer s H _ _ E hr h=>⟨t,b cdv A outer s H E hr S.nd,h.2⟩
abbrev fdM(x q:Str)(st:Stmt)(pm cd:Value):a0w:=a0P x q (a3f st) (a1B st) (l9 st) .none .none .none pm none cd .none
structure FnI(K:Fg)(x q:Str)(st:Stmt)(f:Addr)(pm cd:Value):Prop where
 l:K.lookup f=some ⟨.type "function",none,.func (fdM x q st pm cd),#[]⟩
 c:a5N K cd q=true
 k:X2 K (.ref f)=true
structure FnG(K:Fg)(x:Str)(st:Stmt)(f:Addr)(pm cd:Value):Prop where
 i:FnI K x x st f pm cd
 a:E2 K C2 x=some (some (.ref f))
structure FnM(K:Fg)(C:Addr)(x q:Str)(st:Stmt)(f:Addr)(pm cd:Value):Prop where
 i:FnI K x q st f pm cd
 a:G9 K (.ref C) x=some (some (.ref f))
 n:a8i K (.ref f)=true
theorem FnI.F(h:FnI K x q st f pm cd):Fun K x q st f (fdM x q st pm cd):=c7M h.l h.c h.k
abbrev BdA(x q:Str)(st:Stmt)(ps:List Str):Prop:=∀(kV doc pm:Value) (an:Option Addr) (cdv ct:Value),c2I (fun us=>bindArgs (a0P x q (a3f st) (a1B st) (l9 st) .none kV doc pm an cdv ct) ⟨us,[]⟩=pure (ps.zip us)) ps
theorem mkC(X:K.In h)(G:h.Ns C2 mg)(g:FnG K x st f pm cd)(O:N5 P w K mg base CX0 k f (fdM x x st pm cd) ps sp)(B:BdA x x st ps):F8 P w K mg base k x ps sp:=b9o g.i.F O (W6 X G g.a) (g.i.F.binds fun _ _ _ _ _ _ us hl=>(B _ _ _ _ _ _).mp us hl)
theorem mkM(g:FnM K C x q st f pm cd)(cl:Cls K C)(O:N5 P w K mg base CX0 k f (fdM x q st pm cd) ps sp)(B:BdA x q st ps):a9d P w K mg base k x C ps sp:=⟨_,_,O,cl,⟨g.a,g.n,g.i.k⟩,g.i.F.binds fun _ _ _ _ _ _ us hl=>(B _ _ _ _ _ _).mp us hl⟩
theorem mkK{y:Str}(X:K.In h)(G:h.Ns C2 mg)(g:FnM K C d0h q st f pm cd)(y1:E2 K C2 y=some (some (.ref C)))(m:a4E K C=true)(kc:X2 K (.ref C)=true)(O:N5 P w K mg base CX0 k f (fdM d0h q st pm cd) ps sp)(B:BdA d0h q st ps):b5o P w K mg base k y C ps sp:=⟨_,_,O,W6 X G y1,⟨m,g.a,g.n,kc⟩,g.i.F.binds fun _ _ _ _ _ _ us hl=>(B _ _ _ _ _ _).mp us hl⟩
end
section
variable {P:F3}{w:World}{K:Fg}{mg:Str->Option Value}{base:Heap}{c:Cn}{f:Addr}{fd:a0w}(T:Txt K mg c)
abbrev c1H:List Str:=[d0i]
theorem c5R:D1 [d0i] c1H (l9 b7z):=by walk_at "sc"
theorem c2A:U1 [d0i] (l9 b7z) (scF [ (".0",.local),("_law_cell",.local),("abs",.globalImplicit)]) "_law_cell" := by walk_at "c0"
include T in
theorem c7q(F:Fun K d0j d0j b7z f fd):N5 P w K mg base CX0 1 f fd c1H (b2m K):=fk F c5R fun _ _ _ _ _ _ hr nd=>c7 (g9 (v8 (a0A b7 b7 b7 (R8 c2A rfl (Q1 (a0y b7X (c6 0) a1h (a1g b7))) (fun _ _ _ _ _=>N8) (fun _ _ _ _ _=>o6 b4c rfl T.c9C PyProof.Rows.boot_abs (p9 (c6 0)))))))
variable(b7T:F8 P w K mg base 1 d0j c1H (b2m K))
abbrev b6l:List Str:=[d0k,d0l]
theorem c3k:D1 [d0k,d0l,"_law_more","_law_cell","_law_value_here","_law_first","_law_second"] b6l (l9 b5U):=by walk_at "sc"
include T in
theorem c4j(F:Fun K d0m d0m b5U f fd):N5 P w K mg base CX0 1 f fd b6l (E7 K):=fk F c3k fun _ _ _ _ _ _ hr nd=>b9 (A5 (C9 (C1 hr) (u7 (c6 0) b7) b7) (b9 (z7 2 nd b7) (b9 (A5 (C9 X8 (u7 (c6 0) b7) (o6 A6 rfl T.Q3 t6 (p9 (u7 (c6 0) b7)))) (b9 (z7 3 nd (u7 (u7 (c6 0) b7) (u7 (c6 0) b7))) (b9 (b7Y (c6 0) b7 c2X b7 c0d a3S) (b9 (A5 (C9 c0c (c6 3) b7) (c7 (a1s (c6 3) (a3C (c6 0) b7 a3S))) o8) (c7 (z7 2 nd (v7 E3 (v7 P7 (c6 3) b7) b7)))))) o8) (c7 (a1s (v7 P7 (v7 E3 (v7 a1i (u7 (c6 0) b7) b7) (c6 2)) b7) (a3C (c6 0) b7 a3S))))) o8) (b9 (A5 (C9 a1u (u7 (c6 0) b7) b7) (b9 (z7 4 nd (v7 P7 (u7 (c6 0) b7) (c6 1))) (b9 (a1s (v7 a7y (u7 (c6 0) b7) (c6 1)) (a3C (c6 0) b7 a3S)) (c7 (g9 (c6 4))))) o8) (b9 (z7 5 nd (v7 P7 (v7 a1i (u7 (c6 0) b7) b7) b7)) (b9 (z7 6 nd (v7 P7 (v7 a1i (c6 5) b7) b7)) (b9 (A5 (C9 a1u (c6 1) b7) (c7 (g9 (v7 P7 (v7 E3 (v7 a1i (c6 6) b7) (c6 5)) (c6 1)))) o8) (c7 (g9 (v7 P7 (v7 a7y (c6 6) b7) (c6 1))))))))
variable(D2:F8 P w K mg base 1 d0m b6l (E7 K))
abbrev b0a:List Str:=["row"]
theorem b8n:D1 ["row"] b0a (l9 a9L):=by walk_at "sc"
include T in
theorem b8K(F:Fun K "set_by" "set_by" a9L f fd):N5 P w K mg base CX0 1 f fd b0a (a3H K):=fk F b8n fun _ _ _ _ _ _ hr nd=>c7 (g9 (a1P (T1 a4O (u7 (c6 0) b7) (D5 (a2B p8 p8 p8)) rfl) (u7 (c6 0) b7) a4K))
variable(a5j:F8 P w K mg base 1 "set_by" b0a (a3H K))
abbrev a6m:List Str:=["operand",d0n]
theorem b4r:D1 ["operand",d0n] a6m (l9 a6f):=by walk_at "sc"
include T in
theorem b4D(F:Fun K d0o d0o a6f f fd):N5 P w K mg base CX0 1 f fd a6m (a0d K):=fk F b4r fun _ _ _ _ _ _ hr nd=>b9 (A5 (O4 (o6 Q2 rfl T.M5 C0 (v9 (c6 0) (U4 rfl T.c2L a3R rfl)))) (c7 (g9 (a6c hr (c6 1) (c6 0) b7))) o8) (c7 (g9 (c6 0)))
variable(R5:F8 P w K mg base 1 d0o a6m (a0d K))
abbrev b2M:List Str:=["deed",d0n]
theorem c0z:D1 ["deed",d0n,"kind","one","other"] b2M (l9 b2t):=by walk_at "sc"
include T R5 in
theorem c1J(F:Fun K "worth" "worth" b2t f fd):N5 P w K mg base CX0 2 f fd b2M (a6M K):=fk F c0z fun _ _ _ _ _ _ hr nd=>b9 (z7 2 nd (u7 (c6 0) b7)) (b9 (z7 3 nd (o3 R5 hr (v9 (u7 (c6 0) b7) (c6 1)))) (b9 (z7 4 nd (o3 R5 hr (v9 (u7 (c6 0) b7) (c6 1)))) (b9 (A5 (C9 (C1 hr) (c6 2) p8) (c7 (g9 (v7 P7 (v7 E3 (c6 3) (c6 4)) (T2 T.a9l rfl)))) o8) (b9 (A5 (C9 (C1 hr) (c6 2) p8) (c7 (g9 (v7 P7 (v7 W4 (c6 3) (c6 4)) (T2 T.a9l rfl)))) o8) (b9 (A5 (C9 (C1 hr) (c6 2) p8) (c7 (g9 (v7 P7 (v7 a1i (c6 3) (c6 4)) (T2 T.a9l rfl)))) o8) (b9 (A5 (C9 (C1 hr) (c6 2) p8) (c7 (g9 (a1P (C9 X8 (c6 3) (c6 4)) b7 b7))) o8) (c7 (g9 (a1P (C9 (C1 hr) (c6 3) (c6 4)) b7 b7)))))))))
variable(a8W:F8 P w K mg base 2 "worth" b2M (a6M K))
abbrev a5a:List Str:=["row",d0n,"left"]
theorem b2p:D1 ["row",d0n,"left"] a5a (l9 a4V):=by walk_at "sc"
include T R5 a8W in
theorem b2X(F:Fun K d0p d0p a4V f fd):N5 P w K mg base CX0 3 f fd a5a (a2p K):=fk F b2p fun _ _ _ _ _ _ hr nd=>b9 (A5 (C9 (C1 hr) (u7 (c6 0) b7) p8) (c7 (g9 (o3 a8W hr (v9 (u7 (c6 0) b7) (c6 1))))) o8) (b9 (A5 (C9 (C1 hr) (u7 (c6 0) b7) p8) (c7 (g9 (o3 R5 hr (v9 (u7 (c6 0) b7) (c6 1))))) o8) (c7 (g9 (a1P (C9 a1u (o6 A6 rfl T.Q3 t6 (p9 (c6 2))) b7) (b3W C3 b5w b5u b1t (c6 2)) b7))))
variable(a3h:F8 P w K mg base 3 d0p a5a (a2p K))
abbrev a3t:List Str:=[d0q,"row",d0n]
theorem a9J:D1 [d0q,"row",d0n] a3t (l9 a3q):=by walk_at "sc"
include T R5 in
theorem b0h(F:Fun K d0r d0r a3q f fd):N5 P w K mg base CX0 2 f fd a3t (a1w K):=fk F a9J fun _ _ _ _ _ _ hr nd=>b9 (A5 (Q4 (a1r (C9 (C1 hr) (u7 (c6 1) b7) p8) (a0H (C9 (C1 hr) (o3 R5 hr (v9 (u7 (c6 1) b7) (c6 2))) b7)))) (c7 (g9 (D5 (v9 (c6 0) b7)))) o8) (c7 (g9 (D5 (v9 (c6 0) b7))))
variable(a1W:F8 P w K mg base 2 d0r a3t (a1w K))
abbrev a2h:List Str:=["self","step"]
theorem a7D:D1 ["self","step"] a2h (l9 a2f):=by walk_at "sc"
include T in
theorem a7R(F:Fun K "leads_to" "Plan.leads_to" a2f f fd):N5 P w K mg base CX0 1 f fd a2h (Z8 K c):=fk F a7D fun _ _ _ _ _ _ hr nd=>b9 (A5 (T1 (b1s hr) (c6 1) (T2 T.a4w rfl) (Z9 _)) (c7 (g9 b7)) o8) (c7 (g9 (u7 (u7 (a4L (c6 0)) (u7 (c6 1) b7)) (u7 (c6 1) b7))))
variable(U8:a9d P w K mg base 1 "leads_to" c.S8 a2h (Z8 K c))
abbrev c1D:List Str:=["plan","start","taken","most"]
theorem c5N:D1 ["plan","start","taken","most",d0n,"left","told","way","step","ended",d0q,"row"] c1D (l9 c0L):=by walk_at "sc"
include T a5j R5 a3h a1W U8 in
theorem c7l(F:Fun K "run" "run" c0L f fd):N5 P w K mg base CX0 4 f fd c1D (a1a K c):=fk F c5N fun _ _ _ _ _ _ hr nd=>b9 (z7 4 nd (I0 a0g rfl T.a6z Q5 (p9 (c6 1)))) (b9 (z7 5 nd (b1Y (c6 2) rfl rfl T.a1e rfl T.b7e D3 PyProof.Rows.boot_reversed)) (b9 (z7 6 nd (v8 G6)) (b9 (z7 7 nd (v8 G6)) (b9 (z7 8 nd (T2 T.a4w rfl)) (b9 (z7 9 nd L8) (b9 (a9n PassesOwn.never (Q4 (a1r (C9 X8 (o6 A6 rfl T.Q3 t6 (p9 (c6 7))) (c6 3)) (a0H (Q7 (O4 (c6 9)))))) (b9 (N9 (Z1 C3 F7 F6 R3 (c6 7) (p9 (c6 8)))) (b9 (z7 10 nd (b3V U8 hr (by decide) (c6 0) (p9 (c6 8)))) (b9 (z7 11 nd (u7 (a4L (c6 0)) (c6 10))) (b9 (A5 (C9 b3X (o3 a5j hr (p9 (c6 11))) a4K) (c7 (a0q hr (c6 4) (o3 a5j hr (p9 (c6 11))) (o3 a3h hr (a2B (c6 11) (c6 4) (c6 5))))) (c7 (A5 (C9 (C1 hr) (u7 (c6 11) b7) p8) (c7 (N9 (Z1 C3 F7 F6 R3 (c6 6) (p9 (o3 R5 hr (v9 (u7 (c6 11) b7) (c6 4))))))) o8))) (b9 (z7 9 nd (a1t (C1 hr) (o6 A6 rfl T.Q3 t6 (p9 (u7 (a4L (c6 0)) (c6 10)))) b7)) (c7 (z7 8 nd (o3 a1W hr (a2B (c6 10) (c6 11) (c6 4))))))))))) (c7 (g9 (D5 (a0A (c6 6) (c6 7) (c6 4) (c6 9)))))))))))
variable(a1m:F8 P w K mg base 4 "run" c1D (a1a K c))
abbrev a2L:List Str:=["things","at","least"]
theorem a8G:D1 ["things","at","least"] a2L (l9 a2I):=by walk_at "sc"
include T in
theorem a8H(F:Fun K d0s d0s a2I f fd):N5 P w K mg base CX0 1 f fd a2L (a0V K):=fk F a8G fun _ _ _ _ _ _ hr nd=>b9 (A5 (Q4 (T5 (Q7 (O4 (o6 Q2 rfl T.M5 C0 (v9 (c6 0) (U4 rfl T.a1e D3 rfl))))) (W9 (C9 X8 (o6 A6 rfl T.Q3 t6 (p9 (c6 0))) (c6 2))))) (c7 a2z) o8) (c7 (A5 (C9 a1u (o6 A6 rfl T.Q3 t6 (p9 (c6 0))) (T2 T.c8i rfl)) (c7 a2z) o8))
variable(a1D:F8 P w K mg base 1 d0s a2L (a0V K))
abbrev a7P:List Str:=[d0t]
theorem b5R:D1 [d0t] a7P (l9 a5z):=by walk_at "sc"
theorem b3s:U1 [d0t] (l9 a5z) (scF [ (".0",.local),("sign",.local),("LETTERS",.globalImplicit),("FIGURES",.globalImplicit)]) "sign" := by walk_at "c0"
include T in
theorem b6u(F:Fun K "is_name" "is_name" a5z f fd):N5 P w K mg base CX0 1 f fd a7P (a0h K):=fk F b5R fun _ _ _ _ _ _ hr nd=>b9 (A5 (Q4 (T5 (Q7 (O4 (o6 Q2 rfl T.M5 C0 (v9 (c6 0) (U4 rfl T.c2L a3R rfl))))) (W9 (Q7 (b5B a3E a3E b7 (o6 A6 rfl T.Q3 t6 (p9 (c6 0))) (T2 T.b0O rfl)))))) (c7 (g9 L8)) o8) (c7 (g9 (M9 (U3 a4O (u7 (c6 0) b7) (T2 T.b1W rfl) rfl) (Q9 (o6 (a8o rfl) rfl T.c5D b1m (p9 (R8 b3s rfl (b9Y (c6 0)) (fun _ _ _ _ _=>N8) (fun _ _ _ _ _=>U3 a4O (c6 0) (v7 E3 (T2 T.b1W rfl) (T2 T.b9J rfl)) rfl))))))))
variable(a0J:F8 P w K mg base 1 "is_name" a7P (a0h K))
abbrev a6p:List Str:=[d0t]
theorem b4u:D1 [d0t] a6p (l9 a6g):=by walk_at "sc"
include T in
theorem b4G(F:Fun K d0u d0u a6g f fd):N5 P w K mg base CX0 1 f fd a6p (a2c K):=fk F b4u fun _ _ _ _ _ _ hr nd=>c7 (g9 (M9 (o6 Q2 rfl T.M5 C0 (v9 (c6 0) (U4 rfl T.b5t a0l rfl))) (Q9 (b3U (o6 Q2 rfl T.M5 C0 (v9 (c6 0) (U4 rfl T.c2N b0R rfl)))))))
variable(a1b:F8 P w K mg base 1 d0u a6p (a2c K))
abbrev a6q:List Str:=[d0t]
theorem b4v:D1 [d0t] a6q (l9 a6h):=by walk_at "sc"
include T a1b in
theorem b4H(F:Fun K d0v d0v a6h f fd):N5 P w K mg base CX0 2 f fd a6q (a2Y K):=fk F b4v fun _ _ _ _ _ _ hr nd=>c7 (g9 (M9 (o3 a1b hr (p9 (c6 0))) (Q9 (a3U a3E X8 b7 (c6 0) (T2 T.a9l rfl)))))
variable(a4q:F8 P w K mg base 2 d0v a6q (a2Y K))
abbrev a4i:List Str:=[d0t]
theorem b0X:D1 [d0t] a4i (l9 a4a):=by walk_at "sc"
include T a0J a4q in
theorem b1b(F:Fun K d0w d0w a4a f fd):N5 P w K mg base CX0 3 f fd a4i (Y7 K):=fk F b0X fun _ _ _ _ _ _ hr nd=>c7 (g9 (c2V (o3 a0J hr (p9 (c6 0))) (Q9 (o3 a4q hr (p9 (c6 0))))))
variable(W0:F8 P w K mg base 3 d0w a4i (Y7 K))
abbrev a7Q:List Str:=[d0t]
theorem b5S:D1 [d0t] a7Q (l9 a7I):=by walk_at "sc"
include T W0 in
theorem b6v(F:Fun K "is_deed" "is_deed" a7I f fd):N5 P w K mg base CX0 4 f fd a7Q (a3X K c):=fk F b5S fun _ _ _ _ _ _ hr nd=>b9 (A5 (Q4 (T5 (Q7 (O4 (o6 Q2 rfl T.M5 C0 (v9 (c6 0) (U4 rfl T.b3L a3k rfl))))) (W9 (C9 (a2a hr) (o6 A6 rfl T.Q3 t6 (p9 (c6 0))) b7)))) (c7 (g9 L8)) o8) (c7 (g9 (M9 (U3 b8d (u7 (c6 0) b7) (T2 T.b3K rfl) rfl) (M9 (o3 W0 hr (p9 (u7 (c6 0) b7))) (Q9 (o3 W0 hr (p9 (u7 (c6 0) b7))))))))
variable(a5H:F8 P w K mg base 4 "is_deed" a7Q (a3X K c))
abbrev b0f:List Str:=[d0t]
theorem b8s:D1 [d0t,"kind","rest"] b0f (l9 a9P):=by walk_at "sc"
include T a0J W0 a5H in
theorem b8P(F:Fun K "is_row" "is_row" a9P f fd):N5 P w K mg base CX0 5 f fd b0f (a5x K c):=fk F b8s fun _ _ _ _ _ _ hr nd=>b9 (A5 (Q4 (T5 (Q7 (O4 (o6 Q2 rfl T.M5 C0 (v9 (c6 0) (U4 rfl T.b3L a3k rfl))))) (W9 (C9 (C1 hr) (o6 A6 rfl T.Q3 t6 (p9 (c6 0))) b7)))) (c7 (g9 L8)) o8) (b9 (z7 1 nd (u7 (c6 0) b7)) (b9 (z7 2 nd (a0y a6b (c6 0) (a1g b7) a1h)) (b9 (A5 (C9 (C1 hr) (c6 1) p8) (c7 (g9 (M9 (a1t (C1 hr) (o6 A6 rfl T.Q3 t6 (p9 (c6 2))) b7) (M9 (o3 a0J hr (p9 (u7 (c6 2) b7))) (Q9 (o3 a5H hr (p9 (u7 (c6 2) b7)))))))) o8) (b9 (A5 (C9 (C1 hr) (c6 1) p8) (c7 (g9 (M9 (a1t (C1 hr) (o6 A6 rfl T.Q3 t6 (p9 (c6 2))) b7) (M9 (o3 a0J hr (p9 (u7 (c6 2) b7))) (Q9 (o3 W0 hr (p9 (u7 (c6 2) b7)))))))) o8) (b9 (A5 (C9 (C1 hr) (c6 1) p8) (c7 (g9 (M9 (a1t (C1 hr) (o6 A6 rfl T.Q3 t6 (p9 (c6 2))) b7) (Q9 (o3 a0J hr (p9 (u7 (c6 2) b7))))))) o8) (b9 (A5 (T1 a4O (c6 1) (D5 (v9 p8 p8)) rfl) (c7 (g9 (M9 (a1t (C1 hr) (o6 A6 rfl T.Q3 t6 (p9 (c6 2))) b7) (Q9 (o3 W0 hr (p9 (u7 (c6 2) b7))))))) o8) (c7 (g9 (M9 (a1t (C1 hr) (c6 1) p8) (Q9 (a1t (C1 hr) (o6 A6 rfl T.Q3 t6 (p9 (c6 2))) b7)))))))))))
variable(a7m:F8 P w K mg base 5 "is_row" b0f (a5x K c))
abbrev a4k:List Str:=["rights"]
theorem b0Z:D1 ["rights","k","right"] a4k (l9 a4c):=by walk_at "sc"
include T in
theorem b1d(F:Fun K d0x d0x a4c f fd):N5 P w K mg base CX0 1 f fd a4k (a0R K):=fk F b0Z fun _ _ _ _ _ _ hr nd=>c7 (Q8 PassesOwn.never rfl (a3B rfl T.a2e (p9 (c6 0))) (a2A rfl (J9 (M8 1 nd) (J9 (M8 2 nd) a1O))) (c7 (A5 (Q7 (O4 (c6 2))) (c7 a2z) o8)))
variable(a0k:F8 P w K mg base 1 d0x a4k (a0R K))
abbrev a6r:List Str:=[d0t,"many"]
theorem b4w:D1 [d0t,"many"] a6r (l9 a6i):=by walk_at "sc"
include T a1b in
theorem b4I(F:Fun K d0y d0y a6i f fd):N5 P w K mg base CX0 2 f fd a6r (a2Z K):=fk F b4w fun _ _ _ _ _ _ hr nd=>c7 (g9 (M9 (o3 a1b hr (p9 (c6 0))) (Q9 (a3U a3E X8 b7 (c6 0) (c6 1)))))
variable(a4r:F8 P w K mg base 2 d0y a6r (a2Z K))
abbrev a5c:List Str:=["row",d0z,"many"]
theorem b2r:D1 ["row",d0z,"many","wanted"] a5c (l9 a3a):=by walk_at "sc"
theorem b0A:U1 ["row",d0z,"many","wanted"] (l9 a3a) (scF [ (".0",.local),(d0q,.local),(d0y,.globalImplicit),("many",.free)]) d0q := by walk_at "c0"
include T a4r in
theorem b2Z(F:Fun K d0A d0A a3a f fd):N5 P w K mg base CX0 3 f fd a5c (a2r K):=fk F b2r fun _ _ _ _ _ _ hr nd=>b9 (A5 (Q7 (O4 (o6 Q2 rfl T.M5 C0 (v9 (c6 1) (U4 rfl T.a1e D3 rfl))))) (c7 (g9 L8)) o8) (b9 (z7 3 nd (a1P (C9 (C1 hr) (u7 (c6 0) b7) p8) (D5 (p9 b7)) (D5 (v9 b7 b7)))) (c7 (g9 (M9 (U3 a4O (o6 A6 rfl T.Q3 t6 (p9 (c6 1))) (c6 3) rfl) (Q9 (o6 (a8o rfl) rfl T.c5D b1m (p9 (R8 b0A rfl (Q1 (c6 1)) (fun _ _ _ _ _=>N8) (fun _ _ _ _ _=>o3 a4r hr (v9 (c6 0) (c6 3)))))))))))
variable(a3j:F8 P w K mg base 3 d0A a5c (a2r K))
abbrev a3u:List Str:=[d0B,d0C]
theorem a9K:D1 [d0B,d0C] a3u (l9 a1U):=by walk_at "sc"
theorem a7X:a4s [d0B,d0C] (l9 a1U) (scF [ (".0",.local),("row",.local),(d0z,.local),(d0A,.globalImplicit),("len",.globalImplicit),(d0B,.free)]) "row" d0z := by walk_at "c2"
include T a0k a3j in
theorem b0i(F:Fun K d0D d0D a1U f fd):N5 P w K mg base CX0 4 f fd a3u (a1x K):=fk F a9K fun _ _ _ _ _ _ hr nd=>b9 (A5 (Q4 (T5 (Q7 (O4 (o6 Q2 rfl T.M5 C0 (v9 (c6 1) (U4 rfl T.a1e D3 rfl))))) (W9 (C9 (a2a hr) (o6 A6 rfl T.Q3 t6 (p9 (c6 1))) (o6 A6 rfl T.Q3 t6 (p9 (c6 0))))))) (c7 a2z) o8) (c7 (N9 (o3 a0k hr (p9 (a9p a7X rfl (b9X rfl T.c9z (v9 (c6 0) (c6 1))) (fun _ _ _ _ _=>N8) (fun _ _ _ _ _=>o3 a3j hr (a2B (c6 0) (c6 1) (o6 A6 rfl T.Q3 t6 (p9 (c6 2))))))))))
variable(a1X:F8 P w K mg base 4 d0D a3u (a1x K))
abbrev a7L:List Str:=["begins","leads"]
theorem b5N:D1 ["begins","leads","seen","waiting",d0q] a7L (l9 a7E):=by walk_at "sc"
include T in
theorem b6q(F:Fun K "reached" "reached" a7E f fd):N5 P w K mg base CX0 1 f fd a7L (a2G K):=fk F b5N fun _ _ _ _ _ _ hr nd=>b9 (z7 2 nd a0z) (b9 (z7 3 nd (I0 V5 rfl T.a1e D3 (p9 (c6 0)))) (b9 (a9n PassesOwn.never (C9 a1u (o6 A6 rfl T.Q3 t6 (p9 (c6 3))) b7) (b9 (z7 4 nd (b3W C3 b5w b5u b1t (c6 3))) (c7 (A5 (a4J hr (c6 4) (c6 2) rfl) (b9 (a0q hr (c6 2) (c6 4) L8) (c7 (N9 (Z1 C3 b3I b3H a6C (c6 3) (p9 (u7 (c6 1) (c6 4))))))) o8)))) (c7 (g9 (c6 2)))))
variable(a3O:F8 P w K mg base 1 "reached" a7L (a2G K))
abbrev a9Z:List Str:=[d0C]
theorem b8m:D1 [d0C,"sources",d0q,d0z,"target"] a9Z (l9 a6T):=by walk_at "sc"
theorem b5f:U1 [d0C,"sources",d0q,d0z,"target"] (l9 a6T) (scF [(".0",.local),(d0z,.local)]) d0z := by walk_at "c0"
include T in
theorem b8J(F:Fun K "turned" "turned" a6T f fd):N5 P w K mg base CX0 1 f fd a9Z (a5t K):=fk F b8m fun _ _ _ _ _ _ hr nd=>b9 (a3T (n:=1) nd rfl rfl b5f rfl (Q1 (c6 0)) (fun _ _ _ _ _=>N8) (fun _ _ _ _ _=>v8 G6)) (b9 (Q8 PassesOwn.never rfl (a3B rfl T.a2e (p9 (c6 0))) (a2A rfl (J9 (M8 2 nd) (J9 (M8 3 nd) a1O))) (c7 (Q8 PassesOwn.never rfl (Q1 (c6 3)) (M8 4 nd) (c7 (N9 (Z1 C3 F7 F6 R3 (u7 (c6 1) (c6 4)) (p9 (c6 2)))))))) (c7 (g9 (c6 1))))
variable(a7i:F8 P w K mg base 1 "turned" a9Z (a5t K))
abbrev a6n:List Str:=[d0C]
theorem b4s:D1 [d0C] a6n (l9 a3Y):=by walk_at "sc"
theorem b1g:a4s [d0C] (l9 a3Y) (scF [ (".0",.local),(d0q,.local),(d0z,.local),("len",.globalImplicit)]) d0q d0z := by walk_at "c2"
include T in
theorem b4E(F:Fun K d0E d0E a3Y f fd):N5 P w K mg base CX0 1 f fd a6n (a2W K):=fk F b4s fun _ _ _ _ _ _ hr nd=>c7 (g9 (a9p b1g rfl (a3B rfl T.a2e (p9 (c6 0))) (fun _ _ _ _ _=>b1p (C9 (C1 hr) (o6 A6 rfl T.Q3 t6 (p9 (c6 1))) b7)) (fun _ _ _ _ _=>c6 0)))
variable(a4n:F8 P w K mg base 1 d0E a6n (a2W K))
abbrev a4j:List Str:=[d0C]
theorem b0Y:D1 [d0C,"begun","ending",d0q] a4j (l9 a4b):=by walk_at "sc"
include T a3O a7i a4n in
theorem b1c(F:Fun K d0F d0F a4b f fd):N5 P w K mg base CX0 2 f fd a4j (a1T K):=fk F b0Y fun _ _ _ _ _ _ hr nd=>b9 (z7 1 nd (o3 a3O hr (v9 (v8 (p9 b7)) (c6 0)))) (b9 (z7 2 nd (o3 a3O hr (v9 (o3 a4n hr (p9 (c6 0))) (o3 a7i hr (p9 (c6 0)))))) (c7 (Q8 PassesOwn.never rfl (L5 rfl T.Z6 (p9 (o6 A6 rfl T.Q3 t6 (p9 (c6 0))))) (M8 3 nd) (c7 (A5 (Q4 (T5 (a4J hr (c6 3) (c6 1) rfl) (W9 (a4J hr (c6 3) (c6 2) rfl)))) (c7 a2z) o8)))))
variable(a2s:F8 P w K mg base 2 d0F a4j (a1T K))
abbrev a6o:List Str:=[d0C]
theorem b4t:D1 [d0C,"steps",d0q,d0z] a6o (l9 a3Z):=by walk_at "sc"
theorem b1h:U1 [d0C,"steps",d0q,d0z] (l9 a3Z) (scF [ (".0",.local),("at",.local),(d0q,.free)]) "at" := by walk_at "c0"
include T in
theorem b4F(F:Fun K d0G d0G a3Z f fd):N5 P w K mg base CX0 1 f fd a6o (a2X K c):=fk F b4t fun _ _ _ _ _ _ hr nd=>b9 (z7 1 nd (v8 (p9 (T2 T.a4w rfl)))) (b9 (Q8 PassesOwn.never rfl (a3B rfl T.a2e (p9 (c6 0))) (a2A rfl (J9 (M8 2 nd) (J9 (M8 3 nd) a1O))) (c7 (N9 (Z1 C3 b3I b3H a6C (c6 1) (p9 (R8 b1h rfl (L5 rfl T.Z6 (p9 (o6 A6 rfl T.Q3 t6 (p9 (c6 3))))) (fun _ _ _ _ _=>N8) (fun _ _ _ _ _=>D5 (v9 (c6 3) (c6 0))))))))) (c7 (g9 (c6 1))))
variable(a4o:F8 P w K mg base 1 d0G a6o (a2X K c))
abbrev a5d:List Str:=["self",d0B,d0C]
theorem b2s:D1 ["self",d0B,d0C,"step"] a5d (l9 a1k):=by walk_at "sc"
theorem b0D:U1 ["self",d0B,d0C,"step"] (l9 a1k) (scF [ (".0",.local),("row",.local),("is_row",.globalImplicit)]) "row" := by walk_at "c0"
theorem b0C:U1 ["self",d0B,d0C,"step"] (l9 a1k) (scF [ (".0",.local),(d0z,.local),("list",.globalImplicit)]) d0z := by walk_at "c0"
theorem b0B:U1 ["self",d0B,d0C,"step"] (l9 a1k) (scF [(".0",.local),("row",.local)]) "row" := by walk_at "c0"
include T U8 a1D a7m a0k a1X a2s a4o in
theorem b3a(F:Fun K d0h "Plan.__init__" a1k f fd):N5 P w K mg base CX0 6 f fd a5d (Y1 K c):=fk F b2s fun _ _ _ _ _ _ hr nd=>b9 (N9 (o3 a1D hr (a2B (c6 1) b7 b7))) (b9 (N9 (o3 a0k hr (p9 (R8 b0D rfl (Q1 (c6 1)) (fun _ _ _ _ _=>N8) (fun _ _ _ _ _=>o3 a7m hr (p9 (c6 0))))))) (b9 (N9 (o3 a1X hr (v9 (c6 1) (c6 2)))) (b9 (N9 (o3 a2s hr (p9 (c6 2)))) (b9 (a9o (c6 0) (I0 V5 rfl T.a1e D3 (p9 (c6 1)))) (b9 (a9o (c6 0) (R8 b0C rfl (Q1 (c6 2)) (fun _ _ _ _ _=>N8) (fun _ _ _ _ _=>I0 V5 rfl T.a1e D3 (p9 (c6 0))))) (b9 (a9o (c6 0) (R8 b0B rfl (Q1 (c6 1)) (fun _ _ _ _ _=>N8) (fun _ _ _ _ _=>v8 G6))) (c7 (Q8 PassesOwn.never rfl (Q1 (o3 a4o hr (p9 (a4L (c6 0))))) (M8 3 nd) (c7 (N9 (Z1 C3 F7 F6 R3 (u7 (a4L (c6 0)) (b3V U8 hr (by decide) (c6 0) (p9 (c6 3)))) (p9 (c6 3)))))))))))))
variable(a2N:b5o P w K mg base 6 "Plan" c.S8 a5d (Y1 K c))
abbrev b0b:List Str:=[d0k]
theorem b8o:D1 [d0k,d0l,d0H,d0I,"_law_told",d0J,d0K,"_law_ended","_law_due","_law_ever",d0L] b0b (l9 a9M):=by walk_at "sc"
include T D2 a1m a2N in
theorem b8L(F:Fun K d0M d0M a9M f fd):N5 P w K mg base CX0 8 f fd b0b (a5u K c):=fk F b8o fun _ _ _ _ _ _ hr nd=>b9 (z7 1 nd (v7 E3 b7 (o3 D2 hr (v9 (c6 0) b7)))) (b9 (z7 2 nd (v8 (a0A (D5 (a2B p8 p8 (D5 (a2B p8 p8 b7)))) (D5 (a2B p8 p8 (D5 (a2B p8 p8 (c6 1))))) (D5 (v9 p8 p8)) (D5 (v9 p8 p8))))) (b9 (z7 3 nd (b1Z a2N hr (v9 (c6 2) (v8 (a0A (v8 (p9 b7)) (v8 (p9 b7)) (v8 (v9 b7 b7)) (v8 G6)))))) (b9 (a1s (o3 a1m hr (a0A (c6 3) a0z (v8 G6) b7)) (a2A rfl (J9 (M8 4 nd) (J9 (M8 5 nd) (J9 (M8 6 nd) (J9 (M8 7 nd) a1O)))))) (b9 (z7 8 nd (v7 E3 (v8 (p9 (D5 (v9 (a2n a1q b7) b7)))) (v7 a4M (v8 (a2B (D5 (v9 b7 b7)) (D5 (v9 b7 b7)) (D5 (v9 b7 b7)))) (c6 1)))) (b9 (a1s (D5 (v9 b7 b7)) (a3C (c6 8) (v7 a1i b7 (c6 1)) a3S)) (b9 (A5 (Q4 (T5 (C9 (a2a hr) (c6 4) (v8 (p9 (c6 1)))) (T5 (T1 (b8a hr) (c6 5) (c6 8) (Z9 _)) (T5 (T1 (b8b hr) (c6 6) (a3D (a1N p8 (c6 1) (a1N p8 b7 a3A))) (Z9 _)) (W9 (C9 b5C (c6 7) L8)))))) (c7 (g9 L8)) o8) (b9 (z7 9 nd (b1Z a2N hr (v9 (v8 (v9 (D5 (v9 p8 b7)) (D5 (p9 p8)))) (v8 (v9 (v8 (v9 b7 b7)) (v8 G6)))))) (b9 (A5 (T1 (a5r hr) (o3 a1m hr (a0A (c6 9) a0z (v8 G6) b7)) (D5 (a0A (v8 G6) (v7 E3 (v8 (p9 (D5 (v9 (a2n a1q b7) b7)))) (v7 a4M (v8 (p9 (D5 (v9 b7 b7)))) b7)) a0z L8)) (Z9 _)) (c7 (g9 L8)) o8) (b9 (z7 10 nd (o3 D2 hr (v9 (c6 0) (v7 E3 (v7 a1i b7 (c6 1)) b7)))) (c7 (g9 (M9 (U3 (a1Q hr) (u7 (o3 a1m hr (a0A (c6 3) a0z (v8 G6) (c6 10))) b7) (a0y a6b (c6 8) a1h (a1g (c6 10))) (Z9 _)) (Q9 (a1t (C1 hr) (u7 (o3 a1m hr (a0A (c6 3) (a3D (a1N p8 (c6 1) a3A)) (v8 G6) b7)) b7) (v8 (p9 (v7 E3 (c6 1) b7)))))))))))))))))
variable(a7j:F8 P w K mg base 8 d0M b0b (a5u K c))
abbrev b2U:List Str:=[d0k]
theorem c0I:D1 [d0k,d0l,d0H,d0I,d0J,d0L] b2U (l9 a4d):=by walk_at "sc"
theorem b6R:U1 [d0k,d0l,d0H,d0I,d0J,d0L] (l9 a4d) (scF [(".0",.local),(d0N,.local)]) d0N := by walk_at "c0"
theorem b6Q:U1 [d0k,d0l,d0H,d0I,d0J,d0L] (l9 a4d) (scF [(".0",.local),(d0N,.local)]) d0N := by walk_at "c0"
include T D2 a1m a2N in
theorem c1R(F:Fun K d0O d0O a4d f fd):N5 P w K mg base CX0 8 f fd b2U (a6R K c):=fk F c0I fun _ _ _ _ _ _ hr nd=>b9 (z7 1 nd (v7 E3 b7 (o3 D2 hr (v9 (c6 0) b7)))) (b9 (z7 2 nd (v7 E3 (v7 a4M (v8 (p9 (D5 (a2B p8 p8 (D5 (a2B p8 p8 b7)))))) (v7 W4 (c6 1) b7)) (v8 (p9 (D5 (v9 p8 p8)))))) (b9 (z7 3 nd (b1Z a2N hr (v9 (c6 2) (v7 E3 (R8 b6R rfl (L5 rfl T.Z6 (p9 (v7 W4 (c6 1) b7))) (fun _ _ _ _ _=>N8) (fun _ _ _ _ _=>v8 (p9 (v7 E3 (c6 0) b7)))) (v8 (p9 (v8 G6))))))) (b9 (z7 4 nd (v7 E3 (v8 (p9 (D5 (v9 (a2n a1q b7) b7)))) (R8 b6Q rfl (L5 rfl T.Z6 (p9 (v7 W4 (c6 1) b7))) (fun _ _ _ _ _=>N8) (fun _ _ _ _ _=>D5 (v9 (c6 0) b7))))) (b9 (z7 5 nd (o3 D2 hr (v9 (c6 0) (c6 1)))) (b9 (A5 (T1 (a5r hr) (o3 a1m hr (a0A (c6 3) a0z (v8 G6) b7)) (D5 (a0A (v8 (p9 (v7 W4 (c6 1) b7))) (c6 4) (a3D (a1N p8 (v7 W4 (c6 1) b7) a3A)) L8)) (Z9 _)) (c7 (g9 L8)) o8) (c7 (g9 (U3 (a1Q hr) (a0y a6b (o3 a1m hr (a0A (c6 3) (a3D (a1N p8 b7 a3A)) (v8 G6) (c6 5))) a1h (a1g b7)) (D5 (v9 (v8 G6) (a0y a6b (c6 4) a1h (a1g (c6 5))))) (Z9 _)))))))))
variable(a9b:F8 P w K mg base 8 d0O b2U (a6R K c))
abbrev c1F:List Str:=[d0k,d0l]
theorem c5P:D1 [d0k,d0l,d0P,d0N,"_law_near","_law_some",d0J] c1F (l9 c0Q):=by walk_at "sc"
include T D2 in
theorem c7n(F:Fun K d0Q d0Q c0Q f fd):N5 P w K mg base CX0 2 f fd c1F (b2k K):=fk F c5P fun _ _ _ _ _ _ hr nd=>b9 (z7 2 nd (v8 G6)) (b9 (Q8 PassesOwn.never rfl (L5 rfl T.Z6 (p9 (c6 1))) (M8 3 nd) (b9 (z7 4 nd (o6 (a8n rfl) rfl T.c5C b1l (v9 (v7 E3 (c6 3) b7) (v7 W4 (c6 1) b7)))) (b9 (z7 5 nd (v8 (v9 (c6 4) (o3 D2 hr (v9 (c6 0) (c6 1)))))) (b9 (z7 6 nd (o3 D2 hr (v9 (c6 0) b7))) (b9 (A5 (C9 X8 (c6 6) b7) (c7 (z7 5 nd (v8 (v9 (u7 (c6 5) b7) (c6 4))))) o8) (b9 (A5 (C9 (C1 hr) (c6 6) b7) (c7 (z7 5 nd (v8 (v9 (u7 (c6 5) b7) (o3 D2 hr (v9 (c6 0) (c6 1))))))) o8) (b9 (A5 (Q4 (T5 (Q4 (a1r (C9 a1u (c6 6) b7) (a0H (C9 X8 (c6 6) b7)))) (W9 (C9 (C1 hr) (c6 1) b7)))) (c7 (z7 5 nd (v8 (p9 (c6 4))))) o8) (b9 (A5 (C9 (C1 hr) (c6 6) b7) (c7 (z7 5 nd (v8 (p9 (u7 (c6 5) (a2n a1q b7)))))) o8) (b9 (A5 (Q4 (T5 (C9 (C1 hr) (c6 3) (v7 W4 (c6 1) b7)) (W9 (Q4 (a1r (C9 (C1 hr) (c6 6) b7) (a0H (C9 (C1 hr) (o3 D2 hr (v9 (c6 0) b7)) b7))))))) (c7 (z7 5 nd (v8 G6))) o8) (c7 (N9 (Z1 C3 F7 F6 R3 (c6 2) (p9 (c6 5)))))))))))))) (c7 (g9 (c6 2))))
variable(b7R:F8 P w K mg base 2 d0Q c1F (b2k K))
abbrev b0e:List Str:=[d0P]
theorem b8r:D1 [d0P,d0R,d0S,d0N,d0T,d0U,d0V] b0e (l9 a3J):=by walk_at "sc"
theorem b5j:U1 [d0P,d0R,d0S,d0N,d0T,d0U,d0V] (l9 a3J) (scF [ (".0",.local),(d0U,.local),(d0R,.free)]) d0U := by walk_at "c0"
theorem b5i:U1 [d0P,d0R,d0S,d0N,d0T,d0U,d0V] (l9 a3J) (scF [ (".0",.local),(d0N,.local),("len",.globalImplicit),(d0R,.free),(d0P,.free)]) d0N := by walk_at "c0"
theorem b5h:U1 [d0P,d0R,d0S,d0N,d0T,d0U,d0V] (l9 a3J) (scF [ (".0",.local),(d0N,.local),(d0P,.free),(d0V,.free)]) d0N := by walk_at "c0"
theorem b5g(env:Env):U1 [d0N,d0P,d0R,d0S,"._law_k",d0T,d0U,d0V] (a7w (scF [ (".0",.local),(d0N,.local),(d0P,.free),(d0V,.free)]) env) (scF [ (".0",.local),(d0U,.local),(d0V,.free)]) d0U := by walk_at "c1"
include T in
theorem b8O(F:Fun K d0W d0W a3J f fd):N5 P w K mg base CX0 1 f fd b0e (a5w K):=fk F b8r fun _ _ _ _ _ _ hr nd=>b9 (z7 1 nd a0z) (b9 (Q8 PassesOwn.never rfl (L5 rfl T.Z6 (p9 (o6 A6 rfl T.Q3 t6 (p9 (c6 0))))) (M8 2 nd) (c7 (Q8 PassesOwn.never rfl (L5 rfl T.Z6 (p9 (o6 A6 rfl T.Q3 t6 (p9 (c6 0))))) (M8 3 nd) (c7 (A5 (Q4 (T5 (C9 (C1 hr) (u7 (c6 0) (c6 3)) (v8 G6)) (W9 (O4 (o6 (b4b rfl) rfl T.c9B PyProof.Rows.boot_any (p9 (R8 b5j rfl (Q1 (u7 (c6 0) (c6 3))) (fun _ _ _ _ _=>N8) (fun _ _ _ _ _=>c0a hr (c6 0) (c6 2) rfl)))))))) (c7 (a0q hr (c6 1) (c6 3) L8)) o8))))) (b9 (z7 0 nd (R8 b5i rfl (L5 rfl T.Z6 (p9 (o6 A6 rfl T.Q3 t6 (p9 (c6 0))))) (fun _ _ _ _ _=>N8) (fun _ _ _ _ _=>a1P (b3T hr (c6 0) (c6 2) rfl) (u7 (c6 1) (c6 0)) (v7 E3 (v8 (p9 (v7 W4 (o6 A6 rfl T.Q3 t6 (p9 (c6 1))) b7))) (a0y a6b (u7 (c6 1) (c6 0)) (a1g b7) a1h))))) (b9 (z7 4 nd (a3D (a1N b7 L8 a3A))) (b9 (Q8 PassesOwn.never rfl (L5 rfl T.Z6 (p9 (o6 A6 rfl T.Q3 t6 (p9 (c6 0))))) (M8 2 nd) (c7 (Q8 PassesOwn.never rfl (L5 rfl T.Z6 (p9 (o6 A6 rfl T.Q3 t6 (p9 (c6 0))))) (M8 3 nd) (c7 (A5 (b3T hr (c6 3) (c6 4) rfl) (c7 (Q8 PassesOwn.never rfl (Q1 (u7 (c6 0) (c6 3))) (M8 5 nd) (c7 (a0q hr (c6 4) (c6 5) L8)))) o8))))) (b9 (z7 6 nd (o6 a9q rfl T.c2M PyProof.Rows.boot_sorted (p9 (I0 (b0U rfl) rfl T.a1e D3 (p9 (c6 4)))))) (c7 (g9 (R8 b5h rfl (Q1 (c6 6)) (fun _ _ _ _ _=>N8) (fun _ _ _ _ _=>R8 (b5g _) rfl (Q1 (u7 (c6 1) (c6 0))) (fun _ _ _ _ _=>N8) (fun _ _ _ _ _=>Z1 C3 b3M PySem.F.type_list_index b3Y (c6 8) (p9 (c6 0))))))))))))
variable(a7l:F8 P w K mg base 1 d0W b0e (a5w K))
abbrev b6o:List Str:=[d0k,d0X]
theorem c3n:D1 [d0k,d0X,d0Y,d0Z] b6o (l9 b2C):=by walk_at "sc"
theorem b9n:U1 [d0k,d0X,d0Y,d0Z] (l9 b2C) (scF [ (".0",.local),(d0N,.local),(d0m,.globalImplicit),(d0k,.free),(d0Z,.free)]) d0N := by walk_at "c0"
include T D2 in
theorem c4m(F:Fun K d1a d1a b2C f fd):N5 P w K mg base CX0 2 f fd b6o (a6S K):=fk F c3n fun _ _ _ _ _ _ hr nd=>b9 (z7 2 nd p8) (b9 (z7 3 nd (v7 E3 (c6 2) p8)) (c7 (g9 (v7 E3 (v8 (p9 (u7 (c6 2) (o3 D2 hr (v9 (c6 0) b7))))) (R8 b9n rfl (L5 rfl T.Z6 (p9 (v7 W4 (c6 1) b7))) (fun _ _ _ _ _=>N8) (fun _ _ _ _ _=>u7 (c6 4) (o3 D2 hr (v9 (c6 1) b7))))))))
variable(b0F:F8 P w K mg base 2 d1a b6o (a6S K))
abbrev b2R:List Str:=[d0k,d0l]
theorem c0E:D1 [d0k,d0l,d0Y,d0X,"_law_bases","_law_spots","_law_first",d1b,d0N,d0Z,"_law_word"] b2R (l9 b2x):=by walk_at "sc"
include T D2 b0F in
theorem c1O(F:Fun K d1c d1c b2x f fd):N5 P w K mg base CX0 3 f fd b2R (a6P K):=fk F c0E fun _ _ _ _ _ _ hr nd=>b9 (z7 2 nd p8) (b9 (z7 3 nd (v7 E3 b7 (o3 D2 hr (v9 (c6 0) b7)))) (b9 (z7 4 nd (v8 (v9 (o3 b0F hr (v9 (c6 0) (c6 3))) (o3 b0F hr (v9 (c6 0) (v7 E3 (v7 P7 (c6 3) b7) b7)))))) (b9 (z7 5 nd (v8 (v9 (o3 D2 hr (v9 (c6 0) (c6 3))) (o3 D2 hr (v9 (c6 0) (v7 E3 (v7 P7 (c6 3) b7) b7)))))) (b9 (z7 6 nd (o3 D2 hr (v9 (c6 0) b7))) (b9 (z7 7 nd (v8 G6)) (b9 (Q8 PassesOwn.never rfl (L5 rfl T.Z6 (p9 (c6 1))) (M8 8 nd) (b9 (z7 9 nd (I0 V5 rfl T.a1e D3 (p9 (u7 (c6 4) (v7 P7 (c6 8) b7))))) (b9 (a1s (u7 (c6 2) (v7 P7 (v7 E3 (c6 6) (v7 a7y (c6 8) b7)) b7)) (a3C (c6 9) (u7 (c6 5) (v7 P7 (c6 8) b7)) a3S)) (c7 (N9 (Z1 C3 F7 F6 R3 (c6 7) (p9 (Z1 PySem.F.plainAttrs_str PySem.F.slot_str_join PySem.F.type_str_join b5D p8 (p9 (c6 9)))))))))) (b9 (z7 10 nd (u7 (v8 (O0 p8 (b1q p8 p8 p8 p8 p8))) (o3 D2 hr (v9 (c6 0) b7)))) (b9 (A5 (Q4 (a1r (C9 (C1 hr) (o3 D2 hr (v9 (c6 0) b7)) b7) (a0H (T1 a4N (c6 10) (c6 7) rfl)))) (c7 (a1s (c6 10) (a3C (c6 7) (o3 D2 hr (v9 (c6 0) (c6 1))) a3S))) o8) (c7 (g9 (c6 7)))))))))))
variable(a8Z:F8 P w K mg base 3 d1c b2R (a6P K))
abbrev b2O:List Str:=[d0k]
theorem c0B:D1 [d0k] b2O (l9 b2v):=by walk_at "sc"
include T D2 in
theorem c1L(F:Fun K d1d d1d b2v f fd):N5 P w K mg base CX0 2 f fd b2O (a2F K):=fk F c0B fun _ _ _ _ _ _ hr nd=>c7 (g9 (u7 (v8 (b1q b7 b7 b7 b7 (o3 D2 hr (v9 (c6 0) b7)))) (o3 D2 hr (v9 (c6 0) b7))))
variable(a1C:F8 P w K mg base 2 d1d b2O (a2F K))
abbrev a7M:List Str:=[d0k,d1b]
theorem b5O:D1 [d0k,d1b] a7M (l9 a7F):=by walk_at "sc"
include T D2 a1C in
theorem b6r(F:Fun K d1e d1e a7F f fd):N5 P w K mg base CX0 3 f fd a7M (a0B K):=fk F b5O fun _ _ _ _ _ _ hr nd=>b9 (A5 (C9 (C1 hr) (o3 D2 hr (v9 (c6 0) b7)) b7) (c7 (g9 (o3 a1C hr (p9 (c6 0))))) o8) (c7 (g9 (u7 (c6 1) (o3 D2 hr (v9 (c6 0) (o6 A6 rfl T.Q3 t6 (p9 (c6 1))))))))
variable(X7:F8 P w K mg base 3 d1e a7M (a0B K))
abbrev b6n:List Str:=[d0k,d1b]
theorem c3m:D1 [d0k,d1b,"_law_kind"] b6n (l9 b5W):=by walk_at "sc"
include T D2 X7 in
theorem c4l(F:Fun K d1f d1f b5W f fd):N5 P w K mg base CX0 4 f fd b6n (a8L K):=fk F c3m fun _ _ _ _ _ _ hr nd=>b9 (z7 2 nd (u7 (v8 (b1q p8 p8 p8 p8 p8)) (o3 D2 hr (v9 (c6 0) b7)))) (c7 (g9 (D5 (a2B (c6 2) (o3 X7 hr (v9 (c6 0) (c6 1))) (o3 X7 hr (v9 (c6 0) (c6 1)))))))
variable(b3x:F8 P w K mg base 4 d1f b6n (a8L K))
abbrev c1E:List Str:=[d0k,d1b,d1g,d1h]
theorem c5O:D1 [d0k,d1b,d1g,d1h,d1i,d0J] c1E (l9 c0M):=by walk_at "sc"
include T D2 X7 in
theorem c7m(F:Fun K d1j d1j c0M f fd):N5 P w K mg base CX0 4 f fd c1E (b2j K):=fk F c5O fun _ _ _ _ _ _ hr nd=>b9 (z7 4 nd (u7 (c6 1) (o3 D2 hr (v9 (c6 0) (o6 A6 rfl T.Q3 t6 (p9 (c6 1))))))) (b9 (A5 (C9 a1u (o3 D2 hr (v9 (c6 0) b7)) b7) (c7 (z7 4 nd (u7 (c6 1) (v7 E3 (c6 2) (o3 D2 hr (v9 (c6 0) (v7 W4 (o6 A6 rfl T.Q3 t6 (p9 (c6 1))) (c6 2)))))))) o8) (b9 (z7 5 nd (o3 D2 hr (v9 (c6 0) b7))) (b9 (A5 (C9 X8 (c6 5) b7) (c7 (g9 (D5 (a2B p8 (c6 4) (u7 (c6 3) (o3 D2 hr (v9 (c6 0) (o6 A6 rfl T.Q3 t6 (p9 (c6 3)))))))))) o8) (b9 (A5 (C9 (C1 hr) (c6 5) b7) (c7 (g9 (D5 (a2B p8 (c6 4) (o3 X7 hr (v9 (c6 0) (c6 1))))))) o8) (b9 (A5 (C9 (C1 hr) (c6 5) b7) (c7 (g9 (u7 (v8 (v9 (D5 (v9 p8 (c6 4))) (D5 (v9 p8 (o3 X7 hr (v9 (c6 0) (c6 1))))))) (o3 D2 hr (v9 (c6 0) b7))))) o8) (c7 (g9 (D5 (p9 p8)))))))))
variable(b7Q:F8 P w K mg base 4 d1j c1E (b2j K))
abbrev b6m:List Str:=[d0k]
theorem c3l:D1 [d0k,d0l,d0P,d1g,d1b,d1h,d0H,d1k] b6m (l9 b2w):=by walk_at "sc"
theorem b9m:U1 [d0k,d0l,d0P,d1g,d1b,d1h,d0H,d1k] (l9 b2w) (scF [ (".0",.local),(d0N,.local),(d1f,.globalImplicit),(d0k,.free),(d1g,.free),(d1b,.free)]) d0N := by walk_at "c0"
include T D2 b7R a7l a8Z X7 b3x b7Q in
theorem c4k(F:Fun K d1l d1l b2w f fd):N5 P w K mg base CX0 5 f fd b6m (a8K K):=fk F c3l fun _ _ _ _ _ _ hr nd=>b9 (z7 1 nd (v7 E3 b7 (o3 D2 hr (v9 (c6 0) b7)))) (b9 (A5 (C9 (C1 hr) (o3 D2 hr (v9 (c6 0) b7)) b7) (c7 (z7 1 nd (v7 E3 b7 (o3 D2 hr (v9 (c6 0) b7))))) o8) (b9 (z7 2 nd (o3 a7l hr (p9 (o3 b7R hr (v9 (c6 0) (c6 1)))))) (b9 (z7 3 nd (v7 E3 b7 (o3 D2 hr (v9 (c6 0) b7)))) (b9 (z7 4 nd (o3 a8Z hr (v9 (c6 0) (v7 E3 (v7 E3 (c6 3) b7) (o3 D2 hr (v9 (c6 0) b7)))))) (b9 (a3T (n:=5) nd rfl rfl b9m rfl (L5 rfl T.Z6 (p9 (v7 E3 b7 (o3 D2 hr (v9 (c6 0) b7))))) (fun _ _ _ _ _=>N8) (fun _ _ _ _ _=>o3 b3x hr (v9 (c6 1) (a0y a6b (c6 5) a1h (a1g (c6 4)))))) (b9 (z7 6 nd (v8 G6)) (b9 (Q8 PassesOwn.never rfl (Q1 (c6 2)) (M8 7 nd) (c7 (A5 (C9 (C1 hr) (o6 A6 rfl T.Q3 t6 (p9 (c6 7))) b7) (c7 (N9 (Z1 C3 F7 F6 R3 (c6 6) (p9 (D5 (v9 p8 (o3 X7 hr (v9 (c6 0) (c6 4))))))))) (c7 (N9 (Z1 C3 F7 F6 R3 (c6 6) (p9 (o3 b7Q hr (a0A (c6 0) (c6 4) (c6 3) (c6 5)))))))))) (c7 (g9 (D5 (a0A (c6 6) (c6 2) (c6 4) (c6 5))))))))))))
variable(b3w:F8 P w K mg base 5 d1l b6m (a8K K))
abbrev b2S:List Str:=[d0P]
theorem c0F:D1 [d0P] b2S (l9 a8O):=by walk_at "sc"
theorem b6P:U1 [d0P] (l9 a8O) (scF [ (".0",.local),(d1k,.local),("list",.globalImplicit)]) d1k := by walk_at "c0"
include T in
theorem c1P(F:Fun K d1m d1m a8O f fd):N5 P w K mg base CX0 1 f fd b2S (a6Q K):=fk F c0F fun _ _ _ _ _ _ hr nd=>c7 (g9 (R8 b6P rfl (Q1 (c6 0)) (fun _ _ _ _ _=>N8) (fun _ _ _ _ _=>I0 V5 rfl T.a1e D3 (p9 (c6 0)))))
variable(a9a:F8 P w K mg base 1 d1m b2S (a6Q K))
abbrev b2Q:List Str:=[d0k,d1b]
theorem c0D:D1 [d0k,d1b,d1n,d1i,"_law_spare"] b2Q (l9 a8N):=by walk_at "sc"
theorem b6O:U1 [d0k,d1b,d1n,d1i,"_law_spare"] (l9 a8N) (scF [ (".0",.local),(d1i,.local),(d1b,.free)]) d1i := by walk_at "c0"
include T D2 a1C in
theorem c1N(F:Fun K d1o d1o a8N f fd):N5 P w K mg base CX0 3 f fd b2Q (a6O K):=fk F c0D fun _ _ _ _ _ _ hr nd=>b9 (z7 2 nd a0z) (b9 (Q8 PassesOwn.never rfl (Q1 (c6 1)) (M8 3 nd) (c7 (A5 (C9 (C1 hr) (o3 D2 hr (v9 (c6 0) b7)) b7) (c7 (a0q hr (c6 2) (c6 3) (o3 a1C hr (p9 (c6 0))))) o8))) (b9 (a3T (n:=4) nd rfl rfl b6O rfl (Q1 (v8 (O0 p8 (b1q p8 p8 p8 p8 p8)))) (fun _ _ _ _ _=>b1p (T1 a4N (c6 0) (c6 2) rfl)) (fun _ _ _ _ _=>c6 0)) (b9 (a0q hr (c6 2) (u7 (c6 4) b7) (o3 a1C hr (p9 (c6 0)))) (c7 (g9 (c6 2))))))
variable(a8Y:F8 P w K mg base 3 d1o b2Q (a6O K))
abbrev b2P:List Str:=[d0k]
theorem c0C:D1 [d0k] b2P (l9 a8M):=by walk_at "sc"
theorem b6N:U1 [d0k] (l9 a8M) (scF [ (".0",.local),(d0N,.local),(d1d,.globalImplicit),(d0k,.free)]) d0N := by walk_at "c0"
include T D2 a1C in
theorem c1M(F:Fun K d1p d1p a8M f fd):N5 P w K mg base CX0 3 f fd b2P (a6N K):=fk F c0C fun _ _ _ _ _ _ hr nd=>c7 (g9 (R8 b6N rfl (L5 rfl T.Z6 (p9 (o3 D2 hr (v9 (c6 0) b7)))) (fun _ _ _ _ _=>N8) (fun _ _ _ _ _=>o3 a1C hr (p9 (c6 1)))))
variable(a8X:F8 P w K mg base 3 d1p b2P (a6N K))
abbrev b0c:List Str:=[d0U,d1q]
theorem b8p:D1 [d0U,d1q] b0c (l9 a9N):=by walk_at "sc"
include T in
theorem b8M(F:Fun K d1r d1r a9N f fd):N5 P w K mg base CX0 1 f fd b0c (a2u K):=fk F b8p fun _ _ _ _ _ _ hr nd=>c7 (g9 (U3 (a1Q hr) (c6 0) (a0y a6b (c6 1) a1h (a1g (o6 A6 rfl T.Q3 t6 (p9 (c6 0))))) (Z9 _)))
variable(a5k:F8 P w K mg base 1 d1r b0c (a2u K))
abbrev b2N:List Str:=["_law_thing"]
theorem c0A:D1 ["_law_thing"] b2N (l9 b2u):=by walk_at "sc"
include T in
theorem c1K(F:Fun K d1s d1s b2u f fd):N5 P w K mg base CX0 1 f fd b2N (a4T K):=fk F c0A fun _ _ _ _ _ _ hr nd=>c7 (g9 (M9 (o6 Q2 rfl T.M5 C0 (v9 (c6 0) (U4 rfl T.b5t a0l rfl))) (Q9 (b3U (o6 Q2 rfl T.M5 C0 (v9 (c6 0) (U4 rfl T.c2N b0R rfl)))))))
variable(a7h:F8 P w K mg base 1 d1s b2N (a4T K))
abbrev a7O:List Str:=[d0P,d1t]
theorem b5Q:D1 [d0P,d1t] a7O (l9 a7H):=by walk_at "sc"
include T a7h in
theorem b6t(F:Fun K d1u d1u a7H f fd):N5 P w K mg base CX0 2 f fd a7O (a3W K):=fk F b5Q fun _ _ _ _ _ _ hr nd=>b9 (A5 (Q4 (T5 (Q7 (O4 (o6 b2c rfl T.M5 C0 (v9 (c6 1) (U4 rfl T.b3L a3k rfl))))) (T5 (C9 (a2a hr) (o6 b2b rfl T.Q3 t6 (p9 (c6 1))) b7) (T5 (Q7 (O4 (o3 a7h hr (p9 (a1S a2o (c6 1) b7 (fun _ _=>rfl)))))) (W9 (Q7 (O4 (o3 a7h hr (p9 (a1S a2o (c6 1) b7 (fun _ _=>rfl))))))))))) (c7 (g9 L8)) o8) (b9 (A5 (T1 (b1s hr) (c6 1) (D5 (v9 (a2n a1q b7) b7)) (Z9 _)) (c7 (g9 L8)) o8) (c7 (g9 (M9 (a3U a3E X8 b7 (a1S a2o (c6 1) b7 (fun _ _=>rfl)) (o6 A6 rfl T.Q3 t6 (p9 (c6 0)))) (Q9 (a3U a3E X8 b7 (a1S a2o (c6 1) b7 (fun _ _=>rfl)) (o6 A6 rfl T.Q3 t6 (p9 (u7 (c6 0) (a1S a2o (c6 1) b7 (fun _ _=>rfl)))))))))))
variable(a5G:F8 P w K mg base 2 d1u a7O (a3W K))
abbrev b2T:List Str:=[d0P,d1t]
theorem c0G:D1 [d0P,d1t] b2T (l9 b2z):=by walk_at "sc"
include T in
theorem c1Q(F:Fun K d1v d1v b2z f fd):N5 P w K mg base CX0 1 f fd b2T (a4U K):=fk F c0G fun _ _ _ _ _ _ hr nd=>b9 (A5 (C9 X8 (a1S a2o (c6 1) b7 (fun _ _=>rfl)) b7) (c7 (g9 b7)) o8) (c7 (g9 (u7 (u7 (c6 0) (a1S a2o (c6 1) b7 (fun _ _=>rfl))) (a1S a2o (c6 1) b7 (fun _ _=>rfl)))))
variable(a4p:F8 P w K mg base 1 d1v b2T (a4U K))
abbrev b0d:List Str:=[d0P,d0J]
theorem b8q:D1 [d0P,d0J,"_law_places_here",d0N,d0U] b0d (l9 a9O):=by walk_at "sc"
include T a5G a4p in
theorem b8N(F:Fun K d1w d1w a9O f fd):N5 P w K mg base CX0 3 f fd b0d (a5v K):=fk F b8q fun _ _ _ _ _ _ hr nd=>b9 (A5 (Q7 (O4 (o6 Q2 rfl T.M5 C0 (v9 (c6 1) (U4 rfl T.a1e D3 rfl))))) (c7 (g9 a4K)) o8) (b9 (z7 2 nd (v8 G6)) (b9 (Q8 PassesOwn.never rfl (a3B rfl T.a2e (p9 (c6 1))) (a2A rfl (J9 (M8 3 nd) (J9 (M8 4 nd) a1O))) (b9 (A5 (Q4 (T5 (Q7 (O4 (o3 a5G hr (v9 (c6 0) (c6 4))))) (W9 (Q4 (a1r (C9 a1u (c6 3) b7) (a0H (C9 (a2a hr) (a1S a2o (c6 4) b7 (fun _ _=>rfl)) (u7 (c6 2) (a2n a1q b7))))))))) (c7 (g9 a4K)) o8) (c7 (N9 (Z1 C3 F7 F6 R3 (c6 2) (p9 (o3 a4p hr (v9 (c6 0) (c6 4))))))))) (c7 (g9 (c6 2)))))
variable(a7k:F8 P w K mg base 3 d1w b0d (a5v K))
abbrev c6V:List Str:=["_law_operand_here",d0K]
theorem c8y:D1 ["_law_operand_here",d0K] c6V (l9 c5U):=by walk_at "sc"
include T in
theorem c9m(F:Fun K "_law_of" "_law_of" c5U f fd):N5 P w K mg base CX0 1 f fd c6V (a8v K):=fk F c8y fun _ _ _ _ _ _ hr nd=>b9 (A5 (O4 (o6 Q2 rfl T.M5 C0 (v9 (c6 0) (U4 rfl T.c2L a3R rfl)))) (c7 (g9 (a6c hr (c6 1) (c6 0) b7))) o8) (c7 (g9 (c6 0)))
variable(b1i:F8 P w K mg base 1 "_law_of" c6V (a8v K))
abbrev a5b:List Str:=["_law_deed_here",d0K]
theorem b2q:D1 ["_law_deed_here",d0K,d0U,d1q] a5b (l9 a4W):=by walk_at "sc"
include T b1i in
theorem b2Y(F:Fun K d1x d1x a4W f fd):N5 P w K mg base CX0 2 f fd a5b (a2q K):=fk F b2q fun _ _ _ _ _ _ hr nd=>b9 (z7 2 nd (o3 b1i hr (v9 (u7 (c6 0) b7) (c6 1)))) (b9 (z7 3 nd (o3 b1i hr (v9 (u7 (c6 0) b7) (c6 1)))) (b9 (A5 (C9 (C1 hr) (u7 (c6 0) b7) p8) (c7 (g9 (v7 P7 (v7 E3 (c6 2) (c6 3)) b7))) o8) (b9 (A5 (C9 (C1 hr) (u7 (c6 0) b7) p8) (c7 (g9 (v7 P7 (v7 W4 (c6 2) (c6 3)) b7))) o8) (b9 (A5 (C9 (C1 hr) (u7 (c6 0) b7) p8) (c7 (g9 (v7 P7 (v7 a1i (c6 2) (c6 3)) b7))) o8) (b9 (A5 (C9 (C1 hr) (u7 (c6 0) b7) p8) (c7 (g9 (I0 a4P rfl T.b5t a0l (p9 (a1t X8 (c6 2) (c6 3)))))) o8) (c7 (g9 (I0 a4P rfl T.b5t a0l (p9 (a1t (C1 hr) (c6 2) (c6 3)))))))))))
variable(a3i:F8 P w K mg base 2 d1x a5b (a2q K))
abbrev a7N:List Str:=[d0H,d0P,d1n,d1y,d0L]
theorem b5P:D1 [d0H,d0P,d1n,d1y,d0L,d0K,"_law_told",d0J,"_law_used",d1t,d0S,"_law_spot","_law_row_here"] a7N (l9 a7G):=by walk_at "sc"
include T a4p b1i a3i in
theorem b6s(F:Fun K d1z d1z a7G f fd):N5 P w K mg base CX0 3 f fd a7N (a2H K):=fk F b5P fun _ _ _ _ _ _ hr nd=>b9 (z7 5 nd (I0 a0g rfl T.a6z Q5 (p9 (c6 2)))) (b9 (z7 6 nd (v8 G6)) (b9 (z7 7 nd (v8 G6)) (b9 (z7 8 nd b7) (b9 (z7 9 nd (D5 (v9 (a2n a1q b7) b7))) (b9 (Q8 PassesOwn.never rfl (L5 rfl T.Z6 (p9 (c6 4))) (M8 10 nd) (b9 (z7 11 nd (o3 a4p hr (v9 (c6 1) (c6 9)))) (b9 (z7 12 nd (u7 (c6 0) (c6 11))) (b9 (N9 (Z1 C3 F7 F6 R3 (c6 7) (p9 (c6 9)))) (b9 (A5 (C9 (C1 hr) (u7 (c6 12) b7) p8) (c7 (a0q hr (c6 5) (u7 (c6 12) b7) (o3 a3i hr (v9 (u7 (c6 12) b7) (c6 5))))) o8) (b9 (A5 (C9 (C1 hr) (u7 (c6 12) b7) p8) (c7 (a0q hr (c6 5) (u7 (c6 12) b7) (o3 b1i hr (v9 (u7 (c6 12) b7) (c6 5))))) o8) (b9 (A5 (C9 (C1 hr) (u7 (c6 12) b7) p8) (b9 (a0q hr (c6 5) (u7 (c6 12) b7) (u7 (v7 E3 (c6 3) (v7 a4M (v8 (p9 b7)) (v7 E3 (c6 8) b7))) (c6 8))) (c7 (z7 8 nd (v7 E3 (c6 8) b7)))) o8) (b9 (A5 (C9 (C1 hr) (u7 (c6 12) b7) p8) (c7 (N9 (Z1 C3 F7 F6 R3 (c6 6) (p9 (o3 b1i hr (v9 (u7 (c6 12) b7) (c6 5))))))) o8) (b9 (A5 (C9 (C1 hr) (u7 (c6 1) (c6 11)) (v8 G6)) (c7 (g9 (D5 (a0A (c6 6) (c6 7) (c6 5) L8)))) o8) (c7 (z7 9 nd (D5 (v9 (c6 11) (I0 a4P rfl T.b5t a0l (p9 (M9 (a1t (C1 hr) (u7 (c6 12) b7) p8) (Q9 (a1t (C1 hr) (o3 b1i hr (v9 (u7 (c6 12) b7) (c6 5))) b7)))))))))))))))))) (c7 (g9 (D5 (a0A (c6 6) (c6 7) (c6 5) L8)))))))))
variable(a5F:F8 P w K mg base 3 d1z a7N (a2H K))
abbrev c1G:List Str:=[d0I,d0H,d0P,d1n,d1y,d0L,"_law_longer"]
theorem c5Q:D1 [d0I,d0H,d0P,d1n,d1y,d0L,"_law_longer","_law_found","_law_told",d0J,d0K,"_law_ended","_law_places_here","_law_due"] c1G (l9 Y8):=by walk_at "sc"
include T a1m a5k a7k a5F in
theorem c7p(F:Fun K d1A d1A Y8 f fd):N5 P w K mg base CX0 5 f fd c1G (b2l K c):=fk F c5Q fun _ _ _ _ _ _ hr nd=>b9 (z7 7 nd (o3 a1m hr (a0A (c6 0) (I0 a0g rfl T.a6z Q5 (p9 (c6 3))) (I0 V5 rfl T.a1e D3 (p9 (c6 4))) (c6 5)))) (b9 (a1s (c6 7) (a2A rfl (J9 (M8 8 nd) (J9 (M8 9 nd) (J9 (M8 10 nd) (J9 (M8 11 nd) a1O)))))) (b9 (A5 (Q4 (T5 (C9 (a2a hr) (o6 A6 rfl T.Q3 t6 (p9 (c6 9))) (o6 (a8n rfl) rfl T.c5C b1l (v9 (c6 5) (o6 A6 rfl T.Q3 t6 (p9 (u7 (c6 6) b7)))))) (T5 (Q7 (O4 (o3 a5k hr (v9 (c6 9) (u7 (c6 6) b7))))) (W9 (Q7 (O4 (o3 a5k hr (v9 (c6 8) (u7 (c6 6) b7))))))))) (c7 (g9 L8)) o8) (b9 (z7 12 nd (o3 a7k hr (v9 (c6 2) (c6 9)))) (b9 (A5 (Q4 (T5 (C9 c0b (c6 12) a4K) (W9 (C9 (a2a hr) (c6 11) (M9 (a1t (a2a hr) (c6 12) (v8 G6)) (Q9 (a1t (C1 hr) (u7 (c6 2) (u7 (c6 12) (a2n a1q b7))) (v8 G6)))))))) (c7 (g9 L8)) o8) (b9 (z7 13 nd (o3 a5F hr (b1q (c6 1) (c6 2) (c6 3) (c6 4) (o6 A6 rfl T.Q3 t6 (p9 (c6 9)))))) (c7 (g9 (M9 (U3 (a1Q hr) (u7 (c6 13) b7) (c6 9) (Z9 _)) (M9 (U3 (a1Q hr) (u7 (c6 13) b7) (c6 8) (Z9 _)) (Q9 (U3 (b1r hr) (u7 (c6 13) b7) (c6 10) (Z9 _))))))))))))
variable(b7S:F8 P w K mg base 5 d1A c1G (b2l K c))
abbrev b0g:List Str:=[d1n,d1b]
theorem b8t:D1 [d1n,d1b,"_law_more",d1i] b0g (l9 a9Q):=by walk_at "sc"
include T in
theorem b8Q(F:Fun K d1B d1B a9Q f fd):N5 P w K mg base CX0 1 f fd b0g (a3I K):=fk F b8t fun _ _ _ _ _ _ hr nd=>b9 (z7 2 nd (I0 a0g rfl T.a6z Q5 (p9 (c6 0)))) (b9 (Q8 PassesOwn.never rfl (Q1 (c6 1)) (M8 3 nd) (c7 (N9 (Z1 b3N b0N PySem.F.type_dict_setdefault b2a (c6 2) (v9 (c6 3) b7))))) (c7 (g9 (c6 2))))
variable(a5l:F8 P w K mg base 1 d1B b0g (a3I K))
abbrev c5u:List Str:=[d0i]
theorem c0H:D1 [d0i,d0k,d0H,d0P,d1b,d1h,d0I,d1n,d1y,"_law_longer",d0X,d0S,d0L,"_law_again","_law_none","_law_more",d1q] c5u (l9 b7x):=by walk_at "sc"
include T b7T D2 a1m a2N a7j a9b b3w a9a a8Y a8X b7S a5l in
theorem c7o(ck:a7s K c)(F:Fun K "law" "law" b7x f fd):N5 P w K mg base CX0 9 f fd c5u (a9E K):=by
 refine b3Z F c0H (fun vs H Q E h=>h.1) (fun cdv A outer s H vs Q E hr h=>⟨c0p K c,?_,h.2 c ck⟩)
 have nd:=c0H.nd
 exact b9 (z7 1 nd (o3 b7T hr (p9 (c6 0)))) (b9 (A5 (Q4 (a1r (C9 (C1 hr) (o3 D2 hr (v9 (c6 1) b7)) b7) (a0H (Q7 (O4 (o3 a7j hr (p9 (c6 1)))))))) (c7 (g9 L8)) o8) (b9 (A5 (Q4 (a1r (C9 (C1 hr) (o3 D2 hr (v9 (c6 1) b7)) b7) (a0H (Q7 (O4 (o3 a9b hr (p9 (c6 1)))))))) (c7 (g9 L8)) o8) (b9 (a1s (o3 b3w hr (p9 (c6 1))) (a2A rfl (J9 (M8 2 nd) (J9 (M8 3 nd) (J9 (M8 4 nd) (J9 (M8 5 nd) a1O)))))) (b9 (z7 6 nd (b1Z a2N hr (v9 (I0 V5 rfl T.a1e D3 (p9 (c6 2))) (o3 a9a hr (p9 (c6 3)))))) (b9 (z7 7 nd (o3 a8Y hr (v9 (c6 1) (c6 4)))) (b9 (z7 8 nd (o3 a8X hr (p9 (c6 1)))) (b9 (z7 9 nd (o3 a1m hr (a0A (c6 6) (I0 a0g rfl T.a6z Q5 (p9 (c6 7))) (I0 V5 rfl T.a1e D3 (p9 (c6 8))) b7))) (b9 (z7 10 nd (o6 A6 rfl T.Q3 t6 (p9 (u7 (c6 9) b7)))) (b9 (A5 (Q4 (T5 (C9 X8 (c6 10) b7) (T5 (C9 a1u (c6 10) b7) (W9 (T1 (b8c hr) (u7 (u7 (c6 9) b7) b7) (D5 (v9 (a2n a1q b7) b7)) (Z9 _)))))) (c7 (g9 L8)) o8) (b9 (Q8 PassesOwn.never rfl (L5 rfl T.Z6 (p9 b7)) (M8 11 nd) (b9 (z7 12 nd (u7 (v8 (a0A (o3 D2 hr (v9 (c6 1) (v7 E3 (c6 10) b7))) (o6 (b4a rfl) rfl T.c9A PyProof.Rows.boot_max (v9 b7 (v7 W4 (c6 10) b7))) (c6 10) (o3 D2 hr (v9 (c6 1) b7)))) (o3 D2 hr (v9 (c6 1) b7)))) (c7 (A5 (Q7 (O4 (o3 b7S hr (O0 (c6 6) (O0 (c6 2) (b1q (c6 3) (c6 7) (c6 8) (c6 12) (c6 9))))))) (c7 (g9 L8)) o8)))) (b9 (A5 (O4 (u7 (c6 9) b7)) (b9 (z7 13 nd (o3 a1m hr (a0A (c6 6) (I0 a0g rfl T.a6z Q5 (p9 (c6 7))) (I0 V5 rfl T.a1e D3 (p9 (c6 8))) (v7 E3 (c6 10) (o3 D2 hr (v9 (c6 1) b7)))))) (c7 (A5 (T1 (a5r hr) (c6 13) (c6 9) (Z9 _)) (c7 (g9 L8)) o8))) o8) (b9 (z7 14 nd (o3 a1m hr (a0A (c6 6) (c6 7) (c6 8) b7))) (b9 (A5 (T1 (a5r hr) (c6 14) (D5 (a0A (v8 G6) (v8 G6) (c6 7) L8)) (Z9 _)) (c7 (g9 L8)) o8) (b9 (a0q hr (u7 (c6 14) b7) p8 b7) (b9 (A5 (Q4 (a1r (C9 (C1 hr) (a6c hr (c6 7) p8 b7) b7) (a0H (T1 a4N p8 (c6 4) rfl)))) (c7 (g9 L8)) o8) (b9 (z7 15 nd (o3 a5l hr (v9 (c6 7) (c6 4)))) (b9 (z7 16 nd (o3 a1m hr (a0A (c6 6) (I0 a0g rfl T.a6z Q5 (p9 (c6 15))) (v7 E3 (c6 8) (v7 a4M (v8 (p9 b7)) (o3 D2 hr (v9 (c6 1) b7)))) b7))) (c7 (g9 (M9 (U3 (a1Q hr) (u7 (c6 16) b7) (u7 (c6 9) b7) (Z9 _)) (M9 (U3 (a1Q hr) (u7 (c6 16) b7) (u7 (c6 9) b7) (Z9 _)) (Q9 (U3 (b1r hr) (u7 (c6 16) b7) (o3 a5l hr (v9 (u7 (c6 9) b7) (c6 4))) (Z9 _))))))))))))))))))))))))
end
end
structure ClF(K:Fg)(y:Str)(C:Addr):Prop where
 y:E2 K C2 y=some (some (.ref C))
 pg:a2d K C Str.empty=true
 hd:a3x K C=true
 po:a8g K C=true
 sa:G9 K (.ref C) "__setattr__" = some (some (.builtin "object.__setattr__"))
 mm:a4E K C=true
 kc:X2 K (.ref C)=true
abbrev pm0:Value:=(.str "law_oncedone_k32_runs_cut" 599)
abbrev pm1:Value:=(.str "oncedone.deeds" 253)
abbrev pm2:Value:=(.str "oncedone.runs" 561)
abbrev pm3:Value:=(.str "oncedone.plans" 431)
abbrev pm4:Value:=(.str "oncedone.checks" 401)
abbrev pm5:Value:=(.str "oncedone.words" 194)
theorem c7Y{l:PySem.W.OpenLaw}{w:World}{K:Fg}{h:Heap}{mg:Str->Option Value}{fa:Addr}(X:K.In h)(G:h.Ns C2 mg)(hfa:mg "law" = some (.ref fa))
  (y_Plan:ClF K "Plan" 290)
  (a0Z:G9 K (.ref 290) "entries" = some none)
  (a0r:G9 K (.ref 290) d0C = some none)
  (a2t:G9 K (.ref 290) d0B = some none)
  (y_DEED_KINDS:E2 K C2 "DEED_KINDS" = some (some (.ref 22))) (l_DEED_KINDS:K.lookup 22=some ⟨.type "tuple",none,.seq (([(.str "plus" 204),(.str "minus" 205),(.str "times" 206),(.str "less" 207),(.str "same" 208)]:List Value).toArray) 0,#[]⟩)
  (y_FIRST_STEP:E2 K C2 "FIRST_STEP" = some (some (.ref 194))) (l_FIRST_STEP:K.lookup 194=some ⟨.type "tuple",none,.seq (([(.int (-1) 434),(.int (0) 435)]:List Value).toArray) 0,#[]⟩)
  (x0:FnG K d0j b7z 320 pm0 (.ref 319))
  (x1:FnG K d0m b5U 327 pm0 (.ref 326))
  (x2:FnG K "set_by" a9L 83 pm1 (.ref 82))
  (x3:FnG K d0o a6f 69 pm1 (.ref 68))
  (x4:FnG K "worth" b2t 76 pm1 (.ref 75))
  (x5:FnG K d0p a4V 301 pm2 (.ref 300))
  (x6:FnG K d0r a3q 308 pm2 (.ref 307))
  (x7:FnM K 290 "leads_to" "Plan.leads_to" a2f 259 pm3 (.ref 258))
  (x8:FnG K "run" c0L 315 pm2 (.ref 314))
  (x9:FnG K d0s a2I 186 pm4 (.ref 185))
  (x10:FnG K "is_name" a5z 41 pm5 (.ref 40))
  (x11:FnG K d0u a6g 29 pm5 (.ref 28))
  (x12:FnG K d0v a6h 36 pm5 (.ref 35))
  (x13:FnG K d0w a4a 48 pm5 (.ref 47))
  (x14:FnG K "is_deed" a7I 55 pm5 (.ref 54))
  (x15:FnG K "is_row" a9P 62 pm5 (.ref 61))
  (x16:FnG K d0x a4c 193 pm4 (.ref 192))
  (x17:FnG K d0y a6i 179 pm4 (.ref 178))
  (x18:FnG K d0A a3a 199 pm3 (.ref 198))
  (x19:FnG K d0D a1U 204 pm3 (.ref 203))
  (x20:FnG K "reached" a7E 221 pm3 (.ref 220))
  (x21:FnG K "turned" a6T 214 pm3 (.ref 213))
  (x22:FnG K d0E a3Y 209 pm3 (.ref 208))
  (x23:FnG K d0F a4b 228 pm3 (.ref 227))
  (x24:FnG K d0G a3Z 233 pm3 (.ref 232))
  (x25:FnM K 290 d0h "Plan.__init__" a1k 245 pm3 (.ref 244))
  (x26:FnG K d0M a9M 490 pm0 (.ref 489))
  (x27:FnG K d0O a4d 495 pm0 (.ref 494))
  (x28:FnG K d0Q c0Q 334 pm0 (.ref 333))
  (x29:FnG K d0W a3J 339 pm0 (.ref 338))
  (x30:FnG K d1a b2C 344 pm0 (.ref 343))
  (x31:FnG K d1c b2x 351 pm0 (.ref 350))
  (x32:FnG K d1d b2v 358 pm0 (.ref 357))
  (x33:FnG K d1e a7F 365 pm0 (.ref 364))
  (x34:FnG K d1f b5W 372 pm0 (.ref 371))
  (x35:FnG K d1j c0M 379 pm0 (.ref 378))
  (x36:FnG K d1l b2w 384 pm0 (.ref 383))
  (x37:FnG K d1m a8O 389 pm0 (.ref 388))
  (x38:FnG K d1o a8N 457 pm0 (.ref 456))
  (x39:FnG K d1p a8M 462 pm0 (.ref 461))
  (x40:FnG K d1r a9N 469 pm0 (.ref 468))
  (x41:FnG K d1s b2u 396 pm0 (.ref 395))
  (x42:FnG K d1u a7H 424 pm0 (.ref 423))
  (x43:FnG K d1v b2z 417 pm0 (.ref 416))
  (x44:FnG K d1w a9O 431 pm0 (.ref 430))
  (x45:FnG K "_law_of" c5U 438 pm0 (.ref 437))
  (x46:FnG K d1x a4W 445 pm0 (.ref 444))
  (x47:FnG K d1z a7G 452 pm0 (.ref 451))
  (x48:FnG K d1A Y8 476 pm0 (.ref 475))
  (x49:FnG K d1B a9Q 483 pm0 (.ref 482))
  (x50:FnG K "law" b7x 502 pm0 (.ref 501))
  (z_abs:E2 K C2 "abs" = some none)
  (z_all:E2 K C2 "all" = some none)
  (z_any:E2 K C2 "any" = some none)
  (z_bool:E2 K C2 "bool" = some none)
  (z_dict:E2 K C2 "dict" = some none)
  (z_enumerate:E2 K C2 "enumerate" = some none)
  (z_int:E2 K C2 "int" = some none)
  (z_isinstance:E2 K C2 "isinstance" = some none)
  (z_len:E2 K C2 "len" = some none)
  (z_list:E2 K C2 "list" = some none)
  (z_max:E2 K C2 "max" = some none)
  (z_min:E2 K C2 "min" = some none)
  (z_range:E2 K C2 "range" = some none)
  (z_reversed:E2 K C2 "reversed" = some none)
  (z_sorted:E2 K C2 "sorted" = some none)
  (z_str:E2 K C2 "str" = some none)
  (z_tuple:E2 K C2 "tuple" = some none)
  (z_zip:E2 K C2 "zip" = some none)
  (y_BOUND:E2 K C2 "BOUND" = some (some (.int (1000000000000) 196)))
  (y_FIGURES:E2 K C2 "FIGURES" = some (some (.str "0123456789" 200)))
  (y_LETTERS:E2 K C2 "LETTERS" = some (some (.str "abcdefghijklmnopqrstuvwxyz" 198)))
  (y_LONGEST_NAME:E2 K C2 "LONGEST_NAME" = some (some (.int (8) 202)))
  (y_MOST:E2 K C2 "MOST" = some (some (.int (400) 403)))
  : ∃fd:a0w,(∀(s:o0) (v:Value),b9V s fd ⟨[v],[]⟩ [(d0i,v)])/\∀base:Heap,K.In base->base.Ns C2 mg->N5 l.prog w K mg base CX0 9 fa fd [d0i] (a9E K):=by
 have e:=hfa.symm.trans (W6 X G x50.a)
 cases e
 let c:Cn:=⟨290,22,194⟩
 have ck:a7s K c:=⟨⟨y_Plan.pg,y_Plan.hd,y_Plan.po,y_Plan.sa⟩,a0Z,a0r,a2t,fun H=>.inr ⟨_,([(.str "plus" 204),(.str "minus" 205),(.str "times" 206),(.str "less" 207),(.str "same" 208)]:List Value).toArray,0,l_DEED_KINDS,rfl,rfl,by decide,.cons ⟨_,rfl⟩ ( .cons ⟨_,rfl⟩ ( .cons ⟨_,rfl⟩ ( .cons ⟨_,rfl⟩ ( .cons ⟨_,rfl⟩ ( .nil)))))⟩,fun H=>.inr ⟨_,([(.int (-1) 434),(.int (0) 435)]:List Value).toArray,0,l_FIRST_STEP,rfl,rfl,by decide,.cons ⟨_,rfl⟩ ( .cons ⟨_,rfl⟩ ( .nil))⟩⟩
 have T:Txt K mg c:=⟨E1 X G z_abs,E1 X G z_all,E1 X G z_any,E1 X G z_bool,E1 X G z_dict,E1 X G z_enumerate,E1 X G z_int,E1 X G z_isinstance,E1 X G z_len,E1 X G z_list,E1 X G z_max,E1 X G z_min,E1 X G z_range,E1 X G z_reversed,E1 X G z_sorted,E1 X G z_str,E1 X G z_tuple,E1 X G z_zip,⟨_,W6 X G y_BOUND,⟨_,rfl⟩⟩,⟨_,W6 X G y_DEED_KINDS,rfl⟩,⟨_,W6 X G y_FIGURES,⟨_,rfl⟩⟩,⟨_,W6 X G y_FIRST_STEP,rfl⟩,⟨_,W6 X G y_LETTERS,⟨_,rfl⟩⟩,⟨_,W6 X G y_LONGEST_NAME,⟨_,rfl⟩⟩,⟨_,W6 X G y_MOST,⟨_,rfl⟩⟩⟩
 refine⟨fdM "law" "law" b7x pm0 (.ref 501),fun s v=>.of_eq rfl,fun base _ _=>?_⟩
 have b7T:=mkC X G x0 (c7q (P:=l.prog) (w:=w) (base:=base) T x0.i.F) fun _ _ _ _ _ _ _=>rfl
 have D2:=mkC X G x1 (c4j (P:=l.prog) (w:=w) (base:=base) T x1.i.F) fun _ _ _ _ _ _ _ _=>rfl
 have a5j:=mkC X G x2 (b8K (P:=l.prog) (w:=w) (base:=base) T x2.i.F) fun _ _ _ _ _ _ _=>rfl
 have R5:=mkC X G x3 (b4D (P:=l.prog) (w:=w) (base:=base) T x3.i.F) fun _ _ _ _ _ _ _ _=>rfl
 have a8W:=mkC X G x4 (c1J T R5 x4.i.F) fun _ _ _ _ _ _ _ _=>rfl
 have a3h:=mkC X G x5 (b2X T R5 a8W x5.i.F) fun _ _ _ _ _ _ _ _ _=>rfl
 have a1W:=mkC X G x6 (b0h T R5 x6.i.F) fun _ _ _ _ _ _ _ _ _=>rfl
 have U8:=mkM x7 ck.a1H (a7R (P:=l.prog) (w:=w) (base:=base) T x7.i.F) fun _ _ _ _ _ _ _ _=>rfl
 have a1m:=mkC X G x8 (c7l T a5j R5 a3h a1W U8 x8.i.F) fun _ _ _ _ _ _ _ _ _ _=>rfl
 have a1D:=mkC X G x9 (a8H (P:=l.prog) (w:=w) (base:=base) T x9.i.F) fun _ _ _ _ _ _ _ _ _=>rfl
 have a0J:=mkC X G x10 (b6u (P:=l.prog) (w:=w) (base:=base) T x10.i.F) fun _ _ _ _ _ _ _=>rfl
 have a1b:=mkC X G x11 (b4G (P:=l.prog) (w:=w) (base:=base) T x11.i.F) fun _ _ _ _ _ _ _=>rfl
 have a4q:=mkC X G x12 (b4H T a1b x12.i.F) fun _ _ _ _ _ _ _=>rfl
 have W0:=mkC X G x13 (b1b T a0J a4q x13.i.F) fun _ _ _ _ _ _ _=>rfl
 have a5H:=mkC X G x14 (b6v T W0 x14.i.F) fun _ _ _ _ _ _ _=>rfl
 have a7m:=mkC X G x15 (b8P T a0J W0 a5H x15.i.F) fun _ _ _ _ _ _ _=>rfl
 have a0k:=mkC X G x16 (b1d (P:=l.prog) (w:=w) (base:=base) T x16.i.F) fun _ _ _ _ _ _ _=>rfl
 have a4r:=mkC X G x17 (b4I T a1b x17.i.F) fun _ _ _ _ _ _ _ _=>rfl
 have a3j:=mkC X G x18 (b2Z T a4r x18.i.F) fun _ _ _ _ _ _ _ _ _=>rfl
 have a1X:=mkC X G x19 (b0i T a0k a3j x19.i.F) fun _ _ _ _ _ _ _ _=>rfl
 have a3O:=mkC X G x20 (b6q (P:=l.prog) (w:=w) (base:=base) T x20.i.F) fun _ _ _ _ _ _ _ _=>rfl
 have a7i:=mkC X G x21 (b8J (P:=l.prog) (w:=w) (base:=base) T x21.i.F) fun _ _ _ _ _ _ _=>rfl
 have a4n:=mkC X G x22 (b4E (P:=l.prog) (w:=w) (base:=base) T x22.i.F) fun _ _ _ _ _ _ _=>rfl
 have a2s:=mkC X G x23 (b1c T a3O a7i a4n x23.i.F) fun _ _ _ _ _ _ _=>rfl
 have a4o:=mkC X G x24 (b4F (P:=l.prog) (w:=w) (base:=base) T x24.i.F) fun _ _ _ _ _ _ _=>rfl
 have a2N:=mkK X G x25 y_Plan.y y_Plan.mm y_Plan.kc (b3a T U8 a1D a7m a0k a1X a2s a4o x25.i.F) fun _ _ _ _ _ _ _ _ _=>rfl
 have a7j:=mkC X G x26 (b8L T D2 a1m a2N x26.i.F) fun _ _ _ _ _ _ _=>rfl
 have a9b:=mkC X G x27 (c1R T D2 a1m a2N x27.i.F) fun _ _ _ _ _ _ _=>rfl
 have b7R:=mkC X G x28 (c7n T D2 x28.i.F) fun _ _ _ _ _ _ _ _=>rfl
 have a7l:=mkC X G x29 (b8O (P:=l.prog) (w:=w) (base:=base) T x29.i.F) fun _ _ _ _ _ _ _=>rfl
 have b0F:=mkC X G x30 (c4m T D2 x30.i.F) fun _ _ _ _ _ _ _ _=>rfl
 have a8Z:=mkC X G x31 (c1O T D2 b0F x31.i.F) fun _ _ _ _ _ _ _ _=>rfl
 have a1C:=mkC X G x32 (c1L T D2 x32.i.F) fun _ _ _ _ _ _ _=>rfl
 have X7:=mkC X G x33 (b6r T D2 a1C x33.i.F) fun _ _ _ _ _ _ _ _=>rfl
 have b3x:=mkC X G x34 (c4l T D2 X7 x34.i.F) fun _ _ _ _ _ _ _ _=>rfl
 have b7Q:=mkC X G x35 (c7m T D2 X7 x35.i.F) fun _ _ _ _ _ _ _ _ _ _=>rfl
 have b3w:=mkC X G x36 (c4k T D2 b7R a7l a8Z X7 b3x b7Q x36.i.F) fun _ _ _ _ _ _ _=>rfl
 have a9a:=mkC X G x37 (c1P (P:=l.prog) (w:=w) (base:=base) T x37.i.F) fun _ _ _ _ _ _ _=>rfl
 have a8Y:=mkC X G x38 (c1N T D2 a1C x38.i.F) fun _ _ _ _ _ _ _ _=>rfl
 have a8X:=mkC X G x39 (c1M T D2 a1C x39.i.F) fun _ _ _ _ _ _ _=>rfl
 have a5k:=mkC X G x40 (b8M (P:=l.prog) (w:=w) (base:=base) T x40.i.F) fun _ _ _ _ _ _ _ _=>rfl
 have a7h:=mkC X G x41 (c1K (P:=l.prog) (w:=w) (base:=base) T x41.i.F) fun _ _ _ _ _ _ _=>rfl
 have a5G:=mkC X G x42 (b6t T a7h x42.i.F) fun _ _ _ _ _ _ _ _=>rfl
 have a4p:=mkC X G x43 (c1Q (P:=l.prog) (w:=w) (base:=base) T x43.i.F) fun _ _ _ _ _ _ _ _=>rfl
 have a7k:=mkC X G x44 (b8N T a5G a4p x44.i.F) fun _ _ _ _ _ _ _ _=>rfl
 have b1i:=mkC X G x45 (c9m (P:=l.prog) (w:=w) (base:=base) T x45.i.F) fun _ _ _ _ _ _ _ _=>rfl
 have a3i:=mkC X G x46 (b2Y T b1i x46.i.F) fun _ _ _ _ _ _ _ _=>rfl
 have a5F:=mkC X G x47 (b6s T a4p b1i a3i x47.i.F) fun _ _ _ _ _ _ _ _ _ _ _=>rfl
 have b7S:=mkC X G x48 (c7p T a1m a5k a7k a5F x48.i.F) fun _ _ _ _ _ _ _ _ _ _ _ _ _=>rfl
 have a5l:=mkC X G x49 (b8Q (P:=l.prog) (w:=w) (base:=base) T x49.i.F) fun _ _ _ _ _ _ _ _=>rfl
 exact c7o T b7T D2 a1m a2N a7j a9b b3w a9a a8Y a8X b7S a5l ck x50.i.F
theorem walk{l:PySem.W.OpenLaw}{q:F3}{loose:List Str}{XP:(Str->Option Value)->Heap->Prop}{YP:World->Heap->Prop}{d:DefRec}{K:Params->Fg}(hn:l.most=some 63)(hdf:d.params.defaults=[])
  (hY:∀(w:World) (h:Heap),YP w h->(K w.params).In h)
  (F:∀(w:World) (mg:Str->Option Value) (fa:Addr) (h:Heap),(K w.params).In h->h.Ns C2 mg->mg d.name=some (.ref fa) ->
   ∃fd:a0w,(∀(s:o0) (u:Value),b9V s fd ⟨[u],[]⟩ [(d0i,u)])/\∀base:Heap,(K w.params).In base->base.Ns C2 mg->N5 l.prog w (K w.params) mg base CX0 9 fa fd [d0i] (a9E (K w.params))) :
  PySem.W.WalkO q loose XP YP l.row.toRowW d [] (fun f vs=>b3G f vs):=
 L2.c3b (n:=63) (k:=9) (x := d0i) (CX:=fun _=>CX0) (sp:=fun w=>a9E (K w.params)) hn (by decide) hdf ⟨rfl,by decide,by decide⟩ hY F (fun _ _ a ns hl hO hS=>RD.law_reading _ hl hO hS) fun _ _ _ _ _ z=>z
end PR
open PySem PySem.W PyProof.Rows
set_option maxRecDepth 100000 in
set_option maxHeartbeats 0 in
theorem PySem.Challenge.cw_oncedone_k32_runs_cut_holds : PySem.Challenge.rw_oncedone_k32_runs_cut.Holds := by
 refine HD.fin fun d hd hdf=>PR.walk (l:=HD.row) (K:=HD.K) rfl hdf (fun w h Y=>PySem.W.kIn_of Y) ?F
 intro w mg fa h KX G hmg
 rw[hd]at hmg
 apply PR.c7Y KX G hmg <;> first | kernel_rfl | exact⟨⟨by kernel_rfl,by kernel_rfl,by kernel_rfl⟩,by kernel_rfl⟩ | exact⟨⟨by kernel_rfl,by kernel_rfl,by kernel_rfl⟩,by kernel_rfl,by kernel_rfl⟩ | exact⟨by kernel_rfl,by kernel_rfl,by kernel_rfl,by kernel_rfl,by kernel_rfl,by kernel_rfl,by kernel_rfl⟩
