import PyProof.Rows.All
import KE.KEqDict
import KE.KDictList
import KE.KIsAll
import KE.KDictOf
import KE.KItem
import Lean
import PySem.Challenge.RW_oncedone_k51_brinks_with_papers
open Array renaming getElem?_toList->a0Q,length_toList->a5Q,getElem?_eq_getElem->b8E
open Bool renaming false_ne_true->w4,and_eq_true->P6,eq_iff_iff->V1,true_and->Z8,false_or->Z9,true_or->a2Y,and_true->b2V,false_eq_true->b3s,not_eq_true'->b3T,or_eq_true->b7a,false_and->b8D,or_eq_false_iff->c5b,and_eq_true_iff->c5c
open Int renaming toNat_natCast->t6,zero_add->Y3,emod_lt_of_pos->a2a,emod_nonneg->a2l,eq_ofNat_of_zero_le->a4b,toNat->c3d
open List renaming getElem?_map->b6,length_map->b9,getElem?_eq_getElem->c8,mem_iff_getElem?->i9,getElem?_append_left->j4,getElem?_eq_some_iff->k8,size_toArray->o9,length_append->p5,map_append->u4,mem_cons->u6,mem_singleton->v6,replicate->w6,mem_append_left->y0,mem_append->z8,length_cons->z9,mem_map->A8,mem_append_right->B8,range->C1,length_take->C5,map_cons->D5,getD->D6,mem_filter->E8,mem_cons_of_mem->E9,take_add_one->F3,append_assoc->F9,length_singleton->G6,getElem?_eq_none_iff->G7,take_length->J5,getElem_mem->J7,mem_cons_self->J8,getElem?_append_right->J9,all_eq_true->L3,length_replicate->M6,length_filter_le->M7,lookup_cons->N3,getElem?_replicate->N4,not_mem_nil->P5,mem_range->Q8,map_map->S9,getElem?_set_self->T0,append_nil->V0,getElem?_set_ne->V8,all_cons->X8,getElem?_range->Y2,filter_append->Z5,nodup_append->a0q,length_range->a0r,ext_getElem?->a0s,find?_cons->a0x,take_of_length_le->a0I,map_inj_right->a0P,range_succ->a1j,nodup_cons->a1k,mem_of_getElem?->a1p,reverse_cons->a2y,lookup->a2F,replicate_succ->a3u,map_congr_left->a3v,getElem?_take_of_lt->a3x,any_cons->a3y,length_set->a3U,length_pos_of_mem->a4z,getElem?_inj->a4A,filter_cons->a5h,length_nil->a5O,filter_nil->a5P,length_reverse->a5V,length_pos_iff->a5W,flatten_cons->a7J,nodup_range->a7X,length_eq_zero_iff->a7Y,reverse_reverse->b0v,replicate_succ'->b0w,reverse_append->b1J,filterMap_cons->b1K,flatten_replicate_singleton->b3R,all_eq_false->b3S,length_drop->b5L,any_eq_true->b5M,length->b6t,find?_eq_some_iff_append->b6u,of_mem_zip->b6Y,dropLast_concat_getLast->b6Z,drop_eq_getElem_cons->c0A,length_erase_of_mem->c0D,idxOf_lt_length_iff->c0E,getElem?_cons_zero->c2l,map_nil->c2Z,getElem_cons_drop->c3a,any_map->c3b,all_map->c3c,take_append_drop->c4R,getElem?_reverse->c4S,mem_of_mem_take->c4Z,map_id->c5a,singleton_inj->c7M,mem_filterMap->c7N,foldl->c7O,getElem?_set->c9V,find?_append->c9W,mem_flatMap->d0y,cons_append->d0z,append_inj'->d0A,idxOf_cons->d2Q,forIn_cons->d2R,foldl_cons->d2S,drop_zero->d2Z,all_nil->d4p
open List.Pairwise renaming map->a1J
open Nat renaming le_refl->j9,ne_of_lt->A0,lt_of_lt_of_le->D0,le_trans->J4,lt_irrefl->P7,zero_le->P8,le_of_lt->a4T,le_add_right->a8G,min_self->b5H,succ_mul->c4P,ne_of_gt->c4Q,le_succ->c7H,lt_succ_self->d2P,strongRecOn->d2Y,add_assoc->d4o
open Option renaming map_eq_some_iff->A1,isSome_iff_exists->a1o,isSome_map->a4a,getD_some->a4U,map_some->a5s,toList_some->b1I,getD_none->c7L
open PyProof.Rows renaming boot_isinstance->A5,boot_list->D9,callWith_type1->a0c,boot_all->a1I,boot_tuple->a2S,slot_tuple_getitem->a3w,boot_dict->a6v,boot_bool->b5K,boot_int->b6s,AllBare->b7e,envOfC->b8I,subscriptTail->d0C,IntsAre->d0E,subscriptTail_builtinR->d2W
open PySem renaming wpAny_bind->d5,boot_len->j5,starEach->l6,Shared->l7,wpAny_pure->u5,sizeLine->u7,compareOp->A3,mainGlobals->A7,Program->D8,mem_of_lookup->E5,Around->T3,wpAny_truthy_bool->U3,behindInMarks->U4,foldedSetIterable->Y0,wpAny_newObj_type->a0j,wpAny_mono->a1i,binaryOp->a1w,backTo->a1x,FuncData->a2b,sysModules->a2c,wpAny_holding->a2z,attributeBase->a2A,wpAny_typeNameOfWhole_keyiter->a2G,wpAny_passesOwn->a3z,swapsWith->a3A,keywordEach->a3B,bootBuiltins->a3C,assignEach->a3W,lookup_relabel_local->a4c,holding->a4d,tupleKind->a4B,DictEntry->a4C,wpAny_comprehension_free->a5d,tupleKind_room_in1->a5t,importedModules->a5u,wpAny_pyIter_list->a6l,strIterType->a6m,sizeLine_eq->a6Y,codeAny->a6Z,call_meets->a7V,sliceBounds->a7Z,letOwnedTupleGo->a8a,wpAny_Call_Name_kw->a9o,backToKw->a9p,assign->a9q,NameKind->a9r,wpAny_assign_Name->b0x,getMethod->b0y,wpAny_callSpecial?_slot->b1L,relabel->b1M,wpAny_call_entry->b2W,wpAny_pyNext_list_item->b3t,wpAny_typeOf->b3V,wpAny_pyNext_list_end->b3W,wpAny_notOrdered_dict->b3X,wpAny_execs_nil->b3Y,standAt->b3Z,codeAny_builtin->b4a,Operator->b5J,getItem->b7c,Keyword->b7d,call->b8w,wpAny_standAt->b8F,pyNext->b8G,plainId_quiet->b8H,wpAny_dictEntries->c0F,codeAny_mono->c2n,compEnvC->c4V,callWith->c4W,wpAny_dictEpoch->c5d,valueAt->c5e,subscripted->c5f,callerA->c5g,IsRangeIter->c5h,BindsTo->c5i,typeLookup->c9Y,entryOfKey->c9Z,Result->d0a,PlainAttrs->d0b,IsPart->d0c,setItem->d0D,wpAny_pyNext_range_end->d2U,wpAny_pyIter_rangeiter->d2V,codeAny_compStart_list->d2X,wpAny_isTrue_Compare1->d3b,wpAny_isOneOf_keyiter->d3c,stored->d3d,seqIndex_neg->d3e,lastMarks->d3f,exec_Assign_Name_used->d3g,builtinLookup_eq_fast->d3h,PassesOwn->d3i,wpAny_newFunctionEnv->d4m,wpAny_loadName_local->d4n,wpAny_loadName_cell->d4q,wpAny_field->d4r,seqIndex_of->d4s,Builtin->d4t
open PySem.F renaming plainAttrs_list->l5,type_list_append->v0,slot_list_append->v5,type_list_reverse->b6W,slot_list_reverse->b6X,type_list_extend->b8x,slot_list_extend->b8y,slot_list_index->b8C
open PySem.Heap renaming get?_push_of_some->g8,lt_size->o0,get?_push_size->A4,get?_update_other->c3e,get?_update_self->c4T,size_push->d3a
open PySem.Heap.DictOf renaming new->c3f
open PySem.Heap.SameBut renaming update->b8z
open PySem.W renaming findIn->A6,nsIn->D4,mg_none_of->E2,kia_one->Q4,emptyDict->X4,mg_of->a0B,keepIn->a0J,instObj->a1b,fnOf->a2E,plainGet->a4S,hasDictIn->a6u,makesIn->a7W,lookIn->a9m,codeIn->a9n,plainGet_of->b0u,callWith_K->b1H,specialIn->b2R,plainOver->b2S,methodObj->b2T,isFn->b2U,takerIn->b5G,cellsFrom_some->c0z,methodCall_KW->c0C,kitx_tuple->c4O,kitx_list->c4X,kitx_dict->c4Y,kdl_call->c7F,handedIn->c7G,takesIn->c7K,kitOne->c9U,mroIn->d0x
set_option Elab.async false
set_option linter.all false
set_option maxRecDepth 100000
set_option maxHeartbeats 0
abbrev Fg:=PySem.W.Frag
abbrev Nt:=List (List Nat)
theorem gI{α:Type}{l:List α}{i:Nat}{a:α}(h:l[i]?=some a):i<l.length:=(k8.mp h).1
theorem mI{α:Type}{l:List α}{i:Nat}{a:α}(h:l[i]?=some a):a∈l:=a1p h
theorem d6w{p:Prop}[Decidable p](h:¬p):decide p=false:=decide_eq_false h
theorem d6x{p:Prop}[Decidable p](h:p):decide p=true:=decide_eq_true h
namespace L2
open PySem
def C8(s:Stmt)(j:Nat):Stmt:=match s with
 | .ClassDef _ _ _ body _ _ _ _ _ _ _=>body.getD j (.Pass ⟨0,0,0,0⟩)
 | _=>.Pass ⟨0,0,0,0⟩
def a7D(s:Stmt):Arguments:=match s with
 | .FunctionDef _ a _ _ _ _ _ _ _ _=>a
 | _=>{ posonlyargs:=[],args:=[],vararg:=none,kwonlyargs:=[],kw_defaults:=[],kwarg:=none,defaults:=[] }
def a4w(s:Stmt):List Stmt:=match s with
 | .FunctionDef _ _ b _ _ _ _ _ _ _=>b
 | _=>[]
def g0(s:Stmt):Scope:=match s with
 | .FunctionDef _ _ _ _ _ _ sc _ _ _=>sc
 | _=>{ kind:=.function,names:=[],isGenerator:=false,isCoroutine:=false }
end L2
namespace HD
open PySem PySem.W L2
abbrev P : Program := PySem.Challenge.pw_oncedone_k51_brinks_with_papers
def top (i : Nat) : Stmt := P.main.body.getD i (.Pass ⟨0, 0, 0, 0⟩)
def kE (Q : Params) (n : Str) (t : Nat) (v : Value) : DictEntry := ⟨PyData.keyHash Q n, .str n t, v⟩
def kD (es : List DictEntry) (n : Nat) : Obj := ⟨.type "dict", none, .dict es.toArray n, #[]⟩
def kF (x qual : Str) (st : Stmt) (pm cd : Value) : Obj := ⟨.type "function", none, .func (fnOf x qual (a7D st) (a4w st) (g0 st) .none .none .none pm none cd .none), #[]⟩
def kC (n q : Str) (a b c : Nat) (i3 i4 i5 i6 i7 : Int) (r8 : Nat) (i10 : Int) (r11 r13 r14 r15 : Nat) (i16 i17 : Int) (d : Nat) : Obj := ⟨.type "code", none, .fields ([.str n a, .str q b, .str "/claim/cut.py" c, .int i3 0, .int i4 0, .int i5 0, .int i6 0, .int i7 0, .ref r8, .bool true, .int i10 0, .ref r11, .none, .ref r13, .ref r14, .ref r15, .int i16 0, .int i17 0, .str "/claim/cut.py" d] : List Value).toArray, ([] : List (Option Value)).toArray⟩
def kN (n q : Str) (a b c : Nat) (i3 i4 i5 i6 i7 : Int) (r8 : Nat) (i10 : Int) (r11 r15 : Nat) (i16 i17 : Int) (d : Nat) : Obj := ⟨.type "code", none, .fields ([.str n a, .str q b, .str "/claim/cut.py" c, .int i3 0, .int i4 0, .int i5 0, .int i6 0, .int i7 0, .ref r8, .bool true, .int i10 0, .ref r11, .none, .none, .none, .ref r15, .int i16 0, .int i17 0, .str "/claim/cut.py" d] : List Value).toArray, ([] : List (Option Value)).toArray⟩
abbrev kc' (n q : Str) (a l m r i j : Nat) : Obj := kC n q a (a + 1) (a + 2) l m 0 0 3 r i (r + 1) (r + 2) (r + 3) (r + 4) j l (j + 1)
abbrev kc (n : Str) (a l m r i j : Nat) : Obj := kc' n n a l m r i j
abbrev kn' (n q : Str) (a l m r i j : Nat) : Obj := kN n q a (a + 1) (a + 2) l m 0 0 3 r i (r + 1) (r + 2) j l (j + 1)
abbrev kn (n : Str) (a l m r i j : Nat) : Obj := kn' n n a l m r i j
abbrev kg (n : Str) (i : Nat) (m : Value) (c : Nat) : Obj := kF n n (top i) m (.ref c)
abbrev m0 : Value := (.str "__main__" 164)
abbrev m1 : Value := (.str "oncedone.words" 194)
abbrev m2 : Value := (.str "oncedone.deeds" 253)
abbrev m3 : Value := (.str "oncedone.errors" 285)
abbrev m4 : Value := (.str "oncedone.checks" 405)
abbrev m5 : Value := (.str "oncedone.plans" 435)
abbrev m6 : Value := (.str "oncedone.ways" 565)
abbrev m7 : Value := (.str "oncedone.ready" 607)
abbrev m8 : Value := (.str "oncedone.wanted" 705)
abbrev m9 : Value := (.str "oncedone.brinks" 787)
abbrev m10 : Value := (.str "law_oncedone_k51_brinks_with_papers" 858)
abbrev kM (Q : Params) (a : Nat) (m : Value) (l : Int) (r : List DictEntry) : List DictEntry := kE Q "__module__" a m :: kE Q "__firstlineno__" (a + 4) (.int l (a + 3)) :: r
abbrev kQ (Q : Params) (a : Nat) (m : Value) (n : Str) (l : Int) (r : List DictEntry) : List DictEntry := kE Q "__module__" a m :: kE Q "__qualname__" (a + 2) (.str n (a + 1)) :: kE Q "__firstlineno__" (a + 4) (.int l (a + 3)) :: r
abbrev kW (Q : Params) (s r : Nat) : List DictEntry := [kE Q "__static_attributes__" s (.ref r), kE Q "__dict__" (s + 2) (.ref (r + 3)), kE Q "__weakref__" (s + 4) (.ref (r + 4)), kE Q "__doc__" (s + 5) .none]
abbrev kU (n : Str) (s x : Nat) : Obj := ⟨.type "type", none, .cls { name := n, bases := [.type "object"], mro := [.ref (s + 1), .type "object"], ns := s, qualname := n, hasDict := true, subclasses := [] }, ([none, none, some (.str n x), some (.str n (x + 8)), some (.builtin "object.__new__"), some (.bool true)] : List (Option Value)).toArray⟩
abbrev kV (n : Str) (s p x : Nat) : Obj := ⟨.type "type", none, .cls { name := n, bases := [.ref 100], mro := [.ref (s + 1), .ref 100, .type "ValueError", .type "Exception", .type "BaseException", .type "object"], ns := s, qualname := n, hasDict := true, subclasses := [] }, ([some (.ref p), none, some (.str n x), some (.str n (x + 8)), some (.builtin "ValueError.__new__"), some (.bool true)] : List (Option Value)).toArray⟩
def K1 (Q : Params) : Frag := [
  (3, kD [kE Q "__name__" 165 m10, kE Q "__doc__" 166 .none, kE Q "__package__" 167 .none, kE Q "__loader__" 168 (.builtin "__main__.__loader__#opaque"), kE Q "__spec__" 169 .none, kE Q "__annotations__" 170 (.ref 6), kE Q "__builtins__" 171 (.ref 4), kE Q "__file__" 173 (.str "/claim/cut.py" 172), kE Q "__cached__" 174 .none, kE Q "_wall" 193 (.ref 21), kE Q "BOUND" 197 (.int (1000000000000) 196), kE Q "LETTERS" 199 (.str "abcdefghijklmnopqrstuvwxyz" 198), kE Q "FIGURES" 201 (.str "0123456789" 200), kE Q "LONGEST_NAME" 203 (.int (8) 202), kE Q "DEED_KINDS" 209 (.ref 22), kE Q "is_whole" 216 (.ref 29), kE Q "is_value" 223 (.ref 36), kE Q "is_name" 229 (.ref 41), kE Q "is_operand" 236 (.ref 48), kE Q "is_deed" 243 (.ref 55), kE Q "is_row" 252 (.ref 62), kE Q "deed_of" 261 (.ref 69), kE Q "set_by" 268 (.ref 76), kE Q "does" 276 (.ref 83), kE Q "spoils" 284 (.ref 90), kE Q "OnceError" 304 (.ref 100), kE Q "Wrong" 329 (.ref 120), kE Q "NoThing" 354 (.ref 139), kE Q "TooMany" 379 (.ref 158), kE Q "NoWay" 404 (.ref 177), kE Q "MOST" 408 (.int (400) 407), kE Q "is_below" 416 (.ref 186), kE Q "check_length" 425 (.ref 193), kE Q "check_each" 434 (.ref 200), kE Q "FIRST_STEP" 440 (.ref 201), kE Q "are_nexts" 446 (.ref 206), kE Q "check_nexts" 452 (.ref 211), kE Q "stops_of" 458 (.ref 216), kE Q "turned" 464 (.ref 221), kE Q "reached" 475 (.ref 228), kE Q "check_ways" 485 (.ref 235), kE Q "steps_of" 491 (.ref 240), kE Q "Plan" 564 (.ref 297), kE Q "way_to" 580 (.ref 308), kE Q "traced" 589 (.ref 315), kE Q "way_on" 595 (.ref 320), kE Q "followed" 606 (.ref 327), kE Q "pass_on" 620 (.ref 334), kE Q "unready_steps" 633 (.ref 341), kE Q "Ready" 704 (.ref 391), kE Q "unwanted_ends" 717 (.ref 402), kE Q "unwanted_steps" 723 (.ref 407), kE Q "Wanted" 786 (.ref 450), kE Q "Brinks" 857 (.ref 502), kE Q "_law_bag" 865 (.ref 511), kE Q "_law_take" 878 (.ref 518), kE Q "_law_net" 891 (.ref 525), kE Q "_law_mended" 897 (.ref 530), kE Q "_law_name" 903 (.ref 535), kE Q "_law_names" 912 (.ref 542), kE Q "_law_operand" 921 (.ref 549), kE Q "_law_deed" 930 (.ref 556), kE Q "_law_row" 941 (.ref 563), kE Q "_law_plan" 956 (.ref 570), kE Q "_law_does" 964 (.ref 577), kE Q "_law_spoils" 972 (.ref 584), kE Q "_law_steps" 982 (.ref 591), kE Q "_law_to" 990 (.ref 598), kE Q "_law_ready" 1003 (.ref 605), kE Q "_law_wanted" 1009 (.ref 610), kE Q "_law_brinks" 1015 (.ref 615), kE Q "_law_walk" 1028 (.ref 622), kE Q "_law_far" 1034 (.ref 627), kE Q "_law_home" 1040 (.ref 632), kE Q "_law_places" 1046 (.ref 637), kE Q "_law_all_way" 1056 (.ref 644), kE Q "_law_int" 1063 (.ref 651), kE Q "_law_step_list" 1071 (.ref 658), kE Q "_law_int_list" 1081 (.ref 665), kE Q "_law_follows" 1091 (.ref 672), kE Q "_law_unready" 1104 (.ref 679), kE Q "_law_unwanted" 1117 (.ref 686), kE Q "_law_why" 1129 (.ref 693), kE Q "_law_told" 1143 (.ref 700), kE Q "law" 1149 (.ref 705)] 85),
  (20, kc "_wall" 187 1 1 15 181 191),
  (21, kg "_wall" 0 m0 20),
  (22, ⟨(.type "tuple"), none, .seq ([(.str "plus" 204), (.str "minus" 205), (.str "times" 206), (.str "less" 207), (.str "same" 208)] : List Value).toArray 0, ([] : List (Option Value)).toArray⟩),
  (28, kc "is_whole" 210 10 1 23 181 214),
  (29, kg "is_whole" 7 m1 28),
  (35, kc "is_value" 217 12 1 30 181 221),
  (36, kg "is_value" 8 m1 35),
  (40, kn "is_name" 224 14 1 37 181 227),
  (41, kg "is_name" 9 m1 40),
  (47, kc "is_operand" 230 18 1 42 181 234),
  (48, kg "is_operand" 10 m1 47),
  (54, kc "is_deed" 237 20 1 49 181 241),
  (55, kg "is_deed" 11 m1 54),
  (61, kc "is_row" 244 24 1 56 181 250),
  (62, kg "is_row" 12 m1 61),
  (68, kc "deed_of" 255 39 1 63 181 259),
  (69, kg "deed_of" 14 m2 68),
  (75, kc "set_by" 262 41 1 70 181 266),
  (76, kg "set_by" 15 m2 75),
  (82, kc "does" 269 43 2 77 181 274),
  (83, kg "does" 16 m2 82),
  (89, kc "spoils" 277 45 2 84 181 282),
  (90, kg "spoils" 17 m2 89),
  (99, kD (kM Q 294 m3 48 [kE Q "__static_attributes__" 299 (.ref 98), kE Q "__weakref__" 301 (.ref 101), kE Q "__doc__" 302 .none]) 3),
  (100, ⟨(.type "type"), none, .cls { name := "OnceError", bases := [(.type "ValueError")], mro := [(.ref 100), (.type "ValueError"), (.type "Exception"), (.type "BaseException"), (.type "object")], ns := 99, qualname := "OnceError", hasDict := true, subclasses := [(.ref 120), (.ref 139), (.ref 158), (.ref 177)] }, ([some (.ref 91), none, some (.str "OnceError" 287), some (.str "OnceError" 295), some (.builtin "ValueError.__new__"), some (.bool true)] : List (Option Value)).toArray⟩),
  (116, kc' "__init__" "Wrong.__init__" 317 52 2 111 181 322),
  (117, kF "__init__" "Wrong.__init__" (C8 (top 20) 0) m3 (.ref 116)),
  (119, kD (kM Q 312 m3 50 [kE Q "__init__" 324 (.ref 117), kE Q "__static_attributes__" 326 (.ref 118), kE Q "__doc__" 327 .none]) 2),
  (120, kV "Wrong" 119 104 305),
  (135, kc' "__init__" "NoThing.__init__" 342 56 2 130 181 347),
  (136, kF "__init__" "NoThing.__init__" (C8 (top 21) 0) m3 (.ref 135)),
  (138, kD (kM Q 337 m3 54 [kE Q "__init__" 349 (.ref 136), kE Q "__static_attributes__" 351 (.ref 137), kE Q "__doc__" 352 .none]) 2),
  (139, kV "NoThing" 138 123 330),
  (154, kc' "__init__" "TooMany.__init__" 367 60 2 149 181 372),
  (155, kF "__init__" "TooMany.__init__" (C8 (top 22) 0) m3 (.ref 154)),
  (157, kD (kM Q 362 m3 58 [kE Q "__init__" 374 (.ref 155), kE Q "__static_attributes__" 376 (.ref 156), kE Q "__doc__" 377 .none]) 2),
  (158, kV "TooMany" 157 142 355),
  (173, kc' "__init__" "NoWay.__init__" 392 64 2 168 181 397),
  (174, kF "__init__" "NoWay.__init__" (C8 (top 23) 0) m3 (.ref 173)),
  (176, kD (kM Q 387 m3 62 [kE Q "__init__" 399 (.ref 174), kE Q "__static_attributes__" 401 (.ref 175), kE Q "__doc__" 402 .none]) 2),
  (177, kV "NoWay" 176 161 380),
  (185, kc "is_below" 409 68 2 180 181 414),
  (186, kg "is_below" 26 m4 185),
  (192, kc "check_length" 417 70 3 187 181 423),
  (193, kg "check_length" 27 m4 192),
  (199, kc "check_each" 426 75 1 194 181 432),
  (200, kg "check_each" 28 m4 199),
  (201, ⟨(.type "tuple"), none, .seq ([(.int (-1) 438), (.int (0) 439)] : List Value).toArray 0, ([] : List (Option Value)).toArray⟩),
  (205, kn "are_nexts" 441 81 3 202 181 444)]
def adr1 : List Addr := [3, 20, 21, 22, 28, 29, 35, 36, 40, 41, 47, 48, 54, 55, 61, 62, 68, 69, 75, 76, 82, 83, 89, 90, 99, 100, 116, 117, 119, 120, 135, 136, 138, 139, 154, 155, 157, 158, 173, 174, 176, 177, 185, 186, 192, 193, 199, 200, 201, 205]
def K2 (Q : Params) : Frag := [
  (206, kg "are_nexts" 31 m5 205),
  (210, kn "check_nexts" 447 86 2 207 181 450),
  (211, kg "check_nexts" 32 m5 210),
  (215, kn "stops_of" 453 90 1 212 181 456),
  (216, kg "stops_of" 33 m5 215),
  (220, kn "turned" 459 92 1 217 181 462),
  (221, kg "turned" 34 m5 220),
  (227, kc "reached" 465 98 2 222 181 473),
  (228, kg "reached" 35 m5 227),
  (234, kc "check_ways" 476 107 1 229 181 483),
  (235, kg "check_ways" 36 m5 234),
  (239, kn "steps_of" 486 113 1 236 181 489),
  (240, kg "steps_of" 37 m5 239),
  (251, kn' "__init__" "Plan.__init__" 504 120 3 248 181 507),
  (252, kF "__init__" "Plan.__init__" (C8 (top 38) 0) m5 (.ref 251)),
  (258, kc' "steps" "Plan.steps" 510 131 1 253 181 514),
  (259, kF "steps" "Plan.steps" (C8 (top 38) 1) m5 (.ref 258)),
  (265, kc' "leads_to" "Plan.leads_to" 517 134 2 260 181 522),
  (266, kF "leads_to" "Plan.leads_to" (C8 (top 38) 2) m5 (.ref 265)),
  (272, kc' "steps_into" "Plan.steps_into" 525 139 2 267 181 530),
  (273, kF "steps_into" "Plan.steps_into" (C8 (top 38) 3) m5 (.ref 272)),
  (279, kc' "stops" "Plan.stops" 533 142 1 274 181 537),
  (280, kF "stops" "Plan.stops" (C8 (top 38) 4) m5 (.ref 279)),
  (286, kc' "deeds" "Plan.deeds" 540 145 1 281 181 544),
  (287, kF "deeds" "Plan.deeds" (C8 (top 38) 5) m5 (.ref 286)),
  (293, kc' "names" "Plan.names" 547 148 1 288 181 551),
  (294, kF "names" "Plan.names" (C8 (top 38) 6) m5 (.ref 293)),
  (296, kD (kM Q 499 m5 118 ([kE Q "__init__" 509 (.ref 252), kE Q "steps" 516 (.ref 259), kE Q "leads_to" 524 (.ref 266), kE Q "steps_into" 532 (.ref 273), kE Q "stops" 539 (.ref 280), kE Q "deeds" 546 (.ref 287), kE Q "names" 553 (.ref 294)] ++ kW Q 557 295)) 4),
  (297, kU "Plan" 296 492),
  (307, kc "way_to" 567 151 2 302 181 578),
  (308, kg "way_to" 40 m6 307),
  (314, kc "traced" 581 163 2 309 181 587),
  (315, kg "traced" 41 m6 314),
  (319, kn "way_on" 590 169 2 316 181 593),
  (320, kg "way_on" 42 m6 319),
  (326, kc "followed" 596 181 3 321 181 604),
  (327, kg "followed" 43 m6 326),
  (333, kc "pass_on" 609 189 4 328 181 618),
  (334, kg "pass_on" 45 m7 333),
  (340, kc "unready_steps" 621 194 3 335 181 631),
  (341, kg "unready_steps" 46 m7 340),
  (352, kn' "__init__" "Ready.__init__" 646 209 3 349 181 649),
  (353, kF "__init__" "Ready.__init__" (C8 (top 47) 0) m7 (.ref 352)),
  (359, kc' "ready_at" "Ready.ready_at" 652 215 2 354 181 657),
  (360, kF "ready_at" "Ready.ready_at" (C8 (top 47) 1) m7 (.ref 359)),
  (366, kc' "ready_behind" "Ready.ready_behind" 660 218 2 361 181 666),
  (367, kF "ready_behind" "Ready.ready_behind" (C8 (top 47) 2) m7 (.ref 366)),
  (373, kc' "ready_on" "Ready.ready_on" 669 224 2 368 181 674),
  (374, kF "ready_on" "Ready.ready_on" (C8 (top 47) 3) m7 (.ref 373)),
  (380, kc' "begins_unready" "Ready.begins_unready" 677 227 2 375 181 682)]
def adr2 : List Addr := [206, 210, 211, 215, 216, 220, 221, 227, 228, 234, 235, 239, 240, 251, 252, 258, 259, 265, 266, 272, 273, 279, 280, 286, 287, 293, 294, 296, 297, 307, 308, 314, 315, 319, 320, 326, 327, 333, 334, 340, 341, 352, 353, 359, 360, 366, 367, 373, 374, 380]
def K3 (Q : Params) : Frag := [
  (381, kF "begins_unready" "Ready.begins_unready" (C8 (top 47) 4) m7 (.ref 380)),
  (387, kc' "way_unready" "Ready.way_unready" 685 230 2 382 181 691),
  (388, kF "way_unready" "Ready.way_unready" (C8 (top 47) 5) m7 (.ref 387)),
  (390, kD (kM Q 641 m7 207 ([kE Q "__init__" 651 (.ref 353), kE Q "ready_at" 659 (.ref 360), kE Q "ready_behind" 668 (.ref 367), kE Q "ready_on" 676 (.ref 374), kE Q "begins_unready" 684 (.ref 381), kE Q "way_unready" 693 (.ref 388)] ++ kW Q 697 389)) 4),
  (391, kU "Ready" 390 634),
  (401, kc "unwanted_ends" 707 241 2 396 181 715),
  (402, kg "unwanted_ends" 49 m8 401),
  (406, kn "unwanted_steps" 718 247 2 403 181 721),
  (407, kg "unwanted_steps" 50 m8 406),
  (420, kc' "__init__" "Wanted.__init__" 736 261 3 415 181 742),
  (421, kF "__init__" "Wanted.__init__" (C8 (top 51) 0) m8 (.ref 420)),
  (427, kc' "wanted_at" "Wanted.wanted_at" 745 265 2 422 181 750),
  (428, kF "wanted_at" "Wanted.wanted_at" (C8 (top 51) 1) m8 (.ref 427)),
  (432, kn' "wanted_behind" "Wanted.wanted_behind" 753 268 2 429 181 756),
  (433, kF "wanted_behind" "Wanted.wanted_behind" (C8 (top 51) 2) m8 (.ref 432)),
  (439, kc' "wanted_on" "Wanted.wanted_on" 759 272 2 434 181 764),
  (440, kF "wanted_on" "Wanted.wanted_on" (C8 (top 51) 3) m8 (.ref 439)),
  (446, kc' "way_unwanted" "Wanted.way_unwanted" 767 275 2 441 181 774),
  (447, kF "way_unwanted" "Wanted.way_unwanted" (C8 (top 51) 4) m8 (.ref 446)),
  (449, kD (kM Q 731 m8 259 ([kE Q "__init__" 744 (.ref 421), kE Q "wanted_at" 752 (.ref 428), kE Q "wanted_behind" 758 (.ref 433), kE Q "wanted_on" 766 (.ref 440), kE Q "way_unwanted" 776 (.ref 447)] ++ kW Q 779 448)) 4),
  (450, kU "Wanted" 449 724),
  (465, kn' "__init__" "Brinks.__init__" 801 284 3 462 181 804),
  (466, kF "__init__" "Brinks.__init__" (C8 (top 53) 0) m9 (.ref 465)),
  (472, kc' "is_brink" "Brinks.is_brink" 807 291 2 467 181 812),
  (473, kF "is_brink" "Brinks.is_brink" (C8 (top 53) 1) m9 (.ref 472)),
  (479, kc' "is_spoilt_ahead" "Brinks.is_spoilt_ahead" 815 296 2 474 181 820),
  (480, kF "is_spoilt_ahead" "Brinks.is_spoilt_ahead" (C8 (top 53) 2) m9 (.ref 479)),
  (486, kc' "steps" "Brinks.steps" 823 299 1 481 181 827),
  (487, kF "steps" "Brinks.steps" (C8 (top 53) 3) m9 (.ref 486)),
  (493, kc' "why_brink" "Brinks.why_brink" 830 302 2 488 181 836),
  (494, kF "why_brink" "Brinks.why_brink" (C8 (top 53) 4) m9 (.ref 493)),
  (498, kn' "way_unwanted_behind" "Brinks.way_unwanted_behind" 839 312 2 495 181 842),
  (499, kF "way_unwanted_behind" "Brinks.way_unwanted_behind" (C8 (top 53) 5) m9 (.ref 498)),
  (501, kD (kM Q 796 m9 282 ([kE Q "__init__" 806 (.ref 466), kE Q "is_brink" 814 (.ref 473), kE Q "is_spoilt_ahead" 822 (.ref 480), kE Q "steps" 829 (.ref 487), kE Q "why_brink" 838 (.ref 494), kE Q "way_unwanted_behind" 844 (.ref 499)] ++ kW Q 850 500)) 4),
  (502, kU "Brinks" 501 789),
  (510, kn "_law_bag" 860 317 1 507 181 863),
  (511, kg "_law_bag" 55 m10 510),
  (517, kc "_law_take" 866 319 2 512 181 876),
  (518, kg "_law_take" 56 m10 517),
  (524, kc "_law_net" 879 338 2 519 181 889),
  (525, kg "_law_net" 57 m10 524),
  (529, kn "_law_mended" 892 356 1 526 181 895),
  (530, kg "_law_mended" 58 m10 529),
  (534, kn "_law_name" 898 371 2 531 181 901),
  (535, kg "_law_name" 59 m10 534),
  (541, kc "_law_names" 904 377 1 536 181 910),
  (542, kg "_law_names" 60 m10 541),
  (548, kc "_law_operand" 913 382 2 543 181 919),
  (549, kg "_law_operand" 61 m10 548),
  (555, kc "_law_deed" 922 391 2 550 181 928)]
def adr3 : List Addr := [381, 387, 388, 390, 391, 401, 402, 406, 407, 420, 421, 427, 428, 432, 433, 439, 440, 446, 447, 449, 450, 465, 466, 472, 473, 479, 480, 486, 487, 493, 494, 498, 499, 501, 502, 510, 511, 517, 518, 524, 525, 529, 530, 534, 535, 541, 542, 548, 549, 555]
def K4 (Q : Params) : Frag := [
  (556, kg "_law_deed" 62 m10 555),
  (562, kc "_law_row" 931 394 3 557 181 939),
  (563, kg "_law_row" 63 m10 562),
  (569, kc "_law_plan" 942 404 1 564 181 954),
  (570, kg "_law_plan" 64 m10 569),
  (576, kc "_law_does" 957 421 2 571 181 962),
  (577, kg "_law_does" 65 m10 576),
  (583, kc "_law_spoils" 965 423 2 578 181 970),
  (584, kg "_law_spoils" 66 m10 583),
  (590, kc "_law_steps" 973 425 1 585 181 980),
  (591, kg "_law_steps" 67 m10 590),
  (597, kc "_law_to" 983 431 2 592 181 988),
  (598, kg "_law_to" 68 m10 597),
  (604, kc "_law_ready" 991 435 3 599 181 1001),
  (605, kg "_law_ready" 69 m10 604),
  (609, kn "_law_wanted" 1004 443 3 606 181 1007),
  (610, kg "_law_wanted" 70 m10 609),
  (614, kn "_law_brinks" 1010 450 3 611 181 1013),
  (615, kg "_law_brinks" 71 m10 614),
  (621, kc "_law_walk" 1016 462 3 616 181 1026),
  (622, kg "_law_walk" 72 m10 621),
  (626, kn "_law_far" 1029 471 1 623 181 1032),
  (627, kg "_law_far" 73 m10 626),
  (631, kn "_law_home" 1035 478 2 628 181 1038),
  (632, kg "_law_home" 74 m10 631),
  (636, kn "_law_places" 1041 488 2 633 181 1044),
  (637, kg "_law_places" 75 m10 636),
  (643, kc "_law_all_way" 1047 490 3 638 181 1054),
  (644, kg "_law_all_way" 76 m10 643),
  (650, kc "_law_int" 1057 493 1 645 181 1061),
  (651, kg "_law_int" 77 m10 650),
  (657, kc "_law_step_list" 1064 495 1 652 181 1069),
  (658, kg "_law_step_list" 78 m10 657),
  (664, kc "_law_int_list" 1072 502 2 659 181 1079),
  (665, kg "_law_int_list" 79 m10 664),
  (671, kc "_law_follows" 1082 509 3 666 181 1089),
  (672, kg "_law_follows" 80 m10 671),
  (678, kc "_law_unready" 1092 515 5 673 181 1102),
  (679, kg "_law_unready" 81 m10 678),
  (685, kc "_law_unwanted" 1105 524 5 680 181 1115),
  (686, kg "_law_unwanted" 82 m10 685),
  (692, kc "_law_why" 1118 536 5 687 181 1127),
  (693, kg "_law_why" 83 m10 692),
  (699, kc "_law_told" 1130 547 5 694 181 1141),
  (700, kg "_law_told" 84 m10 699),
  (704, kn "law" 1144 563 1 701 181 1147),
  (705, kg "law" 85 m10 704)]
def adr4 : List Addr := [556, 562, 563, 569, 570, 576, 577, 583, 584, 590, 591, 597, 598, 604, 605, 609, 610, 614, 615, 621, 622, 626, 627, 631, 632, 636, 637, 643, 644, 650, 651, 657, 658, 664, 665, 671, 672, 678, 679, 685, 686, 692, 693, 699, 700, 704, 705]
def K (Q : Params) : Frag := K1 Q ++ (K2 Q ++ (K3 Q ++ K4 Q))
def adr : List Addr := adr1 ++ (adr2 ++ (adr3 ++ adr4))
def q : Program := view P [85]
def loose : List Str := (["_wall", "BOUND", "LETTERS", "FIGURES", "LONGEST_NAME", "DEED_KINDS", "is_whole", "is_value", "is_name", "is_operand", "is_deed", "is_row", "deed_of", "set_by", "does", "spoils", "OnceError", "Wrong", "NoThing", "TooMany", "NoWay", "MOST", "is_below", "check_length", "check_each", "FIRST_STEP", "are_nexts", "check_nexts", "stops_of", "turned", "reached", "check_ways", "steps_of", "Plan", "way_to", "traced", "way_on", "followed", "pass_on", "unready_steps", "Ready", "unwanted_ends", "unwanted_steps", "Wanted", "Brinks", "_law_bag", "_law_take", "_law_net", "_law_mended", "_law_name", "_law_names", "_law_operand", "_law_deed", "_law_row", "_law_plan", "_law_does", "_law_spoils", "_law_steps", "_law_to", "_law_ready", "_law_wanted", "_law_brinks", "_law_walk", "_law_far", "_law_home", "_law_places", "_law_all_way", "_law_int", "_law_step_list", "_law_int_list", "_law_follows", "_law_unready", "_law_unwanted", "_law_why", "_law_told"] : List String).map Str.ofString
theorem left_one {p q : Program} {loose : List Str} {Xt : Shared → Bool} {α : Type} {Yf : Shared → α} {Ya : World → α} {N m₀ : Nat} {ann : Option Value} (e : opening p = plainProg p.main.scope.names) (hN : Nat.ble 600 N = true) (f : ∀ s, fenceModules? p s = some s)
    (size : ∀ w : World, ((boot_heap w.params).isNs mainGlobals, (boot_heap w.params).objs.size, (boot_heap w.params).nsMap mainGlobals "__annotations__") = (true, m₀, ann))
    {r : World → OsState → Option Shared} (hr : ∀ w os x, r w os = some x → topRun treeTable p w m₀ ann N ⟨boot_heap w.params, Array.mk [], boot_drawn, boot_toks, os⟩ (topStub p) = some x)
    (ra : ∀ w os, (r w os).map (fun s₁ => staticsOk (importedModules p.main.body) (boot_heap w.params) s₁.heap && namesBound p s₁.heap && gensDone s₁ && laidKept (boot_heap w.params) s₁.heap) = some true)
    (rb : ∀ w os, (r w os).map (openSeen q loose (importedModules p.main.body) Xt true) = some (openGood q loose))
    (rc : ∀ w os, (r w os).map Yf = some (Ya w)) :
    LeftO p q loose Xt Yf Ya N := fun w => by
  obtain ⟨⟨h, gs, d, k, os⟩, e1, e2⟩ := Option.map_eq_some_iff.mp (boot_open e hN f w);obtain ⟨rfl, rfl, rfl, rfl⟩ : h = boot_heap w.params ∧ gs = Array.mk [] ∧ d = boot_drawn ∧ k = boot_toks := by simpa using e2
  obtain ⟨z1, z2, z3⟩ : _ ∧ _ ∧ _ := by simpa only [Prod.mk.injEq] using size w
  obtain ⟨s₁, r1, r3⟩ := Option.map_eq_some_iff.mp (ra w os);have rb := rb w os;have rc := rc w os;rw [r1] at rb rc;have r1 := hr w os _ r1;have r4 : (openSeen q loose (importedModules p.main.body) Xt true s₁, Yf s₁) = (openGood q loose, Ya w) := Prod.ext (Option.some.inj rb) (Option.some.inj rc)
  have t : topFrom treeTable p w N ⟨boot_heap w.params, Array.mk [], boot_drawn, boot_toks, os⟩ = some s₁ := by
    unfold topFrom;dsimp only;rw [z1, z2, z3, r1];show (match staticsOk (importedModules p.main.body) (boot_heap w.params) s₁.heap && namesBound p s₁.heap && gensDone s₁ && laidKept (boot_heap w.params) s₁.heap with | true => some s₁ | false => none) = _;rw [r3]
  unfold openEnds;rw [e1];show (topFrom treeTable p w N _).map _ = _;rw [t];exact congrArg some r4
abbrev hook : Hook := kHook K adr (fun _ => by kernel_rfl)
abbrev row : OpenLaw := PySem.Challenge.rw_oncedone_k51_brinks_with_papers
def kZ (x q : Str) (st : Stmt) : Obj := ⟨.none, none, .func { fnOf x q (a7D st) (a4w st) (g0 st) .none .none .none .none none .none .none with globals := 0 }, #[]⟩
def kS (xs : List Value) (n : Nat) : Obj := ⟨.type "tuple", none, .seq xs.toArray n, ([] : List (Option Value)).toArray⟩
noncomputable section
def kk (a : Addr) (Q : Params) : Obj := ((K Q).lookup a).getD (boot_o_4 Q)
abbrev kY (n : Str) (i : Nat) : Obj := kZ n n (top i)
abbrev k0 : Obj := ⟨.none, none, .fields ([] : List Value).toArray, ([] : List (Option Value)).toArray⟩
abbrev kf (xs : List Value) (z : Obj) (a : Nat) (Q : Params) (r : List Obj) : List Obj := kS [] 0 :: k0 :: kS xs 0 :: kS [] 0 :: z :: kk a Q :: kk (a + 1) Q :: r
abbrev ke (z : Obj) (a : Nat) (Q : Params) (r : List Obj) : List Obj := kS [] 0 :: k0 :: z :: kk a Q :: kk (a + 1) Q :: r
abbrev kw (c : String) (xs : List Value) : Obj := ⟨.type c, none, .fields xs.toArray, ([] : List (Option Value)).toArray⟩
abbrev kl (n : Str) (a l r : Nat) : Obj := kw "code" [.str n a, .str n (a + 1), .str "/claim/cut.py" (a + 2), .int l 0, .int 0 0, .int 0 0, .int 0 0, .int 0 0, .ref r, .bool false, .int 181 0, .ref (r + 1), .none, .none, .none, .none, .int (a + 3 : Nat) 0, .int l 0, .str "/claim/cut.py" (a + 4)]
abbrev kb (b : String) (v : Value) : Obj := kw "builtin_function_or_method" [.builtin b, v]
abbrev ku (r : Nat) : Obj := kw "super" [.ref r, .ref r, .ref r]
abbrev kr (c l : Nat) (m : Value) : Obj := ⟨.type "frame", none, .plain, ([some (.ref c), some (.ref 3), some (.ref l), none, some m, none, some (.ref 0)] : List (Option Value)).toArray⟩
abbrev kt (xs : List (Nat × Nat × Nat)) : Obj := ⟨.none, none, .fields (xs.flatMap fun x => ([.int x.1 0, .int x.2.1 0, .ref x.2.2] : List Value)).toArray, ([] : List (Option Value)).toArray⟩
abbrev kx (o : Obj) (r : List Obj) : List Obj := o :: r
def h1 (Q : Params) : List Obj :=
kx (boot_o_0 Q) <|
kx (boot_o_1 Q) <|
kx (boot_o_2 Q) <|
kx (kD [kE Q "__name__" 165 m7, kE Q "__doc__" 166 .none, kE Q "__package__" 167 .none, kE Q "__loader__" 168 (.builtin "__main__.__loader__#opaque"), kE Q "__spec__" 169 .none, kE Q "__annotations__" 170 (.ref 6), kE Q "__builtins__" 171 (.ref 4), kE Q "__file__" 173 (.str "/claim/cut.py" 172), kE Q "__cached__" 174 .none, kE Q "_wall" 193 (.ref 21), kE Q "BOUND" 197 (.int (1000000000000) 196), kE Q "LETTERS" 199 (.str "abcdefghijklmnopqrstuvwxyz" 198), kE Q "FIGURES" 201 (.str "0123456789" 200), kE Q "LONGEST_NAME" 203 (.int (8) 202), kE Q "DEED_KINDS" 209 (.ref 22), kE Q "is_whole" 216 (.ref 29), kE Q "is_value" 223 (.ref 36), kE Q "is_name" 229 (.ref 41), kE Q "is_operand" 236 (.ref 48), kE Q "is_deed" 243 (.ref 55), kE Q "is_row" 252 (.ref 62), kE Q "deed_of" 261 (.ref 69), kE Q "set_by" 268 (.ref 76), kE Q "does" 276 (.ref 83), kE Q "spoils" 284 (.ref 90), kE Q "OnceError" 304 (.ref 100), kE Q "Wrong" 329 (.ref 120), kE Q "NoThing" 354 (.ref 139), kE Q "TooMany" 379 (.ref 158), kE Q "NoWay" 404 (.ref 177), kE Q "MOST" 408 (.int (400) 407), kE Q "is_below" 416 (.ref 186), kE Q "check_length" 425 (.ref 193), kE Q "check_each" 434 (.ref 200), kE Q "FIRST_STEP" 440 (.ref 201), kE Q "are_nexts" 446 (.ref 206), kE Q "check_nexts" 452 (.ref 211), kE Q "stops_of" 458 (.ref 216), kE Q "turned" 464 (.ref 221), kE Q "reached" 475 (.ref 228), kE Q "check_ways" 485 (.ref 235), kE Q "steps_of" 491 (.ref 240), kE Q "Plan" 564 (.ref 297), kE Q "way_to" 580 (.ref 308), kE Q "traced" 589 (.ref 315), kE Q "way_on" 595 (.ref 320), kE Q "followed" 606 (.ref 327), kE Q "pass_on" 620 (.ref 334), kE Q "unready_steps" 633 (.ref 341), kE Q "Ready" 704 (.ref 391)] 50) <|
kx (boot_o_4 Q) <|
kx (boot_o_5 Q) <|
kx (boot_o_6 Q) <|
kx (boot_o_7 Q) <|
kx (boot_o_8 Q) <|
kx (boot_o_9 Q) <|
kx (boot_o_10 Q) <|
kx (kS [] 0) <|
kx (kt [(1, 0, 20), (10, 0, 28), (12, 0, 35), (14, 0, 40), (18, 0, 47), (20, 0, 54), (24, 0, 61), (39, 0, 68), (41, 0, 75), (43, 0, 82), (45, 0, 89), (48, 0, 96), (50, 0, 109), (54, 0, 128), (58, 0, 147), (62, 0, 166), (68, 0, 185), (70, 0, 192), (75, 0, 199), (81, 0, 205), (86, 0, 210), (90, 0, 215), (92, 0, 220), (98, 0, 227), (107, 0, 234), (113, 0, 239), (118, 0, 246), (151, 0, 307), (163, 0, 314), (169, 0, 319), (181, 0, 326), (189, 0, 333), (194, 0, 340), (207, 0, 347)]) <|
kx (kl "<module>" 182 1 11) <|
kx (kr 13 3 m0) <|
kf [(.str "k" 190)] (kY "_wall" 0) 20 Q <|
kx (kk 22 Q) <|
kf [(.str "thing" 213)] (kY "is_whole" 7) 28 Q <|
kf [(.str "thing" 220)] (kY "is_value" 8) 35 Q <|
ke (kY "is_name" 9) 40 Q <|
kf [(.str "thing" 233)] (kY "is_operand" 10) 47 Q <|
kf [(.str "thing" 240)] (kY "is_deed" 11) 54 Q <|
kf [(.str "thing" 247), (.str "kind" 248), (.str "rest" 249)] (kY "is_row" 12) 61 Q <|
kf [(.str "row" 258)] (kY "deed_of" 14) 68 Q <|
kf [(.str "row" 265)] (kY "set_by" 15) 75 Q <|
kf [(.str "row" 272), (.str "deed" 273)] (kY "does" 16) 82 Q <|
kf [(.str "row" 280), (.str "deed" 281)] (kY "spoils" 17) 89 Q <|
kx (kS [(.type "ValueError")] 0) <|
kx (kb "type.__prepare__" (.type "type")) <|
kx (kD (kQ Q 294 m3 "OnceError" 48 [kE Q "__static_attributes__" 299 (.ref 98)]) 4) <|
kx (kS [] 0) <|
kx k0 <|
kx (kl "OnceError" 289 48 94) <|
kx (kr 96 93 m3) <|
kx (kS [] 0) <|
kx (kk 99 Q) <|
kx (kk 100 Q) <|
kx ⟨(.type "getset_descriptor"), none, .fields ([(.str "__weakref__" 300), (.ref 100), (.builtin "ExceptionGroup.__weakref__"), .none] : List Value).toArray, ([] : List (Option Value)).toArray⟩ <|
kx (ku 100) <|
kx (kb "object.__init_subclass__" (.ref 100)) <|
kx (kS [(.ref 100)] 0) <|
kx (kb "type.__prepare__" (.type "type")) <|
kx (kD (kQ Q 312 m3 "Wrong" 50 [kE Q "__init__" 324 (.ref 117), kE Q "__static_attributes__" 326 (.ref 118)]) 5) <|
kx (kS [] 0) <|
kx (kt [(52, 4, 116)]) <|
kx (kl "Wrong" 307 50 107) <|
kx (kr 109 106 m3) <|
kf [(.str "self" 320), (.str "at" 321)] (kZ "__init__" "Wrong.__init__" (C8 (top 20) 0)) 116 Q <|
kx (kS [(.str "at" 325)] 0) <|
kx (kk 119 Q) <|
kx (kk 120 Q) <|
kx (ku 120) <|
kx (kb "object.__init_subclass__" (.ref 120)) <|
kx (kS [(.ref 100)] 0) <|
kx (kb "type.__prepare__" (.type "type")) <|
kx (kD (kQ Q 337 m3 "NoThing" 54 [kE Q "__init__" 349 (.ref 136), kE Q "__static_attributes__" 351 (.ref 137)]) 5) <|
kx (kS [] 0) <|
kx (kt [(56, 4, 135)]) <|
kx (kl "NoThing" 332 54 126) <|
kx (kr 128 125 m3) <|
kf [(.str "self" 345), (.str "at" 346)] (kZ "__init__" "NoThing.__init__" (C8 (top 21) 0)) 135 Q <|
kx (kS [(.str "at" 350)] 0) <|
kx (kk 138 Q) <|
kx (kk 139 Q) <|
kx (ku 139) <|
kx (kb "object.__init_subclass__" (.ref 139)) <|
kx (kS [(.ref 100)] 0) <|
kx (kb "type.__prepare__" (.type "type")) <|
kx (kD (kQ Q 362 m3 "TooMany" 58 [kE Q "__init__" 374 (.ref 155), kE Q "__static_attributes__" 376 (.ref 156)]) 5) <|
kx (kS [] 0) <|
kx (kt [(60, 4, 154)]) <|
kx (kl "TooMany" 357 58 145) <|
kx (kr 147 144 m3) <|
kf [(.str "self" 370), (.str "most" 371)] (kZ "__init__" "TooMany.__init__" (C8 (top 22) 0)) 154 Q <|
kx (kS [(.str "most" 375)] 0) <|
kx (kk 157 Q) <|
kx (kk 158 Q) <|
kx (ku 158) <|
kx (kb "object.__init_subclass__" (.ref 158)) <|
kx (kS [(.ref 100)] 0) <|
kx (kb "type.__prepare__" (.type "type")) <|
kx (kD (kQ Q 387 m3 "NoWay" 62 [kE Q "__init__" 399 (.ref 174), kE Q "__static_attributes__" 401 (.ref 175)]) 5) <|
kx (kS [] 0) <|
kx (kt [(64, 4, 173)]) <|
kx (kl "NoWay" 382 62 164) <|
kx (kr 166 163 m3) <|
kf [(.str "self" 395), (.str "at" 396)] (kZ "__init__" "NoWay.__init__" (C8 (top 23) 0)) 173 Q <|
kx (kS [(.str "at" 400)] 0) <|
kx (kk 176 Q) <|
kx (kk 177 Q) <|
kx (ku 177) <|
kx (kb "object.__init_subclass__" (.ref 177)) <|
kf [(.str "thing" 412), (.str "many" 413)] (kY "is_below" 26) 185 Q <|
kf [(.str "things" 420), (.str "at" 421), (.str "least" 422)] (kY "check_length" 27) 192 Q <|
kf [(.str "rights" 429), (.str "k" 430), (.str "right" 431)] (kY "check_each" 28) 199 Q <|
kx (kk 201 Q) <|
ke (kY "are_nexts" 31) 205 Q <|
ke (kY "check_nexts" 32) 210 Q <|
ke (kY "stops_of" 33) 215 Q <|
ke (kY "turned" 34) 220 Q <|
kf [(.str "begins" 468), (.str "leads" 469), (.str "seen" 470), (.str "waiting" 471), (.str "place" 472)] (kY "reached" 35) 227 Q <|
kf [(.str "nexts" 479), (.str "begun" 480), (.str "ending" 481), (.str "place" 482)] (kY "check_ways" 36) 234 Q <|
ke (kY "steps_of" 37) 239 Q <|
kx (kS [] 0) <|
kx (kb "type.__prepare__" (.type "type")) <|
kx (kD (kQ Q 499 m5 "Plan" 118 [kE Q "__init__" 509 (.ref 252), kE Q "steps" 516 (.ref 259), kE Q "leads_to" 524 (.ref 266), kE Q "steps_into" 532 (.ref 273), kE Q "stops" 539 (.ref 280), kE Q "deeds" 546 (.ref 287), kE Q "names" 553 (.ref 294), kE Q "__static_attributes__" 557 (.ref 295)]) 11) <|
kx (kS [] 0) <|
kx (kt [(120, 4, 251), (131, 4, 258), (134, 4, 265), (139, 4, 272), (142, 4, 279), (145, 4, 286), (148, 4, 293)]) <|
kx (kl "Plan" 494 118 244) <|
kx (kr 246 243 m5) <|
ke (kZ "__init__" "Plan.__init__" (C8 (top 38) 0)) 251 Q <|
kf [(.str "self" 513)] (kZ "steps" "Plan.steps" (C8 (top 38) 1)) 258 Q <|
kf [(.str "self" 520), (.str "step" 521)] (kZ "leads_to" "Plan.leads_to" (C8 (top 38) 2)) 265 Q <|
kf [(.str "self" 528), (.str "place" 529)] (kZ "steps_into" "Plan.steps_into" (C8 (top 38) 3)) 272 Q <|
kf [(.str "self" 536)] (kZ "stops" "Plan.stops" (C8 (top 38) 4)) 279 Q <|
kf [(.str "self" 543)] (kZ "deeds" "Plan.deeds" (C8 (top 38) 5)) 286 Q <|
kf [(.str "self" 550)] (kZ "names" "Plan.names" (C8 (top 38) 6)) 293 Q <|
kx (kS [(.str "entries" 554), (.str "nexts" 555), (.str "rows" 556)] 0) <|
kx (kk 296 Q) <|
kx (kk 297 Q) <|
kx ⟨(.type "getset_descriptor"), none, .fields ([(.str "__dict__" 558), (.ref 297), (.builtin "function.__dict__"), (.builtin "function.__dict__#set")] : List Value).toArray, ([] : List (Option Value)).toArray⟩ <|
kx ⟨(.type "getset_descriptor"), none, .fields ([(.str "__weakref__" 560), (.ref 297), (.builtin "ExceptionGroup.__weakref__"), .none] : List Value).toArray, ([] : List (Option Value)).toArray⟩ <|
kx (ku 297) <|
kx (kb "object.__init_subclass__" (.ref 297)) <|
kf [(.str "plan" 570), (.str "place" 571), (.str "come_by" 572), (.str "order" 573), (.str "done" 574), (.str "here" 575), (.str "at" 576), (.str "target" 577)] (kY "way_to" 40) 307 Q <|
kf [(.str "come_by" 584), (.str "place" 585), (.str "way" 586)] (kY "traced" 41) 314 Q <|
ke (kY "way_on" 42) 319 Q <|
kf [(.str "plan" 599), (.str "goes_by" 600), (.str "place" 601), (.str "way" 602), (.str "step" 603)] (kY "followed" 43) 326 Q <|
kf [(.str "plan" 612), (.str "place" 613), (.str "come_by" 614), (.str "order" 615), (.str "at" 616), (.str "target" 617)] (kY "pass_on" 45) 333 Q <|
kf [(.str "plan" 624), (.str "made" 625), (.str "broken" 626), (.str "come_by" 627), (.str "order" 628), (.str "place" 629), (.str "done" 630)] (kY "unready_steps" 46) 340 Q <|
kx (kS [] 0) <|
kx (kb "type.__prepare__" (.type "type")) <|
kx (kD (kQ Q 641 m7 "Ready" 207 [kE Q "__init__" 651 (.ref 353), kE Q "ready_at" 659 (.ref 360), kE Q "ready_behind" 668 (.ref 367), kE Q "ready_on" 676 (.ref 374), kE Q "begins_unready" 684 (.ref 381), kE Q "way_unready" 693 (.ref 388), kE Q "__static_attributes__" 697 (.ref 389)]) 10) <|
kx (kS [] 0) <|
kx (kt [(209, 4, 352), (215, 4, 359), (218, 4, 366), (224, 4, 373), (227, 4, 380), (230, 4, 387)]) <|
kx (kl "Ready" 636 207 345) <|
kx (kr 347 344 m7) <|
ke (kZ "__init__" "Ready.__init__" (C8 (top 47) 0)) 352 Q <|
kf [(.str "self" 655), (.str "place" 656)] (kZ "ready_at" "Ready.ready_at" (C8 (top 47) 1)) 359 Q <|
kf [(.str "self" 663), (.str "place" 664), (.str "row" 665)] (kZ "ready_behind" "Ready.ready_behind" (C8 (top 47) 2)) 366 Q <|
kf [(.str "self" 672), (.str "step" 673)] (kZ "ready_on" "Ready.ready_on" (C8 (top 47) 3)) 373 Q <|
kf [(.str "self" 680), (.str "step" 681)] (kZ "begins_unready" "Ready.begins_unready" (C8 (top 47) 4)) 380 Q <|
kf [(.str "self" 688), (.str "place" 689), (.str "way" 690)] (kZ "way_unready" "Ready.way_unready" (C8 (top 47) 5)) 387 Q <|
kx (kS [(.str "come_by" 694), (.str "deed" 695), (.str "plan" 696)] 0) <|
kx (kk 390 Q) <|
kx (kk 391 Q) <|
kx ⟨(.type "getset_descriptor"), none, .fields ([(.str "__dict__" 698), (.ref 391), (.builtin "function.__dict__"), (.builtin "function.__dict__#set")] : List Value).toArray, ([] : List (Option Value)).toArray⟩ <|
kx ⟨(.type "getset_descriptor"), none, .fields ([(.str "__weakref__" 700), (.ref 391), (.builtin "ExceptionGroup.__weakref__"), .none] : List Value).toArray, ([] : List (Option Value)).toArray⟩ <|
kx (ku 391) <|
kx (kb "object.__init_subclass__" (.ref 391)) <| []
abbrev bd : List Stmt := behindTheImports P
abbrev en : Env := { scope := P.main.scope, locals := mainNs, globals := mainNs, cells := [], code := (.ref 13), frame := some 14 }
abbrev cE : Code := .body bd en
abbrev fB : List Frame := [topFrame ⟨0, 0, 0, 0⟩]
abbrev s0 (w : World) (os : OsState) : Shared := ⟨boot_heap w.params, Array.mk [], boot_drawn, boot_toks, os⟩
def sa (w : World) (os : OsState) : Shared := ((topGo treeTable P w 11 (some (.ref 6)) 12 (s0 w os) (topStub P)).map (·.1)).getD (s0 w os)
abbrev s1 (w : World) (os : OsState) : Shared := ⟨⟨Array.mk (h1 w.params), (boot_heap w.params).life⟩, Array.mk [], boot_drawn, 705, os⟩
abbrev rn (w : World) (os : OsState) : Option Shared := PySem.W.Fast.tw14082659384304107361 PySem.W.Fast.tw14364793385576792824 P w 11 (some (.ref 6)) 7146 (s1 w os) (restOf (bd.drop 48) en cE ⟨207, 0, 239, 49⟩ fB)
end
theorem go_a (w : World) (os : OsState) : topGo treeTable P w 11 (some (.ref 6)) 12 (s0 w os) (topStub P) = some (sa w os, ⟨denote treeTable cE, cE, ⟨0, 0, 0, 0⟩, fB⟩) := by kernel_rfl
theorem go_b (w : World) (os : OsState) : segRun treeTable P w 11 (some (.ref 6)) 1 1 (sa w os) (blockOf bd en cE ⟨0, 0, 0, 0⟩ fB) = some (.next, sa w os, cE, ⟨0, 0, 0, 0⟩) := by kernel_rfl
theorem go_c (w : World) (os : OsState) : segRun treeTable P w 11 (some (.ref 6)) 1 2899 (sa w os) (piecesOf (bd.take 48) en cE ⟨0, 0, 0, 0⟩ fB) = some (.next, s1 w os, cE, ⟨207, 0, 239, 49⟩) := by kernel_rfl
theorem go_d (w : World) (os : OsState) (x : Shared) (h : rn w os = some x) : topRun treeTable P w 11 (some (.ref 6)) 10058 (s0 w os) (topStub P) = some x := by
  have h : topRun treeTable P w 11 (some (.ref 6)) 7146 (s1 w os) (restOf (bd.drop 48) en cE ⟨207, 0, 239, 49⟩ fB) = some x := by rw [PySem.W.Fast.te14082659384304107361, PySem.W.Fast.te14364793385576792824]; exact h
  have h := piece_app (go_c w os) h;rw [List.take_append_drop] at h;exact go_top (go_a w os) (piece_block (go_b w os) h)
theorem left_a (w : World) (os : OsState) : (rn w os).map (fun s₁ => staticsOk (importedModules P.main.body) (boot_heap w.params) s₁.heap && namesBound P s₁.heap && gensDone s₁ && laidKept (boot_heap w.params) s₁.heap) = some true := by kernel_rfl
theorem left_b (w : World) (os : OsState) : (rn w os).map (PySem.W.Fast.tw4187177175401517315 q loose (importedModules P.main.body) (fun s => xlAt q [] s && recOk (RowW.records row.row.toRowW) s) true) = some (openGood q loose) := by kernel_rfl
theorem left_c1 (w : World) (os : OsState) : (rn w os).map (fun s => adr1.map s.heap.get?) = some ((K1 w.params).map fun p => some p.2) := by kernel_rfl
theorem left_c2 (w : World) (os : OsState) : (rn w os).map (fun s => adr2.map s.heap.get?) = some ((K2 w.params).map fun p => some p.2) := by kernel_rfl
theorem left_c3 (w : World) (os : OsState) : (rn w os).map (fun s => adr3.map s.heap.get?) = some ((K3 w.params).map fun p => some p.2) := by kernel_rfl
theorem left_c4 (w : World) (os : OsState) : (rn w os).map (fun s => adr4.map s.heap.get?) = some ((K4 w.params).map fun p => some p.2) := by kernel_rfl
theorem left_e (w : World) (os : OsState) : (rn w os).map (Hook.obs hook) = some (Hook.val hook w) := by
  obtain ⟨s, h1, h2⟩ := Option.map_eq_some_iff.mp (left_c1 w os);have h3 := left_c2 w os;have h4 := left_c3 w os;have h5 := left_c4 w os;rw [h1] at h3 h4 h5 ⊢;have h3 : adr2.map s.heap.get? = _ := Option.some.inj h3;have h4 : adr3.map s.heap.get? = _ := Option.some.inj h4;have h5 : adr4.map s.heap.get? = _ := Option.some.inj h5;show some ((adr1 ++ (adr2 ++ (adr3 ++ adr4))).map s.heap.get?) = some ((K1 w.params ++ (K2 w.params ++ (K3 w.params ++ K4 w.params))).map fun p => some p.2);rw [List.map_append, List.map_append, List.map_append, List.map_append, List.map_append, List.map_append, h2, h3, h4, h5]
theorem left : LeftO P q loose (fun s => xlAt q [] s && recOk (RowW.records row.row.toRowW) s) (Hook.obs hook) (Hook.val hook) 10058 :=
  left_one (m₀ := 11) (ann := (some (.ref 6))) (r := rn) (by kernel_rfl) (by kernel_rfl) (fun s => by kernel_rfl) (fun w => by kernel_rfl) go_d left_a (by rw [PySem.W.Fast.te4187177175401517315]; exact left_b) left_e
theorem said0 : row.wellSaid = true := by
  rw [PySem.W.Fast.te9446332074065402090];kernel_rfl
theorem fin (hc : ∀ d : DefRec, d.name = "law" → d.params.defaults = [] → WalkO q loose (XL q []) (Hook.says hook) row.row.toRowW d [] (fun f vs => PySem.call f vs)) : row.Holds := by
  refine holds_law (l := row) said0 fun said => ?_
  refine holds_open (q := q) (loose := loose) (Xt := fun s => xlAt q [] s && recOk (RowW.records row.row.toRowW) s) (XP := XL q []) (Yf := Hook.obs hook) (Ya := Hook.val hook) (YP := Hook.says hook) (N := 10058) left (Hook.of hook) (Hook.keeps hook) (fun s e => xl_of s (Bool.and_eq_true_iff.mp e).1) XL.keeps (by rfl) (by rfl) (by rfl) (fun s e => recFacts_of (Bool.and_eq_true_iff.mp e).2) (by rfl) said (by decide +kernel) ⟨rfl, rfl, rfl, rfl, rfl, by decide +kernel⟩ ?hw (hc _ rfl rfl)
  case hw => w_witness2
end HD
set_option Elab.async false
set_option linter.all false
set_option maxRecDepth 100000
namespace L2
open PySem PySem.Spec PyProof.Rows
variable{us:List Value}{i t':Nat}{u:Value}{C a b dx f:Addr}{w:World}{h h':Heap}{pins:List (Addr×Obj)}{s:l7}{c e tg:Expr}{p pos pos':Pos}{Q:Value->l7->Prop}{es:List Expr}{ps:List Str}{m:Str->Option Value}
abbrev Key:=Sum Int Str
def b5j:Key->Value->Bool
 | .inl k,v=>Value.isInt k v
 | .inr x,v=>Value.isStrOf x v
def d4G(w:World):Key->Int
 | .inl k=>hashInt k
 | .inr x=>hashStr w x
theorem a0t:∀ {k:Key} {v:Value},b5j k v=true->(∃i t,k=Sum.inl i/\v=Value.int i t)\/(∃x t,k=Sum.inr x/\v=Value.str x t)
 | .inl i,v,h=>by
  obtain⟨t,e⟩:=Value.isInt_shape (k:=i) (v:=v) h;exact .inl ⟨i,t,rfl,e⟩
 | .inr x,v,h=>by
  obtain⟨t,e⟩:=Value.isStrOf_shape (x:=x) (v:=v) h;exact .inr ⟨x,t,rfl,e⟩
theorem c4q(i:Int)(t:Tok):b5j (.inl i) (.int i t)=true:=by simp[b5j,Value.isInt]
theorem c4p(x:Str)(t:Tok):b5j (.inr x) (.str x t)=true:=by simp[b5j,Value.isStrOf]
theorem d2o(a b:Int):decide ((Sum.inl a:Key)=Sum.inl b)=(a == b):=by
 by_cases e:a=b
 ·subst e;simp
 ·have h:¬(Sum.inl a:Key)=Sum.inl b:=fun q=>e (Sum.inl.inj q)
  rw[d6w h];exact(beq_eq_false_iff_ne.mpr e).symm
theorem d2l(a b:Str):decide ((Sum.inr a:Key)=Sum.inr b)=decide (a=b):=by
 by_cases e:a=b
 ·subst e;simp
 ·have h:¬(Sum.inr a:Key)=Sum.inr b:=fun q=>e (Sum.inr.inj q)
  rw[d6w h,d6w e]
theorem d2n(a:Int)(b:Str):decide ((Sum.inl a:Key)=Sum.inr b)=false:=d6w (fun q=>nomatch q)
theorem d2m(a:Str)(b:Int):decide ((Sum.inr a:Key)=Sum.inl b)=false:=d6w (fun q=>nomatch q)
def P0(prog:D8)(w:World):PySem.KeyKind prog w Key where
 is:=b5j
 hash:=d4G w
 inj:=fun v a b ha hb=>by
  rcases a0t ha with ⟨i,t,rfl,rfl⟩ | ⟨x,t,rfl,rfl⟩
  ·rcases a0t hb with ⟨j,u,rfl,e⟩ | ⟨y,u,rfl,e⟩
   ·injection e with e1 _;rw[e1]
   ·exact nomatch e
  ·rcases a0t hb with ⟨j,u,rfl,e⟩ | ⟨y,u,rfl,e⟩
   ·exact nomatch e
   ·injection e with e1 _;rw[e1]
 byValue:=fun k v h=>by
  rcases a0t h with ⟨i,t,rfl,rfl⟩ | ⟨x,t,rfl,rfl⟩ <;> rfl
 pyHash:=fun hv h=>by
  rcases a0t hv with ⟨i,t,rfl,rfl⟩ | ⟨x,t,rfl,rfl⟩
  ·exact wpAny_pyHash_int h
  ·exact wpAny_pyHash_str h
 eqBool:=fun hu hv h=>by
  rcases a0t hu with ⟨i,t,rfl,rfl⟩ | ⟨x,t,rfl,rfl⟩
  ·rcases a0t hv with ⟨j,u,rfl,rfl⟩ | ⟨y,u,rfl,rfl⟩
   ·rw[d2o]at h;exact wpAny_eqBool_int h
   ·rw[d2n]at h;exact SeqAt.EqAt.int_str i t y u _ _ _ _ h
  ·rcases a0t hv with ⟨j,u,rfl,rfl⟩ | ⟨y,u,rfl,rfl⟩
   ·rw[d2m]at h;exact SeqAt.EqAt.str_int x t j u _ _ _ _ h
   ·rw[d2l]at h;exact wpAny_eqBool_str h
 «strs» := fun k x t v h=>by
  rcases a0t h with ⟨i,u,rfl,e⟩ | ⟨y,u,rfl,e⟩
  ·exact nomatch e
  ·injection e with e1 _
   subst e1;cases v <;> rfl
theorem b9N(prog:D8)(w:World)(i:Int)(t:Tok):(P0 prog w).is (.inl i) (.int i t)=true:=c4q i t
theorem b9M(prog:D8)(w:World)(x:Str)(t:Tok):(P0 prog w).is (.inr x) (.str x t)=true:=c4p x t
inductive V where
 | non | bl (b:Bool) | int (i:Int) | str (x:Str) | byt (b:Array UInt8) | flt (b:UInt64) | ref (a:Addr) | ty (n:String)
 deriving DecidableEq
variable{v y:V}{xs:List V}{kvs:List (Key×V)}
def K8:V->Value->Prop
 | .non,u=>u=Value.none
 | .bl b,u=>u=Value.bool b
 | .int i,u=>∃t,u=Value.int i t
 | .str x,u=>∃t,u=Value.str x t
 | .byt b,u=>∃t,u=Value.bytes b t
 | .flt b,u=>∃t,u=Value.float b t
 | .ref a,u=>u=Value.ref a
 | .ty n,u=>u=Value.type n
abbrev L1:List V->List Value->Prop:=Paired K8
theorem L1.length(r:L1 xs us):xs.length=us.length:=Paired.length r
theorem L1.get:∀ {xs:List V} {us:List Value} {i:Nat} {x:V},L1 xs us->xs[i]? = some x->∃u,us[i]? = some u/\K8 x u
 | _,_,_,_,.nil,e=>by simp at e
 | _,_,0,_,.cons r _,e=>by simp at e;subst e;exact⟨_,rfl,r⟩
 | _,_,i+1,x,.cons _ t,e=>by
  obtain⟨u,h1,h2⟩:=L1.get (i:=i) (x:=x) t (by simpa using e);exact⟨u,by simpa using h1,h2⟩
theorem L1.set{x:V}(r:K8 x u):∀ {xs:List V} {us:List Value} (i:Nat),L1 xs us->L1 (xs.set i x) (us.set i u)
 | _,_,_,.nil=>.nil
 | _,_,0,.cons _ t=>.cons r t
 | _,_,i+1,.cons q t=>.cons q (L1.set r i t)
theorem L1.append:∀ {xs ys:List V} {us ws:List Value},L1 xs us->L1 ys ws->L1 (xs++ys) (us++ws)
 | _,_,_,_,.nil,s=>s
 | _,_,_,_,.cons r t,s=>.cons r (L1.append t s)
theorem L1.take:∀ {xs:List V} {us:List Value} (n:Nat),L1 xs us->L1 (xs.take n) (us.take n)
 | _,_,0,_=>.nil
 | _,_,_+1,.nil=>.nil
 | _,_,n+1,.cons r t=>.cons r (L1.take n t)
theorem L1.drop:∀ {xs:List V} {us:List Value} (n:Nat),L1 xs us->L1 (xs.drop n) (us.drop n)
 | _,_,0,r=>r
 | _,_,_+1,.nil=>.nil
 | _,_,n+1,.cons _ t=>L1.drop n t
def a7U:Option V->Option Value->Prop
 | some v,some u=>K8 v u
 | none,none=>True
 | _,_=>False
def KV{κ:Type}:List (κ×V)->List (κ×Value)->Prop:=Paired fun(p:κ×V) (q:κ×Value)=>p.1=q.1/\K8 p.2 q.2
def kV:Key->V
 | .inl i=>.int i
 | .inr x=>.str x
inductive HO where
 /-- a list -/
 | lst (xs:List V)
 /-- a tuple (never changes) -/
 | tup (xs:List V)
 /-- a dict whose keys are ints and texts;one whose keys are tuples of ints and texts (the empty one is both) -/
 | dK (kvs:List (Key×V)) | dT (kvs:List (List Key×V))
 /-- a set of ints: its members,its size -/
 | set (S:Int->Bool) (n:Nat)
 /-- an instance of the class at C,its dict at dx,its attributes -/
 | ins (C dx:Addr) (fs:List (Str×V))
 /-- the dict of the instance at x -/
 | own (x:Addr)
 /-- the dict of an exception -/
 | xd (fs:List (Str×V))
 /-- a bound method,f of x -/
 | met (f x:Addr)
 /-- a range object lo,lo+1,.. below hi -/
 | rng (lo hi:Int)
 /-- a thing that is known to the object (the script;a dict while a loop walks it): read,never written while it is so -/
 | frz (o:Obj) (u:HO)
 /-- a code object's table -/
 | tbl (ps:Array Value)
 /-- any other thing,by what is true of its one object (a def of one's own: SetO a S n:=HO.ext fun h=>..) -/
 | ext (φ:Heap->Prop)
variable{o:HO}
abbrev Hp:=Addr->Option HO
variable{H H':Hp}
def upd(H:Hp)(a:Addr)(o:HO):Hp:=fun b=>if b=a then some o else H b
theorem d8:upd H a o a=some o:=by unfold upd;rw[if_pos rfl]
theorem i8(h:b≠a):upd H a o b=H b:=by unfold upd;rw[if_neg h]
theorem b3G{u:HO}:upd (upd H a o) a u=upd H a u:=by
 funext b;unfold upd;split <;> rfl
theorem O3{u:HO}(h:H a=some o)(h':H b=some u)(d:o≠u):a≠b:=by
 intro e;subst e;rw[h]at h';exact d (Option.some.inj h')
theorem c9(h:H a=some o)(h':H b=none):a≠b:=by
 intro e;subst e;rw[h]at h';cases h'
section
variable (P:D8)(w:World)
def a0v(H:Hp)(h:Heap)(a:Addr):HO->Prop
 | .lst xs=>xs.length<=u7/\∃(its:List Value) (n:Nat),L1 xs its/\h.get? a=some { cls:=.type "list",data:=.seq its.toArray n }
 | .tup xs=>xs.length<=u7/\∃its:List Value,L1 xs its/\IsTup h a its.toArray
 | .dK kvs=>kvs.length<=u7/\(a == a2c)=false/\∃vs,KV kvs vs/\h.DictOf (P0 P w) a vs
 | .dT kvs=>kvs.length<=u7/\(a == a2c)=false/\∃xs:List (List Key×Addr×Value),
   Paired (fun(p:List Key×V) (q:List Key×Addr×Value)=>p.1=q.1/\H q.2.1=some (.tup (p.1.map kV))/\K8 p.2 q.2.2) kvs xs /\
   ∃o es ep,h.get? a=some o/\o.ExactDict/\o.data=.dict es ep/\es.toList=xs.map (c9Z (a4B (P0 P w)))/\(xs.map (·.1)).Nodup
 | .set S n=>h.SetOf (intKind P w) a S n
 | .ins C dx fs=>H dx=some (.own a)/\fs.length<=1000/\dx≠a/\h.get? a=some (a1b C dx) /\
   ∃mA,h.Ns1 dx mA/\(∀f,a7U (fs.lookup f) (mA f))/\PySem.Within mA (fs.map (·.1))
 | .own _=>∃o,h.get? a=some o
 | .xd fs=>∃mA,h.Ns1 a mA/\∀f,a7U (fs.lookup f) (mA f)
 | .rng lo hi=>∃t u v,h.get? a=some { cls:=.type "range",data:=.fields #[.int lo t,.int hi u,.int 1 v] }
 | .frz o u=>h.get? a=some o/\a0v H h a u
 | .tbl ps=>h.get? a=some { cls:=.none,data:=.fields ps }
 | .met f x=>h.get? a=some (b2T (.ref f) (.ref x))
 | .ext φ=>φ h/\(∃o,h.get? a=some o)/\∀h1 h2:Heap,φ h1->(∀o,h1.get? a=some o->h2.get? a=some o)->φ h2
def HOk(H:Hp)(h:Heap):Prop:=∀a o,H a=some o->a0v P w H h a o
end
section
variable {P:D8}
theorem a0v.lt(x:a0v P w H h a o):a<h.objs.size:=by
 cases o with
 | lst xs=>obtain⟨_,_,_,_,e⟩:=x;exact o0 e
 | tup xs=>obtain⟨_,_,_,p⟩:=x;exact p.lt
 | dK kvs=>obtain⟨_,_,_,_,o,_,_,e,_⟩:=x;exact o0 e
 | dT kvs=>obtain⟨_,_,_,_,o,_,_,e,_⟩:=x;exact o0 e
 | set S n=>obtain⟨o,_,_,_,e,_⟩:=x;exact o0 e
 | ins C dx fs=>obtain⟨_,_,_,e,_⟩:=x;exact o0 e
 | own y=>obtain⟨_,e⟩:=x;exact o0 e
 | xd fs=>obtain⟨_,⟨_,_,_,e,_⟩,_⟩:=x;exact o0 e
 | rng lo hi=>obtain⟨_,_,_,e⟩:=x;exact o0 e
 | frz ob u=>obtain⟨e,_⟩:=x;exact o0 e
 | tbl ps=>exact o0 (show h.get? a=some _ from x)
 | met f y=>exact o0 (show h.get? a=some _ from x)
 | ext φ=>obtain⟨_,⟨_,e⟩,_⟩:=x;exact o0 e
theorem Paired.mapP{α β:Type}{F G:α->β->Prop}:∀ {l₁:List α} {l₂:List β},Paired F l₁ l₂->(∀a b,F a b->G a b)->Paired G l₁ l₂
 | _,_,.nil,_=>.nil
 | _,_,.cons r t,f=>.cons (f _ _ r) (Paired.mapP t f)
theorem a0v.stay(x:a0v P w H h a o)(k:∀b u,(b=a\/H b=some (.own a))->h.get? b=some u->h'.get? b=some u)
  (ho:∀b,H b=some (.own a)->H' b=some (.own a)) (ht:∀b xs,H b=some (.tup xs)->H' b=some (.tup xs)):a0v P w H' h' a o:=by
 induction o with
 | lst xs=>obtain⟨z,its,n,r,e⟩:=x;exact⟨z,its,n,r,k _ _ (.inl rfl) e⟩
 | tup xs=>obtain⟨z,its,r,ob,e,c⟩:=x;exact⟨z,its,r,ob,k _ _ (.inl rfl) e,c⟩
 | dK kvs=>obtain⟨z,y,vs,r,ob,es,ep,e,c⟩:=x;exact⟨z,y,vs,r,ob,es,ep,k _ _ (.inl rfl) e,c⟩
 | dT kvs=>
  obtain⟨z,y,xs,r,ob,es,ep,e,c⟩:=x;exact⟨z,y,xs,Paired.mapP r fun p q z=>⟨z.1,ht _ _ z.2.1,z.2.2⟩,ob,es,ep,k _ _ (.inl rfl) e,c⟩
 | set S n=>obtain⟨ob,es,ep,t,e,c⟩:=x;exact⟨ob,es,ep,t,k _ _ (.inl rfl) e,c⟩
 | ins C dx fs=>
  obtain⟨d,z,ne,e,mA,⟨od,es,ep,e2,c⟩,r⟩:=x;exact⟨ho _ d,z,ne,k _ _ (.inl rfl) e,mA,⟨od,es,ep,k _ _ (.inr d) e2,c⟩,r⟩
 | own y=>obtain⟨ob,e⟩:=x;exact⟨ob,k _ _ (.inl rfl) e⟩
 | xd fs=>obtain⟨mA,⟨od,es,ep,e,c⟩,r⟩:=x;exact⟨mA,⟨od,es,ep,k _ _ (.inl rfl) e,c⟩,r⟩
 | rng lo hi=>obtain⟨t,u,v,e⟩:=x;exact⟨t,u,v,k _ _ (.inl rfl) e⟩
 | frz ob u ih=>obtain⟨e,q⟩:=x;exact⟨k _ _ (.inl rfl) e,ih q⟩
 | tbl ps=>
  have e:h.get? a=some { cls:=.none,data:=.fields ps }:=x;show h'.get? a=some { cls:=.none,data:=.fields ps };exact k a _ (.inl rfl) e
 | met f y=>
  have e:h.get? a=some (b2T (.ref f) (.ref y)):=x;show h'.get? a=some (b2T (.ref f) (.ref y));exact k a _ (.inl rfl) e
 | ext φ=>obtain⟨p,⟨o,e⟩,st⟩:=x;exact⟨st _ _ p fun o q=>k _ _ (.inl rfl) q,⟨o,k _ _ (.inl rfl) e⟩,st⟩
theorem HOk.lt(x:HOk P w H h)(e:H a=some o):a<h.objs.size:=(x a o e).lt
theorem HOk.fresh(x:HOk P w H h)(e:h.objs.size<=a):H a=none:=by
 cases q:H a with
 | none=>rfl
 | some u=>exact absurd (D0 (x.lt q) e) (P7 _)
theorem HOk.kept(x:HOk P w H h)(k:∀b u,h.get? b=some u->h'.get? b=some u):HOk P w H h':=fun a o e=>
 (x a o e).stay (fun b u _ q=>k b u q) (fun _ q=>q) fun _ _ q=>q
theorem HOk.laid(x:HOk P w H h)(k:∀b u,h.get? b=some u->h'.get? b=some u)(hp:h.objs.size<=a)(new:a0v P w (upd H a o) h' a o):HOk P w (upd H a o) h':=fun b u e=>by
 have hn:=x.fresh hp;by_cases hb:b=a
 ·subst hb;rw[d8]at e;cases e;exact new
 ·rw[i8 hb]at e
  exact(x b u e).stay (fun c v _ q=>k c v q) (fun c q=>by rw[i8 (c9 q hn)];exact q) fun c xs q=>by rw[i8 (c9 q hn)];exact q
end
def Rd(H:Hp)(a:Addr)(u:HO):Prop:=H a=some u\/∃o,H a=some (.frz o u)
theorem Rd.ok{P:D8}{u:HO}(r:Rd H a u)(x:HOk P w H h):a0v P w H h a u:=by
 rcases r with r | ⟨o,r⟩
 ·exact x a u r
 ·obtain⟨_,q⟩:=x a _ r
  exact q
def Mut:Option HO->Prop
 | some (.lst _)=>True
 | some (.dK _)=>True
 | some (.dT _)=>True
 | some (.set _ _)=>True
 | some (.ins _ _ _)=>True
 | some (.ext _)=>True
 | _=>False
section
variable {P:D8}{x e:Addr}{o':HO}
theorem HOk.write(ok:HOk P w H h)(mu:Mut (H x))(he:e=x\/H e=some (.own x))(k:∀b u,b≠e->h.get? b=some u->h'.get? b=some u)(heo:∃u,h'.get? e=some u)
  (new:a0v P w (upd H x o') h' x o'):HOk P w (upd H x o') h':=fun b u q=>by
 have nown:∀c y,H c=some (.own y)->c≠x:=fun c y r z=>by subst z;rw[r]at mu;exact mu
 have ntup:∀c xs,H c=some (.tup xs)->c≠x:=fun c xs r z=>by subst z;rw[r]at mu;exact mu
 by_cases hb:b=x
 ·subst hb;rw[d8]at q;cases q;exact new
 ·rw[i8 hb]at q
  by_cases hbe:b=e
  ·have q':H b=some (.own x):=by
    rcases he with z | z
    ·exact absurd (hbe.trans z) hb
    ·rw[hbe];exact z
   rw[q]at q';cases q';obtain⟨v,hv⟩:=heo;exact⟨v,by rw[hbe];exact hv⟩
  ·refine(ok b u q).stay (fun c v hc r=>k c v ?_ r) (fun c r=>by rw[i8 (nown c b r)];exact r) fun c xs r=>by rw[i8 (ntup c xs r)];exact r
   rcases hc with rfl | hc
   ·exact hbe
   ·rintro rfl
    rcases he with z | z
    ·exact nown c b hc z
    ·rw[hc]at z;cases z;exact hb rfl
end
structure Un(fs ex:List Addr)(H H':Hp)(h h':Heap):Prop where
 keep:∀b o,h.get? b=some o->H b=none->b∉fs->b∉ex->h'.get? b=some o
 slot:∀b o,h.get? b=some o->H b=none->b∈fs->b∉ex->∃sl,h'.get? b=some { o with slots:=sl }
 free:∀b o,h.get? b=some o->H b=none->b∉ex->H' b=none
 there:∀b o,h.get? b=some o->b∉ex->∃o',h'.get? b=some o'
 tups:∀b xs,H b=some (.tup xs)->H' b=some (.tup xs)
 frzs:∀b o u,H b=some (.frz o u)->H' b=some (.frz o u)
 tbls:∀b ps,H b=some (.tbl ps)->∃more,H' b=some (.tbl (ps++more))
section
variable {fs fs' ex ex':List Addr}{H1 H2:Hp}{h1 h2:Heap}{x e:Addr}
theorem Un.any(u:Un fs ex H H1 h h1){ob:Obj}(q:h.get? b=some ob)(n:H b=none)(hx:b∉ex):∃sl,h1.get? b=some { ob with slots:=sl }:=by
 by_cases hb:b∈fs
 ·exact u.slot b ob q n hb hx
 ·exact⟨ob.slots,u.keep b ob q n hb hx⟩
theorem Un.kept(k:∀b u,h.get? b=some u->h'.get? b=some u):Un fs ex H H h h':=
 ⟨fun b ob q _ _ _=>k b ob q,fun b ob q _ _ _=>⟨ob.slots,k b ob q⟩,fun _ _ _ n _=>n,fun b ob q _=>⟨ob,k b ob q⟩,fun _ _ q=>q,fun _ _ _ q=>q,fun _ ps q=>⟨#[],by rw[q];simp⟩⟩
theorem Un.refl:Un fs ex H H h h:=Un.kept fun _ _ q=>q
theorem Un.laid(k:∀b u,h.get? b=some u->h'.get? b=some u)(hp:h.objs.size<=a)(hn:H a=none):Un fs ex H (upd H a o) h h' where
 keep:=fun b u q _ _ _=>k b u q
 slot:=fun b u q _ _ _=>⟨u.slots,k b u q⟩
 free:=fun b u q n _=>by rw[i8 (A0 (D0 (o0 q) hp))];exact n
 there:=fun b u q _=>⟨u,k b u q⟩
 tups:=fun b xs q=>by rw[i8 (c9 q hn)];exact q
 frzs:=fun b u xs q=>by rw[i8 (c9 q hn)];exact q
 tbls:=fun b ps q=>⟨#[],by rw[i8 (c9 q hn),q];simp⟩
theorem Un.write(mu:Mut (H x))(he:e=x\/H e=some (.own x))(k:∀b u,b≠e->h.get? b=some u->h'.get? b=some u)(heo:∃u,h'.get? e=some u):Un fs ex H (upd H x o) h h':=by
 have hx:∀b,H b=none->b≠x:=fun b n z=>by subst z;rw[n]at mu;exact mu
 have hb:∀b,H b=none->b≠e:=fun b n z=>by
  subst z;rcases he with r | r
  ·exact hx b n r
  ·rw[n]at r;cases r
 have hm:∀b u,H b=some u->¬Mut (some u)->b≠x:=fun b u q nm z=>by subst z;rw[q]at mu;exact nm mu
 refine⟨fun b u q n _ _=>k b u (hb b n) q,fun b u q n _ _=>⟨u.slots,k b u (hb b n) q⟩,fun b u q n _=>by rw[i8 (hx b n)];exact n,fun b u q _=>?_,
  fun b xs q=>by rw[i8 (hm b _ q fun z=>z)];exact q,fun b u xs q=>by rw[i8 (hm b _ q fun z=>z)];exact q,fun b ps q=>⟨#[],by rw[i8 (hm b _ q fun z=>z),q];simp⟩⟩
 by_cases hbe:b=e
 ·subst hbe;exact heo
 ·exact⟨u,k b u hbe q⟩
end
def trk(h:Heap)(H:Hp):List Addr:=(C1 h.objs.size).filter fun a=>(H a).isSome
def b7V(h:Heap)(H:Hp):Heap:=PySem.W.hideAll h (trk h H)
theorem c4u(h:Heap)(H:Hp):(b7V h H).objs.size=h.objs.size:=PySem.W.hideAll_size _ _
theorem c7f{o:Obj}(e:h.get? b=some o)(n:H b=none):(b7V h H).get? b=some o:=
 PySem.W.hideAll_get _ e fun hm=>by
  have q:(H b).isSome=true:=(E8.mp hm).2;rw[n]at q;simp at q
theorem c9m{o:Obj}(e:(b7V h H).get? b=some o):h.get? b=some o/\H b=none:=by
 have e':h.get? b=some o:=PySem.W.of_hideAll (trk h H) e;refine⟨e',?_⟩;cases q:H b with
 | none=>rfl
 | some x=>
  have hm:b∈trk h H:=E8.mpr ⟨Q8.mpr (o0 e'),by simp[q]⟩;have z:(b7V h H).get? b=none:=PySem.W.hideAll_none (trk h H) hm;rw[z]at e;cases e
def c9L(g h:Heap)(L:Addr):List (Addr×Obj):=(C1 h.objs.size).filterMap fun a=>if a=L\/(g.get? a).isSome=true then none else (h.get? a).map fun o=>(a,o)
def a7p(g h:Heap)(L d:Addr):List (Addr×Obj):=(c9L g h L).filter fun p=>decide (p.1≠d)
structure Mod(K:Fg)(mg:Str->Option Value)(base:Heap):Prop where
 kin:K.In base
 glob:base.Ns A7 mg
 blt:∃mb,base.Ns builtinsNs mb/\∀x:Str,x ≠ "__name__" -> mb x=a3C x
 nolimit:base.NoLimit
structure Cx where
 prog:D8
 w:World
 K:Fg
 mg:Str->Option Value
 base:Heap
 A:T3
 N:List Str
 s₀:l7
 H₀:Hp
 env:Env
 outer:List Env
 stack:List Env
 ex:List Addr
 fn:Str->Bool
 calm:Bool
 pn:List (Addr×Obj)
 xe:Value->l7->Prop
variable{X:Cx}
def frs(l:List Env):List Addr:=l.filterMap (·.frame)
abbrev Cx.fs(X:Cx):List Addr:=frs X.outer
def Vis(sc:Scope)(x:Str):Prop:=sc.names.lookup x=some .local\/sc.names.lookup x=some .cell\/sc.names.lookup x=some .free
def Loc(sc:Scope)(x:Str):Prop:=sc.names.lookup x=some .local\/sc.names.lookup x=some .cell
def d4K(env:Env)(h:Heap)(m:Str->Option Value)(x:Str)(u:Value):Prop:=
 (env.kindOf x=some .local/\m x=some u)\/((env.kindOf x=some .cell\/env.kindOf x=some .free)/\∃c,env.cells.lookup x=some c/\h.IsCell c (some u))
structure Cx.Ok(X:Cx):Prop where
 mod:Mod X.K X.mg X.base
 kind:X.env.scope.kind=.function
 glob:X.env.globals=A7
 blt:X.env.builtins=builtinsNs
 above:X.s₀.heap.objs.size<=X.env.locals
 inj:∀x y c,X.env.cells.lookup x=some c->X.env.cells.lookup y=some c->x=y
 has:∀x,(X.env.kindOf x=some .cell\/X.env.kindOf x=some .free)->∃c,X.env.cells.lookup x=some c
 cab:∀x c,X.fn x=true->X.env.cells.lookup x=some c->X.s₀.heap.objs.size<=c
 hd:X.calm=true->X.A.handled=none
 frames:X.A.frames=some X.stack
 stk:X.stack=X.outer\/(X.stack=X.env::X.outer/\X.env.frame=some X.env.locals)
 exf:∀b∈X.ex,b≠X.env.locals/\∀x c,X.env.cells.lookup x=some c->c≠b
 bs:∀b o,X.base.get? b=some o->X.s₀.heap.get? b=some o/\X.H₀ b=none
 bsz:X.base.objs.size<=X.s₀.heap.objs.size
 noex:∀b o,X.base.get? b=some o->b∉X.ex
 exfs:∀b∈X.ex,b∉X.fs
 funs:X.s₀.heap.FunFrames X.base X.outer
 frf:∀b∈X.fs,X.H₀ b=none
structure Inv(X:Cx)(pins:List (Addr×Obj))(σ:List (Option V))(H:Hp)(s:l7):Prop where
 ok:X.Ok
 os:s.os=X.s₀.os
 bare:b7e s.gens
 base:Un X.fs X.ex X.H₀ H X.s₀.heap s.heap
 loc:∃m,s.heap.Ns X.env.locals m/\∀(i:Nat) (x:Str) (v:V),X.N[i]? = some x->σ[i]? = some (some v)->Vis X.env.scope x->∃u,K8 v u/\d4K X.env s.heap m x u
 cell:∀x c,X.env.cells.lookup x=some c->∃v,s.heap.IsCell c v
 free:H X.env.locals=none
 freeC:∀x c,X.env.cells.lookup x=some c->H c=none
 pin:∀p∈X.pn++pins,s.heap.get? p.1=some p.2/\H p.1=none/\p.1≠X.env.locals/\p.1∉X.fs/\∀v,p.2.data≠.cell v
 hok:HOk X.prog X.w H s.heap
 len:σ.length=X.N.length
section
variable {σ:List (Option V)}
theorem Cx.Ok.nofr(ok:X.Ok){o:Obj}(e:X.base.get? b=some o):b∉X.fs:=fun hb=>by
 have:=(ok.funs.mem hb).1;rw[e]at this;cases this
theorem Inv.bs(I:Inv X pins σ H s):∀b o,X.base.get? b=some o->s.heap.get? b=some o/\H b=none:=fun b o e=>
 ⟨I.base.keep b o (I.ok.bs b o e).1 (I.ok.bs b o e).2 (I.ok.nofr e) (I.ok.noex b o e),I.base.free b o (I.ok.bs b o e).1 (I.ok.bs b o e).2 (I.ok.noex b o e)⟩
theorem Inv.bk(I:Inv X pins σ H s):∀b o,X.base.get? b=some o->s.heap.get? b=some o:=fun b o e=>(I.bs b o e).1
theorem Inv.mod(I:Inv X pins σ H s):Mod X.K X.mg X.base:=I.ok.mod
theorem Inv.kIn(I:Inv X pins σ H s):X.K.In s.heap:=I.ok.mod.kin.keeps I.bk
theorem Inv.lt(I:Inv X pins σ H s):X.env.locals<s.heap.objs.size:=let⟨_,hn,_⟩:=I.loc;hn.lt
theorem Inv.sz(I:Inv X pins σ H s):X.s₀.heap.objs.size<=s.heap.objs.size:=J4 I.ok.above (a4T I.lt)
theorem Inv.nofs(I:Inv X pins σ H s)(h:s.heap.objs.size<=a):a∉X.fs:=fun hb=>by
 obtain⟨_,o,ho,_⟩:=I.ok.funs.mem hb;exact absurd (D0 (o0 ho) (J4 I.sz h)) (P7 _)
theorem Inv.cne(I:Inv X pins σ H s):∀x c,X.env.cells.lookup x=some c->c≠X.env.locals:=fun x c e z=>by
 obtain⟨v,o,ho,hd⟩:=I.cell x c e;obtain⟨m,⟨o',es,ep,ho',hd',_⟩,_⟩:=I.loc;rw[z,ho']at ho;cases ho;rw[hd']at hd;cases hd
theorem Inv.funs(I:Inv X pins σ H s):s.heap.FunFrames X.base X.outer:=by
 have all:∀(l:List Env),(∀b∈frs l,b∈X.fs)->X.s₀.heap.FunFrames X.base l->s.heap.FunFrames X.base l:=by
  intro l;induction l with
  | nil=>intro _ _;trivial
  | cons env r ih=>
   intro hs hl;obtain⟨hk,⟨L,o,hf,hn,ho,hd⟩,hr⟩:=hl;have hL:L∈X.fs:=hs L (by unfold frs;rw[b1K,hf];exact J8);obtain⟨sl,e⟩:=I.base.slot L o ho (I.ok.frf L hL) hL fun z=>I.ok.exfs L z hL
   exact⟨hk,⟨L,_,hf,hn,e,hd⟩,ih (fun b hb=>hs b (by unfold frs;rw[b1K,hf];exact E9 _ hb)) hr⟩
 exact all X.outer (fun _ hb=>hb) I.ok.funs
theorem Inv.stack(I:Inv X pins σ H s):s.heap.FunFrames X.base X.stack:=by
 rcases I.ok.stk with e | ⟨e,hf⟩
 ·rw[e];exact I.funs
 ·rw[e]
  obtain⟨m,hn,_⟩:=I.loc;refine .cons (by rw[I.ok.kind];decide) hf hn ?_ I.funs;exact Heap.get?_none_of_le (J4 I.ok.bsz I.ok.above)
theorem Inv.stkSub(I:Inv X pins σ H s):∀b∈frs X.stack,b∈X.env.locals::X.fs:=fun b hb=>by
 rcases I.ok.stk with e | ⟨e,hf⟩
 ·rw[e]at hb;exact E9 _ hb
 ·rw[e]at hb
  unfold frs at hb;rw[b1K,hf]at hb;exact hb
theorem Inv.stkFree(I:Inv X pins σ H s):∀b∈frs X.stack,H b=none:=fun b hb=>by
 rcases u6.mp (I.stkSub b hb)with e | hb
 ·rw[e];exact I.free
 ·obtain⟨_,o,ho,_⟩:=I.ok.funs.mem hb
  exact I.base.free b o ho (I.ok.frf b hb) fun z=>I.ok.exfs b z hb
theorem Inv.step{g':Array GenState}{t':Nat}{d':Drawn}{ch:List Addr}(I:Inv X pins σ H s)
  (hch:∀b∈ch,(b∈X.ex\/X.s₀.heap.objs.size<=b)/\b≠X.env.locals/\(∀x c,X.env.cells.lookup x=some c->c≠b)/\∀p∈X.pn++pins,p.1≠b)
  (keep:∀b o,b≠X.env.locals->b∉X.fs->b∉ch->s.heap.get? b=some o->H b=none->h'.get? b=some o)
  (slot:∀b o,b≠X.env.locals->b∈X.fs->b∉ch->s.heap.get? b=some o->H b=none->∃sl,h'.get? b=some { o with slots:=sl }) (free:∀b o,b∉ch->s.heap.get? b=some o->H b=none->H' b=none)
  (there:∀b o,b∉ch->s.heap.get? b=some o->∃o',h'.get? b=some o')
  (tups:∀b xs,H b=some (.tup xs)->H' b=some (.tup xs)) (frzs:∀b o u,H b=some (.frz o u)->H' b=some (.frz o u)) (tbls:∀b ps,H b=some (.tbl ps)->∃more,H' b=some (.tbl (ps++more)))
  (ns:∀m,s.heap.Ns X.env.locals m->h'.Ns X.env.locals m) (hok:HOk X.prog X.w H' h') (hg:b7e g') :
  Inv X pins σ H' { s with heap:=h',gens:=g',drawn:=d',toks:=t' }:=by
 have neL:∀b o,X.s₀.heap.get? b=some o->b≠X.env.locals:=fun b o e=>A0 (D0 (o0 e) I.ok.above)
 have neC:∀b o,X.s₀.heap.get? b=some o->b∉X.ex->b∉ch:=fun b o e hx hb=>by
  rcases(hch b hb).1 with z | z
  ·exact hx z
  ·exact absurd (D0 (o0 e) z) (P7 _)
 have cellK:∀x c,X.env.cells.lookup x=some c->∀v,s.heap.IsCell c v->h'.IsCell c v:=fun x c e v ⟨o,ho,hd⟩=>by
  have nch:c∉ch:=fun z=>(hch c z).2.2.1 x c e rfl
  by_cases hc:c∈X.fs
  ·obtain⟨sl,q⟩:=slot c o (I.cne x c e) hc nch ho (I.freeC x c e)
   exact⟨_,q,hd⟩
  ·exact⟨o,keep c o (I.cne x c e) hc nch ho (I.freeC x c e),hd⟩
 refine⟨I.ok,I.os,hg,⟨fun b o e n hb hx=>?_,fun b o e n hb hx=>?_,fun b o e n hx=>?_,fun b o e hx=>?_,fun b xs e=>tups b xs (I.base.tups b xs e),fun b o xs e=>frzs b o xs (I.base.frzs b o xs e),fun b ps e=>?_⟩,?_,fun x c e=>?_,?_,fun x c e=>?_,fun p hp=>?_,hok,I.len⟩
 ·exact keep b o (neL b o e) hb (neC b o e hx) (I.base.keep b o e n hb hx) (I.base.free b o e n hx)
 ·obtain⟨sl,e1⟩:=I.base.slot b o e n hb hx
  obtain⟨sl',e2⟩:=slot b _ (neL b o e) hb (neC b o e hx) e1 (I.base.free b o e n hx);exact⟨sl',e2⟩
 ·obtain⟨o',e1⟩:=I.base.there b o e hx
  exact free b o' (neC b o e hx) e1 (I.base.free b o e n hx)
 ·obtain⟨o',e1⟩:=I.base.there b o e hx
  exact there b o' (neC b o e hx) e1
 ·obtain⟨m1,e1⟩:=I.base.tbls b ps e
  obtain⟨m2,e2⟩:=tbls b _ e1;exact⟨m1++m2,by rw[e2,Array.append_assoc]⟩
 ·obtain⟨m,hn,hl⟩:=I.loc
  refine⟨m,ns m hn,fun i x v e1 e2 e3=>?_⟩;obtain⟨u,r,l⟩:=hl i x v e1 e2 e3;refine⟨u,r,?_⟩;rcases l with l | ⟨k,c,e,z⟩
  ·exact .inl l
  ·exact .inr ⟨k,c,e,cellK x c e _ z⟩
 ·obtain⟨v,z⟩:=I.cell x c e
  exact⟨v,cellK x c e v z⟩
 ·obtain⟨m,⟨o,_,_,ho,_⟩,_⟩:=I.loc
  exact free _ o (fun z=>(hch _ z).2.1 rfl) ho I.free
 ·obtain⟨v,o,ho,hd⟩:=I.cell x c e
  exact free c o (fun z=>(hch c z).2.2.1 x c e rfl) ho (I.freeC x c e)
 ·obtain⟨e,n,ne,nf,d⟩:=I.pin p hp
  have nch:p.1∉ch:=fun z=>(hch p.1 z).2.2.2 p hp rfl
  exact⟨keep p.1 p.2 ne nf nch e n,free p.1 p.2 nch e n,ne,nf,d⟩
theorem Inv.un(I:Inv X pins σ H s)(u:Un X.fs [] H H' s.heap h')(hok:HOk X.prog X.w H' h'):Inv X pins σ H' { s with heap:=h',toks:=t' }:=by
 obtain⟨m,⟨o,es,ep,ho,r⟩,_⟩:=id I.loc;obtain⟨sl,hL⟩:=u.any ho I.free (by simp)
 exact I.step (g':=s.gens) (d':=s.drawn) (ch:=[]) (fun _ z=>nomatch z) (fun b o _ hb _ e n=>u.keep b o e n hb (by simp)) (fun b o _ hb _ e n=>u.slot b o e n hb (by simp)) (fun b o _ e n=>u.free b o e n (by simp)) (fun b o _ e=>u.there b o e (by simp)) u.tups u.frzs u.tbls (fun m' hm=>by
  obtain⟨o',es',ep',ho',r'⟩:=hm;rw[ho]at ho';cases ho';exact⟨_,es',ep',hL,r'⟩) hok I.bare
theorem Inv.call{g':Array GenState}{d':Drawn}{ch:List Addr}(I:Inv X pins σ H s)(u:Un (frs X.stack) ch H H' s.heap h')(hok:HOk X.prog X.w H' h')(hg:b7e g')
  (hch:∀b∈ch,(b∈X.ex\/X.s₀.heap.objs.size<=b)/\b≠X.env.locals/\(∀x c,X.env.cells.lookup x=some c->c≠b)/\∀p∈X.pn++pins,p.1≠b) :
  Inv X pins σ H' { s with heap:=h',gens:=g',drawn:=d',toks:=t' }:=by
 obtain⟨m,⟨o,es,ep,ho,r⟩,_⟩:=id I.loc;obtain⟨sl,hL⟩:=u.any ho I.free fun z=>(hch _ z).2.1 rfl
 exact I.step (ch:=ch) hch (fun b o hL hb hc e n=>u.keep b o e n (fun z=>(u6.mp (I.stkSub b z)).elim hL hb) hc) (fun b o _ _ hc e n=>u.any e n hc) (fun b o hc e n=>u.free b o e n hc) (fun b o hc e=>u.there b o e hc) u.tups u.frzs u.tbls (fun m' hm=>by
  obtain⟨o',es',ep',ho',r'⟩:=hm;rw[ho]at ho';cases ho';exact⟨_,es',ep',hL,r'⟩) hok hg
theorem Inv.turned{it:Addr}(I:Inv X pins σ H s)(k:∀b o,b≠it->s.heap.get? b=some o->h'.get? b=some o)(hn:H it=none)(hL:it≠X.env.locals)
  (h1:it∈X.ex\/X.s₀.heap.objs.size<=it) (h2:∀x c,X.env.cells.lookup x=some c->c≠it) (h3:∀p∈X.pn++pins,p.1≠it):Inv X pins σ H { s with heap:=h',toks:=t' }:=by
 have nit:∀b u,H b=some u->b≠it:=fun b u e z=>by rw[z,hn]at e;cases e
 refine I.step (g':=s.gens) (d':=s.drawn) (ch:=[it]) (fun b hb=>?_) (fun b o _ _ hc e _=>k b o (fun z=>hc (by simp[z])) e) (fun b o _ _ hc e _=>⟨o.slots,k b o (fun z=>hc (by simp[z])) e⟩) (fun _ _ _ _ n=>n)
  (fun b o hc e=>⟨o,k b o (fun z=>hc (by simp[z])) e⟩) (fun _ _ e=>e) (fun _ _ _ e=>e) (fun b ps e=>⟨#[],by rw[e];simp⟩) (fun m hm=>?_) (fun b u e=>?_) I.bare
 ·have e:b=it:=by simpa using hb
  subst e;exact⟨h1,hL,h2,h3⟩
 ·obtain⟨o,es,ep,ho,r⟩:=hm
  exact⟨o,es,ep,k _ o (Ne.symm hL) ho,r⟩
 ·refine(I.hok b u e).stay (fun c v hc q=>k c v ?_ q) (fun _ q=>q) fun _ _ q=>q
  rcases hc with z | z
  ·rw[z];exact nit b u e
  ·exact nit c _ z
theorem Inv.tok(I:Inv X pins σ H s)(t:Nat):Inv X pins σ H { s with toks:=t }:=I.un (h':=s.heap) (t':=t) Un.refl I.hok
theorem Inv.kept(I:Inv X pins σ H s)(k:∀b u,s.heap.get? b=some u->h'.get? b=some u):Inv X pins σ H { s with heap:=h',toks:=t' }:=I.un (Un.kept k) (I.hok.kept k)
theorem Inv.laid(I:Inv X pins σ H s)(k:∀b u,s.heap.get? b=some u->h'.get? b=some u)(hp:s.heap.objs.size<=a)(new:a0v X.prog X.w (upd H a o) h' a o) :
  Inv X pins σ (upd H a o) { s with heap:=h',toks:=t' }:=I.un (Un.laid k hp (I.hok.fresh hp)) (I.hok.laid k hp new)
theorem Inv.write{x e:Addr}(I:Inv X pins σ H s)(mu:Mut (H x))(he:e=x\/H e=some (.own x))(k:∀b u,b≠e->s.heap.get? b=some u->h'.get? b=some u)(heo:∃u,h'.get? e=some u)
  (new:a0v X.prog X.w (upd H x o) h' x o):Inv X pins σ (upd H x o) { s with heap:=h',toks:=t' }:=I.un (Un.write mu he k heo) (I.hok.write mu he k heo new)
theorem Inv.weak{σ':List (Option V)}(I:Inv X pins σ H s)(hl:σ'.length=σ.length)(w:∀(i:Nat) v,σ'[i]? = some (some v)->σ[i]? = some (some v)):Inv X pins σ' H s:=
 ⟨I.ok,I.os,I.bare,I.base,let⟨m,hn,hl'⟩:=I.loc; ⟨m,hn,fun i x v e1 e2 e3=>hl' i x v e1 (w i v e2) e3⟩,I.cell,I.free,I.freeC,I.pin,I.hok,hl.trans I.len⟩
theorem Inv.pins_of{pins':List (Addr×Obj)}(I:Inv X pins σ H s)(h:∀p∈pins',s.heap.get? p.1=some p.2/\H p.1=none/\p.1≠X.env.locals/\p.1∉X.fs/\∀v,p.2.data≠.cell v):Inv X pins' σ H s:=
 ⟨I.ok,I.os,I.bare,I.base,I.loc,I.cell,I.free,I.freeC,fun p hp=>(z8.mp hp).elim (fun z=>I.pin p (y0 _ z)) (h p),I.hok,I.len⟩
theorem b9J{N:List Str}(hN:N.Nodup){j:Nat}{x:Str}(a:N[i]? = some x)(b:N[j]? = some x):i=j:=by
 obtain⟨h1,e1⟩:=k8.mp a;obtain⟨h2,e2⟩:=k8.mp b;exact(List.getElem_inj hN).mp (e1.trans e2.symm)
theorem b1Z{M:Model}{A:T3}{E:Value->l7->Prop}{x:Str}{Q:Unit->l7->Prop}(I:Inv X pins σ H s)(hN:X.N.Nodup)(hi:X.N[i]? = some x)(hx:Loc X.env.scope x)(r:K8 v u)
  (h:∀s',Inv X pins (σ.set i (some v)) H s'->(∃a,Heap.SameBut a s.heap s'.heap/\(a=X.env.locals\/X.env.cells.lookup x=some a))->Q () s') (hf:X.fn x=true\/X.env.scope.names.lookup x=some .local:=by first | exact .inl rfl | exact .inr rfl | assumption):wpAny M A (storeName X.env x u) Q E s:=by
 obtain⟨m,hn,hl⟩:=id I.loc;have hcls:(X.env.scope.kind == .class||(X.env.scope.kind == .module&&X.env.locals != X.env.globals))=false:=by rw[I.ok.kind];rfl
 have hiσ:i<σ.length:=by rw[I.len];exact(k8.mp hi).1
 have cne:=I.cne
 have tracked:∀ {a:Addr} {h':Heap},(∃o,s.heap.get? a=some o/\H a=none)->Heap.SameBut a s.heap h'->HOk X.prog X.w H h':=fun {a h'} ha hs b ob e=>by
  obtain⟨_,_,hfree⟩:=ha;refine(I.hok b ob e).stay (fun c w' hc q=>(hs.2 c ?_).trans q) (fun _ q=>q) fun _ _ q=>q
  rintro rfl;rcases hc with rfl | hc
  ·rw[hfree]at e;cases e
  ·rw[hfree]at hc;cases hc
 rcases hx with hk | hk
 ·refine wpAny_storeName_local hk hn (fun h' hn' hs=>?_) hcls
  obtain⟨oL,_,_,hoL,_⟩:=id hn;refine h _ ⟨I.ok,I.os,I.bare,⟨fun b o e n hb hx=>?_,fun b o e n hb hx=>?_,I.base.free,fun b o e hx=>?_,I.base.tups,I.base.frzs,I.base.tbls⟩,⟨_,hn',fun j y v' e1 e2 e3=>?_⟩,fun y c e=>?_,I.free,I.freeC,fun p hp=>?_,tracked ⟨oL,hoL,I.free⟩ hs,by simpa using I.len⟩ ⟨_,hs,.inl rfl⟩
  ·exact(hs.2 b (A0 (D0 (o0 e) I.ok.above))).trans (I.base.keep b o e n hb hx)
  ·obtain⟨sl,e1⟩:=I.base.slot b o e n hb hx
   exact⟨sl,(hs.2 b (A0 (D0 (o0 e) I.ok.above))).trans e1⟩
  ·obtain⟨o',e1⟩:=I.base.there b o e hx
   exact⟨o',(hs.2 b (A0 (D0 (o0 e) I.ok.above))).trans e1⟩
  ·by_cases hj:j=i
   ·subst hj
    rw[hi]at e1;cases e1;rw[T0 hiσ]at e2;cases e2;exact⟨u,r,.inl ⟨hk,by simp⟩⟩
   ·rw[V8 (Ne.symm hj)]at e2
    obtain⟨u',r',q⟩:=hl j y v' e1 e2 e3;refine⟨u',r',?_⟩;rcases q with ⟨k,e⟩ | ⟨k,c,e,z⟩
    ·refine .inl ⟨k,?_⟩
     have:y≠x:=fun e=>hj (b9J hN e1 (e ▸ hi))
     simp[this,e]
    ·exact .inr ⟨k,c,e,z.sameBut hs (cne y c e)⟩
  ·obtain⟨w',z⟩:=I.cell y c e
   exact⟨w',z.sameBut hs (cne y c e)⟩
  ·obtain⟨e,n,ne,nf,d⟩:=I.pin p hp
   exact⟨(hs.2 p.1 ne).trans e,n,ne,nf,d⟩
 ·have hfn:X.fn x=true:=by
   rcases hf with z | z
   ·exact z
   ·rw[z]at hk;cases hk
  obtain⟨c,hc⟩:=I.ok.has x (.inl hk);obtain⟨w',z⟩:=I.cell x c hc;refine wpAny_storeName_cell I.ok.kind hk hc z (fun h' hc' hs=>?_);obtain⟨oc,hoc,hocd⟩:=id z;refine h { s with heap:=h' } ⟨I.ok,I.os,I.bare,⟨fun b o e n hb hx=>?_,fun b o e n hb hx=>?_,I.base.free,fun b o e hx=>?_,I.base.tups,I.base.frzs,I.base.tbls⟩,⟨m,hn.sameBut hs (Ne.symm (cne x c hc)),fun j y v' e1 e2 e3=>?_⟩,fun y c' e=>?_,I.free,I.freeC,fun p hp=>?_,tracked ⟨oc,hoc,I.freeC x c hc⟩ hs,by simpa using I.len⟩ ⟨c,hs,.inr hc⟩
  ·exact(hs.2 b (A0 (D0 (o0 e) (I.ok.cab x c hfn hc)))).trans (I.base.keep b o e n hb hx)
  ·obtain⟨sl,e1⟩:=I.base.slot b o e n hb hx
   exact⟨sl,(hs.2 b (A0 (D0 (o0 e) (I.ok.cab x c hfn hc)))).trans e1⟩
  ·obtain⟨o',e1⟩:=I.base.there b o e hx
   exact⟨o',(hs.2 b (A0 (D0 (o0 e) (I.ok.cab x c hfn hc)))).trans e1⟩
  ·by_cases hj:j=i
   ·subst hj
    rw[hi]at e1;cases e1;rw[T0 hiσ]at e2;cases e2;exact⟨u,r,.inr ⟨.inl hk,c,hc,hc'⟩⟩
   ·rw[V8 (Ne.symm hj)]at e2
    obtain⟨u',r',q⟩:=hl j y v' e1 e2 e3;refine⟨u',r',?_⟩;rcases q with q | ⟨k,c',e,z'⟩
    ·exact .inl q
    ·refine .inr ⟨k,c',e,z'.sameBut hs ?_⟩
     rintro rfl;exact hj (b9J hN e1 (I.ok.inj _ _ _ e hc ▸ hi))
  ·by_cases hcc:c'=c
   ·subst hcc;exact⟨_,hc'⟩
   ·obtain⟨w2,z2⟩:=I.cell y c' e
    exact⟨w2,z2.sameBut hs hcc⟩
  ·obtain⟨e,n,ne,nf,d⟩:=I.pin p hp
   refine⟨(hs.2 p.1 ?_).trans e,n,ne,nf,d⟩;intro q;rw[q,hoc]at e;have q':oc=p.2:=Option.some.inj e;exact d w' (by rw[<-q'];exact hocd)
theorem b0R{M:Model}{A:T3}{E:Value->l7->Prop}{x:Str}{Q:Unit->l7->Prop}(I:Inv X pins σ H s)(hN:X.N.Nodup)(hi:X.N[i]? = some x)(hx:Loc X.env.scope x)(r:K8 v u)
  (h:∀s',Inv X pins (σ.set i (some v)) H s'->Q () s') (hf:X.fn x=true\/X.env.scope.names.lookup x=some .local:=by first | exact .inl rfl | exact .inr rfl | assumption):wpAny M A (storeName X.env x u) Q E s:=
 b1Z I hN hi hx r (fun s' I' _=>h s' I') hf
theorem Inv.call'{s':l7}{ch:List Addr}(I:Inv X pins σ H s)(ho:s'.os=s.os)(u:Un (frs X.stack) ch H H' s.heap s'.heap)(hok:HOk X.prog X.w H' s'.heap)(hg:b7e s'.gens)
  (hch:∀b∈ch,(b∈X.ex\/X.s₀.heap.objs.size<=b)/\b≠X.env.locals/\(∀x c,X.env.cells.lookup x=some c->c≠b)/\∀p∈X.pn++pins,p.1≠b):Inv X pins σ H' s':=by
 obtain⟨h',g',d',t',o'⟩:=s';have e:o'=s.os:=ho;subst e;exact I.call (g':=g') (t':=t') (d':=d') u hok hg hch
end
abbrev XK:=Value->Option Addr->Hp->Prop
abbrev St:=List (Option V)
variable{σ:St}
abbrev VK:=V->Hp->Prop
abbrev TE:=St->Hp->VK->Prop
variable{t ta te:TE}
abbrev TT:=St->Hp->(Bool->Hp->Prop)->Prop
abbrev TA:=St->Hp->(List V->Hp->Prop)->Prop
structure b0r where
 nx:St->Hp->Prop
 rt:VK
 bk:St->Hp->Prop:=fun _ _=>False
 ct:St->Hp->Prop:=fun _ _=>False
abbrev TS:=b0r->St->Hp->Prop
variable{tb:TS}
def EP(X:Cx)(pins:List (Addr×Obj))(σ:St)(Q:VK)(u:Value)(s':l7):Prop:=∃v H',Inv X pins σ H' s'/\K8 v u/\Q v H'
def TP(X:Cx)(pins:List (Addr×Obj))(σ:St)(Q:Bool->Hp->Prop)(b:Bool)(s':l7):Prop:=∃H',Inv X pins σ H' s'/\Q b H'
def AP(X:Cx)(pins:List (Addr×Obj))(σ:St)(Q:List V->Hp->Prop)(us:List Value)(s':l7):Prop:=∃vs H',Inv X pins σ H' s'/\L1 vs us/\Q vs H'
def SP(X:Cx)(pins:List (Addr×Obj))(D:b0r)(f:Flow)(s':l7):Prop:=
 match f with
 | .next=>∃σ' H',Inv X pins σ' H' s'/\D.nx σ' H'
 | .brk=>∃σ' H',Inv X pins σ' H' s'/\D.bk σ' H'
 | .cont=>∃σ' H',Inv X pins σ' H' s'/\D.ct σ' H'
 | .ret u=>∃v σ' H',Inv X pins σ' H' s'/\K8 v u/\D.rt v H'
def PE(X:Cx)(e:Expr)(t:TE):Prop:=
 ∀(pins:List (Addr×Obj)) (s:l7) (σ:St) (H:Hp) (Q:VK),Inv X pins σ H s->t σ H Q->wpAny (model X.prog X.w) X.A (eval e X.env) (EP X pins σ Q) X.xe s
def PT(X:Cx)(e:Expr)(t:TT):Prop:=
 ∀(pins:List (Addr×Obj)) (s:l7) (σ:St) (H:Hp) (Q:Bool->Hp->Prop),Inv X pins σ H s->t σ H Q->wpAny (model X.prog X.w) X.A (isTrue e X.env (eval e X.env)) (TP X pins σ Q) X.xe s
def PW(X:Cx)(e:Expr)(t:TT):Prop:=
 ∀(whole:Sem Value) (pins:List (Addr×Obj)) (s:l7) (σ:St) (H:Hp) (Q:Bool->Hp->Prop),Inv X pins σ H s->t σ H Q->wpAny (model X.prog X.w) X.A (isTrue e X.env whole) (TP X pins σ Q) X.xe s
theorem PW.pt{t:TT}(h:PW X e t):PT X e t:=h _
def PA(X:Cx)(es:List Expr)(t:TA):Prop:=
 ∀(pos:Pos) (pins:List (Addr×Obj)) (s:l7) (σ:St) (H:Hp) (Q:List V->Hp->Prop),Inv X pins σ H s->t σ H Q->wpAny (model X.prog X.w) X.A (spliced (a1x pos (l6 es X.env))) (AP X pins σ Q) X.xe s
def PS(X:Cx)(st:Stmt)(t:TS):Prop:=
 ∀(pins:List (Addr×Obj)) (s:l7) (σ:St) (H:Hp) (D:b0r),Inv X pins σ H s->t D σ H->wpAny (model X.prog X.w) X.A (exec st X.env) (SP X pins D) X.xe s
def PSs(X:Cx)(st:List Stmt)(t:TS):Prop:=
 ∀(pins:List (Addr×Obj)) (s:l7) (σ:St) (H:Hp) (D:b0r),Inv X pins σ H s->t D σ H->wpAny (model X.prog X.w) X.A (execs st X.env) (SP X pins D) X.xe s
theorem thn{α:Type}{t:Sem α}{Q Q':α->l7->Prop}{M:Model}{A:T3}{E:Value->l7->Prop}(h:wpAny M A t Q E s)(hQ:∀a s,Q a s->Q' a s):wpAny M A t Q' E s:=a1i h hQ fun _ _ x=>x
section
def b4(i:Nat):TE:=fun σ H Q=>∃v,σ[i]? = some (some v)/\Q v H
def tC(v:V):TE:=fun _ H Q=>Q v H
theorem d1x{x:Str}(hN:X.N[i]? = some x)(hv:Vis X.env.scope x)(hd:(x == ("__debug__" : Str))=false:=by decide)(hcd:(x == ("__classdict__" : Str))=false:=by decide):PE X (.Name x pos) (b4 i):=by
 intro pins s σ H Q I h;obtain⟨v,e,h⟩:=h;obtain⟨m,hn,hl⟩:=I.loc;obtain⟨u,r,l⟩:=hl i x v hN e hv;have fin:EP X pins σ Q u s:=⟨v,H,I,r,h⟩;rcases l with ⟨hk,hm⟩ | ⟨hk,c,hc,hcell⟩
 ·exact wpAny_Name (d4n I.ok.kind hk hn hm fin) hd
 ·rcases hk with hk | hk
  ·exact wpAny_Name (d4q I.ok.kind hk hc hcell fin) hd
  ·exact wpAny_Name (wpAny_loadName_free I.ok.kind hk hc hcell fin hcd) hd
theorem d1G{i j pos}:PE X (.Constant (.int i) j pos) (tC (.int i)):=fun _ _ _ H _ I h=>wpAny_Constant_int ⟨.int i,H,I.tok _,⟨_,rfl⟩,h⟩
theorem d3O{b j pos}:PE X (.Constant (.bool b) j pos) (tC (.bl b)):=fun _ _ _ H _ I h=>Constant_bool ⟨.bl b,H,I,rfl,h⟩
theorem d1D{j pos}:PE X (.Constant .none j pos) (tC .non):=fun _ _ _ H _ I h=>Constant_none ⟨.non,H,I,rfl,h⟩
theorem d1z{x j pos}:PE X (.Constant (.str x) j pos) (tC (.str x)):=fun _ _ _ H _ I h=>Calls.Constant_str ⟨.str x,H,I.tok _,⟨_,rfl⟩,h⟩
def Gl(X:Cx)(x:Str):Prop:=X.env.kindOf x=some .globalImplicit
theorem b7R{E:Value->l7->Prop}{x:Str}(I:Inv X pins σ H s)(hg:Gl X x)(hm:X.mg x=some u)(h:Q u s)
  (hd:(x == ("__debug__" : Str))=false:=by decide):wpAny (model X.prog X.w) X.A (eval (.Name x pos) X.env) Q E s:=
 Calls.Name_function_global I.ok.kind hg (Calls.loadGlobal_global (by rw[I.ok.glob];exact I.mod.glob.keeps I.bk) hm h) hd
theorem b0k{E:Value->l7->Prop}{x:Str}(I:Inv X pins σ H s)(hg:Gl X x)(hm:X.mg x=none)(hv:a3C x=some u)(h:Q u s)
  (hn:x ≠ "__name__" := by decide) (hd:(x == ("__debug__" : Str))=false:=by decide):wpAny (model X.prog X.w) X.A (eval (.Name x pos) X.env) Q E s:=by
 obtain⟨mb,h1,h2⟩:=I.mod.blt;exact Calls.Name_function_global I.ok.kind hg (Calls.loadGlobal_builtin (by rw[I.ok.glob];exact I.mod.glob.keeps I.bk) hm (by rw[I.ok.blt];exact h1.keeps I.bk) ((h2 x hn).trans hv) h) hd
theorem c8L{x:Str}(hg:Gl X x)(hm:X.mg x=some u)(r:K8 v u)(hd:(x == ("__debug__" : Str))=false:=by decide):PE X (.Name x pos) (tC v):=
 fun _ _ _ H _ I h=>b7R I hg hm ⟨v,H,I,r,h⟩ hd
theorem c8R{x:Str}(hg:Gl X x)(hm:X.mg x=none)(hv:a3C x=some u)(r:K8 v u)(hn:x ≠ "__name__" := by decide)(hd:(x == ("__debug__" : Str))=false:=by decide):PE X (.Name x pos) (tC v):=
 fun _ _ _ H _ I h=>b0k I hg hm hv ⟨v,H,I,r,h⟩ hn hd
variable {a b:Expr}{tb:TE}
def PC(X:Cx)(op:CmpOp)(a b:Expr)(t:TE):Prop:=
 ∀(pins:List (Addr×Obj)) (s:l7) (σ:St) (H:Hp) (Q:VK),Inv X pins σ H s->t σ H Q ->
  wpAny (model X.prog X.w) X.A (eval a X.env) (fun v s₁=>wpAny (model X.prog X.w) X.A (eval b X.env) (fun u s₂=>wpAny (model X.prog X.w) X.A (A3 op v u) (EP X pins σ Q) X.xe s₂) X.xe s₁) X.xe s
def tB(t:TE):TT:=fun σ H Q=>t σ H fun x H1=>∃c,x=.bl c/\Q c H1
theorem c6C{op:CmpOp}(h:PC X op a b t)(h1:U4 op b=false:=by first | exact nobehind _ (by decide) (by decide) | rfl):PE X (.Compare a [op] [b] pos) t:=fun pins s σ H Q I hw=>wpAny_Compare1 (h pins s σ H Q I hw) h1
theorem c1r{op:CmpOp}(h:PC X op a b t)(h1:U4 op b=false:=by first | exact nobehind _ (by decide) (by decide) | rfl):PT X (.Compare a [op] [b] pos) (tB t):=by
 intro pins s σ H Q I hw;refine d3b (thn (h pins s σ H _ I hw) fun v s1 h1=>thn h1 fun u s2 h2=>thn h2 fun c s3 ⟨x,H1,I1,r1,q1⟩=>?_) h1;obtain⟨d,rfl,q⟩:=q1;cases r1;exact U3 ⟨H1,I1,q⟩
theorem d1m(h:PE X e t)(he:∀whole,isTrue e X.env whole=(do let v <-whole;b3Z e.pos;a4d [v] (truthy v)):=by intro _;rfl):PT X e (tB t):=by
 intro pins s σ H Q I hw;refine isTrue_plain (thn (h pins s σ H _ I hw) fun v s1 ⟨x,H1,I1,r1,q1⟩=>?_) (he _);obtain⟨d,rfl,q⟩:=q1;cases r1;exact U3 ⟨H1,I1,q⟩
variable {tA tB':TT}{a7p:List Expr}
def a9c(t u:TT):TT:=fun σ H Q=>t σ H fun c H1=>if c=true then u σ H1 Q else Q false H1
def tOr(t u:TT):TT:=fun σ H Q=>t σ H fun c H1=>if c=true then Q true H1 else u σ H1 Q
def a2e(t:TT):TT:=fun σ H Q=>t σ H fun c H1=>Q (!c) H1
theorem c8s(ha:PT X a tA):PW X (.BoolOp .And [a] pos) tA:=by
 intro wh pins s σ H Q I h;refine isTrue_and (thn (ha pins s σ H Q I h) fun c s1 e=>?_);cases c with
 | true=>exact isTrue_and_nil e
 | false=>exact e
theorem d1k(ha:PT X a tA):PW X (.BoolOp .Or [a] pos) tA:=by
 intro wh pins s σ H Q I h;refine isTrue_or (thn (ha pins s σ H Q I h) fun c s1 e=>?_);cases c with
 | false=>exact isTrue_or_nil e
 | true=>exact e
theorem d1l(ha:PT X a tA)(hb:PW X (.BoolOp .And (b::a7p) pos) tB'):PW X (.BoolOp .And (a::b::a7p) pos) (a9c tA tB'):=by
 intro wh pins s σ H Q I h;refine isTrue_and (thn (ha pins s σ H _ I h) fun c s1 ⟨H1,I1,q1⟩=>?_);cases c with
 | true=>exact hb wh pins s1 σ H1 Q I1 q1
 | false=>exact⟨H1,I1,q1⟩
theorem d3G(ha:PT X a tA)(hb:PW X (.BoolOp .Or (b::a7p) pos) tB'):PW X (.BoolOp .Or (a::b::a7p) pos) (tOr tA tB'):=by
 intro wh pins s σ H Q I h;refine isTrue_or (thn (ha pins s σ H _ I h) fun c s1 ⟨H1,I1,q1⟩=>?_);cases c with
 | true=>exact⟨H1,I1,q1⟩
 | false=>exact hb wh pins s1 σ H1 Q I1 q1
theorem d1n(ha:PT X a tA):PT X (.UnaryOp .Not a pos) (a2e tA):=by
 intro pins s σ H Q I h;exact isTrue_not (ha pins s σ H (fun c H1=>Q (!c) H1) I h)
def a0L(ta tb:TE):TE:=fun σ H Q=>ta σ H fun x H1=>∃c,x=.bl c/\if c=true then tb σ H1 Q else Q (.bl false) H1
def b1X(ta tb:TE):TE:=fun σ H Q=>ta σ H fun x H1=>∃c,x=.bl c/\if c=true then Q (.bl true) H1 else tb σ H1 Q
def a6F(ta:TE):TE:=fun σ H Q=>ta σ H fun x H1=>∃c,x=.bl c/\Q (.bl (!c)) H1
theorem d1B{op}(h:PE X a t):PE X (.BoolOp op [a] pos) t:=fun pins s σ H Q I hw=>BoolOp_one (h pins s σ H Q I hw)
theorem d1J(ha:PE X a ta)(hb:PE X (.BoolOp .And (b::a7p) pos) tb):PE X (.BoolOp .And (a::b::a7p) pos) (a0L ta tb):=by
 intro pins s σ H Q I h;refine BoolOp_and (thn (ha pins s σ H _ I h) fun v s1 ⟨x,H1,I1,r1,q1⟩=>?_);obtain⟨c,rfl,q1⟩:=q1;cases r1;refine U3 ?_;cases c with
 | true=>exact hb pins s1 σ H1 Q I1 q1
 | false=>exact⟨.bl false,H1,I1,rfl,q1⟩
theorem d3J(ha:PE X a ta)(hb:PE X (.BoolOp .Or (b::a7p) pos) tb):PE X (.BoolOp .Or (a::b::a7p) pos) (b1X ta tb):=by
 intro pins s σ H Q I h;refine BoolOp_or (thn (ha pins s σ H _ I h) fun v s1 ⟨x,H1,I1,r1,q1⟩=>?_);obtain⟨c,rfl,q1⟩:=q1;cases r1;refine U3 ?_;cases c with
 | false=>exact hb pins s1 σ H1 Q I1 q1
 | true=>exact⟨.bl true,H1,I1,rfl,q1⟩
theorem d1C(ha:PE X a ta):PE X (.UnaryOp .Not a pos) (a6F ta):=by
 intro pins s σ H Q I h;refine UnaryOp_ (thn (ha pins s σ H _ I h) fun v s1 ⟨x,H1,I1,r1,q1⟩=>?_);obtain⟨c,rfl,q1⟩:=q1;cases r1;exact not_of (U3 ⟨.bl (!c),H1,I1,rfl,q1⟩)
def tIf(t:TT)(ta tb:TE):TE:=fun σ H Q=>t σ H fun c H1=>if c=true then ta σ H1 Q else tb σ H1 Q
theorem c6z(hc:PT X c tA)(ha:PE X a ta)(hb:PE X b tb):PE X (.IfExp c a b pos) (tIf tA ta tb):=by
 intro pins s σ H Q I h;refine wpAny_IfExp (thn (hc pins s σ H _ I h) fun d s1 ⟨H1,I1,q1⟩=>?_);cases d with
 | true=>exact ha pins s1 σ H1 Q I1 q1
 | false=>exact hb pins s1 σ H1 Q I1 q1
end
def SqL(K:Fg)(H:Hp)(a:Addr)(xs:List V):Prop:=
 Rd H a (.lst xs) \/
  ∃(o:Obj) (its:Array Value) (n:Nat),K.lookup a=some o/\o.cls=.type "list" /\ o.dict=none/\o.data=.seq its n/\its.size<=u7/\L1 xs its.toList
def SqT(K:Fg)(H:Hp)(a:Addr)(xs:List V):Prop:=
 Rd H a (.tup xs) \/
  ∃(o:Obj) (its:Array Value) (n:Nat),K.lookup a=some o/\o.cls=.type "tuple" /\ o.data=.seq its n/\its.size<=u7/\L1 xs its.toList
def d4J:Value->Option V
 | .none=>some .non
 | .bool b=>some (.bl b)
 | .int i _=>some (.int i)
 | .str x _=>some (.str x)
 | .bytes b _=>some (.byt b)
 | .float b _=>some (.flt b)
 | .ref a=>some (.ref a)
 | .type n=>some (.ty n)
 | _=>none
theorem K8.abs{x:V}(r:K8 x u):d4J u=some x:=by
 cases x with
 | non=>cases r;rfl
 | bl _=>cases r;rfl
 | int _=>obtain⟨t,rfl⟩:=r;rfl
 | str _=>obtain⟨t,rfl⟩:=r;rfl
 | byt _=>obtain⟨t,rfl⟩:=r;rfl
 | flt _=>obtain⟨t,rfl⟩:=r;rfl
 | ref _=>cases r;rfl
 | ty _=>cases r;rfl
theorem K8.inj{x:V}(r:K8 x u)(q:K8 y u):x=y:=Option.some.inj (r.abs.symm.trans q.abs)
theorem L1.inj:∀ {xs ys:List V} {us:List Value},L1 xs us->L1 ys us->xs=ys
 | _,_,_,.nil,.nil=>rfl
 | _,_,_,.cons r t,.cons r' t'=>by rw[r.inj r',L1.inj t t']
section
variable {ys:List V}
theorem SqL.of{K:Fg}(h:H a=some (.lst xs)):SqL K H a xs:=.inl (.inl h)
theorem SqT.of{K:Fg}(h:H a=some (.tup xs)):SqT K H a xs:=.inl (.inl h)
theorem Inv.list(I:Inv X pins σ H s)(h:SqL X.K H a xs):∃its:List Value,L1 xs its/\PlainL s.heap a its.toArray/\xs.length<=u7:=by
 rcases h with h | ⟨o,its,n,hk,hc,hd,hs,hz,r⟩
 ·obtain⟨z,its,n,r,e⟩:=h.ok I.hok
  exact⟨its,r,⟨_,n,e,rfl,rfl,rfl⟩,z⟩
 ·refine⟨its.toList,r,⟨o,n,I.kIn a o hk,hc,hd,by simpa using hs⟩,?_⟩
  have e:=r.length;simp only[a5Q]at e;omega
theorem Inv.tuple(I:Inv X pins σ H s)(h:SqT X.K H a xs):∃its:List Value,L1 xs its/\IsTup s.heap a its.toArray/\xs.length<=u7:=by
 rcases h with h | ⟨o,its,n,hk,hc,hs,hz,r⟩
 ·obtain⟨z,its,r,p⟩:=h.ok I.hok
  exact⟨its,r,p,z⟩
 ·refine⟨its.toList,r,⟨o,I.kIn a o hk,hc,n,by simpa using hs⟩,?_⟩
  have e:=r.length;simp only[a5Q]at e;omega
theorem Inv.list_inj(I:Inv X pins σ H s)(h:SqL X.K H a xs)(h':SqL X.K H a ys):xs=ys:=by
 obtain⟨its,r,⟨o,n,e,_,_,d⟩,_⟩:=I.list h;obtain⟨its',r',⟨o',n',e',_,_,d'⟩,_⟩:=I.list h';rw[e]at e';cases e';rw[d]at d';injection d' with d1 _
 have:its=its':=by simpa using congrArg Array.toList d1
 subst this;exact r.inj r'
end
abbrev Cx.wish(X:Cx)(E:Value->l7->Prop):Cx:={ X with xe:=E }
abbrev Cx.nox(X:Cx):Cx:=X.wish fun _ _=>False
theorem Cx.Ok.wish(ok:X.Ok)(E:Value->l7->Prop):(X.wish E).Ok:=
 ⟨ok.mod,ok.kind,ok.glob,ok.blt,ok.above,ok.inj,ok.has,ok.cab,ok.hd,ok.frames,ok.stk,ok.exf,ok.bs,ok.bsz,ok.noex,ok.exfs,ok.funs,ok.frf⟩
theorem Cx.Ok.unwish{E:Value->l7->Prop}(ok:(X.wish E).Ok):X.Ok:=
 ⟨ok.mod,ok.kind,ok.glob,ok.blt,ok.above,ok.inj,ok.has,ok.cab,ok.hd,ok.frames,ok.stk,ok.exf,ok.bs,ok.bsz,ok.noex,ok.exfs,ok.funs,ok.frf⟩
section
variable {E:Value->l7->Prop}
theorem Inv.wish(I:Inv X pins σ H s)(E:Value->l7->Prop):Inv (X.wish E) pins σ H s:=⟨I.ok.wish E,I.os,I.bare,I.base,I.loc,I.cell,I.free,I.freeC,I.pin,I.hok,I.len⟩
theorem Inv.unwish(I:Inv (X.wish E) pins σ H s):Inv X pins σ H s:=⟨I.ok.unwish,I.os,I.bare,I.base,I.loc,I.cell,I.free,I.freeC,I.pin,I.hok,I.len⟩
theorem SP.unwish{D:b0r}{f:Flow}{s':l7}(h:SP (X.wish E) pins D f s'):SP X pins D f s':=by
 cases f with
 | next=>obtain⟨σ',H',I,q⟩:=h;exact⟨σ',H',I.unwish,q⟩
 | brk=>obtain⟨σ',H',I,q⟩:=h;exact⟨σ',H',I.unwish,q⟩
 | cont=>obtain⟨σ',H',I,q⟩:=h;exact⟨σ',H',I.unwish,q⟩
 | ret u=>obtain⟨v,σ',H',I,r,q⟩:=h;exact⟨v,σ',H',I.unwish,r,q⟩
theorem PSs.nox{st:List Stmt}{t:TS}(h:PSs X.nox st t):PSs X st t:=fun pins s σ H D I hw=>
 a1i (h pins s σ H D (I.wish _) hw) (fun _ _ q=>q.unwish) fun _ _ z=>False.elim z
end
section
variable {st:Stmt}{a7p:List Stmt}{t u:TS}
def C9:TS:=fun D σ H=>D.nx σ H
def u8(t u:TS):TS:=fun D σ H=>t { D with nx:=u D } σ H
theorem c8y:PSs X [] C9:=fun _ _ σ H _ I h=>b3Y ⟨σ,H,I,h⟩
theorem c6q(h1:PS X st t)(h2:PSs X a7p u):PSs X (st::a7p) (u8 t u):=by
 intro pins s σ H D I h;refine wpAny_execs_cons (thn (h1 pins s σ H { D with nx:=u D } I h) fun f s1 q=>?_);cases f with
 | next=>
  obtain⟨σ',H',I',q⟩:=q;exact h2 pins s1 σ' H' D I' q
 | ret v=>exact q
 | brk=>exact q
 | cont=>exact q
theorem c8x(h1:PS X st t):PSs X [st] t:=by
 intro pins s σ H D I h;refine wpAny_execs_cons (thn (h1 pins s σ H D I h) fun f s1 q=>?_);cases f with
 | next=>exact b3Y q
 | ret v=>exact q
 | brk=>exact q
 | cont=>exact q
theorem Inv.quiet(I:Inv X pins σ H s):interactive X.env=false:=by simp[interactive,I.ok.kind]
def V7(te:TE):TS:=fun D σ H=>te σ H fun _ H1=>D.nx σ H1
theorem c8z(he:PE X e te)(hs:a3A e none pos.line X.env=pure false:=by rfl):PS X (.Expr e pos) (V7 te):=by
 intro pins s σ H D I h;exact wpAny_Expr_any (thn (he pins s σ H _ I h) fun v s1 ⟨x,H1,I1,r1,q1⟩=>⟨σ,H1,I1,q1⟩) I.quiet hs
def E1(te:TE):TS:=fun D σ H=>te σ H D.rt
theorem d1p(he:PE X e te):PS X (.Return (some e) pos) (E1 te):=by
 intro pins s σ H D I h;exact wpAny_Return_some (thn (he pins s σ H _ I h) fun v s1 ⟨x,H1,I1,r1,q1⟩=>⟨x,σ,H1,I1,r1,q1⟩)
def L6(c:TT)(t u:TS):TS:=fun D σ H=>c σ H fun b H1=>if b=true then t D σ H1 else u D σ H1
theorem d3H{a b:List Stmt}{tc:TT}(hc:PT X c tc)(ha:PSs X a t)(hb:PSs X b u):PS X (.If c a b pos) (L6 tc t u):=by
 intro pins s σ H D I h;refine wpAny_If (thn (hc pins s σ H _ I h) fun d s1 ⟨H1,I1,q1⟩=>?_);cases d with
 | true=>exact ha pins s1 σ H1 D I1 q1
 | false=>exact hb pins s1 σ H1 D I1 q1
end
abbrev TG:=V->St->Hp->(St->Hp->Prop)->Prop
abbrev TGs:=List V->St->Hp->(St->Hp->Prop)->Prop
def PG(X:Cx)(target:Expr)(t:TG):Prop:=
 ∀(pins:List (Addr×Obj)) (s:l7) (σ:St) (H:Hp) (v:V) (u:Value) (Q:St->Hp->Prop),Inv X pins σ H s->K8 v u->t v σ H Q ->
  wpAny (model X.prog X.w) X.A (a9q target X.env u) (fun _ s'=>∃σ' H',Inv X pins σ' H' s'/\Q σ' H') X.xe s
def PGs(X:Cx)(ts:List Expr)(t:TGs):Prop:=
 ∀(pins:List (Addr×Obj)) (s:l7) (σ:St) (H:Hp) (vs:List V) (us:List Value) (Q:St->Hp->Prop),Inv X pins σ H s->L1 vs us->t vs σ H Q ->
  wpAny (model X.prog X.w) X.A (assignInOrder ((a3W ts X.env).map (·.2)) us) (fun _ s'=>∃σ' H',Inv X pins σ' H' s'/\Q σ' H') X.xe s
abbrev b6q:=V->V->V->Hp->(Hp->Prop)->Prop
def c7y(X:Cx)(t:b6q):Prop:=
 ∀(pins:List (Addr×Obj)) (s:l7) (σ:St) (H:Hp) (o i v:V) (ov iv u:Value) (Q:Hp->Prop),Inv X pins σ H s->K8 o ov->K8 i iv->K8 v u->t o i v H Q ->
  wpAny (model X.prog X.w) X.A (d0D ov iv u) (fun _ s'=>∃H',Inv X pins σ H' s'/\Q H') X.xe s
abbrev TIp:=V->V->Hp->VK->Prop
def PIp(X:Cx)(op:b5J)(t:TIp):Prop:=
 ∀(pins:List (Addr×Obj)) (s:l7) (σ:St) (H:Hp) (x y:V) (v u:Value) (Q:VK),Inv X pins σ H s->K8 x v->K8 y u->t x y H Q ->
  wpAny (model X.prog X.w) X.A (inplaceOp op v u) (EP X pins σ Q) X.xe s
section
def t9(i:Nat):TG:=fun v σ H Q=>Q (σ.set i (some v)) H
theorem b7H{x:Str}(hN:X.N.Nodup)(hi:X.N[i]? = some x)(hx:Loc X.env.scope x)(hf:X.fn x=true\/X.env.scope.names.lookup x=some .local:=by first | exact .inl rfl | exact .inr rfl | assumption):PG X (.Name x pos) (t9 i):=by
 intro pins s σ H v u Q I r h;exact b0x (b0R I hN hi hx r (fun s' I'=>⟨_,H,I',h⟩) hf)
def b5p:TGs:=fun vs σ H Q=>vs=[]/\Q σ H
def a2Q(t:TG)(u:TGs):TGs:=fun vs σ H Q=>∃v r,vs=v::r/\t v σ H fun σ' H'=>u r σ' H' Q
theorem c2C:PGs X [] b5p:=by
 intro pins s σ H vs us Q I r h;obtain⟨e,h⟩:=h;subst e;cases r;exact assignInOrder_nil ⟨σ,H,I,h⟩
theorem b4J{t:TG}{u:TGs}(h1:PG X e t)(h2:PGs X es u)
  (hs:(a3W (e::es) X.env).map (·.2)=a9q e X.env::(a3W es X.env).map (·.2):=by rfl):PGs X (e::es) (a2Q t u):=by
 intro pins s σ H vs us Q I r h;obtain⟨v,vr,e1,h⟩:=h;subst e1;cases r with
 | cons r rr=>
  rw[hs];refine assignInOrder_cons (thn (h1 pins s σ H _ _ _ I r h) fun _ s1 ⟨σ1,H1,I1,q1⟩=>?_);exact h2 pins s1 σ1 H1 _ _ Q I1 rr q1
def b5o(K:Fg)(n:Nat)(t:TGs):TG:=fun v σ H Q=>∃a xs,v=.ref a/\SqT K H a xs/\xs.length=n/\t xs σ H Q
theorem c6w{k:Nat}{t:TGs}{n:Nat}(hc:X.calm=true)(h:PGs X es t)
  (hn:(a3W es X.env).length=n:=by rfl) (hst:(a3W es X.env).findIdx? (·.1)=none:=by rfl):PG X (.Tuple es k pos) (b5o X.K n t):=by
 intro pins s σ H v u Q I r hw;obtain⟨a,xs,e1,hq,hl,hw⟩:=hw;subst e1;cases r;obtain⟨its,rv,ht,hz⟩:=I.tuple hq;refine assign_Tuple_tuple (I.ok.hd hc) ht (by simp[hn,<-hl,rv.length]) hst fun h' hx=>?_
 have I1:Inv X pins σ H { s with heap:=h' }:=I.kept (t':=s.toks) fun b o e=>hx b o (A0 (o0 e)) e
 exact h pins _ σ H xs _ Q I1 (by simpa using rv) hw
def b7X(to ti:TE)(t:b6q):TG:=fun v σ H Q=>to σ H fun o H1=>ti σ H1 fun i H2=>t o i v H2 fun H3=>Q σ H3
theorem d1w{o i:Expr}{to ti:TE}{t:b6q}(ho:PE X o to)(hi:PE X i ti)(hs:c7y X t)
  (ha:∀v,a9q (.Subscript o i pos) X.env v=(do
   let ov <-a4d [v] (eval o X.env)
   let iv <-a4d [v,ov] (eval i X.env)
   b3Z pos
   a4d [v,ov,iv] (d0D ov iv v)
   release [v,ov,iv] []):=by intro _;rfl):PG X (.Subscript o i pos) (b7X to ti t):=by
 intro pins s σ H v u Q I r h;rw[ha];refine d5 (a2z (thn (ho pins s σ H _ I h) fun ov s1 ⟨x,H1,I1,r1,q1⟩=>?_));refine d5 (a2z (thn (hi pins s1 σ H1 _ I1 q1) fun iv s2 ⟨y,H2,I2,r2,q2⟩=>?_));refine d5 (b8F (d5 (a2z (thn (hs pins s2 σ H2 x y v ov iv u _ I2 r1 r2 r q2) fun _ s3 ⟨H3,I3,q3⟩=>?_))));exact wpAny_release ⟨σ,H3,I3,q3⟩
def F0(te:TE)(g:TG):TS:=fun D σ H=>te σ H fun x H1=>g x σ H1 D.nx
theorem d1t{g:TG}(he:PE X e te)(hg:PG X tg g)(hs:swapsWithSole [tg] e pos.line X.env=pure false:=by rfl)(hw:swappedStores [tg] e X.env=pure none:=by rfl)
  (h1:(a3W [tg] X.env).map (·.2)=[a9q tg X.env]:=by rfl):PS X (.Assign [tg] e pos) (F0 te g):=by
 intro pins s σ H D I h;refine wpAny_Assign_stores (thn (he pins s σ H _ I h) fun v s1 ⟨x,H1,I1,r1,q1⟩=>?_) hs hw;rw[h1];exact thn (hg pins s1 σ H1 x v _ I1 r1 q1) fun _ s2 q=>q
theorem d1o{x:Str}(hN:X.N.Nodup)(hi:X.N[i]? = some x)(hx:Loc X.env.scope x)(he:PE X e te)(hs:a3A e (some (.Name x pos')) pos.line X.env=pure false:=by rfl)(hf:X.fn x=true\/X.env.scope.names.lookup x=some .local:=by first | exact .inl rfl | exact .inr rfl | assumption) :
  PS X (.Assign [.Name x pos'] e pos) (F0 te (t9 i)):=by
 intro pins s σ H D I h;refine wpAny_Assign_Name (thn (he pins s σ H _ I h) fun v s1 ⟨y,H1,I1,r1,q1⟩=>?_) hs;exact b0R I1 hN hi hx r1 (fun s2 I2=>⟨_,H1,I2,q1⟩) hf
def c0P(i:Nat)(te:TE)(ti:TIp):TS:=fun D σ H=>∃x,σ[i]? = some (some x)/\te σ H fun y H1=>ti x y H1 fun z H2=>D.nx (σ.set i (some z)) H2
theorem d1s{x:Str}{op:b5J}{ti:TIp}(hN:X.N.Nodup)(hi:X.N[i]? = some x)(hx:Loc X.env.scope x)(he:PE X e te)(ho:PIp X op ti)(hf:X.fn x=true\/X.env.scope.names.lookup x=some .local:=by first | exact .inl rfl | exact .inr rfl | assumption) :
  PS X (.AugAssign (.Name x pos') op e pos) (c0P i te ti):=by
 intro pins s σ H D I h;obtain⟨v,e1,h⟩:=h;obtain⟨m,hn,hl⟩:=I.loc;have vis:Vis X.env.scope x:=by rcases hx with k | k;exact .inl k;exact .inr (.inl k)
 obtain⟨u,r,l⟩:=hl i x v hi e1 vis;refine wpAny_AugAssign_Name ?_
 have go:wpAny (model X.prog X.w) X.A (eval e X.env) (fun w s₂=>wpAny (model X.prog X.w) X.A (inplaceOp op u w) (fun r s₃=>wpAny (model X.prog X.w) X.A (storeName X.env x r) (fun _=>SP X pins D .next) X.xe s₃) X.xe s₂) X.xe s:=by
  refine thn (he pins s σ H _ I h) fun w s1 ⟨y,H1,I1,r1,q1⟩=>?_
  refine thn (ho pins s1 σ H1 v y u w _ I1 r r1 q1) fun z s2 ⟨zv,H2,I2,r2,q2⟩=>?_
  exact b0R I2 hN hi hx r2 (fun s3 I3=>⟨_,H2,I3,q2⟩) hf
 rcases l with ⟨hk,hm⟩ | ⟨hk,c,hc,hcell⟩
 ·exact d4n I.ok.kind hk hn hm go
 ·rcases hk with hk | hk
  ·exact d4q I.ok.kind hk hc hcell go
  ·rcases hx with k | k
   ·have:X.env.scope.names.lookup x=some .free:=hk
    rw[k]at this;cases this
   ·have:X.env.scope.names.lookup x=some .free:=hk
    rw[k]at this;cases this
def c2v(to ti te:TE)(tget:V->V->Hp->VK->Prop)(tip:TIp)(tset:b6q):TS:=fun D σ H=>to σ H fun o H1=>ti σ H1 fun i H2=>tget o i H2 fun x H3=>te σ H3 fun y H4=>tip x y H4 fun z H5=>tset o i z H5 fun H6=>D.nx σ H6
def d2J(X:Cx)(t:V->V->Hp->VK->Prop):Prop:=
 ∀(pins:List (Addr×Obj)) (s:l7) (σ:St) (H:Hp) (o i:V) (ov iv:Value) (Q:VK),Inv X pins σ H s->K8 o ov->K8 i iv->t o i H Q ->
  wpAny (model X.prog X.w) X.A (b7c ov iv) (EP X pins σ Q) X.xe s
theorem c8B{o i:Expr}{to ti:TE}{tget:V->V->Hp->VK->Prop}{tip:TIp}{tset:b6q}{op:b5J}{tpos:Pos}(ho:PE X o to)(hi:PE X i ti)(hg:d2J X tget)(he:PE X e te)(hp:PIp X op tip)(hs:c7y X tset)
  (ha:∀ov iv new,augStore i ov iv new=(do a4d [new,ov,iv] (d0D ov iv new);release [new,ov,iv] [];pure .next):=by intros;rfl):PS X (.AugAssign (.Subscript o i tpos) op e pos) (c2v to ti te tget tip tset):=by
 intro pins s σ H D I h;refine wpAny_AugAssign_SubscriptAny (thn (ho pins s σ H _ I h) fun ov s1 ⟨x1,H1,I1,r1,q1⟩=>?_) ha;refine thn (hi pins s1 σ H1 _ I1 q1) fun iv s2 ⟨x2,H2,I2,r2,q2⟩=>?_
 refine thn (hg pins s2 σ H2 x1 x2 ov iv _ I2 r1 r2 q2) fun old s3 ⟨x3,H3,I3,r3,q3⟩=>?_
 refine thn (he pins s3 σ H3 _ I3 q3) fun v s4 ⟨x4,H4,I4,r4,q4⟩=>?_
 refine thn (hp pins s4 σ H4 x3 x4 old v _ I4 r3 r4 q4) fun new s5 ⟨x5,H5,I5,r5,q5⟩=>?_
 exact thn (hs pins s5 σ H5 x1 x2 x5 ov iv new _ I5 r1 r2 r5 q5) fun _ s6 ⟨H6,I6,q6⟩=>⟨σ,H6,I6,q6⟩
def ipI(f:Int->Int->Int):TIp:=fun x y H Q=>∃i j,x=.int i/\y=.int j/\Q (.int (f i j)) H
theorem d2s:PIp X .Add (ipI fun i j=>i+j):=by
 intro pins s σ H x y v u Q I r1 r2 h;obtain⟨i,j,e1,e2,q⟩:=h;subst e1;subst e2;obtain⟨t,rfl⟩:=r1;obtain⟨t',rfl⟩:=r2;exact iadd_int ⟨.int _,H,I.tok _,⟨_,rfl⟩,q⟩
end
section
def a5B(c:TT)(tb:TS):TS:=fun D σ H=>∃W:Nat->St->Hp->Prop,(∃m,W m σ H)/\∀m σ H,W m σ H ->
 c σ H fun b H1=>if b=true then ∃N:St->Hp->Prop,(∀σ' H',N σ' H'->∃m',m'<m/\W m' σ' H')/\tb { D with nx:=N,ct:=N,bk:=D.nx } σ H1 else D.nx σ H1
theorem c6r{body:List Stmt}{tc:TT}(hp:d3i (model X.prog X.w) X.A X.env X.xe)(hc:PT X c tc)(hb:PSs X body tb):PS X (.While c body [] pos) (a5B tc tb):=by
 intro pins s σ H D I h;obtain⟨W,⟨m0,w0⟩,turn⟩:=h;refine wpAny_While (codeAny_whileLoop (fun n s'=>∃σ' H',Inv X pins σ' H' s'/\W n σ' H') ?_ m0 ⟨σ,H,I,w0⟩);rintro n s1 ⟨σ1,H1,I1,w1⟩;refine a3z hp (thn (hc pins s1 σ1 H1 _ I1 (turn n σ1 H1 w1)) fun b s2 ⟨H2,I2,q2⟩=>?_);cases b with
 | true=>
  obtain⟨N,hN,q2⟩:=q2;rw[if_pos rfl];refine a3z hp (thn (hb pins s2 σ1 H2 _ I2 q2) fun f s3 q3=>?_);cases f with
  | next=>
   obtain⟨σ3,H3,I3,n3⟩:=q3;obtain⟨m',hm,w3⟩:=hN σ3 H3 n3;exact⟨m',hm,σ3,H3,I3,w3⟩
  | cont=>
   obtain⟨σ3,H3,I3,n3⟩:=q3;obtain⟨m',hm,w3⟩:=hN σ3 H3 n3;exact⟨m',hm,σ3,H3,I3,w3⟩
  | brk=>exact q3
  | ret v=>exact q3
 | false=>
  rw[if_neg w4];exact b3Y ⟨σ1,H2,I2,q2⟩
end
structure It where
 go:Nat->Hp->Prop
 yld:Nat->Hp->V->Hp->Prop
 stop:Nat->Hp->Prop
def a9l(X:Cx)(pins:List (Addr×Obj))(H:Hp)(b:Addr):Prop:=
 H b=none/\b≠X.env.locals/\b∉X.fs/\(b∈X.ex\/X.s₀.heap.objs.size<=b)/\(∀x c,X.env.cells.lookup x=some c->c≠b)/\∀p∈X.pn++pins,p.1≠b
theorem Inv.fpOk(I:Inv X pins σ H s)(hb:s.heap.objs.size<=b)(hn:H' b=none):a9l X pins H' b:=by
 refine⟨hn,c4Q (D0 I.lt hb),I.nofs hb,.inr (J4 I.sz hb),fun x c e z=>?_,fun p hp z=>?_⟩
 ·obtain⟨v,q⟩:=I.cell x c e
  exact absurd (D0 q.lt (by rw[z];exact hb)) (P7 _)
 ·exact absurd (D0 (o0 (I.pin p hp).1) (by rw[z];exact hb)) (P7 _)
structure b8o(P:D8)(w:World)(K:Fg)(tg:Expr)(J:It)(fp:List Addr)(it:Addr)(tn:Nat->Heap->Prop):Prop where
 mem:it∈fp
 obj:∀i h,tn i h->∀b∈fp,∃o,h.get? b=some o/\∀v,o.data≠.cell v
 keep:∀i h h',tn i h->(∀b∈fp,∀o,h.get? b=some o->h'.get? b=some o)->tn i h'
 item:∀(X:Cx),X.prog=P->X.w=w->X.K=K->X.calm=true->∀(i:Nat) (pins:List (Addr×Obj)) (s:l7) (σ:St) (H:Hp) (E:Value->l7->Prop),Inv X pins σ H s->(∀b∈fp,a9l X pins H b)->tn i s.heap->J.go i H ->
  wpAny (model P w) X.A (b8G (.ref it)) (fun r s1=>∃u,r=some u /\
   wpAny (model P w) X.A (a8a tg (.ref it) u) (fun _ s2=>∃x H',Inv X pins σ H' s2/\K8 x u/\J.yld i H x H'/\tn (i+1) s2.heap/\∀b∈fp,H' b=none) E s1) E s
 done:∀(X:Cx),X.prog=P->X.w=w->X.K=K->X.calm=true->∀(i:Nat) (pins:List (Addr×Obj)) (s:l7) (σ:St) (H:Hp) (E:Value->l7->Prop),Inv X pins σ H s->(∀b∈fp,a9l X pins H b)->tn i s.heap->J.stop i H ->
  wpAny (model P w) X.A (b8G (.ref it)) (fun r s1=>r=none/\Inv X pins σ H s1) E s
 self:∀(A:T3) (i:Nat) (s:l7) (Q:Value->l7->Prop) (E:Value->l7->Prop),tn i s.heap->Q (.ref it) s->wpAny (model P w) A (pyIter (.ref it)) Q E s
abbrev TI:=St->Hp->(It->Hp->Prop)->Prop
def PIE(X:Cx)(pins:List (Addr×Obj))(σ:St)(tg:Expr)(R:It->Hp->Prop)(itv:Value)(s2:l7):Prop:=
 ∃(it:Addr) (fp:List Addr) (tn:Nat->Heap->Prop) (J:It) (H':Hp),itv=.ref it/\Inv X pins σ H' s2/\b8o X.prog X.w X.K tg J fp it tn/\tn 0 s2.heap/\(∀b∈fp,a9l X pins H' b)/\R J H'
def PI(X:Cx)(tg iter:Expr)(wi:TI):Prop:=
 ∀(pins:List (Addr×Obj)) (s:l7) (σ:St) (H:Hp) (R:It->Hp->Prop),Inv X pins σ H s->wi σ H R ->
  wpAny (model X.prog X.w) X.A (eval iter X.env) (fun v s1=>wpAny (model X.prog X.w) X.A (pyIter v) (PIE X pins σ tg R) X.xe s1) X.xe s
theorem c2J{M:Model}{A:T3}{E:Value->l7->Prop}{it:Addr}{o:Obj}{n:String}{vs:Array Value}{Q:Unit->l7->Prop}(ho:s.heap.get? it=some o)(hc:o.cls=.type n)(hd:o.data=.fields vs)
  (hn:["enumerate","zip","dict_itemiterator","dict_reverseitemiterator","odict_iterator","itertools.zip_longest","itertools.pairwise"].contains n=false) (hQ:Q () s):wpAny M A (a8a tg (.ref it) u) Q E s:=by
 unfold a8a
 cases tg <;> first
  | exact u5 hQ
  | (cases u <;> first
    | exact u5 hQ
    | (refine d5 (wpAny_load ho ?_)
       rw[hc,hd];show wpAny M A (if(["enumerate","zip","dict_itemiterator","dict_reverseitemiterator","odict_iterator","itertools.zip_longest","itertools.pairwise"].contains n&&vs[0]? == some (rawInt _))=true then _ else _) Q E s;rw[if_neg (by intro h;rw[hn,b8D]at h;cases h)];exact u5 hQ))
def Itl(K:Fg)(a:Addr):It:=
 ⟨fun i H=>∃xs x,SqL K H a xs/\xs[i]? = some x,fun i H x H'=>H'=H/\∀xs,SqL K H a xs->xs[i]? = some x,fun i H=>∃xs,SqL K H a xs/\xs.length<=i⟩
def Itr(lo:Int)(n:Nat):It:=⟨fun i _=>i<n,fun i H x H'=>H'=H/\x=.int (lo+i),fun i _=>n<=i⟩
theorem c3t{P:D8}{K:Fg}(a it:Addr):b8o P w K tg (Itl K a) [it] it (fun i h=>h.IsListIter it a i) where
 mem:=by simp
 obj:=fun i h st b hb=>by
  have e:b=it:=by simpa using hb
  subst e;obtain⟨o,e,c,d⟩:=st;exact⟨o,e,fun v z=>by rw[d]at z;cases z⟩
 keep:=fun i h h' st k=>st.at fun o e=>k it (by simp) o e
 item:=by
  intro X hP hw hK hc i pins s σ H E I hf st hg;subst hP hw hK;obtain⟨xs,x,hq,hx⟩:=hg;obtain⟨its,rv,p,hz⟩:=I.list hq;obtain⟨u,hu,ru⟩:=rv.get hx;obtain⟨f0,f1,f2,f3,f4,f5⟩:=hf it (by simp);refine b3t st p.isList (x:=u) (by simpa using hu) fun h' st' sb=>?_
  have I1:Inv X pins σ H { s with heap:=h' }:=I.turned (t':=s.toks) (fun b o hb e=>(sb.2 b hb).trans e) f0 f1 f3 f4 f5;obtain⟨o,e,c,d⟩:=id st';exact⟨u,rfl,c2J (s:={ s with heap:=h' }) e c d (by decide) ⟨x,H,I1,ru,⟨rfl,fun ys hy=>by rw[I.list_inj hy hq];exact hx⟩,st',fun b hb=>(hf b hb).1⟩⟩
 done:=by
  intro X hP hw hK hc i pins s σ H E I hf st hg;subst hP hw hK;obtain⟨xs,hq,hx⟩:=hg;obtain⟨its,rv,p,hz⟩:=I.list hq;obtain⟨f0,f1,f2,f3,f4,f5⟩:=hf it (by simp);have hl:=rv.length;exact b3W (I.ok.hd hc) st p.isList (by simp;omega) fun h' eb=>⟨rfl,I.turned (t':=s.toks) (fun b o hb e=>eb b o hb e) f0 f1 f3 f4 f5⟩
 self:=fun _ _ _ _ _ st h=>wpAny_pyIter_listiter st h
theorem c0L{P:D8}{K:Fg}(it:Addr)(lo:Int)(n:Nat):b8o P w K tg (Itr lo n) [it] it (fun i h=>c5h h it (lo+(i:Nat) * 1) ((n:Int) - (i:Nat)) 1) where
 mem:=by simp
 obj:=fun i h st b hb=>by
  have e:b=it:=by simpa using hb
  subst e
  exact⟨_,st,fun v z=>by
   have z':Data.fields _=Data.cell v:=z;cases z'⟩
 keep:=fun i h h' st k=>k it (by simp) _ st
 item:=by
  intro X hP hw hK hc i pins s σ H E I hf st hg;subst hP hw hK;obtain⟨f0,f1,f2,f3,f4,f5⟩:=hf it (by simp);have W:=Walks.range (prog:=X.prog) (w:=X.w) (I.ok.hd hc) it lo 1 n;refine W.item i s _ _ hg st fun v h' tk hv st' kk=>?_
  obtain⟨t,rfl⟩:=hv;have I1:Inv X pins σ H { s with heap:=h',toks:=tk }:=I.turned (fun b o hb e=>kk b o (by simpa using hb) e) f0 f1 f3 f4 f5;refine⟨_,rfl,c2J (s:={ s with heap:=h',toks:=tk }) (n := "range_iterator") st' rfl rfl (by decide) ⟨.int (lo+i),H,I1,⟨t,?_⟩,⟨rfl,rfl⟩,st',fun b hb=>(hf b hb).1⟩⟩;rw[Int.mul_one]
 done:=by
  intro X hP hw hK hc i pins s σ H E I hf st hg;subst hP hw hK;obtain⟨f0,f1,f2,f3,f4,f5⟩:=hf it (by simp);exact d2U (I.ok.hd hc) st (by have:n<=i:=hg;omega) fun h' eb=>⟨rfl,I.turned (t':=s.toks) (fun b o hb e=>eb b o hb e) f0 f1 f3 f4 f5⟩
 self:=fun _ _ _ _ _ st h=>d2V st h
section
def U2(K:Fg)(tl:TE):TI:=fun σ H R=>tl σ H fun x H1=>∃a,x=.ref a/\(∃xs,SqL K H1 a xs)/\R (Itl K a) H1
theorem c8G{l:Expr}{tl:TE}(hl:PE X l tl):PI X tg l (U2 X.K tl):=by
 intro pins s σ H R I h;refine thn (hl pins s σ H _ I h) fun v s1 ⟨x,H1,I1,r1,q1⟩=>?_
 obtain⟨a,e,⟨xs,hq⟩,q⟩:=q1;subst e;cases r1;obtain⟨its,rv,p,hz⟩:=I1.list hq;refine a6l p.isList ?_;refine⟨s1.heap.objs.size,[s1.heap.objs.size],_,_,H1,rfl,I1.kept (t':=s1.toks) fun b o e=>g8 _ e,c3t a _,⟨_,A4 _ rfl,rfl,rfl⟩,fun b hb=>?_,q⟩;have e:b=s1.heap.objs.size:=by simpa using hb
 subst e;exact I1.fpOk (j9 _) (I1.hok.fresh (j9 _))
theorem c6b{R:It->Hp->Prop}{E:Value->l7->Prop}{lo hi:Int}{t u v:Tok}{tk:Nat}(I:Inv X pins σ H s)(h1 : -(2 ^ 62)<=lo)(h2:lo<2 ^ 62)(h3 : -(2 ^ 62)<=hi)(h4:hi<2 ^ 62)
  (q:R (Itr lo (hi - lo).toNat) H):wpAny (model X.prog X.w) X.A (pyIter (.ref s.heap.objs.size)) (PIE X pins σ tg R) E { s with heap:=s.heap.push { cls:=.type "range",data:=.fields #[.int lo t,.int hi u,.int 1 v] },toks:=tk }:=by
 refine wpAny_pyIter_range (IsRange.new ..) (small_one h1 h2 h3 h4) ?_;have I1:Inv X pins σ H { s with heap:=s.heap.push { cls:=.type "range",data:=.fields #[.int lo t,.int hi u,.int 1 v] },toks:=tk }:=I.kept fun b o e=>g8 _ e
 refine⟨(s.heap.push { cls:=.type "range",data:=.fields #[.int lo t,.int hi u,.int 1 v] }).objs.size,[(s.heap.push { cls:=.type "range",data:=.fields #[.int lo t,.int hi u,.int 1 v] }).objs.size],_,_,H,rfl,
  I1.kept (t':=tk) fun b o e=>g8 _ e,c0L _ lo (hi - lo).toNat,?_,fun b hb=>?_,q⟩
 ·have e1:lo+((0:Nat):Int) * 1=lo:=by simp
  have e2:(((hi - lo).toNat:Nat):Int) - ((0:Nat):Int)=Builtin.Range.rangeSize lo hi 1:=by rw[rangeSize_one];split <;> omega
  show c5h _ _ (lo+((0:Nat):Int) * 1) ((((hi - lo).toNat:Nat):Int) - ((0:Nat):Int)) 1;rw[e1,e2];exact A4 _ rfl
 ·have e:b=(s.heap.push { cls:=.type "range",data:=.fields #[.int lo t,.int hi u,.int 1 v] }).objs.size:=by simpa using hb
  subst e;exact I1.fpOk (j9 _) (I1.hok.fresh (j9 _))
def a3Q(ta:TA):TI:=fun σ H R=>ta σ H fun vs H1=>∃j:Int,vs=[.int j] /\ -(2 ^ 62)<=j/\j<2 ^ 62/\R (Itr 0 j.toNat) H1
theorem c3Q{a:Expr}{ta:TA}(hg:Gl X "range")(hm:X.mg "range" = none)(ha:PA X [a] ta)(hs:l6 [a] X.env=[(false,eval a X.env)]:=by rfl):PI X tg (.Call (.Name "range" p) [a] [] pos) (a3Q ta):=by
 intro pins s σ H R I h;refine Call_ (b0k I hg hm boot_range (a0c (thn (ha pos pins s σ H _ I h) fun us s1 ⟨vs,H1,I1,r1,q1⟩=>?_) hs rfl));obtain⟨j,e,q1,q2,q⟩:=q1;subst e;cases r1 with
 | cons r rr=>
  cases rr;obtain⟨t,rfl⟩:=r;exact call_range_1 (c6b I1 (by omega) (by omega) q1 q2 (by simpa using q))
def a1R(wi:TI)(g:TG)(tb:TS):TS:=fun D σ H=>wi σ H fun J H1=>∃W:Nat->Nat->St->Hp->Prop,(∃m,W 0 m σ H1)/\∀i m σ H,W i m σ H ->
 (J.stop i H/\D.nx σ H)\/(J.go i H/\∃N:St->Hp->Prop,(∀σ' H',N σ' H'->∃m',m'<m/\W (i+1) m' σ' H')/\∀x H',J.yld i H x H'->g x σ H' fun σ2 H2=>tb { D with nx:=N,ct:=N,bk:=D.nx } σ2 H2)
def a9X(fp:List Addr)(h:Heap):List (Addr×Obj):=fp.filterMap fun b=>(h.get? b).map fun o=>(b,o)
theorem a4n{fp:List Addr}{o:Obj}(hb:b∈fp)(e:h.get? b=some o):(b,o)∈a9X fp h:=c7N.mpr ⟨b,hb,by rw[e];rfl⟩
theorem c4g{fp:List Addr}{p:Addr×Obj}(hp:p∈a9X fp h):p.1∈fp/\h.get? p.1=some p.2:=by
 obtain⟨b,hb,e⟩:=c7N.mp hp;cases q:h.get? b with
 | none=>rw[q]at e;cases e
 | some o=>
  rw[q]at e;have e':(b,o)=p:=Option.some.inj e;subst e';exact⟨hb,q⟩
theorem Inv.pinned{fp:List Addr}(I:Inv X pins σ H s)(hf:∀b∈fp,a9l X pins H b)(ho:∀b∈fp,∃o,s.heap.get? b=some o/\∀v,o.data≠.cell v):Inv X (pins++a9X fp s.heap) σ H s:=
 I.pins_of fun p hp=>(z8.mp hp).elim (fun z=>I.pin p (B8 _ z)) fun z=>by
  obtain⟨hb,e⟩:=c4g z;obtain⟨f0,f1,f2,_⟩:=hf p.1 hb;obtain⟨o,e',d⟩:=ho p.1 hb;rw[e]at e';cases e';exact⟨e,f0,f1,f2,d⟩
theorem Inv.unpinned{pl:List (Addr×Obj)}(I:Inv X (pins++pl) σ H s):Inv X pins σ H s:=I.pins_of fun p hp=>I.pin p (B8 _ (y0 _ hp))
theorem d1q{iter:Expr}{body:List Stmt}{wi:TI}{g:TG}(hp:d3i (model X.prog X.w) X.A X.env X.xe)(hc:X.calm=true)(hi:PI X tg iter wi)(hg:PG X tg g)(hb:PSs X body tb)
  (hs:∀x,Y0 iter X.env x=pure x:=by intro _;rfl):PS X (.For tg iter body [] pos) (a1R wi g tb):=by
 intro pins s σ H D I h;refine wpAny_For (thn (hi pins s σ H _ I h) fun v s1 h1=>thn h1 fun itv s2 h2=>?_) hs;obtain⟨it,fp,tn,J,H2,e,I2,T,st2,f2,W,⟨m0,w0⟩,turn⟩:=h2;subst e;have stat:∀ {H':Hp},(∀b∈fp,H' b=none)->∀b∈fp,a9l X pins H' b:=fun hn b hb=>⟨hn b hb,(f2 b hb).2⟩
 refine codeAny_forLoop_any (fun n s'=>∃i σ' H',Inv X pins σ' H' s'/\tn i s'.heap/\(∀b∈fp,H' b=none)/\W i n σ' H') ?_ m0 ⟨0,σ,H2,I2,st2,fun b hb=>(f2 b hb).1,w0⟩;rintro n s3 ⟨i,σ3,H3,I3,st3,fr3,w3⟩;rcases turn i n σ3 H3 w3 with ⟨stop,qn⟩ | ⟨go,N,hN,step⟩
 ·refine a3z hp (thn (T.done X rfl rfl rfl hc i pins s3 σ3 H3 X.xe I3 (stat fr3) st3 stop) fun r s4 ⟨hr,I4⟩=>?_)
  subst hr;exact b3Y ⟨σ3,H3,I4,qn⟩
 ·refine a3z hp (thn (T.item X rfl rfl rfl hc i pins s3 σ3 H3 X.xe I3 (stat fr3) st3 go) fun r s4 ⟨u,hr,h4⟩=>?_)
  subst hr;refine a3z hp (thn h4 fun _ s5 ⟨x,H5,I5,r5,y5,st5,fr5⟩=>?_);have I5':=I5.pinned (stat fr5) (T.obj _ _ st5);refine a3z hp (thn (hg _ s5 σ3 H5 x u _ I5' r5 (step x H5 y5)) fun _ s6 ⟨σ6,H6,I6,q6⟩=>?_);refine a3z hp (thn (hb _ s6 σ6 H6 _ I6 q6) fun f s7 q7=>?_)
  have again:∀ {σ7:St} {H7:Hp},Inv X (pins++a9X fp s5.heap) σ7 H7 s7->N σ7 H7->∃m,m<n/\∃i σ' H',Inv X pins σ' H' s7/\tn i s7.heap/\(∀b∈fp,H' b=none)/\W i m σ' H':=fun {σ7 H7} I7 n7=>by
   obtain⟨m',hm,w7⟩:=hN σ7 H7 n7;refine⟨m',hm,i+1,σ7,H7,I7.unpinned,T.keep _ _ _ st5 fun b hb o e=>(I7.pin (b,o) (B8 _ (B8 _ (a4n hb e)))).1,fun b hb=>?_,w7⟩;obtain⟨o,e,d⟩:=T.obj _ _ st5 b hb;exact(I7.pin (b,o) (B8 _ (B8 _ (a4n hb e)))).2.1
  cases f with
  | next=>obtain⟨σ7,H7,I7,n7⟩:=q7;exact again I7 n7
  | cont=>obtain⟨σ7,H7,I7,n7⟩:=q7;exact again I7 n7
  | brk=>obtain⟨σ7,H7,I7,q7⟩:=q7;exact⟨σ7,H7,I7.unpinned,q7⟩
  | ret v=>obtain⟨x7,σ7,H7,I7,r7,q7⟩:=q7;exact⟨x7,σ7,H7,I7.unpinned,r7,q7⟩
end
theorem a1v{K:Fg}{g:TG}{D:b0r}(Pv:Nat->St->Hp->Prop)(h0:Pv 0 σ H)(hl:∀i σ H,i<=xs.length->Pv i σ H->SqL K H a xs)
  (hs:∀i x σ H,xs[i]? = some x->Pv i σ H->g x σ H fun σ2 H2=>tb { D with nx:=Pv (i+1),ct:=Pv (i+1),bk:=D.nx } σ2 H2) (hd:∀σ H,Pv xs.length σ H->D.nx σ H) :
  ∃W:Nat->Nat->St->Hp->Prop,(∃m,W 0 m σ H)/\∀i m σ H,W i m σ H ->
   ((Itl K a).stop i H/\D.nx σ H)\/((Itl K a).go i H/\∃N:St->Hp->Prop,(∀σ' H',N σ' H'->∃m',m'<m/\W (i+1) m' σ' H')/\∀x H',(Itl K a).yld i H x H'->g x σ H' fun σ2 H2=>tb { D with nx:=N,ct:=N,bk:=D.nx } σ2 H2):=by
 refine⟨fun i m σ H=>m=xs.length - i/\i<=xs.length/\Pv i σ H,⟨xs.length,by simp,P8 _,h0⟩,?_⟩;rintro i m σ H ⟨rfl,hi,p⟩;have q:=hl i σ H hi p;by_cases hlt:i<xs.length
 ·refine .inr ⟨⟨xs,xs[i],q,by simp[hlt]⟩,Pv (i+1),fun σ' H' p'=>⟨xs.length - (i+1),by omega,rfl,hlt,p'⟩,fun x H' y=>?_⟩
  obtain⟨e,y⟩:=y;subst e;exact hs i x σ _ (y xs q) p
 ·have e:i=xs.length:=by omega
  subst e;exact .inl ⟨⟨xs,q,j9 _⟩,hd σ H p⟩
theorem a0z{lo:Int}{n:Nat}{g:TG}{D:b0r}(Pv:Nat->St->Hp->Prop)(h0:Pv 0 σ H)
  (hs:∀i σ H,i<n->Pv i σ H->g (.int (lo+i)) σ H fun σ2 H2=>tb { D with nx:=Pv (i+1),ct:=Pv (i+1),bk:=D.nx } σ2 H2) (hd:∀σ H,Pv n σ H->D.nx σ H) :
  ∃W:Nat->Nat->St->Hp->Prop,(∃m,W 0 m σ H)/\∀i m σ H,W i m σ H ->
   ((Itr lo n).stop i H/\D.nx σ H)\/((Itr lo n).go i H/\∃N:St->Hp->Prop,(∀σ' H',N σ' H'->∃m',m'<m/\W (i+1) m' σ' H')/\∀x H',(Itr lo n).yld i H x H'->g x σ H' fun σ2 H2=>tb { D with nx:=N,ct:=N,bk:=D.nx } σ2 H2):=by
 refine⟨fun i m σ H=>m=n - i/\i<=n/\Pv i σ H,⟨n,by simp,P8 _,h0⟩,?_⟩;rintro i m σ H ⟨rfl,hi,p⟩;by_cases hlt:i<n
 ·refine .inr ⟨hlt,Pv (i+1),fun σ' H' p'=>⟨n - (i+1),by omega,rfl,hlt,p'⟩,fun x H' y=>?_⟩
  obtain⟨e,y⟩:=y;subst e y;exact hs i σ _ hlt p
 ·have e:i=n:=by omega
  subst e;exact .inl ⟨j9 _,hd σ H p⟩
abbrev R2:=V->V->Hp->VK->Prop
def OpR(X:Cx)(f:Value->Value->Sem Value)(r:R2):Prop:=
 ∀(pins:List (Addr×Obj)) (s:l7) (σ:St) (H:Hp) (x y:V) (v u:Value) (Q:VK),Inv X pins σ H s->K8 x v->K8 y u->r x y H Q ->
  wpAny (model X.prog X.w) X.A (f v u) (EP X pins σ Q) X.xe s
def UnR(X:Cx)(f:Value->Sem Value)(r:V->Hp->VK->Prop):Prop:=
 ∀(pins:List (Addr×Obj)) (s:l7) (σ:St) (H:Hp) (x:V) (v:Value) (Q:VK),Inv X pins σ H s->K8 x v->r x H Q ->
  wpAny (model X.prog X.w) X.A (f v) (EP X pins σ Q) X.xe s
def a0Y(X:Cx)(f:Value)(r:List V->Hp->VK->Prop):Prop:=
 ∀(pins:List (Addr×Obj)) (s:l7) (σ:St) (H:Hp) (xs:List V) (us:List Value) (Q:VK),Inv X pins σ H s->L1 xs us->r xs H Q ->
  wpAny (model X.prog X.w) X.A (call f us) (EP X pins σ Q) X.xe s
def tOp(r:R2)(ta tb:TE):TE:=fun σ H Q=>ta σ H fun x H1=>tb σ H1 fun y H2=>r x y H2 Q
def tUn(r:V->Hp->VK->Prop)(ta:TE):TE:=fun σ H Q=>ta σ H fun x H1=>r x H1 Q
def rI(C:Int->Int->Prop)(g:Int->Int->V):R2:=fun x y H Q=>∃i j,x=.int i/\y=.int j/\C i j/\Q (g i j) H
def rI0(g:Int->Int->V):R2:=fun x y H Q=>∃i j,x=.int i/\y=.int j/\Q (g i j) H
def rU(g:Int->V):V->Hp->VK->Prop:=fun x H Q=>∃i,x=.int i/\Q (g i) H
section
variable {a b:Expr}{tb tc:TE}
theorem d2B(ha:PE X a ta)(hb:PE X b tb){R:V->V->Hp->Prop}(I:Inv X pins σ H s)
  (h:ta σ H fun x H1=>tb σ H1 fun y H2=>R x y H2) {Q:Value->l7->Prop} {f:Value->Value->Sem Value}
  (hf:∀v u s2 x y H2,Inv X pins σ H2 s2->K8 x v->K8 y u->R x y H2->wpAny (model X.prog X.w) X.A (f v u) Q X.xe s2) :
  wpAny (model X.prog X.w) X.A (eval a X.env) (fun v s₁=>wpAny (model X.prog X.w) X.A (eval b X.env) (fun u s₂=>wpAny (model X.prog X.w) X.A (f v u) Q X.xe s₂) X.xe s₁) X.xe s:=by
 refine thn (ha pins s σ H _ I h) fun v s1 ⟨x,H1,I1,r1,q1⟩=>?_
 refine thn (hb pins s1 σ H1 _ I1 q1) fun u s2 ⟨y,H2,I2,r2,q2⟩=>?_
 exact hf v u s2 x y H2 I2 r1 r2 q2
theorem d3K{op:b5J}{r:R2}(ho:OpR X (a1w op) r)(ha:PE X a ta)(hb:PE X b tb):PE X (.BinOp a op b pos) (tOp r ta tb):=by
 intro pins s σ H Q I h;exact wpAny_BinOp (d2B ha hb I h fun v u s2 x y H2 I2 rx ry q=>ho pins s2 σ H2 x y v u Q I2 rx ry q)
theorem d3I{op:UnaryOp}{r:V->Hp->VK->Prop}(ho:UnR X (unaryOp op) r)(ha:PE X a ta):PE X (.UnaryOp op a pos) (tUn r ta):=by
 intro pins s σ H Q I h;exact UnaryOp_ (thn (ha pins s σ H _ I h) fun v s1 ⟨x,H1,I1,r1,q1⟩=>ho pins s1 σ H1 x v Q I1 r1 q1)
theorem opI{f:Value->Value->Sem Value}{C:Int->Int->Prop}{g:Int->Int->Int}
  (rule:∀(i j:Int) (t u:Tok) (s:l7) (Q:Value->l7->Prop) (E:Value->l7->Prop),C i j->Q (.int (g i j) s.toks) { s with toks:=s.toks+1 }->wpAny (model X.prog X.w) X.A (f (.int i t) (.int j u)) Q E s) :
  OpR X f (rI C fun i j=>.int (g i j)):=by
 intro pins s σ H x y v u Q I rx ry h;obtain⟨i,j,rfl,rfl,hc,q⟩:=h;obtain⟨t,rfl⟩:=rx;obtain⟨t',rfl⟩:=ry;exact rule i j t t' s _ _ hc ⟨.int (g i j),H,I.tok _,⟨_,rfl⟩,q⟩
theorem d3V{f:Value->Value->Sem Value}{g:Int->Int->Int}
  (rule:∀(i j:Int) (t u:Tok) (s:l7) (Q:Value->l7->Prop) (E:Value->l7->Prop),Q (.int (g i j) s.toks) { s with toks:=s.toks+1 }->wpAny (model X.prog X.w) X.A (f (.int i t) (.int j u)) Q E s) :
  OpR X f (rI0 fun i j=>.int (g i j)):=by
 intro pins s σ H x y v u Q I rx ry h;obtain⟨i,j,rfl,rfl,q⟩:=h;obtain⟨t,rfl⟩:=rx;obtain⟨t',rfl⟩:=ry;exact rule i j t t' s _ _ ⟨.int (g i j),H,I.tok _,⟨_,rfl⟩,q⟩
theorem c9f{f:Value->Value->Sem Value}{g:Int->Int->Bool}
  (rule:∀(i j:Int) (t u:Tok) (s:l7) (Q:Value->l7->Prop) (E:Value->l7->Prop),Q (.bool (g i j)) s->wpAny (model X.prog X.w) X.A (f (.int i t) (.int j u)) Q E s) :
  OpR X f (rI0 fun i j=>.bl (g i j)):=by
 intro pins s σ H x y v u Q I rx ry h;obtain⟨i,j,rfl,rfl,q⟩:=h;obtain⟨t,rfl⟩:=rx;obtain⟨t',rfl⟩:=ry;exact rule i j t t' s _ _ ⟨.bl (g i j),H,I,rfl,q⟩
def c9S(i j:Int):Prop:=(-(2 ^ 64)<i/\i<2 ^ 64)\/(-(2 ^ 64)<j/\j<2 ^ 64)
theorem c9S.ok{i j:Int}(h:c9S i j):IntMulOk i j:=by
 rcases h with ⟨h1,h2⟩ | ⟨h1,h2⟩
 ·exact .of_left (intBits_le_64 h1 h2)
 ·exact .of_right (intBits_le_64 h1 h2)
theorem d1X:OpR X (a1w .Add) (rI0 fun i j=>.int (i+j)):=d3V fun _ _ _ _ _ _ _ q=>add_int q
theorem d1M:OpR X (a1w .Sub) (rI0 fun i j=>.int (i - j)):=d3V fun _ _ _ _ _ _ _ q=>sub_int q
theorem d1U:OpR X (a1w .Mult) (rI c9S fun i j=>.int (i * j)):=opI fun _ _ _ _ _ _ _ hc q=>mul_int q hc.ok
theorem d1V:OpR X (a1w .Mod) (rI (fun _ j=>0<j) fun i j=>.int (i % j)):=opI fun i j _ _ _ _ _ hc q=>by
 have h1:(0:Int)<j:=hc;exact mod_int' (by omega) (by rw[Int.fmod_eq_emod_of_nonneg i (by omega)];exact q)
theorem unI{f:Value->Sem Value}{g:Int->Int}
  (rule:∀(i:Int) (t:Tok) (s:l7) (Q:Value->l7->Prop) (E:Value->l7->Prop),Q (.int (g i) s.toks) { s with toks:=s.toks+1 }->wpAny (model X.prog X.w) X.A (f (.int i t)) Q E s) :
  UnR X f (rU fun i=>.int (g i)):=by
 intro pins s σ H x v Q I rx h;obtain⟨i,rfl,q⟩:=h;obtain⟨t,rfl⟩:=rx;exact rule i t s _ _ ⟨.int (g i),H,I.tok _,⟨_,rfl⟩,q⟩
theorem d0G:UnR X (unaryOp .USub) (rU fun i=>.int (-i)):=unI fun _ _ _ _ _ q=>neg_int q
end
def b9h:V->V->Bool
 | .non,.non=>true | .non,.int _=>true | .int _,.non=>true | .non,.bl _=>true | .bl _,.non=>true | .non,.str _=>true | .str _,.non=>true
 | .int _,.int _=>true | .bl _,.bl _=>true | .str _,.str _=>true | .byt _,.byt _=>true
 | .int _,.str _=>true | .str _,.int _=>true | .bl _,.str _=>true | .str _,.bl _=>true
 | _,_=>false
def rEq:R2:=fun x y H Q=>b9h x y=true/\Q (.bl (decide (x=y))) H
def rNe:R2:=fun x y H Q=>b9h x y=true/\Q (.bl (!decide (x=y))) H
theorem c2P{i j:Int}:decide (V.int i=V.int j)=(i == j):=by
 rw[V1];simp
theorem c7m{i j:Bool}:decide (V.bl i=V.bl j)=(i == j):=by
 rw[V1];simp
theorem c2O{i j:Str}:decide (V.str i=V.str j)=(i == j):=by
 rw[V1];simp
theorem c2Q{i j:Array UInt8}:decide (V.byt i=V.byt j)=(i.toList == j.toList):=by
 rw[V1];cases i;cases j;simp
section
variable {a b:Expr}{tb tc:TE}
theorem T6{Q:VK}{k k':Bool}(I:Inv X pins σ H s)(q:Q (.bl k) H)(e:k=k'):EP X pins σ Q (.bool k') s:=by
 subst e;exact⟨.bl k,H,I,rfl,q⟩
theorem d3U:OpR X (A3 .Eq) rEq:=by
 intro pins s σ H x y v u Q I rx ry h;obtain⟨hs,q⟩:=h;cases x with
 | non=>
  cases rx;cases y with
  | non=>cases ry;exact PySem.EqNone.eq_none_none (T6 I q (by simp))
  | bl j=>cases ry;exact PySem.EqNone.eq_none_bool (T6 I q (by simp))
  | int j=>obtain⟨t',rfl⟩:=ry;exact PySem.EqNone.eq_none_int (T6 I q (by simp))
  | str j=>obtain⟨t',rfl⟩:=ry;exact PySem.EqNone.eq_none_str (T6 I q (by simp))
  | _=>exact absurd (show false=true from hs) w4
 | bl i=>
  cases rx;cases y with
  | non=>cases ry;exact PySem.EqNone.eq_bool_none (T6 I q (by simp))
  | bl j=>cases ry;exact eq_bool (T6 I q c7m)
  | str j=>obtain⟨t',rfl⟩:=ry;exact PySem.EqMixed.eq_bool_str (T6 I q (by simp))
  | _=>exact absurd (show false=true from hs) w4
 | int i=>
  obtain⟨t,rfl⟩:=rx;cases y with
  | non=>cases ry;exact PySem.EqNone.eq_int_none (T6 I q (by simp))
  | int j=>obtain⟨t',rfl⟩:=ry;exact eq_int (T6 I q c2P)
  | str j=>obtain⟨t',rfl⟩:=ry;exact PySem.EqMixed.eq_int_str (T6 I q (by simp))
  | _=>exact absurd (show false=true from hs) w4
 | str i=>
  obtain⟨t,rfl⟩:=rx;cases y with
  | non=>cases ry;exact PySem.EqNone.eq_str_none (T6 I q (by simp))
  | bl j=>cases ry;exact PySem.EqMixed.eq_str_bool (T6 I q (by simp))
  | int j=>obtain⟨t',rfl⟩:=ry;exact PySem.EqMixed.eq_str_int (T6 I q (by simp))
  | str j=>obtain⟨t',rfl⟩:=ry;exact eq_str (T6 I q c2O)
  | _=>exact absurd (show false=true from hs) w4
 | byt i=>
  obtain⟨t,rfl⟩:=rx;cases y with
  | byt j=>obtain⟨t',rfl⟩:=ry;exact PySem.W.eq_bytes (T6 I q c2Q)
  | _=>exact absurd (show false=true from hs) w4
 | _=>cases y <;> exact absurd (show false=true from hs) w4
theorem d3P:OpR X (A3 .NotEq) rNe:=by
 intro pins s σ H x y v u Q I rx ry h;obtain⟨hs,q⟩:=h;cases x with
 | non=>
  cases rx;cases y with
  | non=>cases ry;exact PySem.EqNone.ne_none_none (T6 I q (by simp))
  | bl j=>cases ry;exact PySem.EqNone.ne_none_bool (T6 I q (by simp))
  | int j=>obtain⟨t',rfl⟩:=ry;exact PySem.EqNone.ne_none_int (T6 I q (by simp))
  | str j=>obtain⟨t',rfl⟩:=ry;exact PySem.EqNone.ne_none_str (T6 I q (by simp))
  | _=>exact absurd (show false=true from hs) w4
 | bl i=>
  cases rx;cases y with
  | non=>cases ry;exact PySem.EqNone.ne_bool_none (T6 I q (by simp))
  | bl j=>cases ry;exact ne_bool (T6 I q (congrArg not c7m))
  | str j=>obtain⟨t',rfl⟩:=ry;exact PySem.EqMixed.ne_bool_str (T6 I q (by simp))
  | _=>exact absurd (show false=true from hs) w4
 | int i=>
  obtain⟨t,rfl⟩:=rx;cases y with
  | non=>cases ry;exact PySem.EqNone.ne_int_none (T6 I q (by simp))
  | int j=>obtain⟨t',rfl⟩:=ry;exact ne_int (T6 I q (congrArg not c2P))
  | str j=>obtain⟨t',rfl⟩:=ry;exact PySem.EqMixed.ne_int_str (T6 I q (by simp))
  | _=>exact absurd (show false=true from hs) w4
 | str i=>
  obtain⟨t,rfl⟩:=rx;cases y with
  | non=>cases ry;exact PySem.EqNone.ne_str_none (T6 I q (by simp))
  | bl j=>cases ry;exact PySem.EqMixed.ne_str_bool (T6 I q (by simp))
  | int j=>obtain⟨t',rfl⟩:=ry;exact PySem.EqMixed.ne_str_int (T6 I q (by simp))
  | str j=>obtain⟨t',rfl⟩:=ry;exact ne_str (T6 I q (congrArg not c2O))
  | _=>exact absurd (show false=true from hs) w4
 | byt i=>
  obtain⟨t,rfl⟩:=rx;cases y with
  | byt j=>obtain⟨t',rfl⟩:=ry;exact PySem.W.ne_bytes (T6 I q (congrArg not c2Q))
  | _=>exact absurd (show false=true from hs) w4
 | _=>cases y <;> exact absurd (show false=true from hs) w4
theorem d3Q:OpR X (A3 .Lt) (rI0 fun i j=>.bl (decide (i<j))):=c9f fun _ _ _ _ _ _ _ q=>lt_int q
theorem d3R:OpR X (A3 .LtE) (rI0 fun i j=>.bl (decide (i<=j))):=c9f fun _ _ _ _ _ _ _ q=>le_int q
theorem d3S:OpR X (A3 .Gt) (rI0 fun i j=>.bl (decide (j<i))):=c9f fun _ _ _ _ _ _ _ q=>gt_int q
theorem d3T:OpR X (A3 .GtE) (rI0 fun i j=>.bl (decide (j<=i))):=c9f fun _ _ _ _ _ _ _ q=>ge_int q
theorem c3U:OpR X (A3 .In) (fun x y H Q=>∃i j,x=.str i/\y=.str j/\Q (.bl (!(Builtin.Str.occurrences j i 0 j.length 1).isEmpty)) H):=by
 intro pins s σ H x y v u Q I rx ry h;obtain⟨i,j,rfl,rfl,q⟩:=h;obtain⟨t,rfl⟩:=rx;obtain⟨t',rfl⟩:=ry;exact in_str (T6 I q rfl)
theorem c9e:OpR X (A3 .IsNot) (fun x y H Q=>y=.non/\Q (.bl (!decide (x=.non))) H):=by
 intro pins s σ H x y v u Q I rx ry h;obtain⟨rfl,q⟩:=h;cases ry;refine isnot_none_gen (T6 I q ?_)
 cases x <;> first
  | (cases rx;rfl)
  | (obtain⟨t,rfl⟩:=rx;rfl)
theorem OpR.or{f:Value->Value->Sem Value}{r r':R2}(h:OpR X f r)(h':OpR X f r'):OpR X f (fun x y H Q=>r x y H Q\/r' x y H Q):=by
 intro pins s σ H x y v u Q I rx ry q;rcases q with q | q
 ·exact h pins s σ H x y v u Q I rx ry q
 ·exact h' pins s σ H x y v u Q I rx ry q
theorem a3N(b:Expr){op:CmpOp}(h:op≠.In:=by decide)(h2:op≠.NotIn:=by decide):U4 op b=false:=by
 have e1:(op == CmpOp.In)=false:=by cases op <;> first | rfl | exact absurd rfl h
 have e2:(op == CmpOp.NotIn)=false:=by cases op <;> first | rfl | exact absurd rfl h2
 cases b <;> simp[U4,e1,e2]
theorem c8P{op:CmpOp}{r:R2}(ho:OpR X (A3 op) r)(ha:PE X a ta)(hb:PE X b tb)(hm:U4 op b=false):PE X (.Compare a [op] [b] pos) (tOp r ta tb):=by
 intro pins s σ H Q I h;exact wpAny_Compare1 (d2B ha hb I h fun v u s2 x y H2 I2 rx ry q=>ho pins s2 σ H2 x y v u Q I2 rx ry q) hm
def C7(t:TE):TT:=fun σ H Q=>t σ H fun x H'=>∃k,x=.bl k/\Q k H'
theorem c8w{op:CmpOp}{r:R2}(ho:OpR X (A3 op) r)(ha:PE X a ta)(hb:PE X b tb)(hm:U4 op b=false):PT X (.Compare a [op] [b] pos) (C7 (tOp r ta tb)):=by
 intro pins s σ H Q I h
 refine d3b (thn (ha pins s σ H _ I h) fun v s1 ⟨x,H1,I1,r1,q1⟩=>thn (hb pins s1 σ H1 _ I1 q1) fun u s2 ⟨y,H2,I2,r2,q2⟩=>
  thn (ho pins s2 σ H2 x y v u _ I2 r1 r2 q2) fun c s3 ⟨z,H3,I3,r3,k,e,q3⟩=>?_) hm
 subst e;cases r3;exact U3 ⟨H3,I3,q3⟩
def a7b(r r':R2)(ta tb tc:TE):TE:=fun σ H Q=>ta σ H fun x H1=>tb σ H1 fun y H2=>r x y H2 fun z H3=>∃k,z=.bl k /\
 (if k=true then tc σ H3 fun w' H4=>r' y w' H4 Q else Q (.bl false) H3)
theorem c6D{op op':CmpOp}{r r':R2}(ho:OpR X (A3 op) r)(ho':OpR X (A3 op') r')(ha:PE X a ta)(hb:PE X b tb)(hc:PE X c tc)
  (hm:d3f [op,op'] [b,c]=false:=by with_unfolding_all rfl):PE X (.Compare a [op,op'] [b,c] pos) (a7b r r' ta tb tc):=by
 intro pins s σ H Q I h
 refine Compare_chain (thn (ha pins s σ H _ I h) fun v s1 ⟨x,H1,I1,r1,q1⟩=>chain_link (thn (hb pins s1 σ H1 _ I1 q1) fun u s2 ⟨y,H2,I2,r2,q2⟩=>
  thn (ho pins s2 σ H2 x y v u _ I2 r1 r2 q2) fun d s3 ⟨z,H3,I3,r3,k,e,q3⟩=>?_)) hm
 subst e;cases r3;refine U3 ?_;cases k with
 | false=>exact ite_ff ⟨.bl false,H3,I3,rfl,q3⟩
 | true=>exact ite_tt (chain_last (thn (hc pins s3 σ H3 _ I3 q3) fun w' s4 ⟨z',H4,I4,r4,q4⟩=>ho' pins s4 σ H4 y z' u w' Q I4 r2 r4 q4))
theorem c6p{op op':CmpOp}{r r':R2}(ho:OpR X (A3 op) r)(ho':OpR X (A3 op') r')(ha:PE X a ta)(hb:PE X b tb)(hc:PE X c tc)
  (hm:d3f [op,op'] [b,c]=false:=by with_unfolding_all rfl):PT X (.Compare a [op,op'] [b,c] pos) (C7 (a7b r r' ta tb tc)):=by
 intro pins s σ H Q I h
 refine isTrue_chain (thn (ha pins s σ H _ I h) fun v s1 ⟨x,H1,I1,r1,q1⟩=>test_link (thn (hb pins s1 σ H1 _ I1 q1) fun u s2 ⟨y,H2,I2,r2,q2⟩=>
  thn (ho pins s2 σ H2 x y v u _ I2 r1 r2 q2) fun d s3 ⟨z,H3,I3,r3,k,e,q3⟩=>?_)) hm
 subst e;cases r3;refine U3 ?_;cases k with
 | false=>
  obtain⟨k',e',q'⟩:=q3;cases e';exact ite_ff ⟨H3,I3,q'⟩
 | true=>
  refine ite_tt (test_last (thn (hc pins s3 σ H3 _ I3 q3) fun w' s4 ⟨z',H4,I4,r4,q4⟩=>thn (ho' pins s4 σ H4 y z' u w' _ I4 r2 r4 q4) fun d' s5 ⟨z2,H5,I5,r5,k2,e2,q5⟩=>?_));subst e2;cases r5;exact U3 ⟨H5,I5,q5⟩
theorem b0j:(u7:Nat)<2 ^ 63:=by rw[sizeLine_eq];decide
theorem c1A:OpR X (a1w .Add) (fun x y H Q=>∃i j,x=.str i/\y=.str j/\i.length+j.length<=u7/\Q (.str (i++j)) H):=by
 intro pins s σ H x y v u Q I rx ry h;obtain⟨i,j,rfl,rfl,hz,q⟩:=h;obtain⟨t,rfl⟩:=rx;obtain⟨t',rfl⟩:=ry;exact add_str (fun t' tk=>⟨.str (i++j),H,I.tok _,⟨_,rfl⟩,q⟩) hz
theorem a8f{x:V}(r:L1 [x] us):∃u,us=[u]/\K8 x u:=by
 cases r with
 | cons r1 r2=>cases r2;exact⟨_,rfl,r1⟩
theorem b8U{x:V}(r:L1 [x,y] us):∃u w',us=[u,w']/\K8 x u/\K8 y w':=by
 cases r with
 | cons r1 r2=>
  cases r2 with
  | cons r3 r4=>cases r4;exact⟨_,_,rfl,r1,r3⟩
theorem c7s:a0Y X (.builtin "abs") (fun xs H Q=>∃i,xs=[.int i]/\Q (.int (if i<0 then -i else i)) H):=by
 intro pins s σ H xs us Q I r h;obtain⟨i,rfl,q⟩:=h;obtain⟨u,rfl,t,rfl⟩:=a8f r;exact call_abs_int fun u tk=>⟨.int (if i<0 then -i else i),H,I.tok _,⟨_,rfl⟩,q⟩
theorem c4I(hc:X.calm=true):a0Y X (.builtin "min") (fun xs H Q=>∃i j,xs=[.int i,.int j]/\Q (.int (if j<i then j else i)) H):=by
 intro pins s σ H xs us Q I r h;obtain⟨i,j,rfl,q⟩:=h;obtain⟨u,w',rfl,⟨t,rfl⟩,⟨t',rfl⟩⟩:=b8U r;refine min_two_ints (I.ok.hd hc) fun h' tk k=>⟨_,H,I.kept k,?_,q⟩
 by_cases hj:j<i
 ·rw[if_pos hj,if_pos hj];exact⟨_,rfl⟩
 ·rw[if_neg hj,if_neg hj];exact⟨_,rfl⟩
end
structure c2j(h:Heap)(x dx C:Addr)(mA:Str->Option Value):Prop where
 obj:h.get? x=some (a1b C dx)
 ns:h.Ns1 dx mA
 ne:dx≠x
theorem c4m{mA:Str->Option Value}(n:h.Ns1 dx mA):∃od,h.get? dx=some od/\∀name,a9m name od=some (mA name):=by
 obtain⟨o,es,ep,ho,hd,hk,_,hm⟩:=n;refine⟨o,ho,fun name=>?_⟩;have e:=hm name;unfold nsFind findBy at e;rw[<-Array.find?_toList]at e;unfold a9m;rw[hd];dsimp only;split
 ·rename_i y q
  rw[q]at e;exact congrArg some e
 ·rename_i q
  rw[q]at e
  have a:es.toList.any (·.refKey)=false:=by
   rw[List.any_eq_false];intro y hy;obtain⟨z,t,hkey⟩:=hk y (Array.mem_toList_iff.mp hy);simp[DictEntry.refKey,hkey]
  have a':¬es.toList.any (·.refKey)=true:=by rw[a];exact w4
  rw[if_neg a'];exact congrArg some e
theorem c2j.look{x:Addr}{mA:Str->Option Value}(I:c2j h x dx C mA):∃od,PySem.W.InstAt h x (a1b C dx) C (some od)/\∀name,a9m name od=some (mA name):=
 let⟨od,ho,hl⟩:=c4m I.ns
 ⟨od,⟨I.obj,rfl,rfl,ho⟩,hl⟩
section
variable {prog:D8}{A:T3}{E:Value->l7->Prop}{K:Fg}{x:Addr}{mA:Str->Option Value}{name:Str}{v:Value}
theorem c9C{expr:Bool}(X:K.In s.heap)(I:c2j s.heap x dx C mA)(hg:a4S K C name=true)(hh:a6u K C=true)
  (ha:A6 K (.ref C) name=some none) (hv:mA name=some v) (hv':c7G v=true) (h:Q v { s with toks:=s.toks+1 }) :
  wpAny (model prog w) A (getAttr (.ref x) name expr) Q E s:=by
 obtain⟨od,J,hl⟩:=I.look;exact PySem.W.get_value X J (b0u hg).1 (PySem.W.findObj_own hh ha rfl (by rw[hl,hv])) hv' h
theorem c7g{pl:Sem Bool}{Q:Value×List Value->l7->Prop}(X:K.In s.heap)(I:c2j s.heap x dx C mA)(hg:a4S K C name=true)
  (hf:A6 K (.ref C) name=some (some (.ref f))) (ht:b2U K (.ref f)=true) (hv:mA name=none) (h:Q (.ref f,[.ref x]) s) :
  wpAny (model prog w) A (b0y (.ref x) name pl) Q E s:=by
 obtain⟨od,J,hl⟩:=I.look;exact PySem.W.method_fn X J (b0u hg).1 (b0u hg).2 hf (beq_iff_eq.mp ht) (by show(a9m name od).map (·.isSome)=some false;rw[hl,hv];rfl) h
theorem c8a{ns:List Str}{Q:Unit->l7->Prop}(X:K.In s.heap)(I:c2j s.heap x dx C mA)
  (hs:A6 K (.ref C) "__setattr__" = some (some (.builtin "object.__setattr__"))) (hp:b2S K C=true) (ht:b5G K C name=some none) (hh:a6u K C=true)
  (hw:PySem.Within mA ns) (hsz:ns.length<=u7)
  (h:∀h',c2j h' x dx C (fun y=>if y=name then some v else mA y)->Heap.SameBut dx s.heap h'->Q () { s with heap:=h',toks:=s.toks+2 }) :
  wpAny (model prog w) A (setAttr (.ref x) name v) Q E s:=by
 obtain⟨od,J,hl⟩:=I.look;refine PySem.W.set_plain X J hs (PySem.W.osa_open (s:={ s with toks:=s.toks+1 }) (r:=none) X J hp ht fun b=>?_);obtain⟨cd,hc,hd'⟩:=PySem.W.any_some hh;have hx:s.heap.get? x=some ⟨.ref C,some dx,.plain,#[]⟩:=I.obj;refine d5 (u5 (d5 (d5 (wpAny_loadPart hx (d5 (PySem.W.Looks.here (s:={ s with toks:=s.toks+1 }) (PySem.W.looks_clsIn X hc) ?_))))));rw[hd'];refine u5 (a:=some dx) (d5 (u5 (d5 ?_)));refine wpAny_nsSet1 (s:={ s with toks:=s.toks+1 }) I.ns fun h' hn2 hs2=>?_
 obtain⟨oD,esD,epD,hoD,hdD,hcD⟩:=hn2.count (PySem.Within.cons name v hw);refine d5 (wpAny_lookBehind hoD (by rw[hdD];exact pastItsLine_dict (J4 hcD (by rw[z9];omega))) ?_);exact u5 (h _ ⟨(hs2.2 _ (Ne.symm I.ne)).trans I.obj,hn2,I.ne⟩ hs2)
theorem c6V{R:d0a->l7->Prop}{vs:List Value}{kw:List (Str×Value)}(X:K.In s.heap)(hm:a7W K C=true)
  (hi:A6 K (.ref C) "__init__" = some (some (.ref f))) (hf:PySem.W.typeIn K (.ref f)=some (.type "function"))
  (h:a6Z (model prog w) (A.under (.builtin "type.__call__" ⟨.ref C::vs,kw⟩)) (.call (.ref f) ⟨.ref (s.heap.objs.size+1)::vs,kw⟩) (PySem.W.InitBack (s.heap.objs.size+1) R)
   { s with heap:=(s.heap.push X4).push (a1b C s.heap.objs.size) }) :
  a6Z (model prog w) A (.call (.ref C) ⟨vs,kw⟩) R s:=by
 obtain⟨hh,g,d,t,os⟩:=s;exact PySem.W.make_core (PySem.W.makes_of X hm) (PySem.W.looks_findIn X hi) (fun self=>PySem.W.bind_fn X self hf) (.inl rfl) h
end
def X7(f:Str)(v:V):List (Str×V)->List (Str×V)
 | []=>[(f,v)]
 | (g,x)::r=>if g=f then (g,v)::r else (g,x)::X7 f v r
theorem b3i(f g:Str)(v:V):∀fs:List (Str×V),(X7 f v fs).lookup g=if g=f then some v else fs.lookup g
 | []=>by
  show a2F g [(f,v)]=_;by_cases h:g=f
  ·have hb:(g == f)=true:=beq_iff_eq.mpr h
   simp only[a2F,hb,if_pos h]
  ·have hb:(g == f)=false:=beq_eq_false_iff_ne.mpr h
   simp only[a2F,hb,if_neg h]
 | (k,x)::r=>by
  have ih:=b3i f g v r;rw[show X7 f v ((k,x)::r)=(if k=f then (k,v)::r else (k,x)::X7 f v r)from rfl];by_cases hk:k=f
  ·rw[if_pos hk]
   by_cases h:g=k
   ·have hb:(g == k)=true:=beq_iff_eq.mpr h
    simp only[a2F,hb,if_pos (h.trans hk)]
   ·have hb:(g == k)=false:=beq_eq_false_iff_ne.mpr h
    simp only[a2F,hb,if_neg (fun e:g=f=>h (e.trans hk.symm))]
  ·rw[if_neg hk]
   by_cases h:g=k
   ·have hb:(g == k)=true:=beq_iff_eq.mpr h
    simp only[a2F,hb,if_neg (fun e:g=f=>hk (h.symm.trans e))]
   ·have hb:(g == k)=false:=beq_eq_false_iff_ne.mpr h
    simp only[a2F,hb];exact ih
theorem b2G(f:Str)(v:V):∀fs:List (Str×V),f∈(X7 f v fs).map (·.1)/\∀g,g∈fs.map (·.1)->g∈(X7 f v fs).map (·.1)
 | []=>⟨by simp[X7],fun g h=>by simp at h⟩
 | (k,x)::r=>by
  obtain⟨i1,i2⟩:=b2G f v r;rw[show X7 f v ((k,x)::r)=(if k=f then (k,v)::r else (k,x)::X7 f v r)from rfl];by_cases hk:k=f
  ·rw[if_pos hk]
   subst hk;exact⟨by simp,fun g h=>by simpa using h⟩
  ·rw[if_neg hk]
   refine⟨?_,fun g h=>?_⟩
   ·rw[D5]
    exact E9 _ i1
   ·rw[D5]at h ⊢
    rcases u6.mp h with e | e
    ·exact u6.mpr (.inl e)
    ·exact E9 _ (i2 g e)
theorem b3k(f:Str)(v:V):∀fs:List (Str×V),(X7 f v fs).length<=fs.length+1
 | []=>by simp[X7]
 | (k,x)::r=>by
  have ih:=b3k f v r;rw[show X7 f v ((k,x)::r)=(if k=f then (k,v)::r else (k,x)::X7 f v r)from rfl];by_cases hk:k=f
  ·rw[if_pos hk,z9,z9];omega
  ·rw[if_neg hk,z9,z9];omega
theorem a7U.some_of{o:Option Value}(r:a7U (some v) o):∃u,o=some u/\K8 v u:=by
 cases o with
 | none=>exact(show False from r).elim
 | some u=>exact⟨u,rfl,r⟩
theorem a7U.none_of{o:Option Value}(r:a7U none o):o=none:=by
 cases o with
 | none=>rfl
 | some u=>exact(show False from r).elim
theorem c4v(r:K8 v u):c7G u=true:=by
 cases v with
 | non=>cases (show u=Value.none from r);rfl
 | bl b=>cases (show u=Value.bool b from r);rfl
 | int i=>obtain⟨t,e⟩:=(show ∃t,u=Value.int i t from r);cases e;rfl
 | str x=>obtain⟨t,e⟩:=(show ∃t,u=Value.str x t from r);cases e;rfl
 | byt b=>obtain⟨t,e⟩:=(show ∃t,u=Value.bytes b t from r);cases e;rfl
 | flt b=>obtain⟨t,e⟩:=(show ∃t,u=Value.float b t from r);cases e;rfl
 | ref a=>cases (show u=Value.ref a from r);rfl
 | ty n=>cases (show u=Value.type n from r);rfl
section
variable {P:D8}{fs fs':List (Str×V)}
theorem b3N(hok:HOk P w H h)(e:H a=some (.ins C dx fs)):∃mA,c2j h a dx C mA/\(∀f,a7U (fs.lookup f) (mA f))/\PySem.Within mA (fs.map (·.1))/\fs.length<=1000/\H dx=some (.own a):=by
 obtain⟨d,z,ne,ob,mA,n,r,q⟩:=(show a0v P w H h a (.ins C dx fs)from hok a _ e);exact⟨mA,⟨ob,n,ne⟩,r,q,z,d⟩
end
structure Cls(K:Fg)(C:Addr):Prop where
 pg:a4S K C Str.empty=true
 hd:a6u K C=true
 po:b2S K C=true
 sa:A6 K (.ref C) "__setattr__" = some (some (.builtin "object.__setattr__"))
theorem Cls.get{K:Fg}(c:Cls K C)(f:Str):a4S K C f=true:=c.pg
def a1g(K:Fg)(C:Addr)(f:Str):Prop:=A6 K (.ref C) f=some none
theorem a1g.taker{K:Fg}{f:Str}(n:a1g K C f):b5G K C f=some none:=by
 unfold b5G;rw[show A6 K (.ref C) f=some none from n];rfl
structure Con(K:Fg)(C:Addr)(f:Str)(v:V)(u:Value):Prop where
 at_:A6 K (.ref C) f=some (some u)
 rel:K8 v u
 get:b2R K u "__get__" = some none
 cp:PySem.W.copiedNames.contains f=false
structure c9Q(K:Fg)(C:Addr)(m:Str)(f:Addr):Prop where
 at_:A6 K (.ref C) m=some (some (.ref f))
 fn:b2U K (.ref f)=true
 kp:a0J K (.ref f)=true
section
variable {fs:List (Str×V)}{f:Str}{A:T3}{E:Value->l7->Prop}
theorem c1V{b:Bool}(I:Inv X pins σ H s)(e:H a=some (.ins C dx fs))(c:Cls X.K C)(n:a1g X.K C f)(l:fs.lookup f=some v)
  (h:∀u s',Inv X pins σ H s'->K8 v u->Q u s'):wpAny (model X.prog X.w) A (getAttr (.ref a) f b) Q E s:=by
 obtain⟨mA,O,r,_,_,_⟩:=b3N I.hok e;obtain⟨u,hu,ru⟩:=a7U.some_of (v:=v) (o:=mA f) (by rw[<-l];exact r f);exact c9C I.kIn O (c.get f) c.hd n hu (c4v ru) (h u _ (I.tok _) ru)
theorem b5n{m:Str}{g:Addr}{pl:Sem Bool}{Q:Value×List Value->l7->Prop}(I:Inv X pins σ H s)(e:H a=some (.ins C dx fs))(c:Cls X.K C)(k:c9Q X.K C m g)(l:fs.lookup m=none)
  (h:Q (.ref g,[.ref a]) s):wpAny (model X.prog X.w) A (b0y (.ref a) m pl) Q E s:=by
 obtain⟨mA,O,r,_,_,_⟩:=b3N I.hok e;have hn:mA m=none:=a7U.none_of (by rw[<-l];exact r m);exact c7g I.kIn O (c.get m) k.at_ k.fn hn h
theorem c0T{Q:Unit->l7->Prop}(I:Inv X pins σ H s)(e:H a=some (.ins C dx fs))(c:Cls X.K C)(n:a1g X.K C f)(hl:fs.length<1000)(ry:K8 y u)
  (h:∀s',Inv X pins σ (upd H a (.ins C dx (X7 f y fs))) s'->Q () s'):wpAny (model X.prog X.w) A (setAttr (.ref a) f u) Q E s:=by
 obtain⟨mA,O,r,wi,_,ho⟩:=b3N I.hok e;have hz:(fs.map (·.1)).length<=u7:=by rw[b9,sizeLine_eq];omega
 refine c8a I.kIn O c.sa c.po n.taker c.hd wi hz fun h' O' sb=>h _ ?_
 have hd:∃o,h'.get? dx=some o:=let⟨o,_,_,e',_⟩:=O'.ns; ⟨o,e'⟩
 refine I.write (x:=a) (e:=dx) (by rw[e];exact True.intro) (.inr ho) (fun b q hb z=>(sb.2 b hb).trans z) hd ?_;refine⟨by rw[i8 O.ne];exact ho,?_,O.ne,O'.obj,_,O'.ns,fun g=>?_,fun g hg=>?_⟩
 ·have:=b3k f y fs;omega
 ·show a7U ((X7 f y fs).lookup g) (if g=f then some u else mA g)
  rw[b3i];by_cases q:g=f
  ·rw[if_pos q,if_pos q];exact ry
  ·rw[if_neg q,if_neg q];exact r g
 ·by_cases q:g=f
  ·rw[q];exact(b2G f y fs).1
  ·refine(b2G f y fs).2 g (wi g fun z=>hg ?_)
   show(if g=f then some u else mA g)=none;rw[if_neg q];exact z
theorem Inv.made(I:Inv X pins σ H s):Inv X pins σ (upd (upd H s.heap.objs.size (.own (s.heap.objs.size+1))) (s.heap.objs.size+1) (.ins C s.heap.objs.size []))
  { s with heap:=(s.heap.push X4).push (a1b C s.heap.objs.size) }:=by
 have e1:(s.heap.push X4).get? s.heap.objs.size=some X4:=A4 s.heap rfl
 have e2:((s.heap.push X4).push (a1b C s.heap.objs.size)).get? (s.heap.objs.size+1)=some (a1b C s.heap.objs.size):=by
  have:=A4 (s.heap.push X4) (o:=a1b C s.heap.objs.size) rfl
  rwa [d3a]at this
 have e3:(s.heap.push X4).Ns s.heap.objs.size (fun _=>none):=⟨X4,#[],_,e1,rfl,(fun e he=>absurd he (by simp)),fun _=>rfl⟩;have I1:=I.laid (a:=s.heap.objs.size) (o:=.own (s.heap.objs.size+1)) (h':=s.heap.push X4) (t':=s.toks) (fun b u q=>g8 _ q) (j9 _) ⟨_,e1⟩;refine I1.laid (a:=s.heap.objs.size+1) (o:=.ins C s.heap.objs.size []) (t':=s.toks) (fun b u q=>g8 _ q) (Nat.le_of_eq (d3a _ _)) ?_;have ne:s.heap.objs.size≠s.heap.objs.size+1:=A0 (d2P _);refine⟨by rw[i8 ne,d8],P8 _,ne,e2,fun _=>none,(Heap.Ns1.of_empty e3).at fun o q=>g8 _ q,fun _=>True.intro,fun y hy=>absurd rfl hy⟩
theorem c9K{prog:D8}{env:Env}(hb:a2A e f env (eval e env)=eval e env)
  (h:wpAny (model prog w) A (eval e env) (fun o s₁=>wpAny (model prog w) A (getAttr o f true) Q E s₁) E s):wpAny (model prog w) A (eval (.Attribute e f pos) env) Q E s:=
 Attribute_any_ h (by rw[arm_eval_Attribute,hb])
end
def Z6(K:Fg)(ta:TE)(f:Str):TE:=fun σ H Q=>ta σ H fun x H1=>∃a C dx fs v,x=.ref a/\H1 a=some (.ins C dx fs)/\Cls K C/\a1g K C f/\fs.lookup f=some v/\Q v H1
def a9g(K:Fg)(ta tv:TE)(f:Str):TS:=fun D σ H=>tv σ H fun y H1=>ta σ H1 fun x H2=>∃a C dx fs,x=.ref a/\H2 a=some (.ins C dx fs)/\Cls K C/\a1g K C f/\fs.length<1000 /\
 D.nx σ (upd H2 a (.ins C dx (X7 f y fs)))
section
variable {o value:Expr}{f:Str}{tpos:Pos}{tv:TE}
theorem d1H(he:PE X e ta)(hb:a2A e f X.env (eval e X.env)=eval e X.env):PE X (.Attribute e f pos) (Z6 X.K ta f):=by
 intro pins s σ H Q I h;refine c9K hb (thn (he pins s σ H _ I h) fun u s1 ⟨x,H1,I1,rx,a,C,dx,fs,v,ex,ea,c,n,l,q⟩=>?_);subst ex;obtain rfl:u=Value.ref a:=rx;exact c1V I1 ea c n l fun u' s2 I2 ru=>⟨v,H1,I2,ru,q⟩
theorem d1r(ha:PE X o ta)(hv:PE X value tv)(hs:a3A value (some (.Attribute o f pos')) pos.line X.env=pure false):PS X (.Assign [.Attribute o f pos'] value pos) (a9g X.K ta tv f):=by
 intro pins s σ H D I h;refine plainObj_wpAny_Assign_Attribute (thn (hv pins s σ H _ I h) fun u s1 ⟨y,H1,I1,ry,q⟩=>thn (ha pins s1 σ H1 _ I1 q) fun ov s2 ⟨x,H2,I2,rx,a,C,dx,fs,ex,ea,c,n,l,q2⟩=>?_) hs;subst ex;obtain rfl:ov=Value.ref a:=rx;exact c0T I2 ea c n l ry fun s3 I3=>⟨σ,_,I3,q2⟩
end
section
variable {A:T3}{E:Value->l7->Prop}{c:Value}{b:Bool}
inductive b2Q(K:Fg)(H:Hp):V->Value->Prop where
 | non:b2Q K H .non (.type "NoneType")
 | bl (x:Bool):b2Q K H (.bl x) (.type "bool")
 | int (i:Int):b2Q K H (.int i) (.type "int")
 | str (x:Str):b2Q K H (.str x) (.type "str")
 | flt (x:UInt64):b2Q K H (.flt x) (.type "float")
 | lst {a:Addr} {xs:List V} (e:H a=some (.lst xs)):b2Q K H (.ref a) (.type "list")
 | frz {a:Addr} {o:Obj} {xs:List V} (e:H a=some (.frz o (.lst xs))):b2Q K H (.ref a) (.type "list")
 | tup {a:Addr} {xs:List V} (e:H a=some (.tup xs)):b2Q K H (.ref a) (.type "tuple")
 | dK {a:Addr} {kvs:List (Key×V)} (e:H a=some (.dK kvs)):b2Q K H (.ref a) (.type "dict")
 | dT {a:Addr} {kvs:List (List Key×V)} (e:H a=some (.dT kvs)):b2Q K H (.ref a) (.type "dict")
 | ins {a C dx:Addr} {fs:List (Str×V)} (e:H a=some (.ins C dx fs)) (cl:Cls K C) (ha:A6 K (.ref C) "__class__" = some (some (.builtin "object.__class__")))
   (hn:b2R K (.builtin "object.__class__") "__get__" = some (some (.builtin "getset_descriptor.__get__"))) (htk:c7K K (.builtin "object.__class__")=some true)
   (hm:d0x K C (.type "object")=some true):b2Q K H (.ref a) (.ref C)
theorem c4r{x:V}{t:Value}(I:Inv X pins σ H s)(rx:K8 x u)(ty:b2Q X.K H x t)(e:c9U X.K t c=some b)(h:∀tk,Q (.bool b) { s with toks:=tk }) :
  wpAny (model X.prog X.w) A (call (.builtin "isinstance") [u,c]) Q E s:=by
 cases ty with
 | non=>cases (show u=Value.none from rx);exact Q4 PySem.W.kitx_none I.kIn True.intro e (fun z=>nomatch z) h
 | bl y=>cases (show u=Value.bool y from rx);exact Q4 PySem.W.kitx_bool I.kIn True.intro e (fun z=>nomatch z) h
 | int i=>obtain⟨t,q⟩:=(show ∃t,u=Value.int i t from rx);cases q;exact Q4 PySem.W.kitx_int I.kIn True.intro e (fun z=>nomatch z) h
 | str y=>obtain⟨t,q⟩:=(show ∃t,u=Value.str y t from rx);cases q;exact Q4 PySem.W.kitx_str I.kIn True.intro e (fun z=>nomatch z) h
 | flt y=>obtain⟨t,q⟩:=(show ∃t,u=Value.float y t from rx);cases q;exact Q4 PySem.W.kitx_float I.kIn True.intro e (fun z=>nomatch z) h
 | @lst a xs ea=>
  cases (show u=Value.ref a from rx);obtain⟨_,_,n,_,h1⟩:=(show a0v X.prog X.w H s.heap a (.lst xs)from I.hok a _ ea);exact Q4 c4X I.kIn ⟨_,h1,rfl⟩ e (fun z=>nomatch z) h
 | @frz a ob xs ea=>
  cases (show u=Value.ref a from rx);obtain⟨_,_,_,n,_,h1⟩:=(show a0v X.prog X.w H s.heap a (.frz ob (.lst xs))from I.hok a _ ea);exact Q4 c4X I.kIn ⟨_,h1,rfl⟩ e (fun z=>nomatch z) h
 | @tup a xs ea=>
  cases (show u=Value.ref a from rx);obtain⟨_,_,_,p⟩:=(show a0v X.prog X.w H s.heap a (.tup xs)from I.hok a _ ea);obtain⟨o,h1,h2,_⟩:=p;exact Q4 c4O I.kIn ⟨o,h1,h2⟩ e (fun z=>nomatch z) h
 | @dK a kvs ea=>
  cases (show u=Value.ref a from rx);obtain⟨_,_,vs,_,p⟩:=(show a0v X.prog X.w H s.heap a (.dK kvs)from I.hok a _ ea);obtain⟨o,es,ep,h1,h2,_⟩:=p;exact Q4 c4Y I.kIn ⟨o,h1,h2.1⟩ e (fun z=>nomatch z) h
 | @dT a kvs ea=>
  cases (show u=Value.ref a from rx);obtain⟨_,_,xs,_,o,es,ep,h1,h2,_⟩:=(show a0v X.prog X.w H s.heap a (.dT kvs)from I.hok a _ ea);exact Q4 c4Y I.kIn ⟨o,h1,h2.1⟩ e (fun z=>nomatch z) h
 | @ins a C dx fs ea cl ha hn htk hm=>
  cases (show u=Value.ref a from rx);obtain⟨mA,O,_⟩:=b3N I.hok ea;obtain⟨od,J,_⟩:=O.look;exact Q4 (PySem.W.kitx_own (cl.get _) cl.hd ha hn htk hm) I.kIn J e (fun z=>nomatch z) h
end
structure X1(k:Nat)(A:T3):Prop where
 hd:A.handled=none
 dp:A.depth+3 * k+5<recursionLimit
 un:A.units+16 * k+200<cLine
theorem X1.mono{j k:Nat}{A:T3}(r:X1 k A)(h:j<=k):X1 j A:=⟨r.hd,by have:=r.dp;omega,by have:=r.un;omega⟩
theorem X1.deeper{k:Nat}{A:T3}(r:X1 (k+1) A)(env:Env):X1 k (A.deeper env):=
 ⟨r.hd,by have:=r.dp;show A.depth+1+3 * k+5<_;omega,by have:=r.un;show A.units+3+16 * k+200<_;omega⟩
theorem c1Q{A:T3}{kw:List (Str×Value)}:(A.under (.builtin "type.__call__" ⟨.ref C::us,kw⟩)).depth=A.depth+1:=by
 first | rfl | simp[Around.under,Code.weight,Code.isCreation,Code.isGuard,Code.isCaller,Code.frames,Code.isFrame,guardIds]
theorem c1O{A:T3}{kw:List (Str×Value)}:(A.under (.builtin "type.__call__" ⟨.ref C::us,kw⟩)).units=A.units+1:=by
 first | rfl | simp[Around.under,Code.cUnits,Code.frames,Code.isFrame]
theorem X1.make{k:Nat}{A:T3}(r:X1 (k+1) A)(C:Addr)(us:List Value)(kw:List (Str×Value)):X1 k (A.under (.builtin "type.__call__" ⟨.ref C::us,kw⟩)):=
 ⟨r.hd,by have:=r.dp;rw[c1Q];omega,by have:=r.un;rw[c1O];omega⟩
theorem X1.depth{k:Nat}{A:T3}(r:X1 k A):A.depth<recursionLimit:=by have:=r.dp;omega
theorem X1.units{k:Nat}{A:T3}(r:X1 k A):A.units+64<cLine:=by have:=r.un;omega
theorem X1.units0{k:Nat}{A:T3}(r:X1 k A):A.units<cLine:=by have:=r.un;omega
def d7:TA:=fun _ H Q=>Q [] H
def a9(ta:TE)(tr:TA):TA:=fun σ H Q=>ta σ H fun x H1=>tr σ H1 fun xs H2=>Q (x::xs) H2
section
variable {t:TA}
theorem d1K:PA X [] d7:=fun _ _ _ _ H Q I h=>Calls.spliced_nil ⟨[],H,I,.nil,h⟩
theorem c8S(ha:PE X e te)(hr:PA X es t)(hs:l6 (e::es) X.env=(false,eval e X.env)::l6 es X.env:=by rfl):PA X (e::es) (a9 te t):=by
 intro pos pins s σ H Q I h;rw[hs];show wpAny _ _ (spliced ((false,eval e X.env)::a1x pos (l6 es X.env))) _ _ s;refine Calls.spliced_cons (thn (ha pins s σ H _ I h) fun u s1 ⟨x,H1,I1,r1,q1⟩=>?_);exact thn (hr pos pins s1 σ H1 _ I1 q1) fun us s2 ⟨xs,H2,I2,r2,q2⟩=>⟨x::xs,H2,I2,.cons r1 r2,q2⟩
def a1Y(t:TA):TE:=fun σ H Q=>t σ H fun xs H1=>xs.length<=u7/\∀p,H1 p=none->Q (.ref p) (upd H1 p (.tup xs))
def a1z(t:TA):TE:=fun σ H Q=>t σ H fun xs H1=>xs.length<=u7/\∀p,H1 p=none->Q (.ref p) (upd H1 p (.lst xs))
theorem d1y{x1}(h:PA X es t):PE X (.Tuple es x1 pos) (a1Y t):=by
 intro pins s σ H Q I hq;refine wpAny_Tuple_spliced (thn (h pos pins s σ H _ I hq) fun us s1 ⟨xs,H1,I1,r,z,q⟩=>⟨by rw[<-r.length];exact z,?_⟩);have hf:H1 s1.heap.objs.size=none:=I1.hok.fresh (j9 _);refine⟨.ref s1.heap.objs.size,upd H1 s1.heap.objs.size (.tup xs),I1.laid (t':=s1.toks) (fun b u e=>g8 _ e) (j9 _) ?_,rfl,q _ hf⟩;exact⟨z,us,r,⟨_,A4 _ rfl,rfl,_,rfl⟩⟩
theorem d1F(h:PA X es t):PE X (.List es pos) (a1z t):=by
 intro pins s σ H Q I hq;refine wpAny_List_spliced (thn (h pos pins s σ H _ I hq) fun us s1 ⟨xs,H1,I1,r,z,q⟩=>⟨by rw[<-r.length];exact z,?_⟩);have hf:H1 s1.heap.objs.size=none:=I1.hok.fresh (j9 _);refine⟨.ref s1.heap.objs.size,upd H1 s1.heap.objs.size (.lst xs),I1.laid (t':=s1.toks) (fun b u e=>g8 _ e) (j9 _) ?_,rfl,q _ hf⟩;exact⟨z,us,0,r,A4 _ rfl⟩
end
abbrev Sp:=List V->Hp->VK->XK->Prop
abbrev CXT:=List Env->Hp->l7->XK->Value->l7->Prop
variable{CX:CXT}
structure c2k(P:D8)(w:World)(K:Fg)(mg:Str->Option Value)(base:Heap)(A:T3)(outer:List Env)(s:l7)(H:Hp):Prop where
 frames:A.frames=some outer
 mod:Mod K mg base
 bs:∀b o,base.get? b=some o->s.heap.get? b=some o/\H b=none
 bsz:base.objs.size<=s.heap.objs.size
 funs:s.heap.FunFrames base outer
 frf:∀b∈frs outer,H b=none
 hok:HOk P w H s.heap
 bare:b7e s.gens
def CE(outer:List Env)(P:D8)(w:World)(H:Hp)(s:l7)(Q:VK)(u:Value)(s':l7):Prop:=
 ∃v H',s'.os=s.os/\b7e s'.gens/\Un (frs outer) [] H H' s.heap s'.heap/\HOk P w H' s'.heap/\K8 v u/\Q v H'
def CR(CX:CXT)(outer:List Env)(P:D8)(w:World)(H:Hp)(s:l7)(Q:VK)(E:XK)(r:d0a)(s':l7):Prop:=
 match r with
 | .ok (.ret u)=>CE outer P w H s Q u s'
 | .ok _=>False
 | .error e=>CX outer H s E e s'
structure J1(P:D8)(w:World)(K:Fg)(mg:Str->Option Value)(base:Heap)(CX:CXT)(k:Nat)(f:Addr)(fd:a2b)(ps:List Str)(sp:Sp):Prop where
 len:∀vs H Q E,sp vs H Q E->vs.length=ps.length
 run:∀(A:T3) (outer:List Env) (s:l7) (H:Hp) (args:Args) (us:List Value) (vs:List V) (Q:VK) (E:XK),X1 k A->c2k P w K mg base A outer s H->c5i s fd args (ps.zip us)->L1 vs us->sp vs H Q E ->
  a6Z (model P w) A (.call (.ref f) args) (CR CX outer P w H s Q E) s
theorem c2k.make{P:D8}{K:Fg}{mg:Str->Option Value}{base:Heap}{A:T3}{outer:List Env}(e:c2k P w K mg base A outer s H)(C:Addr)(us:List Value)(kw:List (Str×Value)) :
  c2k P w K mg base (A.under (.builtin "type.__call__" ⟨.ref C::us,kw⟩)) outer s H:=⟨by first | exact e.frames | (simpa[Around.under,Code.envs,Code.isFrame,pushEnvs]using e.frames),e.mod,e.bs,e.bsz,e.funs,e.frf,e.hok,e.bare⟩
section
variable {s':l7}
theorem Inv.env0(I:Inv X pins σ H s):c2k X.prog X.w X.K X.mg X.base X.A X.stack s H:=
 ⟨I.ok.frames,I.ok.mod,I.bs,J4 I.ok.bsz I.sz,I.stack,I.stkFree,I.hok,I.bare⟩
theorem Inv.after{Q:VK}(I:Inv X pins σ H s)(h:CE X.stack X.prog X.w H s Q u s'):EP X pins σ Q u s':=by
 obtain⟨v,H',os,bare,un,hok,r,q⟩:=h;obtain⟨hh,g,d,t,os'⟩:=s';obtain rfl:os'=s.os:=os;exact⟨v,H',I.call (h':=hh) (g':=g) (d':=d) (t':=t) (ch:=[]) un hok bare (fun b z=>absurd z (by simp)),r,q⟩
end
def u9(sp:Sp)(dvs:List V)(E:XK)(t:TA):TE:=fun σ H Q=>t σ H fun vs H1=>sp (vs++dvs) H1 Q E
def V9(C:Addr)(m:Str)(sp:Sp)(dvs:List V)(E:XK)(ta:TE)(t:TA):TE:=fun σ H Q=>ta σ H fun x H1=>∃a dx fs,x=.ref a/\H1 a=some (.ins C dx fs)/\fs.lookup m=none /\
 t σ H1 fun vs H2=>sp (x::(vs++dvs)) H2 Q E
def a5Z(C:Addr)(sp:Sp)(dvs:List V)(E:XK)(t:TA):TE:=fun σ H Q=>t σ H fun vs H1=>∀x dx,H1 x=none->H1 dx=none->dx≠x ->
 sp (.ref x::(vs++dvs)) (upd (upd H1 dx (.own x)) x (.ins C dx [])) (fun v H2=>v=.non/\Q (.ref x) H2) E
def a6X(K:Fg)(fd:a2b)(ps:List Str)(ds:List Value):Prop:=
 ∀(s:l7) (us:List Value),K.In s.heap->(us++ds).length=ps.length->c5i s fd ⟨us,[]⟩ (ps.zip (us++ds))
theorem a6X.all{K:Fg}{fd:a2b}(h:∀us:List Value,us.length=ps.length->bindArgs fd ⟨us,[]⟩=pure (ps.zip us)):a6X K fd ps []:=fun s us _ hl=>by
 rw[V0]at hl ⊢;exact .of_eq (h us hl)
def b0q(CX:CXT)(X:Cx)(E:XK):Prop:=∀(pins:List (Addr×Obj)) (σ:St) (H:Hp) (s:l7) (e:Value) (s':l7),Inv X pins σ H s->CX X.stack H s E e s'->X.xe e s'
section
variable {k:Nat}{fd:a2b}{sp:Sp}{dvs:List V}{ds:List Value}{E:XK}{x m:Str}{apos:Pos}{o:Expr}{t:TA}
theorem c1j{Q:VK}{vs:List V}(F:J1 X.prog X.w X.K X.mg X.base CX k f fd ps sp)(hr:X1 k X.A)(hb:a6X X.K fd ps ds)(hd:L1 dvs ds)(hx:b0q CX X E)
  (I:Inv X pins σ H s) (r:L1 vs us) (h:sp (vs++dvs) H Q E):wpAny (model X.prog X.w) X.A (call (.ref f) us) (EP X pins σ Q) X.xe s:=by
 have r2:L1 (vs++dvs) (us++ds):=r.append hd;have hl:(us++ds).length=ps.length:=by rw[<-r2.length];exact F.len _ _ _ _ h
 refine wpAny_call (c2n (F.run X.A X.stack s H ⟨us,[]⟩ (us++ds) (vs++dvs) Q E hr I.env0 (hb s us I.kIn hl) r2 h) fun r s' hq=>?_);cases r with
 | error e=>exact hx pins σ H s e s' I hq
 | ok fl=>
  cases fl with
  | ret u=>exact I.after hq
  | next=>exact False.elim hq
  | brk=>exact False.elim hq
  | cont=>exact False.elim hq
theorem c8Q(F:J1 X.prog X.w X.K X.mg X.base CX k f fd ps sp)(hr:X1 k X.A)(hg:Gl X x)(hm:X.mg x=some (.ref f))(hk:a0J X.K (.ref f)=true)(hb:a6X X.K fd ps ds)(hd:L1 dvs ds)(hx:b0q CX X E)
  (ha:PA X (e::es) t) (hdb:(x == ("__debug__" : Str))=false:=by decide) (he:l6 (e::es) X.env=(false,eval e X.env)::l6 es X.env:=by rfl) (hpl:(a1x pos (l6 es X.env)).any (·.1)=false:=by rfl) :
  PE X (.Call (.Name x p) (e::es) [] pos) (u9 sp dvs E t):=by
 intro pins s σ H Q I h;refine a9o (b7R I hg hm ?_ hdb);refine b1H (h₀:=X.base) I.ok.mod.kin hk (thn (ha pos pins s σ H _ I h) fun us s1 ⟨vs,H1,I1,r,q⟩=>⟨I1.kIn,?_⟩) he hpl;exact c1j F hr hb hd hx I1 r q
theorem c8J{pl:Sem Bool}(he:PE X o ta)(c:Cls X.K C)(hm:c9Q X.K C m f)(F:J1 X.prog X.w X.K X.mg X.base CX k f fd ps sp)(hr:X1 k X.A)(hb:a6X X.K fd ps ds)(hd:L1 dvs ds)(hx:b0q CX X E)(ha:PA X (e::es) t)
  (hst:l6 (e::es) X.env=(false,eval e X.env)::l6 es X.env:=by rfl) (hpl:(a1x pos (l6 es X.env)).any (·.1)=false:=by rfl)
  (ht:eval (.Call (.Attribute o m apos) (e::es) [] pos) X.env=(do
   let ov <-eval o X.env
   b3Z apos.atName
   let(f,first) <-a4d [ov] (b0y ov m pl)
   c4W pos f first (a1x pos (l6 (e::es) X.env)) (a9p pos (a3B [] X.env))):=by rfl) :
  PE X (.Call (.Attribute o m apos) (e::es) [] pos) (V9 C m sp dvs E ta t):=by
 intro pins s σ H Q I h;refine c0C (pl:=pl) (thn (he pins s σ H _ I h) fun u s1 ⟨x,H1,I1,rx,a,dx,fs,ex,ea,l,q⟩=>?_) ht;subst ex;obtain rfl:u=Value.ref a:=rx;refine b5n I1 ea c hm l ?_;refine b1H (first:=[.ref a]) (h₀:=X.base) I.ok.mod.kin hm.kp (thn (ha pos pins s1 σ H1 _ I1 q) fun us s2 ⟨vs,H2,I2,r,q2⟩=>⟨I2.kIn,?_⟩) hst hpl;exact c1j (us:=.ref a::us) (vs:=.ref a::vs) F hr hb hd hx I2 (.cons rfl r) q2
theorem c6y{pl:Sem Bool}(he:PE X o ta)(c:Cls X.K C)(hm:c9Q X.K C m f)(F:J1 X.prog X.w X.K X.mg X.base CX k f fd ps sp)(hr:X1 k X.A)(hb:a6X X.K fd ps ds)(hd:L1 dvs ds)(hx:b0q CX X E)
  (ht:eval (.Call (.Attribute o m apos) [] [] pos) X.env=(do
   let ov <-eval o X.env
   b3Z apos.atName
   let(f,first) <-a4d [ov] (b0y ov m pl)
   c4W pos f first (a1x pos (l6 [] X.env)) (a9p pos (a3B [] X.env))):=by rfl) :
  PE X (.Call (.Attribute o m apos) [] [] pos) (V9 C m sp dvs E ta d7):=by
 intro pins s σ H Q I h;refine c0C (pl:=pl) (thn (he pins s σ H _ I h) fun u s1 ⟨x,H1,I1,rx,a,dx,fs,ex,ea,l,q⟩=>?_) ht;subst ex;obtain rfl:u=Value.ref a:=rx;refine b5n I1 ea c hm l ?_;exact PySem.W.callWith_K0 (first:=[.ref a]) I1.kIn hm.kp (c1j (us:=[.ref a]) (vs:=[.ref a]) F hr hb hd hx I1 (.cons rfl .nil) q)
structure Mk(K:Fg)(C f:Addr):Prop where
 makes:a7W K C=true
 init:A6 K (.ref C) "__init__" = some (some (.ref f))
 fn:b2U K (.ref f)=true
 kp:a0J K (.ref C)=true
theorem c5Z{Q:VK}{vs:List V}(M:Mk X.K C f)(F:J1 X.prog X.w X.K X.mg X.base CX k f fd ps sp)(hr:X1 (k+1) X.A)(hb:a6X X.K fd ps ds)(hd:L1 dvs ds)
  (hx:b0q CX X E) (I:Inv X pins σ H s) (r:L1 vs us)
  (h:∀x dx,H x=none->H dx=none->dx≠x->sp (.ref x::(vs++dvs)) (upd (upd H dx (.own x)) x (.ins C dx [])) (fun v H2=>v=.non/\Q (.ref x) H2) E) :
  wpAny (model X.prog X.w) X.A (call (.ref C) us) (EP X pins σ Q) X.xe s:=by
 have hq:=h (s.heap.objs.size+1) s.heap.objs.size (I.hok.fresh (c7H _)) (I.hok.fresh (j9 _)) (A0 (d2P _));have I2:=Inv.made (C:=C) I;have r2:L1 (V.ref (s.heap.objs.size+1)::(vs++dvs)) (Value.ref (s.heap.objs.size+1)::(us++ds)):=.cons rfl (r.append hd)
 have hl:(Value.ref (s.heap.objs.size+1)::us++ds).length=ps.length:=by
  have e:=r2.length;rw[F.len _ _ _ _ hq]at e;exact e.symm
 refine wpAny_call (c6V (f:=f) I.kIn M.makes M.init (beq_iff_eq.mp M.fn) (c2n (F.run _ X.stack _ _ ⟨Value.ref (s.heap.objs.size+1)::us,[]⟩ (Value.ref (s.heap.objs.size+1)::(us++ds)) _ _ E (hr.make C us [])
  (I2.env0.make C us []) (hb _ (Value.ref (s.heap.objs.size+1)::us) I2.kIn hl) r2 hq) fun r s' hq'=>?_))
 cases r with
 | error e=>exact hx pins σ _ _ e s' I2 hq'
 | ok fl=>
  cases fl with
  | ret u=>
   obtain⟨v,H',I3,rv,ev,q3⟩:=I2.after hq';subst ev;exact⟨rv,⟨V.ref (s.heap.objs.size+1),H',I3,rfl,q3⟩⟩
  | next=>exact False.elim hq'
  | brk=>exact False.elim hq'
  | cont=>exact False.elim hq'
theorem c8K(M:Mk X.K C f)(F:J1 X.prog X.w X.K X.mg X.base CX k f fd ps sp)(hr:X1 (k+1) X.A)(hg:Gl X x)(hm:X.mg x=some (.ref C))(hb:a6X X.K fd ps ds)(hd:L1 dvs ds)(hx:b0q CX X E)
  (ha:PA X (e::es) t) (hdb:(x == ("__debug__" : Str))=false:=by decide) (he:l6 (e::es) X.env=(false,eval e X.env)::l6 es X.env:=by rfl) (hpl:(a1x pos (l6 es X.env)).any (·.1)=false:=by rfl) :
  PE X (.Call (.Name x p) (e::es) [] pos) (a5Z C sp dvs E t):=by
 intro pins s σ H Q I h;refine a9o (b7R I hg hm ?_ hdb);refine b1H (h₀:=X.base) I.ok.mod.kin M.kp (thn (ha pos pins s σ H _ I h) fun us s1 ⟨vs,H1,I1,r,q⟩=>⟨I1.kIn,?_⟩) he hpl;exact c5Z M F hr hb hd hx I1 r q
end
section
variable {k:Nat}{fd:a2b}{ks:List Str}{sp:Sp}{E:XK}{x m:Str}{apos kpos:Pos}{o:Expr}{kws:List b7d}{t tk:TA}{nm:Option Str}
structure d4L(K:Fg)(fd:a2b)(ps ks:List Str)(g:List Value->List Value->List Value)(gV:List V->List V->List V):Prop where
 to:∀(s:l7) (us ws:List Value),K.In s.heap->(g us ws).length=ps.length->c5i s fd ⟨us,ks.zip ws⟩ (ps.zip (g us ws))
 rel:∀ {vs:List V} {us:List Value} {zs:List V} {ws:List Value},L1 vs us->L1 zs ws->L1 (gV vs zs) (g us ws)
variable {g:List Value->List Value->List Value}{gV:List V->List V->List V}
end
structure v7(N P:List Str)(sc:Scope):Prop where
 kind:sc.kind=.function
 co:sc.isCoroutine=false
 gen:sc.isGenerator=false
 nd:N.Nodup
 pre:N.take P.length=P
 par:∀x∈P,sc.names.lookup x=some .local\/sc.names.lookup x=some .cell
 nofree:∀y∈sc.names,y.2≠.free
theorem b6Q{kindOf:Str->Option a9r}{x:Str}:∀ {binds:List (Str×Value)} {m:Str->Option Value},(∀v,(x,v)∉binds)->bindL kindOf binds m x=m x
 | [],_,_=>rfl
 | (n,v)::r,m,h=>by
  unfold bindL;rw[b6Q fun w hw=>h w (E9 _ hw)];split
  ·have:x≠n:=by rintro rfl;exact h v J8
   simp[this]
  ·rfl
theorem b6S{kindOf:Str->Option a9r}{x:Str}:∀ {binds:List (Str×Value)} {m:Str->Option Value},(∀v,(x,v)∉binds)->bindC kindOf binds m x=m x
 | [],_,_=>rfl
 | (n,v)::r,m,h=>by
  unfold bindC;rw[b6S fun w hw=>h w (E9 _ hw)];split
  ·rfl
  ·have:x≠n:=by rintro rfl;exact h v J8
   simp[this]
theorem b6R{kindOf:Str->Option a9r}{x:Str}{v:Value}:∀ {P:List Str} {vs:List Value} {i:Nat} {m:Str->Option Value},P.Nodup->P[i]? = some x->vs[i]? = some v->kindOf x=some .local ->
  bindL kindOf (P.zip vs) m x=some v
 | [],_,_,_,_,h,_,_=>by simp at h
 | _::_,[],_,_,_,_,h,_=>by simp at h
 | p::P,w::vs,0,m,nd,h1,h2,hk=>by
  simp at h1 h2;subst h1;subst h2;show bindL kindOf ((p,w)::P.zip vs) m p=_;unfold bindL;rw[b6Q fun v hv=>(a1k.mp nd).1 (b6Y hv).1,if_pos hk];simp
 | p::P,w::vs,i+1,m,nd,h1,h2,hk=>by
  show bindL kindOf ((p,w)::P.zip vs) m x=_;unfold bindL;exact b6R (i:=i) (a1k.mp nd).2 (by simpa using h1) (by simpa using h2) hk
theorem b6T{kindOf:Str->Option a9r}{x:Str}{v:Value}:∀ {P:List Str} {vs:List Value} {i:Nat} {m:Str->Option Value},P.Nodup->P[i]? = some x->vs[i]? = some v->kindOf x≠some .local ->
  bindC kindOf (P.zip vs) m x=some v
 | [],_,_,_,_,h,_,_=>by simp at h
 | _::_,[],_,_,_,_,h,_=>by simp at h
 | p::P,w::vs,0,m,nd,h1,h2,hk=>by
  simp at h1 h2;subst h1;subst h2;show bindC kindOf ((p,w)::P.zip vs) m p=_;unfold bindC;rw[b6S fun v hv=>(a1k.mp nd).1 (b6Y hv).1,if_neg hk];simp
 | p::P,w::vs,i+1,m,nd,h1,h2,hk=>by
  show bindC kindOf ((p,w)::P.zip vs) m x=_;unfold bindC;exact b6T (i:=i) (a1k.mp nd).2 (by simpa using h1) (by simpa using h2) hk
def b0S(N:List Str)(vs:List V):St:=vs.map some++w6 (N.length - vs.length) none
def c0e(CX:CXT)(P:D8)(w:World)(K:Fg)(mg:Str->Option Value)(base:Heap)(N:List Str)(qual:Str)(scope:Scope)(f:Addr)(cd:Value)(A:T3)(outer:List Env)(s:l7)(H:Hp)(E:XK):Cx where
 prog:=P
 w:=w
 K:=K
 mg:=mg
 base:=base
 A:=A.deeper (b8I qual scope s.heap.objs.size f cd)
 N:=N
 s₀:=s
 H₀:=H
 env:=b8I qual scope s.heap.objs.size f cd
 outer:=outer
 stack:=b8I qual scope s.heap.objs.size f cd::outer
 ex:=[]
 calm:=true
 fn:=fun _=>true
 pn:=[]
 xe:=fun e s'=>wpAny (model P w) (A.deeper (b8I qual scope s.heap.objs.size f cd)) (leaving (b8I qual scope s.heap.objs.size f cd) e) (fun _ s''=>CX outer H s E e s'') (fun e' s''=>CX outer H s E e' s'') s'
theorem c0f{sc:Scope}{n:Nat}{x:Str}(h:sc.names.lookup x=some .cell):∃c,(cellsFrom n sc.names []).lookup x=some c:=by
 have q:=c0z sc.names n [] (.inl h);exact a1o.mp q
theorem c4t{P:D8}{K:Fg}{mg:Str->Option Value}{base:Heap}{N:List Str}{qual:Str}{scope:Scope}{cd:Value}{A:T3}{outer:List Env}{s1:l7}{E:XK}{vs:List V}
  (S:v7 N ps scope) (hd:A.handled=none) (e0:c2k P w K mg base A outer s H) (hl:vs.length=ps.length) (r:L1 vs us)
  (x:InCallC s s.heap.objs.size (bindL (b8I qual scope s.heap.objs.size f cd).kindOf (ps.zip us) fun _=>none) (cellsFrom (s.heap.objs.size+1) scope.names []) (bindC (b8I qual scope s.heap.objs.size f cd).kindOf (ps.zip us) fun _=>none) s1) :
  Inv (c0e CX P w K mg base N qual scope f cd A outer s H E) [] (b0S N vs) H s1:=by
 have hpl:ps.length<=N.length:=by have:=congrArg b6t S.pre;rw[C5]at this;omega
 obtain⟨h1,tk,rfl,hk⟩:=x.done;have noA:∀b:Addr,b∉(c0e CX P w K mg base N qual scope f cd A outer s H E).ex:=fun b z=>absurd (show b∈([]:List Addr)from z) (by simp)
 refine⟨⟨e0.mod,S.kind,rfl,rfl,j9 _,fun y z c h1 h2=>?_,fun y hy=>?_,fun y c _ h=>?_,fun _=>hd,Around.frames_deeper e0.frames,.inr ⟨rfl,rfl⟩,fun b z=>absurd z (noA b),e0.bs,e0.bsz,fun b _ _=>noA b,fun b z=>absurd z (noA b),e0.funs,e0.frf⟩,
  rfl,e0.bare,Un.kept hk,⟨_,x.toInCall.ns,fun i y v h1 h2 h3=>?_⟩,fun y c h=>⟨_,x.cell y c h⟩,e0.hok.fresh (j9 _),fun y c h=>?_,fun p hp=>absurd (show p∈([]:List (Addr×Obj))from hp) (by simp),e0.hok.kept hk,?_⟩
 ·exact name_of_addr x.apart (E5 h1) (E5 h2)
 ·have hy:scope.names.lookup y=some .cell\/scope.names.lookup y=some .free:=hy
  rcases hy with hy | hy
  ·exact c0f hy
  ·exact absurd rfl (S.nofree _ (E5 hy))
 ·exact a4T (x.above y c (E5 h))
 ·have hi:i<vs.length:=by
   unfold b0S at h2;by_cases hi:i<vs.length
   ·exact hi
   ·rw[J9 (by simpa using hi)]at h2
    rw[N4]at h2;split at h2 <;> cases h2
  have ha:vs[i]? = some v:=by
   unfold b0S at h2;rw[j4 (by simpa using hi),b6]at h2;cases e:vs[i]? with
   | none=>rw[e]at h2;cases h2
   | some a=>rw[e]at h2;cases h2;rfl
  obtain⟨u,hu,rv⟩:=r.get ha
  have hp:ps[i]? = some y:=by
   rw[<-S.pre,a3x (by omega)];exact h1
  have ndP:ps.Nodup:=by rw[<-S.pre];exact S.nd.sublist (List.take_sublist _ _)
  refine⟨u,rv,?_⟩;rcases S.par y (a1p hp)with k | k
  ·exact .inl ⟨k,b6R ndP hp hu k⟩
  ·obtain⟨c,e⟩:=c0f (n:=s.heap.objs.size+1) k
   refine .inr ⟨.inl k,c,e,?_⟩;have q:=x.cell y c e;rw[b6T ndP hp hu (by show scope.names.lookup y≠_;rw[k];decide)]at q;exact q
 ·exact e0.hok.fresh (a4T (x.above y c (E5 h)))
 ·unfold b0S
  show _=N.length;rw[p5,b9,M6];omega
theorem d4d{P:D8}{K:Fg}{mg:Str->Option Value}{base:Heap}{k:Nat}{name qual:Str}{params:Arguments}{body:List Stmt}{scope:Scope}{dV kV doc pm cdv ct oc:Value}{an od:Option Addr}
  {osl:Array (Option Value)} {N ps:List Str} {sp:Sp} (lk:K.lookup f=some ⟨oc,od,.func (a2E name qual params body scope dV kV doc pm an cdv ct),osl⟩) (hcd:a9n K cdv qual=true) (S:v7 N ps scope)
  (len:∀vs H Q E,sp vs H Q E->vs.length=ps.length)
  (hbody:∀(A:T3) (outer:List Env) (s:l7) (H:Hp) (vs:List V) (Q:VK) (E:XK),X1 k (A.deeper (b8I qual scope s.heap.objs.size f cdv))->sp vs H Q E ->
   ∃t,PSs (c0e CX P w K mg base N qual scope f cdv A outer s H E) body t/\t { nx:=fun _ H'=>Q .non H',rt:=Q } (b0S N vs) H) :
  J1 P w K mg base CX (k+1) f (a2E name qual params body scope dV kV doc pm an cdv ct) ps sp:=by
 refine⟨len,fun A outer s H args us vs Q E hr e0 hb r hsp=>?_⟩;have hl:=len _ _ _ _ hsp;have KX:K.In s.heap:=e0.mod.kin.keeps fun b o e=>(e0.bs b o e).1
 have lim:s.heap.NoLimit:=e0.mod.nolimit.keeps fun b o e=>(e0.bs b o e).1
 have hkind:∀y∈ps.zip us,scope.names.lookup y.1=some .local\/(scope.names.lookup y.1=some .cell/\((cellsFrom (s.heap.objs.size+1) scope.names []).lookup y.1).isSome=true):=fun⟨n,v⟩ hy=>by
  rcases S.par n (b6Y hy).1 with q | q
  ·exact .inl q
  ·exact .inr ⟨q,c0z _ _ _ (.inl q)⟩
 refine codeAny_call_function hr.depth (KX _ _ lk) rfl S.co S.gen rfl (PySem.W.codeRec_of KX hcd) (hb _ _ _ _ ?_);refine wpAny_newFunctionEnv_cells S.kind hkind fun env he s1 x=>?_
 subst he;refine⟨lim.keeps x.toInCall.keep,codeAny_func ?_⟩;obtain⟨t,ht,hq⟩:=hbody A outer s H vs Q E (hr.deeper _) hsp;have I:Inv (c0e CX P w K mg base N qual scope f cdv A outer s H E) [] (b0S N vs) H s1:=c4t S hr.hd e0 hl r x;refine a1i (ht [] s1 (b0S N vs) H _ I hq) (fun fl s' hs=>?_) fun e s' hs=>hs
 have fin:∀ {σ':St} {H':Hp} {v:V} {u:Value},Inv (c0e CX P w K mg base N qual scope f cdv A outer s H E) [] σ' H' s'->K8 v u->Q v H'->CE outer P w H s Q u s':=
  fun {σ' H' v u} J rv q=>⟨v,H',J.os,J.bare,J.base,J.hok,rv,q⟩
 cases fl with
 | ret u=>
  obtain⟨v,σ',H',J,rv,q⟩:=hs;exact fin J rv q
 | next=>
  obtain⟨σ',H',J,q⟩:=hs;exact fin (v:=V.non) (u:=Value.none) J rfl q
 | brk=>
  obtain⟨_,_,_,q⟩:=hs;exact False.elim q
 | cont=>
  obtain⟨_,_,_,q⟩:=hs;exact False.elim q
section
variable {x:Str}{t:TA}{id T:String}{r:List V->Hp->VK->Prop}
def tCB(r:List V->Hp->VK->Prop)(t:TA):TE:=fun σ H Q=>t σ H fun vs H1=>r vs H1 Q
theorem c6E(hc:a0Y X (.builtin id) r)(hg:Gl X x)(hm:X.mg x=none)(hv:a3C x=some (.builtin id))(ha:PA X (e::es) t)(hn:x ≠ "__name__" := by decide)(hdb:(x == ("__debug__" : Str))=false:=by decide)
  (he:l6 (e::es) X.env=(false,eval e X.env)::l6 es X.env:=by rfl) (hpl:(a1x pos (l6 es X.env)).any (·.1)=false:=by rfl):PE X (.Call (.Name x p) (e::es) [] pos) (tCB r t):=by
 intro pins s σ H Q I h;refine a9o (b0k I hg hm hv ?_ hn hdb);exact PyProof.Rows.callWith_builtin1 (thn (ha pos pins s σ H _ I h) fun us s1 ⟨vs,H1,I1,r1,q1⟩=>hc pins s1 σ H1 vs us Q I1 r1 q1) he hpl
theorem c3R(hc:a0Y X (.type T) r)(hg:Gl X x)(hm:X.mg x=none)(hv:a3C x=some (.type T))(ha:PA X (e::es) t)(hn:x ≠ "__name__" := by decide)(hdb:(x == ("__debug__" : Str))=false:=by decide)
  (he:l6 (e::es) X.env=(false,eval e X.env)::l6 es X.env:=by rfl) (hpl:(a1x pos (l6 es X.env)).any (·.1)=false:=by rfl):PE X (.Call (.Name x p) (e::es) [] pos) (tCB r t):=by
 intro pins s σ H Q I h;refine a9o (b0k I hg hm hv ?_ hn hdb);exact a0c (thn (ha pos pins s σ H _ I h) fun us s1 ⟨vs,H1,I1,r1,q1⟩=>hc pins s1 σ H1 vs us Q I1 r1 q1) he hpl
end
section
variable {κ:Type}[DecidableEq κ]
def a6n(kvs:List (κ×V))(k:κ):Option V:=(kvs.find? fun kv=>decide (kv.1=k)).map (·.2)
def a1Z(kvs:List (κ×V))(k:κ)(v:V):List (κ×V):=
 if(kvs.any fun kv=>decide (kv.1=k))=true then kvs.map (fun kv=>if kv.1=k then (kv.1,v)else kv)else kvs++[(k,v)]
theorem b0G{p:κ×V}{r:List (κ×V)}{k:κ}(e:p.1=k):a6n (p::r) k=some p.2:=by simp[a6n,a0x,e]
theorem b0H{p:κ×V}{r:List (κ×V)}{k:κ}(e:¬p.1=k):a6n (p::r) k=a6n r k:=by simp[a6n,a0x,e]
theorem a4G(k:κ):∀kvs:List (κ×V),(kvs.any fun kv=>decide (kv.1=k))=(a6n kvs k).isSome
 | []=>rfl
 | p::r=>by
  rw[a3y];by_cases e:p.1=k
  ·simp only[b0G e,d6x e,a2Y,Option.isSome_some]
  ·rw[b0H e,d6w e,Z9];exact a4G k r
theorem a8w(kvs:List (κ×V))(k:κ)(v:V):(a1Z kvs k v).length<=kvs.length+1:=by
 unfold a1Z;split
 ·rw[b9];omega
 ·rw[p5,z9,a5O];omega
theorem a7U.isSome_eq{o:Option V}{u:Option Value}(r:a7U o u):o.isSome=u.isSome:=by
 cases o with
 | none=>cases u with
  | none=>rfl
  | some _=>exact(show False from r).elim
 | some _=>cases u with
  | none=>exact(show False from r).elim
  | some _=>rfl
theorem KV.val{kvs:List (κ×V)}{vs:List (κ×Value)}(r:KV kvs vs)(k:κ):a7U (a6n kvs k) (c5e vs k):=by
 unfold KV at r;induction r with
 | nil=>exact True.intro
 | @cons p q ps qs h t ih=>
  obtain⟨h1,h2⟩:=h;by_cases e:p.1=k
  ·have e':q.1=k:=h1.symm.trans e
   have b:c5e (q::qs) k=some q.2:=by simp[c5e,a0x,e']
   rw[b0G e,b];exact h2
  ·have e':¬q.1=k:=fun z=>e (h1.trans z)
   have b:c5e (q::qs) k=c5e qs k:=by simp[c5e,a0x,e']
   rw[b0H e,b];exact ih
theorem KV.any{kvs:List (κ×V)}{vs:List (κ×Value)}(r:KV kvs vs)(k:κ):(kvs.any fun kv=>decide (kv.1=k))=vs.any fun kv=>decide (kv.1=k):=by
 unfold KV at r;induction r with
 | nil=>rfl
 | cons h t ih=>rw[a3y,a3y,ih,h.1]
theorem KV.repl{kvs:List (κ×V)}{vs:List (κ×Value)}(r:KV kvs vs)(k:κ)(ry:K8 y u) :
  KV (kvs.map fun kv=>if kv.1=k then (kv.1,y)else kv) (vs.map fun kv=>if kv.1=k then (kv.1,u)else kv):=by
 unfold KV at r ⊢;induction r with
 | nil=>exact .nil
 | @cons p q ps qs h t ih=>
  rw[D5,D5];refine .cons ?_ ih;obtain⟨h1,h2⟩:=h;by_cases e:p.1=k
  ·rw[if_pos e,if_pos (h1.symm.trans e)];exact⟨h1,ry⟩
  ·rw[if_neg e,if_neg (fun z=>e (h1.trans z))];exact⟨h1,h2⟩
theorem KV.put{kvs:List (κ×V)}{vs:List (κ×Value)}(r:KV kvs vs)(k:κ)(ry:K8 y u):KV (a1Z kvs k y) (d3d vs k u):=by
 unfold a1Z d3d;rw[r.any k];by_cases e:(vs.any fun kv=>decide (kv.1=k))=true
 ·rw[if_pos e,if_pos e];exact r.repl k ry
 ·rw[if_neg e,if_neg e];exact Paired.snoc r ⟨rfl,ry⟩
theorem KV.keys{kvs:List (κ×V)}{vs:List (κ×Value)}(r:KV kvs vs):kvs.map (·.1)=vs.map (·.1):=by
 unfold KV at r;induction r with
 | nil=>rfl
 | cons h t ih=>rw[D5,D5,ih,h.1]
theorem KV.length{kvs:List (κ×V)}{vs:List (κ×Value)}(r:KV kvs vs):kvs.length=vs.length:=Paired.length r
end
theorem b5k{P:D8}{k:Key}(r:K8 (kV k) u):(P0 P w).is k u=true:=by
 cases k with
 | inl i=>obtain⟨t,e⟩:=(show ∃t,u=Value.int i t from r);subst e;exact b9N P w i t
 | inr x=>obtain⟨t,e⟩:=(show ∃t,u=Value.str x t from r);subst e;exact b9M P w x t
theorem b2H{P:D8}:∀ {ks:List Key} {us:List Value},L1 (ks.map kV) us->ItemsAre (P0 P w) ks us
 | [],_,r=>by rw[c2Z]at r;cases r;exact .nil
 | k::ks,_,r=>by
  rw[D5]at r;cases r with
  | cons h t=>exact .cons (b5k h) (b2H t)
abbrev KT(H:Hp):List (List Key×V)->List (List Key×Addr×Value)->Prop:=Paired fun p q=>p.1=q.1/\H q.2.1=some (.tup (p.1.map kV))/\K8 p.2 q.2.2
theorem KT.val{kvs:List (List Key×V)}{xs:List (List Key×Addr×Value)}(r:KT H kvs xs)(k:List Key):a7U (a6n kvs k) ((atKey xs k).map (·.2)):=by
 induction r with
 | nil=>exact True.intro
 | @cons p q ps qs h t ih=>
  obtain⟨h1,_,h2⟩:=h;by_cases e:p.1=k
  ·have e':q.1=k:=h1.symm.trans e
   have b:atKey (q::qs) k=some q.2:=by simp[atKey,a0x,e']
   rw[b0G e,b];exact h2
  ·have e':¬q.1=k:=fun z=>e (h1.trans z)
   have b:atKey (q::qs) k=atKey qs k:=by simp[atKey,a0x,e']
   rw[b0H e,b];exact ih
theorem KT.repl{kvs:List (List Key×V)}{xs:List (List Key×Addr×Value)}(r:KT H kvs xs)(k:List Key)(ry:K8 y u) :
  KT H (kvs.map fun kv=>if kv.1=k then (kv.1,y)else kv) (xs.map (putAt k u)):=by
 induction r with
 | nil=>exact .nil
 | @cons p q ps qs h t ih=>
  rw[D5,D5];refine .cons ?_ ih;obtain⟨h1,h2,h3⟩:=h;unfold putAt;by_cases e:p.1=k
  ·rw[if_pos e,if_pos (h1.symm.trans e)];exact⟨h1,h2,ry⟩
  ·rw[if_neg e,if_neg (fun z=>e (h1.trans z))];exact⟨h1,h2,h3⟩
theorem KT.put{kvs:List (List Key×V)}{xs:List (List Key×Addr×Value)}(r:KT H kvs xs)(k:List Key)(hb:H b=some (.tup (k.map kV)))(ry:K8 y u) :
  KT H (a1Z kvs k y) (storedH xs k b u):=by
 have e:(kvs.any fun kv=>decide (kv.1=k))=(atKey xs k).isSome:=by
  rw[a4G,(r.val k).isSome_eq,a4a]
 unfold a1Z storedH;rw[e];by_cases q:(atKey xs k).isSome=true
 ·rw[if_pos q,if_pos q];exact r.repl k ry
 ·rw[if_neg q,if_neg q];exact Paired.snoc r ⟨rfl,hb,ry⟩
theorem KT.keeps{kvs:List (List Key×V)}{xs:List (List Key×Addr×Value)}(r:KT H kvs xs)(ht:∀b ys,H b=some (.tup ys)->H' b=some (.tup ys)):KT H' kvs xs:=
 Paired.mapP r fun _ _ z=>⟨z.1,ht _ _ z.2.1,z.2.2⟩
section
variable {P:D8}
theorem d0j{u:HO}(ok:HOk P w H h)(e:Rd H a u):a0v P w H h a u:=e.ok ok
theorem b9Z(ok:HOk P w H h)(e:Rd H a (.dK kvs)):kvs.length<=u7/\(a == a2c)=false/\∃vs,KV kvs vs/\h.DictOf (P0 P w) a vs:=
 show a0v P w H h a (.dK kvs)from d0j ok e
theorem c0a(ok:HOk P w H h)(e:H a=some (.dK kvs)):kvs.length<=u7/\(a == a2c)=false/\∃vs,KV kvs vs/\h.DictOf (P0 P w) a vs:=b9Z ok (.inl e)
theorem b5i{ks:List Key}(ok:HOk P w H h)(e:H a=some (.tup (ks.map kV))):(a4B (P0 P w)).is h ks a:=by
 obtain⟨_,its,r,o,h1,h2,n,h3⟩:=(show a0v P w H h a (.tup (ks.map kV))from ok a _ e);exact⟨o,its.toArray,n,h1,h2,h3,by simpa using b2H r⟩
theorem b9Y{kvs:List (List Key×V)}(ok:HOk P w H h)(e:Rd H a (.dT kvs)):kvs.length<=u7/\(a == a2c)=false /\
  ∃xs,KT H kvs xs/\h.DictOfH (a4B (P0 P w)) a xs:=by
 obtain⟨z,y,xs,r,o,es,ep,h1,h2,h3,h4,h5⟩:=(show a0v P w H h a (.dT kvs)from d0j ok e);refine⟨z,y,xs,r,o,es,ep,h1,h2,h3,h4,fun x hx=>?_,h5⟩
 have all:∀ {l:List (List Key×V)} {m:List (List Key×Addr×Value)},KT H l m->∀x∈m,(a4B (P0 P w)).is h x.1 x.2.1:=by
  intro l m q;induction q with
  | nil=>intro x hx;exact nomatch hx
  | @cons p q ps qs hq t ih=>
   intro x hx;rcases u6.mp hx with e | hx
   ·subst e
    exact b5i ok (by rw[<-hq.1];exact hq.2.1)
   ·exact ih x hx
 exact all r x hx
theorem d4e{kvs:List (List Key×V)}(ok:HOk P w H h)(e:H a=some (.dT kvs)):kvs.length<=u7/\(a == a2c)=false /\
  ∃xs,KT H kvs xs/\h.DictOfH (a4B (P0 P w)) a xs:=b9Y ok (.inl e)
end
def a4R(H:Hp)(a:Addr)(y:V)(r:Option V):Prop:=
 (∃kvs k,Rd H a (.dK kvs)/\y=kV k/\r=a6n kvs k)\/∃kvs k b,Rd H a (.dT kvs)/\y=.ref b/\H b=some (.tup (k.map kV))/\r=a6n kvs k
def b5E(H:Hp)(a:Addr)(y v:V)(H':Hp):Prop:=
 (∃kvs k,H a=some (.dK kvs)/\y=kV k/\kvs.length<u7/\H'=upd H a (.dK (a1Z kvs k v))) \/
 ∃kvs k b,H a=some (.dT kvs)/\y=.ref b/\H b=some (.tup (k.map kV))/\kvs.length<u7/\H'=upd H a (.dT (a1Z kvs k v))
theorem a4R.k{k:Key}(e:H a=some (.dK kvs)):a4R H a (kV k) (a6n kvs k):=.inl ⟨kvs,k,.inl e,rfl,rfl⟩
theorem b5E.k{k:Key}(e:H a=some (.dK kvs))(hl:kvs.length<u7):b5E H a (kV k) v (upd H a (.dK (a1Z kvs k v))):=.inl ⟨kvs,k,e,rfl,hl,rfl⟩
section
variable {r:Value}{o:Option V}{A:T3}{E:Value->l7->Prop}
theorem Inv.big(I:Inv X pins σ H s):a2c<s.heap.objs.size:=by
 have h:A7<s.heap.objs.size:=(I.mod.glob.keeps I.bk).lt;exact Nat.lt_trans (by decide) h
theorem c4y(hu:A.units+1<cLine)(I:Inv X pins σ H s)(g:a4R H a y (some v))(ry:K8 y u)(h:∀w' s',Inv X pins σ H s'->K8 v w'->Q w' s') :
  wpAny (model X.prog X.w) A (b7c (.ref a) u) Q E s:=by
 rcases g with ⟨kvs,k,e,ey,l⟩ | ⟨kvs,k,b,e,ey,eb,l⟩
 ·subst ey
  obtain⟨z,hd,vs,rel,dd⟩:=b9Z I.hok e;obtain⟨w',hw,rw'⟩:=a7U.some_of (v:=v) (o:=c5e vs k) (by rw[l];exact rel.val k);exact wpAny_getItem_of (b5k ry) dd.mapOf hw (h w' _ (I.tok _) rw')
 ·subst ey
  cases (show u=Value.ref b from ry);obtain⟨z,hd,xs,rel,dd⟩:=b9Y I.hok e;obtain⟨w',hw,rw'⟩:=a7U.some_of (v:=v) (o:=(atKey xs k).map (·.2)) (by rw[l];exact rel.val k);obtain⟨p,hp,hp2⟩:=A1.mp hw;refine wpAny_getItem_heap (a5t hu) (b5i I.hok eb) dd hp ?_;rw[hp2];exact h w' _ (I.tok _) rw'
theorem d4I(hu:A.units+1<cLine)(I:Inv X pins σ H s)(g:a4R H a y o)(ry:K8 y u)(h:∀s',Inv X pins σ H s'->Q (.bool o.isSome) s') :
  wpAny (model X.prog X.w) A (A3 .In u (.ref a)) Q E s:=by
 rcases g with ⟨kvs,k,e,ey,l⟩ | ⟨kvs,k,b,e,ey,eb,l⟩
 ·subst ey
  obtain⟨z,hd,vs,rel,dd⟩:=b9Z I.hok e;refine wpAny_in_of (b5k ry) hd dd.mapOf ?_;rw[<-(rel.val k).isSome_eq,<-l];exact h _ (I.tok _)
 ·subst ey
  cases (show u=Value.ref b from ry);obtain⟨z,hd,xs,rel,dd⟩:=b9Y I.hok e;refine wpAny_in_heap (a5t hu) (b5i I.hok eb) hd dd ?_;have q:=(rel.val k).isSome_eq;rw[a4a]at q;rw[<-q,<-l];exact h _ (I.tok _)
theorem c9F(hu:A.units+1<cLine)(I:Inv X pins σ H s)(g:a4R H a y o)(ry:K8 y u)(h:∀s',Inv X pins σ H s'->Q (.bool (!o.isSome)) s') :
  wpAny (model X.prog X.w) A (A3 .NotIn u (.ref a)) Q E s:=by
 rcases g with ⟨kvs,k,e,ey,l⟩ | ⟨kvs,k,b,e,ey,eb,l⟩
 ·subst ey
  obtain⟨z,hd,vs,rel,dd⟩:=b9Z I.hok e;refine wpAny_notIn_of (b5k ry) hd dd.mapOf ?_;rw[<-(rel.val k).isSome_eq,<-l];exact h _ (I.tok _)
 ·subst ey
  cases (show u=Value.ref b from ry);obtain⟨z,hd,xs,rel,dd⟩:=b9Y I.hok e;refine wpAny_notIn_heap (a5t hu) (b5i I.hok eb) hd dd ?_;have q:=(rel.val k).isSome_eq;rw[a4a]at q;rw[<-q,<-l];exact h _ (I.tok _)
theorem b8b{ob:HO}(I:Inv X pins σ H s)(mu:Mut (H a))(hs:Heap.SameBut a s.heap h')(he:∃q,h'.get? a=some q)(new:a0v X.prog X.w (upd H a ob) h' a ob) :
  Inv X pins σ (upd H a ob) { s with heap:=h',toks:=t' }:=
 I.write (x:=a) (e:=a) mu (.inl rfl) (fun b q hb z=>(hs.2 b hb).trans z) he new
theorem c2a{P:D8}{vs:List (Key×Value)}(z:kvs.length<=u7)(hd:(a == a2c)=false)(rel:KV kvs vs)(dd:h'.DictOf (P0 P w) a vs) :
  a0v P w H' h' a (.dK kvs):=⟨z,hd,vs,rel,dd⟩
theorem c4x{Q:Unit->l7->Prop}(hu:A.units+1<cLine)(I:Inv X pins σ H s)(g:b5E H a y v H')(ry:K8 y u)(rv:K8 v r)(h:∀s',Inv X pins σ H' s'->Q () s') :
  wpAny (model X.prog X.w) A (d0D (.ref a) u r) Q E s:=by
 rcases g with ⟨kvs,k,e,ey,l,eH⟩ | ⟨kvs,k,b,e,ey,eb,l,eH⟩
 ·subst ey eH
  obtain⟨z,hd,vs,rel,dd⟩:=c0a I.hok e;have hz:vs.length<=u7:=by rw[<-rel.length];exact z
  have hl:(a1Z kvs k v).length<=u7:=by have:=a8w kvs k v;omega
  refine wpAny_setItem_pairs (hsz:=hz) (b5k ry) dd fun h' dd' hs=>h _ ?_
  have he:∃q,h'.get? a=some q:=let⟨q,_,_,hq,_⟩:=dd'; ⟨q,hq⟩
  exact b8b I (by rw[e];exact True.intro) hs he (c2a hl hd (rel.put k rv) dd')
 ·subst ey eH
  cases (show u=Value.ref b from ry);obtain⟨z,hd,xs,rel,dd⟩:=d4e I.hok e;have hz:xs.length<=u7:=by rw[<-Paired.length rel];exact z
  have hl:(a1Z kvs k v).length<=u7:=by have:=a8w kvs k v;omega
  refine wpAny_setItem_heap (hsz:=hz) (a5t hu) (b5i I.hok eb) dd fun h' dd' hs=>h _ ?_
  obtain⟨q,es,ep,hq,h2,h3,h4,_,h5⟩:=dd';refine b8b I (by rw[e];exact True.intro) hs ⟨q,hq⟩ ⟨hl,hd,_,(rel.put k eb rv).keeps fun c ys ec=>?_,q,es,ep,hq,h2,h3,h4,h5⟩;rw[i8 (O3 ec e (fun z=>nomatch z))];exact ec
end
section
variable {k:Key}{A:T3}{E:Value->l7->Prop}
end
def d2K(i:Expr):Prop:=∀ov iv,c5f i false ov iv=operate [ov,iv] (b7c ov iv)
theorem c7X{prog:D8}{A:T3}{E:Value->l7->Prop}{env:Env}{value slice:Expr}{T id:String}
  (hl:c9Y (.type T) "__getitem__" = pure (some (.builtin id))) (hs:d2K slice)
  (h:wpAny (model prog w) A (eval value env) (fun o s₁=>wpAny (model prog w) A (eval slice env) (fun i s₂=>s₂.TypeIs o T/\wpAny (model prog w) A (b7c o i) Q E s₂) E s₁) E s) :
  wpAny (model prog w) A (eval (.Subscript value slice pos) env) Q E s:=by
 refine Subscript_ (a1i h (fun o s₁ h₁=>a1i h₁ (fun i s₂ h₂=>?_) fun _ _ x=>x) fun _ _ x=>x);obtain⟨hT,h₂⟩:=h₂;unfold d0C;refine d5 ?_;rw[getitemInPython_of_ne hT.not_modules];refine d5 (wpAny_specialOf hT hl ?_)
 have fin:wpAny (model prog w) A (c5f slice false o i) (fun r s₃=>wpAny (model prog w) A (letTemporaryGo value o r >>= fun _=>pure r) Q E s₃) E s₂:=by
  rw[hs o i];exact wpAny_operating (a1i h₂ (fun r s₃ h₃=>d5 (wpAny_letTemporaryGo (u5 h₃))) fun _ _ x=>x)
 first
  | exact u5 (d5 fin)
  | exact d5 (u5 (d5 fin))
  | exact d5 fin
theorem c0c{o:Option V}(I:Inv X pins σ H s)(g:a4R H a y o):s.TypeIs (.ref a) "dict" := by
 rcases g with ⟨kvs,k,e,_,_⟩ | ⟨kvs,k,b,e,_,_,_⟩
 ·obtain⟨_,_,vs,_,dd⟩:=b9Z I.hok e
  exact dd.typeIs
 ·obtain⟨_,_,xs,_,dd⟩:=b9Y I.hok e
  exact dd.typeIs
def b0Q(td ty:TE):TE:=fun σ H Q=>td σ H fun x H1=>ty σ H1 fun y H2=>∃a v,x=.ref a/\a4R H2 a y (some v)/\Q v H2
def b7l(ty td:TE):TE:=fun σ H Q=>ty σ H fun y H1=>td σ H1 fun x H2=>∃a o,x=.ref a/\a4R H2 a y o/\Q (.bl o.isSome) H2
def a0S(ty td:TE):TE:=fun σ H Q=>ty σ H fun y H1=>td σ H1 fun x H2=>∃a o,x=.ref a/\a4R H2 a y o/\Q (.bl (!o.isSome)) H2
def a3Z(td ty tv:TE):TS:=fun D σ H=>tv σ H fun v H1=>td σ H1 fun x H2=>ty σ H2 fun y H3=>∃a H4,x=.ref a/\b5E H3 a y v H4/\D.nx σ H4
section
variable {o i value:Expr}{tpos:Pos}{td ty tv:TE}
theorem c8N(hu:X.A.units+1<cLine)(ho:PE X o td)(hi:PE X i ty)(hs:d2K i):PE X (.Subscript o i pos) (b0Q td ty):=by
 intro pins s σ H Q I h;refine c7X PySem.F.slot_dict_getitem.lookup hs (thn (ho pins s σ H _ I h) fun u s1 ⟨x,H1,I1,rx,q1⟩=>thn (hi pins s1 σ H1 _ I1 q1) fun iv s2 ⟨y,H2,I2,ry,a,v,ex,g,q2⟩=>?_);subst ex;obtain rfl:u=Value.ref a:=rx;exact⟨c0c I2 g,c4y hu I2 g ry fun w' s3 I3 rw'=>⟨v,H2,I3,rw',q2⟩⟩
theorem c6F(hu:X.A.units+1<cLine)(hi:PE X i ty)(ho:PE X o td):PC X .In i o (b7l ty td):=by
 intro pins s σ H Q I h;refine thn (hi pins s σ H _ I h) fun iv s1 ⟨y,H1,I1,ry,q1⟩=>thn (ho pins s1 σ H1 _ I1 q1) fun u s2 ⟨x,H2,I2,rx,a,ov,ex,g,q2⟩=>?_
 subst ex;obtain rfl:u=Value.ref a:=rx;exact d4I hu I2 g ry fun s3 I3=>⟨.bl ov.isSome,H2,I3,rfl,q2⟩
theorem b6J(hu:X.A.units+1<cLine)(hi:PE X i ty)(ho:PE X o td):PC X .NotIn i o (a0S ty td):=by
 intro pins s σ H Q I h;refine thn (hi pins s σ H _ I h) fun iv s1 ⟨y,H1,I1,ry,q1⟩=>thn (ho pins s1 σ H1 _ I1 q1) fun u s2 ⟨x,H2,I2,rx,a,ov,ex,g,q2⟩=>?_
 subst ex;obtain rfl:u=Value.ref a:=rx;exact c9F hu I2 g ry fun s3 I3=>⟨.bl (!ov.isSome),H2,I3,rfl,q2⟩
theorem c8A(hu:X.A.units+1<cLine)(ho:PE X o td)(hi:PE X i ty)(hv:PE X value tv)(hs:a3A value (some (.Subscript o i pos')) pos.line X.env=pure false) :
  PS X (.Assign [.Subscript o i pos'] value pos) (a3Z td ty tv):=by
 intro pins s σ H D I h;refine wpAny_Assign_Subscript (thn (hv pins s σ H _ I h) fun r s1 ⟨v,H1,I1,rv,q1⟩=>thn (ho pins s1 σ H1 _ I1 q1) fun u s2 ⟨x,H2,I2,rx,q2⟩=>thn (hi pins s2 σ H2 _ I2 q2) fun iv s3 ⟨y,H3,I3,ry,a,H4,ex,g,q3⟩=>?_) hs;subst ex;obtain rfl:u=Value.ref a:=rx;exact c4x hu I3 g ry rv fun s4 I4=>⟨σ,H4,I4,q3⟩
end
theorem c0b{P:D8}(h:Heap)(hb:a2c<h.objs.size):a0v P w H (h.push { cls:=.type "dict",data:=.dict #[] }) h.objs.size (.dK []):=
 ⟨P8 _,beq_eq_false_iff_ne.mpr (Ne.symm (A0 hb)),[],.nil,c3f h⟩
def b1Y:TE:=fun _ H Q=>∀p,H p=none->Q (.ref p) (upd H p (.dK []))
section
theorem c6A:PE X (.Dict [] [] pos) b1Y:=fun pins s σ H Q I h=>
 wpAny_Dict_empty ⟨.ref s.heap.objs.size,_,I.laid (a:=s.heap.objs.size) (o:=.dK []) (t':=s.toks) (fun _ _ q=>g8 _ q) (j9 _) (c0b s.heap I.big),rfl,h _ (I.hok.fresh (j9 _))⟩
end
def c0N:List (TE×TE)->St->Hp->(List (V×V)->Hp->Prop)->Prop
 | [],_,H,Q=>Q [] H
 | (tk,tv)::r,σ,H,Q=>tk σ H fun x H1=>tv σ H1 fun y H2=>c0N r σ H2 fun ps H3=>Q ((x,y)::ps) H3
abbrev VV:List (V×V)->List (Value×Value)->Prop:=Paired fun p q=>K8 p.1 q.1/\K8 p.2 q.2
def PPs(X:Cx)(pos:Pos)(keys:List (Option Expr))(values:List Expr)(trs:List (TE×TE)):Prop:=
 ∀(pins:List (Addr×Obj)) (s:l7) (σ:St) (H:Hp) (Q:List (V×V)->Hp->Prop),Inv X pins σ H s->c0N trs σ H Q ->
  wpAny (model X.prog X.w) X.A (evalPairs (pairTrees keys values X.env pos)) (fun vs s'=>∃ps H',Inv X pins σ H' s'/\VV ps vs/\Q ps H') X.xe s
theorem c8C:PPs X pos [] [] []:=fun pins s σ H Q I h=>pairTrees_nil_walk ⟨[],H,I,.nil,h⟩
theorem c6u{k v:Expr}{ks:List (Option Expr)}{vs:List Expr}{tk tv:TE}{trs:List (TE×TE)}(hk:PE X k tk)(hv:PE X v tv)(hr:PPs X pos ks vs trs) :
  PPs X pos (some k::ks) (v::vs) ((tk,tv)::trs):=fun pins s σ H Q I h=>
 pairTrees_cons_walk (thn (hk pins s σ H _ I h) fun u s1 ⟨x,H1,I1,rx,q1⟩=>thn (hv pins s1 σ H1 _ I1 q1) fun w2 s2 ⟨y,H2,I2,ry,q2⟩=>
  thn (hr pins s2 σ H2 _ I2 q2) fun ws s3 ⟨ps,H3,I3,rel,q3⟩=>⟨(x,y)::ps,H3,I3,.cons ⟨rx,ry⟩ rel,q3⟩)
def b0i(kvs more:List (Key×V)):List (Key×V):=more.foldl (fun acc kv=>a1Z acc kv.1 kv.2) kvs
theorem KV.merge:∀ {more:List (Key×V)} {rs:List (Key×Value)} {kvs:List (Key×V)} {vs:List (Key×Value)},KV more rs->KV kvs vs->KV (b0i kvs more) (merged vs rs):=by
 intro more rs kvs vs r;unfold KV at r;induction r generalizing kvs vs with
 | nil=>intro q;exact q
 | @cons p q ps qs h t ih=>
  intro r0
  have e:KV (a1Z kvs p.1 p.2) (d3d vs q.1 q.2):=by
   have:=r0.put p.1 h.2;rw[<-h.1];exact this
  exact ih e
theorem a9E:∀(more kvs:List (Key×V)),(b0i kvs more).length<=kvs.length+more.length
 | [],kvs=>by show kvs.length<=kvs.length+0;omega
 | p::r,kvs=>by
  have h1:=a9E r (a1Z kvs p.1 p.2);have h2:=a8w kvs p.1 p.2;show(b0i (a1Z kvs p.1 p.2) r).length<=_;rw[z9];omega
theorem b5z{P:D8}{w:World}:∀ {kvs:List (Key×V)} {ws:List (Value×Value)},VV (kvs.map fun kv=>(kV kv.1,kv.2)) ws->∃rs,Carries (P0 P w) ws rs/\KV kvs rs
 | [],_,r=>by rw[c2Z]at r;cases r;exact⟨[],True.intro,.nil⟩
 | p::kvs,_,r=>by
  rw[D5]at r;cases r with
  | @cons a b as bs h t=>
   obtain⟨rs,c,q⟩:=b5z (P:=P) (w:=w) t;obtain⟨b1,b2⟩:=b;exact⟨(p.1,b2)::rs,⟨b5k h.1,rfl,c⟩,.cons ⟨rfl,h.2⟩ q⟩
def b6D(trs:List (TE×TE)):TE:=fun σ H Q=>∀p,H p=none->c0N trs σ (upd H p (.dK [])) fun ps H2=>H2 p=some (.dK [])/\∃kvs:List (Key×V),ps=kvs.map (fun kv=>(kV kv.1,kv.2))/\kvs.length<=15/\Q (.ref p) (upd H2 p (.dK (b0i [] kvs)))
theorem c8M{keys:List (Option Expr)}{values:List Expr}{trs:List (TE×TE)}(h:PPs X pos keys values trs)(hall:keys.all (·.isSome)=true)(hl:keys.length=values.length)(h0:keys≠[])
  (h15:keys.length<=15):PE X (.Dict keys values pos) (b6D trs):=by
 intro pins s σ H Q I q;have hn:=I.hok.fresh (j9 s.heap.objs.size);have I1:=I.laid (a:=s.heap.objs.size) (o:=.dK []) (h':=s.heap.push { cls:=.type "dict",data:=.dict #[] }) (t':=s.toks) (fun _ _ q=>g8 _ q) (j9 _) (c0b s.heap I.big);refine wpAny_Dict_walk (knd:=P0 X.prog X.w) hall hl h0 h15 (thn (h pins _ σ _ _ I1 (q _ hn)) fun ws s2 ⟨ps,H2,I2,rel,e,kvs,ep,lk,q2⟩=>?_);subst ep;obtain⟨rs,c,rk⟩:=b5z (P:=X.prog) (w:=X.w) rel;obtain⟨z,hd,vs0,r0,dd⟩:=c0a I2.hok e;cases r0;refine⟨rs,c,dd,fun h' dd' hs=>⟨.ref s.heap.objs.size,_,?_,rfl,q2⟩⟩
 have hz:(b0i [] kvs).length<=u7:=by
  have h1:=a9E kvs [];rw[a5O]at h1;rw[sizeLine_eq];omega
 have he:∃q,h'.get? s.heap.objs.size=some q:=let⟨q,_,_,hq,_⟩:=dd'; ⟨q,hq⟩
 exact b8b I2 (by rw[e];exact True.intro) hs he (c2a hz hd (rk.merge .nil) dd')
structure M1(X:Cx)(o:Expr)(m:Str)(apos:Pos)(e:Expr)(cpos:Pos):Prop where
 base:a2A o m X.env (eval o X.env)=eval o X.env
 few:((a1x cpos (l6 [e] X.env)).all (fun x => !x.1)&&(a9p cpos (a3B [] X.env)).all (fun x=>x.1.isSome)
  && decide (([e]:List Expr).length+([]:List b7d).length+(if([]:List b7d).isEmpty then 0 else 1)<30))=true
 line:(apos.endLine == cpos.line)=true
 trees:a1x cpos (l6 [e] X.env)=[(false,eval e X.env)]
structure M2(X:Cx)(o:Expr)(m:Str)(apos:Pos)(e f:Expr)(cpos:Pos):Prop where
 base:a2A o m X.env (eval o X.env)=eval o X.env
 few:((a1x cpos (l6 [e,f] X.env)).all (fun x => !x.1)&&(a9p cpos (a3B [] X.env)).all (fun x=>x.1.isSome)
  && decide (([e,f]:List Expr).length+([]:List b7d).length+(if([]:List b7d).isEmpty then 0 else 1)<30))=true
 line:(apos.endLine == cpos.line)=true
 trees:a1x cpos (l6 [e,f] X.env)=[(false,eval e X.env),(false,eval f X.env)]
section
variable {d:V}{r:Value}{o:Option V}{A:T3}{E:Value->l7->Prop}
end
section
variable {o f:Expr}{apos cpos:Pos}{td ty tx:TE}
end
section
variable {A:T3}{E:Value->l7->Prop}
end
section
variable {A:T3}{E:Value->l7->Prop}
end
end L2
namespace HT
open PySem PyProof.Rows
section
open PySem.SeqAt
open PySem.AutoSeq1 (wpAny_loadPart')
open PySem.MeetsSeq PySem.MeetsSeq2 PySem.MeetsSeq3
end
section
variable {prog:D8}{w:World}{A:T3}{E:Value->l7->Prop}{s:l7}
def sIx(n d:Nat):Option Int->Nat
 | none=>d
 | some v=>if v<0 then (v+(n:Int)).toNat else min v.toNat n
theorem b7C(n d k:Nat):sIx n d (some (k:Int))=min k n:=by
 show(if(k:Int)<0 then ((k:Int)+(n:Int)).toNat else min (k:Int).toNat n)=min k n;rw[if_neg (by omega),t6]
theorem d1b(n d:Nat)(hd:d<=n)(o:Option Int):sIx n d o<=n:=by
 cases o with
 | none=>exact hd
 | some v=>
  show(if v<0 then (v+(n:Int)).toNat else min v.toNat n)<=n;by_cases hv:v<0
  ·rw[if_pos hv];omega
  ·rw[if_neg hv];exact Nat.min_le_right _ _
theorem c2S(v:Int)(n d:Nat):(if v<0 then max (v+(n:Int)) 0 else min v (n:Int))=((sIx n d (some v):Nat):Int):=by
 show(if v<0 then max (v+(n:Int)) 0 else min v (n:Int))=(((if v<0 then (v+(n:Int)).toNat else min v.toNat n):Nat):Int);by_cases hv:v<0
 ·simp only[if_pos hv];omega
 ·simp only[if_neg hv];omega
theorem c2i(lo hi:Option Int)(n:Nat):Builtin.Slice.sliceAdjust lo hi 1 (n:Int)=(((sIx n 0 lo:Nat):Int),((sIx n n hi:Nat):Int)):=by
 have h1:¬((1:Int)<0):=by omega
 unfold Builtin.Slice.sliceAdjust;simp only[h1,if_false];refine Prod.ext ?_ ?_
 ·cases lo with
  | none=>rfl
  | some v=>exact c2S v n 0
 ·cases hi with
  | none=>rfl
  | some v=>exact c2S v n n
theorem c1t(i j:Nat):Builtin.Slice.slicePlaces (i:Int) (j:Int) 1=j - i:=by
 unfold Builtin.Slice.slicePlaces;have h1:(1:Int) > 0:=by omega
 simp only[h1,if_true,Int.ediv_one];split <;> omega
theorem b4w{v:Value}{o:Option Int}{Q:Option Int->l7->Prop}(p:d0c v o)(h:Q o s):wpAny (model prog w) A (Builtin.Slice.slicePartIndex v) Q E s:=by
 cases p with
 | none=>exact slicePart_none h
 | int i t=>exact slicePart_int h
theorem b2c{sl:Addr}{vl vu:Value}{lo hi:Option Int}{n:Nat}{Q:Int×Int×Nat->l7->Prop}(hs:s.heap.IsSliceOf sl vl vu .none)(pl:d0c vl lo)(pu:d0c vu hi)
  (h:Q (((sIx n 0 lo:Nat):Int),1,sIx n n hi - sIx n 0 lo) s):wpAny (model prog w) A (Builtin.Slice.sliceApplied (.ref sl) (pure (n:Int))) Q E s:=by
 obtain⟨os,hos,hcs,hds⟩:=id hs;unfold Builtin.Slice.sliceApplied Builtin.Slice.sliceFields;refine d5 (d5 (d4r hos hds (x:=vl) rfl (d5 (d4r hos hds (x:=vu) rfl (d5 (d4r hos hds (x:=.none) rfl (u5 ?_)))))));refine d5 (slicePart_none ?_);show wpAny _ _ (if((1:Int) == 0)=true then _ else _) _ _ s;rw[if_neg (by decide)];refine d5 (b4w pl (d5 (b4w pu (d5 (u5 ?_)))));show wpAny _ _ (match Builtin.Slice.sliceAdjust lo hi 1 (n:Int)with | (lo,hi)=>pure (lo,(1:Int),Builtin.Slice.slicePlaces lo hi 1)) _ _ s;rw[c2i lo hi n];show wpAny _ _ (pure (((sIx n 0 lo:Nat):Int),(1:Int),Builtin.Slice.slicePlaces ((sIx n 0 lo:Nat):Int) ((sIx n n hi:Nat):Int) 1)) _ _ s;rw[c1t];exact u5 h
theorem c6v(xs:Array Value)(i k:Nat):((C1 k).filterMap fun(m:Nat)=>xs[((i:Int)+(m:Int) * 1).toNat]?).toArray=((xs.toList.drop i).take k).toArray:=by
 have e:(fun(m:Nat)=>xs[((i:Int)+(m:Int) * 1).toNat]?)=fun m=>xs[i+m]?:=by
  funext m;have:((i:Int)+(m:Int) * 1).toNat=i+m:=by omega
  rw[this]
 rw[e];have:=pick_run xs i k;rw[List.filterMap_map]at this;have e2:((fun x=>xs[x]?) ∘ fun x=>i+x)=fun m=>xs[i+m]?:=rfl
 rw[e2]at this;rw[this]
theorem b1p{t sl:Addr}{items:Array Value}{vl vu:Value}{lo hi:Option Int}{Q:Value->l7->Prop}(ht:IsTup s.heap t items)(hs:s.heap.IsSliceOf sl vl vu .none)(pl:d0c vl lo)(pu:d0c vu hi)
  (hw:¬(sIx items.size 0 lo=0/\sIx items.size items.size hi=items.size))
  (h:Q (.ref s.heap.objs.size) { s with heap:=s.heap.push { cls:=.type "tuple",data:=.seq ((items.toList.drop (sIx items.size 0 lo)).take (sIx items.size items.size hi - sIx items.size 0 lo)).toArray } })
  (hsz:items.size<=u7):wpAny (model prog w) A (b7c (.ref t) (.ref sl)) Q E s:=by
 have htake:sizeOk (.seq ((items.toList.drop (sIx items.size 0 lo)).take (sIx items.size items.size hi - sIx items.size 0 lo)).toArray):=by
  show((items.toList.drop (sIx items.size 0 lo)).take (sIx items.size items.size hi - sIx items.size 0 lo)).toArray.size<=u7;rw[o9,C5,b5L,a5Q];omega
 have hj:sIx items.size items.size hi<=items.size:=d1b _ _ (j9 _) hi;obtain⟨os,hos,hcs,hds⟩:=id hs;have hTs:s.TypeIs (.ref sl) "slice" := ⟨os,hos,hcs⟩;unfold b7c
 try with_reducible refine a2z ?_
 first | refine d5 (u5 ?_) | skip
 refine d5 (wpAny_sequenceKey ht.typeIs (by decide) ?_)
 refine d5 (b1L (name:=Str.ofString "__getitem__") ht.typeIs a3w
  (b2W a3w ht.typeIs entry_tuple_getitem ?_ (args_tuple_getitem _ _)))
 show wpAny _ _ (Builtin.Tuple.tupleItemsOf (.ref t) >>= _) _ _ s;refine d5 (tupleItemsOf_ ht ?_);refine d5 (b3V hTs ?_);rw[if_pos (by decide)];refine d5 (b2c hs pl pu ?_)
 have hno:¬((((sIx items.size 0 lo:Nat):Int) == 0&&(1:Int) == 1&&(sIx items.size items.size hi - sIx items.size 0 lo) == items.size)=true):=by
  intro q;rw[P6,P6]at q;have q1:((sIx items.size 0 lo:Nat):Int)=0:=eq_of_beq q.1.1;have q2:sIx items.size items.size hi - sIx items.size 0 lo=items.size:=eq_of_beq q.2;exact hw ⟨by omega,by omega⟩
 show wpAny _ _ (if(((sIx items.size 0 lo:Nat):Int) == 0&&(1:Int) == 1&&(sIx items.size items.size hi - sIx items.size 0 lo) == items.size)=true then _ else _) _ _ s;rw[if_neg hno,c6v]
 first
  | exact d5 (m:=Builtin.Tuple.tupleExact _) (a0j (u5 ⟨_,rfl,u5 h⟩) htake)
  | exact d5 (m:=Builtin.Tuple.tupleExact _) (a0j (d5 (u5 (u5 ⟨_,rfl,u5 h⟩))) htake)
  | exact d5 (d5 (m:=Builtin.Tuple.tupleExact _) (a0j (u5 (u5 ⟨_,rfl,u5 h⟩)) htake))
  | exact d5 (d5 (m:=Builtin.Tuple.tupleExact _) (a0j (u5 ⟨_,rfl,u5 h⟩) htake))
end
end HT
namespace L2
open PySem PySem.Spec PyProof.Rows
variable{X:Cx}{n:Nat}{pins:List (Addr×Obj)}{σ:St}{H:Hp}{s:l7}{xs:List V}{us:List Value}
abbrev TO:=St->Hp->(Option Int->Hp->Prop)->Prop
def PO(X:Cx)(e:Option Expr)(t:TO):Prop:=
 ∀(pins:List (Addr×Obj)) (s:l7) (σ:St) (H:Hp) (Q:Option Int->Hp->Prop),Inv X pins σ H s->t σ H Q ->
  wpAny (model X.prog X.w) X.A (evalPart e X.env) (fun u s'=>∃o H',Inv X pins σ H' s'/\d0c u o/\Q o H') X.xe s
def a2o:TO:=fun _ H Q=>Q none H
def a6E(t:TE):TO:=fun σ H Q=>t σ H fun x H1=>∃i,x=.int i/\Q (some i) H1
section
variable {e:Expr}{te:TE}{lo hi:Option Expr}{tl th:TO}{pos p2:Pos}
theorem c8E:PO X none a2o:=by
 intro pins s σ H Q I h;rw[evalPart_none];exact u5 ⟨none,H,I,.none,h⟩
theorem c8D(h:PE X e te):PO X (some e) (a6E te):=by
 intro pins s σ H Q I hw;rw[evalPart_some];refine thn (h pins s σ H _ I hw) fun u s1 ⟨x,H1,I1,r1,q1⟩=>?_
 obtain⟨i,rfl,q⟩:=q1;obtain⟨t,rfl⟩:=r1;exact⟨some i,H1,I1,.int i t,q⟩
def SlR(X:Cx)(r:V->Option Int->Option Int->Hp->VK->Prop):Prop:=
 ∀(pins:List (Addr×Obj)) (s:l7) (σ:St) (H:Hp) (x:V) (v vl vu:Value) (lo hi:Option Int) (sl:Addr) (Q:VK),Inv X pins σ H s->K8 x v->s.heap.IsSliceOf sl vl vu .none->d0c vl lo->d0c vu hi->r x lo hi H Q ->
  ∃T id,c9Y (.type T) "__getitem__" = pure (some (.builtin id))/\s.TypeIs v T/\wpAny (model X.prog X.w) X.A (b7c v (.ref sl)) (EP X pins σ Q) X.xe s
theorem SlR.or{r r':V->Option Int->Option Int->Hp->VK->Prop}(h:SlR X r)(h':SlR X r'):SlR X (fun x lo hi H Q=>r x lo hi H Q\/r' x lo hi H Q):=by
 intro pins s σ H x v vl vu lo hi sl Q I rx hs pl pu q;rcases q with q | q
 ·exact h pins s σ H x v vl vu lo hi sl Q I rx hs pl pu q
 ·exact h' pins s σ H x v vl vu lo hi sl Q I rx hs pl pu q
def tSl(r:V->Option Int->Option Int->Hp->VK->Prop)(te:TE)(tl th:TO):TE:=fun σ H Q=>te σ H fun x H1=>tl σ H1 fun l H2=>th σ H2 fun u H3=>r x l u H3 Q
theorem c6x{r:V->Option Int->Option Int->Hp->VK->Prop}(hr:SlR X r)(he:PE X e te)(hl:PO X lo tl)(hu:PO X hi th):PE X (.Subscript e (.Slice lo hi none p2) pos) (tSl r te tl th):=by
 intro pins s σ H Q I h;refine Subscript_ (thn (he pins s σ H _ I h) fun v s1 ⟨x,H1,I1,r1,q1⟩=>?_);refine wpAny_Slice (thn (hl pins s1 σ H1 _ I1 q1) fun vl s2 ⟨l,H2,I2,pl,q2⟩=>thn (hu pins s2 σ H2 _ I2 q2) fun vu s3 ⟨u,H3,I3,pu,q3⟩=>?_);rw[evalPart_none];refine u5 ?_;have I4:Inv X pins σ H3 { s3 with heap:=s3.heap.push { cls:=.type "slice",data:=.fields #[vl,vu,.none] } }:=I3.kept (t':=s3.toks) fun b ob q=>g8 _ q
 obtain⟨T,id,hT,ht,hg⟩:=hr pins { s3 with heap:=s3.heap.push { cls:=.type "slice",data:=.fields #[vl,vu,.none] } } σ H3 x v vl vu l u s3.heap.objs.size Q I4 r1 (Heap.IsSliceOf.new ..) pl pu q3;show wpAny (model X.prog X.w) X.A (d0C e (.Slice lo hi none p2) v (.ref s3.heap.objs.size)) (EP X pins σ Q) X.xe { s3 with heap:=s3.heap.push { cls:=.type "slice",data:=.fields #[vl,vu,.none] } };exact tail_any (ops:=[.ref s3.heap.objs.size,v]) ht hT hg (by with_unfolding_all rfl)
def a8B(xs:List V)(lo hi:Option Int):List V:=(xs.drop (HT.sIx xs.length 0 lo)).take (HT.sIx xs.length xs.length hi - HT.sIx xs.length 0 lo)
theorem b3m(xs:List V)(lo hi:Option Int):(a8B xs lo hi).length<=xs.length:=by
 unfold a8B;rw[C5,b5L];omega
def d4z(K:Fg):V->Option Int->Option Int->Hp->VK->Prop:=fun x lo hi H Q=>∃a xs,x=.ref a/\SqT K H a xs /\
 ¬(HT.sIx xs.length 0 lo=0/\HT.sIx xs.length xs.length hi=xs.length)/\∀p,H p=none->Q (.ref p) (upd H p (.tup (a8B xs lo hi)))
theorem d0I:SlR X (d4z X.K):=by
 intro pins s σ H x v vl vu lo hi sl Q I rx hs pl pu h;obtain⟨a,xs,rfl,hx,hw,q⟩:=h;cases rx;obtain⟨its,r,ht,hz⟩:=I.tuple hx;have hlen:its.toArray.size=xs.length:=by rw[o9];exact r.length.symm
 refine⟨"tuple",_,a3w.lookup,ht.typeIs,?_⟩;refine HT.b1p ht hs pl pu (by rw[hlen];exact hw) ?_ (by rw[hlen];exact hz);rw[hlen];refine⟨.ref s.heap.objs.size,_,I.laid (t':=s.toks) (o:=.tup (a8B xs lo hi)) (fun b ob q=>g8 _ q) (j9 _) ?_,rfl,q _ (I.hok.fresh (j9 _))⟩;exact⟨J4 (b3m xs lo hi) hz,_,(r.drop (HT.sIx xs.length 0 lo)).take (HT.sIx xs.length xs.length hi - HT.sIx xs.length 0 lo),IsTup.new _ _⟩
end
def ixN(n:Nat)(i:Int):Option Nat:=if 0<=i then (if i<n then some i.toNat else none)else if -(n:Int)<=i then some (i+n).toNat else none
def atI{α:Type}(xs:List α)(i:Int):Option α:=(ixN xs.length i).bind fun j=>xs[j]?
theorem c2F{i:Int}{j:Nat}(h:ixN n i=some j):seqIndex? i n=some j/\j<n /\ -(n:Int)<=i/\i<n:=by
 unfold ixN at h;by_cases h0:0<=i
 ·rw[if_pos h0]at h
  by_cases h1:i<n
  ·rw[if_pos h1]at h
   have e:i.toNat=j:=Option.some.inj h;exact⟨by rw[d4s h0 h1,e],by omega,by omega,h1⟩
  ·rw[if_neg h1]at h;cases h
 ·rw[if_neg h0]at h
  by_cases h1 : -(n:Int)<=i
  ·rw[if_pos h1]at h
   have e:(i+n).toNat=j:=Option.some.inj h;exact⟨by rw[d3e (by omega) h1,e],by omega,h1,by omega⟩
  ·rw[if_neg h1]at h;cases h
theorem b8l{α:Type}{xs:List α}{i:Int}{v:α}(h:atI xs i=some v):∃j,seqIndex? i xs.length=some j/\xs[j]? = some v/\j<xs.length /\ -(xs.length:Int)<=i/\i<xs.length:=by
 unfold atI at h;cases e:ixN xs.length i with
 | none=>rw[e]at h;cases h
 | some j=>
  rw[e]at h;obtain⟨h1,h2,h3,h4⟩:=c2F e;exact⟨j,h1,h,h2,h3,h4⟩
theorem P4{α:Type}{xs:List α}{j:Nat}{v:α}(h:xs[j]? = some v):atI xs (j:Int)=some v:=by
 have hj:j<xs.length:=(k8.mp h).1
 have e:ixN xs.length (j:Int)=some j:=by
  unfold ixN;rw[if_pos (by omega),if_pos (by omega)];simp
 unfold atI;rw[e];exact h
def b8s(b:Expr):Prop:=∀o i,c5f b false o i=operate [o,i] (b7c o i)
def IxR(X:Cx)(r:R2):Prop:=
 ∀(value slice:Expr) (pins:List (Addr×Obj)) (s:l7) (σ:St) (H:Hp) (x y:V) (v u:Value) (Q:VK),Inv X pins σ H s->K8 x v->K8 y u->r x y H Q ->
  c5f slice false v u=operate [v,u] (b7c v u)->wpAny (model X.prog X.w) X.A (d0C value slice v u) (EP X pins σ Q) X.xe s
def MtR(X:Cx)(id:String)(r:V->List V->Hp->VK->Prop):Prop:=
 ∀(pins:List (Addr×Obj)) (s:l7) (σ:St) (H:Hp) (x:V) (xs:List V) (v:Value) (us:List Value) (Q:VK),Inv X pins σ H s->K8 x v->L1 xs us->r x xs H Q ->
  wpAny (model X.prog X.w) X.A (call (.builtin id) (v::us)) (EP X pins σ Q) X.xe s
section
variable {a b:Expr}{ta tb:TE}{pos:Pos}
theorem IxR.or{r r':R2}(h:IxR X r)(h':IxR X r'):IxR X (fun x y H Q=>r x y H Q\/r' x y H Q):=by
 intro value slice pins s σ H x y v u Q I rx ry q hs;rcases q with q | q
 ·exact h value slice pins s σ H x y v u Q I rx ry q hs
 ·exact h' value slice pins s σ H x y v u Q I rx ry q hs
theorem d3M{r:R2}(hr:IxR X r)(ha:PE X a ta)(hb:PE X b tb)(hs:b8s b):PE X (.Subscript a b pos) (tOp r ta tb):=by
 intro pins s σ H Q I h;exact Subscript_ (d2B ha hb I h fun v u s2 x y H2 I2 rx ry q=>hr a b pins s2 σ H2 x y v u Q I2 rx ry q (hs _ _))
def d3z(K:Fg):R2:=fun x y H Q=>∃p xs i v,x=.ref p/\y=.int i/\SqL K H p xs/\atI xs i=some v/\Q v H
def d3x(K:Fg):R2:=fun x y H Q=>∃p xs i v,x=.ref p/\y=.int i/\SqT K H p xs/\atI xs i=some v/\Q v H
def d3y:R2:=fun x y H Q=>∃z i c,x=.str z/\y=.int i/\z.length<=u7/\atI z.cps.toList i=some c/\Q (.str ⟨#[c]⟩) H
theorem c9w:IxR X (d3z X.K):=by
 intro value slice pins s σ H x y v u Q I rx ry h hs;obtain⟨p,xs,i,z,rfl,rfl,hq,he,q⟩:=h;cases rx;obtain⟨t,rfl⟩:=ry;obtain⟨its,r,pl,hz⟩:=I.list hq;obtain⟨j,h1,h2,h3,h4,h5⟩:=b8l he;obtain⟨w,ew,rw'⟩:=r.get h2;have hl:=r.length;have hn:=b0j;have fin:EP X pins σ Q w s:=⟨z,H,I,rw',q⟩;by_cases h0:0<=i
 ·have hj:i.toNat=j:=by
   rw[d4s h0 h5]at h1;exact Option.some.inj h1
  exact item_listR pl.isList h0 (by omega) (by rw[hj];simpa using ew) fin hs
 ·have hj:(i+(its.toArray.size:Int)).toNat=j:=by
   rw[d3e (by omega) h4]at h1;rw[o9,<-hl];exact Option.some.inj h1
  exact d2W (x:=w) pl.isList.typeIs slot_list_getitem.lookup
   (wpAny_getItem_list_neg (Q:=fun r s'=>r=w/\EP X pins σ Q r s') pl.isList (by omega) (by rw[o9] <;> omega) (by omega) (by rw[hj];simpa using ew) ⟨rfl,fin⟩) hs
theorem d2p:IxR X (d3x X.K):=by
 intro value slice pins s σ H x y v u Q I rx ry h hs;obtain⟨p,xs,i,z,rfl,rfl,hq,he,q⟩:=h;cases rx;obtain⟨t,rfl⟩:=ry;obtain⟨its,r,pl,hz⟩:=I.tuple hq;obtain⟨j,h1,h2,h3,h4,h5⟩:=b8l he;obtain⟨w,ew,rw'⟩:=r.get h2;have hl:=r.length;have hn:=b0j;have fin:EP X pins σ Q w s:=⟨z,H,I,rw',q⟩
 exact d2W (x:=w) pl.typeIs slot_tuple_getitem.lookup
  (getItem_tuple (j:=j) (Q:=fun r s'=>r=w/\EP X pins σ Q r s') pl (by omega) (by omega) (by rw[o9,<-hl];exact h1) (by simpa using ew) ⟨rfl,fin⟩) hs
theorem d2q:IxR X d3y:=by
 intro value slice pins s σ H x y v u Q I rx ry h hs;obtain⟨z,i,c,rfl,rfl,hz,he,q⟩:=h;obtain⟨t,rfl⟩:=rx;obtain⟨t',rfl⟩:=ry;obtain⟨j,h1,h2,h3,h4,h5⟩:=b8l he;have hl:z.cps.toList.length=z.length:=by simp[Str.length]
 rw[hl]at h1 h4 h5;have hn:=b0j
 exact tail_any (typeIs_str s z t) slot_str_getitem.lookup (getItem_str (c:=c) (by
  have e1:decide (i < -(2 ^ 63:Int))=false:=d6w (by omega);have e2:decide (i ≥ 2 ^ 63)=false:=d6w (by omega);rw[e1,e2,Bool.or_false]) (by rw[h1];simpa using h2) ⟨.str ⟨#[c]⟩,H,I.tok _,⟨_,rfl⟩,q⟩) hs
def rIx(K:Fg):R2:=fun x y H Q=>d3z K x y H Q\/d3x K x y H Q\/d3y x y H Q
theorem c7c:IxR X (rIx X.K):=c9w.or (d2p.or d2q)
theorem c1N(its:List Value)(n j:Nat)(u:Value):Obj.mapSeq (·.setIfInBounds j u) { cls:=.type "list",data:=.seq its.toArray n }={ cls:=.type "list",data:=.seq (its.set j u).toArray n }:=by
 simp[Obj.mapSeq]
theorem Inv.lst{pins:List (Addr×Obj)}{σ:St}{H:Hp}{s:l7}{p:Addr}{xs:List V}(I:Inv X pins σ H s)(h:H p=some (.lst xs)) :
  ∃(its:List Value) (n:Nat),L1 xs its/\s.heap.get? p=some { cls:=.type "list",data:=.seq its.toArray n }/\xs.length<=u7:=by
 obtain⟨z,its,n,r,e⟩:=I.hok p _ h;exact⟨its,n,r,e,z⟩
theorem Inv.lstUpd{p:Addr}{ys:List V}{its its':List Value}{n':Nat}{f:Obj->Obj}(I:Inv X pins σ H s)(h:H p=some (.lst xs))
  (ho:s.heap.get? p=some { cls:=.type "list",data:=.seq its.toArray n }) (hf:f { cls:=.type "list",data:=.seq its.toArray n }={ cls:=.type "list",data:=.seq its'.toArray n' }) (r:L1 ys its') (hz:ys.length<=u7) (t:Nat) :
  Inv X pins σ (upd H p (.lst ys)) { s with heap:=s.heap.update p f,toks:=t }:=by
 have e:(s.heap.update p f).get? p=some { cls:=.type "list",data:=.seq its'.toArray n' }:=by
  rw[c4T f ho (by rw[hf] <;> rfl),hf]
 refine I.write (x:=p) (e:=p) (by rw[h];trivial) (.inl rfl) (fun b u hb q=>(c3e _ _ (Ne.symm hb)).trans q) ⟨_,e⟩ ?_;exact⟨hz,its',n',r,e⟩
def d3w:V->V->V->Hp->(Hp->Prop)->Prop:=fun o i v H Q=>∃p xs k j,o=.ref p/\i=.int k/\H p=some (.lst xs)/\ixN xs.length k=some j/\Q (upd H p (.lst (xs.set j v)))
theorem c5L:c7y X d3w:=by
 intro pins s σ H o i v ov iv u Q I ro ri rv h;obtain⟨p,xs,k,j,rfl,rfl,hp,hj,q⟩:=h;cases ro;obtain⟨t,rfl⟩:=ri;obtain⟨its,n,r,ho,hz⟩:=I.lst hp;obtain⟨h1,h2,h3,h4⟩:=c2F hj;have hl:=r.length;have hn:=b0j
 have I':Inv X pins σ (upd H p (.lst (xs.set j v))) { s with heap:=s.heap.update p (Obj.mapSeq (·.setIfInBounds j u)) }:=
  I.lstUpd hp ho (c1N its n j u) (r.set rv j) (by rw[a3U];exact hz) s.toks
 by_cases h0:0<=k
 ·have hk:k.toNat=j:=by
   rw[d4s h0 h4]at h1;exact Option.some.inj h1
  exact PySem.W.ki_setAt ho h0 (by omega) (by rw[o9,<-hl];exact h4) (by rw[hk];exact⟨_,I',q⟩)
 ·have hk:(k+(its.toArray.size:Int)).toNat=j:=by
   rw[d3e (by omega) h3]at h1;rw[o9,<-hl];exact Option.some.inj h1
  exact PySem.W.ki_setBack ho (by omega) (by rw[o9,<-hl];exact h3) (by omega) (by rw[hk];exact⟨_,I',q⟩)
theorem b7r(lo hi:Option Int)(n:Nat):(a7Z lo hi none n).1=((HT.sIx n 0 lo:Nat):Int)/\(a7Z lo hi none n).2.1=((HT.sIx n n hi:Nat):Int)/\(a7Z lo hi none n).2.2=1:=by
 refine⟨?_,?_,rfl⟩
 ·cases lo with
  | none=>simp[a7Z,HT.sIx]
  | some i=>
   simp only[a7Z,HT.sIx,c7L,show(1:Int) > 0 by decide,if_true];by_cases h:i<0
   ·simp only[h,if_true] <;> omega
   ·simp only[h,if_false] <;> omega
 ·cases hi with
  | none=>simp[a7Z,HT.sIx]
  | some i=>
   simp only[a7Z,HT.sIx,c7L,show(1:Int) > 0 by decide,if_true];by_cases h:i<0
   ·simp only[h,if_true] <;> omega
   ·simp only[h,if_false] <;> omega
theorem b5S(its:List Value)(lo hi:Option Int):slicePick its.toArray lo hi none=((its.drop (HT.sIx its.length 0 lo)).take (HT.sIx its.length its.length hi - HT.sIx its.length 0 lo)).toArray:=by
 obtain⟨h1,h2,h3⟩:=b7r lo hi its.toArray.size;unfold slicePick;rw[h1,h2,h3];simp only[sliceRange_one,pick_run,o9] <;> rfl
def d1d(K:Fg):V->Option Int->Option Int->Hp->VK->Prop:=fun x lo hi H Q=>∃a xs,x=.ref a/\SqL K H a xs/\∀p,H p=none->Q (.ref p) (upd H p (.lst (a8B xs lo hi)))
theorem c2x:SlR X (d1d X.K):=by
 intro pins s σ H x v vl vu lo hi sl Q I rx hs pl pu h;obtain⟨a,xs,rfl,hx,q⟩:=h;cases rx;obtain⟨its,r,ht,hz⟩:=I.list hx;have hlen:=r.length;refine⟨"list",_,slot_list_getitem.lookup,ht.isList.typeIs,?_⟩;refine wpAny_getItem_list_slice ht.isList hs pl pu .none (by simp) ?_ (by rw[o9] <;> omega);rw[b5S,<-hlen];refine⟨.ref s.heap.objs.size,_,I.laid (t':=s.toks) (o:=.lst (a8B xs lo hi)) (fun b ob q=>g8 _ q) (j9 _) ?_,rfl,q _ (I.hok.fresh (j9 _))⟩;exact⟨J4 (b3m xs lo hi) hz,_,0,(r.drop (HT.sIx xs.length 0 lo)).take (HT.sIx xs.length xs.length hi - HT.sIx xs.length 0 lo),A4 _ rfl⟩
def O8:V->Bool
 | .non=>true
 | .bl _=>true
 | .int _=>true
 | .str _=>true
 | _=>false
def eqV:V->V->Bool
 | .non,.non=>true
 | .bl a,.bl b=>a == b
 | .bl a,.int b=>(if a then 1 else 0) == b
 | .int a,.bl b=>a == (if b then 1 else 0)
 | .int a,.int b=>a == b
 | .str a,.str b=>a == b
 | _,_=>false
theorem b7Z{A:T3}{y x:V}{u v:Value}(ry:K8 y u)(rx:K8 x v)(fy:O8 y=true)(fx:O8 x=true):SeqAt.EqAt A s u v (eqV y x):=by
 cases y with
 | non=>
  cases ry;cases x with
  | non=>cases rx;exact SeqAt.EqAt.same _
  | bl b=>cases rx;exact SeqAt.EqAt.none_bool b
  | int b=>obtain⟨t,rfl⟩:=rx;exact SeqAt.EqAt.none_int b t
  | str b=>obtain⟨t,rfl⟩:=rx;exact SeqAt.EqAt.none_str b t
  | _=>exact absurd (show false=true from fx) w4
 | bl a=>
  cases ry;cases x with
  | non=>cases rx;exact SeqAt.EqAt.bool_none a
  | bl b=>cases rx;exact SeqAt.EqAt.bool_bool a b
  | int b=>obtain⟨t,rfl⟩:=rx;exact SeqAt.EqAt.bool_int a b t
  | str b=>obtain⟨t,rfl⟩:=rx;exact SeqAt.EqAt.bool_str a b t
  | _=>exact absurd (show false=true from fx) w4
 | int a=>
  obtain⟨t',rfl⟩:=ry;cases x with
  | non=>cases rx;exact SeqAt.EqAt.int_none a t'
  | bl b=>cases rx;exact SeqAt.EqAt.int_bool a t' b
  | int b=>obtain⟨t,rfl⟩:=rx;exact SeqAt.EqAt.int_int a t' b t
  | str b=>obtain⟨t,rfl⟩:=rx;exact SeqAt.EqAt.int_str a t' b t
  | _=>exact absurd (show false=true from fx) w4
 | str a=>
  obtain⟨t',rfl⟩:=ry;cases x with
  | non=>cases rx;exact SeqAt.EqAt.str_none a t'
  | bl b=>cases rx;exact SeqAt.EqAt.str_bool a t' b
  | int b=>obtain⟨t,rfl⟩:=rx;exact SeqAt.EqAt.str_int a t' b t
  | str b=>obtain⟨t,rfl⟩:=rx;exact SeqAt.EqAt.str_str a t' b t
  | _=>exact absurd (show false=true from fx) w4
 | _=>exact absurd (show false=true from fy) w4
def eqU(x:V)(u:Value):Bool:=match u with
 | .none=>eqV .non x
 | .bool b=>eqV (.bl b) x
 | .int i _=>eqV (.int i) x
 | .str z _=>eqV (.str z) x
 | _=>false
theorem c7k{x y:V}{u:Value}(r:K8 y u)(f:O8 y=true):eqU x u=eqV y x:=by
 cases y with
 | non=>cases r;rfl
 | bl b=>cases r;rfl
 | int i=>obtain⟨t,rfl⟩:=r;rfl
 | str z=>obtain⟨t,rfl⟩:=r;rfl
 | _=>exact absurd (show false=true from f) w4
theorem b8n{x:V}:∀ {xs:List V} {us:List Value},L1 xs us->xs.all O8=true->us.any (eqU x)=xs.any fun y=>eqV y x
 | _,_,.nil,_=>rfl
 | y::xs,u::us,.cons r t,f=>by
  rw[X8,P6]at f;rw[a3y,a3y,c7k r f.1,b8n t f.2]
theorem b5c{A:T3}{x:V}{v:Value}(rx:K8 x v)(fx:O8 x=true):∀ {xs:List V} {us:List Value},L1 xs us->xs.all O8=true->∀u∈us,SeqAt.EqAt A s u v (eqU x u)
 | _,_,.nil,_=>fun u hu=>by cases hu
 | y::xs,u::us,.cons r t,f=>fun u' hu=>by
  rw[X8,P6]at f;rcases u6.mp hu with rfl | hu
  ·rw[c7k r f.1];exact b7Z r rx f.1 fx
  ·exact b5c rx fx t f.2 u' hu
def inV(x:V)(xs:List V):Bool:=xs.any fun y=>eqV y x
def rIn(K:Fg)(neg:Bool):R2:=fun x y H Q=>∃p xs,y=.ref p/\(SqL K H p xs\/SqT K H p xs)/\O8 x=true/\xs.all O8=true/\Q (.bl (if neg then !inV x xs else inV x xs)) H
theorem b6K:OpR X (A3 .In) (rIn X.K false):=by
 intro pins s σ H x y v u Q I rx ry h;obtain⟨p,xs,rfl,hq,fx,fs,q⟩:=h;cases ry;rcases hq with hq | hq
 ·obtain⟨its,r,pl,hz⟩:=I.list hq
  refine SeqAt.in_listAt (eqU x) pl.isList (fun w hw=>b5c rx fx r fs w (by simpa using hw)) ⟨.bl _,H,I,rfl,?_⟩;rw[show its.toArray.any (eqU x)=its.any (eqU x) by simp,b8n r fs];exact q
 ·obtain⟨its,r,pl,hz⟩:=I.tuple hq
  refine SeqAt.in_tupleAt (eqU x) pl (fun w hw=>b5c rx fx r fs w (by simpa using hw)) ⟨.bl _,H,I,rfl,?_⟩;rw[show its.toArray.any (eqU x)=its.any (eqU x) by simp,b8n r fs];exact q
theorem b1s:a0Y X (.builtin "len") (fun xs H Q=>∃p ys,xs=[.ref p]/\(SqL X.K H p ys\/SqT X.K H p ys)/\Q (.int ys.length) H):=by
 intro pins s σ H xs us Q I r h;obtain⟨p,ys,rfl,hq,q⟩:=h;obtain⟨u,rfl,rx⟩:=a8f r;cases rx;have hn:=b0j;rcases hq with hq | hq
 ·obtain⟨its,r',pl,hz⟩:=I.list hq
  have hlen:=r'.length;exact Calls.call_len_list pl.isList (by simp only[o9] <;> omega) ⟨.int ys.length,H,I.tok _,⟨s.toks+1,by rw[o9,hlen]⟩,q⟩
 ·obtain⟨its,r',pl,hz⟩:=I.tuple hq
  have hlen:=r'.length;exact len_tuple pl (by simp only[o9] <;> omega) ⟨.int ys.length,H,I.tok _,⟨s.toks+1,by rw[o9,hlen]⟩,q⟩
theorem b8g:a0Y X (.builtin "len") (fun xs H Q=>∃z,xs=[.str z]/\z.length<=u7/\Q (.int z.length) H):=by
 intro pins s σ H xs us Q I r h;obtain⟨z,rfl,hz,q⟩:=h;obtain⟨u,rfl,t,rfl⟩:=a8f r;have hn:=b0j;exact len_str (by omega) ⟨.int z.length,H,I.tok _,⟨_,rfl⟩,q⟩
theorem a0Y.or{f:Value}{r r':List V->Hp->VK->Prop}(h:a0Y X f r)(h':a0Y X f r'):a0Y X f (fun xs H Q=>r xs H Q\/r' xs H Q):=by
 intro pins s σ H xs us Q I rs q;rcases q with q | q
 ·exact h pins s σ H xs us Q I rs q
 ·exact h' pins s σ H xs us Q I rs q
theorem b8f:a0Y X (.type "list") (fun xs H Q=>∃p ys,xs=[.ref p]/\(SqL X.K H p ys\/SqT X.K H p ys)/\∀l,H l=none->Q (.ref l) (upd H l (.lst ys))):=by
 intro pins s σ H xs us Q I r h;obtain⟨p,ys,rfl,hq,q⟩:=h;obtain⟨u,rfl,rx⟩:=a8f r;cases rx
 have fin:∀(its:List Value),L1 ys its->ys.length<=u7->∀(h':Heap) (c':Nat),(∀b o',s.heap.get? b=some o'->h'.get? b=some o') ->
   h'.get? s.heap.objs.size=some { cls:=.type "list",dict:=none,data:=.seq its.toArray c',slots := #[] }->EP X pins σ Q (.ref s.heap.objs.size) { s with heap:=h' }:=fun its r' hz h' c' kp e=>
  ⟨.ref s.heap.objs.size,_,I.laid (t':=s.toks) kp (j9 _) (show a0v X.prog X.w _ h' _ (.lst ys)from⟨hz,its,c',r',e⟩),rfl,q _ (I.hok.fresh (j9 _))⟩
 rcases hq with hq | hq
 ·obtain⟨its,r',pl,hz⟩:=I.list hq
  have hlen:=r'.length;obtain⟨o,ho,hc,n,hd⟩:=pl.isList;exact call_list_seq p (.inl rfl) ho hc hd (fun h' c' kp e=>fin its r' hz h' c' kp e) (by simp only[o9] <;> omega)
 ·obtain⟨its,r',pl,hz⟩:=I.tuple hq
  have hlen:=r'.length;obtain⟨o,ho,hc,n,hd⟩:=pl;exact call_list_seq p (.inr rfl) ho hc hd (fun h' c' kp e=>fin its r' hz h' c' kp e) (by simp only[o9] <;> omega)
def tyV(K:Fg)(T:String)(x:V)(H:Hp):Prop:=match x with
 | .str _=>T = "str"
 | .int _=>T = "int"
 | .ref p=>(T = "list" /\ ∃xs,SqL K H p xs)\/(T = "tuple" /\ ∃o,K.lookup p=some o/\o.cls=.type "tuple" /\ o.dict=none) \/
   (T = "dict" /\ ((∃kvs,H p=some (.dK kvs))\/∃kvs,H p=some (.dT kvs)))\/(T = "set" /\ ∃S n,H p=some (.set S n))
 | _=>False
theorem c5z{T:String}{x:V}{v:Value}(I:Inv X pins σ H s)(r:K8 x v)(ty:tyV X.K T x H) :
  s.TypeIs v T/\∀a,v=.ref a->∃ob,s.heap.get? a=some ob/\ob.dict=none:=by
 cases x with
 | str z=>
  obtain⟨t,rfl⟩:=r;cases (show T = "str" from ty);exact⟨typeIs_str s z t,fun _ e=>nomatch e⟩
 | int i=>
  obtain⟨t,rfl⟩:=r;cases (show T = "int" from ty);exact⟨typeIs_int s i t,fun _ e=>nomatch e⟩
 | ref p=>
  cases r;rcases ty with ⟨rfl,xs,hq⟩ | ⟨rfl,o,hk,hc,hd⟩ | ⟨rfl,hk⟩ | ⟨rfl,S,n,hk⟩
  ·obtain⟨its,_,pl,_⟩:=I.list hq
   refine⟨pl.isList.typeIs,fun a e=>?_⟩;cases e;obtain⟨o,n,e,c,hd,_⟩:=pl;exact⟨o,e,hd⟩
  ·refine⟨⟨o,I.kIn p o hk,hc⟩,fun a e=>?_⟩
   cases e;exact⟨o,I.kIn _ o hk,hd⟩
  ·have z:∃o,s.heap.get? p=some o/\o.ExactDict:=by
    rcases hk with ⟨kvs,hk⟩ | ⟨kvs,hk⟩
    ·obtain⟨_,_,_,_,o,_,_,e,ex,_⟩:=I.hok p _ hk
     exact⟨o,e,ex⟩
    ·obtain⟨_,_,_,_,o,_,_,e,ex,_⟩:=I.hok p _ hk
     exact⟨o,e,ex⟩
   obtain⟨o,e,ex⟩:=z;refine⟨⟨o,e,ex.1⟩,fun a e2=>?_⟩;cases e2;exact⟨o,e,ex.2.1⟩
  ·obtain⟨o,_,_,_,e,ex,_⟩:=I.hok p _ hk
   refine⟨⟨o,e,ex.1⟩,fun a e2=>?_⟩;cases e2;exact⟨o,e,ex.2.1⟩
 | _=>exact False.elim ty
def c0O(K:Fg)(T:String)(r:V->List V->Hp->VK->Prop)(to:TE):TE:=fun σ H Q=>to σ H fun x H1=>tyV K T x H1/\r x [] H1 Q
def tBM(K:Fg)(T:String)(r:V->List V->Hp->VK->Prop)(to:TE)(t:TA):TE:=fun σ H Q=>to σ H fun x H1=>tyV K T x H1/\t σ H1 fun xs H2=>r x xs H2 Q
variable {o e:Expr}{es:List Expr}{to:TE}{t:TA}{name:Str}{apos cpos:Pos}{T id:String}{r:V->List V->Hp->VK->Prop}
theorem d1I(pa:d0b T)(slot:Slot T name id)(hty:typeOf (.builtin id)=pure (.type "method_descriptor"))(hm:MtR X id r)(ho:PE X o to)
  (hbase:a2A o name X.env (eval o X.env)=eval o X.env:=by rfl) (hline:(apos.endLine == cpos.line)=true:=by rfl):PE X (.Call (.Attribute o name apos) [] [] cpos) (c0O X.K T r to):=by
 intro pins s σ H Q I h;refine wpAny_Call_method0_late hbase hline (thn (ho pins s σ H _ I h) fun v s1 ⟨x,H1,I1,r1,ty,q1⟩=>?_);obtain⟨h1,h2⟩:=c5z I1 r1 ty;exact⟨T,id,pa,slot,hty,h1,h2,Calls.callWith_builtin rfl (PySem.evalArgs_none (hm pins s1 σ H1 x [] v [] Q I1 r1 .nil q1))⟩
theorem d3N(pa:d0b T)(slot:Slot T name id)(hty:typeOf (.builtin id)=pure (.type "method_descriptor"))(hm:MtR X id r)(ho:PE X o to)(ha:PA X (e::es) t)
  (hbase:a2A o name X.env (eval o X.env)=eval o X.env:=by rfl)
  (hfew:((a1x cpos (l6 (e::es) X.env)).all (fun x => !x.1)&&(a9p cpos (a3B [] X.env)).all (fun x=>x.1.isSome)
   && decide ((e::es).length+([]:List b7d).length+(if([]:List b7d).isEmpty then 0 else 1)<30))=true:=by rfl)
  (hline:(apos.endLine == cpos.line)=true:=by rfl) (hs:l6 (e::es) X.env=(false,eval e X.env)::l6 es X.env:=by rfl) (hplain:(a1x cpos (l6 es X.env)).any (·.1)=false:=by rfl) :
  PE X (.Call (.Attribute o name apos) (e::es) [] cpos) (tBM X.K T r to t):=by
 intro pins s σ H Q I h;refine wpAny_Call_method_late hbase hfew hline rfl (thn (ho pins s σ H _ I h) fun v s1 ⟨x,H1,I1,r1,ty,q1⟩=>?_);obtain⟨h1,h2⟩:=c5z I1 r1 ty;refine⟨T,id,pa,slot,hty,h1,h2,?_⟩;have hA:=ha cpos pins s1 σ H1 _ I1 q1;rw[hs]at hA ⊢;refine Calls.callWith_builtin (by show(false||(a1x cpos (l6 es X.env)).any (·.1))=false;rw[hplain] <;> rfl) (Calls.evalArgs_plain ?_);exact thn hA fun us s2 ⟨vs,H2,I2,r2,q2⟩=>hm pins s2 σ H2 x vs v us Q I2 r1 r2 q2
end
def MtM(X:Cx)(id:String)(r:V->List V->Hp->VK->Prop):Prop:=
 ∀(pins:List (Addr×Obj)) (s:l7) (σ:St) (H:Hp) (x:V) (xs:List V) (v:Value) (us:List Value) (Q:VK),Inv X pins σ H s->K8 x v->L1 xs us->r x xs H Q ->
  wpAny (model X.prog X.w) X.A (call (.builtin id) (v::us)) (EP X pins σ Q) X.xe s
theorem L1.one:∀ {x:V} {us:List Value},L1 [x] us->∃u,us=[u]/\K8 x u
 | _,_,.cons r .nil=>⟨_,rfl,r⟩
theorem L1.zero:∀ {us:List Value},L1 [] us->us=[]
 | _,.nil=>rfl
theorem L1.dropLast(h:L1 xs us):L1 xs.dropLast us.dropLast:=by
 induction h with
 | nil=>exact .nil
 | cons r t ih=>
  cases t with
  | nil=>exact .nil
  | cons q t'=>exact .cons r ih
theorem L1.reverse(h:L1 xs us):L1 xs.reverse us.reverse:=by
 induction h with
 | nil=>exact .nil
 | cons r t ih=>rw[a2y,a2y];exact L1.append ih (.cons r .nil)
theorem L1.rep(h:L1 xs us):∀k:Nat,L1 (w6 k xs).flatten (w6 k us).flatten
 | 0=>.nil
 | k+1=>by
  rw[a3u,a3u,a7J,a7J];exact L1.append h (L1.rep h k)
theorem c1Z{α:Type}(l:List α):l.eraseIdx (l.length - 1)=l.dropLast:=by
 induction l with
 | nil=>rfl
 | cons a r ih=>
  cases r with
  | nil=>rfl
  | cons b r=>
   have e:(a::b::r).length - 1=((b::r).length - 1)+1:=by
    have h1:(a::b::r).length=r.length+2:=rfl;have h2:(b::r).length=r.length+1:=rfl;omega
   rw[e,List.eraseIdx_cons_succ,ih];all_goals rfl
theorem b6N(its:List Value):∀(k:Nat) (acc:List Value),
  c7O (fun x1 x2=>x1++x2) acc.toArray (w6 k its.toArray)=(acc++(w6 k its).flatten).toArray
 | 0,acc=>by simp
 | k+1,acc=>by
  have e:acc.toArray++its.toArray=(acc++its).toArray:=by simp
  have e2:(acc++its)++(w6 k its).flatten=acc++(w6 (k+1) its).flatten:=by
   rw[a3u,a7J,F9]
  rw[<-e2,<-b6N its k (acc++its),<-e,a3u,d2S]
section
variable {l b:Addr}{ys zs:List V}
theorem Inv.lset{its its':List Value}{f:Array Value->Array Value}{t':Nat}(I:Inv X pins σ H s)(hH:H l=some (.lst xs))
  (e:s.heap.get? l=some { cls:=.type "list",data:=.seq its.toArray n }) (hf:f its.toArray=its'.toArray) (hv:L1 ys its') (hz:ys.length<=u7) :
  Inv X pins σ (upd H l (.lst ys)) { s with heap:=s.heap.update l (Obj.mapSeq f),toks:=t' }:=by
 have q:=PySem.IsL.update e f;rw[hf]at q;refine I.write (x:=l) (e:=l) (by rw[hH];exact trivial) (.inl rfl) (fun b' u hb hu=>(c3e s.heap (Obj.mapSeq f) (Ne.symm hb)).trans hu) ⟨_,q⟩ ?_;exact⟨hz,its',_,hv,q⟩
theorem Inv.lnew{its:List Value}{t':Nat}(I:Inv X pins σ H s)(hv:L1 ys its)(hz:ys.length<=u7) :
  Inv X pins σ (upd H s.heap.objs.size (.lst ys)) { s with heap:=s.heap.push { cls:=.type "list",data:=.seq its.toArray },toks:=t' }:=
 I.laid (fun _ _ q=>g8 _ q) (j9 _) ⟨hz,its,0,hv,A4 _ rfl⟩
theorem Inv.fresh(I:Inv X pins σ H s):H s.heap.objs.size=none:=I.hok.fresh (j9 _)
theorem Inv.lstM(I:Inv X pins σ H s)(hH:H l=some (.lst xs)):xs.length<=u7/\∃(its:List Value) (n:Nat),L1 xs its/\xs.length=its.length/\s.heap.get? l=some { cls:=.type "list",data:=.seq its.toArray n }:=by
 obtain⟨z,its,n,r,e⟩:=I.hok l _ hH;exact⟨z,its,n,r,r.length,e⟩
theorem b9I(h:n<=u7):Builtin.List.listTooLong n=false:=by
 unfold Builtin.List.listTooLong;exact d6w (by omega)
end
section
def c8o:V->List V->Hp->VK->Prop:=fun x vs H Q=>∃l xs y,x=.ref l/\vs=[y]/\H l=some (.lst xs)/\xs.length<u7/\Q .non (upd H l (.lst (xs++[y])))
theorem b2C:MtM X "list.append" c8o:=by
 intro pins s σ H x vs v us Q I rx rv h;obtain⟨l,xs,y,rfl,rfl,hH,hz,q⟩:=h;cases rx;obtain⟨u,rfl,ru⟩:=rv.one;obtain⟨z,its,n,r,hl,e⟩:=I.lstM hH;refine a7V F.slot_list_append ⟨_,e,rfl⟩ F.entry_list_append (F.args_list_append_2 _ _) (PySem.list_append l its.toArray n u (by rw[o9];omega)) ⟨e,?_⟩
 refine⟨.non,_,I.lset (its':=its++[u]) hH e (by simp) (r.append (.cons ru .nil)) ?_,rfl,q⟩;rw[p5,G6];omega
def c8n:V->List V->Hp->VK->Prop:=fun x vs H Q=>∃l b xs zs,x=.ref l/\vs=[.ref b]/\H l=some (.lst xs)/\H b=some (.lst zs)/\xs.length+zs.length<=u7/\Q .non (upd H l (.lst (xs++zs)))
theorem c4j:MtM X "list.extend" c8n:=by
 intro pins s σ H x vs v us Q I rx rv h;obtain⟨l,b,xs,zs,rfl,rfl,hH,hB,hz,q⟩:=h;cases rx;obtain⟨u,rfl,ru⟩:=rv.one;cases ru;obtain⟨z,its,n,r,hl,e⟩:=I.lstM hH;obtain⟨z2,its2,n2,r2,hl2,e2⟩:=I.lstM hB;have hsz:its.toArray.size+its2.toArray.size<=u7:=by rw[o9,o9];omega
 have hlong:¬(!its.toArray.isEmpty&&Builtin.List.listTooLong (its.toArray.size+its2.toArray.size))=true:=by
  rw[b9I hsz,Bool.and_false];exact w4
 refine a7V F.slot_list_extend ⟨_,e,rfl⟩ F.entry_list_extend (F.args_list_extend_2 _ _)
  (AutoSeq1.list_extend_list_list_0 l its.toArray n b its2.toArray n2 hlong (by rw[o9];omega) (by omega)) ⟨e,e2,?_⟩
 refine⟨.non,_,I.lset (its':=its++its2) hH e (by simp) (r.append r2) ?_,rfl,q⟩;rw[p5];omega
def d4A:V->List V->Hp->VK->Prop:=fun x vs H Q=>∃l xs y,x=.ref l/\vs=[]/\H l=some (.lst xs)/\xs[xs.length - 1]? = some y/\Q y (upd H l (.lst xs.dropLast))
theorem d2g:MtM X "list.pop" d4A:=by
 intro pins s σ H x vs v us Q I rx rv h;obtain⟨l,xs,y,rfl,rfl,hH,hy,q⟩:=h;cases rx;have hus:=rv.zero;subst hus;obtain⟨z,its,n,r,hl,e⟩:=I.lstM hH;obtain⟨u,hu,ru⟩:=r.get hy
 have hy':its.toArray[its.toArray.size - 1]? = some u:=by
  show its.toArray[its.length - 1]? = some u;rw[<-a0Q,<-hl];exact hu
 refine a7V F.slot_list_pop ⟨_,e,rfl⟩ F.entry_list_pop (F.args_list_pop_1 _) (MeetsSeq.list_pop_last l its.toArray n u hy' (by rw[o9];omega)) ⟨e,?_⟩
 refine⟨y,_,I.lset (its':=its.dropLast) hH e ?_ r.dropLast ?_,ru,q⟩
 ·show its.toArray.eraseIdxIfInBounds (its.toArray.size - 1)=its.dropLast.toArray
  rw[o9,List.eraseIdxIfInBounds_toArray,c1Z]
 ·rw[List.length_dropLast]
  omega
def c6c:V->List V->Hp->VK->Prop:=fun x vs H Q=>∃l xs,x=.ref l/\vs=[]/\H l=some (.lst xs)/\Q .non (upd H l (.lst xs.reverse))
theorem c1K:MtM X "list.reverse" c6c:=by
 intro pins s σ H x vs v us Q I rx rv h;obtain⟨l,xs,rfl,rfl,hH,q⟩:=h;cases rx;have hus:=rv.zero;subst hus;obtain⟨z,its,n,r,hl,e⟩:=I.lstM hH;refine a7V F.slot_list_reverse ⟨_,e,rfl⟩ F.entry_list_reverse (F.args_list_reverse_1 _) (AutoSeq1.list_reverse_list_0 l its.toArray n (by rw[o9];omega)) ⟨e,?_⟩
 refine⟨.non,_,I.lset (its':=its.reverse) hH e (by simp) r.reverse ?_,rfl,q⟩;rw[a5V];omega
def d1e:V->List V->Hp->VK->Prop:=fun x vs H Q=>∃l xs,x=.ref l/\vs=[]/\H l=some (.lst xs)/\Q .non (upd H l (.lst []))
theorem c6S:MtM X "list.clear" d1e:=by
 intro pins s σ H x vs v us Q I rx rv h;obtain⟨l,xs,rfl,rfl,hH,q⟩:=h;cases rx;have hus:=rv.zero;subst hus;obtain⟨z,its,n,r,hl,e⟩:=I.lstM hH;refine a7V F.slot_list_clear ⟨_,e,rfl⟩ F.entry_list_clear (F.args_list_clear_1 _) (AutoSeq1.list_clear_list_0 l its.toArray n (by rw[o9];omega)) ⟨e,?_⟩
 exact⟨.non,_,I.lset (its':=[]) (ys:=[]) hH e rfl .nil (P8 _),rfl,q⟩
def d4B:R2:=fun x y H Q=>∃l b xs zs,x=.ref l/\y=.ref b/\H l=some (.lst xs)/\H b=some (.lst zs)/\xs.length+zs.length<=u7/\∀p,H p=none->Q (.ref p) (upd H p (.lst (xs++zs)))
theorem d1W:OpR X (a1w .Add) d4B:=by
 intro pins s σ H x y v u Q I rx ry h;obtain⟨l,b,xs,zs,rfl,rfl,hH,hB,hz,q⟩:=h;cases rx;cases ry;obtain⟨z,its,n,r,hl,e⟩:=I.lstM hH;obtain⟨z2,its2,n2,r2,hl2,e2⟩:=I.lstM hB;refine PySem.P.add_list e e2 ?_ (by rw[o9,o9];omega);have ea:its.toArray++its2.toArray=(its++its2).toArray:=by simp
 rw[ea];exact⟨.ref _,_,I.lnew (t':=s.toks) (r.append r2) (by rw[p5];omega),rfl,q _ I.fresh⟩
def c8m:R2:=fun x y H Q=>∃l k xs,x=.ref l/\y=.int k/\H l=some (.lst xs) /\ -(2 ^ 63)<=k/\k<2 ^ 63/\xs.length * k.toNat<=u7 /\
 ∀p,H p=none->Q (.ref p) (upd H p (.lst (w6 k.toNat xs).flatten))
theorem c9r{α:Type}(xs:List α)(k:Nat):(w6 k xs).flatten.length=k * xs.length:=by
 induction k with
 | zero=>simp
 | succ k ih=>rw[a3u,a7J,p5,ih,c4P,Nat.add_comm]
theorem d1N:OpR X (a1w .Mult) c8m:=by
 intro pins s σ H x y v u Q I rx ry h;obtain⟨l,k,xs,rfl,rfl,hH,h1,h2,hz,q⟩:=h;cases rx;obtain⟨t,rfl⟩:=ry;obtain⟨z,its,n,r,hl,e⟩:=I.lstM hH;have hlen:its.toArray.size * k.toNat<=u7:=by rw[o9,<-hl];exact hz
 have hcap:¬its.toArray.size * k.toNat > (2 ^ 63 - 1) / 8:=by
  have:(u7:Nat)<=(2 ^ 63 - 1) / 8:=by decide
  omega
 have hfit:¬(!Builtin.List.listFitsIndex k)=true:=by
  rw[fitsIndex_both h1 h2];exact w4
 have hlong:¬Builtin.List.listTooLong (its.toArray.size * k.toNat)=true:=by
  rw[b9I hlen];exact w4
 have hnew:c7O (fun x1 x2=>x1++x2) #[] (w6 (if its.toArray.isEmpty=true then 0 else k.toNat) its.toArray)=(w6 k.toNat its).flatten.toArray:=by
  have f0:∀m:Nat,c7O (fun x1 x2=>x1++x2) #[] (w6 m its.toArray)=(w6 m its).flatten.toArray:=fun m=>by
   have:=b6N its m [];rw[List.nil_append]at this;exact this
  rw[f0];cases its with
  | nil=>simp
  | cons a r'=>rw[if_neg (by simp)]
 refine wpAny_binaryOp_repeat_ref (T := "list") (U := "int") (by decide) ⟨_,e,rfl⟩ (fun s'=>typeIs_int s' k t) noFill_list_mul F.fills_int_mul F.slot_int_rmul repeat_list F.slot_int_index.lookup
  (a7V F.slot_int_rmul (typeIs_int s k t) F.entry_int_rmul (F.args_int_rmul_2 _ _) (int___rmul___int_list k t l its.toArray n)
   ⟨e,rfl,⟨_,e,rfl⟩,a7V F.slot_list_mul ⟨_,e,rfl⟩ F.entry_list_mul (F.args_list_mul_2 _ _) (AutoListH.list___mul___list_int_3 l its.toArray n k t hfit hcap hlong) ⟨e,?_⟩⟩)
 rw[hnew];exact⟨.ref _,_,I.lnew (t':=s.toks) (r.rep k.toNat) (by rw[c9r,Nat.mul_comm];exact hz),rfl,q _ I.fresh⟩
end
section
variable {prog:D8}{w:World}{A:T3}{E:Value->l7->Prop}
set_option maxRecDepth 100000 in
end
section
end
end L2
namespace Att
open PySem PySem.W PySem.Calls PyProof.Rows
theorem b3B{P:Params}{h:Heap}:∀(ns:List Int) (vs:List Value),WellAll P h vs (ns.map WData.int)->d0E vs ns:=by
 intro ns;induction ns with
 | nil=>
  intro vs w;rw[c2Z]at w;cases w;exact .nil
 | cons n ns ih=>
  intro vs w;rw[D5]at w;cases w with
  | cons a b=>
   cases a;exact .cons _ _ (ih _ b)
theorem c3x{l:OpenLaw}{n:Nat}(hn:l.most=some n){P:Params}{h:Heap}{args:List WData}{vals:List Value}
  (hpre:l.row.toRowW.claim.pre args=true) (hwl:WellAll P h vals args) :
  ∃a vs ns,vals=[Value.ref a]/\args=[WData.list (ns.map WData.int)]/\h.get? a=some { cls:=.type "list",data:=.seq vs.toArray }/\d0E vs ns/\ns.length<=n:=by
 have hsh:WShape.hasAll [] args [.list .int]=true:=(pre_splitW hpre).1;have hc:l.pre.holds [] { args:=args }=true:=(pre_splitW hpre).2;obtain⟨d,r,rfl,h1,h2⟩:=hasAllW_cons hsh;obtain rfl:=hasAllW_nil h2;obtain⟨xs,rfl,h3⟩:=hasW_list h1;obtain⟨ns,rfl⟩:=items_int h3
 have hlen:ns.length<=n:=by
  unfold OpenLaw.pre at hc
  have h4:(WTm.not (.lt (.lit (.int (n:Int))) (.len (.arg 0)))).holds [] { args:=[.list (ns.map .int)] }=true:=by
   have h4:=(holds_andW hc).1;rw[hn]at h4;exact h4
  have h5:=condW_of h4 (w_not (w_lt w_lit (w_len_list (w_arg rfl))));rw[b9]at h5;refine Nat.le_of_not_lt fun q=>?_
  have q':(n:Int)<((ns.length:Nat):Int):=by omega
  first
   | (rw[d6x q']at h5;exact absurd h5 (by decide))
   | (simp at h5;omega)
 cases hwl with
 | cons w1 w2=>
  cases w2;cases w1 with
  | list ho hall=>exact⟨_,_,ns,rfl,rfl,ho,b3B ns _ hall,hlen⟩
theorem c3O(l:OpenLaw)(args:List WData):l.row.toRowW.claim.post args (.bool true) args=true:=
 postW_of (r:=l.row.toRowW) (X:=(true == true))
  (show WShape.has [] (.bool true) .bool=true by first | rfl | decide | simp[WShape.has,WShape.arms,WShape.armsAll])
  (show(WTm.eq .res (.lit (.bool true))).value [] { args:=args,res:=some (.bool true),after:=args }=some (.bool (true == true))from w_eq_bool (w_res rfl) w_lit) rfl
theorem c0v{l:OpenLaw}{n:Nat}{q:D8}{loose:List Str}{XP:(Str->Option Value)->Heap->Prop}{YP:World->Heap->Prop}{d:DefRec}
  (hn:l.most=some n) (hdf:d.params.defaults=[])
  (call:∀(w:World) (s₀ s₁:l7) (mg mb:Str->Option Value) (fa:Addr) (o:Obj) (pm cd doc:Value) (a:Addr) (vs:List Value) (ns:List Int),
   Ground q loose [] XP w s₀ mg mb s₁.heap->YP w s₁.heap ->
   s₁.heap.get? fa=some o->o.data=.func (docDef d.name d.params d.body d.scope pm cd doc)->s₁.heap.CodeRec cd d.name->mg d.name=some (.ref fa) ->
   s₁.heap.get? a=some { cls:=.type "list",data:=.seq vs.toArray }->d0E vs ns->ns.length<=n->s₁.gens = #[] ->
   a6Z (model l.prog w) c5g (.call (.ref fa) ⟨[.ref a],[]⟩) (fun r s'=>r=.ok (.ret (.bool true))/\OldK s₁.heap s'.heap/\s'.os=s₁.os/\b7e s'.gens) s₁) :
  WalkO q loose XP YP l.row.toRowW d [] (fun f vs=>b8w f vs):=by
 intro w s₀ s₁ mg mb G Y fa o pm cd doc dV kV ho hd hcd hD hmg hg args vals as hpre hlay hrd hwl hlo;obtain rfl:dV=.none:=Dflts.none hD hdf;obtain rfl:kV=.none:=Dflts.noKw hD;obtain⟨a,vs,ns,rfl,rfl,hobj,hints,hlen⟩:=c3x hn hpre hwl;refine enter_call (c2n (call w s₀ s₁ mg mb fa o pm cd doc a vs ns G Y ho (fd_plain hd) hcd hmg hobj hints hlen hg) fun r s' hq=>?_);obtain⟨rfl,h2,h3,h4⟩:=hq;exact⟨.inl ⟨.bool true,.bool true,[],rfl,fun _=>rfl,.bool true,c3O l _,fun _=>⟨List.Pairwise.nil,fun _ hm=>(nomatch hm)⟩⟩,h2,h3,h4⟩
section
variable {prog:D8}{w:World}{A:T3}{E:Value->l7->Prop}{s:l7}{K:Frag}
end
end Att
namespace L2
open PySem PySem.Spec PyProof.Rows
theorem b1T:∀ {vs:List Value} {ns:List Int},d0E vs ns->L1 (ns.map V.int) vs
 | _,_,.nil=>.nil
 | _,_,.cons n t h=>.cons ⟨t,rfl⟩ (b1T h)
def c9P(H:Hp):Prop:=∀b,H b=none\/∃o xs,H b=some (.frz o (.lst xs))
theorem c6Z{P:D8}{w:World}{K:Fg}{mg mb:Str->Option Value}{CX:CXT}{k:Nat}{fa a:Addr}{fd:a2b}{x:Str}{sp:Sp}{s₁:l7}{vs:List Value}{ns:List Int}
  (KX:K.In s₁.heap) (hns:s₁.heap.Ns A7 mg) (hb:s₁.heap.Ns builtinsNs mb) (hbb:∀x:Str,x ≠ "__name__" -> mb x=a3C x) (hlim:s₁.heap.NoLimit) (hg:s₁.gens = #[])
  (ha:s₁.heap.get? a=some { cls:=.type "list",data:=.seq vs.toArray }) (hi:d0E vs ns) (hl:ns.length<=u7) (hr:X1 k c5g)
  (F:∀base:Heap,K.In base->base.Ns A7 mg->J1 P w K mg base CX k fa fd [x] sp) (hbind:∀(s:l7) (u:Value),c5i s fd ⟨[u],[]⟩ [(x,u)])
  (hsp:∀H:Hp,c9P H->SqL K H a (ns.map V.int)->sp [.ref a] H (fun v _=>v=.bl true) fun _ _ _=>False)
  (hCX:∀H e s',CX [] H s₁ (fun _ _ _=>False) e s'->False) :
  a6Z (model P w) c5g (.call (.ref fa) ⟨[.ref a],[]⟩) (fun r s'=>r=.ok (.ret (.bool true))/\OldK s₁.heap s'.heap/\s'.os=s₁.os/\b7e s'.gens) s₁:=by
 have rv:=b1T hi;have lenV:=hi.length
 have core:∀H:Hp,c9P H->SqL K H a (ns.map V.int)->HOk P w H s₁.heap->(∀b,H b≠none->b=a)->(H a≠none->K.lookup a=none) ->
   a6Z (model P w) c5g (.call (.ref fa) ⟨[.ref a],[]⟩) (fun r s'=>r=.ok (.ret (.bool true))/\OldK s₁.heap s'.heap/\s'.os=s₁.os/\b7e s'.gens) s₁:=by
  intro H hO hS hok hA hK;have base_of:∀ {b:Addr} {o:Obj},s₁.heap.get? b=some o->H b=none->(b7V s₁.heap H).get? b=some o:=fun e n=>c7f e n
  have noA:∀ {b:Addr} {o:Obj} {es:Array a4C} {ep:Nat},s₁.heap.get? b=some o->o.data=.dict es ep->H b=none:=fun {b o es ep} e d=>by
   cases q:H b with
   | none=>rfl
   | some u=>
    have e':b=a:=hA b (by rw[q];simp);subst e';rw[ha]at e;cases e;have d':Data.seq vs.toArray _=Data.dict es ep:=d;cases d'
  have nsK:∀ {b:Addr} {m:Str->Option Value},s₁.heap.Ns b m->(b7V s₁.heap H).Ns b m:=fun {b m} ⟨o,es,ep,e,d,r⟩=>⟨o,es,ep,base_of e (noA e d),d,r⟩
  have hKb:K.In (b7V s₁.heap H):=fun b o e=>base_of (KX b o e) (by
   cases q:H b with
   | none=>rfl
   | some u=>
    have e':b=a:=hA b (by rw[q];simp);subst e';rw[hK (by rw[q];simp)]at e;cases e)
  have hM:Mod K mg (b7V s₁.heap H):=⟨hKb,nsK hns,⟨mb,nsK hb,hbb⟩,let⟨mc,h1,h2⟩:=hlim; ⟨mc,nsK h1,h2⟩⟩;have e0:c2k P w K mg (b7V s₁.heap H) c5g [] s₁ H:=⟨rfl,hM,fun b o e=>c9m e,Nat.le_of_eq (c4u _ _),trivial,fun b hb=>absurd (show b∈([]:List Addr)from hb) (by simp),hok,.of_eq hg⟩;refine c2n ((F _ hKb (nsK hns)).run c5g [] s₁ H ⟨[.ref a],[]⟩ [.ref a] [.ref a] _ _ hr e0 (hbind s₁ (.ref a)) (.cons rfl .nil) (hsp H hO hS)) fun r s' h=>?_
  cases r with
  | error e=>exact(hCX H e s' h).elim
  | ok fl=>
   cases fl with
   | next=>exact False.elim h
   | brk=>exact False.elim h
   | cont=>exact False.elim h
   | ret u=>
    obtain⟨v,H',os,bare,un,hok',r',q⟩:=h;have q':v=.bl true:=q;subst q';obtain rfl:u=Value.bool true:=r';refine⟨rfl,OldK.of_keep fun b o e=>?_,os,bare⟩;cases q:H b with
    | none=>exact un.keep b o e q (by intro z;exact absurd (show b∈([]:List Addr)from z) (by simp)) (by simp)
    | some u=>
     rcases hO b with z | ⟨ob,xs,z⟩
     ·rw[q]at z;cases z
     ·have z2:=un.frzs b ob _ z
      obtain⟨e1,_⟩:=hok b _ z;obtain⟨e2,_⟩:=hok' b _ z2;rw[e]at e1;cases e1;exact e2
 cases hk:K.lookup a with
 | some o=>
  have e:=KX a o hk;rw[ha]at e;cases e;refine core (fun _=>none) (fun _=>.inl rfl) (.inr ⟨_,vs.toArray,_,hk,rfl,rfl,rfl,by rw[o9,lenV];exact hl,by simpa using rv⟩) (fun b u z=>by have z':(none:Option HO)=some u:=z;cases z') (fun b z=>absurd rfl z) fun z=>absurd rfl z
 | none=>
  refine core (fun b=>if b=a then some (.frz { cls:=.type "list",data:=.seq vs.toArray } (.lst (ns.map V.int)))else none) (fun b=>?_) (.inl (.inr ⟨{ cls:=.type "list",data:=.seq vs.toArray },if_pos rfl⟩)) (fun b u z=>?_) (fun b z=>?_) fun _=>hk
  ·by_cases hb:b=a
   ·exact .inr ⟨_,_,if_pos hb⟩
   ·exact .inl (if_neg hb)
  ·by_cases hb:b=a
   ·have z':=(if_pos hb).symm.trans z
    cases z';subst hb;exact⟨ha,by rw[b9];exact hl,vs,_,rv,ha⟩
   ·have z':=(if_neg hb).symm.trans z
    cases z'
  ·by_cases hb:b=a
   ·exact hb
   ·exact absurd (if_neg hb) z
theorem c7U{l:PySem.W.OpenLaw}{n k:Nat}{q:D8}{loose:List Str}{XP:(Str->Option Value)->Heap->Prop}{YP:World->Heap->Prop}{d:DefRec}{K:Params->Fg}{CX:World->CXT}{sp:World->Sp}{x:Str}
  (hn:l.most=some n) (hn2:n<=u7) (hdf:d.params.defaults=[]) (hr:X1 k c5g)
  (hY:∀(w:World) (h:Heap),YP w h->(K w.params).In h)
  (F:∀(w:World) (mg:Str->Option Value) (fa:Addr) (h:Heap),(K w.params).In h->h.Ns A7 mg->mg d.name=some (.ref fa) ->
   ∃fd:a2b,(∀(s:l7) (u:Value),c5i s fd ⟨[u],[]⟩ [(x,u)]) /\
    ∀base:Heap,(K w.params).In base->base.Ns A7 mg->J1 l.prog w (K w.params) mg base (CX w) k fa fd [x] (sp w))
  (hsp:∀(w:World) (H:Hp) (a:Addr) (ns:List Int),ns.length<=n->c9P H->SqL (K w.params) H a (ns.map V.int)->sp w [.ref a] H (fun v _=>v=.bl true) fun _ _ _=>False)
  (hCX:∀(w:World) (H:Hp) (s:l7) (e:Value) (s':l7),CX w [] H s (fun _ _ _=>False) e s'->False) :
  PySem.W.WalkO q loose XP YP l.row.toRowW d [] (fun f vs=>b8w f vs):=by
 refine Att.c0v hn hdf fun w s₀ s₁ mg mb fa o pm cd doc a vs ns G Y ho hd hcd hmg hobj hints hlen hg=>?_
 have KX:=hY w _ Y;obtain⟨fd,hb,hF⟩:=F w mg fa _ KX G.T.g hmg;exact c6Z KX G.T.g G.T.b G.T.builtins G.T.nolimit hg hobj hints (J4 hlen hn2) hr hF hb (fun H hO hS=>hsp w H a ns hlen hO hS) fun H e s'=>hCX w H s₁ e s'
abbrev CX0:CXT:=fun _ _ _ _ _ _=>False
abbrev E0:XK:=fun _ _ _=>False
theorem c2D{X:Cx}:b0q CX0 X E0:=fun _ _ _ _ _ _ _ h=>h.elim
structure Fun(K:Fg)(x qual:Str)(st:Stmt)(f:Addr)(fd:a2b):Prop where
 ex:∃(oc:Value) (od:Option Addr) (kV doc pm:Value) (an:Option Addr) (cdv ct:Value) (osl:Array (Option Value)),
  fd=a2E x qual (a7D st) (a4w st) (g0 st) .none kV doc pm an cdv ct/\K.lookup f=some ⟨oc,od,.func fd,osl⟩/\a9n K cdv qual=true
 kp:a0J K (.ref f)=true
section
variable {P:D8}{w:World}{K:Fg}{mg:Str->Option Value}{base:Heap}
theorem Fun.ok{x qual:Str}{st:Stmt}{f:Addr}{fd:a2b}{N ps:List Str}{k:Nat}{sp:Sp}(F:Fun K x qual st f fd)(S:v7 N ps (g0 st))(len:∀vs H Q E,sp vs H Q E->vs.length=ps.length)
  (hbody:∀(cdv:Value) (A:T3) (outer:List Env) (s:l7) (H:Hp) (vs:List V) (Q:VK) (E:XK),X1 k (A.deeper (b8I qual (g0 st) s.heap.objs.size f cdv))->sp vs H Q E ->
   ∃t,PSs (c0e CX0 P w K mg base N qual (g0 st) f cdv A outer s H E).nox (a4w st) t/\t { nx:=fun _ H'=>Q .non H',rt:=Q } (b0S N vs) H):J1 P w K mg base CX0 (k+1) f fd ps sp:=by
 obtain⟨oc,od,kV,doc,pm,an,cdv,ct,osl,rfl,lk,hcd⟩:=F.ex;refine d4d lk hcd S len fun A outer s H vs Q E hr hsp=>?_
 obtain⟨t,h,q⟩:=hbody cdv A outer s H vs Q E hr hsp;exact⟨t,h.nox,q⟩
theorem Fun.binds{x qual:Str}{st:Stmt}{f:Addr}{fd:a2b}{ps:List Str}(F:Fun K x qual st f fd)
  (h:∀(kV doc pm:Value) (an:Option Addr) (cdv ct:Value) (us:List Value),us.length=ps.length->bindArgs (a2E x qual (a7D st) (a4w st) (g0 st) .none kV doc pm an cdv ct) ⟨us,[]⟩=pure (ps.zip us)):a6X K fd ps []:=by
 obtain⟨oc,od,kV,doc,pm,an,cdv,ct,osl,rfl,lk,hcd⟩:=F.ex;exact .all (h kV doc pm an cdv ct)
theorem d2v{x qual:Str}{st:Stmt}{f:Addr}{oc:Value}{od an:Option Addr}{osl:Array (Option Value)}{kV doc pm cdv ct:Value}(l:K.lookup f=some ⟨oc,od,.func (a2E x qual (a7D st) (a4w st) (g0 st) .none kV doc pm an cdv ct),osl⟩)
  (c:a9n K cdv qual=true) (k:a0J K (.ref f)=true):Fun K x qual st f (a2E x qual (a7D st) (a4w st) (g0 st) .none kV doc pm an cdv ct):=⟨⟨oc,od,kV,doc,pm,an,cdv,ct,osl,rfl,l,c⟩,k⟩
end
theorem b5m{A:T3}{k:Nat}(hr:X1 k A):A.units+1<cLine:=Nat.lt_of_le_of_lt (Nat.add_le_add_left (by decide:1<=64) _) hr.units
section
variable {X:Cx}
end
theorem d2r{A B:Prop}(h:B):if false=true then A else B:=by
 rw[if_neg w4];exact h
theorem b9S{A B:Prop}(h:A):if true=true then A else B:=by
 rw[if_pos rfl];exact h
theorem a3P{c A B:Prop}[Decidable c](h1:c->A)(h2:¬c->B):if c then A else B:=by
 by_cases h:c
 ·rw[if_pos h]
  exact h1 h
 ·rw[if_neg h]
  exact h2 h
def d9(H H':Hp):Prop:=∀b o,H b=some o->H' b=some o
theorem d9.refl(H:Hp):d9 H H:=fun _ _ h=>h
theorem d9.trans{H H1 H2:Hp}(a:d9 H H1)(b:d9 H1 H2):d9 H H2:=fun c o h=>b c o (a c o h)
theorem d9.free{H H':Hp}(e:d9 H H'){l:Addr}(h:H' l=Option.none):H l=Option.none:=by
 cases q:H l with
 | none=>rfl
 | some o=>
  rw[e l o q]at h;cases h
section
variable {κ:Type}[DecidableEq κ]
theorem b7k{kvs:List (κ×V)}{k:κ}{v:V}(h:a6n kvs k=some v):k∈kvs.map (·.1):=by
 have q:(kvs.any fun kv=>decide (kv.1=k))=true:=by
  rw[a4G,h];all_goals rfl
 obtain⟨p,hp,e⟩:=b5M.mp q;exact A8.mpr ⟨p,hp,of_decide_eq_true e⟩
end
end L2
set_option maxHeartbeats 4000000
namespace L2
open PySem PySem.Spec PyProof.Rows
variable{env:Env}{scope:Scope}{y:Str}{X:Cx}{w:World}{s:l7}{elt iter:Expr}{elts ifs:List Expr}{p pos tp:Pos}{pins:List (Addr×Obj)}{σ:St}{H:Hp}{cl:List (Str×Addr)}{fp:List Addr}{tt:TT}{te:TE}{wi:TI}{i j:Nat}{xs:List V}{us:List Value}{u:Value}{ps:List Str}{sp:Sp}
theorem b8c:∀(names:List (Str×a9r)) (cs:List (Str×Addr)),(∀y∈names,y.2=.free->∃c,env.cells.lookup y.1=some c) ->
  (∀y c,cs.lookup y=some c->env.cells.lookup y=some c) ->
  ∃cl,(forIn names cs (fun(x:Str×a9r) (r:List (Str×Addr))=>(if(x.2 == NameKind.free)=true then (do let c <-cellOf env x.1;pure (ForInStep.yield ((x.1,c)::r)))else pure (ForInStep.yield r):Sem (ForInStep (List (Str×Addr)))))=(pure cl:Sem (List (Str×Addr)))) /\
   (∀y c,cl.lookup y=some c->env.cells.lookup y=some c)/\(∀y,(y,NameKind.free)∈names\/(cs.lookup y).isSome=true->(cl.lookup y).isSome=true)
 | [],cs,_,h=>⟨cs,rfl,h,fun y q=>q.elim (fun z=>absurd z (by simp)) id⟩
 | (n,k)::r,cs,hc,h=>by
  by_cases e:(k == NameKind.free)=true
  ·have ek:k=.free:=by simpa using e
   obtain⟨c,hcc⟩:=hc (n,k) J8 ek
   have h':∀y d,((n,c)::cs).lookup y=some d->env.cells.lookup y=some d:=by
    intro y d q;rw[N3]at q;cases eq:y == n with
    | true=>
     rw[eq]at q;have e2:y=n:=by simpa using eq
     cases q;rw[e2];exact hcc
    | false=>rw[eq]at q;exact h y d q
   obtain⟨cl,h1,h2,h3⟩:=b8c r ((n,c)::cs) (fun y hy=>hc y (E9 _ hy)) h';refine⟨cl,?_,h2,fun y q=>h3 y ?_⟩
   ·rw[d2R]
    show((if(k == NameKind.free)=true then (do let c <-cellOf env n;pure (ForInStep.yield ((n,c)::cs)))else pure (ForInStep.yield cs):Sem (ForInStep (List (Str×Addr)))) >>= _)=_;rw[if_pos e];have ec:cellOf env n=pure c:=by unfold cellOf;rw[hcc]
    rw[ec];exact h1
   ·rcases q with q | q
    ·rcases u6.mp q with q | q
     ·cases q
      right;simp[N3]
     ·exact .inl q
    ·right
     rw[N3];cases y == n
     ·exact q
     ·rfl
  ·obtain⟨cl,h1,h2,h3⟩:=b8c r cs (fun y hy=>hc y (E9 _ hy)) h
   refine⟨cl,?_,h2,fun y q=>h3 y ?_⟩
   ·rw[d2R]
    show((if(k == NameKind.free)=true then (do let c <-cellOf env n;pure (ForInStep.yield ((n,c)::cs)))else pure (ForInStep.yield cs):Sem (ForInStep (List (Str×Addr)))) >>= _)=_;rw[if_neg e];exact h1
   ·rcases q with q | q
    ·rcases u6.mp q with q | q
     ·cases q
      exact absurd rfl e
     ·exact .inl q
    ·exact .inr q
theorem a7E(hc:∀y∈scope.names,y.2=.free->∃c,env.cells.lookup y.1=some c) :
  ∃cl,closureFor scope env=pure cl/\(∀y c,cl.lookup y=some c->env.cells.lookup y=some c)/\∀y,(y,NameKind.free)∈scope.names->(cl.lookup y).isSome=true:=by
 obtain⟨cl,h1,h2,h3⟩:=b8c scope.names [] hc (fun y c q=>by cases q);refine⟨cl,?_,h2,fun y q=>h3 y (.inl q)⟩;unfold closureFor
 first
  | exact h1
  | (show(forIn scope.names [] _ >>= fun r=>pure r)=_;rw[h1];rfl)
theorem W8{env:Env}:∀ {names:List (Str×a9r)} {y:Str} {k:a9r},
  (names.map fun(n,k)=>if(k == NameKind.free&&env.scope.kind == .function&&env.kindOf n == some .cell)then (n,NameKind.cell)else (n,k)).lookup y=some k ->
  names.lookup y=some k\/(names.lookup y=some .free/\k=.cell)
 | [],_,_,h=>by cases h
 | (n,k0)::r,y,k,h=>by
  have ih := @W8 env r y k;rw[D5]at h;rw[N3];cases hx:y == n with
  | true=>
   by_cases hc:(k0 == NameKind.free&&env.scope.kind == .function&&env.kindOf n == some .cell)=true
   ·have e2:k0=.free:=by simp at hc;exact hc.1.1
    dsimp only at h;rw[if_pos hc,N3,hx]at h;cases h;exact .inr ⟨by rw[e2],rfl⟩
   ·dsimp only at h
    rw[if_neg hc,N3,hx]at h;exact .inl h
  | false=>
   by_cases hc:(k0 == NameKind.free&&env.scope.kind == .function&&env.kindOf n == some .cell)=true
   ·dsimp only at h
    rw[if_pos hc,N3,hx]at h;exact ih h
   ·dsimp only at h
    rw[if_neg hc,N3,hx]at h;exact ih h
def hid(x:Str)(N:List Str):List Str:=N.map fun y=>if y=x then ("." : Str)++x else y
def a0N(X:Cx)(scope:Scope)(cl:List (Str×Addr))(C:Addr)(x:Str)(fp:List Addr)(s3:l7)(H3:Hp):Cx:=
 { X with N:=x::hid x X.N,s₀:=s3,H₀:=H3,env:=c4V scope cl C X.env,outer:=X.stack,stack:=X.stack,ex:=fp,fn:=fun _=>false,pn:=[],xe:=fun _ _=>False }
structure V6(N:List Str)(osc sc:Scope)(x:Str):Prop where
 kind:sc.kind=.function
 cell:∀y∈sc.names,y.2≠.cell
 names:∀y∈sc.names,y.2=.local->sc.names.lookup y.1=some .local
 own:sc.names.lookup x=some .local
 fr:∀y∈sc.names,y.2=.free->osc.names.lookup y.1=some .cell\/osc.names.lookup y.1=some .free
 see:∀y∈hid x N,sc.names.lookup y≠some .local
 dot:sc.names.lookup (("." : Str)++x)=none
 nd:(x::hid x N).Nodup
def a0f(wi:TI)(tt:TT)(te:TE):TE:=fun σ H Q=>wi σ H fun J H1=>∀D,H1 D=none->∃W:Nat->Nat->List V->Hp->Prop,
 (∃m,W 0 m [] (upd H1 D (.lst [])))/\∀i m ys H2,W i m ys H2->H2 D=some (.lst ys) /\
  ((J.stop i H2 /\ Q (.ref D) H2) \/ (J.go i H2 /\ ∀ x H3,J.yld i H2 x H3 -> tt (some x :: σ) H3 fun ok H4 => if ok = true then
    te (some x::σ) H4 (fun y H5=>H5 D=some (.lst ys)/\ys.length<u7/\∃m',m'<m/\W (i+1) m' (ys++[y]) (upd H5 D (.lst (ys++[y]))))
    else ∃m',m'<m/\W (i+1) m' ys H4))
def PTs(X:Cx)(ifs:List Expr)(t:TT):Prop:=
 ∀(pins:List (Addr×Obj)) (s:l7) (σ:St) (H:Hp) (Q:Bool->Hp->Prop),Inv X pins σ H s->t σ H Q ->
  wpAny (model X.prog X.w) X.A (forIn ifs true fun c r=>if r=true then do let ok <-isTrue c X.env (eval c X.env);pure (ForInStep.yield ok)else pure (ForInStep.yield r)) (TP X pins σ Q) X.xe s
def a0e:TT:=fun _ H Q=>Q true H
theorem c8v:PTs X [] a0e:=fun _ _ _ H _ I h=>wpAny_tests_nil ⟨H,I,h⟩
theorem c8u{c:Expr}{t:TT}(h:PT X c t):PTs X [c] t:=fun pins s σ H Q I hq=>wpAny_tests_one (h pins s σ H Q I hq)
theorem b6P{prog:D8}{A:T3}{R:d0a->l7->Prop}{target:Expr}{it acc:Value}(I:Nat->l7->Prop)
  (turn:∀n s,I n s->wpAny (model prog w) A (b8G it) (fun r s₁=>match r with
   | none=>R (.ok .next) s₁
   | some v=>wpAny (model prog w) A (a8a target it v) (fun _ s₂=>wpAny (model prog w) A (a9q target env v) (fun _ s₃=>
     wpAny (model prog w) A (forIn ifs true fun c r=>if r=true then do let ok <-isTrue c env (eval c env);pure (ForInStep.yield ok)else pure (ForInStep.yield r)) (fun ok s₄=>
      if ok=true then wpAny (model prog w) A (eval elt env) (fun x s₅=>
       wpAny (model prog w) A (call (.builtin "list.append") [acc,x]) (fun _ s₆=>∃m,m<n/\I m s₆) (fun _ _=>False) s₅) (fun _ _=>False) s₄
      else ∃m,m<n/\I m s₄) (fun _ _=>False) s₃) (fun _ _=>False) s₂) (fun _ _=>False) s₁) (fun _ _=>False) s)
  (n:Nat) (h:I n s) :
  a6Z (model prog w) A (.compLoop (.ListComp elt [⟨target,iter,ifs,0⟩] scope pos) 0 it acc env) R s:=by
 have up:∀ {α:Type} {m:Sem α} {Q:α->l7->Prop} {E:Value->l7->Prop} {s:l7},wpAny (model prog w) A m Q (fun _ _=>False) s->wpAny (model prog w) A m Q E s:=
  fun h=>a1i h (fun _ _ q=>q) fun _ _ f=>f.elim
 refine codeAny_loop rfl I (fun n s hI=>?_) n h;refine wpAny_noted ?_;rw[compTurn_list];refine d5 (b8F (d5 (up (thn (turn n s hI) fun r s₁ h₁=>?_))));cases r with
 | none=>exact u5 h₁
 | some v=>
  refine d5 (up (thn h₁ fun _ s₂ h₂=>d5 (up (thn h₂ fun _ s₃ h₃=>d5 (up (thn h₃ fun ok s₄ h₄=>?_))))));cases ok with
  | false=>exact u5 ⟨rfl,by simpa using h₄⟩
  | true=>
   rw[if_pos rfl]at h₄;exact d5 (d5 (up (thn h₄ fun x s₅ h₅=>d5 (up (thn h₅ fun _ s₆ h₆=>u5 (u5 ⟨rfl,h₆⟩))))))
section
variable {x:Str}{px:Pos}
theorem c7o{s3:l7}{h4:Heap}{tk:Nat}(hc:V6 X.N X.env.scope scope x)(I:Inv X pins σ H s3)
  (hcl:∀y c,cl.lookup y=some c->X.env.cells.lookup y=some c) (hcl2:∀y,(y,NameKind.free)∈scope.names->(cl.lookup y).isSome=true)
  (fpo:∀b∈fp,a9l X pins H b) (fpl:∀b∈fp,b<s3.heap.objs.size)
  (hn:h4.Ns s3.heap.objs.size (fun _=>none)) (k:∀b o,s3.heap.get? b=some o->h4.get? b=some o) :
  Inv (a0N X scope cl s3.heap.objs.size x fp s3 H) [] (none::σ) H { s3 with heap:=h4,toks:=tk }:=by
 have low:∀x y,(a0N X scope cl s3.heap.objs.size x fp s3 H).env.cells.lookup y=cl.lookup y:=fun _ _=>rfl
 have below:∀y c,cl.lookup y=some c->c<s3.heap.objs.size:=fun y c e=>by
  obtain⟨v,q⟩:=I.cell y c (hcl y c e);exact q.lt
 have kinds:∀y,((a0N X scope cl s3.heap.objs.size x fp s3 H).env.kindOf y=some .cell\/(a0N X scope cl s3.heap.objs.size x fp s3 H).env.kindOf y=some .free)->scope.names.lookup y=some .free:=by
  intro y hy;rcases hy with hy | hy
  ·rcases W8 hy with q | ⟨q,_⟩
   ·exact absurd rfl (hc.cell _ (E5 q))
   ·exact q
  ·rcases W8 hy with q | ⟨q,z⟩
   ·exact q
   ·cases z
 refine⟨⟨I.ok.mod,?_,I.ok.glob,I.ok.blt,j9 _,fun y z c h1 h2=>?_,fun y hy=>?_,fun y c h=>?_,I.ok.hd,I.ok.frames,.inl rfl,fun b hb=>⟨?_,fun y c e z=>?_⟩,fun b o e=>I.bs b o e,J4 I.ok.bsz I.sz,fun b o e hb=>?_,fun b hb hf=>?_,I.stack,I.stkFree⟩,
  rfl,I.bare,Un.kept k,⟨_,hn,fun i y v h1 h2 h3=>?_⟩,fun y c e=>?_,I.fresh,fun y c e=>?_,fun p hp=>absurd (show p∈([]:List (Addr×Obj))from hp) (by simp),I.hok.kept k,?_⟩
 ·exact hc.kind
 ·exact I.ok.inj y z c (hcl _ _ h1) (hcl _ _ h2)
 ·have:=hcl2 y (E5 (kinds y hy))
  exact a1o.mp this
 ·cases h
 ·exact A0 (fpl b hb)
 ·exact(fpo b hb).2.2.2.2.1 y c (hcl y c e) z
 ·rcases(fpo b hb).2.2.2.1 with q | q
  ·exact I.ok.noex b o e q
  ·exact absurd (D0 (o0 (I.ok.bs b o e).1) q) (P7 _)
 ·rcases u6.mp (I.stkSub b hf)with e | e
  ·exact(fpo b hb).2.1 e
  ·exact(fpo b hb).2.2.1 e
 ·-- the names
  have h1:(x::hid x X.N)[i]? = some y:=h1;cases i with
  | zero=>cases h2
  | succ i=>
   have h1:(hid x X.N)[i]? = some y:=h1;have h2:σ[i]? = some (some v):=h2;have my:y∈hid x X.N:=a1p h1;have h3:(b1M scope X.env).names.lookup y=some .local\/(b1M scope X.env).names.lookup y=some .cell\/(b1M scope X.env).names.lookup y=some .free:=h3
   have hf:scope.names.lookup y=some .free:=by
    rcases h3 with q | q
    ·rcases W8 q with q | ⟨_,z⟩
     ·exact absurd q (hc.see y my)
     ·cases z
    ·exact kinds y q
   have hy:X.N[i]? = some y:=by
    unfold hid at h1;rw[b6]at h1;cases e:X.N[i]? with
    | none=>rw[e]at h1;cases h1
    | some z=>
     rw[e]at h1;by_cases ez:z=x
     ·rw[a5s,if_pos ez]at h1
      have h1:=Option.some.inj h1;subst h1;rw[hc.dot]at hf;cases hf
     ·rw[a5s,if_neg ez]at h1
      exact h1
   obtain⟨m,_,hl⟩:=I.loc;obtain⟨c,hcc⟩:=a1o.mp (hcl2 y (E5 hf))
   have vis:Vis X.env.scope y:=by
    rcases hc.fr _ (E5 hf) rfl with q | q
    ·exact .inr (.inl q)
    ·exact .inr (.inr q)
   obtain⟨u,ru,lk⟩:=hl i y v hy h2 vis;refine⟨u,ru,.inr ⟨?_,c,hcc,?_⟩⟩
   ·rcases h3 with q | q
    ·rcases W8 q with q | ⟨_,z⟩
     ·exact absurd q (hc.see y my)
     ·cases z
    ·exact q
   ·have hce:=hcl y c hcc
    rcases lk with ⟨q,_⟩ | ⟨_,c',e',z⟩
    ·rcases hc.fr _ (E5 hf) rfl with q' | q'
     ·have q:X.env.scope.names.lookup y=some .local:=q
      rw[show X.env.scope.names.lookup y=some NameKind.cell from q']at q;cases q
     ·have q:X.env.scope.names.lookup y=some .local:=q
      rw[show X.env.scope.names.lookup y=some NameKind.free from q']at q;cases q
    ·rw[e']at hce
     cases hce;obtain⟨o,ho,hd⟩:=z;exact⟨o,k _ _ ho,hd⟩
 ·obtain⟨v,o,ho,hd⟩:=I.cell y c (hcl y c e)
  exact⟨v,o,k _ _ ho,hd⟩
 ·exact I.freeC y c (hcl y c e)
 ·show(none::σ).length=(x::hid x X.N).length
  have:=I.len;simp[hid,this]
theorem b5t{H1:Hp}{s2:l7}{it:Addr}{tn:Nat->Heap->Prop}{J:It}{Q:VK}{E:Value->l7->Prop}
  {RR:Value->Addr->d0a->l7->Prop} (hc:V6 X.N X.env.scope scope x) (hcalm:X.calm=true)
  (hcl:∀y c,cl.lookup y=some c->X.env.cells.lookup y=some c) (hcl2:∀y,(y,NameKind.free)∈scope.names->(cl.lookup y).isSome=true)
  (ht:∀C fp s3 H3,PTs (a0N X scope cl C x fp s3 H3) ifs tt) (he:∀C fp s3 H3,PE (a0N X scope cl C x fp s3 H3) elt te)
  (I:Inv X pins σ H1 s2) (T:b8o X.prog X.w X.K (.Name x px) J fp it tn) (st:tn 0 s2.heap) (fpo:∀b∈fp,a9l X pins H1 b)
  (h:∀D,H1 D=none->∃W:Nat->Nat->List V->Hp->Prop,
   (∃m,W 0 m [] (upd H1 D (.lst [])))/\∀i m ys H2,W i m ys H2->H2 D=some (.lst ys) /\
   ((J.stop i H2 /\ Q (.ref D) H2) \/ (J.go i H2 /\ ∀ x H3,J.yld i H2 x H3 -> tt (some x :: σ) H3 fun ok H4 => if ok = true then
     te (some x::σ) H4 (fun y H5=>H5 D=some (.lst ys)/\ys.length<u7/\∃m',m'<m/\W (i+1) m' (ys++[y]) (upd H5 D (.lst (ys++[y]))))
     else ∃m',m'<m/\W (i+1) m' ys H4)))
  (hRR:∀D C s' H' m,Inv X pins σ H' s'->s'.heap.Ns C m->H' C=none->C≠X.env.locals->X.s₀.heap.objs.size<=C->(∀y c,X.env.cells.lookup y=some c->c≠C)->(∀p∈X.pn++pins,p.1≠C)->Q (.ref D) H'->RR (.ref D) C (.ok .next) s') :
  wpAny (model X.prog X.w) X.A (newList []) (fun acc s₃=>wpAny (model X.prog X.w) X.A (newFunctionEnv scope X.env.globals cl [] X.env.qual none .none (some X.env)) (fun cenv s₄=>
   a6Z (model X.prog X.w) X.A (.compStart (.ListComp elt [⟨.Name x px,iter,ifs,0⟩] scope pos) 0 (.ref it) acc { cenv with scope:=b1M scope X.env }) (RR acc cenv.locals) s₄) E s₃) E s2:=by
 refine a0j (hd:=by size_fits) ?_;have I3:=I.lnew (ys:=[]) (its:=[]) (t':=s2.toks) .nil (by show 0<=u7;exact P8 _);obtain⟨W,⟨m0,w0⟩,turn⟩:=h _ I.fresh;generalize hD:s2.heap.objs.size=D at I3 w0 turn ⊢;generalize hs3:({ s2 with heap:=s2.heap.push { cls:=.type "list",data:=.seq ([]:List Value).toArray } }:l7)=s3;have hs3':({ s2 with heap:=s2.heap.push { cls:=.type "list",data:=.seq ([]:List Value).toArray },toks:=s2.toks }:l7)=s3:=hs3;rw[hs3']at I3;have keep3:∀b o,s2.heap.get? b=some o->s3.heap.get? b=some o:=fun b o e=>by rw[<-hs3];exact g8 _ e
 have fpl:∀b∈fp,b<s3.heap.objs.size:=fun b hb=>by
  obtain⟨o,e,_⟩:=T.obj _ _ st b hb;exact o0 (keep3 b o e)
 have fpD:∀b∈fp,b≠D:=fun b hb z=>by
  obtain⟨o,e,_⟩:=T.obj _ _ st b hb;exact absurd (o0 e) (by rw[z,hD];exact P7 _)
 have fpo3:∀b∈fp,a9l X pins (upd H1 D (.lst [])) b:=fun b hb=>⟨by rw[i8 (fpD b hb)];exact(fpo b hb).1,(fpo b hb).2⟩
 show wpAny _ _ _ _ _ s3;refine d4m hc.cell (by intro y hy;simp at hy) (fun h₁ hns₁ hsb₁=>?_) hc.kind;dsimp only[newEnv]at hns₁ hsb₁ ⊢;have keep4:∀b o,s3.heap.get? b=some o->h₁.get? b=some o:=fun b o e=>hsb₁.extBut b o (A0 (o0 e)) (g8 _ e)
 have I4:=c7o (tk:=s3.toks+([]:List (Str×Value)).length) hc I3 hcl hcl2 fpo3 fpl hns₁ keep4;have st4:tn 0 h₁:=T.keep _ _ _ st fun b hb o e=>keep4 b o (keep3 b o e)
 have loop:∀s₄:l7,s₄={ s3 with heap:=h₁,toks:=s3.toks+([]:List (Str×Value)).length } ->
   a6Z (model X.prog X.w) X.A (.compLoop (.ListComp elt [⟨.Name x px,iter,ifs,0⟩] scope pos) 0 (.ref it) (.ref D) (c4V scope cl s3.heap.objs.size X.env)) (RR (.ref D) s3.heap.objs.size) s₄:=by
  rintro s₄ rfl
  have stat:∀ {H':Hp},(∀b∈fp,H' b=none)->∀b∈fp,a9l (a0N X scope cl s3.heap.objs.size x fp s3 (upd H1 D (.lst []))) [] H' b:=fun hn b hb=>
   ⟨hn b hb,A0 (fpl b hb),fun hf=>by
    rcases u6.mp (I3.stkSub b hf)with e | e
    ·exact(fpo b hb).2.1 e
    ·exact(fpo b hb).2.2.1 e,.inl hb,fun y c e=>(fpo b hb).2.2.2.2.1 y c (hcl y c e),fun p hp=>absurd (show p∈([]:List (Addr×Obj))from hp) (by simp)⟩
  refine b6P (env:=c4V scope cl s3.heap.objs.size X.env) (fun n s'=>∃i ys H',Inv (a0N X scope cl s3.heap.objs.size x fp s3 (upd H1 D (.lst []))) [] (none::σ) H' s'/\tn i s'.heap/\(∀b∈fp,H' b=none)/\W i n ys H') ?_ m0
   ⟨0,[],_,I4,st4,fun b hb=>(fpo3 b hb).1,w0⟩
  rintro n s5 ⟨i,ys,H5,I5,st5,fr5,w5⟩;obtain⟨hDy,alt⟩:=turn i n ys H5 w5;rcases alt with ⟨stop,q⟩ | ⟨go,step⟩
  ·refine a1i (T.done (a0N X scope cl s3.heap.objs.size x fp s3 (upd H1 D (.lst []))) rfl rfl rfl hcalm i [] s5 _ H5 (fun _ _=>False) I5 (stat fr5) st5 stop) (fun r s6 ⟨hr,I6⟩=>?_) fun _ _ f=>f
   subst hr;obtain⟨m6,n6,_⟩:=I6.loc
   have J6:Inv X pins σ H5 s6:=by
    refine I3.call' (ch:=fp) I6.os I6.base I6.hok I6.bare fun b hb=>?_
    obtain⟨_,f1,f2,f3,f4,f5⟩:=fpo3 b hb;exact⟨f3,f1,f4,f5⟩
   refine hRR D _ s6 H5 m6 J6 n6 I6.free (c4Q I3.lt) I3.sz (fun y c e z=>?_) (fun p hp z=>?_) q
   ·obtain⟨v,q⟩:=I3.cell y c e
    exact absurd q.lt (by rw[z];exact P7 _)
   ·exact absurd (o0 (I3.pin p hp).1) (by rw[z];exact P7 _)
  ·refine a1i (T.item (a0N X scope cl s3.heap.objs.size x fp s3 (upd H1 D (.lst []))) rfl rfl rfl hcalm i [] s5 _ H5 (fun _ _=>False) I5 (stat fr5) st5 go) (fun r s6 ⟨u,hr,h6⟩=>?_) fun _ _ f=>f
   subst hr;refine thn h6 fun _ s6 ⟨xv,H6,I6,r6,y6,st6,fr6⟩=>?_
   have I6':=I6.pinned (stat fr6) (T.obj _ _ st6);refine b0x (b0R (i:=0) I6' ?nd rfl (.inl ?loc) r6 (fun s7 I7=>?_) (.inr ?loc))
   case nd=>exact hc.nd
   case loc=>exact a4c hc.own
   have I7:Inv (a0N X scope cl s3.heap.objs.size x fp s3 (upd H1 D (.lst []))) ([]++a9X fp s6.heap) (some xv::σ) H6 s7:=I7
   have again:∀ {s8:l7} {H8:Hp} {ys8:List V},Inv (a0N X scope cl s3.heap.objs.size x fp s3 (upd H1 D (.lst []))) ([]++a9X fp s6.heap) (some xv::σ) H8 s8->(∃m',m'<n/\W (i+1) m' ys8 H8) ->
     ∃m,m<n/\∃i ys H',Inv (a0N X scope cl s3.heap.objs.size x fp s3 (upd H1 D (.lst []))) [] (none::σ) H' s8/\tn i s8.heap/\(∀b∈fp,H' b=none)/\W i m ys H':=by
    rintro s8 H8 ys8 I8 ⟨m',hm,w8⟩;refine⟨m',hm,i+1,ys8,H8,(I8.unpinned (pins:=[])).weak rfl (fun j v e=>?_),T.keep _ _ _ st6 fun b hb o e=>(I8.pin (b,o) (B8 _ (B8 _ (a4n hb e)))).1,fun b hb=>?_,w8⟩
    ·cases j with
     | zero=>cases e
     | succ j=>exact e
    ·obtain⟨o,e,d⟩:=T.obj _ _ st6 b hb
     exact(I8.pin (b,o) (B8 _ (B8 _ (a4n hb e)))).2.1
   refine thn (ht _ fp s3 _ _ s7 _ H6 _ I7 (step xv H6 y6)) (fun ok s8 ⟨H8,I8,q8⟩=>?_);cases ok with
   | false=>exact again I8 (by simpa using q8)
   | true=>
    rw[if_pos rfl]at q8;rw[if_pos rfl];refine thn (he _ fp s3 _ _ s8 _ H8 _ I8 q8) (fun v s9 ⟨y,H9,I9,r9,hD9,hz9,w9⟩=>?_);refine a1i (b2C (X:=a0N X scope cl s3.heap.objs.size x fp s3 (upd H1 D (.lst []))) _ s9 _ H9 (.ref D) [y] (.ref D) [v] (fun _ H'=>H'=upd H9 D (.lst (ys++[y]))) I9 rfl (.cons r9 .nil) ⟨D,ys,y,rfl,rfl,hD9,hz9,rfl⟩) (fun _ s10 ⟨_,H10,I10,_,e10⟩=>?_) fun _ _ f=>f
    subst e10;exact again I10 w9
 exact d2X (loop _ rfl) (T.self X.A 0 _ _ _ st4 (loop _ rfl))
theorem b5s(hc:V6 X.N X.env.scope scope x)(I:Inv X pins σ H s):∀y∈scope.names,y.2=.free->∃c,X.env.cells.lookup y.1=some c:=by
 intro y hy e;rcases hc.fr y hy e with q | q
 ·exact I.ok.has y.1 (.inl q)
 ·exact I.ok.has y.1 (.inr q)
theorem c8O(hc:V6 X.N X.env.scope scope x)(hcalm:X.calm=true)(hi:PI X (.Name x px) iter wi)
  (ht:∀cl C fp s3 H3,PTs (a0N X scope cl C x fp s3 H3) ifs tt) (he:∀cl C fp s3 H3,PE (a0N X scope cl C x fp s3 H3) elt te)
  (hs:∀x,Y0 iter X.env x=pure x:=by intro _;rfl) :
  PE X (.ListComp elt [⟨.Name x px,iter,ifs,0⟩] scope pos) (a0f wi tt te):=by
 intro pins s σ H Q I h;obtain⟨cl,hclos,hcl,hcl2⟩:=a7E (b5s hc I);rw[eval_ListComp];refine a5d (use:=none) rfl hs hclos hc.kind hc.names (thn (hi pins s σ H _ I h) fun v s1 h1=>thn h1 fun itv s2 ⟨it,fp,tn,J,H2,e,I2,T,st,fpo,R⟩=>?_);subst e;refine b5t (RR:=fun acc C=>compPost (model X.prog X.w) X.A X.xe none (EP X pins σ Q) acc C) (Q:=Q) hc hcalm hcl hcl2 (ht cl) (he cl) I2 T st fpo R ?_;intro D C s' H' m I' n f1 f2 f3 f4 f5 q;exact⟨m,n,fun h' sb=>⟨.ref D,H',I'.turned (t':=s'.toks) (fun b o hb e=>(sb.2 b hb).trans e) f1 f2 (.inr f3) f4 f5,rfl,q⟩⟩
theorem c1s{py spos:Pos}(hN:X.N.Nodup)(hiy:X.N[i]? = some y)(hy:X.env.scope.names.lookup y=some .local)(hc:V6 X.N X.env.scope scope x)(hcalm:X.calm=true)(hi:PI X (.Name x px) iter wi)
  (ht:∀cl C fp s3 H3,PTs (a0N X scope cl C x fp s3 H3) ifs tt) (he:∀cl C fp s3 H3,PE (a0N X scope cl C x fp s3 H3) elt te)
  (hsw:a3A (.ListComp elt [⟨.Name x px,iter,ifs,0⟩] scope pos) (some (.Name y py)) spos.line X.env=pure true:=by rfl)
  (hs:∀x,Y0 iter X.env x=pure x:=by intro _;rfl) :
  PS X (.Assign [.Name y py] (.ListComp elt [⟨.Name x px,iter,ifs,0⟩] scope pos) spos) (fun D σ H=>a0f wi tt te σ H fun v H1=>D.nx (σ.set i (some v)) H1):=by
 intro pins s σ H D I h;obtain⟨cl,hclos,hcl,hcl2⟩:=a7E (b5s hc I);rw[d3g _ _ _ _ hsw];refine d5 (b8F (d5 ?_));show wpAny _ X.A (do let _ <-comprehension (.ListComp elt [⟨.Name x px,iter,ifs,0⟩] scope pos) scope X.env _ (newList []) false (eval iter X.env) (some (a9q (.Name y py) X.env))) _ _ s
 refine d5 (a1i (a5d (use:=some (a9q (.Name y py) X.env)) (Q:=fun _ s'=>SP X pins D .next s') rfl hs hclos hc.kind hc.names
  (thn (hi pins s σ H _ I h) fun v s1 h1=>thn h1 fun itv s2 ⟨it,fp,tn,J,H2,e,I2,T,st,fpo,R⟩=>?_)) (fun _ s' hq=>u5 (u5 hq)) fun _ _ e=>e)
 subst e;refine b5t (RR:=fun acc C=>compPost (model X.prog X.w) X.A X.xe (some (a9q (.Name y py) X.env)) (fun _ s'=>SP X pins D .next s') acc C) (Q:=fun v H1=>D.nx (σ.set i (some v)) H1) hc hcalm hcl hcl2 (ht cl) (he cl) I2 T st fpo R ?_;intro E C s' H' m I' n f1 f2 f3 f4 f5 q;show wpAny _ _ (a9q (.Name y py) X.env (.ref E)) _ _ _;refine b0x (b1Z (v:=.ref E) I' hN hiy (.inl hy) rfl (fun s'' I'' ch=>?_) (.inr hy));obtain⟨a,sb,ha⟩:=ch
 have hCa:C≠a:=by
  rcases ha with e | e
  ·rw[e];exact f2
  ·exact fun z=>f4 y a e z.symm
 exact⟨m,n.sameBut sb hCa,fun h' sb'=>⟨_,_,I''.turned (t':=s''.toks) (fun b o hb e=>(sb'.2 b hb).trans e) f1 f2 (.inr f3) f4 f5,q⟩⟩
end
section
theorem OpR.imp{f:Value->Value->Sem Value}{r r':R2}(h:OpR X f r)(i:∀x y H Q,r' x y H Q->r x y H Q):OpR X f r':=fun pins s σ H x y u v Q I rx ry q=>h pins s σ H x y u v Q I rx ry (i _ _ _ _ q)
theorem a0Y.imp{f:Value}{r r':List V->Hp->VK->Prop}(h:a0Y X f r)(i:∀xs H Q,r' xs H Q->r xs H Q):a0Y X f r':=fun pins s σ H xs us Q I rx q=>h pins s σ H xs us Q I rx (i _ _ _ q)
theorem IxR.imp{r r':R2}(h:IxR X r)(i:∀x y H Q,r' x y H Q->r x y H Q):IxR X r':=by
 intro value slice pins s σ H x y v u Q I rx ry q hs;exact h value slice pins s σ H x y v u Q I rx ry (i _ _ _ _ q) hs
theorem SlR.imp{r r':V->Option Int->Option Int->Hp->VK->Prop}(h:SlR X r)(i:∀x lo hi H Q,r' x lo hi H Q->r x lo hi H Q):SlR X r':=fun pins s σ H x v vl vu lo hi sl Q I rx hs pl pu q=>h pins s σ H x v vl vu lo hi sl Q I rx hs pl pu (i _ _ _ _ _ q)
def a5m:R2:=fun x y H Q=>match x,y with
 | .int i,.int j=>Q (.int (i+j)) H
 | .str i,.str j=>i.length+j.length<=u7/\Q (.str (i++j)) H
 | .ref a,.ref b=>match H a,H b with
  | some (.lst xs),some (.lst ys)=>xs.length+ys.length<=u7/\∀p,H p=none->Q (.ref p) (upd H p (.lst (xs++ys)))
  | _,_=>False
 | _,_=>False
theorem c9d:OpR X (a1w .Add) a5m:=by
 refine(d1X.or (c1A.or d1W)).imp fun x y H Q h=>?_
 unfold a5m at h;split at h
 ·exact .inl ⟨_,_,rfl,rfl,h⟩
 ·exact .inr (.inl ⟨_,_,rfl,rfl,h.1,h.2⟩)
 ·split at h
  ·exact .inr (.inr ⟨_,_,_,_,rfl,rfl,by assumption,by assumption,h.1,h.2⟩)
  ·exact h.elim
 ·exact h.elim
def q2I(C:Int->Int->Prop)(g:Int->Int->V):R2:=fun x y H Q=>match x,y with
 | .int i,.int j=>C i j/\Q (g i j) H
 | _,_=>False
def b9v(g:Int->Int->V):R2:=fun x y H Q=>match x,y with
 | .int i,.int j=>Q (g i j) H
 | _,_=>False
theorem c1p{f:Value->Value->Sem Value}{C:Int->Int->Prop}{g:Int->Int->V}(h:OpR X f (rI C g)):OpR X f (q2I C g):=h.imp fun x y H Q q=>by
 unfold q2I at q;split at q
 ·exact⟨_,_,rfl,rfl,q.1,q.2⟩
 ·exact q.elim
theorem b1h{f:Value->Value->Sem Value}{g:Int->Int->V}(h:OpR X f (rI0 g)):OpR X f (b9v g):=h.imp fun x y H Q q=>by
 unfold b9v at q;split at q
 ·exact⟨_,_,rfl,rfl,q⟩
 ·exact q.elim
abbrev c3L:R2:=b9v fun i j=>.int (i - j)
abbrev c1l:R2:=q2I c9S fun i j=>.int (i * j)
abbrev b6b:R2:=q2I (fun _ j=>0<j) fun i j=>.int (i % j)
abbrev c8r:R2:=q2I (fun _ j=>0<j/\j<2 ^ 64) fun i j=>.int (i / j)
abbrev qLt:R2:=b9v fun i j=>.bl (decide (i<j))
abbrev qLe:R2:=b9v fun i j=>.bl (decide (i<=j))
abbrev qGt:R2:=b9v fun i j=>.bl (decide (j<i))
abbrev qGe:R2:=b9v fun i j=>.bl (decide (j<=i))
theorem c8T:OpR X (a1w .Sub) c3L:=b1h d1M
theorem c8X:OpR X (a1w .Mult) c1l:=c1p d1U
theorem c8Y:OpR X (a1w .Mod) b6b:=c1p d1V
theorem c9c:OpR X (a1w .FloorDiv) c8r:=c1p (opI fun i j _ _ _ _ _ hc q=>by
 have hl:j.natAbs.log2<9000:=by
  have:j.natAbs<2 ^ 64:=by have:=hc.1;have:=hc.2;omega
  by_cases h0:j.natAbs=0
  ·rw[h0];decide +kernel
  ·exact Nat.lt_trans ((Nat.log2_lt h0).mpr this) (by decide)
 refine floordiv_int (by omega) ?_ (.inl (PyProof.noPylong_of_log2 hl));rw[Int.fdiv_eq_ediv_of_nonneg _ (by omega)];exact q)
theorem d1O:OpR X (A3 .Lt) qLt:=b1h d3Q
theorem d1P:OpR X (A3 .LtE) qLe:=b1h d3R
theorem d1R:OpR X (A3 .Gt) qGt:=b1h d3S
theorem d1S:OpR X (A3 .GtE) qGe:=b1h d3T
def qIx:R2:=fun x y H Q=>match x,y with
 | .ref p,.int i=>match H p with
  | some (.lst xs)=>∃v,atI xs i=some v/\Q v H
  | some (.tup xs)=>∃v,atI xs i=some v/\Q v H
  | _=>False
 | .str z,.int i=>z.length<=u7/\∃c,atI z.cps.toList i=some c/\Q (.str ⟨#[c]⟩) H
 | _,_=>False
theorem d4H:IxR X qIx:=c7c.imp fun x y H Q h=>by
 unfold qIx at h;split at h
 ·split at h
  ·obtain⟨v,e,q⟩:=h
   exact .inl ⟨_,_,_,v,rfl,rfl,SqL.of (by assumption),e,q⟩
  ·obtain⟨v,e,q⟩:=h
   exact .inr (.inl ⟨_,_,_,v,rfl,rfl,SqT.of (by assumption),e,q⟩)
  ·exact h.elim
 ·obtain⟨z,c,e,q⟩:=h
  exact .inr (.inr ⟨_,_,c,rfl,rfl,z,e,q⟩)
 ·exact h.elim
def qSl:V->Option Int->Option Int->Hp->VK->Prop:=fun x lo hi H Q=>match x with
 | .ref a=>match H a with
  | some (.lst xs)=>∀p,H p=none->Q (.ref p) (upd H p (.lst (a8B xs lo hi)))
  | some (.tup xs)=>¬(HT.sIx xs.length 0 lo=0/\HT.sIx xs.length xs.length hi=xs.length)/\∀p,H p=none->Q (.ref p) (upd H p (.tup (a8B xs lo hi)))
  | _=>False
 | _=>False
theorem d4u:SlR X qSl:=(c2x.or d0I).imp fun x lo hi H Q h=>by
 unfold qSl at h;split at h
 ·split at h
  ·exact .inl ⟨_,_,rfl,SqL.of (by assumption),h⟩
  ·exact .inr ⟨_,_,rfl,SqT.of (by assumption),h.1,h.2⟩
  ·exact h.elim
 ·exact h.elim
def V4:List V->Hp->VK->Prop:=fun xs H Q=>match xs with
 | [.ref p]=>match H p with
  | some (.lst ys)=>Q (.int ys.length) H
  | some (.tup ys)=>Q (.int ys.length) H
  | _=>False
 | [.str z]=>z.length<=u7/\Q (.int z.length) H
 | _=>False
theorem c4D:a0Y X (.builtin "len") V4:=(b1s.or b8g).imp fun xs H Q h=>by
 unfold V4 at h;split at h
 ·split at h
  ·exact .inl ⟨_,_,rfl,.inl (SqL.of (by assumption)),h⟩
  ·exact .inl ⟨_,_,rfl,.inr (SqT.of (by assumption)),h⟩
  ·exact h.elim
 ·exact .inr ⟨_,rfl,h.1,h.2⟩
 ·exact h.elim
def c6m:List V->Hp->VK->Prop:=fun xs H Q=>match xs with
 | [.int i]=>Q (.int (if i<0 then -i else i)) H
 | _=>False
theorem c4H:a0Y X (.builtin "abs") c6m:=c7s.imp fun xs H Q h=>by
 unfold c6m at h;split at h
 ·exact⟨_,rfl,h⟩
 ·exact h.elim
def b1g:V->V->V->Hp->(Hp->Prop)->Prop:=fun o i v H Q=>match o,i with
 | .ref p,.int k=>match H p with
  | some (.lst xs)=>∃j,ixN xs.length k=some j/\Q (upd H p (.lst (xs.set j v)))
  | _=>False
 | _,_=>False
theorem d3m:c7y X b1g:=by
 intro pins s σ H o i v u1 u2 u3 Q I r1 r2 r3 h;refine c5L pins s σ H o i v u1 u2 u3 Q I r1 r2 r3 ?_;unfold b1g at h;split at h
 ·split at h
  ·obtain⟨j,e,q⟩:=h
   exact⟨_,_,_,j,rfl,rfl,by assumption,e,q⟩
  ·exact h.elim
 ·exact h.elim
def Z1(xs ys:List V):Bool:=(C1 (min xs.length ys.length)).all (fun j=>eqV (xs.getD j .non) (ys.getD j .non))&&xs.length == ys.length
def eqO(x y:V)(H:Hp):Option Bool:=if b9h x y=true then some (decide (x=y))else match x,y with
 | .ref a,.ref b=>match H a,H b with
  | some (.tup xs),some (.tup ys)=>if xs.all O8=true/\ys.all O8=true then some (Z1 xs ys)else none
  | some (.lst xs),some (.lst ys)=>if xs.all O8=true/\ys.all O8=true then some (Z1 xs ys)else none
  | _,_=>none
 | .non,.ref a=>match H a with
  | some (.tup _)=>some false
  | _=>none
 | .ref a,.non=>match H a with
  | some (.tup _)=>some false
  | _=>none
 | _,_=>none
def qEq:R2:=fun x y H Q=>∃b,eqO x y H=some b/\Q (.bl b) H
def qNe:R2:=fun x y H Q=>∃b,eqO x y H=some b/\Q (.bl (!b)) H
theorem a7C{A:T3}{ys:List V}{ws:List Value}(rx:L1 xs us)(ry:L1 ys ws)(fx:xs.all O8=true)(fy:ys.all O8=true) :
  ∀j (h1:j<us.toArray.size) (h2:j<ws.toArray.size),SeqAt.EqAt A s us.toArray[j] ws.toArray[j] (eqV (xs.getD j .non) (ys.getD j .non)):=by
 intro j h1 h2;have l1:=rx.length;have l2:=ry.length;have h1':j<us.length:=by simpa using h1
 have h2':j<ws.length:=by simpa using h2
 have e1:xs[j]? = some (xs[j]'(by omega)):=by simp
 have e2:ys[j]? = some (ys[j]'(by omega)):=by simp
 obtain⟨u,hu,ru⟩:=rx.get e1;obtain⟨w,hw,rw'⟩:=ry.get e2
 have z1:us.toArray[j]=u:=by
  have:us[j]? = some us[j]:=by simp
  rw[this]at hu;simpa using hu
 have z2:ws.toArray[j]=w:=by
  have:ws[j]? = some ws[j]:=by simp
  rw[this]at hw;simpa using hw
 rw[z1,z2];have g1:xs.getD j .non=xs[j]'(by omega):=by simp[D6,e1]
 have g2:ys.getD j .non=ys[j]'(by omega):=by simp[D6,e2]
 rw[g1,g2];exact b7Z ru rw' (L3.mp fx _ (J7 _)) (L3.mp fy _ (J7 _))
theorem d0k{x y:V}{v:Value}{k:Bool}(I:Inv X pins σ H s)(hu:X.A.units<cLine)(rx:K8 x v)(ry:K8 y u)(hs:¬b9h x y=true)(e:eqO x y H=some k) :
  SeqAt.RcAt X.A s v u k/\SeqAt.RcNeAt X.A s v u (!k):=by
 unfold eqO at e;rw[if_neg hs]at e;split at e
 ·rename_i a b
  cases rx;cases ry;split at e
  ·rename_i xs ys ha hb
   split at e
   ·rename_i hf
    cases e;obtain⟨us,r1,t1,_⟩:=I.tuple (SqT.of ha);obtain⟨ws,r2,t2,_⟩:=I.tuple (SqT.of hb);have l1:=r1.length;have l2:=r2.length;have q1:=SeqAt.RcAt.tuples (A:=X.A) t1 t2 hu (a7C r1 r2 hf.1 hf.2);have q2:=SeqAt.RcNeAt.tuples (A:=X.A) t1 t2 hu (a7C r1 r2 hf.1 hf.2);simp only[o9,<-l1,<-l2]at q1 q2;exact⟨q1,q2⟩
   ·cases e
  ·rename_i xs ys ha hb
   split at e
   ·rename_i hf
    cases e;obtain⟨us,r1,t1,_⟩:=I.list (SqL.of ha);obtain⟨ws,r2,t2,_⟩:=I.list (SqL.of hb);have l1:=r1.length;have l2:=r2.length;by_cases hl:us.toArray.size=ws.toArray.size
    ·have q1:=SeqAt.RcAt.lists (A:=X.A) t1.isList t2.isList hl hu (a7C r1 r2 hf.1 hf.2)
     have q2:=SeqAt.RcNeAt.lists (A:=X.A) t1.isList t2.isList hl hu (a7C r1 r2 hf.1 hf.2);have hl':xs.length=ys.length:=by simpa[<-l1,<-l2]using hl
     have ef:Z1 xs ys=(C1 us.toArray.size).all fun j=>eqV (xs.getD j .non) (ys.getD j .non):=by
      unfold Z1;rw[hl',b5H,o9,<-l1,hl'];simp
     rw[ef];exact⟨q1,q2⟩
    ·have hl2:(us.toArray.size != ws.toArray.size)=true:=by simpa using hl
     have q1:=SeqAt.RcAt.lists_lengths (A:=X.A) t1.isList t2.isList hl2 hu;have q2:=SeqAt.RcNeAt.lists_lengths (A:=X.A) t1.isList t2.isList hl2 hu
     have ef:Z1 xs ys=false:=by
      unfold Z1;have:¬xs.length=ys.length:=by simpa[<-l1,<-l2]using hl
      simp[this]
     rw[ef];exact⟨q1,q2⟩
   ·cases e
  ·cases e
 ·cases rx
  cases ry;split at e
  ·cases e
   obtain⟨us,_,t1,_⟩:=I.tuple (SqT.of (by assumption));exact⟨SeqAt.RcAt.none_tuple t1 hu,SeqAt.RcNeAt.none_tuple t1 hu⟩
  ·cases e
 ·cases rx
  cases ry;split at e
  ·cases e
   obtain⟨us,_,t1,_⟩:=I.tuple (SqT.of (by assumption));exact⟨SeqAt.RcAt.tuple_none t1 hu,SeqAt.RcNeAt.tuple_none t1 hu⟩
  ·cases e
 ·cases e
theorem d1T(hu:X.A.units<cLine):OpR X (A3 .Eq) qEq:=by
 intro pins s σ H x y v u Q I rx ry h;obtain⟨k,e,q⟩:=h;by_cases hs:b9h x y=true
 ·unfold eqO at e
  rw[if_pos hs]at e;cases e;exact d3U pins s σ H x y v u Q I rx ry ⟨hs,q⟩
 ·exact(d0k I hu rx ry hs e).1 _ _ _ _ ⟨.bl k,H,I,rfl,q⟩
theorem c6M(hu:X.A.units<cLine):OpR X (A3 .NotEq) qNe:=by
 intro pins s σ H x y v u Q I rx ry h;obtain⟨k,e,q⟩:=h;by_cases hs:b9h x y=true
 ·unfold eqO at e
  rw[if_pos hs]at e;cases e;exact d3P pins s σ H x y v u Q I rx ry ⟨hs,q⟩
 ·exact(d0k I hu rx ry hs e).2 _ _ _ _ ⟨.bl (!k),H,I,rfl,q⟩
def qIn(neg:Bool):R2:=fun x y H Q=>match x,y with
 | .str i,.str j=>Q (.bl (if neg then !(!(Builtin.Str.occurrences j i 0 j.length 1).isEmpty)else !(Builtin.Str.occurrences j i 0 j.length 1).isEmpty)) H
 | x,.ref p=>match H p with
  | some (.lst xs)=>O8 x=true/\xs.all O8=true/\Q (.bl (if neg then !inV x xs else inV x xs)) H
  | some (.tup xs)=>O8 x=true/\xs.all O8=true/\Q (.bl (if neg then !inV x xs else inV x xs)) H
  | _=>False
 | _,_=>False
theorem d1Q:OpR X (A3 .In) (qIn false):=(c3U.or b6K).imp fun x y H Q h=>by
 unfold qIn at h;split at h
 ·exact .inl ⟨_,_,rfl,rfl,h⟩
 ·split at h
  ·exact .inr ⟨_,_,rfl,.inl (SqL.of (by assumption)),h.1,h.2.1,h.2.2⟩
  ·exact .inr ⟨_,_,rfl,.inr (SqT.of (by assumption)),h.1,h.2.1,h.2.2⟩
  ·exact h.elim
 ·exact h.elim
def O5:V->List V->Hp->VK->Prop:=fun x vs H Q=>match x,vs with
 | .ref l,[y]=>match H l with
  | some (.lst xs)=>xs.length<u7/\Q .non (upd H l (.lst (xs++[y])))
  | _=>False
 | _,_=>False
theorem c1M:MtR X "list.append" O5:=fun pins s σ H x xs v us Q I rx rv h=>by
 refine b2C pins s σ H x xs v us Q I rx rv ?_;unfold O5 at h;split at h
 ·split at h
  ·exact⟨_,_,_,rfl,rfl,by assumption,h.1,h.2⟩
  ·exact h.elim
 ·exact h.elim
def a6o:List V->Option (List Str)
 | []=>some []
 | .str s::r=>(a6o r).map (s :: ·)
 | _=>none
theorem c0Q(ss:List Str):a6o (ss.map V.str)=some ss:=by
 induction ss with
 | nil=>rfl
 | cons s r ih=>simp[a6o,ih]
theorem b4s:∀ {xs:List V} {us:List Value} {ss:List Str},L1 xs us->a6o xs=some ss->StrsAre us ss
 | _,_,ss,.nil,e=>by cases e;exact .nil
 | x::xs,_,ss,.cons r t,e=>by
  cases x with
  | str s=>
   obtain⟨k,rfl⟩:=r;cases e2:a6o xs with
   | none=>simp[a6o,e2]at e
   | some ss2=>
    simp[a6o,e2]at e;subst e;exact .cons _ _ (b4s t e2)
  | _=>simp[a6o]at e
def b6I:V->List V->Hp->VK->Prop:=fun x vs H Q=>match x,vs with
 | .str x,[.ref l]=>match H l with
  | some (.lst xs)=>∃ss,a6o xs=some ss/\(ss.map (·.length)).sum+ss.length * x.length<=16777216/\Q (.str (Txt.join x ss)) H
  | _=>False
 | _,_=>False
theorem c6R:MtR X "str.join" b6I:=fun pins s σ H x xs v us Q I rx rv h=>by
 unfold b6I at h;split at h
 ·split at h
  ·obtain⟨ss,e,hk,q⟩:=h
   obtain⟨t,rfl⟩:=rx;obtain⟨u,rfl,ru⟩:=rv.one;cases ru;obtain⟨its,r,p,hz⟩:=I.list (SqL.of (by assumption));exact join_list p.isList (b4s r e) hk fun t' k=>⟨.str _,H,I.tok _,⟨_,rfl⟩,q⟩
  ·exact h.elim
 ·exact h.elim
def a4V(x:V)(H:Hp):Option String:=match x with
 | .non=>some "NoneType"
 | .bl _=>some "bool"
 | .int _=>some "int"
 | .str _=>some "str"
 | .ref a=>match H a with
  | some (.lst _)=>some "list"
  | some (.tup _)=>some "tuple"
  | some (.dK _)=>some "dict"
  | some (.dT _)=>some "dict"
  | _=>none
 | _=>none
def c1U(t c:String):Bool:=t == c||(t == "bool" && c == "int")
def b2F:List String:=["int","bool","str","list","tuple","dict"]
theorem c7a(K:Fg):∀t ∈ "NoneType" :: b2F,∀c∈b2F,c9U K (.type t) (.type c)=some (c1U t c):=by
 intro t ht c hc;simp only[b2F,u6,P5,or_false]at ht hc;rcases ht with rfl | rfl | rfl | rfl | rfl | rfl | rfl <;> rcases hc with rfl | rfl | rfl | rfl | rfl | rfl <;> kernel_rfl
theorem d3k{K:Fg}{x:V}{t:String}(h:a4V x H=some t):b2Q K H x (.type t)/\t ∈ "NoneType" :: b2F:=by
 unfold a4V at h;split at h
 ·cases h;exact⟨.non,by decide⟩
 ·cases h;exact⟨.bl _,by decide⟩
 ·cases h;exact⟨.int _,by decide⟩
 ·cases h;exact⟨.str _,by decide⟩
 ·split at h
  ·cases h;exact⟨.lst (by assumption),by decide⟩
  ·cases h;exact⟨.tup (by assumption),by decide⟩
  ·cases h;exact⟨.dK (by assumption),by decide⟩
  ·cases h;exact⟨.dT (by assumption),by decide⟩
  ·cases h
 ·cases h
def a7S:List V->Hp->VK->Prop:=fun xs H Q=>match xs with
 | [x,.ty c]=>∃t,a4V x H=some t/\c∈b2F/\Q (.bl (c1U t c)) H
 | _=>False
theorem c4E:a0Y X (.builtin "isinstance") a7S:=fun pins s σ H xs us Q I r h=>by
 unfold a7S at h;split at h
 ·obtain⟨t,e,hc,q⟩:=h
  obtain⟨u,u2,rfl,ru,ru2⟩:=b8U r;cases ru2;obtain⟨ty,ht⟩:=d3k (K:=X.K) e;exact c4r I ru ty (c7a X.K t ht _ hc) fun tk=>⟨.bl _,H,I.tok _,rfl,q⟩
 ·exact h.elim
def c3N:V->V->Hp->VK->Prop:=fun x y H Q=>match x,y with
 | .ref p,.int i=>match H p with
  | some (.lst xs)=>0<=i/\∃v,xs[i.toNat]? = some v/\Q v H
  | _=>False
 | _,_=>False
theorem d4a:d2J X c3N:=fun pins s σ H o i ov iv Q I r1 r2 h=>by
 unfold c3N at h;split at h
 ·split at h
  ·obtain⟨h0,v,e,q⟩:=h
   cases r1;obtain⟨t,rfl⟩:=r2;obtain⟨its,r,pl,hz⟩:=I.list (SqL.of (by assumption));obtain⟨u,eu,ru⟩:=r.get e;have hl:=(k8.mp e).1;have hn:=b0j;exact wpAny_getItem_list pl.isList h0 (by omega) (by simpa using eu) ⟨v,H,I,ru,q⟩
  ·exact h.elim
 ·exact h.elim
def b4H:R2:=fun x y H Q=>y=.non/\Q (.bl (!decide (x=.non))) H
theorem c3T:OpR X (A3 .IsNot) b4H:=c9e
structure E3(P:D8)(w:World)(K:Fg)(mg:Str->Option Value)(base:Heap)(k:Nat)(x:Str)(ps:List Str)(sp:Sp):Prop where
 ex:∃f fd,J1 P w K mg base CX0 k f fd ps sp/\mg x=some (.ref f)/\a0J K (.ref f)=true/\a6X K fd ps []
theorem d1A{k:Nat}{x:Str}{e:Expr}{es:List Expr}{t:TA}{p:Pos}(C:E3 X.prog X.w X.K X.mg X.base k x ps sp)(hr:X1 j X.A)(hk:k<=j)(hg:Gl X x)(ha:PA X (e::es) t)
  (hdb:(x == ("__debug__" : Str))=false:=by decide) (he:l6 (e::es) X.env=(false,eval e X.env)::l6 es X.env:=by rfl) (hpl:(a1x pos (l6 es X.env)).any (·.1)=false:=by rfl) :
  PE X (.Call (.Name x p) (e::es) [] pos) (u9 sp [] E0 t):=by
 obtain⟨f,fd,F,hm,hkp,hb⟩:=C.ex;exact c8Q F (hr.mono hk) hg hm hkp hb .nil c2D ha hdb he hpl
theorem c4B{P:D8}{K:Fg}{mg:Str->Option Value}{base:Heap}{k:Nat}{x q:Str}{st:Stmt}{f:Addr}{fd:a2b}(F:Fun K x q st f fd)(O:J1 P w K mg base CX0 k f fd ps sp)
  (hm:mg x=some (.ref f)) (hb:a6X K fd ps []):E3 P w K mg base k x ps sp:=⟨f,fd,O,hm,F.kp,hb⟩
def a7P:List V->Hp->VK->Prop:=fun xs H Q=>match xs with
 | [.ref p]=>match H p with
  | some (.lst ys)=>∀l,H l=none->Q (.ref l) (upd H l (.lst ys))
  | some (.tup ys)=>∀l,H l=none->Q (.ref l) (upd H l (.lst ys))
  | _=>False
 | _=>False
theorem c2d:a0Y X (.type "list") a7P:=b8f.imp fun xs H Q h=>by
 unfold a7P at h;split at h
 ·split at h
  ·exact⟨_,_,rfl,.inl (SqL.of (by assumption)),h⟩
  ·exact⟨_,_,rfl,.inr (SqT.of (by assumption)),h⟩
  ·exact h.elim
 ·exact h.elim
theorem a4F:∀ {kvs:List (Key×V)} {k:Key} {x:V},(kvs.map (·.1)).Nodup->(k,x)∈kvs->a6n kvs k=some x
 | [],_,_,_,h=>by cases h
 | (k0,x0)::r,k,x,nd,h=>by
  have nd':k0∉r.map (·.1)/\(r.map (·.1)).Nodup:=a1k.mp nd;unfold a6n;rw[a0x];by_cases e:k0=k
  ·rw[show decide (((k0,x0):Key×V).1=k)=true from d6x e]
   rcases u6.mp h with z | z
   ·cases z;rfl
   ·exact absurd (A8.mpr ⟨_,z,e.symm⟩) nd'.1
  ·rw[show decide (((k0,x0):Key×V).1=k)=false from d6w e]
   rcases u6.mp h with z | z
   ·cases z;exact absurd rfl e
   ·exact a4F nd'.2 z
theorem c9A{A:T3}{kb:List (Key×Value)}{kvs:List (Key×V)}(r2:KV kvs kb)(nd:(kvs.map (·.1)).Nodup)(fl:kvs.all (fun p=>O8 p.2)=true) :
  ∀ {l:List (Key×V)} {la:List (Key×Value)},KV l la->(∀p∈l,p∈kvs)->PySem.W.KeqHits A s kb la true:=by
 intro l la r;unfold KV at r;induction r with
 | nil=>intro _;exact .nil
 | @cons p q l1 l2 h hr ih=>
  intro hm;obtain⟨k,x⟩:=p;obtain⟨k',v⟩:=q;obtain⟨e,rv⟩:=h;have e:k=k':=e;subst e;have mem:=hm (k,x) J8;have rel:=r2.val k;rw[a4F nd mem]at rel;obtain⟨y,hy,ry⟩:=rel.some_of;have fx:O8 x=true:=L3.mp fl _ mem;have eq:SeqAt.EqAt A s v y (eqV x x):=b7Z rv ry fx fx
  have ex:eqV x x=true:=by
   cases x with
   | non=>rfl
   | bl b=>simp[eqV]
   | int i=>simp[eqV]
   | str s=>simp[eqV]
   | byt b=>cases fx
   | flt b=>cases fx
   | ref a=>cases fx
   | ty n=>cases fx
  rw[ex]at eq;exact PySem.W.KeqHits.hit (e:=true) (b:=true) hy eq (ih fun p hp=>hm p (E9 _ hp))
end
def Its(x:Str):It:=⟨fun i _=>i<x.length,fun i H v H'=>H'=H/\∃c,x.cps[i]? = some c/\v=.str ⟨#[c]⟩,fun i _=>x.length<=i⟩
theorem c5B{P:D8}{K:Fg}{tg:Expr}(x:Str)(t:Tok)(it:Addr):b8o P w K tg (Its x) [it] it (fun i h=>h.IsStrIter it (a6m x) x t i) where
 mem:=by simp
 obj:=fun i h st b hb=>by
  have e:b=it:=by simpa using hb
  subst e;obtain⟨o,e,c,d⟩:=st;exact⟨o,e,fun v z=>by rw[d]at z;cases z⟩
 keep:=fun i h h' st k=>let⟨o,ho,r⟩:=st; ⟨o,k it (by simp) o ho,r⟩
 item:=by
  intro X hP hw hK hc i pins s σ H E I hf st hg;subst hP hw hK;have hi:i<x.cps.size:=hg;obtain⟨f0,f1,f2,f3,f4,f5⟩:=hf it (by simp);have hx:x.cps[i]? = some x.cps[i]:=by simp[hi]
  have fin:∀h',h'.IsStrIter it (a6m x) x t (i+1)->Heap.SameBut it s.heap h'->∃u,some (Value.str ⟨#[x.cps[i]]⟩ s.toks)=some u /\
    wpAny (model X.prog X.w) X.A (a8a tg (.ref it) u) (fun _ s2=>∃v H',Inv X pins σ H' s2/\K8 v u/\(Its x).yld i H v H'/\s2.heap.IsStrIter it (a6m x) x t (i+1)/\∀b∈[it],H' b=none) E { s with heap:=h',toks:=s.toks+1 }:=by
   intro h' st' sb;have I1:Inv X pins σ H { s with heap:=h',toks:=s.toks+1 }:=I.turned (t':=s.toks+1) (fun b o hb e=>(sb.2 b hb).trans e) f0 f1 f3 f4 f5;obtain⟨o,e,c,d⟩:=id st';refine⟨_,rfl,c2J (s:={ s with heap:=h',toks:=s.toks+1 }) e c d ?_ ⟨.str ⟨#[x.cps[i]]⟩,H,I1,⟨_,rfl⟩,⟨rfl,_,hx,rfl⟩,st',fun b hb=>(hf b hb).1⟩⟩;unfold a6m;split <;> decide
  unfold a6m at st fin ⊢;split at st
  ·rename_i ha
   simp only[ha]at fin ⊢;exact wpAny_pyNext_ascii_item st hx fun h' st' sb=>fin h' st' sb
  ·rename_i ha
   simp only[ha]at fin ⊢;exact wpAny_pyNext_wide_item st hx fun h' st' sb=>fin h' st' sb
 done:=by
  intro X hP hw hK hc i pins s σ H E I hf st hg;subst hP hw hK;have hi:x.cps.size<=i:=hg;obtain⟨f0,f1,f2,f3,f4,f5⟩:=hf it (by simp);have hx:x.cps[i]? = none:=by simp[hi]
  unfold a6m at st;split at st
  ·exact wpAny_pyNext_ascii_end (I.ok.hd hc) st hx fun h' eb=>⟨rfl,I.turned (t':=s.toks) (fun b o hb e=>eb b o hb e) f0 f1 f3 f4 f5⟩
  ·exact wpAny_pyNext_wide_end (I.ok.hd hc) st hx fun h' eb=>⟨rfl,I.turned (t':=s.toks) (fun b o hb e=>eb b o hb e) f0 f1 f3 f4 f5⟩
 self:=fun _ _ _ _ _ st h=>by
  unfold a6m at st;split at st
  ·exact wpAny_pyIter_striter_ascii st h
  ·exact wpAny_pyIter_striter_wide st h
def c9z(tl:TE):TI:=fun σ H R=>tl σ H fun v H1=>∃x,v=.str x/\R (Its x) H1
section
variable {tg:Expr}
theorem d1v{l:Expr}{tl:TE}(hl:PE X l tl):PI X tg l (c9z tl):=by
 intro pins s σ H R I h;refine thn (hl pins s σ H _ I h) fun v s1 ⟨y,H1,I1,r1,x,e,q1⟩=>?_
 subst e;obtain⟨t,rfl⟩:=r1;refine wpAny_pyIter_strU ?_;have k:∀b u,s1.heap.get? b=some u->(s1.heap.push { cls:=.type (a6m x),data:=.fields #[.str x t,.int 0 0] }).get? b=some u:=fun b u q=>g8 _ q
 refine⟨s1.heap.objs.size,[s1.heap.objs.size],_,Its x,H1,rfl,I1.kept (t':=s1.toks) k,c5B x t _,⟨_,A4 _ rfl,rfl,rfl⟩,fun b hb=>?_,q1⟩;have e:b=s1.heap.objs.size:=by simpa using hb
 subst e;exact I1.fpOk (j9 _) I1.fresh
def a0X:List V->Option (List Bool)
 | []=>some []
 | .bl b::r=>(a0X r).map (b :: ·)
 | _=>none
theorem b2L:∀ {xs:List V} {bs:List Bool} {i:Nat} {x:V},a0X xs=some bs->xs[i]? = some x->∃b,bs[i]? = some b/\x=.bl b
 | [],_,_,_,_,h=>by simp at h
 | y::r,bs,i,x,e,h=>by
  cases y with
  | bl b=>
   cases e2:a0X r with
   | none=>simp[a0X,e2]at e
   | some bs2=>
    simp[a0X,e2]at e;subst e;cases i with
    | zero=>simp at h;exact⟨b,rfl,h.symm⟩
    | succ i=>
     obtain⟨b',h1,h2⟩:=b2L (i:=i) e2 (by simpa using h);exact⟨b',by simpa using h1,h2⟩
  | _=>simp[a0X]at e
theorem b2K:∀ {xs:List V} {bs:List Bool},a0X xs=some bs->xs.length=bs.length
 | [],_,e=>by cases e;rfl
 | y::r,bs,e=>by
  cases y with
  | bl b=>
   cases e2:a0X r with
   | none=>simp[a0X,e2]at e
   | some bs2=>
    simp[a0X,e2]at e;subst e;simp[b2K e2]
  | _=>simp[a0X]at e
theorem c4M(bs:List Bool):((C1 bs.length).all fun i=>(bs[i]?).getD true)=bs.all id:=by
 rw[V1,L3,L3];constructor
 ·intro h b hb
  obtain⟨i,hi,rfl⟩:=List.mem_iff_getElem.mp hb;have:=h i (by simpa using hi);simpa[hi]using this
 ·intro h i hi
  have hl:i<bs.length:=by simpa using hi
  have:=h bs[i] (J7 _);simpa[hl]using this
def b2q:List V->Hp->VK->Prop:=fun vs H Q=>match vs with
 | [.ref l]=>match H l with
  | some (.lst xs)=>∃bs,a0X xs=some bs/\Q (.bl (bs.all id)) H
  | _=>False
 | _=>False
theorem c4G(hc:X.calm=true):a0Y X (.builtin "all") b2q:=fun pins s σ H xs us Q I r h=>by
 unfold b2q at h;split at h
 ·split at h
  ·rename_i l _ ys hl
   obtain⟨bs,e,q⟩:=h;obtain⟨u,rfl,ru⟩:=a8f r;cases ru;obtain⟨its,rv,pl,hz⟩:=I.list (SqL.of hl);have hlt:l<s.heap.objs.size:=by obtain⟨_,e,_⟩:=pl.isList;exact o0 e
   have hlen:=rv.length;have hbl:=b2K e;refine call_all_walk (a6l pl.isList ?_)
   refine⟨s.heap.objs.size,[s.heap.objs.size,l],[s.heap.objs.size],its.toArray.size,_,_,fun i=>(bs[i]?).getD true,rfl,Walks.list (A:=X.A.in1) (I.ok.hd hc) _ l (A0 hlt) its.toArray,
    ⟨⟨_,A4 _ rfl,rfl,rfl⟩,pl.isList.push _⟩,fun i v s' Q' E' hP hQ=>?_,fun h' tk hk=>?_⟩
   ·have hP:its[i]? = some v:=by simpa using hP
    have hi:i<ys.length:=by rw[hlen];exact(k8.mp hP).1
    have ey:ys[i]? = some ys[i]:=by simp[hi]
    obtain⟨b,eb,ez⟩:=b2L e ey;obtain⟨u,eu,ru⟩:=rv.get ey;rw[hP]at eu;cases eu;rw[ez]at ru;cases ru;simp only[eb,a4U]at hQ;exact U3 hQ
   ·have e2:((C1 its.toArray.size).all fun i=>(bs[i]?).getD true)=bs.all id:=by
     rw[o9,<-hlen,hbl];exact c4M bs
    rw[e2];exact⟨.bl _,H,I.kept (t':=tk) fun b x e=>hk b x (fun hm=>by rw[v6.mp hm]at e;exact P7 _ (o0 e)) (g8 _ e),rfl,q⟩
  ·exact h.elim
 ·exact h.elim
end
section
theorem Inv.turnedL{h':Heap}{t':Nat}(I:Inv X pins σ H s)(k:∀b o,b∉fp->s.heap.get? b=some o->h'.get? b=some o)(hf:∀b∈fp,a9l X pins H b) :
  Inv X pins σ H { s with heap:=h',toks:=t' }:=by
 have nit:∀b u,H b=some u->b∉fp:=fun b u e z=>by rw[(hf b z).1]at e;cases e
 refine I.step (g':=s.gens) (d':=s.drawn) (ch:=fp) (fun b hb=>?_) (fun b o _ _ hc e _=>k b o hc e) (fun b o _ _ hc e _=>⟨o.slots,k b o hc e⟩) (fun _ _ _ _ n=>n)
  (fun b o hc e=>⟨o,k b o hc e⟩) (fun _ _ e=>e) (fun _ _ _ e=>e) (fun b ps e=>⟨#[],by rw[e];simp⟩) (fun m hm=>?_) (fun b u e=>?_) I.bare
 ·obtain⟨_,f1,_,f3,f4,f5⟩:=hf b hb
  exact⟨f3,f1,f4,f5⟩
 ·obtain⟨o,es,ep,ho,r⟩:=hm
  exact⟨o,es,ep,k _ o (fun z=>(hf _ z).2.1 rfl) ho,r⟩
 ·refine(I.hok b u e).stay (fun c v hc q=>k c v ?_ q) (fun _ q=>q) fun _ _ q=>q
  rcases hc with z | z
  ·rw[z];exact nit b u e
  ·exact nit c _ z
theorem Inv.pairL{h':Heap}{t':Nat}{x y:V}{v:Value}(I:Inv X pins σ H s)(hf:∀b∈fp,a9l X pins H b)(fl:∀b∈fp,b≠s.heap.objs.size)
  (rx:K8 x u) (ry:K8 y v) (ht:h'.get? s.heap.objs.size=some { cls:=.type "tuple",data:=.seq #[u,v] }) (k:∀b o,b∉fp->s.heap.get? b=some o->h'.get? b=some o) :
  Inv X pins σ (upd H s.heap.objs.size (.tup [x,y])) { s with heap:=h',toks:=t' }:=by
 have I1:Inv X pins σ (upd H s.heap.objs.size (.tup [x,y])) { s with heap:=s.heap.push { cls:=.type "tuple",data:=.seq #[u,v] },toks:=s.toks }:=
  I.laid (fun b u e=>g8 _ e) (j9 _) ⟨by show 2<=u7;decide,[u,v],.cons rx (.cons ry .nil),⟨_,A4 _ rfl,rfl,_,rfl⟩⟩
 refine Inv.turnedL (s:={ s with heap:=s.heap.push { cls:=.type "tuple",data:=.seq #[u,v] },toks:=s.toks }) (fp:=fp) I1 (fun b o hb e=>?_) fun b hb=>⟨by rw[i8 (fl b hb)];exact(hf b hb).1,(hf b hb).2⟩
 by_cases hz:b=s.heap.objs.size
 ·subst hz
  have e2:=A4 s.heap (o:={ cls:=.type "tuple",data:=.seq #[u,v] }) rfl;rw[show(s.heap.push { cls:=.type "tuple",data:=.seq #[u,v] }).get? s.heap.objs.size=some o from e]at e2;cases e2;exact ht
 ·refine k b o hb ?_
  have e:(s.heap.push { cls:=.type "tuple",data:=.seq #[u,v] }).get? b=some o:=e
  rwa [Heap.get?_push_ne _ _ _ hz]at e
def Ite(K:Fg)(a:Addr):It:=
 ⟨fun i H=>∃xs x,SqL K H a xs/\xs[i]? = some x,fun i H v H'=>∃p x,H p=none/\v=.ref p/\H'=upd H p (.tup [.int i,x])/\∀xs,SqL K H a xs->xs[i]? = some x,fun i H=>∃xs,SqL K H a xs/\xs.length<=i⟩
theorem c3u{P:D8}{K:Fg}{x1}(a e it:Addr)(hne:e≠it):b8o P w K (.Tuple elts x1 tp) (Ite K a) [e,it] e (fun i h=>(∃old,IsEnum h e it i old)/\h.IsListIter it a i) where
 mem:=by simp
 obj:=fun i h st b hb=>by
  obtain⟨⟨old,he⟩,o,e1,c,d⟩:=st;rcases u6.mp hb with rfl | hb
  ·exact⟨_,he,fun v z=>by
    have z':Data.fields _=Data.cell v:=z;cases z'⟩
  ·have:b=it:=by simpa using hb
   subst this;exact⟨o,e1,fun v z=>by rw[d]at z;cases z⟩
 keep:=fun i h h' st k=>by
  obtain⟨⟨old,he⟩,hi⟩:=st;exact⟨⟨old,k e (by simp) _ he⟩,hi.at fun o q=>k it (by simp) o q⟩
 item:=by
  intro X hP hw hK hc i pins s σ H E I hf st hg;subst hP hw hK;obtain⟨⟨old,he⟩,hit⟩:=st;obtain⟨xs,x,hq,hx⟩:=hg;obtain⟨its,rv,p,hz⟩:=I.list hq;obtain⟨u,hu,ru⟩:=rv.get hx;refine wpAny_pyNext_enum_item he hit p.isList (x:=u) (by simpa using hu) hne fun h1 ho hit1 hT hsz hk=>?_
  refine⟨_,rfl,?_⟩;refine wpAny_letOwnedTupleGo_enum (s:={ s with heap:=h1,toks:=s.toks+1 }) ho fun h2 he2 hs2=>?_
  have hs2:Heap.SameBut e h1 h2:=hs2;have le:e≠s.heap.objs.size:=A0 (o0 he);have li:it≠s.heap.objs.size:=by obtain⟨_,q,_⟩:=hit;exact A0 (o0 q)
  have fl:∀b∈[e,it],b≠s.heap.objs.size:=fun b hb=>by
   rcases u6.mp hb with rfl | hb
   ·exact le
   ·have:b=it:=by simpa using hb
    subst this;exact li
  have I2:=I.pairL (h':=h2) (t':=s.toks+1) (x:=.int i) (y:=x) (u:=.int i s.toks) (v:=u) hf fl ⟨_,rfl⟩ ru ((hs2.2 _ (Ne.symm le)).trans hT) fun b o hb q=>by
   have n1:b≠e:=fun z=>hb (by simp[z])
   have n2:b≠it:=fun z=>hb (by simp[z])
   exact(hs2.2 b n1).trans (hk b o n1 n2 q)
  refine⟨.ref s.heap.objs.size,_,I2,rfl,⟨_,x,I.fresh,rfl,rfl,fun ys hy=>by rw[I.list_inj hy hq];exact hx⟩,⟨⟨u,by simpa using he2⟩,hit1.at fun o q=>(hs2.2 it (Ne.symm hne)).trans q⟩,fun b hb=>?_⟩;rw[i8 (fl b hb)];exact(hf b hb).1
 done:=by
  intro X hP hw hK hc i pins s σ H E I hf st hg;subst hP hw hK;obtain⟨⟨old,he⟩,hit⟩:=st;obtain⟨xs,hq,hx⟩:=hg;obtain⟨its,rv,p,hz⟩:=I.list hq;obtain⟨f0,f1,f2,f3,f4,f5⟩:=hf it (by simp);have hl:=rv.length;exact wpAny_pyNext_enum_end (I.ok.hd hc) he hit p.isList (by simp;omega) fun h' eb=>⟨rfl,I.turned (t':=s.toks) (fun b o hb e=>eb b o hb e) f0 f1 f3 f4 f5⟩
 self:=fun _ _ _ _ _ st h=>by
  obtain⟨⟨old,he⟩,_⟩:=st;exact wpAny_pyIter_enum he h
def a8y(K:Fg)(ta:TA):TI:=fun σ H R=>ta σ H fun vs H1=>∃a,vs=[.ref a]/\(∃xs,SqL K H1 a xs)/\R (Ite K a) H1
theorem c8H{x1}{a:Expr}{ta:TA}(hg:Gl X "enumerate")(hm:X.mg "enumerate" = none)(ha:PA X [a] ta)(hs:l6 [a] X.env=[(false,eval a X.env)]:=by rfl) :
  PI X (.Tuple elts x1 tp) (.Call (.Name "enumerate" p) [a] [] pos) (a8y X.K ta):=by
 intro pins s σ H R I h;refine Call_ (b0k I hg hm boot_enumerate (a0c (thn (ha pos pins s σ H _ I h) fun us s1 ⟨vs,H1,I1,r1,q1⟩=>?_) hs rfl));obtain⟨b,e,⟨xs,hq⟩,q⟩:=q1;subst e;cases r1 with
 | cons r rr=>
  cases rr;cases r;obtain⟨its,rv,pl,hz⟩:=I1.list hq;refine call_enumerate_list pl.isList fun h' he hit hsz hk=>?_
  have I2:Inv X pins σ H1 { s1 with heap:=h' }:=I1.kept (t':=s1.toks) hk;refine wpAny_pyIter_enum he ⟨_,[s1.heap.objs.size+1,s1.heap.objs.size],_,_,H1,rfl,I2,c3u b (s1.heap.objs.size+1) s1.heap.objs.size (Nat.succ_ne_self _),⟨⟨_,he⟩,hit⟩,fun c hc=>?_,q⟩;rcases u6.mp hc with rfl | hc
  ·exact I1.fpOk (by omega) (I1.hok.fresh (by omega))
  ·have:c=s1.heap.objs.size:=by simpa using hc
   subst this;exact I1.fpOk (j9 _) (I1.hok.fresh (j9 _))
def Itz(K:Fg)(a b:Addr):It:=
 ⟨fun i H=>∃xs ys x y,SqL K H a xs/\SqL K H b ys/\xs[i]? = some x/\ys[i]? = some y,fun i H v H'=>∃p x y,H p=none/\v=.ref p/\H'=upd H p (.tup [x,y])/\(∀xs,SqL K H a xs->xs[i]? = some x)/\∀ys,SqL K H b ys->ys[i]? = some y,
  fun i H=>∃xs ys,SqL K H a xs/\SqL K H b ys/\(xs.length<=i\/ys.length<=i)⟩
theorem a0i{h:Heap}{a b:Addr}{o o':Obj}(h1:h.get? a=some o)(h2:h.get? b=some o')(hc:o.cls≠o'.cls):a≠b:=fun z=>by
 subst z;rw[h1]at h2;cases h2;exact hc rfl
theorem c5A{P:D8}{K:Fg}{x1}(a b z TI TO i1 i2:Addr)(n1:TI≠z)(n2:TO≠z)(n3:i1≠z)(n4:i2≠z)(n5:TI≠TO)(n6:TI≠i1)(n7:TI≠i2)(n8:TO≠i1)(n9:TO≠i2)(n10:i1≠i2) :
  b8o P w K (.Tuple elts x1 tp) (Itz K a b) [z,TI,TO,i1,i2] z (fun i h=>IsZip h z TI TO .none/\IsPair h TI (.ref i1) (.ref i2)/\(∃u v,IsPair h TO u v)/\h.IsListIter i1 a i/\h.IsListIter i2 b i) where
 mem:=by simp
 obj:=fun i h st c hb=>by
  obtain⟨hz,hTI,⟨u,v,hTO⟩,⟨o1,e1,c1,d1⟩,⟨o2,e2,c2,d2⟩⟩:=st;simp only[u6,P5,or_false]at hb;rcases hb with rfl | rfl | rfl | rfl | rfl
  ·exact⟨_,hz,fun v z=>by
    have z':Data.fields _=Data.cell v:=z;cases z'⟩
  ·exact⟨_,hTI,fun v z=>by
    have z':Data.seq _ _=Data.cell v:=z;cases z'⟩
  ·exact⟨_,hTO,fun v z=>by
    have z':Data.seq _ _=Data.cell v:=z;cases z'⟩
  ·exact⟨o1,e1,fun v z=>by rw[d1]at z;cases z⟩
  ·exact⟨o2,e2,fun v z=>by rw[d2]at z;cases z⟩
 keep:=fun i h h' st k=>by
  obtain⟨hz,hTI,⟨u,v,hTO⟩,h1,h2⟩:=st;exact⟨k z (by simp) _ hz,k TI (by simp) _ hTI,⟨u,v,k TO (by simp) _ hTO⟩,h1.at fun o q=>k i1 (by simp) o q,h2.at fun o q=>k i2 (by simp) o q⟩
 item:=by
  intro X hP hw hK hc i pins s σ H E I hf st hg;subst hP hw hK;obtain⟨hz,hTI,⟨u,v,hTO⟩,h1,h2⟩:=st;obtain⟨xs,ys,x,y,hqa,hqb,hx,hy⟩:=hg;obtain⟨ia,ra,pa,za⟩:=I.list hqa;obtain⟨ib,rb,pb,zb⟩:=I.list hqb;obtain⟨ux,hux,rux⟩:=ra.get hx;obtain⟨uy,huy,ruy⟩:=rb.get hy;obtain⟨oa,la,ca,_⟩:=id pa.isList;obtain⟨ob,lb,cb,_⟩:=id pb.isList;obtain⟨o1,e1,c1,_⟩:=id h1;obtain⟨o2,e2,c2,_⟩:=id h2
  have D:ZipApart z TI TO i1 i2 a b:=⟨n1,n2,n3,n4,n5,n6,n7,n8,n9,n10,
   a0i la hz (by rw[ca];intro z;injection z with z;revert z;decide),a0i la hTO (by rw[ca];intro z;injection z with z;revert z;decide),a0i la e1 (by rw[ca,c1];intro z;injection z with z;revert z;decide),a0i la e2 (by rw[ca,c2];intro z;injection z with z;revert z;decide),
   a0i lb hz (by rw[cb];intro z;injection z with z;revert z;decide),a0i lb hTO (by rw[cb];intro z;injection z with z;revert z;decide),a0i lb e1 (by rw[cb,c1];intro z;injection z with z;revert z;decide),a0i lb e2 (by rw[cb,c2];intro z;injection z with z;revert z;decide)⟩
  refine wpAny_pyNext_zip_item D hz hTI hTO h1 h2 pa.isList pb.isList (x:=ux) (y:=uy) (by simpa using hux) (by simpa using huy) fun h3 a1 a2 a3 a4 a5 a6 hk=>?_
  refine⟨_,rfl,?_⟩;refine wpAny_letOwnedTupleGo_zip (s:={ s with heap:=h3 }) a1 fun h4 hz4 hs4=>?_
  have hs4:Heap.SameBut z h3 h4:=hs4;have lz:z≠s.heap.objs.size:=A0 (o0 hz)
  have fl:∀c∈[z,TI,TO,i1,i2],c≠s.heap.objs.size:=fun c hc=>by
   simp only[u6,P5,or_false]at hc;rcases hc with rfl | rfl | rfl | rfl | rfl
   ·exact lz
   ·exact A0 (o0 hTI)
   ·exact A0 (o0 hTO)
   ·exact A0 (o0 e1)
   ·exact A0 (o0 e2)
  have I2:=I.pairL (h':=h4) (t':=s.toks) (x:=x) (y:=y) (u:=ux) (v:=uy) hf fl rux ruy ((hs4.2 _ (Ne.symm lz)).trans a5) fun c o hc q=>by
   have m1:c≠z:=fun z=>hc (by simp[z])
   have m3:c≠TO:=fun z=>hc (by simp[z])
   have m4:c≠i1:=fun z=>hc (by simp[z])
   have m5:c≠i2:=fun z=>hc (by simp[z])
   exact(hs4.2 c m1).trans (hk c o m1 m3 m4 m5 q)
  refine⟨.ref s.heap.objs.size,_,I2,rfl,⟨_,x,y,I.fresh,rfl,rfl,fun zs hy=>by rw[I.list_inj hy hqa];exact hx,fun zs hy'=>by rw[I.list_inj hy' hqb];exact hy⟩,
   ⟨hz4,hs4.extBut _ _ n1 (hk _ _ n1 n5 n6 n7 hTI),⟨_,_,hs4.extBut _ _ n2 a2⟩,a3.extBut hs4.extBut n3,a4.extBut hs4.extBut n4⟩,fun c hc=>?_⟩
  rw[i8 (fl c hc)];exact(hf c hc).1
 done:=by
  intro X hP hw hK hc i pins s σ H E I hf st hg;subst hP hw hK;obtain⟨hz,hTI,⟨u,v,hTO⟩,h1,h2⟩:=st;obtain⟨xs,ys,hqa,hqb,hx⟩:=hg;obtain⟨ia,ra,pa,za⟩:=I.list hqa;obtain⟨ib,rb,pb,zb⟩:=I.list hqb;obtain⟨oa,la,ca,_⟩:=id pa.isList;obtain⟨ob,lb,cb,_⟩:=id pb.isList;obtain⟨o1,e1,c1,_⟩:=id h1;obtain⟨o2,e2,c2,_⟩:=id h2
  have D:ZipApart z TI TO i1 i2 a b:=⟨n1,n2,n3,n4,n5,n6,n7,n8,n9,n10,
   a0i la hz (by rw[ca];intro z;injection z with z;revert z;decide),a0i la hTO (by rw[ca];intro z;injection z with z;revert z;decide),a0i la e1 (by rw[ca,c1];intro z;injection z with z;revert z;decide),a0i la e2 (by rw[ca,c2];intro z;injection z with z;revert z;decide),
   a0i lb hz (by rw[cb];intro z;injection z with z;revert z;decide),a0i lb hTO (by rw[cb];intro z;injection z with z;revert z;decide),a0i lb e1 (by rw[cb,c1];intro z;injection z with z;revert z;decide),a0i lb e2 (by rw[cb,c2];intro z;injection z with z;revert z;decide)⟩
  have la':=ra.length;have lb':=rb.length
  have hend:ia.toArray[i]? = none\/ib.toArray[i]? = none:=by
   rcases hx with hx | hx
   ·left;simp;omega
   ·right;simp;omega
  refine wpAny_pyNext_zip_end (I.ok.hd hc) D hz hTI hTO h1 h2 pa.isList pb.isList hend fun h' hk=>⟨rfl,?_⟩
  refine I.turnedL (t':=s.toks) (fp:=[z,TI,TO,i1,i2]) (fun c o hc q=>?_) hf;exact hk c o (fun z=>hc (by simp[z])) (fun z=>hc (by simp[z])) (fun z=>hc (by simp[z])) (fun z=>hc (by simp[z])) q
 self:=fun _ _ _ _ _ st h=>wpAny_pyIter_zip st.1 h
def c9y(K:Fg)(ta:TA):TI:=fun σ H R=>ta σ H fun vs H1=>∃a b,vs=[.ref a,.ref b]/\(∃xs,SqL K H1 a xs)/\(∃xs,SqL K H1 b xs)/\R (Itz K a b) H1
theorem d1u{x1}{a b:Expr}{ta:TA}(hg:Gl X "zip")(hm:X.mg "zip" = none)(ha:PA X [a,b] ta)(hs:l6 [a,b] X.env=[(false,eval a X.env),(false,eval b X.env)]:=by rfl)(hs2:l6 [b] X.env=[(false,eval b X.env)]:=by rfl) :
  PI X (.Tuple elts x1 tp) (.Call (.Name "zip" p) [a,b] [] pos) (c9y X.K ta):=by
 intro pins s σ H R I h;refine Call_ (b0k I hg hm boot_zip (a0c (thn (ha pos pins s σ H _ I h) fun us s1 ⟨vs,H1,I1,r1,q1⟩=>?_) (by rw[hs,hs2]) (by rw[hs2];rfl)));obtain⟨c,d,e,⟨xs,hq⟩,⟨ys,hq'⟩,q⟩:=q1;subst e;cases r1 with
 | cons r rr=>
  cases rr with
  | cons r' rr=>
   cases rr;cases r;cases r';obtain⟨ia,ra,pa,za⟩:=I1.list hq;obtain⟨ib,rb,pb,zb⟩:=I1.list hq';refine call_zip_2 pa.isList pb.isList fun h' hz hTI hTO h1 h2 hsz hk=>?_
   have I2:Inv X pins σ H1 { s1 with heap:=h' }:=I1.kept (t':=s1.toks) hk;have N:∀n:Nat,n+2≠n+4/\n+3≠n+4/\n≠n+4/\n+1≠n+4/\n+2≠n+3/\n+2≠n/\n+2≠n+1/\n+3≠n/\n+3≠n+1/\n≠n+1:=fun n=>by omega
   obtain⟨m1,m2,m3,m4,m5,m6,m7,m8,m9,m10⟩:=N s1.heap.objs.size
   refine wpAny_pyIter_zip hz ⟨_,[s1.heap.objs.size+4,s1.heap.objs.size+2,s1.heap.objs.size+3,s1.heap.objs.size,s1.heap.objs.size+1],_,_,H1,rfl,I2,
    c5A c d (s1.heap.objs.size+4) (s1.heap.objs.size+2) (s1.heap.objs.size+3) s1.heap.objs.size (s1.heap.objs.size+1) m1 m2 m3 m4 m5 m6 m7 m8 m9 m10,⟨hz,hTI,⟨_,_,hTO⟩,h1,h2⟩,fun y hy=>?_,q⟩
   have:s1.heap.objs.size<=y:=by
    simp only[u6,P5,or_false]at hy;rcases hy with rfl | rfl | rfl | rfl | rfl
    ·exact a8G _ _
    ·exact a8G _ _
    ·exact a8G _ _
    ·exact j9 _
    ·exact a8G _ _
   exact I1.fpOk this (I1.hok.fresh this)
end
def b7W(x y:Str)(N:List Str):List Str:=N.map fun z=>if z=x then ("." : Str)++x else if z=y then ("." : Str)++y else z
def W9(X:Cx)(scope:Scope)(cl:List (Str×Addr))(C:Addr)(x y:Str)(fp:List Addr)(s3:l7)(H3:Hp):Cx:=
 { X with N:=x::y::b7W x y X.N,s₀:=s3,H₀:=H3,env:=c4V scope cl C X.env,outer:=X.stack,stack:=X.stack,ex:=fp,fn:=fun _=>false,pn:=[],xe:=fun _ _=>False }
structure a4y(N:List Str)(osc sc:Scope)(x y:Str):Prop where
 kind:sc.kind=.function
 cell:∀y∈sc.names,y.2≠.cell
 names:∀y∈sc.names,y.2=.local->sc.names.lookup y.1=some .local
 own:sc.names.lookup x=some .local
 own2:sc.names.lookup y=some .local
 fr:∀y∈sc.names,y.2=.free->osc.names.lookup y.1=some .cell\/osc.names.lookup y.1=some .free
 see:∀z∈b7W x y N,sc.names.lookup z≠some .local
 dot:sc.names.lookup (("." : Str)++x)=none
 dot2:sc.names.lookup (("." : Str)++y)=none
 nd:(x::y::b7W x y N).Nodup
def a8i(K:Fg)(wi:TI)(tt:TT)(te:TE):TE:=fun σ H Q=>wi σ H fun J H1=>∀D,H1 D=none->∃W:Nat->Nat->List V->Hp->Prop,
 (∃m,W 0 m [] (upd H1 D (.lst [])))/\∀i m ys H2,W i m ys H2->H2 D=some (.lst ys) /\
  ((J.stop i H2 /\ Q (.ref D) H2) \/ (J.go i H2 /\ ∀ x H3,J.yld i H2 x H3 -> ∃ a u v,x = .ref a /\ SqT K H3 a [u,v] /\ tt (some u :: some v :: σ) H3 fun ok H4 => if ok = true then
    te (some u::some v::σ) H4 (fun y H5=>H5 D=some (.lst ys)/\ys.length<u7/\∃m',m'<m/\W (i+1) m' (ys++[y]) (upd H5 D (.lst (ys++[y]))))
    else ∃m',m'<m/\W (i+1) m' ys H4))
section
variable {x x2:Str}{px py2 pt:Pos}{kt}
theorem c4z{s3:l7}{h4:Heap}{tk:Nat}(hc:a4y X.N X.env.scope scope x x2)(I:Inv X pins σ H s3)
  (hcl:∀y c,cl.lookup y=some c->X.env.cells.lookup y=some c) (hcl2:∀y,(y,NameKind.free)∈scope.names->(cl.lookup y).isSome=true)
  (fpo:∀b∈fp,a9l X pins H b) (fpl:∀b∈fp,b<s3.heap.objs.size)
  (hn:h4.Ns s3.heap.objs.size (fun _=>none)) (k:∀b o,s3.heap.get? b=some o->h4.get? b=some o) :
  Inv (W9 X scope cl s3.heap.objs.size x x2 fp s3 H) [] (none::none::σ) H { s3 with heap:=h4,toks:=tk }:=by
 have low:∀x y,(W9 X scope cl s3.heap.objs.size x x2 fp s3 H).env.cells.lookup y=cl.lookup y:=fun _ _=>rfl
 have below:∀y c,cl.lookup y=some c->c<s3.heap.objs.size:=fun y c e=>by
  obtain⟨v,q⟩:=I.cell y c (hcl y c e);exact q.lt
 have kinds:∀y,((W9 X scope cl s3.heap.objs.size x x2 fp s3 H).env.kindOf y=some .cell\/(W9 X scope cl s3.heap.objs.size x x2 fp s3 H).env.kindOf y=some .free)->scope.names.lookup y=some .free:=by
  intro y hy;rcases hy with hy | hy
  ·rcases W8 hy with q | ⟨q,_⟩
   ·exact absurd rfl (hc.cell _ (E5 q))
   ·exact q
  ·rcases W8 hy with q | ⟨q,z⟩
   ·exact q
   ·cases z
 refine⟨⟨I.ok.mod,?_,I.ok.glob,I.ok.blt,j9 _,fun y z c h1 h2=>?_,fun y hy=>?_,fun y c h=>?_,I.ok.hd,I.ok.frames,.inl rfl,fun b hb=>⟨?_,fun y c e z=>?_⟩,fun b o e=>I.bs b o e,J4 I.ok.bsz I.sz,fun b o e hb=>?_,fun b hb hf=>?_,I.stack,I.stkFree⟩,
  rfl,I.bare,Un.kept k,⟨_,hn,fun i y v h1 h2 h3=>?_⟩,fun y c e=>?_,I.fresh,fun y c e=>?_,fun p hp=>absurd (show p∈([]:List (Addr×Obj))from hp) (by simp),I.hok.kept k,?_⟩
 ·exact hc.kind
 ·exact I.ok.inj y z c (hcl _ _ h1) (hcl _ _ h2)
 ·have:=hcl2 y (E5 (kinds y hy))
  exact a1o.mp this
 ·cases h
 ·exact A0 (fpl b hb)
 ·exact(fpo b hb).2.2.2.2.1 y c (hcl y c e) z
 ·rcases(fpo b hb).2.2.2.1 with q | q
  ·exact I.ok.noex b o e q
  ·exact absurd (D0 (o0 (I.ok.bs b o e).1) q) (P7 _)
 ·rcases u6.mp (I.stkSub b hf)with e | e
  ·exact(fpo b hb).2.1 e
  ·exact(fpo b hb).2.2.1 e
 ·-- the names
  have h1:(x::x2::b7W x x2 X.N)[i]? = some y:=h1;cases i with
  | zero=>cases h2
  | succ i=>
   cases i with
   | zero=>cases h2
   | succ i=>
   have h1:(b7W x x2 X.N)[i]? = some y:=h1;have h2:σ[i]? = some (some v):=h2;have my:y∈b7W x x2 X.N:=a1p h1;have h3:(b1M scope X.env).names.lookup y=some .local\/(b1M scope X.env).names.lookup y=some .cell\/(b1M scope X.env).names.lookup y=some .free:=h3
   have hf:scope.names.lookup y=some .free:=by
    rcases h3 with q | q
    ·rcases W8 q with q | ⟨_,z⟩
     ·exact absurd q (hc.see y my)
     ·cases z
    ·exact kinds y q
   have hy:X.N[i]? = some y:=by
    unfold b7W at h1;rw[b6]at h1;cases e:X.N[i]? with
    | none=>rw[e]at h1;cases h1
    | some z=>
     rw[e]at h1;by_cases ez:z=x
     ·rw[a5s,if_pos ez]at h1
      have h1:=Option.some.inj h1;subst h1;rw[hc.dot]at hf;cases hf
     ·rw[a5s,if_neg ez]at h1
      by_cases ez2:z=x2
      ·rw[if_pos ez2]at h1
       have h1:=Option.some.inj h1;subst h1;rw[hc.dot2]at hf;cases hf
      ·rw[if_neg ez2]at h1
       exact h1
   obtain⟨m,_,hl⟩:=I.loc;obtain⟨c,hcc⟩:=a1o.mp (hcl2 y (E5 hf))
   have vis:Vis X.env.scope y:=by
    rcases hc.fr _ (E5 hf) rfl with q | q
    ·exact .inr (.inl q)
    ·exact .inr (.inr q)
   obtain⟨u,ru,lk⟩:=hl i y v hy h2 vis;refine⟨u,ru,.inr ⟨?_,c,hcc,?_⟩⟩
   ·rcases h3 with q | q
    ·rcases W8 q with q | ⟨_,z⟩
     ·exact absurd q (hc.see y my)
     ·cases z
    ·exact q
   ·have hce:=hcl y c hcc
    rcases lk with ⟨q,_⟩ | ⟨_,c',e',z⟩
    ·rcases hc.fr _ (E5 hf) rfl with q' | q'
     ·have q:X.env.scope.names.lookup y=some .local:=q
      rw[show X.env.scope.names.lookup y=some NameKind.cell from q']at q;cases q
     ·have q:X.env.scope.names.lookup y=some .local:=q
      rw[show X.env.scope.names.lookup y=some NameKind.free from q']at q;cases q
    ·rw[e']at hce
     cases hce;obtain⟨o,ho,hd⟩:=z;exact⟨o,k _ _ ho,hd⟩
 ·obtain⟨v,o,ho,hd⟩:=I.cell y c (hcl y c e)
  exact⟨v,o,k _ _ ho,hd⟩
 ·exact I.freeC y c (hcl y c e)
 ·show(none::none::σ).length=(x::x2::b7W x x2 X.N).length
  have:=I.len;simp[b7W,this]
theorem b3o{H1:Hp}{s2:l7}{it:Addr}{tn:Nat->Heap->Prop}{J:It}{Q:VK}{E:Value->l7->Prop}
  {RR:Value->Addr->d0a->l7->Prop} (hc:a4y X.N X.env.scope scope x x2) (hcalm:X.calm=true)
  (hcl:∀y c,cl.lookup y=some c->X.env.cells.lookup y=some c) (hcl2:∀y,(y,NameKind.free)∈scope.names->(cl.lookup y).isSome=true)
  (ht:∀C fp s3 H3,PTs (W9 X scope cl C x x2 fp s3 H3) ifs tt) (he:∀C fp s3 H3,PE (W9 X scope cl C x x2 fp s3 H3) elt te)
  (I:Inv X pins σ H1 s2) (T:b8o X.prog X.w X.K (.Tuple [.Name x px,.Name x2 py2] kt pt) J fp it tn) (st:tn 0 s2.heap) (fpo:∀b∈fp,a9l X pins H1 b)
  (h:∀D,H1 D=none->∃W:Nat->Nat->List V->Hp->Prop,
   (∃m,W 0 m [] (upd H1 D (.lst [])))/\∀i m ys H2,W i m ys H2->H2 D=some (.lst ys) /\
   ((J.stop i H2 /\ Q (.ref D) H2) \/ (J.go i H2 /\ ∀ x H3,J.yld i H2 x H3 -> ∃ a u v,x = .ref a /\ SqT X.K H3 a [u,v] /\ tt (some u :: some v :: σ) H3 fun ok H4 => if ok = true then
     te (some u::some v::σ) H4 (fun y H5=>H5 D=some (.lst ys)/\ys.length<u7/\∃m',m'<m/\W (i+1) m' (ys++[y]) (upd H5 D (.lst (ys++[y]))))
     else ∃m',m'<m/\W (i+1) m' ys H4)))
  (hRR:∀D C s' H' m,Inv X pins σ H' s'->s'.heap.Ns C m->H' C=none->C≠X.env.locals->X.s₀.heap.objs.size<=C->(∀y c,X.env.cells.lookup y=some c->c≠C)->(∀p∈X.pn++pins,p.1≠C)->Q (.ref D) H'->RR (.ref D) C (.ok .next) s') :
  wpAny (model X.prog X.w) X.A (newList []) (fun acc s₃=>wpAny (model X.prog X.w) X.A (newFunctionEnv scope X.env.globals cl [] X.env.qual none .none (some X.env)) (fun cenv s₄=>
   a6Z (model X.prog X.w) X.A (.compStart (.ListComp elt [⟨.Tuple [.Name x px,.Name x2 py2] kt pt,iter,ifs,0⟩] scope pos) 0 (.ref it) acc { cenv with scope:=b1M scope X.env }) (RR acc cenv.locals) s₄) E s₃) E s2:=by
 refine a0j (hd:=by size_fits) ?_;have I3:=I.lnew (ys:=[]) (its:=[]) (t':=s2.toks) .nil (by show 0<=u7;exact P8 _);obtain⟨W,⟨m0,w0⟩,turn⟩:=h _ I.fresh;generalize hD:s2.heap.objs.size=D at I3 w0 turn ⊢;generalize hs3:({ s2 with heap:=s2.heap.push { cls:=.type "list",data:=.seq ([]:List Value).toArray } }:l7)=s3;have hs3':({ s2 with heap:=s2.heap.push { cls:=.type "list",data:=.seq ([]:List Value).toArray },toks:=s2.toks }:l7)=s3:=hs3;rw[hs3']at I3;have keep3:∀b o,s2.heap.get? b=some o->s3.heap.get? b=some o:=fun b o e=>by rw[<-hs3];exact g8 _ e
 have fpl:∀b∈fp,b<s3.heap.objs.size:=fun b hb=>by
  obtain⟨o,e,_⟩:=T.obj _ _ st b hb;exact o0 (keep3 b o e)
 have fpD:∀b∈fp,b≠D:=fun b hb z=>by
  obtain⟨o,e,_⟩:=T.obj _ _ st b hb;exact absurd (o0 e) (by rw[z,hD];exact P7 _)
 have fpo3:∀b∈fp,a9l X pins (upd H1 D (.lst [])) b:=fun b hb=>⟨by rw[i8 (fpD b hb)];exact(fpo b hb).1,(fpo b hb).2⟩
 show wpAny _ _ _ _ _ s3;refine d4m hc.cell (by intro y hy;simp at hy) (fun h₁ hns₁ hsb₁=>?_) hc.kind;dsimp only[newEnv]at hns₁ hsb₁ ⊢;have keep4:∀b o,s3.heap.get? b=some o->h₁.get? b=some o:=fun b o e=>hsb₁.extBut b o (A0 (o0 e)) (g8 _ e)
 have I4:=c4z (tk:=s3.toks+([]:List (Str×Value)).length) hc I3 hcl hcl2 fpo3 fpl hns₁ keep4;have st4:tn 0 h₁:=T.keep _ _ _ st fun b hb o e=>keep4 b o (keep3 b o e)
 have loop:∀s₄:l7,s₄={ s3 with heap:=h₁,toks:=s3.toks+([]:List (Str×Value)).length } ->
   a6Z (model X.prog X.w) X.A (.compLoop (.ListComp elt [⟨.Tuple [.Name x px,.Name x2 py2] kt pt,iter,ifs,0⟩] scope pos) 0 (.ref it) (.ref D) (c4V scope cl s3.heap.objs.size X.env)) (RR (.ref D) s3.heap.objs.size) s₄:=by
  rintro s₄ rfl
  have stat:∀ {H':Hp},(∀b∈fp,H' b=none)->∀b∈fp,a9l (W9 X scope cl s3.heap.objs.size x x2 fp s3 (upd H1 D (.lst []))) [] H' b:=fun hn b hb=>
   ⟨hn b hb,A0 (fpl b hb),fun hf=>by
    rcases u6.mp (I3.stkSub b hf)with e | e
    ·exact(fpo b hb).2.1 e
    ·exact(fpo b hb).2.2.1 e,.inl hb,fun y c e=>(fpo b hb).2.2.2.2.1 y c (hcl y c e),fun p hp=>absurd (show p∈([]:List (Addr×Obj))from hp) (by simp)⟩
  refine b6P (env:=c4V scope cl s3.heap.objs.size X.env) (fun n s'=>∃i ys H',Inv (W9 X scope cl s3.heap.objs.size x x2 fp s3 (upd H1 D (.lst []))) [] (none::none::σ) H' s'/\tn i s'.heap/\(∀b∈fp,H' b=none)/\W i n ys H') ?_ m0
   ⟨0,[],_,I4,st4,fun b hb=>(fpo3 b hb).1,w0⟩
  rintro n s5 ⟨i,ys,H5,I5,st5,fr5,w5⟩;obtain⟨hDy,alt⟩:=turn i n ys H5 w5;rcases alt with ⟨stop,q⟩ | ⟨go,step⟩
  ·refine a1i (T.done (W9 X scope cl s3.heap.objs.size x x2 fp s3 (upd H1 D (.lst []))) rfl rfl rfl hcalm i [] s5 _ H5 (fun _ _=>False) I5 (stat fr5) st5 stop) (fun r s6 ⟨hr,I6⟩=>?_) fun _ _ f=>f
   subst hr;obtain⟨m6,n6,_⟩:=I6.loc
   have J6:Inv X pins σ H5 s6:=by
    refine I3.call' (ch:=fp) I6.os I6.base I6.hok I6.bare fun b hb=>?_
    obtain⟨_,f1,f2,f3,f4,f5⟩:=fpo3 b hb;exact⟨f3,f1,f4,f5⟩
   refine hRR D _ s6 H5 m6 J6 n6 I6.free (c4Q I3.lt) I3.sz (fun y c e z=>?_) (fun p hp z=>?_) q
   ·obtain⟨v,q⟩:=I3.cell y c e
    exact absurd q.lt (by rw[z];exact P7 _)
   ·exact absurd (o0 (I3.pin p hp).1) (by rw[z];exact P7 _)
  ·refine a1i (T.item (W9 X scope cl s3.heap.objs.size x x2 fp s3 (upd H1 D (.lst []))) rfl rfl rfl hcalm i [] s5 _ H5 (fun _ _=>False) I5 (stat fr5) st5 go) (fun r s6 ⟨u,hr,h6⟩=>?_) fun _ _ f=>f
   subst hr;refine thn h6 fun _ s6 ⟨xv,H6,I6,r6,y6,st6,fr6⟩=>?_
   have I6':=I6.pinned (stat fr6) (T.obj _ _ st6);obtain⟨pa,u1,u2,rfl,hsq,step⟩:=step xv H6 y6
   have hpg:PG (W9 X scope cl s3.heap.objs.size x x2 fp s3 (upd H1 D (.lst []))) (.Tuple [.Name x px,.Name x2 py2] kt pt) (b5o X.K 2 (a2Q (t9 0) (a2Q (t9 1) b5p))):=
    c6w (X:=W9 X scope cl s3.heap.objs.size x x2 fp s3 (upd H1 D (.lst []))) hcalm (b4J (b7H (i:=0) hc.nd rfl (.inl (a4c hc.own)) (.inr (a4c hc.own))) (b4J (b7H (i:=1) hc.nd rfl (.inl (a4c hc.own2)) (.inr (a4c hc.own2))) c2C))
   refine thn (hpg _ s6 (none::none::σ) H6 (.ref pa) u (fun σ' H'=>σ'=some u1::some u2::σ/\H'=H6) I6' r6 ⟨pa,[u1,u2],rfl,hsq,rfl,_,_,rfl,_,_,rfl,rfl,rfl,rfl⟩) fun _ s7 ⟨σ7,H7,I7,e7,e7'⟩=>?_
   subst e7 e7'
   have again:∀ {s8:l7} {H8:Hp} {ys8:List V},Inv (W9 X scope cl s3.heap.objs.size x x2 fp s3 (upd H1 D (.lst []))) ([]++a9X fp s6.heap) (some u1::some u2::σ) H8 s8->(∃m',m'<n/\W (i+1) m' ys8 H8) ->
     ∃m,m<n/\∃i ys H',Inv (W9 X scope cl s3.heap.objs.size x x2 fp s3 (upd H1 D (.lst []))) [] (none::none::σ) H' s8/\tn i s8.heap/\(∀b∈fp,H' b=none)/\W i m ys H':=by
    rintro s8 H8 ys8 I8 ⟨m',hm,w8⟩;refine⟨m',hm,i+1,ys8,H8,(I8.unpinned (pins:=[])).weak rfl (fun j v e=>?_),T.keep _ _ _ st6 fun b hb o e=>(I8.pin (b,o) (B8 _ (B8 _ (a4n hb e)))).1,fun b hb=>?_,w8⟩
    ·cases j with
     | zero=>cases e
     | succ j=>
      cases j with
      | zero=>cases e
      | succ j=>exact e
    ·obtain⟨o,e,d⟩:=T.obj _ _ st6 b hb
     exact(I8.pin (b,o) (B8 _ (B8 _ (a4n hb e)))).2.1
   refine thn (ht _ fp s3 _ _ s7 _ _ _ I7 step) (fun ok s8 ⟨H8,I8,q8⟩=>?_);cases ok with
   | false=>exact again I8 (by simpa using q8)
   | true=>
    rw[if_pos rfl]at q8;rw[if_pos rfl];refine thn (he _ fp s3 _ _ s8 _ H8 _ I8 q8) (fun v s9 ⟨y,H9,I9,r9,hD9,hz9,w9⟩=>?_);refine a1i (b2C (X:=W9 X scope cl s3.heap.objs.size x x2 fp s3 (upd H1 D (.lst []))) _ s9 _ H9 (.ref D) [y] (.ref D) [v] (fun _ H'=>H'=upd H9 D (.lst (ys++[y]))) I9 rfl (.cons r9 .nil) ⟨D,ys,y,rfl,rfl,hD9,hz9,rfl⟩) (fun _ s10 ⟨_,H10,I10,_,e10⟩=>?_) fun _ _ f=>f
    subst e10;exact again I10 w9
 exact d2X (loop _ rfl) (T.self X.A 0 _ _ _ st4 (loop _ rfl))
theorem b3n(hc:a4y X.N X.env.scope scope x x2)(I:Inv X pins σ H s):∀y∈scope.names,y.2=.free->∃c,X.env.cells.lookup y.1=some c:=by
 intro y hy e;rcases hc.fr y hy e with q | q
 ·exact I.ok.has y.1 (.inl q)
 ·exact I.ok.has y.1 (.inr q)
theorem c6B(hc:a4y X.N X.env.scope scope x x2)(hcalm:X.calm=true)(hi:PI X (.Tuple [.Name x px,.Name x2 py2] kt pt) iter wi)
  (ht:∀cl C fp s3 H3,PTs (W9 X scope cl C x x2 fp s3 H3) ifs tt) (he:∀cl C fp s3 H3,PE (W9 X scope cl C x x2 fp s3 H3) elt te)
  (hs:∀x,Y0 iter X.env x=pure x:=by intro _;rfl) :
  PE X (.ListComp elt [⟨.Tuple [.Name x px,.Name x2 py2] kt pt,iter,ifs,0⟩] scope pos) (a8i X.K wi tt te):=by
 intro pins s σ H Q I h;obtain⟨cl,hclos,hcl,hcl2⟩:=a7E (b3n hc I);rw[eval_ListComp];refine a5d (use:=none) rfl hs hclos hc.kind hc.names (thn (hi pins s σ H _ I h) fun v s1 h1=>thn h1 fun itv s2 ⟨it,fp,tn,J,H2,e,I2,T,st,fpo,R⟩=>?_);subst e;refine b3o (RR:=fun acc C=>compPost (model X.prog X.w) X.A X.xe none (EP X pins σ Q) acc C) (Q:=Q) hc hcalm hcl hcl2 (ht cl) (he cl) I2 T st fpo R ?_;intro D C s' H' m I' n f1 f2 f3 f4 f5 q;exact⟨m,n,fun h' sb=>⟨.ref D,H',I'.turned (t':=s'.toks) (fun b o hb e=>(sb.2 b hb).trans e) f1 f2 (.inr f3) f4 f5,rfl,q⟩⟩
end
section
variable {x x2:Str}{px py2 pt:Pos}{kt:Nat}
theorem b9x{py spos:Pos}(hN:X.N.Nodup)(hiy:X.N[i]? = some y)(hy:X.env.scope.names.lookup y=some .local)(hc:a4y X.N X.env.scope scope x x2)(hcalm:X.calm=true)(hi:PI X (.Tuple [.Name x px,.Name x2 py2] kt pt) iter wi)
  (ht:∀cl C fp s3 H3,PTs (W9 X scope cl C x x2 fp s3 H3) ifs tt) (he:∀cl C fp s3 H3,PE (W9 X scope cl C x x2 fp s3 H3) elt te)
  (hsw:a3A (.ListComp elt [⟨.Tuple [.Name x px,.Name x2 py2] kt pt,iter,ifs,0⟩] scope pos) (some (.Name y py)) spos.line X.env=pure true:=by rfl)
  (hs:∀x,Y0 iter X.env x=pure x:=by intro _;rfl) :
  PS X (.Assign [.Name y py] (.ListComp elt [⟨.Tuple [.Name x px,.Name x2 py2] kt pt,iter,ifs,0⟩] scope pos) spos) (fun D σ H=>a8i X.K wi tt te σ H fun v H1=>D.nx (σ.set i (some v)) H1):=by
 intro pins s σ H D I h;obtain⟨cl,hclos,hcl,hcl2⟩:=a7E (b3n hc I);rw[d3g _ _ _ _ hsw];refine d5 (b8F (d5 ?_));show wpAny _ X.A (do let _ <-comprehension (.ListComp elt [⟨.Tuple [.Name x px,.Name x2 py2] kt pt,iter,ifs,0⟩] scope pos) scope X.env _ (newList []) false (eval iter X.env) (some (a9q (.Name y py) X.env))) _ _ s
 refine d5 (a1i (a5d (use:=some (a9q (.Name y py) X.env)) (Q:=fun _ s'=>SP X pins D .next s') rfl hs hclos hc.kind hc.names
  (thn (hi pins s σ H _ I h) fun v s1 h1=>thn h1 fun itv s2 ⟨it,fp,tn,J,H2,e,I2,T,st,fpo,R⟩=>?_)) (fun _ s' hq=>u5 (u5 hq)) fun _ _ e=>e)
 subst e;refine b3o (RR:=fun acc C=>compPost (model X.prog X.w) X.A X.xe (some (a9q (.Name y py) X.env)) (fun _ s'=>SP X pins D .next s') acc C) (Q:=fun v H1=>D.nx (σ.set i (some v)) H1) hc hcalm hcl hcl2 (ht cl) (he cl) I2 T st fpo R ?_;intro E C s' H' m I' n f1 f2 f3 f4 f5 q;show wpAny _ _ (a9q (.Name y py) X.env (.ref E)) _ _ _;refine b0x (b1Z (v:=.ref E) I' hN hiy (.inl hy) rfl (fun s'' I'' ch=>?_) (.inr hy));obtain⟨a,sb,ha⟩:=ch
 have hCa:C≠a:=by
  rcases ha with e | e
  ·rw[e];exact f2
  ·exact fun z=>f4 y a e z.symm
 exact⟨m,n.sameBut sb hCa,fun h' sb'=>⟨_,_,I''.turned (t':=s''.toks) (fun b o hb e=>(sb'.2 b hb).trans e) f1 f2 (.inr f3) f4 f5,q⟩⟩
end
section
def c6j:List V->Hp->VK->Prop:=fun xs H Q=>match xs with
 | [.int i,.int j]=>Q (.int (if j<i then j else i)) H
 | _=>False
theorem c4C(hc:X.calm=true):a0Y X (.builtin "min") c6j:=(c4I hc).imp fun xs H Q h=>by
 unfold c6j at h;split at h
 ·exact⟨_,_,rfl,h⟩
 ·exact h.elim
theorem c4L:∀bs:List Bool,((C1 bs.length).any fun i=>(bs[i]?).getD false)=bs.any id:=by
 intro bs;induction bs with
 | nil=>rfl
 | cons b r ih=>
  rw[z9,List.range_succ_eq_map,a3y,c3b,a3y];rw[<-ih];rfl
def c1o:List V->Hp->VK->Prop:=fun vs H Q=>match vs with
 | [.ref l]=>match H l with
  | some (.lst xs)=>∃bs,a0X xs=some bs/\Q (.bl (bs.any id)) H
  | _=>False
 | _=>False
theorem c4F(hc:X.calm=true):a0Y X (.builtin "any") c1o:=fun pins s σ H xs us Q I r h=>by
 unfold c1o at h;split at h
 ·split at h
  ·rename_i l _ ys hl
   obtain⟨bs,e,q⟩:=h;obtain⟨u,rfl,ru⟩:=a8f r;cases ru;obtain⟨its,rv,pl,hz⟩:=I.list (SqL.of hl);have hlt:l<s.heap.objs.size:=by obtain⟨_,e,_⟩:=pl.isList;exact o0 e
   have hlen:=rv.length;have hbl:=b2K e;refine call_any_walk (a6l pl.isList ?_)
   refine⟨s.heap.objs.size,[s.heap.objs.size,l],[s.heap.objs.size],its.toArray.size,_,_,fun i=>(bs[i]?).getD false,rfl,Walks.list (A:=X.A.in1) (I.ok.hd hc) _ l (A0 hlt) its.toArray,
    ⟨⟨_,A4 _ rfl,rfl,rfl⟩,pl.isList.push _⟩,fun i v s' Q' E' hP hQ=>?_,fun h' tk hk=>?_⟩
   ·have hP:its[i]? = some v:=by simpa using hP
    have hi:i<ys.length:=by rw[hlen];exact(k8.mp hP).1
    have ey:ys[i]? = some ys[i]:=by simp[hi]
    obtain⟨b,eb,ez⟩:=b2L e ey;obtain⟨u,eu,ru⟩:=rv.get ey;rw[hP]at eu;cases eu;rw[ez]at ru;cases ru;simp only[eb,a4U]at hQ;exact U3 hQ
   ·have e2:((C1 its.toArray.size).any fun i=>(bs[i]?).getD false)=bs.any id:=by
     rw[o9,<-hlen,hbl];exact c4L bs
    rw[e2];exact⟨.bl _,H,I.kept (t':=tk) fun b x e=>hk b x (fun hm=>by rw[v6.mp hm]at e;exact P7 _ (o0 e)) (g8 _ e),rfl,q⟩
  ·exact h.elim
 ·exact h.elim
def a5c:List V->Option (List Int)
 | []=>some []
 | .int i::r=>(a5c r).map (i :: ·)
 | _=>none
theorem b5l(ns:List Int):a5c (ns.map V.int)=some ns:=by
 induction ns with
 | nil=>rfl
 | cons s r ih=>simp[a5c,ih]
theorem a8x:∀ {xs:List V} {us:List Value} {ss:List Int},L1 xs us->a5c xs=some ss->d0E us ss
 | _,_,ss,.nil,e=>by cases e;exact .nil
 | x::xs,_,ss,.cons r t,e=>by
  cases x with
  | int s=>
   obtain⟨k,rfl⟩:=r;cases e2:a5c xs with
   | none=>simp[a5c,e2]at e
   | some ss2=>
    simp[a5c,e2]at e;subst e;exact .cons _ _ (a8x t e2)
  | _=>simp[a5c]at e
def a8V:List V->Hp->VK->Prop:=fun vs H Q=>match vs with
 | [.ref l]=>match H l with
  | some (.lst xs)=>∃ns,a5c xs=some ns/\ns.length<64/\∀(p:Addr) (ms:List Int),ms.Perm ns->ms.Pairwise (· <= ·)->H p=none->Q (.ref p) (upd H p (.lst (ms.map V.int)))
  | _=>False
 | _=>False
theorem b8e:a0Y X (.builtin "sorted") a8V:=fun pins s σ H xs us Q I r h=>by
 unfold a8V at h;split at h
 ·split at h
  ·rename_i l _ ys hl
   obtain⟨ns,e,hn,q⟩:=h;obtain⟨u,rfl,ru⟩:=a8f r;cases ru;obtain⟨its,rv,pl,hz⟩:=I.list (SqL.of hl);have hi:=a8x rv e;have hil:=hi.length;refine sorted_ints pl.isList hi (by omega) fun out ns' a1 a2 a3=>?_
   obtain⟨c,he⟩:=sortedAll_at s.heap its out;have hl':=a2.length_eq;refine⟨.ref _,_,I.laid (t':=s.toks) (a:=s.heap.objs.size+1) (o:=.lst (ns'.map V.int)) (fun b ob q=>sortedAll_old q) (c7H _) ?_,rfl,q _ ns' a2 a3 (I.hok.fresh (c7H _))⟩;refine⟨by rw[b9,sizeLine_eq];omega,out.toList,c,b1T a1,?_⟩;exact he
  ·exact h.elim
 ·exact h.elim
def b2o:V->List V->Hp->VK->Prop:=fun x vs H Q=>match x,vs with
 | .ref l,[.int k]=>match H l with
  | some (.lst xs)=>∃ns,a5c xs=some ns/\ns.length<10000/\k∈ns/\Q (.int (ns.idxOf k:Nat)) H
  | _=>False
 | _,_=>False
theorem c4h:MtR X "list.index" b2o:=fun pins s σ H x xs v us Q I rx rv h=>by
 unfold b2o at h;split at h
 ·split at h
  ·rename_i l k _ ys hl
   obtain⟨ns,e,hn,hk,q⟩:=h;cases rx;obtain⟨u,rfl,⟨t,rfl⟩⟩:=rv.one;obtain⟨its,r,pl,hz⟩:=I.list (SqL.of hl);have hi:=a8x r e;obtain⟨⟨cls,dd,data,sl⟩,ho,hc,n,hd⟩:=id pl.isList;simp only at hc hd;subst hc hd;have hlen:=hi.length;have hj:ns.idxOf k<ns.length:=c0E.mpr hk
   refine a7V b8C ⟨_,ho,rfl⟩ PySem.F.entry_list_index (PySem.F.args_list_index_2 _ _)
    (PySem.SeqAt.list_indexAt l its.toArray n dd sl (.int k t) (isInt k) (ns.idxOf k) (by simpa[hlen]using hj) (by omega) ?_ ?_) ⟨ho,fun y hy=>(eq_isInt k t hi y (by simpa using hy)).at _ _,⟨.int _,H,I.tok _,⟨_,rfl⟩,q⟩⟩
   ·show isInt k its[ns.idxOf k]=true
    rw[isInt_at k hi _ (by omega) hj];simpa using List.getElem_idxOf hj
   ·intro j hjs hlt
    show isInt k its[j]=false;rw[isInt_at k hi j (by simpa using hjs) (by omega)];exact ne_of_lt_idxOf hlt _
  ·exact h.elim
 ·exact h.elim
def a7q:V->List V->Hp->VK->Prop:=fun x vs H Q=>match x,vs with
 | .ref l,[.ref b]=>match H l,H b with
  | some (.lst xs),some (.lst zs)=>xs.length+zs.length<=u7/\Q .non (upd H l (.lst (xs++zs)))
  | _,_=>False
 | _,_=>False
theorem c1L:MtR X "list.extend" a7q:=fun pins s σ H x xs v us Q I rx rv h=>by
 refine c4j pins s σ H x xs v us Q I rx rv ?_;unfold a7q at h;split at h
 ·split at h
  ·exact⟨_,_,_,_,rfl,rfl,by assumption,by assumption,h.1,h.2⟩
  ·exact h.elim
 ·exact h.elim
def c3M:V->List V->Hp->VK->Prop:=fun x vs H Q=>match x,vs with
 | .ref l,[]=>match H l with
  | some (.lst xs)=>∃y,xs[xs.length - 1]? = some y/\Q y (upd H l (.lst xs.dropLast))
  | _=>False
 | _,_=>False
theorem c9p:MtR X "list.pop" c3M:=fun pins s σ H x xs v us Q I rx rv h=>by
 refine d2g pins s σ H x xs v us Q I rx rv ?_;unfold c3M at h;split at h
 ·split at h
  ·obtain⟨y,e,q⟩:=h
   exact⟨_,_,y,rfl,rfl,by assumption,e,q⟩
  ·exact h.elim
 ·exact h.elim
def b2p:V->List V->Hp->VK->Prop:=fun x vs H Q=>match x,vs with
 | .ref l,[]=>match H l with
  | some (.lst _)=>Q .non (upd H l (.lst []))
  | _=>False
 | _,_=>False
theorem c4i:MtR X "list.clear" b2p:=fun pins s σ H x xs v us Q I rx rv h=>by
 refine c6S pins s σ H x xs v us Q I rx rv ?_;unfold b2p at h;split at h
 ·split at h
  ·exact⟨_,_,rfl,rfl,by assumption,h⟩
  ·exact h.elim
 ·exact h.elim
def a8m:List V->Hp->VK->Prop:=fun xs H Q=>match xs with
 | [.ref p]=>match H p with
  | some (.dK kvs)=>∀l,H l=none->Q (.ref l) (upd H l (.lst (kvs.map fun kv=>kV kv.1)))
  | _=>False
 | _=>False
theorem d3Y{P:D8}{k:Key}(r:(P0 P w).is k u=true):K8 (kV k) u:=by
 rcases a0t (show b5j k u=true from r)with ⟨i,t,rfl,rfl⟩ | ⟨x,t,rfl,rfl⟩
 ·exact⟨t,rfl⟩
 ·exact⟨t,rfl⟩
theorem b7j:∀ {xs:List V} {us:List Value},xs.length=us.length->(∀(i:Nat) x u,xs[i]? = some x->us[i]? = some u->K8 x u)->L1 xs us
 | [],[],_,_=>.nil
 | x::xs,u::us,hl,h=>.cons (h 0 x u rfl rfl) (b7j (by simpa using hl) fun i y v a b=>h (i+1) y v (by simpa using a) (by simpa using b))
 | [],u::us,hl,_=>by cases hl
 | x::xs,[],hl,_=>by cases hl
theorem d0r:∀ {l:List (Key×V)} {la:List (Key×Value)} {i:Nat} {k:Key} {x:Value},KV l la->la[i]? = some (k,x)->∃y,l[i]? = some (k,y)
 | p::l,q::la,0,k,x,h,e=>by
  have h:Paired _ _ _:=h;cases h with
  | cons h t=>
   cases e;exact⟨p.2,by rw[c2l];rw[show k=p.1 from h.1.symm]⟩
 | p::l,q::la,i+1,k,x,h,e=>by
  have h:Paired _ _ _:=h;cases h with
  | cons h t => 
   obtain⟨y,hy⟩:=d0r (i:=i) (show KV l la from t) (by simpa using e);exact⟨y,by simpa using hy⟩
 | [],la,i,k,x,h,e=>by
  have h:Paired _ _ _:=h;cases h;cases e
 | p::l,[],i,k,x,h,e=>by
  have h:Paired _ _ _:=h;cases h
theorem c0q(hc:X.calm=true):a0Y X (.type "list") a8m:=fun pins s σ H xs us Q I r h=>by
 unfold a8m at h;split at h
 ·split at h
  ·rename_i p _ kvs hp
   obtain⟨u,rfl,ru⟩:=a8f r;cases ru;obtain⟨hz,hS,vs,rk,hD⟩:=c0a I.hok hp;obtain⟨ep,hat⟩:=hD.dictAt;have hl:=Paired.length rk;refine c7F (PySem.W.kdl_dict (knd:=P0 X.prog X.w) (kvs:=vs) (ep:=ep) hS) (I.ok.hd hc) hat (by omega) fun h' tk acc c hk ha hit=>?_
   refine⟨.ref _,_,I.laid (t':=tk) (a:=s.heap.objs.size) (o:=.lst (kvs.map fun kv=>kV kv.1)) hk (j9 _) ?_,rfl,h _ (I.hok.fresh (j9 _))⟩;refine⟨by rw[b9];exact hz,acc.toList,c,?_,by simpa using ha⟩;refine b7j (by have:=hit.1;rw[b9];simp;omega) fun i x u a b=>?_
   obtain⟨k,y,e1,e2⟩:=hit.2 i u (by rw[<-a0Q];exact b);obtain⟨z,e3⟩:=d0r rk e1;rw[b6,e3]at a;cases a;exact d3Y e2
  ·exact h.elim
 ·exact h.elim
inductive Dq(K:Fg)(H:Hp):Nat->V->V->Prop
 | flat {n:Nat} {x:V}:O8 x=true->Dq K H n x x
 | tup {n:Nat} {a b:Addr} {xs ys:List V}:SqT K H a xs->SqT K H b ys->xs.length=ys.length->(∀(j:Nat) x y,xs[j]? = some x->ys[j]? = some y->Dq K H n x y)->Dq K H (n+1) (.ref a) (.ref b)
 | lst {n:Nat} {a b:Addr} {xs ys:List V}:SqL K H a xs->SqL K H b ys->xs.length=ys.length->(∀(j:Nat) x y,xs[j]? = some x->ys[j]? = some y->Dq K H n x y)->Dq K H (n+1) (.ref a) (.ref b)
theorem c7j{x:V}(h:O8 x=true):eqV x x=true:=by
 cases x with
 | non=>rfl
 | bl b=>simp[eqV]
 | int i=>simp[eqV]
 | str s=>simp[eqV]
 | byt b=>cases h
 | flt b=>cases h
 | ref a=>cases h
 | ty n=>cases h
theorem b1D{n:Nat}:(C1 n).all (fun _=>true)=true:=by simp
theorem Dq.both(I:Inv X pins σ H s){n:Nat}{x y:V}(d:Dq X.K H n x y):∀ {A:T3} {v u:Value},A.units+n<cLine->K8 x v->K8 y u ->
  SeqAt.EqAt A s v u true/\(∀a b,x=.ref a->y=.ref b->SeqAt.RcAt A s v u true/\SeqAt.RcNeAt A s v u false):=by
 induction d with
 | @flat n x hf=>
  intro A v u hu rv ru;refine⟨?_,fun a b e=>by subst e;cases hf⟩;have:=b7Z (A:=A) (s:=s) rv ru hf hf
  rwa [c7j hf]at this
 | @tup n a b xs ys ha hb hl hq ih=>
  intro A v u hu rv ru;cases rv;cases ru;obtain⟨us,r1,t1,_⟩:=I.tuple ha;obtain⟨ws,r2,t2,_⟩:=I.tuple hb;have l1:=r1.length;have l2:=r2.length
  have el:∀j (h1:j<us.toArray.size) (h2:j<ws.toArray.size),SeqAt.EqAt A.in1 s us.toArray[j] ws.toArray[j] true:=by
   intro j h1 h2;have h1':j<xs.length:=by simpa[l1]using h1
   have h2':j<ys.length:=by simpa[l2]using h2
   obtain⟨u1,e1,q1⟩:=r1.get (i:=j) (x:=xs[j]) (by simp);obtain⟨u2,e2,q2⟩:=r2.get (i:=j) (x:=ys[j]) (by simp)
   have z1:us.toArray[j]=u1:=by
    have:=(k8.mp e1).2;simpa using this
   have z2:ws.toArray[j]=u2:=by
    have:=(k8.mp e2).2;simpa using this
   rw[z1,z2];exact(ih j _ _ (by simp) (by simp) (A:=A.in1) (by show A.units+1+n<cLine;omega) q1 q2).1
  have c1:SeqAt.RcAt A s (.ref a) (.ref b) true:=by
   have q:=SeqAt.RcAt.tuples (A:=A) (e:=fun _=>true) t1 t2 (by omega) el;have e:us.toArray.size=ws.toArray.size:=by simp[<-l1,<-l2,hl]
   rw[b1D,e,beq_self_eq_true]at q;exact q
  have c2:SeqAt.RcNeAt A s (.ref a) (.ref b) false:=by
   have q:=SeqAt.RcNeAt.tuples (A:=A) (e:=fun _=>true) t1 t2 (by omega) el;have e:us.toArray.size=ws.toArray.size:=by simp[<-l1,<-l2,hl]
   rw[b1D,e,beq_self_eq_true]at q;exact q
  refine⟨?_,fun _ _ _ _=>⟨c1,c2⟩⟩;by_cases e:a=b
  ·subst e;exact SeqAt.EqAt.same _
  ·exact SeqAt.EqAt.of_refs e c1
 | @lst n a b xs ys ha hb hl hq ih=>
  intro A v u hu rv ru;cases rv;cases ru;obtain⟨us,r1,t1,_⟩:=I.list ha;obtain⟨ws,r2,t2,_⟩:=I.list hb;have l1:=r1.length;have l2:=r2.length
  have el:∀j (h1:j<us.toArray.size) (h2:j<ws.toArray.size),SeqAt.EqAt A.in1 s us.toArray[j] ws.toArray[j] true:=by
   intro j h1 h2;have h1':j<xs.length:=by simpa[l1]using h1
   have h2':j<ys.length:=by simpa[l2]using h2
   obtain⟨u1,e1,q1⟩:=r1.get (i:=j) (x:=xs[j]) (by simp);obtain⟨u2,e2,q2⟩:=r2.get (i:=j) (x:=ys[j]) (by simp)
   have z1:us.toArray[j]=u1:=by
    have:=(k8.mp e1).2;simpa using this
   have z2:ws.toArray[j]=u2:=by
    have:=(k8.mp e2).2;simpa using this
   rw[z1,z2];exact(ih j _ _ (by simp) (by simp) (A:=A.in1) (by show A.units+1+n<cLine;omega) q1 q2).1
  have e:us.toArray.size=ws.toArray.size:=by simp[<-l1,<-l2,hl]
  have c1:SeqAt.RcAt A s (.ref a) (.ref b) true:=by
   have q:=SeqAt.RcAt.lists (A:=A) (e:=fun _=>true) t1.isList t2.isList e (by omega) el;rw[b1D]at q;exact q
  have c2:SeqAt.RcNeAt A s (.ref a) (.ref b) false:=by
   have q:=SeqAt.RcNeAt.lists (A:=A) (e:=fun _=>true) t1.isList t2.isList e (by omega) el;rw[b1D]at q;exact q
  refine⟨?_,fun _ _ _ _=>⟨c1,c2⟩⟩;by_cases e:a=b
  ·subst e;exact SeqAt.EqAt.same _
  ·exact SeqAt.EqAt.of_refs e c1
def c8q(K:Fg):R2:=fun x y H Q=>∃a b n,x=.ref a/\y=.ref b/\n<=20/\Dq K H n x y/\Q (.bl false) H
theorem c2E{k:Nat}(hr:X1 k X.A):OpR X (A3 .NotEq) (c8q X.K):=by
 intro pins s σ H x y v u Q I rx ry ⟨a,b,n,e1,e2,hn,d,q⟩;have hu:=hr.units;exact((d.both I (A:=X.A) (by omega) rx ry).2 a b e1 e2).2 _ _ _ _ ⟨.bl false,H,I,rfl,q⟩
def b9u(K:Fg):R2:=fun x y H Q=>∃a b xs ys,x=.ref a/\y=.ref b/\SqT K H a xs/\SqT K H b ys/\xs.all O8=true/\ys.all O8=true/\Q (.bl (Z1 xs ys)) H
theorem c9b{k:Nat}(hr:X1 k X.A):OpR X (A3 .Eq) (b9u X.K):=by
 intro pins s σ H x y v u Q I rx ry ⟨a,b,xs,ys,e1,e2,ha,hb,fx,fy,q⟩;have hu:=hr.units;subst e1 e2;cases rx;cases ry;obtain⟨us,r1,t1,_⟩:=I.tuple ha;obtain⟨ws,r2,t2,_⟩:=I.tuple hb;have l1:=r1.length;have l2:=r2.length;have q1:=SeqAt.RcAt.tuples (A:=X.A) t1 t2 (by omega) (a7C r1 r2 fx fy);simp only[o9,<-l1,<-l2]at q1;exact q1 _ _ _ _ ⟨.bl (Z1 xs ys),H,I,rfl,q⟩
def c1k(K:Fg):R2:=fun x y H Q=>∃a b xs ys,x=.ref a/\y=.ref b/\SqT K H a xs/\SqT K H b ys/\xs.all O8=true/\ys.all O8=true/\Q (.bl (!Z1 xs ys)) H
theorem c8V{k:Nat}(hr:X1 k X.A):OpR X (A3 .NotEq) (c1k X.K):=by
 intro pins s σ H x y v u Q I rx ry ⟨a,b,xs,ys,e1,e2,ha,hb,fx,fy,q⟩;have hu:=hr.units;subst e1 e2;cases rx;cases ry;obtain⟨us,r1,t1,_⟩:=I.tuple ha;obtain⟨ws,r2,t2,_⟩:=I.tuple hb;have l1:=r1.length;have l2:=r2.length;have q1:=SeqAt.RcNeAt.tuples (A:=X.A) t1 t2 (by omega) (a7C r1 r2 fx fy);simp only[o9,<-l1,<-l2]at q1;exact q1 _ _ _ _ ⟨.bl (!Z1 xs ys),H,I,rfl,q⟩
def c6k(K:Fg):List V->Hp->VK->Prop:=fun vs H Q=>∃p xs,vs=[.ref p]/\SqT K H p xs/\Q (.int xs.length) H
theorem c2e:a0Y X (.builtin "len") (c6k X.K):=b1s.imp fun xs H Q ⟨p,ys,e,h,q⟩=>⟨p,ys,e,.inr h,q⟩
def a5I:V->List V->Hp->VK->Prop:=fun x vs H Q=>match x,vs with
 | .ref l,[]=>match H l with
  | some (.lst xs)=>Q .non (upd H l (.lst xs.reverse))
  | _=>False
 | _,_=>False
theorem b9L:MtR X "list.reverse" a5I:=fun pins s σ H x xs v us Q I rx rv h=>by
 refine c1K pins s σ H x xs v us Q I rx rv ?_;unfold a5I at h;split at h
 ·split at h
  ·exact⟨_,_,rfl,rfl,by assumption,h⟩
  ·exact h.elim
 ·exact h.elim
def d1j(K:Fg):R2:=fun x y H Q=>∃p xs,y=.ref p/\SqT K H p xs/\O8 x=true/\xs.all O8=true/\Q (.bl (inV x xs)) H
theorem c9a:OpR X (A3 .In) (d1j X.K):=b6K.imp fun x y H Q ⟨p,xs,e,h1,h2,h3,q⟩=>⟨p,xs,e,.inr h1,h2,h3,q⟩
def c1m(K:Fg):R2:=fun x y H Q=>∃p i xs v,x=.ref p/\y=.int i/\SqT K H p xs/\atI xs i=some v/\Q v H
theorem d3Z:IxR X (c1m X.K):=c7c.imp fun x y H Q ⟨p,i,xs,v,e1,e2,h,e,q⟩=>.inr (.inl ⟨p,xs,i,v,e1,e2,h,e,q⟩)
def c6l(K:Fg):List V->Hp->VK->Prop:=fun vs H Q=>∃p xs,vs=[.ref p,.ty "tuple"]/\SqT K H p xs/\Q (.bl true) H
theorem c2f:a0Y X (.builtin "isinstance") (c6l X.K):=fun pins s σ H xs us Q I r h=>by
 obtain⟨p,ys,rfl,hp,q⟩:=h;obtain⟨u,u2,rfl,ru,ru2⟩:=b8U r;cases ru;cases ru2;obtain⟨its,rv,⟨o,h1,h2,_⟩,_⟩:=I.tuple hp;exact Q4 c4O I.kIn ⟨o,h1,h2⟩ (c7a X.K "tuple" (by decide) "tuple" (by decide)) (fun z=>nomatch z) fun tk=>⟨.bl true,H,I.tok _,rfl,q⟩
theorem c6s{e c:Option Expr}:PS X (.Raise e c pos) (fun _ _ _=>False):=fun _ _ _ _ _ _ h=>h.elim
structure b3r(P:D8)(w:World)(K:Fg)(mg:Str->Option Value)(base:Heap)(k:Nat)(x:Str)(C:Addr)(ps:List Str)(sp:Sp):Prop where
 ex:∃f fd,J1 P w K mg base CX0 k f fd ps sp/\mg x=some (.ref C)/\Mk K C f/\a6X K fd ps []
theorem d3L{k:Nat}{x:Str}{C:Addr}{e:Expr}{es:List Expr}{t:TA}{p:Pos}(M:b3r X.prog X.w X.K X.mg X.base k x C ps sp)(hr:X1 j X.A)(hk:k+1<=j)(hg:Gl X x)(ha:PA X (e::es) t)
  (hdb:(x == ("__debug__" : Str))=false:=by decide) (he:l6 (e::es) X.env=(false,eval e X.env)::l6 es X.env:=by rfl) (hpl:(a1x pos (l6 es X.env)).any (·.1)=false:=by rfl) :
  PE X (.Call (.Name x p) (e::es) [] pos) (a5Z C sp [] E0 t):=by
 obtain⟨f,fd,F,hm,hM,hb⟩:=M.ex;exact c8K hM F (hr.mono hk) hg hm hb .nil c2D ha hdb he hpl
structure X2(P:D8)(w:World)(K:Fg)(mg:Str->Option Value)(base:Heap)(k:Nat)(m:Str)(C:Addr)(ps:List Str)(sp:Sp):Prop where
 ex:∃f fd,J1 P w K mg base CX0 k f fd ps sp/\Cls K C/\c9Q K C m f/\a6X K fd ps []
theorem d1E{pl:Sem Bool}{k:Nat}{m:Str}{C:Addr}{o e:Expr}{es:List Expr}{ta:TE}{t:TA}{apos:Pos}(M:X2 X.prog X.w X.K X.mg X.base k m C ps sp)(hr:X1 j X.A)(hk:k<=j)(ho:PE X o ta)(ha:PA X (e::es) t)
  (hst:l6 (e::es) X.env=(false,eval e X.env)::l6 es X.env:=by rfl) (hpl:(a1x pos (l6 es X.env)).any (·.1)=false:=by rfl)
  (ht:eval (.Call (.Attribute o m apos) (e::es) [] pos) X.env=(do
   let ov <-eval o X.env
   b3Z apos.atName
   let(f,first) <-a4d [ov] (b0y ov m pl)
   c4W pos f first (a1x pos (l6 (e::es) X.env)) (a9p pos (a3B [] X.env))):=by rfl) :
  PE X (.Call (.Attribute o m apos) (e::es) [] pos) (V9 C m sp [] E0 ta t):=by
 obtain⟨f,fd,F,c,hm,hb⟩:=M.ex;exact c8J (pl:=pl) ho c hm F (hr.mono hk) hb .nil c2D ha hst hpl ht
theorem c8I{pl:Sem Bool}{k:Nat}{m:Str}{C:Addr}{o:Expr}{ta:TE}{apos:Pos}(M:X2 X.prog X.w X.K X.mg X.base k m C ps sp)(hr:X1 j X.A)(hk:k<=j)(ho:PE X o ta)
  (ht:eval (.Call (.Attribute o m apos) [] [] pos) X.env=(do
   let ov <-eval o X.env
   b3Z apos.atName
   let(f,first) <-a4d [ov] (b0y ov m pl)
   c4W pos f first (a1x pos (l6 [] X.env)) (a9p pos (a3B [] X.env))):=by rfl) :
  PE X (.Call (.Attribute o m apos) [] [] pos) (V9 C m sp [] E0 ta d7):=by
 obtain⟨f,fd,F,c,hm,hb⟩:=M.ex;exact c6y (pl:=pl) ho c hm F (hr.mono hk) hb .nil c2D ht
end
theorem b1f{env:Env}:∀ {names:List (Str×a9r)} {y:Str},names.lookup y=some .free ->
  (names.map fun(n,k)=>if(k == NameKind.free&&env.scope.kind == .function&&env.kindOf n == some .cell)then (n,NameKind.cell)else (n,k)).lookup y=some .cell \/
  (names.map fun(n,k)=>if(k == NameKind.free&&env.scope.kind == .function&&env.kindOf n == some .cell)then (n,NameKind.cell)else (n,k)).lookup y=some .free
 | [],_,h=>by cases h
 | (n,k0)::r,y,h=>by
  have ih := @b1f env r y;rw[N3]at h;rw[D5];dsimp only;cases hx:y == n with
  | true=>
   rw[hx]at h;cases h;by_cases hc:(NameKind.free == NameKind.free&&env.scope.kind == .function&&env.kindOf n == some .cell)=true
   ·rw[if_pos hc,N3,hx];exact .inl rfl
   ·rw[if_neg hc,N3,hx];exact .inr rfl
  | false=>
   rw[hx]at h;by_cases hc:(k0 == NameKind.free&&env.scope.kind == .function&&env.kindOf n == some .cell)=true
   ·rw[if_pos hc,N3,hx];exact ih h
   ·rw[if_neg hc,N3,hx];exact ih h
theorem c2L{sc1 sc:Scope}(h:∀y∈sc.names,y.2=.free->sc1.names.lookup y.1=some .free):∀y∈sc.names,y.2=.free->(b1M sc1 env).names.lookup y.1=some .cell\/(b1M sc1 env).names.lookup y.1=some .free:=
 fun y hy e=>b1f (h y hy e)
end L2
namespace PySem
open Sem (wp)
namespace F
theorem lk_list_keys:c9Y (.type "list") "keys" = pure none:=by rw[typeLookup_type,d3h];kernel_rfl
theorem lk_list_getattr:c9Y (.type "list") "__getattr__" = pure none:=by rw[typeLookup_type,d3h];kernel_rfl
end F
section
variable {prog:D8}{w:World}{A:T3}{E:Value->l7->Prop}{h:Heap}{g:Array GenState}{d:Drawn}{t:Nat}{os:OsState}{a:Addr}{xs:Array Value}{n:Nat}{sl:Array (Option Value)}
theorem keys_entry_list{tk:Tok}{Q:Fin->l7->Prop}(hh:A.handled=none)(hx:h.get? a=some ⟨.type "list",none,.seq xs n,sl⟩)(he:∀h' t' e,Heap.NewAttrErr h h' e (.ref a) "keys" -> E (.ref e) ⟨h',g,d,t',os⟩) :
  wpAny (model prog w) A (d4t.«object.__getattribute__» ⟨[.ref a,.str "keys" tk],[]⟩) Q E ⟨h,g,d,t,os⟩:=by
 have hT:(⟨h,g,d,t,os⟩:l7).TypeIs (.ref a) "list" := ⟨_,hx,rfl⟩;have f4:=F.lk_list_keys;have f5:=F.lk_list_getattr
 repeat (any_goals (first | assumption | wp_step))
 exact wpAny_raiseAttrError hh he (attrMsg_fits (by decide +kernel) (by decide +kernel))
theorem keys_call_list{tk:Tok}{R:d0a->l7->Prop}(hh:A.handled=none)(hx:h.get? a=some ⟨.type "list",none,.seq xs n,sl⟩)(he:∀h' t' e,Heap.NewAttrErr h h' e (.ref a) "keys" -> R (.error (.ref e)) ⟨h',g,d,t',os⟩) :
  a6Z (model prog w) A (.call (.builtin "list.__getattribute__") ⟨[.ref a,.str "keys" tk],[]⟩) R ⟨h,g,d,t,os⟩:=
 codeAny_call_builtin F.slot_list_getattribute.plain F.entry_list_ga (F.slot_list_getattribute.check _ _ _ _ _ _ _ _ (show(⟨h,g,d,t,os⟩:l7).TypeIs (.ref a) "list" from⟨_,hx,rfl⟩) (F.args_list_getattribute_2 _ _) (keys_entry_list hh hx he))
theorem keys_attr_list{Q:Option Value->l7->Prop}(hh:A.handled=none)(hx:h.get? a=some ⟨.type "list",none,.seq xs n,sl⟩)(hq:∀h' t',(∀b ob,h.get? b=some ob->h'.get? b=some ob)->Q none ⟨h',g,d,t',os⟩) :
  wpAny (model prog w) A (getAttr? (.ref a) "keys") Q E ⟨h,g,d,t,os⟩:=by
 have hT:(⟨h,g,d,t,os⟩:l7).TypeIs (.ref a) "list" := ⟨_,hx,rfl⟩;have f2:=F.slot_list_getattribute.lookup;have f3:=F.slot_list_getattribute.bind (.ref a);unfold getAttr? getAttrBy?
 repeat (any_goals (first | assumption | wp_step))
 refine keys_call_list hh hx fun h' t' e ne=>?_
 obtain⟨t'',u',he⟩:=ne.there;have f1:=sub_AttributeError;have f5:=F.lk_list_getattr;show wpAny _ _ (getattributeRaised _ _ _ _ _ _ _) _ _ _;unfold getattributeRaised
 repeat (any_goals (first | assumption | wp_step))
 exact hq _ _ ne.keeps
end
end PySem
namespace PySem
open Sem (wp)
namespace F
theorem entry_update_loop:entryFor table "dict.update.loop" = some d4t.«dict.update.loop» := entryFor_of_tree (by kernel_rfl)
theorem plain_update_loop:plainId "dict.update.loop" = true:=by decide +kernel
end F
section
variable {prog:D8}{w:World}{K:Type}[DecidableEq K]{knd:KeyKind prog w K}{A:T3}{s:l7}{R:d0a->l7->Prop}
def prsF(ps:List (K×Value)):List (K×Value):=ps.foldl (fun m p=>d3d m p.1 p.2) []
theorem prsF_snoc(ps:List (K×Value))(p:K×Value):prsF (ps++[p])=d3d (prsF ps) p.1 p.2:=by unfold prsF;rw[List.foldl_append];rfl
theorem update_loop{d I l:Addr}{items:Array Value}{ps:List (K×Value)}(hh:A.handled=none)(hdI:d≠I)(hld:l≠d)(hlI:l≠I)(hn:items.size=ps.length)(hsz:ps.length<=u7)(res:Value){h₁:Heap}(hl:h₁.IsList l items)
  (hp:∀(i:Nat) k v,ps[i]? = some (k,v)->∃p key n dd ss,items[i]? = some (.ref p)/\h₁.get? p=some ⟨.type "tuple",dd,.seq #[key,v] n,ss⟩/\knd.is k key=true/\p≠d/\p≠I)
  (hsl:∀qs:List (K×Value),qs.length<=ps.length->(prsF qs).length<=u7)
  (hR:∀h' tk,(∀b o,b≠d->b≠I->h₁.get? b=some o->h'.get? b=some o)->h'.DictOf knd d (prsF ps)->R (.ok (.ret res)) { s with heap:=h',toks:=tk }) :
  ∀(k i:Nat) (h:Heap) (tk:Nat) (u:Tok),ps.length - i=k->i<=ps.length->h.IsListIter I l i->h.DictOf knd d (prsF (ps.take i))->(∀b o,b≠d->b≠I->h₁.get? b=some o->h.get? b=some o) ->
   a6Z (model prog w) A (.builtin "dict.update.loop" ⟨[.ref d,.ref I,.int (i:Int) u,res],[]⟩) R { s with heap:=h,toks:=tk }:=by
 intro k;induction k with
 | zero=>
  intro i h tk u hk hi hit hD hkeep;have hin:i=ps.length:=by omega
  subst hin;obtain⟨ol,hol,hcl,nl,hdl⟩:=id hl;have hl':h.IsList l items:=⟨ol,hkeep _ _ hld hlI hol,hcl,nl,hdl⟩;refine b4a F.entry_update_loop ?_
  rw[Around.under_plainId F.plain_update_loop _];show wpAny _ A.in1 (b8G (.ref I) >>= _) _ _ _;refine d5 (b3W (s:={ s with heap:=h,toks:=tk }) (A:=A.in1) hh hit hl' (by simp[hn]) fun h' he=>?_);refine d5 (u5 (u5 (hR h' tk (fun b o h1 h2 e=>he b o h2 (hkeep b o h1 h2 e)) ?_)));rw[J5]at hD;exact hD.extBut he hdI
 | succ k ih=>
  intro i h tk u hk hi hit hD hkeep;have hlt:i<ps.length:=by omega
  obtain⟨⟨kk,x⟩,hx⟩:∃p,ps[i]? = some p:=⟨ps[i],c8 hlt⟩;obtain⟨p,key,n,dd,ss,e1,e2,e3,e4,e5⟩:=hp i kk x hx;obtain⟨ol,hol,hcl,nl,hdl⟩:=id hl;have hl':h.IsList l items:=⟨ol,hkeep _ _ hld hlI hol,hcl,nl,hdl⟩;refine b4a F.entry_update_loop ?_
  rw[Around.under_plainId F.plain_update_loop _];show wpAny _ A.in1 (b8G (.ref I) >>= _) _ _ _;refine d5 (b3t (s:={ s with heap:=h,toks:=tk }) (A:=A.in1) hit hl' e1 fun h' hit' sb=>?_);have e2':h'.get? p=some ⟨.type "tuple",dd,.seq #[key,x] n,ss⟩:=(sb.2 p e5).trans (hkeep _ _ e4 e5 e2);refine d5 ?_;refine a2z (d5 ?_);refine wpAny_tryCatch ?_
  unfold Builtin.Dict.pairItems;refine d5 (b3V (show({ s with heap:=h',toks:=tk }:l7).TypeIs (.ref p) "tuple" from⟨_,e2',rfl⟩) ?_);rw[if_pos (by decide)];refine d5 (wpAny_seqItems e2' rfl (u5 ?_));have hD':h'.DictOf knd d (prsF (ps.take i)):=hD.sameBut sb hdI;show wpAny _ _ (a4d [key,x] (dictSet d key x)) _ _ _;refine a2z (wpAny_dictSet_pairs (s:={ s with heap:=h',toks:=tk }) e3 hD' (fun h'' hD'' sb2=>?_) (hsl _ (by rw[C5];omega)));refine u5 ⟨b8H F.plain_update_loop _,?_⟩;have tk1:ps.take (i+1)=ps.take i++[(kk,x)]:=by rw[F3,hx];rfl
  refine ih (i+1) h'' _ _ (by omega) hlt ?_ ?_ fun b o h1 h2 e=>?_
  ·obtain⟨oi,g1,g2,g3⟩:=hit'
   exact⟨oi,(sb2.2 I (Ne.symm hdI)).trans g1,g2,g3⟩
  ·rw[tk1,prsF_snoc]
   exact hD''
  ·exact(sb2.2 b h1).trans ((sb.2 b h2).trans (hkeep b o h1 h2 e))
end
section
variable {prog:D8}{w:World}{K:Type}[DecidableEq K]{knd:KeyKind prog w K}{A:T3}{E:Value->l7->Prop}{s:l7}
theorem call_dict_pairs{l:Addr}{items:Array Value}{n:Nat}{sl:Array (Option Value)}{ps:List (K×Value)}{Q:Value->l7->Prop}(hh:A.handled=none)(hl:s.heap.get? l=some ⟨.type "list",none,.seq items n,sl⟩)(hn:items.size=ps.length)(hsz:ps.length<=u7)
  (hp:∀(i:Nat) k v,ps[i]? = some (k,v)->∃p key n dd ss,items[i]? = some (.ref p)/\s.heap.get? p=some ⟨.type "tuple",dd,.seq #[key,v] n,ss⟩/\knd.is k key=true)
  (hsl:∀qs:List (K×Value),qs.length<=ps.length->(prsF qs).length<=u7)
  (h:∀h' tk,(∀b o,s.heap.get? b=some o->h'.get? b=some o)->h'.DictOf knd s.heap.objs.size (prsF ps)->Q (.ref s.heap.objs.size) { s with heap:=h',toks:=tk }) :
  wpAny (model prog w) A (call (.type "dict") [.ref l]) Q E s:=by
 refine callType_codes (Q₁:=fun obj s₁=>obj=.ref s.heap.objs.size/\s₁={ s with heap:=s.heap.push { cls:=.type "dict",data:=.dict #[] } }) F.kt_called_dict (F.kt_typeCall_dict_1 _) F.entry_dict_init (kt_code_dict_new _ ⟨rfl,rfl⟩) ?_
 rintro obj s₁ ⟨rfl,rfl⟩;have hnew:(s.heap.push { cls:=.type "dict",data:=.dict #[] }).DictOf knd s.heap.objs.size []:=c3f s.heap;have hl1:(s.heap.push { cls:=.type "dict",data:=.dict #[] }).get? l=some ⟨.type "list",none,.seq items n,sl⟩:=g8 _ hl;refine⟨hnew.typeIs,F.args_dict_init_2 _ _,?_⟩;unfold d4t.«dict.__init__»;refine d5 ?_;unfold Builtin.Dict.selfAndRest;refine d5 (b3X hnew.typeIs ?_);show wpAny _ _ (pure (s.heap.objs.size,[Value.ref l])) _ _ _;refine u5 ?_;show wpAny _ _ (Builtin.Dict.updateFrom "dict.__init__" s.heap.objs.size (.ref l) [] .none) _ _ _;unfold Builtin.Dict.updateFrom;refine d5 (b3V (show({ s with heap:=s.heap.push { cls:=.type "dict",data:=.dict #[] } }:l7).TypeIs (.ref l) "list" from⟨_,hl1,rfl⟩) ?_);rw[if_pos (by decide)];refine d5 (keys_attr_list (A:=A.in1.in1) hh hl1 fun h2 t2 k2=>?_);rw[if_pos (show(none:Option Value).isNone=true from rfl)];refine d5 (wpAny_rule ?_);have hl2:h2.IsList l items:=⟨_,k2 _ _ hl1,rfl,n,rfl⟩;refine d5 (a6l (s:={ s with heap:=h2,toks:=t2 }) hl2 ?_)
 have hdlt:s.heap.objs.size<h2.objs.size:=by
  obtain⟨o,es,ep,ho,_⟩:=hnew;exact o0 (k2 _ _ ho)
 have up:∀b o,s.heap.get? b=some o->h2.get? b=some o:=fun b o e=>k2 _ _ (g8 _ e)
 have ne1:∀b o,s.heap.get? b=some o->b≠s.heap.objs.size/\b≠h2.objs.size:=fun b o e=>⟨A0 (o0 e),A0 (o0 (up b o e))⟩
 refine u5 ⟨b8H F.plain_update_loop _,?_⟩
 have hD2:(h2.push { cls:=.type "list_iterator",data:=.fields #[.ref l,.int 0 0] }).DictOf knd s.heap.objs.size []:=by
  obtain⟨o,es,ep,ho,r⟩:=hnew;exact⟨o,es,ep,g8 _ (k2 _ _ ho),r⟩
 refine update_loop (s:=s) (A:=A.in1) (knd:=knd) (d:=s.heap.objs.size) (I:=h2.objs.size) (ps:=ps) hh (A0 hdlt) (ne1 l _ hl).1 (ne1 l _ hl).2 hn hsz .none (h₁:=h2.push { cls:=.type "list_iterator",data:=.fields #[.ref l,.int 0 0] }) ?_ (fun i k v e=>?_) hsl (fun h' tk kp hd=>⟨rfl,h h' tk (fun b o e=>kp b o (ne1 b o e).1 (ne1 b o e).2 (g8 _ (up _ _ e))) hd⟩) ps.length 0 _ _ _ (by omega) (P8 _) ⟨_,A4 _ rfl,rfl,rfl⟩ hD2 fun b o _ _ e=>e
 ·exact⟨_,g8 _ (up _ _ hl),rfl,n,rfl⟩
 ·obtain⟨p,key,m,dd,ss,a1,a2,a3⟩:=hp i k v e
  exact⟨p,key,m,dd,ss,a1,g8 _ (up _ _ a2),a3,(ne1 p _ a2).1,(ne1 p _ a2).2⟩
end
end PySem
namespace L2
open PySem PySem.Spec PyProof.Rows
variable{X:Cx}
section
def b4I:List V->Hp->VK->Prop:=fun xs H Q=>∃a vs kvs,xs=[.ref a]/\H a=some (.lst vs)/\vs.length=(kvs:List (Key×V)).length /\
 (∀(i:Nat) k x,kvs[i]? = some (k,x)->∃p,vs[i]? = some (.ref p)/\H p=some (.tup [kV k,x]))/\(kvs.map (·.1)).Nodup/\∀p,H p=none->Q (.ref p) (upd H p (.dK kvs))
theorem c6t{K:Type}[DecidableEq K](ps:List (K×Value)):(prsF ps).length<=ps.length:=by
 have:∀(ps m:List (K×Value)),(ps.foldl (fun m p=>d3d m p.1 p.2) m).length<=m.length+ps.length:=by
  intro ps;induction ps with
  | nil=>intro m;simp
  | cons p ps ih=>
   intro m;have h1:=ih (d3d m p.1 p.2);have h2:=stored_length_le m p.1 p.2;simp only[d2S,z9];omega
 have:=this ps [];simpa[prsF]using this
theorem b9y{P:D8}{w:World}{H:Hp}{h:Heap}(ok:HOk P w H h):∀(kvs:List (Key×V)) (vs:List V) (its:List Value),vs.length=kvs.length->(∀(i:Nat) k x,kvs[i]? = some (k,x)->∃p,vs[i]? = some (.ref p)/\H p=some (.tup [kV k,x]))->L1 vs its ->
  ∃ps:List (Key×Value),KV kvs ps/\∀(i:Nat) k v,ps[i]? = some (k,v)->∃p key n dd ss,its[i]? = some (.ref p)/\h.get? p=some ⟨.type "tuple",dd,.seq #[key,v] n,ss⟩/\(P0 P w).is k key=true
 | [],_,_,_,_,_=>⟨[],.nil,fun i k v e=>by simp at e⟩
 | (k,x)::kvs,[],_,l,_,_=>by cases l
 | (k,x)::kvs,v::vs,its,l,hp,rv=>by
  cases rv with
  | cons r0 rv=>
   rename_i u its
   obtain⟨p,e1,e2⟩:=hp 0 k x rfl;cases e1;cases r0;obtain⟨ps,q1,q2⟩:=b9y ok kvs vs its (by simpa using l) (fun i k x e=>hp (i+1) k x e) rv;obtain⟨_,js,rj,o,g1,g2,n,g3⟩:=(show a0v P w H h p (.tup [kV k,x])from ok p _ e2);obtain⟨u1,u2,rfl,r1,r2⟩:=b8U rj;refine⟨(k,u2)::ps,.cons ⟨rfl,r2⟩ q1,fun i k' v' e=>?_⟩;cases i with
   | zero=>
    cases e;refine⟨p,u1,n,o.dict,o.slots,rfl,?_,b5k r1⟩;rw[g1];cases o;cases g2;cases g3;rfl
   | succ i=>exact q2 i k' v' e
theorem c0s(hc:X.calm=true):a0Y X (.type "dict") b4I:=fun pins s σ H xs us Q I r h=>by
 obtain⟨a,vs,kvs,rfl,hl,hn,hp,nd,q⟩:=h;obtain⟨u,rfl,ru⟩:=a8f r;cases ru;obtain⟨hz,its,n,rv,hg⟩:=(show a0v X.prog X.w H s.heap a (.lst vs)from I.hok a _ hl);have li:=Paired.length rv;obtain⟨ps,rel,hps⟩:=b9y I.hok kvs vs its hn hp rv;have hpl:=rel.length;have hnd:(ps.map (·.1)).Nodup:=by rw[<-rel.keys];exact nd
 refine call_dict_pairs (knd:=P0 X.prog X.w) (ps:=ps) (I.ok.hd hc) hg (by simp;omega) (by omega) (fun i k v e=>by
  obtain⟨p,key,m,dd,ss,a1,a2,a3⟩:=hps i k v e;exact⟨p,key,m,dd,ss,by simpa using a1,a2,a3⟩) (fun qs hq=>J4 (c6t qs) (by omega)) fun h' tk kp dd=>?_
 have e:prsF ps=ps:=merged_nil_of_nodup ps hnd;rw[e]at dd;exact⟨.ref s.heap.objs.size,_,I.laid (a:=s.heap.objs.size) (o:=.dK kvs) (t':=tk) (fun b o hb=>kp b o hb) (j9 _) (c2a (by omega) (beq_eq_false_iff_ne.mpr (Ne.symm (A0 I.big))) rel dd),rfl,q _ (I.hok.fresh (j9 _))⟩
end
section
variable {tg:Expr}
def Itd(hi:Int)(n:Nat):It:=⟨fun i _=>i<n,fun i H x H'=>H'=H/\x=.int (hi - i),fun i _=>n<=i⟩
theorem b8V{P:D8}{w:World}{K:Fg}(it:Addr)(lo:Int)(n:Nat):b8o P w K tg (Itd lo n) [it] it (fun i h=>c5h h it (lo+(i:Nat) * (-1)) ((n:Int) - (i:Nat)) (-1)) where
 mem:=by simp
 obj:=fun i h st b hb=>by
  have e:b=it:=by simpa using hb
  subst e
  exact⟨_,st,fun v z=>by
   have z':Data.fields _=Data.cell v:=z;cases z'⟩
 keep:=fun i h h' st k=>k it (by simp) _ st
 item:=by
  intro X hP hw hK hc i pins s σ H E I hf st hg;subst hP hw hK;obtain⟨f0,f1,f2,f3,f4,f5⟩:=hf it (by simp);have W:=Walks.range (prog:=X.prog) (w:=X.w) (I.ok.hd hc) it lo (-1) n;refine W.item i s _ _ hg st fun v h' tk hv st' kk=>?_
  obtain⟨t,rfl⟩:=hv;have I1:Inv X pins σ H { s with heap:=h',toks:=tk }:=I.turned (fun b o hb e=>kk b o (by simpa using hb) e) f0 f1 f3 f4 f5;refine⟨_,rfl,c2J (s:={ s with heap:=h',toks:=tk }) (n := "range_iterator") st' rfl rfl (by decide) ⟨.int (lo - i),H,I1,⟨t,?_⟩,⟨rfl,rfl⟩,st',fun b hb=>(hf b hb).1⟩⟩;rw[show lo+(i:Int) * (-1)=lo - i by omega]
 done:=by
  intro X hP hw hK hc i pins s σ H E I hf st hg;subst hP hw hK;obtain⟨f0,f1,f2,f3,f4,f5⟩:=hf it (by simp);exact d2U (I.ok.hd hc) st (by have:n<=i:=hg;omega) fun h' eb=>⟨rfl,I.turned (t':=s.toks) (fun b o hb e=>eb b o hb e) f0 f1 f3 f4 f5⟩
 self:=fun _ _ _ _ _ st h=>d2V st h
theorem a9C(a b:Int):Builtin.Range.rangeSize a b (-1)=if b<a then a - b else 0:=by
 unfold Builtin.Range.rangeSize;simp only[show ¬((-1:Int) > 0) by decide,if_false];have e : -(-1:Int)=1:=by decide
 rw[e,Int.ediv_one];split <;> omega
theorem c3w{a b:Int}(ha : -(2 ^ 62)<=a)(ha':a<2 ^ 62)(hb : -(2 ^ 62)<=b)(hb':b<2 ^ 62):Builtin.Range.small a b (-1)=true:=by
 unfold Builtin.Range.small;rw[a9C];simp only[Builtin.Range.rangeFitsLong,P6,b7a,decide_eq_true_eq,beq_iff_eq,show ¬((-1:Int) > 0) by decide,if_false];split <;> omega
theorem c3K{pins:List (Addr×Obj)}{σ:St}{H:Hp}{s:l7}{R:It->Hp->Prop}{E:Value->l7->Prop}{lo hi:Int}{t u v:Tok}{tk:Nat}(I:Inv X pins σ H s)(h1 : -(2 ^ 62)<=lo)(h2:lo<2 ^ 62)(h3 : -(2 ^ 62)<=hi)(h4:hi<2 ^ 62)
  (q:R (Itd lo (lo - hi).toNat) H):wpAny (model X.prog X.w) X.A (pyIter (.ref s.heap.objs.size)) (PIE X pins σ tg R) E { s with heap:=s.heap.push { cls:=.type "range",data:=.fields #[.int lo t,.int hi u,.int (-1) v] },toks:=tk }:=by
 refine wpAny_pyIter_range (IsRange.new ..) (c3w h1 h2 h3 h4) ?_;have I1:Inv X pins σ H { s with heap:=s.heap.push { cls:=.type "range",data:=.fields #[.int lo t,.int hi u,.int (-1) v] },toks:=tk }:=I.kept fun b o e=>g8 _ e
 refine⟨(s.heap.push { cls:=.type "range",data:=.fields #[.int lo t,.int hi u,.int (-1) v] }).objs.size,[(s.heap.push { cls:=.type "range",data:=.fields #[.int lo t,.int hi u,.int (-1) v] }).objs.size],_,_,H,rfl,
  I1.kept (t':=tk) fun b o e=>g8 _ e,b8V _ lo (lo - hi).toNat,?_,fun b hb=>?_,q⟩
 ·have e1:lo+((0:Nat):Int) * (-1)=lo:=by simp
  have e2:(((lo - hi).toNat:Nat):Int) - ((0:Nat):Int)=Builtin.Range.rangeSize lo hi (-1):=by rw[a9C];split <;> omega
  show c5h _ _ (lo+((0:Nat):Int) * (-1)) ((((lo - hi).toNat:Nat):Int) - ((0:Nat):Int)) (-1);rw[e1,e2];exact A4 _ rfl
 ·have e:b=(s.heap.push { cls:=.type "range",data:=.fields #[.int lo t,.int hi u,.int (-1) v] }).objs.size:=by simpa using hb
  subst e;exact I1.fpOk (j9 _) (I1.hok.fresh (j9 _))
def c2I(ta:TA):TI:=fun σ H R=>ta σ H fun vs H1=>∃i j:Int,vs=[.int i,.int j,.int (-1)]/\(-(2 ^ 30)<=i/\i<2 ^ 30 /\ -(2 ^ 30)<=j/\j<2 ^ 30)/\R (Itd i (i - j).toNat) H1
theorem c3P{a b e:Expr}{ta:TA}{p pos:Pos}(hg:Gl X "range")(hm:X.mg "range" = none)(ha:PA X [a,b,e] ta)(hs:l6 [a,b,e] X.env=[(false,eval a X.env),(false,eval b X.env),(false,eval e X.env)]:=by rfl)(hs2:l6 [b,e] X.env=[(false,eval b X.env),(false,eval e X.env)]:=by rfl) :
  PI X tg (.Call (.Name "range" p) [a,b,e] [] pos) (c2I ta):=by
 intro pins s σ H R I h;refine Call_ (b0k I hg hm boot_range (a0c (thn (ha pos pins s σ H _ I h) fun us s1 ⟨vs,H1,I1,r1,q1⟩=>?_) (by rw[hs,hs2]) (by rw[hs2];rfl)));obtain⟨i,j,e,⟨q1,q2,q3,q4⟩,q⟩:=q1;subst e;have p30:(2:Int) ^ 30=1073741824:=by decide
 have p62:(2:Int) ^ 62=4611686018427387904:=by decide
 cases r1 with
 | cons r rr=>
  cases rr with
  | cons r' rr=>
   cases rr with
   | cons r'' rr=>
    cases rr;obtain⟨t,rfl⟩:=r;obtain⟨t',rfl⟩:=r';obtain⟨t'',rfl⟩:=r'';exact call_range_3 (by decide) (c3K I1 (by omega) (by omega) (by omega) (by omega) q) (Or.inl (PyProof.noPylong_small (by omega)))
end
section
def a9x(H:Hp)(xs:List V)(b:Addr):Bool:=match H b with
 | some (.tup zs)=>Z1 zs xs
 | _=>false
def b9t(neg:Bool):R2:=fun x y H Q=>∃a p xs bs,x=.ref a/\y=.ref p/\H a=some (.tup xs)/\xs.all O8=true/\H p=some (.lst ((bs:List Addr).map V.ref)) /\
 (∀b∈bs,∃zs,H b=some (.tup zs)/\zs.all O8=true)/\Q (.bl (if neg then !(bs.any (a9x H xs))else bs.any (a9x H xs))) H
theorem c1W(xs:List V)(h:xs.all O8=true):Z1 xs xs=true:=by
 unfold Z1;rw[b5H,beq_self_eq_true,b2V,L3];intro j hj;have hl:j<xs.length:=by simpa using hj
 have e:xs.getD j .non=xs[j]:=by simp[D6,hl]
 rw[e];have f:=L3.mp h _ (J7 hl);cases q:xs[j] with
 | non=>rfl
 | bl b=>simp[eqV]
 | int i=>simp[eqV]
 | str s=>simp[eqV]
 | byt b=>rw[q]at f;cases f
 | flt b=>rw[q]at f;cases f
 | ref a=>rw[q]at f;cases f
 | ty n=>rw[q]at f;cases f
theorem b7D:∀ {bs:List Addr} {its:List Value},L1 (bs.map V.ref) its->its=bs.map Value.ref
 | [],_,.nil=>rfl
 | b::bs,_,.cons r t=>by
  cases r;rw[b7D t];rfl
theorem b9W{pins:List (Addr×Obj)}{s:l7}{σ:St}{H:Hp}{a:Addr}{xs:List V}{bs:List Addr}(I:Inv X pins σ H s)(hu:X.A.in1.units<cLine)(ha:H a=some (.tup xs))(fx:xs.all O8=true)(hb:∀b∈bs,∃zs,H b=some (.tup zs)/\zs.all O8=true) :
  ∃f:Value->Bool,(∀w∈bs.map Value.ref,SeqAt.EqAt X.A.in1 s w (.ref a) (f w))/\(bs.map Value.ref).any f=bs.any (a9x H xs):=by
 refine⟨fun w=>match w with | .ref b=>a9x H xs b | _=>false,fun w hw=>?_,by rw[c3b];rfl⟩;obtain⟨b,hbm,rfl⟩:=A8.mp hw;obtain⟨zs,hz,fz⟩:=hb b hbm;have e:a9x H xs b=Z1 zs xs:=by unfold a9x;rw[hz]
 show SeqAt.EqAt X.A.in1 s (.ref b) (.ref a) (a9x H xs b);rw[e];by_cases q:b=a
 ·subst q
  rw[ha]at hz;cases hz;rw[c1W _ fx];exact SeqAt.EqAt.same _
 ·refine SeqAt.EqAt.of_refs q ?_
  obtain⟨us,r1,t1,_⟩:=I.tuple (SqT.of hz);obtain⟨ws,r2,t2,_⟩:=I.tuple (SqT.of ha);have l1:=r1.length;have l2:=r2.length;have q1:=SeqAt.RcAt.tuples (A:=X.A.in1) t1 t2 hu (a7C r1 r2 fz fx);simp only[o9,<-l1,<-l2]at q1;exact q1
theorem c8Z(hu:X.A.in1.units<cLine):OpR X (A3 .In) (b9t false):=by
 intro pins s σ H x y v u Q I rx ry h;obtain⟨a,p,xs,bs,rfl,rfl,ha,fx,hp,hb,q⟩:=h;cases rx;cases ry;obtain⟨its,r,pl,hz⟩:=I.list (SqL.of hp);obtain rfl:=b7D r;obtain⟨f,f1,f2⟩:=b9W I hu ha fx hb;refine SeqAt.in_listAt f pl.isList (fun w hw=>f1 w (by simpa using hw)) ⟨.bl _,H,I,rfl,?_⟩;rw[show(bs.map Value.ref).toArray.any f=(bs.map Value.ref).any f by simp,f2];exact q
theorem c6L(hu:X.A.in1.units<cLine):OpR X (A3 .NotIn) (b9t true):=by
 intro pins s σ H x y v u Q I rx ry h;obtain⟨a,p,xs,bs,rfl,rfl,ha,fx,hp,hb,q⟩:=h;cases rx;cases ry;obtain⟨its,r,pl,hz⟩:=I.list (SqL.of hp);obtain rfl:=b7D r;obtain⟨f,f1,f2⟩:=b9W I hu ha fx hb;refine SeqAt.notIn_listAt f pl.isList (fun w hw=>f1 w (by simpa using hw)) ⟨.bl _,H,I,rfl,?_⟩;rw[show(bs.map Value.ref).toArray.any f=(bs.map Value.ref).any f by simp,f2];exact q
end
section
def d1i:R2:=fun x y H Q=>match x,y with
 | .ref a,.ref b=>match H a,H b with
  | some (.dK k1),some (.dK k2)=>k1=k2/\(k1.map (·.1)).Nodup/\k1.all (fun p=>O8 p.2)=true/\Q (.bl false) H
  | _,_=>False
 | _,_=>False
theorem c8W(hu:X.A.units<cLine):OpR X (A3 .NotEq) d1i:=by
 intro pins s σ H x y v u Q I rx ry h;unfold d1i at h;split at h
 ·split at h
  ·rename_i k1 k2 h1 h2
   obtain⟨rfl,nd,fl,q⟩:=h;cases rx;cases ry;obtain⟨_,ha,va,r1,d1⟩:=c0a I.hok h1;obtain⟨_,hb,vb,r2,d2⟩:=c0a I.hok h2
   have l1:va.length=vb.length:=by
    have a1:=Paired.length r1;have a2:=Paired.length r2;omega
   refine PySem.W.keq_ne ha hb d1 d2 hu (fun _=>c9A r2 nd fl r1 fun p hp=>hp) ?_;rw[l1,beq_self_eq_true,Z8];exact⟨.bl false,H,I,rfl,q⟩
  ·exact h.elim
 ·exact h.elim
def c6i(K:Fg):R2:=fun x y H Q=>qNe x y H Q\/c8q K x y H Q\/d1i x y H Q
theorem c8U{k:Nat}(hr:X1 k X.A):OpR X (A3 .NotEq) (c6i X.K):=(c6M hr.units0).or ((c2E hr).or (c8W hr.units0))
end
structure IsC(K:Fg)(C:Addr):Prop where
 cl:Cls K C
 ha:A6 K (.ref C) "__class__" = some (some (.builtin "object.__class__"))
 hn:b2R K (.builtin "object.__class__") "__get__" = some (some (.builtin "getset_descriptor.__get__"))
 htk:c7K K (.builtin "object.__class__")=some true
 hm:d0x K C (.type "object")=some true
section
variable {P:D8}{w:World}{K:Type}[DecidableEq K]{knd:HeapKind P w K}{A:T3}{E:Value->l7->Prop}{s:l7}
theorem c7w{xs:List (K×Addr×Value)}(nd:(xs.map (·.1)).Nodup){i j:Nat}{k:K}{p q:Addr×Value}(h1:xs[i]? = some (k,p))(h2:xs[j]? = some (k,q)):i=j/\p=q:=by
 have e1:(xs.map (·.1))[i]? = some k:=by rw[b6,h1];rfl
 have e2:(xs.map (·.1))[j]? = some k:=by rw[b6,h2];rfl
 obtain⟨l1,g1⟩:=k8.mp e1;obtain⟨l2,g2⟩:=k8.mp e2;have z1:=nd.idxOf_getElem i l1;have z2:=nd.idxOf_getElem j l2;rw[g1]at z1;rw[g2]at z2;have e:i=j:=z1.symm.trans z2;subst e;rw[h1]at h2;exact⟨rfl,(Prod.ext_iff.mp (Option.some.inj h2)).2⟩
end
section
end
end L2
namespace PySem
open Sem (wp)
section
variable {prog:D8}{w:World}{A:T3}{E:Value->l7->Prop}{s:l7}
def Raw(h:Heap)(d:Addr)(es:Array a4C)(ep:Nat):Prop:=∃o,h.get? d=some o/\o.ExactDict/\o.data=.dict es ep
theorem Raw.at{h h':Heap}{d:Addr}{es:Array a4C}{ep:Nat}(x:Raw h d es ep)(e:∀o,h.get? d=some o->h'.get? d=some o):Raw h' d es ep:=let⟨o,h1,r⟩:=x; ⟨o,e _ h1,r⟩
theorem Raw.typeIs{d:Addr}{es:Array a4C}{ep:Nat}(x:Raw s.heap d es ep):s.TypeIs (.ref d) "dict" := let⟨o,h1,h2,_⟩:=x; ⟨o,h1,h2.1⟩
theorem iter_raw{d:Addr}{es:Array a4C}{ep:Nat}{Q:Value->l7->Prop}(hd:(d == a2c)=false)(hm:Raw s.heap d es ep)
  (hQ:Q (.ref s.heap.objs.size) { s with heap:=s.heap.push { cls:=.type "dict_keyiterator",data:=.fields #[.ref d,.int 0 0,.int es.size 0,.int ep 0] } }):wpAny (model prog w) A (pyIter (.ref d)) Q E s:=by
 have hT:=hm.typeIs;obtain⟨o,ho,hc,hdat⟩:=id hm;refine wpAny_pyIter_slot hT F.slot_dict_iter (b2W F.slot_dict_iter hT F.entry_dict_iter ?_ (F.args_dict_iter_1 _));unfold d4t.«dict.__iter__» Builtin.Dict.dictSlotNone;refine d5 (d5 (b3X hT (u5 ?_)));show wpAny _ _ (Builtin.Dict.showsAll d >>= _) _ _ s;unfold Builtin.Dict.showsAll;simp only[hd,b3s,if_false];refine d5 (u5 (d5 (c0F ho hdat (d5 (c5d ho hdat (d5 (a0j (u5 ⟨_,rfl,"dict_keyiterator",_,⟨_,A4 _ rfl,rfl⟩,F.slot_dict_keyiterator_next.lookup,?_⟩))))))));simpa[rawInt]using hQ
theorem next_raw{it d:Addr}{i ep:Nat}{es:Array a4C}{Q:Option Value->l7->Prop}(hit:s.heap.IsKeyIter it d i es.size ep)(hm:Raw s.heap d es ep)(hi:i<es.size)
  (hQ:∀h',h'.IsKeyIter it d (i+1) es.size ep->Heap.SameBut it s.heap h'->Q (some es[i].key) { s with heap:=h' }):wpAny (model prog w) A (b8G (.ref it)) Q E s:=by
 have hT:=hit.typeIs;obtain⟨o,ho,hc,hd⟩:=id hit;obtain⟨od,hod,_,hdd⟩:=hm;have own:Builtin.Dict_items.ownsTuple "dict_keyiterator" = false:=by decide
 unfold b8G;refine d5 (wpAny_attempt (b1L (name:=Str.ofString "__next__") hT F.slot_dict_keyiterator_next (b2W F.slot_dict_keyiterator_next hT F.entry_dict_keyiterator_next ?_ (F.args_dict_keyiterator_next_1 _))));refine d5 (u5 (d5 (d5 (d5 (a2G hT (u5 (d5 (wpAny_fieldsOf ho hd ?_))))))));simp only[own,b3s,if_false];show wpAny _ _ (if(Value.ref d == Value.none)=true then _ else _) _ _ s;have nn:¬(Value.ref d == Value.none)=true:=(w4:¬false=true);rw[if_neg nn];refine d5 (u5 (d5 (c0F hod hdd ?_)));rw[if_neg (by simp)];refine d5 (u5 (d5 (c5d hod hdd ?_)));rw[if_neg (by simp)];refine u5 ?_;simp only[show ¬((i:Int)<0) by omega,if_false,t6,b8E hi];refine d5 (d5 (a2G hT (u5 (d5 (d3c hT ?_)))));show wpAny _ _ (setField (.ref it) 1 (rawInt ((i:Int)+1)) >>= _) _ _ s;refine d5 (wpAny_setField ho hd (by simp) ?_)
 have hit':(s.heap.update it (Obj.mapFields (·.setIfInBounds 1 (rawInt ((i:Int)+1))))).IsKeyIter it d (i+1) es.size ep:=
  ⟨_,c4T _ ho (Obj.isFreed_of_fields (Obj.data_mapFields hd _)),(Obj.cls_mapFields ..).trans hc,by rw[Obj.data_mapFields hd];simp[rawInt]⟩
 refine d5 (a2z (d5 (d3c (s:={ s with heap:=s.heap.update it (Obj.mapFields (·.setIfInBounds 1 (rawInt ((i:Int)+1)))) }) hit'.typeIs ?_)));show wpAny _ _ (pure es[i].key) _ _ _;exact u5 (u5 ⟨_,rfl,u5 (hQ _ hit' (b8z ..))⟩)
theorem end_raw{it d:Addr}{i ep:Nat}{es:Array a4C}{Q:Option Value->l7->Prop}(hh:A.handled=none)(hit:s.heap.IsKeyIter it d i es.size ep)(hm:Raw s.heap d es ep)(hi:es.size<=i)
  (hQ:∀h',Heap.ExtBut it s.heap h'->Q none { s with heap:=h' }):wpAny (model prog w) A (b8G (.ref it)) Q E s:=by
 have hT:=hit.typeIs;obtain⟨o,ho,hc,hd⟩:=id hit;obtain⟨od,hod,_,hdd⟩:=hm;have own:Builtin.Dict_items.ownsTuple "dict_keyiterator" = false:=by decide
 unfold b8G;refine d5 (wpAny_attempt (b1L (name:=Str.ofString "__next__") hT F.slot_dict_keyiterator_next (b2W F.slot_dict_keyiterator_next hT F.entry_dict_keyiterator_next ?_ (F.args_dict_keyiterator_next_1 _))));refine d5 (u5 (d5 (d5 (d5 (a2G hT (u5 (d5 (wpAny_fieldsOf ho hd ?_))))))));simp only[own,b3s,if_false];show wpAny _ _ (if(Value.ref d == Value.none)=true then _ else _) _ _ s;have nn:¬(Value.ref d == Value.none)=true:=(w4:¬false=true);rw[if_neg nn];refine d5 (u5 (d5 (c0F hod hdd ?_)));rw[if_neg (by simp)];refine d5 (u5 (d5 (c5d hod hdd ?_)));rw[if_neg (by simp)];refine u5 ?_;simp only[show ¬((i:Int)<0) by omega,if_false,t6,Array.getElem?_eq_none hi];refine d5 (d5 (a2G hT (u5 ?_)));show wpAny _ _ (setField (.ref it) 0 .none >>= _) _ _ s;refine d5 (wpAny_setField ho hd (by simp) ?_);refine d5 ?_;simp only[newExc,newTuple];refine d5 (a0j ?_ (by size_fits));refine d5 (m:=firstArgMember _ _) (wpAny_of_eq (a:=Value.none) (by simp only[firstArgMember];rfl) (a0j ?_ (by size_fits)));simp only[raiseNew];refine d5 (wpAny_handled ?_);rw[show A.in1.handled=none from hh];refine d5 (u5 (wpAny_throw ?_));refine d5 (wpAny_isInstance (T := "StopIteration") (b:=true) (show Shared.TypeIs _ (.ref _) _ from⟨_,A4 _ rfl,rfl⟩) isSubtype_stop (u5 (hQ _ ?_)));exact((b8z ..).extBut.push _).push _
theorem walks_raw(hh:A.handled=none)(I d:Addr)(hne:d≠I)(es:Array a4C)(ep:Nat) :
  Walks prog w A I [I,d] [I] es.size (fun i v=>∃e,es[i]? = some e/\v=e.key) (fun i h=>h.IsKeyIter I d i es.size ep/\Raw h d es ep) where
 sub:=fun b hb=>by simp at hb;simp[hb]
 frame:=fun _ _ _ st hk=>⟨st.1.at fun o e=>hk I (by simp) o e,st.2.at fun o e=>hk d (by simp) o e⟩
 item:=fun i s Q E hi st hQ=>next_raw st.1 st.2 hi fun h' hit' hs'=>hQ _ h' s.toks ⟨_,b8E hi,rfl⟩ ⟨hit',st.2.at fun o e=>hs'.extBut d o hne e⟩ fun b o hb e=>hs'.extBut b o (fun h=>hb (by simp[h])) e
 done:=fun s Q E st hQ=>end_raw hh st.1 st.2 (j9 _) fun h' he'=>hQ h' s.toks fun b o hb e=>he' b o (fun h=>hb (by simp[h])) e
 self:=fun _ _ _ _ st hQ=>wpAny_pyIter_keyiter st.1 hQ
theorem list_raw{d:Addr}{es:Array a4C}{ep:Nat}(lo:(d == a2c)=false):PySem.W.KdlSrc prog w "dict" d d es.size (fun i v=>∃e,es[i]? = some e/\v=e.key) (fun h=>Raw h d es ep) where
 type:=fun s hm=>Raw.typeIs (s:=s) hm
 there:=fun _ ⟨_,h1,_⟩=>⟨o0 h1,o0 h1⟩
 keep:=fun _ _ hm hk=>hm.at fun o e=>hk d (.inl rfl) o e
 notList:=by decide
 notTuple:=by decide
 hint:=fun _ _ _ _ hm hq=>PySem.W.kdl_hint_dict (Raw.typeIs hm) hq
 iter:=fun _ _ hh hm=>⟨_,_,(fun _ _ hq=>iter_raw lo hm hq),walks_raw hh _ d (A0 (let⟨_,h1,_⟩:=hm;o0 h1)) es ep,⟨⟨_,A4 _ rfl,rfl,rfl⟩,hm.at fun _ e=>g8 _ e⟩⟩
end
end PySem
namespace L2
open PySem PySem.Spec PyProof.Rows
section
variable {X:Cx}
end
end L2
namespace PySem
open Sem (wp)
section
variable {prog:D8}{w:World}{K:Type}[DecidableEq K]{knd:HeapKind prog w K}{A:T3}{s:l7}{R:d0a->l7->Prop}
def Lasts(knd:HeapKind prog w K):Prop:=∀(h h':Heap) k a,knd.is h k a->(∀o,h.get? a=some o->h'.get? a=some o)->knd.is h' k a
theorem dofh_move{h h':Heap}{d:Addr}{xs:List (K×Addr×Value)}(L:Lasts knd)(hm:h.DictOfH knd d xs)(hd:∀o,h.get? d=some o->h'.get? d=some o)(hk:∀x∈xs,∀o,h.get? x.2.1=some o->h'.get? x.2.1=some o):h'.DictOfH knd d xs:=by
 obtain⟨o,es,ep,h1,h2,h3,h4,h5,h6⟩:=hm;exact⟨o,es,ep,hd _ h1,h2,h3,h4,fun x hx=>L _ _ _ _ (h5 x hx) (hk x hx),h6⟩
theorem take_new{ps:List (K×Addr×Value)}(nd:(ps.map (·.1)).Nodup){i:Nat}{k:K}{p:Addr×Value}(h:ps[i]? = some (k,p)):atKey (ps.take i) k=none:=atKey_none_of_get fun j q hj=>by
 have hji:j<i:=by
  have:=(k8.mp hj).1;rw[C5]at this;omega
 rw[a3x hji]at hj;have:=(L2.c7w nd hj h).1;omega
theorem update_loop_h{d I l:Addr}{items:Array Value}{ps:List (K×Addr×Value)}(L:Lasts knd)(hu:knd.room A.in1)(hh:A.handled=none)(nd:(ps.map (·.1)).Nodup)(hdI:d≠I)(hld:l≠d)(hlI:l≠I)(hn:items.size=ps.length)(hsz:ps.length<=u7)(res:Value){h₁:Heap}(hl:h₁.IsList l items)
  (hp:∀(i:Nat) k c v,ps[i]? = some (k,c,v)->∃p n dd ss,items[i]? = some (.ref p)/\h₁.get? p=some ⟨.type "tuple",dd,.seq #[.ref c,v] n,ss⟩/\knd.is h₁ k c/\p≠d/\p≠I/\c≠d/\c≠I)
  (hR:∀h' tk,(∀b o,b≠d->b≠I->h₁.get? b=some o->h'.get? b=some o)->h'.DictOfH knd d ps->R (.ok (.ret res)) { s with heap:=h',toks:=tk }) :
  ∀(m i:Nat) (h:Heap) (tk:Nat) (u:Tok),ps.length - i=m->i<=ps.length->h.IsListIter I l i->h.DictOfH knd d (ps.take i)->(∀b o,b≠d->b≠I->h₁.get? b=some o->h.get? b=some o) ->
   a6Z (model prog w) A (.builtin "dict.update.loop" ⟨[.ref d,.ref I,.int (i:Int) u,res],[]⟩) R { s with heap:=h,toks:=tk }:=by
 intro m
 have cI:∀(i:Nat),∀x∈ps.take i,x.2.1≠I/\x.2.1≠d:=fun i x hx=>by
  obtain⟨j,hj⟩:=i9.mp (c4Z hx);obtain⟨p,n,dd,ss,_,_,_,_,_,e1,e2⟩:=hp j x.1 x.2.1 x.2.2 hj;exact⟨e2,e1⟩
 induction m with
 | zero=>
  intro i h tk u hm hi hit hD hkeep;have hin:i=ps.length:=by omega
  subst hin;obtain⟨ol,hol,hcl,nl,hdl⟩:=id hl;have hl':h.IsList l items:=⟨ol,hkeep _ _ hld hlI hol,hcl,nl,hdl⟩;refine b4a F.entry_update_loop ?_
  rw[Around.under_plainId F.plain_update_loop _];show wpAny _ A.in1 (b8G (.ref I) >>= _) _ _ _;refine d5 (b3W (s:={ s with heap:=h,toks:=tk }) (A:=A.in1) hh hit hl' (by simp[hn]) fun h' he=>?_);refine d5 (u5 (u5 (hR h' tk (fun b o h1 h2 e=>he b o h2 (hkeep b o h1 h2 e)) ?_)));have c:=cI ps.length;rw[J5]at hD c;exact dofh_move L hD (fun o e=>he _ _ hdI e) fun x hx o e=>he _ _ (c x hx).1 e
 | succ m ih=>
  intro i h tk u hm hi hit hD hkeep;have hlt:i<ps.length:=by omega
  obtain⟨⟨k,c,x⟩,hx⟩:∃p,ps[i]? = some p:=⟨ps[i],c8 hlt⟩;obtain⟨p,n,dd,ss,e1,e2,e3,e4,e5,e6,e7⟩:=hp i k c x hx;obtain⟨ol,hol,hcl,nl,hdl⟩:=id hl;have hl':h.IsList l items:=⟨ol,hkeep _ _ hld hlI hol,hcl,nl,hdl⟩;refine b4a F.entry_update_loop ?_
  rw[Around.under_plainId F.plain_update_loop _];show wpAny _ A.in1 (b8G (.ref I) >>= _) _ _ _;refine d5 (b3t (s:={ s with heap:=h,toks:=tk }) (A:=A.in1) hit hl' e1 fun h' hit' sb=>?_);have e2':h'.get? p=some ⟨.type "tuple",dd,.seq #[.ref c,x] n,ss⟩:=(sb.2 p e5).trans (hkeep _ _ e4 e5 e2);have e3':knd.is h' k c:=L _ _ _ _ e3 fun o e=>(sb.2 c e7).trans (hkeep _ _ e6 e7 e)
  refine d5 (a2z (d5 (wpAny_tryCatch ?_)));unfold Builtin.Dict.pairItems;refine d5 (b3V (show({ s with heap:=h',toks:=tk }:l7).TypeIs (.ref p) "tuple" from⟨_,e2',rfl⟩) ?_);rw[if_pos (by decide)];refine d5 (wpAny_seqItems e2' rfl (u5 ?_));have hD':h'.DictOfH knd d (ps.take i):=dofh_move L hD (fun o e=>(sb.2 d hdI).trans e) fun x hx o e=>(sb.2 _ (cI i x hx).1).trans e
  show wpAny _ _ (a4d [.ref c,x] (dictSet d (.ref c) x)) _ _ _;refine a2z (wpAny_dictSet_heap (s:={ s with heap:=h',toks:=tk }) (hsz:=by rw[C5];omega) hu e3' hD' fun h'' hD'' sb2=>?_);refine u5 ⟨b8H F.plain_update_loop _,?_⟩;have tk1:ps.take (i+1)=ps.take i++[(k,c,x)]:=by rw[F3,hx];rfl
  rw[storedH_new (take_new nd hx)]at hD'';refine ih (i+1) h'' _ _ (by omega) hlt ?_ (by rw[tk1];exact hD'') fun b o h1 h2 e=>(sb2.2 b h1).trans ((sb.2 b h2).trans (hkeep b o h1 h2 e))
  obtain⟨oi,g1,g2,g3⟩:=hit';exact⟨oi,(sb2.2 I (Ne.symm hdI)).trans g1,g2,g3⟩
end
section
variable {prog:D8}{w:World}{K:Type}[DecidableEq K]{knd:HeapKind prog w K}{A:T3}{E:Value->l7->Prop}{s:l7}
theorem call_dict_pairs_h{l:Addr}{items:Array Value}{n:Nat}{sl:Array (Option Value)}{ps:List (K×Addr×Value)}{Q:Value->l7->Prop}(L:Lasts knd)(hu:knd.room A.in1.in1)(hh:A.handled=none)(nd:(ps.map (·.1)).Nodup)(hl:s.heap.get? l=some ⟨.type "list",none,.seq items n,sl⟩)(hn:items.size=ps.length)(hsz:ps.length<=u7)
  (hp:∀(i:Nat) k c v,ps[i]? = some (k,c,v)->∃p n dd ss,items[i]? = some (.ref p)/\s.heap.get? p=some ⟨.type "tuple",dd,.seq #[.ref c,v] n,ss⟩/\knd.is s.heap k c/\∃o,s.heap.get? c=some o)
  (h:∀h' tk,(∀b o,s.heap.get? b=some o->h'.get? b=some o)->h'.DictOfH knd s.heap.objs.size ps->Q (.ref s.heap.objs.size) { s with heap:=h',toks:=tk }) :
  wpAny (model prog w) A (call (.type "dict") [.ref l]) Q E s:=by
 refine callType_codes (Q₁:=fun obj s₁=>obj=.ref s.heap.objs.size/\s₁={ s with heap:=s.heap.push { cls:=.type "dict",data:=.dict #[] } }) F.kt_called_dict (F.kt_typeCall_dict_1 _) F.entry_dict_init (kt_code_dict_new _ ⟨rfl,rfl⟩) ?_
 rintro obj s₁ ⟨rfl,rfl⟩;have hnew:(s.heap.push { cls:=.type "dict",data:=.dict #[] }).DictOfH knd s.heap.objs.size []:=Heap.DictOfH.new s.heap;have hT:({ s with heap:=s.heap.push { cls:=.type "dict",data:=.dict #[] } }:l7).TypeIs (.ref s.heap.objs.size) "dict" := ⟨_,A4 _ rfl,rfl⟩;have hl1:(s.heap.push { cls:=.type "dict",data:=.dict #[] }).get? l=some ⟨.type "list",none,.seq items n,sl⟩:=g8 _ hl;refine⟨hT,F.args_dict_init_2 _ _,?_⟩;unfold d4t.«dict.__init__» Builtin.Dict.selfAndRest;refine d5 (d5 (b3X hT (u5 ?_)));show wpAny _ _ (Builtin.Dict.updateFrom "dict.__init__" s.heap.objs.size (.ref l) [] .none) _ _ _;unfold Builtin.Dict.updateFrom;refine d5 (b3V (show({ s with heap:=s.heap.push { cls:=.type "dict",data:=.dict #[] } }:l7).TypeIs (.ref l) "list" from⟨_,hl1,rfl⟩) ?_);rw[if_pos (by decide)];refine d5 (keys_attr_list (A:=A.in1.in1) hh hl1 fun h2 t2 k2=>?_);rw[if_pos (show(none:Option Value).isNone=true from rfl)];refine d5 (wpAny_rule ?_);have hl2:h2.IsList l items:=⟨_,k2 _ _ hl1,rfl,n,rfl⟩;refine d5 (a6l (s:={ s with heap:=h2,toks:=t2 }) hl2 ?_)
 have hdlt:s.heap.objs.size<h2.objs.size:=by
  obtain⟨o,es,ep,ho,_⟩:=hnew;exact o0 (k2 _ _ ho)
 have up:∀b o,s.heap.get? b=some o->(h2.push { cls:=.type "list_iterator",data:=.fields #[.ref l,.int 0 0] }).get? b=some o:=fun b o e=>g8 _ (k2 _ _ (g8 _ e))
 have ne1:∀b o,s.heap.get? b=some o->b≠s.heap.objs.size/\b≠h2.objs.size:=fun b o e=>⟨A0 (o0 e),A0 (o0 (k2 _ _ (g8 _ e)))⟩
 refine u5 ⟨b8H F.plain_update_loop _,?_⟩;have hD2:(h2.push { cls:=.type "list_iterator",data:=.fields #[.ref l,.int 0 0] }).DictOfH knd s.heap.objs.size (ps.take 0):=dofh_move L hnew (fun o e=>g8 _ (k2 _ _ e)) fun x hx=>nomatch hx
 refine update_loop_h (s:=s) (A:=A.in1) (knd:=knd) (d:=s.heap.objs.size) (I:=h2.objs.size) (ps:=ps) L hu hh nd (A0 hdlt) (ne1 l _ hl).1 (ne1 l _ hl).2 hn hsz .none ?_ (fun i k c v e=>?_) (fun h' tk kp hd=>⟨rfl,h h' tk (fun b o e=>kp b o (ne1 b o e).1 (ne1 b o e).2 (up _ _ e)) hd⟩) ps.length 0 _ _ _ (by omega) (P8 _) ⟨_,A4 _ rfl,rfl,rfl⟩ hD2 fun b o _ _ e=>e
 ·exact⟨_,up _ _ hl,rfl,n,rfl⟩
 ·obtain⟨p,m,dd,ss,a1,a2,a3,o,a4⟩:=hp i k c v e
  exact⟨p,m,dd,ss,a1,up _ _ a2,L _ _ _ _ a3 fun o e=>up _ _ e,(ne1 p _ a2).1,(ne1 p _ a2).2,(ne1 c _ a4).1,(ne1 c _ a4).2⟩
theorem tuple_lasts{K:Type}[DecidableEq K](kk:KeyKind prog w K):Lasts (a4B kk):=fun h h' k a ⟨o,its,n,h1,r⟩ e=>⟨o,its,n,e _ h1,r⟩
end
end PySem
namespace L2
open PySem PySem.Spec PyProof.Rows
variable{X:Cx}{H:Hp}{a:Addr}{h:Heap}{ys:List (List Key×Addr×Value)}
section
end
section
variable {pins:List (Addr×Obj)}{σ:St}{s:l7}
end
abbrev XE:=List Key×Addr×V
variable{xs:List XE}
def d2N(k:List Key):Prop:=∀y∈k,∃i:Int,y=Sum.inl i
theorem c4w{P P':D8}{w w':World}(x:List Key×Addr×Value)(h:d2N x.1):c9Z (a4B (P0 P w)) x=c9Z (a4B (P0 P' w')) x:=by
 have e:x.1.map (P0 P w).hash=x.1.map (P0 P' w').hash:=a3v fun y hy=>by
  obtain⟨i,rfl⟩:=h y hy;rfl
 show DictEntry.mk (reduceHash (Builtin.Tuple.tupleHashOf (x.1.map (P0 P w).hash))) _ _=DictEntry.mk (reduceHash (Builtin.Tuple.tupleHashOf (x.1.map (P0 P' w').hash))) _ _
 rw[e]
abbrev XR:List XE->List (List Key×Addr×Value)->Prop:=Paired fun p q=>p.1=q.1/\p.2.1=q.2.1/\K8 p.2.2 q.2.2
def b8u(h:Heap)(a:Addr)(xs:List XE):Prop:=xs.length<=u7/\(a == a2c)=false/\(xs.map (·.1)).Nodup/\(∀x∈xs,d2N x.1)/\∃ys,XR xs ys/\∃(P:D8) (w:World) (o:Obj) (es:Array a4C) (ep:Nat),h.get? a=some o/\o.ExactDict/\o.data=.dict es ep/\es.toList=ys.map (c9Z (a4B (P0 P w)))
def dX(a:Addr)(xs:List XE):HO:=.ext fun h=>b8u h a xs
theorem b8u.there(x:b8u h a xs):∃o,h.get? a=some o:=by
 obtain⟨_,_,_,_,_,_,_,_,o,_,_,e,_⟩:=x;exact⟨o,e⟩
theorem b8u.stay{h':Heap}(x:b8u h a xs)(k:∀o,h.get? a=some o->h'.get? a=some o):b8u h' a xs:=by
 obtain⟨z,y,nd,ik,ys,r,P,w,o,es,ep,e,c⟩:=x;exact⟨z,y,nd,ik,ys,r,P,w,o,es,ep,k _ e,c⟩
theorem b8u.ok{P:D8}{w:World}(x:b8u h a xs):a0v P w H h a (dX a xs):=⟨x,x.there,fun _ _ q k=>q.stay k⟩
def c0y(K:Fg)(H:Hp)(xs:List XE):Prop:=∀x∈xs,SqT K H x.2.1 (x.1.map kV)
section
variable {pins:List (Addr×Obj)}{σ:St}{s:l7}{b:Addr}{k:List Key}
theorem b7S(I:Inv X pins σ H s)(h:SqT X.K H b (k.map kV)):(a4B (P0 X.prog X.w)).is s.heap k b:=by
 obtain⟨its,r,⟨o,h1,h2,n,h3⟩,_⟩:=I.tuple h;exact⟨o,its.toArray,n,h1,h2,h3,by simpa using b2H r⟩
theorem b7h:∀ {xs:List XE} {ys:List (List Key×Addr×Value)},XR xs ys->xs.map (·.1)=ys.map (·.1)
 | [],_,.nil=>rfl
 | p::xs,_,.cons (b:=q) r t=>by rw[D5,D5,r.1,b7h t]
theorem c5w:∀ {xs:List XE} {ys:List (List Key×Addr×Value)},XR xs ys->∀y∈ys,∃x∈xs,x.1=y.1/\x.2.1=y.2.1/\K8 x.2.2 y.2.2
 | [],_,.nil,y,h=>by cases h
 | p::xs,_,.cons (b:=q) r t,y,h=>by
  rcases u6.mp h with rfl | h
  ·exact⟨p,J8,r⟩
  ·obtain⟨x,hx,z⟩:=c5w t y h
   exact⟨x,E9 _ hx,z⟩
theorem d0t(I:Inv X pins σ H s)(e:H a=some (dX a xs))(hk:c0y X.K H xs):xs.length<=u7/\(a == a2c)=false/\∃ys,XR xs ys/\s.heap.DictOfH (a4B (P0 X.prog X.w)) a ys:=by
 obtain⟨⟨z,y,nd,ik,ys,r,P,w,o,es,ep,e1,e2,e3,e4⟩,_⟩:=(show a0v X.prog X.w H s.heap a (dX a xs)from I.hok a _ e);refine⟨z,y,ys,r,o,es,ep,e1,e2,e3,e4.trans (a3v fun q hq=>c4w q (by obtain⟨x,hx,z,_⟩:=c5w r q hq;rw[<-z];exact ik x hx)),fun y hy=>?_,?_⟩
 ·obtain⟨x,hx,q1,q2,_⟩:=c5w r y hy
  have:=b7S I (hk x hx);rw[q1,q2]at this;exact this
 ·rw[<-b7h r];exact nd
def c0J(xs:List XE)(k:List Key):Option V:=(xs.find? fun x=>decide (x.1=k)).map (·.2.2)
theorem c5u:∀ {xs:List XE} {ys:List (List Key×Addr×Value)},XR xs ys->∀k,a7U (c0J xs k) ((atKey ys k).map (·.2))
 | [],_,.nil,k=>trivial
 | p::xs,_,.cons (b:=q) r t,k=>by
  have ih:=c5u t k;unfold c0J atKey at ih ⊢;rw[a0x,a0x];by_cases e:p.1=k
  ·have e':q.1=k:=r.1.symm.trans e
   simp only[e,e',decide_true];exact r.2.2
  ·have e':¬q.1=k:=fun z=>e (r.1.trans z)
   simp only[e,e',decide_false];exact ih
end
def c7W(K:Fg)(neg:Bool)(ti to:TE):TE:=fun σ H Q=>ti σ H fun y H1=>to σ H1 fun x H2=>∃a b xs k,x=.ref a/\y=.ref b/\H2 a=some (dX a xs)/\c0y K H2 xs/\SqT K H2 b (k.map kV)/\Q (.bl (if neg then !(c0J xs k).isSome else (c0J xs k).isSome)) H2
def b7F(K:Fg):List V->Hp->VK->Prop:=fun vs H Q=>∃a xs,vs=[.ref a]/\H a=some (dX a xs)/\c0y K H xs/\∀l,H l=none->Q (.ref l) (upd H l (.lst (xs.map fun x=>V.ref x.2.1)))
def c1n(K:Fg):List V->Hp->VK->Prop:=fun vs H Q=>∃a us xs,vs=[.ref a]/\H a=some (.lst us)/\us.length=(xs:List XE).length /\
 (∀(i:Nat) x,xs[i]? = some x->∃p,us[i]? = some (.ref p)/\H p=some (.tup [.ref x.2.1,x.2.2]))/\c0y K H xs/\(xs.map (·.1)).Nodup/\(∀x∈xs,d2N x.1)/\∀p,H p=none->Q (.ref p) (upd H p (dX p xs))
section
variable {i o:Expr}{ti to:TE}
theorem c3J{o:Option V}{u:Option Value}(h:a7U o u):o.isSome=u.isSome:=h.isSome_eq
theorem c3S(hu:X.A.units+1<cLine)(hi:PE X i ti)(ho:PE X o to):PC X .NotIn i o (c7W X.K true ti to):=by
 intro pins s σ H Q I h;refine thn (hi pins s σ H _ I h) fun iv s1 ⟨y,H1,I1,ry,q1⟩=>thn (ho pins s1 σ H1 _ I1 q1) fun u s2 ⟨x,H2,I2,rx,a,b,xs,k,ex,ey,ea,hk,hb,q2⟩=>?_
 subst ex ey;cases rx;cases ry;obtain⟨_,hd,ys,r,dd⟩:=d0t I2 ea hk;refine wpAny_notIn_heap (a5t hu) (b7S I2 hb) hd dd ?_;have q:=c3J (c5u r k);rw[a4a]at q;rw[<-q];exact⟨.bl (!(c0J xs k).isSome),H2,I2.tok _,rfl,q2⟩
theorem c5v(r:XR xs ys):xs.length=ys.length:=Paired.length r
theorem c0I:∀ {xs:List XE} {ys:List (List Key×Addr×Value)} {i:Nat} {y:List Key×Addr×Value},XR xs ys->ys[i]? = some y->∃x,xs[i]? = some x/\x.1=y.1/\x.2.1=y.2.1/\K8 x.2.2 y.2.2
 | [],_,i,y,.nil,e=>by cases e
 | p::xs,_,0,y,.cons (b:=q) r t,e=>by cases e;exact⟨p,rfl,r⟩
 | p::xs,_,i+1,y,.cons (b:=q) r t,e=>c0I (i:=i) t e
theorem c0p(hc:X.calm=true):a0Y X (.type "list") (b7F X.K):=fun pins s σ H vs us Q I r h=>by
 obtain⟨a,xs,rfl,ha,hk,q⟩:=h;obtain⟨u,rfl,ru⟩:=a8f r;cases ru;obtain⟨hz,hd,ys,rk,o,es,ep,e1,e2,e3,e4,_⟩:=d0t I ha hk;have hl:=c5v rk;have hs:es.size=ys.length:=size_of_entries e4;refine c7F (list_raw (es:=es) (ep:=ep) hd) (I.ok.hd hc) ⟨o,e1,e2,e3⟩ (by omega) fun h' tk acc c hkp hacc hit=>?_
 refine⟨.ref _,_,I.laid (t':=tk) (a:=s.heap.objs.size) (o:=.lst (xs.map fun x=>V.ref x.2.1)) hkp (j9 _) ?_,rfl,q _ (I.hok.fresh (j9 _))⟩;refine⟨by rw[b9];omega,acc.toList,c,?_,by simpa using hacc⟩;refine b7j (by have:=hit.1;rw[b9];simp;omega) fun i x u a b=>?_
 obtain⟨en,g1,g2⟩:=hit.2 i u (by rw[<-a0Q];exact b);rw[<-a0Q,e4,b6]at g1;obtain⟨y,hy,rfl⟩:=A1.mp g1;obtain⟨z,hz1,_,hz3,_⟩:=c0I rk hy;rw[b6,hz1]at a;cases a;rw[g2];show Value.ref y.2.1=Value.ref z.2.1;rw[hz3]
theorem b4L{P:D8}{w:World}(ok:HOk P w H h):∀(xs:List XE) (us:List V) (its:List Value),us.length=xs.length->(∀(i:Nat) x,xs[i]? = some x->∃p,us[i]? = some (.ref p)/\H p=some (.tup [.ref x.2.1,x.2.2]))->L1 us its ->
  ∃ps,XR xs ps/\∀(i:Nat) k c v,ps[i]? = some (k,c,v)->∃p n dd ss,its[i]? = some (.ref p)/\h.get? p=some ⟨.type "tuple",dd,.seq #[.ref c,v] n,ss⟩
 | [],_,_,_,_,_=>⟨[],.nil,fun i k c v e=>by simp at e⟩
 | x::xs,[],_,l,_,_=>by cases l
 | x::xs,v::vs,its,l,hp,rv=>by
  cases rv with
  | cons r0 rv=>
   rename_i u its
   obtain⟨p,e1,e2⟩:=hp 0 x rfl;cases e1;cases r0;obtain⟨ps,q1,q2⟩:=b4L ok xs vs its (by simpa using l) (fun i k e=>hp (i+1) k e) rv;obtain⟨_,js,rj,o,g1,g2,n,g3⟩:=(show a0v P w H h p (.tup [.ref x.2.1,x.2.2])from ok p _ e2);obtain⟨u1,u2,rfl,r1,r2⟩:=b8U rj;cases r1;refine⟨(x.1,x.2.1,u2)::ps,.cons ⟨rfl,rfl,r2⟩ q1,fun i k' c' v' e=>?_⟩;cases i with
   | zero=>
    cases e;refine⟨p,n,o.dict,o.slots,rfl,?_⟩;rw[g1];cases o;cases g2;cases g3;rfl
   | succ i=>exact q2 i k' c' v' e
theorem c0r(hc:X.calm=true)(hr:X.A.units+2<cLine):a0Y X (.type "dict") (c1n X.K):=fun pins s σ H vs us Q I r h=>by
 obtain⟨a,ws,xs,rfl,hl,hn,hp,hk,nd,ik,q⟩:=h;obtain⟨u,rfl,ru⟩:=a8f r;cases ru;obtain⟨hz,its,n,rv,hg⟩:=(show a0v X.prog X.w H s.heap a (.lst ws)from I.hok a _ hl);have li:=Paired.length rv;obtain⟨ps,rel,hps⟩:=b4L I.hok xs ws its hn hp rv;have hpl:=c5v rel;have hnd:(ps.map (·.1)).Nodup:=by rw[<-b7h rel];exact nd
 refine call_dict_pairs_h (knd:=a4B (P0 X.prog X.w)) (ps:=ps) (tuple_lasts _) (show X.A.units+1+1<cLine by omega) (I.ok.hd hc) hnd hg (by simp;omega) (by omega) (fun i k c v e=>by
  obtain⟨p,m,dd,ss,a1,a2⟩:=hps i k c v e;obtain⟨x,hx,z1,z2,_⟩:=c0I rel e;have ky:=b7S I (hk x (a1p hx));rw[z1,z2]at ky;exact⟨p,m,dd,ss,by simpa using a1,a2,ky,let⟨o,_,_,z,_⟩:=ky; ⟨o,z⟩⟩) fun h' tk kp dd=>?_
 have hf:=I.hok.fresh (j9 s.heap.objs.size);obtain⟨o,es,ep,d1,d2,d3,d4,_,d6⟩:=dd;have dx:b8u h' s.heap.objs.size xs:=⟨by omega,beq_eq_false_iff_ne.mpr (Ne.symm (A0 I.big)),nd,ik,ps,rel,X.prog,X.w,o,es,ep,d1,d2,d3,d4⟩;exact⟨.ref s.heap.objs.size,_,I.laid (a:=s.heap.objs.size) (o:=dX s.heap.objs.size xs) (t':=tk) (fun b o hb=>kp b o hb) (j9 _) dx.ok,rfl,q _ hf⟩
end
section
end
end L2
namespace Y
open PySem PySem.Spec PyProof.Rows L2
structure y'E(X:Cx)(e:Expr)(t:TE):Prop where h:PE X e t
structure y'A(X:Cx)(e:List Expr)(t:TA):Prop where h:PA X e t
structure y'S(X:Cx)(e:Stmt)(t:TS):Prop where h:PS X e t
structure b5Q(X:Cx)(e:List Stmt)(t:TS):Prop where h:PSs X e t
structure y'T(X:Cx)(e:Expr)(t:TT):Prop where h:PT X e t
structure y'W(X:Cx)(e:Expr)(t:TT):Prop where h:PW X e t
structure c3o(X:Cx)(e:List Expr)(t:TT):Prop where h:PTs X e t
structure b4g(X:Cx)(tg e:Expr)(t:TI):Prop where h:PI X tg e t
structure y'G(X:Cx)(e:Expr)(t:TG):Prop where h:PG X e t
structure c7S(X:Cx)(e:List Expr)(t:TGs):Prop where h:PGs X e t
structure y'O(X:Cx)(e:Option Expr)(t:TO):Prop where h:PO X e t
structure a0K(X:Cx)(f:Value->Value->Sem Value)(r:R2):Prop where h:OpR X f r
structure d0d(X:Cx)(f:Value->Sem Value)(r:V->Hp->VK->Prop):Prop where h:UnR X f r
structure a1l(X:Cx)(f:Value)(r:List V->Hp->VK->Prop):Prop where h:a0Y X f r
structure b0E(X:Cx)(id:String)(r:V->List V->Hp->VK->Prop):Prop where h:MtR X id r
structure c5r(X:Cx)(r:R2):Prop where h:IxR X r
structure c5q(X:Cx)(r:V->Option Int->Option Int->Hp->VK->Prop):Prop where h:SlR X r
structure c0H(X:Cx)(t:b6q):Prop where h:c7y X t
structure c5t(X:Cx)(t:V->V->Hp->VK->Prop):Prop where h:d2J X t
structure c5s(X:Cx)(op:b5J)(t:TIp):Prop where h:PIp X op t
section
variable {X:Cx}{st:Stmt}{a7p:List Stmt}{t u:TS}{e a b c o i:Expr}{es more:List Expr}{te ta tb tc to ti:TE}{tt tu:TT}{tr:TA}{pos p pos':Pos}{x:Str}
theorem o7:b5Q X [] C9:=⟨L2.c8y⟩
theorem b5(h1:y'S X st t)(h2:b5Q X a7p u):b5Q X (st::a7p) (u8 t u):=⟨L2.c6q h1.h h2.h⟩
theorem c6(h1:y'S X st t):b5Q X [st] t:=⟨L2.c8x h1.h⟩
theorem c5j{n:Nat}(hN:X.N.Nodup)(hi:X.N[n]? = some x)(hx:Loc X.env.scope x)(he:y'E X e te)(hs:a3A e (some (.Name x pos')) pos.line X.env=pure false:=by rfl)(hf:X.fn x=true\/X.env.scope.names.lookup x=some .local:=by first | exact .inl rfl | exact .inr rfl) :
  y'S X (.Assign [.Name x pos'] e pos) (F0 te (t9 n)):=⟨L2.d1o hN hi hx he.h hs hf⟩
theorem a6w{tg:Expr}{g:TG}(he:y'E X e te)(hg:y'G X tg g)(hs:swapsWithSole [tg] e pos.line X.env=pure false:=by rfl)(hw:swappedStores [tg] e X.env=pure none:=by rfl)
  (h1:(a3W [tg] X.env).map (·.2)=[a9q tg X.env]:=by rfl):y'S X (.Assign [tg] e pos) (F0 te g):=⟨L2.d1t he.h hg.h hs hw h1⟩
theorem c3h{tget:V->V->Hp->VK->Prop}{tip:TIp}{tset:b6q}{op:b5J}(ho:y'E X o to)(hi:y'E X i ti)(hg:c5t X tget)(he:y'E X e te)(hp:c5s X op tip)(hs:c0H X tset)
  (ha:∀ov iv new,augStore i ov iv new=(do a4d [new,ov,iv] (d0D ov iv new);release [new,ov,iv] [];pure .next):=by intros;rfl):y'S X (.AugAssign (.Subscript o i p) op e pos) (c2v to ti te tget tip tset):=⟨L2.c8B ho.h hi.h hg.h he.h hp.h hs.h ha⟩
theorem b0A{n:Nat}{op:b5J}{tip:TIp}(hN:X.N.Nodup)(hi:X.N[n]? = some x)(hx:Loc X.env.scope x)(he:y'E X e te)(ho:c5s X op tip)(hf:X.fn x=true\/X.env.scope.names.lookup x=some .local:=by first | exact .inl rfl | exact .inr rfl) :
  y'S X (.AugAssign (.Name x pos') op e pos) (c0P n te tip):=⟨L2.d1s hN hi hx he.h ho.h hf⟩
theorem v8{la lb:List Stmt}(hc:y'T X c tt)(ha:b5Q X la t)(hb:b5Q X lb u):y'S X (.If c la lb pos) (L6 tt t u):=⟨L2.d3H hc.h ha.h hb.h⟩
theorem g9(he:y'E X e te):y'S X (.Return (some e) pos) (E1 te):=⟨L2.d1p he.h⟩
theorem E6(he:y'E X e te)(hs:a3A e none pos.line X.env=pure false:=by rfl):y'S X (.Expr e pos) (V7 te):=⟨L2.c8z he.h hs⟩
theorem G0{tg:Expr}{wi:TI}{g:TG}{body:List Stmt}(hp:d3i (model X.prog X.w) X.A X.env X.xe)(hc:X.calm=true)(hi:b4g X tg e wi)(hg:y'G X tg g)(hb:b5Q X body t)
  (hs:∀x,Y0 e X.env x=pure x:=by intro _;rfl):y'S X (.For tg e body [] pos) (a1R wi g t):=⟨L2.d1q hp hc hi.h hg.h hb.h hs⟩
theorem c3i{n:Nat}(hN:X.N.Nodup)(hi:X.N[n]? = some x)(hx:Loc X.env.scope x)(hf:X.fn x=true\/X.env.scope.names.lookup x=some .local:=by first | exact .inl rfl | exact .inr rfl):y'G X (.Name x pos) (t9 n):=⟨L2.b7H hN hi hx hf⟩
theorem a4g:c7S X [] b5p:=⟨L2.c2C⟩
theorem U5{g:TG}{gs:TGs}(h1:y'G X e g)(h2:c7S X es gs)(h:(a3W (e::es) X.env).map (·.2)=a9q e X.env::(a3W es X.env).map (·.2):=by rfl):c7S X (e::es) (a2Q g gs):=⟨L2.b4J h1.h h2.h h⟩
theorem a5w{k n:Nat}{gs:TGs}(hc:X.calm=true)(h:c7S X es gs)(hn:(a3W es X.env).length=n:=by rfl)(hst:(a3W es X.env).findIdx? (·.1)=none:=by rfl):y'G X (.Tuple es k pos) (b5o X.K n gs):=⟨L2.c6w hc h.h hn hst⟩
theorem a8b{ts:b6q}(ho:y'E X o to)(hi:y'E X i ti)(hs:c0H X ts)
  (ha:∀v,a9q (.Subscript o i pos) X.env v=(do
   let ov <-a4d [v] (eval o X.env)
   let iv <-a4d [v,ov] (eval i X.env)
   b3Z pos
   a4d [v,ov,iv] (d0D ov iv v)
   release [v,ov,iv] []):=by intro _;rfl):y'G X (.Subscript o i pos) (b7X to ti ts):=⟨L2.d1w ho.h hi.h hs.h ha⟩
theorem O7{tg:Expr}(hg:Gl X "range")(hm:X.mg "range" = none)(ha:y'A X [a] tr)(hs:l6 [a] X.env=[(false,eval a X.env)]:=by rfl):b4g X tg (.Call (.Name "range" p) [a] [] pos) (a3Q tr):=⟨L2.c3Q hg hm ha.h hs⟩
theorem E7{tg:Expr}(h:y'E X e te):b4g X tg e (U2 X.K te):=⟨L2.c8G h.h⟩
theorem Y1:y'A X [] d7:=⟨L2.d1K⟩
theorem X3(ha:y'E X e te)(hr:y'A X es tr)(hs:l6 (e::es) X.env=(false,eval e X.env)::l6 es X.env:=by rfl):y'A X (e::es) (a9 te tr):=⟨L2.c8S ha.h hr.h hs⟩
theorem M3:c3o X [] a0e:=⟨L2.c8v⟩
theorem b1O(h:y'T X e tt):c3o X [e] tt:=⟨L2.c8u h.h⟩
theorem O6{elt iter:Expr}{px:Pos}{ifs:List Expr}{scope:Scope}{wi:TI}(hc:V6 X.N X.env.scope scope x)(hcalm:X.calm=true)(hi:b4g X (.Name x px) iter wi)
  (ht:∀cl C fp s3 H3,c3o (a0N X scope cl C x fp s3 H3) ifs tt) (he:∀cl C fp s3 H3,y'E (a0N X scope cl C x fp s3 H3) elt te)
  (hs:∀x,Y0 iter X.env x=pure x:=by intro _;rfl):y'E X (.ListComp elt [⟨.Name x px,iter,ifs,0⟩] scope pos) (a0f wi tt te):=
 ⟨L2.c8O hc hcalm hi.h (fun cl C fp s3 H3=>(ht cl C fp s3 H3).h) (fun cl C fp s3 H3=>(he cl C fp s3 H3).h) hs⟩
theorem b0z{elt iter:Expr}{px py spos:Pos}{ifs:List Expr}{scope:Scope}{wi:TI}{n:Nat}{y:Str}(hN:X.N.Nodup)(hiy:X.N[n]? = some y)(hy:X.env.scope.names.lookup y=some .local)(hc:V6 X.N X.env.scope scope x)(hcalm:X.calm=true)(hi:b4g X (.Name x px) iter wi)
  (ht:∀cl C fp s3 H3,c3o (a0N X scope cl C x fp s3 H3) ifs tt) (he:∀cl C fp s3 H3,y'E (a0N X scope cl C x fp s3 H3) elt te)
  (hsw:a3A (.ListComp elt [⟨.Name x px,iter,ifs,0⟩] scope pos) (some (.Name y py)) spos.line X.env=pure true:=by rfl)
  (hs:∀x,Y0 iter X.env x=pure x:=by intro _;rfl) :
  y'S X (.Assign [.Name y py] (.ListComp elt [⟨.Name x px,iter,ifs,0⟩] scope pos) spos) (fun D σ H=>a0f wi tt te σ H fun v H1=>D.nx (σ.set n (some v)) H1):=
 ⟨L2.c1s hN hiy hy hc hcalm hi.h (fun cl C fp s3 H3=>(ht cl C fp s3 H3).h) (fun cl C fp s3 H3=>(he cl C fp s3 H3).h) hsw hs⟩
theorem c7{n:Int}{j}:y'E X (.Constant (.int n) j pos) (tC (.int n)):=⟨L2.d1G⟩
theorem K5{v:Bool}{j}:y'E X (.Constant (.bool v) j pos) (tC (.bl v)):=⟨L2.d3O⟩
theorem a2I{j}:y'E X (.Constant .none j pos) (tC .non):=⟨L2.d1D⟩
theorem C6{j}:y'E X (.Constant (.str x) j pos) (tC (.str x)):=⟨L2.d1z⟩
theorem b8(n:Nat)(hN:X.N[n]? = some x:=by rfl)(hv:Vis X.env.scope x:=by first | exact Or.inl rfl | exact Or.inr (Or.inl rfl) | exact Or.inr (Or.inr rfl))(hd:(x == ("__debug__" : Str))=false:=by decide)
  (hcd:(x == ("__classdict__" : Str))=false:=by decide):y'E X (.Name x pos) (b4 n):=⟨L2.d1x hN hv hd hcd⟩
theorem a0y{v:V}{u:Value}(hg:Gl X x)(hm:X.mg x=none)(hv:a3C x=some u)(r:K8 v u)(hn:x ≠ "__name__" := by decide)(hd:(x == ("__debug__" : Str))=false:=by decide):y'E X (.Name x pos) (tC v):=⟨L2.c8R hg hm hv r hn hd⟩
theorem O2{v:V}(hm:∃u,X.mg x=some u/\K8 v u)(hg:Gl X x)(hd:(x == ("__debug__" : Str))=false:=by decide):y'E X (.Name x pos) (tC v):=by
 obtain⟨u,h1,h2⟩:=hm;exact⟨L2.c8L hg h1 h2 hd⟩
theorem J2{op:b5J}{r:R2}(ho:a0K X (a1w op) r)(ha:y'E X a ta)(hb:y'E X b tb):y'E X (.BinOp a op b pos) (tOp r ta tb):=⟨L2.d3K ho.h ha.h hb.h⟩
theorem a4r{op:UnaryOp}{r:V->Hp->VK->Prop}(ho:d0d X (unaryOp op) r)(ha:y'E X a ta):y'E X (.UnaryOp op a pos) (tUn r ta):=⟨L2.d3I ho.h ha.h⟩
theorem a6x(ha:y'E X a ta):y'E X (.UnaryOp .Not a pos) (a6F ta):=⟨L2.d1C ha.h⟩
theorem a1t{op:CmpOp}{r:R2}(ho:a0K X (A3 op) r)(ha:y'E X a ta)(hb:y'E X b tb)(hm:U4 op b=false):y'E X (.Compare a [op] [b] pos) (tOp r ta tb):=⟨L2.c8P ho.h ha.h hb.h hm⟩
theorem Y4{op:CmpOp}{r:R2}(ho:a0K X (A3 op) r)(ha:y'E X a ta)(hb:y'E X b tb)(hm:U4 op b=false):y'T X (.Compare a [op] [b] pos) (C7 (tOp r ta tb)):=⟨L2.c8w ho.h ha.h hb.h hm⟩
theorem b4d{op op':CmpOp}{r r':R2}(ho:a0K X (A3 op) r)(ho':a0K X (A3 op') r')(ha:y'E X a ta)(hb:y'E X b tb)(hc:y'E X c tc)
  (hm:d3f [op,op'] [b,c]=false:=by with_unfolding_all rfl):y'E X (.Compare a [op,op'] [b,c] pos) (a7b r r' ta tb tc):=⟨L2.c6D ho.h ho'.h ha.h hb.h hc.h hm⟩
theorem b4b{op op':CmpOp}{r r':R2}(ho:a0K X (A3 op) r)(ho':a0K X (A3 op') r')(ha:y'E X a ta)(hb:y'E X b tb)(hc:y'E X c tc)
  (hm:d3f [op,op'] [b,c]=false:=by with_unfolding_all rfl):y'T X (.Compare a [op,op'] [b,c] pos) (C7 (a7b r r' ta tb tc)):=⟨L2.c6p ho.h ho'.h ha.h hb.h hc.h hm⟩
theorem M4{op}(h:y'E X a te):y'E X (.BoolOp op [a] pos) te:=⟨L2.d1B h.h⟩
theorem O9(ha:y'E X a ta)(hb:y'E X (.BoolOp .And (b::more) pos) tb):y'E X (.BoolOp .And (a::b::more) pos) (a0L ta tb):=⟨L2.d1J ha.h hb.h⟩
theorem a7a(ha:y'E X a ta)(hb:y'E X (.BoolOp .Or (b::more) pos) tb):y'E X (.BoolOp .Or (a::b::more) pos) (b1X ta tb):=⟨L2.d3J ha.h hb.h⟩
theorem a5x(hc:y'T X c tt)(ha:y'E X a ta)(hb:y'E X b tb):y'E X (.IfExp c a b pos) (tIf tt ta tb):=⟨L2.c6z hc.h ha.h hb.h⟩
theorem K0{k}(h:y'A X es tr):y'E X (.Tuple es k pos) (a1Y tr):=⟨L2.d1y h.h⟩
theorem F4(h:y'A X es tr):y'E X (.List es pos) (a1z tr):=⟨L2.d1F h.h⟩
theorem a4f:y'O X none a2o:=⟨L2.c8E⟩
theorem a4e(h:y'E X e te):y'O X (some e) (a6E te):=⟨L2.c8D h.h⟩
theorem a2Z{lo hi:Option Expr}{tl th:TO}{r:V->Option Int->Option Int->Hp->VK->Prop}(hr:c5q X r)(he:y'E X e te)(hl:y'O X lo tl)(hu:y'O X hi th):y'E X (.Subscript e (.Slice lo hi none p) pos) (tSl r te tl th):=⟨L2.c6x hr.h he.h hl.h hu.h⟩
theorem a8J{r:R2}(hr:c5r X r)(ha:y'E X a ta)(hb:y'E X b tb)(hs:b8s b):y'E X (.Subscript a b pos) (tOp r ta tb):=⟨L2.d3M hr.h ha.h hb.h hs⟩
theorem c5m{k j:Nat}{ps:List Str}{sp:Sp}(C:E3 X.prog X.w X.K X.mg X.base k x ps sp)(hr:X1 j X.A)(hk:k<=j)(hg:Gl X x)(ha:y'A X (e::es) tr)
  (hdb:(x == ("__debug__" : Str))=false:=by decide) (he:l6 (e::es) X.env=(false,eval e X.env)::l6 es X.env:=by rfl) (hpl:(a1x pos (l6 es X.env)).any (·.1)=false:=by rfl) :
  y'E X (.Call (.Name x p) (e::es) [] pos) (u9 sp [] E0 tr):=⟨L2.d1A C hr hk hg ha.h hdb he hpl⟩
theorem j6{id:String}{r:List V->Hp->VK->Prop}(hc:a1l X (.builtin id) r)(hg:Gl X x)(hm:X.mg x=none)(hv:a3C x=some (.builtin id))(ha:y'A X (e::es) tr)(hn:x ≠ "__name__" := by decide)(hdb:(x == ("__debug__" : Str))=false:=by decide)
  (he:l6 (e::es) X.env=(false,eval e X.env)::l6 es X.env:=by rfl) (hpl:(a1x pos (l6 es X.env)).any (·.1)=false:=by rfl):y'E X (.Call (.Name x p) (e::es) [] pos) (tCB r tr):=⟨L2.c6E hc.h hg hm hv ha.h hn hdb he hpl⟩
theorem X5{id:String}{r:List V->Hp->VK->Prop}(hc:a1l X (.type id) r)(hg:Gl X x)(hm:X.mg x=none)(hv:a3C x=some (.type id))(ha:y'A X (e::es) tr)(hn:x ≠ "__name__" := by decide)(hdb:(x == ("__debug__" : Str))=false:=by decide)
  (he:l6 (e::es) X.env=(false,eval e X.env)::l6 es X.env:=by rfl) (hpl:(a1x pos (l6 es X.env)).any (·.1)=false:=by rfl):y'E X (.Call (.Name x p) (e::es) [] pos) (tCB r tr):=⟨L2.c3R hc.h hg hm hv ha.h hn hdb he hpl⟩
theorem U9{ty id:String}{name:Str}{r:V->List V->Hp->VK->Prop}{apos:Pos}(pa:d0b ty)(slot:Slot ty name id)(hty:typeOf (.builtin id)=pure (.type "method_descriptor"))(hm:b0E X id r)(ho:y'E X o to)(ha:y'A X (e::es) tr)
  (hbase:a2A o name X.env (eval o X.env)=eval o X.env:=by rfl)
  (hfew:((a1x pos (l6 (e::es) X.env)).all (fun x => !x.1)&&(a9p pos (a3B [] X.env)).all (fun x=>x.1.isSome)
   && decide ((e::es).length+([]:List b7d).length+(if([]:List b7d).isEmpty then 0 else 1)<30))=true:=by rfl)
  (hline:(apos.endLine == pos.line)=true:=by rfl) (hs:l6 (e::es) X.env=(false,eval e X.env)::l6 es X.env:=by rfl) (hplain:(a1x pos (l6 es X.env)).any (·.1)=false:=by rfl) :
  y'E X (.Call (.Attribute o name apos) (e::es) [] pos) (tBM X.K ty r to tr):=⟨L2.d3N pa slot hty hm.h ho.h ha.h hbase hfew hline hs hplain⟩
theorem J0(ha:y'T X a tt):y'T X (.UnaryOp .Not a pos) (a2e tt):=⟨L2.d1n ha.h⟩
theorem a1q(ha:y'T X a tt):y'W X (.BoolOp .And [a] pos) tt:=⟨L2.c8s ha.h⟩
theorem Q9(ha:y'T X a tt):y'W X (.BoolOp .Or [a] pos) tt:=⟨L2.d1k ha.h⟩
theorem a1r(ha:y'T X a tt)(hb:y'W X (.BoolOp .And (b::more) pos) tu):y'W X (.BoolOp .And (a::b::more) pos) (a9c tt tu):=⟨L2.d1l ha.h hb.h⟩
theorem Q0(ha:y'T X a tt)(hb:y'W X (.BoolOp .Or (b::more) pos) tu):y'W X (.BoolOp .Or (a::b::more) pos) (tOr tt tu):=⟨L2.d3G ha.h hb.h⟩
theorem M0(h:y'W X e tt):y'T X e tt:=⟨PW.pt h.h⟩
theorem C2(h:y'E X e te)(he:∀whole,isTrue e X.env whole=(do let v <-whole;b3Z e.pos;a4d [v] (truthy v)):=by intro _;rfl):y'T X e (tB te):=⟨L2.d1m h.h he⟩
theorem U6:a0K X (a1w .Add) a5m:=⟨L2.c9d⟩
theorem a8K:a0K X (a1w .Sub) c3L:=⟨L2.c8T⟩
theorem a6z:a0K X (a1w .Mult) c1l:=⟨L2.c8X⟩
theorem b8M:a0K X (a1w .Mult) c8m:=⟨L2.d1N⟩
theorem a3p:a0K X (a1w .Mod) b6b:=⟨L2.c8Y⟩
theorem b6v:a0K X (a1w .FloorDiv) c8r:=⟨L2.c9c⟩
theorem E4{k:Nat}(hr:X1 k X.A):a0K X (A3 .Eq) qEq:=⟨L2.d1T hr.units0⟩
theorem a2J{k:Nat}(hr:X1 k X.A):a0K X (A3 .NotEq) qNe:=⟨L2.c6M hr.units0⟩
theorem a2n:a1l X (.type "list") a7P:=⟨L2.c2d⟩
theorem a0d:a0K X (A3 .Lt) qLt:=⟨L2.d1O⟩
theorem a8c:a0K X (A3 .LtE) qLe:=⟨L2.d1P⟩
theorem a2K:a0K X (A3 .Gt) qGt:=⟨L2.d1R⟩
theorem c5p:a0K X (A3 .GtE) qGe:=⟨L2.d1S⟩
theorem a4D:a0K X (A3 .In) (qIn false):=⟨L2.d1Q⟩
theorem a8d:a0K X (A3 .IsNot) b4H:=⟨L2.c3T⟩
theorem a9J:y'E X (.Dict [] [] pos) b1Y:=⟨L2.c6A⟩
theorem a5q{k:Nat}(hr:X1 k X.A)(ho:y'E X o to)(hi:y'E X i ti)(hs:d2K i):y'E X (.Subscript o i pos) (b0Q to ti):=⟨L2.c8N (b5m hr) ho.h hi.h hs⟩
theorem c5n{k:Nat}(hr:X1 k X.A)(hi:y'E X i ti)(ho:y'E X o to)(h1:U4 .In o=false):y'E X (.Compare i [.In] [o] pos) (b7l ti to):=⟨L2.c6C (L2.c6F (b5m hr) hi.h ho.h) h1⟩
theorem b8K{k:Nat}(hr:X1 k X.A)(hi:y'E X i ti)(ho:y'E X o to)(h1:U4 .In o=false):y'T X (.Compare i [.In] [o] pos) (tB (b7l ti to)):=⟨L2.c1r (L2.c6F (b5m hr) hi.h ho.h) h1⟩
theorem a3m{k:Nat}(hr:X1 k X.A)(ho:y'E X o to)(hi:y'E X i ti)(hv:y'E X e te)(hs:a3A e (some (.Subscript o i pos')) pos.line X.env=pure false:=by rfl):y'S X (.Assign [.Subscript o i pos'] e pos) (a3Z to ti te):=⟨L2.c8A (b5m hr) ho.h hi.h hv.h hs⟩
theorem c5l{tg:Expr}(h:y'E X e te):b4g X tg e (c9z te):=⟨L2.d1v h.h⟩
theorem a4E(hc:X.calm=true):a1l X (.builtin "all") b2q:=⟨L2.c4G hc⟩
theorem a2H:d0d X (unaryOp .USub) (rU fun i=>.int (-i)):=⟨L2.d0G⟩
theorem d0F:c5r X qIx:=⟨L2.d4H⟩
theorem b1N:c5q X qSl:=⟨L2.d4u⟩
theorem c3g:c5q X (d1d X.K):=⟨L2.c2x⟩
theorem a8H:c0H X b1g:=⟨L2.d3m⟩
theorem c7Q:c5t X c3N:=⟨L2.d4a⟩
theorem a8e:c5s X .Add (ipI fun i j=>i+j):=⟨L2.d2s⟩
theorem p9:a1l X (.builtin "len") V4:=⟨L2.c4D⟩
theorem b8S:a1l X (.builtin "abs") c6m:=⟨L2.c4H⟩
theorem X6:a1l X (.builtin "isinstance") a7S:=⟨L2.c4E⟩
theorem F6:b0E X "list.append" O5:=⟨L2.c1M⟩
theorem c0G:b0E X "str.join" b6I:=⟨L2.c6R⟩
end
theorem b8P{P:D8}{w:World}{K:Fg}{mg:Str->Option Value}{base:Heap}{x qual:Str}{st:Stmt}{f:Addr}{fd:a2b}{N ps:List Str}{k:Nat}{sp:Sp}(F:Fun K x qual st f fd)(y'S:v7 N ps (g0 st))(len:∀vs H Q y'E,sp vs H Q y'E->vs.length=ps.length)
  (hbody:∀(cdv:Value) (y'A:T3) (outer:List Env) (s:l7) (H:Hp) (vs:List V) (Q:VK) (y'E:XK),X1 k (y'A.deeper (b8I qual (g0 st) s.heap.objs.size f cdv))->sp vs H Q y'E ->
   ∃t,b5Q (c0e CX0 P w K mg base N qual (g0 st) f cdv y'A outer s H y'E).nox (a4w st) t/\t { nx:=fun _ H'=>Q .non H',rt:=Q } (b0S N vs) H):J1 P w K mg base CX0 (k+1) f fd ps sp:=
 F.ok y'S len fun cdv y'A outer s H vs Q y'E hr h=>let⟨t,a,b⟩:=hbody cdv y'A outer s H vs Q y'E hr h; ⟨t,a.h,b⟩
end Y
namespace Y
open PySem PySem.Spec PyProof.Rows L2
section
variable {X:Cx}{st:Stmt}{a7p:List Stmt}{t u:TS}{e a b c o i:Expr}{es more:List Expr}{te ta tb tc to ti:TE}{tt tu:TT}{tr:TA}{pos p pos':Pos}{x y:Str}
theorem a3n{elts:List Expr}{x1}{tp:Pos}(hg:Gl X "enumerate")(hm:X.mg "enumerate" = none)(ha:y'A X [a] tr)(hs:l6 [a] X.env=[(false,eval a X.env)]:=by rfl) :
  b4g X (.Tuple elts x1 tp) (.Call (.Name "enumerate" p) [a] [] pos) (a8y X.K tr):=⟨L2.c8H hg hm ha.h hs⟩
theorem c5k{elts:List Expr}{x1}{tp:Pos}(hg:Gl X "zip")(hm:X.mg "zip" = none)(ha:y'A X [a,b] tr)(hs:l6 [a,b] X.env=[(false,eval a X.env),(false,eval b X.env)]:=by rfl)(hs2:l6 [b] X.env=[(false,eval b X.env)]:=by rfl) :
  b4g X (.Tuple elts x1 tp) (.Call (.Name "zip" p) [a,b] [] pos) (c9y X.K tr):=⟨L2.d1u hg hm ha.h hs hs2⟩
theorem b4c{elt iter:Expr}{px py pt:Pos}{kt}{ifs:List Expr}{scope:Scope}{wi:TI}(hc:a4y X.N X.env.scope scope x y)(hcalm:X.calm=true)(hi:b4g X (.Tuple [.Name x px,.Name y py] kt pt) iter wi)
  (ht:∀cl C fp s3 H3,c3o (W9 X scope cl C x y fp s3 H3) ifs tt) (he:∀cl C fp s3 H3,y'E (W9 X scope cl C x y fp s3 H3) elt te)
  (hs:∀x,Y0 iter X.env x=pure x:=by intro _;rfl):y'E X (.ListComp elt [⟨.Tuple [.Name x px,.Name y py] kt pt,iter,ifs,0⟩] scope pos) (a8i X.K wi tt te):=
 ⟨L2.c6B hc hcalm hi.h (fun cl C fp s3 H3=>(ht cl C fp s3 H3).h) (fun cl C fp s3 H3=>(he cl C fp s3 H3).h) hs⟩
theorem a2d{body:List Stmt}(hp:d3i (model X.prog X.w) X.A X.env X.xe)(hc:y'T X c tt)(hb:b5Q X body t):y'S X (.While c body [] pos) (a5B tt t):=⟨L2.c6r hp hc.h hb.h⟩
theorem a5v{e c:Option Expr}:y'S X (.Raise e c pos) (fun _ _ _=>False):=⟨L2.c6s⟩
theorem C3{f:Str}(he:y'E X e te)(hb:a2A e f X.env (eval e X.env)=eval e X.env:=by rfl):y'E X (.Attribute e f pos) (Z6 X.K te f):=⟨L2.d1H he.h hb⟩
theorem a1s{f:Str}(ha:y'E X o to)(hv:y'E X e te)(hs:a3A e (some (.Attribute o f pos')) pos.line X.env=pure false:=by rfl):y'S X (.Assign [.Attribute o f pos'] e pos) (a9g X.K to te f):=⟨L2.d1r ha.h hv.h hs⟩
theorem c7P{k j:Nat}{C:Addr}{ps:List Str}{sp:Sp}(M:b3r X.prog X.w X.K X.mg X.base k x C ps sp)(hr:X1 j X.A)(hk:k+1<=j)(hg:Gl X x)(ha:y'A X (e::es) tr)
  (hdb:(x == ("__debug__" : Str))=false:=by decide) (he:l6 (e::es) X.env=(false,eval e X.env)::l6 es X.env:=by rfl) (hpl:(a1x pos (l6 es X.env)).any (·.1)=false:=by rfl) :
  y'E X (.Call (.Name x p) (e::es) [] pos) (a5Z C sp [] E0 tr):=⟨L2.d3L M hr hk hg ha.h hdb he hpl⟩
theorem N6{pl:Sem Bool}{k j:Nat}{m:Str}{C:Addr}{ps:List Str}{sp:Sp}{apos:Pos}(M:X2 X.prog X.w X.K X.mg X.base k m C ps sp)(hr:X1 j X.A)(hk:k<=j)(ho:y'E X o to)(ha:y'A X (e::es) tr)
  (hst:l6 (e::es) X.env=(false,eval e X.env)::l6 es X.env:=by rfl) (hpl:(a1x pos (l6 es X.env)).any (·.1)=false:=by rfl)
  (ht:eval (.Call (.Attribute o m apos) (e::es) [] pos) X.env=(do
   let ov <-eval o X.env
   b3Z apos.atName
   let(f,first) <-a4d [ov] (b0y ov m pl)
   c4W pos f first (a1x pos (l6 (e::es) X.env)) (a9p pos (a3B [] X.env))):=by rfl) :
  y'E X (.Call (.Attribute o m apos) (e::es) [] pos) (V9 C m sp [] E0 to tr):=⟨L2.d1E (pl:=pl) M hr hk ho.h ha.h hst hpl ht⟩
theorem a8I{pl:Sem Bool}{k j:Nat}{m:Str}{C:Addr}{ps:List Str}{sp:Sp}{apos:Pos}(M:X2 X.prog X.w X.K X.mg X.base k m C ps sp)(hr:X1 j X.A)(hk:k<=j)(ho:y'E X o to)
  (ht:eval (.Call (.Attribute o m apos) [] [] pos) X.env=(do
   let ov <-eval o X.env
   b3Z apos.atName
   let(f,first) <-a4d [ov] (b0y ov m pl)
   c4W pos f first (a1x pos (l6 [] X.env)) (a9p pos (a3B [] X.env))):=by rfl) :
  y'E X (.Call (.Attribute o m apos) [] [] pos) (V9 C m sp [] E0 to d7):=⟨L2.c8I (pl:=pl) M hr hk ho.h ht⟩
theorem b0B{ty id:String}{name:Str}{r:V->List V->Hp->VK->Prop}{apos:Pos}(pa:d0b ty)(slot:Slot ty name id)(hty:typeOf (.builtin id)=pure (.type "method_descriptor"))(hm:b0E X id r)(ho:y'E X o to)
  (hbase:a2A o name X.env (eval o X.env)=eval o X.env:=by rfl) (hline:(apos.endLine == pos.line)=true:=by rfl):y'E X (.Call (.Attribute o name apos) [] [] pos) (c0O X.K ty r to):=⟨L2.d1I pa slot hty hm.h ho.h hbase hline⟩
structure c7R(X:Cx)(pos:Pos)(ks:List (Option Expr))(vs:List Expr)(trs:List (TE×TE)):Prop where h:PPs X pos ks vs trs
theorem b1P:c7R X pos [] [] []:=⟨L2.c8C⟩
theorem a9I{ks:List (Option Expr)}{vs:List Expr}{trs:List (TE×TE)}(hk:y'E X a ta)(hv:y'E X b tb)(hr:c7R X pos ks vs trs):c7R X pos (some a::ks) (b::vs) ((ta,tb)::trs):=⟨L2.c6u hk.h hv.h hr.h⟩
theorem b1R{keys:List (Option Expr)}{values:List Expr}{trs:List (TE×TE)}(h:c7R X pos keys values trs)(hall:keys.all (·.isSome)=true:=by rfl)(hl:keys.length=values.length:=by rfl)(h0:keys≠[]:=by intro z;cases z)
  (h15:keys.length<=15:=by decide):y'E X (.Dict keys values pos) (b6D trs):=⟨L2.c8M h.h hall hl h0 h15⟩
theorem b2X{k:Nat}(hr:X1 k X.A)(hi:y'E X i ti)(ho:y'E X o to)(h1:U4 .NotIn o=false):y'E X (.Compare i [.NotIn] [o] pos) (a0S ti to):=⟨L2.c6C (L2.b6J (b5m hr) hi.h ho.h) h1⟩
theorem a0R{k:Nat}(hr:X1 k X.A)(hi:y'E X i ti)(ho:y'E X o to)(h1:U4 .NotIn o=false):y'T X (.Compare i [.NotIn] [o] pos) (tB (a0S ti to)):=⟨L2.c1r (L2.b6J (b5m hr) hi.h ho.h) h1⟩
theorem b8Q(hc:X.calm=true):a1l X (.builtin "min") c6j:=⟨L2.c4C hc⟩
theorem b8R(hc:X.calm=true):a1l X (.builtin "any") c1o:=⟨L2.c4F hc⟩
theorem b4f:a1l X (.builtin "sorted") a8V:=⟨L2.b8e⟩
theorem a9u(hc:X.calm=true):a1l X (.type "list") a8m:=⟨L2.c0q hc⟩
theorem b7g:a1l X (.builtin "isinstance") (c6l X.K):=⟨L2.c2f⟩
theorem b8N:b0E X "list.index" b2o:=⟨L2.c4h⟩
theorem b0C:b0E X "list.extend" a7q:=⟨L2.c1L⟩
theorem c3n:b0E X "list.pop" c3M:=⟨L2.c9p⟩
theorem b8O:b0E X "list.clear" b2p:=⟨L2.c4i⟩
theorem c3k{k:Nat}(hr:X1 k X.A):a0K X (A3 .NotEq) (c8q X.K):=⟨L2.c2E hr⟩
theorem a6A{k:Nat}(hr:X1 k X.A):a0K X (A3 .Eq) (b9u X.K):=⟨L2.c9b hr⟩
theorem a6y{k:Nat}(hr:X1 k X.A):a0K X (A3 .NotEq) (c1k X.K):=⟨L2.c8V hr⟩
theorem b7f:a1l X (.builtin "len") (c6k X.K):=⟨L2.c2e⟩
theorem a9t:b0E X "list.reverse" a5I:=⟨L2.b9L⟩
theorem c3m:a0K X (A3 .In) (d1j X.K):=⟨L2.c9a⟩
theorem b0D:c5r X (c1m X.K):=⟨L2.d3Z⟩
end
end Y
namespace Y
open PySem PySem.Spec PyProof.Rows L2
theorem b5N{X:Cx}{elt iter:Expr}{px py2 pt py spos pos:Pos}{kt:Nat}{ifs:List Expr}{scope:Scope}{x x2:Str}{wi:TI}{tt:TT}{te:TE}{n:Nat}{y:Str}(hN:X.N.Nodup)(hiy:X.N[n]? = some y)(hy:X.env.scope.names.lookup y=some .local)(hc:a4y X.N X.env.scope scope x x2)(hcalm:X.calm=true)(hi:b4g X (.Tuple [.Name x px,.Name x2 py2] kt pt) iter wi)
  (ht:∀cl C fp s3 H3,c3o (W9 X scope cl C x x2 fp s3 H3) ifs tt) (he:∀cl C fp s3 H3,y'E (W9 X scope cl C x x2 fp s3 H3) elt te)
  (hsw:a3A (.ListComp elt [⟨.Tuple [.Name x px,.Name x2 py2] kt pt,iter,ifs,0⟩] scope pos) (some (.Name y py)) spos.line X.env=pure true:=by rfl)
  (hs:∀x,Y0 iter X.env x=pure x:=by intro _;rfl) :
  y'S X (.Assign [.Name y py] (.ListComp elt [⟨.Tuple [.Name x px,.Name x2 py2] kt pt,iter,ifs,0⟩] scope pos) spos) (fun D σ H=>a8i X.K wi tt te σ H fun v H1=>D.nx (σ.set n (some v)) H1):=
 ⟨L2.b9x hN hiy hy hc hcalm hi.h (fun cl C fp s3 H3=>(ht cl C fp s3 H3).h) (fun cl C fp s3 H3=>(he cl C fp s3 H3).h) hsw hs⟩
end Y
namespace Y
open PySem PySem.Spec PyProof.Rows L2
theorem a9v{X:Cx}(hc:X.calm=true):a1l X (.type "dict") b4I:=⟨L2.c0s hc⟩
end Y
namespace Y
open PySem PySem.Spec PyProof.Rows L2
theorem b8L{X:Cx}{tg a b e:Expr}{tr:TA}{p pos:Pos}(hg:Gl X "range")(hm:X.mg "range" = none)(ha:y'A X [a,b,e] tr)(hs:l6 [a,b,e] X.env=[(false,eval a X.env),(false,eval b X.env),(false,eval e X.env)]:=by rfl)(hs2:l6 [b,e] X.env=[(false,eval b X.env),(false,eval e X.env)]:=by rfl):b4g X tg (.Call (.Name "range" p) [a,b,e] [] pos) (c2I tr):=⟨L2.c3P hg hm ha.h hs hs2⟩
end Y
namespace Y
open PySem PySem.Spec PyProof.Rows L2
theorem c3l{X:Cx}{k:Nat}(hr:X1 k X.A):a0K X (A3 .In) (b9t false):=⟨L2.c8Z (by have:=hr.units;show X.A.units+1<cLine;omega)⟩
theorem b4e{X:Cx}{k:Nat}(hr:X1 k X.A):a0K X (A3 .NotIn) (b9t true):=⟨L2.c6L (by have:=hr.units;show X.A.units+1<cLine;omega)⟩
end Y
namespace Y
open PySem PySem.Spec PyProof.Rows L2
theorem c3j{X:Cx}{k:Nat}(hr:X1 k X.A):a0K X (A3 .NotEq) (c6i X.K):=⟨L2.c8U hr⟩
end Y
namespace Y
open PySem PySem.Spec PyProof.Rows L2
section
variable {X:Cx}{e0 e1 e2 e3 e4:Expr}{t0 t1 t2 t3 t4:TE}
theorem j7(h0:y'E X e0 t0)(s0:l6 [e0] X.env=(false,eval e0 X.env)::l6 [] X.env:=by rfl):y'A X [e0] (a9 t0 d7):=(X3 h0 Y1 s0)
theorem y9(h0:y'E X e0 t0)(h1:y'E X e1 t1)(s0:l6 [e0,e1] X.env=(false,eval e0 X.env)::l6 [e1] X.env:=by rfl)(s1:l6 [e1] X.env=(false,eval e1 X.env)::l6 [] X.env:=by rfl):y'A X [e0,e1] (a9 t0 (a9 t1 d7)):=(X3 h0 (X3 h1 Y1 s1) s0)
theorem a3o(h0:y'E X e0 t0)(h1:y'E X e1 t1)(h2:y'E X e2 t2)(s0:l6 [e0,e1,e2] X.env=(false,eval e0 X.env)::l6 [e1,e2] X.env:=by rfl)(s1:l6 [e1,e2] X.env=(false,eval e1 X.env)::l6 [e2] X.env:=by rfl)(s2:l6 [e2] X.env=(false,eval e2 X.env)::l6 [] X.env:=by rfl):y'A X [e0,e1,e2] (a9 t0 (a9 t1 (a9 t2 d7))):=(X3 h0 (X3 h1 (X3 h2 Y1 s2) s1) s0)
theorem c5o(h0:y'E X e0 t0)(h1:y'E X e1 t1)(h2:y'E X e2 t2)(h3:y'E X e3 t3)(s0:l6 [e0,e1,e2,e3] X.env=(false,eval e0 X.env)::l6 [e1,e2,e3] X.env:=by rfl)(s1:l6 [e1,e2,e3] X.env=(false,eval e1 X.env)::l6 [e2,e3] X.env:=by rfl)(s2:l6 [e2,e3] X.env=(false,eval e2 X.env)::l6 [e3] X.env:=by rfl)(s3:l6 [e3] X.env=(false,eval e3 X.env)::l6 [] X.env:=by rfl):y'A X [e0,e1,e2,e3] (a9 t0 (a9 t1 (a9 t2 (a9 t3 d7)))):=(X3 h0 (X3 h1 (X3 h2 (X3 h3 Y1 s3) s2) s1) s0)
theorem a9s(h0:y'E X e0 t0)(h1:y'E X e1 t1)(h2:y'E X e2 t2)(h3:y'E X e3 t3)(h4:y'E X e4 t4)(s0:l6 [e0,e1,e2,e3,e4] X.env=(false,eval e0 X.env)::l6 [e1,e2,e3,e4] X.env:=by rfl)(s1:l6 [e1,e2,e3,e4] X.env=(false,eval e1 X.env)::l6 [e2,e3,e4] X.env:=by rfl)(s2:l6 [e2,e3,e4] X.env=(false,eval e2 X.env)::l6 [e3,e4] X.env:=by rfl)(s3:l6 [e3,e4] X.env=(false,eval e3 X.env)::l6 [e4] X.env:=by rfl)(s4:l6 [e4] X.env=(false,eval e4 X.env)::l6 [] X.env:=by rfl):y'A X [e0,e1,e2,e3,e4] (a9 t0 (a9 t1 (a9 t2 (a9 t3 (a9 t4 d7))))):=(X3 h0 (X3 h1 (X3 h2 (X3 h3 (X3 h4 Y1 s4) s3) s2) s1) s0)
end
end Y
local macro_rules | `(tactic| walk_at "sc") => `(tactic| exact ⟨rfl, rfl, rfl, by decide +kernel, rfl, by decide +kernel, by decide +kernel⟩)
namespace Y
open PySem PySem.Spec PyProof.Rows L2
section
variable {X:Cx}{e a b o:Expr}{es:List Expr}{te ta tb to:TE}{tr:TA}{pos p pos':Pos}{x:Str}
theorem v9(n:Nat)(hN:X.N.Nodup)(he:y'E X e te)(hi:X.N[n]? = some x:=by rfl)(hx:Loc X.env.scope x:=by first | exact Or.inl rfl | exact Or.inr rfl)(hs:a3A e (some (.Name x pos')) pos.line X.env=pure false:=by rfl)(hf:X.fn x=true\/X.env.scope.names.lookup x=some .local:=by first | exact .inl rfl | exact .inr rfl) :
  y'S X (.Assign [.Name x pos'] e pos) (F0 te (t9 n)):=c5j hN hi hx he hs hf
theorem L8(n:Nat)(hN:X.N.Nodup)(hi:X.N[n]? = some x:=by rfl)(hx:Loc X.env.scope x:=by first | exact Or.inl rfl | exact Or.inr rfl)(hf:X.fn x=true\/X.env.scope.names.lookup x=some .local:=by first | exact .inl rfl | exact .inr rfl):y'G X (.Name x pos) (t9 n):=c3i hN hi hx hf
theorem o8{k j:Nat}{ps:List Str}{sp:Sp}(C:E3 X.prog X.w X.K X.mg X.base k x ps sp)(hr:X1 j X.A)(ha:y'A X (e::es) tr)(hk:k<=j:=by decide)(hg:Gl X x:=by rfl)
  (hdb:(x == ("__debug__" : Str))=false:=by decide) (he:l6 (e::es) X.env=(false,eval e X.env)::l6 es X.env:=by rfl) (hpl:(a1x pos (l6 es X.env)).any (·.1)=false:=by rfl) :
  y'E X (.Call (.Name x p) (e::es) [] pos) (u9 sp [] E0 tr):=c5m C hr hk hg ha hdb he hpl
theorem b1Q{k j:Nat}{C:Addr}{ps:List Str}{sp:Sp}(M:b3r X.prog X.w X.K X.mg X.base k x C ps sp)(hr:X1 j X.A)(ha:y'A X (e::es) tr)(hk:k+1<=j:=by decide)(hg:Gl X x:=by rfl)
  (hdb:(x == ("__debug__" : Str))=false:=by decide) (he:l6 (e::es) X.env=(false,eval e X.env)::l6 es X.env:=by rfl) (hpl:(a1x pos (l6 es X.env)).any (·.1)=false:=by rfl) :
  y'E X (.Call (.Name x p) (e::es) [] pos) (a5Z C sp [] E0 tr):=c7P M hr hk hg ha hdb he hpl
theorem j8(ha:y'E X a ta)(hb:y'E X b tb)(hs:b8s b:=by exact fun _ _=>rfl):y'E X (.Subscript a b pos) (tOp qIx ta tb):=a8J d0F ha hb hs
theorem a3D{op:CmpOp}{r:R2}(ho:a0K X (A3 op) r)(ha:y'E X a ta)(hb:y'E X b tb)(hm:U4 op b=false:=by exact a3N _):y'E X (.Compare a [op] [b] pos) (tOp r ta tb):=a1t ho ha hb hm
theorem D3{op:CmpOp}{r:R2}(ho:a0K X (A3 op) r)(ha:y'E X a ta)(hb:y'E X b tb)(hm:U4 op b=false:=by exact a3N _):y'T X (.Compare a [op] [b] pos) (C7 (tOp r ta tb)):=Y4 ho ha hb hm
end
end Y
namespace Y
open PySem PySem.Spec PyProof.Rows L2
section
variable {X:Cx}{e o i:Expr}{te to ti:TE}{t:TS}{pos p:Pos}{k:Nat}
end
end Y
namespace Y
open PySem PySem.Spec PyProof.Rows L2
end Y
namespace Y
open PySem PySem.Spec PyProof.Rows L2
section
variable {X:Cx}{i o:Expr}{ti to:TE}{pos:Pos}{k:Nat}
theorem b8J(hr:X1 k X.A)(hi:y'E X i ti)(ho:y'E X o to)(h1:U4 .NotIn o=false):y'T X (.Compare i [.NotIn] [o] pos) (tB (c7W X.K true ti to)):=⟨L2.c1r (L2.c3S (b5m hr) hi.h ho.h) h1⟩
theorem b5O(hc:X.calm=true):a1l X (.type "list") (b7F X.K):=⟨L2.c0p hc⟩
theorem b5P(hc:X.calm=true)(hr:X1 k X.A):a1l X (.type "dict") (c1n X.K):=⟨L2.c0r hc (by have:=hr.un;omega)⟩
end
end Y
namespace RD
open PySem PySem.Spec L2
variable{C a b bx d dd dx na p ra rx w wx y:Addr}{H H' H0 H1:Hp}{o:HO}{ds xs ys:List V}{D:b0r}{σ:St}{ta te ti to:TE}{tt:TT}{Q:VK}{v:V}{e i j m n t t0:Nat}{z:Str}{Sr Sw ks l:List Nat}{QD:Hp->Prop}{R:It->Hp->Prop}{M N:Nt}{ns:List Int}{as rs:List Addr}{Z:Addr->Prop}{Do f:Nat->Bool}{kvs:List (Key×V)}
def J3(b:Addr)(H H':Hp):Prop:=(∀a o,H a=some o->a≠b->H' a=some o)/\∀o,H b=some o->∃o',H' b=some o'
theorem J3.refl(b:Addr)(H:Hp):J3 b H H:=⟨fun _ _ h _=>h,fun o h=>⟨o,h⟩⟩
theorem J3.trans{H2:Hp}(x:J3 b H H1)(y:J3 b H1 H2):J3 b H H2:=
 ⟨fun a o h n=>y.1 a o (x.1 a o h n) n,fun o h=>let⟨o',h'⟩:=x.2 o h;y.2 o' h'⟩
theorem J3.upd(b:Addr)(H:Hp)(o:HO):J3 b H (upd H b o):=⟨fun a u h n=>by rw[i8 n];exact h,fun _ _=>⟨o,d8⟩⟩
theorem J3.new(h:H p=none):J3 b H (L2.upd H p o):=
 ⟨fun a u e _=>by rw[i8 (c9 e h)];exact e,fun u e=>⟨u,by rw[i8 (c9 e h)];exact e⟩⟩
theorem J3.of_same(s:d9 H H'):J3 b H H':=⟨fun a o h _=>s a o h,fun o h=>⟨o,s _ _ h⟩⟩
theorem A9(h:H p=none):d9 H (L2.upd H p o):=fun a u e=>by rw[i8 (c9 e h)];exact e
theorem J3.none(k:J3 b H H')(h:H' p=Option.none):H p=Option.none:=by
 cases e:H p with
 | none=>rfl
 | some o=>
  by_cases z:p=b
  ·subst z
   obtain⟨o',h'⟩:=k.2 o e;rw[h]at h';cases h'
  ·rw[k.1 p o e z]at h
   cases h
theorem J3.tup{b a:Addr}{H H':Hp}{xs ys:List V}(k:J3 b H H')(hb:H b=some (.lst ys))(h:H a=some (.tup xs)):H' a=some (.tup xs):=
 k.1 a _ h (O3 h hb (by intro z;cases z))
structure Bag(H:Hp)(b c:Addr):Prop where
 ex:∃(i0 i1 i2:Int) (ns:List Int),H b=some (.lst [.int i0,.int i1,.int i2,.ref c])/\H c=some (.lst (ns.map V.int))/\0<=i0/\0<=i1/\i1<2147483647/\0<=i2/\∀x∈ns,0<=x
theorem Bag.lst{H:Hp}{b c:Addr}(h:Bag H b c):∃xs,H b=some (.lst xs):=by
 obtain⟨i0,i1,i2,ns,h,_⟩:=h.ex;exact⟨_,h⟩
theorem Bag.same{c:Addr}(h:Bag H b c)(s:d9 H H'):Bag H' b c:=by
 obtain⟨i0,i1,i2,ns,h1,h2,r⟩:=h.ex;exact⟨i0,i1,i2,ns,s _ _ h1,s _ _ h2,r⟩
theorem Bag.new{c:Addr}(h:Bag H b c)(n:H p=none):Bag (L2.upd H p o) b c:=h.same (A9 n)
theorem Bag.put{c:Addr}(h:Bag H b c)(n1:p≠b)(n2:p≠c):Bag (L2.upd H p o) b c:=by
 obtain⟨i0,i1,i2,ns,h1,h2,r⟩:=h.ex;exact⟨i0,i1,i2,ns,by rw[i8 n1.symm];exact h1,by rw[i8 n2.symm];exact h2,r⟩
theorem Bag.nb{c:Addr}(h:Bag H b c)(n:H p=none):p≠b/\p≠c:=by
 obtain⟨i0,i1,i2,ns,h1,h2,r⟩:=h.ex;exact⟨(c9 h1 n).symm,(c9 h2 n).symm⟩
theorem J3.put(k:J3 b H H')(n:H p=Option.none):J3 b H (L2.upd H' p o):=
 ⟨fun a u e z=>by rw[i8 (c9 e n)];exact k.1 a u e z,fun u e=>by
  obtain⟨o',h⟩:=k.2 u e;exact⟨o',by rw[i8 (c9 e n)];exact h⟩⟩
theorem Z3{α:Type}(a:α)(r:List α):atI (a::r) 0=some a:=by
 have := @P4 α (a::r) 0 a rfl;simpa using this
theorem a5p{α:Type}(a b:α)(r:List α):atI (a::b::r) 1=some b := @P4 α (a::b::r) 1 b rfl
theorem c2h{α:Type}(a b c:α)(r:List α):atI (a::b::c::r) 2=some c := @P4 α (a::b::c::r) 2 c rfl
theorem d4g{α:Type}(a b c d:α)(r:List α):atI (a::b::c::d::r) 3=some d := @P4 α (a::b::c::d::r) 3 d rfl
theorem a7I{α:Type}{xs:List α}{i:Int}(h0:0<=i)(h1:i<xs.length):∃v,atI xs i=some v/\xs[i.toNat]? = some v:=by
 have hl:i.toNat<xs.length:=by omega
 have e:xs[i.toNat]? = some (xs[i.toNat]'hl):=by simp[hl]
 refine⟨_,?_,e⟩;have:=P4 e
 rwa [Int.toNat_of_nonneg h0]at this
section
variable {t u:TS}{tb tc:TE}{tu:TT}{tr:TA}{QB:Bool->Hp->Prop}{QA:List V->Hp->Prop}{QO:Option Int->Hp->Prop}{x y:V}{i j:Int}{r r':R2}{K:Fg}
theorem N7(h:t { D with nx:=u D } σ H):u8 t u D σ H:=h
theorem a5f{P:St->Hp->Prop}(tail:∀σ H,P σ H->u D σ H)(main:∀nx:St->Hp->Prop,(∀σ H,P σ H->nx σ H)->t { D with nx:=nx } σ H):u8 t u D σ H:=main _ tail
theorem b6F{g:TG}(h:te σ H fun x H1=>g x σ H1 D.nx):F0 te g D σ H:=h
theorem b1d{QS:St->Hp->Prop}(h:QS (σ.set n (some v)) H):t9 n v σ H QS:=h
theorem d0X{QS:St->Hp->Prop}{ts:b6q}(h:to σ H fun o H1=>ti σ H1 fun i H2=>ts o i v H2 fun H3=>QS σ H3):b7X to ti ts v σ H QS:=h
theorem c5U(h:te σ H D.rt):E1 te D σ H:=h
theorem b7A(h:te σ H fun _ H1=>D.nx σ H1):V7 te D σ H:=h
theorem d0W(h:tt σ H fun b H1=>if b=true then t D σ H1 else u D σ H1):L6 tt t u D σ H:=h
theorem a9Q(h:D.nx σ H):C9 D σ H:=h
theorem d0Q(h:te σ H fun x H'=>∃k,x=.bl k/\QB k H'):C7 te σ H QB:=h
theorem c8j(h:te σ H fun x H'=>∃k,x=.bl k/\QB k H'):tB te σ H QB:=h
theorem d0i(h:tt σ H fun c H1=>QB (!c) H1):a2e tt σ H QB:=h
theorem d3v(h:tt σ H fun c H1=>if c=true then tu σ H1 QB else QB false H1):a9c tt tu σ H QB:=h
theorem d4y(h:tt σ H fun c H1=>if c=true then QB true H1 else tu σ H1 QB):tOr tt tu σ H QB:=h
theorem d1a(h:ta σ H fun x H1=>∃c,x=.bl c/\if c=true then tb σ H1 Q else Q (.bl false) H1):a0L ta tb σ H Q:=h
theorem d3p(h:ta σ H fun x H1=>∃c,x=.bl c/\if c=true then Q (.bl true) H1 else tb σ H1 Q):b1X ta tb σ H Q:=h
theorem d0T(h:ta σ H fun x H1=>∃c,x=.bl c/\Q (.bl (!c)) H1):a6F ta σ H Q:=h
theorem d3s(h:tt σ H fun c H1=>if c=true then ta σ H1 Q else tb σ H1 Q):tIf tt ta tb σ H Q:=h
theorem c8k(h:ta σ H fun x H1=>tb σ H1 fun y H2=>r x y H2 Q):tOp r ta tb σ H Q:=h
theorem c8l(h:ta σ H fun x H1=>tb σ H1 fun y H2=>r x y H2 fun z H3=>∃k,z=.bl k/\(if k=true then tc σ H3 fun w' H4=>r' y w' H4 Q else Q (.bl false) H3)):a7b r r' ta tb tc σ H Q:=h
theorem d4w{f:V->Hp->VK->Prop}(h:ta σ H fun x H1=>f x H1 Q):tUn f ta σ H Q:=h
theorem d3q(h:Q (.int (-i)) H):rU (fun i=>.int (-i)) (.int i) H Q:=⟨i,rfl,h⟩
theorem a0M(e:σ[n]? = some (some v))(h:Q v H):b4 n σ H Q:=⟨v,e,h⟩
theorem s_c(h:Q v H):tC v σ H Q:=h
theorem a3b(h:te σ H fun x H1=>tr σ H1 fun xs H2=>QA (x::xs) H2):a9 te tr σ H QA:=h
theorem a9B(h:QA [] H):d7 σ H QA:=h
theorem d0Y{sp:Sp}{E:XK}(h:tr σ H fun vs H1=>sp (vs++[]) H1 Q E):u9 sp [] E tr σ H Q:=h
theorem d3t{f:List V->Hp->VK->Prop}(h:tr σ H fun vs H1=>f vs H1 Q):tCB f tr σ H Q:=h
def New(o:HO)(n:Nat)(H:Hp)(Q:VK):Prop:=n<=u7/\∀p,H p=none->Q (.ref p) (upd H p o)
theorem F7(hl:n<=100000)(h:∀p H',H p=none->H' p=some o->d9 H H'->Q (.ref p) H'):New o n H Q:=
 ⟨J4 hl (by rw[a6Y];decide),fun p hp=>h p _ hp d8 (A9 hp)⟩
theorem c5R(h:tr σ H fun xs H1=>New (.tup xs) xs.length H1 Q):a1Y tr σ H Q:=h
theorem d3r(h:tr σ H fun xs H1=>New (.lst xs) xs.length H1 Q):a1z tr σ H Q:=h
theorem d4x{f:V->Option Int->Option Int->Hp->VK->Prop}{tl th:TO}(h:te σ H fun x H1=>tl σ H1 fun l H2=>th σ H2 fun u H3=>f x l u H3 Q):tSl f te tl th σ H Q:=h
theorem d0S(h:te σ H fun x H1=>∃i,x=.int i/\QO (some i) H1):a6E te σ H QO:=h
theorem c5V(h:QO none H):a2o σ H QO:=h
theorem c1c(h:QB true H):a0e σ H QB:=h
theorem a5S{f:V->List V->Hp->VK->Prop}(h:to σ H fun x H1=>tyV K "list" x H1/\tr σ H1 fun xs H2=>f x xs H2 Q):tBM K "list" f to tr σ H Q:=h
theorem d3u{s:Str}{f:V->List V->Hp->VK->Prop}(h:tr σ H fun xs H2=>f (.str s) xs H2 Q):tBM K "str" f (tC (.str s)) tr σ H Q:=⟨rfl,h⟩
theorem d0Z{tget:V->V->Hp->VK->Prop}{tip:TIp}{tset:b6q}(h:to σ H fun o H1=>ti σ H1 fun i H2=>tget o i H2 fun x H3=>te σ H3 fun y H4=>tip x y H4 fun z H5=>tset o i z H5 fun H6=>D.nx σ H6):c2v to ti te tget tip tset D σ H:=h
theorem d3E(h:Q (.int (i+j)) H):a5m (.int i) (.int j) H Q:=h
theorem c6h{a b:Str}(hl:a.length+b.length<=u7)(h:Q (.str (a++b)) H):a5m (.str a) (.str b) H Q:=⟨hl,h⟩
theorem b7E(ha:H a=some (.lst xs))(hb:H b=some (.lst ys))(h:New (.lst (xs++ys)) (xs.length+ys.length) H Q):a5m (.ref a) (.ref b) H Q:=by
 unfold a5m;simp only[ha,hb];exact h
theorem d1h{g:Int->Int->V}(h:Q (g i j) H):b9v g (.int i) (.int j) H Q:=h
theorem a6N{C:Int->Int->Prop}{g:Int->Int->V}(hc:C i j)(h:Q (g i j) H):q2I C g (.int i) (.int j) H Q:=⟨hc,h⟩
theorem d4D{f:Int->Int->Int}(h:Q (.int (f i j)) H):ipI f (.int i) (.int j) H Q:=⟨i,j,rfl,rfl,h⟩
theorem C0(hp:H p=some (.lst xs))(he:atI xs i=some v)(h:Q v H):qIx (.ref p) (.int i) H Q:=by
 unfold qIx;simp only[hp];exact⟨v,he,h⟩
theorem N8(hp:H p=some (.tup xs))(he:atI xs i=some v)(h:Q v H):qIx (.ref p) (.int i) H Q:=by
 unfold qIx;simp only[hp];exact⟨v,he,h⟩
theorem c6f{c:Nat}(hz:z.length<=u7)(he:atI z.cps.toList i=some c)(h:Q (.str ⟨#[c]⟩) H):qIx (.str z) (.int i) H Q:=⟨hz,c,he,h⟩
theorem b6G{QH:Hp->Prop}{k:Nat}(hp:H p=some (.lst xs))(he:ixN xs.length i=some k)(h:QH (upd H p (.lst (xs.set k v)))):b1g (.ref p) (.int i) v H QH:=by
 unfold b1g;simp only[hp];exact⟨k,he,h⟩
theorem d3C(hp:H p=some (.lst xs))(h0:0<=i)(he:xs[i.toNat]? = some v)(h:Q v H):c3N (.ref p) (.int i) H Q:=by
 unfold c3N;simp only[hp];exact⟨h0,v,he,h⟩
theorem L9(hp:H p=some (.lst xs))(h:Q (.int xs.length) H):V4 [.ref p] H Q:=by
 unfold V4;simp only[hp];exact h
theorem a3K(hp:H p=some (.tup xs))(h:Q (.int xs.length) H):V4 [.ref p] H Q:=by
 unfold V4;simp only[hp];exact h
theorem d1f(hz:z.length<=u7)(h:Q (.int z.length) H):V4 [.str z] H Q:=⟨hz,h⟩
theorem d3F(h:Q (.int (if i<0 then -i else i)) H):c6m [.int i] H Q:=h
theorem d4E(hs:b9h x y=true)(h:Q (.bl (decide (x=y))) H):qEq x y H Q:=⟨_,if_pos hs,h⟩
theorem d4C(hs:b9h x y=true)(h:Q (.bl (!decide (x=y))) H):qNe x y H Q:=⟨_,if_pos hs,h⟩
theorem b1q(ha:H a=some (.tup xs))(hb:H b=some (.tup ys))(fx:xs.all O8=true)(fy:ys.all O8=true):eqO (.ref a) (.ref b) H=some (Z1 xs ys):=by
 unfold eqO;rw[if_neg (by intro z;cases z)];simp only[ha,hb];rw[if_pos ⟨fx,fy⟩]
theorem b7Y(ha:H a=some (.lst xs))(hb:H b=some (.lst ys))(fx:xs.all O8=true)(fy:ys.all O8=true):eqO (.ref a) (.ref b) H=some (Z1 xs ys):=by
 unfold eqO;rw[if_neg (by intro z;cases z)];simp only[ha,hb];rw[if_pos ⟨fx,fy⟩]
theorem d2x(hb:H b=some (.tup ys)):eqO .non (.ref b) H=some false:=by
 unfold eqO;rw[if_neg (by intro z;cases z)];simp only[hb]
theorem c7i(v:V)(h:O8 v=true):eqV v v=true:=by
 cases v with
 | non=>rfl
 | bl b=>simp[eqV]
 | int i=>simp[eqV]
 | str s=>simp[eqV]
 | byt b=>cases h
 | flt b=>cases h
 | ref a=>cases h
 | ty n=>cases h
theorem a8z(xs:List V)(h:xs.all O8=true):Z1 xs xs=true:=by
 unfold Z1;rw[b5H,beq_self_eq_true,b2V,L3];intro j hj;have hl:j<xs.length:=by simpa using hj
 have e:xs.getD j .non=xs[j]:=by simp[D6,hl]
 rw[e];exact c7i _ (L3.mp h _ (J7 _))
theorem b3h(hp:H p=some (.tup xs))(hx:O8 x=true)(ha:xs.all O8=true)(h:Q (.bl (inV x xs)) H):qIn false x (.ref p) H Q:=by
 unfold qIn;cases x <;> first | (simp only[hp];exact⟨hx,ha,h⟩) | cases hx
theorem W3{l:Addr}(hp:H l=some (.lst xs))(hl:xs.length<u7)(h:Q .non (upd H l (.lst (xs++[y])))):O5 (.ref l) [y] H Q:=by
 unfold O5;simp only[hp];exact⟨hl,h⟩
theorem c6d{lo hi:Option Int}(ha:H a=some (.tup xs))(hw:¬(HT.sIx xs.length 0 lo=0/\HT.sIx xs.length xs.length hi=xs.length))(h:∀p H',H p=none->H' p=some (.tup (a8B xs lo hi))->d9 H H'->Q (.ref p) H'):qSl (.ref a) lo hi H Q:=by
 unfold qSl;simp only[ha];exact⟨hw,fun p hp=>h p _ hp d8 (A9 hp)⟩
theorem c6e{lo hi:Option Int}(ha:H a=some (.lst xs))(h:∀p H',H p=none->H' p=some (.lst (a8B xs lo hi))->d9 H H'->Q (.ref p) H'):qSl (.ref a) lo hi H Q:=by
 unfold qSl;simp only[ha];exact fun p hp=>h p _ hp d8 (A9 hp)
theorem a6g{s c:String}(e:a4V x H=some s)(hc:c∈b2F)(h:Q (.bl (c1U s c)) H):a7S [x,.ty c] H Q:=⟨s,e,hc,h⟩
theorem d1g{s:Str}{l:Addr}{ss:List Str}(hp:H l=some (.lst xs))(e:a6o xs=some ss)(hl:(ss.map (·.length)).sum+ss.length * s.length<=16777216)(h:Q (.str (Txt.join s ss)) H):b6I (.str s) [.ref l] H Q:=by
 unfold b6I;simp only[hp];exact⟨ss,e,hl,h⟩
end
section
variable {D:Addr}{K:Fg}
theorem b5r{lo:Int}(Pv:Nat->List V->Hp->Prop)(h0:Pv 0 [] (upd H1 D (.lst [])))(hP:∀i ys H,Pv i ys H->H D=some (.lst ys))
  (step:∀i ys H2,i<n->Pv i ys H2->∀R:VK,(∀y H5,H5 D=some (.lst ys)->ys.length<u7->Pv (i+1) (ys++[y]) (upd H5 D (.lst (ys++[y])))->R y H5)->te (some (.int (lo+i))::σ) H2 R)
  (done:∀ys H2,Pv n ys H2->QD H2) :
  ∃W:Nat->Nat->List V->Hp->Prop,(∃m,W 0 m [] (upd H1 D (.lst [])))/\∀i m ys H2,W i m ys H2->H2 D=some (.lst ys) /\
   (((Itr lo n).stop i H2 /\ QD H2) \/ ((Itr lo n).go i H2 /\ ∀ x H3,(Itr lo n).yld i H2 x H3 -> a0e (some x :: σ) H3 fun ok H4 => if ok = true then
     te (some x::σ) H4 (fun y H5=>H5 D=some (.lst ys)/\ys.length<u7/\∃m',m'<m/\W (i+1) m' (ys++[y]) (upd H5 D (.lst (ys++[y]))))
     else ∃m',m'<m/\W (i+1) m' ys H4)):=by
 refine⟨fun i m ys H=>m=n - i/\i<=n/\Pv i ys H,⟨n,rfl,P8 _,h0⟩,?_⟩;rintro i m ys H2 ⟨rfl,hi,p⟩;refine⟨hP i ys H2 p,?_⟩;by_cases hlt:i<n
 ·refine .inr ⟨hlt,fun x H3 y=>?_⟩
  obtain⟨e,y⟩:=y;subst e y;refine c1c ?_;rw[if_pos rfl];exact step i ys _ hlt p _ fun y H5 h1 h2 h3=>⟨h1,h2,n - (i+1),by omega,rfl,hlt,h3⟩
 ·have e:i=n:=by omega
  subst e;exact .inl ⟨j9 _,done ys H2 p⟩
theorem a0E(Pv:Nat->List V->Hp->Prop)(h0:Pv 0 [] (upd H1 D (.lst [])))(hP:∀i ys H,Pv i ys H->H D=some (.lst ys))(hl:∀i ys H,i<=xs.length->Pv i ys H->SqL K H a xs)
  (step:∀i x ys H2,xs[i]? = some x->Pv i ys H2->∀R:VK,(∀y H5,H5 D=some (.lst ys)->ys.length<u7->Pv (i+1) (ys++[y]) (upd H5 D (.lst (ys++[y])))->R y H5)->te (some x::σ) H2 R)
  (done:∀ys H2,Pv xs.length ys H2->QD H2) :
  ∃W:Nat->Nat->List V->Hp->Prop,(∃m,W 0 m [] (upd H1 D (.lst [])))/\∀i m ys H2,W i m ys H2->H2 D=some (.lst ys) /\
   (((Itl K a).stop i H2 /\ QD H2) \/ ((Itl K a).go i H2 /\ ∀ x H3,(Itl K a).yld i H2 x H3 -> a0e (some x :: σ) H3 fun ok H4 => if ok = true then
     te (some x::σ) H4 (fun y H5=>H5 D=some (.lst ys)/\ys.length<u7/\∃m',m'<m/\W (i+1) m' (ys++[y]) (upd H5 D (.lst (ys++[y]))))
     else ∃m',m'<m/\W (i+1) m' ys H4)):=by
 refine⟨fun i m ys H=>m=xs.length - i/\i<=xs.length/\Pv i ys H,⟨xs.length,rfl,P8 _,h0⟩,?_⟩;rintro i m ys H2 ⟨rfl,hi,p⟩;refine⟨hP i ys H2 p,?_⟩;have q:=hl i ys H2 hi p;by_cases hlt:i<xs.length
 ·refine .inr ⟨⟨xs,xs[i],q,by simp[hlt]⟩,fun x H3 y=>?_⟩
  obtain⟨e,y⟩:=y;subst e;refine c1c ?_;rw[if_pos rfl];exact step i x ys _ (y xs q) p _ fun y H5 h1 h2 h3=>⟨h1,h2,xs.length - (i+1),by omega,rfl,hlt,h3⟩
 ·have e:i=xs.length:=by omega
  subst e;exact .inl ⟨⟨xs,q,j9 _⟩,done ys H2 p⟩
theorem a1u{wi:TI}(h:wi σ H1 fun J H1=>∀D,H1 D=none->∃W:Nat->Nat->List V->Hp->Prop,
 (∃m,W 0 m [] (upd H1 D (.lst [])))/\∀i m ys H2,W i m ys H2->H2 D=some (.lst ys) /\
  ((J.stop i H2 /\ Q (.ref D) H2) \/ (J.go i H2 /\ ∀ x H3,J.yld i H2 x H3 -> tt (some x :: σ) H3 fun ok H4 => if ok = true then
    te (some x::σ) H4 (fun y H5=>H5 D=some (.lst ys)/\ys.length<u7/\∃m',m'<m/\W (i+1) m' (ys++[y]) (upd H5 D (.lst (ys++[y]))))
    else ∃m',m'<m/\W (i+1) m' ys H4))):a0f wi tt te σ H1 Q:=h
theorem a2B{ta:TA}(h:ta σ H1 fun vs H2=>∃j:Int,vs=[.int j] /\ -(2 ^ 62)<=j/\j<2 ^ 62/\R (Itr 0 j.toNat) H2):a3Q ta σ H1 R:=h
theorem V3(h:ta σ H1 fun x H2=>∃a,x=.ref a/\(∃xs,SqL K H2 a xs)/\R (Itl K a) H2):U2 K ta σ H1 R:=h
theorem a0g{wi:TI}{g:TG}{tb:TS}{D:b0r}(h:wi σ H1 fun J H1=>∃W:Nat->Nat->St->Hp->Prop,(∃m,W 0 m σ H1)/\∀i m σ H,W i m σ H ->
 (J.stop i H/\D.nx σ H)\/(J.go i H/\∃N:St->Hp->Prop,(∀σ' H',N σ' H'->∃m',m'<m/\W (i+1) m' σ' H')/\∀x H',J.yld i H x H'->g x σ H' fun σ2 H2=>tb { D with nx:=N,ct:=N,bk:=D.nx } σ2 H2)):a1R wi g tb D σ H1:=h
end
def F5(H H':Hp):Prop:=∀a xs,H a=some (.tup xs)->H' a=some (.tup xs)
theorem F5.new(h:H p=none):F5 H (upd H p o):=fun a xs e=>by rw[i8 (c9 e h)];exact e
theorem F5.put(h:H p=some (.lst ys)):F5 H (upd H p o):=fun a xs e=>by
 rw[i8 (O3 e h (by intro z;cases z))];exact e
theorem d9.ts(s:d9 H H'):F5 H H':=fun a xs h=>s a _ h
theorem J3.ts{c:Addr}(k:J3 b H H')(hB:Bag H b c):F5 H H':=fun a xs h=>by
 obtain⟨ys,hb⟩:=hB.lst;exact k.tup hb h
def OpV(v:V):Prop:=(∃s,v=.str s)\/∃n:Int,v=.int n/\0<=n/\n<1000000000000
def d2O(H:Hp)(p:Addr):Prop:=∃k v1 v2,H p=some (.tup [.str k,v1,v2])/\OpV v1/\OpV v2/\k∈(["plus","minus","times","less","same"]:List Str)
inductive b6U(H:Hp):List V->Prop
 | set (n:Str) (p:Addr):d2O H p->b6U H [.str "set",.str n,.ref p]
 | copy (n:Str) (v:V):OpV v->b6U H [.str "copy",.str n,v]
 | take (n:Str):b6U H [.str "take",.str n]
 | tell (v:V):OpV v->b6U H [.str "tell",v]
 | ask (v:V):OpV v->b6U H [.str "ask",v]
 | skip:b6U H [.str "skip"]
structure d4M(H:Hp)(a:Addr):Prop where
 ex:∃ss:List Str,H a=some (.lst (ss.map V.str))/\ss≠[]/\ss.length<=8
theorem small(h:n<=100000):n<=u7:=J4 h (by rw[a6Y];decide)
theorem G8(h:n<100000):n<u7:=D0 h (by rw[a6Y];decide)
theorem A2{c:Bool}{A B:Prop}(hc:c=true)(h:A):if c=true then A else B:=by rw[if_pos hc];exact h
theorem p8{c:Bool}{A B:Prop}(hc:c=false)(h:B):if c=true then A else B:=by rw[hc];exact L2.d2r h
section
variable {t u:TS}{tb tc:TE}{tu:TT}{tr:TA}{QB:Bool->Hp->Prop}{QA:List V->Hp->Prop}{x y:V}{i j:Int}{K:Fg}
theorem c1h(h:∀p H',H p=none->H' p=some (.dK [])->d9 H H'->Q (.ref p) H'):b1Y σ H Q:=fun p hp=>h p _ hp d8 (A9 hp)
theorem c5Y(h:ti σ H fun y H1=>to σ H1 fun x H2=>∃a o,x=.ref a/\a4R H2 a y o/\Q (.bl o.isSome) H2):b7l ti to σ H Q:=h
theorem a2h(h:ti σ H fun y H1=>to σ H1 fun x H2=>∃a o,x=.ref a/\a4R H2 a y o/\Q (.bl (!o.isSome)) H2):a0S ti to σ H Q:=h
theorem a9W(h:te σ H fun v H1=>to σ H1 fun x H2=>ti σ H2 fun y H3=>∃a H4,x=.ref a/\b5E H3 a y v H4/\D.nx σ H4):a3Z to ti te D σ H:=h
theorem R0{f:Str}(h:ta σ H fun x H1=>∃a C dx fs v,x=.ref a/\H1 a=some (.ins C dx fs)/\Cls K C/\a1g K C f/\fs.lookup f=some v/\Q v H1):Z6 K ta f σ H Q:=h
theorem a4h{f:Str}(h:te σ H fun y H1=>ta σ H1 fun x H2=>∃a C dx fs,x=.ref a/\H2 a=some (.ins C dx fs)/\Cls K C/\a1g K C f/\fs.length<1000/\D.nx σ (upd H2 a (.ins C dx (X7 f y fs)))):a9g K ta te f D σ H:=h
theorem V2{m:Str}{sp:Sp}{E:XK}(h:ta σ H fun x H1=>∃a dx fs,x=.ref a/\H1 a=some (.ins C dx fs)/\fs.lookup m=none/\tr σ H1 fun vs H2=>sp (x::(vs++[])) H2 Q E):V9 C m sp [] E ta tr σ H Q:=h
theorem b7z{sp:Sp}{E:XK}(h:tr σ H fun vs H1=>∀x dx,H1 x=none->H1 dx=none->dx≠x ->
 sp (.ref x::(vs++[])) (upd (upd H1 dx (.own x)) x (.ins C dx [])) (fun v H2=>v=.non/\Q (.ref x) H2) E):a5Z C sp [] E tr σ H Q:=h
theorem c2y{f:V->List V->Hp->VK->Prop}(h:to σ H fun x H1=>tyV K "list" x H1/\f x [] H1 Q):c0O K "list" f to σ H Q:=h
theorem X9(h:H p=some (.lst xs)):tyV K "list" (.ref p) H:=.inl ⟨rfl,xs,SqL.of h⟩
theorem a8T{a b:Nat}{QS:St->Hp->Prop}(hp:SqT K H p [x,y])(h:QS ((σ.set a (some x)).set b (some y)) H):b5o K 2 (a2Q (t9 a) (a2Q (t9 b) b5p)) (.ref p) σ H QS:=
 ⟨p,_,rfl,hp,rfl,_,_,rfl,_,_,rfl,rfl,h⟩
theorem a6e(h:tr σ H fun vs H1=>∃a,vs=[.ref a]/\(∃xs,SqL K H1 a xs)/\R (Ite K a) H1):a8y K tr σ H R:=h
theorem d0U(h:tr σ H fun vs H1=>∃a b,vs=[.ref a,.ref b]/\(∃xs,SqL K H1 a xs)/\(∃xs,SqL K H1 b xs)/\R (Itz K a b) H1):c9y K tr σ H R:=h
theorem a6d(h:∃W:Nat->St->Hp->Prop,(∃m,W m σ H)/\∀m σ H,W m σ H ->
 tt σ H fun b H1=>if b=true then ∃N:St->Hp->Prop,(∀σ' H',N σ' H'->∃m',m'<m/\W m' σ' H')/\t { D with nx:=N,ct:=N,bk:=D.nx } σ H1 else D.nx σ H1):a5B tt t D σ H:=h
theorem c5S(h:te σ H fun v H1=>D.nx (σ.set n (some v)) H1):(fun D σ H=>te σ H fun v H1=>(D:b0r).nx (σ.set n (some v)) H1:TS) D σ H:=h
theorem b7B{wi:TI}(h:wi σ H1 fun J H1=>∀D,H1 D=none->∃W:Nat->Nat->List V->Hp->Prop,
 (∃m,W 0 m [] (upd H1 D (.lst [])))/\∀i m ys H2,W i m ys H2->H2 D=some (.lst ys) /\
  ((J.stop i H2 /\ Q (.ref D) H2) \/ (J.go i H2 /\ ∀ x H3,J.yld i H2 x H3 -> ∃ a u v,x = .ref a /\ SqT K H3 a [u,v] /\ tt (some u :: some v :: σ) H3 fun ok H4 => if ok = true then
    te (some u::some v::σ) H4 (fun y H5=>H5 D=some (.lst ys)/\ys.length<u7/\∃m',m'<m/\W (i+1) m' (ys++[y]) (upd H5 D (.lst (ys++[y]))))
    else ∃m',m'<m/\W (i+1) m' ys H4))):a8i K wi tt te σ H1 Q:=h
theorem d2y{J:It}{D:Addr}(n:Nat)(Pv:Nat->List V->Hp->Prop)(h0:Pv 0 [] (upd H1 D (.lst [])))(hP:∀i ys H,Pv i ys H->H D=some (.lst ys))(stop:∀ys H,Pv n ys H->J.stop n H/\QD H)(go:∀i ys H,i<n->Pv i ys H->J.go i H)
  (step:∀i ys H2,i<n->Pv i ys H2->∀x H3,J.yld i H2 x H3->∀(R:VK) (S:Hp->Prop),(∀y H5,H5 D=some (.lst ys)->ys.length<u7->Pv (i+1) (ys++[y]) (upd H5 D (.lst (ys++[y])))->R y H5)->(∀H4,Pv (i+1) ys H4->S H4) ->
   tt (some x::σ) H3 fun ok H4=>if ok=true then te (some x::σ) H4 R else S H4) :
  ∃W:Nat->Nat->List V->Hp->Prop,(∃m,W 0 m [] (upd H1 D (.lst [])))/\∀i m ys H2,W i m ys H2->H2 D=some (.lst ys) /\
   ((J.stop i H2 /\ QD H2) \/ (J.go i H2 /\ ∀ x H3,J.yld i H2 x H3 -> tt (some x :: σ) H3 fun ok H4 => if ok = true then
     te (some x::σ) H4 (fun y H5=>H5 D=some (.lst ys)/\ys.length<u7/\∃m',m'<m/\W (i+1) m' (ys++[y]) (upd H5 D (.lst (ys++[y]))))
     else ∃m',m'<m/\W (i+1) m' ys H4)):=by
 refine⟨fun i m ys H=>m=n - i/\i<=n/\Pv i ys H,⟨n,rfl,P8 _,h0⟩,?_⟩;rintro i m ys H2 ⟨rfl,hi,p⟩;refine⟨hP i ys H2 p,?_⟩;by_cases hlt:i<n
 ·exact .inr ⟨go i ys H2 hlt p,fun x H3 hy=>step i ys H2 hlt p x H3 hy _ _ (fun y H5 h1 h2 h3=>⟨h1,h2,n - (i+1),by omega,rfl,hlt,h3⟩) fun H4 h4=>⟨n - (i+1),by omega,rfl,hlt,h4⟩⟩
 ·have e:i=n:=by omega
  subst e;exact .inl (stop ys H2 p)
theorem c2b{J:It}{D:Addr}(n:Nat)(Pv:Nat->List V->Hp->Prop)(h0:Pv 0 [] (upd H1 D (.lst [])))(hP:∀i ys H,Pv i ys H->H D=some (.lst ys))(stop:∀ys H,Pv n ys H->J.stop n H/\QD H)(go:∀i ys H,i<n->Pv i ys H->J.go i H)
  (step:∀i ys H2,i<n->Pv i ys H2->∀x H3,J.yld i H2 x H3->∃a u v,x=.ref a/\SqT K H3 a [u,v]/\∀(R:VK) (S:Hp->Prop),(∀y H5,H5 D=some (.lst ys)->ys.length<u7->Pv (i+1) (ys++[y]) (upd H5 D (.lst (ys++[y])))->R y H5)->(∀H4,Pv (i+1) ys H4->S H4) ->
   tt (some u::some v::σ) H3 fun ok H4=>if ok=true then te (some u::some v::σ) H4 R else S H4) :
  ∃W:Nat->Nat->List V->Hp->Prop,(∃m,W 0 m [] (upd H1 D (.lst [])))/\∀i m ys H2,W i m ys H2->H2 D=some (.lst ys) /\
   ((J.stop i H2 /\ QD H2) \/ (J.go i H2 /\ ∀ x H3,J.yld i H2 x H3 -> ∃ a u v,x = .ref a /\ SqT K H3 a [u,v] /\ tt (some u :: some v :: σ) H3 fun ok H4 => if ok = true then
     te (some u::some v::σ) H4 (fun y H5=>H5 D=some (.lst ys)/\ys.length<u7/\∃m',m'<m/\W (i+1) m' (ys++[y]) (upd H5 D (.lst (ys++[y]))))
     else ∃m',m'<m/\W (i+1) m' ys H4)):=by
 refine⟨fun i m ys H=>m=n - i/\i<=n/\Pv i ys H,⟨n,rfl,P8 _,h0⟩,?_⟩;rintro i m ys H2 ⟨rfl,hi,p⟩;refine⟨hP i ys H2 p,?_⟩;by_cases hlt:i<n
 ·refine .inr ⟨go i ys H2 hlt p,fun x H3 hy=>?_⟩
  obtain⟨a,u,v,e,hs,st⟩:=step i ys H2 hlt p x H3 hy;exact⟨a,u,v,e,hs,st _ _ (fun y H5 h1 h2 h3=>⟨h1,h2,n - (i+1),by omega,rfl,hlt,h3⟩) fun H4 h4=>⟨n - (i+1),by omega,rfl,hlt,h4⟩⟩
 ·have e:i=n:=by omega
  subst e;exact .inl (stop ys H2 p)
theorem b5q{J:It}{g:TG}{tb:TS}(n:Nat)(Pv:Nat->St->Hp->Prop)(h0:Pv 0 σ H)(stop:∀σ H,Pv n σ H->J.stop n H/\D.nx σ H)(go:∀i σ H,i<n->Pv i σ H->J.go i H)
  (hs:∀i σ H,i<n->Pv i σ H->∀x H',J.yld i H x H'->g x σ H' fun σ2 H2=>tb { D with nx:=Pv (i+1),ct:=Pv (i+1),bk:=D.nx } σ2 H2) :
  ∃W:Nat->Nat->St->Hp->Prop,(∃m,W 0 m σ H)/\∀i m σ H,W i m σ H ->
   (J.stop i H/\D.nx σ H)\/(J.go i H/\∃N:St->Hp->Prop,(∀σ' H',N σ' H'->∃m',m'<m/\W (i+1) m' σ' H')/\∀x H',J.yld i H x H'->g x σ H' fun σ2 H2=>tb { D with nx:=N,ct:=N,bk:=D.nx } σ2 H2):=by
 refine⟨fun i m σ H=>m=n - i/\i<=n/\Pv i σ H,⟨n,rfl,P8 _,h0⟩,?_⟩;rintro i m σ H ⟨rfl,hi,p⟩;by_cases hlt:i<n
 ·exact .inr ⟨go i σ H hlt p,Pv (i+1),fun σ' H' p'=>⟨n - (i+1),by omega,rfl,hlt,p'⟩,fun x H' hy=>hs i σ H hlt p x H' hy⟩
 ·have e:i=n:=by omega
  subst e;exact .inl (stop σ H p)
theorem d3B(h:Q (.int (if j<i then j else i)) H):c6j [.int i,.int j] H Q:=h
theorem b3q(bs:List Bool):a0X (bs.map V.bl)=some bs:=by
 induction bs with
 | nil=>rfl
 | cons s r ih=>simp[a0X,ih]
theorem d3D{l:Addr}{bs:List Bool}(hl:H l=some (.lst (bs.map V.bl)))(h:Q (.bl (bs.any id)) H):c1o [.ref l] H Q:=by
 unfold c1o;simp only[hl];exact⟨bs,b3q bs,h⟩
theorem c6g{l:Addr}{bs:List Bool}(hl:H l=some (.lst (bs.map V.bl)))(h:Q (.bl (bs.all id)) H):b2q [.ref l] H Q:=by
 unfold b2q;simp only[hl];exact⟨bs,b3q bs,h⟩
theorem b9s{l:Addr}{zs:List V}(hl:H l=some (.lst xs))(hb:H b=some (.lst zs))(hz:xs.length+zs.length<=u7)(h:Q .non (upd H l (.lst (xs++zs)))):a7q (.ref l) [.ref b] H Q:=by
 unfold a7q;simp only[hl,hb];exact⟨hz,h⟩
theorem d3A{l:Addr}(hl:H l=some (.lst (xs++[y])))(h:Q y (upd H l (.lst xs))):c3M (.ref l) [] H Q:=by
 unfold c3M;simp only[hl];refine⟨y,by simp,?_⟩;simpa using h
theorem c8p{l:Addr}(hl:H l=some (.lst xs))(h:Q .non (upd H l (.lst []))):b2p (.ref l) [] H Q:=by
 unfold b2p;simp only[hl];exact h
theorem a8U(hp:H p=some (.lst ys))(h:∀l H',H l=none->H' l=some (.lst ys)->d9 H H'->Q (.ref l) H'):a7P [.ref p] H Q:=by
 unfold a7P;simp only[hp];exact fun l hl=>h l _ hl d8 (A9 hl)
end
def IL(l:List Nat):List V:=l.map fun(n:Nat)=>V.int (n:Int)
theorem K9(l:List Nat):(IL l).length=l.length:=by simp[IL]
theorem b8t(l:List Nat):(IL l).all O8=true:=by
 rw[L3];intro x hx;obtain⟨s,_,rfl⟩:=A8.mp hx;rfl
def KS(ks:List Nat):List (Key×V):=ks.map fun(k:Nat)=>(Sum.inl (k:Int),V.bl true)
theorem c7z(ks:List Nat)(k:Nat):(a6n (KS ks) (Sum.inl (k:Int))).isSome=decide (k∈ks):=by
 induction ks with
 | nil=>rfl
 | cons a r ih=>
  by_cases e:a=k
  ·subst e
   rw[show KS (a::r)=(Sum.inl (a:Int),V.bl true)::KS r from rfl,b0G rfl];simp
  ·rw[show KS (a::r)=(Sum.inl (a:Int),V.bl true)::KS r from rfl,b0H (by intro z;have:=Sum.inl.inj z;exact e (by omega)),ih]
   have:(k∈a::r)↔k∈r:=by
    rw[u6];exact⟨fun h=>h.elim (fun z=>absurd z.symm e) id,.inr⟩
   simp[this]
def a8n(ks:List Nat)(k:Nat):List Nat:=if k∈ks then ks else ks++[k]
theorem d2L(ks:List Nat)(k:Nat):a1Z (KS ks) (Sum.inl (k:Int)) (V.bl true)=KS (a8n ks k):=by
 unfold a1Z a8n;rw[a4G,c7z];by_cases h:k∈ks
 ·rw[if_pos (d6x h),if_pos h]
  unfold KS;rw[S9];apply a3v;intro a _;show(if(Sum.inl (a:Int):Key)=Sum.inl (k:Int)then ((Sum.inl (a:Int):Key),V.bl true)else ((Sum.inl (a:Int):Key),V.bl true))=_;split <;> rfl
 ·rw[if_neg (by simpa using h),if_neg h]
  simp[KS]
theorem a2k{k:Nat}:j∈a8n ks k↔j∈ks\/j=k:=by
 unfold a8n;split
 ·rename_i h
  exact⟨.inl,fun q=>q.elim id fun z=>z ▸ h⟩
 ·simp
theorem b3K{k:Nat}(h:ks.Nodup):(a8n ks k).Nodup:=by
 unfold a8n;split
 ·exact h
 ·rename_i hk
  rw[a0q];exact⟨h,by simp,fun a ha b hb=>by rw[v6.mp hb];intro z;exact hk (z ▸ ha)⟩
theorem d2M(ks:List Nat):(KS ks).length=ks.length:=by simp[KS]
theorem a3O:∀(n:Nat) (ks:List Nat),ks.Nodup->(∀k∈ks,k<n)->ks.length<=n:=by
 intro n;induction n with
 | zero=>
  intro ks _ h;cases ks with
  | nil=>exact j9 _
  | cons a r=>exact absurd (h a J8) (Nat.not_lt_zero _)
 | succ n ih=>
  intro ks nd h;by_cases hn:n∈ks
  ·have:=ih (ks.erase n) (nd.erase n) fun k hk=>by
    have h1:=(List.Nodup.mem_erase_iff nd).mp hk;have:=h k h1.2;have:=h1.1;omega
   rw[c0D hn]at this;omega
  ·have:=ih ks nd fun k hk=>by
    have:=h k hk;have:k≠n:=fun z=>hn (z ▸ hk)
    omega
   omega
theorem a8Y(h:H d=some (.dK (KS ks)))(k:Nat):∃o,a4R H d (.int (k:Int)) o/\o.isSome=decide (k∈ks):=⟨_,a4R.k (k:=Sum.inl (k:Int)) h,c7z ks k⟩
theorem b8a(h:H d=some (.dK (KS ks)))(hl:ks.length<100000)(k:Nat):b5E H d (.int (k:Int)) (.bl true) (upd H d (.dK (KS (a8n ks k)))):=by
 rw[<-d2L];exact b5E.k (k:=Sum.inl (k:Int)) h (G8 (by rw[d2M];exact hl))
end RD
namespace RD
variable{C a b bx d dd dx na p ra rx w wx y:Addr}{H H' H0 H1:Hp}{o:HO}{ds xs ys:List V}{D:b0r}{σ:St}{ta te ti to:TE}{tt:TT}{Q:VK}{v:V}{e i j m n t t0:Nat}{z:Str}{Sr Sw ks l:List Nat}{QD:Hp->Prop}{R:It->Hp->Prop}{M N:Nt}{ns:List Int}{as rs:List Addr}{Z:Addr->Prop}{Do f:Nat->Bool}{kvs:List (Key×V)}
theorem c1J:∀(l m:List Nat),l.Nodup->(∀x∈l,x∈m)->l.length<=m.length
 | [],_,_,_=>P8 _
 | a::r,m,nd,h=>by
  have ha:=h a J8;have:=c1J r (m.erase a) (a1k.mp nd).2 fun x hx=>(List.mem_erase_of_ne (show x≠a from fun z=>(a1k.mp nd).1 (z ▸ hx))).mpr (h x (E9 _ hx))
  rw[c0D ha]at this;have:=a4z ha;rw[z9];omega
inductive Gd(N:Nt):Nat->Prop
 | stop {k:Nat}:N[k]? = some []->Gd N k
 | step {k t:Nat} {l:List Nat}:N[k]? = some l->t∈l->Gd N t->Gd N k
inductive Rc(N:Nt):Nat->Prop
 | zero:Rc N 0
 | step {k t:Nat} {l:List Nat}:Rc N k->N[k]? = some l->t∈l->Rc N t
structure S0(N:Nt):Prop where
 pos:0<N.length
 le:N.length<=400
 two:∀l∈N,l.length<=2
 lt:∀l∈N,∀t∈l,t<N.length
 rc:∀k,k<N.length->Rc N k
 gd:∀k,k<N.length->Gd N k
def a6i(N:Nt)(G:List Nat):List (List Nat):=(C1 N.length).map fun k=>if k∈G then N.getD k [] else (N.length - 1)::(N.getD k []).drop 1
theorem b6M(N:Nt)(G:List Nat):(a6i N G).length=N.length:=by simp[a6i]
theorem b5b{G:List Nat}{k:Nat}(h:k<N.length):(a6i N G)[k]? = some (if k∈G then N.getD k [] else (N.length - 1)::(N.getD k []).drop 1):=by
 unfold a6i;rw[b6,Y2 h];rfl
theorem b1m{G:List Nat}{k:Nat}(h:N[k]? = some l)(hk:k∈G):(a6i N G)[k]? = some l:=by
 have hl:=(k8.mp h).1;rw[b5b hl,if_pos hk];simp[D6,h]
theorem b6L{G:List Nat}{k:Nat}(h:N[k]? = some l)(hk:¬k∈G):(a6i N G)[k]? = some ((N.length - 1)::l.drop 1):=by
 have hl:=(k8.mp h).1;rw[b5b hl,if_neg hk];simp[D6,h]
theorem c9D{G:List Nat}(hG:∀k∈G,Gd N k)(hl:N[N.length - 1]? = some [])(hm:N.length - 1∈G):∀k,k<N.length->Gd (a6i N G) k:=by
 have last:Gd (a6i N G) (N.length - 1):=.stop (b1m hl hm);have out:∀k,k<N.length->¬k∈G->Gd (a6i N G) k:=fun k hk h=>.step (b6L (l:=N[k]) (by simp) h) J8 last
 have go:∀k,Gd N k->Gd (a6i N G) k:=by
  intro k h;induction h with
  | @stop k h=>
   by_cases hk:k∈G
   ·exact .stop (b1m h hk)
   ·exact out k (k8.mp h).1 hk
  | @step k t l h ht _ ih=>
   by_cases hk:k∈G
   ·exact .step (b1m h hk) ht ih
   ·exact out k (k8.mp h).1 hk
 intro k hk;by_cases h:k∈G
 ·exact go k (hG k h)
 ·exact out k hk h
theorem b9O{G:List Nat}(hp:0<N.length)(hs:∀l∈N,l.length<=2/\∀t∈l,t<N.length)(hl:N[N.length - 1]? = some [])(hm:N.length - 1∈G):∀l∈a6i N G,l.length<=2/\∀t∈l,t<N.length:=by
 intro l hl';obtain⟨k,hk⟩:=i9.mp hl';have hkl:k<N.length:=by have:=(k8.mp hk).1;rwa [b6M]at this
 rw[b5b hkl]at hk;have e:N.getD k []=N[k]:=by simp[D6,hkl]
 rw[e]at hk;obtain⟨h1,h2⟩:=hs N[k] (J7 _);by_cases hg:k∈G
 ·rw[if_pos hg]at hk
  cases hk;exact⟨h1,h2⟩
 ·rw[if_neg hg]at hk
  cases hk;refine⟨?_,fun t ht=>?_⟩
  ·rw[z9,b5L];omega
  ·rcases u6.mp ht with z | z
   ·omega
   ·exact h2 t (List.drop_subset _ _ z)
def a9K(N:Nt)(O:List Nat):List (List Nat):=O.map fun k=>(N.getD k []).map fun t=>O.idxOf t
theorem c7d{O:List Nat}(h:t∈O):O.idxOf t<O.length:=c0E.mpr h
theorem b7m{O:List Nat}{k:Nat}(hk:k∈O)(h:N[k]? = some l):(a9K N O)[O.idxOf k]? = some (l.map fun t=>O.idxOf t):=by
 unfold a9K
 have:O[O.idxOf k]? = some k:=by
  rw[c8 (c7d hk)];simp
 rw[b6,this];simp[D6,h]
theorem c1X{O:List Nat}(h0:0∈O)(hs:O.Pairwise (· <= ·)):O.idxOf 0=0:=by
 cases O with
 | nil=>cases h0
 | cons a r=>
  have:a=0:=by
   rcases u6.mp h0 with z | z
   ·exact z.symm
   ·have:=(List.pairwise_cons.mp hs).1 0 z
    omega
  subst this;simp
theorem c3r{O:List Nat}(h0:0∈O)(hs:O.Pairwise (· <= ·))(hnd:O.Nodup)(hlt:∀k∈O,k<N.length)(hN:N.length<=400)(hcl:∀k∈O,∀l,N[k]? = some l->∀t∈l,t∈O)(hrc:∀k∈O,Rc N k)
  (hsm:∀l∈N,l.length<=2) (hgd:∀k,k<N.length->Gd N k):S0 (a9K N O):=by
 have hlen:(a9K N O).length=O.length:=by simp[a9K]
 have rc:∀k,Rc N k->k∈O/\Rc (a9K N O) (O.idxOf k):=by
  intro k h;induction h with
  | zero=>
   refine⟨h0,?_⟩;rw[c1X h0 hs];exact .zero
  | @step k t l _ hl ht ih=>
   obtain⟨i1,i2⟩:=ih;exact⟨hcl k i1 l hl t ht,.step i2 (b7m i1 hl) (A8.mpr ⟨t,ht,rfl⟩)⟩
 have gd:∀k,Gd N k->k∈O->Gd (a9K N O) (O.idxOf k):=by
  intro k h;induction h with
  | @stop k h=>
   intro hk;exact .stop (by rw[b7m hk h];rfl)
  | @step k t l h ht _ ih=>
   intro hk;exact .step (b7m hk h) (A8.mpr ⟨t,ht,rfl⟩) (ih (hcl k hk l h t ht))
 have at_:∀i,i<O.length->∃k∈O,O.idxOf k=i:=fun i hi=>⟨O[i],J7 _,hnd.idxOf_getElem i hi⟩
 have mem:∀l∈a9K N O,∃k∈O,∃l',N[k]? = some l'/\l=l'.map fun t=>O.idxOf t:=by
  intro l hl;obtain⟨k,hk,rfl⟩:=A8.mp hl;refine⟨k,hk,N[k]'(hlt k hk),by simp[hlt k hk],?_⟩;simp[D6,hlt k hk]
 refine⟨?_,?_,fun l hl=>?_,fun l hl t ht=>?_,fun i hi=>?_,fun i hi=>?_⟩
 ·rw[hlen]
  exact a4z h0
 ·rw[hlen]
  exact J4 (a3O _ _ hnd hlt) hN
 ·obtain⟨k,hk,l',e,rfl⟩:=mem l hl
  rw[b9];exact hsm l' (a1p e)
 ·obtain⟨k,hk,l',e,rfl⟩:=mem l hl
  obtain⟨t',ht',rfl⟩:=A8.mp ht;rw[hlen];exact c7d (hcl k hk l' e t' ht')
 ·rw[hlen]at hi
  obtain⟨k,hk,rfl⟩:=at_ i hi;exact(rc k (hrc k hk)).2
 ·rw[hlen]at hi
  obtain⟨k,hk,rfl⟩:=at_ i hi;exact gd k (hgd k (hlt k hk)) hk
end RD
namespace RD
open PySem PySem.Spec PyProof.Rows L2
variable{C a b bx d dd dx na p ra rx w wx y:Addr}{H H' H0 H1:Hp}{o:HO}{ds xs ys:List V}{D:b0r}{σ:L2.St}{ta te ti to:TE}{tt:TT}{Q:VK}{v:V}{e i j m n t t0:Nat}{z:Str}{Sr Sw ks l:List Nat}{QD:Hp->Prop}{R:It->Hp->Prop}{M N:Nt}{ns:List Int}{as rs:List Addr}{Z:Addr->Prop}{Do f:Nat->Bool}{kvs:List (Key×V)}
structure Cn where
 C4:Addr
 Q2:Addr
 T1:Addr
 O0:Addr
 a7K:Addr
 I0:Addr
variable{c:Cn}
structure a1h(K:Fg)(c:Cn):Prop where
 L5:Cls K c.C4
 a3V:a1g K c.C4 "deed"
 a1N:a1g K c.C4 "found"
 a2m:a1g K c.C4 "plan"
 a1M:a1g K c.C4 "ready"
 Y7:a1g K c.C4 "wanted"
 O4:Cls K c.Q2
 a1L:a1g K c.Q2 "entries"
 Q3:a1g K c.Q2 "nexts"
 Z0:a1g K c.Q2 "rows"
 U8:Cls K c.T1
 a0A:a1g K c.T1 "come_by"
 a1Q:a1g K c.T1 "deed"
 a1P:a1g K c.T1 "plan"
 Y8:Cls K c.O0
 a0Z:a1g K c.O0 "goes_by"
 Z4:a1g K c.O0 "plan"
 b8A:∀H,SqT K H c.a7K [.str "plus",.str "minus",.str "times",.str "less",.str "same"]
 Q6:∀H,SqT K H c.I0 [.int (-1),.int (0)]
def spD(n m:Nat)(t:TS):Sp:=fun vs H Q _=>vs.length=n/\t { nx:=fun _ H'=>Q .non H',rt:=Q } (vs.map some++w6 (m - vs.length) none) H
def d0h(K:Fg):TS:=E1 (a1z (a9 (tC (.int 0)) (a9 (tC (.int 1234567891)) (a9 (tC (.int 0)) (a9 (a0f (U2 K (tSl (d1d K) (b4 0) a2o (a6E (tC (.int 63))))) a0e (tCB c6m (a9 (b4 0) d7))) d7)))))
def b7q(K:Fg):Sp:=spD 1 1 (d0h K)
def c5D(K:Fg):TS:=u8 (L6 (C7 (tOp qEq (tOp qIx (b4 0) (tC (.int 0))) (tC (.int 0)))) (u8 (F0 (tC (.int 12345)) (t9 2)) (u8 (L6 (C7 (tOp qLt (tOp qIx (b4 0) (tC (.int 2))) (tCB V4 (a9 (tOp qIx (b4 0) (tC (.int 3))) d7)))) (u8 (F0 (tOp qIx (tOp qIx (b4 0) (tC (.int 3))) (tOp qIx (b4 0) (tC (.int 2)))) (t9 3)) (u8 (c2v (b4 0) (tC (.int 2)) (tC (.int 1)) c3N (ipI fun i j=>i+j) b1g) (u8 (L6 (C7 (tOp qGe (b4 3) (tC (.int 1000000000000000000)))) (F0 (b4 3) (b7X (b4 0) (tC (.int 0)) b1g)) C9) (F0 (tOp a5m (tOp b6b (b4 3) (tC (.int 2147483647))) (tC (.int 1))) (t9 2))))) C9) (F0 (tOp b6b (tOp a5m (tOp c1l (tOp qIx (b4 0) (tC (.int 1))) (tC (.int 48271))) (b4 2)) (tC (.int 2147483647))) (b7X (b4 0) (tC (.int 1)) b1g)))) C9) (u8 (L6 (C7 (tOp qGt (tOp qIx (b4 0) (tC (.int 0))) (tC (.int 0)))) (u8 (F0 (tOp b6b (tOp qIx (b4 0) (tC (.int 0))) (b4 1)) (t9 4)) (u8 (F0 (tOp c8r (tOp qIx (b4 0) (tC (.int 0))) (b4 1)) (b7X (b4 0) (tC (.int 0)) b1g)) (E1 (b4 4)))) C9) (u8 (F0 (tOp b6b (tOp c1l (tOp qIx (b4 0) (tC (.int 1))) (tC (.int 39373))) (tC (.int 1000000007))) (t9 5)) (u8 (F0 (tOp b6b (tOp c1l (b4 5) (tC (.int 30011))) (tC (.int 998244353))) (t9 6)) (u8 (L6 (C7 (tOp qGt (b4 1) (tC (.int 1000000)))) (E1 (tOp b6b (tOp a5m (tOp c1l (b4 6) (tC (.int 1000000000))) (b4 5)) (b4 1))) C9) (E1 (tOp b6b (tOp c8r (b4 6) (tC (.int 3))) (b4 1)))))))
def M8(K:Fg):Sp:=spD 2 7 (c5D K)
def d0f(K:Fg):TS:=u8 (F0 (a1z d7) (t9 2)) (u8 (a1R (a3Q (a9 (b4 1) d7)) (t9 3) (u8 (F0 (tCB c6j (a9 (tOp a5m (b4 3) (tC (.int 1))) (a9 (tOp c3L (b4 1) (tC (.int 1))) d7))) (t9 4)) (u8 (F0 (a1z (a9 (b4 4) (a9 (u9 (M8 K) [] E0 (a9 (b4 0) (a9 (b4 1) d7))) d7))) (t9 5)) (u8 (F0 (u9 (M8 K) [] E0 (a9 (b4 0) (a9 (tC (.int 8)) d7))) (t9 6)) (u8 (L6 (C7 (tOp qLt (b4 6) (tC (.int 3)))) (F0 (a1z (a9 (tOp qIx (b4 5) (tC (.int 1))) (a9 (b4 4) d7))) (t9 5)) C9) (u8 (L6 (C7 (tOp qEq (b4 6) (tC (.int 3)))) (F0 (a1z (a9 (tOp qIx (b4 5) (tC (.int 1))) (a9 (u9 (M8 K) [] E0 (a9 (b4 0) (a9 (b4 1) d7))) d7))) (t9 5)) C9) (u8 (L6 (tOr (a9c (C7 (tOp qGt (b4 6) (tC (.int 3)))) (C7 (tOp qLt (b4 6) (tC (.int 7))))) (C7 (tOp qEq (b4 1) (tC (.int 1))))) (F0 (a1z (a9 (b4 4) d7)) (t9 5)) C9) (u8 (L6 (a9c (C7 (tOp qEq (b4 6) (tC (.int 7)))) (C7 (tOp qGt (b4 1) (tC (.int 1))))) (F0 (a1z (a9 (tOp qIx (b4 5) (tC (.int 1))) d7)) (t9 5)) C9) (u8 (L6 (tOr (C7 (tOp qEq (b4 3) (tOp c3L (b4 1) (tC (.int 1))))) (a9c (C7 (tOp qEq (b4 6) (tC (.int 6)))) (C7 (tOp qEq (u9 (M8 K) [] E0 (a9 (b4 0) (a9 (tC (.int 4)) d7))) (tC (.int 0)))))) (F0 (a1z d7) (t9 5)) C9) (V7 (tBM K "list" O5 (b4 2) (a9 (b4 5) d7)))))))))))) (E1 (b4 2)))
def b7p(K:Fg):Sp:=spD 2 7 (d0f K)
def b9e(K:Fg):TS:=u8 (F0 b1Y (t9 1)) (u8 (a1R (a3Q (a9 (tCB V4 (a9 (b4 0) d7)) d7)) (t9 2) (a1R (a3Q (a9 (tCB V4 (a9 (b4 0) d7)) d7)) (t9 3) (L6 (tOr (C7 (tOp qEq (tOp qIx (b4 0) (b4 3)) (a1z d7))) (tB (tCB c1o (a9 (a0f (U2 K (tOp qIx (b4 0) (b4 3))) a0e (b7l (b4 0) (b4 2))) d7)))) (a3Z (b4 1) (b4 3) (tC (.bl true))) C9))) (u8 (F0 (a0f (a3Q (a9 (tCB V4 (a9 (b4 0) d7)) d7)) a0e (tIf (tB (b7l (b4 0) (b4 2))) (tOp qIx (b4 1) (b4 0)) (tOp a5m (a1z (a9 (tOp c3L (tCB V4 (a9 (b4 1) d7)) (tC (.int 1))) d7)) (tSl qSl (tOp qIx (b4 1) (b4 0)) (a6E (tC (.int 1))) a2o)))) (t9 0)) (u8 (F0 (b6D ((tC (.int 0),tC (.bl true))::[])) (t9 4)) (u8 (a1R (a3Q (a9 (tCB V4 (a9 (b4 0) d7)) d7)) (t9 2) (a1R (a3Q (a9 (tCB V4 (a9 (b4 0) d7)) d7)) (t9 3) (L6 (tB (b7l (b4 3) (b4 4))) (a1R (U2 K (tOp qIx (b4 0) (b4 3))) (t9 5) (a3Z (b4 4) (b4 5) (tC (.bl true)))) C9))) (u8 (F0 (tCB a8V (a9 (tCB a8m (a9 (b4 4) d7)) d7)) (t9 6)) (E1 (a0f (U2 K (b4 6)) a0e (a0f (U2 K (tOp qIx (b4 1) (b4 0))) a0e (tBM K "list" b2o (b4 8) (a9 (b4 0) d7))))))))))
def a8Q(K:Fg):Sp:=spD 1 7 (b9e K)
def c5F(K:Fg):TS:=u8 (L6 (C7 (tOp qEq (u9 (M8 K) [] E0 (a9 (b4 0) (a9 (tC (.int 5)) d7))) (tC (.int 0)))) (E1 (tOp qIx (a1z (a9 (tC (.str "k0")) (a9 (tC (.str "set")) (a9 (tC (.str "ask")) (a9 (tC (.str "k1")) (a9 (tC (.str "a")) (a9 (tC (.str "copy")) d7))))))) (u9 (M8 K) [] E0 (a9 (b4 0) (a9 (tC (.int 6)) d7))))) C9) (u8 (F0 (tOp a5m (tOp c1l (u9 (M8 K) [] E0 (a9 (b4 0) (a9 (tC (.int 4)) d7))) (tC (.int 2))) (tOp b6b (b4 1) (tC (.int 2)))) (t9 2)) (u8 (F0 (tC (.str "abcdefghijklmnopqrstuvwxyz0123456789")) (t9 3)) (E1 (tOp a5m (tOp qIx (b4 3) (u9 (M8 K) [] E0 (a9 (b4 0) (a9 (tC (.int 26)) d7)))) (tBM K "str" b6I (tC (.str "")) (a9 (a0f (a3Q (a9 (b4 2) d7)) a0e (tOp qIx (b4 4) (u9 (M8 K) [] E0 (a9 (b4 1) (a9 (tC (.int 36)) d7))))) d7))))))
def b3J(K:Fg):Sp:=spD 2 4 (c5F K)
def c2u(K:Fg):TS:=u8 (F0 b1Y (t9 1)) (u8 (a1R (a3Q (a9 (tOp a5m (tC (.int 3)) (u9 (M8 K) [] E0 (a9 (b4 0) (a9 (tC (.int 3)) d7)))) d7)) (t9 2) (a3Z (b4 1) (u9 (b3J K) [] E0 (a9 (b4 0) (a9 (b4 2) d7))) (tC (.bl true)))) (E1 (tCB a8m (a9 (b4 1) d7))))
def b0U(K:Fg):Sp:=spD 1 3 (c2u K)
def b6z(K:Fg):TS:=u8 (L6 (C7 (tOp qGt (u9 (M8 K) [] E0 (a9 (b4 0) (a9 (tC (.int 4)) d7))) (tC (.int 0)))) (E1 (tOp qIx (b4 1) (u9 (M8 K) [] E0 (a9 (b4 0) (a9 (tCB V4 (a9 (b4 1) d7)) d7))))) C9) (u8 (F0 (u9 (M8 K) [] E0 (a9 (b4 0) (a9 (tC (.int 4)) d7))) (t9 2)) (u8 (L6 (C7 (tOp qLt (b4 2) (tC (.int 2)))) (E1 (b4 2)) C9) (u8 (L6 (C7 (tOp qEq (b4 2) (tC (.int 2)))) (E1 (tC (.int 999999999999))) C9) (E1 (u9 (M8 K) [] E0 (a9 (b4 0) (a9 (tC (.int 1000000000000)) d7)))))))
def a2f(K:Fg):Sp:=spD 2 3 (b6z K)
def c5I(K:Fg):TS:=u8 (F0 (tOp qIx (a1z (a9 (tC (.str "plus")) (a9 (tC (.str "minus")) (a9 (tC (.str "times")) (a9 (tC (.str "less")) (a9 (tC (.str "same")) d7)))))) (u9 (M8 K) [] E0 (a9 (b4 0) (a9 (tC (.int 5)) d7)))) (t9 2)) (E1 (a1Y (a9 (b4 2) (a9 (u9 (a2f K) [] E0 (a9 (b4 0) (a9 (b4 1) d7))) (a9 (u9 (a2f K) [] E0 (a9 (b4 0) (a9 (b4 1) d7))) d7)))))
def b0V(K:Fg):Sp:=spD 2 3 (c5I K)
def d0e(K:Fg):TS:=u8 (F0 (u9 (M8 K) [] E0 (a9 (b4 0) (a9 (tC (.int 8)) d7))) (t9 3)) (u8 (F0 (tOp qIx (b4 1) (u9 (M8 K) [] E0 (a9 (b4 0) (a9 (tCB V4 (a9 (b4 1) d7)) d7)))) (t9 4)) (u8 (L6 (C7 (tOp qLt (b4 3) (tC (.int 5)))) (E1 (a1Y (a9 (tC (.str "set")) (a9 (b4 4) (a9 (tOp qIx (b4 2) (u9 (M8 K) [] E0 (a9 (b4 0) (a9 (tCB V4 (a9 (b4 2) d7)) d7)))) d7))))) C9) (u8 (L6 (C7 (tOp qEq (b4 3) (tC (.int 5)))) (E1 (a1Y (a9 (tC (.str "copy")) (a9 (b4 4) (a9 (u9 (a2f K) [] E0 (a9 (b4 0) (a9 (b4 1) d7))) d7))))) C9) (u8 (L6 (C7 (tOp qEq (b4 3) (tC (.int 6)))) (E1 (a1Y (a9 (tC (.str "take")) (a9 (b4 4) d7)))) C9) (E1 (tOp qIx (a1z (a9 (a1Y (a9 (tC (.str "tell")) (a9 (u9 (a2f K) [] E0 (a9 (b4 0) (a9 (b4 1) d7))) d7))) (a9 (a1Y (a9 (tC (.str "skip")) d7)) d7))) (u9 (M8 K) [] E0 (a9 (b4 0) (a9 (tC (.int 2)) d7)))))))))
def b7o(K:Fg):Sp:=spD 3 5 (d0e K)
def c5E(K:Fg):TS:=u8 (F0 (tOp qEq (u9 (M8 K) [] E0 (a9 (b4 0) (a9 (tC (.int 8)) d7))) (tC (.int 0))) (t9 1)) (u8 (F0 (tOp a5m (tC (.int 1)) (u9 (M8 K) [] E0 (a9 (b4 0) (a9 (tC (.int 9)) d7)))) (t9 2)) (u8 (L6 (tB (b4 1)) (F0 (tOp a5m (tC (.int 15)) (u9 (M8 K) [] E0 (a9 (b4 0) (a9 (tC (.int 10)) d7)))) (t9 2)) C9) (u8 (F0 (u9 (a8Q K) [] E0 (a9 (u9 (b7p K) [] E0 (a9 (b4 0) (a9 (b4 2) d7))) d7)) (t9 3)) (u8 (F0 (u9 (b0U K) [] E0 (a9 (b4 0) d7)) (t9 4)) (u8 (F0 (a1z d7) (t9 5)) (u8 (a1R (a3Q (a9 (tOp a5m (tC (.int 1)) (u9 (M8 K) [] E0 (a9 (b4 0) (a9 (tC (.int 3)) d7)))) d7)) (t9 6) (V7 (tBM K "list" O5 (b4 5) (a9 (u9 (b0V K) [] E0 (a9 (b4 0) (a9 (tSl qSl (b4 4) a2o (a6E (tC (.int 2)))) d7))) d7)))) (u8 (F0 (a1z d7) (t9 7)) (u8 (a1R (U2 K (b4 3)) (t9 8) (L6 (C7 (tOp qEq (tCB V4 (a9 (b4 8) d7)) (tC (.int 2)))) (V7 (tBM K "list" O5 (b4 7) (a9 (a1Y (a9 (tC (.str "ask")) (a9 (u9 (a2f K) [] E0 (a9 (b4 0) (a9 (b4 4) d7))) d7))) d7))) (V7 (tBM K "list" O5 (b4 7) (a9 (u9 (b7o K) [] E0 (a9 (b4 0) (a9 (b4 4) (a9 (b4 5) d7)))) d7))))) (E1 (a1Y (a9 (b4 7) (a9 (b4 3) (a9 (b4 5) d7)))))))))))))
def b3I(K:Fg):Sp:=spD 1 9 (c5E K)
def c2s(K:Fg):TS:=u8 (F0 (a1z (a9 (a1Y (a9 (tUn (rU fun i=>.int (-i)) (tC (.int 1))) (a9 (tC (.int 0)) d7))) d7)) (t9 1)) (u8 (a1R (a3Q (a9 (tCB V4 (a9 (b4 0) d7)) d7)) (t9 2) (a1R (a3Q (a9 (tCB V4 (a9 (tOp qIx (b4 0) (b4 2)) d7)) d7)) (t9 3) (V7 (tBM K "list" O5 (b4 1) (a9 (a1Y (a9 (b4 2) (a9 (b4 3) d7))) d7))))) (E1 (b4 1)))
def a5C(K:Fg):Sp:=spD 1 4 (c2s K)
def b0J(K:Fg):TS:=E1 (a0L (tOp (qIn false) (tOp qIx (b4 0) (tC (.int 0))) (a1Y (a9 (tC (.str "set")) (a9 (tC (.str "copy")) (a9 (tC (.str "take")) d7))))) (tOp (qIn false) (tOp qIx (b4 0) (tC (.int 1))) (tSl qSl (b4 1) (a6E (tC (.int 1))) a2o)))
def T4(K:Fg):Sp:=spD 2 2 (b0J K)
def b4o(K:Fg):TS:=E1 (a0L (tOp qEq (tOp qIx (b4 0) (tC (.int 0))) (tC (.str "set"))) (tOp qEq (tOp qIx (b4 0) (tC (.int 2))) (b4 1)))
def a0T(K:Fg):Sp:=spD 2 2 (b4o K)
def d3l(K:Fg):TS:=u8 (L6 (C7 (tOp qLt (tOp (c1m K) (b4 1) (tC (.int 0))) (tC (.int 0)))) (E1 (tC (.int 0))) C9) (E1 (tOp qIx (tOp qIx (b4 0) (tOp (c1m K) (b4 1) (tC (.int 0)))) (tOp (c1m K) (b4 1) (tC (.int 1)))))
def b6E(K:Fg):Sp:=spD 2 2 (d3l K)
def c2t(K:Fg):TS:=u8 (F0 (tOp c8m (a1z (a9 (tC (.bl true)) d7)) (tCB V4 (a9 (b4 0) d7))) (t9 3)) (u8 (a1R (a3Q (a9 (tOp a5m (tCB V4 (a9 (b4 0) d7)) (tC (.int 1))) d7)) (t9 4) (a1R (U2 K (u9 (a5C K) [] E0 (a9 (b4 1) d7))) (t9 5) (u8 (F0 (tOp qIx (b4 5) (tC (.int 0))) (t9 6)) (L6 (tOr (C7 (tOp qLt (b4 6) (tC (.int 0)))) (tOr (tB (u9 (T4 K) [] E0 (a9 (tOp qIx (b4 0) (b4 6)) (a9 (b4 2) d7)))) (a2e (tOr (tB (tOp qIx (b4 3) (b4 6))) (tB (u9 (a0T K) [] E0 (a9 (tOp qIx (b4 0) (b4 6)) (a9 (b4 2) d7)))))))) (F0 (tC (.bl false)) (b7X (b4 3) (u9 (b6E K) [] E0 (a9 (b4 1) (a9 (b4 5) d7))) b1g)) C9)))) (E1 (b4 3)))
def b0T(K:Fg):Sp:=spD 3 7 (c2t K)
def b8Y(K:Fg):TS:=u8 (F0 (tOp c8m (a1z (a9 (tC (.bl true)) d7)) (tCB V4 (a9 (b4 0) d7))) (t9 3)) (u8 (a1R (a3Q (a9 (tOp a5m (tCB V4 (a9 (b4 0) d7)) (tC (.int 1))) d7)) (t9 4) (a1R (c2I (a9 (tOp c3L (tCB V4 (a9 (b4 0) d7)) (tC (.int 1))) (a9 (tUn (rU fun i=>.int (-i)) (tC (.int 1))) (a9 (tUn (rU fun i=>.int (-i)) (tC (.int 1))) d7)))) (t9 5) (u8 (F0 (a0L (tOp qNe (tOp qIx (b4 1) (b4 5)) (a1z d7)) (tCB b2q (a9 (a0f (U2 K (tOp qIx (b4 1) (b4 5))) a0e (tOp qIx (b4 4) (b4 0))) d7))) (t9 6)) (F0 (b1X (u9 (a0T K) [] E0 (a9 (tOp qIx (b4 0) (b4 5)) (a9 (b4 2) d7))) (a0L (b4 6) (a6F (u9 (T4 K) [] E0 (a9 (tOp qIx (b4 0) (b4 5)) (a9 (b4 2) d7)))))) (b7X (b4 3) (b4 5) b1g))))) (E1 (b4 3)))
def a8N(K:Fg):Sp:=spD 3 7 (b8Y K)
def b9g(K:Fg):TS:=u8 (F0 (u9 (b0T K) [] E0 (a9 (b4 0) (a9 (b4 1) (a9 (b4 2) d7)))) (t9 3)) (u8 (F0 (u9 (a8N K) [] E0 (a9 (b4 0) (a9 (b4 1) (a9 (b4 2) d7)))) (t9 4)) (u8 (F0 (a1z d7) (t9 5)) (u8 (a1R (U2 K (u9 (a5C K) [] E0 (a9 (b4 1) d7))) (t9 6) (u8 (F0 (tOp qIx (b4 6) (tC (.int 0))) (t9 7)) (L6 (tB (tOp qIx (b4 4) (u9 (b6E K) [] E0 (a9 (b4 1) (a9 (b4 6) d7))))) (L6 (tOr (C7 (tOp qLt (b4 7) (tC (.int 0)))) (tB (u9 (T4 K) [] E0 (a9 (tOp qIx (b4 0) (b4 7)) (a9 (b4 2) d7))))) (V7 (tBM K "list" O5 (b4 5) (a9 (b4 6) d7))) (L6 (a9c (a2e (tB (tOp qIx (b4 3) (b4 7)))) (a9c (a2e (tB (u9 (a0T K) [] E0 (a9 (tOp qIx (b4 0) (b4 7)) (a9 (b4 2) d7))))) (a2e (tB (tCB b2q (a9 (a0f (U2 K (tOp qIx (b4 1) (b4 7))) a0e (tOp qIx (b4 5) (b4 0))) d7)))))) (V7 (tBM K "list" O5 (b4 5) (a9 (b4 6) d7))) C9)) C9))) (E1 (b4 5)))))
def a6J(K:Fg):Sp:=spD 3 8 (b9g K)
def d0g(K:Fg):TS:=E1 (a0L (tCB a7S (a9 (b4 0) (a9 (tC (.ty "int")) d7))) (a6F (tCB a7S (a9 (b4 0) (a9 (tC (.ty "bool")) d7)))))
def b2b(K:Fg):Sp:=spD 1 1 (d0g K)
def b2Y(K:Fg):TS:=u8 (L6 (a2e (tB (tCB a7S (a9 (b4 0) (a9 (tC (.ty "list")) d7))))) (E1 (tC (.bl false))) C9) (u8 (a1R (U2 K (b4 0)) (t9 1) (L6 (tOr (a2e (tB (tCB (c6l K) (a9 (b4 1) (a9 (tC (.ty "tuple")) d7))))) (tOr (C7 (tOp qNe (tCB (c6k K) (a9 (b4 1) d7)) (tC (.int 2)))) (tOr (a2e (tB (u9 (b2b K) [] E0 (a9 (tOp (c1m K) (b4 1) (tC (.int 0))) d7)))) (a2e (tB (u9 (b2b K) [] E0 (a9 (tOp (c1m K) (b4 1) (tC (.int 1))) d7))))))) (E1 (tC (.bl false))) C9)) (E1 (tC (.bl true))))
def a2r(K:Fg):Sp:=spD 1 2 (b2Y K)
def b6B(K:Fg):TS:=u8 (a1R (U2 K (b4 2)) (t9 3) (u8 (L6 (tOr (C7 (tOp qNe (tOp qIx (b4 3) (tC (.int 0))) (b4 1))) (a2e (C7 (a7b qLe qLt (tC (.int 0)) (tOp qIx (b4 3) (tC (.int 1))) (tCB V4 (a9 (tOp qIx (b4 0) (b4 1)) d7)))))) (E1 (tUn (rU fun i=>.int (-i)) (tC (.int 2)))) C9) (F0 (tOp qIx (tOp qIx (b4 0) (b4 1)) (tOp qIx (b4 3) (tC (.int 1)))) (t9 1)))) (E1 (b4 1))
def a5F(K:Fg):Sp:=spD 3 4 (b6B K)
def b9d(K:Fg):TS:=E1 (a0f (U2 K (b4 1)) a0e (u9 (b6E K) [] E0 (a9 (b4 1) (a9 (b4 0) d7))))
def a6I(K:Fg):Sp:=spD 2 2 (b9d K)
def b6w(K:Fg):TS:=u8 (L6 (tOr (a2e (tB (u9 (a2r K) [] E0 (a9 (b4 3) d7)))) (tOr (C7 (tOp qEq (tCB V4 (a9 (b4 3) d7)) (tC (.int 0)))) (C7 (tOp (c1k K) (tOp qIx (b4 3) (tC (.int 0))) (a1Y (a9 (tUn (rU fun i=>.int (-i)) (tC (.int 1))) (a9 (tC (.int 0)) d7))))))) (E1 (tC (.bl false))) C9) (u8 (L6 (C7 (tOp qNe (u9 (a5F K) [] E0 (a9 (b4 1) (a9 (tC (.int 0)) (a9 (tSl qSl (b4 3) (a6E (tC (.int 1))) a2o) d7)))) (b4 4))) (E1 (tC (.bl false))) C9) (u8 (F0 (tC (.bl false)) (t9 5)) (u8 (a1R (U2 K (u9 (a6I K) [] E0 (a9 (b4 1) (a9 (b4 3) d7)))) (t9 6) (F0 (a0L (b1X (b4 5) (u9 (a0T K) [] E0 (a9 (tOp qIx (b4 0) (b4 6)) (a9 (b4 2) d7)))) (a6F (u9 (T4 K) [] E0 (a9 (tOp qIx (b4 0) (b4 6)) (a9 (b4 2) d7))))) (t9 5))) (E1 (a6F (b4 5))))))
def a7d(K:Fg):Sp:=spD 5 7 (b6w K)
def b4l(K:Fg):TS:=u8 (L6 (a2e (tB (u9 (a2r K) [] E0 (a9 (b4 3) d7)))) (E1 (tC (.bl false))) C9) (u8 (F0 (u9 (a5F K) [] E0 (a9 (b4 1) (a9 (b4 4) (a9 (b4 3) d7)))) (t9 5)) (u8 (L6 (tOr (C7 (tOp qLt (b4 5) (tC (.int 0)))) (tOr (C7 (tOp qNe (tOp qIx (b4 1) (b4 5)) (a1z d7))) (a9c (C7 (tOp qEq (tCB V4 (a9 (b4 3) d7)) (tC (.int 0)))) (C7 (tOp qNe (tOp qIx (b4 1) (b4 4)) (a1z d7)))))) (E1 (tC (.bl false))) C9) (u8 (a1R (U2 K (u9 (a6I K) [] E0 (a9 (b4 1) (a9 (b4 3) d7)))) (t9 6) (u8 (L6 (tB (u9 (a0T K) [] E0 (a9 (tOp qIx (b4 0) (b4 6)) (a9 (b4 2) d7)))) (E1 (tC (.bl false))) C9) (L6 (tB (u9 (T4 K) [] E0 (a9 (tOp qIx (b4 0) (b4 6)) (a9 (b4 2) d7)))) (E1 (tC (.bl true))) C9))) (E1 (tC (.bl true))))))
def a6a(K:Fg):Sp:=spD 5 7 (b4l K)
def c2r(K:Fg):TS:=u8 (F0 (tOp qIx (b4 3) (tC (.int 0))) (t9 5)) (u8 (L6 (C7 (tOp qLt (b4 5) (tC (.int 0)))) (E1 (tOp qEq (b4 4) (a1Y (a9 (tC (.str "first")) d7)))) C9) (u8 (L6 (tOr (a2e (tB (tCB a7S (a9 (b4 4) (a9 (tC (.ty "tuple")) d7))))) (C7 (tOp qEq (tCB V4 (a9 (b4 4) d7)) (tC (.int 0))))) (E1 (tC (.bl false))) C9) (u8 (L6 (tB (u9 (T4 K) [] E0 (a9 (tOp qIx (b4 0) (b4 5)) (a9 (b4 2) d7)))) (E1 (a0L (tOp qEq (b4 4) (a1Y (a9 (tC (.str "spoilt")) (a9 (b4 5) d7)))) (u9 (b2b K) [] E0 (a9 (tOp qIx (b4 4) (tC (.int 1))) d7)))) C9) (u8 (L6 (tOr (C7 (tOp qNe (tCB V4 (a9 (b4 4) d7)) (tC (.int 3)))) (tOr (C7 (tOp qNe (tOp qIx (b4 4) (tC (.int 0))) (tC (.str "apart")))) (a2e (tB (u9 (a7d K) [] E0 (a9 (b4 0) (a9 (b4 1) (a9 (b4 2) (a9 (tOp qIx (b4 4) (tC (.int 1))) (a9 (b4 5) d7)))))))))) (E1 (tC (.bl false))) C9) (E1 (u9 (a6a K) [] E0 (a9 (b4 0) (a9 (b4 1) (a9 (b4 2) (a9 (tOp qIx (b4 4) (tC (.int 2))) (a9 (b4 5) d7)))))))))))
def a8j(K:Fg):Sp:=spD 5 6 (c2r K)
def a8h(K:Fg):TS:=E1 (tCB (b7F K) (a9 (Z6 K (b4 0) "found") d7))
def a2V(K:Fg):Sp:=spD 1 1 (a8h K)
def b9c(K:Fg):TS:=E1 (tIf (C7 (tOp (qIn false) (tOp qIx (b4 0) (tC (.int 0))) (a1Y (a9 (tC (.str "set")) (a9 (tC (.str "copy")) (a9 (tC (.str "take")) d7)))))) (tOp qIx (b4 0) (tC (.int 1))) (tC .non))
def b2a(K:Fg):Sp:=spD 1 1 (b9c K)
def b9b(K:Fg):TS:=E1 (tOp (qIn false) (u9 (b2a K) [] E0 (a9 (b4 0) d7)) (tSl qSl (b4 1) (a6E (tC (.int 1))) a2o))
def a3q(K:Fg):Sp:=spD 2 2 (b9b K)
def a2L(K:Fg):TS:=E1 (u9 (a3q K) [] E0 (a9 (tOp qIx (Z6 K (Z6 K (b4 0) "plan") "rows") (tOp qIx (b4 1) (tC (.int 0)))) (a9 (Z6 K (b4 0) "deed") d7)))
def O1(K:Fg):Sp:=spD 2 2 (a2L K)
def a5z(K:Fg):TS:=E1 (a0S (b4 1) (Z6 K (b4 0) "goes_by"))
def R1(K:Fg):Sp:=spD 2 2 (a5z K)
def a7N(K:Fg)(c:Cn):TS:=u8 (L6 (C7 (tOp (b9u K) (b4 1) (tC (.ref c.I0)))) (E1 (tC (.int 0))) C9) (E1 (tOp qIx (tOp qIx (Z6 K (b4 0) "nexts") (tOp qIx (b4 1) (tC (.int 0)))) (tOp qIx (b4 1) (tC (.int 1)))))
def Y5(K:Fg)(c:Cn):Sp:=spD 2 2 (a7N K c)
def b4r(K:Fg)(c:Cn):TS:=u8 (F0 (a1z d7) (t9 3)) (u8 (F0 (b0Q (b4 1) (b4 2)) (t9 4)) (u8 (a5B (C7 (tOp b4H (b4 4) (tC .non))) (u8 (V7 (tBM K "list" O5 (b4 3) (a9 (b4 4) d7))) (F0 (b0Q (b4 1) (V9 c.Q2 "leads_to" (Y5 K c) [] E0 (b4 0) (a9 (b4 4) d7))) (t9 4)))) (E1 (b4 3))))
def a4M(K:Fg)(c:Cn):Sp:=spD 3 5 (b4r K c)
def b4m(K:Fg):TS:=E1 (a8i K (a8y K (a9 (b4 0) d7)) (C7 (tOp qEq (tCB V4 (a9 (b4 1) d7)) (tC (.int 0)))) (b4 0))
def a4J(K:Fg):Sp:=spD 1 1 (b4m K)
def b0O(K:Fg):TS:=E1 (u9 (a4J K) [] E0 (a9 (Z6 K (b4 0) "nexts") d7))
def a2O(K:Fg):Sp:=spD 1 1 (b0O K)
def a5X(K:Fg):TS:=E1 (tCB a7P (a9 (tOp qIx (Z6 K (b4 0) "entries") (b4 1)) d7))
def a0C(K:Fg):Sp:=spD 2 2 (a5X K)
def b8X(K:Fg)(c:Cn):TS:=u8 (F0 (tCB b4I (a9 (a0f (U2 K (V9 c.Q2 "stops" (a2O K) [] E0 (b4 0) d7)) a0e (a1Y (a9 (b4 0) (a9 (tC .non) d7)))) d7)) (t9 2)) (u8 (F0 (V9 c.Q2 "stops" (a2O K) [] E0 (b4 0) d7) (t9 3)) (u8 (F0 (tC (.int 0)) (t9 4)) (u8 (a5B (tB (a0S (b4 1) (b4 2))) (u8 (F0 (tOp qIx (b4 3) (b4 4)) (t9 5)) (u8 (c0P 4 (tC (.int 1)) (ipI fun i j=>i+j)) (a1R (U2 K (V9 c.Q2 "steps_into" (a0C K) [] E0 (b4 0) (a9 (b4 5) d7))) (t9 6) (L6 (a9c (C7 (tOp (c1k K) (b4 6) (tC (.ref c.I0)))) (tB (a0S (tOp qIx (b4 6) (tC (.int 0))) (b4 2)))) (u8 (a3Z (b4 2) (tOp qIx (b4 6) (tC (.int 0))) (b4 6)) (V7 (tBM K "list" O5 (b4 3) (a9 (tOp qIx (b4 6) (tC (.int 0))) d7)))) C9))))) (E1 (u9 (a4M K c) [] E0 (a9 (b4 0) (a9 (b4 2) (a9 (b4 1) d7))))))))
def a8M(K:Fg)(c:Cn):Sp:=spD 2 7 (b8X K c)
def a3Y(K:Fg)(c:Cn):TS:=u8 (L6 (tB (V9 c.O0 "wanted_at" (R1 K) [] E0 (b4 0) (a9 (b4 1) d7))) (E1 (tC .non)) C9) (u8 (F0 (u9 (a4M K c) [] E0 (a9 (Z6 K (b4 0) "plan") (a9 (Z6 K (b4 0) "goes_by") (a9 (b4 1) d7)))) (t9 2)) (u8 (F0 (tIf (C7 (tOp qGt (tCB V4 (a9 (b4 2) d7)) (tC (.int 0)))) (V9 c.Q2 "leads_to" (Y5 K c) [] E0 (Z6 K (b4 0) "plan") (a9 (tOp qIx (b4 2) (tUn (rU fun i=>.int (-i)) (tC (.int 1)))) d7)) (b4 1)) (t9 3)) (E1 (tOp a5m (b4 2) (u9 (a8M K c) [] E0 (a9 (Z6 K (b4 0) "plan") (a9 (b4 3) d7)))))))
def a0l(K:Fg)(c:Cn):Sp:=spD 2 4 (a3Y K c)
def a1K(K:Fg)(c:Cn):TS:=u8 (F0 (tOp qIx (Z6 K (Z6 K (b4 0) "plan") "nexts") (b4 1)) (t9 2)) (u8 (fun D σ H=>(a8i K (a8y K (a9 (b4 2) d7)) (a2e (tB (V9 c.O0 "wanted_at" (R1 K) [] E0 (Z6 K (b4 2) "wanted") (a9 (b4 1) d7)))) (b4 0)) σ H fun v H1=>D.nx (σ.set 3 (some v)) H1) (E1 (tOp a5m (a1z (a9 (a1Y (a9 (b4 1) (a9 (tOp qIx (b4 3) (tC (.int 0))) d7))) d7)) (V9 c.O0 "way_unwanted" (a0l K c) [] E0 (Z6 K (b4 0) "wanted") (a9 (tOp qIx (b4 2) (tOp qIx (b4 3) (tC (.int 0)))) d7)))))
def R8(K:Fg)(c:Cn):Sp:=spD 2 4 (a1K K c)
def b9a(K:Fg)(c:Cn):TS:=u8 (F0 (a1z (a9 (b0Q (b4 0) (b4 1)) d7)) (t9 2)) (u8 (a5B (C7 (tOp (c1k K) (tOp qIx (b4 2) (tUn (rU fun i=>.int (-i)) (tC (.int 1)))) (tC (.ref c.I0)))) (V7 (tBM K "list" O5 (b4 2) (a9 (b0Q (b4 0) (tOp qIx (tOp qIx (b4 2) (tUn (rU fun i=>.int (-i)) (tC (.int 1)))) (tC (.int 0)))) d7)))) (u8 (V7 (c0O K "list" a5I (b4 2))) (E1 (b4 2))))
def a8P(K:Fg)(c:Cn):Sp:=spD 2 3 (b9a K c)
def b8W(K:Fg)(c:Cn):TS:=u8 (F0 (b6D ((tC (.int 0),tC (.ref c.I0))::[])) (t9 2)) (u8 (F0 (a1z (a9 (tC (.int 0)) d7)) (t9 3)) (u8 (F0 (tC (.int 0)) (t9 4)) (u8 (a5B (tB (a0S (b4 1) (b4 2))) (u8 (F0 (tOp qIx (b4 3) (b4 4)) (t9 5)) (u8 (c0P 4 (tC (.int 1)) (ipI fun i j=>i+j)) (a1R (a8y K (a9 (tOp qIx (Z6 K (b4 0) "nexts") (b4 5)) d7)) (b5o K 2 (a2Q (t9 6) (a2Q (t9 7) (b5p)))) (L6 (tB (a0S (b4 7) (b4 2))) (u8 (a3Z (b4 2) (b4 7) (a1Y (a9 (b4 5) (a9 (b4 6) d7)))) (V7 (tBM K "list" O5 (b4 3) (a9 (b4 7) d7)))) C9))))) (E1 (u9 (a8P K c) [] E0 (a9 (b4 2) (a9 (b4 1) d7)))))))
def a8L(K:Fg)(c:Cn):Sp:=spD 2 8 (b8W K c)
def a6D(K:Fg):TS:=E1 (a0S (b4 1) (Z6 K (b4 0) "come_by"))
def a0V(K:Fg):Sp:=spD 2 2 (a6D K)
def a3F(K:Fg)(c:Cn):TS:=E1 (b1X (tOp (b9u K) (b4 1) (tC (.ref c.I0))) (u9 (a3q K) [] E0 (a9 (tOp qIx (Z6 K (Z6 K (b4 0) "plan") "rows") (tOp qIx (b4 1) (tC (.int 0)))) (a9 (Z6 K (b4 0) "deed") d7))))
def Z7(K:Fg)(c:Cn):Sp:=spD 2 2 (a3F K c)
def a5e(K:Fg)(c:Cn):TS:=u8 (L6 (tB (V9 c.T1 "ready_at" (a0V K) [] E0 (b4 0) (a9 (b4 1) d7))) (E1 (tC .non)) C9) (u8 (F0 (a1z (a9 (b0Q (Z6 K (b4 0) "come_by") (b4 1)) d7)) (t9 2)) (u8 (a5B (a2e (tB (V9 c.T1 "begins_unready" (Z7 K c) [] E0 (b4 0) (a9 (tOp qIx (b4 2) (tUn (rU fun i=>.int (-i)) (tC (.int 1)))) d7)))) (V7 (tBM K "list" O5 (b4 2) (a9 (b0Q (Z6 K (b4 0) "come_by") (tOp qIx (tOp qIx (b4 2) (tUn (rU fun i=>.int (-i)) (tC (.int 1)))) (tC (.int 0)))) d7)))) (u8 (V7 (c0O K "list" a5I (b4 2))) (u8 (L6 (C7 (tOp (b9u K) (tOp qIx (b4 2) (tC (.int 0))) (tC (.ref c.I0)))) (E1 (b4 2)) C9) (E1 (tOp a5m (u9 (a8L K c) [] E0 (a9 (Z6 K (b4 0) "plan") (a9 (tOp qIx (tOp qIx (b4 2) (tC (.int 0))) (tC (.int 0))) d7))) (b4 2)))))))
def a0U(K:Fg)(c:Cn):Sp:=spD 2 3 (a5e K c)
def a5A(K:Fg)(c:Cn):TS:=u8 (L6 (tB (c7W K true (b4 1) (Z6 K (b4 0) "found"))) (E1 (tC .non)) C9) (u8 (L6 (C7 (tOp (b9u K) (b4 1) (tC (.ref c.I0)))) (E1 (a1Y (a9 (tC (.str "first")) d7))) C9) (u8 (F0 (tOp qIx (b4 1) (tC (.int 0))) (t9 2)) (u8 (L6 (tB (V9 c.C4 "is_spoilt_ahead" (O1 K) [] E0 (b4 0) (a9 (b4 1) d7))) (E1 (a1Y (a9 (tC (.str "spoilt")) (a9 (b4 2) d7)))) C9) (E1 (a1Y (a9 (tC (.str "apart")) (a9 (V9 c.T1 "way_unready" (a0U K c) [] E0 (Z6 K (b4 0) "ready") (a9 (b4 2) d7)) (a9 (V9 c.C4 "way_unwanted_behind" (R8 K c) [] E0 (b4 0) (a9 (b4 2) d7)) d7))))))))
def R3(K:Fg)(c:Cn):Sp:=spD 2 3 (a5A K c)
def c5C(K:Fg)(c:Cn):TS:=u8 (F0 (V9 c.C4 "steps" (a2V K) [] E0 (b4 3) d7) (t9 5)) (u8 (L6 (tOr (a2e (tB (u9 (a2r K) [] E0 (a9 (b4 5) d7)))) (C7 (tOp (c8q K) (b4 5) (b4 4)))) (E1 (tC (.bl false))) C9) (u8 (V7 (tBM K "list" O5 (b4 5) (a9 (a1Y (a9 (tC (.int 0)) (a9 (tC (.int 0)) d7))) d7))) (u8 (a1R (U2 K (u9 (a5C K) [] E0 (a9 (b4 1) d7))) (t9 6) (u8 (F0 (V9 c.C4 "why_brink" (R3 K c) [] E0 (b4 3) (a9 (b4 6) d7)) (t9 7)) (L6 (C7 (tOp (b9t true) (b4 6) (b4 4))) (L6 (C7 (tOp b4H (b4 7) (tC .non))) (E1 (tC (.bl false))) C9) (L6 (a2e (tB (u9 (a8j K) [] E0 (a9 (b4 0) (a9 (b4 1) (a9 (b4 2) (a9 (b4 6) (a9 (b4 7) d7)))))))) (E1 (tC (.bl false))) (L6 (C7 (tOp qEq (tCB V4 (a9 (b4 7) d7)) (tC (.int 3)))) (u8 (V7 (tBM K "list" O5 (tOp qIx (b4 7) (tC (.int 1))) (a9 (a1Y (a9 (tC (.int 3)) (a9 (tC (.int 3)) d7))) d7))) (V7 (c0O K "list" b2p (tOp qIx (b4 7) (tC (.int 2)))))) C9))))) (E1 (tC (.bl true))))))
def a5j(K:Fg)(c:Cn):Sp:=spD 5 8 (c5C K c)
def a8g(K:Fg):TS:=u8 (L6 (tOr (a2e (tB (tCB a7S (a9 (b4 0) (a9 (tC (.ty "list")) d7))))) (C7 (tOp qLt (tCB V4 (a9 (b4 0) d7)) (b4 2)))) (fun _ _ _=>False) C9) (L6 (C7 (tOp qGt (tCB V4 (a9 (b4 0) d7)) (tC (.int 400)))) (fun _ _ _=>False) C9)
def a2U(K:Fg):Sp:=spD 3 3 (a8g K)
def b1W(K:Fg):TS:=u8 (L6 (tOr (a2e (tB (tCB a7S (a9 (b4 0) (a9 (tC (.ty "str")) d7))))) (a2e (C7 (a7b qLe qLe (tC (.int 1)) (tCB V4 (a9 (b4 0) d7)) (tC (.int 8)))))) (E1 (tC (.bl false))) C9) (E1 (a0L (tOp (qIn false) (tOp qIx (b4 0) (tC (.int 0))) (tC (.str "abcdefghijklmnopqrstuvwxyz"))) (tCB b2q (a9 (a0f (c9z (b4 0)) a0e (tOp (qIn false) (b4 0) (tOp a5m (tC (.str "abcdefghijklmnopqrstuvwxyz")) (tC (.str "0123456789"))))) d7))))
def a1A(K:Fg):Sp:=spD 1 1 (b1W K)
def c0M(K:Fg):TS:=E1 (a0L (tCB a7S (a9 (b4 0) (a9 (tC (.ty "int")) d7))) (a6F (tCB a7S (a9 (b4 0) (a9 (tC (.ty "bool")) d7)))))
def a4L(K:Fg):Sp:=spD 1 1 (c0M K)
def b4p(K:Fg):TS:=E1 (a0L (u9 (a4L K) [] E0 (a9 (b4 0) d7)) (a7b qLe qLt (tC (.int 0)) (b4 0) (tC (.int 1000000000000))))
def a6b(K:Fg):Sp:=spD 1 1 (b4p K)
def b0K(K:Fg):TS:=E1 (b1X (u9 (a1A K) [] E0 (a9 (b4 0) d7)) (u9 (a6b K) [] E0 (a9 (b4 0) d7)))
def a1c(K:Fg):Sp:=spD 1 1 (b0K K)
def b6A(K:Fg)(c:Cn):TS:=u8 (L6 (tOr (a2e (tB (tCB a7S (a9 (b4 0) (a9 (tC (.ty "tuple")) d7))))) (C7 (tOp qNe (tCB V4 (a9 (b4 0) d7)) (tC (.int 3))))) (E1 (tC (.bl false))) C9) (E1 (a0L (tOp (d1j K) (tOp qIx (b4 0) (tC (.int 0))) (tC (.ref c.a7K))) (a0L (u9 (a1c K) [] E0 (a9 (tOp qIx (b4 0) (tC (.int 1))) d7)) (u9 (a1c K) [] E0 (a9 (tOp qIx (b4 0) (tC (.int 2))) d7)))))
def a7e(K:Fg)(c:Cn):Sp:=spD 1 1 (b6A K c)
def b9f(K:Fg)(c:Cn):TS:=u8 (L6 (tOr (a2e (tB (tCB a7S (a9 (b4 0) (a9 (tC (.ty "tuple")) d7))))) (C7 (tOp qEq (tCB V4 (a9 (b4 0) d7)) (tC (.int 0))))) (E1 (tC (.bl false))) C9) (u8 (F0 (tOp qIx (b4 0) (tC (.int 0))) (t9 1)) (u8 (F0 (tSl qSl (b4 0) (a6E (tC (.int 1))) a2o) (t9 2)) (u8 (L6 (C7 (tOp qEq (b4 1) (tC (.str "set")))) (E1 (a0L (tOp qEq (tCB V4 (a9 (b4 2) d7)) (tC (.int 2))) (a0L (u9 (a1A K) [] E0 (a9 (tOp qIx (b4 2) (tC (.int 0))) d7)) (u9 (a7e K c) [] E0 (a9 (tOp qIx (b4 2) (tC (.int 1))) d7))))) C9) (u8 (L6 (C7 (tOp qEq (b4 1) (tC (.str "copy")))) (E1 (a0L (tOp qEq (tCB V4 (a9 (b4 2) d7)) (tC (.int 2))) (a0L (u9 (a1A K) [] E0 (a9 (tOp qIx (b4 2) (tC (.int 0))) d7)) (u9 (a1c K) [] E0 (a9 (tOp qIx (b4 2) (tC (.int 1))) d7))))) C9) (u8 (L6 (C7 (tOp qEq (b4 1) (tC (.str "take")))) (E1 (a0L (tOp qEq (tCB V4 (a9 (b4 2) d7)) (tC (.int 1))) (u9 (a1A K) [] E0 (a9 (tOp qIx (b4 2) (tC (.int 0))) d7)))) C9) (u8 (L6 (C7 (tOp (qIn false) (b4 1) (a1Y (a9 (tC (.str "tell")) (a9 (tC (.str "ask")) d7))))) (E1 (a0L (tOp qEq (tCB V4 (a9 (b4 2) d7)) (tC (.int 1))) (u9 (a1c K) [] E0 (a9 (tOp qIx (b4 2) (tC (.int 0))) d7)))) C9) (E1 (a0L (tOp qEq (b4 1) (tC (.str "skip"))) (tOp qEq (tCB V4 (a9 (b4 2) d7)) (tC (.int 0)))))))))))
def a8R(K:Fg)(c:Cn):Sp:=spD 1 3 (b9f K c)
def b0M(K:Fg):TS:=a1R (a8y K (a9 (b4 0) d7)) (b5o K 2 (a2Q (t9 1) (a2Q (t9 2) (b5p)))) (L6 (a2e (tB (b4 2))) (fun _ _ _=>False) C9)
def a2M(K:Fg):Sp:=spD 1 3 (b0M K)
def b4q(K:Fg):TS:=E1 (a0L (u9 (a4L K) [] E0 (a9 (b4 0) d7)) (a7b qLe qLt (tC (.int 0)) (b4 0) (b4 1)))
def a6c(K:Fg):Sp:=spD 2 2 (b4q K)
def b2Z(K:Fg):TS:=u8 (L6 (a2e (tB (tCB a7S (a9 (b4 1) (a9 (tC (.ty "list")) d7))))) (E1 (tC (.bl false))) C9) (u8 (F0 (tIf (C7 (tOp qEq (tOp qIx (b4 0) (tC (.int 0))) (tC (.str "ask")))) (a1Y (a9 (tC (.int 2)) d7)) (a1Y (a9 (tC (.int 0)) (a9 (tC (.int 1)) d7)))) (t9 3)) (E1 (a0L (tOp (qIn false) (tCB V4 (a9 (b4 1) d7)) (b4 3)) (tCB b2q (a9 (a0f (U2 K (b4 1)) a0e (u9 (a6c K) [] E0 (a9 (b4 0) (a9 (b4 3) d7)))) d7)))))
def a5k(K:Fg):Sp:=spD 3 4 (b2Z K)
def a9y(K:Fg):TS:=u8 (L6 (tOr (a2e (tB (tCB a7S (a9 (b4 1) (a9 (tC (.ty "list")) d7))))) (C7 (tOp qNe (tCB V4 (a9 (b4 1) d7)) (tCB V4 (a9 (b4 0) d7))))) (fun _ _ _=>False) C9) (V7 (u9 (a2M K) [] E0 (a9 (a8i K (c9y K (a9 (b4 0) (a9 (b4 1) d7))) a0e (u9 (a5k K) [] E0 (a9 (b4 0) (a9 (b4 1) (a9 (tCB V4 (a9 (b4 2) d7)) d7))))) d7)))
def a3G(K:Fg):Sp:=spD 2 2 (a9y K)
def b6x(K:Fg):TS:=u8 (F0 b1Y (t9 2)) (u8 (F0 (tCB a7P (a9 (b4 0) d7)) (t9 3)) (u8 (a5B (C7 (tOp qGt (tCB V4 (a9 (b4 3) d7)) (tC (.int 0)))) (u8 (F0 (c0O K "list" c3M (b4 3)) (t9 4)) (L6 (tB (a0S (b4 4) (b4 2))) (u8 (a3Z (b4 2) (b4 4) (tC (.bl true))) (V7 (tBM K "list" a7q (b4 3) (a9 (tOp qIx (b4 1) (b4 4)) d7)))) C9))) (E1 (b4 2))))
def a5D(K:Fg):Sp:=spD 2 5 (b6x K)
def b8Z(K:Fg):TS:=u8 (fun D σ H=>(a0f (U2 K (b4 0)) a0e (a1z d7)) σ H fun v H1=>D.nx (σ.set 1 (some v)) H1) (u8 (a1R (a8y K (a9 (b4 0) d7)) (b5o K 2 (a2Q (t9 2) (a2Q (t9 3) (b5p)))) (a1R (U2 K (b4 3)) (t9 4) (V7 (tBM K "list" O5 (tOp qIx (b4 1) (b4 4)) (a9 (b4 2) d7))))) (E1 (b4 1)))
def a8O(K:Fg):Sp:=spD 1 5 (b8Z K)
def b0L(K:Fg):TS:=u8 (F0 (u9 (a5D K) [] E0 (a9 (a1z (a9 (tC (.int 0)) d7)) (a9 (b4 0) d7))) (t9 1)) (u8 (F0 (u9 (a5D K) [] E0 (a9 (u9 (a4J K) [] E0 (a9 (b4 0) d7)) (a9 (u9 (a8O K) [] E0 (a9 (b4 0) d7)) d7))) (t9 2)) (a1R (a3Q (a9 (tCB V4 (a9 (b4 0) d7)) d7)) (t9 3) (L6 (tOr (tB (a0S (b4 3) (b4 1))) (tB (a0S (b4 3) (b4 2)))) (fun _ _ _=>False) C9)))
def a4s(K:Fg):Sp:=spD 1 4 (b0L K)
def b4n(K:Fg)(c:Cn):TS:=u8 (F0 (a1z (a9 (tC (.ref c.I0)) d7)) (t9 1)) (u8 (a1R (a8y K (a9 (b4 0) d7)) (b5o K 2 (a2Q (t9 2) (a2Q (t9 3) (b5p)))) (V7 (tBM K "list" a7q (b4 1) (a9 (a0f (a3Q (a9 (tCB V4 (a9 (b4 3) d7)) d7)) a0e (a1Y (a9 (b4 3) (a9 (b4 0) d7)))) d7)))) (E1 (b4 1)))
def a4K(K:Fg)(c:Cn):Sp:=spD 1 4 (b4n K c)
def b3a(K:Fg)(c:Cn):TS:=u8 (V7 (u9 (a2U K) [] E0 (a9 (b4 1) (a9 (tC (.int 0)) (a9 (tC (.int 1)) d7))))) (u8 (V7 (u9 (a2M K) [] E0 (a9 (a0f (U2 K (b4 1)) a0e (u9 (a8R K c) [] E0 (a9 (b4 0) d7))) d7))) (u8 (V7 (u9 (a3G K) [] E0 (a9 (b4 1) (a9 (b4 2) d7)))) (u8 (V7 (u9 (a4s K) [] E0 (a9 (b4 2) d7))) (u8 (a9g K (b4 0) (tCB a7P (a9 (b4 1) d7)) "rows") (u8 (a9g K (b4 0) (a0f (U2 K (b4 2)) a0e (tCB a7P (a9 (b4 0) d7))) "nexts") (u8 (a9g K (b4 0) (a0f (U2 K (b4 1)) a0e (a1z d7)) "entries") (a1R (U2 K (u9 (a4K K c) [] E0 (a9 (Z6 K (b4 0) "nexts") d7))) (t9 3) (V7 (tBM K "list" O5 (tOp qIx (Z6 K (b4 0) "entries") (V9 c.Q2 "leads_to" (Y5 K c) [] E0 (b4 0) (a9 (b4 3) d7))) (a9 (b4 3) d7))))))))))
def a5l(K:Fg)(c:Cn):Sp:=spD 3 4 (b3a K c)
def b0P(K:Fg)(c:Cn):TS:=E1 (u9 (a4K K c) [] E0 (a9 (Z6 K (b4 0) "nexts") d7))
def a4t(K:Fg)(c:Cn):Sp:=spD 1 1 (b0P K c)
def a5y(K:Fg)(c:Cn):TS:=E1 (V9 c.O0 "wanted_at" (R1 K) [] E0 (b4 0) (a9 (V9 c.Q2 "leads_to" (Y5 K c) [] E0 (Z6 K (b4 0) "plan") (a9 (b4 1) d7)) d7))
def a1m(K:Fg)(c:Cn):Sp:=spD 2 2 (a5y K c)
def b6C(K:Fg):TS:=E1 (tIf (C7 (tOp qEq (tOp qIx (b4 0) (tC (.int 0))) (tC (.str "set")))) (tOp qIx (b4 0) (tC (.int 2))) (tC .non))
def a9L(K:Fg):Sp:=spD 1 1 (b6C K)
def c5H(K:Fg):TS:=E1 (tOp qEq (u9 (a9L K) [] E0 (a9 (b4 0) d7)) (b4 1))
def a7f(K:Fg):Sp:=spD 2 2 (c5H K)
def a4H(K:Fg)(c:Cn):TS:=u8 (F0 (tOp qIx (Z6 K (Z6 K (b4 0) "plan") "rows") (b4 1)) (t9 2)) (u8 (L6 (tB (u9 (a3q K) [] E0 (a9 (b4 2) (a9 (Z6 K (b4 0) "deed") d7)))) (E1 (tC (.bl false))) C9) (E1 (b1X (u9 (a7f K) [] E0 (a9 (b4 2) (a9 (Z6 K (b4 0) "deed") d7))) (V9 c.T1 "ready_at" (a0V K) [] E0 (b4 0) (a9 (b4 1) d7)))))
def a0G(K:Fg)(c:Cn):Sp:=spD 2 3 (a4H K c)
def a6C(K:Fg)(c:Cn):TS:=E1 (a0L (tOp (c1k K) (b4 1) (tC (.ref c.I0))) (V9 c.T1 "ready_behind" (a0G K c) [] E0 (b4 0) (a9 (tOp qIx (b4 1) (tC (.int 0))) d7)))
def a1W(K:Fg)(c:Cn):Sp:=spD 2 2 (a6C K c)
def a3E(K:Fg)(c:Cn):TS:=u8 (F0 (tOp qIx (Z6 K (Z6 K (b4 0) "plan") "nexts") (b4 1)) (t9 2)) (E1 (a0L (tOp qGt (tCB V4 (a9 (b4 2) d7)) (tC (.int 0))) (tCB b2q (a9 (a0f (U2 K (b4 2)) a0e (V9 c.O0 "wanted_at" (R1 K) [] E0 (b4 1) (a9 (b4 0) d7))) d7))))
def U7(K:Fg)(c:Cn):Sp:=spD 2 3 (a3E K c)
def a5Y(K:Fg)(c:Cn):TS:=u8 (L6 (tOr (a2e (tB (V9 c.O0 "wanted_on" (a1m K c) [] E0 (Z6 K (b4 0) "wanted") (a9 (b4 1) d7)))) (tB (V9 c.T1 "ready_on" (a1W K c) [] E0 (Z6 K (b4 0) "ready") (a9 (b4 1) d7)))) (E1 (tC (.bl false))) C9) (E1 (b1X (tOp (b9u K) (b4 1) (tC (.ref c.I0))) (b1X (V9 c.C4 "is_spoilt_ahead" (O1 K) [] E0 (b4 0) (a9 (b4 1) d7)) (a6F (V9 c.O0 "wanted_behind" (U7 K c) [] E0 (Z6 K (b4 0) "wanted") (a9 (tOp qIx (b4 1) (tC (.int 0))) d7))))))
def a1B(K:Fg)(c:Cn):Sp:=spD 2 2 (a5Y K c)
def b6y(K:Fg):TS:=a1R (a8y K (a9 (tOp qIx (Z6 K (b4 0) "nexts") (b4 1)) d7)) (b5o K 2 (a2Q (t9 4) (a2Q (t9 5) (b5p)))) (L6 (tB (a0S (b4 5) (b4 2))) (u8 (a3Z (b4 2) (b4 5) (a1Y (a9 (b4 1) (a9 (b4 4) d7)))) (V7 (tBM K "list" O5 (b4 3) (a9 (b4 5) d7)))) C9)
def a5E(K:Fg):Sp:=spD 4 6 (b6y K)
def a7M(K:Fg)(c:Cn):TS:=u8 (F0 (b6D ((tC (.int 0),tC (.ref c.I0))::[])) (t9 3)) (u8 (F0 (a1z (a9 (tC (.int 0)) d7)) (t9 4)) (u8 (a1R (a3Q (a9 (tCB V4 (a9 (Z6 K (b4 0) "rows") d7)) d7)) (t9 5) (L6 (tB (tOp qIx (b4 2) (b4 5))) (V7 (u9 (a5E K) [] E0 (a9 (b4 0) (a9 (b4 5) (a9 (b4 3) (a9 (b4 4) d7)))))) C9)) (u8 (F0 (tC (.int 0)) (t9 6)) (u8 (a5B (C7 (tOp qLt (b4 6) (tCB V4 (a9 (b4 4) d7)))) (u8 (F0 (tOp qIx (b4 4) (b4 6)) (t9 5)) (u8 (c0P 6 (tC (.int 1)) (ipI fun i j=>i+j)) (L6 (a2e (tB (tOp qIx (b4 1) (b4 5)))) (V7 (u9 (a5E K) [] E0 (a9 (b4 0) (a9 (b4 5) (a9 (b4 3) (a9 (b4 4) d7)))))) C9)))) (E1 (b4 3))))))
def a2q(K:Fg)(c:Cn):Sp:=spD 3 7 (a7M K c)
def b0N(K:Fg)(c:Cn):TS:=u8 (a9g K (b4 0) (b4 1) "plan") (u8 (a9g K (b4 0) (b4 2) "deed") (u8 (fun D σ H=>(a0f (U2 K (Z6 K (b4 1) "rows")) a0e (u9 (a7f K) [] E0 (a9 (b4 0) (a9 (b4 3) d7)))) σ H fun v H1=>D.nx (σ.set 3 (some v)) H1) (a9g K (b4 0) (u9 (a2q K c) [] E0 (a9 (b4 1) (a9 (b4 3) (a9 (a0f (U2 K (Z6 K (b4 1) "rows")) a0e (u9 (a3q K) [] E0 (a9 (b4 0) (a9 (b4 3) d7)))) d7)))) "come_by")))
def a2N(K:Fg)(c:Cn):Sp:=spD 3 4 (b0N K c)
def a7L(K:Fg):TS:=u8 (F0 (a1z d7) (t9 2)) (u8 (a1R (a8y K (a9 (Z6 K (b4 0) "rows") d7)) (b5o K 2 (a2Q (t9 3) (a2Q (t9 4) (b5p)))) (L6 (a9c (a2e (tB (u9 (a7f K) [] E0 (a9 (b4 4) (a9 (b4 1) d7))))) (tOr (tB (u9 (a3q K) [] E0 (a9 (b4 4) (a9 (b4 1) d7)))) (C7 (tOp qEq (tCB V4 (a9 (tOp qIx (Z6 K (b4 0) "nexts") (b4 3)) d7)) (tC (.int 0)))))) (V7 (tBM K "list" O5 (b4 2) (a9 (b4 3) d7))) C9)) (E1 (b4 2)))
def a2p(K:Fg):Sp:=spD 2 5 (a7L K)
def a6B(K:Fg)(c:Cn):TS:=u8 (F0 (u9 (a2p K) [] E0 (a9 (b4 0) (a9 (b4 1) d7))) (t9 2)) (u8 (F0 (tCB b4I (a9 (a0f (U2 K (b4 2)) a0e (a1Y (a9 (b4 0) (a9 (tC .non) d7)))) d7)) (t9 3)) (u8 (F0 (tC (.int 0)) (t9 4)) (u8 (a5B (C7 (tOp qLt (b4 4) (tCB V4 (a9 (b4 2) d7)))) (u8 (F0 (tOp qIx (b4 2) (b4 4)) (t9 5)) (u8 (c0P 4 (tC (.int 1)) (ipI fun i j=>i+j)) (a1R (U2 K (V9 c.Q2 "steps_into" (a0C K) [] E0 (b4 0) (a9 (b4 5) d7))) (t9 6) (L6 (a9c (C7 (tOp (c1k K) (b4 6) (tC (.ref c.I0)))) (a9c (tB (a0S (tOp qIx (b4 6) (tC (.int 0))) (b4 3))) (a2e (tB (u9 (a7f K) [] E0 (a9 (tOp qIx (Z6 K (b4 0) "rows") (tOp qIx (b4 6) (tC (.int 0)))) (a9 (b4 1) d7))))))) (u8 (a3Z (b4 3) (tOp qIx (b4 6) (tC (.int 0))) (b4 6)) (V7 (tBM K "list" O5 (b4 2) (a9 (tOp qIx (b4 6) (tC (.int 0))) d7)))) C9))))) (E1 (b4 3)))))
def a1V(K:Fg)(c:Cn):Sp:=spD 2 7 (a6B K c)
def a9z(K:Fg)(c:Cn):TS:=u8 (a9g K (b4 0) (b4 1) "plan") (a9g K (b4 0) (u9 (a1V K c) [] E0 (a9 (b4 1) (a9 (b4 2) d7))) "goes_by")
def a2g(K:Fg)(c:Cn):Sp:=spD 3 3 (a9z K c)
def a9A(K:Fg)(c:Cn):TS:=u8 (a9g K (b4 0) (b4 1) "plan") (u8 (a9g K (b4 0) (b4 2) "deed") (u8 (a9g K (b4 0) (a5Z c.T1 (a2N K c) [] E0 (a9 (b4 1) (a9 (b4 2) d7))) "ready") (u8 (a9g K (b4 0) (a5Z c.O0 (a2g K c) [] E0 (a9 (b4 1) (a9 (b4 2) d7))) "wanted") (a9g K (b4 0) (tCB (c1n K) (a9 (a0f (U2 K (V9 c.Q2 "steps" (a4t K c) [] E0 (b4 1) d7)) (tB (V9 c.C4 "is_brink" (a1B K c) [] E0 (b4 1) (a9 (b4 0) d7))) (a1Y (a9 (b4 0) (a9 (tC (.bl true)) d7)))) d7)) "found"))))
def a0D(K:Fg)(c:Cn):Sp:=spD 3 3 (a9A K c)
def c5G(K:Fg)(c:Cn):TS:=u8 (F0 (u9 (b7q K) [] E0 (a9 (b4 0) d7)) (t9 1)) (u8 (F0 (u9 (b3I K) [] E0 (a9 (b4 1) d7)) (b5o K 3 (a2Q (t9 2) (a2Q (t9 3) (a2Q (t9 4) (b5p)))))) (u8 (V7 (tBM K "list" O5 (b4 4) (a9 (u9 (b0V K) [] E0 (a9 (b4 1) (a9 (a1z (a9 (tC (.str "a")) (a9 (tC (.str "k0")) d7))) d7))) d7))) (u8 (F0 (tOp qIx (b4 4) (u9 (M8 K) [] E0 (a9 (b4 1) (a9 (tCB V4 (a9 (b4 4) d7)) d7)))) (t9 5)) (u8 (F0 (tOp qIx (b4 4) (u9 (M8 K) [] E0 (a9 (b4 1) (a9 (tCB V4 (a9 (b4 4) d7)) d7)))) (t9 6)) (u8 (F0 (a5Z c.Q2 (a5l K c) [] E0 (a9 (tCB a7P (a9 (b4 2) d7)) (a9 (a0f (U2 K (b4 3)) a0e (tCB a7P (a9 (b4 0) d7))) d7))) (t9 7)) (u8 (F0 (a5Z c.C4 (a0D K c) [] E0 (a9 (b4 7) (a9 (b4 5) d7))) (t9 8)) (u8 (F0 (a5Z c.C4 (a0D K c) [] E0 (a9 (b4 7) (a9 (b4 6) d7))) (t9 9)) (u8 (F0 (a1z (a9 (u9 (a6J K) [] E0 (a9 (b4 2) (a9 (b4 3) (a9 (b4 5) d7)))) (a9 (u9 (a6J K) [] E0 (a9 (b4 2) (a9 (b4 3) (a9 (b4 6) d7)))) d7))) (t9 10)) (u8 (L6 (tOr (a2e (tB (u9 (a5j K c) [] E0 (a9 (b4 2) (a9 (b4 3) (a9 (b4 5) (a9 (b4 8) (a9 (tOp qIx (b4 10) (tC (.int 0))) d7)))))))) (a2e (tB (u9 (a5j K c) [] E0 (a9 (b4 2) (a9 (b4 3) (a9 (b4 6) (a9 (b4 9) (a9 (tOp qIx (b4 10) (tC (.int 1))) d7))))))))) (E1 (tC (.bl false))) C9) (u8 (F0 (u9 (a5C K) [] E0 (a9 (b4 3) d7)) (t9 11)) (u8 (F0 (tOp qIx (b4 11) (u9 (M8 K) [] E0 (a9 (b4 1) (a9 (tCB V4 (a9 (b4 11) d7)) d7)))) (t9 12)) (u8 (L6 (a9c (C7 (tOp qGt (tCB V4 (a9 (tOp qIx (b4 10) (tC (.int 0))) d7)) (tC (.int 0)))) (C7 (tOp qEq (u9 (M8 K) [] E0 (a9 (b4 1) (a9 (tC (.int 2)) d7))) (tC (.int 0))))) (F0 (tOp qIx (tOp qIx (b4 10) (tC (.int 0))) (u9 (M8 K) [] E0 (a9 (b4 1) (a9 (tCB V4 (a9 (tOp qIx (b4 10) (tC (.int 0))) d7)) d7)))) (t9 12)) C9) (u8 (F0 (a5Z c.C4 (a0D K c) [] E0 (a9 (b4 7) (a9 (b4 5) d7))) (t9 13)) (u8 (F0 (V9 c.C4 "why_brink" (R3 K c) [] E0 (b4 13) (a9 (b4 12) d7)) (t9 14)) (u8 (L6 (C7 (tOp (c6i K) (V9 c.C4 "why_brink" (R3 K c) [] E0 (b4 13) (a9 (b4 12) d7)) (b4 14))) (E1 (tC (.bl false))) C9) (u8 (L6 (a9c (C7 (tOp (b9t true) (b4 12) (tOp qIx (b4 10) (tC (.int 0))))) (C7 (tOp b4H (b4 14) (tC .non)))) (E1 (tC (.bl false))) C9) (u8 (L6 (a9c (C7 (tOp (b9t false) (b4 12) (tOp qIx (b4 10) (tC (.int 0))))) (a2e (tB (u9 (a8j K) [] E0 (a9 (b4 2) (a9 (b4 3) (a9 (b4 5) (a9 (b4 12) (a9 (b4 14) d7))))))))) (E1 (tC (.bl false))) C9) (E1 (a0L (u9 (a5j K c) [] E0 (a9 (b4 2) (a9 (b4 3) (a9 (b4 5) (a9 (b4 8) (a9 (tOp qIx (b4 10) (tC (.int 0))) d7)))))) (u9 (a5j K c) [] E0 (a9 (b4 2) (a9 (b4 3) (a9 (b4 6) (a9 (b4 9) (a9 (tOp qIx (b4 10) (tC (.int 1))) d7)))))))))))))))))))))))))
def b4v(K:Fg):Sp:=fun vs H Q _=>vs.length=1/\∀c,a1h K c->c5G K c { nx:=fun _ H'=>Q .non H',rt:=Q } (vs.map some++w6 (15 - vs.length) none) H
end RD
local macro_rules | `(tactic| walk_at "st") => `(tactic| (with_reducible first
 | refine RD.b6F ?_ | refine RD.b1d ?_ | refine RD.d0X ?_ | refine RD.c5U ?_ | refine RD.b7A ?_ | refine RD.d0W ?_ | refine RD.a9Q ?_ | refine RD.d0Q ?_ | refine RD.c8j ?_ | refine RD.d0i ?_ | refine RD.d3v ?_ | refine RD.d4y ?_ | refine RD.d1a ?_ | refine RD.d3p ?_ | refine RD.d0T ?_ | refine RD.d3s ?_ | refine RD.c8k ?_ | refine RD.c8l ?_ | refine RD.d4w ?_ | refine RD.d3q ?_ | refine RD.s_c ?_ | refine RD.a3b ?_ | refine RD.a9B ?_ | refine RD.d0Y ?_ | refine RD.d3t ?_ | refine RD.c5R ?_ | refine RD.d3r ?_ | refine RD.d4x ?_ | refine RD.d0S ?_ | refine RD.c5V ?_ | refine RD.s_rev ?_ | refine RD.c1c ?_ | refine RD.d0Z ?_ | refine RD.d3u ?_
 | refine RD.a0M (by with_unfolding_all rfl) ?_ | refine Exists.intro _ (And.intro (Eq.refl (L2.V.bl _)) ?_) | refine Exists.intro _ (And.intro (Eq.refl (L2.V.int _)) ?_)
 | refine RD.d3E ?_ | refine RD.d1h ?_ | refine RD.d4D ?_ | refine RD.d3F ?_ | refine RD.d4E rfl ?_ | refine RD.d4C rfl ?_))
local macro_rules | `(tactic| walk_at "ev") => `(tactic| repeat walk_at "st")
local macro_rules | `(tactic| walk_at "go") => `(tactic| repeat (first | with_reducible refine RD.N7 ?_ | walk_at "st"))
local macro_rules | `(tactic| ext) => `(tactic| walk_at "ev")
local macro_rules | `(tactic| exists $t:term) => `(tactic| (refine $t; walk_at "ev"))
local macro_rules | `(tactic| specialize $t:term) => `(tactic| (with_reducible refine $t; walk_at "ev"))
local macro_rules | `(tactic| exact_mod_cast $t:term) => `(tactic| with_reducible refine $t)
local macro_rules | `(tactic| nofun) => `(tactic| (with_reducible refine RD.N7 ?_; walk_at "ev"))
namespace RD
open PySem PySem.Spec L2
variable{C a b bx d dd dx na p ra rx w wx y:Addr}{H H' H0 H1:Hp}{o:HO}{ds xs ys:List V}{D:b0r}{σ:St}{ta te ti to:TE}{tt:TT}{Q:VK}{v:V}{e i j m n t t0:Nat}{z:Str}{Sr Sw ks l:List Nat}{QD:Hp->Prop}{R:It->Hp->Prop}{M N:Nt}{ns:List Int}{as rs:List Addr}{Z:Addr->Prop}{Do f:Nat->Bool}{kvs:List (Key×V)}{c:Cn}
section
variable {D:Addr}
theorem d0V(h:ta σ H fun v H2=>∃x,v=.str x/\R (Its x) H2):c9z ta σ H R:=h
theorem c7n{x:Str}(Pv:Nat->List V->Hp->Prop)(h0:Pv 0 [] (upd H1 D (.lst [])))(hP:∀i ys H,Pv i ys H->H D=some (.lst ys))
  (step:∀i c ys H2,x.cps[i]? = some c->Pv i ys H2->∀(R:VK) (R':Hp->Prop),(∀y H5,H5 D=some (.lst ys)->ys.length<u7->Pv (i+1) (ys++[y]) (upd H5 D (.lst (ys++[y])))->R y H5)->(∀H4,Pv (i+1) ys H4->R' H4) ->
   tt (some (.str ⟨#[c]⟩)::σ) H2 fun ok H4=>if ok=true then te (some (.str ⟨#[c]⟩)::σ) H4 R else R' H4)
  (done:∀ys H2,Pv x.length ys H2->QD H2) :
  ∃W:Nat->Nat->List V->Hp->Prop,(∃m,W 0 m [] (upd H1 D (.lst [])))/\∀i m ys H2,W i m ys H2->H2 D=some (.lst ys) /\
   (((Its x).stop i H2 /\ QD H2) \/ ((Its x).go i H2 /\ ∀ v H3,(Its x).yld i H2 v H3 -> tt (some v :: σ) H3 fun ok H4 => if ok = true then
     te (some v::σ) H4 (fun y H5=>H5 D=some (.lst ys)/\ys.length<u7/\∃m',m'<m/\W (i+1) m' (ys++[y]) (upd H5 D (.lst (ys++[y]))))
     else ∃m',m'<m/\W (i+1) m' ys H4)):=by
 refine⟨fun i m ys H=>m=x.length - i/\i<=x.length/\Pv i ys H,⟨x.length,rfl,P8 _,h0⟩,?_⟩;rintro i m ys H2 ⟨rfl,hi,p⟩;refine⟨hP i ys H2 p,?_⟩;by_cases hlt:i<x.length
 ·refine .inr ⟨hlt,fun v H3 y=>?_⟩
  obtain⟨e,c,hc,ev⟩:=y;subst e ev;exact step i c ys _ hc p _ _ (fun y H5 h1 h2 h3=>⟨h1,h2,x.length - (i+1),by omega,rfl,hlt,h3⟩) fun H4 h=>⟨x.length - (i+1),by omega,rfl,hlt,h⟩
 ·have e:i=x.length:=by omega
  subst e;exact .inl ⟨j9 _,done ys H2 p⟩
end
def sgn(S:Str)(c:Nat):Bool := !(Builtin.Str.occurrences S ⟨#[c]⟩ 0 S.length 1).isEmpty
theorem d0l{S:Str}{c:Nat}(h:Q (.bl (sgn S c)) H):qIn false (.str ⟨#[c]⟩) (.str S) H Q:=h
abbrev LET:Str := "abcdefghijklmnopqrstuvwxyz"
abbrev SGN:Str := "abcdefghijklmnopqrstuvwxyz0123456789"
theorem d0J:LET++("0123456789" : Str)=SGN:=by decide +kernel
def a8t(z:Str):Bool:=decide (1<=z.length)&&decide (z.length<=8)&&(match z.cps[0]? with | some c=>sgn LET c | none=>false)&&z.cps.toList.all (sgn SGN)
theorem b9T{K:Fg}{E:XK}(hz:z.length<=100)(k:∀H',d9 H H'->Q (.bl (a8t z)) H'):a1A K [.str z] H Q E:=by
 refine⟨rfl,?_⟩;unfold b1W;have hz':=small (show z.length<=100000 by omega)
 nofun
 exists a6g (s := "str") rfl (by decide) ?_;exists p8 (by decide) ?_;exists d1f hz' ?_;by_cases h1:1<=z.length
 case neg=>
  exists p8 (d6w (by omega)) ?_;exists A2 rfl ?_;have e:a8t z=false:=by unfold a8t;rw[d6w h1];simp
  rw[<-e];exact k H (d9.refl _)
 exists A2 (d6x (by omega)) ?_;by_cases h8:z.length<=8
 case neg=>
  rw[d6w (show ¬((z.length:Int)<=8) by omega)];exists A2 rfl ?_;have e:a8t z=false:=by unfold a8t;rw[d6w h8];simp
  rw[<-e];exact k H (d9.refl _)
 rw[d6x (show(z.length:Int)<=8 by omega)];exists p8 rfl ?_;have hl:z.cps.toList.length=z.length:=a5Q;obtain⟨c0,hc0,hc1⟩:=a7I (xs:=z.cps.toList) (i:=0) (by decide) (by omega);have hc2:z.cps[0]? = some c0:=by rw[<-a0Q];exact hc1
 exists c6f hz' hc0 ?_
 have en:a8t z=(sgn LET c0&&z.cps.toList.all (sgn SGN)):=by
  unfold a8t;rw[d6x h1,d6x h8,hc2];simp
 refine d0l (S:=LET) ?_;refine⟨_,rfl,?_⟩;cases hs:sgn LET c0 with
 | false=>
  refine d2r ?_;have e:a8t z=false:=by rw[en,hs];rfl
  rw[<-e];exact k H (d9.refl _)
 | true=>
  exists b9S ?_;specialize a1u (d0V ?_);refine⟨z,rfl,fun D hD=>?_⟩;refine c7n (fun i ys H2=>ys=(z.cps.toList.take i).map (fun c=>V.bl (sgn SGN c))/\H2=upd H D (.lst ys)) ⟨by simp,rfl⟩ ?_ ?_ ?_
  ·rintro i ys _ ⟨_,rfl⟩
   exact d8
  ·rintro i c ys _ hc ⟨rfl,rfl⟩ R R' hR hR'
   have hc':z.cps.toList[i]? = some c:=by rw[a0Q];exact hc
   ext
   exists b9S ?_;refine c6h (small (by decide +kernel)) ?_;have e:(("abcdefghijklmnopqrstuvwxyz" : Str)++("0123456789" : Str))=SGN:=d0J;rw[e];refine d0l (S:=SGN) ?_;refine hR (.bl (sgn SGN c)) _ d8 (G8 ?_) ⟨?_,?_⟩
   ·rw[b9,C5];omega
   ·rw[F3,hc'];simp
   ·rw[b3G]
  ·rintro ys _ ⟨rfl,rfl⟩
   ext
   have eb:a0X ((z.cps.toList.take z.length).map (fun c=>V.bl (sgn SGN c)))=some ((z.cps.toList.take z.length).map (sgn SGN)):=by
    generalize z.cps.toList.take z.length=l;induction l with
    | nil=>rfl
    | cons a r ih=>simp[a0X,ih]
   have ea:((z.cps.toList.take z.length).map (sgn SGN)).all id=a8t z:=by
    rw[en,hs,Z8,a0I (by omega),c3c];rfl
   refine(show b2q [.ref D] _ _ from ?_);unfold b2q;simp only[d8];refine⟨_,eb,?_⟩;rw[ea];exact k _ (A9 hD)
def NmS(s:Str):Prop:=a8t s=true/\s.length<=8
def OpN(v:V):Prop:=(∃s,v=.str s/\NmS s)\/∃n:Int,v=.int n/\0<=n/\n<1000000000000
theorem OpN.flat{v:V}(h:OpN v):O8 v=true:=by
 rcases h with ⟨s,rfl,_⟩ | ⟨n,rfl,_⟩ <;> rfl
abbrev c7A:List Str:=["plus","minus","times","less","same"]
def a8F(H:Hp)(p:Addr):Prop:=∃k v1 v2,H p=some (.tup [.str k,v1,v2])/\OpN v1/\OpN v2/\k∈c7A
theorem a8F.ts(h:a8F H p)(t:F5 H H'):a8F H' p:=by
 obtain⟨k,v1,v2,h,a,b,c⟩:=h;exact⟨k,v1,v2,t _ _ h,a,b,c⟩
inductive b1F(H:Hp):List V->Prop
 | set (n:Str) (p:Addr):NmS n->a8F H p->b1F H [.str "set",.str n,.ref p]
 | copy (n:Str) (v:V):NmS n->OpN v->b1F H [.str "copy",.str n,v]
 | take (n:Str):NmS n->b1F H [.str "take",.str n]
 | tell (v:V):OpN v->b1F H [.str "tell",v]
 | ask (v:V):OpN v->b1F H [.str "ask",v]
 | skip:b1F H [.str "skip"]
theorem b1F.ts(h:b1F H xs)(t:F5 H H'):b1F H' xs:=by
 cases h with
 | set n p a d=>exact .set n p a (d.ts t)
 | copy n v a o=>exact .copy n v a o
 | take n a=>exact .take n a
 | tell v o=>exact .tell v o
 | ask v o=>exact .ask v o
 | skip=>exact .skip
def b5D(H:Hp)(v:V)(ask:Bool):Prop:=∃p xs,v=.ref p/\H p=some (.tup xs)/\b1F H xs/\(∃k r,xs=.str k::r/\decide ((k:Str) = "ask")=ask)
theorem b5D.ts{a:Bool}(h:b5D H v a)(t:F5 H H'):b5D H' v a:=by
 obtain⟨p,xs,rfl,h,r,q⟩:=h;exact⟨p,xs,rfl,t _ _ h,r.ts t,q⟩
theorem d2t{n:Int}(k:Q (.bl true) H) :
  E1 (a0L (tCB a7S (a9 (b4 0) (a9 (tC (.ty "int")) d7))) (a6F (tCB a7S (a9 (b4 0) (a9 (tC (.ty "bool")) d7))))) { nx:=fun _ H'=>Q .non H',rt:=Q } [some (.int n)] H:=by
 ext
 exists a6g (s := "int") rfl (by decide) ?_;exists A2 (by decide) ?_;exists a6g (s := "int") rfl (by decide) ?_;exact k
theorem b1o{K:Fg}{n:Int}{E:XK}(k:Q (.bl true) H):a4L K [.int n] H Q E:=⟨rfl,d2t k⟩
theorem b7T{K:Fg}{n:Int}{E:XK}(h0:0<=n)(h1:n<1000000000000)(k:Q (.bl true) H):a6b K [.int n] H Q E:=by
 refine⟨rfl,?_⟩;unfold b4p
 ext
 refine b1o ?_;exists ⟨_,rfl,b9S ?_⟩;exists A2 (d6x h0) ?_;show Q (.bl (decide (n<1000000000000))) H;rw[d6x h1];exact k
theorem b7U{K:Fg}{n m:Int}{E:XK}(h0:0<=n)(h1:n<m)(k:Q (.bl true) H):a6c K [.int n,.int m] H Q E:=by
 refine⟨rfl,?_⟩;unfold b4q
 ext
 refine b1o ?_;exists ⟨_,rfl,b9S ?_⟩;exists A2 (d6x h0) ?_;show Q (.bl (decide (n<m))) H;rw[d6x h1];exact k
theorem a7A{K:Fg}{E:XK}(h:NmS z)(k:∀H',d9 H H'->Q (.bl true) H'):a1A K [.str z] H Q E:=by
 refine b9T (by have:=h.2;omega) fun H' s=>?_
 rw[h.1];exact k H' s
theorem b9U{K:Fg}{n:Int}{E:XK}(k:Q (.bl false) H):a1A K [.int n] H Q E:=by
 refine⟨rfl,?_⟩;unfold b1W
 nofun
 exists a6g (s := "int") rfl (by decide) ?_;refine A2 (by decide) ?_;exists A2 rfl ?_;exact k
theorem a2P{K:Fg}{E:XK}(h:OpN v)(k:∀H',d9 H H'->Q (.bl true) H'):a1c K [v] H Q E:=by
 refine⟨rfl,?_⟩;unfold b0K
 ext
 rcases h with ⟨s,rfl,hs⟩ | ⟨n,rfl,h0,h1⟩
 ·refine a7A hs fun G s=>?_
  exact⟨_,rfl,b9S (k G s)⟩
 ·refine b9U ?_
  exists ⟨_,rfl,d2r ?_⟩;exact b7T h0 h1 (k H (d9.refl _))
theorem c7b{k:Str}(h:k∈c7A):inV (.str k) [.str "plus",.str "minus",.str "times",.str "less",.str "same"]=true:=by
 simp only[c7A,u6,P5,or_false]at h;rcases h with rfl | rfl | rfl | rfl | rfl <;> decide +kernel
theorem c1T{K:Fg}{E:XK}(ck:a1h K c)(h:a8F H p)(k:∀H',d9 H H'->Q (.bl true) H'):a7e K c [.ref p] H Q E:=by
 obtain⟨kd,v1,v2,hp,o1,o2,hk⟩:=h;refine⟨rfl,?_⟩;unfold b6A
 nofun
 exists a6g (s := "tuple") (by simp only[a4V,hp]) (by decide) ?_;exists p8 (by decide) ?_;exists a3K hp ?_;exists p8 (by simp) ?_;exists N8 hp (Z3 _ _) ?_;refine⟨_,_,rfl,ck.b8A H,rfl,rfl,?_⟩;exists ⟨_,rfl,A2 (c7b hk) ?_⟩;exists N8 hp (a5p _ _ _) ?_;refine a2P o1 fun G1 s1=>?_
 exists ⟨_,rfl,b9S ?_⟩;exists N8 (s1 _ _ hp) (c2h _ _ _ _) ?_;exact a2P o2 fun G2 s2=>k G2 (s1.trans s2)
theorem c9G(a:V)(r:List V):a8B (a::r) (some 1) none=r:=by
 unfold a8B
 have e:HT.sIx (a::r).length 0 (some 1)=1:=by
  have:=HT.b7C (a::r).length 0 1;rw[show((1:Nat):Int)=1 from rfl]at this;rw[this,z9];omega
 rw[e];show List.take ((a::r).length - 1) r=r;rw[a0I (by simp)]
theorem b5a(a:V)(r:List V):¬(HT.sIx (a::r).length 0 (some 1)=0/\HT.sIx (a::r).length (a::r).length none=(a::r).length):=by
 intro h
 have e:HT.sIx (a::r).length 0 (some 1)=1:=by
  have:=HT.b7C (a::r).length 0 1;rw[show((1:Nat):Int)=1 from rfl]at this;rw[this,z9];omega
 omega
theorem c4s{K:Fg}{a:Bool}{E:XK}(ck:a1h K c)(h:b5D H v a)(k:∀H',d9 H H'->Q (.bl true) H'):a8R K c [v] H Q E:=by
 obtain⟨p,xs,rfl,hp,hr,kd,r,rfl,_⟩:=h;refine⟨rfl,?_⟩;unfold b9f
 nofun
 exists a6g (s := "tuple") (by simp only[a4V,hp]) (by decide) ?_;exists p8 (by decide) ?_;exists a3K hp ?_;exists p8 (d6w (by intro z;have:=V.int.inj z;rw[z9]at this;omega)) ?_
 nofun
 exists N8 hp (Z3 _ _) ?_
 nofun
 refine c6d hp (b5a _ _) fun q G hq e s=>?_
 rw[c9G]at e
 ext
 have hr:=hr.ts (d9.ts s);cases hr with
 | set n d hn hd=>
  nofun
  exists A2 (by decide) ?_;exists a3K e ?_;exists A2 (by simp) ?_;exists N8 e (Z3 _ _) ?_;refine a7A hn fun G1 s1=>?_
  exists ⟨_,rfl,b9S ?_⟩;exists N8 (s1 _ _ e) (a5p _ _ _) ?_;exact c1T ck (hd.ts (d9.ts s1)) fun G2 s2=>k G2 ((s.trans s1).trans s2)
 | copy n v hn ho=>
  nofun
  exists p8 (by decide) ?_
  nofun
  exists A2 (by decide) ?_;exists a3K e ?_;exists A2 (by simp) ?_;exists N8 e (Z3 _ _) ?_;refine a7A hn fun G1 s1=>?_
  exists ⟨_,rfl,b9S ?_⟩;exists N8 (s1 _ _ e) (a5p _ _ _) ?_;exact a2P ho fun G2 s2=>k G2 ((s.trans s1).trans s2)
 | take n hn=>
  nofun
  exists p8 (by decide) ?_
  nofun
  exists p8 (by decide) ?_
  nofun
  exists A2 (by decide) ?_;exists a3K e ?_;exists A2 (by simp) ?_;exists N8 e (Z3 _ _) ?_;exact a7A hn fun G1 s1=>k G1 (s.trans s1)
 | tell v ho=>
  nofun
  exists p8 (by decide) ?_
  nofun
  exists p8 (by decide) ?_
  nofun
  exists p8 (by decide) ?_
  nofun
  refine F7 (by simp) fun q2 G2 hq2 e2 s2=>?_
  exists b3h e2 rfl rfl ?_;exists A2 (by decide +kernel) ?_;exists a3K (s2 _ _ e) ?_;exists A2 (by simp) ?_;exists N8 (s2 _ _ e) (Z3 _ _) ?_;exact a2P ho fun G1 s1=>k G1 ((s.trans s2).trans s1)
 | ask v ho=>
  nofun
  exists p8 (by decide) ?_
  nofun
  exists p8 (by decide) ?_
  nofun
  exists p8 (by decide) ?_
  nofun
  refine F7 (by simp) fun q2 G2 hq2 e2 s2=>?_
  exists b3h e2 rfl rfl ?_;exists A2 (by decide +kernel) ?_;exists a3K (s2 _ _ e) ?_;exists A2 (by simp) ?_;exists N8 (s2 _ _ e) (Z3 _ _) ?_;exact a2P ho fun G1 s1=>k G1 ((s.trans s2).trans s1)
 | skip=>
  nofun
  exists p8 (by decide) ?_
  nofun
  exists p8 (by decide) ?_
  nofun
  exists p8 (by decide) ?_
  nofun
  refine F7 (by simp) fun q2 G2 hq2 e2 s2=>?_
  exists b3h e2 rfl rfl ?_;exists p8 (by decide +kernel) ?_;exists A2 (by decide) ?_;exists a3K (s2 _ _ e) ?_;have e0:decide (V.int ((([]:List V).length:Nat):Int)=V.int 0)=true:=by decide
  rw[e0];exact k G2 (s.trans s2)
theorem ix0{α:Type}(a b c d:α):ixN [a,b,c,d].length 0=some 0:=by
 show ixN 4 0=some 0;decide
theorem ix1{α:Type}(a b c d:α):ixN [a,b,c,d].length 1=some 1:=by
 show ixN 4 1=some 1;decide
theorem ix2{α:Type}(a b c d:α):ixN [a,b,c,d].length 2=some 2:=by
 show ixN 4 2=some 2;decide
structure b5F(H:Hp)(b:Addr)(i0 i1 i2:Int)(c:Addr)(ns:List Int):Prop where
 hb:H b=some (.lst [.int i0,.int i1,.int i2,.ref c])
 hc:H c=some (.lst (ns.map V.int))
 p0:0<=i0
 p1:0<=i1
 p1':i1<2147483647
 p2:0<=i2
 pn:∀x∈ns,0<=x
theorem b5F.bag{i0 i1 i2:Int}{c:Addr}(h:b5F H b i0 i1 i2 c ns):Bag H b c:=⟨i0,i1,i2,ns,h.hb,h.hc,h.p0,h.p1,h.p1',h.p2,h.pn⟩
theorem Bag.parts{c:Addr}(h:Bag H b c):∃i0 i1 i2 ns,b5F H b i0 i1 i2 c ns:=by
 obtain⟨i0,i1,i2,ns,h1,h2,h3,h4,h5,h6,h7⟩:=h.ex;exact⟨i0,i1,i2,ns,h1,h2,h3,h4,h5,h6,h7⟩
theorem b5F.ne{i0 i1 i2:Int}{c:Addr}(h:b5F H b i0 i1 i2 c ns):c≠b:=O3 h.hc h.hb (by
  intro z;have z:=HO.lst.inj z;cases ns with
  | nil=>cases z
  | cons a r=>cases r with
   | nil=>cases z
   | cons a2 r=>cases r with
    | nil=>cases z
    | cons a3 r=>cases r with
     | nil=>cases z
     | cons a4 r=>simp at z)
theorem b5F.put{i0 i1 i2 j0 j1 j2:Int}{c:Addr}(h:b5F H b i0 i1 i2 c ns)(q0:0<=j0)(q1:0<=j1)(q1':j1<2147483647)(q2:0<=j2) :
  b5F (upd H b (.lst [.int j0,.int j1,.int j2,.ref c])) b j0 j1 j2 c ns:=⟨d8,by rw[i8 h.ne];exact h.hc,q0,q1,q1',q2,h.pn⟩
theorem Q5{K:Fg}{c:Addr}{many:Int}{E:XK}(hB:Bag H b c)(h0:0<many)(h1:many<2 ^ 64)
  (k:∀n H',0<=n->n<many->Bag H' b c->J3 b H H'->Q (.int n) H'):M8 K [.ref b,.int many] H Q E:=by
 obtain⟨i0,i1,i2,ns,B⟩:=hB.parts;refine⟨rfl,?_⟩;unfold c5D;refine a5f (P:=fun σ H1=>∃x2 x3 j0 j1 j2,σ=[some (.ref b),some (.int many),x2,x3,none,none,none]/\b5F H1 b j0 j1 j2 c ns/\J3 b H H1) ?_ ?_
 ·-- the second part
  rintro _ H1 ⟨x2,x3,j0,j1,j2,rfl,B1,k1⟩;refine a5f (P:=fun σ H2=>H2=H1/\σ=[some (.ref b),some (.int many),x2,x3,none,none,none]) ?_ ?_
  ·rintro _ _ ⟨rfl,rfl⟩
   walk_at "go";refine C0 B1.hb (a5p _ _ _) ?_;walk_at "go";refine a6N (.inr (by omega)) ?_;walk_at "go";refine a6N (by omega) ?_;walk_at "go";have g1:=a2l (j1 * 39373) (show(1000000007:Int)≠0 by decide);have g2:=a2a (j1 * 39373) (show(0:Int)<1000000007 by decide);refine a6N (.inr (by omega)) ?_;walk_at "go";refine a6N (by omega) ?_;walk_at "go";have g3:=a2l (j1 * 39373 % 1000000007 * 30011) (show(998244353:Int)≠0 by decide);have g4:=a2a (j1 * 39373 % 1000000007 * 30011) (show(0:Int)<998244353 by decide);refine a3P (fun _=>?_) (fun _=>?_)
   ·walk_at "go"
    refine a6N (.inr (by omega)) ?_;walk_at "go";refine a6N h0 ?_;exact k _ _ (a2l _ (by omega)) (a2a _ h0) B1.bag k1
   ·walk_at "go"
    refine a6N (by omega) ?_;walk_at "go";refine a6N h0 ?_;exact k _ _ (a2l _ (by omega)) (a2a _ h0) B1.bag k1
  ·intro nx hnx
   walk_at "go";refine C0 B1.hb (Z3 _ _) ?_;walk_at "go";refine a3P (fun _=>?_) (fun _=>?_)
   ·walk_at "go"
    refine C0 B1.hb (Z3 _ _) ?_;walk_at "go";refine a6N h0 ?_;walk_at "go";refine C0 B1.hb (Z3 _ _) ?_;walk_at "go";refine a6N ⟨h0,h1⟩ ?_;walk_at "go";refine b6G B1.hb (ix0 _ _ _ _) ?_;walk_at "go";refine k _ _ (a2l _ (by omega)) (a2a _ h0) (B1.put (Int.ediv_nonneg B1.p0 (by omega)) B1.p1 B1.p1' B1.p2).bag (k1.trans (J3.upd _ _ _))
   ·walk_at "go"
    exact hnx _ _ ⟨rfl,rfl⟩
 ·intro nx hnx
  walk_at "go";refine C0 B.hb (Z3 _ _) ?_;walk_at "go";refine a3P (fun e=>?_) (fun _=>?_)
  ·have e:i0=0:=by simpa using e
   subst e
   nofun
   exact_mod_cast a5f (P:=fun σ H1=>∃m x3 j0 j2,σ=[some (.ref b),some (.int many),some (.int m),x3,none,none,none]/\b5F H1 b j0 i1 j2 c ns/\J3 b H H1/\0<=m) ?_ ?_
   ·rintro _ H1 ⟨m,x3,j0,j2,rfl,B1,k1,hm⟩
    walk_at "go";refine C0 B1.hb (a5p _ _ _) ?_;walk_at "go";refine a6N (.inr (by omega)) ?_;walk_at "go";refine a6N (by omega) ?_;walk_at "go";refine b6G B1.hb (ix1 _ _ _ _) ?_;have g1:=a2l (i1 * 48271+m) (show(2147483647:Int)≠0 by decide);have g2:=a2a (i1 * 48271+m) (show(0:Int)<2147483647 by decide);exact hnx _ _ ⟨_,x3,j0,_,j2,rfl,B1.put B1.p0 g1 g2 B1.p2,k1.trans (J3.upd _ _ _)⟩
   ·intro nx2 hnx2
    walk_at "go";refine C0 B.hb (c2h _ _ _ _) ?_;walk_at "go";refine C0 B.hb (d4g _ _ _ _ _) ?_;walk_at "go";refine L9 B.hc ?_;walk_at "go";refine a3P (fun e=>?_) (fun _=>?_)
    ·have e:i2<(ns.length:Int):=by simpa using e
     obtain⟨v,ev,ev2⟩:=a7I (xs:=ns.map V.int) B.p2 (by simpa using e)
     obtain⟨z,ez,rfl⟩:∃z,ns[i2.toNat]? = some z/\v=V.int z:=by
      rw[b6]at ev2;cases q:ns[i2.toNat]? with
      | none=>rw[q]at ev2;cases ev2
      | some z=>rw[q]at ev2;exact⟨z,rfl,(Option.some.inj ev2).symm⟩
     have hz:0<=z:=B.pn z (mI ez);walk_at "go";refine C0 B.hb (d4g _ _ _ _ _) ?_;walk_at "go";refine C0 B.hb (c2h _ _ _ _) ?_;walk_at "go";refine C0 B.hc ev ?_;walk_at "go";exists d3C B.hb (by decide) rfl ?_;refine b6G B.hb (ix2 _ _ _ _) ?_;have B2:=B.put (j0:=0) (j1:=i1) (j2:=i2+1) (Int.le_refl _) B.p1 B.p1' (by have:=B.p2;omega);exact_mod_cast a5f (P:=fun σ H1=>∃j0,σ=[some (.ref b),some (.int many),some (.int 12345),some (.int z),none,none,none]/\b5F H1 b j0 i1 (i2+1) c ns/\J3 b H H1) ?_ ?_
     ·rintro _ H1 ⟨j0,rfl,B1,k1⟩
      walk_at "go";refine a6N (by omega) ?_;walk_at "go";have g1:=a2l z (show(2147483647:Int)≠0 by decide);exact hnx2 _ _ ⟨_,_,j0,_,rfl,B1,k1,by omega⟩
     ·intro nx3 hnx3
      walk_at "go";refine a3P (fun _=>?_) (fun _=>?_)
      ·walk_at "go"
       refine b6G B2.hb (ix0 _ _ _ _) ?_;refine hnx3 _ _ ⟨z,rfl,?_,(J3.upd _ _ _).trans (J3.upd _ _ _)⟩;exact B2.put hz B.p1 B.p1' (by have:=B.p2;omega)
      ·walk_at "go"
       exact hnx3 _ _ ⟨0,rfl,B2,J3.upd _ _ _⟩
    ·walk_at "go"
     exact hnx2 _ _ ⟨_,_,0,i2,rfl,B,J3.refl _ _,by decide⟩
  ·walk_at "go"
   exact hnx _ _ ⟨_,_,i0,i1,i2,rfl,B,J3.refl _ _⟩
theorem d2D{K:Fg}{E:XK}(hS:SqL K H a (ns.map V.int))(hl:ns.length<=63)
  (k:∀b c H',Bag H' b c->d9 H H'->H b=none->Q (.ref b) H'):b7q K [.ref a] H Q E:=by
 refine⟨rfl,?_⟩;unfold d0h;walk_at "go";exact_mod_cast a1u (V3 ?_);walk_at "go";refine⟨a,_,rfl,hS,fun p hp=>⟨p,rfl,⟨_,SqL.of d8⟩,fun D hD=>?_⟩⟩
 have hcut:a8B (ns.map V.int) none (some 63)=ns.map V.int:=by
  unfold a8B;have e:HT.sIx (ns.map V.int).length 0 none=0:=rfl
  have e2:HT.sIx (ns.map V.int).length (ns.map V.int).length (some 63)=ns.length:=by
   have:=HT.b7C (ns.map V.int).length (ns.map V.int).length 63;rw[b9]at this ⊢;rw[show((63:Nat):Int)=63 from rfl]at this;rw[this];omega
  rw[e,e2,d2Z,Nat.sub_zero,a0I (by simp)]
 rw[hcut]at hD ⊢;have s1:d9 H (upd H p (.lst (ns.map V.int))):=A9 hp;refine a0E (xs:=ns.map V.int) (fun i ys H2=>ys=(ns.take i).map (fun x=>V.int (if x<0 then -x else x))/\H2=upd (upd H p (.lst (ns.map V.int))) D (.lst ys)) ⟨by simp,rfl⟩ ?_ ?_ ?_ ?_
 ·rintro i ys _ ⟨_,rfl⟩
  exact d8
 ·rintro i ys _ _ ⟨_,rfl⟩
  refine SqL.of ?_;rw[i8 (c9 d8 hD),d8]
 ·rintro i x ys _ hx ⟨rfl,rfl⟩ R hR
  rw[b6]at hx;cases e:ns[i]? with
  | none=>rw[e]at hx;cases hx
  | some z=>
   rw[e]at hx;cases hx
   ext
   refine hR _ _ d8 (G8 ?_) ⟨?_,?_⟩
   ·rw[b9,C5];omega
   ·rw[F3,e];simp
   ·rw[b3G]
 ·rintro ys _ ⟨rfl,rfl⟩
  ext
  refine F7 (by simp) fun b H4 hb hb4 s4=>?_
  rw[b9,a0I (j9 _)]at hb s4;refine k b D _ ⟨0,1234567891,0,ns.map (fun x=>if x<0 then -x else x),hb4,?_,by decide,by decide,by decide,by decide,?_⟩ ?_ ?_
  ·rw[s4 D _ d8,S9];rfl
  ·intro x hx
   obtain⟨y,_,rfl⟩:=A8.mp hx;split <;> omega
  ·exact(s1.trans (A9 hD)).trans s4
  ·exact(s1.trans (A9 hD)).free hb
structure a6t(H:Hp)(a:Addr):Prop where
 ex:∃ss:List Str,H a=some (.lst (ss.map V.str))/\ss≠[]/\ss.length<=8/\∀s∈ss,NmS s
theorem a6t.kept{c:Addr}(h:a6t H a)(hB:Bag H b c)(k:J3 b H H'):a6t H' a/\a≠b:=by
 obtain⟨ss,h1,h2,h3,h4⟩:=h.ex;obtain⟨i0,i1,i2,ns,hb,_⟩:=hB.ex
 have ne:a≠b:=O3 h1 hb (by
  intro z;have z:=HO.lst.inj z;cases ss with
  | nil=>exact h2 rfl
  | cons s r=>cases z)
 exact⟨⟨ss,k.1 a _ h1 ne,h2,h3,h4⟩,ne⟩
theorem c7Z:∀c∈LET.cps.toList,sgn LET c=true:=by decide +kernel
theorem c7Y:∀c∈SGN.cps.toList,sgn SGN c=true:=by decide +kernel
theorem c9q:∀c∈LET.cps.toList,sgn SGN c=true:=by decide +kernel
theorem c1S(cs:List Nat):Txt.join (Str.ofString "") (cs.map fun k=>(⟨#[k]⟩:Str))=⟨cs.toArray⟩:=by
 show Builtin.Str.glued ("") _=_;rw[StrLaws.glued_eq_join];exact PyProof.Rows.join_ones cs
theorem d3X{ch:Nat}{cs:List Nat}(h1:ch∈LET.cps.toList)(h2:∀c∈cs,c∈SGN.cps.toList)(hl:cs.length<=7):NmS ((⟨#[ch]⟩:Str)++⟨cs.toArray⟩):=by
 have hlen:((⟨#[ch]⟩:Str)++⟨cs.toArray⟩).length=cs.length+1:=by
  rw[Str.length_append];show 1+cs.toArray.size=_;rw[o9];omega
 have hc:((⟨#[ch]⟩:Str)++⟨cs.toArray⟩).cps=(ch::cs).toArray:=by
  rw[Str.cps_append];show #[ch]++cs.toArray=_;simp
 refine⟨?_,by omega⟩;unfold a8t;rw[hlen,hc];have e0:(ch::cs).toArray[0]? = some ch:=by simp
 rw[e0];simp only[P6,decide_eq_true_eq,L3];refine⟨⟨⟨by omega,by omega⟩,c7Z ch h1⟩,?_⟩;intro c hcc;have hcc:c∈ch::cs:=by simpa using hcc
 rcases u6.mp hcc with q | q
 ·subst q;exact c9q _ h1
 ·exact c7Y c (h2 c q)
structure b1G(H:Hp)(a:Addr):Prop where
 ex:∃ps:List Addr,H a=some (.lst (ps.map V.ref))/\ps≠[]/\ps.length<=8/\∀p∈ps,a8F H p
theorem Y9{c:Addr}(hB:Bag H b c)(h:H a=some (.lst (as.map V.ref))):a≠b:=by
 obtain⟨i0,i1,i2,ns,hb,_⟩:=hB.ex;refine O3 h hb ?_;intro z;have z:=HO.lst.inj z;cases as with
 | nil=>cases z
 | cons s r=>cases z
theorem b4x{c:Addr}(hB:Bag H b c)(h:H a=some (.lst xs))(hl:xs.length<=3):a≠b:=by
 obtain⟨i0,i1,i2,ns,hb,_⟩:=hB.ex;refine O3 h hb ?_;intro z;have z:=HO.lst.inj z;rw[z]at hl;simp at hl
theorem b1G.kept{c:Addr}(h:b1G H a)(hB:Bag H b c)(k:J3 b H H'):b1G H' a:=by
 obtain⟨ps,h1,h2,h3,h4⟩:=h.ex;exact⟨ps,k.1 a _ h1 (Y9 hB h1),h2,h3,fun p hp=>(h4 p hp).ts (J3.ts k hB)⟩
theorem b1G.same(h:b1G H a)(k:d9 H H'):b1G H' a:=by
 obtain⟨ps,h1,h2,h3,h4⟩:=h.ex;exact⟨ps,k a _ h1,h2,h3,fun p hp=>(h4 p hp).ts (d9.ts k)⟩
structure F8(H:Hp)(a:Addr)(N:Nt):Prop where
 ex:∃as:List Addr,H a=some (.lst (as.map V.ref))/\as.length=N.length/\∀(i:Nat) x l,as[i]? = some x->N[i]? = some l->H x=some (.lst (IL l))
theorem F8.same(h:F8 H a N)(k:d9 H H'):F8 H' a N:=by
 obtain⟨as,h1,h2,h3⟩:=h.ex;exact⟨as,k a _ h1,h2,fun i x l e1 e2=>k _ _ (h3 i x l e1 e2)⟩
theorem F8.kept{c:Addr}(h:F8 H a N)(hB:Bag H b c)(hN:∀l∈N,l.length<=2)(k:J3 b H H'):F8 H' a N:=by
 obtain⟨as,h1,h2,h3⟩:=h.ex;refine⟨as,k.1 a _ h1 (Y9 hB h1),h2,fun i x l e1 e2=>?_⟩;have q:=h3 i x l e1 e2;refine k.1 _ _ q (b4x hB q ?_);rw[K9];have:=hN l (mI e2);omega
theorem F8.at(h:F8 H a N){k:Nat}(e:N[k]? = some l):∃(xs:List V) (x:Addr),H a=some (.lst xs)/\atI xs (k:Int)=some (.ref x)/\H x=some (.lst (IL l))/\xs.length=N.length:=by
 obtain⟨as,h1,h2,h3⟩:=h.ex;have hk:k<as.length:=by rw[h2];exact(gI e)
 have e1:as[k]? = some as[k]:=by simp
 refine⟨_,as[k],h1,?_,h3 k _ l e1 e,by rw[b9,h2]⟩;exact P4 (by rw[b6,e1];rfl)
theorem F8.len(h:F8 H a N):∃xs,H a=some (.lst xs)/\xs.length=N.length:=by
 obtain⟨as,h1,h2,h3⟩:=h.ex;exact⟨_,h1,by rw[b9,h2]⟩
theorem a9H(e:l[j]? = some t):atI (IL l) (j:Int)=some (.int (t:Int)):=P4 (by unfold IL;rw[b6,e];rfl)
theorem c2B{K:Fg}{c:Addr}{E:XK}(hB:Bag H b c)(ha:H a=some (.lst xs))(na:a≠b)(h0:xs≠[])(hl:xs.length<=100)
  (k:∀(n:Int) v H',atI xs n=some v->v∈xs->H' a=some (.lst xs)->Bag H' b c->J3 b H H'->Q (.int n) H'):M8 K [.ref b,.int xs.length] H Q E:=by
 have hp:0<xs.length:=a5W.mpr h0;refine Q5 hB (by omega) (by omega) fun n H1 n0 n1 B1 k1=>?_
 obtain⟨v,hv,hv2⟩:=a7I (xs:=xs) n0 n1;exact k n v H1 hv (mI hv2) (k1.1 _ _ ha na) B1 k1
theorem c0S{α:Type}(l:List α):l=[]\/∃r a,l=r++[a]:=by
 cases h:l.reverse with
 | nil=>left;simpa using h
 | cons a r=>
  right;refine⟨r.reverse,a,?_⟩;have:=congrArg List.reverse h;simpa using this
theorem a8D{α:Type}{xs:List α}{a:α}:atI (xs++[a]) (-1)=some a:=by
 unfold atI ixN;rw[if_neg (by decide),if_pos (by rw[p5,G6];omega)];have:(-1+((xs++[a]).length:Int)).toNat=xs.length:=by rw[p5,G6];omega
 rw[this];simp
structure b6r(H0 H:Hp)(b c D:Addr)(m:Nat)(as:List Addr)(N:Nt):Prop where
 bag:Bag H b c
 kept:J3 b H0 H
 hD:H D=some (.lst (as.map V.ref))
 nb:D≠b
 nc:D≠c
 len:as.length=N.length
 at_:∀(i:Nat) x l,as[i]? = some x->N[i]? = some l->H x=some (.lst (IL l))/\x≠D/\x≠b
 small:∀l∈N,l.length<=2/\∀t∈l,t<m
theorem b6r.next{c D:Addr}(h:b6r H0 H b c D m as N)(B:Bag H' b c)(k:J3 b H H'):b6r H0 H' b c D m as N:=
 ⟨B,h.kept.trans k,k.1 _ _ h.hD h.nb,h.nb,h.nc,h.len,fun i x l e1 e2=>let⟨q1,q2,q3⟩:=h.at_ i x l e1 e2; ⟨k.1 _ _ q1 q3,q2,q3⟩,h.small⟩
structure b1E(H:Hp)(b D q:Addr)(m:Nat)(l:List Nat):Prop where
 h:H q=some (.lst (IL l))
 nD:q≠D
 nb:q≠b
 len:l.length<=2
 lt:∀t∈l,t<m
theorem b1E.next{D q:Addr}(h:b1E H b D q m l)(k:J3 b H H'):b1E H' b D q m l:=⟨k.1 _ _ h.h h.nb,h.nD,h.nb,h.len,h.lt⟩
theorem W0{α:Type}{xs:List α}{x y:α}(h:(xs++[x])[i]? = some y):(i<xs.length/\xs[i]? = some y)\/(i=xs.length/\y=x):=by
 by_cases hi:i<xs.length
 ·left
  rw[j4 hi]at h;exact⟨hi,h⟩
 ·right
  rw[J9 (by omega)]at h
  have:i - xs.length=0:=by
   have:=(gI h);simp at this;omega
  rw[this]at h;simp at h;exact⟨by omega,h.symm⟩
theorem c0d{a b:Int}:decide (V.int a=V.int b)=decide (a=b):=by
 by_cases h:a=b
 ·subst h;simp
 ·rw[d6w h,d6w (fun z=>h (V.int.inj z))]
theorem d2f{K:Fg}{c:Addr}{E:XK}(hB:Bag H b c)(m0:0<m)(m1:m<=24)
  (k:∀a N H',F8 H' a N->N.length=m->(∀l∈N,l.length<=2/\∀t∈l,t<m)->N[m - 1]? = some []->Bag H' b c->J3 b H H'->Q (.ref a) H'):b7p K [.ref b,.int (m:Int)] H Q E:=by
 refine⟨rfl,?_⟩;unfold d0f
 nofun
 exists F7 (by simp) fun D H1 hD e1 s1=>?_
 obtain⟨nb,nc⟩:=hB.nb hD;have B1:=hB.same s1;exact_mod_cast N7 ?_;specialize a0g (a2B ?_);refine⟨m,rfl,by omega,by omega,?_⟩;rw[t6];refine a0z (fun i σ H2=>∃x3 x4 x5 x6 as N,σ=[some (.ref b),some (.int (m:Int)),some (.ref D),x3,x4,x5,x6]/\b6r H H2 b c D m as N/\N.length=i/\(i=m->N[m - 1]? = some [])) ?_ ?_ ?_
 ·exact⟨_,_,_,_,[],[],rfl,⟨B1,J3.of_same s1,e1,nb,nc,rfl,fun i x l e=>by simp at e,fun l h=>by simp at h⟩,rfl,fun z=>by omega⟩
 ·rintro i _ H2 hi ⟨x3,x4,x5,x6,as,N,rfl,I2,hlen,_⟩
  ext
  rw[Y3]
  nofun
  exists d3B ?_
  obtain⟨r,hr,hrm⟩:∃r:Nat,(if(m:Int) - 1<(i:Int)+1 then (m:Int) - 1 else (i:Int)+1)=(r:Int)/\r<m:=by
   by_cases h:(m:Int) - 1<(i:Int)+1
   ·exact⟨m - 1,by rw[if_pos h];omega,by omega⟩
   ·exact⟨i+1,by rw[if_neg h];omega,by omega⟩
  rw[hr]
  nofun
  refine Q5 I2.bag (by omega) (by omega) fun j H3 j0 j1 B3 k3=>?_
  obtain⟨j,rfl⟩:=a4b j0
  ext
  exists F7 (by simp) fun q H4 hq e4 s4=>?_
  have I3:=I2.next B3 k3;have I4:=I3.next (B3.same s4) (J3.of_same s4)
  have S4:b1E H4 b D q m [r,j]:=⟨e4,(c9 I3.hD hq).symm,(B3.nb hq).1,by simp,fun t ht=>by
   simp only[u6,P5,or_false]at ht;rcases ht with rfl | rfl
   ·exact hrm
   ·omega⟩
  nofun
  exists Q5 I4.bag (by decide) (by decide) fun w H5 w0 w1 B5 k5=>?_
  have I5:=I4.next B5 k5;have S5:=S4.next k5;exact_mod_cast a5f (P:=fun σ H6=>∃q l,σ=[some (.ref b),some (.int (m:Int)),some (.ref D),some (.int (i:Int)),some (.int (r:Int)),some (.ref q),some (.int w)]/\b6r H H6 b c D m as N/\b1E H6 b D q m l/\l.length=2) ?_ ?_
  rotate_left
  ·intro nx hnx
   ext
   refine a3P (fun _=>?_) (fun _=>?_)
   ·ext
    exists C0 S5.h (a5p _ _ _) ?_;refine F7 (by simp) fun q6 H6 hq6 e6 s6=>?_
    exact hnx _ _ ⟨q6,[j,r],rfl,I5.next (B5.same s6) (J3.of_same s6),⟨e6,(c9 I5.hD hq6).symm,(B5.nb hq6).1,by simp,fun t ht=>by
     simp only[u6,P5,or_false]at ht;rcases ht with rfl | rfl
     ·exact S5.lt _ (by simp)
     ·exact S5.lt _ (by simp)⟩,rfl⟩
   ·ext
    exact hnx _ _ ⟨q,[r,j],rfl,I5,S5,rfl⟩
  rintro _ H6 ⟨q,l,rfl,I6,S6,hl6⟩
  obtain⟨l0,l1,rfl⟩:∃l0 l1,l=[l0,l1]:=by
   match l,hl6 with
   | [a,b],_=>exact⟨a,b,rfl⟩
  exact_mod_cast a5f (P:=fun σ H6=>∃q l,σ=[some (.ref b),some (.int (m:Int)),some (.ref D),some (.int (i:Int)),some (.int (r:Int)),some (.ref q),some (.int w)]/\b6r H H6 b c D m as N/\b1E H6 b D q m l/\l.length=2) ?_ ?_
  rotate_left
  ·intro nx hnx
   ext
   refine a3P (fun _=>?_) (fun _=>?_)
   ·ext
    exists C0 S6.h (a5p _ _ _) ?_;refine Q5 I6.bag (by omega) (by omega) fun j2 H7 z0 z1 B7 k7=>?_
    obtain⟨j2,rfl⟩:=a4b z0
    ext
    have I7:=I6.next B7 k7;refine F7 (by simp) fun q8 H8 hq8 e8 s8=>?_
    exact hnx _ _ ⟨q8,[l1,j2],rfl,I7.next (B7.same s8) (J3.of_same s8),⟨e8,(c9 I7.hD hq8).symm,(B7.nb hq8).1,by simp,fun t ht=>by
     simp only[u6,P5,or_false]at ht;rcases ht with rfl | rfl
     ·exact S6.lt _ (by simp)
     ·omega⟩,rfl⟩
   ·ext
    exact hnx _ _ ⟨q,_,rfl,I6,S6,rfl⟩
  clear S6 I6 l0 l1 hl6 S5 I5 S4 I4 I3 B3 k3 B5 k5 s4 e4 hq;rintro _ H6 ⟨q,l,rfl,I6,S6,hl6⟩
  obtain⟨l0,l1,rfl⟩:∃l0 l1,l=[l0,l1]:=by
   match l,hl6 with
   | [a,b],_=>exact⟨a,b,rfl⟩
  exact_mod_cast a5f (P:=fun σ H6=>∃q l,σ=[some (.ref b),some (.int (m:Int)),some (.ref D),some (.int (i:Int)),some (.int (r:Int)),some (.ref q),some (.int w)]/\b6r H H6 b c D m as N/\b1E H6 b D q m l/\(w=7->1<m->l.length=2)) ?_ ?_
  rotate_left
  ·intro nx hnx
   have one:∀H7,H7=H6->((w=7/\1<m)->False)->New (.lst [V.int (r:Int)]) 1 H7 fun v H1=>nx [some (.ref b),some (.int (m:Int)),some (.ref D),some (.int (i:Int)),some (.int (r:Int)),some v,some (.int w)] H1:=by
    rintro _ rfl hw;refine F7 (by simp) fun q8 H8 hq8 e8 s8=>?_
    exact hnx _ _ ⟨q8,[r],rfl,I6.next (I6.bag.same s8) (J3.of_same s8),⟨e8,(c9 I6.hD hq8).symm,(I6.bag.nb hq8).1,by simp,fun t ht=>by rw[v6.mp ht];exact hrm⟩,fun h1 h2=>(hw ⟨h1,h2⟩).elim⟩
   ext
   refine a3P (fun a3=>?_) (fun a3=>?_)
   ·ext
    refine a3P (fun a7=>?_) (fun a7=>?_)
    ·exists A2 rfl ?_
     exact one _ rfl fun⟨z,_⟩=>by have:=of_decide_eq_true a7;omega
    ·ext
     refine a3P (fun a1=>?_) (fun a1=>?_)
     ·ext
      rw[c0d]at a1;exact one _ rfl fun⟨_,z⟩=>by have:=of_decide_eq_true a1;omega
     ·ext
      exact hnx _ _ ⟨q,_,rfl,I6,S6,fun _ _=>rfl⟩
   ·ext
    exists p8 rfl ?_;refine a3P (fun a1=>?_) (fun a1=>?_)
    ·ext
     rw[c0d]at a1;exact one _ rfl fun⟨_,z⟩=>by have:=of_decide_eq_true a1;omega
    ·ext
     exact hnx _ _ ⟨q,_,rfl,I6,S6,fun _ _=>rfl⟩
  clear S6 I6 l0 l1 hl6;rintro _ H6 ⟨q,l,rfl,I6,S6,hl6⟩;exact_mod_cast a5f (P:=fun σ H6=>∃q l,σ=[some (.ref b),some (.int (m:Int)),some (.ref D),some (.int (i:Int)),some (.int (r:Int)),some (.ref q),some (.int w)]/\b6r H H6 b c D m as N/\b1E H6 b D q m l) ?_ ?_
  rotate_left
  ·intro nx hnx
   ext
   refine a3P (fun a7=>?_) (fun a7=>?_)
   ·ext
    refine a3P (fun a1=>?_) (fun a1=>?_)
    ·rw[c0d]at a7
     have a7:=of_decide_eq_true a7;have a1:=of_decide_eq_true a1;have hl:=hl6 a7 (by omega)
     obtain⟨l0,l1,rfl⟩:∃l0 l1,l=[l0,l1]:=by
      match l,hl with
      | [a,b],_=>exact⟨a,b,rfl⟩
     ext
     exists C0 S6.h (a5p _ _ _) ?_;refine F7 (by simp) fun q8 H8 hq8 e8 s8=>?_
     exact hnx _ _ ⟨q8,[l1],rfl,I6.next (I6.bag.same s8) (J3.of_same s8),⟨e8,(c9 I6.hD hq8).symm,(I6.bag.nb hq8).1,by simp,fun t ht=>by rw[v6.mp ht];exact S6.lt _ (by simp)⟩⟩
    ·ext
     exact hnx _ _ ⟨q,_,rfl,I6,S6⟩
   ·exists p8 rfl ?_
    exact hnx _ _ ⟨q,_,rfl,I6,S6⟩
  clear S6 I6 hl6 l;rintro _ H6 ⟨q,l,rfl,I6,S6⟩;exact_mod_cast a5f (P:=fun σ H6=>∃q l,σ=[some (.ref b),some (.int (m:Int)),some (.ref D),some (.int (i:Int)),some (.int (r:Int)),some (.ref q),some (.int w)]/\b6r H H6 b c D m as N/\b1E H6 b D q m l/\(i+1=m->l=[])) ?_ ?_
  rotate_left
  ·intro nx hnx
   have none:∀H7,b6r H H7 b c D m as N->New (.lst []) 0 H7 fun v H1=>nx [some (.ref b),some (.int (m:Int)),some (.ref D),some (.int (i:Int)),some (.int (r:Int)),some v,some (.int w)] H1:=by
    intro H7 I7;refine F7 (by simp) fun q8 H8 hq8 e8 s8=>?_
    exact hnx _ _ ⟨q8,[],rfl,I7.next (I7.bag.same s8) (J3.of_same s8),⟨e8,(c9 I7.hD hq8).symm,(I7.bag.nb hq8).1,by simp,fun t ht=>by simp at ht⟩,fun _=>rfl⟩
   ext
   refine a3P (fun a1=>?_) (fun a1=>?_)
   ·exists A2 rfl ?_
    exact none _ I6
   ·rw[c0d]at a1
    have a1:¬((i:Int)=(m:Int) - 1):=fun z=>a1 (d6x z)
    ext
    refine a3P (fun a6=>?_) (fun a6=>?_)
    ·ext
     exists Q5 I6.bag (by decide) (by decide) fun z H7 z0 z1 B7 k7=>?_
     refine a3P (fun a0=>?_) (fun a0=>?_)
     ·ext
      exact none _ (I6.next B7 k7)
     ·ext
      exact hnx _ _ ⟨q,l,rfl,I6.next B7 k7,S6.next k7,fun z=>by omega⟩
    ·exists p8 rfl ?_
     exact hnx _ _ ⟨q,l,rfl,I6,S6,fun z=>by omega⟩
  clear S6 I6 l;rintro _ H6 ⟨q,l,rfl,I6,S6,hlast⟩
  ext
  specialize a5S ?_;exists ⟨X9 I6.hD,?_⟩;refine W3 I6.hD (G8 (by rw[b9,I6.len];omega)) ?_;have nqc:D≠c:=I6.nc;refine⟨_,_,_,_,as++[q],N++[l],rfl,⟨I6.bag.put I6.nb nqc,I6.kept.put hD,by rw[d8];simp,I6.nb,I6.nc,by simp[I6.len],?_,?_⟩,by simp[hlen],?_⟩
  ·intro i' x' l' e1' e2'
   rcases W0 e1' with ⟨hi1,f1⟩ | ⟨hi1,f1⟩
   ·rcases W0 e2' with ⟨hi2,f2⟩ | ⟨hi2,f2⟩
    ·obtain⟨g1,g2,g3⟩:=I6.at_ i' x' l' f1 f2
     exact⟨by rw[i8 g2];exact g1,g2,g3⟩
    ·have:=I6.len;omega
   ·rcases W0 e2' with ⟨hi2,f2⟩ | ⟨hi2,f2⟩
    ·have:=I6.len;omega
    ·subst f1 f2
     exact⟨by rw[i8 S6.nD];exact S6.h,S6.nD,S6.nb⟩
  ·intro l' hl'
   rcases z8.mp hl' with z | z
   ·exact I6.small l' z
   ·rw[v6.mp z];exact⟨S6.len,S6.lt⟩
  ·intro z
   rw[hlast z];have:m - 1=N.length:=by omega
   rw[this];simp
 ·rintro _ H2 ⟨x3,x4,x5,x6,as,N,rfl,I2,hlen,hlast⟩
  ext
  exact k D N H2 ⟨as,I2.hD,I2.len,fun i x l e1 e2=>(I2.at_ i x l e1 e2).1⟩ hlen I2.small (hlast rfl) I2.bag I2.kept
theorem d0v(xs:List V):a8B xs (some 1) none=xs.drop 1:=by
 cases xs with
 | nil=>rfl
 | cons a r=>rw[c9G];rfl
theorem c9R(l:List Nat)(n:Nat):(IL l).drop n=IL (l.drop n):=by unfold IL;rw[List.map_drop]
theorem b0l(xs:List V):Z1 xs []=decide (xs.length=0):=by
 unfold Z1;rw[show min xs.length ([]:List V).length=0 by simp];simp only[List.range_zero,d4p,Z8,a5O];by_cases h:xs.length=0
 ·rw[h];rfl
 ·rw[d6w h]
  simpa using h
theorem d2E{G:List Nat}(h:(l.map fun t=>decide (t∈G)).any id=true):∃t∈l,t∈G:=by
 obtain⟨x,hx,e⟩:=b5M.mp h;obtain⟨t,ht,rfl⟩:=A8.mp hx;exact⟨t,ht,of_decide_eq_true e⟩
theorem c2H{α:Type}(l:List Nat)(f:Nat->α)(i:Nat)(e:l[i]? = some t):(l.take (i+1)).map f=(l.take i).map f++[f t]:=by
 rw[F3,e];simp
structure a7Q(H0 H:Hp)(d:Addr)(N:Nt)(G:List Nat):Prop where
 same:d9 H0 H
 hd:H d=some (.dK (KS G))
 nd:G.Nodup
 lt:∀k∈G,k<N.length
 gd:∀k∈G,Gd N k
theorem a7Q.next{G:List Nat}(h:a7Q H0 H d N G)(s:d9 H H'):a7Q H0 H' d N G:=⟨h.same.trans s,s _ _ h.hd,h.nd,h.lt,h.gd⟩
theorem a7Q.put{G:List Nat}(h:a7Q H0 H d N G)(n:H0 d=none){k:Nat}(hk:k<N.length)(g:Gd N k):a7Q H0 (upd H d (.dK (KS (a8n G k)))) d N (a8n G k):=
 ⟨fun b o e=>by rw[i8 (c9 e n)];exact h.same b o e,d8,b3K h.nd,fun j hj=>(a2k.mp hj).elim (h.lt j) fun z=>z ▸ hk,fun j hj=>(a2k.mp hj).elim (h.gd j) fun z=>z ▸ g⟩
theorem c9B{K:Fg}{x2 x4 x5 x6:Option V}{G:List Nat}(n0:H0 d=none)(hn:F8 H a N)(hN:N.length<=24)(hl:N[i]? = some l)(hl2:l.length<=2)(hG:a7Q H0 H d N G)
  (k:∀H' G',a7Q H0 H' d N G'->(∀j∈G,j∈G')->(l=[]->i∈G')->F8 H' a N->D.nx [some (.ref a),some (.ref d),x2,some (.int (i:Int)),x4,x5,x6] H') :
  L6 (tOr (C7 (tOp qEq (tOp qIx (b4 0) (b4 3)) (a1z (d7)))) (tB (tCB c1o (a9 (a0f (U2 K (tOp qIx (b4 0) (b4 3))) (a0e) (b7l (b4 0) (b4 2))) (d7))))) (a3Z (b4 1) (b4 3) (tC (.bl true))) (C9) D
   [some (.ref a),some (.ref d),x2,some (.int (i:Int)),x4,x5,x6] H:=by
 have hi:i<N.length:=(gI hl)
 have hGl:G.length<100000:=by
  have:=a3O _ _ hG.nd hG.lt;omega
 have put:∀H1,F8 H1 a N->a7Q H0 H1 d N G->a≠d->(∀x,H1 x=some (.dK (KS G))->True)->Gd N i->a3Z (b4 1) (b4 3) (tC (.bl true)) D [some (.ref a),some (.ref d),x2,some (.int (i:Int)),x4,x5,x6] H1:=by
  intro H1 n1 g1 nad _ gd;specialize a9W ?_;refine⟨d,_,rfl,b8a g1.hd hGl i,?_⟩;refine k _ (a8n G i) (g1.put n0 hi gd) (fun j hj=>a2k.mpr (.inl hj)) (fun _=>a2k.mpr (.inr rfl)) ?_;obtain⟨as,q1,q2,q3⟩:=n1.ex;refine⟨as,by rw[i8 nad];exact q1,q2,fun j x l' e1 e2=>?_⟩;have q:=q3 j x l' e1 e2;rw[i8 (O3 q g1.hd (by intro z;cases z))];exact q
 obtain⟨xs,x,h1,h2,h3,_⟩:=hn.at hl;have nad:a≠d:=O3 h1 hG.hd (by intro z;cases z)
 ext
 exists C0 h1 h2 ?_;refine F7 (by simp) fun p H1 hp e1 s1=>?_
 refine⟨_,b7Y (s1 _ _ h3) e1 (b8t l) rfl,?_⟩;rw[b0l,K9]
 ext
 by_cases hz:l=[]
 ·refine A2 (d6x (by rw[hz];rfl)) ?_
  refine A2 rfl ?_;exact put H1 (hn.same s1) (hG.next s1) nad (fun _ _=>trivial) (.stop (hz ▸ hl))
 exists p8 (d6w fun z=>hz (a7Y.mp z)) ?_;specialize a1u (V3 ?_);refine C0 (s1 _ _ h1) h2 ?_;refine⟨x,rfl,⟨_,SqL.of (s1 _ _ h3)⟩,fun E hE=>?_⟩;have G1:=hG.next s1;refine a0E (xs:=IL l) (fun j ys H2=>ys=(l.take j).map (fun t=>V.bl (decide (t∈G)))/\H2 E=some (.lst ys)/\d9 H1 H2) ⟨by simp,d8,A9 hE⟩ ?_ ?_ ?_ ?_
 ·rintro j ys H2 ⟨_,h,_⟩
  exact h
 ·rintro j ys H2 _ ⟨_,_,s2⟩
  exact SqL.of (s2 _ _ (s1 _ _ h3))
 ·rintro j y ys H2 hy ⟨rfl,hE2,s2⟩ R hR
  have hy:(l.map fun(n:Nat)=>V.int (n:Int))[j]? = some y:=hy;rw[b6]at hy;cases ht:l[j]? with
  | none=>rw[ht]at hy;cases hy
  | some t=>
   rw[ht]at hy;cases hy;have hj:=(gI ht);specialize c5Y ?_;obtain⟨o,g1,g2⟩:=a8Y (s2 _ _ G1.hd) t;refine⟨d,o,rfl,g1,?_⟩;rw[g2];refine hR _ _ hE2 (G8 ?_) ⟨?_,d8,fun b o e=>?_⟩
   ·rw[b9,C5]
    omega
   ·rw[c2H l _ j ht]
   ·rw[i8 (c9 e hE)];exact s2 b o e
 ·rintro ys H2 ⟨rfl,hE2,s2⟩
  rw[K9,J5]at hE2;have he:l.map (fun t=>V.bl (decide (t∈G)))=(l.map fun t=>decide (t∈G)).map V.bl:=by rw[S9];rfl
  rw[he]at hE2
  ext
  exists d3D hE2 ?_;refine a3P (fun c=>?_) (fun c=>?_)
  ·obtain⟨t,t1,t2⟩:=d2E c
   exact put H2 ((hn.same s1).same s2) (G1.next s2) nad (fun _ _=>trivial) (.step hl t1 (hG.gd t t2))
  ·ext
   exact k H2 G (G1.next s2) (fun j hj=>hj) (fun z=>(hz z).elim) ((hn.same s1).same s2)
structure b8r(H0 H:Hp)(d:Addr)(N:Nt)(S:List Nat):Prop where
 same:d9 H0 H
 hd:H d=some (.dK (KS S))
 nd:S.Nodup
 lt:∀k∈S,k<N.length
 rc:∀k∈S,Rc N k
 zero:0∈S
theorem b8r.put{S:List Nat}(h:b8r H0 H d N S)(n:H0 d=none){k:Nat}(hk:k<N.length)(g:Rc N k):b8r H0 (upd H d (.dK (KS (a8n S k)))) d N (a8n S k):=
 ⟨fun b o e=>by rw[i8 (c9 e n)];exact h.same b o e,d8,b3K h.nd,fun j hj=>(a2k.mp hj).elim (h.lt j) fun z=>z ▸ hk,fun j hj=>(a2k.mp hj).elim (h.rc j) fun z=>z ▸ g,a2k.mpr (.inl h.zero)⟩
def b0t(N:Nt)(S:List Nat):Prop:=∀k∈S,∀l,N[k]? = some l->∀t∈l,t∈S
theorem c8t{S:List Nat}{k:Nat}(h:k∈S):a8n S k=S:=by unfold a8n;rw[if_pos h]
theorem F8.dput{ks:List (Key×V)}(h:F8 H a N)(hd:H d=some (.dK ks)):F8 (upd H d o) a N:=by
 obtain⟨as,q1,q2,q3⟩:=h.ex
 exact⟨as,by rw[i8 (O3 q1 hd (by intro z;cases z))];exact q1,q2,fun j x l e1 e2=>by
  have q:=q3 j x l e1 e2;rw[i8 (O3 q hd (by intro z;cases z))];exact q⟩
theorem c6a{K:Fg}{x1 x2 x5 x6:Option V}{S:List Nat}(n0:H0 d=none)(hn:F8 H a N)(hN:N.length<=24)(hl:N[i]? = some l)(hlt:∀t∈l,t<N.length)(hS:b8r H0 H d N S)
  (k:∀H' S' x5,b8r H0 H' d N S'->(∀j∈S,j∈S')->(i∈S->∀t∈l,t∈S')->(b0t N S->S'=S)->F8 H' a N->D.nx [some (.ref a),x1,x2,some (.int (i:Int)),some (.ref d),x5,x6] H') :
  L6 (tB (b7l (b4 3) (b4 4))) (a1R (U2 K (tOp qIx (b4 0) (b4 3))) (t9 5) (a3Z (b4 4) (b4 5) (tC (.bl true)))) (C9) D [some (.ref a),x1,x2,some (.int (i:Int)),some (.ref d),x5,x6] H:=by
 ext
 specialize c5Y ?_;obtain⟨o,g1,g2⟩:=a8Y hS.hd i;refine⟨d,o,rfl,g1,?_⟩;rw[g2]
 ext
 refine a3P (fun c=>?_) (fun c=>?_)
 ·have hi:i∈S:=of_decide_eq_true c
  obtain⟨xs,x,h1,h2,h3,_⟩:=hn.at hl;specialize a0g (V3 ?_);refine C0 h1 h2 ?_;refine⟨x,rfl,⟨_,SqL.of h3⟩,a1v (xs:=IL l) (fun j σ H2=>∃S' x5,σ=[some (.ref a),x1,x2,some (.int (i:Int)),some (.ref d),x5,x6]/\b8r H0 H2 d N S'/\(∀j∈S,j∈S')/\(∀t∈l.take j,t∈S')/\(b0t N S->S'=S)/\F8 H2 a N/\H2 x=some (.lst (IL l))) ?_ ?_ ?_ ?_⟩
  ·exact⟨S,x5,rfl,hS,fun _ h=>h,by simp,fun _=>rfl,hn,h3⟩
  ·rintro j σ H2 _ ⟨_,_,_,_,_,_,_,_,h⟩
   exact SqL.of h
  ·rintro j y _ H2 hy ⟨S',x5,rfl,I2,i1,i2,i3,n2,hx2⟩
   have hy:(l.map fun(n:Nat)=>V.int (n:Int))[j]? = some y:=hy;rw[b6]at hy;cases ht:l[j]? with
   | none=>rw[ht]at hy;cases hy
   | some t=>
    rw[ht]at hy;cases hy;have tm:=mI ht
    ext
    specialize a9W ?_;refine⟨d,_,rfl,b8a I2.hd (by have:=a3O _ _ I2.nd I2.lt;omega) t,?_⟩;refine⟨a8n S' t,_,rfl,I2.put n0 (hlt t tm) (.step (hS.rc i hi) hl tm),fun j hj=>a2k.mpr (.inl (i1 j hj)),fun z hz=>?_,fun hc=>?_,n2.dput I2.hd,?_⟩
    ·rw[F3,ht]at hz
     rcases z8.mp hz with q | q
     ·exact a2k.mpr (.inl (i2 z q))
     ·exact a2k.mpr (.inr (by simpa using q))
    ·rw[i3 hc]
     exact c8t (hc i hi l hl t tm)
    ·rw[i8 (O3 hx2 I2.hd (by intro z;cases z))];exact hx2
  ·rintro _ H2 ⟨S',x5,rfl,I2,i1,i2,i3,n2,hx2⟩
   refine k H2 S' x5 I2 i1 (fun _ t ht=>i2 t ?_) i3 n2;rw[K9,J5];exact ht
 ·ext
  exact k H S x5 hS (fun _ h=>h) (fun h=>(c (d6x h)).elim) (fun _=>rfl) hn
theorem b9K{ms:List Int}{S:List Nat}(h:ms.Perm (S.map fun(n:Nat)=>(n:Int))):∃O:List Nat,O.Perm S/\ms=O.map fun(n:Nat)=>(n:Int):=by
 refine⟨ms.map c3d,?_,?_⟩
 ·have:=h.map c3d
  rw[S9]at this;have e:(c3d ∘ fun(n:Nat)=>(n:Int))=id:=by funext n;simp
  rw[e,c5a]at this;exact this
 ·rw[S9]
  have:∀x∈ms,((fun(n:Nat)=>(n:Int)) ∘ c3d) x=id x:=by
   intro x hx;obtain⟨n,_,rfl⟩:=A8.mp (h.subset hx);simp
  rw[a3v this,c5a]
theorem c0R{O:List Nat}(h:(O.map fun(n:Nat)=>(n:Int)).Pairwise (· <= ·)):O.Pairwise (· <= ·):=by
 rw[List.pairwise_map]at h;exact h.imp fun q=>by omega
theorem c7e(O:List Nat)(t:Nat):(O.map fun(n:Nat)=>(n:Int)).idxOf (t:Int)=O.idxOf t:=by
 induction O with
 | nil=>rfl
 | cons a r ih=>
  rw[D5,d2Q,d2Q];by_cases e:a=t
  ·subst e;simp
  ·have:((a:Int) == (t:Int))=false:=by simp;omega
   have e2:(a == t)=false:=by simpa using e
   rw[this,e2,ih]
theorem M5(h:i<N.length):N[i]? = some N[i]:=by simp
theorem c4k{K:Fg}{E:XK}(hn:F8 H a N)(hp:0<N.length)(hN:N.length<=24)(hs:∀l∈N,l.length<=2/\∀t∈l,t<N.length)(hl:N[N.length - 1]? = some [])
  (k:∀a' N' H',F8 H' a' N'->S0 N'->N'.length<=24->d9 H H'->Q (.ref a') H'):a8Q K [.ref a] H Q E:=by
 refine⟨rfl,?_⟩;unfold b9e
 nofun
 exists c1h fun d H1 hd e1 s1=>?_
 have n1:=hn.same s1;obtain⟨xs0,hx0,lx0⟩:=hn.len;exact_mod_cast a5f (P:=fun σ H2=>∃x2 x3 G,σ=[some (.ref a),some (.ref d),x2,x3,none,none,none]/\a7Q H H2 d N G/\N.length - 1∈G/\F8 H2 a N) ?_ ?_
 rotate_left
 ·intro nx hnx
  specialize a0g (a2B ?_);refine L9 (s1 _ _ hx0) ?_;refine⟨N.length,by rw[lx0],by omega,by omega,?_⟩;rw[t6];refine a0z (fun i σ H2=>∃x2 x3 G,σ=[some (.ref a),some (.ref d),x2,x3,none,none,none]/\a7Q H H2 d N G/\(0<i->N.length - 1∈G)/\F8 H2 a N) ?_ ?_ ?_
  ·exact⟨_,_,[],rfl,⟨s1,e1,by simp,by simp,by simp⟩,by omega,n1⟩
  ·rintro i _ H2 hi ⟨x2,x3,G,rfl,I2,g2,n2⟩
   ext
   obtain⟨xs2,hx2,lx2⟩:=n2.len;specialize a0g (a2B ?_);refine L9 hx2 ?_;refine⟨N.length,by rw[lx2],by omega,by omega,?_⟩;rw[t6];refine a0z (fun j σ H3=>∃x3 G,σ=[some (.ref a),some (.ref d),some (.int (0+(i:Int))),x3,none,none,none]/\a7Q H H3 d N G/\(j=N.length->N.length - 1∈G)/\F8 H3 a N) ?_ ?_ ?_
   ·exact⟨_,G,rfl,I2,by omega,n2⟩
   ·rintro j _ H3 hj ⟨x3,G3,rfl,I3,g3,n3⟩
    exact_mod_cast b1d ?_;rw[Y3 (j:Int)];refine c9B hd n3 hN (M5 hj) (hs _ (J7 _)).1 I3 fun H4 G4 I4 sub4 h4 n4=>?_
    refine⟨_,G4,rfl,I4,fun z=>?_,n4⟩;have e:N.length - 1=j:=by omega
    rw[e]at hl ⊢;refine h4 ?_;rw[M5 hj]at hl;exact Option.some.inj hl
   ·rintro _ H3 ⟨x3,G3,rfl,I3,g3,n3⟩
    exact⟨_,_,G3,rfl,I3,fun _=>g3 rfl,n3⟩
  ·rintro _ H2 ⟨x2,x3,G,rfl,I2,g2,n2⟩
   exact hnx _ _ ⟨x2,x3,G,rfl,I2,g2 hp,n2⟩
 rintro _ H2 ⟨x2,x3,G,rfl,I2,hlast,n2⟩
 nofun
 exact_mod_cast a1u (a2B ?_);obtain⟨xs2,hx2,lx2⟩:=n2.len
 ext
 refine L9 hx2 ?_;refine⟨N.length,by rw[lx2],by omega,by omega,fun A hA=>?_⟩;rw[t6];refine b5r (fun i ys H3=>∃as:List Addr,ys=as.map V.ref/\as.length=i/\(∀(j:Nat) x l,as[j]? = some x->(a6i N G)[j]? = some l->H3 x=some (.lst (IL l))/\x≠A)/\H3 A=some (.lst ys)/\d9 H2 H3) ?_ ?_ ?_ ?_
 ·exact⟨[],rfl,rfl,by simp,d8,A9 hA⟩
 ·rintro i ys H3 ⟨_,_,_,_,h,_⟩
  exact h
 ·rintro i ys H3 hi ⟨as,rfl,la,at3,hA3,s3⟩ R hR
  rw[Y3];obtain⟨ys0,x,f1,f2,f3,f4⟩:=(n2.same s3).at (M5 hi)
  have more:∀q H4,d9 H3 H4->(∀l,(a6i N G)[i]? = some l->H4 q=some (.lst (IL l)))->q≠A->R (.ref q) H4:=by
   intro q H4 s4 hq nq;refine hR _ _ (s4 _ _ hA3) (G8 (by rw[b9];omega)) ⟨as++[q],by simp,by simp[la],?_,d8,fun b o e=>?_⟩
   ·intro j y l' h1 h2
    rcases W0 h1 with ⟨_,g1⟩ | ⟨hj,g1⟩
    ·obtain⟨g2,g3⟩:=at3 j y l' g1 h2
     exact⟨by rw[i8 g3];exact s4 _ _ g2,g3⟩
    ·rw[hj,la]at h2
     subst g1;exact⟨by rw[i8 nq];exact hq l' h2,nq⟩
   ·rw[i8 (c9 e hA)]
    exact s4 _ _ (s3 _ _ e)
  ext
  specialize c5Y ?_;obtain⟨o,g1,g2⟩:=a8Y (s3 _ _ I2.hd) i;refine⟨d,o,rfl,g1,?_⟩;rw[g2]
  ext
  refine a3P (fun c=>?_) (fun c=>?_)
  ·ext
   refine C0 f1 f2 ?_;refine more x H3 (d9.refl _) (fun l hl'=>?_) ?_
   ·rw[b1m (M5 hi) (of_decide_eq_true c)]at hl'
    cases hl';exact f3
   ·refine(c9 (H:=H2) (a:=x) (b:=A) (o:=.lst (IL N[i])) ?_ hA)
    obtain⟨ys1,x',f1',f2',f3',_⟩:=n2.at (M5 hi);have e1:=s3 _ _ f1';rw[f1]at e1;cases e1;rw[f2]at f2';cases f2';exact f3'
  ·ext
   exists L9 f1 ?_;exists F7 (by simp) fun p1 H4 hp1 e4 s4=>?_
   exists C0 (s4 _ _ f1) f2 ?_;refine c6e (s4 _ _ f3) fun p2 H5 hp2 e5 s5=>?_
   rw[d0v,c9R]at e5;have hl2:=(hs _ (J7 (l:=N) (h:=hi))).1;refine b7E (s5 _ _ e4) e5 (F7 (by simp[K9];omega) fun p3 H6 hp3 e6 s6=>?_);refine more p3 H6 ((s4.trans s5).trans s6) (fun l hl'=>?_) ?_
   ·rw[b6L (M5 hi) (fun z=>c (d6x z))]at hl'
    cases hl';rw[e6,f4];have:((N.length:Int) - 1)=((N.length - 1:Nat):Int):=by omega
    rw[this];rfl
   ·exact(c9 ((s4.trans s5) _ _ hA3) hp3).symm
 rintro ys H3 ⟨as,rfl,la,at3,hA3,s3⟩;obtain⟨N2,hN2⟩:∃N2,N2=a6i N G:=⟨_,rfl⟩;have len2:N2.length=N.length:=by rw[hN2,b6M]
 have n3:F8 H3 A N2:=⟨as,hA3,by rw[len2,la],fun i x l h1 h2=>(at3 i x l h1 (hN2 ▸ h2)).1⟩
 have small2:∀l∈N2,l.length<=2/\∀t∈l,t<N2.length:=by
  rw[len2,hN2];exact b9O hp hs hl hlast
 have gd2:∀k,k<N2.length->Gd N2 k:=by
  rw[len2,hN2];exact c9D I2.gd hl hlast
 have s03:d9 H H3:=I2.same.trans s3;clear at3 hN2 la
 ext
 nofun
 intro r hr;refine⟨d8,[(Sum.inl 0,V.bl true)],rfl,by simp,?_⟩
 have e4:(upd (upd H3 r (.dK [])) r (.dK (b0i [] [(Sum.inl 0,V.bl true)])))=upd H3 r (.dK (KS [0])):=by
  rw[b3G];rfl
 rw[e4]
 ext
 obtain⟨H4,hH4⟩:∃H4,H4=upd H3 r (.dK (KS [0])):=⟨_,rfl⟩;rw[<-hH4];have s4:d9 H3 H4:=hH4 ▸ A9 hr;have er:H4 r=some (.dK (KS [0])):=hH4 ▸ d8;have n4:=n3.same s4;clear hH4 e4;have hp2:0<N2.length:=by omega
 exact_mod_cast a5f (P:=fun σ H5=>∃x2 x3 x5 S,σ=[some (.ref A),some (.ref d),x2,x3,some (.ref r),x5,none]/\b8r H3 H5 r N2 S/\b0t N2 S/\F8 H5 A N2) ?_ ?_
 rotate_left
 ·intro nx hnx
  obtain⟨ys4,hy4,ly4⟩:=n4.len;specialize a0g (a2B ?_);refine L9 hy4 ?_;refine⟨N2.length,by rw[ly4],by omega,by omega,?_⟩;rw[t6];refine a0z (fun i σ H5=>∃x2 x3 x5 S,σ=[some (.ref A),some (.ref d),x2,x3,some (.ref r),x5,none]/\b8r H3 H5 r N2 S/\(b0t N2 S\/i+1<=S.length)/\F8 H5 A N2) ?_ ?_ ?_
  ·exact⟨_,_,_,[0],rfl,⟨s4,er,by simp,by simpa using hp2,by simpa using Rc.zero,by simp⟩,.inr (by simp),n4⟩
  ·rintro i _ H5 hi ⟨x2,x3,x5,S,rfl,I5,g5,n5⟩
   ext
   obtain⟨ys5,hy5,ly5⟩:=n5.len;specialize a0g (a2B ?_);refine L9 hy5 ?_;refine⟨N2.length,by rw[ly5],by omega,by omega,?_⟩;rw[t6];refine a0z (fun j σ H6=>∃x3 x5 S',σ=[some (.ref A),some (.ref d),some (.int (0+(i:Int))),x3,some (.ref r),x5,none]/\b8r H3 H6 r N2 S'/\(∀k∈S,k∈S')/\(∀k∈S,k<j->∀l,N2[k]? = some l->∀t∈l,t∈S')/\(b0t N2 S->S'=S)/\F8 H6 A N2) ?_ ?_ ?_
   ·exact⟨_,_,S,rfl,I5,fun _ h=>h,by omega,fun _=>rfl,n5⟩
   ·rintro j _ H6 hj ⟨x3,x5,S',rfl,I6,b1,b2,b3,n6⟩
    exact_mod_cast b1d ?_;rw[Y3 (j:Int)];refine c6a hr n6 (by omega) (M5 hj) (small2 _ (J7 _)).2 I6 fun H7 S7 x5 I7 c1 c2 c3 n7=>?_
    refine⟨_,x5,S7,rfl,I7,fun k hk=>c1 k (b1 k hk),fun k hk hkj l hl' t ht=>?_,fun hc=>?_,n7⟩
    ·by_cases e:k=j
     ·subst e
      rw[M5 hj]at hl';cases hl';exact c2 (b1 k hk) t ht
     ·exact c1 t (b2 k hk (by omega) l hl' t ht)
    ·have:=b3 hc
     rw[this]at c3;exact c3 hc
   ·rintro _ H6 ⟨x3,x5,S',rfl,I6,b1,b2,b3,n6⟩
    refine⟨_,x3,x5,S',rfl,I6,?_,n6⟩;rcases g5 with hc | hc
    ·exact .inl (by rw[b3 hc];exact hc)
    ·by_cases hcl:b0t N2 S
     ·exact .inl (by rw[b3 hcl];exact hcl)
     ·right
      obtain⟨t,t1,t2⟩:∃t,t∈S'/\¬t∈S:=by
       refine Classical.byContradiction fun hno=>hcl fun k hk l hl' t ht=>?_
       refine Classical.byContradiction fun hts=>hno ⟨t,b2 k hk (I5.lt k hk) l hl' t ht,hts⟩
      have:(t::S).length<=S'.length:=by
       have nd:(t::S).Nodup:=a1k.mpr ⟨t2,I5.nd⟩;have sub:∀k∈t::S,k∈S':=fun k hk=>(u6.mp hk).elim (fun z=>z ▸ t1) (b1 k)
       exact c1J _ _ nd sub
      rw[z9]at this;omega
  ·rintro _ H5 ⟨x2,x3,x5,S,rfl,I5,g5,n5⟩
   refine hnx _ _ ⟨x2,x3,x5,S,rfl,I5,g5.elim id fun h=>?_,n5⟩;have:=a3O _ _ I5.nd I5.lt;omega
 rintro _ H5 ⟨y2,y3,y5,S,rfl,I5,hcl,n5⟩;have hSl:=a3O _ _ I5.nd I5.lt
 nofun
 have ek:(KS S).map (fun kv=>kV kv.1)=(S.map fun(n:Nat)=>(n:Int)).map V.int:=by
  unfold KS;rw[S9,S9];rfl
 have ld:a8m [.ref r] H5=fun Q=>∀l,H5 l=none->Q (.ref l) (upd H5 l (.lst ((KS S).map fun kv=>kV kv.1))):=by
  unfold a8m;simp only[I5.hd]
 rw[ld];intro p6 hp6;rw[ek];obtain⟨H6,hH6⟩:∃H6,H6=upd H5 p6 (.lst ((S.map fun(n:Nat)=>(n:Int)).map V.int)):=⟨_,rfl⟩;rw[<-hH6];have s6:d9 H5 H6:=hH6 ▸ A9 hp6;have e6:H6 p6=some (.lst ((S.map fun(n:Nat)=>(n:Int)).map V.int)):=hH6 ▸ d8;clear hH6 ld
 ext
 have so:a8V [.ref p6] H6=fun Q=>∃ns,a5c ((S.map fun(n:Nat)=>(n:Int)).map V.int)=some ns/\ns.length<64/\∀(p:Addr) (ms:List Int),ms.Perm ns->ms.Pairwise (· <= ·)->H6 p=none->Q (.ref p) (upd H6 p (.lst (ms.map V.int))):=by
  unfold a8V;simp only[e6]
 rw[so];refine⟨_,b5l _,by rw[b9];omega,fun p7 ms hperm hsort hp7=>?_⟩;obtain⟨O,hO,rfl⟩:=b9K hperm;have hsO:=c0R hsort;have ndO:O.Nodup:=hO.nodup_iff.mpr I5.nd;have memO:∀k,k∈O↔k∈S:=fun k=>hO.mem_iff
 obtain⟨H7,hH7⟩:∃H7,H7=upd H6 p7 (.lst ((O.map fun(n:Nat)=>(n:Int)).map V.int)):=⟨_,rfl⟩;rw[<-hH7];have s7:d9 H6 H7:=hH7 ▸ A9 hp7;have e7:H7 p7=some (.lst ((O.map fun(n:Nat)=>(n:Int)).map V.int)):=hH7 ▸ d8;clear hH7 so;have hOl:O.length<=24:=by rw[hO.length_eq];omega
 ext
 have n7:=(n5.same s6).same s7;have s07:d9 H H7:=((s03.trans I5.same).trans s6).trans s7
 have valid:S0 (a9K N2 O):=c3r ((memO 0).mpr I5.zero) hsO ndO (fun k hk=>I5.lt k ((memO k).mp hk)) (by omega) (fun k hk l hl' t ht=>(memO t).mpr (hcl k ((memO k).mp hk) l hl' t ht)) (fun k hk=>I5.rc k ((memO k).mp hk))
  (fun l hl'=>(small2 l hl').1) gd2
 specialize a1u (V3 ?_);refine⟨p7,rfl,⟨_,SqL.of e7⟩,fun B hB=>?_⟩;refine a0E (xs:=(O.map fun(n:Nat)=>(n:Int)).map V.int) (fun i ys H8=>∃bs:List Addr,ys=bs.map V.ref/\bs.length=i/\(∀(j:Nat) x l,bs[j]? = some x->(a9K N2 O)[j]? = some l->H8 x=some (.lst (IL l))/\x≠B)/\H8 B=some (.lst ys)/\d9 H7 H8) ?_ ?_ ?_ ?_ ?_
 ·exact⟨[],rfl,rfl,by simp,d8,A9 hB⟩
 ·rintro i ys H8 ⟨_,_,_,_,h,_⟩
  exact h
 ·rintro i ys H8 _ ⟨_,_,_,_,_,s8⟩
  exact SqL.of (s8 _ _ e7)
 ·rintro i x ys H8 hx ⟨bs,rfl,lb,at8,hB8,s8⟩ R hR
  rw[b6,b6]at hx;cases ho:O[i]? with
  | none=>rw[ho]at hx;cases hx
  | some kk=>
   rw[ho]at hx;cases hx;have hko:=mI ho;have hks:=(memO kk).mp hko;have hkl:=I5.lt kk hks;obtain⟨ys8,x8,f1,f2,f3,_⟩:=(n7.same s8).at (M5 hkl);obtain⟨l8,hl8⟩:∃l8,l8=N2[kk]:=⟨_,rfl⟩;rw[<-hl8]at f3;have hN8:N2[kk]? = some l8:=by rw[hl8];exact M5 hkl
   specialize a1u (V3 ?_);refine C0 f1 f2 ?_;refine⟨x8,rfl,⟨_,SqL.of f3⟩,fun C hC=>?_⟩;refine a0E (xs:=IL l8) (fun j zs H9=>zs=IL ((l8.take j).map fun t=>O.idxOf t)/\H9 C=some (.lst zs)/\d9 H8 H9) ⟨rfl,d8,A9 hC⟩ ?_ ?_ ?_ ?_
   ·rintro j zs H9 ⟨_,h,_⟩
    exact h
   ·rintro j zs H9 _ ⟨_,_,s9⟩
    exact SqL.of (s9 _ _ f3)
   ·rintro j y zs H9 hy ⟨rfl,hC9,s9⟩ R' hR'
    have hy:(l8.map fun(n:Nat)=>V.int (n:Int))[j]? = some y:=hy;rw[b6]at hy;cases ht:l8[j]? with
    | none=>rw[ht]at hy;cases hy
    | some t=>
     rw[ht]at hy;cases hy;have htO:t∈O:=(memO t).mpr (hcl kk hks l8 hN8 t (mI ht));specialize a5S ?_;have e9:H9 p7=_:=s9 _ _ (s8 _ _ e7);exists ⟨X9 e9,?_⟩
     have ix:b2o (.ref p7) [.int (t:Int)] H9=fun Q=>∃ns,a5c ((O.map fun(n:Nat)=>(n:Int)).map V.int)=some ns/\ns.length<10000/\(t:Int)∈ns/\Q (.int (ns.idxOf (t:Int):Nat)) H9:=by
      unfold b2o;simp only[e9]
     rw[ix];refine⟨_,b5l _,by rw[b9];omega,A8.mpr ⟨t,htO,rfl⟩,?_⟩;rw[c7e];have hl2:=(small2 l8 (mI hN8)).1;refine hR' _ _ hC9 (G8 ?_) ⟨?_,d8,fun b o e=>?_⟩
     ·rw[K9,b9,C5];omega
     ·unfold IL
      rw[c2H l8 (fun t=>O.idxOf t) j ht];simp
     ·rw[i8 (c9 e hC)];exact s9 _ _ e
   ·rintro zs H9 ⟨rfl,hC9,s9⟩
    rw[K9,J5]at hC9;refine hR _ _ (s9 _ _ hB8) (G8 (by rw[b9];have:=(gI ho);omega)) ⟨bs++[C],by simp,by simp[lb],?_,d8,fun b o e=>?_⟩
    ·have nCB:C≠B:=(c9 hB8 hC).symm
     intro j y l' h1 h2;rcases W0 h1 with ⟨_,g1⟩ | ⟨hj,g1⟩
     ·obtain⟨g2,g3⟩:=at8 j y l' g1 h2
      exact⟨by rw[i8 g3];exact s9 _ _ g2,g3⟩
     ·rw[hj,lb]at h2
      subst g1;refine⟨?_,nCB⟩;rw[i8 nCB,hC9]
      have h2':(a9K N2 O)[i]? = some (l8.map fun t=>O.idxOf t):=by
       unfold a9K;rw[b6,ho];simp[D6,hN8]
      rw[h2']at h2;cases h2;rfl
    ·rw[i8 (c9 e hB)]
     exact s9 _ _ (s8 _ _ e)
 ·rintro ys H8 ⟨bs,rfl,lb,at8,hB8,s8⟩
  rw[b9,b9]at lb;have hlen:(a9K N2 O).length=O.length:=by simp[a9K]
  exact k B (a9K N2 O) H8 ⟨bs,hB8,by rw[lb,hlen],fun i x l h1 h2=>(at8 i x l h1 h2).1⟩ valid (by rw[hlen];exact hOl) (s07.trans s8)
structure a0b(H:Hp)(a:Addr)(N:Nt):Prop where
 ex:∃rs:List Addr,H a=some (.lst (rs.map V.ref))/\rs.length=N.length/\∀(i:Nat) x l,rs[i]? = some x->N[i]? = some l->b5D H (.ref x) (l.length == 2)
theorem a0b.same(h:a0b H a N)(k:d9 H H'):a0b H' a N:=by
 obtain⟨rs,h1,h2,h3⟩:=h.ex;exact⟨rs,k a _ h1,h2,fun i x l e1 e2=>(h3 i x l e1 e2).ts (d9.ts k)⟩
theorem a0b.kept{c:Addr}(h:a0b H a N)(hB:Bag H b c)(k:J3 b H H'):a0b H' a N:=by
 obtain⟨rs,h1,h2,h3⟩:=h.ex;exact⟨rs,k.1 a _ h1 (Y9 hB h1),h2,fun i x l e1 e2=>(h3 i x l e1 e2).ts (J3.ts k hB)⟩
theorem c6T:∀s∈(["k0","set","ask","k1","a","copy"]:List Str),NmS s:=by
 intro s hs;simp only[u6,P5,or_false]at hs;rcases hs with rfl | rfl | rfl | rfl | rfl | rfl <;> exact⟨by decide +kernel,by decide +kernel⟩
theorem d4F:∀i,i<26->∀c,(("abcdefghijklmnopqrstuvwxyz0123456789" : Str).cps.toList)[i]? = some c->c∈LET.cps.toList:=by decide +kernel
theorem d4v:∀c∈("abcdefghijklmnopqrstuvwxyz0123456789" : Str).cps.toList,c∈SGN.cps.toList:=by decide +kernel
theorem c9o{K:Fg}{c:Addr}{E:XK}(hB:Bag H b c)(k:∀s H',NmS s->Bag H' b c->J3 b H H'->Q (.str s) H'):b3J K [.ref b,.int (n:Int)] H Q E:=by
 refine⟨rfl,?_⟩;unfold c5F
 nofun
 exists Q5 hB (by decide) (by decide) fun n1 H1 a0 a1 B1 k1=>?_
 refine a3P (fun _=>?_) (fun _=>?_)
 ·ext
  exists F7 (by simp) fun p G hp e s=>?_
  refine Q5 (B1.same s) (by decide) (by decide) fun n2 H2 b0 b1 B2 k2=>?_
  have hp2:=k2.1 p _ e (B1.nb hp).1;obtain⟨v,hv,hv2⟩:=a7I (xs:=(["k0","set","ask","k1","a","copy"]:List Str).map V.str) b0 (by simpa using b1);refine C0 hp2 hv ?_;obtain⟨t,ht,rfl⟩:=A8.mp (mI hv2);exact k _ _ (c6T t ht) B2 (k1.trans ((J3.of_same s).trans k2))
 ext
 nofun
 exists Q5 B1 (by decide) (by decide) fun n2 H2 b0 b1 B2 k2=>?_
 have k02:=k1.trans k2;exists ⟨.inl ⟨by omega,by omega⟩,?_⟩;exists ⟨(show(0:Int)<2 by decide),?_⟩;obtain⟨m,hm⟩:∃m:Nat,n2 * 2+(n:Int) % 2=(m:Int):=⟨(n2 * 2+(n:Int) % 2).toNat,by omega⟩;have hm7:m<=7:=by omega
 rw[hm]
 nofun
 refine Q5 B2 (by decide) (by decide) fun n3 H3 c0 c1 B3 k3=>?_
 have k03:=k02.trans k3;have l36:(("abcdefghijklmnopqrstuvwxyz0123456789" : Str).cps.toList).length=36:=by decide +kernel
 obtain⟨ch,hc,hc2⟩:=a7I (xs:=("abcdefghijklmnopqrstuvwxyz0123456789" : Str).cps.toList) c0 (by omega);exists c6f (small (by decide +kernel)) hc ?_;specialize a1u (a2B ?_);refine⟨(m:Int),rfl,by omega,by omega,fun D hD=>?_⟩;rw[t6];obtain⟨nb,nc⟩:=B3.nb hD;refine b5r (fun i ys H4=>∃cs:List Nat,ys=cs.map (fun k=>V.str (⟨#[k]⟩:Str))/\cs.length=i/\(∀c∈cs,c∈SGN.cps.toList)/\H4 D=some (.lst ys)/\Bag H4 b c/\J3 b H3 H4) ?_ ?_ ?_ ?_
 ·exact⟨[],rfl,rfl,by simp,d8,B3.new hD,J3.new hD⟩
 ·rintro i ys H4 ⟨_,_,_,_,h,_⟩
  exact h
 ·rintro i ys H4 hi ⟨cs,rfl,rfl,h1,hd,B4,k4⟩ R hR
  ext
  refine Q5 B4 (by decide) (by decide) fun j H5 j0 j1 B5 k5=>?_
  obtain⟨cj,hcj,hcj2⟩:=a7I (xs:=("abcdefghijklmnopqrstuvwxyz0123456789" : Str).cps.toList) j0 (by omega);refine c6f (small (by decide +kernel)) hcj ?_;refine hR _ _ (k5.1 _ _ hd nb) (G8 (by rw[b9];omega)) ⟨cs++[cj],by simp,by simp,?_,d8,B5.put nb nc,(k4.trans k5).put hD⟩;intro s hs;rcases z8.mp hs with q | q
  ·exact h1 s q
  ·rw[v6.mp q]
   exact d4v _ (mI hcj2)
 ·rintro ys H4 ⟨cs,rfl,hn,h1,hd,B4,k4⟩
  ext
  have he:cs.map (fun k=>V.str (⟨#[k]⟩:Str))=(cs.map fun k=>(⟨#[k]⟩:Str)).map V.str:=by rw[S9];rfl
  rw[he]at hd
  have hsum:((cs.map fun k=>(⟨#[k]⟩:Str)).map (·.length)).sum=cs.length:=by
   clear hn hd he h1;induction cs with
   | nil=>rfl
   | cons s r ih=>
    rw[D5,D5,List.sum_cons,ih,z9];show 1+_=_;omega
  refine d1g hd (c0Q _) ?_ ?_
  ·rw[hsum,b9]
   show cs.length+cs.length * 0<=_;omega
  ·have hj:Txt.join (Str.ofString "") (cs.map fun k=>(⟨#[k]⟩:Str))=⟨cs.toArray⟩:=c1S cs
   rw[hj];have hN:=d3X (d4F n3.toNat (by omega) ch hc2) h1 (by omega);refine c6h (small ?_) ?_
   ·have:=hN.2
    rw[Str.length_append]at this;omega
   ·exact k _ _ hN B4 (k03.trans k4)
def SS(ss:List Str):List (Key×V):=ss.map fun s=>(Sum.inr s,V.bl true)
def b6c(ss:List Str)(s:Str):List Str:=if(ss.any fun t=>decide (t=s))=true then ss else ss++[s]
theorem d2I(ss:List Str)(s:Str):a1Z (SS ss) (Sum.inr s) (V.bl true)=SS (b6c ss s):=by
 have e:((SS ss).any fun kv=>decide (kv.1=Sum.inr s))=ss.any fun t=>decide (t=s):=by
  unfold SS;rw[c3b];congr 1;funext t;show decide ((Sum.inr t:Key)=Sum.inr s)=decide (t=s);by_cases h:t=s
  ·subst h;simp
  ·rw[d6w h,d6w fun z=>h (Sum.inr.inj z)]
 unfold a1Z b6c;rw[e];split
 ·unfold SS
  rw[S9];apply a3v;intro t _;show(if(Sum.inr t:Key)=Sum.inr s then ((Sum.inr t:Key),V.bl true)else (Sum.inr t,V.bl true))=_;split <;> rfl
 ·unfold SS
  rw[u4];rfl
theorem c6U{ss:List Str}{s t:Str}(h:t∈b6c ss s):t∈ss\/t=s:=by
 unfold b6c at h;split at h
 ·exact .inl h
 ·exact(z8.mp h).imp id v6.mp
theorem c6X(ss:List Str)(s:Str):ss.length<=(b6c ss s).length/\(b6c ss s).length<=ss.length+1:=by
 unfold b6c;split
 ·omega
 ·simp
theorem c9n(ss:List Str)(s:Str):b6c ss s≠[]:=by
 unfold b6c;split
 ·rename_i h
  intro z;rw[z]at h;cases h
 ·simp
theorem c6Q{K:Fg}{c:Addr}{E:XK}(hB:Bag H b c)(k:∀a H',a6t H' a->Bag H' b c->J3 b H H'->H a=none->Q (.ref a) H'):b0U K [.ref b] H Q E:=by
 refine⟨rfl,?_⟩;unfold c2u
 nofun
 refine c1h fun d H1 hd e1 s1=>?_
 obtain⟨nb,nc⟩:=hB.nb hd
 ext
 exact_mod_cast N7 ?_;specialize a0g (a2B ?_);exists Q5 (hB.same s1) (by decide) (by decide) fun n2 H2 b0 b1 B2 k2=>?_
 refine⟨3+n2,rfl,by omega,by omega,?_⟩;refine a0z (fun i σ H3=>∃y2 ss,σ=[some (.ref b),some (.ref d),y2]/\H3 d=some (.dK (SS ss))/\ss.length<=i/\(0<i->ss≠[])/\(∀s∈ss,NmS s)/\Bag H3 b c/\J3 b H H3) ⟨_,[],rfl,k2.1 _ _ e1 nb,by simp,by simp,(fun s hs=>by cases hs),B2,(J3.of_same s1).trans k2⟩ ?_ ?_
 ·rintro i _ H3 hi ⟨y2,ss,rfl,e3,l3,n3,m3,B3,k3⟩
  rw[Y3]
  ext
  specialize a9W ?_;refine c9o B3 fun s H4 hs B4 k4=>?_
  have e4:=k4.1 _ _ e3 nb;refine⟨d,_,rfl,b5E.k (k:=Sum.inr s) e4 (G8 (by unfold SS;rw[b9];omega)),?_⟩;have l4:=c6X ss s;exact⟨_,b6c ss s,rfl,by rw[d8,d2I],by omega,fun _=>c9n ss s,fun t ht=>(c6U ht).elim (m3 t) fun z=>z ▸ hs,B4.put nb nc,(k3.trans k4).put hd⟩
 ·rintro _ H3 ⟨y2,ss,rfl,e3,l3,n3,m3,B3,k3⟩
  ext
  unfold a8m;simp only[e3];intro l hl;have el:(SS ss).map (fun kv=>kV kv.1)=ss.map V.str:=by unfold SS;rw[S9];rfl
  rw[el];have s4:d9 H3 (upd H3 l (.lst (ss.map V.str))):=A9 hl;exact k l _ ⟨ss,d8,n3 (by omega),by omega,m3⟩ (B3.same s4) (k3.trans (J3.of_same s4)) (k3.none hl)
theorem a5L{K:Fg}{c:Addr}{E:XK}(hB:Bag H b c)(hN:a6t H a)(k:∀v H',OpN v->Bag H' b c->J3 b H H'->Q v H'):a2f K [.ref b,.ref a] H Q E:=by
 refine⟨rfl,?_⟩;unfold b6z
 nofun
 exists Q5 hB (by decide) (by decide) fun n1 H1 a0 a1 B1 k1=>?_
 refine a3P (fun _=>?_) (fun _=>?_)
 ·ext
  obtain⟨N1,ne⟩:=hN.kept hB k1;obtain⟨ss,h1,h2,h3,h4⟩:=N1.ex;exists L9 h1 ?_;have hl:0<ss.length:=a5W.mpr h2;refine Q5 B1 (by rw[b9];omega) (by rw[b9];omega) fun n2 H2 b0 b1 B2 k2=>?_
  obtain⟨v,hv,hv2⟩:=a7I (xs:=ss.map V.str) b0 b1;obtain⟨s,hs,rfl⟩:=A8.mp (mI hv2);exact C0 (k2.1 _ _ h1 ne) hv (k _ _ (.inl ⟨s,rfl,h4 s hs⟩) B2 (k1.trans k2))
 ext
 nofun
 exists Q5 B1 (by decide) (by decide) fun n2 H2 b0 b1 B2 k2=>?_
 have k02:=k1.trans k2
 nofun
 refine a3P (fun _=>?_) (fun _=>?_)
 ·ext
  exact k _ _ (.inr ⟨n2,rfl,by omega,by omega⟩) B2 k02
 ext
 nofun
 refine a3P (fun _=>?_) (fun _=>?_)
 ·ext
  exact k _ _ (.inr ⟨_,rfl,by decide,by decide⟩) B2 k02
 ext
 refine Q5 B2 (by decide) (by decide) fun n3 H3 c0 c1 B3 k3=>?_
 exact k _ _ (.inr ⟨n3,rfl,by omega,by omega⟩) B3 (k02.trans k3)
theorem c2N{K:Fg}{c:Addr}{E:XK}(hB:Bag H b c)(hN:a6t H a)(k:∀p H',a8F H' p->H p=none->Bag H' b c->J3 b H H'->Q (.ref p) H'):b0V K [.ref b,.ref a] H Q E:=by
 refine⟨rfl,?_⟩;unfold c5I
 nofun
 exists F7 (by decide) fun p G hp e s=>?_
 refine Q5 (hB.same s) (by decide) (by decide) fun n1 H1 a0 a1 B1 k1=>?_
 have hp1:=k1.1 p _ e (hB.nb hp).1;have k01:J3 b H H1:=(J3.of_same s).trans k1;obtain⟨v,hv,hv2⟩:=a7I (xs:=([.str "plus",.str "minus",.str "times",.str "less",.str "same"]:List V)) a0 (by simpa using a1);refine C0 hp1 hv ?_
 have:∃kd:Str,v=.str kd/\kd∈(["plus","minus","times","less","same"]:List Str):=by
  have m:=mI hv2;simp only[u6,P5,or_false]at m;rcases m with rfl | rfl | rfl | rfl | rfl <;> exact⟨_,rfl,by simp⟩
 obtain⟨kd,rfl,hkd⟩:=this
 ext
 obtain⟨N1,_⟩:=hN.kept hB k01;exists a5L B1 N1 fun v1 H2 o1 B2 k2=>?_
 obtain⟨N2,_⟩:=N1.kept B1 k2;exists a5L B2 N2 fun v2 H3 o2 B3 k3=>?_
 refine F7 (by simp) fun q G hq e s=>?_
 exact k q _ ⟨kd,v1,v2,e,o1,o2,hkd⟩ (k01.none (k2.none (k3.none hq))) (B3.same s) (((k01.trans k2).trans k3).trans (J3.of_same s))
theorem d1c{K:Fg}{c:Addr}{E:XK}(hB:Bag H b c)(hN:a6t H a)(hP:b1G H p)(k:∀v H',b5D H' v false->Bag H' b c->J3 b H H'->Q v H'):b7o K [.ref b,.ref a,.ref p] H Q E:=by
 refine⟨rfl,?_⟩;unfold d0e
 nofun
 exists Q5 hB (by decide) (by decide) fun w H1 w0 w1 B1 k1=>?_
 nofun
 obtain⟨N1,na⟩:=hN.kept hB k1;have P1:=hP.kept hB k1;obtain⟨ss,s1,s2,s3,s4⟩:=N1.ex;exists L9 s1 ?_;refine c2B B1 s1 na (by simpa using s2) (by rw[b9];omega) fun n v H2 e1 e2 a2 B2 k2=>?_
 refine C0 a2 e1 ?_;obtain⟨s,hs,rfl⟩:=A8.mp e2;have ns:=s4 s hs
 ext
 obtain⟨N2,_⟩:=N1.kept B1 k2;have P2:=P1.kept B1 k2;have k02:=k1.trans k2
 nofun
 refine a3P (fun _=>?_) (fun _=>?_)
 ·obtain⟨ps,p1,p2,p3,p4⟩:=P2.ex
  ext
  exists L9 p1 ?_;refine c2B B2 p1 (Y9 B2 p1) (by simpa using p2) (by rw[b9];omega) fun n v H3 f1 f2 a3 B3 k3=>?_
  refine C0 a3 f1 ?_;obtain⟨d,hd,rfl⟩:=A8.mp f2;have hd3:=(p4 d hd).ts (J3.ts k3 B2)
  ext
  refine F7 (by simp) fun q G hq e s=>?_
  exact k _ _ ⟨q,_,rfl,e,.set _ d ns (hd3.ts (d9.ts s)),_,_,rfl,by decide⟩ (B3.same s) ((k02.trans k3).trans (J3.of_same s))
 ext
 nofun
 refine a3P (fun _=>?_) (fun _=>?_)
 ·ext
  exists a5L B2 N2 fun v H3 o1 B3 k3=>?_
  refine F7 (by simp) fun q G hq e s=>?_
  exact k _ _ ⟨q,_,rfl,e,.copy _ v ns o1,_,_,rfl,by decide⟩ (B3.same s) ((k02.trans k3).trans (J3.of_same s))
 ext
 nofun
 refine a3P (fun _=>?_) (fun _=>?_)
 ·ext
  refine F7 (by simp) fun q G hq e s=>?_
  exact k _ _ ⟨q,_,rfl,e,.take _ ns,_,_,rfl,by decide⟩ (B2.same s) (k02.trans (J3.of_same s))
 ext
 exists a5L B2 N2 fun v H3 o1 B3 k3=>?_
 exists F7 (by simp) fun q1 G1 hq1 e1 s1=>?_
 exists F7 (by simp) fun q2 G2 hq2 e2 s2=>?_
 exists F7 (by simp) fun q3 G3 hq3 e3 s3=>?_
 have B1':=B3.same s1;have B2':=B1'.same s2;refine Q5 (B2'.same s3) (by decide) (by decide) fun j H4 j0 j1 B4 k4=>?_
 obtain⟨x,hx,hx2⟩:=a7I (xs:=[V.ref q1,V.ref q2]) j0 (by simpa using j1);refine C0 (k4.1 _ _ e3 (B2'.nb hq3).1) hx ?_;have kk:J3 b H H4:=((k02.trans k3).trans (J3.of_same ((s1.trans s2).trans s3))).trans k4;have f1:H4 q1=_:=k4.1 _ _ (s3 _ _ (s2 _ _ e1)) (B3.nb hq1).1;have f2:H4 q2=_:=k4.1 _ _ (s3 _ _ e2) (B1'.nb hq2).1;have m:=mI hx2;simp only[u6,P5,or_false]at m;rcases m with rfl | rfl
 ·exact k _ _ ⟨q1,_,rfl,f1,.tell v o1,_,_,rfl,by decide⟩ B4 kk
 ·exact k _ _ ⟨q2,_,rfl,f2,.skip,_,_,rfl,by decide⟩ B4 kk
theorem d4f(ss:List Str):a8B (ss.map V.str) none (some 2)=(ss.take 2).map V.str:=by
 unfold a8B;have e1:HT.sIx (ss.map V.str).length 0 none=0:=rfl
 have e2:HT.sIx (ss.map V.str).length (ss.map V.str).length (some 2)=min 2 ss.length:=by
  rw[b9];show(if(2:Int)<0 then ((2:Int)+(ss.length:Int)).toNat else min (2:Int).toNat ss.length)=min 2 ss.length;rw[if_neg (by decide)];rfl
 rw[e1,e2,d2Z,Nat.sub_zero];by_cases h:2<=ss.length
 ·rw[Nat.min_eq_left h,List.map_take]
 ·rw[Nat.min_eq_right (by omega),a0I (by rw[b9];omega),a0I (by omega)]
theorem a6t.two{H:Hp}{a q:Addr}{ss:List Str}(h1:H' q=some (.lst ((ss.take 2).map V.str)))(h2:ss≠[])(h3:ss.length<=8)(h4:∀s∈ss,NmS s):a6t H' q:=by
 have:=a5W.mpr h2
 exact⟨ss.take 2,h1,by
  intro z;have:=congrArg b6t z;rw[C5,a5O]at this;omega,by rw[C5];omega,fun s hs=>h4 s (c4Z hs)⟩
theorem c8F{K:Fg}{c:Addr}{E:XK}(hB:Bag H b c)
  (k:∀p ra na da N H',H' p=some (.tup [.ref ra,.ref na,.ref da])->a0b H' ra N->F8 H' na N->b1G H' da->S0 N->N.length<=24->ra≠da->na≠da->Bag H' b c->J3 b H H'->Q (.ref p) H'):b3I K [.ref b] H Q E:=by
 refine⟨rfl,?_⟩;unfold c5E
 nofun
 exists Q5 hB (by decide) (by decide) fun n0 H0 a0 a1 B0 k0=>?_
 obtain⟨lg,hlg⟩:∃lg:Bool,lg=decide (V.int n0=V.int 0):=⟨_,rfl⟩;rw[<-hlg]
 nofun
 refine Q5 B0 (by decide) (by decide) fun n1 H1 b0 b1 B1 k1=>?_
 obtain⟨n1,rfl⟩:=a4b b0
 ext
 have k01:=k0.trans k1;exact_mod_cast a5f (P:=fun σ H2=>∃m:Nat,σ=[some (.ref b),some (.bl lg),some (.int (m:Int)),none,none,none,none,none,none]/\0<m/\m<=24/\Bag H2 b c/\J3 b H H2) ?_ ?_
 rotate_left
 ·intro nx hnx
  ext
  refine a3P (fun _=>?_) (fun _=>?_)
  ·ext
   refine Q5 B1 (by decide) (by decide) fun n2 H2 c0 c1 B2 k2=>?_
   obtain⟨n2,rfl⟩:=a4b c0
   ext
   exact hnx _ _ ⟨15+n2,rfl,by omega,by omega,B2,k01.trans k2⟩
  ·ext
   exact hnx _ _ ⟨1+n1,rfl,by omega,by omega,B1,k01⟩
 rintro _ H2 ⟨m,rfl,m0,m1,B2,k2⟩
 nofun
 exists d2f B2 m0 m1 fun a N0 H3 n3 l3 s3 z3 B3 k3=>?_
 exists c4k n3 (by omega) (by omega) (by rw[l3];exact s3) (by rw[l3];exact z3) fun na N H4 n4 v4 lN s4=>?_
 have B4:=B3.same s4;have k4:J3 b H H4:=(k2.trans k3).trans (J3.of_same s4)
 nofun
 exists c6Q B4 fun sa H5 N5 B5 k5 hsa=>?_
 have k05:=k4.trans k5;have n5:=n4.kept B4 v4.two k5;obtain⟨ss,t1,t2,t3,t4⟩:=id N5.ex
 nofun
 exists F7 (by simp) fun D H6 hD e6 s6=>?_
 obtain⟨nb,nc⟩:=B5.nb hD;have nsD:sa≠D:=c9 t1 hD;obtain⟨as5,q5,_,_⟩:=id n5.ex;have nnaD:na≠D:=c9 q5 hD;have hD0:H D=none:=k05.none hD;exact_mod_cast N7 ?_;specialize a0g (a2B ?_);exists Q5 (B5.same s6) (by decide) (by decide) fun n6 H6' d0 d1 B6' k6'=>?_
 refine⟨1+n6,rfl,by omega,by omega,?_⟩;refine a0z (fun i σ H7=>∃y6 ps,σ=[some (.ref b),some (.bl lg),some (.int (m:Int)),some (.ref na),some (.ref sa),some (.ref D),y6,none,none]/\(ps:List Addr).length=i/\(∀p∈ps,a8F H7 p)/\H7 D=some (.lst (ps.map V.ref))/\Bag H7 b c/\J3 b H5 H7) ⟨_,[],rfl,rfl,(fun p hp=>by cases hp),k6'.1 _ _ e6 nb,B6',(J3.of_same s6).trans k6'⟩ ?_ ?_
 ·rintro i _ H7 hi ⟨y6,ps,rfl,lp,hp,hD7,B7,k7⟩
  rw[Y3]
  ext
  specialize a5S ?_;exists ⟨X9 hD7,?_⟩;have t7:H7 sa=some (.lst (ss.map V.str)):=k7.1 _ _ t1 (N5.kept B5 (J3.refl _ _)).2;refine c6e t7 fun q H8 hq e8 s8=>?_
  rw[d4f]at e8
  ext
  exists c2N (B7.same s8) (a6t.two (H:=H8) (a:=sa) e8 t2 t3 t4) fun p H9 hd9 _ B9 k9=>?_
  have hD9:=k9.1 _ _ (s8 _ _ hD7) nb;refine W3 hD9 (G8 (by rw[b9];omega)) ?_;refine⟨_,ps++[p],rfl,by simp[lp],fun q' hq'=>?_,by rw[d8];simp,B9.put nb nc,((k7.trans (J3.of_same s8)).trans k9).put hD⟩;rcases z8.mp hq' with z | z
  ·exact(((hp q' z).ts (d9.ts s8)).ts (J3.ts k9 (B7.same s8))).ts (F5.put hD9)
  ·rw[v6.mp z];exact hd9.ts (F5.put hD9)
 rintro _ H9 ⟨y6,ps,rfl,lp,hp,hD9,B9,k9⟩;have P9:b1G H9 D:=⟨ps,hD9,by intro z;subst z;simp at lp;omega,by omega,hp⟩;have n9:=n5.kept B5 v4.two k9;obtain⟨N9,nsb⟩:=N5.kept B5 k9;have k09:J3 b H H9:=k05.trans k9
 nofun
 exists F7 (by simp) fun R' H10 hR' e10 s10=>?_
 have B10:=B9.same s10;obtain⟨rb,rc⟩:=B9.nb hR';have nRD:R'≠D:=(c9 hD9 hR').symm;exact_mod_cast N7 ?_;specialize a0g (V3 ?_);obtain⟨as,q1,q2,q3⟩:=id n9.ex;refine⟨na,rfl,⟨_,SqL.of (s10 _ _ q1)⟩,a1v (xs:=as.map V.ref) (fun i σ H11=>∃y8 rs,σ=[some (.ref b),some (.bl lg),some (.int (m:Int)),some (.ref na),some (.ref sa),some (.ref D),y6,some (.ref R'),y8]/\(rs:List Addr).length=i/\(∀(j:Nat) x l,rs[j]? = some x->N[j]? = some l->b5D H11 (.ref x) (l.length == 2))/\H11 R'=some (.lst (rs.map V.ref))/\Bag H11 b c/\J3 b H9 H11) ?_ ?_ ?_ ?_⟩
 ·exact⟨_,[],rfl,rfl,by simp,e10,B10,J3.of_same s10⟩
 ·rintro i σ H11 _ ⟨_,_,_,_,_,_,_,k11⟩
  exact SqL.of (k11.1 _ _ q1 (Y9 B9 q1))
 ·rintro i x _ H11 hx ⟨y8,rs,rfl,lr,hr,hR11,B11,k11⟩
  rw[b6]at hx;obtain⟨xa,hxa,rfl⟩:=A1.mp hx;have hi:i<N.length:=by rw[<-q2];exact(gI hxa)
  have hx9:=q3 i xa _ hxa (M5 hi);have hx11:=k11.1 _ _ hx9 (b4x B9 hx9 (by rw[K9];have:=v4.two _ (J7 hi);omega));have P11:=P9.kept B9 k11;obtain⟨N11,_⟩:=N9.kept B9 k11
  ext
  exists L9 hx11 ?_;rw[K9];by_cases h2:N[i].length=2
  ·exists A2 (d6x (by rw[h2];rfl)) ?_
   specialize a5S ?_;exists ⟨X9 hR11,?_⟩;exists a5L B11 N11 fun v H12 o12 B12 k12=>?_
   exists F7 (by simp) fun q H13 hq e13 s13=>?_
   have hR13:=s13 _ _ (k12.1 _ _ hR11 rb);have r13:b5D H13 (.ref q) (N[i].length == 2):=⟨q,_,rfl,e13,.ask v o12,_,_,rfl,by rw[h2];decide⟩;refine W3 hR13 (G8 (by rw[b9];omega)) ?_;refine⟨_,rs++[q],rfl,by simp[lr],fun j y l g1 g2=>?_,by rw[d8];simp,(B12.same s13).put rb rc,((k11.trans k12).trans (J3.of_same s13)).put hR'⟩;rcases W0 g1 with ⟨_,f1⟩ | ⟨hj,f1⟩
   ·exact(((hr j y l f1 g2).ts (J3.ts k12 B11)).ts (d9.ts s13)).ts (F5.put hR13)
   ·rw[hj,lr,M5 hi]at g2
    cases g2;subst f1;exact r13.ts (F5.put hR13)
  ·exists p8 (d6w (by intro z;have:=V.int.inj z;omega)) ?_
   specialize a5S ?_;exists ⟨X9 hR11,?_⟩;refine d1c B11 N11 P11 fun v H12 r12 B12 k12=>?_
   obtain⟨pv,xv,rfl,_⟩:=id r12
   ext
   have hR12:=k12.1 _ _ hR11 rb;have hm2:(N[i].length == 2)=false:=by simpa using h2
   refine W3 hR12 (G8 (by rw[b9];omega)) ?_;refine⟨_,rs++[pv],rfl,by simp[lr],fun j y l g1 g2=>?_,by rw[d8];simp,B12.put rb rc,(k11.trans k12).put hR'⟩;rcases W0 g1 with ⟨_,f1⟩ | ⟨hj,f1⟩
   ·exact((hr j y l f1 g2).ts (J3.ts k12 B11)).ts (F5.put hR12)
   ·rw[hj,lr,M5 hi]at g2
    cases g2;subst f1;rw[hm2];exact r12.ts (F5.put hR12)
 ·rintro _ H11 ⟨y8,rs,rfl,lr,hr,hR11,B11,k11⟩
  rw[b9]at lr
  ext
  refine F7 (by simp) fun p H12 hp12 e12 s12=>?_
  exact k p R' na D N H12 e12 ((⟨rs,hR11,by rw[lr,q2],hr⟩:a0b H11 R' N).same s12) ((n9.kept B9 v4.two k11).same s12) ((P9.kept B9 k11).same s12) v4 lN nRD nnaD (B11.same s12) ((k09.trans k11).trans (J3.of_same s12))
theorem big(h:n<=1000000):n<=u7:=J4 h (by rw[a6Y];decide)
theorem b3C{K:Fg}{E:XK}(ha:H a=some (.lst xs))(h1:1<=xs.length)(h2:xs.length<=400)(k:Q .non H):a2U K [.ref a,.int 0,.int 1] H Q E:=by
 refine⟨rfl,?_⟩;unfold a8g
 nofun
 exists a6g (s := "list") (by simp only[a4V,ha]) (by decide) ?_;exists p8 (by decide) ?_;exists L9 ha ?_;exists p8 (d6w (by omega)) ?_;exists L9 ha ?_;exists p8 (d6w (by omega)) ?_;exact k
theorem a9F{K:Fg}{E:XK}(ha:H a=some (.lst (w6 n (V.bl true))))(k:∀H',d9 H H'->Q .non H'):a2M K [.ref a] H Q E:=by
 refine⟨rfl,?_⟩;unfold b0M;specialize a0g (a6e ?_);refine⟨a,rfl,⟨_,SqL.of ha⟩,?_⟩;refine b5q n (fun i σ H2=>∃x1 x2,σ=[some (.ref a),x1,x2]/\d9 H H2) ⟨_,_,rfl,d9.refl _⟩ ?_ ?_ ?_
 ·rintro _ H2 ⟨x1,x2,rfl,s2⟩
  exact⟨⟨_,SqL.of (s2 _ _ ha),by simp⟩,k H2 s2⟩
 ·rintro i _ H2 hi ⟨x1,x2,rfl,s2⟩
  exact⟨_,V.bl true,SqL.of (s2 _ _ ha),by rw[N4,if_pos hi]⟩
 ·rintro i _ H2 hi ⟨x1,x2,rfl,s2⟩ x H3 ⟨p,y,hp,rfl,rfl,hy⟩
  have hy:=hy _ (SqL.of (s2 _ _ ha));rw[N4,if_pos hi]at hy;cases hy;exists a8T (SqT.of d8) ?_;exists p8 rfl ?_;exact⟨_,_,rfl,s2.trans (A9 hp)⟩
theorem b4k(n:Nat):w6 n (V.bl true)++[V.bl true]=w6 (n+1) (V.bl true):=by
 rw[b0w]
theorem d2h(h:n=0\/n=1):inV (.int (n:Int)) [.int 0,.int 1]=true:=by
 rcases h with rfl | rfl <;> decide
theorem b8m{K:Fg}{x:Addr}{E:XK}(hv:b5D H v (l.length == 2))(hx:H x=some (.lst (IL l)))(h2:l.length<=2)(hlt:∀t∈l,t<m)(k:∀H',d9 H H'->Q (.bl true) H') :
  a5k K [v,.ref x,.int (m:Int)] H Q E:=by
 obtain⟨p,xs,rfl,hp,_,kd,r,rfl,hk⟩:=hv;refine⟨rfl,?_⟩;unfold b2Z
 nofun
 exists a6g (s := "list") (by simp only[a4V,hx]) (by decide) ?_;exists p8 (by decide) ?_;exact_mod_cast a5f (P:=fun σ H1=>∃w ws,σ=[some (.ref p),some (.ref x),some (.int (m:Int)),some (.ref w)]/\H1 w=some (.tup ws)/\ws.all O8=true/\inV (.int (l.length:Int)) ws=true/\d9 H H1) ?_ ?_
 rotate_left
 ·intro nx hnx
  ext
  exists N8 hp (Z3 _ _) ?_;by_cases e:kd = "ask"
  ·exists A2 (d6x (by rw[e])) ?_
   refine F7 (by simp) fun w H1 hw e1 s1=>?_
   rw[d6x e]at hk;have:l.length=2:=by simpa using hk.symm
   exact hnx _ _ ⟨w,_,rfl,e1,rfl,by rw[this];decide,s1⟩
  ·exists p8 (d6w (fun z=>e (V.str.inj z))) ?_
   refine F7 (by simp) fun w H1 hw e1 s1=>?_
   rw[d6w e]at hk
   have:¬l.length=2:=by
    intro z;rw[z]at hk;exact absurd hk (by decide)
   exact hnx _ _ ⟨w,_,rfl,e1,rfl,d2h (by omega),s1⟩
 rintro _ H1 ⟨w,ws,rfl,hw,fw,iw,s1⟩
 ext
 exists L9 (s1 _ _ hx) ?_;rw[K9];refine b3h hw rfl fw ?_;exists ⟨_,rfl,A2 iw ?_⟩;specialize a1u (V3 ?_);refine⟨x,rfl,⟨_,SqL.of (s1 _ _ hx)⟩,fun D hD=>?_⟩;refine a0E (xs:=IL l) (fun i ys H2=>ys=w6 i (V.bl true)/\H2 D=some (.lst ys)/\d9 H1 H2) ⟨rfl,d8,A9 hD⟩ ?_ ?_ ?_ ?_
 ·rintro i ys H2 ⟨_,h,_⟩
  exact h
 ·rintro i ys H2 _ ⟨_,_,s2⟩
  exact SqL.of (s2 _ _ (s1 _ _ hx))
 ·rintro i y ys H2 hy ⟨rfl,hD2,s2⟩ R hR
  have hy:(l.map fun(n:Nat)=>V.int (n:Int))[i]? = some y:=hy;rw[b6]at hy;cases ht:l[i]? with
  | none=>rw[ht]at hy;cases hy
  | some t=>
   rw[ht]at hy;cases hy;have hi:=(gI ht);have:=hlt t (mI ht)
   ext
   refine b7U (by omega) (by omega) ?_;refine hR _ _ hD2 (G8 (by rw[M6];omega)) ⟨b4k i,d8,fun b o e=>?_⟩;rw[i8 (c9 e hD)];exact s2 _ _ e
 ·rintro ys H2 ⟨rfl,hD2,s2⟩
  ext
  have e:w6 (IL l).length (V.bl true)=(w6 l.length true).map V.bl:=by rw[K9];simp
  rw[e]at hD2;refine c6g hD2 ?_;have:(w6 l.length true).all id=true:=by simp
  rw[this];exact k H2 (s1.trans s2)
theorem b5u{K:Fg}{E:XK}(hr:a0b H ra N)(hn:F8 H na N)(h400:N.length<=400)(h2:∀l∈N,l.length<=2)(hlt:∀l∈N,∀t∈l,t<N.length)(k:∀H',d9 H H'->Q .non H') :
  a3G K [.ref ra,.ref na] H Q E:=by
 obtain⟨rs,r1,r2,r3⟩:=id hr.ex;obtain⟨as,a1,a2,a3⟩:=id hn.ex;refine⟨rfl,?_⟩;unfold a9y
 nofun
 exists a6g (s := "list") (by simp only[a4V,a1]) (by decide) ?_;exists p8 (by decide) ?_;exists L9 a1 ?_;exists L9 r1 ?_;exists p8 (by rw[b9,b9,r2,a2];simp) ?_;specialize b7B (d0U ?_);refine⟨ra,na,rfl,⟨_,SqL.of r1⟩,⟨_,SqL.of a1⟩,fun D hD=>?_⟩;refine c2b N.length (fun i ys H2=>ys=w6 i (V.bl true)/\H2 D=some (.lst ys)/\d9 H H2) ⟨rfl,d8,A9 hD⟩ ?_ ?_ ?_ ?_
 ·rintro i ys H2 ⟨_,h,_⟩
  exact h
 ·rintro ys H2 ⟨rfl,hD2,s2⟩
  exists ⟨⟨_,_,SqL.of (s2 _ _ r1),SqL.of (s2 _ _ a1),.inl (by rw[b9,r2];exact j9 _)⟩,?_⟩;exact a9F hD2 fun H3 s3=>k H3 (s2.trans s3)
 ·rintro i ys H2 hi ⟨_,_,s2⟩
  have e1:rs[i]? = some (rs[i]'(by omega)):=by simp[r2,hi]
  have e2:as[i]? = some (as[i]'(by omega)):=by simp[a2,hi]
  exact⟨_,_,_,_,SqL.of (s2 _ _ r1),SqL.of (s2 _ _ a1),by rw[b6,e1];rfl,by rw[b6,e2];rfl⟩
 ·rintro i ys H2 hi ⟨rfl,hD2,s2⟩ x H3 ⟨p,y1,y2,hp,rfl,rfl,g1,g2⟩
  obtain⟨rx,e1⟩:∃rx,rs[i]? = some rx:=⟨_,c8 (by omega)⟩;obtain⟨ax,e2⟩:∃ax,as[i]? = some ax:=⟨_,c8 (by omega)⟩;have g1:=g1 _ (SqL.of (s2 _ _ r1));have g2:=g2 _ (SqL.of (s2 _ _ a1));rw[b6,e1]at g1;rw[b6,e2]at g2;cases g1;cases g2;refine⟨p,_,_,rfl,SqT.of d8,fun R S hR hS=>?_⟩;have s3:d9 H2 (upd H2 p (.tup [V.ref rx,V.ref ax])):=A9 hp;obtain⟨H3,hH3⟩:∃H3,H3=upd H2 p (.tup [V.ref rx,V.ref ax]):=⟨_,rfl⟩;rw[<-hH3]at s3 ⊢
  ext
  exists A2 rfl ?_;have s03:=s2.trans s3;exists L9 (s03 _ _ r1) ?_;have hl:=M5 hi;rw[b9,r2];refine b8m ((r3 i _ _ e1 hl).ts (d9.ts s03)) (s03 _ _ (a3 i _ _ e2 hl)) (h2 _ (J7 hi)) (hlt _ (J7 hi)) fun H4 s4=>?_
  refine hR _ _ (s4 _ _ (s3 _ _ hD2)) (G8 (by rw[M6];omega)) ⟨b4k i,d8,fun b o e=>?_⟩;rw[i8 (c9 e hD)];exact s4 _ _ (s03 _ _ e)
def a7B(N:Nt)(k:Nat):Bool:=(N.getD k []).isEmpty
def a1S(N:Nt):List Nat:=(C1 N.length).filter (a7B N)
theorem b2D{k:Nat}(h:N[k]? = some []):k∈a1S N:=by
 refine E8.mpr ⟨Q8.mpr (gI h),?_⟩;unfold a7B;simp[D6,h]
theorem b3b{K:Fg}{E:XK}(hn:F8 H na N)(h400:N.length<=400)(k:∀a H',H a=none->H' a=some (.lst (IL (a1S N)))->d9 H H'->Q (.ref a) H'):a4J K [.ref na] H Q E:=by
 obtain⟨as,a1,a2,a3⟩:=id hn.ex;refine⟨rfl,?_⟩;unfold b4m
 ext
 specialize b7B (a6e ?_);refine⟨na,rfl,⟨_,SqL.of a1⟩,fun D hD=>?_⟩;refine c2b N.length (fun i ys H2=>ys=IL ((C1 i).filter (a7B N))/\H2 D=some (.lst ys)/\d9 H H2) ⟨rfl,d8,A9 hD⟩ ?_ ?_ ?_ ?_
 ·rintro i ys H2 ⟨_,h,_⟩
  exact h
 ·rintro ys H2 ⟨rfl,hD2,s2⟩
  exact⟨⟨_,SqL.of (s2 _ _ a1),by rw[b9,a2];exact j9 _⟩,k D H2 hD hD2 s2⟩
 ·rintro i ys H2 hi ⟨_,_,s2⟩
  exact⟨_,_,SqL.of (s2 _ _ a1),by rw[b6,c8 (show i<as.length by omega)];rfl⟩
 ·rintro i ys H2 hi ⟨rfl,hD2,s2⟩ x H3 ⟨p,y,hp,rfl,rfl,g1⟩
  obtain⟨ax,e1⟩:∃ax,as[i]? = some ax:=⟨_,c8 (by omega)⟩;have g1:=g1 _ (SqL.of (s2 _ _ a1));rw[b6,e1]at g1;cases g1;refine⟨p,_,_,rfl,SqT.of d8,fun R S hR hS=>?_⟩;have s3:d9 H2 (upd H2 p (.tup [V.int (i:Int),V.ref ax])):=A9 hp;obtain⟨H3,hH3⟩:∃H3,H3=upd H2 p (.tup [V.int (i:Int),V.ref ax]):=⟨_,rfl⟩;rw[<-hH3]at s3 ⊢;have s03:=s2.trans s3;have hl:=M5 hi
  ext
  exists L9 (s03 _ _ (a3 i _ _ e1 hl)) ?_
  have hst:a7B N i=decide (V.int ((IL N[i]).length:Int)=V.int 0):=by
   rw[c0d,K9];unfold a7B;simp only[D6,hl,a4U];cases N[i] with
   | nil=>rfl
   | cons a r=>
    rw[List.isEmpty_cons,eq_comm,decide_eq_false_iff_not,z9];omega
  rw[<-hst];cases hb:a7B N i with
  | true=>
   exists A2 rfl ?_;refine hR _ _ (s3 _ _ hD2) (G8 ?_) ⟨?_,d8,fun b o e=>?_⟩
   ·rw[K9]
    have:=M7 (a7B N) (C1 i);rw[a0r]at this;omega
   ·rw[a1j,Z5]
    unfold IL;rw[u4];congr 1;simp[hb]
   ·rw[i8 (c9 e hD)];exact s03 _ _ e
  | false=>
   refine p8 rfl ?_;refine hS _ ⟨?_,s3 _ _ hD2,s03⟩;rw[a1j,Z5];simp[hb]
theorem d0n{α:Type}{l:List α}(nd:l.Nodup){x:α}(h1:l[i]? = some x)(h2:l[j]? = some x):i=j:=
 (a4A (gI h1) nd).mp (h1.trans h2.symm)
structure a8E(H0 H:Hp)(a:Addr)(as:List Addr)(M:Nt):Prop where
 same:d9 H0 H
 h:H a=some (.lst (as.map V.ref))
 len:as.length=M.length
 nd:as.Nodup
 na:a∉as
 at_:∀(i:Nat) x l,as[i]? = some x->M[i]? = some l->H x=some (.lst (IL l))
 new:H0 a=none/\∀x∈as,H0 x=none
theorem a8E.next(h:a8E H0 H a as M)(s:d9 H H'):a8E H0 H' a as M:=
 ⟨h.same.trans s,s _ _ h.h,h.len,h.nd,h.na,fun i x l e1 e2=>s _ _ (h.at_ i x l e1 e2),h.new⟩
theorem a8E.add(h:a8E H0 H a as M){p:Nat}{x:Addr}(e1:as[t]? = some x)(e2:M[t]? = some l) :
  a8E H0 (upd H x (.lst (IL (l++[p])))) a as (M.set t (l++[p])):=by
 have hx:=mI e1;have hxa:x≠a:=fun z=>h.na (z ▸ hx)
 refine⟨fun b o e=>by rw[i8 (c9 e (h.new.2 x hx))];exact h.same b o e,by rw[i8 hxa.symm];exact h.h,by rw[a3U];exact h.len,h.nd,h.na,fun i y l' f1 f2=>?_,h.new⟩;by_cases e:i=t
 ·subst e
  rw[e1]at f1;cases f1;rw[T0 (gI e2)]at f2;cases f2;exact d8
 ·rw[V8 (Ne.symm e)]at f2
  have:y≠x:=by
   rintro rfl;exact e (d0n h.nd f1 e1)
  rw[i8 this];exact h.at_ i y l' f1 f2
theorem a8E.net(h:a8E H0 H a as M):F8 H a M:=⟨as,h.h,h.len,h.at_⟩
theorem a8E.nil(n:H0 a=none)(s:d9 H0 H)(e:H a=some (.lst [])):a8E H0 H a [] []:=⟨s,e,rfl,by simp,by simp,by simp,n,by simp⟩
theorem a8E.snoc(h:a8E H0 H a as M)(hp:H p=none)(ep:H' p=some (.lst (IL [])))(s:d9 H H') :
  a8E H0 (upd H' a (.lst ((as++[p]).map V.ref))) a (as++[p]) (M++[[]]):=by
 have npa:p≠a:=(c9 h.h hp).symm
 have npas:p∉as:=fun z=>by
  obtain⟨i,hi⟩:=i9.mp z;have hl:i<M.length:=by rw[<-h.len];exact(gI hi)
  have:=h.at_ i p _ hi (M5 hl);rw[hp]at this;cases this
 have fr0:H0 p=none:=h.same.free hp;refine⟨fun b o e=>by rw[i8 (c9 e h.new.1)];exact s _ _ (h.same b o e),d8,by simp[h.len],?_,?_,fun i x l f1 f2=>?_,h.new.1,fun x hx=>?_⟩
 ·rw[a0q]
  exact⟨h.nd,by simp,fun x hx y hy=>by rw[v6.mp hy];intro z;exact npas (z ▸ hx)⟩
 ·intro z
  rcases z8.mp z with q | q
  ·exact h.na q
  ·exact npa (v6.mp q).symm
 ·rcases W0 f1 with ⟨hi,g1⟩ | ⟨hi,g1⟩
  ·rcases W0 f2 with ⟨hj,g2⟩ | ⟨hj,g2⟩
   ·have:x≠a:=fun z=>h.na (z ▸ mI g1)
    rw[i8 this];exact s _ _ (h.at_ i x l g1 g2)
   ·have:=h.len;omega
  ·rcases W0 f2 with ⟨hj,g2⟩ | ⟨hj,g2⟩
   ·have:=h.len;omega
   ·subst g1 g2
    rw[i8 npa];exact ep
 ·rcases z8.mp hx with q | q
  ·exact h.new.2 x q
  ·rw[v6.mp q];exact fr0
theorem c8b{u:Nat}{l':List Nat}(h:(M.set t l)[u]? = some l'):(u=t/\l'=l)\/(u≠t/\M[u]? = some l'):=by
 by_cases e:u=t
 ·subst e
  have hl:=(gI h);rw[a3U]at hl;rw[T0 hl]at h;exact .inl ⟨rfl,(Option.some.inj h).symm⟩
 ·rw[V8 (Ne.symm e)]at h
  exact .inr ⟨e,h⟩
theorem c3s{K:Fg}{E:XK}(hn:F8 H na N)(h400:N.length<=400)(h2:∀l∈N,l.length<=2)(hlt:∀l∈N,∀t∈l,t<N.length)
  (k:∀a M H',F8 H' a M->M.length=N.length->(∀(p:Nat) (l:List Nat),N[p]? = some l->∀t∈l,∃l',M[t]? = some l'/\p∈l')->(∀l∈M,l.length<=2 * N.length/\∀p∈l,p<N.length)->d9 H H'->Q (.ref a) H'):a8O K [.ref na] H Q E:=by
 obtain⟨ns,a1,a2,a3⟩:=id hn.ex;refine⟨rfl,?_⟩;unfold b8Z;exact_mod_cast N7 ?_;specialize a1u (V3 ?_);refine⟨na,rfl,⟨_,SqL.of a1⟩,fun A hA=>?_⟩;refine a0E (xs:=ns.map V.ref) (fun i ys H2=>∃as,ys=as.map V.ref/\a8E H H2 A as (w6 i [])) ?_ ?_ ?_ ?_ ?_
 ·exact⟨[],rfl,.nil hA (A9 hA) d8⟩
 ·rintro i ys H2 ⟨as,rfl,I⟩
  exact I.h
 ·rintro i ys H2 _ ⟨as,rfl,I⟩
  exact SqL.of (I.same _ _ a1)
 ·rintro i x ys H2 hx ⟨as,rfl,I⟩ R hR
  have hi:i<N.length:=by
   have:=(gI hx);rw[b9,a2]at this;exact this
  ext
  refine F7 (by simp) fun p H3 hp e3 s3=>?_
  have:=I.len;rw[M6]at this;refine hR _ _ (s3 _ _ I.h) (G8 (by rw[b9];omega)) ⟨as++[p],by simp,?_⟩;have q:=I.snoc hp e3 s3;rw[show w6 i ([]:List Nat)++[[]]=w6 (i+1) [] from by rw[b0w]]at q;rw[show as.map V.ref++[V.ref p]=(as++[p]).map V.ref by simp];exact q
 rintro ys H2 ⟨as,rfl,I2⟩;rw[b9,a2]at I2
 ext
 exact_mod_cast N7 ?_;specialize a0g (a6e ?_);refine⟨na,rfl,⟨_,SqL.of (I2.same _ _ a1)⟩,?_⟩;refine b5q N.length (fun i σ H3=>∃x2 x3 x4 M,σ=[some (.ref na),some (.ref A),x2,x3,x4]/\a8E H H3 A as M/\M.length=N.length/\(∀(p:Nat) (l:List Nat),p<i->N[p]? = some l->∀t∈l,∃l',M[t]? = some l'/\p∈l')/\(∀l∈M,l.length<=2 * i/\∀p∈l,p<N.length)) ?_ ?_ ?_ ?_
 ·exact⟨_,_,_,_,rfl,I2,by simp,by omega,fun l hl=>by rw[List.eq_of_mem_replicate hl];simp⟩
 ·rintro _ H3 ⟨x2,x3,x4,M,rfl,I3,lM,g1,g2⟩
  exists ⟨⟨_,SqL.of (I3.same _ _ a1),by rw[b9,a2];exact j9 _⟩,?_⟩;exact k A M H3 I3.net lM (fun p l hl=>g1 p l (gI hl) hl) g2 I3.same
 ·rintro i _ H3 hi ⟨x2,x3,x4,M,rfl,I3,lM,g1,g2⟩
  exact⟨_,_,SqL.of (I3.same _ _ a1),by rw[b6,c8 (show i<ns.length by omega)];rfl⟩
 ·rintro i _ H3 hi ⟨x2,x3,x4,M,rfl,I3,lM,g1,g2⟩ x H4 ⟨p,y,hp,rfl,rfl,gy⟩
  obtain⟨nx,e1⟩:∃nx,ns[i]? = some nx:=⟨_,c8 (by omega)⟩;have gy:=gy _ (SqL.of (I3.same _ _ a1));rw[b6,e1]at gy;cases gy;refine a8T (SqT.of d8) ?_;have s4:d9 H3 (upd H3 p (.tup [V.int (i:Int),V.ref nx])):=A9 hp;obtain⟨H4,hH4⟩:∃H4,H4=upd H3 p (.tup [V.int (i:Int),V.ref nx]):=⟨_,rfl⟩;rw[<-hH4]at s4 ⊢;have I4:=I3.next s4;have hl:=M5 hi;obtain⟨l,hle⟩:∃l,l=N[i]:=⟨_,rfl⟩;rw[<-hle]at hl;have hx:H nx=some (.lst (IL l)):=a3 i nx l e1 hl;have hll:=h2 l (mI hl);specialize a0g (V3 ?_);refine⟨nx,rfl,⟨_,SqL.of (I4.same _ _ hx)⟩,a1v (xs:=IL l) (fun j σ H5=>∃x4 M',σ=[some (.ref na),some (.ref A),some (.int (i:Int)),some (.ref nx),x4]/\a8E H H5 A as M'/\M'.length=N.length/\(∀(p:Nat) (l:List Nat),p<i->N[p]? = some l->∀t∈l,∃l',M'[t]? = some l'/\p∈l')/\(∀t∈l.take j,∃l',M'[t]? = some l'/\i∈l')/\(∀l∈M',l.length<=2 * i+j/\∀p∈l,p<N.length)) ?_ ?_ ?_ ?_⟩
  ·exact⟨_,M,rfl,I4,lM,g1,by simp,g2⟩
  ·rintro j σ H5 _ ⟨_,_,_,I5,_⟩
   exact SqL.of (I5.same _ _ hx)
  ·rintro j y _ H5 hy ⟨x4,M',rfl,I5,lM',c1,c2,c3⟩
   have hy:(l.map fun(n:Nat)=>V.int (n:Int))[j]? = some y:=hy;rw[b6]at hy;cases ht:l[j]? with
   | none=>rw[ht]at hy;cases hy
   | some t=>
    rw[ht]at hy;cases hy;have tm:=mI ht;have hj:=(gI ht);have htn:t<N.length:=hlt l (mI hl) t tm
    ext
    obtain⟨z,hz⟩:∃z,as[t]? = some z:=⟨_,c8 (by have:=I5.len;omega)⟩;have hMt:=M5 (show t<M'.length by omega);have hMz:=I5.at_ t z _ hz hMt;specialize a5S ?_;refine C0 I5.h (P4 (by rw[b6,hz];rfl)) ?_;exists ⟨X9 hMz,?_⟩;have hb:=c3 _ (J7 (show t<M'.length by omega));refine W3 hMz (G8 (by rw[K9];omega)) ?_;refine⟨_,M'.set t (M'[t]++[i]),rfl,?_,by rw[a3U];exact lM',?_,?_,?_⟩
    ·have:=I5.add (p:=i) hz hMt
     rw[show IL M'[t]++[V.int (i:Int)]=IL (M'[t]++[i]) by simp[IL]];exact this
    ·intro p' l' hp' hl' u hu
     obtain⟨l'',q1,q2⟩:=c1 p' l' hp' hl' u hu;by_cases e:u=t
     ·subst e
      rw[hMt]at q1;cases q1;exact⟨_,T0 (by omega),y0 _ q2⟩
     ·exact⟨l'',by rw[V8 (Ne.symm e)];exact q1,q2⟩
    ·intro u hu
     rw[F3,ht]at hu;by_cases e:u=t
     ·subst e
      exact⟨_,T0 (by omega),by simp⟩
     ·rcases z8.mp hu with q | q
      ·obtain⟨l'',q1,q2⟩:=c2 u q
       exact⟨l'',by rw[V8 (Ne.symm e)];exact q1,q2⟩
      ·exact absurd (by simpa using q) e
    ·intro l' hl'
     obtain⟨u,hu⟩:=i9.mp hl';rcases c8b hu with ⟨_,rfl⟩ | ⟨_,q⟩
     ·refine⟨by rw[p5,G6];omega,fun p' hp'=>?_⟩
      rcases z8.mp hp' with q | q
      ·exact hb.2 p' q
      ·rw[v6.mp q];exact hi
     ·obtain⟨r1,r2⟩:=c3 l' (mI q)
      exact⟨by omega,r2⟩
  ·rintro _ H5 ⟨x4,M',rfl,I5,lM',c1,c2,c3⟩
   rw[K9,J5]at c2;refine⟨_,_,x4,M',rfl,I5,lM',fun p' l' hp' hl' t ht=>?_,fun l' hl'=>?_⟩
   ·by_cases e:p'=i
    ·subst e
     rw[hl]at hl';cases hl';exact c2 t ht
    ·exact c1 p' l' (by omega) hl' t ht
   ·obtain⟨r1,r2⟩:=c3 l' hl'
    rw[K9]at r1;exact⟨by omega,r2⟩
theorem b4G{K:Fg}{ba la:Addr}{bs:List Nat}{B:Nat}{E:XK}(hb:H ba=some (.lst (IL bs)))(hm:F8 H la M)(h400:M.length<=400)(hB:B<=800)(hl:∀l∈M,l.length<=B/\∀t∈l,t<M.length)(hbs:∀x∈bs,x<M.length)(lb:bs.length<=400)
  (k:∀d S H',H' d=some (.dK (KS S))->S.Nodup->(∀x∈S,x<M.length)->(∀x∈bs,x∈S)->b0t M S->d9 H H'->Q (.ref d) H'):a5D K [.ref ba,.ref la] H Q E:=by
 refine⟨rfl,?_⟩;unfold b6x
 nofun
 exists c1h fun d H1 hd e1 s1=>?_
 nofun
 exists a8U (s1 _ _ hb) fun w H2 hw e2 s2=>?_
 have s02:=s1.trans s2;have hw0:H w=none:=s1.free hw;have ndw:d≠w:=c9 e1 hw;exact_mod_cast N7 ?_;exact_mod_cast a6d ?_
 refine⟨fun m σ H3=>∃x4 ws S,σ=[some (.ref ba),some (.ref la),some (.ref d),some (.ref w),x4]/\H3 w=some (.lst (IL ws))/\H3 d=some (.dK (KS S))/\d9 H H3/\S.Nodup/\(∀x∈S,x<M.length)/\(∀x∈ws,x<M.length) /\
  (∀x∈bs,x∈S\/x∈ws)/\(∀k∈S,∀l,M[k]? = some l->∀t∈l,t∈S\/t∈ws)/\ws.length<=400+S.length * B/\m=(M.length - S.length) * (B+1)+ws.length,?_,?_⟩
 ·exact⟨_,_,bs,[],rfl,e2,s2 _ _ e1,s02,by simp,by simp,hbs,fun x hx=>.inr hx,by simp,by omega,rfl⟩
 rintro m _ H3 ⟨x4,ws,S,rfl,hw3,hd3,s3,nd,hS,hws,c1,c2,c3,rfl⟩
 ext
 exists L9 hw3 ?_;have hSl:=a3O _ _ nd hS;rcases c0S ws with rfl | ⟨r,p,rfl⟩
 ·exists p8 (d6w (by rw[K9];simp)) ?_
  refine k d S H3 hd3 nd hS (fun x hx=>(c1 x hx).elim id fun z=>by simp at z) (fun a ha l hl' t ht=>(c2 a ha l hl' t ht).elim id fun z=>by simp at z) s3
 refine A2 (d6x (by rw[K9,p5,G6];omega)) ?_;have hp:p<M.length:=hws p (by simp);have eIL:IL (r++[p])=IL r++[V.int (p:Int)]:=by simp[IL]
 rw[eIL]at hw3
 refine⟨fun σ H4=>∃m' x4 ws S',σ=[some (.ref ba),some (.ref la),some (.ref d),some (.ref w),x4]/\H4 w=some (.lst (IL ws))/\H4 d=some (.dK (KS S'))/\d9 H H4/\S'.Nodup/\(∀x∈S',x<M.length)/\(∀x∈ws,x<M.length) /\
  (∀x∈bs,x∈S'\/x∈ws)/\(∀k∈S',∀l,M[k]? = some l->∀t∈l,t∈S'\/t∈ws)/\ws.length<=400+S'.length * B/\m'=(M.length - S'.length) * (B+1)+ws.length/\m'<(M.length - S.length) * (B+1)+(r++[p]).length,?_,?_⟩
 ·rintro σ' H4 ⟨m',x4,ws,S',e,r1,r2,r3,r4,r5,r6,r7,r8,r9,r10,r11⟩
  exact⟨m',r11,x4,ws,S',e,r1,r2,r3,r4,r5,r6,r7,r8,r9,r10⟩
 nofun
 specialize c2y ?_;exists ⟨X9 hw3,d3A hw3 ?_⟩;have sW:d9 H (upd H3 w (.lst (IL r))):=fun b o e=>by rw[i8 (c9 e hw0)];exact s3 b o e
 have hdW:(upd H3 w (.lst (IL r))) d=some (.dK (KS S)):=by rw[i8 ndw];exact hd3
 have hwW:(upd H3 w (.lst (IL r))) w=some (.lst (IL r)):=d8;obtain⟨H4,hH4⟩:∃H4,H4=upd H3 w (.lst (IL r)):=⟨_,rfl⟩;rw[<-hH4]at sW hdW hwW ⊢;rw[p5,G6]at c3 ⊢;specialize a2h ?_;obtain⟨o,g1,g2⟩:=a8Y hdW p;refine⟨d,o,rfl,g1,?_⟩;rw[g2]
 ext
 by_cases hps:p∈S
 ·exists p8 (by rw[d6x hps];rfl) ?_
  refine⟨_,_,r,S,rfl,hwW,hdW,sW,nd,hS,fun x hx=>hws x (y0 _ hx),fun x hx=>?_,fun a ha l hl' t ht=>?_,by omega,rfl,by omega⟩
  ·rcases c1 x hx with z | z
   ·exact .inl z
   ·rcases z8.mp z with q | q
    ·exact .inr q
    ·exact .inl (v6.mp q ▸ hps)
  ·rcases c2 a ha l hl' t ht with z | z
   ·exact .inl z
   ·rcases z8.mp z with q | q
    ·exact .inr q
    ·exact .inl (v6.mp q ▸ hps)
 refine A2 (by rw[d6w hps];rfl) ?_;obtain⟨xs,y,f1,f2,f3,_⟩:=(hm.same sW).at (M5 hp);obtain⟨l,hle⟩:∃l,l=M[p]:=⟨_,rfl⟩;have hlp:M[p]? = some l:=by rw[hle];exact M5 hp
 rw[<-hle]at f3;obtain⟨b1,b2⟩:=hl l (mI hlp);have hput:a8n S p=S++[p]:=by unfold a8n;rw[if_neg hps]
 have hS1:S.length<M.length:=by
  have:=a3O _ _ (b3K (k:=p) nd) fun x hx=>(a2k.mp hx).elim (hS x) fun z=>z ▸ hp
  rw[hput,p5,G6]at this;omega
 exact_mod_cast N7 ?_;specialize a9W ?_;refine⟨d,_,rfl,b8a hdW (by omega) p,?_⟩;rw[hput];obtain⟨H5,hH5⟩:∃H5,H5=upd H4 d (.dK (KS (S++[p]))):=⟨_,rfl⟩;have hd5:H5 d=some (.dK (KS (S++[p]))):=hH5 ▸ d8;have oth:∀b o,H4 b=some o->b≠d->H5 b=some o:=fun b o e n=>by rw[hH5,i8 n];exact e
 have s5:d9 H H5:=fun b o e=>oth b o (sW b o e) (c9 e hd)
 rw[<-hH5];have hw5:=oth w _ hwW (Ne.symm ndw);have fx5:=oth _ _ f1 (O3 f1 hdW (by intro z;cases z));have fy5:=oth _ _ f3 (O3 f3 hdW (by intro z;cases z))
 ext
 specialize a5S ?_;exists ⟨X9 hw5,?_⟩;refine C0 fx5 f2 ?_;have hSB:S.length * B<=400 * 800:=Nat.mul_le_mul (by omega) hB
 ext
 refine b9s hw5 fy5 (big (by rw[K9,K9];omega)) ?_;have e6:IL r++IL l=IL (r++l):=by simp[IL]
 rw[e6]
 ext
 have key:(M.length - (S.length+1)) * (B+1)+(B+1)=(M.length - S.length) * (B+1):=by
  rw[<-c4P];congr 1;omega
 refine⟨_,_,r++l,S++[p],rfl,d8,by rw[i8 ndw];exact hd5,fun b o e=>by rw[i8 (c9 e hw0)];exact s5 b o e,hput ▸ b3K nd,fun x hx=>?_,fun x hx=>?_,fun x hx=>?_,fun a ha l' hl' t ht=>?_,?_,rfl,?_⟩
 ·rcases z8.mp hx with q | q
  ·exact hS x q
  ·rw[v6.mp q];exact hp
 ·rcases z8.mp hx with q | q
  ·exact hws x (y0 _ q)
  ·exact b2 x q
 ·rcases c1 x hx with z | z
  ·exact .inl (y0 _ z)
  ·rcases z8.mp z with q | q
   ·exact .inr (y0 _ q)
   ·exact .inl (B8 _ q)
 ·rcases z8.mp ha with q | q
  ·rcases c2 a q l' hl' t ht with z | z
   ·exact .inl (y0 _ z)
   ·rcases z8.mp z with u | u
    ·exact .inr (y0 _ u)
    ·exact .inl (B8 _ u)
  ·rw[v6.mp q,hlp]at hl'
   cases hl';exact .inr (B8 _ ht)
 ·rw[p5,p5,G6,c4P]
  omega
 ·rw[p5,p5,G6]
  omega
theorem b6m{K:Fg}{E:XK}(hn:F8 H na N)(hv:S0 N)(k:∀H',d9 H H'->Q .non H'):a4s K [.ref na] H Q E:=by
 refine⟨rfl,?_⟩;unfold b0L
 nofun
 exists F7 (by simp) fun p1 H1 hp1 e1 s1=>?_
 exists b4G (bs:=[0]) (B:=2) e1 (hn.same s1) hv.le (by decide) (fun l hl=>⟨hv.two l hl,hv.lt l hl⟩) (by simpa using hv.pos) (by simp) fun d1 S1 H2 hd1 nd1 hS1 hb1 cl1 s2=>?_
 have in1:∀x,Rc N x->x∈S1:=by
  intro x h;induction h with
  | zero=>exact hb1 0 (by simp)
  | @step a t l _ hl ht ih=>exact cl1 a ih l hl t ht
 nofun
 exists b3b ((hn.same s1).same s2) hv.le fun sa H3 _ e3 s3=>?_
 exists c3s (((hn.same s1).same s2).same s3) hv.le hv.two hv.lt fun ta M H4 m4 lM hM1 hM2 s4=>?_
 have lst:(a1S N).length<=N.length:=by
  have:=M7 (a7B N) (C1 N.length)
  rwa [a0r]at this
 have hle:=hv.le
 refine b4G (bs:=a1S N) (B:=2 * N.length) (s4 _ _ e3) m4 (by omega) (by omega) (fun l hl=>⟨(hM2 l hl).1,by rw[lM];exact(hM2 l hl).2⟩) (fun x hx=>by
  rw[lM];exact Q8.mp (E8.mp hx).1) (by omega) fun d2 S2 H5 hd2 nd2 hS2 hb2 cl2 s5=>?_
 have in2:∀x,Gd N x->x∈S2:=by
  intro x h;induction h with
  | @stop a h=>exact hb2 a (b2D h)
  | @step a t l h ht _ ih=>
   obtain⟨l',q1,q2⟩:=hM1 a l h t ht;exact cl2 t ih l' q1 a q2
 have s05:=(((s1.trans s2).trans s3).trans s4).trans s5;have hd1':H5 d1=_:=s5 _ _ (s4 _ _ (s3 _ _ hd1));obtain⟨ys,hy,ly⟩:=(hn.same s05).len
 ext
 specialize a0g (a2B ?_);refine L9 hy ?_;refine⟨N.length,by rw[ly],by omega,by omega,?_⟩;rw[t6];refine a0z (fun i σ H6=>∃x3,σ=[some (.ref na),some (.ref d1),some (.ref d2),x3]/\H6=H5) ⟨_,rfl,rfl⟩ ?_ ?_
 ·rintro i _ H6 hi ⟨x3,rfl,rfl⟩
  ext
  rw[Y3];specialize a2h ?_;obtain⟨o,g1,g2⟩:=a8Y hd1' i;refine⟨d1,o,rfl,g1,?_⟩;rw[g2,d6x (in1 i (hv.rc i hi))]
  ext
  exists p8 rfl ?_;specialize a2h ?_;obtain⟨o',g1',g2'⟩:=a8Y hd2 i;refine⟨d2,o',rfl,g1',?_⟩;rw[g2',d6x (in2 i (hv.gd i hi))]
  ext
  exists p8 rfl ?_;exact⟨_,rfl,rfl⟩
 ·rintro _ H6 ⟨x3,rfl,rfl⟩
  exact k _ s05
abbrev Stp:=Int×Int
variable{s:Stp}{L:List (Nat×Option Stp)}{gr:Nat->Stp}{gw:Nat->Option Stp}
def FST:Stp:=(-1,0)
def a2T(N:Nt)(p:Nat):List Stp:=(C1 (N.getD p []).length).map fun(a:Nat)=>((p:Int),(a:Int))
def a3a(N:Nt)(i:Nat):List Stp:=FST::(C1 i).flatMap (a2T N)
def F2(N:Nt):List Stp:=a3a N N.length
def G5(N:Nt)(s:Stp):Nat:=if s=FST then 0 else (N.getD s.1.toNat []).getD s.2.toNat 0
theorem a4I(N:Nt)(i:Nat):a3a N (i+1)=a3a N i++a2T N i:=by
 unfold a3a;rw[a1j,List.flatMap_append];simp
def a0F(N:Nt)(s:Stp):Prop:=s=FST\/∃(p q:Nat) (l:List Nat) (t:Nat),s=((p:Int),(q:Int))/\N[p]? = some l/\l[q]? = some t
theorem a1O(h:s∈F2 N):a0F N s:=by
 rcases u6.mp h with z | z
 ·exact .inl z
 ·obtain⟨p,hp,q⟩:=d0y.mp z
  have hp:=Q8.mp hp;obtain⟨a,ha,rfl⟩:=A8.mp q;have ha:=Q8.mp ha;have e:N.getD p []=N[p]:=by simp[D6,hp]
  rw[e]at ha;exact .inr ⟨p,a,N[p],N[p][a],rfl,M5 hp,by simp⟩
theorem a8X(hv:S0 N)(h:a0F N s):G5 N s<N.length:=by
 unfold G5;rcases h with rfl | ⟨p,q,l,t,rfl,h1,h2⟩
 ·rw[if_pos rfl];exact hv.pos
 ·split
  ·exact hv.pos
  ·have:(N.getD ((p:Int),(q:Int)).1.toNat []).getD ((p:Int),(q:Int)).2.toNat 0=t:=by
    show(N.getD (p:Int).toNat []).getD (q:Int).toNat 0=t;rw[t6,t6];simp[D6,h1,h2]
   rw[this];exact hv.lt l (mI h1) t (mI h2)
def L7(K:Fg)(H:Hp)(a:Addr)(s:Stp):Prop:=H a=some (.tup [.int s.1,.int s.2])\/(s=FST/\∀H,SqT K H a [.int (-1),.int 0])
theorem L7.ts{K:Fg}(h:L7 K H a s)(t:F5 H H'):L7 K H' a s:=by
 rcases h with h | h
 ·exact .inl (t _ _ h)
 ·exact .inr h
theorem L7.sq{K:Fg}(h:L7 K H a s):SqT K H a [.int s.1,.int s.2]:=by
 rcases h with h | ⟨e,h⟩
 ·exact SqT.of h
 ·subst e;exact h H
structure D7(K:Fg)(H:Hp)(l:Addr)(S:List Stp):Prop where
 ex:∃vs:List Addr,H l=some (.lst (vs.map V.ref))/\vs.length=S.length/\∀(i:Nat) x s,vs[i]? = some x->S[i]? = some s->L7 K H x s
theorem D7.same{K:Fg}{l:Addr}{S:List Stp}(h:D7 K H l S)(s:d9 H H'):D7 K H' l S:=by
 obtain⟨vs,h1,h2,h3⟩:=h.ex;exact⟨vs,s _ _ h1,h2,fun i x t e1 e2=>(h3 i x t e1 e2).ts (d9.ts s)⟩
theorem D7.kept{K:Fg}{c l:Addr}{S:List Stp}(h:D7 K H l S)(hB:Bag H b c)(k:J3 b H H'):D7 K H' l S:=by
 obtain⟨vs,h1,h2,h3⟩:=h.ex;exact⟨vs,k.1 _ _ h1 (Y9 hB h1),h2,fun i x t e1 e2=>(h3 i x t e1 e2).ts (J3.ts k hB)⟩
theorem D7.put{K:Fg}{l:Addr}{S:List Stp}(h:D7 K H l S)(hy:H y=some (.lst xs))(n:l≠y):D7 K (upd H y (.lst ys)) l S:=by
 obtain⟨vs,h1,h2,h3⟩:=h.ex;exact⟨vs,by rw[i8 n];exact h1,h2,fun i x t e1 e2=>(h3 i x t e1 e2).ts (F5.put hy)⟩
theorem b3c{K:Fg}{E:XK}(ck:a1h K c)(hn:F8 H na N)(h400:N.length<=400)(h2:∀l∈N,l.length<=2)
  (k:∀a H',H a=none->D7 K H' a (F2 N)->d9 H H'->Q (.ref a) H'):a4K K c [.ref na] H Q E:=by
 obtain⟨ns,a1,a2,a3⟩:=id hn.ex;refine⟨rfl,?_⟩;unfold b4n
 nofun
 exists F7 (by simp) fun D H1 hD e1 s1=>?_
 exact_mod_cast N7 ?_;specialize a0g (a6e ?_);refine⟨na,rfl,⟨_,SqL.of (s1 _ _ a1)⟩,?_⟩;refine b5q N.length (fun i σ H2=>∃x2 x3 vs,σ=[some (.ref na),some (.ref D),x2,x3]/\H2 D=some (.lst ((vs:List Addr).map V.ref))/\vs.length=(a3a N i).length/\vs.length<=1+2 * i/\(∀(j:Nat) x s,vs[j]? = some x->(a3a N i)[j]? = some s->L7 K H2 x s)/\d9 H H2) ?_ ?_ ?_ ?_
 ·refine⟨_,_,[c.I0],rfl,e1,rfl,by simp,fun j x s f1 f2=>?_,s1⟩
  cases j with
  | zero=>
   cases f1;cases f2;exact .inr ⟨rfl,ck.Q6⟩
  | succ j=>simp at f1
 ·rintro _ H2 ⟨x2,x3,vs,rfl,hD2,lv,_,at2,s2⟩
  exists ⟨⟨_,SqL.of (s2 _ _ a1),by rw[b9,a2];exact j9 _⟩,?_⟩;exact k D H2 hD ⟨vs,hD2,lv,at2⟩ s2
 ·rintro i _ H2 hi ⟨x2,x3,vs,rfl,hD2,lv,_,at2,s2⟩
  exact⟨_,_,SqL.of (s2 _ _ a1),by rw[b6,c8 (show i<ns.length by omega)];rfl⟩
 ·rintro i _ H2 hi ⟨x2,x3,vs,rfl,hD2,lv,lv2,at2,s2⟩ x H3 ⟨p,y,hp,rfl,rfl,gy⟩
  obtain⟨nx,f1⟩:∃nx,ns[i]? = some nx:=⟨_,c8 (by omega)⟩;have gy:=gy _ (SqL.of (s2 _ _ a1));rw[b6,f1]at gy;cases gy;refine a8T (SqT.of d8) ?_;have s3:d9 H2 (upd H2 p (.tup [V.int (i:Int),V.ref nx])):=A9 hp;obtain⟨H3,hH3⟩:∃H3,H3=upd H2 p (.tup [V.int (i:Int),V.ref nx]):=⟨_,rfl⟩;rw[<-hH3]at s3 ⊢;have s03:=s2.trans s3;have hl:=M5 hi;obtain⟨l,hle⟩:∃l,l=N[i]:=⟨_,rfl⟩;rw[<-hle]at hl;have hll:=h2 l (mI hl);have hx:=s03 _ _ (a3 i nx l f1 hl)
  ext
  specialize a5S ?_;exists ⟨X9 (s3 _ _ hD2),?_⟩;specialize a1u (a2B ?_);refine L9 hx ?_;rw[K9];refine⟨l.length,rfl,by omega,by omega,fun A hA=>?_⟩;rw[t6];refine b5r (fun j ys H4=>∃ws:List Addr,ys=ws.map V.ref/\ws.length=j/\(∀(q:Nat) x,ws[q]? = some x->H4 x=some (.tup [.int (i:Int),.int (q:Int)]))/\H4 A=some (.lst ys)/\d9 H3 H4) ?_ ?_ ?_ ?_
  ·exact⟨[],rfl,rfl,by simp,d8,A9 hA⟩
  ·rintro j ys H4 ⟨_,_,_,_,h,_⟩
   exact h
  ·rintro j ys H4 hj ⟨ws,rfl,lw,at4,hA4,s4⟩ R hR
   ext
   refine F7 (by simp) fun z H5 hz e5 s5=>?_
   rw[Y3]at e5;have nzA:z≠A:=(c9 hA4 hz).symm;refine hR _ _ (s5 _ _ hA4) (G8 (by rw[b9];omega)) ⟨ws++[z],by simp,by simp[lw],fun q x hq=>?_,d8,fun b o e=>?_⟩
   ·rcases W0 hq with ⟨_,g⟩ | ⟨hq',g⟩
    ·have:=s5 _ _ (at4 q x g)
     rw[i8 (O3 this (s5 _ _ hA4) (by intro z;cases z))];exact this
    ·subst g
     rw[i8 nzA,e5,hq',lw]
   ·rw[i8 (c9 e hA)];exact s5 _ _ (s4 _ _ e)
  ·rintro ys H4 ⟨ws,rfl,lw,at4,hA4,s4⟩
   ext
   have hD4:H4 D=_:=s4 _ _ (s3 _ _ hD2);have s04:=s03.trans s4;refine b9s hD4 hA4 (big (by rw[b9,b9];omega)) ?_;rw[<-u4]
   have hon:a2T N i=(C1 l.length).map fun(a:Nat)=>((i:Int),(a:Int)):=by
    unfold a2T;simp[D6,hl]
   have hU:=a4I N i;have lon:(a2T N i).length=l.length:=by rw[hon];simp
   refine⟨_,_,vs++ws,rfl,d8,by rw[hU,p5,p5,lv,lw,lon],by rw[p5];omega,fun j x s g1 g2=>?_,fun b o e=>?_⟩
   ·rw[hU]at g2
    by_cases hj:j<vs.length
    ·rw[j4 hj]at g1
     rw[j4 (by omega)]at g2;exact((at2 j x s g1 g2).ts (d9.ts (s3.trans s4))).ts (F5.put hD4)
    ·rw[J9 (by omega)]at g1
     rw[J9 (by omega),<-lv,hon,b6]at g2
     have hq:j - vs.length<l.length:=by
      have:=(gI g1);omega
     rw[Y2 hq]at g2;cases g2;have:=at4 _ _ g1;exact .inl (by rw[i8 (O3 this hD4 (by intro z;cases z))];exact this)
   ·rw[i8 (c9 e hD)];exact s04 _ _ e
def c0x(c:Cn)(H:Hp)(x:Addr)(N:Nt):Prop:=∃dx fs n,H x=some (.ins c.Q2 dx fs)/\fs.lookup ("nexts" : Str)=some (V.ref n)/\F8 H n N
theorem eq2(p q:Int):Z1 [.int p,.int q] [.int (-1),.int 0]=decide ((p,q)=FST):=by
 unfold Z1;simp only[z9,a5O,Nat.zero_add,Nat.reduceAdd,b5H];rw[show C1 2=[0,1] from rfl];simp only[X8,d4p,b2V,D6,c2l,List.getElem?_cons_succ,a4U,beq_self_eq_true];unfold FST;by_cases h:p = -1
 ·by_cases h':q=0
  ·subst h h';decide
  ·subst h
   simp[eqV,h']
 ·simp[eqV,h]
theorem a6j{K:Fg}{x:Addr}{E:XK}(ck:a1h K c)(hp:c0x c H x N)(ha:L7 K H a s)(hs:a0F N s)(k:Q (.int (G5 N s:Nat)) H):Y5 K c [.ref x,.ref a] H Q E:=by
 refine⟨rfl,?_⟩;unfold a7N
 nofun
 refine⟨_,_,_,_,rfl,rfl,ha.sq,ck.Q6 H,rfl,rfl,?_⟩;rw[eq2]
 ext
 by_cases e:s=FST
 ·exists A2 (d6x e) ?_
  unfold G5 at k;rw[if_pos e]at k;exact k
 ·exists p8 (d6w e) ?_
  rcases hs with z | ⟨p,q,l,t,rfl,h1,h2⟩
  ·exact(e z).elim
  rcases ha with ha | ⟨z,_⟩
  rotate_left
  ·exact(e z).elim
  obtain⟨dx,fs,n,hx,hf,hn⟩:=hp;specialize R0 ?_;exists ⟨x,_,dx,fs,_,rfl,hx,ck.O4,ck.Q3,hf,?_⟩;refine N8 ha (Z3 _ _) ?_;obtain⟨xs,y,f1,f2,f3,_⟩:=hn.at h1;exists C0 f1 f2 ?_;refine N8 ha (a5p _ _ _) ?_;refine C0 f3 (a9H h2) ?_
  have:G5 N ((p:Int),(q:Int))=t:=by
   unfold G5;rw[if_neg e];show(N.getD (p:Int).toNat []).getD (q:Int).toNat 0=t;rw[t6,t6];simp[D6,h1,h2]
  rw[this]at k;exact k
structure c7C(K:Fg)(H0 H:Hp)(e:Addr)(es:List Addr)(P:List (List Stp)):Prop where
 same:d9 H0 H
 h:H e=some (.lst (es.map V.ref))
 len:es.length=P.length
 nd:es.Nodup
 na:e∉es
 at_:∀(i:Nat) y S,es[i]? = some y->P[i]? = some S->D7 K H y S
 new:H0 e=none/\∀y∈es,H0 y=none
theorem c7C.add{K:Fg}{e:Addr}{es:List Addr}{P:List (List Stp)}(h:c7C K H0 H e es P){S:List Stp}{vs:List Addr}(e1:es[t]? = some y)(e2:P[t]? = some S)(hy:H y=some (.lst (vs.map V.ref)))
  (lv:vs.length=S.length) (at2:∀(i:Nat) x s,vs[i]? = some x->S[i]? = some s->L7 K H x s) (ha:L7 K H a s):c7C K H0 (upd H y (.lst ((vs++[a]).map V.ref))) e es (P.set t (S++[s])):=by
 have hm:=mI e1;have ye:y≠e:=fun z=>h.na (z ▸ hm)
 refine⟨fun b o q=>by rw[i8 (c9 q (h.new.2 y hm))];exact h.same b o q,by rw[i8 ye.symm];exact h.h,by rw[a3U];exact h.len,h.nd,h.na,fun i z S' f1 f2=>?_,h.new⟩;by_cases q:i=t
 ·subst q
  rw[e1]at f1;cases f1;rw[T0 (gI e2)]at f2;cases f2;refine⟨vs++[a],d8,by simp[lv],fun j x s' g1 g2=>?_⟩;rcases W0 g1 with ⟨_,k1⟩ | ⟨j1,k1⟩
  ·rcases W0 g2 with ⟨_,k2⟩ | ⟨j2,k2⟩
   ·exact(at2 j x s' k1 k2).ts (F5.put hy)
   ·omega
  ·rcases W0 g2 with ⟨_,k2⟩ | ⟨j2,k2⟩
   ·omega
   ·subst k1 k2
    exact ha.ts (F5.put hy)
 ·rw[V8 (Ne.symm q)]at f2
  have:z≠y:=by
   rintro rfl;exact q (d0n h.nd f1 e1)
  exact(h.at_ i z S' f1 f2).put hy this
structure a1H(K:Fg)(c:Cn)(H:Hp)(x:Addr)(N:Nt):Prop where
 ex:∃dx r n e es,H x=some (.ins c.Q2 dx [("rows",.ref r),("nexts",.ref n),("entries",.ref e)])/\a0b H r N/\F8 H n N/\H e=some (.lst ((es:List Addr).map V.ref))/\es.length=N.length /\
  ∀(t:Nat) y,es[t]? = some y->D7 K H y ((F2 N).filter fun s=>decide (G5 N s=t))
structure a6W(K:Fg)(c:Cn)(Z:Addr->Prop)(rs:List Addr)(H:Hp)(x:Addr)(N:Nt):Prop where
 ex:∃dx r n e es ns,H x=some (.ins c.Q2 dx [("rows",.ref r),("nexts",.ref n),("entries",.ref e)])/\(a0b H r N/\H r=some (.lst (rs.map V.ref)))/\H n=some (.lst ((ns:List Addr).map V.ref))/\ns.length=N.length/\(∀(i:Nat) y l,ns[i]? = some y->N[i]? = some l->H y=some (.lst (IL l))) /\
  H e=some (.lst ((es:List Addr).map V.ref))/\es.length=N.length/\(∀(t:Nat) y,es[t]? = some y->D7 K H y ((F2 N).filter fun s=>decide (G5 N s=t)))/\∀z,Z z->z≠r/\z≠n/\z≠e/\z∉ns/\z∉es
theorem a6W.at{K:Fg}{x:Addr}(h:a6W K c Z rs H x N):a1H K c H x N:=by
 obtain⟨dx,r,n,e,es,ns,h1,⟨h2,h2r⟩,h3,h4,h5,h6,h7,h8,_⟩:=h.ex;exact⟨dx,r,n,e,es,h1,h2,⟨ns,h3,h4,h5⟩,h6,h7,h8⟩
theorem a6W.same{K:Fg}{x:Addr}(h:a6W K c Z rs H x N)(s:d9 H H'):a6W K c Z rs H' x N:=by
 obtain⟨dx,r,n,e,es,ns,h1,⟨h2,h2r⟩,h3,h4,h5,h6,h7,h8,h9⟩:=h.ex;exact⟨dx,r,n,e,es,ns,s _ _ h1,⟨h2.same s,s _ _ h2r⟩,s _ _ h3,h4,fun i y l a b=>s _ _ (h5 i y l a b),s _ _ h6,h7,fun t y q=>(h8 t y q).same s,h9⟩
theorem a6W.kept{K:Fg}{x:Addr}(h:a6W K c Z rs H x N)(hB:Bag H b d)(h2':∀l∈N,l.length<=2)(k:J3 b H H'):a6W K c Z rs H' x N:=by
 obtain⟨dx,r,n,e,es,ns,h1,⟨h2,h2r⟩,h3,h4,h5,h6,h7,h8,h9⟩:=h.ex;obtain⟨bs,hb⟩:=hB.lst;refine⟨dx,r,n,e,es,ns,k.1 _ _ h1 (O3 h1 hb (by intro z;cases z)),⟨h2.kept hB k,k.1 _ _ h2r (Y9 hB h2r)⟩,k.1 _ _ h3 (Y9 hB h3),h4,fun i y l a b=>?_,k.1 _ _ h6 (Y9 hB h6),h7,fun t y q=>(h8 t y q).kept hB k,h9⟩;have q:=h5 i y l a b;exact k.1 _ _ q (b4x hB q (by rw[K9];have:=h2' l (mI b);omega))
theorem a1H.same{K:Fg}{x:Addr}(h:a1H K c H x N)(s:d9 H H'):a1H K c H' x N:=by
 obtain⟨dx,r,n,e,es,h1,h2,h3,h4,h5,h6⟩:=h.ex;exact⟨dx,r,n,e,es,s _ _ h1,h2.same s,h3.same s,s _ _ h4,h5,fun t y q=>(h6 t y q).same s⟩
theorem a1H.x{K:Fg}{x:Addr}(h:a1H K c H x N):c0x c H x N:=by
 obtain⟨dx,r,n,e,es,h1,h2,h3,_⟩:=h.ex;exact⟨dx,_,n,h1,rfl,h3⟩
theorem F8.ins{H:Hp}{a x C dx:Addr}{N:Nt}{fs:List (Str×V)}{o:HO}(h:F8 H a N)(hx:H x=some (.ins C dx fs)):F8 (upd H x o) a N:=by
 obtain⟨as,q1,q2,q3⟩:=h.ex
 exact⟨as,by rw[i8 (O3 q1 hx (by intro z;cases z))];exact q1,q2,fun j y l e1 e2=>by
  have q:=q3 j y l e1 e2;rw[i8 (O3 q hx (by intro z;cases z))];exact q⟩
theorem F5.ins{H:Hp}{x C dx:Addr}{fs:List (Str×V)}{o:HO}(hx:H x=some (.ins C dx fs)):F5 H (upd H x o):=fun a xs e=>by
 rw[i8 (O3 e hx (by intro z;cases z))];exact e
theorem a0b.ins{H:Hp}{a x C dx:Addr}{N:Nt}{fs:List (Str×V)}{o:HO}(h:a0b H a N)(hx:H x=some (.ins C dx fs)):a0b (upd H x o) a N:=by
 obtain⟨as,q1,q2,q3⟩:=h.ex;exact⟨as,by rw[i8 (O3 q1 hx (by intro z;cases z))];exact q1,q2,fun j y l e1 e2=>(q3 j y l e1 e2).ts (F5.ins hx)⟩
theorem a6G(h:∀l∈N,l.length<=2):(F2 N).length<=1+2 * N.length:=by
 have go:∀i,i<=N.length->(a3a N i).length<=1+2 * i:=by
  intro i;induction i with
  | zero=>intro _;show 1<=1;exact j9 _
  | succ i ih=>
   intro hi;rw[a4I,p5];have:=ih (by omega)
   have h2:(a2T N i).length<=2:=by
    unfold a2T;rw[b9,a0r];have e:N.getD i []=N[i]:=by simp[D6,show i<N.length by omega]
    rw[e];exact h _ (J7 _)
   omega
 exact go _ (j9 _)
theorem c1Y{S:List Stp}{f:Stp->Nat}(h:S[i]? = some s):(S.take (i+1)).filter (fun s=>decide (f s=t))=(S.take i).filter (fun s=>decide (f s=t))++(if f s=t then [s] else []):=by
 rw[F3,h,Z5];congr 1;by_cases e:f s=t
 ·rw[if_pos e];simp[e]
 ·rw[if_neg e];simp[e]
theorem b7G{K:Fg}{x:Addr}{E:XK}(ck:a1h K c)(hrs:H ra=some (.lst (rs.map V.ref)))(hr:a0b H ra N)(hn:F8 H na N)(hv:S0 N)(hx:H x=some (.ins c.Q2 dx []))
  (k:∀H',a6W K c (fun z=>∃o,H z=some o/\z≠x) rs H' x N->(∀b o,H b=some o->b≠x->H' b=some o)->Q .non H'):a5l K c [.ref x,.ref ra,.ref na] H Q E:=by
 obtain⟨rs',r1,r2,r3⟩:=id hr.ex
 obtain rfl:rs'=rs:=by
  rw[hrs]at r1;exact(a0P (f:=V.ref) (fun a b h=>V.ref.inj h) |>.mp (HO.lst.inj (Option.some.inj r1))).symm
 obtain⟨ns,n1,n2,n3⟩:=id hn.ex;have hpos:=hv.pos;have h400:=hv.le;refine⟨rfl,?_⟩;unfold b3a
 nofun
 exists b3C r1 (by rw[b9];omega) (by rw[b9];omega) ?_
 nofun
 specialize a1u (V3 ?_);refine⟨ra,rfl,⟨_,SqL.of r1⟩,fun D hD=>?_⟩;refine a0E (xs:=rs'.map V.ref) (fun i ys H2=>ys=w6 i (V.bl true)/\H2 D=some (.lst ys)/\d9 H H2) ⟨rfl,d8,A9 hD⟩ ?_ ?_ ?_ ?_
 ·rintro i ys H2 ⟨_,h,_⟩
  exact h
 ·rintro i ys H2 _ ⟨_,_,s2⟩
  exact SqL.of (s2 _ _ r1)
 ·rintro i y ys H2 hy ⟨rfl,hD2,s2⟩ R hR
  rw[b6]at hy;cases hrx:rs'[i]? with
  | none=>rw[hrx]at hy;cases hy
  | some rx=>
   rw[hrx]at hy;cases hy;have hi:i<N.length:=by rw[<-r2];exact(gI hrx)
   ext
   refine c4s ck ((r3 i rx _ hrx (M5 hi)).ts (d9.ts s2)) fun H3 s3=>?_
   refine hR _ _ (s3 _ _ hD2) (G8 (by rw[M6];omega)) ⟨b4k i,d8,fun b o e=>?_⟩;rw[i8 (c9 e hD)];exact s3 _ _ (s2 _ _ e)
 rintro ys H2 ⟨rfl,hD2,s2⟩
 ext
 refine a9F hD2 fun H3 s3=>?_
 have s03:=s2.trans s3
 ext
 nofun
 refine b5u (hr.same s03) (hn.same s03) h400 hv.two hv.lt fun H4 s4=>?_
 have s04:=s03.trans s4
 ext
 nofun
 refine b6m (hn.same s04) hv fun H5 s5=>?_
 have s05:=s04.trans s5
 ext
 exact_mod_cast N7 ?_;specialize a4h ?_;refine a8U (s05 _ _ r1) fun rp H6 hrp e6 s6=>?_
 have s06:=s05.trans s6
 ext
 refine⟨x,_,dx,[],rfl,s06 _ _ hx,ck.O4,ck.Z0,by simp,?_⟩;obtain⟨H7,hH7⟩:∃H7,H7=upd H6 x (.ins c.Q2 dx (X7 "rows" (.ref rp) [])):=⟨_,rfl⟩;have x7:H7 x=some (.ins c.Q2 dx [("rows",.ref rp)]):=hH7 ▸ d8;have f7:∀b o,H6 b=some o->b≠x->H7 b=some o:=fun b o e n=>by rw[hH7,i8 n];exact e
 have rows7:a0b H7 rp N:=by
  have q:a0b H6 rp N:=⟨rs',e6,r2,fun i y l a b=>(r3 i y l a b).ts (d9.ts s06)⟩;rw[hH7];exact q.ins (s06 _ _ hx)
 have net7:F8 H7 na N:=by rw[hH7];exact(hn.same s06).ins (s06 _ _ hx)
 have ra7:H7 ra=some (.lst (rs'.map V.ref)):=f7 _ _ (s06 _ _ r1) (O3 r1 hx (by intro z;cases z));rw[<-hH7];clear hH7;exact_mod_cast N7 ?_;exact_mod_cast a4h ?_;exact_mod_cast a1u (V3 ?_);obtain⟨ns',m1,m2,m3⟩:=id net7.ex
 ext
 refine⟨na,rfl,⟨_,SqL.of m1⟩,fun np hnp=>?_⟩;refine a0E (xs:=ns'.map V.ref) (fun i ys H8=>∃as:List Addr,ys=as.map V.ref/\as.length=i/\(∀(j:Nat) y l,as[j]? = some y->N[j]? = some l->H8 y=some (.lst (IL l))/\y≠np)/\H8 np=some (.lst ys)/\d9 H7 H8/\∀y∈as,H7 y=none) ?_ ?_ ?_ ?_ ?_
 ·exact⟨[],rfl,rfl,by simp,d8,A9 hnp,by simp⟩
 ·rintro i ys H8 ⟨_,_,_,_,h,_⟩
  exact h
 ·rintro i ys H8 _ ⟨_,_,_,_,_,s8,_⟩
  exact SqL.of (s8 _ _ m1)
 ·rintro i y ys H8 hy ⟨as,rfl,la,at8,hnp8,s8,fr8⟩ R hR
  rw[b6]at hy;cases hnx:ns'[i]? with
  | none=>rw[hnx]at hy;cases hy
  | some nx=>
   rw[hnx]at hy;cases hy;have hi:i<N.length:=by rw[<-m2];exact(gI hnx)
   ext
   refine a8U (s8 _ _ (m3 i nx _ hnx (M5 hi))) fun q H9 hq e9 s9=>?_
   have nq:q≠np:=(c9 hnp8 hq).symm;refine hR _ _ (s9 _ _ hnp8) (G8 (by rw[b9];omega)) ⟨as++[q],by simp,by simp[la],fun j y l g1 g2=>?_,d8,fun b o e=>?_,fun y hy=>?_⟩
   ·rcases W0 g1 with ⟨_,f1⟩ | ⟨hj,f1⟩
    ·obtain⟨f2,f3⟩:=at8 j y l f1 g2
     exact⟨by rw[i8 f3];exact s9 _ _ f2,f3⟩
    ·rw[hj,la,M5 hi]at g2
     cases g2;subst f1;exact⟨by rw[i8 nq];exact e9,nq⟩
   ·rw[i8 (c9 e hnp)];exact s9 _ _ (s8 _ _ e)
   ·rcases z8.mp hy with z | z
    ·exact fr8 y z
    ·rw[v6.mp z];exact s8.free hq
 rintro ys H8 ⟨as,rfl,la,at8,hnp8,s8,fr8⟩;rw[b9,m2]at la;have net8:F8 H8 np N:=⟨as,hnp8,la,fun i y l a b=>(at8 i y l a b).1⟩
 ext
 refine⟨x,_,dx,_,rfl,s8 _ _ x7,ck.O4,ck.Q3,by simp,?_⟩;obtain⟨H9,hH9⟩:∃H9,H9=upd H8 x (.ins c.Q2 dx (X7 "nexts" (.ref np) [("rows",.ref rp)])):=⟨_,rfl⟩
 have x9:H9 x=some (.ins c.Q2 dx [("rows",.ref rp),("nexts",.ref np)]):=by
  rw[hH9,d8];simp only[X7];rw[if_neg (by decide)]
 have f9:∀b o,H8 b=some o->b≠x->H9 b=some o:=fun b o e n=>by rw[hH9,i8 n];exact e
 have rows9:a0b H9 rp N:=by rw[hH9];exact(rows7.same s8).ins (s8 _ _ x7)
 have net9:F8 H9 np N:=by rw[hH9];exact net8.ins (s8 _ _ x7)
 have ra9:H9 ra=some (.lst (rs'.map V.ref)):=f9 _ _ (s8 _ _ ra7) (O3 ra7 x7 (by intro z;cases z));rw[<-hH9];clear hH9;exact_mod_cast N7 ?_;exact_mod_cast a4h ?_;specialize a1u (V3 ?_);refine⟨ra,rfl,⟨_,SqL.of ra9⟩,fun ep hep=>?_⟩;refine a0E (xs:=rs'.map V.ref) (fun i ys H10=>∃es,ys=es.map V.ref/\a8E H9 H10 ep es (w6 i [])) ?_ ?_ ?_ ?_ ?_
 ·exact⟨[],rfl,.nil hep (A9 hep) d8⟩
 ·rintro i ys H10 ⟨es,rfl,I⟩
  exact I.h
 ·rintro i ys H10 _ ⟨es,rfl,I⟩
  exact SqL.of (I.same _ _ ra9)
 ·rintro i y ys H10 hy ⟨es,rfl,I⟩ R hR
  have hi:i<N.length:=by
   have:=(gI hy);rw[b9,r2]at this;exact this
  ext
  refine F7 (by simp) fun p H11 hp e11 s11=>?_
  have:=I.len;rw[M6]at this;refine hR _ _ (s11 _ _ I.h) (G8 (by rw[b9];omega)) ⟨es++[p],by simp,?_⟩;have q:=I.snoc hp e11 s11;rw[show w6 i ([]:List Nat)++[[]]=w6 (i+1) [] from by rw[b0w]]at q;rw[show es.map V.ref++[V.ref p]=(es++[p]).map V.ref by simp];exact q
 rintro ys H10 ⟨es,rfl,I10⟩;rw[b9,r2]at I10
 ext
 have x10:=I10.same _ _ x9;refine⟨x,_,dx,_,rfl,x10,ck.O4,ck.a1L,by simp,?_⟩;obtain⟨F,hF⟩:∃F:List (Str×V),F=([("rows",.ref rp),("nexts",.ref np),("entries",.ref ep)]:List (Str×V)):=⟨_,rfl⟩
 have hput:X7 "entries" (.ref ep) [("rows",.ref rp),("nexts",.ref np)]=F:=by
  rw[hF];simp only[X7];rw[if_neg (by decide),if_neg (by decide)]
 rw[hput];obtain⟨H11,hH11⟩:∃H11,H11=upd H10 x (.ins c.Q2 dx F):=⟨_,rfl⟩;obtain⟨H0,hH0⟩:∃H0,H0=upd H9 x (.ins c.Q2 dx F):=⟨_,rfl⟩;have x0:H0 x=some (.ins c.Q2 dx F):=hH0 ▸ d8;have f0:∀b o,H9 b=some o->b≠x->H0 b=some o:=fun b o e n=>by rw[hH0,i8 n];exact e
 have rows0:a0b H0 rp N:=by rw[hH0];exact rows9.ins x9
 have net0:F8 H0 np N:=by rw[hH0];exact net9.ins x9
 have np0:H0 np=some (.lst (as.map V.ref)):=by
  have:=f9 _ _ hnp8 (O3 hnp8 (s8 _ _ x7) (by intro z;cases z));exact f0 _ _ this (O3 this x9 (by intro z;cases z))
 have rp0:H0 rp=some (.lst (rs'.map V.ref)):=by
  have q:=s8 _ _ (f7 _ _ e6 (O3 e6 (s06 _ _ hx) (by intro z;cases z)));have q:=f9 _ _ q (O3 q (s8 _ _ x7) (by intro z;cases z));exact f0 _ _ q (O3 q x9 (by intro z;cases z))
 have at0:∀(i:Nat) y l,as[i]? = some y->N[i]? = some l->H0 y=some (.lst (IL l)):=fun i y l a b=>by
  have q:=(at8 i y l a b).1;have q:=f9 _ _ q (O3 q (s8 _ _ x7) (by intro z;cases z));exact f0 _ _ q (O3 q x9 (by intro z;cases z))
 have old9:∀b o,H b=some o->b≠x->H9 b=some o:=fun b o e n=>f9 _ _ (s8 _ _ (f7 _ _ (s06 _ _ e) n)) n
 have ent11:c7C K H0 H11 ep es (w6 N.length []):=by
  have nxe:x≠ep:=c9 x9 hep;have nxes:∀y∈es,x≠y:=fun y hy=>c9 x9 (I10.new.2 y hy)
  refine⟨fun b o e=>?_,by rw[hH11,i8 nxe.symm];exact I10.h,by rw[M6];have:=I10.len;rwa [M6]at this,I10.nd,I10.na,fun i y S a b=>?_,by rw[hH0,i8 nxe.symm];exact hep,fun y hy=>by rw[hH0,i8 (nxes y hy).symm];exact I10.new.2 y hy⟩
  ·rw[hH0]at e
   rw[hH11];by_cases q:b=x
   ·subst q
    rw[d8]at e ⊢;exact e
   ·rw[i8 q]at e ⊢
    exact I10.same _ _ e
  ·have hi:=(gI b)
   rw[M6]at hi;have q:=I10.at_ i y [] a (by rw[N4,if_pos hi]);rw[N4,if_pos hi]at b;cases b;refine⟨[],?_,rfl,by simp⟩;rw[hH11,i8 (O3 q x10 (by intro z;cases z))];exact q
 have old:∀b o,H b=some o->b≠x->H0 b=some o:=fun b o e n=>f0 _ _ (f9 _ _ (s8 _ _ (f7 _ _ (s06 _ _ e) n)) n) n
 rw[<-hH11];clear hH11 hH0 I10 x10 f0 f9 x9 ra9 net9 rows9;specialize a0g (V3 ?_);specialize R0 ?_;exists ⟨x,_,dx,F,.ref np,rfl,ent11.same _ _ x0,ck.O4,ck.Q3,by rw[hF];rfl,?_⟩;refine b3c ck (net0.same ent11.same) h400 hv.two fun sl H12 hsl S12 s12=>?_
 obtain⟨vs,v1,v2,v3⟩:=id S12.ex
 have nsl:sl∉es:=fun z=>by
  obtain⟨i,hi⟩:=i9.mp z
  have hil:i<N.length:=by
   have:=ent11.len;rw[M6]at this;rw[<-this];exact(gI hi)
  obtain⟨ws,w1,_⟩:=(ent11.at_ i sl [] hi (by rw[N4,if_pos hil])).ex;rw[hsl]at w1;cases w1
 refine⟨sl,rfl,⟨_,SqL.of v1⟩,a1v (xs:=vs.map V.ref) (fun i σ H13=>∃x3 P,σ=[some (.ref x),some (.ref ra),some (.ref na),x3]/\c7C K H0 H13 ep es P/\P.length=N.length/\(∀t,t<N.length->P[t]? = some (((F2 N).take i).filter fun s=>decide (G5 N s=t)))/\D7 K H13 sl (F2 N)/\H13 sl=some (.lst (vs.map V.ref))) ?_ ?_ ?_ ?_⟩
 ·refine⟨_,w6 N.length [],rfl,⟨ent11.same.trans s12,s12 _ _ ent11.h,ent11.len,ent11.nd,ent11.na,fun i y S a b=>(ent11.at_ i y S a b).same s12,ent11.new⟩,by simp,fun t ht=>by rw[N4,if_pos ht];simp,S12,v1⟩
 ·rintro i σ H13 _ ⟨_,_,_,_,_,_,_,h⟩
  exact SqL.of h
 ·rintro i y _ H13 hy ⟨x3,P,rfl,I13,lP,hP,S13,hsl13⟩
  rw[b6]at hy;cases hvx:vs[i]? with
  | none=>rw[hvx]at hy;cases hy
  | some vx=>
   rw[hvx]at hy;cases hy;obtain⟨ws,w1,w2,w3⟩:=S13.ex
   have ews:ws=vs:=by
    rw[hsl13]at w1;have:=a0P (f:=V.ref) (fun a b h=>V.ref.inj h) |>.mp (HO.lst.inj (Option.some.inj w1))
    exact this.symm
   subst ews;have hi:i<(F2 N).length:=by rw[<-w2];exact(gI hvx)
   obtain⟨s,hs⟩:∃s,(F2 N)[i]? = some s:=⟨_,c8 hi⟩;have hst:=w3 i vx s hvx hs;have hm:=mI hs;have his:=a1O hm;have hlt:=a8X hv his;have x13:=I13.same _ _ x0
   ext
   specialize a5S ?_;specialize R0 ?_;refine⟨x,_,dx,F,.ref ep,rfl,x13,ck.O4,ck.a1L,by rw[hF];rfl,?_⟩;specialize V2 ?_;exists ⟨x,dx,F,rfl,x13,by rw[hF];rfl,?_⟩;refine a6j ck ⟨dx,F,np,x13,by rw[hF];rfl,net0.same I13.same⟩ hst his ?_;obtain⟨z,hz⟩:∃z,es[G5 N s]? = some z:=⟨_,c8 (by have:=I13.len;omega)⟩;refine C0 I13.h (P4 (by rw[b6,hz];rfl)) ?_;have hPt:=hP _ hlt;obtain⟨us,u1,u2,u3⟩:=(I13.at_ _ z _ hz hPt).ex;exists ⟨X9 u1,?_⟩
   have hul:us.length<=i:=by
    rw[u2];refine J4 (M7 _ _) ?_;rw[C5];omega
   have hlen1:(F2 N).length<=1000:=by
    rw[<-w2];have:(F2 N).length<=1+2 * N.length:=a6G hv.two;omega
   refine W3 u1 (G8 (by rw[b9];omega)) ?_;have add:=I13.add (a:=vx) (s:=s) hz hPt u1 u2 u3 hst;rw[show us.map V.ref++[V.ref vx]=(us++[vx]).map V.ref by simp];have nz:sl≠z:=fun q=>nsl (q ▸ mI hz)
   refine⟨_,_,rfl,add,by rw[a3U];exact lP,fun t ht=>?_,S13.put u1 nz,by rw[i8 nz];exact hsl13⟩;rw[c1Y hs];by_cases q:G5 N s=t
   ·subst q
    rw[T0 (by omega),if_pos rfl]
   ·rw[V8 q,if_neg q,V0]
    exact hP t ht
 ·rintro _ H13 ⟨x3,P,rfl,I13,lP,hP,S13,hsl13⟩
  have f8:∀b o,H b=some o->b≠x->H7 b=some o:=fun b o e n=>f7 _ _ (s06 _ _ e) n
  refine k H13 ⟨dx,rp,np,ep,es,as,hF ▸ I13.same _ _ x0,⟨rows0.same I13.same,I13.same _ _ rp0⟩,I13.same _ _ np0,la,fun i y l a b=>I13.same _ _ (at0 i y l a b),I13.h,by rw[I13.len,lP],fun t y hy=>?_,fun z ⟨o,ho,hzx⟩=>⟨c9 (s05 _ _ ho) hrp,c9 (f8 _ _ ho hzx) hnp,c9 (old9 _ _ ho hzx) hep,fun q=>c9 (f8 _ _ ho hzx) (fr8 z q) rfl,fun q=>c9 (old _ _ ho hzx) (I13.new.2 z q) rfl⟩⟩ fun b o e n=>I13.same _ _ (old b o e n)
  have ht:t<N.length:=by
   have:=(gI hy);have:=I13.len;omega
  have q:=I13.at_ t y _ hy (hP t ht);rw[b9,v2,J5]at q;exact q
def a8A(H:Hp)(xs ds:List V):Bool:=match xs with
 | [.str k,_,.ref q]=>match H q with
  | some (.tup qs)=>decide (k=("set" : Str))&&Z1 qs ds
  | _=>false
 | _=>false
def a0k(xs ds:List V):Bool:=match xs with
 | .str k::n::_=>(decide (k=("set" : Str))||decide (k=("copy" : Str))||decide (k=("take" : Str)))&&inV n (ds.drop 1)
 | _=>false
theorem b3e(v:V)(ds:List V):a0k [.str "tell",v] ds=false:=by
 show((decide (("tell" : Str) = "set")||decide (("tell" : Str) = "copy")||decide (("tell" : Str) = "take"))&&inV v (ds.drop 1))=false;rw[show(decide (("tell" : Str) = "set")||decide (("tell" : Str) = "copy")||decide (("tell" : Str) = "take"))=false by decide];rfl
theorem b4u(v:V)(ds:List V):a0k [.str "ask",v] ds=false:=by
 show((decide (("ask" : Str) = "set")||decide (("ask" : Str) = "copy")||decide (("ask" : Str) = "take"))&&inV v (ds.drop 1))=false;rw[show(decide (("ask" : Str) = "set")||decide (("ask" : Str) = "copy")||decide (("ask" : Str) = "take"))=false by decide];rfl
theorem a6T(h:b1F H xs)(t:F5 H H'):a8A H' xs ds=a8A H xs ds:=by
 cases h with
 | set n p a d=>
  obtain⟨k,v1,v2,h,_⟩:=d;simp only[a8A,h,t _ _ h]
 | copy n v a o=>
  rcases o with ⟨s,rfl,_⟩ | ⟨z,rfl,_⟩ <;> rfl
 | take n a=>rfl
 | tell v o=>rfl
 | ask v o=>rfl
 | skip=>rfl
structure a0w(H:Hp)(d:Addr)(ds:List V):Prop where
 h:H d=some (.tup ds)
 ex:∃k v1 v2,ds=[.str k,v1,v2]/\OpN v1/\OpN v2
theorem a0w.ts(h:a0w H d ds)(t:F5 H H'):a0w H' d ds:=⟨t _ _ h.h,h.ex⟩
theorem a8F.q(h:a8F H d):∃ds,a0w H d ds:=by
 obtain⟨k,v1,v2,h,a,b,_⟩:=h;exact⟨_,h,k,v1,v2,rfl,a,b⟩
theorem a0w.flat{H:Hp}{d:Addr}{ds:List V}(h:a0w H d ds):ds.all O8=true:=by
 obtain⟨k,v1,v2,rfl,a,b⟩:=h.ex;rw[X8,X8,X8,a.flat,b.flat];rfl
theorem a0w.flat1(h:a0w H d ds):(ds.drop 1).all O8=true:=by
 obtain⟨k,v1,v2,rfl,a,b⟩:=h.ex;simp[a.flat,b.flat]
theorem c9x(h:a0w H d ds):inV .non (ds.drop 1)=false:=by
 obtain⟨k,v1,v2,rfl,a,b⟩:=h.ex;show inV .non [v1,v2]=false;rcases a with ⟨s,rfl,_⟩ | ⟨n,rfl,_⟩ <;> rcases b with ⟨s',rfl,_⟩ | ⟨n',rfl,_⟩ <;> rfl
def b8p(H:Hp)(p:Addr)(xs:List V):Prop:=H p=some (.tup xs)/\b1F H xs
theorem b8p.ts(h:b8p H p xs)(t:F5 H H'):b8p H' p xs:=⟨t _ _ h.1,h.2.ts t⟩
theorem b5D.x{a:Bool}(h:b5D H (.ref p) a):∃xs,b8p H p xs:=by
 obtain⟨q,xs,e,h1,h2,_⟩:=h;cases e;exact⟨xs,h1,h2⟩
theorem b1F.head(h:b1F H xs):∃k r,xs=.str k::r:=by cases h <;> exact⟨_,_,rfl⟩
theorem a6H{K:Fg}{E:XK}(hr:b8p H p xs)(hd:a0w H d ds)(k:∀H',d9 H H'->Q (.bl (a0k xs ds)) H'):a3q K [.ref p,.ref d] H Q E:=by
 refine⟨rfl,?_⟩;unfold b9b
 ext
 have sl:∀(v:V) H1,d9 H H1->O8 v=true->inV v (ds.drop 1)=a0k xs ds->tSl qSl (b4 1) (a6E (tC (.int 1))) a2o [some (.ref p),some (.ref d)] H1 fun y H2=>qIn false v y H2 Q:=by
  intro v H1 s1 fv e
  ext
  obtain⟨k0,v1,v2,rfl,_⟩:=hd.ex;refine c6d (s1 _ _ hd.h) (b5a _ _) fun q H2 hq e2 s2=>?_
  rw[c9G]at e2;refine b3h e2 fv hd.flat1 ?_;rw[show inV v [v1,v2]=a0k xs [.str k0,v1,v2] from e];exact k H2 (s1.trans s2)
 have none':∀H1,d9 H H1->a0k xs ds=false->(fun(v:V) H1=>tSl qSl (b4 1) (a6E (tC (.int 1))) a2o [some (.ref p),some (.ref d)] H1 fun y H2=>qIn false v y H2 Q) .non H1:=
  fun H1 s1 e=>sl .non H1 s1 rfl (by rw[c9x hd,e])
 refine⟨rfl,?_⟩;unfold b9c;obtain⟨hp,hs⟩:=hr;obtain⟨k0,r,rfl⟩:=hs.head
 ext
 exists N8 hp (Z3 _ _) ?_;refine F7 (by simp) fun q H1 hq e1 s1=>?_
 exists b3h e1 rfl rfl ?_;cases hs with
 | set n p2 a d2=>
  exists A2 (by decide +kernel) ?_;refine N8 (s1 _ _ hp) (a5p _ _ _) ?_;exact sl _ H1 s1 rfl (by simp[a0k])
 | copy n v a o=>
  exists A2 (by decide +kernel) ?_;refine N8 (s1 _ _ hp) (a5p _ _ _) ?_;exact sl _ H1 s1 rfl (by simp[a0k])
 | take n a=>
  exists A2 (by decide +kernel) ?_;refine N8 (s1 _ _ hp) (a5p _ _ _) ?_;exact sl _ H1 s1 rfl (by simp[a0k])
 | tell v o=>
  refine p8 (by decide +kernel) ?_;exact_mod_cast s_c ?_;exact none' H1 s1 (b3e _ _)
 | ask v o=>
  refine p8 (by decide +kernel) ?_;exact_mod_cast s_c ?_;exact none' H1 s1 (b4u _ _)
 | skip=>
  refine p8 (by decide +kernel) ?_;exact_mod_cast s_c ?_;exact none' H1 s1 rfl
theorem b3O{K:Fg}{E:XK}(hr:b8p H p xs)(hd:a0w H d ds)(k:Q (.bl (a8A H xs ds)) H):a7f K [.ref p,.ref d] H Q E:=by
 obtain⟨hp,hs⟩:=hr;have none':a8A H xs ds=false->qEq .non (.ref d) H Q:=fun e=>⟨false,d2x hd.h,by rw[e]at k;exact k⟩
 refine⟨rfl,?_⟩;unfold c5H
 ext
 refine⟨rfl,?_⟩;unfold b6C;obtain⟨k0,r,rfl⟩:=hs.head
 ext
 exists N8 hp (Z3 _ _) ?_;cases hs with
 | set n p2 a d2=>
  exists A2 (by decide) ?_;exists N8 hp (c2h _ _ _ _) ?_;obtain⟨k1,w1,w2,h2,o1,o2,_⟩:=d2;refine⟨_,b1q h2 hd.h (by rw[X8,X8,X8,o1.flat,o2.flat];rfl) hd.flat,?_⟩;simp only[a8A,h2]at k;simpa using k
 | copy n v a o=>
  exists p8 (by decide) ?_;refine none' ?_;rcases o with ⟨s,rfl,_⟩ | ⟨z,rfl,_⟩ <;> rfl
 | take n a=>
  exists p8 (by decide) ?_;exact none' rfl
 | tell v o=>
  exists p8 (by decide) ?_;exact none' rfl
 | ask v o=>
  exists p8 (by decide) ?_;exact none' rfl
 | skip=>
  exists p8 (by decide) ?_;exact none' rfl
theorem a4P{K:Fg}{E:XK}(hr:b8p H p xs)(hd:a0w H d ds)(k:Q (.bl (a8A H xs ds)) H):a0T K [.ref p,.ref d] H Q E:=by
 obtain⟨hp,hs⟩:=hr;refine⟨rfl,?_⟩;unfold b4o;obtain⟨k0,r,rfl⟩:=hs.head
 ext
 exists N8 hp (Z3 _ _) ?_;cases hs with
 | set n p2 a d2=>
  exists A2 (by decide) ?_;exists N8 hp (c2h _ _ _ _) ?_;obtain⟨k1,w1,w2,h2,o1,o2,_⟩:=d2;refine⟨_,b1q h2 hd.h (by rw[X8,X8,X8,o1.flat,o2.flat];rfl) hd.flat,?_⟩;simp only[a8A,h2]at k;simpa using k
 | copy n v a o=>
  refine p8 (by decide) ?_;have:a8A H [.str "copy",.str n,v] ds=false:=by rcases o with ⟨s,rfl,_⟩ | ⟨z,rfl,_⟩ <;> rfl
  rw[this]at k;exact k
 | take n a=>exact p8 (by decide) k
 | tell v o=>exact p8 (by decide) k
 | ask v o=>exact p8 (by decide) k
 | skip=>exact p8 (by decide) k
theorem a1f{K:Fg}{E:XK}(hr:b8p H p xs)(hd:a0w H d ds)(k:∀H',d9 H H'->Q (.bl (a0k xs ds)) H'):T4 K [.ref p,.ref d] H Q E:=by
 refine⟨rfl,?_⟩;unfold b0J;obtain⟨hp,hs⟩:=hr
 have sl:∀(v:V) H1,d9 H H1->O8 v=true->inV v (ds.drop 1)=a0k xs ds->tSl qSl (b4 1) (a6E (tC (.int 1))) a2o [some (.ref p),some (.ref d)] H1 fun y H2=>qIn false v y H2 Q:=by
  intro v H1 s1 fv e
  ext
  obtain⟨k0,v1,v2,rfl,_⟩:=hd.ex;refine c6d (s1 _ _ hd.h) (b5a _ _) fun q H2 hq e2 s2=>?_
  rw[c9G]at e2;refine b3h e2 fv hd.flat1 ?_;rw[show inV v [v1,v2]=a0k xs [.str k0,v1,v2] from e];exact k H2 (s1.trans s2)
 obtain⟨k0,r,rfl⟩:=hs.head
 ext
 exists N8 hp (Z3 _ _) ?_;refine F7 (by simp) fun q H1 hq e1 s1=>?_
 refine b3h e1 rfl rfl ?_;refine⟨_,rfl,?_⟩;cases hs with
 | set n p2 a d2=>
  exists A2 (by decide +kernel) ?_;refine N8 (s1 _ _ hp) (a5p _ _ _) ?_;exact sl _ H1 s1 rfl (by simp[a0k])
 | copy n v a o=>
  exists A2 (by decide +kernel) ?_;refine N8 (s1 _ _ hp) (a5p _ _ _) ?_;exact sl _ H1 s1 rfl (by simp[a0k])
 | take n a=>
  exists A2 (by decide +kernel) ?_;refine N8 (s1 _ _ hp) (a5p _ _ _) ?_;exact sl _ H1 s1 rfl (by simp[a0k])
 | tell v o=>
  refine p8 (by decide +kernel) ?_;have e:a0k [.str "tell",v] ds=false:=b3e _ _;rw[<-e];exact k H1 s1
 | ask v o=>
  refine p8 (by decide +kernel) ?_;have e:a0k [.str "ask",v] ds=false:=b4u _ _;rw[<-e];exact k H1 s1
 | skip=>
  refine p8 (by decide +kernel) ?_;exact k H1 s1
theorem b2m(h:to σ H fun x H1=>ti σ H1 fun y H2=>∃a v,x=.ref a/\a4R H2 a y (some v)/\Q v H2):b0Q to ti σ H Q:=h
theorem c2A{ti:TIp}{x:V}(e:σ[n]? = some (some x))(h:te σ H fun y H1=>ti x y H1 fun z H2=>D.nx (σ.set n (some z)) H2):c0P n te ti D σ H:=⟨x,e,h⟩
theorem d0u{K:Fg}(k:∀d H',H d=none->H' d=some (.dK [(Sum.inl 0,.ref a)])->d9 H H'->Q (.ref d) H'):b6D ((tC (.int 0),tC (.ref a))::[]) σ H Q:=by
 intro d hd;refine⟨d8,[(Sum.inl 0,.ref a)],rfl,by simp,?_⟩;have e:(upd (upd H d (.dK [])) d (.dK (b0i [] [(Sum.inl 0,V.ref a)])))=upd H d (.dK [(Sum.inl 0,.ref a)]):=by rw[b3G];rfl
 rw[e];exact k d _ hd d8 (A9 hd)
def a4Q(H:Hp)(rs:List Addr)(ds:List V)(Do Sp:Nat->Bool):Prop:=∀(p:Nat) rx,rs[p]? = some rx->∃xs,b8p H rx xs/\a8A H xs ds=Do p/\a0k xs ds=Sp p
theorem a4Q.ts{Sp:Nat->Bool}(h:a4Q H rs ds Do Sp)(t:F5 H H'):a4Q H' rs ds Do Sp:=fun p rx e=>by
 obtain⟨xs,q1,q2,q3⟩:=h p rx e;exact⟨xs,q1.ts t,by rw[a6T q1.2 t];exact q2,q3⟩
theorem a4Q.ex(hr:a0b H a N)(h:H a=some (.lst (rs.map V.ref)))(ds:List V):∃Do Sp,a4Q H rs ds Do Sp:=by
 obtain⟨rs',r1,r2,r3⟩:=hr.ex
 obtain rfl:rs'=rs:=by
  rw[h]at r1;exact(a0P (f:=V.ref) (fun a b h=>V.ref.inj h) |>.mp (HO.lst.inj (Option.some.inj r1))).symm
 refine⟨fun p=>match rs'[p]? with | some rx=>(match H rx with | some (.tup xs)=>a8A H xs ds | _=>false) | none=>false,fun p=>match rs'[p]? with | some rx=>(match H rx with | some (.tup xs)=>a0k xs ds | _=>false) | none=>false,fun p rx e=>?_⟩;have hp:p<N.length:=by rw[<-r2];exact(gI e)
 obtain⟨xs,q⟩:=(r3 p rx _ e (M5 hp)).x;refine⟨xs,q,?_,?_⟩
 ·simp only[e,q.1]
 ·simp only[e,q.1]
def Jst(N:Nt)(Do Sp:Nat->Bool)(S:List Nat)(i:Nat)(s:Stp)(t:Nat):Prop:=
 (i=0/\s=FST/\t=0)\/∃(p q:Nat) (l:List Nat),s=((p:Int),(q:Int))/\N[p]? = some l/\l[q]? = some t/\(Sp p=true\/∃j,j<i/\S[j]? = some p/\Do p=false)
theorem Jst.grow{Sp:Nat->Bool}{S ext:List Nat}(h:Jst N Do Sp S i s t):Jst N Do Sp (S++ext) i s t:=by
 rcases h with h | ⟨p,q,l,h1,h2,h3,h4⟩
 ·exact .inl h
 ·refine .inr ⟨p,q,l,h1,h2,h3,?_⟩
  rcases h4 with h4 | ⟨j,j1,j2,j3⟩
  ·exact .inl h4
  ·exact .inr ⟨j,j1,by rw[j4 (gI j2)];exact j2,j3⟩
theorem Jst.step{N:Nt}{Do Sp:Nat->Bool}{S:List Nat}{i:Nat}{s:Stp}{t:Nat}(h:Jst N Do Sp S i s t):a0F N s/\G5 N s=t:=by
 rcases h with ⟨_,rfl,rfl⟩ | ⟨p,q,l,rfl,h2,h3,_⟩
 ·exact⟨.inl rfl,by unfold G5;rw[if_pos rfl]⟩
 ·refine⟨.inr ⟨p,q,l,t,rfl,h2,h3⟩,?_⟩
  unfold G5
  rw[if_neg (by
   unfold FST;intro z;have:=congrArg Prod.fst z;simp at this)]
  show(N.getD (p:Int).toNat []).getD (q:Int).toNat 0=t;rw[t6,t6];simp[D6,h2,h3]
structure CbK(K:Fg)(H:Hp)(d:Addr)(N:Nt)(Do Sp:Nat->Bool)(S:List Nat)(kvs:List (Key×V)):Prop where
 hd:H d=some (.dK kvs)
 nd:S.Nodup
 lt:∀t∈S,t<N.length
 len:kvs.length=S.length
 z:S[0]? = some 0
 at_:∀(i:Nat) t,S[i]? = some t->∃a s,kvs[i]? = some (Sum.inl (t:Int),.ref a)/\L7 K H a s/\Jst N Do Sp S i s t
theorem CbK.keys{K:Fg}{Sp:Nat->Bool}{S:List Nat}(h:CbK K H d N Do Sp S kvs):kvs.map (·.1)=S.map fun(t:Nat)=>(Sum.inl (t:Int):Key):=by
 apply a0s;intro i;rw[b6,b6];cases e:S[i]? with
 | none=>
  have:kvs[i]? = none:=by
   rw[G7]at e ⊢;have:=h.len;omega
  rw[this];rfl
 | some t=>
  obtain⟨a,s,q,_⟩:=h.at_ i t e;rw[q];rfl
theorem CbK.ndk{K:Fg}{Sp:Nat->Bool}{S:List Nat}(h:CbK K H d N Do Sp S kvs):(kvs.map (·.1)).Nodup:=by
 rw[h.keys];refine a1J _ (fun a b hab z=>hab ?_) h.nd;have:=Sum.inl.inj z;omega
theorem CbK.in_{K:Fg}{Sp:Nat->Bool}{S:List Nat}(h:CbK K H d N Do Sp S kvs)(t:Nat):(a6n kvs (Sum.inl (t:Int))).isSome=decide (t∈S):=by
 by_cases ht:t∈S
 ·rw[d6x ht]
  obtain⟨i,hi⟩:=i9.mp ht;obtain⟨a,s,q,_⟩:=h.at_ i t hi;rw[a4F h.ndk (mI q)];rfl
 ·rw[d6w ht]
  cases e:a6n kvs (Sum.inl (t:Int))with
  | none=>rfl
  | some v=>
   have:=b7k e;rw[h.keys]at this;obtain⟨u,hu,z⟩:=A8.mp this;have:=Sum.inl.inj z
   exact absurd (show t ∈ S from (by have : u = t := by omega
                                     exact this ▸ hu)) ht
theorem CbK.notin{K:Fg}{Sp:Nat->Bool}{S:List Nat}(h:CbK K H d N Do Sp S kvs)(t:Nat):∃o,a4R H d (.int (t:Int)) o/\o.isSome=decide (t∈S):=⟨_,a4R.k (k:=Sum.inl (t:Int)) h.hd,h.in_ t⟩
theorem CbK.same{K:Fg}{Sp:Nat->Bool}{S:List Nat}(h:CbK K H d N Do Sp S kvs)(s:d9 H H'):CbK K H' d N Do Sp S kvs:=
 ⟨s _ _ h.hd,h.nd,h.lt,h.len,h.z,fun i t e=>let⟨a,st,q1,q2,q3⟩:=h.at_ i t e; ⟨a,st,q1,q2.ts (d9.ts s),q3⟩⟩
theorem CbK.add{K:Fg}{Sp:Nat->Bool}{S:List Nat}(h:CbK K H d N Do Sp S kvs)(ht:¬t∈S)(hlt:t<N.length)(ha:L7 K H a s)(hj:Jst N Do Sp S S.length s t) :
  CbK K (upd H d (.dK (a1Z kvs (Sum.inl (t:Int)) (.ref a)))) d N Do Sp (S++[t]) (a1Z kvs (Sum.inl (t:Int)) (.ref a)):=by
 have e:a1Z kvs (Sum.inl (t:Int)) (.ref a)=kvs++[(Sum.inl (t:Int),.ref a)]:=by
  unfold a1Z;rw[a4G,h.in_,d6w ht,if_neg (by decide)]
 rw[e];have ts:F5 H (upd H d (.dK (kvs++[(Sum.inl (t:Int),.ref a)]))):=fun b xs q=>by rw[i8 (O3 q h.hd (by intro z;cases z))];exact q
 refine⟨d8,?_,fun u hu=>?_,by simp[h.len],?_,fun i u hu=>?_⟩
 ·rw[a0q]
  exact⟨h.nd,by simp,fun x hx y hy=>by rw[v6.mp hy];intro z;exact ht (z ▸ hx)⟩
 ·rcases z8.mp hu with q | q
  ·exact h.lt u q
  ·rw[v6.mp q];exact hlt
 ·rw[j4 (k8.mp h.z).1];exact h.z
 ·rcases W0 hu with ⟨hi,g⟩ | ⟨hi,g⟩
  ·obtain⟨a',s',q1,q2,q3⟩:=h.at_ i u g
   exact⟨a',s',by rw[j4 (gI q1)];exact q1,q2.ts ts,q3.grow⟩
  ·subst g
   refine⟨a,s,?_,ha.ts ts,?_⟩
   ·rw[hi,<-h.len];simp
   ·rw[hi];exact hj.grow
structure CbI(K:Fg)(H0 H:Hp)(d o:Addr)(N:Nt)(Do Sp:Nat->Bool)(S:List Nat)(kvs:List (Key×V)):Prop where
 cb:CbK K H d N Do Sp S kvs
 same:d9 H0 H
 ho:H o=some (.lst (IL S))
 fr:H0 d=none/\H0 o=none
theorem CbI.next{K:Fg}{o:Addr}{Sp:Nat->Bool}{S:List Nat}(h:CbI K H0 H d o N Do Sp S kvs)(s:d9 H H'):CbI K H0 H' d o N Do Sp S kvs:=⟨h.cb.same s,h.same.trans s,s _ _ h.ho,h.fr⟩
theorem c9I{K:Fg}{o:Addr}{Sp:Nat->Bool}{S:List Nat}{a b f g p q:Nat}(ha:σ[a]? = some (some (.int (t:Int))))(hb:σ[b]? = some (some (.ref d)))(he:σ[e]? = some (some (.int (p:Int))))(hf:σ[f]? = some (some (.int (q:Int))))(hg:σ[g]? = some (some (.ref o)))
  (I:CbI K H0 H d o N Do Sp S kvs) (h400:N.length<=400) (hl:N[p]? = some l) (ht:l[q]? = some t) (htn:t<N.length) (hj:Sp p=true\/∃j:Nat,S[j]? = some p/\Do p=false)
  (k:∀H' S' kvs',CbI K H0 H' d o N Do Sp S' kvs'->(∃ext,S'=S++ext)->t∈S'->D.nx σ H') :
  L6 (tB (a0S (b4 a) (b4 b))) (u8 (a3Z (b4 b) (b4 a) (a1Y (a9 (b4 e) (a9 (b4 f) (d7))))) (V7 (tBM K "list" O5 (b4 g) (a9 (b4 a) (d7))))) (C9) D σ H:=by
 exact_mod_cast d0W ?_;exact_mod_cast c8j ?_;exact_mod_cast a2h ?_;exact_mod_cast a0M ha ?_;exact_mod_cast a0M hb ?_;obtain⟨o',g1,g2⟩:=I.cb.notin t;refine⟨d,o',rfl,g1,?_⟩;rw[g2];refine⟨_,rfl,?_⟩;by_cases hts:t∈S
 ·refine p8 (by rw[d6x hts];rfl) ?_
  exact_mod_cast a9Q ?_;exact k H S kvs I ⟨[],by simp⟩ hts
 refine A2 (by rw[d6w hts];rfl) ?_;exact_mod_cast N7 ?_;exact_mod_cast a9W ?_;exact_mod_cast c5R ?_;exact_mod_cast a3b ?_;exact_mod_cast a0M he ?_;exact_mod_cast a3b ?_;exact_mod_cast a0M hf ?_;exact_mod_cast a9B ?_;refine F7 (by simp) fun z H1 hz e1 s1=>?_
 have I1:=I.next s1;exact_mod_cast a0M hb ?_;exact_mod_cast a0M ha ?_;have hlen:S.length<=400:=J4 (a3O _ _ I.cb.nd I.cb.lt) h400;refine⟨d,_,rfl,b5E.k (k:=Sum.inl (t:Int)) I1.cb.hd (G8 (by rw[I.cb.len];omega)),?_⟩;have add:=I1.cb.add (a:=z) (s:=((p:Int),(q:Int))) hts htn (.inl e1) (.inr ⟨p,q,l,rfl,hl,ht,hj.imp id fun⟨j,j1,j2⟩=>⟨j,(gI j1),j1,j2⟩⟩);obtain⟨kvs',hk⟩:∃kvs',kvs'=a1Z kvs (Sum.inl (t:Int)) (.ref z):=⟨_,rfl⟩;rw[<-hk]at add ⊢;obtain⟨H2,hH2⟩:∃H2,H2=upd H1 d (.dK kvs'):=⟨_,rfl⟩;rw[<-hH2]at add ⊢;have nod:o≠d:=O3 I1.ho I1.cb.hd (by intro z;cases z);have ho2:H2 o=some (.lst (IL S)):=by rw[hH2,i8 nod];exact I1.ho
 have s2:d9 H0 H2:=fun b' o'' q'=>by rw[hH2,i8 (c9 q' I.fr.1)];exact I1.same _ _ q'
 exact_mod_cast b7A ?_;exact_mod_cast a5S ?_;exact_mod_cast a0M hg ?_;refine⟨X9 ho2,?_⟩;exact_mod_cast a3b ?_;exact_mod_cast a0M ha ?_;exact_mod_cast a9B ?_;refine W3 ho2 (G8 (by rw[K9];omega)) ?_;have e3:IL S++[V.int (t:Int)]=IL (S++[t]):=by simp[IL]
 rw[e3];have ts:F5 H2 (upd H2 o (.lst (IL (S++[t])))):=F5.put ho2;refine k _ (S++[t]) kvs' ⟨⟨by rw[i8 nod.symm];exact add.hd,add.nd,add.lt,add.len,add.z,fun i u hu=>let⟨a',s',q1,q2,q3⟩:=add.at_ i u hu; ⟨a',s',q1,q2.ts ts,q3⟩⟩,fun b' o'' q'=>by rw[i8 (c9 q' I.fr.2)];exact s2 _ _ q',d8,I.fr⟩ ⟨[t],rfl⟩ (by simp)
structure a5g(c:Cn)(H:Hp)(x:Addr)(N:Nt)(rs:List Addr):Prop where
 ex:∃dx fs n r,H x=some (.ins c.Q2 dx fs)/\fs.lookup ("nexts" : Str)=some (V.ref n)/\F8 H n N/\fs.lookup ("rows" : Str)=some (V.ref r)/\H r=some (.lst (rs.map V.ref))/\rs.length=N.length
theorem a5g.x{x:Addr}(h:a5g c H x N rs):c0x c H x N:=by
 obtain⟨dx,fs,n,r,h1,h2,h3,_⟩:=h.ex;exact⟨dx,fs,n,h1,h2,h3⟩
theorem a5g.same{x:Addr}(h:a5g c H x N rs)(s:d9 H H'):a5g c H' x N rs:=by
 obtain⟨dx,fs,n,r,h1,h2,h3,h4,h5,h6⟩:=h.ex;exact⟨dx,fs,n,r,s _ _ h1,h2,h3.same s,h4,s _ _ h5,h6⟩
theorem a6W.r{K:Fg}{x:Addr}(h:a6W K c Z rs H x N):a5g c H x N rs:=by
 obtain⟨dx,r,n,e,es,ns,h1,⟨h2,h2r⟩,h3,h4,h5,h6,h7,h8,_⟩:=h.ex;refine⟨dx,_,n,r,h1,rfl,⟨ns,h3,h4,h5⟩,rfl,h2r,?_⟩;obtain⟨rs',q1,q2,_⟩:=h2.ex;rw[h2r]at q1;have:=congrArg b6t (HO.lst.inj (Option.some.inj q1));rw[b9,b9]at this;omega
theorem b4K{K:Fg}{x o:Addr}{Sp:Nat->Bool}{S:List Nat}{p:Nat}{E:XK}(ck:a1h K c)(hp:c0x c H0 x N)(hv:S0 N)(I:CbI K H0 H d o N Do Sp S kvs)(hl:N[p]? = some l)(hj:Sp p=true\/∃j:Nat,S[j]? = some p/\Do p=false)
  (k:∀H' S' kvs',CbI K H0 H' d o N Do Sp S' kvs'->(∃ext,S'=S++ext)->(∀t∈l,t∈S')->Q .non H'):a5E K [.ref x,.int (p:Int),.ref d,.ref o] H Q E:=by
 obtain⟨dx,fs,n,hx,hf,hn⟩:=hp;refine⟨rfl,?_⟩;unfold b6y;specialize a0g (a6e ?_);specialize R0 ?_;exists ⟨x,_,dx,fs,_,rfl,I.same _ _ hx,ck.O4,ck.Q3,hf,?_⟩;obtain⟨xs,y,f1,f2,f3,_⟩:=hn.at hl;exists C0 (I.same _ _ f1) f2 ?_;refine⟨y,rfl,⟨_,SqL.of (I.same _ _ f3)⟩,?_⟩;have hlt:=hv.lt l (mI hl);refine b5q l.length (fun i σ H'=>∃y4 y5 S' kvs',σ=[some (.ref x),some (.int (p:Int)),some (.ref d),some (.ref o),y4,y5]/\CbI K H0 H' d o N Do Sp S' kvs'/\(∃ext,S'=S++ext)/\∀t∈l.take i,t∈S') ?_ ?_ ?_ ?_
 ·exact⟨_,_,S,kvs,rfl,I,⟨[],by simp⟩,by simp⟩
 ·rintro _ H' ⟨y4,y5,S',kvs',rfl,I',e',g'⟩
  rw[J5]at g';exact⟨⟨_,SqL.of (I'.same _ _ f3),by rw[K9];exact j9 _⟩,k H' S' kvs' I' e' g'⟩
 ·rintro i _ H' hi ⟨y4,y5,S',kvs',rfl,I',e',g'⟩
  exact⟨_,_,SqL.of (I'.same _ _ f3),by unfold IL;rw[b6,c8 hi];rfl⟩
 ·rintro i _ H' hi ⟨y4,y5,S',kvs',rfl,I',⟨ext,e'⟩,g'⟩ v H1 ⟨pp,w,hpp,rfl,rfl,gw⟩
  obtain⟨t,ht⟩:∃t,l[i]? = some t:=⟨_,c8 hi⟩;have gw:=gw _ (SqL.of (I'.same _ _ f3));unfold IL at gw;rw[b6,ht]at gw;cases gw;refine a8T (SqT.of d8) ?_;have I1:=I'.next (A9 (o:=.tup [V.int (i:Int),V.int (t:Int)]) hpp);refine c9I (p:=p) (q:=i) (t:=t) (l:=l) rfl rfl rfl rfl rfl I1 hv.le hl ht (hlt t (mI ht)) ?_ fun H2 S2 kvs2 I2 ⟨ext2,e2⟩ t2=>?_
  ·rcases hj with hj | ⟨j,j1,j2⟩
   ·exact .inl hj
   ·exact .inr ⟨j,by rw[e',j4 (gI j1)];exact j1,j2⟩
  ·refine⟨_,_,S2,kvs2,rfl,I2,⟨ext++ext2,by rw[e2,e',F9]⟩,fun u hu=>?_⟩
   rw[F3,ht]at hu;rcases z8.mp hu with q | q
   ·rw[e2];exact y0 _ (g' u q)
   ·have:u=t:=by simpa using q
    subst this;exact t2
structure d2H(N:Nt)(Do Sp:Nat->Bool)(S:List Nat):Prop where
 sp:∀(p:Nat) l,Sp p=true->N[p]? = some l->∀t∈l,t∈S
 no:∀(p:Nat) l,p∈S->Do p=false->N[p]? = some l->∀t∈l,t∈S
theorem c7r{K:Fg}{o:Addr}{Sp:Nat->Bool}(ck:a1h K c)(hv:S0 N)(hd:H d=some (.dK [(Sum.inl 0,.ref c.I0)]))(ho:H o=some (.lst [.int 0]))(s:d9 H0 H)(f1:H0 d=none)(f2:H0 o=none):CbI K H0 H d o N Do Sp [0] [(Sum.inl 0,.ref c.I0)]:=by
 refine⟨⟨hd,by simp,by simpa using hv.pos,rfl,rfl,fun i t hi=>?_⟩,s,ho,f1,f2⟩;cases i with
 | zero=>
  cases hi;exact⟨_,FST,rfl,.inr ⟨rfl,ck.Q6⟩,.inl ⟨rfl,rfl,rfl⟩⟩
 | succ i=>simp at hi
def BL(n:Nat)(f:Nat->Bool):List V:=(C1 n).map fun p=>V.bl (f p)
theorem b8v(n:Nat)(f:Nat->Bool):(BL n f).length=n:=by simp[BL]
theorem b6V{p:Nat}(h:p<n):atI (BL n f) (p:Int)=some (V.bl (f p)):=P4 (by unfold BL;rw[b6,Y2 h];rfl)
theorem b1V{K:Fg}{x ma br:Addr}{Sp:Nat->Bool}{E:XK}(ck:a1h K c)(hp:a5g c H x N rs)(hv:S0 N)(hm:H ma=some (.lst (BL N.length Do)))(hb:H br=some (.lst (BL N.length Sp)))
  (k:∀d H' S kvs,CbK K H' d N Do Sp S kvs->d2H N Do Sp S->d9 H H'->Q (.ref d) H'):a2q K c [.ref x,.ref ma,.ref br] H Q E:=by
 have h400:=hv.le;obtain⟨dx,fs,n,r,hx,hfn,hn,hfr,hr,lr⟩:=hp.ex;refine⟨rfl,?_⟩;unfold a7M
 nofun
 exists d0u (K:=K) fun d H1 hd1 e1 s1=>?_
 nofun
 exists F7 (by simp) fun o H2 ho e2 s2=>?_
 have I2:CbI K H H2 d o N Do Sp [0] _:=c7r ck hv (s2 _ _ e1) e2 (s1.trans s2) hd1 (s1.free ho);exact_mod_cast a5f (P:=fun σ H3=>∃y5 S kvs,σ=[some (.ref x),some (.ref ma),some (.ref br),some (.ref d),some (.ref o),y5,none]/\CbI K H H3 d o N Do Sp S kvs/\∀(p:Nat) l,Sp p=true->N[p]? = some l->∀t∈l,t∈S) ?_ ?_
 rotate_left
 ·intro nx hnx
  specialize a0g (a2B ?_);specialize R0 ?_;exists ⟨x,_,dx,fs,_,rfl,I2.same _ _ hx,ck.O4,ck.Z0,hfr,?_⟩;refine L9 (I2.same _ _ hr) ?_;rw[b9,lr];refine⟨N.length,rfl,by omega,by omega,?_⟩;rw[t6];refine a0z (fun i σ H3=>∃y5 S kvs,σ=[some (.ref x),some (.ref ma),some (.ref br),some (.ref d),some (.ref o),y5,none]/\CbI K H H3 d o N Do Sp S kvs/\∀(p:Nat) l,p<i->Sp p=true->N[p]? = some l->∀t∈l,t∈S) ⟨_,[0],_,rfl,I2,by omega⟩ ?_ ?_
  ·rintro i _ H3 hi ⟨y5,S,kvs,rfl,I3,g3⟩
   rw[Y3]
   ext
   exists C0 (I3.same _ _ hb) (b6V hi) ?_;refine a3P (fun e=>?_) (fun e=>?_)
   ·ext
    refine b4K ck hp.x hv I3 (M5 hi) (.inl e) fun H6 S6 kvs6 I6 ⟨ext,e6⟩ g6=>?_
    refine⟨_,S6,kvs6,rfl,I6,fun p l hpi hsp hl t ht=>?_⟩;by_cases q:p=i
    ·subst q
     rw[M5 hi]at hl;cases hl;exact g6 t ht
    ·rw[e6]
     exact y0 _ (g3 p l (by omega) hsp hl t ht)
   ·ext
    refine⟨_,S,kvs,rfl,I3,fun p l hpi hsp hl t ht=>?_⟩;by_cases q:p=i
    ·subst q;exact(e hsp).elim
    ·exact g3 p l (by omega) hsp hl t ht
  ·rintro _ H3 ⟨y5,S,kvs,rfl,I3,g3⟩
   exact hnx _ _ ⟨y5,S,kvs,rfl,I3,fun p l a b=>g3 p l (gI b) a b⟩
 rintro _ H3 ⟨y5,S3,kvs3,rfl,I3,g3⟩
 nofun
 exact_mod_cast N7 ?_;exact_mod_cast a6d ?_
 refine⟨fun m σ H4=>∃(y5:Option V) (S:List Nat) (kvs:List (Key×V)) (dn:Nat),σ=[some (.ref x),some (.ref ma),some (.ref br),some (.ref d),some (.ref o),y5,some (.int (dn:Int))]/\CbI K H H4 d o N Do Sp S kvs/\(∀(p:Nat) l,Sp p=true->N[p]? = some l->∀t∈l,t∈S)/\dn<=S.length/\(∀(j p:Nat) l,j<dn->S[j]? = some p->Do p=false->N[p]? = some l->∀t∈l,t∈S)/\m=N.length - dn,
  ⟨_,y5,S3,kvs3,0,rfl,I3,g3,by omega,by omega,rfl⟩,?_⟩
 rintro m _ H4 ⟨y5,S,kvs,dn,rfl,I4,g4,hdn,c4,rfl⟩
 ext
 exists L9 I4.ho ?_;rw[K9];have hSl:S.length<=N.length:=a3O _ _ I4.cb.nd I4.cb.lt;by_cases hlt:dn<S.length
 ·refine A2 (d6x (by omega)) ?_
  obtain⟨p,hpS⟩:∃p,S[dn]? = some p:=⟨_,c8 hlt⟩;have hpn:=I4.cb.lt p (mI hpS);refine⟨fun σ H5=>∃(m':Nat) (y5:Option V) (S:List Nat) (kvs:List (Key×V)) (dn':Nat),σ=[some (.ref x),some (.ref ma),some (.ref br),some (.ref d),some (.ref o),y5,some (.int (dn':Int))]/\CbI K H H5 d o N Do Sp S kvs/\(∀(p:Nat) l,Sp p=true->N[p]? = some l->∀t∈l,t∈S)/\dn'<=S.length/\(∀(j p:Nat) l,j<dn'->S[j]? = some p->Do p=false->N[p]? = some l->∀t∈l,t∈S)/\m'=N.length - dn'/\m'<N.length - dn,?_,?_⟩
  ·rintro σ' H5 ⟨m',y4,S,kvs,dn',e,r1,r2,r3,r4,r5,r6⟩
   exact⟨m',r6,y4,S,kvs,dn',e,r1,r2,r3,r4,r5⟩
  nofun
  exists C0 I4.ho (a9H hpS) ?_;exact_mod_cast N7 ?_;specialize c2A rfl ?_;exists C0 (I4.same _ _ hm) (b6V hpn) ?_;have e1:(dn:Int)+1=((dn+1:Nat):Int):=by omega
  cases hDo:Do p with
  | true=>
   exists p8 rfl ?_;rw[e1];refine⟨_,_,S,kvs,dn+1,rfl,I4,g4,by omega,fun j p' l hj hj2 hD hl t ht=>?_,rfl,by omega⟩;by_cases q:j=dn
   ·subst q
    rw[hpS]at hj2;cases hj2;rw[hDo]at hD;cases hD
   ·exact c4 j p' l (by omega) hj2 hD hl t ht
  | false=>
   exists A2 rfl ?_;rw[e1];refine b4K ck hp.x hv I4 (M5 hpn) (.inr ⟨dn,hpS,hDo⟩) fun H6 S6 kvs6 I6 ⟨ext,e6⟩ g6=>?_
   refine⟨_,_,S6,kvs6,dn+1,rfl,I6,fun p' l a b t ht=>by rw[e6];exact y0 _ (g4 p' l a b t ht),by rw[e6,p5];omega,fun j p' l hj hj2 hD hl t ht=>?_,rfl,by omega⟩;have hj3:S[j]? = some p':=by rw[e6,j4 (by omega)]at hj2;exact hj2
   by_cases q:j=dn
   ·subst q
    rw[hpS]at hj3;cases hj3;rw[M5 hpn]at hl;cases hl;exact g6 t ht
   ·rw[e6];exact y0 _ (c4 j p' l (by omega) hj3 hD hl t ht)
 ·exists p8 (d6w (by omega)) ?_
  refine k d H4 S kvs I4.cb ⟨g4,fun p l hp' hD hl t ht=>?_⟩ I4.same;obtain⟨j,hj⟩:=i9.mp hp';have:=(gI hj);exact c4 j p l (by omega) hj hD hl t ht
inductive Fw(N:Nt):Stp->List Stp->Nat->Prop
 | one {s:Stp}:a0F N s->Fw N s [] (G5 N s)
 | cons {s s':Stp} {r:List Stp} {t:Nat}:a0F N s->s'.1=(G5 N s:Int)->Fw N s' r t->Fw N s (s'::r) t
theorem Fw.app{s':Stp}{r r':List Stp}{t':Nat}(h:Fw N s r t)(e:s'.1=(t:Int))(h':Fw N s' r' t'):Fw N s (r++s'::r') t':=by
 induction h with
 | one h=>exact .cons h e h'
 | cons h e1 _ ih=>exact .cons h e1 (ih e)
theorem a9M{K:Fg}{S:List Stp}{vs:List Addr}(h1:H w=some (.lst (vs.map V.ref)))(h2:vs.length=S.length)(h3:∀(i:Nat) x s,vs[i]? = some x->S[i]? = some s->L7 K H x s)(ha:L7 K H a s) :
  D7 K (upd H w (.lst ((vs++[a]).map V.ref))) w (S++[s]):=by
 refine⟨vs++[a],d8,by simp[h2],fun i x t f1 f2=>?_⟩;rcases W0 f1 with ⟨i1,g1⟩ | ⟨i1,g1⟩
 ·rcases W0 f2 with ⟨_,g2⟩ | ⟨i2,_⟩
  ·exact(h3 i x t g1 g2).ts (F5.put h1)
  ·omega
 ·rcases W0 f2 with ⟨i2,_⟩ | ⟨_,g2⟩
  ·omega
  ·subst g1 g2
   exact ha.ts (F5.put h1)
theorem D7.rev{K:Fg}{S:List Stp}{vs:List Addr}(h1:H w=some (.lst (vs.map V.ref)))(h2:vs.length=S.length)(h3:∀(i:Nat) x s,vs[i]? = some x->S[i]? = some s->L7 K H x s):D7 K (upd H w (.lst (vs.map V.ref).reverse)) w S.reverse:=by
 refine⟨vs.reverse,by rw[d8,List.map_reverse],by simp[h2],fun i x s f1 f2=>?_⟩;have hi:=(gI f1);rw[a5V]at hi;rw[c4S hi]at f1;rw[c4S (by omega),<-h2]at f2;exact(h3 _ x s f1 f2).ts (F5.put h1)
theorem b6H{l:Addr}(hl:H l=some (.lst xs))(h:Q .non (upd H l (.lst xs.reverse))):a5I (.ref l) [] H Q:=by
 unfold a5I;simp only[hl];exact h
theorem V5{p q:Nat}:¬(((p:Int),(q:Int)):Stp)=FST:=by
 unfold FST;intro z;have:=congrArg Prod.fst z;simp at this
structure Rdy(K:Fg)(c:Cn)(H:Hp)(rx x dd:Addr)(N:Nt)(rs:List Addr)(ds:List V)(Do Sp:Nat->Bool)(S:List Nat):Prop where
 ex:∃dx d kvs,H rx=some (.ins c.T1 dx [("plan",.ref x),("deed",.ref dd),("come_by",.ref d)])/\CbK K H d N Do Sp S kvs
 plan:a5g c H x N rs
 deed:a0w H dd ds
 sat:a4Q H rs ds Do Sp
 shut:d2H N Do Sp S
theorem Rdy.same{K:Fg}{x:Addr}{Sp:Nat->Bool}{S:List Nat}(h:Rdy K c H rx x dd N rs ds Do Sp S)(s:d9 H H'):Rdy K c H' rx x dd N rs ds Do Sp S:=by
 obtain⟨dx,d,kvs,h1,h2⟩:=h.ex;exact⟨⟨dx,d,kvs,s _ _ h1,h2.same s⟩,h.plan.same s,h.deed.ts (d9.ts s),h.sat.ts (d9.ts s),h.shut⟩
theorem c2R{K:Fg}{x:Addr}(ck:a1h K c)(hp:a5g c H x N rs)(hv:S0 N)(hσ:σ[1]? = some (some (.ref x)))
  (step:∀(p:Nat) rx H',rs[p]? = some rx->d9 H H'->∀R:VK,(∀H'',d9 H' H''->R (.bl (f p)) H'')->te (some (.ref rx)::σ) H' R)
  (k:∀D H',H D=none->H' D=some (.lst (BL N.length f))->d9 H H'->Q (.ref D) H'):a0f (U2 K (Z6 K (b4 1) "rows")) a0e te σ H Q:=by
 have h400:=hv.le;obtain⟨dx,fs,n,r,hx,hfn,hn,hfr,hr,lr⟩:=hp.ex;exact_mod_cast a1u (V3 ?_);exact_mod_cast R0 ?_;exact_mod_cast a0M hσ ?_;refine⟨x,_,dx,fs,_,rfl,hx,ck.O4,ck.Z0,hfr,?_⟩;refine⟨r,rfl,⟨_,SqL.of hr⟩,fun D hD=>?_⟩;refine a0E (xs:=rs.map V.ref) (fun i ys H8=>ys=BL i f/\H8 D=some (.lst ys)/\d9 H H8) ?_ ?_ ?_ ?_ ?_
 ·exact⟨rfl,d8,A9 hD⟩
 ·rintro i ys H8 ⟨_,h,_⟩
  exact h
 ·rintro i ys H8 _ ⟨_,_,s8⟩
  exact SqL.of (s8 _ _ hr)
 ·rintro i y ys H8 hy ⟨rfl,hD8,s8⟩ R hR
  rw[b6]at hy;cases hrx:rs[i]? with
  | none=>rw[hrx]at hy;cases hy
  | some rx=>
   rw[hrx]at hy;cases hy;have hi:i<rs.length:=(gI hrx);refine step i rx H8 hrx s8 _ fun H9 s9=>?_
   refine hR _ _ (s9 _ _ hD8) (G8 (by rw[b8v];omega)) ⟨?_,d8,fun b o e=>?_⟩
   ·unfold BL
    rw[a1j,u4];rfl
   ·rw[i8 (c9 e hD)];exact s9 _ _ (s8 _ _ e)
 ·rintro ys H8 ⟨rfl,hD8,s8⟩
  rw[b9,lr]at hD8;exact k D H8 hD hD8 s8
theorem b6a{K:Fg}{x:Addr}{Sp:Nat->Bool}{E:XK}(ck:a1h K c)(hp:a5g c H x N rs)(hv:S0 N)(hd:a0w H dd ds)(hs:a4Q H rs ds Do Sp)(hrx:H rx=none)(hdx:H dx=none)
  (k:∀H' S,Rdy K c H' rx x dd N rs ds Do Sp S->d9 H H'->Q .non H'):a2N K c [.ref rx,.ref x,.ref dd] (upd (upd H dx (.own rx)) rx (.ins c.T1 dx [])) Q E:=by
 refine⟨rfl,?_⟩;unfold b0N;exact_mod_cast N7 ?_;specialize a4h ?_;refine⟨rx,_,dx,[],rfl,d8,ck.U8,ck.a1P,by simp,?_⟩;exact_mod_cast N7 ?_;specialize a4h ?_;refine⟨rx,_,dx,_,rfl,d8,ck.U8,ck.a1Q,by simp[X7],?_⟩;obtain⟨H3,hH3⟩:∃H3,H3=upd (upd (upd (upd H dx (.own rx)) rx (.ins c.T1 dx [])) rx (.ins c.T1 dx (X7 "plan" (.ref x) []))) rx (.ins c.T1 dx (X7 "deed" (.ref dd) (X7 "plan" (.ref x) []))):=⟨_,rfl⟩;rw[<-hH3];have x3:H3 rx=some (.ins c.T1 dx (X7 "deed" (.ref dd) (X7 "plan" (.ref x) []))):=hH3 ▸ d8
 have s3:d9 H H3:=fun b o e=>by
  have n1:=c9 e hrx;rw[hH3,i8 n1,i8 n1,i8 n1,i8 (c9 e hdx)];exact e
 have hs3:=hs.ts (d9.ts s3);have hd3:=hd.ts (d9.ts s3);exact_mod_cast N7 ?_;refine c5S ?_;refine c2R ck (hp.same s3) hv (f:=Do) rfl (fun p ax H4 hax s4 R hR=>?_) fun ma H4 hma e4 s4=>?_
 ·obtain⟨xs,x1,x2,x3⟩:=hs3 p ax hax
  ext
  refine b3O (x1.ts (d9.ts s4)) (hd3.ts (d9.ts s4)) ?_;rw[a6T x1.2 (d9.ts s4),x2];exact hR H4 (d9.refl _)
 have s04:=s3.trans s4;specialize a4h ?_;refine c2R ck (hp.same s04) hv (f:=Sp) rfl (fun p ax H5 hax s5 R hR=>?_) fun br H5 hbr e5 s5=>?_
 ·obtain⟨xs,x1,x2,x3⟩:=hs3 p ax hax
  ext
  refine a6H (x1.ts (d9.ts (s4.trans s5))) (hd3.ts (d9.ts (s4.trans s5))) fun H6 s6=>?_
  rw[x3];exact hR H6 s6
 ext
 have s35:=s4.trans s5;exists b1V ck (hp.same (s3.trans s35)) hv (s5 _ _ e4) e5 fun d H6 S kvs cb sh s6=>?_
 have x4:=s6 _ _ (s35 _ _ x3);refine⟨rx,_,dx,_,rfl,x4,ck.U8,ck.a0A,(by show(2:Nat)<1000;decide),?_⟩;obtain⟨H5',hH5⟩:∃H5',H5'=upd H6 rx (.ins c.T1 dx (X7 "come_by" (.ref d) (X7 "deed" (.ref dd) (X7 "plan" (.ref x) [])))):=⟨_,rfl⟩;rw[<-hH5];have s5':d9 H H5':=fun b o e=>by rw[hH5,i8 (c9 e hrx)];exact s6 _ _ (s35 _ _ (s3 _ _ e))
 have t5:F5 H6 H5':=hH5 ▸ F5.ins x4;refine k H5' S ⟨⟨dx,d,kvs,?_,?_⟩,hp.same s5',hd.ts (d9.ts s5'),hs.ts (d9.ts s5'),sh⟩ s5'
 ·rw[hH5,d8];rfl
 ·refine⟨?_,cb.nd,cb.lt,cb.len,cb.z,fun i t e=>?_⟩
  ·rw[hH5,i8 (O3 cb.hd x4 (by intro z;cases z))];exact cb.hd
  ·obtain⟨a,s,q1,q2,q3⟩:=cb.at_ i t e
   exact⟨a,s,q1,q2.ts t5,q3⟩
theorem c1P{K:Fg}{x:Addr}{Sp:Nat->Bool}{a b:Nat}(ck:a1h K c)(hp:a5g c H x N rs)(hv:S0 N)(hd:a0w H dd ds)(hs:a4Q H rs ds Do Sp)(ea:σ[a]? = some (some (.ref x)))(eb:σ[b]? = some (some (.ref dd)))
  (k:∀rx H' S,H rx=none->Rdy K c H' rx x dd N rs ds Do Sp S->d9 H H'->Q (.ref rx) H'):a5Z c.T1 (a2N K c) [] E0 (a9 (b4 a) (a9 (b4 b) d7)) σ H Q:=by
 exact_mod_cast b7z ?_;refine a3b (a0M ea (a3b (a0M eb (a9B ?_))));intro rx dx hrx hdx hne;exact b6a ck hp hv hd hs hrx hdx fun H' S h s=>⟨rfl,k rx H' S hrx h s⟩
theorem b3g{K:Fg}{x:Addr}{Sp:Nat->Bool}{S:List Nat}{E:XK}(ck:a1h K c)(h:Rdy K c H rx x dd N rs ds Do Sp S)(k:Q (.bl (!decide (t∈S))) H):a0V K [.ref rx,.int (t:Int)] H Q E:=by
 obtain⟨dx,d,kvs,h1,cb⟩:=h.ex;refine⟨rfl,?_⟩;unfold a6D
 ext
 specialize a2h ?_;specialize R0 ?_;refine⟨rx,_,dx,_,_,rfl,h1,ck.U8,ck.a0A,rfl,?_⟩;obtain⟨o',g1,g2⟩:=cb.notin t;refine⟨d,o',rfl,g1,?_⟩;rw[g2];exact k
def beh(Do Sp:Nat->Bool)(S:List Nat)(p:Nat):Bool:=if Sp p=true then false else (Do p || !decide (p∈S))
theorem b3x{K:Fg}{x:Addr}{Sp:Nat->Bool}{S:List Nat}{p:Nat}{E:XK}(ck:a1h K c)(h:Rdy K c H rx x dd N rs ds Do Sp S)(hp:p<N.length)(k:∀H',d9 H H'->Q (.bl (beh Do Sp S p)) H'):a0G K c [.ref rx,.int (p:Int)] H Q E:=by
 obtain⟨dx,d,kvs,h1,cb⟩:=h.ex;obtain⟨dx',fs,n,r,hx,hfn,hn,hfr,hr,lr⟩:=h.plan.ex;obtain⟨ax,hax⟩:∃ax,rs[p]? = some ax:=⟨_,c8 (by omega)⟩;obtain⟨xs,x1,x2,x3⟩:=h.sat p ax hax;refine⟨rfl,?_⟩;unfold a4H
 nofun
 exact_mod_cast R0 ?_;specialize R0 ?_;refine⟨rx,_,dx,_,_,rfl,h1,ck.U8,ck.a1P,rfl,?_⟩;exists ⟨x,_,dx',fs,_,rfl,hx,ck.O4,ck.Z0,hfr,?_⟩;exists C0 hr (P4 (by rw[b6,hax];rfl)) ?_
 nofun
 specialize R0 ?_;exists ⟨rx,_,dx,_,_,rfl,h1,ck.U8,ck.a1Q,rfl,?_⟩;exists a6H x1 h.deed fun H1 s1=>?_
 rw[x3];unfold beh at k;cases hSp:Sp p with
 | true=>
  exists A2 rfl ?_;have:=k H1 s1;rw[if_pos hSp]at this;exact this
 | false=>
  exists p8 rfl ?_;specialize R0 ?_;exists ⟨rx,_,dx,_,_,rfl,s1 _ _ h1,ck.U8,ck.a1Q,rfl,?_⟩;refine b3O (x1.ts (d9.ts s1)) (h.deed.ts (d9.ts s1)) ?_;rw[a6T x1.2 (d9.ts s1),x2]
  ext
  have kk:=k H1 s1;rw[if_neg (by rw[hSp];intro z;cases z)]at kk;cases hDo:Do p with
  | true=>
   refine A2 rfl ?_;rw[hDo]at kk;exact kk
  | false=>
   exists p8 rfl ?_;specialize V2 ?_;exists ⟨rx,dx,_,rfl,s1 _ _ h1,rfl,?_⟩;refine b3g ck (h.same s1) ?_;rw[hDo]at kk;exact kk
def onF(Do Sp:Nat->Bool)(S:List Nat)(s:Stp):Bool := !decide (s=FST)&&beh Do Sp S s.1.toNat
theorem b9r{K:Fg}{x:Addr}{Sp:Nat->Bool}{S:List Nat}{E:XK}(ck:a1h K c)(h:Rdy K c H rx x dd N rs ds Do Sp S)(ha:L7 K H a s)(hs:a0F N s)(k:∀H',d9 H H'->Q (.bl (onF Do Sp S s)) H'):a1W K c [.ref rx,.ref a] H Q E:=by
 obtain⟨dx,d,kvs,h1,cb⟩:=h.ex;refine⟨rfl,?_⟩;unfold a6C
 ext
 refine⟨_,_,_,_,rfl,rfl,ha.sq,ck.Q6 H,rfl,rfl,?_⟩;rw[eq2]
 ext
 rcases hs with rfl | ⟨p,q,l,t,rfl,hl,hq⟩
 ·refine p8 rfl ?_
  exact k H (d9.refl H)
 ·refine A2 (by
   have:decide ((((p:Int),(q:Int)).1,((p:Int),(q:Int)).2)=FST)=false:=d6w V5;rw[this];rfl) ?_
  rcases ha with ha | ⟨z,_⟩
  rotate_left
  ·exact(V5 z).elim
  ext
  specialize V2 ?_;exists ⟨rx,dx,_,rfl,h1,rfl,?_⟩;exists N8 ha (Z3 _ _) ?_;refine b3x ck h (gI hl) fun H' s'=>?_
  have:=k H' s';unfold onF at this;rw[d6w V5]at this;exact this
theorem b1B{K:Fg}{x:Addr}{Sp:Nat->Bool}{S:List Nat}{E:XK}(ck:a1h K c)(h:Rdy K c H rx x dd N rs ds Do Sp S)(ha:L7 K H a s)(hs:a0F N s)(k:∀H',d9 H H'->Q (.bl (decide (s=FST)||Sp s.1.toNat)) H'):Z7 K c [.ref rx,.ref a] H Q E:=by
 obtain⟨dx,d,kvs,h1,cb⟩:=h.ex;obtain⟨dx',fs,n,r,hx,hfn,hn,hfr,hr,lr⟩:=h.plan.ex;refine⟨rfl,?_⟩;unfold a3F
 ext
 refine⟨_,_,_,_,rfl,rfl,ha.sq,ck.Q6 H,rfl,rfl,?_⟩;rw[eq2]
 ext
 rcases hs with rfl | ⟨p,q,l,t,rfl,hl,hq⟩
 ·refine A2 rfl ?_
  exact k H (d9.refl H)
 ·refine p8 (by
   have:decide ((((p:Int),(q:Int)).1,((p:Int),(q:Int)).2)=FST)=false:=d6w V5;rw[this]) ?_
  rcases ha with ha | ⟨z,_⟩
  rotate_left
  ·exact(V5 z).elim
  have hpn:=(gI hl);obtain⟨ax,hax⟩:∃ax,rs[p]? = some ax:=⟨_,c8 (by omega)⟩;obtain⟨xs,x1,x2,x3⟩:=h.sat p ax hax
  ext
  exact_mod_cast R0 ?_;specialize R0 ?_;refine⟨rx,_,dx,_,_,rfl,h1,ck.U8,ck.a1P,rfl,?_⟩;exists ⟨x,_,dx',fs,_,rfl,hx,ck.O4,ck.Z0,hfr,?_⟩;exists N8 ha (Z3 _ _) ?_;exists C0 hr (P4 (by rw[b6,hax];rfl)) ?_;specialize R0 ?_;exists ⟨rx,_,dx,_,_,rfl,h1,ck.U8,ck.a1Q,rfl,?_⟩;refine a6H x1 h.deed fun H1 s1=>?_
  rw[x3];have:=k H1 s1;rw[d6w V5]at this;exact this
theorem a2t{p q:Nat}(h1:N[p]? = some l)(h2:l[q]? = some t):G5 N ((p:Int),(q:Int))=t:=by
 unfold G5;rw[if_neg V5];show(N.getD (p:Int).toNat []).getD (q:Int).toNat 0=t;rw[t6,t6];simp[D6,h1,h2]
theorem c7B(a b:List Nat):IL (a++b)=IL a++IL b:=by unfold IL;rw[u4]
theorem a3s(h:a0F N s):s∈F2 N:=by
 rcases h with rfl | ⟨p,q,l,t,rfl,h1,h2⟩
 ·exact J8 ..
 ·refine E9 _ (d0y.mpr ⟨p,Q8.mpr (gI h1),?_⟩)
  unfold a2T;refine A8.mpr ⟨q,Q8.mpr ?_,rfl⟩;simp only[D6,h1,a4U];exact(gI h2)
def P3(L:List (Nat×Stp)):List Nat:=L.map (·.1)
def b3y(L:List (Nat×Stp))(t:Nat)(s:Stp):List (Nat×Stp):=if t∈P3 L then L else L++[(t,s)]
def a2R(L:List (Nat×Stp))(p:Nat)(l:List Nat):Nat->List (Nat×Stp)
 | 0=>L
 | i+1=>match l[i]? with
  | none=>a2R L p l i
  | some t=>b3y (a2R L p l i) t ((p:Int),(i:Int))
def bfs(N:Nt):Nat->List (Nat×Stp)
 | 0=>[(0,FST)]
 | n+1=>match (bfs N n)[n]? with
  | none=>bfs N n
  | some x=>a2R (bfs N n) x.1 (N.getD x.1 []) (N.getD x.1 []).length
def gB(L:List (Nat×Stp))(t:Nat):Stp:=((L.find? fun x=>x.1 == t).map (·.2)).getD FST
def trG(g:Nat->Stp)(stop:Stp->Bool):Nat->Nat->List Stp
 | 0,_=>[]
 | f+1,t=>if stop (g t)=true then [g t] else g t::trG g stop f (g t).1.toNat
def isF(s:Stp):Bool:=decide (s=FST)
def c2p(N:Nt)(t:Nat):List Stp:=(trG (gB (bfs N N.length)) isF 1000 t).reverse
section
variable {L L':List (Nat×Stp)}{p q:Nat}
theorem a5r(a b:List (Nat×Stp)):P3 (a++b)=P3 a++P3 b:=by unfold P3;rw[u4]
theorem b2E(h:L[i]? = some (t,s)):t∈P3 L:=A8.mpr ⟨_,mI h,rfl⟩
theorem b5h(h:(P3 L)[i]? = some t):∃s,L[i]? = some (t,s):=by
 unfold P3 at h;rw[b6]at h;cases e:L[i]? with
 | none=>rw[e]at h;cases h
 | some x=>
  rw[e]at h;cases h;exact⟨x.2,rfl⟩
theorem b1C(h:L[i]? = some (t,s)):(P3 L)[i]? = some t:=by unfold P3;rw[b6,h];rfl
theorem a6S:(P3 L).length=L.length:=by simp[P3]
theorem b9w(L:List (Nat×Stp))(t:Nat)(s:Stp):∃e,b3y L t s=L++e:=by
 unfold b3y;by_cases h:t∈P3 L
 ·rw[if_pos h];exact⟨[],by simp⟩
 ·rw[if_neg h];exact⟨[(t,s)],rfl⟩
theorem c6o(L:List (Nat×Stp))(t:Nat)(s:Stp):t∈P3 (b3y L t s):=by
 unfold b3y;by_cases h:t∈P3 L
 ·rw[if_pos h];exact h
 ·rw[if_neg h,a5r];simp[P3]
theorem b2O(L:List (Nat×Stp))(p:Nat)(l:List Nat):∀i,∃e,a2R L p l i=L++e
 | 0=>⟨[],by simp[a2R]⟩
 | i+1=>by
  obtain⟨e,he⟩:=b2O L p l i;unfold a2R;cases l[i]? with
  | none=>exact⟨e,he⟩
  | some t=>
   obtain⟨e',he'⟩:=b9w (a2R L p l i) t ((p:Int),(i:Int));exact⟨e++e',by show b3y _ _ _=_;rw[he',he,F9]⟩
theorem b2N(L:List (Nat×Stp))(p:Nat)(l:List Nat):∀i t,t∈l.take i->t∈P3 (a2R L p l i)
 | 0,t,h=>by simp at h
 | i+1,t,h=>by
  unfold a2R;rw[F3]at h;cases e:l[i]? with
  | none=>
   rw[e]at h;exact b2N L p l i t (by simpa using h)
  | some u=>
   rw[e]at h;rcases z8.mp h with h | h
   ·obtain⟨e',he'⟩:=b9w (a2R L p l i) u ((p:Int),(i:Int))
    show t∈P3 (b3y _ _ _);rw[he',a5r];exact y0 _ (b2N L p l i t h)
   ·have:t=u:=by simpa using h
    subst this;exact c6o _ _ _
theorem c7t(h:(bfs N n)[n]? = none):bfs N (n+1)=bfs N n:=by rw[bfs,h]
theorem c0t{x:Nat×Stp}(h:(bfs N n)[n]? = some x):bfs N (n+1)=a2R (bfs N n) x.1 (N.getD x.1 []) (N.getD x.1 []).length:=by rw[bfs,h]
theorem b8j(N:Nt)(n:Nat):∃e,bfs N (n+1)=bfs N n++e:=by
 cases h:(bfs N n)[n]? with
 | none=>exact⟨[],by rw[c7t h];simp⟩
 | some x=>rw[c0t h];exact b2O _ _ _ _
theorem c2W(N:Nt)(n:Nat):∀k,∃e,bfs N (n+k)=bfs N n++e
 | 0=>⟨[],by simp⟩
 | k+1=>by
  obtain⟨e,he⟩:=c2W N n k;obtain⟨e',he'⟩:=b8j N (n+k);exact⟨e++e',by rw[<-d4o,he',he,F9]⟩
structure BF(N:Nt)(L:List (Nat×Stp)):Prop where
 nd:(P3 L).Nodup
 lt:∀t∈P3 L,t<N.length
 z:L[0]? = some (0,FST)
 just:∀(i t:Nat) (s:Stp),L[i]? = some (t,s)->(i=0/\s=FST/\t=0)\/∃(p q:Nat) (l:List Nat),s=((p:Int),(q:Int))/\N[p]? = some l/\l[q]? = some t/\∃j s',j<i/\L[j]? = some (p,s')
theorem BF.put{s':Stp}(h:BF N L)(hj:L[j]? = some (p,s'))(hl:N[p]? = some l)(hq:l[q]? = some t)(ht:t<N.length):BF N (b3y L t ((p:Int),(q:Int))):=by
 unfold b3y;by_cases hm:t∈P3 L
 ·rw[if_pos hm];exact h
 rw[if_neg hm];refine⟨?_,fun u hu=>?_,?_,fun i u s e=>?_⟩
 ·rw[a5r,a0q]
  refine⟨h.nd,by simp[P3],fun x hx y hy=>?_⟩;have:y=t:=by simpa[P3]using hy
  rw[this];exact fun z=>hm (z ▸ hx)
 ·rw[a5r]at hu
  rcases z8.mp hu with hu | hu
  ·exact h.lt u hu
  ·have:u=t:=by simpa[P3]using hu
   rw[this];exact ht
 ·rw[j4 (k8.mp h.z).1];exact h.z
 ·rcases W0 e with ⟨_,e⟩ | ⟨hi,e⟩
  ·rcases h.just i u s e with r | ⟨p',q',l',r1,r2,r3,j',s'',r4,r5⟩
   ·exact .inl r
   ·exact .inr ⟨p',q',l',r1,r2,r3,j',s'',r4,by rw[j4 (gI r5)];exact r5⟩
  ·cases e
   have hjl:=(gI hj);exact .inr ⟨p,q,l,rfl,hl,hq,j,s',by omega,by rw[j4 hjl];exact hj⟩
theorem BF.up{s':Stp}(hv:S0 N)(h:BF N L)(hj:L[j]? = some (p,s'))(hl:N[p]? = some l):∀i,BF N (a2R L p l i)
 | 0=>h
 | i+1=>by
  have ih:=BF.up hv h hj hl i;unfold a2R;cases e:l[i]? with
  | none=>exact ih
  | some t=>
   obtain⟨e',he'⟩:=b2O L p l i;exact ih.put (by rw[he',j4 (gI hj)];exact hj) hl e (hv.lt l (mI hl) t (mI e))
theorem c2g(hv:S0 N):∀n,BF N (bfs N n)
 | 0=>by
  have pos:=hv.pos;refine⟨by simp[bfs,P3],by simpa[bfs,P3]using pos,rfl,fun i t s e=>?_⟩;cases i with
  | zero=>cases e;exact .inl ⟨rfl,rfl,rfl⟩
  | succ i=>simp[bfs]at e
 | n+1=>by
  have ih:=c2g hv n;show BF N (match (bfs N n)[n]? with | none=>bfs N n | some x=>_);cases e:(bfs N n)[n]? with
  | none=>exact ih
  | some x=>
   have hx:=ih.lt x.1 (b2E (s:=x.2) e);have hl:=M5 hx;have hg:N.getD x.1 []=N[x.1]:=by simp[D6,hx]
   show BF N (a2R _ _ _ _);rw[hg];exact ih.up hv (s':=x.2) e hl _
theorem c7u(hv:S0 N):∀(n j p:Nat) s l,j<n->(bfs N n)[j]? = some (p,s)->N[p]? = some l->∀t∈l,t∈P3 (bfs N n)
 | 0,_,_,_,_,h,_,_,_,_=>by omega
 | n+1,j,p,s,l,hj,e,hl,t,ht=>by
  obtain⟨ex,hex⟩:=b8j N n;have bf:=c2g hv n;by_cases q:j<(bfs N n).length
  ·have e0:=e
   rw[hex,j4 q]at e;by_cases z:j=n
   ·subst z
    show t∈P3 (match (bfs N j)[j]? with | none=>bfs N j | some x=>_);rw[e];show t∈P3 (a2R _ p (N.getD p []) (N.getD p []).length);have hg:N.getD p []=l:=by simp[D6,hl]
    rw[hg];refine b2N _ _ _ _ _ ?_;rw[J5];exact ht
   ·rw[hex,a5r]
    exact y0 _ (c7u hv n j p s l (by omega) e hl t ht)
  ·-- then nothing was new
   exfalso;have:(bfs N n)[n]? = none:=by rw[G7];omega
   have e2:bfs N (n+1)=bfs N n:=by
    show(match (bfs N n)[n]? with | none=>bfs N n | some x=>_)=_;rw[this]
   rw[e2,G7.mpr (by omega)]at e;cases e
theorem d4c(nd:(P3 L).Nodup)(h:L[i]? = some (t,s))(e:List (Nat×Stp)):gB (L++e) t=s:=by
 unfold gB
 have hf:L.find? (fun x=>x.1 == t)=some (t,s):=by
  rw[b6u];refine⟨by simp,L.take i,L.drop (i+1),?_,fun x hx=>?_⟩
  ·have h2:=(k8.mp h).2
   rw[<-h2,c3a,c4R]
  ·obtain⟨j,hj⟩:=i9.mp hx
   have hjl:=(gI hj);rw[C5]at hjl;rw[a3x (by omega)]at hj;simp only[b3T,beq_eq_false_iff_ne];intro z;have a1:=b1C (s:=x.2) (t:=x.1) hj;have a2:=b1C h;rw[z]at a1;have hil:=(gI h);have:=(a4A (i:=j) (j:=i) (by rw[a6S];omega) nd).mp (a1.trans a2.symm);omega
 rw[c9W,hf];rfl
end
structure DL(K:Fg)(H:Hp)(d:Addr)(L:List (Nat×Stp))(kvs:List (Key×V)):Prop where
 hd:H d=some (.dK kvs)
 nd:(P3 L).Nodup
 len:kvs.length=L.length
 at_:∀(i t:Nat) (s:Stp),L[i]? = some (t,s)->∃a,kvs[i]? = some (Sum.inl (t:Int),.ref a)/\L7 K H a s
section
variable {K:Fg}{o:Addr}{L:List (Nat×Stp)}
theorem DL.keys(h:DL K H d L kvs):kvs.map (·.1)=(P3 L).map fun(t:Nat)=>(Sum.inl (t:Int):Key):=by
 apply a0s;intro i;rw[b6,b6];cases e:L[i]? with
 | none=>
  have h1:kvs[i]? = none:=by
   rw[G7]at e ⊢;have:=h.len;omega
  have h2:(P3 L)[i]? = none:=by
   rw[G7]at e ⊢;rw[a6S];exact e
  rw[h1,h2];rfl
 | some x=>
  obtain⟨a,q,_⟩:=h.at_ i x.1 x.2 e;rw[q,b1C (s:=x.2) e];rfl
theorem DL.ndk(h:DL K H d L kvs):(kvs.map (·.1)).Nodup:=by
 rw[h.keys];refine a1J _ (fun a b hab z=>hab ?_) h.nd;have:=Sum.inl.inj z;omega
theorem DL.in_(h:DL K H d L kvs)(t:Nat):(a6n kvs (Sum.inl (t:Int))).isSome=decide (t∈P3 L):=by
 by_cases ht:t∈P3 L
 ·rw[d6x ht]
  obtain⟨i,hi⟩:=i9.mp ht;obtain⟨s,hs⟩:=b5h hi;obtain⟨a,q,_⟩:=h.at_ i t s hs;rw[a4F h.ndk (mI q)];rfl
 ·rw[d6w ht]
  cases e:a6n kvs (Sum.inl (t:Int))with
  | none=>rfl
  | some v=>
   have:=b7k e;rw[h.keys]at this;obtain⟨u,hu,z⟩:=A8.mp this;have:=Sum.inl.inj z;have:u=t:=by omega
   exact absurd (this ▸ hu) ht
theorem DL.get(h:DL K H d L kvs)(hi:L[i]? = some (t,s)):∃a,a4R H d (.int (t:Int)) (some (.ref a))/\L7 K H a s:=by
 obtain⟨a,q,q2⟩:=h.at_ i t s hi;refine⟨a,?_,q2⟩;have:=a4R.k (k:=Sum.inl (t:Int)) h.hd;rw[a4F h.ndk (mI q)]at this;exact this
theorem DL.notin(h:DL K H d L kvs)(t:Nat):∃o,a4R H d (.int (t:Int)) o/\o.isSome=decide (t∈P3 L):=⟨_,a4R.k (k:=Sum.inl (t:Int)) h.hd,h.in_ t⟩
theorem DL.same(h:DL K H d L kvs)(s:d9 H H'):DL K H' d L kvs:=
 ⟨s _ _ h.hd,h.nd,h.len,fun i t st e=>let⟨a,q1,q2⟩:=h.at_ i t st e; ⟨a,q1,q2.ts (d9.ts s)⟩⟩
theorem DL.add(h:DL K H d L kvs)(ht:¬t∈P3 L)(ha:L7 K H a s) :
  DL K (upd H d (.dK (a1Z kvs (Sum.inl (t:Int)) (.ref a)))) d (L++[(t,s)]) (a1Z kvs (Sum.inl (t:Int)) (.ref a)):=by
 have e:a1Z kvs (Sum.inl (t:Int)) (.ref a)=kvs++[(Sum.inl (t:Int),.ref a)]:=by
  unfold a1Z;rw[a4G,h.in_,d6w ht,if_neg (by decide)]
 rw[e];have ts:F5 H (upd H d (.dK (kvs++[(Sum.inl (t:Int),.ref a)]))):=fun b xs q=>by rw[i8 (O3 q h.hd (by intro z;cases z))];exact q
 refine⟨d8,?_,by simp[h.len],fun i u st hu=>?_⟩
 ·rw[a5r,a0q]
  refine⟨h.nd,by simp[P3],fun x hx y hy=>?_⟩;have:y=t:=by simpa[P3]using hy
  rw[this];exact fun z=>ht (z ▸ hx)
 ·rcases W0 hu with ⟨hi,g⟩ | ⟨hi,g⟩
  ·obtain⟨a',q1,q2⟩:=h.at_ i u st g
   exact⟨a',by rw[j4 (gI q1)];exact q1,q2.ts ts⟩
  ·cases g
   refine⟨a,?_,ha.ts ts⟩;rw[hi,<-h.len];simp
structure DLI(K:Fg)(H0 H:Hp)(d o:Addr)(L:List (Nat×Stp))(kvs:List (Key×V)):Prop where
 dl:DL K H d L kvs
 same:d9 H0 H
 ho:H o=some (.lst (IL (P3 L)))
 fr:H0 d=none/\H0 o=none
theorem DLI.next(h:DLI K H0 H d o L kvs)(s:d9 H H'):DLI K H0 H' d o L kvs:=⟨h.dl.same s,h.same.trans s,s _ _ h.ho,h.fr⟩
theorem c9E{a b f g p q:Nat}(ha:σ[a]? = some (some (.int (t:Int))))(hb:σ[b]? = some (some (.ref d)))(he:σ[e]? = some (some (.int (p:Int))))(hf:σ[f]? = some (some (.int (q:Int))))(hg:σ[g]? = some (some (.ref o)))
  (I:DLI K H0 H d o L kvs) (hL:L.length<=400) (k:∀H' kvs',DLI K H0 H' d o (b3y L t ((p:Int),(q:Int))) kvs'->D.nx σ H') :
  L6 (tB (a0S (b4 a) (b4 b))) (u8 (a3Z (b4 b) (b4 a) (a1Y (a9 (b4 e) (a9 (b4 f) (d7))))) (V7 (tBM K "list" O5 (b4 g) (a9 (b4 a) (d7))))) (C9) D σ H:=by
 exact_mod_cast d0W ?_;exact_mod_cast c8j ?_;exact_mod_cast a2h ?_;exact_mod_cast a0M ha ?_;exact_mod_cast a0M hb ?_;obtain⟨o',g1,g2⟩:=I.dl.notin t;refine⟨d,o',rfl,g1,?_⟩;rw[g2];refine⟨_,rfl,?_⟩;unfold b3y at k;by_cases hts:t∈P3 L
 ·refine p8 (by rw[d6x hts];rfl) ?_
  exact_mod_cast a9Q ?_;rw[if_pos hts]at k;exact k H kvs I
 refine A2 (by rw[d6w hts];rfl) ?_;rw[if_neg hts]at k;exact_mod_cast N7 ?_;exact_mod_cast a9W ?_;exact_mod_cast c5R ?_;exact_mod_cast a3b ?_;exact_mod_cast a0M he ?_;exact_mod_cast a3b ?_;exact_mod_cast a0M hf ?_;exact_mod_cast a9B ?_;refine F7 (by simp) fun z H1 hz e1 s1=>?_
 have I1:=I.next s1;exact_mod_cast a0M hb ?_;exact_mod_cast a0M ha ?_;refine⟨d,_,rfl,b5E.k (k:=Sum.inl (t:Int)) I1.dl.hd (G8 (by rw[I.dl.len];omega)),?_⟩;have add:=I1.dl.add (a:=z) (s:=((p:Int),(q:Int))) hts (.inl e1);obtain⟨kvs',hk⟩:∃kvs',kvs'=a1Z kvs (Sum.inl (t:Int)) (.ref z):=⟨_,rfl⟩;rw[<-hk]at add ⊢;obtain⟨H2,hH2⟩:∃H2,H2=upd H1 d (.dK kvs'):=⟨_,rfl⟩;rw[<-hH2]at add ⊢;have nod:o≠d:=O3 I1.ho I1.dl.hd (by intro z;cases z);have ho2:H2 o=some (.lst (IL (P3 L))):=by rw[hH2,i8 nod];exact I1.ho
 have s2:d9 H0 H2:=fun b' o'' q'=>by rw[hH2,i8 (c9 q' I.fr.1)];exact I1.same _ _ q'
 exact_mod_cast b7A ?_;exact_mod_cast a5S ?_;exact_mod_cast a0M hg ?_;refine⟨X9 ho2,?_⟩;exact_mod_cast a3b ?_;exact_mod_cast a0M ha ?_;exact_mod_cast a9B ?_;refine W3 ho2 (G8 (by rw[K9,a6S];omega)) ?_;have e3:IL (P3 L)++[V.int (t:Int)]=IL (P3 (L++[(t,((p:Int),(q:Int)))])):=by simp[IL,P3]
 rw[e3];have ts:F5 H2 (upd H2 o (.lst (IL (P3 (L++[(t,((p:Int),(q:Int)))]))))):=F5.put ho2;exact k _ kvs' ⟨⟨by rw[i8 nod.symm];exact add.hd,add.nd,add.len,fun i u st hu=>let⟨a',q1,q2⟩:=add.at_ i u st hu; ⟨a',q1,q2.ts ts⟩⟩,fun b' o'' q'=>by rw[i8 (c9 q' I.fr.2)];exact s2 _ _ q',d8,I.fr⟩
end
theorem c3v{K:Fg}{L:List (Nat×Stp)}{i0:Nat}{s0:Stp}{g:Nat->Stp}{E:XK}(ck:a1h K c)(hc:DL K H d L kvs)(bf:BF N L)(hL:L.length<=400)(hg:∀(i t:Nat) s,L[i]? = some (t,s)->g t=s)(hi0:L[i0]? = some (t0,s0))
  (k:∀w r H',H w=none->(trG g isF 1000 t0).reverse=FST::r->Fw N FST r t0->r.length<=400->D7 K H' w (trG g isF 1000 t0).reverse->d9 H H'->Q (.ref w) H'):a8P K c [.ref d,.int (t0:Int)] H Q E:=by
 refine⟨rfl,?_⟩;unfold b9a
 nofun
 specialize b2m ?_;obtain⟨a,g1,g2⟩:=hc.get hi0;exists ⟨d,_,rfl,g1,?_⟩;exists F7 (by simp) fun w H1 hw e1 s1=>?_
 have hi0l:=(gI hi0)
 have stp:∀(i t:Nat) s,L[i]? = some (t,s)->a0F N s/\G5 N s=t:=fun i t s e=>by
  rcases bf.just i t s e with ⟨_,rfl,rfl⟩ | ⟨p,q,l,rfl,h2,h3,_⟩
  ·exact⟨.inl rfl,by unfold G5;rw[if_pos rfl]⟩
  ·exact⟨.inr ⟨p,q,l,t,rfl,h2,h3⟩,a2t h2 h3⟩
 exact_mod_cast N7 ?_;exact_mod_cast a6d ?_
 refine⟨fun m σ H2=>∃(vs:List Addr) (a:Addr) (s:Stp) (r:List Stp) (i t f:Nat),σ=[some (.ref d),some (.int (t0:Int)),some (.ref w)]/\H2 w=some (.lst ((vs++[a]).map V.ref))/\vs.length=r.length/\(∀(j:Nat) x st,(vs++[a])[j]? = some x->(r.reverse++[s])[j]? = some st->L7 K H2 x st)/\Fw N s r t0/\L[i]? = some (t,s)/\r.length+i<=i0/\trG g isF 1000 t0=r.reverse++trG g isF f t/\i<f/\d9 H H2/\m=i,
  ⟨_,[],a,s0,[],i0,t0,1000,rfl,e1,rfl,fun j x st f1 f2=>?_,?_,hi0,by simp,rfl,by omega,s1,rfl⟩,?_⟩
 ·cases j with
  | zero=>
   cases f1;cases f2;exact g2.ts (d9.ts s1)
  | succ j=>simp at f1
 ·have:=stp _ _ _ hi0
  rw[<-this.2];exact .one this.1
 rintro m _ H2 ⟨vs,a,s,r,i,t,f,rfl,hw2,lv,at2,fw,hi,hle,tr,hf,s2,rfl⟩;have hst:L7 K H2 a s:=at2 vs.length a s (by simp) (by rw[lv,<-a5V];simp);rw[u4]at hw2
 ext
 refine C0 hw2 a8D ?_;refine⟨_,_,_,_,rfl,rfl,hst.sq,ck.Q6 H2,rfl,rfl,?_⟩;rw[eq2]
 ext
 obtain⟨f',rfl⟩:∃f',f=f'+1:=⟨f - 1,by omega⟩;have gt:=hg _ _ _ hi;have tr1:trG g isF (f'+1) t=if isF s=true then [s] else s::trG g isF f' s.1.toNat:=by rw[<-gt];rfl
 rcases bf.just _ _ _ hi with ⟨_,rfl,rfl⟩ | ⟨p,q,l,rfl,h2,h3,j,s',j1,j2⟩
 ·refine p8 (by simp[FST]) ?_
  nofun
  specialize c2y ?_;exists ⟨X9 hw2,b6H hw2 ?_⟩;rw[<-u4]at hw2;have st:=D7.rev (S:=r.reverse++[FST]) hw2 (by simp[lv]) at2;rw[tr1,if_pos (show isF FST=true from rfl)]at tr;rw[<-tr]at st;rw[<-u4];refine k w r _ hw ?_ fw (by omega) st fun b o e=>by rw[i8 (c9 e hw)];exact s2 _ _ e
  rw[tr,b1J,b0v];rfl
 ·have nF:isF ((p:Int),(q:Int))=false:=d6w V5
  rw[tr1,if_neg (by rw[nF];decide)]at tr
  refine A2 (by
   have:decide ((((p:Int),(q:Int)).1,((p:Int),(q:Int)).2)=FST)=false:=d6w V5;rw[this];rfl) ?_
  rcases hst with hst | ⟨z,_⟩
  rotate_left
  ·exact(V5 z).elim
  refine⟨fun σ H3=>∃(m':Nat) (vs:List Addr) (a:Addr) (s:Stp) (r:List Stp) (i t f:Nat),σ=[some (.ref d),some (.int (t0:Int)),some (.ref w)]/\H3 w=some (.lst ((vs++[a]).map V.ref))/\vs.length=r.length/\(∀(j:Nat) x st,(vs++[a])[j]? = some x->(r.reverse++[s])[j]? = some st->L7 K H3 x st)/\Fw N s r t0/\L[i]? = some (t,s)/\r.length+i<=i0/\trG g isF 1000 t0=r.reverse++trG g isF f t/\i<f/\d9 H H3/\m'=i/\m'<m,?_,?_⟩
  ·rintro σ' H3 ⟨m',vs,a,s,r,i',t,f,e,q1,q2,q3,q4,q5,q6,q7,q8,q9,q10,q11⟩
   exact⟨m',q11,vs,a,s,r,i',t,f,e,q1,q2,q3,q4,q5,q6,q7,q8,q9,q10⟩
  ext
  specialize a5S ?_;exists ⟨X9 hw2,?_⟩;specialize b2m ?_;exists C0 hw2 a8D ?_;refine N8 hst (Z3 _ _) ?_;obtain⟨a',y1,y2⟩:=(hc.same s2).get j2;exists ⟨d,_,rfl,y1,?_⟩;refine W3 hw2 (G8 (by rw[p5,b9];simp;omega)) ?_;have hw2':H2 w=some (.lst ((vs++[a]).map V.ref)):=by rw[u4];exact hw2
  have sn:=a9M (S:=r.reverse++[((p:Int),(q:Int))]) hw2' (by simp[lv]) at2 y2;obtain⟨vs',z1,z2,z3⟩:=sn.ex
  have ev:vs'=(vs++[a])++[a']:=by
   rw[d8]at z1;exact(a0P (f:=V.ref) (fun a b h=>V.ref.inj h) |>.mp (HO.lst.inj (Option.some.inj z1))).symm
  subst ev;have ew:vs.map V.ref++List.map V.ref [a]++[V.ref a']=((vs++[a])++[a']).map V.ref:=by simp
  rw[ew];have hs':=stp _ _ _ j2;refine⟨_,vs++[a],a',s',((p:Int),(q:Int))::r,j,p,f',rfl,d8,by simp[lv],fun j x st f1 f2=>?_,.cons hs'.1 ?_ fw,j2,by rw[z9];omega,?_,by omega,fun b o e=>by rw[i8 (c9 e hw)];exact s2 _ _ e,rfl,j1⟩
  ·refine z3 j x st f1 ?_
   rw[a2y]at f2;exact f2
  ·rw[hs'.2]
  ·rw[tr,a2y,F9]
   show _++((p:Int),(q:Int))::trG g isF f' (p:Int).toNat=_;rw[t6];rfl
theorem c3p{K:Fg}{x:Addr}{E:XK}(ck:a1h K c)(hp:c0x c H x N)(hv:S0 N)(ht0:t0<N.length)
  (k:∀w r H',H w=none->c2p N t0=FST::r->Fw N FST r t0->r.length<=400->D7 K H' w (c2p N t0)->d9 H H'->Q (.ref w) H'):a8L K c [.ref x,.int (t0:Int)] H Q E:=by
 have h400:=hv.le;obtain⟨dx,fs,n,hx,hfn,hn⟩:=id hp;refine⟨rfl,?_⟩;unfold b8W
 nofun
 exists d0u (K:=K) fun d H1 hd1 e1 s1=>?_
 nofun
 exists F7 (by simp) fun o H2 ho e2 s2=>?_
 have I2:DLI K H H2 d o (bfs N 0) [(Sum.inl 0,.ref c.I0)]:=⟨⟨s2 _ _ e1,by simp[bfs,P3],rfl,fun i t s e=>by
  cases i with
  | zero=>cases e;exact⟨_,rfl,.inr ⟨rfl,ck.Q6⟩⟩
  | succ i=>simp[bfs]at e⟩,s1.trans s2,e2,hd1,s1.free ho⟩
 nofun
 exact_mod_cast N7 ?_;exact_mod_cast a6d ?_
 refine⟨fun m σ H4=>∃(y5 y6 y7:Option V) (kvs:List (Key×V)) (dn:Nat),σ=[some (.ref x),some (.int (t0:Int)),some (.ref d),some (.ref o),some (.int (dn:Int)),y5,y6,y7]/\DLI K H H4 d o (bfs N dn) kvs/\dn<=(bfs N dn).length/\m=N.length - dn,
  ⟨_,_,_,_,_,0,rfl,I2,by omega,rfl⟩,?_⟩
 rintro m _ H4 ⟨y5,y6,y7,kvs,dn,rfl,I4,hdn,rfl⟩;have bf:=c2g hv dn;have hSl:(bfs N dn).length<=N.length:=by rw[<-a6S];exact a3O _ _ bf.nd bf.lt
 ext
 specialize a2h ?_;obtain⟨o',g1,g2⟩:=I4.dl.notin t0;refine⟨d,o',rfl,g1,?_⟩;rw[g2]
 ext
 by_cases hin:t0∈P3 (bfs N dn)
 ·exists p8 (by rw[d6x hin];rfl) ?_
  obtain⟨i0,hi0⟩:=i9.mp hin;obtain⟨s0,hs0⟩:=b5h hi0;obtain⟨ex,hex⟩:=c2W N dn (N.length - dn);rw[show dn+(N.length - dn)=N.length by omega]at hex;refine c3v (g:=gB (bfs N N.length)) ck I4.dl bf (by omega) (fun i t s e=>by rw[hex];exact d4c bf.nd e ex) hs0 fun w r H5 hw er fw lr st s5=>?_
  exact k w r H5 (I4.same.free hw) er fw lr st (I4.same.trans s5)
 ·refine A2 (by rw[d6w hin];rfl) ?_
  have hlt:dn<(bfs N dn).length:=by
   refine Classical.byContradiction fun hno=>hin ?_
   have cl:∀z,Rc N z->z∈P3 (bfs N dn):=by
    intro z h;induction h with
    | zero=>exact b2E bf.z
    | @step a t l _ hl ht ih=>
     obtain⟨j,hj⟩:=i9.mp ih;obtain⟨s,hs⟩:=b5h hj;have:=(gI hs);exact c7u hv dn j a s l (by omega) hs hl t ht
   exact cl t0 (hv.rc t0 ht0)
  obtain⟨p,hpS⟩:∃p,(bfs N dn)[dn]? = some p:=⟨_,c8 hlt⟩;have hpn:=bf.lt p.1 (b2E (s:=p.2) hpS);refine⟨fun σ H5=>∃(m':Nat) (y5 y6 y7:Option V) (kvs:List (Key×V)) (dn':Nat),σ=[some (.ref x),some (.int (t0:Int)),some (.ref d),some (.ref o),some (.int (dn':Int)),y5,y6,y7]/\DLI K H H5 d o (bfs N dn') kvs/\dn'<=(bfs N dn').length/\m'=N.length - dn'/\m'<N.length - dn,?_,?_⟩
  ·rintro σ' H5 ⟨m',y5,y6,y7,kvs,dn',e,r1,r2,r3,r4⟩
   exact⟨m',r4,y5,y6,y7,kvs,dn',e,r1,r2,r3⟩
  nofun
  exists C0 I4.ho (a9H (b1C (s:=p.2) hpS)) ?_;exact_mod_cast N7 ?_;specialize c2A rfl ?_;have e1:(dn:Int)+1=((dn+1:Nat):Int):=by omega
  rw[e1];specialize a0g (a6e ?_);specialize R0 ?_;exists ⟨x,_,dx,fs,_,rfl,I4.same _ _ hx,ck.O4,ck.Q3,hfn,?_⟩;obtain⟨l,hle⟩:∃l,l=N[p.1]:=⟨_,rfl⟩;have hl:N[p.1]? = some l:=by rw[hle];exact M5 hpn
  have hgd:N.getD p.1 []=l:=by simp[D6,hl]
  obtain⟨xs,y,f1,f2,f3,_⟩:=hn.at hl;exists C0 (I4.same _ _ f1) f2 ?_;refine⟨y,rfl,⟨_,SqL.of (I4.same _ _ f3)⟩,?_⟩;refine b5q l.length (fun i σ H'=>∃y6 y7 kvs',σ=[some (.ref x),some (.int (t0:Int)),some (.ref d),some (.ref o),some (.int ((dn+1:Nat):Int)),some (.int (p.1:Int)),y6,y7]/\DLI K H H' d o (a2R (bfs N dn) p.1 l i) kvs') ?_ ?_ ?_ ?_
  ·exact⟨_,_,kvs,rfl,I4⟩
  ·rintro _ H' ⟨y6,y7,kvs',rfl,I'⟩
   have eb:a2R (bfs N dn) p.1 l l.length=bfs N (dn+1):=by rw[c0t hpS,hgd]
   rw[eb]at I';refine⟨⟨_,SqL.of (I'.same _ _ f3),by rw[K9];exact j9 _⟩,_,_,_,_,kvs',dn+1,rfl,I',?_,rfl,by omega⟩;obtain⟨ex,hex⟩:=b8j N dn;rw[hex,p5];omega
  ·rintro i _ H' hi ⟨y6,y7,kvs',rfl,I'⟩
   exact⟨_,_,SqL.of (I'.same _ _ f3),by unfold IL;rw[b6,c8 hi];rfl⟩
  ·rintro i _ H' hi ⟨y6,y7,kvs',rfl,I'⟩ v H1 ⟨pp,w,hpp,rfl,rfl,gw⟩
   obtain⟨t,ht⟩:∃t,l[i]? = some t:=⟨_,c8 hi⟩;have gw:=gw _ (SqL.of (I'.same _ _ f3));unfold IL at gw;rw[b6,ht]at gw;cases gw;refine a8T (SqT.of d8) ?_;have I1:=I'.next (A9 (o:=.tup [V.int (i:Int),V.int (t:Int)]) hpp);have bfu:=bf.up hv (s':=p.2) hpS hl i;have lbu:(a2R (bfs N dn) p.1 l i).length<=N.length:=by rw[<-a6S];exact a3O _ _ bfu.nd bfu.lt
   refine c9E (p:=p.1) (q:=i) (t:=t) rfl rfl rfl rfl rfl I1 (by omega) fun H2 kvs2 I2=>?_
   refine⟨_,_,kvs2,rfl,?_⟩;have eu:a2R (bfs N dn) p.1 l (i+1)=b3y (a2R (bfs N dn) p.1 l i) t ((p.1:Int),(i:Int)):=by rw[a2R,ht]
   rw[eu];exact I2
def a8v(Do Sp:Nat->Bool):Bool->List Nat->Bool
 | b,[]=>b
 | b,p::ps=>a8v Do Sp (if Sp p=true then false else if Do p=true then true else b) ps
theorem b5f{Sp:Nat->Bool}(xs ys:List Nat):∀b,a8v Do Sp b (xs++ys)=a8v Do Sp (a8v Do Sp b xs) ys:=by
 induction xs with
 | nil=>exact fun _=>rfl
 | cons x xs ih=>exact fun b=>ih _
theorem b9R{Sp:Nat->Bool}{xs:List Nat}(h:∀p∈xs,Do p=false/\Sp p=false)(b:Bool):a8v Do Sp b xs=b:=by
 induction xs generalizing b with
 | nil=>rfl
 | cons x xs ih=>
  have:=h x (J8 ..);unfold a8v;rw[this.1,this.2];exact ih (fun p hp=>h p (E9 _ hp)) b
def b8k(r:List Stp):List Nat:=r.map fun s=>s.1.toNat
theorem D7.app{K:Fg}{S1 S2:List Stp}{v1 v2:List Addr}(h:H w=some (.lst (v1.map V.ref++v2.map V.ref)))(l1:v1.length=S1.length)(l2:v2.length=S2.length)(a1:∀(i:Nat) x s,v1[i]? = some x->S1[i]? = some s->L7 K H x s)(a2:∀(i:Nat) x s,v2[i]? = some x->S2[i]? = some s->L7 K H x s):D7 K H w (S1++S2):=by
 refine⟨v1++v2,by rw[u4];exact h,by simp[l1,l2],fun i x s f1 f2=>?_⟩;by_cases q:i<v1.length
 ·rw[j4 q]at f1
  rw[j4 (by omega)]at f2;exact a1 i x s f1 f2
 ·rw[J9 (by omega)]at f1
  rw[J9 (by omega),<-l1]at f2;exact a2 _ x s f1 f2
structure b8q(K:Fg)(c:Cn)(H:Hp)(rx x dd:Addr)(N:Nt)(rs:List Addr)(ds:List V)(Do Sp:Nat->Bool)(S:List Nat)(g:Nat->Stp):Prop where
 ex:∃dx d kvs,H rx=some (.ins c.T1 dx [("plan",.ref x),("deed",.ref dd),("come_by",.ref d)])/\CbK K H d N Do Sp S kvs/\∀(i t:Nat),S[i]? = some t->∃a,kvs[i]? = some (Sum.inl (t:Int),.ref a)/\L7 K H a (g t)/\Jst N Do Sp S i (g t) t
 rdy:Rdy K c H rx x dd N rs ds Do Sp S
theorem b8q.same{K:Fg}{x:Addr}{Sp:Nat->Bool}{S:List Nat}{g:Nat->Stp}(h:b8q K c H rx x dd N rs ds Do Sp S g)(s:d9 H H'):b8q K c H' rx x dd N rs ds Do Sp S g:=by
 obtain⟨dx,d,kvs,h1,h2,h3⟩:=h.ex;exact⟨⟨dx,d,kvs,s _ _ h1,h2.same s,fun i t e=>let⟨a,q1,q2,q3⟩:=h3 i t e; ⟨a,q1,q2.ts (d9.ts s),q3⟩⟩,h.rdy.same s⟩
theorem Rdy.g{K:Fg}{x:Addr}{Sp:Nat->Bool}{S:List Nat}(h:Rdy K c H rx x dd N rs ds Do Sp S):∃g,b8q K c H rx x dd N rs ds Do Sp S g:=by
 obtain⟨dx,d,kvs,h1,h2⟩:=id h.ex
 have ex:∀t:Nat,∃s:Stp,t∈S->∃(i:Nat) (a:Addr),S[i]? = some t/\kvs[i]? = some (Sum.inl (t:Int),.ref a)/\L7 K H a s/\Jst N Do Sp S i s t:=fun t=>by
  by_cases ht:t∈S
  ·obtain⟨i,hi⟩:=i9.mp ht
   obtain⟨a,s,q1,q2,q3⟩:=h2.at_ i t hi;exact⟨s,fun _=>⟨i,a,hi,q1,q2,q3⟩⟩
  ·exact⟨FST,fun z=>(ht z).elim⟩
 refine⟨fun t=>Classical.choose (ex t),⟨dx,d,kvs,h1,h2,fun i t e=>?_⟩,h⟩;obtain⟨i',a,q0,q1,q2,q3⟩:=Classical.choose_spec (ex t) (mI e);have hi:=(gI e);have:i=i':=(a4A hi h2.nd).mp (e.trans q0.symm);subst this;exact⟨a,q1,q2,q3⟩
theorem b8q.get{K:Fg}{Sp:Nat->Bool}{S:List Nat}{g:Nat->Stp}(cb:CbK K H d N Do Sp S kvs)(h3:∀(i t:Nat),S[i]? = some t->∃a,kvs[i]? = some (Sum.inl (t:Int),.ref a)/\L7 K H a (g t)/\Jst N Do Sp S i (g t) t)(hi:S[i]? = some t):∃a,a4R H d (.int (t:Int)) (some (.ref a))/\L7 K H a (g t)/\Jst N Do Sp S i (g t) t:=by
 obtain⟨a,q,q2,q3⟩:=h3 i t hi;refine⟨a,?_,q2,q3⟩;have:=a4R.k (k:=Sum.inl (t:Int)) cb.hd;rw[a4F cb.ndk (mI q)]at this;exact this
def b2P(Sp:Nat->Bool)(s:Stp):Bool:=decide (s=FST)||Sp s.1.toNat
def b8T(N:Nt)(Sp:Nat->Bool)(g:Nat->Stp)(t:Nat):List Stp:=
 match (trG g (b2P Sp) 1000 t).reverse with
 | []=>[]
 | s::r=>if s=FST then s::r else c2p N s.1.toNat++s::r
theorem b4h{K:Fg}{x:Addr}{Sp:Nat->Bool}{S:List Nat}{g:Nat->Stp}{E:XK}(ck:a1h K c)(hG:b8q K c H rx x dd N rs ds Do Sp S g)(hv:S0 N)(ht0:t0∈S)
  (k:∀w r H',H w=none->b8T N Sp g t0=FST::r->Fw N FST r t0->r.length<=900->D7 K H' w (FST::r)->a8v Do Sp false (b8k r)=false->d9 H H'->Q (.ref w) H'):a0U K c [.ref rx,.int (t0:Int)] H Q E:=by
 have h400:=hv.le;obtain⟨dx,d,kvs,h1,cb,h3g⟩:=id hG.ex;have hR:=hG.rdy;refine⟨rfl,?_⟩;unfold a5e
 nofun
 specialize V2 ?_;exists ⟨rx,dx,_,rfl,h1,rfl,?_⟩;exists b3g ck hR ?_;exists p8 (by rw[d6x ht0];rfl) ?_
 nofun
 exact_mod_cast b2m ?_;specialize R0 ?_;exists ⟨rx,_,dx,_,_,rfl,h1,ck.U8,ck.a0A,rfl,?_⟩;obtain⟨i0,hi0⟩:=i9.mp ht0;obtain⟨a,g1,g2,g3⟩:=b8q.get cb h3g hi0;exists ⟨d,_,rfl,g1,?_⟩;exists F7 (by simp) fun w H1 hw e1 s1=>?_
 have hSl:S.length<=N.length:=a3O _ _ cb.nd cb.lt;have hi0l:=(gI hi0);exact_mod_cast N7 ?_;exact_mod_cast a6d ?_
 refine⟨fun m σ H2=>∃(vs:List Addr) (a:Addr) (s:Stp) (r:List Stp) (i t f:Nat),σ=[some (.ref rx),some (.int (t0:Int)),some (.ref w)]/\H2 w=some (.lst ((vs++[a]).map V.ref))/\vs.length=r.length/\(∀(j:Nat) x st,(vs++[a])[j]? = some x->(r.reverse++[s])[j]? = some st->L7 K H2 x st)/\Fw N s r t0/\S[i]? = some t/\Jst N Do Sp S i s t/\r.length+i<=i0/\d9 H H2/\(∀st∈r,Do st.1.toNat=false/\Sp st.1.toNat=false)/\s=g t/\trG g (b2P Sp) 1000 t0=r.reverse++trG g (b2P Sp) f t/\i<f/\m=i,
  ⟨_,[],a,g t0,[],i0,t0,1000,rfl,e1,rfl,fun j x st f1 f2=>?_,?_,hi0,g3,by simp,s1,by simp,rfl,rfl,by omega,rfl⟩,?_⟩
 ·cases j with
  | zero=>
   cases f1;cases f2;exact g2.ts (d9.ts s1)
  | succ j=>simp at f1
 ·have:=Fw.one g3.step.1
  rw[g3.step.2]at this;exact this
 rintro m _ H2 ⟨vs,a,s,r,i,t,f,rfl,hw2,lv,at2,fw,hi,js,hle,s2,low,gt,tr,hf,rfl⟩;obtain⟨f',rfl⟩:∃f',f=f'+1:=⟨f - 1,by omega⟩;have tr1:trG g (b2P Sp) (f'+1) t=if b2P Sp s=true then [s] else s::trG g (b2P Sp) f' s.1.toNat:=by rw[gt];rfl
 have hst:L7 K H2 a s:=at2 vs.length a s (by simp) (by rw[lv,<-a5V];simp);rw[u4]at hw2;have hR2:=hR.same s2
 ext
 specialize V2 ?_;exists ⟨rx,dx,_,rfl,s2 _ _ h1,rfl,?_⟩;exists C0 hw2 a8D ?_;exists b1B ck hR2 hst js.step.1 fun H3 s3=>?_
 have hw3:=s3 _ _ hw2;have st3:L7 K H3 a s:=hst.ts (d9.ts s3);have at3:∀(j:Nat) x st,(vs++[a])[j]? = some x->(r.reverse++[s])[j]? = some st->L7 K H3 x st:=fun j x st f1 f2=>(at2 j x st f1 f2).ts (d9.ts s3)
 have s03:=s2.trans s3
 have hSs:s=FST\/∃p q:Nat,s=((p:Int),(q:Int)):=by
  rcases js with ⟨_,rfl,_⟩ | ⟨p,q,l,rfl,_⟩
  ·exact .inl rfl
  ·exact .inr ⟨p,q,rfl⟩
 cases hb:(decide (s=FST)||Sp s.1.toNat)with
 | true=>
  rw[tr1,if_pos (show b2P Sp s=true from hb)]at tr;have trr:(trG g (b2P Sp) 1000 t0).reverse=s::r:=by rw[tr,b1J,b0v];rfl
  refine p8 rfl ?_
  nofun
  specialize c2y ?_;exists ⟨X9 hw3,b6H hw3 ?_⟩;rw[<-u4]at hw3;have:=D7.rev (S:=r.reverse++[s]) hw3 (by simp[lv]) at3;rw[b1J,b0v]at this;rw[<-u4];obtain⟨H4,hH4⟩:∃H4,H4=upd H3 w (.lst ((vs++[a]).map V.ref).reverse):=⟨_,rfl⟩;rw[<-hH4]at this ⊢;have s04:d9 H H4:=fun b o e=>by rw[hH4,i8 (c9 e hw)];exact s03 _ _ e
  obtain⟨v1,f1,f2,f3⟩:=this.ex
  obtain⟨b0,v1',rfl⟩:∃b0 v1',v1=b0::v1':=by
   cases v1 with
   | nil=>simp at f2
   | cons b0 v1'=>exact⟨_,_,rfl⟩
  have st4:L7 K H4 b0 s:=f3 0 b0 s rfl rfl
  nofun
  refine C0 f1 (Z3 _ _) ?_;refine⟨_,_,_,_,rfl,rfl,st4.sq,ck.Q6 H4,rfl,rfl,?_⟩;rw[eq2]
  ext
  by_cases hF:s=FST
  ·exists A2 (d6x hF) ?_
   subst hF;refine k w r H4 hw (by unfold b8T;rw[trr];exact if_pos rfl) fw (by omega) this (b9R (fun p hp=>?_) _) s04;unfold b8k at hp;obtain⟨st,h,rfl⟩:=A8.mp hp;exact low st h
  ·refine p8 (d6w hF) ?_
   rcases hSs with z | ⟨p,q,rfl⟩
   ·exact(hF z).elim
   rw[d6w hF]at hb;have hSp:Sp p=true:=hb
   ext
   specialize R0 ?_;exists ⟨rx,_,dx,_,_,rfl,s04 _ _ h1,ck.U8,ck.a1P,rfl,?_⟩;exists C0 f1 (Z3 _ _) ?_;rcases st4 with st4 | ⟨z,_⟩
   rotate_left
   ·exact(hF z).elim
   exists N8 st4 (Z3 _ _) ?_
   have hpn:p<N.length:=by
    rcases js with ⟨_,z,_⟩ | ⟨p',q',l,e,h2,_⟩
    ·exact(hF z).elim
    ·have:=congrArg Prod.fst e
     have this:(p:Int)=(p':Int):=this;obtain rfl:p=p':=by omega
     exact(gI h2)
   refine c3p ck (hR.plan.same s04).x hv hpn fun w1 r1 H5 hw1 er1 fw1 lr1 sa1 s5=>?_
   rw[er1]at sa1
   ext
   obtain⟨u1,y1,y2,y3⟩:=sa1.ex;have f1':=s5 _ _ f1;refine b7E y1 f1' ?_;refine F7 (a4T (by rw[b9,b9,y2,f2,z9];show r1.length+1+(r.length+1)<100000;omega)) fun y H6 hy e6 s6=>?_
   have fwA:=Fw.app fw1 rfl fw
   refine k y (r1++((p:Int),(q:Int))::r) H6 ?_ (by
    unfold b8T;rw[trr];show(if _ then _ else c2p N (p:Int).toNat++_)=_;rw[if_neg hF,t6,er1];rfl) fwA (by rw[p5,z9];omega) ?_ ?_ ((s04.trans s5).trans s6)
   ·exact(s04.trans s5).free hy
   ·have:=D7.app (K:=K) (S1:=FST::r1) (S2:=((p:Int),(q:Int))::r) e6 y2 f2 (fun i x s a b=>(y3 i x s a b).ts (d9.ts s6)) (fun i x s a b=>(f3 i x s a b).ts (d9.ts (s5.trans s6)))
    exact this
   ·unfold b8k
    rw[u4,b5f,D5];unfold a8v;rw[if_pos (show Sp (((p:Int),(q:Int)):Stp).1.toNat=true from hSp)];refine b9R (fun p hp=>?_) _;obtain⟨st,h,rfl⟩:=A8.mp hp;exact low st h
 | false=>
  rw[tr1,if_neg (show ¬b2P Sp s=true by unfold b2P;rw[hb];decide)]at tr;rw[c5b]at hb;rcases js with ⟨_,rfl,rfl⟩ | ⟨p,q,l,rfl,h2,h3,h4⟩
  ·exact absurd hb.1 (by decide)
  have hSp:Sp p=false:=hb.2;rcases h4 with h4 | ⟨j,j1,j2,j3⟩
  ·rw[hSp]at h4;cases h4
  refine A2 rfl ?_;rcases st3 with st3 | ⟨z,_⟩
  rotate_left
  ·exact(V5 z).elim
  refine⟨fun σ H3=>∃(m':Nat) (vs:List Addr) (a:Addr) (s:Stp) (r:List Stp) (i' t f:Nat),σ=[some (.ref rx),some (.int (t0:Int)),some (.ref w)]/\H3 w=some (.lst ((vs++[a]).map V.ref))/\vs.length=r.length/\(∀(j:Nat) x st,(vs++[a])[j]? = some x->(r.reverse++[s])[j]? = some st->L7 K H3 x st)/\Fw N s r t0/\S[i']? = some t/\Jst N Do Sp S i' s t/\r.length+i'<=i0/\d9 H H3/\(∀st∈r,Do st.1.toNat=false/\Sp st.1.toNat=false)/\s=g t/\trG g (b2P Sp) 1000 t0=r.reverse++trG g (b2P Sp) f t/\i'<f/\m'=i'/\m'<m,?_,?_⟩
  ·rintro σ' H3 ⟨m',vs,a,s,r,i',t,f,e,q1,q2,q3,q4,q5,q6,q7,q8,q9,q10,q11,q12,q13,q14⟩
   exact⟨m',q14,vs,a,s,r,i',t,f,e,q1,q2,q3,q4,q5,q6,q7,q8,q9,q10,q11,q12,q13⟩
  ext
  specialize a5S ?_;exists ⟨X9 hw3,?_⟩;exact_mod_cast b2m ?_;specialize R0 ?_;exists ⟨rx,_,dx,_,_,rfl,s03 _ _ h1,ck.U8,ck.a0A,rfl,?_⟩;exists C0 hw3 a8D ?_;refine N8 st3 (Z3 _ _) ?_;obtain⟨a',y1,y2,y3⟩:=b8q.get (cb.same s03) (fun i t e=>let⟨a,q1,q2,q3⟩:=h3g i t e; ⟨a,q1,q2.ts (d9.ts s03),q3⟩) j2;exists ⟨d,_,rfl,y1,?_⟩;refine W3 hw3 (G8 (by rw[p5,b9];simp;omega)) ?_;have hw3':H3 w=some (.lst ((vs++[a]).map V.ref)):=by rw[u4];exact hw3
  have sn:=a9M (S:=r.reverse++[((p:Int),(q:Int))]) hw3' (by simp[lv]) at3 y2;obtain⟨vs',z1,z2,z3⟩:=sn.ex
  have ev:vs'=(vs++[a])++[a']:=by
   rw[d8]at z1;exact(a0P (f:=V.ref) (fun a b h=>V.ref.inj h) |>.mp (HO.lst.inj (Option.some.inj z1))).symm
  subst ev;have ew:vs.map V.ref++List.map V.ref [a]++[V.ref a']=((vs++[a])++[a']).map V.ref:=by simp
  rw[ew];have hs':=y3.step;refine⟨_,vs++[a],a',g p,((p:Int),(q:Int))::r,j,p,f',rfl,d8,by simp[lv],fun j x st f1 f2=>?_,.cons hs'.1 ?_ fw,j2,y3,by rw[z9];omega,fun b o e=>by rw[i8 (c9 e hw)];exact s03 _ _ e,fun st h=>?_,rfl,?_,by omega,rfl,j1⟩
  ·refine z3 j x st f1 ?_
   rw[a2y]at f2;exact f2
  ·rw[hs'.2]
  ·rcases u6.mp h with rfl | h
   ·exact⟨j3,hSp⟩
   ·exact low st h
  ·rw[tr,a2y,F9]
   show _++((p:Int),(q:Int))::trG g (b2P Sp) f' (p:Int).toNat=_;rw[t6];rfl
theorem F8.app{z:Addr}{ps qs:List Addr}(h:F8 H a N)(hz:H z=some (.lst (ps.map V.ref)))(hp:ps≠[])(ha:a≠z):F8 (upd H z (.lst (qs.map V.ref))) a N:=by
 obtain⟨as,h1,h2,h3⟩:=h.ex;refine⟨as,by rw[i8 ha];exact h1,h2,fun i x l e1 e2=>?_⟩;have:=h3 i x l e1 e2;rw[i8 (O3 this hz fun e=>?_)]
 ·exact this
 ·have e:=HO.lst.inj e
  cases ps with
  | nil=>exact hp rfl
  | cons p ps=>
   cases l with
   | nil=>cases e
   | cons n l=>cases e
theorem a0b.app{z:Addr}{ps qs:List Addr}(h:a0b H a N)(hz:H z=some (.lst (ps.map V.ref)))(ha:a≠z):a0b (upd H z (.lst (qs.map V.ref))) a N:=by
 obtain⟨rs,h1,h2,h3⟩:=h.ex;exact⟨rs,by rw[i8 ha];exact h1,h2,fun i x l e1 e2=>(h3 i x l e1 e2).ts (F5.put hz)⟩
theorem a8s(r n e:Addr)(m:Str)(h:m∉(["rows","nexts","entries"]:List Str)):([("rows",.ref r),("nexts",.ref n),("entries",.ref e)]:List (Str×V)).lookup m=none:=by
 rw[List.lookup_eq_none_iff];intro p hp;simp only[u6,P5,or_false]at h hp;rcases hp with rfl | rfl | rfl
 ·simp;intro z;exact h (.inl z)
 ·simp;intro z;exact h (.inr (.inl z))
 ·simp;intro z;exact h (.inr (.inr z))
theorem a9D{K:Fg}{x:Addr}{E:XK}(ck:a1h K c)(hp:a1H K c H x N)(hv:S0 N)
  (k:∀a H',H a=none->H' a=some (.lst (IL (a1S N)))->d9 H H'->Q (.ref a) H'):a2O K [.ref x] H Q E:=by
 obtain⟨dx,fs,n,hx,hf,hn⟩:=hp.x;refine⟨rfl,?_⟩;unfold b0O
 ext
 specialize R0 ?_;exists ⟨x,_,dx,fs,_,rfl,hx,ck.O4,ck.Q3,hf,?_⟩;exact b3b hn hv.le k
theorem b1i{K:Fg}{x:Addr}{E:XK}(ck:a1h K c)(hp:a1H K c H x N)(ht:t<N.length)
  (k:∀a H',H a=none->D7 K H' a ((F2 N).filter fun s=>decide (G5 N s=t))->d9 H H'->Q (.ref a) H'):a0C K [.ref x,.int (t:Int)] H Q E:=by
 obtain⟨dx,r,n,e,es,h1,_,_,h4,h5,h6⟩:=hp.ex;refine⟨rfl,?_⟩;unfold a5X
 ext
 specialize R0 ?_;exists ⟨x,_,dx,_,.ref e,rfl,h1,ck.O4,ck.a1L,rfl,?_⟩;obtain⟨y,hy⟩:∃y,es[t]? = some y:=⟨_,c8 (by omega)⟩;exists C0 h4 (P4 (by rw[b6,hy];rfl)) ?_;obtain⟨vs,v1,v2,v3⟩:=(h6 t y hy).ex;refine a8U v1 fun l H' hl e' s'=>?_
 exact k l H' hl ⟨vs,e',v2,fun i x s a b=>(v3 i x s a b).ts (d9.ts s')⟩ s'
def b0s(N:Nt)(Do Sp:Nat->Bool)(t:Nat):Prop:=Do t=false/\(Sp t=true\/N[t]? = some [])
def Jgb(K:Fg)(H:Hp)(N:Nt)(Do Sp:Nat->Bool)(S:List Nat)(i t:Nat)(v:V):Prop:=
 (v=.non/\b0s N Do Sp t)\/∃(a:Addr) (q:Nat) (l:List Nat) (u j:Nat),v=.ref a/\L7 K H a ((t:Int),(q:Int))/\N[t]? = some l/\l[q]? = some u/\S[j]? = some u/\j<i/\Do t=false
theorem Jgb.grow{K:Fg}{Sp:Nat->Bool}{S ext:List Nat}(h:Jgb K H N Do Sp S i t v)(ts:F5 H H'):Jgb K H' N Do Sp (S++ext) i t v:=by
 rcases h with h | ⟨a,q,l,u,j,h1,h2,h3,h4,h5,h6,h7⟩
 ·exact .inl h
 ·exact .inr ⟨a,q,l,u,j,h1,h2.ts ts,h3,h4,by rw[j4 (gI h5)];exact h5,h6,h7⟩
structure GbK(K:Fg)(H:Hp)(d:Addr)(N:Nt)(Do Sp:Nat->Bool)(S:List Nat)(kvs:List (Key×V)):Prop where
 hd:H d=some (.dK kvs)
 nd:S.Nodup
 lt:∀t∈S,t<N.length
 len:kvs.length=S.length
 at_:∀(i:Nat) t,S[i]? = some t->∃v,kvs[i]? = some (Sum.inl (t:Int),v)/\Jgb K H N Do Sp S i t v
section
variable {K:Fg}{Sp:Nat->Bool}{S:List Nat}
theorem GbK.keys(h:GbK K H d N Do Sp S kvs):kvs.map (·.1)=S.map fun(t:Nat)=>(Sum.inl (t:Int):Key):=by
 apply a0s;intro i;rw[b6,b6];cases e:S[i]? with
 | none=>
  have:kvs[i]? = none:=by
   rw[G7]at e ⊢;have:=h.len;omega
  rw[this];rfl
 | some t=>
  obtain⟨v,q,_⟩:=h.at_ i t e;rw[q];rfl
theorem GbK.ndk(h:GbK K H d N Do Sp S kvs):(kvs.map (·.1)).Nodup:=by
 rw[h.keys];refine a1J _ (fun a b hab z=>hab ?_) h.nd;have:=Sum.inl.inj z;omega
theorem GbK.in_(h:GbK K H d N Do Sp S kvs)(t:Nat):(a6n kvs (Sum.inl (t:Int))).isSome=decide (t∈S):=by
 by_cases ht:t∈S
 ·rw[d6x ht]
  obtain⟨i,hi⟩:=i9.mp ht;obtain⟨v,q,_⟩:=h.at_ i t hi;rw[a4F h.ndk (mI q)];rfl
 ·rw[d6w ht]
  cases e:a6n kvs (Sum.inl (t:Int))with
  | none=>rfl
  | some v=>
   have:=b7k e;rw[h.keys]at this;obtain⟨u,hu,z⟩:=A8.mp this;have:=Sum.inl.inj z;have:u=t:=by omega
   exact absurd (this ▸ hu) ht
theorem GbK.notin(h:GbK K H d N Do Sp S kvs)(t:Nat):∃o,a4R H d (.int (t:Int)) o/\o.isSome=decide (t∈S):=⟨_,a4R.k (k:=Sum.inl (t:Int)) h.hd,h.in_ t⟩
theorem GbK.same(h:GbK K H d N Do Sp S kvs)(s:d9 H H'):GbK K H' d N Do Sp S kvs:=
 ⟨s _ _ h.hd,h.nd,h.lt,h.len,fun i t e=>by
  obtain⟨v,q1,q2⟩:=h.at_ i t e;have:=q2.grow (ext:=[]) (d9.ts s);rw[V0]at this;exact⟨v,q1,this⟩⟩
theorem GbK.add(h:GbK K H d N Do Sp S kvs)(ht:¬t∈S)(hlt:t<N.length)(hj:Jgb K H N Do Sp S S.length t v) :
  GbK K (upd H d (.dK (a1Z kvs (Sum.inl (t:Int)) v))) d N Do Sp (S++[t]) (a1Z kvs (Sum.inl (t:Int)) v):=by
 have e:a1Z kvs (Sum.inl (t:Int)) v=kvs++[(Sum.inl (t:Int),v)]:=by
  unfold a1Z;rw[a4G,h.in_,d6w ht,if_neg (by decide)]
 rw[e];have ts:F5 H (upd H d (.dK (kvs++[(Sum.inl (t:Int),v)]))):=fun b xs q=>by rw[i8 (O3 q h.hd (by intro z;cases z))];exact q
 refine⟨d8,?_,fun u hu=>?_,by simp[h.len],fun i u hu=>?_⟩
 ·rw[a0q]
  exact⟨h.nd,by simp,fun x hx y hy=>by rw[v6.mp hy];intro z;exact ht (z ▸ hx)⟩
 ·rcases z8.mp hu with q | q
  ·exact h.lt u q
  ·rw[v6.mp q];exact hlt
 ·rcases W0 hu with ⟨hi,g⟩ | ⟨hi,g⟩
  ·obtain⟨v',q1,q2⟩:=h.at_ i u g
   exact⟨v',by rw[j4 (gI q1)];exact q1,q2.grow ts⟩
  ·subst g
   refine⟨v,?_,?_⟩
   ·rw[hi,<-h.len];simp
   ·rw[hi];exact hj.grow ts
end
structure d0w(N:Nt)(Do Sp:Nat->Bool)(S:List Nat):Prop where
 en:∀t,t<N.length->b0s N Do Sp t->t∈S
 no:∀(p:Nat) l,N[p]? = some l->Do p=false->∀t∈l,t∈S->p∈S
def d2C(N:Nt)(S:List Nat)(p:Nat):Bool:=decide (0<(N.getD p []).length)&&(N.getD p []).all fun t => !decide (t∈S)
structure Wnt(K:Fg)(c:Cn)(H:Hp)(wx x:Addr)(N:Nt)(Do Sp:Nat->Bool)(S:List Nat):Prop where
 ex:∃dx d kvs,H wx=some (.ins c.O0 dx [("plan",.ref x),("goes_by",.ref d)])/\GbK K H d N Do Sp S kvs
 plan:a1H K c H x N
 shut:d0w N Do Sp S
section
variable {K:Fg}{x:Addr}{Sp:Nat->Bool}{S:List Nat}{p:Nat}{E:XK}
theorem Wnt.same(h:Wnt K c H wx x N Do Sp S)(s:d9 H H'):Wnt K c H' wx x N Do Sp S:=by
 obtain⟨dx,d,kvs,h1,h2⟩:=h.ex;exact⟨⟨dx,d,kvs,s _ _ h1,h2.same s⟩,h.plan.same s,h.shut⟩
theorem a7z(a b:V)(m:Str)(h:m∉(["plan","goes_by"]:List Str)):([("plan",a),("goes_by",b)]:List (Str×V)).lookup m=none:=by
 have h1:m≠("plan" : Str):=fun e=>h (by rw[e];simp)
 have h2:m≠("goes_by" : Str):=fun e=>h (by rw[e];simp)
 simp[a2F,beq_eq_false_iff_ne.mpr h1,beq_eq_false_iff_ne.mpr h2]
theorem a5i(ck:a1h K c)(h:Wnt K c H wx x N Do Sp S)(k:Q (.bl (!decide (t∈S))) H):R1 K [.ref wx,.int (t:Int)] H Q E:=by
 obtain⟨dx,d,kvs,h1,cb⟩:=h.ex;refine⟨rfl,?_⟩;unfold a5z
 ext
 specialize a2h ?_;specialize R0 ?_;refine⟨wx,_,dx,_,_,rfl,h1,ck.Y8,ck.a0Z,rfl,?_⟩;obtain⟨o',g1,g2⟩:=cb.notin t;refine⟨d,o',rfl,g1,?_⟩;rw[g2];exact k
theorem b7i(ck:a1h K c)(h:Wnt K c H wx x N Do Sp S)(ha:L7 K H a s)(hs:a0F N s)(k:Q (.bl (!decide (G5 N s∈S))) H):a1m K c [.ref wx,.ref a] H Q E:=by
 obtain⟨dx,d,kvs,h1,cb⟩:=id h.ex;obtain⟨dx',fs,n,hx,hf,hn⟩:=h.plan.x;obtain⟨dx2,r,n2,e,es,p1,_⟩:=h.plan.ex;refine⟨rfl,?_⟩;unfold a5y
 ext
 specialize V2 ?_;exists ⟨wx,dx,_,rfl,h1,a7z _ _ _ (by decide),?_⟩;exact_mod_cast V2 ?_;specialize R0 ?_;refine⟨wx,_,dx,_,_,rfl,h1,ck.Y8,ck.Z4,rfl,?_⟩;exists ⟨x,dx2,_,rfl,p1,a8s r n2 e _ (by decide),?_⟩;exists a6j ck h.plan.x ha hs ?_;exact a5i ck h k
theorem b1S(ck:a1h K c)(h:Wnt K c H wx x N Do Sp S)(hv:S0 N)(hp:p<N.length)(k:∀H',d9 H H'->Q (.bl (d2C N S p)) H'):U7 K c [.ref wx,.int (p:Int)] H Q E:=by
 obtain⟨dx,d,kvs,h1,cb⟩:=id h.ex;obtain⟨dx',fs,n,hx,hf,hn⟩:=h.plan.x;have hl:=M5 hp;obtain⟨l,hle⟩:∃l,l=N[p]:=⟨_,rfl⟩;rw[<-hle]at hl;have hg:N.getD p []=l:=by simp[D6,hl]
 have l2:=hv.two l (mI hl);obtain⟨us,u,f1,f2,f3,_⟩:=hn.at hl;unfold d2C at k;rw[hg]at k;refine⟨rfl,?_⟩;unfold a3E
 nofun
 exact_mod_cast R0 ?_;specialize R0 ?_;refine⟨wx,_,dx,_,_,rfl,h1,ck.Y8,ck.Z4,rfl,?_⟩;exists ⟨x,_,dx',fs,_,rfl,hx,ck.O4,ck.Q3,hf,?_⟩;exists C0 f1 f2 ?_;refine L9 f3 ?_;rw[K9]
 ext
 by_cases h0:0<l.length
 ·rw[d6x h0]at k
  exists A2 (d6x (by omega)) ?_;specialize a1u (V3 ?_);refine⟨u,rfl,⟨_,SqL.of f3⟩,fun T hT=>?_⟩;refine a0E (xs:=IL l) (fun i ys H8=>ys=((l.take i).map fun t=>V.bl (!decide (t∈S)))/\H8 T=some (.lst ys)/\d9 H H8) ?_ ?_ ?_ ?_ ?_
  ·exact⟨rfl,d8,A9 hT⟩
  ·rintro i ys H8 ⟨_,h,_⟩
   exact h
  ·rintro i ys H8 _ ⟨_,_,s8⟩
   exact SqL.of (s8 _ _ f3)
  ·rintro i y ys H8 hy ⟨rfl,hT8,s8⟩ R hR
   unfold IL at hy;rw[b6]at hy;cases hz:l[i]? with
   | none=>rw[hz]at hy;cases hy
   | some z=>
    rw[hz]at hy;cases hy
    ext
    specialize V2 ?_;exists ⟨wx,dx,_,rfl,s8 _ _ h1,a7z _ _ _ (by decide),?_⟩;refine a5i ck (h.same s8) ?_;refine hR _ _ hT8 (G8 (by rw[b9,C5];omega)) ⟨?_,d8,fun b o e=>?_⟩
    ·rw[F3,hz,u4];rfl
    ·rw[i8 (c9 e hT)];exact s8 _ _ e
  ·rintro ys H8 ⟨rfl,hT8,s8⟩
   rw[K9,J5]at hT8;have eb:(l.map fun t=>V.bl (!decide (t∈S)))=(l.map fun t => !decide (t∈S)).map V.bl:=by rw[S9];rfl
   rw[eb]at hT8
   ext
   refine c6g hT8 ?_;have:=k H8 s8;rw[Z8]at this;rw[c3c];exact this
 ·rw[d6w h0]at k
  refine p8 (d6w (by omega)) ?_;exact k H (d9.refl _)
end
def b0m(N:Nt)(Do Sp:Nat->Bool)(p:Nat):Bool := !Do p&&(Sp p||decide ((N.getD p []).length=0))
structure a9G(c:Cn)(H:Hp)(x:Addr)(N:Nt)(rs:List Addr):Prop where
 ex:∃dx fs n r,H x=some (.ins c.Q2 dx fs)/\fs.lookup ("nexts" : Str)=some (V.ref n)/\F8 H n N/\fs.lookup ("rows" : Str)=some (V.ref r)/\H r=some (.lst (rs.map V.ref))/\rs.length=N.length
theorem b1U{K:Fg}{x:Addr}{Sp:Nat->Bool}{E:XK}(ck:a1h K c)(hp:a9G c H x N rs)(hv:S0 N)(hd:a0w H dd ds)(hs:a4Q H rs ds Do Sp)
  (k:∀D H',H D=none->H' D=some (.lst (IL ((C1 N.length).filter (b0m N Do Sp))))->d9 H H'->Q (.ref D) H'):a2p K [.ref x,.ref dd] H Q E:=by
 have h400:=hv.le;obtain⟨dx,fs,n,r,hx,hfn,hn,hfr,hr,lr⟩:=hp.ex;refine⟨rfl,?_⟩;unfold a7L
 nofun
 exists F7 (by simp) fun D H1 hD e1 s1=>?_
 exact_mod_cast N7 ?_;specialize a0g (a6e ?_);specialize R0 ?_;exists ⟨x,_,dx,fs,_,rfl,s1 _ _ hx,ck.O4,ck.Z0,hfr,?_⟩;refine⟨r,rfl,⟨_,SqL.of (s1 _ _ hr)⟩,?_⟩;refine b5q N.length (fun i σ H2=>∃y3 y4,σ=[some (.ref x),some (.ref dd),some (.ref D),y3,y4]/\H2 D=some (.lst (IL ((C1 i).filter (b0m N Do Sp))))/\d9 H H2) ⟨_,_,rfl,e1,s1⟩ ?_ ?_ ?_
 ·rintro _ H2 ⟨y3,y4,rfl,hD2,s2⟩
  exists ⟨⟨_,SqL.of (s2 _ _ hr),by rw[b9,lr];exact j9 _⟩,?_⟩;exact k D H2 hD hD2 s2
 ·rintro i _ H2 hi ⟨y3,y4,rfl,hD2,s2⟩
  exact⟨_,_,SqL.of (s2 _ _ hr),by rw[b6,c8 (show i<rs.length by omega)];rfl⟩
 ·rintro i _ H2 hi ⟨y3,y4,rfl,hD2,s2⟩ v H3 ⟨pp,w,hpp,rfl,rfl,gw⟩
  obtain⟨rx,hrx⟩:∃rx,rs[i]? = some rx:=⟨_,c8 (by omega)⟩;have gw:=gw _ (SqL.of (s2 _ _ hr));rw[b6,hrx]at gw;cases gw;refine a8T (SqT.of d8) ?_;have s3:d9 H2 (upd H2 pp (.tup [V.int (i:Int),V.ref rx])):=A9 hpp;obtain⟨H3,hH3⟩:∃H3,H3=upd H2 pp (.tup [V.int (i:Int),V.ref rx]):=⟨_,rfl⟩;rw[<-hH3]at s3 ⊢;have s03:=s2.trans s3;obtain⟨xs,x1,x2,x3⟩:=(hs.ts (d9.ts s03)) i rx hrx;have hlp:=M5 hi;obtain⟨lp,hle⟩:∃lp,lp=N[i]:=⟨_,rfl⟩;rw[<-hle]at hlp;have hg:N.getD i []=lp:=by simp[D6,hlp]
  have hb:b0m N Do Sp i=(!Do i&&(Sp i||decide (lp.length=0))):=by unfold b0m;rw[hg]
  have lf:((C1 i).filter (b0m N Do Sp)).length<=i:=by
   have:=M7 (b0m N Do Sp) (C1 i);rw[a0r]at this;exact this
  have skip:∀H4,d9 H3 H4->b0m N Do Sp i=false->(∃y3 y4,[some (V.ref x),some (.ref dd),some (.ref D),some (.int (i:Int)),some (.ref rx)]=[some (V.ref x),some (.ref dd),some (.ref D),y3,y4]/\H4 D=some (.lst (IL ((C1 (i+1)).filter (b0m N Do Sp))))/\d9 H H4):=fun H4 s4 e=>by
   refine⟨_,_,rfl,?_,s03.trans s4⟩;rw[a1j,Z5];simp only[a5h,e,a5P,if_neg (show ¬(false=true) by decide),V0];exact s4 _ _ (s3 _ _ hD2)
  have put:∀H4,d9 H3 H4->b0m N Do Sp i=true->(∃y3 y4,[some (V.ref x),some (.ref dd),some (.ref D),some (.int (i:Int)),some (.ref rx)]=[some (V.ref x),some (.ref dd),some (.ref D),y3,y4]/\(upd H4 D (.lst (IL ((C1 i).filter (b0m N Do Sp))++[.int (i:Int)]))) D=some (.lst (IL ((C1 (i+1)).filter (b0m N Do Sp))))/\d9 H (upd H4 D (.lst (IL ((C1 i).filter (b0m N Do Sp))++[.int (i:Int)])))):=fun H4 s4 e=>by
   refine⟨_,_,rfl,?_,fun b o q=>?_⟩
   ·rw[d8,a1j,Z5]
    simp only[a5h,e,a5P,if_pos];rw[c7B];rfl
   ·rw[i8 (c9 q hD)];exact s4 _ _ (s03 _ _ q)
  ext
  refine b3O x1 (hd.ts (d9.ts s03)) ?_;rw[x2]
  ext
  cases hDo:Do i with
  | true=>
   refine p8 rfl ?_;exists p8 rfl ?_;exact skip H3 (d9.refl _) (by rw[hb,hDo];rfl)
  | false=>
   exists A2 rfl ?_;refine a6H x1 (hd.ts (d9.ts s03)) fun H4 s4=>?_
   rw[x3]
   ext
   cases hSp:Sp i with
   | true=>
    refine A2 rfl ?_;exists A2 rfl ?_;specialize a5S ?_;exists ⟨X9 (s4 _ _ (s3 _ _ hD2)),?_⟩;refine W3 (s4 _ _ (s3 _ _ hD2)) (G8 (by rw[K9];omega)) ?_;exact put H4 s4 (by rw[hb,hDo,hSp];rfl)
   | false=>
    exists p8 rfl ?_;specialize R0 ?_;refine⟨x,_,dx,fs,_,rfl,(s03.trans s4) _ _ hx,ck.O4,ck.Q3,hfn,?_⟩;obtain⟨us,u,f1,f2,f3,_⟩:=(hn.same (s03.trans s4)).at hlp
    ext
    exists C0 f1 f2 ?_;refine L9 f3 ?_;rw[K9]
    ext
    by_cases h0:lp.length=0
    ·exists A2 (d6x (by rw[h0];rfl)) ?_
     specialize a5S ?_;exists ⟨X9 (s4 _ _ (s3 _ _ hD2)),?_⟩;refine W3 (s4 _ _ (s3 _ _ hD2)) (G8 (by rw[K9];omega)) ?_;exact put H4 s4 (by rw[hb,hDo,hSp,d6x h0];rfl)
    ·exists p8 (d6w (fun z=>h0 (by have:=V.int.inj z;omega))) ?_
     exact skip H4 s4 (by rw[hb,hDo,hSp,d6w h0];rfl)
def a6Q(L:List Nat):List (Key×V):=L.map fun(p:Nat)=>(Sum.inl (p:Int),V.non)
theorem b6O{K:Fg}{tr:TE}{L:List Nat}(nd:L.Nodup)(l400:L.length<=400)(htr:∀R:VK,(∀a H',H' a=some (.lst (IL L))->d9 H H'->R (.ref a) H')->tr σ H R)
  (k:∀d H',H d=none->H' d=some (.dK (a6Q L))->d9 H H'->Q (.ref d) H'):tCB b4I (a9 (a0f (U2 K tr) a0e (a1Y (a9 (b4 0) (a9 (tC .non) d7)))) d7) σ H Q:=by
 exact_mod_cast d3t ?_;exact_mod_cast a3b ?_;exact_mod_cast a1u (V3 ?_);refine htr _ fun a H1 e1 s1=>?_
 refine⟨a,rfl,⟨_,SqL.of e1⟩,fun T hT=>?_⟩;refine a0E (xs:=IL L) (fun i ys H8=>ys.length=i/\H8 T=some (.lst ys)/\d9 H1 H8/\∀(j p:Nat),j<i->L[j]? = some p->∃b,ys[j]? = some (V.ref b)/\H8 b=some (.tup [.int (p:Int),.non])) ?_ ?_ ?_ ?_ ?_
 ·exact⟨rfl,d8,A9 hT,by omega⟩
 ·rintro i ys H8 ⟨_,h,_⟩
  exact h
 ·rintro i ys H8 _ ⟨_,_,s8,_⟩
  exact SqL.of (s8 _ _ e1)
 ·rintro i y ys H8 hy ⟨l8,hT8,s8,a8⟩ R hR
  unfold IL at hy;rw[b6]at hy;cases hz:L[i]? with
  | none=>rw[hz]at hy;cases hy
  | some z=>
   rw[hz]at hy;cases hy;have hi:=(gI hz)
   ext
   refine F7 (by simp) fun b H9 hb e9 s9=>?_
   have bT:b≠T:=fun q=>by rw[q,hT8]at hb;cases hb
   refine hR _ _ (s9 _ _ hT8) (G8 (by omega)) ⟨by rw[p5,l8];rfl,d8,fun b o e=>?_,fun j p hj hp=>?_⟩
   ·rw[i8 (c9 e hT)];exact s9 _ _ (s8 _ _ e)
   ·by_cases q:j=i
    ·subst q
     rw[hz]at hp;cases hp;exact⟨b,by rw[<-l8];simp,by rw[i8 bT];exact e9⟩
    ·obtain⟨b',q1,q2⟩:=a8 j p (by omega) hp
     exact⟨b',by rw[j4 (by omega)];exact q1,by rw[i8 (O3 q2 hT8 (by intro z;cases z))];exact s9 _ _ q2⟩
 ·rintro ys H8 ⟨l8,hT8,s8,a8⟩
  rw[K9]at l8 a8;exact_mod_cast a9B ?_;refine⟨T,ys,a6Q L,rfl,hT8,by rw[l8];simp[a6Q],fun i kk x e=>?_,?_,fun d hd=>?_⟩
  ·unfold a6Q at e
   rw[b6]at e;cases hz:L[i]? with
   | none=>rw[hz]at e;cases e
   | some z=>
    rw[hz]at e;cases e;obtain⟨b,q1,q2⟩:=a8 i z (gI hz) hz;exact⟨b,q1,q2⟩
  ·unfold a6Q
   rw[S9];refine a1J _ (fun a b hab z=>hab ?_) nd;have:=Sum.inl.inj z;omega
  ·have s08:=s1.trans s8
   exact k d _ (s08.free hd) d8 (s08.trans (A9 hd))
theorem b9X{K:Fg}{Sp:Nat->Bool}{L:List Nat}(hd:H d=some (.dK (a6Q L)))(nd:L.Nodup)(lt:∀t∈L,t<N.length)(en:∀t∈L,b0s N Do Sp t):GbK K H d N Do Sp L (a6Q L):=by
 refine⟨hd,nd,lt,by simp[a6Q],fun i t e=>⟨.non,?_,.inl ⟨rfl,en t (mI e)⟩⟩⟩;unfold a6Q;rw[b6,e];rfl
structure GbI(K:Fg)(H0 H:Hp)(d o:Addr)(N:Nt)(Do Sp:Nat->Bool)(S:List Nat)(kvs:List (Key×V)):Prop where
 gb:GbK K H d N Do Sp S kvs
 same:d9 H0 H
 ho:H o=some (.lst (IL S))
 fr:H0 d=none/\H0 o=none
def But(d o:Addr)(H H':Hp):Prop:=∀b ob,b≠d->b≠o->H b=some ob->H' b=some ob
section
variable {K:Fg}{o:Addr}{Sp:Nat->Bool}{S:List Nat}
theorem GbI.next(h:GbI K H0 H d o N Do Sp S kvs)(s:d9 H H'):GbI K H0 H' d o N Do Sp S kvs:=⟨h.gb.same s,h.same.trans s,s _ _ h.ho,h.fr⟩
theorem But.ts(h:But d o H H')(hd:H d=some (.dK kvs))(ho:H o=some (.lst (IL S))):F5 H H':=fun b xs q=>h b _ (O3 q hd (by intro z;cases z)) (O3 q ho (by intro z;cases z)) q
theorem c2K{a b g p q:Nat}{x:Addr}(ha:σ[a]? = some (some (.ref x)))(hb:σ[b]? = some (some (.ref d)))(hg:σ[g]? = some (some (.ref o)))(I:GbI K H0 H d o N Do Sp S kvs)(h400:N.length<=400)(hx:H x=some (.tup [.int (p:Int),.int (q:Int)]))(hl:N[p]? = some l)(ht:l[q]? = some t)(hj:S[j]? = some t)(hD:Do p=false)(hps:¬p∈S)
  (k:∀H' kvs',kvs'=kvs++[(Sum.inl (p:Int),.ref x)]->GbI K H0 H' d o N Do Sp (S++[p]) kvs'->But d o H H'->D.nx σ H'):u8 (a3Z (b4 b) (tOp qIx (b4 a) (tC (.int 0))) (b4 a)) (V7 (tBM K "list" O5 (b4 g) (a9 (tOp qIx (b4 a) (tC (.int 0))) (d7)))) D σ H:=by
 exact_mod_cast N7 ?_;exact_mod_cast a9W ?_;exact_mod_cast a0M ha ?_;exact_mod_cast a0M hb ?_;exact_mod_cast c8k ?_;exact_mod_cast a0M ha ?_;exact_mod_cast s_c ?_;refine N8 hx (Z3 _ _) ?_;have hlen:S.length<=400:=J4 (a3O _ _ I.gb.nd I.gb.lt) h400;refine⟨d,_,rfl,b5E.k (k:=Sum.inl (p:Int)) I.gb.hd (G8 (by rw[I.gb.len];omega)),?_⟩;have add:=I.gb.add (v:=.ref x) hps (gI hl) (.inr ⟨x,q,l,t,j,rfl,.inl hx,hl,ht,hj,(gI hj),hD⟩)
 have ek:a1Z kvs (Sum.inl (p:Int)) (.ref x)=kvs++[(Sum.inl (p:Int),.ref x)]:=by
  unfold a1Z;rw[a4G,I.gb.in_,d6w hps,if_neg (by decide)]
 obtain⟨kvs',hk⟩:∃kvs',kvs'=a1Z kvs (Sum.inl (p:Int)) (.ref x):=⟨_,rfl⟩;rw[<-hk]at add ⊢;obtain⟨H2,hH2⟩:∃H2,H2=upd H d (.dK kvs'):=⟨_,rfl⟩;rw[<-hH2]at add ⊢;have nod:o≠d:=O3 I.ho I.gb.hd (by intro z;cases z);have ho2:H2 o=some (.lst (IL S)):=by rw[hH2,i8 nod];exact I.ho
 have hx2:H2 x=some (.tup [.int (p:Int),.int (q:Int)]):=by rw[hH2,i8 (O3 hx I.gb.hd (by intro z;cases z))];exact hx
 exact_mod_cast b7A ?_;exact_mod_cast a5S ?_;exact_mod_cast a0M hg ?_;refine⟨X9 ho2,?_⟩;exact_mod_cast a3b ?_;exact_mod_cast c8k ?_;exact_mod_cast a0M ha ?_;exact_mod_cast s_c ?_;refine N8 hx2 (Z3 _ _) ?_;exact_mod_cast a9B ?_;refine W3 ho2 (G8 (by rw[K9];omega)) ?_;have e3:IL S++[V.int (p:Int)]=IL (S++[p]):=by simp[IL]
 rw[e3];have ts:F5 H2 (upd H2 o (.lst (IL (S++[p])))):=F5.put ho2;refine k _ kvs' (hk.trans ek) ⟨⟨by rw[i8 nod.symm];exact add.hd,add.nd,add.lt,add.len,fun i u hu=>?_⟩,fun b' o'' q'=>?_,d8,I.fr⟩ fun b ob n1 n2 e=>?_
 ·obtain⟨v,q1,q2⟩:=add.at_ i u hu
  have:=q2.grow (ext:=[]) ts;rw[V0]at this;exact⟨v,q1,this⟩
 ·rw[i8 (c9 q' I.fr.2),hH2,i8 (c9 q' I.fr.1)];exact I.same _ _ q'
 ·rw[i8 n2,hH2,i8 n1];exact e
theorem d2u{a b g p q:Nat}{x:Addr}(ha:σ[a]? = some (some (.ref x)))(hb:σ[b]? = some (some (.ref d)))(hg:σ[g]? = some (some (.ref o)))(I:GbI K H0 H d o N Do Sp S kvs)(h400:N.length<=400)(hx:H x=some (.tup [.int (p:Int),.int (q:Int)]))(hl:N[p]? = some l)(ht:l[q]? = some t)(hj:S[j]? = some t)(hD:Do p=false)(hps:¬p∈S)
  (k:∀H' kvs',GbI K H0 H' d o N Do Sp (S++[p]) kvs'->But d o H H'->D.nx σ H'):u8 (a3Z (b4 b) (tOp qIx (b4 a) (tC (.int 0))) (b4 a)) (V7 (tBM K "list" O5 (b4 g) (a9 (tOp qIx (b4 a) (tC (.int 0))) (d7)))) D σ H:=
 c2K ha hb hg I h400 hx hl ht hj hD hps fun H' kvs' _=>k H' kvs'
end
theorem But.trans{o:Addr}{H'':Hp}(h:But d o H H')(h':But d o H' H''):But d o H H'':=fun b ob n1 n2 e=>h' b ob n1 n2 (h b ob n1 n2 e)
theorem But.refl{o:Addr}:But d o H H:=fun _ _ _ _ e=>e
theorem c7l{Sp:Nat->Bool}(ht:t<N.length):b0m N Do Sp t=true↔b0s N Do Sp t:=by
 have hg:N.getD t []=N[t]:=by simp[D6,ht]
 unfold b0m b0s;rw[hg,P6,b7a,M5 ht,b3T,decide_eq_true_iff,a7Y,Option.some.injEq]
theorem a9G.same{x:Addr}(h:a9G c H x N rs)(s:d9 H H'):a9G c H' x N rs:=by
 obtain⟨dx,fs,n,r,h1,h2,h3,h4,h5,h6⟩:=h.ex;exact⟨dx,fs,n,r,s _ _ h1,h2,h3.same s,h4,s _ _ h5,h6⟩
theorem a6W.q{K:Fg}{x:Addr}(h:a6W K c Z rs H x N):a9G c H x N rs:=by
 obtain⟨dx,r,n,e,es,ns,h1,⟨h2,h2r⟩,h3,h4,h5,h6,h7,h8,_⟩:=h.ex;refine⟨dx,_,n,r,h1,rfl,⟨ns,h3,h4,h5⟩,rfl,h2r,?_⟩;obtain⟨rs',q1,q2,_⟩:=h2.ex;rw[h2r]at q1;have:=congrArg b6t (HO.lst.inj (Option.some.inj q1));rw[b9,b9]at this;omega
theorem b0I{K:Fg}{x:Addr}{Sp:Nat->Bool}{E:XK}(ck:a1h K c)(hp:a9G c H x N rs)(hz:a1H K c H x N)(hv:S0 N)(hd:a0w H dd ds)(hs:a4Q H rs ds Do Sp)
  (k:∀d H' S kvs,GbK K H' d N Do Sp S kvs->d0w N Do Sp S->d9 H H'->Q (.ref d) H'):a1V K c [.ref x,.ref dd] H Q E:=by
 have h400:=hv.le;obtain⟨dx,fs,n,r,hx,hfn,hn,hfr,hr,lr⟩:=id hp.ex;obtain⟨dx2,r2,n2,e2',es,p1,_⟩:=id hz.ex;obtain⟨L0,hL0⟩:∃L0,L0=(C1 N.length).filter (b0m N Do Sp):=⟨_,rfl⟩;have nd0:L0.Nodup:=hL0 ▸ a7X.filter _;have lt0:∀t∈L0,t<N.length:=fun t ht=>by rw[hL0]at ht;exact Q8.mp (E8.mp ht).1
 have en0:∀t,t<N.length->(t∈L0↔b0s N Do Sp t):=fun t ht=>by
  rw[hL0,E8,Q8,c7l ht];exact⟨fun h=>h.2,fun h=>⟨ht,h⟩⟩
 have l0:L0.length<=400:=J4 (a3O _ _ nd0 lt0) h400;refine⟨rfl,?_⟩;unfold a6B
 nofun
 refine b1U ck hp hv hd hs fun o H1 ho e1 s1=>?_
 rw[<-hL0]at e1
 ext
 exact_mod_cast N7 ?_;exact_mod_cast b6F ?_;exists b6O nd0 l0 (fun R hR=>a0M rfl (hR o H1 e1 (d9.refl _))) fun d H2 hd2 e2 s2=>?_
 have I2:GbI K H H2 d o N Do Sp L0 _:=⟨b9X e2 nd0 lt0 fun t ht=>(en0 t (lt0 t ht)).mp ht,s1.trans s2,s2 _ _ e1,s1.free hd2,ho⟩
 nofun
 exact_mod_cast N7 ?_;exact_mod_cast a6d ?_
 refine⟨fun m σ H4=>∃(y5 y6:Option V) (S:List Nat) (kvs:List (Key×V)) (dn:Nat),σ=[some (.ref x),some (.ref dd),some (.ref o),some (.ref d),some (.int (dn:Int)),y5,y6]/\GbI K H H4 d o N Do Sp S kvs/\(∃ext,S=L0++ext)/\dn<=S.length/\(∀(j t p:Nat) l,j<dn->S[j]? = some t->N[p]? = some l->t∈l->Do p=false->p∈S)/\m=N.length - dn,
  ⟨_,_,_,L0,_,0,rfl,I2,⟨[],by simp⟩,by omega,by omega,rfl⟩,?_⟩
 rintro m _ H4 ⟨y5,y6,S,kvs,dn,rfl,I4,x4,hdn,c4,rfl⟩
 ext
 exists L9 I4.ho ?_;rw[K9];have hSl:S.length<=N.length:=a3O _ _ I4.gb.nd I4.gb.lt;by_cases hlt:dn<S.length
 ·refine A2 (d6x (by omega)) ?_
  obtain⟨t,htS⟩:∃t,S[dn]? = some t:=⟨_,c8 hlt⟩;have htn:=I4.gb.lt t (mI htS);refine⟨fun σ H5=>∃(m':Nat) (y5 y6:Option V) (S:List Nat) (kvs:List (Key×V)) (dn':Nat),σ=[some (.ref x),some (.ref dd),some (.ref o),some (.ref d),some (.int (dn':Int)),y5,y6]/\GbI K H H5 d o N Do Sp S kvs/\(∃ext,S=L0++ext)/\dn'<=S.length/\(∀(j t p:Nat) l,j<dn'->S[j]? = some t->N[p]? = some l->t∈l->Do p=false->p∈S)/\m'=N.length - dn'/\m'<N.length - dn,?_,?_⟩
  ·rintro σ' H5 ⟨m',y5,y6,S,kvs,dn',e,r1,r2,r3,r4,r5,r6⟩
   exact⟨m',r6,y5,y6,S,kvs,dn',e,r1,r2,r3,r4,r5⟩
  nofun
  exists C0 I4.ho (a9H htS) ?_;exact_mod_cast N7 ?_;specialize c2A rfl ?_;have e1':(dn:Int)+1=((dn+1:Nat):Int):=by omega
  rw[e1'];specialize a0g (V3 ?_);specialize V2 ?_;exists ⟨x,dx2,_,rfl,I4.same _ _ p1,a8s r2 n2 e2' _ (by decide),?_⟩;refine b1i ck (hz.same I4.same) htn fun st H5 hst sa s5=>?_
  obtain⟨vs,v1,v2,v3⟩:=sa.ex;have I5:=I4.next s5;have nst:st≠d/\st≠o:=⟨(c9 I4.gb.hd hst).symm,(c9 I4.ho hst).symm⟩;obtain⟨Z,hZ⟩:∃Z,Z=(F2 N).filter fun s=>decide (G5 N s=t):=⟨_,rfl⟩
  rw[<-hZ]at v2 v3;refine⟨st,rfl,⟨_,SqL.of v1⟩,a1v (xs:=vs.map V.ref) (fun i σ H6=>∃(y6:Option V) (S':List Nat) (kvs':List (Key×V)),σ=[some (.ref x),some (.ref dd),some (.ref o),some (.ref d),some (.int ((dn+1:Nat):Int)),some (.int (t:Int)),y6]/\GbI K H H6 d o N Do Sp S' kvs'/\(∃ext,S'=S++ext)/\But d o H5 H6/\∀(j p q:Nat),j<i->Z[j]? = some ((p:Int),(q:Int))->Do p=false->p∈S') ⟨_,S,kvs,rfl,I5,⟨[],by simp⟩,But.refl,by omega⟩ ?_ ?_ ?_⟩
  ·rintro i σ H6 _ ⟨_,_,_,_,_,_,bt,_⟩
   exact SqL.of (bt _ _ nst.1 nst.2 v1)
  ·rintro i y _ H6 hy ⟨y6,S',kvs',rfl,I6,⟨ext,e6⟩,bt,g6⟩
   rw[b6]at hy;cases hw:vs[i]? with
   | none=>rw[hw]at hy;cases hy
   | some w=>
    rw[hw]at hy;cases hy;obtain⟨s,hsi⟩:∃s,Z[i]? = some s:=⟨_,c8 (by have:=(gI hw);omega)⟩;have sm:=mI hsi;rw[hZ,E8]at sm;have iss:=a1O sm.1;have ld:=of_decide_eq_true sm.2;have st6:L7 K H6 w s:=(v3 i w s hw hsi).ts (bt.ts I5.gb.hd I5.ho);have lS':S'.length<=N.length:=a3O _ _ I6.gb.nd I6.gb.lt
    have grow:∀S'',(∃e,S''=S'++e)->(∀p q:Nat,s=((p:Int),(q:Int))->Do p=false->p∈S'')->∀(j p q:Nat),j<i+1->Z[j]? = some ((p:Int),(q:Int))->Do p=false->p∈S'':=by
     rintro S'' ⟨e,rfl⟩ h j p q hj hj2 hD;by_cases z:j=i
     ·subst z
      rw[hsi]at hj2;exact h p q (Option.some.inj hj2) hD
     ·exact y0 _ (g6 j p q (by omega) hj2 hD)
    ext
    refine⟨_,_,_,_,rfl,rfl,st6.sq,ck.Q6 H6,rfl,rfl,?_⟩;rw[eq2]
    ext
    rcases iss with rfl | ⟨p,q,l,t',rfl,hl,hq⟩
    ·refine p8 rfl ?_
     exists p8 rfl ?_;exact⟨_,S',kvs',rfl,I6,⟨ext,e6⟩,bt,grow S' ⟨[],by simp⟩ fun p q e _=>(V5 e.symm).elim⟩
    ·rw[a2t hl hq]at ld
     subst ld
     refine A2 (by
      have:decide ((((p:Int),(q:Int)).1,((p:Int),(q:Int)).2)=FST)=false:=d6w V5;rw[this];rfl) ?_
     rcases st6 with st6 | ⟨z,_⟩
     rotate_left
     ·exact(V5 z).elim
     have eqs:∀p' q':Nat,(((p:Int),(q:Int)):Stp)=((p':Int),(q':Int))->p'=p:=fun p' q' e=>by
      have:(p:Int)=(p':Int):=congrArg Prod.fst e;omega
     ext
     specialize a2h ?_;exists N8 st6 (Z3 _ _) ?_;obtain⟨o',g1,g2⟩:=I6.gb.notin p;refine⟨d,o',rfl,g1,?_⟩;rw[g2]
     ext
     by_cases hps:p∈S'
     ·refine p8 (by rw[d6x hps];rfl) ?_
      exists p8 rfl ?_;exact⟨_,S',kvs',rfl,I6,⟨ext,e6⟩,bt,grow S' ⟨[],by simp⟩ fun p' q' e _=>by rw[eqs p' q' e];exact hps⟩
     ·refine A2 (by rw[d6w hps];rfl) ?_
      have hpn:=(gI hl);obtain⟨ax,hax⟩:∃ax,rs[p]? = some ax:=⟨_,c8 (by omega)⟩;obtain⟨xs,x1,x2,x3⟩:=(hs.ts (d9.ts I6.same)) p ax hax
      ext
      specialize R0 ?_;exists ⟨x,_,dx,fs,_,rfl,I6.same _ _ hx,ck.O4,ck.Z0,hfr,?_⟩;exists N8 st6 (Z3 _ _) ?_;exists C0 (I6.same _ _ hr) (P4 (by rw[b6,hax];rfl)) ?_;refine b3O x1 (hd.ts (d9.ts I6.same)) ?_;rw[x2]
      ext
      cases hDo:Do p with
      | true=>
       exists p8 rfl ?_;exact⟨_,S',kvs',rfl,I6,⟨ext,e6⟩,bt,grow S' ⟨[],by simp⟩ fun p' q' e hD=>by rw[eqs p' q' e,hDo]at hD;cases hD⟩
      | false=>
       refine A2 rfl ?_;refine d2u (a:=6) (b:=3) (g:=2) (j:=dn) rfl rfl rfl I6 h400 st6 hl hq (by rw[e6,j4 hlt];exact htS) hDo hps fun H7 kvs7 I7 b7=>?_
       exact⟨_,S'++[p],kvs7,rfl,I7,⟨ext++[p],by rw[e6,F9]⟩,bt.trans b7,grow _ ⟨[p],rfl⟩ fun p' q' e _=>by rw[eqs p' q' e];simp⟩
  ·rintro _ H6 ⟨y6,S',kvs',rfl,I6,⟨ext,e6⟩,bt,g6⟩
   obtain⟨ext4,hx4⟩:=x4;refine⟨_,_,_,S',kvs',dn+1,rfl,I6,⟨ext4++ext,by rw[e6,hx4,F9]⟩,by rw[e6,p5];omega,fun j t' p l hj hj2 hl ht hD=>?_,rfl,by omega⟩;rw[b9,v2]at g6;have hj3:S[j]? = some t':=by rw[e6,j4 (by omega)]at hj2;exact hj2
   by_cases q:j=dn
   ·subst q
    rw[htS]at hj3;cases hj3;obtain⟨q,hq⟩:=i9.mp ht
    have m1:(((p:Int),(q:Int)):Stp)∈Z:=by
     rw[hZ,E8];exact⟨a3s (.inr ⟨p,q,l,t,rfl,hl,hq⟩),d6x (a2t hl hq)⟩
    obtain⟨i,hi⟩:=i9.mp m1;exact g6 i p q (gI hi) hi hD
   ·rw[e6];exact y0 _ (c4 j t' p l (by omega) hj3 hl ht hD)
 ·exists p8 (d6w (by omega)) ?_
  obtain⟨ext4,hx4⟩:=x4;refine k d H4 S kvs I4.gb ⟨fun t ht he=>by rw[hx4];exact y0 _ ((en0 t ht).mpr he),fun p l hl hD t ht htS=>?_⟩ I4.same;obtain⟨j,hj⟩:=i9.mp htS;have:=(gI hj);exact c4 j t p l (by omega) hj hl ht hD
inductive On(N:Nt):Nat->List Stp->Nat->Prop
 | nil {t:Nat}:On N t [] t
 | cons {p q u e:Nat} {l:List Nat} {W:List Stp}:N[p]? = some l->l[q]? = some u->On N u W e->On N p (((p:Int),(q:Int))::W) e
section
variable {e':Nat}{W W':List Stp}
theorem On.app(h:On N t W e)(h':On N e W' e'):On N t (W++W') e':=by
 induction h with
 | nil=>exact h'
 | cons h1 h2 _ ih=>exact .cons h1 h2 (ih h')
theorem On.snoc{q u:Nat}(h:On N t W e)(h1:N[e]? = some l)(h2:l[q]? = some u):On N t (W++[((e:Int),(q:Int))]) u:=h.app (.cons h1 h2 .nil)
theorem On.isStep(h:On N t W e):∀x∈W,a0F N x:=by
 induction h with
 | nil=>intro x hx;cases hx
 | @cons p q u e l W h1 h2 _ ih=>
  intro x hx;rcases u6.mp hx with rfl | hx
  ·exact .inr ⟨p,q,l,u,rfl,h1,h2⟩
  ·exact ih x hx
theorem On.beg(h:On N t W e):t::W.map (G5 N)=(W.map fun s=>s.1.toNat)++[e]:=by
 induction h with
 | nil=>rfl
 | @cons p q u e l W h1 h2 _ ih=>
  rw[D5,D5,a2t h1 h2,ih];rfl
theorem On.stop(h:On N t W e)(hs:N[t]? = some []):W=[]:=by
 cases h with
 | nil=>rfl
 | cons h1 h2 h3=>
  rw[hs]at h1;cases h1;simp at h2
theorem On.lt(hv:S0 N)(ht:t<N.length)(h:On N t W e):e<N.length:=by
 induction h with
 | nil=>exact ht
 | @cons p q u e l W h1 h2 _ ih=>exact ih (hv.lt l (mI h1) u (mI h2))
end
def a3t(L:List (Nat×Option Stp)):List Nat:=L.map (·.1)
def c1q(L:List (Nat×Option Stp))(t:Nat)(s:Stp):List (Nat×Option Stp):=if t∈a3t L then L else L++[(t,some s)]
def upO(L:List (Nat×Option Stp))(Z:List Stp):Nat->List (Nat×Option Stp)
 | 0=>L
 | i+1=>match Z[i]? with
  | none=>upO L Z i
  | some s=>if s=FST then upO L Z i else c1q (upO L Z i) s.1.toNat s
def c2G(N:Nt)(t:Nat):List Stp:=(F2 N).filter fun s=>decide (G5 N s=t)
def bfo(N:Nt):Nat->List (Nat×Option Stp)
 | 0=>(a1S N).map fun t=>(t,none)
 | n+1=>match (bfo N n)[n]? with
  | none=>bfo N n
  | some x=>upO (bfo N n) (c2G N x.1) (c2G N x.1).length
def gO(L:List (Nat×Option Stp))(t:Nat):Option Stp:=((L.find? fun x=>x.1 == t).map (·.2)).getD none
def a5M(N:Nt)(g:Nat->Option Stp):Nat->Nat->List Stp
 | 0,_=>[]
 | f+1,t=>match g t with
  | none=>[]
  | some s=>s::a5M N g f (G5 N s)
def a9w(N:Nt)(t:Nat):List Stp:=a5M N (gO (bfo N N.length)) 1000 t
section
variable {o:Option Stp}{Z:List Stp}
theorem c4o(a b:List (Nat×Option Stp)):a3t (a++b)=a3t a++a3t b:=by unfold a3t;rw[u4]
theorem c4n:(a3t L).length=L.length:=by simp[a3t]
theorem c0w(h:L[i]? = some (t,o)):(a3t L)[i]? = some t:=by unfold a3t;rw[b6,h];rfl
theorem c6n(L:List (Nat×Option Stp))(t:Nat)(s:Stp):∃e,c1q L t s=L++e:=by
 unfold c1q;by_cases h:t∈a3t L
 ·rw[if_pos h];exact⟨[],by simp⟩
 ·rw[if_neg h];exact⟨[(t,some s)],rfl⟩
theorem c5x(h:Z[i]? = none):upO L Z (i+1)=upO L Z i:=by rw[upO,h]
theorem b4j(h:Z[i]? = some s):upO L Z (i+1)=if s=FST then upO L Z i else c1q (upO L Z i) s.1.toNat s:=by rw[upO,h]
theorem c2q(L:List (Nat×Option Stp))(Z:List Stp):∀i,∃e,upO L Z i=L++e
 | 0=>⟨[],by simp[upO]⟩
 | i+1=>by
  obtain⟨e,he⟩:=c2q L Z i;cases h:Z[i]? with
  | none=>exact⟨e,by rw[c5x h,he]⟩
  | some s=>
   rw[b4j h];by_cases q:s=FST
   ·rw[if_pos q];exact⟨e,he⟩
   ·rw[if_neg q]
    obtain⟨e',he'⟩:=c6n (upO L Z i) s.1.toNat s;exact⟨e++e',by rw[he',he,F9]⟩
theorem c7v(h:(bfo N n)[n]? = none):bfo N (n+1)=bfo N n:=by rw[bfo,h]
theorem c0u{x:Nat×Option Stp}(h:(bfo N n)[n]? = some x):bfo N (n+1)=upO (bfo N n) (c2G N x.1) (c2G N x.1).length:=by rw[bfo,h]
theorem c9J(N:Nt)(n:Nat):∃e,bfo N (n+1)=bfo N n++e:=by
 cases h:(bfo N n)[n]? with
 | none=>exact⟨[],by rw[c7v h];simp⟩
 | some x=>rw[c0u h];exact c2q _ _ _
theorem c2X(N:Nt)(n:Nat):∀k,∃e,bfo N (n+k)=bfo N n++e
 | 0=>⟨[],by simp⟩
 | k+1=>by
  obtain⟨e,he⟩:=c2X N n k;obtain⟨e',he'⟩:=c9J N (n+k);exact⟨e++e',by rw[<-d4o,he',he,F9]⟩
theorem d4b(nd:(a3t L).Nodup)(h:L[i]? = some (t,o))(e:List (Nat×Option Stp)):gO (L++e) t=o:=by
 unfold gO
 have hf:L.find? (fun x=>x.1 == t)=some (t,o):=by
  rw[b6u];refine⟨by simp,L.take i,L.drop (i+1),?_,fun x hx=>?_⟩
  ·have h2:=(k8.mp h).2
   rw[<-h2,c3a,c4R]
  ·obtain⟨j,hj⟩:=i9.mp hx
   have hjl:=(gI hj);rw[C5]at hjl;rw[a3x (by omega)]at hj;simp only[b3T,beq_eq_false_iff_ne];intro z;have a1:=c0w (o:=x.2) (t:=x.1) hj;have a2:=c0w h;rw[z]at a1;have hil:=(gI h);have:=(a4A (i:=j) (j:=i) (by rw[c4n];omega) nd).mp (a1.trans a2.symm);omega
 rw[c9W,hf];rfl
end
theorem c5J(ht:t<N.length):(t∈a1S N↔N[t]? = some []):=by
 refine⟨fun h=>?_,b2D⟩;have h:=(E8.mp h).2;have hg:N.getD t []=N[t]:=by simp[D6,ht]
 unfold a7B at h;rw[M5 ht];simp only[hg]at h;simpa using h
def KO(H:Hp)(kvs:List (Key×V))(L:List (Nat×Option Stp)):Prop:=kvs.length=L.length/\∀(i t:Nat) (o:Option Stp),L[i]? = some (t,o)->∃v,kvs[i]? = some (Sum.inl (t:Int),v)/\(o=none->v=.non)/\∀s,o=some s->∃a,v=.ref a/\H a=some (.tup [.int s.1,.int s.2])
theorem KO.ts(h:KO H kvs L)(t:F5 H H'):KO H' kvs L:=
 ⟨h.1,fun i u o e=>let⟨v,q1,q2,q3⟩:=h.2 i u o e; ⟨v,q1,q2,fun s es=>let⟨a,z1,z2⟩:=q3 s es; ⟨a,z1,t _ _ z2⟩⟩⟩
theorem KO.snoc(h:KO H kvs L)(ha:H a=some (.tup [.int s.1,.int s.2])):KO H (kvs++[(Sum.inl (t:Int),.ref a)]) (L++[(t,some s)]):=by
 refine⟨by simp[h.1],fun i u o e=>?_⟩;rcases W0 e with ⟨hi,g⟩ | ⟨hi,g⟩
 ·obtain⟨v,q1,q2,q3⟩:=h.2 i u o g
  exact⟨v,by rw[j4 (gI q1)];exact q1,q2,q3⟩
 ·cases g
  exact⟨.ref a,by rw[hi,<-h.1];simp,(fun z=>by cases z),fun s' z=>by cases z;exact⟨a,rfl,ha⟩⟩
theorem KO.ends(S:List Nat):KO H (a6Q S) (S.map fun t=>(t,none)):=by
 refine⟨by simp[a6Q],fun i t o e=>?_⟩;rw[b6]at e;cases hz:S[i]? with
 | none=>rw[hz]at e;cases e
 | some z=>
  rw[hz]at e;cases e;exact⟨.non,by unfold a6Q;rw[b6,hz];rfl,fun _=>rfl,fun s z=>by cases z⟩
structure FD(K:Fg)(H:Hp)(d:Addr)(N:Nt)(Do Sp:Nat->Bool)(S:List Nat)(kvs:List (Key×V))(g:Nat->Option Stp):Prop where
 gb:GbK K H d N Do Sp S kvs
 at_:∀(i t:Nat),S[i]? = some t->∃v,kvs[i]? = some (Sum.inl (t:Int),v)/\((g t=none/\v=.non/\b0s N Do Sp t)\/∃(a:Addr) (q:Nat) (l:List Nat) (u j:Nat),g t=some ((t:Int),(q:Int))/\v=.ref a/\L7 K H a ((t:Int),(q:Int))/\N[t]? = some l/\l[q]? = some u/\S[j]? = some u/\j<i/\Do t=false)
section
variable {K:Fg}{Sp:Nat->Bool}{S:List Nat}{g:Nat->Option Stp}
theorem FD.same(h:FD K H d N Do Sp S kvs g)(s:d9 H H'):FD K H' d N Do Sp S kvs g:=by
 refine⟨h.gb.same s,fun i t e=>?_⟩;obtain⟨v,q1,q2⟩:=h.at_ i t e;refine⟨v,q1,?_⟩;rcases q2 with q2 | ⟨a,q,l,u,j,z1,z2,z3,z4⟩
 ·exact .inl q2
 ·exact .inr ⟨a,q,l,u,j,z1,z2,z3.ts (d9.ts s),z4⟩
theorem FD.get(h:FD K H d N Do Sp S kvs g)(hi:S[i]? = some t):∃v,a4R H d (.int (t:Int)) (some v)/\((g t=none/\v=.non/\b0s N Do Sp t)\/∃(a:Addr) (q:Nat) (l:List Nat) (u j:Nat),g t=some ((t:Int),(q:Int))/\v=.ref a/\L7 K H a ((t:Int),(q:Int))/\N[t]? = some l/\l[q]? = some u/\S[j]? = some u/\j<i/\Do t=false):=by
 obtain⟨v,q,q2⟩:=h.at_ i t hi;refine⟨v,?_,q2⟩;have:=a4R.k (k:=Sum.inl (t:Int)) h.gb.hd;rw[a4F h.gb.ndk (mI q)]at this;exact this
theorem GbK.fd(h:GbK K H d N Do Sp S kvs):∃g,FD K H d N Do Sp S kvs g:=by
 have ex:∀t:Nat,∃o:Option Stp,∀i,S[i]? = some t->∃v,kvs[i]? = some (Sum.inl (t:Int),v)/\((o=none/\v=.non/\b0s N Do Sp t)\/∃(a:Addr) (q:Nat) (l:List Nat) (u j:Nat),o=some ((t:Int),(q:Int))/\v=.ref a/\L7 K H a ((t:Int),(q:Int))/\N[t]? = some l/\l[q]? = some u/\S[j]? = some u/\j<i/\Do t=false):=fun t=>by
  by_cases ht:t∈S
  ·obtain⟨i,hi⟩:=i9.mp ht
   have one:∀i',S[i']? = some t->i'=i:=fun i' e=>(a4A (gI e) h.nd).mp (e.trans hi.symm)
   obtain⟨v,q1,q2⟩:=h.at_ i t hi;rcases q2 with ⟨z1,z2⟩ | ⟨a,q,l,u,j,z1,z2,z3,z4,z5,z6,z7⟩
   ·exact⟨none,fun i' e=>by rw[one i' e];exact⟨v,q1,.inl ⟨rfl,z1,z2⟩⟩⟩
   ·exact⟨some ((t:Int),(q:Int)),fun i' e=>by rw[one i' e];exact⟨v,q1,.inr ⟨a,q,l,u,j,rfl,z1,z2,z3,z4,z5,z6,z7⟩⟩⟩
  ·exact⟨none,fun i e=>(ht (mI e)).elim⟩
 exact⟨fun t=>Classical.choose (ex t),h,fun i t e=>Classical.choose_spec (ex t) i e⟩
theorem FD.of(gb:GbK K H d N Do Sp (a3t L) kvs)(ko:KO H kvs L)(hg:∀(i t:Nat) o,L[i]? = some (t,o)->g t=o):FD K H d N Do Sp (a3t L) kvs g:=by
 refine⟨gb,fun i t e=>?_⟩
 obtain⟨o,ho⟩:∃o,L[i]? = some (t,o):=by
  unfold a3t at e;rw[b6]at e;cases h:L[i]? with
  | none=>rw[h]at e;cases e
  | some x=>
   rw[h]at e;cases e;exact⟨x.2,rfl⟩
 obtain⟨v,q1,q2,q3⟩:=ko.2 i t o ho;have go:=hg i t o ho;obtain⟨v',r1,r2⟩:=gb.at_ i t e;rw[q1]at r1;cases r1;refine⟨v,q1,?_⟩;rcases r2 with ⟨z1,z2⟩ | ⟨a,q,l,u,j,z1,z2,z3,z4,z5,z6,z7⟩
 ·refine .inl ⟨?_,z1,z2⟩
  rw[go];cases o with
  | none=>rfl
  | some s=>
   obtain⟨a,w1,_⟩:=q3 s rfl;rw[z1]at w1;cases w1
 ·refine .inr ⟨a,q,l,u,j,?_,z1,z2,z3,z4,z5,z6,z7⟩
  rw[go];cases o with
  | none=>
   have:=q2 rfl;rw[z1]at this;cases this
  | some s=>
   obtain⟨a',w1,w2⟩:=q3 s rfl;rw[z1]at w1;cases w1;rcases z2 with z2 | ⟨z,_⟩
   ·rw[w2]at z2
    injection z2 with z2
    injection z2 with z2
    injection z2 with y1 y2
    injection y2 with y2 _
    rw[Prod.ext_iff.mpr ⟨V.int.inj y1,V.int.inj y2⟩]
   ·exact(V5 z).elim
end
theorem b3l{K:Fg}{x:Addr}{Sp:Nat->Bool}{S:List Nat}{g:Nat->Option Stp}{i0:Nat}{E:XK}(ck:a1h K c)(hz:a1H K c H x N)(hc:FD K H d N Do Sp S kvs g)(h400:N.length<=400)(hi0:S[i0]? = some t0)
  (k:∀w e H',H w=none->On N t0 (a5M N g 1000 t0) e->(a5M N g 1000 t0).length<=400->(∀s∈a5M N g 1000 t0,Do s.1.toNat=false)->b0s N Do Sp e->D7 K H' w (a5M N g 1000 t0)->d9 H H'->Q (.ref w) H'):a4M K c [.ref x,.ref d,.int (t0:Int)] H Q E:=by
 obtain⟨dx2,r2,n2,e2',es,p1,_⟩:=id hz.ex;refine⟨rfl,?_⟩;unfold b4r
 nofun
 exists F7 (by simp) fun w H1 hw e1 s1=>?_
 nofun
 specialize b2m ?_;obtain⟨v,g1,g2⟩:=(hc.same s1).get hi0;exists ⟨d,_,rfl,g1,?_⟩;have hSl:S.length<=N.length:=a3O _ _ hc.gb.nd hc.gb.lt;have hi0l:=(gI hi0);exact_mod_cast N7 ?_;exact_mod_cast a6d ?_
 refine⟨fun m σ H2=>∃(vs:List Addr) (W:List Stp) (i t f:Nat) (v:V),σ=[some (.ref x),some (.ref d),some (.int (t0:Int)),some (.ref w),some v]/\H2 w=some (.lst (vs.map V.ref))/\vs.length=W.length/\(∀(j:Nat) x st,vs[j]? = some x->W[j]? = some st->L7 K H2 x st)/\On N t0 W t/\S[i]? = some t/\((g t=none/\v=.non/\b0s N Do Sp t)\/∃(a:Addr) (q:Nat) (l:List Nat) (u j:Nat),g t=some ((t:Int),(q:Int))/\v=.ref a/\L7 K H2 a ((t:Int),(q:Int))/\N[t]? = some l/\l[q]? = some u/\S[j]? = some u/\j<i/\Do t=false)/\a5M N g 1000 t0=W++a5M N g f t/\i<f/\W.length+i<=i0/\(∀s∈W,Do s.1.toNat=false)/\d9 H H2/\m=i,
  ⟨_,[],[],i0,t0,1000,v,rfl,e1,rfl,fun j x st f1 f2=>by simp at f1,.nil,hi0,g2,rfl,by omega,by simp,by simp,s1,rfl⟩,?_⟩
 rintro m _ H2 ⟨vs,W,i,t,f,v,rfl,hw2,lv,at2,on,hi,js,fo,hf,hle,low,s2,rfl⟩;obtain⟨f',rfl⟩:∃f',f=f'+1:=⟨f - 1,by omega⟩
 ext
 exists ⟨rfl,?_⟩;rcases js with ⟨gn,rfl,en⟩ | ⟨a,q,l,u,j,gn,rfl,h2,h3,h4,h5,h6,h7⟩
 ·exists p8 (by simp) ?_
  have fo:a5M N g 1000 t0=W:=by rw[fo,a5M,gn,V0]
  rw[<-fo]at on low lv at2;refine k w t H2 hw on ?_ low en ⟨vs,hw2,lv,at2⟩ s2;rw[fo];omega
 ·refine A2 (by simp) ?_
  refine⟨fun σ H3=>∃(m':Nat) (vs:List Addr) (W:List Stp) (i t f:Nat) (v:V),σ=[some (.ref x),some (.ref d),some (.int (t0:Int)),some (.ref w),some v]/\H3 w=some (.lst (vs.map V.ref))/\vs.length=W.length/\(∀(j:Nat) x st,vs[j]? = some x->W[j]? = some st->L7 K H3 x st)/\On N t0 W t/\S[i]? = some t/\((g t=none/\v=.non/\b0s N Do Sp t)\/∃(a:Addr) (q:Nat) (l:List Nat) (u j:Nat),g t=some ((t:Int),(q:Int))/\v=.ref a/\L7 K H3 a ((t:Int),(q:Int))/\N[t]? = some l/\l[q]? = some u/\S[j]? = some u/\j<i/\Do t=false)/\a5M N g 1000 t0=W++a5M N g f t/\i<f/\W.length+i<=i0/\(∀s∈W,Do s.1.toNat=false)/\d9 H H3/\m'=i/\m'<m,?_,?_⟩
  ·rintro σ' H3 ⟨m',vs,W,i',t,f,v,e,q1,q2,q3,q4,q5,q6,q7,q8,q9,q10,q11,q12,q13⟩
   exact⟨m',q13,vs,W,i',t,f,v,e,q1,q2,q3,q4,q5,q6,q7,q8,q9,q10,q11,q12⟩
  nofun
  specialize a5S ?_;exists ⟨X9 hw2,?_⟩;refine W3 hw2 (G8 (by rw[b9];omega)) ?_;have sn:=a9M (S:=W) hw2 lv at2 h2;have ew:vs.map V.ref++[V.ref a]=(vs++[a]).map V.ref:=by simp
  rw[ew];have t3:F5 H2 (upd H2 w (.lst ((vs++[a]).map V.ref))):=F5.put hw2;obtain⟨H3,hH3⟩:∃H3,H3=upd H2 w (.lst ((vs++[a]).map V.ref)):=⟨_,rfl⟩;have hw3:H3 w=some (.lst ((vs++[a]).map V.ref)):=hH3 ▸ d8;have s3:d9 H H3:=fun b o e=>by rw[hH3,i8 (c9 e hw)];exact s2 _ _ e
  rw[<-hH3]at sn t3 ⊢;obtain⟨vs',z1,z2,z3⟩:=sn.ex
  have ev:vs'=vs++[a]:=by
   rw[hw3]at z1;exact(a0P (f:=V.ref) (fun a b h=>V.ref.inj h) |>.mp (HO.lst.inj (Option.some.inj z1))).symm
  subst ev
  ext
  specialize b2m ?_;specialize V2 ?_;exists ⟨x,dx2,_,rfl,s3 _ _ p1,a8s r2 n2 e2' _ (by decide),?_⟩;refine a6j ck (hz.same s3).x (h2.ts t3) (.inr ⟨t,q,l,u,rfl,h3,h4⟩) ?_;rw[a2t h3 h4];obtain⟨v',y1,y2⟩:=(hc.same s3).get h5;exists ⟨d,_,rfl,y1,?_⟩
  exact⟨_,vs++[a],W++[((t:Int),(q:Int))],j,u,f',v',rfl,hw3,by simp[lv],z3,on.snoc h3 h4,h5,y2,by
   rw[fo,a5M,gn,F9];show _++(_::a5M N g f' (G5 N _))=_;rw[a2t h3 h4];rfl,by omega,by rw[p5,G6];omega,fun s hs=>by
   rcases z8.mp hs with hs | hs
   ·exact low s hs
   ·rw[v6.mp hs];exact h7,s3,rfl,h6⟩
theorem c3q{K:Fg}{x:Addr}{E:XK}(ck:a1h K c)(hz:a1H K c H x N)(hv:S0 N)(ht0:t0<N.length)
  (k:∀w e H',H w=none->On N t0 (a9w N t0) e->(a9w N t0).length<=400->N[e]? = some []->D7 K H' w (a9w N t0)->d9 H H'->Q (.ref w) H'):a8M K c [.ref x,.int (t0:Int)] H Q E:=by
 have h400:=hv.le;obtain⟨dx2,r2,n2,e2',es,p1,_⟩:=id hz.ex;have nd0:(a1S N).Nodup:=a7X.filter _;have lt0:∀t∈a1S N,t<N.length:=fun t ht=>Q8.mp (E8.mp ht).1
 have l0:(a1S N).length<=400:=J4 (a3O _ _ nd0 lt0) h400;refine⟨rfl,?_⟩;unfold b8X;exact_mod_cast N7 ?_;exact_mod_cast b6F ?_;refine b6O nd0 l0 (fun R hR=>?_) fun d H1 hd1 e1 s1=>?_
 ·specialize V2 ?_
  exists ⟨x,dx2,_,rfl,p1,a8s r2 n2 e2' _ (by decide),?_⟩;exact a9D ck hz hv fun a H1 _ e1 s1=>hR a H1 e1 s1
 ext
 nofun
 specialize V2 ?_;exists ⟨x,dx2,_,rfl,s1 _ _ p1,a8s r2 n2 e2' _ (by decide),?_⟩;exists a9D ck (hz.same s1) hv fun o H2 ho e2 s2=>?_
 have ek0:a3t (bfo N 0)=a1S N:=by
  show((a1S N).map fun t=>(t,(none:Option Stp))).map (·.1)=a1S N;rw[S9];exact c5a _
 have I2:GbI K H H2 d o N (fun _=>false) (fun _=>false) (a1S N) (a6Q (a1S N)):=⟨b9X (s2 _ _ e1) nd0 lt0 fun t ht=>⟨rfl,.inr ((c5J (lt0 t ht)).mp ht)⟩,s1.trans s2,e2,hd1,s1.free ho⟩
 nofun
 exact_mod_cast N7 ?_;exact_mod_cast a6d ?_
 refine⟨fun m σ H4=>∃(y5 y6:Option V) (S:List Nat) (kvs:List (Key×V)) (dn:Nat),S=a3t (bfo N dn)/\KO H4 kvs (bfo N dn)/\σ=[some (.ref x),some (.int (t0:Int)),some (.ref d),some (.ref o),some (.int (dn:Int)),y5,y6]/\GbI K H H4 d o N (fun _=>false) (fun _=>false) S kvs/\(∃ext,S=a1S N++ext)/\dn<=S.length/\(∀(j t p:Nat) l,j<dn->S[j]? = some t->N[p]? = some l->t∈l->p∈S)/\m=N.length - dn,
  ⟨_,_,_,a1S N,_,0,ek0.symm,KO.ends _,rfl,I2,⟨[],by simp⟩,by omega,by omega,rfl⟩,?_⟩
 rintro m _ H4 ⟨y5,y6,S,kvs,dn,eS,ko,rfl,I4,x4,hdn,c4,rfl⟩
 ext
 specialize a2h ?_;obtain⟨o',g1,g2⟩:=I4.gb.notin t0;refine⟨d,o',rfl,g1,?_⟩;rw[g2]
 ext
 have hSl:S.length<=N.length:=a3O _ _ I4.gb.nd I4.gb.lt;obtain⟨ext4,hx4⟩:=x4;by_cases hin:t0∈S
 ·exists p8 (by rw[d6x hin];rfl) ?_
  obtain⟨i0,hi0⟩:=i9.mp hin;obtain⟨ex,hex⟩:=c2X N dn (N.length - dn);rw[show dn+(N.length - dn)=N.length by omega]at hex;have gb4:=I4.gb;rw[eS]at gb4 hi0;have fd:FD K H4 d N (fun _=>false) (fun _=>false) (a3t (bfo N dn)) kvs (gO (bfo N N.length)):=FD.of gb4 ko fun i t o e=>by rw[hex];exact d4b gb4.nd e ex
  refine b3l ck (hz.same I4.same) fd h400 hi0 fun w e H5 hw on lW _ en sa s5=>?_
  refine k w e H5 (I4.same.free hw) on lW ?_ sa (I4.same.trans s5);rcases en.2 with z | z
  ·cases z
  ·exact z
 ·refine A2 (by rw[d6w hin];rfl) ?_
  have hlt:dn<S.length:=by
   refine Classical.byContradiction fun hno=>hin ?_
   have cl:∀z,Gd N z->z∈S:=by
    intro z h;induction h with
    | @stop z h=>rw[hx4];exact y0 _ (b2D h)
    | @step z t l hl ht _ ih=>
     obtain⟨j,hj⟩:=i9.mp ih;have:=(gI hj);exact c4 j t z l (by omega) hj hl ht
   exact cl t0 (hv.gd t0 ht0)
  obtain⟨t,htS⟩:∃t,S[dn]? = some t:=⟨_,c8 hlt⟩;have htn:=I4.gb.lt t (mI htS);refine⟨fun σ H5=>∃(m':Nat) (y5 y6:Option V) (S:List Nat) (kvs:List (Key×V)) (dn':Nat),S=a3t (bfo N dn')/\KO H5 kvs (bfo N dn')/\σ=[some (.ref x),some (.int (t0:Int)),some (.ref d),some (.ref o),some (.int (dn':Int)),y5,y6]/\GbI K H H5 d o N (fun _=>false) (fun _=>false) S kvs/\(∃ext,S=a1S N++ext)/\dn'<=S.length/\(∀(j t p:Nat) l,j<dn'->S[j]? = some t->N[p]? = some l->t∈l->p∈S)/\m'=N.length - dn'/\m'<N.length - dn,?_,?_⟩
  ·rintro σ' H5 ⟨m',y5,y6,S,kvs,dn',a1,a2,e,r1,r2,r3,r4,r5,r6⟩
   exact⟨m',r6,y5,y6,S,kvs,dn',a1,a2,e,r1,r2,r3,r4,r5⟩
  nofun
  exists C0 I4.ho (a9H htS) ?_;exact_mod_cast N7 ?_;specialize c2A rfl ?_;have e1':(dn:Int)+1=((dn+1:Nat):Int):=by omega
  rw[e1'];specialize a0g (V3 ?_);specialize V2 ?_;exists ⟨x,dx2,_,rfl,I4.same _ _ p1,a8s r2 n2 e2' _ (by decide),?_⟩;refine b1i ck (hz.same I4.same) htn fun st H5 hst sa s5=>?_
  obtain⟨vs,v1,v2,v3⟩:=sa.ex;have I5:=I4.next s5;have nst:st≠d/\st≠o:=⟨(c9 I4.gb.hd hst).symm,(c9 I4.ho hst).symm⟩;obtain⟨Z,hZ⟩:∃Z,Z=(F2 N).filter fun s=>decide (G5 N s=t):=⟨_,rfl⟩
  rw[<-hZ]at v2 v3;refine⟨st,rfl,⟨_,SqL.of v1⟩,a1v (xs:=vs.map V.ref) (fun i σ H6=>∃(y6:Option V) (S':List Nat) (kvs':List (Key×V)),σ=[some (.ref x),some (.int (t0:Int)),some (.ref d),some (.ref o),some (.int ((dn+1:Nat):Int)),some (.int (t:Int)),y6]/\GbI K H H6 d o N (fun _=>false) (fun _=>false) S' kvs'/\(∃ext,S'=S++ext)/\But d o H5 H6/\(∀(j p q:Nat),j<i->Z[j]? = some ((p:Int),(q:Int))->p∈S')/\S'=a3t (upO (bfo N dn) Z i)/\KO H6 kvs' (upO (bfo N dn) Z i)) ⟨_,S,kvs,rfl,I5,⟨[],by simp⟩,But.refl,by omega,eS,ko.ts (d9.ts s5)⟩ ?_ ?_ ?_⟩
  ·rintro i σ H6 _ ⟨_,_,_,_,_,_,bt,_⟩
   exact SqL.of (bt _ _ nst.1 nst.2 v1)
  ·rintro i y _ H6 hy ⟨y6,S',kvs',rfl,I6,⟨ext,e6⟩,bt,g6,eS6,ko6⟩
   rw[b6]at hy;cases hw:vs[i]? with
   | none=>rw[hw]at hy;cases hy
   | some w=>
    rw[hw]at hy;cases hy;obtain⟨s,hsi⟩:∃s,Z[i]? = some s:=⟨_,c8 (by have:=(gI hw);omega)⟩;have sm:=mI hsi;rw[hZ,E8]at sm;have iss:=a1O sm.1;have ld:=of_decide_eq_true sm.2;have st6:L7 K H6 w s:=(v3 i w s hw hsi).ts (bt.ts I5.gb.hd I5.ho)
    have grow:∀S'',(∃e,S''=S'++e)->(∀p q:Nat,s=((p:Int),(q:Int))->p∈S'')->∀(j p q:Nat),j<i+1->Z[j]? = some ((p:Int),(q:Int))->p∈S'':=by
     rintro S'' ⟨e,rfl⟩ h j p q hj hj2;by_cases z:j=i
     ·subst z
      rw[hsi]at hj2;exact h p q (Option.some.inj hj2)
     ·exact y0 _ (g6 j p q (by omega) hj2)
    ext
    refine⟨_,_,_,_,rfl,rfl,st6.sq,ck.Q6 H6,rfl,rfl,?_⟩;rw[eq2]
    ext
    rcases iss with rfl | ⟨p,q,l,t',rfl,hl,hq⟩
    ·refine p8 rfl ?_
     exists p8 rfl ?_;have eu:upO (bfo N dn) Z (i+1)=upO (bfo N dn) Z i:=by rw[b4j hsi,if_pos rfl]
     exact⟨_,S',kvs',rfl,I6,⟨ext,e6⟩,bt,grow S' ⟨[],by simp⟩ (fun p q e=>(V5 e.symm).elim),by rw[eu];exact eS6,by rw[eu];exact ko6⟩
    ·rw[a2t hl hq]at ld
     subst ld
     refine A2 (by
      have:decide ((((p:Int),(q:Int)).1,((p:Int),(q:Int)).2)=FST)=false:=d6w V5;rw[this];rfl) ?_
     rcases st6 with st6 | ⟨z,_⟩
     rotate_left
     ·exact(V5 z).elim
     have eqs:∀p' q':Nat,(((p:Int),(q:Int)):Stp)=((p':Int),(q':Int))->p'=p:=fun p' q' e=>by
      have:(p:Int)=(p':Int):=congrArg Prod.fst e;omega
     ext
     specialize a2h ?_;exists N8 st6 (Z3 _ _) ?_;obtain⟨o',g1,g2⟩:=I6.gb.notin p;refine⟨d,o',rfl,g1,?_⟩;rw[g2]
     ext
     have eu:upO (bfo N dn) Z (i+1)=c1q (upO (bfo N dn) Z i) p ((p:Int),(q:Int)):=by
      rw[b4j hsi,if_neg V5];show c1q _ (p:Int).toNat _=_;rw[t6]
     unfold c1q at eu;rw[<-eS6]at eu;by_cases hps:p∈S'
     ·exists p8 (by rw[d6x hps];rfl) ?_
      rw[if_pos hps]at eu;exact⟨_,S',kvs',rfl,I6,⟨ext,e6⟩,bt,grow S' ⟨[],by simp⟩ (fun p' q' e=>by rw[eqs p' q' e];exact hps),by rw[eu];exact eS6,by rw[eu];exact ko6⟩
     ·refine A2 (by rw[d6w hps];rfl) ?_
      rw[if_neg hps]at eu;refine c2K (a:=6) (b:=2) (g:=3) (j:=dn) rfl rfl rfl I6 h400 st6 hl hq (by rw[e6,j4 hlt];exact htS) rfl hps fun H7 kvs7 ek7 I7 b7=>?_
      refine⟨_,S'++[p],kvs7,rfl,I7,⟨ext++[p],by rw[e6,F9]⟩,bt.trans b7,grow _ ⟨[p],rfl⟩ (fun p' q' e=>by rw[eqs p' q' e];simp),by rw[eu,c4o,<-eS6];rfl,?_⟩;rw[eu,ek7];have t7:=b7.ts I6.gb.hd I6.ho;exact(ko6.ts t7).snoc (t7 _ _ st6)
  ·rintro _ H6 ⟨y6,S',kvs',rfl,I6,⟨ext,e6⟩,bt,g6,eS6,ko6⟩
   have hdS:∃x,(bfo N dn)[dn]? = some x/\x.1=t:=by
    rw[eS]at htS;unfold a3t at htS;rw[b6]at htS;cases h:(bfo N dn)[dn]? with
    | none=>rw[h]at htS;cases htS
    | some x=>rw[h]at htS;exact⟨x,rfl,Option.some.inj htS⟩
   obtain⟨x0,hx0,hx1⟩:=hdS
   have eb:bfo N (dn+1)=upO (bfo N dn) Z (vs.map V.ref).length:=by
    rw[c0u hx0,hx1,b9,v2,hZ];rfl
   refine⟨_,_,_,S',kvs',dn+1,by rw[eb];exact eS6,by rw[eb];exact ko6,rfl,I6,⟨ext4++ext,by rw[e6,hx4,F9]⟩,by rw[e6,p5];omega,fun j t' p l hj hj2 hl ht=>?_,rfl,by omega⟩;rw[b9,v2]at g6;have hj3:S[j]? = some t':=by rw[e6,j4 (by omega)]at hj2;exact hj2
   by_cases q:j=dn
   ·subst q
    rw[htS]at hj3;cases hj3;obtain⟨q,hq⟩:=i9.mp ht
    have m1:(((p:Int),(q:Int)):Stp)∈Z:=by
     rw[hZ,E8];exact⟨a3s (.inr ⟨p,q,l,t,rfl,hl,hq⟩),d6x (a2t hl hq)⟩
    obtain⟨i,hi⟩:=i9.mp m1;exact g6 i p q (gI hi) hi
   ·rw[e6];exact y0 _ (c4 j t' p l (by omega) hj3 hl ht)
theorem On.det{e':Nat}{W:List Stp}(h:On N t W e)(h':On N t W e'):e=e':=by
 have:=h.beg.symm.trans h'.beg;exact c7M.mp (d0A this rfl).2
theorem GbK.move{K:Fg}{Sp:Nat->Bool}{S:List Nat}(h:GbK K H d N Do Sp S kvs)(t:F5 H H')(hd:H' d=some (.dK kvs)):GbK K H' d N Do Sp S kvs:=
 ⟨hd,h.nd,h.lt,h.len,fun i u e=>let⟨v,q1,q2⟩:=h.at_ i u e; ⟨v,q1,by have:=q2.grow (ext:=[]) t;rwa [V0]at this⟩⟩
theorem Wnt.kept{K:Fg}{k' x:Addr}{Sp:Nat->Bool}{S:List Nat}(h:Wnt K c H wx x N Do Sp S)(hB:Bag H b k')(k:J3 b H H')(pa:a1H K c H' x N):Wnt K c H' wx x N Do Sp S:=by
 obtain⟨bs,hb⟩:=hB.lst;obtain⟨dx,d,kvs,h1,h2⟩:=h.ex;exact⟨⟨dx,d,kvs,k.1 _ _ h1 (O3 h1 hb (by intro z;cases z)),h2.move (k.ts hB) (k.1 _ _ h2.hd (O3 h2.hd hb (by intro z;cases z)))⟩,pa,h.shut⟩
def c4N(K:Fg)(c:Cn)(H:Hp)(wx x:Addr)(N:Nt)(Do Sp:Nat->Bool)(S:List Nat)(g:Nat->Option Stp):Prop:=∃dx d kvs,H wx=some (.ins c.O0 dx [("plan",.ref x),("goes_by",.ref d)])/\FD K H d N Do Sp S kvs g
theorem Wnt.g{K:Fg}{x:Addr}{Sp:Nat->Bool}{S:List Nat}(h:Wnt K c H wx x N Do Sp S):∃g,c4N K c H wx x N Do Sp S g:=by
 obtain⟨dx,d,kvs,h1,h2⟩:=h.ex;obtain⟨g,hg⟩:=h2.fd;exact⟨g,dx,d,kvs,h1,hg⟩
theorem c4N.same{K:Fg}{x:Addr}{Sp:Nat->Bool}{S:List Nat}{g:Nat->Option Stp}(h:c4N K c H wx x N Do Sp S g)(s:d9 H H'):c4N K c H' wx x N Do Sp S g:=
 let⟨dx,d,kvs,h1,h2⟩:=h; ⟨dx,d,kvs,s _ _ h1,h2.same s⟩
theorem b3u{K:Fg}{x:Addr}{Sp:Nat->Bool}{S:List Nat}{g:Nat->Option Stp}{E:XK}(ck:a1h K c)(hW:Wnt K c H wx x N Do Sp S)(hG:c4N K c H wx x N Do Sp S g)(hv:S0 N)(ht0:t0∈S)
  (k:∀w e e2 H',H w=none->On N t0 (a5M N g 1000 t0) e->(∀s∈a5M N g 1000 t0,Do s.1.toNat=false)->b0s N Do Sp e->On N e (a9w N e) e2->N[e2]? = some []->(a5M N g 1000 t0++a9w N e).length<=1000->D7 K H' w (a5M N g 1000 t0++a9w N e)->d9 H H'->Q (.ref w) H'):a0l K c [.ref wx,.int (t0:Int)] H Q E:=by
 have h400:=hv.le;obtain⟨dx,d,kvs,h1,fd⟩:=hG;have gb:=fd.gb;obtain⟨dx2,r2,n2,e2',es,p1,_⟩:=id hW.plan.ex;refine⟨rfl,?_⟩;unfold a3Y
 nofun
 specialize V2 ?_;exists ⟨wx,dx,_,rfl,h1,a7z _ _ _ (by decide),?_⟩;exists a5i ck hW ?_;exists p8 (by rw[d6x ht0];rfl) ?_
 nofun
 specialize R0 ?_;exists ⟨wx,_,dx,_,_,rfl,h1,ck.Y8,ck.Z4,rfl,?_⟩;specialize R0 ?_;exists ⟨wx,_,dx,_,_,rfl,h1,ck.Y8,ck.a0Z,rfl,?_⟩;obtain⟨i0,hi0⟩:=i9.mp ht0;refine b3l ck hW.plan fd h400 hi0 fun w e H1 hw on1 l1 low en sa s1=>?_
 have kk:=k;obtain⟨W1,hW1⟩:∃W1,W1=a5M N g 1000 t0:=⟨_,rfl⟩;rw[<-hW1]at on1 l1 low sa kk;obtain⟨vs,v1,v2,v3⟩:=sa.ex;have hen:e<N.length:=on1.lt hv (gb.lt t0 ht0)
 ext
 exact_mod_cast a5f (P:=fun σ H2=>σ=[some (.ref wx),some (.int (t0:Int)),some (.ref w),some (.int (e:Int))]/\H2=H1) ?_ ?_
 rotate_left
 ·intro nx hnx
  ext
  refine L9 v1 ?_;rw[b9,v2]
  ext
  cases W1 with
  | nil=>
   exists p8 rfl ?_;refine hnx _ _ ⟨?_,rfl⟩;cases on1;rfl
  | cons s0 r0=>
   refine A2 (d6x (by rw[z9];omega)) ?_;obtain⟨W',s,hWs⟩:∃W' s,s0::r0=W'++[s]:=⟨_,_,(b6Z (by simp)).symm⟩;rw[hWs]at on1 v2 v3
   obtain⟨vs',a,rfl⟩:∃vs' a,vs=vs'++[a]:=by
    cases vs with
    | nil=>simp at v2
    | cons b vs=>exact⟨_,_,(b6Z (by simp)).symm⟩
   have lv:vs'.length=W'.length:=by simpa using v2
   have st:L7 K H1 a s:=v3 vs'.length a s (by simp) (by rw[lv];simp)
   have le:G5 N s=e:=by
    have:=on1.beg;rw[u4,u4,List.map_singleton,<-d0z]at this;exact c7M.mp (d0A this rfl).2
   rw[u4]at v1
   ext
   exact_mod_cast V2 ?_;specialize R0 ?_;refine⟨wx,_,dx,_,_,rfl,s1 _ _ h1,ck.Y8,ck.Z4,rfl,?_⟩;exists ⟨x,dx2,_,rfl,s1 _ _ p1,a8s r2 n2 e2' _ (by decide),?_⟩;exists C0 v1 a8D ?_;refine a6j ck (hW.plan.same s1).x st (on1.isStep s (by simp)) ?_;rw[le]
   ext
   exact hnx _ _ ⟨rfl,rfl⟩
 rintro _ _ ⟨rfl,rfl⟩
 ext
 specialize R0 ?_;exists ⟨wx,_,dx,_,_,rfl,s1 _ _ h1,ck.Y8,ck.Z4,rfl,?_⟩;refine c3q ck (hW.plan.same s1) hv hen fun w2 e2 H3 hw2 on2 l2 st2 sa2 s3=>?_
 obtain⟨us,u1,u2,u3⟩:=sa2.ex;refine b7E (s3 _ _ v1) u1 ?_;refine F7 (a4T (by rw[b9,b9,v2,u2];show W1.length+(a9w N e).length<100000;omega)) fun y H4 hy e4 s4=>?_
 refine kk y e e2 H4 ((s1.trans s3).free hy) on1 low en on2 st2 (by rw[p5];omega) ?_ ((s1.trans s3).trans s4);refine⟨vs++us,by rw[u4];exact e4,by simp[v2,u2],fun i z s f1 f2=>?_⟩;by_cases q:i<vs.length
 ·rw[j4 q]at f1
  rw[j4 (by omega)]at f2;exact(v3 i z s f1 f2).ts (d9.ts (s3.trans s4))
 ·rw[J9 (by omega)]at f1
  rw[J9 (by omega),<-v2]at f2;exact(u3 _ z s f1 f2).ts (d9.ts s4)
section
variable {S:List Nat}
end
theorem GbK.ins{K:Fg}{H:Hp}{d x C dx:Addr}{N:Nt}{Do Sp:Nat->Bool}{S:List Nat}{kvs:List (Key×V)}{fs:List (Str×V)}{o:HO}(h:GbK K H d N Do Sp S kvs)(hx:H x=some (.ins C dx fs)):GbK K (upd H x o) d N Do Sp S kvs:=by
 refine⟨by rw[i8 (O3 h.hd hx (by intro z;cases z))];exact h.hd,h.nd,h.lt,h.len,fun i t e=>?_⟩;obtain⟨v,q1,q2⟩:=h.at_ i t e;have:=q2.grow (ext:=[]) (F5.ins (o:=o) hx);rw[V0]at this;exact⟨v,q1,this⟩
theorem b4i{K:Fg}{x:Addr}{Sp:Nat->Bool}{E:XK}(ck:a1h K c)(hp:a9G c H x N rs)(hz:a1H K c H x N)(hv:S0 N)(hd:a0w H dd ds)(hs:a4Q H rs ds Do Sp)(hwx:H wx=none)(hdx:H dx=none)
  (k:∀H' S,Wnt K c H' wx x N Do Sp S->d9 H H'->Q .non H'):a2g K c [.ref wx,.ref x,.ref dd] (upd (upd H dx (.own wx)) wx (.ins c.O0 dx [])) Q E:=by
 refine⟨rfl,?_⟩;unfold a9z;exact_mod_cast N7 ?_;specialize a4h ?_;refine⟨wx,_,dx,[],rfl,d8,ck.Y8,ck.Z4,by simp,?_⟩;obtain⟨H3,hH3⟩:∃H3,H3=upd (upd (upd H dx (.own wx)) wx (.ins c.O0 dx [])) wx (.ins c.O0 dx (X7 "plan" (.ref x) [])):=⟨_,rfl⟩;rw[<-hH3];have x3:H3 wx=some (.ins c.O0 dx (X7 "plan" (.ref x) [])):=hH3 ▸ d8
 have s3:d9 H H3:=fun b o e=>by
  have n1:=c9 e hwx;rw[hH3,i8 n1,i8 n1,i8 (c9 e hdx)];exact e
 specialize a4h ?_;exists b0I ck (hp.same s3) (hz.same s3) hv (hd.ts (d9.ts s3)) (hs.ts (d9.ts s3)) fun d H6 S kvs gb sh s6=>?_
 have x4:=s6 _ _ x3;refine⟨wx,_,dx,_,rfl,x4,ck.Y8,ck.a0Z,(by show(1:Nat)<1000;decide),?_⟩;have g7:=gb.ins (o:=.ins c.O0 dx (X7 "goes_by" (.ref d) (X7 "plan" (.ref x) []))) x4;obtain⟨H7,hH7⟩:∃H7,H7=upd H6 wx (.ins c.O0 dx (X7 "goes_by" (.ref d) (X7 "plan" (.ref x) []))):=⟨_,rfl⟩;rw[<-hH7]at g7 ⊢;have s7:d9 H H7:=fun b o e=>by rw[hH7,i8 (c9 e hwx)];exact s6 _ _ (s3 _ _ e)
 refine k H7 S ⟨⟨dx,d,kvs,?_,g7⟩,hz.same s7,sh⟩ s7;rw[hH7,d8];rfl
theorem b9P{K:Fg}{x:Addr}{Sp:Nat->Bool}{a b:Nat}(ck:a1h K c)(hp:a9G c H x N rs)(hz:a1H K c H x N)(hv:S0 N)(hd:a0w H dd ds)(hs:a4Q H rs ds Do Sp)(ea:σ[a]? = some (some (.ref x)))(eb:σ[b]? = some (some (.ref dd)))
  (k:∀wx H' S,H wx=none->Wnt K c H' wx x N Do Sp S->d9 H H'->Q (.ref wx) H'):a5Z c.O0 (a2g K c) [] E0 (a9 (b4 a) (a9 (b4 b) d7)) σ H Q:=by
 exact_mod_cast b7z ?_;refine a3b (a0M ea (a3b (a0M eb (a9B ?_))));intro wx dx hwx hdx _;exact b4i ck hp hz hv hd hs hwx hdx fun H' S h s=>⟨rfl,k wx H' S hwx h s⟩
section
variable {K:Fg}{S:List Stp}{E:XK}
structure WS(H:Hp)(w:Addr)(S:List Stp):Prop where
 ex:∃ps:List Addr,H w=some (.lst (ps.map V.ref))/\ps.length=S.length/\∀(i:Nat) p s,ps[i]? = some p->S[i]? = some s->H p=some (.tup [.int s.1,.int s.2])
theorem WS.at(h:WS H w S):D7 K H w S:=by
 obtain⟨ps,h1,h2,h3⟩:=h.ex;exact⟨ps,h1,h2,fun i p s a c=>.inl (h3 i p s a c)⟩
theorem WS.same(h:WS H w S)(s:d9 H H'):WS H' w S:=by
 obtain⟨ps,h1,h2,h3⟩:=h.ex;exact⟨ps,s _ _ h1,h2,fun i p t a c=>s _ _ (h3 i p t a c)⟩
theorem WS.kept(h:WS H w S)(hB:Bag H b d)(k:J3 b H H'):WS H' w S:=by
 obtain⟨ps,h1,h2,h3⟩:=h.ex;obtain⟨bs,hb⟩:=hB.lst;exact⟨ps,k.1 _ _ h1 (Y9 hB h1),h2,fun i p t a c=>k.tup hb (h3 i p t a c)⟩
theorem WS.app{z:Addr}{ps:List Addr}(h1:H w=some (.lst (ps.map V.ref)))(h2:ps.length=S.length)(h3:∀(i:Nat) p s,ps[i]? = some p->S[i]? = some s->H p=some (.tup [.int s.1,.int s.2]))(hz:H z=some (.tup [.int s.1,.int s.2])):WS (upd H w (.lst (ps.map V.ref++[.ref z]))) w (S++[s]):=by
 refine⟨ps++[z],by rw[d8,u4];rfl,by simp[h2],fun i p t f1 f2=>?_⟩;rcases W0 f1 with ⟨hi,f1⟩ | ⟨hi,f1⟩
 ·rcases W0 f2 with ⟨_,f2⟩ | ⟨hj,_⟩
  ·exact F5.put h1 _ _ (h3 i p t f1 f2)
  ·omega
 ·subst f1
  rcases W0 f2 with ⟨hj,_⟩ | ⟨_,f2⟩
  ·omega
  ·subst f2
   exact F5.put h1 _ _ hz
end
section
variable {K:Fg}{E:XK}
theorem b7Q{n:Int}(k:Q (.bl true) H):b2b K [.int n] H Q E:=by
 refine⟨rfl,?_⟩;unfold d0g
 ext
 exists a6g rfl (by decide) ?_;exists A2 rfl ?_;exists a6g rfl (by decide) ?_;exact k
theorem b5d(hn:F8 H na N)(ha:L7 K H a s)(hs:a0F N s)(k:Q (.int (G5 N s:Nat)) H):b6E K [.ref na,.ref a] H Q E:=by
 have sq:=ha.sq;refine⟨rfl,?_⟩;unfold d3l
 nofun
 exists ⟨a,0,_,_,rfl,rfl,sq,Z3 _ _,?_⟩;rcases hs with rfl | ⟨p,q,l,t,rfl,h1,h2⟩
 ·exists A2 (by decide) ?_
  exact k
 ·exists p8 (d6w (by show ¬((p:Int)<0);omega)) ?_
  obtain⟨xs,y,f1,f2,f3,_⟩:=hn.at h1;refine⟨a,0,_,_,rfl,rfl,sq,Z3 _ _,?_⟩;exists C0 f1 f2 ?_;refine⟨a,1,_,_,rfl,rfl,sq,a5p _ _ _,?_⟩;refine C0 f3 (a9H h2) ?_;rw[a2t h1 h2]at k;exact k
end
section
variable {K:Fg}{E:XK}
theorem b3d(N:Nt)(i:Nat):a2T N i=(C1 (N.getD i []).length).map fun(q:Nat)=>((i:Int),(q:Int)):=rfl
theorem a8W(hn:F8 H na N)(h400:N.length<=400)(h2:∀l∈N,l.length<=2)(k:∀a H',H a=none->WS H' a (F2 N)->d9 H H'->Q (.ref a) H'):a5C K [.ref na] H Q E:=by
 obtain⟨as,hna,las,hat⟩:=id hn.ex;refine⟨rfl,?_⟩;unfold c2s
 nofun
 exists F7 (by simp) fun z1 H1 hz1 e1 s1=>?_
 exists F7 (by simp) fun D H2 hD e2 s2=>?_
 have s02:=s1.trans s2;have hD0:H D=none:=s1.free hD
 have W2:WS H2 D (a3a N 0):=⟨[z1],e2,rfl,fun i p s f1 f2=>by
  cases i with
  | zero=>
   cases f1;cases f2;exact s2 _ _ e1
  | succ i=>cases f1⟩
 exact_mod_cast N7 ?_;specialize a0g (a2B ?_);refine L9 (s02 _ _ hna) ?_;rw[b9,las];refine⟨N.length,rfl,by omega,by omega,?_⟩;rw[t6];refine a0z (fun i σ H3=>∃y2 y3,σ=[some (.ref na),some (.ref D),y2,y3]/\WS H3 D (a3a N i)/\(a3a N i).length<=1+2 * i/\d9 H H3) ⟨_,_,rfl,W2,by show 1<=1+2 * 0;omega,s02⟩ ?_ ?_
 ·rintro i _ H3 hi ⟨y2,y3,rfl,Y,l3,s3⟩
  rw[Y3];have hl:=M5 hi;obtain⟨l,hle⟩:∃l,l=N[i]:=⟨_,rfl⟩;rw[<-hle]at hl;have l2:=h2 l (mI hl);have hg:N.getD i []=l:=by simp[D6,hl]
  obtain⟨u0,hu0⟩:∃u0,as[i]? = some u0:=⟨_,c8 (by omega)⟩;have hu:=hat i u0 l hu0 hl
  ext
  specialize a0g (a2B ?_);exists C0 (s3 _ _ hna) (P4 (by rw[b6,hu0];rfl)) ?_;refine L9 (s3 _ _ hu) ?_;rw[K9];refine⟨l.length,rfl,by omega,by omega,?_⟩;rw[t6];refine a0z (fun j σ H4=>∃y3,σ=[some (.ref na),some (.ref D),some (.int (i:Int)),y3]/\WS H4 D (a3a N i++(C1 j).map fun(q:Nat)=>((i:Int),(q:Int)))/\d9 H H4) ⟨_,rfl,by simpa using Y,s3⟩ ?_ ?_
  ·rintro j _ H4 hj ⟨y3,rfl,W4,s4⟩
   rw[Y3];obtain⟨ps,q1,q2,q3⟩:=W4.ex;have hlen:ps.length<=1000:=by rw[q2];simp;omega
   ext
   specialize a5S ?_;exists ⟨X9 q1,?_⟩;exists F7 (by simp) fun z5 H5 hz5 e5 s5=>?_
   refine W3 (s5 _ _ q1) (G8 (by rw[b9];omega)) ?_;refine⟨_,rfl,?_,fun b o e=>by rw[i8 (c9 e hD0)];exact s5 _ _ (s4 _ _ e)⟩;have W5:=WS.app (s:=((i:Int),(j:Int))) (s5 _ _ q1) q2 (fun i p s a c=>s5 _ _ (q3 i p s a c)) e5;rw[a1j,u4,<-F9];exact W5
  ·rintro _ H4 ⟨y3,rfl,W4,s4⟩
   refine⟨_,_,rfl,?_,?_,s4⟩
   ·rw[a4I,b3d,hg];exact W4
   ·rw[a4I,b3d,hg];simp;omega
 ·rintro _ H3 ⟨y2,y3,rfl,Y,l3,s3⟩
  ext
  exact k D H3 hD0 Y s3
end
section
variable {K:Fg}{S:List Stp}{E:XK}
theorem a7c(hw:D7 K H w S)(k:Q (.bl true) H):a2r K [.ref w] H Q E:=by
 obtain⟨vs,v1,v2,v3⟩:=hw.ex;refine⟨rfl,?_⟩;unfold b2Y
 nofun
 exists a6g (s := "list") (by simp only[a4V,v1]) (by decide) ?_;exists p8 (by decide) ?_;exact_mod_cast N7 ?_;specialize a0g (V3 ?_);refine⟨w,rfl,⟨_,SqL.of v1⟩,a1v (xs:=vs.map V.ref) (fun i σ H2=>∃y1,σ=[some (.ref w),y1]/\H2=H) ⟨_,rfl,rfl⟩ ?_ ?_ ?_⟩
 ·rintro i σ H2 _ ⟨_,_,rfl⟩
  exact SqL.of v1
 ·rintro i v _ _ hv ⟨y1,rfl,rfl⟩
  rw[b6]at hv;obtain⟨p,hp,rfl⟩:=A1.mp hv;obtain⟨s,hs⟩:∃s,S[i]? = some s:=⟨_,c8 (by rw[<-v2];exact(gI hp))⟩;have sq:=(v3 i p s hp hs).sq
  ext
  exists ⟨p,_,rfl,sq,?_⟩;exists p8 rfl ?_;exists ⟨p,_,rfl,sq,?_⟩;exists p8 rfl ?_;exists ⟨p,0,_,_,rfl,rfl,sq,Z3 _ _,?_⟩;exists b7Q (E:=E0) ?_;exists p8 rfl ?_;exists ⟨p,1,_,_,rfl,rfl,sq,a5p _ _ _,?_⟩;exists b7Q (E:=E0) ?_;exists p8 rfl ?_;exact⟨_,rfl,rfl⟩
 ·rintro _ _ ⟨y1,rfl,rfl⟩
  ext
  exact k
end
section
variable {K:Fg}{S:List Stp}{E:XK}
theorem b5e(hn:F8 H na N)(hw:D7 K H w S)(his:∀s∈S,a0F N s)(lS:S.length<=2000)
  (k:∀D H',H D=none->H' D=some (.lst (IL (S.map (G5 N))))->d9 H H'->Q (.ref D) H'):a6I K [.ref na,.ref w] H Q E:=by
 obtain⟨vs,v1,v2,v3⟩:=hw.ex;refine⟨rfl,?_⟩;unfold b9d
 ext
 specialize a1u (V3 ?_);refine⟨w,rfl,⟨_,SqL.of v1⟩,fun T hT=>?_⟩;refine a0E (xs:=vs.map V.ref) (fun i ys H2=>ys=IL ((S.take i).map (G5 N))/\H2 T=some (.lst ys)/\d9 H H2) ⟨rfl,d8,A9 hT⟩ ?_ ?_ ?_ ?_
 ·rintro i ys H2 ⟨_,h,_⟩
  exact h
 ·rintro i ys H2 _ ⟨_,_,s2⟩
  exact SqL.of (s2 _ _ v1)
 ·rintro i v ys H2 hv ⟨rfl,hT2,s2⟩ R hR
  rw[b6]at hv;obtain⟨p,hp,rfl⟩:=A1.mp hv;have hi:=(gI hp);obtain⟨s,hs⟩:∃s,S[i]? = some s:=⟨_,c8 (by omega)⟩
  ext
  refine b5d (hn.same s2) ((v3 i p s hp hs).ts (d9.ts s2)) (his s (mI hs)) ?_;refine hR _ _ hT2 (G8 (by rw[K9,b9,C5];omega)) ⟨?_,d8,fun b o e=>by rw[i8 (c9 e hT)];exact s2 _ _ e⟩;rw[F3,hs,u4];unfold IL;rw[u4];rfl
 rintro ys H2 ⟨rfl,hT2,s2⟩;rw[b9,v2,J5]at hT2;exact k T H2 hT hT2 s2
end
inductive UnR(N:Nt)(Do Sp:Nat->Bool):Nat->Prop
 | zero:UnR N Do Sp 0
 | spoil {p t:Nat} {l:List Nat}:N[p]? = some l->t∈l->Sp p=true->UnR N Do Sp t
 | step {p t:Nat} {l:List Nat}:UnR N Do Sp p->Do p=false->N[p]? = some l->t∈l->UnR N Do Sp t
theorem c0K{Sp:Nat->Bool}{S:List Nat}(z:0∈S)(h:d2H N Do Sp S):∀t,UnR N Do Sp t->t∈S:=by
 intro t u;induction u with
 | zero=>exact z
 | spoil h1 h2 h3=>exact h.sp _ _ h3 h1 _ h2
 | step _ h2 h3 h4 ih=>exact h.no _ _ ih h2 h3 _ h4
theorem c5y{K:Fg}{Sp:Nat->Bool}{S:List Nat}(h:CbK K H d N Do Sp S kvs):∀(i t:Nat),S[i]? = some t->UnR N Do Sp t:=by
 intro i;induction i using d2Y with
 | _ i ih=>
  intro t e;obtain⟨a,s,_,_,j⟩:=h.at_ i t e;rcases j with ⟨_,_,rfl⟩ | ⟨p,q,l,_,h2,h3,h4⟩
  ·exact .zero
  ·rcases h4 with h4 | ⟨j,j1,j2,j3⟩
   ·exact .spoil h2 (mI h3) h4
   ·exact .step (ih j j1 p j2) j3 h2 (mI h3)
theorem Rdy.un{K:Fg}{x:Addr}{Sp:Nat->Bool}{S:List Nat}(h:Rdy K c H rx x dd N rs ds Do Sp S)(t:Nat):t∈S↔UnR N Do Sp t:=by
 obtain⟨dx,d,kvs,_,cb⟩:=h.ex;refine⟨fun ht=>?_,c0K (mI cb.z) h.shut t⟩;obtain⟨i,hi⟩:=i9.mp ht;exact c5y cb i t hi
def fls(n:Nat)(f:Nat->Bool):List Nat:=(C1 n).filter fun t => !f t
def off(f:Nat->Bool)(t:Nat):Nat->Bool:=fun u=>if u=t then false else f u
section
variable {Sp:Nat->Bool}
theorem b3L:t∈fls n f↔t<n/\f t=false:=by
 unfold fls;rw[E8,Q8];simp
theorem d2w:(fls n f).Nodup:=a7X.filter _
theorem c7h:(fls n f).length<=n:=by
 have:=M7 (fun t => !f t) (C1 n);rw[a0r]at this;exact this
theorem b9H(h:f t=false):off f t=f:=by
 funext u;unfold off;split
 ·rename_i e;rw[e,h]
 ·rfl
theorem c2M(ht:t<n)(h:f t=true):(fls n f).length<(fls n (off f t)).length:=by
 have nd:(fls n f++[t]).Nodup:=by
  rw[a0q];exact⟨d2w,by simp,fun x hx y hy=>by rw[v6.mp hy];rintro rfl;rw[(b3L.mp hx).2]at h;cases h⟩
 have:=c1J (fls n f++[t]) (fls n (off f t)) nd fun x hx=>by
  rcases z8.mp hx with q | q
  ·obtain⟨q1,q2⟩:=b3L.mp q
   refine b3L.mpr ⟨q1,?_⟩;unfold off;split
   ·rfl
   ·exact q2
  ·rw[v6.mp q]
   exact b3L.mpr ⟨ht,by unfold off;rw[if_pos rfl]⟩
 rw[p5,G6]at this;omega
theorem c7D(ht:t<n):(BL n f).set t (V.bl false)=BL n (off f t):=by
 apply a0s;intro i;rw[c9V];unfold BL off;rw[b6,b6,b9,a0r];by_cases e:t=i
 ·subst e
  rw[if_pos rfl,if_pos ht,Y2 ht];simp
 ·rw[if_neg e]
  cases h:(C1 n)[i]? with
  | none=>rfl
  | some j=>
   have hi:=(gI h);rw[a0r]at hi;rw[Y2 hi]at h;cases h;simp only[a5s];rw[if_neg fun z=>e z.symm]
def b1r(Do Sp f:Nat->Bool)(s:Stp):Bool:=decide (s=FST)||(Sp s.1.toNat || !(f s.1.toNat||Do s.1.toNat))
def ClF(N:Nt)(Do Sp f:Nat->Bool):Prop:=∀s∈F2 N,b1r Do Sp f s=true->f (G5 N s)=false
def SnF(N:Nt)(Do Sp f:Nat->Bool):Prop:=∀t,f t=false->UnR N Do Sp t
end
section
variable {Sp:Nat->Bool}
theorem d2z(hn:SnF N Do Sp f)(is:a0F N s)(c:b1r Do Sp f s=true):UnR N Do Sp (G5 N s):=by
 unfold b1r at c;rcases is with rfl | ⟨p,q,l,t,rfl,h1,h2⟩
 ·have:G5 N FST=0:=by unfold G5;rw[if_pos rfl]
  rw[this];exact .zero
 ·have ne:¬(((p:Int),(q:Int)):Stp)=FST:=fun z=>by
   have:=congrArg Prod.fst z;have:(p:Int) = -1:=this;omega
  rw[d6w ne,Z9]at c;have e:((((p:Int),(q:Int)):Stp).1).toNat=p:=rfl;rw[e]at c;rw[a2t h1 h2];have tm:=mI h2;cases hs:Sp p with
  | true=>exact .spoil h1 tm hs
  | false=>
   rw[hs,Z9]at c;cases hf:f p with
   | true=>rw[hf]at c;cases c
   | false=>
    cases hd:Do p with
    | true=>rw[hf,hd]at c;cases c
    | false=>exact .step (hn p hf) hd h1 tm
theorem SnF.off(hn:SnF N Do Sp f)(is:a0F N s)(c:b1r Do Sp f s=true):SnF N Do Sp (off f (G5 N s)):=fun t h=>by
 unfold RD.off at h;by_cases e:t=G5 N s
 ·rw[e];exact d2z hn is c
 ·rw[if_neg e]at h;exact hn t h
end
theorem d2A{Sp:Nat->Bool}(hc:ClF N Do Sp f)(hn:SnF N Do Sp f)(t:Nat):f t=false↔UnR N Do Sp t:=by
 refine⟨hn t,fun u=>?_⟩
 have stp:∀ {p q:Nat} {l:List Nat} {t:Nat},N[p]? = some l->l[q]? = some t->(Sp p || !(f p||Do p))=true->f t=false:=fun {p q l t} h1 h2 h3=>by
  have:=hc ((p:Int),(q:Int)) (a3s (.inr ⟨p,q,l,t,rfl,h1,h2⟩)) (by
   unfold b1r;show(_||(Sp ((p:Int)).toNat || !(f ((p:Int)).toNat||Do ((p:Int)).toNat)))=true;rw[t6,h3,Bool.or_true])
  rwa [a2t h1 h2]at this
 induction u with
 | zero=>
  have:=hc FST (a3s (.inl rfl)) (by unfold b1r;rw[d6x rfl,a2Y]);have e:G5 N FST=0:=by unfold G5;rw[if_pos rfl]
  rwa [e]at this
 | spoil h1 h2 h3=>
  obtain⟨q,hq⟩:=i9.mp h2;exact stp h1 hq (by rw[h3,a2Y])
 | step _ h2 h3 h4 ih=>
  obtain⟨q,hq⟩:=i9.mp h4;exact stp h3 hq (by rw[ih,h2];simp)
theorem c4l{K:Fg}{Sp:Nat->Bool}{E:XK}(hra:H ra=some (.lst (rs.map V.ref)))(lrs:rs.length=N.length)(hn:F8 H na N)(hv:S0 N)(hd:a0w H dd ds)(sat:a4Q H rs ds Do Sp)
  (k:∀a f H',H a=none->H' a=some (.lst (BL N.length f))->(∀t,t<N.length->(f t=false↔UnR N Do Sp t))->d9 H H'->Q (.ref a) H'):b0T K [.ref ra,.ref na,.ref dd] H Q E:=by
 have h400:=hv.le;refine⟨rfl,?_⟩;unfold c2t
 nofun
 exists F7 (by simp) fun l0 H1 hl0 e1 s1=>?_
 refine L9 (s1 _ _ hra) ?_;rw[b9,lrs];refine⟨l0,_,_,rfl,rfl,e1,by omega,by omega,a4T (G8 (by show 1 * ((N.length:Int).toNat)<100000;omega)),fun D hD=>?_⟩
 have ef:(w6 ((N.length:Int)).toNat [V.bl true]).flatten=BL N.length fun _=>true:=by
  rw[t6,b3R];unfold BL;apply a0s;intro i;rw[N4,b6];by_cases h:i<N.length
  ·rw[if_pos h,Y2 h];rfl
  ·rw[if_neg h,G7.mpr (by simpa using h)];rfl
 rw[ef];have s2:d9 H1 (upd H1 D (.lst (BL N.length fun _=>true))):=A9 hD;obtain⟨H2,hH2⟩:∃H2,H2=upd H1 D (.lst (BL N.length fun _=>true)):=⟨_,rfl⟩;have e2:H2 D=some (.lst (BL N.length fun _=>true)):=hH2 ▸ d8;rw[<-hH2]at s2 ⊢;have s02:=s1.trans s2;have hD0:H D=none:=s1.free hD
 ext
 exact_mod_cast N7 ?_;specialize a0g (a2B ?_);refine L9 (s02 _ _ hra) ?_;rw[b9,lrs]
 ext
 refine⟨((N.length+1:Nat):Int),by simp,by omega,by omega,?_⟩;rw[t6];refine a0z (fun r σ H3=>∃y4 y5 y6 f,σ=[some (.ref ra),some (.ref na),some (.ref dd),some (.ref D),y4,y5,y6]/\H3 D=some (.lst (BL N.length f))/\SnF N Do Sp f/\(ClF N Do Sp f\/r<=(fls N.length f).length)/\d9 H H3) ⟨_,_,_,fun _=>true,rfl,e2,(fun t h=>by cases h),.inr (P8 _),s02⟩ ?_ ?_
 ·rintro r _ H3 hr ⟨y4,y5,y6,f0,rfl,e3,n3,c3,s3⟩
  rw[Y3]
  ext
  specialize a0g (V3 ?_);refine a8W (hn.same s3) h400 hv.two fun w H4 hw W4 s4=>?_
  have s04:=s3.trans s4;obtain⟨ps,w1,w2,w3⟩:=id W4.ex;have nwD:w≠D:=(c9 e3 hw).symm;have hwD:∀ {H':Hp} {x:List V},H' w=some (.lst (ps.map V.ref))->(upd H' D (.lst x)) w=some (.lst (ps.map V.ref)):=fun h=>by rw[i8 nwD];exact h
  refine⟨w,rfl,⟨_,SqL.of w1⟩,a1v (xs:=ps.map V.ref) (fun j σ H5=>∃y5 y6 f,σ=[some (.ref ra),some (.ref na),some (.ref dd),some (.ref D),some (.int (r:Int)),y5,y6]/\H5 D=some (.lst (BL N.length f))/\SnF N Do Sp f/\((f=f0/\∀(i:Nat) s,i<j->(F2 N)[i]? = some s->b1r Do Sp f0 s=true->f0 (G5 N s)=false)\/(¬ClF N Do Sp f0/\(fls N.length f0).length<(fls N.length f).length))/\H5 w=some (.lst (ps.map V.ref))/\F5 H4 H5/\d9 H H5) ⟨_,_,f0,rfl,s4 _ _ e3,n3,.inl ⟨rfl,fun i s h=>by omega⟩,w1,fun _ _ h=>h,s04⟩ ?_ ?_ ?_⟩
  ·rintro j σ H5 _ ⟨_,_,_,_,_,_,_,h,_⟩
   exact SqL.of h
  ·rintro j v _ H5 hv' ⟨y5,y6,f,rfl,e5,n5,c5,w5,t5,s5⟩
   rw[b6]at hv';obtain⟨p,hp,rfl⟩:=A1.mp hv';obtain⟨s,hs⟩:∃s,(F2 N)[j]? = some s:=⟨_,c8 (by rw[<-w2];exact(gI hp))⟩;have is:=a1O (mI hs);have st5:=t5 _ _ (w3 j p s hp hs);have hlt:=a8X hv is
   have put:∀ {H6:Hp} {z:Option V} {R:St->Hp->Prop},b1r Do Sp f s=true->d9 H5 H6->(∀σ' H',(∃y5 y6 f,σ'=[some (V.ref ra),some (.ref na),some (.ref dd),some (.ref D),some (.int (r:Int)),y5,y6]/\H' D=some (.lst (BL N.length f))/\SnF N Do Sp f/\((f=f0/\∀(i:Nat) s,i<j+1->(F2 N)[i]? = some s->b1r Do Sp f0 s=true->f0 (G5 N s)=false)\/(¬ClF N Do Sp f0/\(fls N.length f0).length<(fls N.length f).length))/\H' w=some (.lst (ps.map V.ref))/\F5 H4 H'/\d9 H H')->R σ' H')->R [some (V.ref ra),some (.ref na),some (.ref dd),some (.ref D),some (.int (r:Int)),some (.ref p),z] (upd H6 D (.lst (BL N.length (off f (G5 N s))))):=by
    intro H6 z R cn s6 hR;refine hR _ _ ⟨_,_,off f (G5 N s),rfl,d8,n5.off is cn,?_,hwD (s6 _ _ w5),fun b ys h=>F5.put (s6 _ _ e5) _ _ (s6 _ _ (t5 _ _ h)),fun b o e=>by rw[i8 (c9 e hD0)];exact s6 _ _ (s5 _ _ e)⟩;cases hf:f (G5 N s)with
    | false=>
     rw[b9H hf];rcases c5 with ⟨rfl,h⟩ | h
     ·refine .inl ⟨rfl,fun i s' hi hs' hc=>?_⟩
      by_cases e:i=j
      ·subst e
       rw[hs]at hs';cases hs';exact hf
      ·exact h i s' (by omega) hs' hc
     ·exact .inr h
    | true=>
     have g:=c2M hlt hf;rcases c5 with ⟨rfl,h⟩ | ⟨h1,h2⟩
     ·refine .inr ⟨fun cl=>?_,g⟩
      rw[cl s (mI hs) cn]at hf;cases hf
     ·exact .inr ⟨h1,by omega⟩
   have stay:∀ {H6:Hp} {z:Option V} {R:St->Hp->Prop},b1r Do Sp f s=false->d9 H5 H6->(∀σ' H',(∃y5 y6 f,σ'=[some (V.ref ra),some (.ref na),some (.ref dd),some (.ref D),some (.int (r:Int)),y5,y6]/\H' D=some (.lst (BL N.length f))/\SnF N Do Sp f/\((f=f0/\∀(i:Nat) s,i<j+1->(F2 N)[i]? = some s->b1r Do Sp f0 s=true->f0 (G5 N s)=false)\/(¬ClF N Do Sp f0/\(fls N.length f0).length<(fls N.length f).length))/\H' w=some (.lst (ps.map V.ref))/\F5 H4 H'/\d9 H H')->R σ' H')->R [some (V.ref ra),some (.ref na),some (.ref dd),some (.ref D),some (.int (r:Int)),some (.ref p),z] H6:=by
    intro H6 z R cn s6 hR;refine hR _ _ ⟨_,_,f,rfl,s6 _ _ e5,n5,?_,s6 _ _ w5,fun b ys h=>s6 _ _ (t5 _ _ h),s5.trans s6⟩;rcases c5 with ⟨rfl,h⟩ | h
    ·refine .inl ⟨rfl,fun i s' hi hs' hc=>?_⟩
     by_cases e:i=j
     ·subst e
      rw[hs]at hs';cases hs';rw[cn]at hc;cases hc
     ·exact h i s' (by omega) hs' hc
    ·exact .inr h
   have setD:∀ {H6:Hp} {QH:Hp->Prop},d9 H5 H6->QH (upd H6 D (.lst (BL N.length (off f (G5 N s)))))->b1g (.ref D) (.int ((G5 N s:Nat):Int)) (.bl false) H6 QH:=fun {H6 QH} s6 h=>by
    refine b6G (k:=G5 N s) (s6 _ _ e5) ?_ (by rw[c7D hlt];exact h);rw[b8v];unfold ixN;simp;omega
   ext
   nofun
   exists N8 st5 (Z3 _ _) ?_;rcases id is with rfl | ⟨x,q,l,t,rfl,h1,h2⟩
   ·refine A2 (by decide) ?_
    exists A2 rfl ?_;refine b5d (hn.same s5) (.inl st5) is ?_;refine setD (d9.refl _) ?_;exact put (by unfold b1r;rw[d6x rfl,a2Y]) (d9.refl _) fun _ _ h=>h
   ·have hx:x<N.length:=(gI h1)
    obtain⟨rx,hrx⟩:∃rx,rs[x]? = some rx:=⟨_,c8 (by omega)⟩;obtain⟨xs,rX,dX',sX⟩:=sat.ts (d9.ts s5) x rx hrx;have ixr:atI (rs.map V.ref) (x:Int)=some (.ref rx):=P4 (by rw[b6,hrx];rfl)
    have ne:¬(((x:Int),(q:Int)):Stp)=FST:=fun z=>by
     have:=congrArg Prod.fst z;have:(x:Int) = -1:=this;omega
    have cn:b1r Do Sp f ((x:Int),(q:Int))=(Sp x || !(f x||Do x)):=by
     unfold b1r;rw[d6w ne,Z9];rfl
    exists p8 (d6w (by show ¬((x:Int)<0);omega)) ?_;exists C0 (s5 _ _ hra) ixr ?_;refine a1f rX (hd.ts (d9.ts s5)) fun H6 s6=>?_
    rw[sX]
    ext
    cases hsp:Sp x with
    | true=>
     refine A2 rfl ?_;exists A2 rfl ?_;refine b5d (hn.same (s5.trans s6)) (.inl (s6 _ _ st5)) is ?_;refine setD s6 ?_;exact put (by rw[cn,hsp,a2Y]) s6 fun _ _ h=>h
    | false=>
    exists p8 rfl ?_;exists C0 (s6 _ _ e5) (b6V hx) ?_;cases hf:f x with
    | true=>
     refine A2 rfl ?_;exists p8 rfl ?_;exact stay (by rw[cn,hsp,hf];rfl) s6 fun _ _ h=>h
    | false=>
     exists p8 rfl ?_;exists C0 ((s5.trans s6) _ _ hra) ixr ?_;refine a4P (rX.ts (d9.ts s6)) (hd.ts (d9.ts (s5.trans s6))) ?_;rw[a6T rX.2 (d9.ts s6),dX']
     ext
     cases hdo:Do x with
     | true=>
      exists p8 rfl ?_;exact stay (by rw[cn,hsp,hf,hdo];rfl) s6 fun _ _ h=>h
     | false=>
      exists A2 rfl ?_;refine b5d (hn.same (s5.trans s6)) (.inl (s6 _ _ st5)) is ?_;refine setD s6 ?_;exact put (by rw[cn,hsp,hf,hdo];rfl) s6 fun _ _ h=>h
  ·rintro _ H5 ⟨y5,y6,f,rfl,e5,n5,c5,_,_,s5⟩
   refine⟨_,_,_,f,rfl,e5,n5,?_,s5⟩;rcases c5 with ⟨rfl,h⟩ | ⟨h1,h2⟩
   ·refine .inl fun s hs=>?_
    obtain⟨i,hi⟩:=i9.mp hs;exact h i s (by rw[b9,w2];exact(gI hi)) hi
   ·exact .inr (by have:=c3.resolve_left h1;omega)
 ·rintro _ H3 ⟨y4,y5,y6,f,rfl,e3,n3,c3,s3⟩
  ext
  have cl:ClF N Do Sp f:=c3.resolve_right fun h=>by have:=c7h (n:=N.length) (f:=f);omega
  exact k D f H3 hD0 e3 (fun t _=>d2A cl n3 t) s3
inductive UnW(N:Nt)(Do Sp:Nat->Bool):Nat->Prop
 | en {t:Nat}:t<N.length->b0s N Do Sp t->UnW N Do Sp t
 | go {p t:Nat} {l:List Nat}:N[p]? = some l->Do p=false->t∈l->UnW N Do Sp t->UnW N Do Sp p
theorem Wnt.un{K:Fg}{x:Addr}{Sp:Nat->Bool}{S:List Nat}(h:Wnt K c H wx x N Do Sp S)(t:Nat):t∈S↔UnW N Do Sp t:=by
 obtain⟨dx,d,kvs,_,gb⟩:=h.ex;constructor
 ·intro ht
  obtain⟨i,hi⟩:=i9.mp ht;clear ht;induction i using d2Y generalizing t with
  | _ i ih=>
   obtain⟨v,_,j⟩:=gb.at_ i t hi;rcases j with ⟨_,e⟩ | ⟨a,q,l,u,j,_,_,h3,h4,h5,h6,h7⟩
   ·exact .en (gb.lt t (mI hi)) e
   ·exact .go h3 h7 (mI h4) (ih j h6 u h5)
 ·intro u
  induction u with
  | en h1 h2=>exact h.shut.en _ h1 h2
  | go h1 h2 h3 _ ih=>exact h.shut.no _ _ h1 h2 _ h3 ih
def wnF(N:Nt)(Do Sp f:Nat->Bool)(p:Nat):Bool:=Do p||(decide (0<(N.getD p []).length)&&(N.getD p []).all f && !Sp p)
section
variable {Sp g:Nat->Bool}{p:Nat}
theorem c7T(h:∀u,g u=true->f u=true)(e:wnF N Do Sp g p=true):wnF N Do Sp f p=true:=by
 unfold wnF at e ⊢;simp only[b7a,P6,L3]at e ⊢;exact e.imp id fun⟨⟨a,b⟩,c⟩=>⟨⟨a,fun x hx=>h x (b x hx)⟩,c⟩
theorem d2e(u:Nat)(h:off f t u=true):f u=true:=by
 unfold off at h;split at h
 ·cases h
 ·exact h
def MoF(N:Nt)(Do Sp f:Nat->Bool):Prop:=∀p,f p=false->wnF N Do Sp f p=false
def SnW(N:Nt)(Do Sp f:Nat->Bool):Prop:=∀t,f t=false->UnW N Do Sp t
def ClW(N:Nt)(Do Sp f:Nat->Bool):Prop:=∀p,p<N.length->wnF N Do Sp f p=false->f p=false
theorem MoF.off(h:MoF N Do Sp f)(e:wnF N Do Sp f t=false):MoF N Do Sp (off f t):=fun p hp=>by
 refine Bool.eq_false_iff.mpr fun z=>?_
 have z:=c7T d2e z;unfold RD.off at hp;by_cases q:p=t
 ·rw[q,e]at z;cases z
 ·rw[if_neg q]at hp;rw[h p hp]at z;cases z
theorem d3j(hn:SnW N Do Sp f)(hp:p<N.length)(e:wnF N Do Sp f p=false):UnW N Do Sp p:=by
 have hl:=M5 hp;have hg:N.getD p []=N[p]:=by simp[D6,hl]
 unfold wnF at e;rw[hg]at e;rw[c5b]at e;obtain⟨e1,e2⟩:=e;by_cases h0:N[p]=[]
 ·exact .en hp ⟨e1,.inr (by rw[hl,h0])⟩
 cases hs:Sp p with
 | true=>exact .en hp ⟨e1,.inl hs⟩
 | false=>
  rw[hs,d6x (a5W.mpr h0)]at e2;simp only[Z8,Bool.not_false,b2V,b3S]at e2;obtain⟨u,hu,hf⟩:=e2;exact .go hl e1 hu (hn u (by simpa using hf))
theorem SnW.off(hn:SnW N Do Sp f)(hp:p<N.length)(e:wnF N Do Sp f p=false):SnW N Do Sp (off f p):=fun t h=>by
 unfold RD.off at h;by_cases q:t=p
 ·rw[q];exact d3j hn hp e
 ·rw[if_neg q]at h;exact hn t h
theorem c9H(hc:ClW N Do Sp f)(hn:SnW N Do Sp f)(t:Nat):f t=false↔UnW N Do Sp t:=by
 refine⟨hn t,fun u=>?_⟩;induction u with
 | @en t h1 h2=>
  refine hc t h1 ?_;unfold wnF;rw[h2.1,Z9];rcases h2.2 with e | e
  ·rw[e];simp
  ·rw[show N.getD t []=[] by simp[D6,e]];rfl
 | @go p t l h1 h2 h3 _ ih=>
  refine hc p (gI h1) ?_;unfold wnF;rw[h2,Z9,show N.getD p []=l by simp[D6,h1]];have:l.all f=false:=b3S.mpr ⟨t,h3,by rw[ih];decide⟩;rw[this];simp
theorem c9T(ht:t<n)(h:f t=true):(BL n f).set t (V.bl true)=BL n f:=by
 apply a0s;intro i;rw[c9V];by_cases e:t=i
 ·subst e
  rw[if_pos rfl,if_pos (by rw[b8v];exact ht)];unfold BL;rw[b6,Y2 ht];simp[h]
 ·rw[if_neg e]
end
theorem d0R{ta:TA}(h:ta σ H1 fun vs H2=>∃i j:Int,vs=[.int i,.int j,.int (-1)]/\(-(2 ^ 30)<=i/\i<2 ^ 30 /\ -(2 ^ 30)<=j/\j<2 ^ 30)/\R (Itd i (i - j).toNat) H2):c2I ta σ H1 R:=h
section
variable {K:Fg}{u D:Addr}
theorem c7x(h1:H u=some (.lst (IL l)))(hD:H D=some (.lst (BL n f)))(hl:∀t∈l,t<n)(l2:l.length<=2)(hi:σ[i]? = some (some (.ref D)))(hte:∀(R:It->Hp->Prop),(∃a,V.ref u=.ref a/\(∃xs,SqL K H a xs)/\R (Itl K a) H)->U2 K te σ H R)
  (k:∀H',d9 H H'->Q (.bl (l.all f)) H'):tCB b2q (a9 (a0f (U2 K te) a0e (tOp qIx (b4 (i+1)) (b4 0))) d7) σ H Q:=by
 ext
 exact_mod_cast a1u (hte _ ⟨u,rfl,⟨_,SqL.of h1⟩,fun T hT=>?_⟩);refine a0E (xs:=IL l) (fun i ys H8=>ys=((l.take i).map fun t=>V.bl (f t))/\H8 T=some (.lst ys)/\d9 H H8) ⟨rfl,d8,A9 hT⟩ ?_ ?_ ?_ ?_
 ·rintro i ys H8 ⟨_,h,_⟩
  exact h
 ·rintro i ys H8 _ ⟨_,_,s8⟩
  exact SqL.of (s8 _ _ h1)
 ·rintro j y ys H8 hy ⟨rfl,hT8,s8⟩ R hR
  unfold IL at hy;rw[b6]at hy;obtain⟨z,hz,rfl⟩:=A1.mp hy;exact_mod_cast c8k ?_;refine⟨_,(by simpa using hi),?_⟩
  ext
  refine C0 (s8 _ _ hD) (b6V (hl z (mI hz))) ?_;refine hR _ _ hT8 (G8 (by rw[b9,C5];omega)) ⟨?_,d8,fun b o e=>?_⟩
  ·rw[F3,hz,u4];rfl
  ·rw[i8 (c9 e hT)];exact s8 _ _ e
 ·rintro ys H8 ⟨rfl,hT8,s8⟩
  rw[K9,J5]at hT8;have eb:(l.map fun t=>V.bl (f t))=(l.map f).map V.bl:=by rw[S9];rfl
  rw[eb]at hT8
  ext
  refine c6g hT8 ?_;rw[c3c];exact k H8 s8
end
theorem c1R{K:Fg}{Sp:Nat->Bool}{E:XK}(hra:H ra=some (.lst (rs.map V.ref)))(lrs:rs.length=N.length)(hn:F8 H na N)(hv:S0 N)(hd:a0w H dd ds)(sat:a4Q H rs ds Do Sp)
  (k:∀a f H',H a=none->H' a=some (.lst (BL N.length f))->(∀t,t<N.length->(f t=false↔UnW N Do Sp t))->d9 H H'->Q (.ref a) H'):a8N K [.ref ra,.ref na,.ref dd] H Q E:=by
 have h400:=hv.le;refine⟨rfl,?_⟩;unfold b8Y
 nofun
 refine F7 (by simp) fun l0 H1 hl0 e1 s1=>?_
 ext
 refine L9 (s1 _ _ hra) ?_;rw[b9,lrs];refine⟨l0,_,_,rfl,rfl,e1,by omega,by omega,a4T (G8 (by show 1 * ((N.length:Int).toNat)<100000;omega)),fun D hD=>?_⟩
 have ef:(w6 ((N.length:Int)).toNat [V.bl true]).flatten=BL N.length fun _=>true:=by
  rw[t6,b3R];unfold BL;apply a0s;intro i;rw[N4,b6];by_cases h:i<N.length
  ·rw[if_pos h,Y2 h];rfl
  ·rw[if_neg h,G7.mpr (by simpa using h)];rfl
 rw[ef];have s2:d9 H1 (upd H1 D (.lst (BL N.length fun _=>true))):=A9 hD;obtain⟨H2,hH2⟩:∃H2,H2=upd H1 D (.lst (BL N.length fun _=>true)):=⟨_,rfl⟩;have e2:H2 D=some (.lst (BL N.length fun _=>true)):=hH2 ▸ d8;rw[<-hH2]at s2 ⊢;have s02:=s1.trans s2;have hD0:H D=none:=s1.free hD
 ext
 exact_mod_cast N7 ?_;specialize a0g (a2B ?_);exists L9 (s02 _ _ hra) ?_;rw[b9,lrs];refine⟨((N.length+1:Nat):Int),by simp,by omega,by omega,?_⟩;rw[t6];refine a0z (fun r σ H3=>∃y4 y5 y6 f,σ=[some (.ref ra),some (.ref na),some (.ref dd),some (.ref D),y4,y5,y6]/\H3 D=some (.lst (BL N.length f))/\MoF N Do Sp f/\SnW N Do Sp f/\(ClW N Do Sp f\/r<=(fls N.length f).length)/\d9 H H3) ⟨_,_,_,fun _=>true,rfl,e2,(fun t h=>by cases h),(fun t h=>by cases h),.inr (P8 _),s02⟩ ?_ ?_
 ·rintro r _ H3 hr ⟨y4,y5,y6,f0,rfl,e3,m3,n3,c3,s3⟩
  rw[Y3]
  ext
  specialize a0g (d0R ?_);exists L9 (s3 _ _ hra) ?_;rw[b9,lrs];refine⟨(N.length:Int) - 1,-1,rfl,⟨by omega,by omega,by omega,by omega⟩,?_⟩;rw[show((N.length:Int) - 1 - -1).toNat=N.length by omega];refine b5q N.length (fun j σ H5=>∃y5 y6 f,σ=[some (.ref ra),some (.ref na),some (.ref dd),some (.ref D),some (.int (r:Int)),y5,y6]/\H5 D=some (.lst (BL N.length f))/\MoF N Do Sp f/\SnW N Do Sp f/\((f=f0/\∀p,N.length<=p+j->p<N.length->wnF N Do Sp f0 p=false->f0 p=false)\/(¬ClW N Do Sp f0/\(fls N.length f0).length<(fls N.length f).length))/\d9 H H5) ⟨_,_,f0,rfl,e3,m3,n3,.inl ⟨rfl,fun p h h'=>by omega⟩,s3⟩ ?_ ?_ ?_
  ·rintro _ H5 ⟨y5,y6,f,rfl,e5,m5,n5,c5,s5⟩
   refine⟨j9 _,_,_,_,f,rfl,e5,m5,n5,?_,s5⟩;rcases c5 with ⟨rfl,h⟩ | ⟨h1,h2⟩
   ·exact .inl fun p hp=>h p (by omega) hp
   ·exact .inr (by have:=c3.resolve_left h1;omega)
  ·rintro i _ H5 hi _
   exact hi
  ·rintro j _ H4 hj ⟨y5,y6,f,rfl,e5,m5,n5,c5,s5⟩ _ H5 ⟨rfl,rfl⟩
   obtain⟨p,hpe⟩:∃p:Nat,(N.length:Int) - 1 - j=p:=⟨N.length - 1 - j,by omega⟩;have hp:p<N.length:=by omega
   rw[hpe];have hl:=M5 hp;have hg:N.getD p []=N[p]:=by simp[D6,hl]
   obtain⟨us,u,f1,f2,f3,_⟩:=(hn.same s5).at hl;obtain⟨rx,hrx⟩:∃rx,rs[p]? = some rx:=⟨_,c8 (by omega)⟩;obtain⟨xs,rX,dX',sX⟩:=sat.ts (d9.ts s5) p rx hrx;have ixr:atI (rs.map V.ref) (p:Int)=some (.ref rx):=P4 (by rw[b6,hrx];rfl)
   have fin:∀ {H6:Hp} {z:Option V} {R:St->Hp->Prop},d9 H5 H6->(∀σ' H',(∃y5 y6 f,σ'=[some (V.ref ra),some (.ref na),some (.ref dd),some (.ref D),some (.int (r:Int)),y5,y6]/\H' D=some (.lst (BL N.length f))/\MoF N Do Sp f/\SnW N Do Sp f/\((f=f0/\∀p,N.length<=p+(j+1)->p<N.length->wnF N Do Sp f0 p=false->f0 p=false)\/(¬ClW N Do Sp f0/\(fls N.length f0).length<(fls N.length f).length))/\d9 H H')->R σ' H') ->
     b1g (.ref D) (.int (p:Int)) (.bl (wnF N Do Sp f p)) H6 fun H7=>R [some (V.ref ra),some (.ref na),some (.ref dd),some (.ref D),some (.int (r:Int)),some (.int (p:Int)),z] H7:=by
    intro H6 z R s6 hR;refine b6G (k:=p) (s6 _ _ e5) (by rw[b8v];unfold ixN;simp;omega) ?_;have old:∀o,d9 H (upd H6 D o):=fun o b q e=>by rw[i8 (c9 e hD0)];exact s6 _ _ (s5 _ _ e)
    have at_p:∀q:Nat,N.length<=q+(j+1)->q≠p->N.length<=q+j:=fun q h1 h2=>by omega
    cases hw:wnF N Do Sp f p with
    | true=>
     have hf:f p=true:=by
      cases e:f p with
      | true=>rfl
      | false=>rw[m5 p e]at hw;cases hw
     rw[c9T hp hf];refine hR _ _ ⟨_,_,f,rfl,d8,m5,n5,?_,old _⟩;rcases c5 with ⟨rfl,h⟩ | h
     ·refine .inl ⟨rfl,fun q h1 h2 h3=>?_⟩
      by_cases e:q=p
      ·rw[e,hw]at h3;cases h3
      ·exact h q (at_p q h1 e) h2 h3
     ·exact .inr h
    | false=>
     rw[c7D hp];refine hR _ _ ⟨_,_,off f p,rfl,d8,m5.off hw,n5.off hp hw,?_,old _⟩;cases hf:f p with
     | false=>
      rw[b9H hf];rcases c5 with ⟨rfl,h⟩ | h
      ·refine .inl ⟨rfl,fun q h1 h2 h3=>?_⟩
       by_cases e:q=p
       ·rw[e];exact hf
       ·exact h q (at_p q h1 e) h2 h3
      ·exact .inr h
     | true=>
      have g:=c2M hp hf;rcases c5 with ⟨rfl,h⟩ | ⟨h1,h2⟩
      ·refine .inr ⟨fun cl=>?_,g⟩
       rw[cl p hp hw]at hf;cases hf
      ·exact .inr ⟨h1,by omega⟩
   have a7p:∀ {H6:Hp} {on:Bool} {D':b0r},d9 H5 H6->wnF N Do Sp f p=(Do p||(on && !Sp p))->(∀σ' H',(∃y5 y6 f,σ'=[some (V.ref ra),some (.ref na),some (.ref dd),some (.ref D),some (.int (r:Int)),y5,y6]/\H' D=some (.lst (BL N.length f))/\MoF N Do Sp f/\SnW N Do Sp f/\((f=f0/\∀p,N.length<=p+(j+1)->p<N.length->wnF N Do Sp f0 p=false->f0 p=false)\/(¬ClW N Do Sp f0/\(fls N.length f0).length<(fls N.length f).length))/\d9 H H')->D'.nx σ' H') ->
     F0 (b1X (u9 (a0T K) [] E0 (a9 (tOp qIx (b4 0) (b4 5)) (a9 (b4 2) (d7)))) (a0L (b4 6) (a6F (u9 (T4 K) [] E0 (a9 (tOp qIx (b4 0) (b4 5)) (a9 (b4 2) (d7))))))) (b7X (b4 3) (b4 5) b1g) D' [some (V.ref ra),some (.ref na),some (.ref dd),some (.ref D),some (.int (r:Int)),some (.int (p:Int)),some (.bl on)] H6:=by
    intro H6 on D' s6 hw hR;have s06:=s5.trans s6
    ext
    exists C0 (s06 _ _ hra) ixr ?_;refine a4P (rX.ts (d9.ts s6)) (hd.ts (d9.ts s06)) ?_;rw[a6T rX.2 (d9.ts s6),dX'];refine⟨_,rfl,?_⟩;cases hdo:Do p with
    | true=>
     rw[hdo,a2Y]at hw;refine A2 rfl ?_
     ext
     have:=fin (z:=some (.bl on)) s6 hR;rw[hw]at this;exact this
    | false=>
     rw[hdo,Z9]at hw;refine p8 rfl ?_
     ext
     cases on with
     | false=>
      refine p8 rfl ?_
      ext
      have:=fin (z:=some (.bl false)) s6 hR;rw[hw]at this;exact this
     | true=>
      refine A2 rfl ?_
      ext
      exists C0 (s06 _ _ hra) ixr ?_;refine a1f (rX.ts (d9.ts s6)) (hd.ts (d9.ts s06)) fun H7 s7=>?_
      rw[sX]
      ext
      have:=fin (z:=some (.bl true)) (s6.trans s7) hR;rw[hw,Z8]at this;exact this
   ext
   exact_mod_cast N7 ?_
   ext
   exists C0 f1 f2 ?_;refine F7 (by simp) fun z H6 hz e6 s6=>?_
   refine⟨_,b7Y (s6 _ _ f3) e6 (b8t _) rfl,?_⟩;rw[b0l,K9]
   ext
   by_cases h0:N[p].length=0
   ·rw[d6x h0]
    refine p8 rfl ?_;exact_mod_cast b1d ?_;refine a7p s6 ?_ ?_
    ·unfold wnF
     rw[hg,d6w (by omega)];rfl
    ·exact fun _ _ h=>h
   ·rw[d6w h0]
    refine A2 rfl ?_;obtain⟨us',u',g1,g2,g3,_⟩:=((hn.same s5).same s6).at hl;refine c7x (f:=f) g3 (s6 _ _ e5) (fun t ht=>hv.lt _ (mI hl) t ht) (hv.two _ (mI hl)) rfl (fun R hR=>?_) fun H7 s7=>?_
    ·specialize V3 ?_
     exists C0 g1 g2 ?_;exact hR
    ·exact_mod_cast b1d ?_
     refine a7p (s6.trans s7) ?_ ?_
     ·unfold wnF
      rw[hg,d6x (by omega),Z8]
     ·exact fun _ _ h=>h
 ·rintro _ H3 ⟨y4,y5,y6,f,rfl,e3,m3,n3,c3,s3⟩
  ext
  have cl:ClW N Do Sp f:=c3.resolve_right fun h=>by have:=c7h (n:=N.length) (f:=f);omega
  exact k D f H3 hD0 e3 (fun t _=>c9H cl n3 t) s3
def Z2(N:Nt)(Do Sp fr fw:Nat->Bool)(s:Stp):Bool:=fw (G5 N s)&&(decide (s=FST)||(Sp s.1.toNat||(!fr s.1.toNat&&(!Do s.1.toNat && !(N.getD s.1.toNat []).all fw))))
theorem c2Y{p q:Nat}(h:N[p]? = some l):N.getD p []=l/\p<N.length:=⟨by simp[D6,h],(gI h)⟩
theorem c4K{Sp fr fw fr' fw':Nat->Bool}(hv:S0 N)(is:a0F N s)(h1:∀t,t<N.length->fr t=fr' t)(h2:∀t,t<N.length->fw t=fw' t):Z2 N Do Sp fr fw s=Z2 N Do Sp fr' fw' s:=by
 unfold Z2;rw[h2 _ (a8X hv is)];rcases is with rfl | ⟨p,q,l,t,rfl,e1,e2⟩
 ·rw[d6x rfl];simp
 ·obtain⟨g1,g2⟩:=c2Y (q:=0) e1
  have e:((((p:Int),(q:Int)):Stp).1).toNat=p:=rfl;rw[e,h1 p g2,g1]
  have:l.all fw=l.all fw':=by
   rw[V1,L3,L3];exact⟨fun h x hx=>by rw[<-h2 x (hv.lt l (mI e1) x hx)];exact h x hx,fun h x hx=>by rw[h2 x (hv.lt l (mI e1) x hx)];exact h x hx⟩
  rw[this]
theorem b5g{K:Fg}{Sp:Nat->Bool}{E:XK}(hra:H ra=some (.lst (rs.map V.ref)))(lrs:rs.length=N.length)(hn:F8 H na N)(hv:S0 N)(hd:a0w H dd ds)(sat:a4Q H rs ds Do Sp)
  (k:∀a fr fw H',H a=none->(∀t,t<N.length->(fr t=false↔UnR N Do Sp t))->(∀t,t<N.length->(fw t=false↔UnW N Do Sp t))->WS H' a ((F2 N).filter (Z2 N Do Sp fr fw))->d9 H H'->Q (.ref a) H'):a6J K [.ref ra,.ref na,.ref dd] H Q E:=by
 have h400:=hv.le;refine⟨rfl,?_⟩;unfold b9g
 nofun
 refine c4l hra lrs hn hv hd sat fun aR fr H1 hR e1 r1 s1=>?_
 ext
 nofun
 refine c1R (s1 _ _ hra) lrs (hn.same s1) hv (hd.ts (d9.ts s1)) (sat.ts (d9.ts s1)) fun aW fw H2 hW e2 w2 s2=>?_
 ext
 nofun
 refine F7 (by simp) fun B H3 hB e3 s3=>?_
 have s02:=s1.trans s2;have s03:=s02.trans s3;have hB0:H B=none:=s02.free hB
 ext
 exact_mod_cast N7 ?_;specialize a0g (V3 ?_);refine a8W (hn.same s03) h400 hv.two fun w H4 hw W4 s4=>?_
 obtain⟨ps,w1,w2',w3⟩:=id W4.ex;have nwB:w≠B:=(c9 e3 hw).symm;have lst:=a6G hv.two;refine⟨w,rfl,⟨_,SqL.of w1⟩,a1v (xs:=ps.map V.ref) (fun j σ H5=>∃y6 y7,σ=[some (.ref ra),some (.ref na),some (.ref dd),some (.ref aR),some (.ref aW),some (.ref B),y6,y7]/\WS H5 B (((F2 N).take j).filter (Z2 N Do Sp fr fw))/\H5 w=some (.lst (ps.map V.ref))/\F5 H4 H5/\d9 H2 H5) ⟨_,_,rfl,⟨[],s4 _ _ e3,rfl,fun i p s h=>by cases h⟩,w1,fun _ _ h=>h,s3.trans s4⟩ ?_ ?_ ?_⟩
 ·rintro j σ H5 _ ⟨_,_,_,_,h,_⟩
  exact SqL.of h
 ·rintro j v _ H5 hv' ⟨y6,y7,rfl,W5,w5,t5,s5⟩
  rw[b6]at hv';obtain⟨p,hp,rfl⟩:=A1.mp hv';obtain⟨s,hs⟩:∃s,(F2 N)[j]? = some s:=⟨_,c8 (by rw[<-w2'];exact(gI hp))⟩;have is:=a1O (mI hs);have st5:=t5 _ _ (w3 j p s hp hs);have s05:=s02.trans s5
  have tk:((F2 N).take (j+1)).filter (Z2 N Do Sp fr fw)=((F2 N).take j).filter (Z2 N Do Sp fr fw)++if Z2 N Do Sp fr fw s=true then [s] else []:=by
   rw[F3,hs,Z5];congr 1;simp only[b1I,a5h,a5P]
  have fin:∀ {H6:Hp} {z:Option V} {D':b0r} {bb:Bool},d9 H5 H6->Z2 N Do Sp fr fw s=bb->(∀σ' H',(∃y6 y7,σ'=[some (V.ref ra),some (.ref na),some (.ref dd),some (.ref aR),some (.ref aW),some (.ref B),y6,y7]/\WS H' B (((F2 N).take (j+1)).filter (Z2 N Do Sp fr fw))/\H' w=some (.lst (ps.map V.ref))/\F5 H4 H'/\d9 H2 H')->D'.nx σ' H') ->
    (if bb=true then V7 (tBM K "list" O5 (b4 5) (a9 (b4 6) (d7)))else C9) D' [some (V.ref ra),some (.ref na),some (.ref dd),some (.ref aR),some (.ref aW),some (.ref B),some (.ref p),z] H6:=by
   intro H6 z D' bb s6 hb hR;obtain⟨qs,q1,q2,q3⟩:=(W5.same s6).ex;cases bb with
   | true=>
    rw[if_pos rfl]
    ext
    exact_mod_cast a5S ?_
    ext
    refine⟨.inl ⟨rfl,_,SqL.of q1⟩,?_⟩
    ext
    refine W3 q1 (G8 ?_) ?_
    ·rw[b9,q2]
     have:=M7 (Z2 N Do Sp fr fw) ((F2 N).take j);rw[C5]at this;omega
    ·refine hR _ _ ⟨_,_,rfl,?_,by rw[i8 nwB];exact s6 _ _ w5,fun b ys h=>F5.put q1 _ _ (s6 _ _ (t5 _ _ h)),fun b o e=>by rw[i8 (c9 e hB)];exact s6 _ _ (s5 _ _ e)⟩
     rw[tk,hb,if_pos rfl];exact WS.app q1 q2 q3 (s6 _ _ st5)
   | false=>
    rw[if_neg (by decide)]
    ext
    refine hR _ _ ⟨_,_,rfl,?_,s6 _ _ w5,fun b ys h=>s6 _ _ (t5 _ _ h),s5.trans s6⟩;rw[tk,hb,if_neg (by decide),V0];exact W5.same s6
  ext
  nofun
  exists N8 st5 (Z3 _ _) ?_;refine b5d (hn.same s05) (.inl st5) is ?_;exists C0 (s5 _ _ e2) (b6V (a8X hv is)) ?_;cases hfw:fw (G5 N s)with
  | false=>
   refine p8 rfl ?_;exact fin (bb:=false) (d9.refl _) (by unfold Z2;rw[hfw,b8D]) fun _ _ h=>h
  | true=>
   refine A2 rfl ?_
   ext
   rcases id is with rfl | ⟨x,q,l,t,rfl,h1,h2⟩
   ·refine A2 (by decide) ?_
    refine A2 rfl ?_;exact fin (bb:=true) (d9.refl _) (by unfold Z2;rw[hfw,d6x rfl];rfl) fun _ _ h=>h
   ·obtain⟨hg,hx⟩:=c2Y (q:=0) h1
    obtain⟨rx,hrx⟩:∃rx,rs[x]? = some rx:=⟨_,c8 (by omega)⟩;obtain⟨xs,rX,dX',sX⟩:=sat.ts (d9.ts s05) x rx hrx;have ixr:atI (rs.map V.ref) (x:Int)=some (.ref rx):=P4 (by rw[b6,hrx];rfl)
    have bk:Z2 N Do Sp fr fw ((x:Int),(q:Int))=(Sp x||(!fr x&&(!Do x && !l.all fw))):=by
     unfold Z2;rw[hfw,d6w V5,Z8,Z9];show(_||(!fr ((x:Int)).toNat&&(_ && !(N.getD ((x:Int)).toNat []).all fw)))=_;rw[t6,hg]
    refine p8 (d6w (by show ¬((x:Int)<0);omega)) ?_
    ext
    exists C0 (s05 _ _ hra) ixr ?_;refine a1f rX (hd.ts (d9.ts s05)) fun H6 s6=>?_
    rw[sX]
    ext
    cases hsp:Sp x with
    | true=>
     refine A2 rfl ?_;exact fin (bb:=true) s6 (by rw[bk,hsp,a2Y]) fun _ _ h=>h
    | false=>
    refine p8 rfl ?_
    ext
    exists C0 (s6 _ _ (s5 _ _ (s2 _ _ e1))) (b6V hx) ?_;cases hf:fr x with
    | true=>
     refine p8 rfl ?_;exact fin (bb:=false) s6 (by rw[bk,hsp,hf];rfl) fun _ _ h=>h
    | false=>
    refine A2 rfl ?_
    ext
    exists C0 ((s05.trans s6) _ _ hra) ixr ?_;refine a4P (rX.ts (d9.ts s6)) (hd.ts (d9.ts (s05.trans s6))) ?_;rw[a6T rX.2 (d9.ts s6),dX']
    ext
    cases hdo:Do x with
    | true=>
     refine p8 rfl ?_;exact fin (bb:=false) s6 (by rw[bk,hsp,hf,hdo];rfl) fun _ _ h=>h
    | false=>
    refine A2 rfl ?_;obtain⟨us',u',g1,g2,g3,_⟩:=((hn.same s05).same s6).at h1;exact_mod_cast d0i ?_;exact_mod_cast c8j ?_;refine c7x (f:=fw) g3 (s6 _ _ (s5 _ _ e2)) (fun t ht=>hv.lt _ (mI h1) t ht) (hv.two _ (mI h1)) rfl (fun R hR=>?_) fun H7 s7=>?_
    ·specialize V3 ?_
     exists C0 g1 g2 ?_;exact hR
    ·refine⟨_,rfl,?_⟩
     cases ha:l.all fw with
     | true=>
      refine p8 rfl ?_;exact fin (bb:=false) (s6.trans s7) (by rw[bk,hsp,hf,hdo,ha];rfl) fun _ _ h=>h
     | false=>
      refine A2 rfl ?_;exact fin (bb:=true) (s6.trans s7) (by rw[bk,hsp,hf,hdo,ha];rfl) fun _ _ h=>h
 ·rintro _ H5 ⟨y6,y7,rfl,W5,_,_,s5⟩
  ext
  rw[b9,w2',J5]at W5;exact k B fr fw H5 hB0 r1 w2 W5 (s02.trans s5)
section
variable {K:Fg}{Sp:Nat->Bool}{W r:List Stp}{E:XK}
theorem Fw.on(h:Fw N s r t):On N (G5 N s) r t:=by
 induction h with
 | one _=>exact .nil
 | @cons s s' r t h e1 h2 ih=>
  have is:a0F N s':=by cases h2 <;> assumption
  rcases is with rfl | ⟨p,q,l,u,rfl,h3,h4⟩
  ·have:(-1:Int)=(G5 N s:Int):=e1
   omega
  ·have:(p:Int)=(G5 N s:Int):=e1
   obtain rfl:p=G5 N s:=by omega
   rw[a2t h3 h4]at ih;exact .cons h3 h4 ih
theorem b3j(hn:F8 H na N)(h:On N t W e)(hw:D7 K H w W)(k:Q (.int (e:Int)) H):a5F K [.ref na,.int (t:Int),.ref w] H Q E:=by
 obtain⟨vs,v1,v2,v3⟩:=hw.ex;refine⟨rfl,?_⟩;unfold b6B;exact_mod_cast N7 ?_;specialize a0g (V3 ?_);refine⟨w,rfl,⟨_,SqL.of v1⟩,a1v (xs:=vs.map V.ref) (fun i σ H2=>∃y3 u,σ=[some (.ref na),some (.int ((u:Nat):Int)),some (.ref w),y3]/\On N u (W.drop i) e/\H2=H) ⟨_,t,rfl,h,rfl⟩ ?_ ?_ ?_⟩
 ·rintro i σ H2 _ ⟨_,_,_,_,rfl⟩
  exact SqL.of v1
 ·rintro i v _ _ hv ⟨y3,u,rfl,on,rfl⟩
  rw[b6]at hv;obtain⟨p,hp,rfl⟩:=A1.mp hv;have hi:i<W.length:=by rw[<-v2];exact(gI hp)
  have st:=v3 i p W[i] hp (c8 hi);rw[c0A hi]at on;generalize W[i]=s at on st;cases on with
  | @cons _ q u2 _ l _ h1 h2 h3=>
  have st:_=some (HO.tup [.int (u:Int),.int (q:Int)]):=st.resolve_right fun z=>V5 z.1
  obtain⟨xs,x,f1,f2,f3,_⟩:=hn.at h1
  ext
  nofun
  exists N8 st (Z3 _ _) ?_;refine p8 (by simp) ?_
  ext
  exists N8 st (a5p _ _ _) ?_;refine A2 (d6x (by omega)) ?_
  ext
  exists C0 f1 f2 ?_;exists L9 f3 ?_;rw[K9];refine p8 (by rw[d6x (by have:=(gI h2);omega)];rfl) ?_
  ext
  exists C0 f1 f2 ?_;exists N8 st (a5p _ _ _) ?_;exists C0 f3 (P4 (by unfold IL;rw[b6,h2];rfl)) ?_;exact⟨_,u2,rfl,h3,rfl⟩
 ·rintro _ _ ⟨y3,u,rfl,on,rfl⟩
  rw[b9,v2,List.drop_length]at on;cases on
  ext
  exact k
theorem Fw.pl(h:Fw N FST r t):(FST::r).map (G5 N)=b8k r++[t]:=by
 have:=h.on.beg;have e0:G5 N FST=0:=by unfold G5;rw[if_pos rfl]
 rw[e0]at this;rw[D5,e0];exact this
theorem c6W{b:Bool}{p:Nat}:((b||Do p) && !Sp p)=(if Sp p=true then false else if Do p=true then true else b):=by cases b <;> cases Do p <;> cases Sp p <;> rfl
theorem b9Q(hra:H ra=some (.lst (rs.map V.ref)))(lrs:rs.length=N.length)(hn:F8 H na N)(hv:S0 N)(hd:a0w H dd ds)(sat:a4Q H rs ds Do Sp)(hw:D7 K H w (FST::r))(fw:Fw N FST r t)(l9:r.length<=900)(lie:a8v Do Sp false (b8k r)=false)(hD:Do t=false)(hS:Sp t=false)
  (k:∀H',d9 H H'->Q (.bl true) H'):a7d K [.ref ra,.ref na,.ref dd,.ref w,.int (t:Int)] H Q E:=by
 obtain⟨vs,v1,v2,v3⟩:=id hw.ex
 obtain⟨b0,vs',rfl⟩:∃b0 vs',vs=b0::vs':=by
  cases vs with
  | nil=>simp at v2
  | cons b0 v1'=>exact⟨_,_,rfl⟩
 have e0:G5 N FST=0:=by unfold G5;rw[if_pos rfl]
 have on:=fw.on;rw[e0]at on
 have is1:∀s∈FST::r,a0F N s:=fun s hs=>by
  rcases u6.mp hs with rfl | hs
  ·exact .inl rfl
  ·exact on.isStep s hs
 refine⟨rfl,?_⟩;unfold b6w
 nofun
 refine a7c (E:=E0) hw ?_
 ext
 refine p8 rfl ?_
 ext
 exists L9 v1 ?_;refine p8 (d6w (by rw[b9,z9];intro z;have:=V.int.inj z;omega)) ?_
 ext
 exists C0 v1 (Z3 _ _) ?_;refine F7 (by simp) fun y H4 hy e4 s4=>?_
 have st:L7 K H4 b0 FST:=(v3 0 b0 FST rfl rfl).ts (d9.ts s4);refine⟨_,_,_,_,rfl,rfl,st.sq,SqT.of e4,rfl,rfl,?_⟩;rw[eq2]
 ext
 refine p8 (by decide) ?_
 ext
 nofun
 refine c6e (s4 _ _ v1) fun w2 H5 hw2 e5 s5=>?_
 rw[d0v,D5,List.drop_one,List.tail_cons]at e5;have s45:=s4.trans s5
 ext
 refine b3j (E:=E0) (t:=0) (hn.same s45) on ⟨vs',e5,by simpa using v2,fun i x s e1 e2=>(v3 (i+1) x s (by simpa using e1) (by simpa using e2)).ts (d9.ts s45)⟩ ?_
 ext
 refine p8 (by simp) ?_
 ext
 nofun
 exact_mod_cast N7 ?_;specialize a0g (V3 ?_);refine b5e (E:=E0) (hn.same s45) (hw.same s45) is1 (by simp;omega) fun D H6 hD6 e6 s6=>?_
 have s06:=s45.trans s6;rw[fw.pl]at e6;obtain⟨L,hL⟩:∃L,L=b8k r++[t]:=⟨_,rfl⟩
 have ltL:∀p∈L,p<N.length:=fun p hp=>by
  rw[hL,<-fw.pl]at hp;obtain⟨s,hs,rfl⟩:=A8.mp hp;exact a8X hv (is1 s hs)
 have lieL:a8v Do Sp false L=false:=by
  rw[hL,b5f,lie];show(if Sp t=true then false else if Do t=true then true else false)=false;rw[hS,hD];rfl
 rw[<-hL]at e6;refine⟨D,rfl,⟨_,SqL.of e6⟩,a1v (xs:=IL L) (fun i σ H7=>∃y6,σ=[some (.ref ra),some (.ref na),some (.ref dd),some (.ref w),some (.int (t:Int)),some (.bl (a8v Do Sp false (L.take i))),y6]/\d9 H6 H7) ⟨_,rfl,d9.refl _⟩ ?_ ?_ ?_⟩
 ·rintro i σ H7 _ ⟨_,_,s7⟩
  exact SqL.of (s7 _ _ e6)
 ·rintro i v _ H7 hv' ⟨y6,rfl,s7⟩
  unfold IL at hv';rw[b6]at hv';obtain⟨p,hp,rfl⟩:=A1.mp hv';have hpl:=ltL p (mI hp);have s07:=s06.trans s7;obtain⟨rx,hrx⟩:∃rx,rs[p]? = some rx:=⟨_,c8 (by omega)⟩;obtain⟨xs,rX,dX',sX⟩:=sat.ts (d9.ts s07) p rx hrx;have ixr:atI (rs.map V.ref) (p:Int)=some (.ref rx):=P4 (by rw[b6,hrx];rfl)
  have tk:a8v Do Sp false (L.take (i+1))=((a8v Do Sp false (L.take i)||Do p) && !Sp p):=by
   rw[F3,hp,b1I,b5f,c6W];rfl
  have two:∀ {b z5:Bool} {Q':VK},(∀H8,d9 H7 H8->Q' (.bl (b && !Sp p)) H8)->(if b=true then (a6F (u9 (T4 K) [] E0 (a9 (tOp qIx (b4 0) (b4 6)) (a9 (b4 2) (d7)))) [some (V.ref ra),some (.ref na),some (.ref dd),some (.ref w),some (.int (t:Int)),some (.bl z5),some (.int (p:Int))] H7 Q')else Q' (.bl false) H7):=by
   intro b z5 Q' hk;cases b with
   | false=>exact p8 rfl (hk H7 (d9.refl _))
   | true=>
    refine A2 rfl ?_
    ext
    exists C0 (s07 _ _ hra) ixr ?_;refine a1f (E:=E0) rX (hd.ts (d9.ts s07)) fun H8 s8=>?_
    rw[sX];refine⟨_,rfl,?_⟩;have:=hk H8 s8
    rwa [Z8]at this
  ext
  cases hb:a8v Do Sp false (L.take i)with
  | true=>
   refine A2 rfl ?_;refine⟨_,rfl,?_⟩;refine two (b:=true) fun H8 s8=>?_
   ext
   refine⟨some (.int (p:Int)),?_,s7.trans s8⟩;rw[tk,hb];rfl
  | false=>
   refine p8 rfl ?_
   ext
   exists C0 (s07 _ _ hra) ixr ?_;refine a4P (E:=E0) rX (hd.ts (d9.ts s07)) ?_;rw[dX'];refine⟨_,rfl,?_⟩;refine two (b:=Do p) fun H8 s8=>?_
   ext
   refine⟨some (.int (p:Int)),?_,s7.trans s8⟩;rw[tk,hb];rfl
 ·rintro _ H7 ⟨y6,rfl,s7⟩
  rw[K9,J5,lieL]
  ext
  exact k H7 (s06.trans s7)
def b3f(Do Sp:Nat->Bool):List Nat->Bool
 | []=>true
 | p::ps=>if Do p=true then false else if Sp p=true then true else b3f Do Sp ps
theorem c8c{A B:List Nat}(h:∀p∈A,Do p=false)(he:Do e=false)(hs:Sp e=true\/B=[]):b3f Do Sp (A++e::B)=true:=by
 induction A with
 | nil=>
  show(if Do e=true then false else if Sp e=true then true else b3f Do Sp B)=true;rw[he,if_neg (by decide)];rcases hs with hs | rfl
  ·rw[if_pos hs]
  ·split <;> rfl
 | cons a A ih=>
  show(if Do a=true then false else if Sp a=true then true else b3f Do Sp (A++e::B))=true;rw[h a J8,if_neg (by decide),ih fun p hp=>h p (E9 _ hp)];split <;> rfl
theorem b7P(hra:H ra=some (.lst (rs.map V.ref)))(lrs:rs.length=N.length)(hn:F8 H na N)(hv:S0 N)(hd:a0w H dd ds)(sat:a4Q H rs ds Do Sp)(hw:D7 K H w W)(on:On N t W e)(ht:t<N.length)(he:N[e]? = some [])(hne:W≠[])(l9:W.length<=2000)(sc:b3f Do Sp (W.map (G5 N))=true)
  (k:∀H',d9 H H'->Q (.bl true) H'):a6a K [.ref ra,.ref na,.ref dd,.ref w,.int (t:Int)] H Q E:=by
 obtain⟨vs,v1,v2,v3⟩:=id hw.ex;refine⟨rfl,?_⟩;unfold b4l
 nofun
 refine a7c (E:=E0) hw ?_
 ext
 refine p8 rfl ?_
 ext
 nofun
 refine b3j (E:=E0) hn on hw ?_
 ext
 nofun
 refine p8 (d6w (by omega)) ?_;obtain⟨xs,x,f1,f2,f3,_⟩:=hn.at he
 ext
 exists C0 f1 f2 ?_;refine F7 (by simp) fun z H1 hz e1 s1=>?_
 refine⟨_,b7Y (s1 _ _ f3) e1 (b8t _) rfl,?_⟩;rw[b0l,K9]
 ext
 refine p8 rfl ?_
 ext
 exists L9 (s1 _ _ v1) ?_;refine p8 (d6w ?_) ?_
 ·rw[b9,v2]
  intro z;exact hne (a7Y.mp (by have:=V.int.inj z;omega))
 ext
 refine p8 rfl ?_
 ext
 exact_mod_cast N7 ?_;specialize a0g (V3 ?_);refine b5e (E:=E0) (hn.same s1) (hw.same s1) on.isStep l9 fun D H6 hD6 e6 s6=>?_
 have s06:=s1.trans s6
 have ltL:∀p∈W.map (G5 N),p<N.length:=fun p hp=>by
  obtain⟨s,hs,rfl⟩:=A8.mp hp;exact a8X hv (on.isStep s hs)
 generalize W.map (G5 N)=L at e6 sc ltL;refine⟨D,rfl,⟨_,SqL.of e6⟩,a1v (xs:=IL L) (fun i σ H7=>∃y6,σ=[some (.ref ra),some (.ref na),some (.ref dd),some (.ref w),some (.int (t:Int)),some (.int (e:Int)),y6]/\b3f Do Sp (L.drop i)=true/\d9 H6 H7) ⟨_,rfl,sc,d9.refl _⟩ ?_ ?_ ?_⟩
 ·rintro i σ H7 _ ⟨_,_,_,s7⟩
  exact SqL.of (s7 _ _ e6)
 ·rintro i v _ H7 hv' ⟨y6,rfl,sc7,s7⟩
  unfold IL at hv';rw[b6]at hv';obtain⟨p,hp,rfl⟩:=A1.mp hv';obtain⟨hi,hpi⟩:=k8.mp hp;have hpl:=ltL p (mI hp);have s07:=s06.trans s7;obtain⟨rx,hrx⟩:∃rx,rs[p]? = some rx:=⟨_,c8 (by omega)⟩;obtain⟨xs,rX,dX',sX⟩:=sat.ts (d9.ts s07) p rx hrx;have ixr:atI (rs.map V.ref) (p:Int)=some (.ref rx):=P4 (by rw[b6,hrx];rfl);rw[c0A hi,hpi]at sc7;have sc7:(if Do p=true then false else if Sp p=true then true else b3f Do Sp (L.drop (i+1)))=true:=sc7
  have hdo:Do p=false:=by
   cases h:Do p with
   | false=>rfl
   | true=>rw[h,if_pos rfl]at sc7;cases sc7
  rw[hdo,if_neg (by decide)]at sc7
  ext
  nofun
  exists C0 (s07 _ _ hra) ixr ?_;refine a4P (E:=E0) rX (hd.ts (d9.ts s07)) ?_;rw[dX',hdo]
  ext
  refine p8 rfl ?_
  ext
  exists C0 (s07 _ _ hra) ixr ?_;refine a1f (E:=E0) rX (hd.ts (d9.ts s07)) fun H8 s8=>?_
  rw[sX]
  ext
  cases hsp:Sp p with
  | true=>
   refine A2 rfl ?_
   ext
   exact k H8 (s07.trans s8)
  | false=>
   rw[hsp,if_neg (by decide)]at sc7;refine p8 rfl ?_
   ext
   exact⟨_,rfl,sc7,s7.trans s8⟩
 ·rintro _ H7 ⟨y6,rfl,_,s7⟩
  ext
  exact k H7 (s06.trans s7)
end
theorem b6d{K:Fg}{x:Addr}{E:XK}(ck:a1h K c)(hp:a1H K c H x N)(hv:S0 N)(k:∀a H',H a=none->D7 K H' a (F2 N)->d9 H H'->Q (.ref a) H'):a4t K c [.ref x] H Q E:=by
 obtain⟨dx,r,n,e,es,h1,h2,h3,h4⟩:=hp.ex;refine⟨rfl,?_⟩;unfold b0P
 ext
 specialize R0 ?_;exists ⟨x,_,dx,_,_,rfl,h1,ck.O4,ck.Q3,rfl,?_⟩;exact b3c ck h3 hv.le hv.two k
theorem c5K(N:Nt):(F2 N).Nodup:=by
 have key:∀i,(a3a N i).Nodup/\∀s∈a3a N i,s.1<(i:Int):=by
  intro i;induction i with
  | zero=>exact⟨by simp[a3a],fun s hs=>by simp[a3a]at hs;rw[hs];decide⟩
  | succ i ih=>
   rw[a4I]
   have on:∀s∈a2T N i,s.1=(i:Int):=fun s hs=>by
    unfold a2T at hs;obtain⟨q,_,rfl⟩:=A8.mp hs;rfl
   refine⟨a0q.mpr ⟨ih.1,?_,fun a ha b hb e=>?_⟩,fun s hs=>?_⟩
   ·unfold a2T
    exact a1J _ (fun a b h e=>h (by have:=congrArg Prod.snd e;have:(a:Int)=(b:Int):=this;omega)) a7X
   ·have h1:=ih.2 a ha
    have h2:=on b hb;rw[e]at h1;omega
   ·rcases z8.mp hs with h | h
    ·have:=ih.2 s h;omega
    ·rw[on s h];omega
 exact(key N.length).1
theorem CbK.move{K:Fg}{Sp:Nat->Bool}{S:List Nat}(h:CbK K H d N Do Sp S kvs)(t:F5 H H')(hd:H' d=some (.dK kvs)):CbK K H' d N Do Sp S kvs:=
 ⟨hd,h.nd,h.lt,h.len,h.z,fun i u e=>let⟨a,s,q1,q2,q3⟩:=h.at_ i u e; ⟨a,s,q1,q2.ts t,q3⟩⟩
theorem Rdy.kept{K:Fg}{k' x:Addr}{Sp:Nat->Bool}{S:List Nat}(h:Rdy K c H rx x dd N rs ds Do Sp S)(hB:Bag H b k')(k:J3 b H H')(pr:a5g c H' x N rs):Rdy K c H' rx x dd N rs ds Do Sp S:=by
 obtain⟨bs,hb⟩:=hB.lst;obtain⟨dx,d,kvs,h1,h2⟩:=h.ex;have t:=k.ts hB;exact⟨⟨dx,d,kvs,k.1 _ _ h1 (O3 h1 hb (by intro z;cases z)),h2.move t (k.1 _ _ h2.hd (O3 h2.hd hb (by intro z;cases z)))⟩,pr,h.deed.ts t,h.sat.ts t,h.shut⟩
def stK(s:Stp):List Key:=[Sum.inl s.1,Sum.inl s.2]
theorem c2w{t:Stp}(h:stK s=stK t):s=t:=by
 unfold stK at h;have h1:=Sum.inl.inj (List.cons.inj h).1;have h2:=Sum.inl.inj (List.cons.inj (List.cons.inj h).2).1;exact Prod.ext h1 h2
structure XD(K:Fg)(H:Hp)(d:Addr)(L:List Stp):Prop where
 ex:∃xs:List XE,H d=some (dX d xs)/\xs.length=L.length/\∀(i:Nat) x s,xs[i]? = some x->L[i]? = some s->x.1=stK s/\L7 K H x.2.1 s
section
variable {K:Fg}{b':Addr}{L:List Stp}{xs:List XE}
theorem XD.move(h:XD K H d L)(t:F5 H H')(k:∀xs,H d=some (dX d xs)->H' d=some (dX d xs)):XD K H' d L:=by
 obtain⟨xs,h1,h2,h3⟩:=h.ex;exact⟨xs,k _ h1,h2,fun i x s e1 e2=>⟨(h3 i x s e1 e2).1,(h3 i x s e1 e2).2.ts t⟩⟩
theorem XD.same(h:XD K H d L)(s:d9 H H'):XD K H' d L:=h.move (d9.ts s) fun _ e=>s _ _ e
theorem XD.kept(h:XD K H d L)(hB:Bag H b b')(k:J3 b H H'):XD K H' d L:=by
 obtain⟨ys,hb⟩:=hB.lst;exact h.move (k.ts hB) fun _ e=>k.1 _ _ e (O3 e hb (by intro z;cases z))
theorem b3F(hl:xs.length=L.length)(h:∀(i:Nat) x s,xs[i]? = some x->L[i]? = some s->x.1=stK s/\L7 K H x.2.1 s):xs.map (·.1)=L.map stK/\c0y K H xs:=by
 constructor
 ·apply a0s
  intro i;rw[b6,b6];cases e:xs[i]? with
  | none=>rw[G7.mpr (by rw[<-hl];exact G7.mp e)];rfl
  | some x=>
   have hi:=(gI e);have e2:L[i]? = some (L[i]'(by omega)):=by simp
   rw[e2];exact congrArg some (h i x _ e e2).1
 ·intro x hx
  obtain⟨i,hi⟩:=i9.mp hx;have hi':=(gI hi);have e2:L[i]? = some (L[i]'(by omega)):=by simp
  obtain⟨q1,q2⟩:=h i x _ hi e2;rw[q1];exact q2.sq
theorem c7V(h:xs.map (·.1)=L.map stK)(s:Stp):(c0J xs (stK s)).isSome=decide (s∈L):=by
 unfold c0J;rw[a4a,V1,List.find?_isSome,decide_eq_true_iff];constructor
 ·rintro⟨x,hx,e⟩
  have e:=of_decide_eq_true e;have:x.1∈L.map stK:=h ▸ A8.mpr ⟨x,hx,rfl⟩;obtain⟨t,ht,et⟩:=A8.mp this;rw[e]at et;rw[<-c2w et];exact ht
 ·intro hs
  have:stK s∈xs.map (·.1):=h ▸ A8.mpr ⟨s,hs,rfl⟩;obtain⟨x,hx,e⟩:=A8.mp this;exact⟨x,hx,d6x e⟩
theorem XD.list(h:XD K H d L)(k:∀l H',H l=none->D7 K H' l L->d9 H H'->Q (.ref l) H'):b7F K [.ref d] H Q:=by
 obtain⟨xs,h1,h2,h3⟩:=h.ex;refine⟨d,xs,rfl,h1,(b3F h2 h3).2,fun l hl=>?_⟩;refine k l _ hl ⟨xs.map (·.2.1),?_,by rw[b9,h2],fun i a s e1 e2=>?_⟩ (A9 hl)
 ·rw[d8,S9];rfl
 ·rw[b6]at e1
  obtain⟨x,hx,rfl⟩:=A1.mp e1;exact(h3 i x s hx e2).2.ts (F5.new hl)
theorem XD.in_{neg:Bool}(h:XD K H d L)(ha:L7 K H a s)(hi:∀R:VK,R (.ref a) H->ti σ H R)(ho:∀R:VK,R (.ref d) H->to σ H R)(k:Q (.bl (if neg then !decide (s∈L)else decide (s∈L))) H):c7W K neg ti to σ H Q:=by
 obtain⟨xs,h1,h2,h3⟩:=h.ex;refine hi _ (ho _ ⟨d,a,xs,stK s,rfl,rfl,h1,(b3F h2 h3).2,ha.sq,?_⟩);rw[c7V (b3F h2 h3).1];exact k
end
abbrev b2M(x dd rx wx:Addr)(t:List (Str×V)):List (Str×V):=("plan",.ref x)::("deed",.ref dd)::("ready",.ref rx)::("wanted",.ref wx)::t
theorem a6h{x:Addr}{t:List (Str×V)}{m:Str}(ht:t=[]\/t=([("found",.ref d)]:List (Str×V)))(h:m∉(["plan","deed","ready","wanted","found"]:List Str)):(b2M x dd rx wx t).lookup m=none:=by
 have h1:m≠("plan" : Str):=fun e=>h (by rw[e];simp)
 have h2:m≠("deed" : Str):=fun e=>h (by rw[e];simp)
 have h3:m≠("ready" : Str):=fun e=>h (by rw[e];simp)
 have h4:m≠("wanted" : Str):=fun e=>h (by rw[e];simp)
 have h5:m≠("found" : Str):=fun e=>h (by rw[e];simp)
 rcases ht with rfl | rfl <;> simp[a2F,beq_eq_false_iff_ne.mpr h1,beq_eq_false_iff_ne.mpr h2,beq_eq_false_iff_ne.mpr h3,beq_eq_false_iff_ne.mpr h4,beq_eq_false_iff_ne.mpr h5]
section
variable {K:Fg}{x:Addr}{Sp:Nat->Bool}{p q:Nat}{t:List (Str×V)}{E:XK}
theorem a7O(ck:a1h K c)(hx:H bx=some (.ins c.C4 dx (b2M x dd rx wx t)))(hp:a5g c H x N rs)(hd:a0w H dd ds)(sat:a4Q H rs ds Do Sp)(ha:L7 K H a ((p:Int),(q:Int)))(hl:p<N.length)(k:∀H',d9 H H'->Q (.bl (Sp p)) H'):O1 K [.ref bx,.ref a] H Q E:=by
 obtain⟨dx',fs,n,r,hx',hfn,hn,hfr,hr,lr⟩:=hp.ex;obtain⟨ax,hax⟩:∃ax,rs[p]? = some ax:=⟨_,c8 (by omega)⟩;obtain⟨xs,x1,x2,x3⟩:=sat p ax hax;have ha:=ha.resolve_right fun z=>V5 z.1
 refine⟨rfl,?_⟩;unfold a2L
 ext
 exact_mod_cast R0 ?_;specialize R0 ?_;refine⟨bx,_,dx,_,_,rfl,hx,ck.L5,ck.a2m,rfl,?_⟩;exists ⟨x,_,dx',fs,_,rfl,hx',ck.O4,ck.Z0,hfr,?_⟩;exists N8 ha (Z3 _ _) ?_;exists C0 hr (P4 (by rw[b6,hax];rfl)) ?_;specialize R0 ?_;exists ⟨bx,_,dx,_,_,rfl,hx,ck.L5,ck.a3V,rfl,?_⟩;refine a6H x1 hd fun H1 s1=>?_
 rw[x3];exact k H1 s1
abbrev frS(S:List Nat):Nat->Bool:=fun t => !decide (t∈S)
theorem b9V(ck:a1h K c)(hx:H bx=some (.ins c.C4 dx (b2M x dd rx wx t)))(ht:t=[]\/t=([("found",.ref d)]:List (Str×V)))(hR:Rdy K c H rx x dd N rs ds Do Sp Sr)(hW:Wnt K c H wx x N Do Sp Sw)(hv:S0 N)(ha:L7 K H a s)(is:a0F N s)(k:∀H',d9 H H'->Q (.bl (Z2 N Do Sp (frS Sr) (frS Sw) s)) H'):a1B K c [.ref bx,.ref a] H Q E:=by
 obtain⟨dr,rd,kr,r1,_⟩:=id hR.ex;obtain⟨dw,wd,kw,w1,_⟩:=id hW.ex;refine⟨rfl,?_⟩;unfold a5Y
 nofun
 exact_mod_cast V2 ?_;specialize R0 ?_;refine⟨bx,_,dx,_,_,rfl,hx,ck.L5,ck.Y7,rfl,?_⟩;exists ⟨wx,dw,_,rfl,w1,a7z _ _ _ (by decide),?_⟩;refine b7i ck hW ha is ?_
 ext
 unfold Z2 at k;by_cases hlw:G5 N s∈Sw
 ·rw[d6x hlw]
  refine A2 rfl ?_;refine A2 rfl ?_
  ext
  have:=k H (d9.refl _);rw[show frS Sw (G5 N s)=false by show(!decide _)=false;rw[d6x hlw];rfl,b8D]at this;exact this
 rw[show frS Sw (G5 N s)=true by show(!decide _)=true;rw[d6w hlw];rfl]at k;simp only[Z8]at k;rw[d6w hlw];refine p8 rfl ?_
 ext
 exact_mod_cast V2 ?_;specialize R0 ?_;refine⟨bx,_,dx,_,_,rfl,hx,ck.L5,ck.a1M,rfl,?_⟩;exists ⟨rx,dr,_,rfl,r1,rfl,?_⟩;refine b9r ck hR ha is fun H1 s1=>?_
 ext
 rcases is with rfl | ⟨p,q,l,u,rfl,h1,h2⟩
 ·have e:onF Do Sp Sr FST=false:=by unfold onF;rw[d6x rfl];rfl
  rw[e];refine p8 rfl ?_
  ext
  refine⟨_,_,_,_,rfl,rfl,(ha.ts (d9.ts s1)).sq,ck.Q6 H1,rfl,rfl,?_⟩;rw[eq2];refine⟨_,rfl,A2 (by decide) ?_⟩;exact k H1 s1
 ·obtain⟨hg,hpl⟩:=c2Y (q:=0) h1
  have hf:decide ((((p:Int),(q:Int)):Stp)=FST)=false:=d6w V5
  have k':∀H',d9 H H'->Q (.bl (Sp p||(!frS Sr p&&(!Do p && !l.all (frS Sw))))) H':=fun H' s'=>by
   have:=k H' s';rw[hf,Z9]at this;have e:((((p:Int),(q:Int)):Stp).1).toNat=p:=rfl;rw[e,hg]at this;exact this
  have e:onF Do Sp Sr ((p:Int),(q:Int))=beh Do Sp Sr p:=by unfold onF;rw[hf];rfl
  rw[e]
  have tail:Sp p=true\/(Sp p=false/\frS Sr p=false/\Do p=false)->(b1X (tOp (b9u K) (b4 1) (tC (.ref c.I0))) (b1X (V9 c.C4 "is_spoilt_ahead" (O1 K) [] E0 (b4 0) (a9 (b4 1) (d7))) (a6F (V9 c.O0 "wanted_behind" (U7 K c) [] E0 (Z6 K (b4 0) "wanted") (a9 (tOp qIx (b4 1) (tC (.int 0))) (d7)))))) [some (V.ref bx),some (.ref a)] H1 Q:=by
   intro hcase;have ha1:=ha.ts (d9.ts s1)
   ext
   refine⟨_,_,_,_,rfl,rfl,ha1.sq,ck.Q6 H1,rfl,rfl,?_⟩;rw[eq2];refine⟨_,rfl,p8 hf ?_⟩
   ext
   specialize V2 ?_;exists ⟨bx,dx,_,rfl,s1 _ _ hx,a6h ht (by decide),?_⟩;refine a7O ck (s1 _ _ hx) (hR.plan.same s1) (hR.deed.ts (d9.ts s1)) (hR.sat.ts (d9.ts s1)) ha1 hpl fun H2 s2=>?_
   have s12:=s1.trans s2;refine⟨_,rfl,?_⟩;rcases hcase with hs | ⟨hs,hr,hdo⟩
   ·rw[hs]
    refine A2 rfl ?_;have:=k' H2 s12;rw[hs,a2Y]at this;exact this
   ·rw[hs]
    refine p8 rfl ?_
    ext
    exact_mod_cast V2 ?_;specialize R0 ?_;refine⟨bx,_,dx,_,_,rfl,s12 _ _ hx,ck.L5,ck.Y7,rfl,?_⟩;exists ⟨wx,dw,_,rfl,s12 _ _ w1,a7z _ _ _ (by decide),?_⟩;exists N8 ((ha1.ts (d9.ts s2)).resolve_right fun z=>V5 z.1) (Z3 _ _) ?_;refine b1S ck (hW.same s12) hv hpl fun H3 s3=>?_
    refine⟨_,rfl,?_⟩;have:=k' H3 (s12.trans s3);rw[hs,hr,hdo]at this;unfold d2C;rw[hg,d6x (a4z (mI h2)),Z8];exact this
  cases hs:Sp p with
  | true=>
   rw[show beh Do Sp Sr p=false by unfold beh;rw[hs,if_pos rfl]];refine p8 rfl ?_;exact_mod_cast a9Q ?_;exact_mod_cast c5U ?_;exact tail (.inl hs)
  | false=>
   have hb:beh Do Sp Sr p=(Do p||frS Sr p):=by unfold beh;rw[hs];rfl
   rw[hb];cases hdo:Do p with
   | true=>
    refine A2 rfl ?_
    ext
    have:=k' H1 s1;rw[hs,hdo]at this;simpa using this
   | false=>
    cases hr:frS Sr p with
    | true=>
     refine A2 rfl ?_
     ext
     have:=k' H1 s1;rw[hs,hr]at this;exact this
    | false=>
     refine p8 rfl ?_;exact_mod_cast a9Q ?_;exact_mod_cast c5U ?_;exact tail (.inr ⟨hs,hr,hdo⟩)
end
structure Brk(K:Fg)(c:Cn)(H:Hp)(bx x dd:Addr)(N:Nt)(rs:List Addr)(ds:List V)(Do Sp:Nat->Bool)(Sr Sw:List Nat)(gr:Nat->Stp)(gw:Nat->Option Stp):Prop where
 ex:∃dx rx wx d,H bx=some (.ins c.C4 dx (b2M x dd rx wx [("found",.ref d)]))/\b8q K c H rx x dd N rs ds Do Sp Sr gr/\Wnt K c H wx x N Do Sp Sw/\c4N K c H wx x N Do Sp Sw gw/\XD K H d ((F2 N).filter (Z2 N Do Sp (frS Sr) (frS Sw)))
section
variable {K:Fg}{x b':Addr}{Sp:Nat->Bool}{p q:Nat}{E:XK}
theorem Brk.same(h:Brk K c H bx x dd N rs ds Do Sp Sr Sw gr gw)(s:d9 H H'):Brk K c H' bx x dd N rs ds Do Sp Sr Sw gr gw:=by
 obtain⟨dx,rx,wx,d,h1,h2,h3,h4,h5⟩:=h.ex;exact⟨dx,rx,wx,d,s _ _ h1,h2.same s,h3.same s,h4.same s,h5.same s⟩
theorem FD.move(h:FD K H d N Do Sp Sw kvs gw)(t:F5 H H')(hd:H' d=some (.dK kvs)):FD K H' d N Do Sp Sw kvs gw:=by
 refine⟨h.gb.move t hd,fun i u e=>?_⟩;obtain⟨v,q1,q2⟩:=h.at_ i u e;refine⟨v,q1,?_⟩;rcases q2 with q2 | ⟨a,q,l,u,j,z1,z2,z3,z4⟩
 ·exact .inl q2
 ·exact .inr ⟨a,q,l,u,j,z1,z2,z3.ts t,z4⟩
theorem Brk.kept(h:Brk K c H bx x dd N rs ds Do Sp Sr Sw gr gw)(hB:Bag H b b')(k:J3 b H H')(hr:a5g c H' x N rs)(hz:a1H K c H' x N):Brk K c H' bx x dd N rs ds Do Sp Sr Sw gr gw:=by
 obtain⟨dx,rx,wx,d,h1,h2,h3,⟨dw,wd,kw,w1,w2⟩,h5⟩:=h.ex;obtain⟨bs,hb⟩:=hB.lst;have t:=k.ts hB;have ni:∀ {a:Addr} {o:HO},(∀ys,o≠HO.lst ys)->H a=some o->H' a=some o:=fun {a o} n e=>k.1 a o e fun z=>n bs (by rw[z,hb]at e;exact(Option.some.inj e).symm)
 obtain⟨dr,rd,kr,r1,r2,r3⟩:=h2.ex
 exact⟨dx,rx,wx,d,ni (fun _ z=>by cases z) h1,⟨⟨dr,rd,kr,ni (fun _ z=>by cases z) r1,r2.move t (ni (fun _ z=>by cases z) r2.hd),fun i u e=>let⟨a,q1,q2,q3⟩:=r3 i u e; ⟨a,q1,q2.ts t,q3⟩⟩,h2.rdy.kept hB k hr⟩,
  h3.kept hB k hz,⟨dw,wd,kw,ni (fun _ z=>by cases z) w1,w2.move t (ni (fun _ z=>by cases z) w2.gb.hd)⟩,h5.kept hB k⟩
theorem b5B(ck:a1h K c)(hp:a5g c H x N rs)(hq:a9G c H x N rs)(hz:a1H K c H x N)(hv:S0 N)(hd:a0w H dd ds)(hs:a4Q H rs ds Do Sp)(hbx:H bx=none)(hdx:H dx=none)
  (k:∀H' Sr Sw gr gw,Brk K c H' bx x dd N rs ds Do Sp Sr Sw gr gw->d9 H H'->Q .non H'):a0D K c [.ref bx,.ref x,.ref dd] (upd (upd H dx (.own bx)) bx (.ins c.C4 dx [])) Q E:=by
 refine⟨rfl,?_⟩;unfold a9A;exact_mod_cast N7 ?_;specialize a4h ?_;refine⟨bx,_,dx,[],rfl,d8,ck.L5,ck.a2m,by simp,?_⟩;exact_mod_cast N7 ?_;specialize a4h ?_;refine⟨bx,_,dx,_,rfl,d8,ck.L5,ck.a3V,by simp[X7],?_⟩;obtain⟨H3,hH3⟩:∃H3,H3=upd (upd (upd (upd H dx (.own bx)) bx (.ins c.C4 dx [])) bx (.ins c.C4 dx (X7 "plan" (.ref x) []))) bx (.ins c.C4 dx (X7 "deed" (.ref dd) (X7 "plan" (.ref x) []))):=⟨_,rfl⟩;rw[<-hH3];have x3:H3 bx=some (.ins c.C4 dx (X7 "deed" (.ref dd) (X7 "plan" (.ref x) []))):=hH3 ▸ d8
 have s3:d9 H H3:=fun b o e=>by
  have n1:=c9 e hbx;rw[hH3,i8 n1,i8 n1,i8 n1,i8 (c9 e hdx)];exact e
 have put:∀ {H':Hp} {o:HO},d9 H H'->d9 H (upd H' bx o):=fun s' b o e=>by rw[i8 (c9 e hbx)];exact s' _ _ e
 exact_mod_cast N7 ?_;exact_mod_cast a4h ?_;refine c1P ck (hp.same s3) hv (hd.ts (d9.ts s3)) (hs.ts (d9.ts s3)) rfl rfl fun rx H4 Sr hrx R4 s4=>?_
 have x4:=s4 _ _ x3;have s04:=s3.trans s4;have nrx:rx≠bx:=(c9 x3 hrx).symm
 ext
 exists ⟨bx,_,dx,_,rfl,x4,ck.L5,ck.a1M,(by show(2:Nat)<1000;decide),?_⟩
 have rput:∀ {H':Hp} {fs:List (Str×V)} {o:HO},H' bx=some (.ins c.C4 dx fs)->d9 H H'->Rdy K c H' rx x dd N rs ds Do Sp Sr->Rdy K c (upd H' bx o) rx x dd N rs ds Do Sp Sr:=by
  intro H' fs o e s' R;obtain⟨dr,rd,kr,r1,r2⟩:=R.ex;have t:=F5.ins (o:=o) e;exact⟨⟨dr,rd,kr,by rw[i8 nrx];exact r1,r2.move t (by rw[i8 (O3 r2.hd e (by intro z;cases z))];exact r2.hd)⟩,hp.same (put s'),R.deed.ts t,R.sat.ts t,R.shut⟩
 have R5:=rput (o:=.ins c.C4 dx (X7 "ready" (.ref rx) (X7 "deed" (.ref dd) (X7 "plan" (.ref x) [])))) x4 s04 R4;obtain⟨H5,hH5⟩:∃H5,H5=upd H4 bx (.ins c.C4 dx (X7 "ready" (.ref rx) (X7 "deed" (.ref dd) (X7 "plan" (.ref x) [])))):=⟨_,rfl⟩;have s05:d9 H H5:=hH5 ▸ put s04;have x5:H5 bx=some (.ins c.C4 dx (X7 "ready" (.ref rx) (X7 "deed" (.ref dd) (X7 "plan" (.ref x) [])))):=hH5 ▸ d8;rw[<-hH5]at R5 ⊢;exact_mod_cast N7 ?_;exact_mod_cast a4h ?_;refine b9P ck (hq.same s05) (hz.same s05) hv (hd.ts (d9.ts s05)) (hs.ts (d9.ts s05)) rfl rfl fun wx H6 Sw hwx W6 s6=>?_
 have x6:=s6 _ _ x5;have s06:=s05.trans s6;have nwx:wx≠bx:=(c9 x5 hwx).symm
 ext
 exists ⟨bx,_,dx,_,rfl,x6,ck.L5,ck.Y7,(by show(3:Nat)<1000;decide),?_⟩
 have wput:∀ {H':Hp} {fs:List (Str×V)} {o:HO},H' bx=some (.ins c.C4 dx fs)->d9 H H'->Wnt K c H' wx x N Do Sp Sw->Wnt K c (upd H' bx o) wx x N Do Sp Sw:=by
  intro H' fs o e s' W;obtain⟨dw,wd,kw,w1,w2⟩:=W.ex;exact⟨⟨dw,wd,kw,by rw[i8 nwx];exact w1,w2.ins e⟩,hz.same (put s'),W.shut⟩
 have R7:=rput (o:=.ins c.C4 dx (b2M x dd rx wx [])) x6 s06 (R5.same s6);have W7:=wput (o:=.ins c.C4 dx (b2M x dd rx wx [])) x6 s06 W6;have ef:X7 "wanted" (.ref wx) (X7 "ready" (.ref rx) (X7 "deed" (.ref dd) (X7 "plan" (.ref x) [])))=b2M x dd rx wx []:=rfl;rw[ef];obtain⟨H7,hH7⟩:∃H7,H7=upd H6 bx (.ins c.C4 dx (b2M x dd rx wx [])):=⟨_,rfl⟩;have s07:d9 H H7:=hH7 ▸ put s06;have x7:H7 bx=some (.ins c.C4 dx (b2M x dd rx wx [])):=hH7 ▸ d8;rw[<-hH7]at R7 W7 ⊢;obtain⟨dx2,r2,n2,e2,es2,p1,_⟩:=id hz.ex;specialize a4h ?_;exact_mod_cast a1u (V3 ?_);specialize V2 ?_;exists ⟨x,dx2,_,rfl,s07 _ _ p1,a8s r2 n2 e2 _ (by decide),?_⟩;refine b6d ck (hz.same s07) hv fun w H8 hw S8 s8=>?_
 have s08:=s07.trans s8;obtain⟨ps,w1,w2,w3⟩:=id S8.ex;have lst:=a6G hv.two;have h400:=hv.le;refine⟨w,rfl,⟨_,SqL.of w1⟩,fun D hD=>?_⟩
 refine d2y (J:=Itl K w) ps.length (fun i ys H9=>∃(ts:List Addr) (xs:List XE),ys=ts.map V.ref/\ts.length=xs.length/\(∀(j:Nat) y,xs[j]? = some y->∃p,ts[j]? = some p/\H9 p=some (.tup [.ref y.2.1,y.2.2]))/\xs.length=(((F2 N).take i).filter (Z2 N Do Sp (frS Sr) (frS Sw))).length /\
  (∀(j:Nat) y s,xs[j]? = some y->(((F2 N).take i).filter (Z2 N Do Sp (frS Sr) (frS Sw)))[j]? = some s->y.1=stK s/\L7 K H9 y.2.1 s)/\H9 D=some (.lst ys)/\d9 H8 H9)
  ⟨[],[],rfl,rfl,(fun j y h=>by cases h),rfl,(fun j y s h=>by cases h),d8,A9 hD⟩ ?_ ?_ ?_ ?_
 ·rintro i ys H9 ⟨_,_,_,_,_,_,_,h,_⟩
  exact h
 ·rintro ys H9 ⟨ts,xs,rfl,l1,t1,l2,t2,hD9,s9⟩
  refine⟨⟨_,SqL.of (s9 _ _ w1),by rw[b9];exact j9 _⟩,?_⟩;rw[w2,J5]at l2 t2;obtain⟨kk1,kk2⟩:=b3F l2 t2
  ext
  refine⟨D,_,xs,rfl,hD9,by rw[b9,l1],fun j y e=>?_,kk2,?_,fun y hy=>?_,fun dd2 hdd=>?_⟩
  ·obtain⟨p,q1,q2⟩:=t1 j y e
   exact⟨p,by rw[b6,q1];rfl,q2⟩
  ·rw[kk1]
   exact a1J stK (fun a b h e=>h (c2w e)) ((c5K N).filter _)
  ·obtain⟨j,hj⟩:=i9.mp hy
   have hj':=(gI hj);rw[(t2 j y _ hj (c8 (by omega))).1];intro z hz;unfold stK at hz;rcases u6.mp hz with rfl | hz
   ·exact⟨_,rfl⟩
   ·exact⟨_,v6.mp hz⟩
  ·ext
   have s10:d9 H9 (upd H9 dd2 (dX dd2 xs)):=A9 hdd;obtain⟨H10,hH10⟩:∃H10,H10=upd H9 dd2 (dX dd2 xs):=⟨_,rfl⟩;have e10:H10 dd2=some (dX dd2 xs):=hH10 ▸ d8;rw[<-hH10]at s10 ⊢;have s810:=s9.trans s10;have s710:=s8.trans s810;have x10:=s710 _ _ x7;refine⟨bx,_,dx,_,rfl,x10,ck.L5,ck.a1N,(by show(4:Nat)<1000;decide),?_⟩;have ef:X7 "found" (.ref dd2) (b2M x dd rx wx [])=b2M x dd rx wx [("found",.ref dd2)]:=rfl;rw[ef];have s010:=s07.trans s710;have R11:=rput (o:=.ins c.C4 dx (b2M x dd rx wx [("found",.ref dd2)])) x10 s010 (R7.same s710);have W11:=wput (o:=.ins c.C4 dx (b2M x dd rx wx [("found",.ref dd2)])) x10 s010 (W7.same s710);obtain⟨gr,G1⟩:=R11.g;obtain⟨gw,G2⟩:=W11.g;refine k _ Sr Sw gr gw ⟨dx,rx,wx,dd2,d8,G1,W11,G2,xs,?_,l2,fun j y s e1 e2=>⟨(t2 j y s e1 e2).1,?_⟩⟩ (put s010)
   ·rw[i8 (O3 e10 x10 (by intro z;cases z))];exact e10
   ·exact((t2 j y s e1 e2).2.ts (d9.ts s10)).ts (F5.ins x10)
 ·rintro i ys H9 hi ⟨_,_,_,_,_,_,_,_,s9⟩
  exact⟨_,.ref ps[i],SqL.of (s9 _ _ w1),by rw[b6,c8 hi];rfl⟩
 ·rintro i ys H9' hi ⟨ts,xs,rfl,l1,t1,l2,t2,hD9,s9⟩ v H9 ⟨rfl,hy⟩ R S hR hS
  have hv':=hy _ (SqL.of (s9 _ _ w1));rw[b6]at hv';obtain⟨p,hp',rfl⟩:=A1.mp hv';obtain⟨s,hs'⟩:∃s,(F2 N)[i]? = some s:=⟨_,c8 (by rw[<-w2];exact hi)⟩;have is:=a1O (mI hs');have s79:=s8.trans s9;have st:=(w3 i p s hp' hs').ts (d9.ts s9)
  have tk:((F2 N).take (i+1)).filter (Z2 N Do Sp (frS Sr) (frS Sw))=((F2 N).take i).filter (Z2 N Do Sp (frS Sr) (frS Sw))++if Z2 N Do Sp (frS Sr) (frS Sw) s=true then [s] else []:=by
   rw[F3,hs',Z5];congr 1;simp only[b1I,a5h,a5P]
  ext
  specialize V2 ?_;exists ⟨bx,dx,_,rfl,s79 _ _ x7,a6h (d:=0) (.inl rfl) (by decide),?_⟩;refine b9V (d:=0) ck (s79 _ _ x7) (.inl rfl) (R7.same s79) (W7.same s79) hv st is fun H11 s11=>?_
  refine⟨_,rfl,?_⟩;cases hb:Z2 N Do Sp (frS Sr) (frS Sw) s with
  | false=>
   rw[hb,if_neg (by decide),V0]at tk;refine p8 rfl ?_;refine hS _ ⟨ts,xs,rfl,l1,fun j y e=>let⟨p,q1,q2⟩:=t1 j y e; ⟨p,q1,s11 _ _ q2⟩,by rw[tk];exact l2,fun j y s e1 e2=>?_,s11 _ _ hD9,s9.trans s11⟩;rw[tk]at e2;exact⟨(t2 j y s e1 e2).1,(t2 j y s e1 e2).2.ts (d9.ts s11)⟩
  | true=>
   rw[hb,if_pos rfl]at tk;refine A2 rfl ?_
   ext
   refine F7 (by simp) fun tp H12 htp e12 s12=>?_
   have s912:=s11.trans s12
   have lle:(((F2 N).take i).filter (Z2 N Do Sp (frS Sr) (frS Sw))).length<=(F2 N).length:=by
    have h1:=M7 (Z2 N Do Sp (frS Sr) (frS Sw)) ((F2 N).take i);rw[C5]at h1;omega
   refine hR _ _ (s912 _ _ hD9) (G8 (by rw[b9];omega)) ⟨ts++[tp],xs++[(stK s,p,.bl true)],by rw[u4];rfl,by simp[l1],fun j y e=>?_,?_,fun j y u e1 e2=>?_,d8,fun b o e=>by rw[i8 (c9 e hD)];exact s912 _ _ (s9 _ _ e)⟩
   ·have tt:F5 H12 (upd H12 D (.lst (ts.map V.ref++[.ref tp]))):=F5.put (s912 _ _ hD9)
    rcases W0 e with ⟨j1,j2⟩ | ⟨j1,j2⟩
    ·obtain⟨p',q1,q2⟩:=t1 j y j2
     exact⟨p',by rw[j4 (by omega)];exact q1,tt _ _ (s912 _ _ q2)⟩
    ·subst j2
     exact⟨tp,by rw[j1,<-l1];simp,tt _ _ e12⟩
   ·rw[tk,p5,p5,l2];rfl
   ·have tt:F5 H9 (upd H12 D (.lst (ts.map V.ref++[.ref tp]))):=fun b z h=>F5.put (s912 _ _ hD9) _ _ (s912 _ _ h)
    rw[tk]at e2;rcases W0 e1 with ⟨j1,j2⟩ | ⟨j1,j2⟩
    ·rw[j4 (by omega)]at e2
     exact⟨(t2 j y u j2 e2).1,(t2 j y u j2 e2).2.ts tt⟩
    ·rw[j1,l2,J9 (j9 _),Nat.sub_self]at e2
     cases e2;subst j2;exact⟨rfl,st.ts tt⟩
theorem c4J(ck:a1h K c)(h:Brk K c H bx x dd N rs ds Do Sp Sr Sw gr gw)(k:∀l H',H l=none->D7 K H' l ((F2 N).filter (Z2 N Do Sp (frS Sr) (frS Sw)))->d9 H H'->Q (.ref l) H'):a2V K [.ref bx] H Q E:=by
 obtain⟨dx,rx,wx,d,h1,_,_,_,h5⟩:=h.ex;refine⟨rfl,?_⟩;unfold a8h
 ext
 specialize R0 ?_;exists ⟨bx,_,dx,_,_,rfl,h1,ck.L5,ck.a1N,rfl,?_⟩;exact h5.list k
end
def unL(l S:List Nat)(n:Nat):List Nat:=(C1 n).filter fun q=>decide (l.getD q 0∈S)
def b5C(N:Nt)(Do Sp:Nat->Bool)(S:List Nat)(g:Nat->Option Stp)(p:Nat)(W:List Stp):Prop:=∃l q r u e e2,N[p]? = some l/\unL l S l.length=q::r/\l[q]? = some u/\W=((p:Int),(q:Int))::(a5M N g 1000 u++a9w N e)/\On N u (a5M N g 1000 u) e/\(∀s∈a5M N g 1000 u,Do s.1.toNat=false)/\b0s N Do Sp e/\On N e (a9w N e) e2/\N[e2]? = some []/\(a5M N g 1000 u++a9w N e).length<=1000
section
variable {K:Fg}{x b':Addr}{Sp:Nat->Bool}{S:List Nat}{g:Nat->Option Stp}{p q:Nat}{W W':List Stp}{E:XK}
theorem b5C.det(h:b5C N Do Sp S g p W)(h':b5C N Do Sp S g p W'):W=W':=by
 obtain⟨l,q,r,u,e,e2,h1,h2,h3,rfl,h5,_⟩:=h;obtain⟨l',q',r',u',e',e2',h1',h2',h3',rfl,h5',_⟩:=h';rw[h1]at h1';cases h1';rw[h2]at h2';cases h2';rw[h3]at h3';cases h3';rw[h5.det h5']
theorem b5C.on(h:b5C N Do Sp S g p W):∃e2,On N p W e2/\N[e2]? = some []/\W≠[]/\W.length<=2000:=by
 obtain⟨l,q,r,u,e,e2,h1,h2,h3,rfl,h5,h6,h7,h8,h9,h10⟩:=h;exact⟨e2,.cons h1 h3 (h5.app h8),h9,by simp,by rw[z9];omega⟩
theorem b5C.scan(h:b5C N Do Sp S g p W):b3f Do Sp (W.map (G5 N))=true:=by
 obtain⟨l,q,r,u,e,e2,h1,h2,h3,rfl,h5,h6,h7,h8,h9,h10⟩:=h;have b:=h5.beg;rw[D5,a2t h1 h3,u4,<-d0z,b,F9];refine c8c (fun t ht=>?_) h7.1 (h7.2.imp id fun z=>?_)
 ·obtain⟨s,hs,rfl⟩:=A8.mp ht
  exact h6 s hs
 ·rw[h8.stop z];rfl
theorem d0H(h:∃t∈l,t∈S):∃q r u,unL l S l.length=q::r/\l[q]? = some u/\u∈S:=by
 obtain⟨t,h1,h2⟩:=h;obtain⟨i,hi⟩:=i9.mp h1;have il:=(gI hi)
 have m:i∈unL l S l.length:=by
  unfold unL;rw[E8,Q8];exact⟨il,d6x (by rw[D6,hi];exact h2)⟩
 cases e:unL l S l.length with
 | nil=>rw[e]at m;cases m
 | cons q r=>
  have mq:q∈unL l S l.length:=by rw[e];exact J8
  unfold unL at mq;rw[E8,Q8]at mq;have hq:=c8 mq.1;refine⟨q,r,_,rfl,hq,?_⟩;have:=of_decide_eq_true mq.2;rw[D6,hq]at this;exact this
theorem b5R(ck:a1h K c)(h:Brk K c H bx x dd N rs ds Do Sp Sr Sw gr gw)(hv:S0 N)(hl:N[p]? = some l)(hne:∃t∈l,t∈Sw)
  (k:∀w W H',H w=none->b5C N Do Sp Sw gw p W->D7 K H' w W->d9 H H'->Q (.ref w) H'):R8 K c [.ref bx,.int (p:Int)] H Q E:=by
 obtain⟨dx,rx,wx,d,h1,hR,hW,hG,_⟩:=id h.ex;obtain⟨dw,wd,kw,w1,_⟩:=id hW.ex;obtain⟨dx',fs,n,hx',hf,hn⟩:=hW.plan.x;obtain⟨us,u,f1,f2,f3,_⟩:=hn.at hl;have l2:=hv.two l (mI hl);refine⟨rfl,?_⟩;unfold a1K
 nofun
 exact_mod_cast R0 ?_;specialize R0 ?_;refine⟨bx,_,dx,_,_,rfl,h1,ck.L5,ck.a2m,rfl,?_⟩;exists ⟨x,_,dx',fs,_,rfl,hx',ck.O4,ck.Q3,hf,?_⟩;exists C0 f1 f2 ?_;exact_mod_cast N7 ?_;refine c5S ?_;specialize b7B (a6e ?_);refine⟨u,rfl,⟨_,SqL.of f3⟩,fun D hD=>?_⟩;have a9H:∀ {i t:Nat},l[i]? = some t->(IL l)[i]? = some (.int (t:Int)):=fun e=>by unfold IL;rw[b6,e];rfl
 refine c2b l.length (fun i ys H2=>ys=IL (unL l Sw i)/\H2 D=some (.lst ys)/\d9 H H2) ⟨rfl,d8,A9 hD⟩ ?_ ?_ ?_ ?_
 ·rintro i ys H2 ⟨_,h,_⟩
  exact h
 ·rintro ys H2 ⟨rfl,hD2,s2⟩
  refine⟨⟨_,SqL.of (s2 _ _ f3),by rw[K9];exact j9 _⟩,?_⟩;obtain⟨q,r,t,e1,e2,e3⟩:=d0H hne;rw[e1]at hD2
  ext
  exists C0 hD2 (Z3 _ _) ?_;refine F7 (by simp) fun tp H3 htp e3' s3=>?_
  ext
  refine F7 (by simp) fun l1 H4 hl1 e4 s4=>?_
  ext
  have s24:=s3.trans s4;have s04:=s2.trans s24;exact_mod_cast V2 ?_;specialize R0 ?_;refine⟨bx,_,dx,_,_,rfl,s04 _ _ h1,ck.L5,ck.Y7,rfl,?_⟩;exists ⟨wx,dw,_,rfl,s04 _ _ w1,a7z _ _ _ (by decide),?_⟩;exists C0 (s24 _ _ hD2) (Z3 _ _) ?_;exists C0 (s04 _ _ f3) (P4 (a9H e2)) ?_;refine b3u ck (hW.same s04) (hG.same s04) hv e3 fun w e e2' H5 hw o1 o2 o3 o4 o5 o6 sa s5=>?_
  obtain⟨vs,v1,v2,v3⟩:=sa.ex;have vl:vs.length<=1000:=by rw[v2];exact o6
  refine b7E (xs:=[.ref tp]) (s5 _ _ e4) v1 (F7 (by rw[b9,G6];omega) fun w3 H6 hw3 e6 s6=>?_);have s46:=s5.trans s6;refine k w3 _ H6 (s04.free (s5.free hw3)) ⟨l,q,r,t,e,e2',hl,e1,e2,rfl,o1,o2,o3,o4,o5,o6⟩ ?_ (s04.trans s46);refine D7.app (v1:=[tp]) (S1:=[((p:Int),(q:Int))]) e6 rfl v2 (fun i y s g1 g2=>?_) fun i y s g1 g2=>(v3 i y s g1 g2).ts (d9.ts s6)
  cases i with
  | zero=>cases g1;cases g2;exact .inl (s46 _ _ (s4 _ _ e3'))
  | succ i=>cases g1
 ·rintro i ys H2 hi ⟨_,_,s2⟩
  exact⟨_,_,SqL.of (s2 _ _ f3),a9H (c8 hi)⟩
 ·rintro i ys H2 hi ⟨rfl,hD2,s2⟩ y H3 ⟨tp,y',hp,rfl,rfl,g1⟩
  have g1:=g1 _ (SqL.of (s2 _ _ f3));rw[a9H (c8 hi)]at g1;cases g1;refine⟨tp,_,_,rfl,SqT.of d8,fun R S hR hS=>?_⟩;have s3:d9 H2 (upd H2 tp (.tup [V.int (i:Int),V.int ((l[i]:Nat):Int)])):=A9 hp;obtain⟨H3,hH3⟩:∃H3,H3=upd H2 tp (.tup [V.int (i:Int),V.int ((l[i]:Nat):Int)]):=⟨_,rfl⟩;rw[<-hH3]at s3 ⊢;have s03:=s2.trans s3
  ext
  exact_mod_cast V2 ?_;specialize R0 ?_;refine⟨bx,_,dx,_,_,rfl,s03 _ _ h1,ck.L5,ck.Y7,rfl,?_⟩;exists ⟨wx,dw,_,rfl,s03 _ _ w1,a7z _ _ _ (by decide),?_⟩;refine a5i ck (hW.same s03) ?_;refine⟨_,rfl,?_⟩
  have tk:unL l Sw (i+1)=unL l Sw i++if l[i]∈Sw then [i] else []:=by
   unfold unL;rw[a1j,Z5];congr 1;rw[a5h,a5P,show l.getD i 0=l[i] by simp[D6,hi]];by_cases z:l[i]∈Sw
   ·simp[z]
   ·simp[z]
  have ll:(unL l Sw i).length<=2:=by
   have:=M7 (fun q=>decide (l.getD q 0∈Sw)) (C1 i);rw[a0r]at this;unfold unL;omega
  by_cases z:l[i]∈Sw
  ·rw[if_pos z]at tk
   rw[d6x z];refine A2 rfl ?_
   ext
   refine hR _ _ (s3 _ _ hD2) (G8 (by rw[K9];omega)) ⟨?_,d8,fun b o e=>by rw[i8 (c9 e hD)];exact s03 _ _ e⟩;rw[tk,c7B];rfl
  ·rw[if_neg z,V0]at tk
   rw[d6w z];refine p8 rfl ?_;exact hS _ ⟨by rw[tk],s3 _ _ hD2,s03⟩
theorem b0F(ck:a1h K c)(h:Brk K c H bx x dd N rs ds Do Sp Sr Sw gr gw)(hv:S0 N)(ha:L7 K H a s)(is:a0F N s)
  (k0:Z2 N Do Sp (frS Sr) (frS Sw) s=false->Q .non H)
  (k1:Z2 N Do Sp (frS Sr) (frS Sw) s=true->s=FST->∀y H',H y=none->H' y=some (.tup [.str "first"])->d9 H H'->Q (.ref y) H')
  (k2:Z2 N Do Sp (frS Sr) (frS Sw) s=true->∀p q:Nat,s=((p:Int),(q:Int))->p<N.length->Sp p=true->∀y H',H y=none->H' y=some (.tup [.str "spoilt",.int (p:Int)])->d9 H H'->Q (.ref y) H')
  (k3:Z2 N Do Sp (frS Sr) (frS Sw) s=true->∀p q:Nat,s=((p:Int),(q:Int))->p<N.length->Sp p=false->Do p=false->∀y y1 y2 r W H',H y=none->H y1=none->H y2=none->y1≠y2->H' y=some (.tup [.str "apart",.ref y1,.ref y2]) ->
   D7 K H' y1 (FST::r)->b8T N Sp gr p=FST::r->Fw N FST r p->r.length<=900->a8v Do Sp false (b8k r)=false->D7 K H' y2 W->b5C N Do Sp Sw gw p W->d9 H H'->Q (.ref y) H'):R3 K c [.ref bx,.ref a] H Q E:=by
 obtain⟨dx,rx,wx,d,h1,hR,hW,hG,hX⟩:=id h.ex;obtain⟨dr,rd,kr,r1,_⟩:=id hR.rdy.ex
 have fnd:∀ {H':Hp} {R:VK},d9 H H'->R (.ref d) H'->Z6 K (b4 0) "found" [some (V.ref bx),some (.ref a),none] H' R:=fun s' hR'=>by
  specialize R0 ?_;exact⟨bx,_,dx,_,_,rfl,s' _ _ h1,ck.L5,ck.a1N,rfl,hR'⟩
 refine⟨rfl,?_⟩;unfold a5A
 nofun
 refine hX.in_ (neg:=true) ha (fun R hR'=>⟨_,rfl,hR'⟩) (fun R hR'=>fnd (d9.refl _) hR') ?_;rw[if_pos rfl]
 ext
 have mem:(s∈(F2 N).filter (Z2 N Do Sp (frS Sr) (frS Sw)))↔Z2 N Do Sp (frS Sr) (frS Sw) s=true:=by
  rw[E8];exact⟨fun z=>z.2,fun z=>⟨a3s is,z⟩⟩
 cases hb:Z2 N Do Sp (frS Sr) (frS Sw) s with
 | false=>
  refine A2 (by rw[d6w (fun z=>by rw[mem.mp z]at hb;cases hb)];rfl) ?_
  ext
  exact k0 hb
 | true=>
 refine p8 (by rw[d6x (mem.mpr hb)];rfl) ?_
 ext
 nofun
 refine⟨_,_,_,_,rfl,rfl,ha.sq,ck.Q6 H,rfl,rfl,?_⟩;rw[eq2]
 ext
 rcases is with rfl | ⟨p,q,l,t,rfl,hl,hq⟩
 ·refine A2 rfl ?_
  ext
  refine F7 (by simp) fun y H' hy e' s'=>?_
  exact k1 hb rfl y H' hy e' s'
 have hf:decide ((((p:Int),(q:Int)):Stp)=FST)=false:=d6w V5;obtain⟨hg,hp⟩:=c2Y (q:=0) hl;have ha':=ha.resolve_right fun z=>V5 z.1
 refine p8 hf ?_
 ext
 nofun
 exists N8 ha' (Z3 _ _) ?_
 nofun
 specialize V2 ?_;exists ⟨bx,dx,_,rfl,h1,a6h (.inr rfl) (by decide),?_⟩;refine a7O ck h1 hR.rdy.plan hR.rdy.deed hR.rdy.sat ha hp fun H1 s1=>?_
 ext
 cases hs:Sp p with
 | true=>
  refine A2 rfl ?_
  ext
  refine F7 (by simp) fun y H' hy e' s'=>?_
  exact k2 hb p q rfl hp hs y H' (s1.free hy) e' (s1.trans s')
 | false=>
 refine p8 rfl ?_
 have bk:(!frS Sr p&&(!Do p && !l.all (frS Sw)))=true:=by
  unfold Z2 at hb;rw[P6]at hb;have hb:=hb.2;rw[hf,Z9]at hb;have e:((((p:Int),(q:Int)):Stp).1).toNat=p:=rfl;rw[e,hs,Z9,hg]at hb;exact hb
 rw[P6,P6]at bk;obtain⟨b1,b2,b3⟩:=bk;have hdo:Do p=false:=by simpa using b2
 have hSr:p∈Sr:=by simpa using b1
 have hne:∃t∈l,t∈Sw:=by
  have:l.all (frS Sw)=false:=by simpa using b3
  obtain⟨t,t1,t2⟩:=b3S.mp this;exact⟨t,t1,by simpa using t2⟩
 ext
 exact_mod_cast V2 ?_;specialize R0 ?_;refine⟨bx,_,dx,_,_,rfl,s1 _ _ h1,ck.L5,ck.a1M,rfl,?_⟩;exists ⟨rx,dr,_,rfl,s1 _ _ r1,rfl,?_⟩;refine b4h ck (hR.same s1) hv hSr fun y1 r H2 hy1 u1 fw l9 sa lie s2=>?_
 have s02:=s1.trans s2
 ext
 specialize V2 ?_;exists ⟨bx,dx,_,rfl,s02 _ _ h1,a6h (.inr rfl) (by decide),?_⟩;refine b5R ck (h.same s02) hv hl hne fun y2 W H3 hy2 wb sb s3=>?_
 ext
 refine F7 (by simp) fun y H4 hy e4 s4=>?_
 have s23:=s02.trans s3;obtain⟨vs,v1,_⟩:=sa.ex;exact k3 hb p q rfl hp hs hdo y y1 y2 r W H4 (s23.free hy) (s1.free hy1) (s02.free hy2) (c9 v1 hy2) e4 (sa.same (s3.trans s4)) u1 fw l9 lie (sb.same s4) wb (s23.trans s4)
end
theorem b4t{K:Fg}{S:List Stp}(ha:D7 K H a S)(hb:D7 K H b S):Dq K H 2 (.ref a) (.ref b):=by
 obtain⟨vs,v1,v2,v3⟩:=ha.ex;obtain⟨us,u1,u2,u3⟩:=hb.ex;refine .lst (SqL.of v1) (SqL.of u1) (by simp[v2,u2]) fun j x y f1 f2=>?_
 rw[b6]at f1 f2;cases e1:vs[j]? with
 | none=>rw[e1]at f1;cases f1
 | some v=>
  cases e2:us[j]? with
  | none=>rw[e2]at f2;cases f2
  | some u=>
   rw[e1]at f1;rw[e2]at f2;cases f1;cases f2;obtain⟨s,hs⟩:∃s,S[j]? = some s:=⟨_,c8 (by have:=(gI e1);omega)⟩;refine .tup (v3 j v s e1 hs).sq (u3 j u s e2 hs).sq rfl fun i x y g1 g2=>?_
   rw[g1]at g2;cases g2;rcases i with _ | _ | i
   ·cases g1;exact .flat rfl
   ·cases g1;exact .flat rfl
   ·simp at g1
theorem d0s(p q u v:Int):Z1 [.int p,.int q] [.int u,.int v]=decide (((p,q):Stp)=(u,v)):=by
 have e:Z1 [.int p,.int q] [.int u,.int v]=(decide (p=u)&&decide (q=v)):=by
  show(((C1 2).all fun j=>eqV (([V.int p,.int q]:List V).getD j .non) (([V.int u,.int v]:List V).getD j .non))&&(2 == 2))=_;rw[show C1 2=[0,1] from rfl];simp[eqV];rfl
 rw[e,V1,P6,decide_eq_true_iff,decide_eq_true_iff,decide_eq_true_iff,Prod.mk.injEq]
section
variable {K:Fg}{x du y1 y2:Addr}{Sp:Nat->Bool}{L W r:List Stp}{p q:Nat}{E:XK}
theorem WS.in_{neg:Bool}(h:WS H du L)(ha:H a=some (.tup [.int s.1,.int s.2]))(k:Q (.bl (if neg then !decide (s∈L)else decide (s∈L))) H):b9t neg (.ref a) (.ref du) H Q:=by
 obtain⟨ps,h1,h2,h3⟩:=h.ex
 have at_:∀(i:Nat) b,ps[i]? = some b->∃t,L[i]? = some t/\H b=some (.tup [.int t.1,.int t.2]):=fun i b e=>by
  have hi:=(gI e);exact⟨_,c8 (by omega),h3 i b _ e (c8 (by omega))⟩
 refine⟨a,du,_,ps,rfl,rfl,ha,rfl,h1,fun b hb=>?_,?_⟩
 ·obtain⟨i,hi⟩:=i9.mp hb
  obtain⟨t,_,e⟩:=at_ i b hi;exact⟨_,e,rfl⟩
 ·have:ps.any (a9x H [.int s.1,.int s.2])=decide (s∈L):=by
   rw[V1,b5M,decide_eq_true_iff];constructor
   ·rintro⟨b,hb,e⟩
    obtain⟨i,hi⟩:=i9.mp hb;obtain⟨t,t1,t2⟩:=at_ i b hi;unfold a9x at e;simp only[t2]at e;rw[d0s]at e;have:=of_decide_eq_true e;rw[<-show t=s from this];exact mI t1
   ·intro hs
    obtain⟨i,hi⟩:=i9.mp hs;have hl:=(gI hi);have e:=c8 (show i<ps.length by omega);refine⟨_,mI e,?_⟩;unfold a9x;simp only[h3 i _ s e hi];rw[d0s];exact d6x rfl
  rw[this];exact k
theorem d0q(ha:H a=some (.tup [.int FST.1,.int FST.2]))(hy:H y=some (.tup [.str "first"]))(k:∀H',d9 H H'->Q (.bl true) H'):a8j K [.ref ra,.ref na,.ref dd,.ref a,.ref y] H Q E:=by
 refine⟨rfl,?_⟩;unfold c2r
 nofun
 exists N8 ha (Z3 _ _) ?_
 nofun
 refine A2 (by decide) ?_
 ext
 refine F7 (by simp) fun z H1 hz e1 s1=>?_
 refine⟨_,b1q (s1 _ _ hy) e1 rfl rfl,?_⟩;rw[show Z1 [V.str "first"] [V.str "first"]=true from a8z _ rfl];exact k H1 s1
theorem d0p(hra:H ra=some (.lst (rs.map V.ref)))(lrs:rs.length=N.length)(hd:a0w H dd ds)(sat:a4Q H rs ds Do Sp)(hp:p<N.length)(hs:Sp p=true)(ha:H a=some (.tup [.int (p:Int),.int (q:Int)]))(hy:H y=some (.tup [.str "spoilt",.int (p:Int)]))(k:∀H',d9 H H'->Q (.bl true) H'):a8j K [.ref ra,.ref na,.ref dd,.ref a,.ref y] H Q E:=by
 obtain⟨rx,hrx⟩:∃rx,rs[p]? = some rx:=⟨_,c8 (by omega)⟩;obtain⟨xs,rX,dX',sX⟩:=sat p rx hrx;have ixr:atI (rs.map V.ref) (p:Int)=some (.ref rx):=P4 (by rw[b6,hrx];rfl);refine⟨rfl,?_⟩;unfold c2r
 nofun
 exists N8 ha (Z3 _ _) ?_
 nofun
 refine p8 (d6w (by omega)) ?_
 ext
 nofun
 refine a6g (s := "tuple") (by simp only[a4V,hy]) (by decide) ?_
 ext
 refine p8 (by decide) ?_
 ext
 exists a3K hy ?_;refine p8 rfl ?_
 ext
 nofun
 exists C0 hra ixr ?_;refine a1f (E:=E0) rX hd fun H1 s1=>?_
 rw[sX,hs]
 ext
 refine A2 rfl ?_
 ext
 refine F7 (by simp) fun z H2 hz e2 s2=>?_
 have s12:=s1.trans s2;refine⟨_,b1q (s12 _ _ hy) e2 rfl rfl,?_⟩;rw[a8z _ rfl];refine⟨_,rfl,A2 rfl ?_⟩
 ext
 exists N8 (s12 _ _ hy) (a5p _ _ _) ?_;exact b7Q (k H2 s12)
theorem d0o(hra:H ra=some (.lst (rs.map V.ref)))(lrs:rs.length=N.length)(hn:F8 H na N)(hv:S0 N)(hd:a0w H dd ds)(sat:a4Q H rs ds Do Sp)(hp:p<N.length)(hs:Sp p=false)(hdo:Do p=false)(ha:H a=some (.tup [.int (p:Int),.int (q:Int)]))(hy:H y=some (.tup [.str "apart",.ref y1,.ref y2]))
  (sa:D7 K H y1 (FST::r)) (fw:Fw N FST r p) (l9:r.length<=900) (lie:a8v Do Sp false (b8k r)=false) (sb:D7 K H y2 W) (wb:b5C N Do Sp Sw gw p W) (k:∀H',d9 H H'->Q (.bl true) H'):a8j K [.ref ra,.ref na,.ref dd,.ref a,.ref y] H Q E:=by
 obtain⟨rx,hrx⟩:∃rx,rs[p]? = some rx:=⟨_,c8 (by omega)⟩;obtain⟨xs,rX,dX',sX⟩:=sat p rx hrx;have ixr:atI (rs.map V.ref) (p:Int)=some (.ref rx):=P4 (by rw[b6,hrx];rfl);refine⟨rfl,?_⟩;unfold c2r
 nofun
 exists N8 ha (Z3 _ _) ?_
 nofun
 refine p8 (d6w (by omega)) ?_
 ext
 nofun
 refine a6g (s := "tuple") (by simp only[a4V,hy]) (by decide) ?_
 ext
 refine p8 (by decide) ?_
 ext
 exists a3K hy ?_;refine p8 rfl ?_
 ext
 nofun
 exists C0 hra ixr ?_;refine a1f (E:=E0) rX hd fun H1 s1=>?_
 rw[sX,hs]
 ext
 refine p8 rfl ?_
 ext
 nofun
 exists a3K (s1 _ _ hy) ?_;refine p8 rfl ?_
 ext
 exists N8 (s1 _ _ hy) (Z3 _ _) ?_;refine p8 (by decide) ?_
 ext
 exists N8 (s1 _ _ hy) (a5p _ _ _) ?_;refine b9Q (E:=E0) (s1 _ _ hra) lrs (hn.same s1) hv (hd.ts (d9.ts s1)) (sat.ts (d9.ts s1)) (sa.same s1) fw l9 lie hdo hs fun H2 s2=>?_
 have s12:=s1.trans s2
 ext
 refine p8 rfl ?_
 ext
 exists N8 (s12 _ _ hy) (c2h _ _ _ _) ?_;obtain⟨e2,o1,o2,o3,o4⟩:=wb.on;exact b7P (s12 _ _ hra) lrs (hn.same s12) hv (hd.ts (d9.ts s12)) (sat.ts (d9.ts s12)) (sb.same s12) o1 hp o2 o3 o4 wb.scan fun H3 s3=>k H3 (s12.trans s3)
end
section
variable {K:Fg}{x du y1 y2:Addr}{Sp:Nat->Bool}{L W r:List Stp}{p q:Nat}{E:XK}
theorem b3H(ck:a1h K c)(hB:Brk K c H bx x dd N rs ds Do Sp Sr Sw gr gw)(hv:S0 N)(hra:H ra=some (.lst (rs.map V.ref)))(lrs:rs.length=N.length)(hn:F8 H na N)(hd:a0w H dd ds)(sat:a4Q H rs ds Do Sp)(hdu:WS H du ((F2 N).filter (Z2 N Do Sp (frS Sr) (frS Sw))))
  (k:∀H',d9 H H'->Q (.bl true) H'):a5j K c [.ref ra,.ref na,.ref dd,.ref bx,.ref du] H Q E:=by
 have h400:=hv.le;have lst:=a6G hv.two;obtain⟨dx,rx,wx,d,b1,_⟩:=id hB.ex;refine⟨rfl,?_⟩;unfold c5C
 nofun
 specialize V2 ?_;exists ⟨bx,dx,_,rfl,b1,a6h (.inr rfl) (by decide),?_⟩;refine c4J (E:=E0) ck hB fun l H1 hl S1 s1=>?_
 ext
 nofun
 refine a7c (E:=E0) S1 ?_
 ext
 refine p8 rfl ?_
 ext
 refine⟨l,du,2,rfl,rfl,by decide,b4t S1 (hdu.same s1).at,?_⟩
 ext
 refine p8 rfl ?_
 ext
 obtain⟨vs,v1,v2,_⟩:=S1.ex;have fl:=M7 (Z2 N Do Sp (frS Sr) (frS Sw)) (F2 N)
 nofun
 specialize a5S ?_;refine⟨.inl ⟨rfl,_,SqL.of v1⟩,?_⟩
 ext
 refine F7 (by simp) fun z H2 hz e2 s2=>?_
 ext
 refine W3 (s2 _ _ v1) (G8 (by rw[b9];omega)) ?_;have s02:=s1.trans s2;have s03:d9 H (upd H2 l (.lst (vs.map V.ref++[.ref z]))):=fun b o e=>by rw[i8 (c9 e hl)];exact s02 _ _ e
 generalize upd H2 l (.lst (vs.map V.ref++[.ref z]))=H3 at s03;exact_mod_cast N7 ?_;specialize a0g (V3 ?_);refine a8W (E:=E0) (hn.same s03) h400 hv.two fun w H4 hw W4 s4=>?_
 obtain⟨ps,w1,w2,w3⟩:=id W4.ex;have s04:=s03.trans s4;refine⟨w,rfl,⟨_,SqL.of w1⟩,a1v (xs:=ps.map V.ref) (fun j σ H5=>∃y6 y7,σ=[some (.ref ra),some (.ref na),some (.ref dd),some (.ref bx),some (.ref du),some (.ref l),y6,y7]/\d9 H4 H5) ⟨_,_,rfl,d9.refl _⟩ ?_ ?_ ?_⟩
 ·rintro j σ H5 _ ⟨_,_,_,s5⟩
  exact SqL.of (s5 _ _ w1)
 ·rintro j v _ H5 hv' ⟨y6,y7,rfl,s5⟩
  rw[b6]at hv';obtain⟨p,hp,rfl⟩:=A1.mp hv';obtain⟨s,hs⟩:∃s,(F2 N)[j]? = some s:=⟨_,c8 (by rw[<-w2];exact(gI hp))⟩;have is:=a1O (mI hs);have st:H5 p=some (.tup [.int s.1,.int s.2]):=s5 _ _ (w3 j p s hp hs);have s05:=s04.trans s5
  have mem:decide (s∈(F2 N).filter (Z2 N Do Sp (frS Sr) (frS Sw)))=Z2 N Do Sp (frS Sr) (frS Sw) s:=by
   rw[V1,decide_eq_true_iff,E8];exact⟨fun z=>z.2,fun z=>⟨a3s is,z⟩⟩
  ext
  nofun
  specialize V2 ?_;exists ⟨bx,dx,_,rfl,s05 _ _ b1,a6h (.inr rfl) (by decide),?_⟩;refine b0F (E:=E0) ck (hB.same s05) hv (.inl st) is (fun hb=>?_) (fun hb e y H6 hy ey s6=>?_) (fun hb p' q' e hp' hsp y H6 hy ey s6=>?_) (fun hb p' q' e hp' hsp hdo y y1 y2 r W H6 hy hy1 hy2 hne ey sa u1 fw l9 lie sb wb s6=>?_)
  ·ext
   refine(hdu.same s05).in_ (neg:=true) st ?_;rw[if_pos rfl,mem,hb]
   ext
   refine A2 rfl ?_
   ext
   refine⟨rfl,?_⟩
   ext
   refine p8 (by decide) ?_
   ext
   exact⟨_,_,rfl,s5⟩
  ·subst e
   have s06:=s05.trans s6
   ext
   refine(hdu.same s06).in_ (neg:=true) (s6 _ _ st) ?_;rw[if_pos rfl,mem,hb]
   ext
   refine p8 rfl ?_
   ext
   refine d0q (E:=E0) (s6 _ _ st) ey fun H7 s7=>?_
   ext
   refine p8 rfl ?_
   ext
   exists a3K (s7 _ _ ey) ?_;refine p8 rfl ?_
   ext
   exact⟨_,_,rfl,s5.trans (s6.trans s7)⟩
  ·subst e
   have s06:=s05.trans s6
   ext
   refine(hdu.same s06).in_ (neg:=true) (s6 _ _ st) ?_;rw[if_pos rfl,mem,hb]
   ext
   refine p8 rfl ?_
   ext
   refine d0p (E:=E0) (s06 _ _ hra) lrs (hd.ts (d9.ts s06)) (sat.ts (d9.ts s06)) hp' hsp (s6 _ _ st) ey fun H7 s7=>?_
   ext
   refine p8 rfl ?_
   ext
   exists a3K (s7 _ _ ey) ?_;refine p8 rfl ?_
   ext
   exact⟨_,_,rfl,s5.trans (s6.trans s7)⟩
  ·subst e
   have s06:=s05.trans s6
   ext
   refine(hdu.same s06).in_ (neg:=true) (s6 _ _ st) ?_;rw[if_pos rfl,mem,hb]
   ext
   refine p8 rfl ?_
   ext
   refine d0o (E:=E0) (s06 _ _ hra) lrs (hn.same s06) hv (hd.ts (d9.ts s06)) (sat.ts (d9.ts s06)) hp' hsp hdo (s6 _ _ st) ey sa fw l9 lie sb wb fun H7 s7=>?_
   ext
   refine p8 rfl ?_
   ext
   exists a3K (s7 _ _ ey) ?_;refine A2 rfl ?_;obtain⟨us,u1,u2,_⟩:=(sa.same s7).ex;obtain⟨ws,t1,t2,_⟩:=(sb.same s7).ex
   nofun
   specialize a5S ?_;exists N8 (s7 _ _ ey) (a5p _ _ _) ?_;refine⟨.inl ⟨rfl,_,SqL.of u1⟩,?_⟩
   ext
   refine F7 (by simp) fun z3 H8 hz3 e8 s8=>?_
   ext
   refine W3 (s8 _ _ u1) (G8 (by rw[b9,u2,z9];omega)) ?_;have ny:y1≠y:=O3 (s7 _ _ ey) u1 (by intro z;cases z) |>.symm
   ext
   specialize c2y ?_;exists N8 (xs:=[.str "apart",.ref y1,.ref y2]) (by rw[i8 ny.symm];exact s8 _ _ (s7 _ _ ey)) (c2h _ _ _ _) ?_;have t8:upd H8 y1 (.lst (us.map V.ref++[.ref z3])) y2=some (.lst (ws.map V.ref)):=by rw[i8 hne.symm];exact s8 _ _ t1
   refine⟨.inl ⟨rfl,_,SqL.of t8⟩,c8p t8 ?_⟩;refine⟨_,_,rfl,fun b o e=>?_⟩;have e5:=s5 _ _ e;rw[i8 (c9 e5 hy2),i8 (c9 e5 hy1)];exact s8 _ _ (s7 _ _ (s6 _ _ e5))
 ·rintro _ H5 ⟨y6,y7,rfl,s5⟩
  ext
  exact k H5 (s04.trans s5)
end
theorem c2c{K:Fg}(hn:F8 H a N)(h400:N.length<=400)(hi:σ[i]? = some (some (.ref a)))(k:∀a' H',F8 H' a' N->d9 H H'->Q (.ref a') H'):a0f (U2 K (b4 i)) a0e (tCB a7P (a9 (b4 0) d7)) σ H Q:=by
 obtain⟨ns,m1,m2,m3⟩:=id hn.ex;exact_mod_cast a1u (V3 ?_);refine⟨_,hi,a,rfl,⟨_,SqL.of m1⟩,fun np hnp=>?_⟩;refine a0E (xs:=ns.map V.ref) (fun i ys H8=>∃as:List Addr,ys=as.map V.ref/\as.length=i/\(∀(j:Nat) y l,as[j]? = some y->N[j]? = some l->H8 y=some (.lst (IL l))/\y≠np)/\H8 np=some (.lst ys)/\d9 H H8) ⟨[],rfl,rfl,by simp,d8,A9 hnp⟩ ?_ ?_ ?_ ?_
 ·rintro i ys H8 ⟨_,_,_,_,h,_⟩
  exact h
 ·rintro i ys H8 _ ⟨_,_,_,_,_,s8⟩
  exact SqL.of (s8 _ _ m1)
 ·rintro i y ys H8 hy ⟨as,rfl,la,at8,hnp8,s8⟩ R hR
  rw[b6]at hy;obtain⟨nx,hnx,rfl⟩:=A1.mp hy;have hi:i<N.length:=by rw[<-m2];exact(gI hnx)
  ext
  refine a8U (s8 _ _ (m3 i nx _ hnx (M5 hi))) fun q H9 hq e9 s9=>?_
  have nq:q≠np:=(c9 hnp8 hq).symm;refine hR _ _ (s9 _ _ hnp8) (G8 (by rw[b9];omega)) ⟨as++[q],by simp,by simp[la],fun j y l g1 g2=>?_,d8,fun b o e=>by rw[i8 (c9 e hnp)];exact s9 _ _ (s8 _ _ e)⟩;rcases W0 g1 with ⟨_,f1⟩ | ⟨hj,f1⟩
  ·obtain⟨f2,f3⟩:=at8 j y l f1 g2
   exact⟨by rw[i8 f3];exact s9 _ _ f2,f3⟩
  ·rw[hj,la,M5 hi]at g2
   cases g2;subst f1;exact⟨by rw[i8 nq];exact e9,nq⟩
 ·rintro ys H8 ⟨as,rfl,la,at8,hnp8,s8⟩
  rw[b9,m2]at la;exact k np H8 ⟨as,hnp8,la,fun i y l a b=>(at8 i y l a b).1⟩ s8
inductive b0p(K:Fg)(N:Nt)(Do Sp:Nat->Bool)(Sr Sw:List Nat)(gr:Nat->Stp)(gw:Nat->Option Stp)(H:Hp)(s:Stp):V->Prop
 | no:Z2 N Do Sp (frS Sr) (frS Sw) s=false->b0p K N Do Sp Sr Sw gr gw H s .non
 | first {y:Addr}:Z2 N Do Sp (frS Sr) (frS Sw) s=true->s=FST->H y=some (.tup [.str "first"])->b0p K N Do Sp Sr Sw gr gw H s (.ref y)
 | spoilt {y:Addr} {p q:Nat}:Z2 N Do Sp (frS Sr) (frS Sw) s=true->s=((p:Int),(q:Int))->p<N.length->Sp p=true->H y=some (.tup [.str "spoilt",.int (p:Int)])->b0p K N Do Sp Sr Sw gr gw H s (.ref y)
 | apart {y y1 y2:Addr} {p q:Nat} {r W:List Stp}:Z2 N Do Sp (frS Sr) (frS Sw) s=true->s=((p:Int),(q:Int))->p<N.length->Sp p=false->Do p=false->H y=some (.tup [.str "apart",.ref y1,.ref y2])->D7 K H y1 (FST::r)->b8T N Sp gr p=FST::r->Fw N FST r p->r.length<=900->a8v Do Sp false (b8k r)=false->D7 K H y2 W->b5C N Do Sp Sw gw p W->b0p K N Do Sp Sr Sw gr gw H s (.ref y)
section
variable {K:Fg}{x:Addr}{Sp:Nat->Bool}{v':V}{E:XK}
theorem b0p.same(h:b0p K N Do Sp Sr Sw gr gw H s v)(m:d9 H H'):b0p K N Do Sp Sr Sw gr gw H' s v:=by
 cases h with
 | no e=>exact .no e
 | first e1 e2 e3=>exact .first e1 e2 (m _ _ e3)
 | spoilt e1 e2 e3 e4 e5=>exact .spoilt e1 e2 e3 e4 (m _ _ e5)
 | apart e1 e2 e3 e4 e5 e6 e7 e8 e9 e10 e11 e12 e13=>exact .apart e1 e2 e3 e4 e5 (m _ _ e6) (e7.same m) e8 e9 e10 e11 (e12.same m) e13
theorem c2o(ck:a1h K c)(h:Brk K c H bx x dd N rs ds Do Sp Sr Sw gr gw)(hv:S0 N)(ha:L7 K H a s)(is:a0F N s)(k:∀v H',b0p K N Do Sp Sr Sw gr gw H' s v->d9 H H'->Q v H'):R3 K c [.ref bx,.ref a] H Q E:=
 b0F ck h hv ha is (fun e=>k _ H (.no e) (d9.refl _)) (fun e1 e2 y H' _ e3 m=>k _ H' (.first e1 e2 e3) m) (fun e1 p q e2 e3 e4 y H' _ e5 m=>k _ H' (.spoilt e1 e2 e3 e4 e5) m)
  fun e1 p q e2 e3 e4 e5 y y1 y2 r W H' _ _ _ _ e6 e7 e8 e9 e10 e11 e12 e13 m=>k _ H' (.apart e1 e2 e3 e4 e5 e6 e7 e8 e9 e10 e11 e12 e13) m
theorem b0p.brk(h:b0p K N Do Sp Sr Sw gr gw H s v):decide (v=.non) = !Z2 N Do Sp (frS Sr) (frS Sw) s:=by
 cases h with
 | no e=>rw[e];rfl
 | first e1=>rw[e1];exact d6w (by intro z;cases z)
 | spoilt e1=>rw[e1];exact d6w (by intro z;cases z)
 | apart e1=>rw[e1];exact d6w (by intro z;cases z)
theorem b7n{p q p' q':Nat}(h:(((p:Int),(q:Int)):Stp)=((p':Int),(q':Int))):p=p':=by
 have:=congrArg Prod.fst h;have:(p:Int)=(p':Int):=this;omega
theorem b0p.ne(h:b0p K N Do Sp Sr Sw gr gw H s v)(h':b0p K N Do Sp Sr Sw gr gw H s v')(k:Q (.bl false) H):c6i K v v' H Q:=by
 have flat:∀ {y y':Addr} {xs:List V},H y=some (.tup xs)->H y'=some (.tup xs)->xs.all O8=true->c6i K (.ref y) (.ref y') H Q:=fun e e' f=>by
  refine .inl ⟨_,b1q e e' f f,?_⟩;rw[a8z _ f];exact k
 cases h with
 | no e=>
  cases h' with
  | no _=>exact .inl ⟨true,rfl,k⟩
  | first e1=>rw[e]at e1;cases e1
  | spoilt e1=>rw[e]at e1;cases e1
  | apart e1=>rw[e]at e1;cases e1
 | first e1 e2 e3=>
  subst e2;cases h' with
  | no e=>rw[e]at e1;cases e1
  | first f1 f2 f3=>exact flat e3 f3 rfl
  | spoilt f1 f2=>exact(V5 f2.symm).elim
  | apart f1 f2=>exact(V5 f2.symm).elim
 | spoilt e1 e2 e3 e4 e5=>
  subst e2;cases h' with
  | no e=>rw[e]at e1;cases e1
  | first f1 f2=>exact(V5 f2).elim
  | spoilt f1 f2 f3 f4 f5=>
   rw[<-b7n f2]at f5;exact flat e5 f5 rfl
  | apart f1 f2 f3 f4=>rw[<-b7n f2,e4]at f4;cases f4
 | apart e1 e2 e3 e4 e5 e6 e7 e8 e9 e10 e11 e12 e13=>
  subst e2;cases h' with
  | no e=>rw[e]at e1;cases e1
  | first f1 f2=>exact(V5 f2).elim
  | spoilt f1 f2 f3 f4 f5=>rw[<-b7n f2,e4]at f4;cases f4
  | apart f1 f2 f3 f4 f5 f6 f7 f8 f9 f10 f11 f12 f13=>
   rw[<-b7n f2]at f8 f13;rw[e8]at f8;rw[<-f8]at f7;rw[<-e13.det f13]at f12;refine .inr (.inl ⟨_,_,3,rfl,rfl,by decide,.tup (SqT.of e6) (SqT.of f6) rfl fun j u w g1 g2=>?_,k⟩)
   match j,g1,g2 with
   | 0,g1,g2=>cases g1;cases g2;exact .flat rfl
   | 1,g1,g2=>cases g1;cases g2;exact b4t e7 f7
   | 2,g1,g2=>cases g1;cases g2;exact b4t e12 f12
   | n+3,g1,g2=>cases g1
theorem b0p.why(h:b0p K N Do Sp Sr Sw gr gw H s v)(hb:Z2 N Do Sp (frS Sr) (frS Sw) s=true)(hra:H ra=some (.lst (rs.map V.ref)))(lrs:rs.length=N.length)(hn:F8 H na N)(hv:S0 N)(hd:a0w H dd ds)(sat:a4Q H rs ds Do Sp)(ha:H a=some (.tup [.int s.1,.int s.2]))(k:∀H',d9 H H'->Q (.bl true) H'):a8j K [.ref ra,.ref na,.ref dd,.ref a,v] H Q E:=by
 cases h with
 | no e=>rw[e]at hb;cases hb
 | first e1 e2 e3=>subst e2;exact d0q ha e3 k
 | spoilt e1 e2 e3 e4 e5=>subst e2;exact d0p hra lrs hd sat e3 e4 ha e5 k
 | apart e1 e2 e3 e4 e5 e6 e7 e8 e9 e10 e11 e12 e13=>subst e2;exact d0o hra lrs hn hv hd sat e3 e4 e5 ha e6 e7 e9 e10 e11 e12 e13 k
end
section
variable {K:Fg}{x:Addr}{Sp fr fw:Nat->Bool}
theorem a8u{a b:Nat}(ck:a1h K c)(hp:a5g c H x N rs)(hq:a9G c H x N rs)(hz:a1H K c H x N)(hv:S0 N)(hd:a0w H dd ds)(hs:a4Q H rs ds Do Sp)(ea:σ[a]? = some (some (.ref x)))(eb:σ[b]? = some (some (.ref dd)))
  (k:∀bx H' Sr Sw gr gw,H bx=none->Brk K c H' bx x dd N rs ds Do Sp Sr Sw gr gw->d9 H H'->Q (.ref bx) H'):a5Z c.C4 (a0D K c) [] E0 (a9 (b4 a) (a9 (b4 b) d7)) σ H Q:=by
 exact_mod_cast b7z ?_;refine a3b (a0M ea (a3b (a0M eb (a9B ?_))));intro bx dx hbx hdx _;exact b5B ck hp hq hz hv hd hs hbx hdx fun H' Sr Sw gr gw h s=>⟨rfl,k bx H' Sr Sw gr gw hbx h s⟩
theorem Brk.due(h:Brk K c H bx x dd N rs ds Do Sp Sr Sw gr gw)(hv:S0 N)(h1:∀t,t<N.length->(fr t=false↔UnR N Do Sp t))(h2:∀t,t<N.length->(fw t=false↔UnW N Do Sp t)):(F2 N).filter (Z2 N Do Sp fr fw)=(F2 N).filter (Z2 N Do Sp (frS Sr) (frS Sw)):=by
 obtain⟨dx,rx,wx,d,_,hR,hW,_⟩:=h.ex
 have cg:∀ {f:Nat->Bool} {S:List Nat} {P:Nat->Prop} {t:Nat},(f t=false↔P t)->(t∈S↔P t)->f t=frS S t:=fun {f S P t} h1 h2=>by
  show f t = !decide (t∈S);by_cases z:t∈S
  ·rw[d6x z,h1.mpr (h2.mp z)];rfl
  ·rw[d6w z]
   cases e:f t with
   | true=>rfl
   | false=>exact(z (h2.mpr (h1.mp e))).elim
 exact List.filter_congr fun s hs=>c4K hv (a1O hs) (fun t ht=>cg (h1 t ht) (hR.rdy.un t)) fun t ht=>cg (h2 t ht) (hW.un t)
end
theorem law_reading(K:Fg)(hl:ns.length<=63)(hO:c9P H)(hS:SqL K H a (ns.map V.int)):b4v K [.ref a] H (fun v _=>v=.bl true) (fun _ _ _=>False):=by
 have p64:(2:Int) ^ 64=18446744073709551616:=by decide
 have nmA:NmS "a" := ⟨by decide +kernel,by decide +kernel⟩;have nmB:NmS "k0" := ⟨by decide +kernel,by decide +kernel⟩;refine⟨rfl,fun c ck=>?_⟩;unfold c5G
 nofun
 refine d2D hS hl fun b d H1 B1 s1 _=>?_
 ext
 nofun
 refine c8F B1 fun p1 ra na da N H2 e2 R2 T2 P2 hv l24 nra nna B2 k2=>?_
 refine⟨p1,_,rfl,SqT.of e2,rfl,_,_,rfl,_,_,rfl,_,_,rfl,rfl,?_⟩;obtain⟨ps,hps,nps,lps,dps⟩:=id P2.ex;obtain⟨rs,hrs,lrs,_⟩:=id R2.ex;have pos:=hv.pos
 nofun
 specialize a5S ?_;refine⟨X9 hps,?_⟩
 ext
 refine F7 (by simp) fun n3 H3 hn3 e3 s3=>?_
 ext
 have B3:=B2.same s3
 refine c2N (E:=E0) B3 ⟨["a","k0"],e3,by simp,by simp,fun s hs=>by
  rcases u6.mp hs with rfl | hs
  ·exact nmA
  ·rw[v6.mp hs];exact nmB⟩ fun dp H4 hdp hdn B4 k4=>?_
 ext
 have hps4:H4 da=some (.lst (ps.map V.ref)):=k4.1 _ _ (s3 _ _ hps) (Y9 B3 (s3 _ _ hps));refine W3 hps4 (G8 (by rw[b9];omega)) ?_;have ea:ps.map V.ref++[V.ref dp]=(ps++[dp]).map V.ref:=by rw[u4];rfl
 rw[ea];obtain⟨H5,hH5⟩:∃H5,H5=upd H4 da (.lst ((ps++[dp]).map V.ref)):=⟨_,rfl⟩;rw[<-hH5];have t5:F5 H4 H5:=hH5 ▸ F5.put hps4;have hda5:H5 da=some (.lst ((ps++[dp]).map V.ref)):=hH5 ▸ d8;have R5:a0b H5 ra N:=hH5 ▸ ((R2.same s3).kept B3 k4).app hps4 nra;have T5:F8 H5 na N:=hH5 ▸ ((T2.same s3).kept B3 hv.two k4).app hps4 nps nna
 have hra5:H5 ra=some (.lst (rs.map V.ref)):=by
  rw[hH5,i8 nra];exact k4.1 _ _ (s3 _ _ hrs) (Y9 B3 (s3 _ _ hrs))
 have hd5:∀q∈ps++[dp],a8F H5 q:=fun q hq=>by
  rcases z8.mp hq with hq | hq
  ·exact(((dps q hq).ts (d9.ts s3)).ts (k4.ts B3)).ts t5
  ·have:q=dp:=by simpa using hq
   subst this;exact hdp.ts t5
 have B5:Bag H5 b d:=by
  rw[hH5];refine B4.put (Y9 B4 hps4) fun z=>?_
  obtain⟨i0,i1,i2,nsb,hb,hc,_⟩:=B4.ex;rw[<-z,hps4]at hc;have hc:=HO.lst.inj (Option.some.inj hc);cases ps with
  | nil=>exact nps rfl
  | cons p0 ps0=>
   cases nsb with
   | nil=>cases hc
   | cons n0 nsb=>cases hc
 have lq:0<(ps++[dp]).length/\(ps++[dp]).length<=9:=⟨by simp,by simp;omega⟩;generalize ps++[dp]=qs at hda5 hd5 lq;obtain⟨lq0,lq9⟩:=lq
 nofun
 exists L9 hda5 ?_;rw[b9];refine Q5 (E:=E0) B5 (by omega) (by omega) fun n1 H6 a0 a1 B6 k6=>?_
 obtain⟨n,rfl⟩:∃n:Nat,n1=(n:Int):=⟨n1.toNat,by omega⟩;obtain⟨q1,hq1⟩:∃q1,qs[n]? = some q1:=⟨_,c8 (by omega)⟩;have hda6:=k6.1 _ _ hda5 (Y9 B5 hda5);exists C0 hda6 (P4 (by rw[b6,hq1];rfl)) ?_
 nofun
 exists L9 hda6 ?_;rw[b9];refine Q5 (E:=E0) B6 (by omega) (by omega) fun m1 H7 b0 b1 B7 k7=>?_
 obtain⟨m,rfl⟩:∃m:Nat,m1=(m:Int):=⟨m1.toNat,by omega⟩;obtain⟨q2,hq2⟩:∃q2,qs[m]? = some q2:=⟨_,c8 (by omega)⟩;exists C0 (k7.1 _ _ hda6 (Y9 B6 hda6)) (P4 (by rw[b6,hq2];rfl)) ?_;have k57:=k6.trans k7;have R7:=R5.kept B5 k57;have T7:=T5.kept B5 hv.two k57;have hra7:=k57.1 _ _ hra5 (Y9 B5 hra5);have D1:=(hd5 q1 (mI hq1)).ts (k57.ts B5);have D2:=(hd5 q2 (mI hq2)).ts (k57.ts B5)
 nofun
 specialize b7z ?_;refine a8U hra7 fun ra' H8 hra' e8 s8=>?_
 ext
 refine c2c (T7.same s8) hv.le rfl fun na' H9 T9 s9=>?_
 ext
 intro x dx hx hdx hne
 have sm:d9 H9 (upd (upd H9 dx (.own x)) x (.ins c.Q2 dx [])):=fun b o e=>by
  rw[i8 (c9 e hx),i8 (c9 e hdx)];exact e
 obtain⟨H10,hH10⟩:∃H10,H10=upd (upd H9 dx (.own x)) x (.ins c.Q2 dx []):=⟨_,rfl⟩;have x10:H10 x=some (.ins c.Q2 dx []):=hH10 ▸ d8;rw[<-hH10]at sm ⊢;have s79:=s8.trans s9;have s710:=s79.trans sm
 have R9:a0b H9 ra' N:=by
  obtain⟨rs',q1,q2,q3⟩:=id (R7.same s79).ex;rw[s79 _ _ hra7]at q1;obtain rfl:rs'=rs:=(a0P (f:=V.ref) (fun a b h=>V.ref.inj h) |>.mp (HO.lst.inj (Option.some.inj q1))).symm;exact⟨rs',s9 _ _ e8,q2,q3⟩
 refine b7G (E:=E0) ck (sm _ _ (s9 _ _ e8)) (R9.same sm) (T9.same sm) hv x10 fun H11 pz old=>⟨rfl,?_⟩
 have s711:d9 H7 H11:=fun b o e=>old b o (s710 _ _ e) (c9 (s79 _ _ e) hx)
 obtain⟨ds1,dq1⟩:=(D1.ts (d9.ts s711)).q;obtain⟨ds2,dq2⟩:=(D2.ts (d9.ts s711)).q;have R11:=R7.same s711;have hra11:=s711 _ _ hra7;obtain⟨Do1,Sp1,sat1⟩:=a4Q.ex R11 hra11 ds1;obtain⟨Do2,Sp2,sat2⟩:=a4Q.ex R11 hra11 ds2;have T11:=T7.same s711;have B11:=B7.same s711
 ext
 exact_mod_cast N7 ?_;exact_mod_cast b6F ?_;refine a8u ck pz.r pz.q pz.at hv dq1 sat1 rfl rfl fun bl H12 Sr1 Sw1 gr1 gw1 hbl L12 s12=>?_
 ext
 exact_mod_cast N7 ?_;exact_mod_cast b6F ?_;refine a8u ck (pz.same s12).r (pz.same s12).q (pz.same s12).at hv (dq2.ts (d9.ts s12)) (sat2.ts (d9.ts s12)) rfl rfl fun br H13 Sr2 Sw2 gr2 gw2 hbr M13 s13=>?_
 have s113:=s12.trans s13
 ext
 nofun
 refine b5g (E:=E0) (s113 _ _ hra11) lrs (T11.same s113) hv (dq1.ts (d9.ts s113)) (sat1.ts (d9.ts s113)) fun d1 fr1 fw1 H14 hd1 r1 w1 W1 s14=>?_
 rw[L12.due hv r1 w1]at W1;have s114:=s113.trans s14
 ext
 refine b5g (E:=E0) (s114 _ _ hra11) lrs (T11.same s114) hv (dq2.ts (d9.ts s114)) (sat2.ts (d9.ts s114)) fun d2 fr2 fw2 H15 hd2 r2 w2 W2 s15=>?_
 rw[M13.due hv r2 w2]at W2
 ext
 refine F7 (by simp) fun dl H16 hdl e16 s16=>?_
 have s115:=s114.trans s15;have s116:=s115.trans s16;have s1516:=s15.trans s16;have s1316:=s14.trans s1516
 ext
 nofun
 exists C0 e16 (Z3 _ _) ?_;refine b3H (E:=E0) ck (L12.same (s13.trans s1316)) hv (s116 _ _ hra11) lrs (T11.same s116) (dq1.ts (d9.ts s116)) (sat1.ts (d9.ts s116)) (W1.same s1516) fun H17 s17=>?_
 have s117:=s116.trans s17
 ext
 refine p8 rfl ?_
 ext
 exists C0 (s17 _ _ e16) (a5p _ _ _) ?_;refine b3H (E:=E0) ck (M13.same (s1316.trans s17)) hv (s117 _ _ hra11) lrs (T11.same s117) (dq2.ts (d9.ts s117)) (sat2.ts (d9.ts s117)) (W2.same (s16.trans s17)) fun H18 s18=>?_
 have s118:=s117.trans s18
 ext
 refine p8 rfl ?_
 ext
 nofun
 refine a8W (E:=E0) (T11.same s118) hv.le hv.two fun w H19 hw W19 s19=>?_
 have s119:=s118.trans s19;have s1619:=s17.trans (s18.trans s19);have s1519:=s16.trans s1619;have s1419:=s15.trans s1519;have s1319:=s14.trans s1419;have B19:=B11.same s119;have pz19:=pz.same s119;have L19:=L12.same (s13.trans s1319);have M19:=M13.same s1319;have W19a:=W1.same s1419;have W19b:=W2.same s1519;have e19:=s1619 _ _ e16;have T19:=T11.same s119;have hra19:=s119 _ _ hra11;have dq19a:=dq1.ts (d9.ts s119);have dq19b:=dq2.ts (d9.ts s119);have sat19a:=sat1.ts (d9.ts s119);have sat19b:=sat2.ts (d9.ts s119)
 ext
 nofun
 have lst:=a6G hv.two;obtain⟨ps2,w1',w2',w3'⟩:=id W19.ex;have sl:0<(F2 N).length:=a4z (a3s (.inl rfl));exists L9 w1' ?_;rw[b9,w2'];refine Q5 (E:=E0) B19 (by omega) (by omega) fun n2 H20 c0 c1 B20 k20=>?_
 obtain⟨n2,rfl⟩:∃n:Nat,n2=(n:Int):=⟨n2.toNat,by omega⟩;obtain⟨sp0,hsp0⟩:∃y,ps2[n2]? = some y:=⟨_,c8 (by omega)⟩;obtain⟨st0,hst0⟩:∃y,(F2 N)[n2]? = some y:=⟨_,c8 (by omega)⟩;exists C0 (k20.1 _ _ w1' (Y9 B19 w1')) (P4 (by rw[b6,hsp0];rfl)) ?_;have ndl:dl≠b:=Y9 (as:=[d1,d2]) B19 e19;exact_mod_cast a5f (P:=fun σ H21=>∃sp s,σ=[some (.ref a),some (.ref b),some (.ref ra),some (.ref na),some (.ref da),some (.ref q1),some (.ref q2),some (.ref x),some (.ref bl),some (.ref br),some (.ref dl),some (.ref w),some (.ref sp),none,none]/\Bag H21 b d/\J3 b H19 H21/\H21 sp=some (.tup [.int s.1,.int s.2])/\a0F N s) ?_ ?_
 rotate_left
 ·intro nx hnx
  have e20:=k20.1 _ _ e19 ndl;have stay:∀ {H21:Hp},Bag H21 b d->J3 b H19 H21->nx [some (V.ref a),some (.ref b),some (.ref ra),some (.ref na),some (.ref da),some (.ref q1),some (.ref q2),some (.ref x),some (.ref bl),some (.ref br),some (.ref dl),some (.ref w),some (.ref sp0),none,none] H21:=fun B21 k21=>hnx _ _ ⟨sp0,st0,rfl,B21,k21,k21.ts B19 _ _ (w3' n2 sp0 st0 hsp0 hst0),a1O (mI hst0)⟩
  obtain⟨ps3,u1,u2,u3⟩:=id (W19a.kept B19 k20).ex;have fl:=M7 (Z2 N Do1 Sp1 (frS Sr1) (frS Sw1)) (F2 N)
  ext
  exists C0 e20 (Z3 _ _) ?_;exists L9 u1 ?_;rw[b9,u2];by_cases h0:0<((F2 N).filter (Z2 N Do1 Sp1 (frS Sr1) (frS Sw1))).length
  ·refine A2 (d6x (by omega)) ?_
   ext
   refine Q5 (E:=E0) B20 (by decide) (by decide) fun n3 H21 c2 c3 B21 k21=>?_
   ext
   refine a3P (fun _=>?_) (fun _=>?_)
   ·ext
    have e21:=k21.1 _ _ e20 ndl;have u21:=k21.1 _ _ u1 (Y9 B20 u1);exists C0 e21 (Z3 _ _) ?_;exists C0 e21 (Z3 _ _) ?_;exists L9 u21 ?_;rw[b9,u2];refine Q5 (E:=E0) B21 (by omega) (by omega) fun n4 H22 c4 c5 B22 k22=>?_
    obtain⟨n4,rfl⟩:∃n:Nat,n4=(n:Int):=⟨n4.toNat,by omega⟩;obtain⟨sp1,hsp1⟩:∃y,ps3[n4]? = some y:=⟨_,c8 (by omega)⟩;obtain⟨st1,hst1⟩:∃y,((F2 N).filter (Z2 N Do1 Sp1 (frS Sr1) (frS Sw1)))[n4]? = some y:=⟨_,c8 (by omega)⟩;exists C0 (k22.1 _ _ u21 (Y9 B21 u21)) (P4 (by rw[b6,hsp1];rfl)) ?_;exact hnx _ _ ⟨sp1,st1,rfl,B22,k20.trans (k21.trans k22),(k21.trans k22).ts B20 _ _ (u3 n4 sp1 st1 hsp1 hst1),a1O (E8.mp (mI hst1)).1⟩
   ·ext
    exact stay B21 (k20.trans k21)
  ·refine p8 (d6w (by omega)) ?_
   ext
   exact stay B20 k20
 rintro _ H21 ⟨sp,s,rfl,B21,k21,hsp,is⟩;have pz21:=pz19.kept B19 hv.two k21;have t21:=k21.ts B19;have L21:=L19.kept B19 k21 pz21.r pz21.at;have M21:=M19.kept B19 k21 pz21.r pz21.at;have W21a:=W19a.kept B19 k21;have W21b:=W19b.kept B19 k21;have e21:=k21.1 _ _ e19 ndl;have T21:=T19.kept B19 hv.two k21;have hra21:=k21.1 _ _ hra19 (Y9 B19 hra19);exact_mod_cast N7 ?_;exact_mod_cast b6F ?_;refine a8u ck pz21.r pz21.q pz21.at hv (dq19a.ts t21) (sat19a.ts t21) rfl rfl fun bf H22 Sr3 Sw3 gr3 gw3 hbf F22 s22=>?_
 obtain⟨fx,frx,fwx,fd,f1,_⟩:=id F22.ex
 ext
 nofun
 specialize V2 ?_;exists ⟨bf,fx,_,rfl,f1,a6h (.inr rfl) (by decide),?_⟩;refine c2o (E:=E0) ck F22 hv (.inl (s22 _ _ hsp)) is fun v1 H23 wp1 s23=>?_
 have s2123:=s22.trans s23
 ext
 nofun
 specialize V2 ?_;exists ⟨bf,fx,_,rfl,s23 _ _ f1,a6h (.inr rfl) (by decide),?_⟩;refine c2o (E:=E0) ck (F22.same s23) hv (.inl (s2123 _ _ hsp)) is fun v2 H24 wp2 s24=>?_
 have s2124:=s2123.trans s24;have wp:=wp1.same s24
 ext
 refine wp2.ne wp ?_
 ext
 refine p8 rfl ?_
 ext
 obtain⟨lx,lrx,lwx,ld,l1,lR,lW,_⟩:=id L21.ex;have both:=F22.due (fr:=frS Sr1) (fw:=frS Sw1) hv (fun t _=>by rw[<-lR.rdy.un];simp) (fun t _=>by rw[<-lW.un];simp);have W24:=W21a.same s2124;have W24':=W24;rw[both]at W24'
 have mem:decide (s∈(F2 N).filter (Z2 N Do1 Sp1 (frS Sr3) (frS Sw3)))=Z2 N Do1 Sp1 (frS Sr3) (frS Sw3) s:=by
  rw[V1,decide_eq_true_iff,E8];exact⟨fun z=>z.2,fun z=>⟨a3s is,z⟩⟩
 have hsp24:=s2124 _ _ hsp;have e24:=s2124 _ _ e21
 nofun
 exists C0 e24 (Z3 _ _) ?_;refine W24'.in_ (neg:=true) hsp24 ?_;rw[if_pos rfl,mem]
 ext
 have fin:∀ {H25:Hp},d9 H24 H25->(E1 (a0L (u9 (a5j K c) [] E0 (a9 (b4 2) (a9 (b4 3) (a9 (b4 5) (a9 (b4 8) (a9 (tOp qIx (b4 10) (tC (.int 0))) (d7))))))) (u9 (a5j K c) [] E0 (a9 (b4 2) (a9 (b4 3) (a9 (b4 6) (a9 (b4 9) (a9 (tOp qIx (b4 10) (tC (.int 1))) (d7))))))))) { nx:=fun _ H'=>(fun v _=>v=V.bl true) V.non H',rt:=fun v _=>v=V.bl true } [some (V.ref a),some (.ref b),some (.ref ra),some (.ref na),some (.ref da),some (.ref q1),some (.ref q2),some (.ref x),some (.ref bl),some (.ref br),some (.ref dl),some (.ref w),some (.ref sp),some (.ref bf),some v1] H25:=by
  intro H25 s25;have s2125:=s2124.trans s25
  ext
  exists C0 (s2125 _ _ e21) (Z3 _ _) ?_;refine b3H (E:=E0) ck (L21.same s2125) hv (s2125 _ _ hra21) lrs (T21.same s2125) ((dq19a.ts t21).ts (d9.ts s2125)) ((sat19a.ts t21).ts (d9.ts s2125)) (W21a.same s2125) fun H26 s26=>?_
  have s2126:=s2125.trans s26;refine⟨_,rfl,A2 rfl ?_⟩
  ext
  exists C0 (s2126 _ _ e21) (a5p _ _ _) ?_;exact b3H (E:=E0) ck (M21.same s2126) hv (s2126 _ _ hra21) lrs (T21.same s2126) ((dq19b.ts t21).ts (d9.ts s2126)) ((sat19b.ts t21).ts (d9.ts s2126)) (W21b.same s2126) fun H27 s27=>rfl
 cases hb:Z2 N Do1 Sp1 (frS Sr3) (frS Sw3) s with
 | false=>
  have hn:decide (v1=.non)=true:=by rw[wp.brk,hb];rfl
  refine A2 rfl ?_
  ext
  refine⟨rfl,?_⟩
  ext
  refine p8 (by rw[hn];rfl) ?_
  ext
  nofun
  exists C0 e24 (Z3 _ _) ?_;refine W24'.in_ (neg:=false) hsp24 ?_;rw[if_neg (by decide),mem,hb]
  ext
  refine p8 rfl ?_;refine p8 rfl ?_;exact_mod_cast a9Q ?_;exact fin (d9.refl _)
 | true=>
  refine p8 rfl ?_;refine p8 rfl ?_
  ext
  nofun
  exists C0 e24 (Z3 _ _) ?_;refine W24'.in_ (neg:=false) hsp24 ?_;rw[if_neg (by decide),mem,hb]
  ext
  refine A2 rfl ?_
  ext
  refine wp.why (E:=E0) hb (s2124 _ _ hra21) lrs (T21.same s2124) hv ((dq19a.ts t21).ts (d9.ts s2124)) ((sat19a.ts t21).ts (d9.ts s2124)) hsp24 fun H25 s25=>?_
  ext
  refine p8 rfl ?_;exact_mod_cast a9Q ?_;exact fin s25
end RD
set_option maxHeartbeats 0
namespace PR
open PySem L2 RD Y
abbrev d4N:Str:="__init__"
abbrev d4O:Str:="_law_script"
abbrev d4P:Str:="_law_bag"
abbrev d4Q:Str:="_law_bag_here"
abbrev d4R:Str:="_law_many"
abbrev d4S:Str:="_law_take"
abbrev d4T:Str:="_law_nexts"
abbrev d4U:Str:="_law_k"
abbrev d4V:Str:="_law_some"
abbrev d4W:Str:="_law_way"
abbrev d4X:Str:="_law_net"
abbrev d4Y:Str:="_law_good"
abbrev d4Z:Str:="_law_turn"
abbrev d5a:Str:="_law_reached"
abbrev d5b:Str:="_law_one"
abbrev d5c:Str:="_law_order"
abbrev d5d:Str:="_law_mended"
abbrev d5e:Str:="_law_name"
abbrev d5f:Str:="_law_found"
abbrev d5g:Str:="_law_names"
abbrev d5h:Str:="_law_names_here"
abbrev d5i:Str:="_law_operand"
abbrev d5j:Str:="_law_deed"
abbrev d5k:Str:="_law_deeds"
abbrev d5l:Str:="_law_row"
abbrev d5m:Str:="_law_rows"
abbrev d5n:Str:="_law_plan"
abbrev d5o:Str:="_law_steps_here"
abbrev d5p:Str:="_law_steps"
abbrev d5q:Str:="_law_row_here"
abbrev d5r:Str:="_law_deed_here"
abbrev d5s:Str:="_law_spoils"
abbrev d5t:Str:="_law_does"
abbrev d5u:Str:="_law_step"
abbrev d5v:Str:="_law_to"
abbrev d5w:Str:="_law_ready_here"
abbrev d5x:Str:="_law_ready"
abbrev d5y:Str:="_law_wanted_here"
abbrev d5z:Str:="_law_wanted"
abbrev d5A:Str:="_law_brinks_here"
abbrev d5B:Str:="_law_brinks"
abbrev d5C:Str:="_law_int"
abbrev d5D:Str:="_law_step_list"
abbrev d5E:Str:="_law_place"
abbrev d5F:Str:="_law_follows"
abbrev d5G:Str:="_law_places"
abbrev d5H:Str:="_law_unready"
abbrev d5I:Str:="_law_unwanted"
abbrev d5J:Str:="_law_why_here"
abbrev d5K:Str:="_law_why"
abbrev d5L:Str:="self"
abbrev d5M:Str:="steps"
abbrev d5N:Str:="deed"
abbrev d5O:Str:="step"
abbrev d5P:Str:="is_spoilt_ahead"
abbrev d5Q:Str:="place"
abbrev d5R:Str:="plan"
abbrev d5S:Str:="goes_by"
abbrev d5T:Str:="followed"
abbrev d5U:Str:="nexts"
abbrev d5V:Str:="following"
abbrev d5W:Str:="stops_of"
abbrev d5X:Str:="order"
abbrev d5Y:Str:="way_unwanted"
abbrev d5Z:Str:="target"
abbrev d6a:Str:="way_unwanted_behind"
abbrev d6b:Str:="come_by"
abbrev d6c:Str:="begins_unready"
abbrev d6d:Str:="_law_due"
abbrev d6e:Str:="_law_told"
abbrev d6f:Str:="check_length"
abbrev d6g:Str:="thing"
abbrev d6h:Str:="is_whole"
abbrev d6i:Str:="is_value"
abbrev d6j:Str:="is_operand"
abbrev d6k:Str:="check_each"
abbrev d6l:Str:="is_below"
abbrev d6m:Str:="are_nexts"
abbrev d6n:Str:="rows"
abbrev d6o:Str:="check_nexts"
abbrev d6p:Str:="check_ways"
abbrev d6q:Str:="steps_of"
abbrev d6r:Str:="ready_behind"
abbrev d6s:Str:="wanted_behind"
abbrev d6t:Str:="unready_steps"
abbrev d6u:Str:="unwanted_ends"
abbrev d6v:Str:="unwanted_steps"
section
def top(i:Nat):Stmt:=PySem.Challenge.pw_oncedone_k51_brinks_with_papers.main.body.getD i (.Pass ⟨0,0,0,0⟩)
abbrev c2z:Stmt:=top 55
abbrev c1e:Stmt:=top 56
abbrev c5W:Stmt:=top 57
abbrev a6M:Stmt:=top 58
abbrev b7y:Stmt:=top 59
abbrev b7x:Stmt:=top 60
abbrev b2j:Stmt:=top 61
abbrev c1i:Stmt:=top 62
abbrev c5T:Stmt:=top 63
abbrev c1f:Stmt:=top 64
abbrev b7v:Stmt:=top 67
abbrev a7j:Stmt:=top 66
abbrev a9R:Stmt:=top 65
abbrev d0P:Stmt:=top 68
abbrev b7w:Stmt:=top 69
abbrev b1a:Stmt:=top 70
abbrev b1e:Stmt:=top 71
abbrev c5X:Stmt:=top 77
abbrev a8l:Stmt:=top 78
abbrev b2l:Stmt:=top 80
abbrev b1c:Stmt:=top 75
abbrev b2g:Stmt:=top 81
abbrev a9P:Stmt:=top 82
abbrev c5Q:Stmt:=top 83
abbrev a5H:Stmt:=C8 (top 53) 3
abbrev b4E:Stmt:=top 15
abbrev b4D:Stmt:=top 17
abbrev a1d:Stmt:=C8 (top 53) 2
abbrev a3d:Stmt:=C8 (top 51) 1
abbrev a4Y:Stmt:=C8 (top 38) 2
abbrev a9V:Stmt:=top 43
abbrev a7h:Stmt:=top 33
abbrev a7n:Stmt:=C8 (top 38) 4
abbrev a3I:Stmt:=C8 (top 38) 3
abbrev b0Z:Stmt:=top 42
abbrev a1T:Stmt:=C8 (top 51) 4
abbrev T8:Stmt:=C8 (top 53) 5
abbrev b4C:Stmt:=top 41
abbrev b4B:Stmt:=top 40
abbrev a4j:Stmt:=C8 (top 47) 1
abbrev a1C:Stmt:=C8 (top 47) 4
abbrev a2C:Stmt:=C8 (top 47) 5
abbrev a3e:Stmt:=C8 (top 53) 4
abbrev c1d:Stmt:=top 84
abbrev a5G:Stmt:=top 27
abbrev a8S:Stmt:=top 9
abbrev a9S:Stmt:=top 7
abbrev a9T:Stmt:=top 8
abbrev a7k:Stmt:=top 10
abbrev b2k:Stmt:=top 11
abbrev b4F:Stmt:=top 12
abbrev a7m:Stmt:=top 28
abbrev a9U:Stmt:=top 26
abbrev a6f:Stmt:=top 31
abbrev a4u:Stmt:=top 32
abbrev b2h:Stmt:=top 35
abbrev b1b:Stmt:=top 34
abbrev a7l:Stmt:=top 36
abbrev a7i:Stmt:=top 37
abbrev a3r:Stmt:=C8 (top 38) 0
abbrev a7o:Stmt:=C8 (top 38) 1
abbrev a3c:Stmt:=C8 (top 51) 3
abbrev b2n:Stmt:=top 14
abbrev c1g:Stmt:=top 16
abbrev a2i:Stmt:=C8 (top 47) 2
abbrev a4i:Stmt:=C8 (top 47) 3
abbrev a0m:Stmt:=C8 (top 51) 2
abbrev a3J:Stmt:=C8 (top 53) 1
abbrev b2i:Stmt:=top 45
abbrev a4X:Stmt:=top 46
abbrev a3H:Stmt:=C8 (top 47) 0
abbrev a4W:Stmt:=top 49
abbrev a2s:Stmt:=top 50
abbrev a6p:Stmt:=C8 (top 51) 0
abbrev a4v:Stmt:=C8 (top 53) 0
abbrev b9q:Stmt:=top 85
structure Txt(K:Fg)(mg:Str->Option Value)(c:Cn):Prop where
 d4l:mg "abs" = none
 c0B:mg "all" = none
 d4k:mg "any" = none
 c7J:mg "bool" = none
 c2m:mg "dict" = none
 a1y:mg "enumerate" = none
 d0B:mg "int" = none
 Q7:mg "isinstance" = none
 M9:mg "len" = none
 a4q:mg "list" = none
 d4j:mg "min" = none
 a1a:mg "range" = none
 c7I:mg "sorted" = none
 d4i:mg "str" = none
 b3U:mg "tuple" = none
 d4h:mg "zip" = none
 c9X:∃u,mg "BOUND" = some u/\K8 (.int 1000000000000) u
 b8B:∃u,mg "DEED_KINDS" = some u/\K8 (.ref c.a7K) u
 c4U:∃u,mg "FIGURES" = some u/\K8 (.str "0123456789") u
 U1:∃u,mg "FIRST_STEP" = some u/\K8 (.ref c.I0) u
 b7b:∃u,mg "LETTERS" = some u/\K8 (.str "abcdefghijklmnopqrstuvwxyz") u
 b5I:∃u,mg "LONGEST_NAME" = some u/\K8 (.int 8) u
 d2T:∃u,mg "MOST" = some u/\K8 (.int 400) u
abbrev scF(ns:List (Str×a9r)):Scope:={ kind:=.function,names:=ns,isGenerator:=false,isCoroutine:=false,more:=[] }
local macro_rules | `(tactic| walk_at "c0") => `(tactic| exact ⟨rfl, by decide +kernel, by decide +kernel, rfl, by decide +kernel, by decide +kernel, rfl, by decide +kernel⟩)
local macro_rules | `(tactic| walk_at "c1") => `(tactic| exact ⟨rfl, by decide +kernel, by decide +kernel, rfl, c2L (by decide +kernel), by decide +kernel, rfl, by decide +kernel⟩)
local macro_rules | `(tactic| walk_at "c2") => `(tactic| exact ⟨rfl, by decide +kernel, by decide +kernel, rfl, rfl, by decide +kernel, by decide +kernel, rfl, rfl, by decide +kernel⟩)
local macro_rules | `(tactic| walk_at "c3") => `(tactic| exact ⟨rfl, by decide +kernel, by decide +kernel, rfl, rfl, c2L (by decide +kernel), by decide +kernel, rfl, rfl, by decide +kernel⟩)
def c7E(f:List Value->Prop):List Str->Prop
 | []=>f []
 | _::r=>∀u,c7E (fun us=>f (u::us)) r
theorem c7E.mp:∀ {ps:List Str} {f:List Value->Prop},c7E f ps->∀us,us.length=ps.length->f us
 | [],_,h,[],_=>h
 | _::_,_,h,u::us,e=>c7E.mp (h u) us (Nat.succ.inj e)
section
variable {P:D8}{w:World}{K:Fg}{mg:Str->Option Value}{base h:Heap}{c:Cn}{f C:Addr}{fd:a2b}{x q:Str}{st:Stmt}{N ps:List Str}{k:Nat}{t:TS}{pm cd:Value}{sp:Sp}
open PySem.Spec PyProof.Rows in
theorem fk(F:Fun K x q st f fd)(S:v7 N ps (g0 st))(b:∀cdv A outer s H E,X1 k (A.deeper (b8I q (g0 st) s.heap.objs.size f cdv))->N.Nodup->b5Q (c0e CX0 P w K mg base N q (g0 st) f cdv A outer s H E).nox (a4w st) t):J1 P w K mg base CX0 (k+1) f fd ps (spD ps.length N.length t):=
 b8P F S (fun _ _ _ _ h=>h.1) fun cdv A outer s H _ _ E hr h=>⟨t,b cdv A outer s H E hr S.nd,h.2⟩
abbrev fdM(x q:Str)(st:Stmt)(pm cd:Value):a2b:=a2E x q (a7D st) (a4w st) (g0 st) .none .none .none pm none cd .none
structure FnI(K:Fg)(x q:Str)(st:Stmt)(f:Addr)(pm cd:Value):Prop where
 l:K.lookup f=some ⟨.type "function",none,.func (fdM x q st pm cd),#[]⟩
 c:a9n K cd q=true
 k:a0J K (.ref f)=true
structure FnG(K:Fg)(x:Str)(st:Stmt)(f:Addr)(pm cd:Value):Prop where
 i:FnI K x x st f pm cd
 a:D4 K A7 x=some (some (.ref f))
structure FnM(K:Fg)(C:Addr)(x q:Str)(st:Stmt)(f:Addr)(pm cd:Value):Prop where
 i:FnI K x q st f pm cd
 a:A6 K (.ref C) x=some (some (.ref f))
 n:b2U K (.ref f)=true
theorem FnI.F(h:FnI K x q st f pm cd):Fun K x q st f (fdM x q st pm cd):=d2v h.l h.c h.k
abbrev BdA(x q:Str)(st:Stmt)(ps:List Str):Prop:=∀(kV doc pm:Value) (an:Option Addr) (cdv ct:Value),c7E (fun us=>bindArgs (a2E x q (a7D st) (a4w st) (g0 st) .none kV doc pm an cdv ct) ⟨us,[]⟩=pure (ps.zip us)) ps
theorem mkC(X:K.In h)(G:h.Ns A7 mg)(g:FnG K x st f pm cd)(O:J1 P w K mg base CX0 k f (fdM x x st pm cd) ps sp)(B:BdA x x st ps):E3 P w K mg base k x ps sp:=c4B g.i.F O (a0B X G g.a) (g.i.F.binds fun _ _ _ _ _ _ us hl=>(B _ _ _ _ _ _).mp us hl)
theorem mkM(g:FnM K C x q st f pm cd)(cl:Cls K C)(O:J1 P w K mg base CX0 k f (fdM x q st pm cd) ps sp)(B:BdA x q st ps):X2 P w K mg base k x C ps sp:=⟨_,_,O,cl,⟨g.a,g.n,g.i.k⟩,g.i.F.binds fun _ _ _ _ _ _ us hl=>(B _ _ _ _ _ _).mp us hl⟩
theorem mkK{y:Str}(X:K.In h)(G:h.Ns A7 mg)(g:FnM K C d4N q st f pm cd)(y1:D4 K A7 y=some (some (.ref C)))(m:a7W K C=true)(kc:a0J K (.ref C)=true)(O:J1 P w K mg base CX0 k f (fdM d4N q st pm cd) ps sp)(B:BdA d4N q st ps):b3r P w K mg base k y C ps sp:=⟨_,_,O,a0B X G y1,⟨m,g.a,g.n,kc⟩,g.i.F.binds fun _ _ _ _ _ _ us hl=>(B _ _ _ _ _ _).mp us hl⟩
end
section
variable {P:D8}{w:World}{K:Fg}{mg:Str->Option Value}{base:Heap}{c:Cn}{f:Addr}{fd:a2b}(T:Txt K mg c)
abbrev c6K:List Str:=[d4O]
theorem d0O:v7 [d4O] c6K (g0 c2z):=by walk_at "sc"
theorem c7q:V6 [d4O] (g0 c2z) (scF [ (".0",.local),("_law_cell",.local),("abs",.globalImplicit)]) "_law_cell" := by walk_at "c0"
include T in
theorem d2d(F:Fun K d4P d4P c2z f fd):J1 P w K mg base CX0 1 f fd c6K (b7q K):=fk F d0O fun _ _ _ _ _ _ hr nd=>c6 (g9 (F4 (c5o c7 c7 c7 (O6 c7q rfl (E7 (a2Z c3g (b8 0) a4f (a4e c7))) (fun _ _ _ _ _=>M3) (fun _ _ _ _ _=>j6 b8S rfl T.d4l PyProof.Rows.boot_abs (j7 (b8 0)))))))
variable(c2V:E3 P w K mg base 1 d4P c6K (b7q K))
abbrev c1v:List Str:=[d4Q,d4R]
theorem c8e:v7 [d4Q,d4R,"_law_more","_law_cell","_law_value","_law_first","_law_second"] c1v (g0 c1e):=by walk_at "sc"
include T in
theorem c9h(F:Fun K d4S d4S c1e f fd):J1 P w K mg base CX0 1 f fd c1v (M8 K):=fk F c8e fun _ _ _ _ _ _ hr nd=>b5 (v8 (D3 (E4 hr) (j8 (b8 0) c7) c7) (b5 (v9 2 nd c7) (b5 (v8 (D3 a0d (j8 (b8 0) c7) (j6 p9 rfl T.M9 j5 (j7 (j8 (b8 0) c7)))) (b5 (v9 3 nd (j8 (j8 (b8 0) c7) (j8 (b8 0) c7))) (b5 (c3h (b8 0) c7 c7Q c7 a8e a8H) (b5 (v8 (D3 c5p (b8 3) c7) (c6 (a6w (b8 3) (a8b (b8 0) c7 a8H))) o7) (c6 (v9 2 nd (J2 U6 (J2 a3p (b8 3) c7) c7)))))) o7) (c6 (a6w (J2 a3p (J2 U6 (J2 a6z (j8 (b8 0) c7) c7) (b8 2)) c7) (a8b (b8 0) c7 a8H))))) o7) (b5 (v8 (D3 a2K (j8 (b8 0) c7) c7) (b5 (v9 4 nd (J2 a3p (j8 (b8 0) c7) (b8 1))) (b5 (a6w (J2 b6v (j8 (b8 0) c7) (b8 1)) (a8b (b8 0) c7 a8H)) (c6 (g9 (b8 4))))) o7) (b5 (v9 5 nd (J2 a3p (J2 a6z (j8 (b8 0) c7) c7) c7)) (b5 (v9 6 nd (J2 a3p (J2 a6z (b8 5) c7) c7)) (b5 (v8 (D3 a2K (b8 1) c7) (c6 (g9 (J2 a3p (J2 U6 (J2 a6z (b8 6) c7) (b8 5)) (b8 1)))) o7) (c6 (g9 (J2 a3p (J2 b6v (b8 6) c7) (b8 1))))))))
variable(K6:E3 P w K mg base 1 d4S c1v (M8 K))
abbrev c6I:List Str:=[d4Q,d4R]
theorem d0M:v7 [d4Q,d4R,d4T,d4U,"_law_near",d4V,d4W] c6I (g0 c5W):=by walk_at "sc"
include T K6 in
theorem d2a(F:Fun K d4X d4X c5W f fd):J1 P w K mg base CX0 2 f fd c6I (b7p K):=fk F d0M fun _ _ _ _ _ _ hr nd=>b5 (v9 2 nd (F4 Y1)) (b5 (G0 PassesOwn.never rfl (O7 rfl T.a1a (j7 (b8 1))) (L8 3 nd) (b5 (v9 4 nd (j6 (b8Q rfl) rfl T.d4j PyProof.Rows.boot_min (y9 (J2 U6 (b8 3) c7) (J2 a8K (b8 1) c7)))) (b5 (v9 5 nd (F4 (y9 (b8 4) (o8 K6 hr (y9 (b8 0) (b8 1)))))) (b5 (v9 6 nd (o8 K6 hr (y9 (b8 0) c7))) (b5 (v8 (D3 a0d (b8 6) c7) (c6 (v9 5 nd (F4 (y9 (j8 (b8 5) c7) (b8 4))))) o7) (b5 (v8 (D3 (E4 hr) (b8 6) c7) (c6 (v9 5 nd (F4 (y9 (j8 (b8 5) c7) (o8 K6 hr (y9 (b8 0) (b8 1))))))) o7) (b5 (v8 (M0 (Q0 (M0 (a1r (D3 a2K (b8 6) c7) (a1q (D3 a0d (b8 6) c7)))) (Q9 (D3 (E4 hr) (b8 1) c7)))) (c6 (v9 5 nd (F4 (j7 (b8 4))))) o7) (b5 (v8 (M0 (a1r (D3 (E4 hr) (b8 6) c7) (a1q (D3 a2K (b8 1) c7)))) (c6 (v9 5 nd (F4 (j7 (j8 (b8 5) c7))))) o7) (b5 (v8 (M0 (Q0 (D3 (E4 hr) (b8 3) (J2 a8K (b8 1) c7)) (Q9 (M0 (a1r (D3 (E4 hr) (b8 6) c7) (a1q (D3 (E4 hr) (o8 K6 hr (y9 (b8 0) c7)) c7))))))) (c6 (v9 5 nd (F4 Y1))) o7) (c6 (E6 (U9 l5 v5 v0 F6 (b8 2) (j7 (b8 5)))))))))))))) (c6 (g9 (b8 2))))
variable(c2U:E3 P w K mg base 2 d4X c6I (b7p K))
abbrev b4U:List Str:=[d4T]
theorem c3G:v7 [d4T,d4Y,d4Z,d4U,d5a,d5b,d5c] b4U (g0 a6M):=by walk_at "sc"
theorem c0n:V6 [d4T,d4Y,d4Z,d4U,d5a,d5b,d5c] (g0 a6M) (scF [ (".0",.local),(d5b,.local),(d4Y,.free)]) d5b := by walk_at "c0"
theorem c0m:V6 [d4T,d4Y,d4Z,d4U,d5a,d5b,d5c] (g0 a6M) (scF [ (".0",.local),(d4U,.local),("len",.globalImplicit),(d4Y,.free),(d4T,.free)]) d4U := by walk_at "c0"
theorem c0l:V6 [d4T,d4Y,d4Z,d4U,d5a,d5b,d5c] (g0 a6M) (scF [ (".0",.local),(d4U,.local),(d4T,.free),(d5c,.free)]) d4U := by walk_at "c0"
theorem c0k(env:Env):V6 [d4U,d4T,d4Y,d4Z,"._law_k",d5a,d5b,d5c] (b1M (scF [ (".0",.local),(d4U,.local),(d4T,.free),(d5c,.free)]) env) (scF [ (".0",.local),(d5b,.local),(d5c,.free)]) d5b := by walk_at "c1"
include T in
theorem c4d(F:Fun K d5d d5d a6M f fd):J1 P w K mg base CX0 1 f fd b4U (a8Q K):=fk F c3G fun _ _ _ _ _ _ hr nd=>b5 (v9 1 nd a9J) (b5 (G0 PassesOwn.never rfl (O7 rfl T.a1a (j7 (j6 p9 rfl T.M9 j5 (j7 (b8 0))))) (L8 2 nd) (c6 (G0 PassesOwn.never rfl (O7 rfl T.a1a (j7 (j6 p9 rfl T.M9 j5 (j7 (b8 0))))) (L8 3 nd) (c6 (v8 (M0 (Q0 (D3 (E4 hr) (j8 (b8 0) (b8 3)) (F4 Y1)) (Q9 (C2 (j6 (b8R rfl) rfl T.d4k PyProof.Rows.boot_any (j7 (O6 c0n rfl (E7 (j8 (b8 0) (b8 3))) (fun _ _ _ _ _=>M3) (fun _ _ _ _ _=>c5n hr (b8 0) (b8 2) rfl)))))))) (c6 (a3m hr (b8 1) (b8 3) K5)) o7))))) (b5 (v9 0 nd (O6 c0m rfl (O7 rfl T.a1a (j7 (j6 p9 rfl T.M9 j5 (j7 (b8 0))))) (fun _ _ _ _ _=>M3) (fun _ _ _ _ _=>a5x (b8K hr (b8 0) (b8 2) rfl) (j8 (b8 1) (b8 0)) (J2 U6 (F4 (j7 (J2 a8K (j6 p9 rfl T.M9 j5 (j7 (b8 1))) c7))) (a2Z b1N (j8 (b8 1) (b8 0)) (a4e c7) a4f))))) (b5 (v9 4 nd (b1R (a9I c7 K5 b1P))) (b5 (G0 PassesOwn.never rfl (O7 rfl T.a1a (j7 (j6 p9 rfl T.M9 j5 (j7 (b8 0))))) (L8 2 nd) (c6 (G0 PassesOwn.never rfl (O7 rfl T.a1a (j7 (j6 p9 rfl T.M9 j5 (j7 (b8 0))))) (L8 3 nd) (c6 (v8 (b8K hr (b8 3) (b8 4) rfl) (c6 (G0 PassesOwn.never rfl (E7 (j8 (b8 0) (b8 3))) (L8 5 nd) (c6 (a3m hr (b8 4) (b8 5) K5)))) o7))))) (b5 (v9 6 nd (j6 b4f rfl T.c7I PyProof.Rows.boot_sorted (j7 (X5 (a9u rfl) rfl T.a4q D9 (j7 (b8 4)))))) (c6 (g9 (O6 c0l rfl (E7 (b8 6)) (fun _ _ _ _ _=>M3) (fun _ _ _ _ _=>O6 (c0k _) rfl (E7 (j8 (b8 1) (b8 0))) (fun _ _ _ _ _=>M3) (fun _ _ _ _ _=>U9 l5 b8C PySem.F.type_list_index b8N (b8 8) (j7 (b8 0))))))))))))
variable(b1z:E3 P w K mg base 1 d5d b4U (a8Q K))
abbrev c1x:List Str:=[d4Q,d4U]
theorem c8g:v7 [d4Q,d4U,"_law_size","_law_signs"] c1x (g0 b7y):=by walk_at "sc"
theorem c4A:V6 [d4Q,d4U,"_law_size","_law_signs"] (g0 b7y) (scF [ (".0",.local),(d4Z,.local),(d4S,.globalImplicit),(d4Q,.free),("_law_signs",.free)]) d4Z := by walk_at "c0"
include T K6 in
theorem c9j(F:Fun K d5e d5e b7y f fd):J1 P w K mg base CX0 2 f fd c1x (b3J K):=fk F c8g fun _ _ _ _ _ _ hr nd=>b5 (v8 (D3 (E4 hr) (o8 K6 hr (y9 (b8 0) c7)) c7) (c6 (g9 (j8 (F4 (X3 C6 (a9s C6 C6 C6 C6 C6))) (o8 K6 hr (y9 (b8 0) c7))))) o7) (b5 (v9 2 nd (J2 U6 (J2 a6z (o8 K6 hr (y9 (b8 0) c7)) c7) (J2 a3p (b8 1) c7))) (b5 (v9 3 nd C6) (c6 (g9 (J2 U6 (j8 (b8 3) (o8 K6 hr (y9 (b8 0) c7))) (U9 PySem.F.plainAttrs_str PySem.F.slot_str_join PySem.F.type_str_join c0G C6 (j7 (O6 c4A rfl (O7 rfl T.a1a (j7 (b8 2))) (fun _ _ _ _ _=>M3) (fun _ _ _ _ _=>j8 (b8 4) (o8 K6 hr (y9 (b8 1) c7)))))))))))
variable(b8i:E3 P w K mg base 2 d5e c1x (b3J K))
abbrev b7K:List Str:=[d4Q]
theorem c5O:v7 [d4Q,d5f,d4U] b7K (g0 b7x):=by walk_at "sc"
include T K6 b8i in
theorem c6P(F:Fun K d5g d5g b7x f fd):J1 P w K mg base CX0 3 f fd b7K (b0U K):=fk F c5O fun _ _ _ _ _ _ hr nd=>b5 (v9 1 nd a9J) (b5 (G0 PassesOwn.never rfl (O7 rfl T.a1a (j7 (J2 U6 c7 (o8 K6 hr (y9 (b8 0) c7))))) (L8 2 nd) (c6 (a3m hr (b8 1) (o8 b8i hr (y9 (b8 0) (b8 2))) K5))) (c6 (g9 (X5 (a9u rfl) rfl T.a4q D9 (j7 (b8 1))))))
variable(b3Q:E3 P w K mg base 3 d5g b7K (b0U K))
abbrev b2u:List Str:=[d4Q,d5h]
theorem c0X:v7 [d4Q,d5h,d4W] b2u (g0 b2j):=by walk_at "sc"
include T K6 in
theorem c1E(F:Fun K d5i d5i b2j f fd):J1 P w K mg base CX0 2 f fd b2u (a2f K):=fk F c0X fun _ _ _ _ _ _ hr nd=>b5 (v8 (D3 a2K (o8 K6 hr (y9 (b8 0) c7)) c7) (c6 (g9 (j8 (b8 1) (o8 K6 hr (y9 (b8 0) (j6 p9 rfl T.M9 j5 (j7 (b8 1)))))))) o7) (b5 (v9 2 nd (o8 K6 hr (y9 (b8 0) c7))) (b5 (v8 (D3 a0d (b8 2) c7) (c6 (g9 (b8 2))) o7) (b5 (v8 (D3 (E4 hr) (b8 2) c7) (c6 (g9 c7)) o7) (c6 (g9 (o8 K6 hr (y9 (b8 0) c7)))))))
variable(a0O:E3 P w K mg base 2 d5i b2u (a2f K))
abbrev c1z:List Str:=[d4Q,d5h]
theorem c8i:v7 [d4Q,d5h,"_law_kind"] c1z (g0 c1i):=by walk_at "sc"
include T K6 a0O in
theorem c9l(F:Fun K d5j d5j c1i f fd):J1 P w K mg base CX0 3 f fd c1z (b0V K):=fk F c8i fun _ _ _ _ _ _ hr nd=>b5 (v9 2 nd (j8 (F4 (a9s C6 C6 C6 C6 C6)) (o8 K6 hr (y9 (b8 0) c7)))) (c6 (g9 (K0 (a3o (b8 2) (o8 a0O hr (y9 (b8 0) (b8 1))) (o8 a0O hr (y9 (b8 0) (b8 1)))))))
variable(b0o:E3 P w K mg base 3 d5j c1z (b0V K))
abbrev c6H:List Str:=[d4Q,d5h,d5k]
theorem d0L:v7 [d4Q,d5h,d5k,d4W,"_law_name_here"] c6H (g0 c5T):=by walk_at "sc"
include T K6 a0O in
theorem d1Z(F:Fun K d5l d5l c5T f fd):J1 P w K mg base CX0 3 f fd c6H (b7o K):=fk F d0L fun _ _ _ _ _ _ hr nd=>b5 (v9 3 nd (o8 K6 hr (y9 (b8 0) c7))) (b5 (v9 4 nd (j8 (b8 1) (o8 K6 hr (y9 (b8 0) (j6 p9 rfl T.M9 j5 (j7 (b8 1))))))) (b5 (v8 (D3 a0d (b8 3) c7) (c6 (g9 (K0 (a3o C6 (b8 4) (j8 (b8 2) (o8 K6 hr (y9 (b8 0) (j6 p9 rfl T.M9 j5 (j7 (b8 2)))))))))) o7) (b5 (v8 (D3 (E4 hr) (b8 3) c7) (c6 (g9 (K0 (a3o C6 (b8 4) (o8 a0O hr (y9 (b8 0) (b8 1))))))) o7) (b5 (v8 (D3 (E4 hr) (b8 3) c7) (c6 (g9 (K0 (y9 C6 (b8 4))))) o7) (c6 (g9 (j8 (F4 (y9 (K0 (y9 C6 (o8 a0O hr (y9 (b8 0) (b8 1))))) (K0 (j7 C6)))) (o8 K6 hr (y9 (b8 0) c7)))))))))
variable(c2T:E3 P w K mg base 3 d5l c6H (b7o K))
abbrev c1w:List Str:=[d4Q]
theorem c8f:v7 [d4Q,"_law_large",d4R,d4T,d5h,d5k,d4U,d5m,d4V] c1w (g0 c1f):=by walk_at "sc"
include T K6 c2U b1z b3Q a0O b0o c2T in
theorem c9i(F:Fun K d5n d5n c1f f fd):J1 P w K mg base CX0 4 f fd c1w (b3I K):=fk F c8f fun _ _ _ _ _ _ hr nd=>b5 (v9 1 nd (a3D (E4 hr) (o8 K6 hr (y9 (b8 0) c7)) c7)) (b5 (v9 2 nd (J2 U6 c7 (o8 K6 hr (y9 (b8 0) c7)))) (b5 (v8 (C2 (b8 1)) (c6 (v9 2 nd (J2 U6 c7 (o8 K6 hr (y9 (b8 0) c7))))) o7) (b5 (v9 3 nd (o8 b1z hr (j7 (o8 c2U hr (y9 (b8 0) (b8 2)))))) (b5 (v9 4 nd (o8 b3Q hr (j7 (b8 0)))) (b5 (v9 5 nd (F4 Y1)) (b5 (G0 PassesOwn.never rfl (O7 rfl T.a1a (j7 (J2 U6 c7 (o8 K6 hr (y9 (b8 0) c7))))) (L8 6 nd) (c6 (E6 (U9 l5 v5 v0 F6 (b8 5) (j7 (o8 b0o hr (y9 (b8 0) (a2Z b1N (b8 4) a4f (a4e c7))))))))) (b5 (v9 7 nd (F4 Y1)) (b5 (G0 PassesOwn.never rfl (E7 (b8 3)) (L8 8 nd) (c6 (v8 (D3 (E4 hr) (j6 p9 rfl T.M9 j5 (j7 (b8 8))) c7) (c6 (E6 (U9 l5 v5 v0 F6 (b8 7) (j7 (K0 (y9 C6 (o8 a0O hr (y9 (b8 0) (b8 4))))))))) (c6 (E6 (U9 l5 v5 v0 F6 (b8 7) (j7 (o8 c2T hr (a3o (b8 0) (b8 4) (b8 5)))))))))) (c6 (g9 (K0 (a3o (b8 7) (b8 3) (b8 5)))))))))))))
variable(b8h:E3 P w K mg base 4 d5n c1w (b3I K))
abbrev b7I:List Str:=[d4T]
theorem c5M:v7 [d4T,d5o,d4U,"_law_at"] b7I (g0 b7v):=by walk_at "sc"
include T in
theorem c6N(F:Fun K d5p d5p b7v f fd):J1 P w K mg base CX0 1 f fd b7I (a5C K):=fk F c5M fun _ _ _ _ _ _ hr nd=>b5 (v9 1 nd (F4 (j7 (K0 (y9 (a4r a2H c7) c7))))) (b5 (G0 PassesOwn.never rfl (O7 rfl T.a1a (j7 (j6 p9 rfl T.M9 j5 (j7 (b8 0))))) (L8 2 nd) (c6 (G0 PassesOwn.never rfl (O7 rfl T.a1a (j7 (j6 p9 rfl T.M9 j5 (j7 (j8 (b8 0) (b8 2)))))) (L8 3 nd) (c6 (E6 (U9 l5 v5 v0 F6 (b8 1) (j7 (K0 (y9 (b8 2) (b8 3)))))))))) (c6 (g9 (b8 1))))
variable(a2v:E3 P w K mg base 1 d5p b7I (a5C K))
abbrev a7r:List Str:=[d5q,d5r]
theorem b5T:v7 [d5q,d5r] a7r (g0 a7j):=by walk_at "sc"
include T in
theorem b6e(F:Fun K d5s d5s a7j f fd):J1 P w K mg base CX0 1 f fd a7r (T4 K):=fk F b5T fun _ _ _ _ _ _ hr nd=>c6 (g9 (O9 (a1t a4D (j8 (b8 0) c7) (K0 (a3o C6 C6 C6)) rfl) (M4 (a1t a4D (j8 (b8 0) c7) (a2Z b1N (b8 1) (a4e c7) a4f) rfl))))
variable(G9:E3 P w K mg base 1 d5s a7r (T4 K))
abbrev b0b:List Str:=[d5q,d5r]
theorem b9l:v7 [d5q,d5r] b0b (g0 a9R):=by walk_at "sc"
include T in
theorem b9C(F:Fun K d5t d5t a9R f fd):J1 P w K mg base CX0 1 f fd b0b (a0T K):=fk F b9l fun _ _ _ _ _ _ hr nd=>c6 (g9 (O9 (a3D (E4 hr) (j8 (b8 0) c7) C6) (M4 (a3D (E4 hr) (j8 (b8 0) c7) (b8 1)))))
variable(R6:E3 P w K mg base 1 d5t b0b (a0T K))
abbrev d1L:List Str:=[d4T,d5u]
theorem d3n:v7 [d4T,d5u] d1L (g0 d0P):=by walk_at "sc"
include T in
theorem d3W(F:Fun K d5v d5v d0P f fd):J1 P w K mg base CX0 1 f fd d1L (b6E K):=fk F d3n fun _ _ _ _ _ _ hr nd=>b5 (v8 (D3 a0d (a8J b0D (b8 1) c7 (fun _ _=>rfl)) c7) (c6 (g9 c7)) o7) (c6 (g9 (j8 (j8 (b8 0) (a8J b0D (b8 1) c7 (fun _ _=>rfl))) (a8J b0D (b8 1) c7 (fun _ _=>rfl)))))
variable(b6p:E3 P w K mg base 1 d5v d1L (b6E K))
abbrev b7J:List Str:=[d5m,d4T,d5r]
theorem c5N:v7 [d5m,d4T,d5r,d5w,d4Z,d5u,d4U] b7J (g0 b7w):=by walk_at "sc"
include T a2v G9 R6 b6p in
theorem c6O(F:Fun K d5x d5x b7w f fd):J1 P w K mg base CX0 2 f fd b7J (b0T K):=fk F c5N fun _ _ _ _ _ _ hr nd=>b5 (v9 3 nd (J2 b8M (F4 (j7 K5)) (j6 p9 rfl T.M9 j5 (j7 (b8 0))))) (b5 (G0 PassesOwn.never rfl (O7 rfl T.a1a (j7 (J2 U6 (j6 p9 rfl T.M9 j5 (j7 (b8 0))) c7))) (L8 4 nd) (c6 (G0 PassesOwn.never rfl (E7 (o8 a2v hr (j7 (b8 1)))) (L8 5 nd) (b5 (v9 6 nd (j8 (b8 5) c7)) (c6 (v8 (M0 (Q0 (D3 a0d (b8 6) c7) (Q0 (C2 (o8 G9 hr (y9 (j8 (b8 0) (b8 6)) (b8 2)))) (Q9 (J0 (M0 (Q0 (C2 (j8 (b8 3) (b8 6))) (Q9 (C2 (o8 R6 hr (y9 (j8 (b8 0) (b8 6)) (b8 2)))))))))))) (c6 (a6w K5 (a8b (b8 3) (o8 b6p hr (y9 (b8 1) (b8 5))) a8H))) o7)))))) (c6 (g9 (b8 3))))
variable(b3P:E3 P w K mg base 2 d5x b7J (b0T K))
abbrev b4O:List Str:=[d5m,d4T,d5r]
theorem c3A:v7 [d5m,d4T,d5r,d5y,d4Z,d4U,"_law_on"] b4O (g0 b1a):=by walk_at "sc"
theorem c0h:V6 [d5m,d4T,d5r,d5y,d4Z,d4U,"_law_on"] (g0 b1a) (scF [ (".0",.local),(d5b,.local),(d5y,.free)]) d5b := by walk_at "c0"
include T G9 R6 in
theorem c3X(F:Fun K d5z d5z b1a f fd):J1 P w K mg base CX0 2 f fd b4O (a8N K):=fk F c3A fun _ _ _ _ _ _ hr nd=>b5 (v9 3 nd (J2 b8M (F4 (j7 K5)) (j6 p9 rfl T.M9 j5 (j7 (b8 0))))) (b5 (G0 PassesOwn.never rfl (O7 rfl T.a1a (j7 (J2 U6 (j6 p9 rfl T.M9 j5 (j7 (b8 0))) c7))) (L8 4 nd) (c6 (G0 PassesOwn.never rfl (b8L rfl T.a1a (a3o (J2 a8K (j6 p9 rfl T.M9 j5 (j7 (b8 0))) c7) (a4r a2H c7) (a4r a2H c7))) (L8 5 nd) (b5 (v9 6 nd (O9 (a3D (a2J hr) (j8 (b8 1) (b8 5)) (F4 Y1)) (M4 (j6 (a4E rfl) rfl T.c0B a1I (j7 (O6 c0h rfl (E7 (j8 (b8 1) (b8 5))) (fun _ _ _ _ _=>M3) (fun _ _ _ _ _=>j8 (b8 4) (b8 0)))))))) (c6 (a6w (a7a (o8 R6 hr (y9 (j8 (b8 0) (b8 5)) (b8 2))) (M4 (O9 (b8 6) (M4 (a6x (o8 G9 hr (y9 (j8 (b8 0) (b8 5)) (b8 2)))))))) (a8b (b8 3) (b8 5) a8H))))))) (c6 (g9 (b8 3))))
variable(b1v:E3 P w K mg base 2 d5z b4O (a8N K))
abbrev b4W:List Str:=[d5m,d4T,d5r]
theorem c3I:v7 [d5m,d4T,d5r,d5w,d5y,d5A,d5u,d4U] b4W (g0 b1e):=by walk_at "sc"
theorem c0o:V6 [d5m,d4T,d5r,d5w,d5y,d5A,d5u,d4U] (g0 b1e) (scF [ (".0",.local),(d5b,.local),(d5y,.free)]) d5b := by walk_at "c0"
include T a2v G9 R6 b6p b3P b1v in
theorem c4f(F:Fun K d5B d5B b1e f fd):J1 P w K mg base CX0 3 f fd b4W (a6J K):=fk F c3I fun _ _ _ _ _ _ hr nd=>b5 (v9 3 nd (o8 b3P hr (a3o (b8 0) (b8 1) (b8 2)))) (b5 (v9 4 nd (o8 b1v hr (a3o (b8 0) (b8 1) (b8 2)))) (b5 (v9 5 nd (F4 Y1)) (b5 (G0 PassesOwn.never rfl (E7 (o8 a2v hr (j7 (b8 1)))) (L8 6 nd) (b5 (v9 7 nd (j8 (b8 6) c7)) (c6 (v8 (C2 (j8 (b8 4) (o8 b6p hr (y9 (b8 1) (b8 6))))) (c6 (v8 (M0 (Q0 (D3 a0d (b8 7) c7) (Q9 (C2 (o8 G9 hr (y9 (j8 (b8 0) (b8 7)) (b8 2))))))) (c6 (E6 (U9 l5 v5 v0 F6 (b8 5) (j7 (b8 6))))) (c6 (v8 (M0 (a1r (J0 (C2 (j8 (b8 3) (b8 7)))) (a1r (J0 (C2 (o8 R6 hr (y9 (j8 (b8 0) (b8 7)) (b8 2))))) (a1q (J0 (C2 (j6 (a4E rfl) rfl T.c0B a1I (j7 (O6 c0o rfl (E7 (j8 (b8 1) (b8 7))) (fun _ _ _ _ _=>M3) (fun _ _ _ _ _=>j8 (b8 5) (b8 0))))))))))) (c6 (E6 (U9 l5 v5 v0 F6 (b8 5) (j7 (b8 6))))) o7)))) o7)))) (c6 (g9 (b8 5))))))
variable(a8C:E3 P w K mg base 3 d5B b4W (a6J K))
abbrev c6J:List Str:=[d5f]
theorem d0N:v7 [d5f] c6J (g0 c5X):=by walk_at "sc"
include T in
theorem d2c(F:Fun K d5C d5C c5X f fd):J1 P w K mg base CX0 1 f fd c6J (b2b K):=fk F d0N fun _ _ _ _ _ _ hr nd=>c6 (g9 (O9 (j6 X6 rfl T.Q7 A5 (y9 (b8 0) (a0y rfl T.d0B b6s rfl))) (M4 (a6x (j6 X6 rfl T.Q7 A5 (y9 (b8 0) (a0y rfl T.c7J b5K rfl)))))))
variable(b3p:E3 P w K mg base 1 d5C c6J (b2b K))
abbrev a8o:List Str:=[d5f]
theorem b7s:v7 [d5f,d5u] a8o (g0 a8l):=by walk_at "sc"
include T b3p in
theorem b7L(F:Fun K d5D d5D a8l f fd):J1 P w K mg base CX0 2 f fd a8o (a2r K):=fk F b7s fun _ _ _ _ _ _ hr nd=>b5 (v8 (J0 (C2 (j6 X6 rfl T.Q7 A5 (y9 (b8 0) (a0y rfl T.a4q D9 rfl))))) (c6 (g9 K5)) o7) (b5 (G0 PassesOwn.never rfl (E7 (b8 0)) (L8 1 nd) (c6 (v8 (M0 (Q0 (J0 (C2 (j6 b7g rfl T.Q7 A5 (y9 (b8 1) (a0y rfl T.b3U a2S rfl))))) (Q0 (D3 (a2J hr) (j6 b7f rfl T.M9 j5 (j7 (b8 1))) c7) (Q0 (J0 (C2 (o8 b3p hr (j7 (a8J b0D (b8 1) c7 (fun _ _=>rfl)))))) (Q9 (J0 (C2 (o8 b3p hr (j7 (a8J b0D (b8 1) c7 (fun _ _=>rfl))))))))))) (c6 (g9 K5)) o7))) (c6 (g9 K5)))
variable(a0u:E3 P w K mg base 2 d5D a8o (a2r K))
abbrev b2x:List Str:=[d4T,d5E,d4W]
theorem c1a:v7 [d4T,d5E,d4W,d5u] b2x (g0 b2l):=by walk_at "sc"
include T in
theorem c1H(F:Fun K d5F d5F b2l f fd):J1 P w K mg base CX0 1 f fd b2x (a5F K):=fk F c1a fun _ _ _ _ _ _ hr nd=>b5 (G0 PassesOwn.never rfl (E7 (b8 2)) (L8 3 nd) (b5 (v8 (M0 (Q0 (D3 (a2J hr) (j8 (b8 3) c7) (b8 1)) (Q9 (J0 (b4b a8c a0d c7 (j8 (b8 3) c7) (j6 p9 rfl T.M9 j5 (j7 (j8 (b8 0) (b8 1))))))))) (c6 (g9 (a4r a2H c7))) o7) (c6 (v9 1 nd (j8 (j8 (b8 0) (b8 1)) (j8 (b8 3) c7)))))) (c6 (g9 (b8 1)))
variable(a4o:E3 P w K mg base 1 d5F b2x (a5F K))
abbrev b4T:List Str:=[d4T,d4W]
theorem c3F:v7 [d4T,d4W] b4T (g0 b1c):=by walk_at "sc"
theorem c0j:V6 [d4T,d4W] (g0 b1c) (scF [ (".0",.local),(d5u,.local),(d5v,.globalImplicit),(d4T,.free)]) d5u := by walk_at "c0"
include T b6p in
theorem c4c(F:Fun K d5G d5G b1c f fd):J1 P w K mg base CX0 2 f fd b4T (a6I K):=fk F c3F fun _ _ _ _ _ _ hr nd=>c6 (g9 (O6 c0j rfl (E7 (b8 1)) (fun _ _ _ _ _=>M3) (fun _ _ _ _ _=>o8 b6p hr (y9 (b8 1) (b8 0)))))
variable(a5N:E3 P w K mg base 2 d5G b4T (a6I K))
abbrev b2r:List Str:=[d5m,d4T,d5r,d4W,d5E]
theorem c0U:v7 [d5m,d4T,d5r,d4W,d5E,"_law_there",d4U] b2r (g0 b2g):=by walk_at "sc"
include T G9 R6 a0u a4o a5N in
theorem c1B(F:Fun K d5H d5H b2g f fd):J1 P w K mg base CX0 3 f fd b2r (a7d K):=fk F c0U fun _ _ _ _ _ _ hr nd=>b5 (v8 (M0 (Q0 (J0 (C2 (o8 a0u hr (j7 (b8 3))))) (Q0 (D3 (E4 hr) (j6 p9 rfl T.M9 j5 (j7 (b8 3))) c7) (Q9 (Y4 (a6y hr) (j8 (b8 3) c7) (K0 (y9 (a4r a2H c7) c7)) (a3N _)))))) (c6 (g9 K5)) o7) (b5 (v8 (D3 (a2J hr) (o8 a4o hr (a3o (b8 1) c7 (a2Z b1N (b8 3) (a4e c7) a4f))) (b8 4)) (c6 (g9 K5)) o7) (b5 (v9 5 nd K5) (b5 (G0 PassesOwn.never rfl (E7 (o8 a5N hr (y9 (b8 1) (b8 3)))) (L8 6 nd) (c6 (v9 5 nd (O9 (a7a (b8 5) (M4 (o8 R6 hr (y9 (j8 (b8 0) (b8 6)) (b8 2))))) (M4 (a6x (o8 G9 hr (y9 (j8 (b8 0) (b8 6)) (b8 2))))))))) (c6 (g9 (a6x (b8 5)))))))
variable(a8Z:E3 P w K mg base 3 d5H b2r (a7d K))
abbrev a9Y:List Str:=[d5m,d4T,d5r,d4W,d5E]
theorem b9i:v7 [d5m,d4T,d5r,d4W,d5E,"_law_end",d4U] a9Y (g0 a9P):=by walk_at "sc"
include T G9 R6 a0u a4o a5N in
theorem b9z(F:Fun K d5I d5I a9P f fd):J1 P w K mg base CX0 3 f fd a9Y (a6a K):=fk F b9i fun _ _ _ _ _ _ hr nd=>b5 (v8 (J0 (C2 (o8 a0u hr (j7 (b8 3))))) (c6 (g9 K5)) o7) (b5 (v9 5 nd (o8 a4o hr (a3o (b8 1) (b8 4) (b8 3)))) (b5 (v8 (M0 (Q0 (D3 a0d (b8 5) c7) (Q0 (D3 (a2J hr) (j8 (b8 1) (b8 5)) (F4 Y1)) (Q9 (M0 (a1r (D3 (E4 hr) (j6 p9 rfl T.M9 j5 (j7 (b8 3))) c7) (a1q (D3 (a2J hr) (j8 (b8 1) (b8 4)) (F4 Y1))))))))) (c6 (g9 K5)) o7) (b5 (G0 PassesOwn.never rfl (E7 (o8 a5N hr (y9 (b8 1) (b8 3)))) (L8 6 nd) (b5 (v8 (C2 (o8 R6 hr (y9 (j8 (b8 0) (b8 6)) (b8 2)))) (c6 (g9 K5)) o7) (c6 (v8 (C2 (o8 G9 hr (y9 (j8 (b8 0) (b8 6)) (b8 2)))) (c6 (g9 K5)) o7)))) (c6 (g9 K5)))))
variable(a7F:E3 P w K mg base 3 d5I a9Y (a6a K))
abbrev c6G:List Str:=[d5m,d4T,d5r,d5u,d5J]
theorem d0K:v7 [d5m,d4T,d5r,d5u,d5J,d5E] c6G (g0 c5Q):=by walk_at "sc"
include T G9 b3p a8Z a7F in
theorem d1Y(F:Fun K d5K d5K c5Q f fd):J1 P w K mg base CX0 4 f fd c6G (a8j K):=fk F d0K fun _ _ _ _ _ _ hr nd=>b5 (v9 5 nd (j8 (b8 3) c7)) (b5 (v8 (D3 a0d (b8 5) c7) (c6 (g9 (a3D (E4 hr) (b8 4) (K0 (j7 C6))))) o7) (b5 (v8 (M0 (Q0 (J0 (C2 (j6 X6 rfl T.Q7 A5 (y9 (b8 4) (a0y rfl T.b3U a2S rfl))))) (Q9 (D3 (E4 hr) (j6 p9 rfl T.M9 j5 (j7 (b8 4))) c7)))) (c6 (g9 K5)) o7) (b5 (v8 (C2 (o8 G9 hr (y9 (j8 (b8 0) (b8 5)) (b8 2)))) (c6 (g9 (O9 (a3D (E4 hr) (b8 4) (K0 (y9 C6 (b8 5)))) (M4 (o8 b3p hr (j7 (j8 (b8 4) c7))))))) o7) (b5 (v8 (M0 (Q0 (D3 (a2J hr) (j6 p9 rfl T.M9 j5 (j7 (b8 4))) c7) (Q0 (D3 (a2J hr) (j8 (b8 4) c7) C6) (Q9 (J0 (C2 (o8 a8Z hr (a9s (b8 0) (b8 1) (b8 2) (j8 (b8 4) c7) (b8 5))))))))) (c6 (g9 K5)) o7) (c6 (g9 (o8 a7F hr (a9s (b8 0) (b8 1) (b8 2) (j8 (b8 4) c7) (b8 5)))))))))
variable(b5A:E3 P w K mg base 4 d5K c6G (a8j K))
abbrev a5K:List Str:=[d5L]
theorem b3w:v7 [d5L] a5K (g0 a5H):=by walk_at "sc"
include T in
theorem b3A(F:Fun K d5M "Brinks.steps" a5H f fd):J1 P w K mg base CX0 1 f fd a5K (a2V K):=fk F b3w fun _ _ _ _ _ _ hr nd=>c6 (g9 (X5 (b5O rfl) rfl T.a4q D9 (j7 (C3 (b8 0)))))
variable(a3T:X2 P w K mg base 1 d5M c.C4 a5K (a2V K))
abbrev b4S:List Str:=["row"]
theorem c3E:v7 ["row"] b4S (g0 b4E):=by walk_at "sc"
include T in
theorem c4b(F:Fun K "set_by" "set_by" b4E f fd):J1 P w K mg base CX0 1 f fd b4S (b2a K):=fk F c3E fun _ _ _ _ _ _ hr nd=>c6 (g9 (a5x (Y4 a4D (j8 (b8 0) c7) (K0 (a3o C6 C6 C6)) rfl) (j8 (b8 0) c7) a2I))
variable(b1y:E3 P w K mg base 1 "set_by" b4S (b2a K))
abbrev b4R:List Str:=["row",d5N]
theorem c3D:v7 ["row",d5N] b4R (g0 b4D):=by walk_at "sc"
include T b1y in
theorem c4a(F:Fun K "spoils" "spoils" b4D f fd):J1 P w K mg base CX0 2 f fd b4R (a3q K):=fk F c3D fun _ _ _ _ _ _ hr nd=>c6 (g9 (a1t a4D (o8 b1y hr (j7 (b8 0))) (a2Z b1N (b8 1) (a4e c7) a4f) rfl))
variable(a0h:E3 P w K mg base 2 "spoils" b4R (a3q K))
abbrev a1e:List Str:=[d5L,d5O]
theorem a5R:v7 [d5L,d5O] a1e (g0 a1d):=by walk_at "sc"
include T a0h in
theorem a5T(F:Fun K d5P "Brinks.is_spoilt_ahead" a1d f fd):J1 P w K mg base CX0 3 f fd a1e (O1 K):=fk F a5R fun _ _ _ _ _ _ hr nd=>c6 (g9 (o8 a0h hr (y9 (j8 (C3 (C3 (b8 0))) (j8 (b8 1) c7)) (C3 (b8 0)))))
variable(L4:X2 P w K mg base 3 d5P c.C4 a1e (O1 K))
abbrev a3g:List Str:=[d5L,d5Q]
theorem a9e:v7 [d5L,d5Q] a3g (g0 a3d):=by walk_at "sc"
include T in
theorem a9i(F:Fun K "wanted_at" "Wanted.wanted_at" a3d f fd):J1 P w K mg base CX0 1 f fd a3g (R1 K):=fk F a9e fun _ _ _ _ _ _ hr nd=>c6 (g9 (b2X hr (b8 1) (C3 (b8 0)) rfl))
variable(F1:X2 P w K mg base 1 "wanted_at" c.O0 a3g (R1 K))
abbrev a5b:List Str:=[d5L,d5O]
theorem b2f:v7 [d5L,d5O] a5b (g0 a4Y):=by walk_at "sc"
include T in
theorem b2B(F:Fun K "leads_to" "Plan.leads_to" a4Y f fd):J1 P w K mg base CX0 1 f fd a5b (Y5 K c):=fk F b2f fun _ _ _ _ _ _ hr nd=>b5 (v8 (Y4 (a6A hr) (b8 1) (O2 T.U1 rfl) (a3N _)) (c6 (g9 c7)) o7) (c6 (g9 (j8 (j8 (C3 (b8 0)) (j8 (b8 1) c7)) (j8 (b8 1) c7))))
variable(K7:X2 P w K mg base 1 "leads_to" c.Q2 a5b (Y5 K c))
abbrev b0f:List Str:=[d5R,d5S,d5Q]
theorem b9p:v7 [d5R,d5S,d5Q,"way",d5O] b0f (g0 a9V):=by walk_at "sc"
include T K7 in
theorem b9G(F:Fun K d5T d5T a9V f fd):J1 P w K mg base CX0 2 f fd b0f (a4M K c):=fk F b9p fun _ _ _ _ _ _ hr nd=>b5 (v9 3 nd (F4 Y1)) (b5 (v9 4 nd (a5q hr (b8 1) (b8 2) (fun _ _=>rfl))) (b5 (a2d PassesOwn.never (D3 a8d (b8 4) a2I) (b5 (E6 (U9 l5 v5 v0 F6 (b8 3) (j7 (b8 4)))) (c6 (v9 4 nd (a5q hr (b8 1) (N6 K7 hr (by decide) (b8 0) (j7 (b8 4))) (fun _ _=>rfl)))))) (c6 (g9 (b8 3)))))
variable(a3l:E3 P w K mg base 2 d5T b0f (a4M K c))
abbrev a9Z:List Str:=[d5U]
theorem b9j:v7 [d5U] a9Z (g0 a7h):=by walk_at "sc"
theorem b6n:a4y [d5U] (g0 a7h) (scF [ (".0",.local),(d5Q,.local),(d5V,.local),("len",.globalImplicit)]) d5Q d5V := by walk_at "c2"
include T in
theorem b9A(F:Fun K d5W d5W a7h f fd):J1 P w K mg base CX0 1 f fd a9Z (a4J K):=fk F b9j fun _ _ _ _ _ _ hr nd=>c6 (g9 (b4c b6n rfl (a3n rfl T.a1y (j7 (b8 0))) (fun _ _ _ _ _=>b1O (D3 (E4 hr) (j6 p9 rfl T.M9 j5 (j7 (b8 1))) c7)) (fun _ _ _ _ _=>b8 0)))
variable(a3i:E3 P w K mg base 1 d5W a9Z (a4J K))
abbrev a7w:List Str:=[d5L]
theorem b5Y:v7 [d5L] a7w (g0 a7n):=by walk_at "sc"
include T a3i in
theorem b6j(F:Fun K "stops" "Plan.stops" a7n f fd):J1 P w K mg base CX0 2 f fd a7w (a2O K):=fk F b5Y fun _ _ _ _ _ _ hr nd=>c6 (g9 (o8 a3i hr (j7 (C3 (b8 0)))))
variable(a3S:X2 P w K mg base 2 "stops" c.Q2 a7w (a2O K))
abbrev a3L:List Str:=[d5L,d5Q]
theorem a9N:v7 [d5L,d5Q] a3L (g0 a3I):=by walk_at "sc"
include T in
theorem b0g(F:Fun K "steps_into" "Plan.steps_into" a3I f fd):J1 P w K mg base CX0 1 f fd a3L (a0C K):=fk F a9N fun _ _ _ _ _ _ hr nd=>c6 (g9 (X5 a2n rfl T.a4q D9 (j7 (j8 (C3 (b8 0)) (b8 1)))))
variable(X0:X2 P w K mg base 1 "steps_into" c.Q2 a3L (a0C K))
abbrev b4N:List Str:=[d5R,d5Q]
theorem c3z:v7 [d5R,d5Q,d5S,d5X,"done","here",d5O] b4N (g0 b0Z):=by walk_at "sc"
theorem c0g:V6 [d5R,d5Q,d5S,d5X,"done","here",d5O] (g0 b0Z) (scF [(".0",.local),("stop",.local)]) "stop" := by walk_at "c0"
include T a3l a3S X0 in
theorem c3W(F:Fun K "way_on" "way_on" b0Z f fd):J1 P w K mg base CX0 3 f fd b4N (a8M K c):=fk F c3z fun _ _ _ _ _ _ hr nd=>b5 (v9 2 nd (X5 (a9v rfl) rfl T.c2m a6v (j7 (O6 c0g rfl (E7 (a8I a3S hr (by decide) (b8 0))) (fun _ _ _ _ _=>M3) (fun _ _ _ _ _=>K0 (y9 (b8 0) a2I)))))) (b5 (v9 3 nd (a8I a3S hr (by decide) (b8 0))) (b5 (v9 4 nd c7) (b5 (a2d PassesOwn.never (a0R hr (b8 1) (b8 2) rfl) (b5 (v9 5 nd (j8 (b8 3) (b8 4))) (b5 (b0A (n:=4) nd rfl (Or.inl rfl) c7 a8e) (c6 (G0 PassesOwn.never rfl (E7 (N6 X0 hr (by decide) (b8 0) (j7 (b8 5)))) (L8 6 nd) (c6 (v8 (M0 (a1r (Y4 (a6y hr) (b8 6) (O2 T.U1 rfl) (a3N _)) (a1q (a0R hr (j8 (b8 6) c7) (b8 2) rfl)))) (b5 (a3m hr (b8 2) (j8 (b8 6) c7) (b8 6)) (c6 (E6 (U9 l5 v5 v0 F6 (b8 3) (j7 (j8 (b8 6) c7)))))) o7))))))) (c6 (g9 (o8 a3l hr (a3o (b8 0) (b8 2) (b8 1))))))))
variable(b1u:E3 P w K mg base 3 "way_on" b4N (a8M K c))
abbrev a1U:List Str:=[d5L,d5Q]
theorem a7g:v7 [d5L,d5Q,"way","last"] a1U (g0 a1T):=by walk_at "sc"
include T F1 K7 a3l b1u in
theorem a7y(F:Fun K d5Y "Wanted.way_unwanted" a1T f fd):J1 P w K mg base CX0 4 f fd a1U (a0l K c):=fk F a7g fun _ _ _ _ _ _ hr nd=>b5 (v8 (C2 (N6 F1 hr (by decide) (b8 0) (j7 (b8 1)))) (c6 (g9 a2I)) o7) (b5 (v9 2 nd (o8 a3l hr (a3o (C3 (b8 0)) (C3 (b8 0)) (b8 1)))) (b5 (v9 3 nd (a5x (D3 a2K (j6 p9 rfl T.M9 j5 (j7 (b8 2))) c7) (N6 K7 hr (by decide) (C3 (b8 0)) (j7 (j8 (b8 2) (a4r a2H c7)))) (b8 1))) (c6 (g9 (J2 U6 (b8 2) (o8 b1u hr (y9 (C3 (b8 0)) (b8 3))))))))
variable(a0H:X2 P w K mg base 4 d5Y c.O0 a1U (a0l K c))
abbrev a0a:List Str:=[d5L,d5Q]
theorem a4N:v7 [d5L,d5Q,d5V,"unwanted"] a0a (g0 T8):=by walk_at "sc"
theorem a3X:a4y [d5L,d5Q,d5V,"unwanted"] (g0 T8) (scF [ (".0",.local),("at",.local),(d5Z,.local),(d5L,.free)]) "at" d5Z := by walk_at "c2"
include T F1 a0H in
theorem a4O(F:Fun K d6a "Brinks.way_unwanted_behind" T8 f fd):J1 P w K mg base CX0 5 f fd a0a (R8 K c):=fk F a4N fun _ _ _ _ _ _ hr nd=>b5 (v9 2 nd (j8 (C3 (C3 (b8 0))) (b8 1))) (b5 (b5N (n:=3) nd rfl rfl a3X rfl (a3n rfl T.a1y (j7 (b8 2))) (fun _ _ _ _ _=>b1O (J0 (C2 (N6 F1 hr (by decide) (C3 (b8 2)) (j7 (b8 1)))))) (fun _ _ _ _ _=>b8 0)) (c6 (g9 (J2 U6 (F4 (j7 (K0 (y9 (b8 1) (j8 (b8 3) c7))))) (N6 a0H hr (by decide) (C3 (b8 0)) (j7 (j8 (b8 2) (j8 (b8 3) c7))))))))
variable(U0:X2 P w K mg base 5 d6a c.C4 a0a (R8 K c))
abbrev b4Q:List Str:=[d6b,d5Q]
theorem c3C:v7 [d6b,d5Q,"way"] b4Q (g0 b4C):=by walk_at "sc"
include T in
theorem c3Z(F:Fun K "traced" "traced" b4C f fd):J1 P w K mg base CX0 1 f fd b4Q (a8P K c):=fk F c3C fun _ _ _ _ _ _ hr nd=>b5 (v9 2 nd (F4 (j7 (a5q hr (b8 0) (b8 1) (fun _ _=>rfl))))) (b5 (a2d PassesOwn.never (Y4 (a6y hr) (j8 (b8 2) (a4r a2H c7)) (O2 T.U1 rfl) (a3N _)) (c6 (E6 (U9 l5 v5 v0 F6 (b8 2) (j7 (a5q hr (b8 0) (j8 (j8 (b8 2) (a4r a2H c7)) c7) (fun _ _=>rfl))))))) (b5 (E6 (b0B l5 b6X b6W a9t (b8 2))) (c6 (g9 (b8 2)))))
variable(b1x:E3 P w K mg base 1 "traced" b4Q (a8P K c))
abbrev b4M:List Str:=[d5R,d5Q]
theorem c3y:v7 [d5R,d5Q,d6b,d5X,"done","here","at",d5Z] b4M (g0 b4B):=by walk_at "sc"
include T b1x in
theorem c3V(F:Fun K "way_to" "way_to" b4B f fd):J1 P w K mg base CX0 2 f fd b4M (a8L K c):=fk F c3y fun _ _ _ _ _ _ hr nd=>b5 (v9 2 nd (b1R (a9I c7 (O2 T.U1 rfl) b1P))) (b5 (v9 3 nd (F4 (j7 c7))) (b5 (v9 4 nd c7) (b5 (a2d PassesOwn.never (a0R hr (b8 1) (b8 2) rfl) (b5 (v9 5 nd (j8 (b8 3) (b8 4))) (b5 (b0A (n:=4) nd rfl (Or.inl rfl) c7 a8e) (c6 (G0 PassesOwn.never rfl (a3n rfl T.a1y (j7 (j8 (C3 (b8 0)) (b8 5)))) (a5w rfl (U5 (L8 6 nd) (U5 (L8 7 nd) a4g))) (c6 (v8 (a0R hr (b8 7) (b8 2) rfl) (b5 (a3m hr (b8 2) (b8 7) (K0 (y9 (b8 5) (b8 6)))) (c6 (E6 (U9 l5 v5 v0 F6 (b8 3) (j7 (b8 7)))))) o7))))))) (c6 (g9 (o8 b1x hr (y9 (b8 2) (b8 1))))))))
variable(b1t:E3 P w K mg base 2 "way_to" b4M (a8L K c))
abbrev a4m:List Str:=[d5L,d5Q]
theorem b0Y:v7 [d5L,d5Q] a4m (g0 a4j):=by walk_at "sc"
include T in
theorem b1l(F:Fun K "ready_at" "Ready.ready_at" a4j f fd):J1 P w K mg base CX0 1 f fd a4m (a0V K):=fk F b0Y fun _ _ _ _ _ _ hr nd=>c6 (g9 (b2X hr (b8 1) (C3 (b8 0)) rfl))
variable(Y6:X2 P w K mg base 1 "ready_at" c.T1 a4m (a0V K))
abbrev a1E:List Str:=[d5L,d5O]
theorem a6L:v7 [d5L,d5O] a1E (g0 a1C):=by walk_at "sc"
include T a0h in
theorem a6P(F:Fun K d6c "Ready.begins_unready" a1C f fd):J1 P w K mg base CX0 3 f fd a1E (Z7 K c):=fk F a6L fun _ _ _ _ _ _ hr nd=>c6 (g9 (a7a (a1t (a6A hr) (b8 1) (O2 T.U1 rfl) (a3N _)) (M4 (o8 a0h hr (y9 (j8 (C3 (C3 (b8 0))) (j8 (b8 1) c7)) (C3 (b8 0)))))))
variable(a0p:X2 P w K mg base 3 d6c c.T1 a1E (Z7 K c))
abbrev a2D:List Str:=[d5L,d5Q]
theorem a8k:v7 [d5L,d5Q,"way"] a2D (g0 a2C):=by walk_at "sc"
include T b1t Y6 a0p in
theorem a8r(F:Fun K "way_unready" "Ready.way_unready" a2C f fd):J1 P w K mg base CX0 4 f fd a2D (a0U K c):=fk F a8k fun _ _ _ _ _ _ hr nd=>b5 (v8 (C2 (N6 Y6 hr (by decide) (b8 0) (j7 (b8 1)))) (c6 (g9 a2I)) o7) (b5 (v9 2 nd (F4 (j7 (a5q hr (C3 (b8 0)) (b8 1) (fun _ _=>rfl))))) (b5 (a2d PassesOwn.never (J0 (C2 (N6 a0p hr (by decide) (b8 0) (j7 (j8 (b8 2) (a4r a2H c7)))))) (c6 (E6 (U9 l5 v5 v0 F6 (b8 2) (j7 (a5q hr (C3 (b8 0)) (j8 (j8 (b8 2) (a4r a2H c7)) c7) (fun _ _=>rfl))))))) (b5 (E6 (b0B l5 b6X b6W a9t (b8 2))) (b5 (v8 (Y4 (a6A hr) (j8 (b8 2) c7) (O2 T.U1 rfl) (a3N _)) (c6 (g9 (b8 2))) o7) (c6 (g9 (J2 U6 (o8 b1t hr (y9 (C3 (b8 0)) (j8 (j8 (b8 2) c7) c7))) (b8 2))))))))
variable(a1n:X2 P w K mg base 4 "way_unready" c.T1 a2D (a0U K c))
abbrev a3h:List Str:=[d5L,d5O]
theorem a9f:v7 [d5L,d5O,d5Q] a3h (g0 a3e):=by walk_at "sc"
include T L4 U0 a1n in
theorem a9j(F:Fun K "why_brink" "Brinks.why_brink" a3e f fd):J1 P w K mg base CX0 6 f fd a3h (R3 K c):=fk F a9f fun _ _ _ _ _ _ hr nd=>b5 (v8 (b8J hr (b8 1) (C3 (b8 0)) rfl) (c6 (g9 a2I)) o7) (b5 (v8 (Y4 (a6A hr) (b8 1) (O2 T.U1 rfl) (a3N _)) (c6 (g9 (K0 (j7 C6)))) o7) (b5 (v9 2 nd (j8 (b8 1) c7)) (b5 (v8 (C2 (N6 L4 hr (by decide) (b8 0) (j7 (b8 1)))) (c6 (g9 (K0 (y9 C6 (b8 2))))) o7) (c6 (g9 (K0 (a3o C6 (N6 a1n hr (by decide) (C3 (b8 0)) (j7 (b8 2))) (N6 U0 hr (by decide) (b8 0) (j7 (b8 2))))))))))
variable(Q1:X2 P w K mg base 6 "why_brink" c.C4 a3h (R3 K c))
abbrev c1u:List Str:=[d5m,d4T,d5r,d5A,d6d]
theorem c8d:v7 [d5m,d4T,d5r,d5A,d6d,d5f,d5u,d5J] c1u (g0 c1d):=by walk_at "sc"
include T a2v a0u b5A a3T Q1 in
theorem c9g(F:Fun K d6e d6e c1d f fd):J1 P w K mg base CX0 7 f fd c1u (a5j K c):=fk F c8d fun _ _ _ _ _ _ hr nd=>b5 (v9 5 nd (a8I a3T hr (by decide) (b8 3))) (b5 (v8 (M0 (Q0 (J0 (C2 (o8 a0u hr (j7 (b8 5))))) (Q9 (Y4 (c3k hr) (b8 5) (b8 4) (a3N _))))) (c6 (g9 K5)) o7) (b5 (E6 (U9 l5 v5 v0 F6 (b8 5) (j7 (K0 (y9 c7 c7))))) (b5 (G0 PassesOwn.never rfl (E7 (o8 a2v hr (j7 (b8 1)))) (L8 6 nd) (b5 (v9 7 nd (N6 Q1 hr (by decide) (b8 3) (j7 (b8 6)))) (c6 (v8 (Y4 (b4e hr) (b8 6) (b8 4) rfl) (c6 (v8 (D3 a8d (b8 7) a2I) (c6 (g9 K5)) o7)) (c6 (v8 (J0 (C2 (o8 b5A hr (a9s (b8 0) (b8 1) (b8 2) (b8 6) (b8 7))))) (c6 (g9 K5)) (c6 (v8 (D3 (E4 hr) (j6 p9 rfl T.M9 j5 (j7 (b8 7))) c7) (b5 (E6 (U9 l5 v5 v0 F6 (j8 (b8 7) c7) (j7 (K0 (y9 c7 c7))))) (c6 (E6 (b0B l5 PySem.F.slot_list_clear PySem.F.type_list_clear b8O (j8 (b8 7) c7))))) o7)))))))) (c6 (g9 K5)))))
variable(b0n:E3 P w K mg base 7 d6e c1u (a5j K c))
abbrev a5J:List Str:=["things","at","least"]
theorem b3v:v7 ["things","at","least"] a5J (g0 a5G):=by walk_at "sc"
include T in
theorem b3z(F:Fun K d6f d6f a5G f fd):J1 P w K mg base CX0 1 f fd a5J (a2U K):=fk F b3v fun _ _ _ _ _ _ hr nd=>b5 (v8 (M0 (Q0 (J0 (C2 (j6 X6 rfl T.Q7 A5 (y9 (b8 0) (a0y rfl T.a4q D9 rfl))))) (Q9 (D3 a0d (j6 p9 rfl T.M9 j5 (j7 (b8 0))) (b8 2))))) (c6 a5v) o7) (c6 (v8 (D3 a2K (j6 p9 rfl T.M9 j5 (j7 (b8 0))) (O2 T.d2T rfl)) (c6 a5v) o7))
variable(a3R:E3 P w K mg base 1 d6f a5J (a2U K))
abbrev b2v:List Str:=[d6g]
theorem c0Y:v7 [d6g] b2v (g0 a8S):=by walk_at "sc"
theorem b8d:V6 [d6g] (g0 a8S) (scF [ (".0",.local),("sign",.local),("LETTERS",.globalImplicit),("FIGURES",.globalImplicit)]) "sign" := by walk_at "c0"
include T in
theorem c1F(F:Fun K "is_name" "is_name" a8S f fd):J1 P w K mg base CX0 1 f fd b2v (a1A K):=fk F c0Y fun _ _ _ _ _ _ hr nd=>b5 (v8 (M0 (Q0 (J0 (C2 (j6 X6 rfl T.Q7 A5 (y9 (b8 0) (a0y rfl T.d4i PyProof.Rows.boot_str rfl))))) (Q9 (J0 (b4b a8c a8c c7 (j6 p9 rfl T.M9 j5 (j7 (b8 0))) (O2 T.b5I rfl)))))) (c6 (g9 K5)) o7) (c6 (g9 (O9 (a1t a4D (j8 (b8 0) c7) (O2 T.b7b rfl) rfl) (M4 (j6 (a4E rfl) rfl T.c0B a1I (j7 (O6 b8d rfl (c5l (b8 0)) (fun _ _ _ _ _=>M3) (fun _ _ _ _ _=>a1t a4D (b8 0) (J2 U6 (O2 T.b7b rfl) (O2 T.c4U rfl)) rfl))))))))
variable(a2w:E3 P w K mg base 1 "is_name" b2v (a1A K))
abbrev b0c:List Str:=[d6g]
theorem b9m:v7 [d6g] b0c (g0 a9S):=by walk_at "sc"
include T in
theorem b9D(F:Fun K d6h d6h a9S f fd):J1 P w K mg base CX0 1 f fd b0c (a4L K):=fk F b9m fun _ _ _ _ _ _ hr nd=>c6 (g9 (O9 (j6 X6 rfl T.Q7 A5 (y9 (b8 0) (a0y rfl T.d0B b6s rfl))) (M4 (a6x (j6 X6 rfl T.Q7 A5 (y9 (b8 0) (a0y rfl T.c7J b5K rfl)))))))
variable(a3k:E3 P w K mg base 1 d6h b0c (a4L K))
abbrev b0d:List Str:=[d6g]
theorem b9n:v7 [d6g] b0d (g0 a9T):=by walk_at "sc"
include T a3k in
theorem b9E(F:Fun K d6i d6i a9T f fd):J1 P w K mg base CX0 2 f fd b0d (a6b K):=fk F b9n fun _ _ _ _ _ _ hr nd=>c6 (g9 (O9 (o8 a3k hr (j7 (b8 0))) (M4 (b4d a8c a0d c7 (b8 0) (O2 T.c9X rfl)))))
variable(a7G:E3 P w K mg base 2 d6i b0d (a6b K))
abbrev a7s:List Str:=[d6g]
theorem b5U:v7 [d6g] a7s (g0 a7k):=by walk_at "sc"
include T a2w a7G in
theorem b6f(F:Fun K d6j d6j a7k f fd):J1 P w K mg base CX0 3 f fd a7s (a1c K):=fk F b5U fun _ _ _ _ _ _ hr nd=>c6 (g9 (a7a (o8 a2w hr (j7 (b8 0))) (M4 (o8 a7G hr (j7 (b8 0))))))
variable(a0n:E3 P w K mg base 3 d6j a7s (a1c K))
abbrev b2w:List Str:=[d6g]
theorem c0Z:v7 [d6g] b2w (g0 b2k):=by walk_at "sc"
include T a0n in
theorem c1G(F:Fun K "is_deed" "is_deed" b2k f fd):J1 P w K mg base CX0 4 f fd b2w (a7e K c):=fk F c0Z fun _ _ _ _ _ _ hr nd=>b5 (v8 (M0 (Q0 (J0 (C2 (j6 X6 rfl T.Q7 A5 (y9 (b8 0) (a0y rfl T.b3U a2S rfl))))) (Q9 (D3 (a2J hr) (j6 p9 rfl T.M9 j5 (j7 (b8 0))) c7)))) (c6 (g9 K5)) o7) (c6 (g9 (O9 (a1t c3m (j8 (b8 0) c7) (O2 T.b8B rfl) rfl) (O9 (o8 a0n hr (j7 (j8 (b8 0) c7))) (M4 (o8 a0n hr (j7 (j8 (b8 0) c7))))))))
variable(a9a:E3 P w K mg base 4 "is_deed" b2w (a7e K c))
abbrev b4V:List Str:=[d6g]
theorem c3H:v7 [d6g,"kind","rest"] b4V (g0 b4F):=by walk_at "sc"
include T a2w a0n a9a in
theorem c4e(F:Fun K "is_row" "is_row" b4F f fd):J1 P w K mg base CX0 5 f fd b4V (a8R K c):=fk F c3H fun _ _ _ _ _ _ hr nd=>b5 (v8 (M0 (Q0 (J0 (C2 (j6 X6 rfl T.Q7 A5 (y9 (b8 0) (a0y rfl T.b3U a2S rfl))))) (Q9 (D3 (E4 hr) (j6 p9 rfl T.M9 j5 (j7 (b8 0))) c7)))) (c6 (g9 K5)) o7) (b5 (v9 1 nd (j8 (b8 0) c7)) (b5 (v9 2 nd (a2Z b1N (b8 0) (a4e c7) a4f)) (b5 (v8 (D3 (E4 hr) (b8 1) C6) (c6 (g9 (O9 (a3D (E4 hr) (j6 p9 rfl T.M9 j5 (j7 (b8 2))) c7) (O9 (o8 a2w hr (j7 (j8 (b8 2) c7))) (M4 (o8 a9a hr (j7 (j8 (b8 2) c7)))))))) o7) (b5 (v8 (D3 (E4 hr) (b8 1) C6) (c6 (g9 (O9 (a3D (E4 hr) (j6 p9 rfl T.M9 j5 (j7 (b8 2))) c7) (O9 (o8 a2w hr (j7 (j8 (b8 2) c7))) (M4 (o8 a0n hr (j7 (j8 (b8 2) c7)))))))) o7) (b5 (v8 (D3 (E4 hr) (b8 1) C6) (c6 (g9 (O9 (a3D (E4 hr) (j6 p9 rfl T.M9 j5 (j7 (b8 2))) c7) (M4 (o8 a2w hr (j7 (j8 (b8 2) c7))))))) o7) (b5 (v8 (Y4 a4D (b8 1) (K0 (y9 C6 C6)) rfl) (c6 (g9 (O9 (a3D (E4 hr) (j6 p9 rfl T.M9 j5 (j7 (b8 2))) c7) (M4 (o8 a0n hr (j7 (j8 (b8 2) c7))))))) o7) (c6 (g9 (O9 (a3D (E4 hr) (b8 1) C6) (M4 (a3D (E4 hr) (j6 p9 rfl T.M9 j5 (j7 (b8 2))) c7)))))))))))
variable(b1A:E3 P w K mg base 5 "is_row" b4V (a8R K c))
abbrev a7u:List Str:=["rights"]
theorem b5W:v7 ["rights","k","right"] a7u (g0 a7m):=by walk_at "sc"
include T in
theorem b6h(F:Fun K d6k d6k a7m f fd):J1 P w K mg base CX0 1 f fd a7u (a2M K):=fk F b5W fun _ _ _ _ _ _ hr nd=>c6 (G0 PassesOwn.never rfl (a3n rfl T.a1y (j7 (b8 0))) (a5w rfl (U5 (L8 1 nd) (U5 (L8 2 nd) a4g))) (c6 (v8 (J0 (C2 (b8 2))) (c6 a5v) o7)))
variable(a1F:E3 P w K mg base 1 d6k a7u (a2M K))
abbrev b0e:List Str:=[d6g,"many"]
theorem b9o:v7 [d6g,"many"] b0e (g0 a9U):=by walk_at "sc"
include T a3k in
theorem b9F(F:Fun K d6l d6l a9U f fd):J1 P w K mg base CX0 2 f fd b0e (a6c K):=fk F b9o fun _ _ _ _ _ _ hr nd=>c6 (g9 (O9 (o8 a3k hr (j7 (b8 0))) (M4 (b4d a8c a0d c7 (b8 0) (b8 1)))))
variable(a7H:E3 P w K mg base 2 d6l b0e (a6c K))
abbrev a8p:List Str:=["row",d5V,"many"]
theorem b7t:v7 ["row",d5V,"many","wanted"] a8p (g0 a6f):=by walk_at "sc"
theorem b5v:V6 ["row",d5V,"many","wanted"] (g0 a6f) (scF [ (".0",.local),(d5Q,.local),(d6l,.globalImplicit),("many",.free)]) d5Q := by walk_at "c0"
include T a7H in
theorem b7M(F:Fun K d6m d6m a6f f fd):J1 P w K mg base CX0 3 f fd a8p (a5k K):=fk F b7t fun _ _ _ _ _ _ hr nd=>b5 (v8 (J0 (C2 (j6 X6 rfl T.Q7 A5 (y9 (b8 1) (a0y rfl T.a4q D9 rfl))))) (c6 (g9 K5)) o7) (b5 (v9 3 nd (a5x (D3 (E4 hr) (j8 (b8 0) c7) C6) (K0 (j7 c7)) (K0 (y9 c7 c7)))) (c6 (g9 (O9 (a1t a4D (j6 p9 rfl T.M9 j5 (j7 (b8 1))) (b8 3) rfl) (M4 (j6 (a4E rfl) rfl T.c0B a1I (j7 (O6 b5v rfl (E7 (b8 1)) (fun _ _ _ _ _=>M3) (fun _ _ _ _ _=>o8 a7H hr (y9 (b8 0) (b8 3)))))))))))
variable(a6k:E3 P w K mg base 3 d6m a8p (a5k K))
abbrev a6q:List Str:=[d6n,d5U]
theorem b4y:v7 [d6n,d5U] a6q (g0 a4u):=by walk_at "sc"
theorem b2I:a4y [d6n,d5U] (g0 a4u) (scF [ (".0",.local),("row",.local),(d5V,.local),(d6m,.globalImplicit),("len",.globalImplicit),(d6n,.free)]) "row" d5V := by walk_at "c2"
include T a1F a6k in
theorem b4X(F:Fun K d6o d6o a4u f fd):J1 P w K mg base CX0 4 f fd a6q (a3G K):=fk F b4y fun _ _ _ _ _ _ hr nd=>b5 (v8 (M0 (Q0 (J0 (C2 (j6 X6 rfl T.Q7 A5 (y9 (b8 1) (a0y rfl T.a4q D9 rfl))))) (Q9 (D3 (a2J hr) (j6 p9 rfl T.M9 j5 (j7 (b8 1))) (j6 p9 rfl T.M9 j5 (j7 (b8 0))))))) (c6 a5v) o7) (c6 (E6 (o8 a1F hr (j7 (b4c b2I rfl (c5k rfl T.d4h (y9 (b8 0) (b8 1))) (fun _ _ _ _ _=>M3) (fun _ _ _ _ _=>o8 a6k hr (a3o (b8 0) (b8 1) (j6 p9 rfl T.M9 j5 (j7 (b8 2))))))))))
variable(a4x:E3 P w K mg base 4 d6o a6q (a3G K))
abbrev b2s:List Str:=["begins","leads"]
theorem c0V:v7 ["begins","leads","seen","waiting",d5Q] b2s (g0 b2h):=by walk_at "sc"
include T in
theorem c1C(F:Fun K "reached" "reached" b2h f fd):J1 P w K mg base CX0 1 f fd b2s (a5D K):=fk F c0V fun _ _ _ _ _ _ hr nd=>b5 (v9 2 nd a9J) (b5 (v9 3 nd (X5 a2n rfl T.a4q D9 (j7 (b8 0)))) (b5 (a2d PassesOwn.never (D3 a2K (j6 p9 rfl T.M9 j5 (j7 (b8 3))) c7) (b5 (v9 4 nd (b0B l5 PySem.F.slot_list_pop PySem.F.type_list_pop c3n (b8 3))) (c6 (v8 (a0R hr (b8 4) (b8 2) rfl) (b5 (a3m hr (b8 2) (b8 4) K5) (c6 (E6 (U9 l5 b8y b8x b0C (b8 3) (j7 (j8 (b8 1) (b8 4))))))) o7)))) (c6 (g9 (b8 2)))))
variable(a6U:E3 P w K mg base 1 "reached" b2s (a5D K))
abbrev b4P:List Str:=[d5U]
theorem c3B:v7 [d5U,"sources",d5Q,d5V,d5Z] b4P (g0 b1b):=by walk_at "sc"
theorem c0i:V6 [d5U,"sources",d5Q,d5V,d5Z] (g0 b1b) (scF [(".0",.local),(d5V,.local)]) d5V := by walk_at "c0"
include T in
theorem c3Y(F:Fun K "turned" "turned" b1b f fd):J1 P w K mg base CX0 1 f fd b4P (a8O K):=fk F c3B fun _ _ _ _ _ _ hr nd=>b5 (b0z (n:=1) nd rfl rfl c0i rfl (E7 (b8 0)) (fun _ _ _ _ _=>M3) (fun _ _ _ _ _=>F4 Y1)) (b5 (G0 PassesOwn.never rfl (a3n rfl T.a1y (j7 (b8 0))) (a5w rfl (U5 (L8 2 nd) (U5 (L8 3 nd) a4g))) (c6 (G0 PassesOwn.never rfl (E7 (b8 3)) (L8 4 nd) (c6 (E6 (U9 l5 v5 v0 F6 (j8 (b8 1) (b8 4)) (j7 (b8 2)))))))) (c6 (g9 (b8 1))))
variable(b1w:E3 P w K mg base 1 "turned" b4P (a8O K))
abbrev a7t:List Str:=[d5U]
theorem b5V:v7 [d5U,"begun","ending",d5Q] a7t (g0 a7l):=by walk_at "sc"
include T a3i a6U b1w in
theorem b6g(F:Fun K d6p d6p a7l f fd):J1 P w K mg base CX0 2 f fd a7t (a4s K):=fk F b5V fun _ _ _ _ _ _ hr nd=>b5 (v9 1 nd (o8 a6U hr (y9 (F4 (j7 c7)) (b8 0)))) (b5 (v9 2 nd (o8 a6U hr (y9 (o8 a3i hr (j7 (b8 0))) (o8 b1w hr (j7 (b8 0)))))) (c6 (G0 PassesOwn.never rfl (O7 rfl T.a1a (j7 (j6 p9 rfl T.M9 j5 (j7 (b8 0))))) (L8 3 nd) (c6 (v8 (M0 (Q0 (a0R hr (b8 3) (b8 1) rfl) (Q9 (a0R hr (b8 3) (b8 2) rfl)))) (c6 a5v) o7)))))
variable(a5n:E3 P w K mg base 2 d6p a7t (a4s K))
abbrev b0a:List Str:=[d5U]
theorem b9k:v7 [d5U,d5M,d5Q,d5V] b0a (g0 a7i):=by walk_at "sc"
theorem b6o:V6 [d5U,d5M,d5Q,d5V] (g0 a7i) (scF [ (".0",.local),("at",.local),(d5Q,.free)]) "at" := by walk_at "c0"
include T in
theorem b9B(F:Fun K d6q d6q a7i f fd):J1 P w K mg base CX0 1 f fd b0a (a4K K c):=fk F b9k fun _ _ _ _ _ _ hr nd=>b5 (v9 1 nd (F4 (j7 (O2 T.U1 rfl)))) (b5 (G0 PassesOwn.never rfl (a3n rfl T.a1y (j7 (b8 0))) (a5w rfl (U5 (L8 2 nd) (U5 (L8 3 nd) a4g))) (c6 (E6 (U9 l5 b8y b8x b0C (b8 1) (j7 (O6 b6o rfl (O7 rfl T.a1a (j7 (j6 p9 rfl T.M9 j5 (j7 (b8 3))))) (fun _ _ _ _ _=>M3) (fun _ _ _ _ _=>K0 (y9 (b8 3) (b8 0))))))))) (c6 (g9 (b8 1))))
variable(a3j:E3 P w K mg base 1 d6q b0a (a4K K c))
abbrev a8q:List Str:=[d5L,d6n,d5U]
theorem b7u:v7 [d5L,d6n,d5U,d5O] a8q (g0 a3r):=by walk_at "sc"
theorem b5y:V6 [d5L,d6n,d5U,d5O] (g0 a3r) (scF [ (".0",.local),("row",.local),("is_row",.globalImplicit)]) "row" := by walk_at "c0"
theorem b5x:V6 [d5L,d6n,d5U,d5O] (g0 a3r) (scF [ (".0",.local),(d5V,.local),("list",.globalImplicit)]) d5V := by walk_at "c0"
theorem b5w:V6 [d5L,d6n,d5U,d5O] (g0 a3r) (scF [(".0",.local),("row",.local)]) "row" := by walk_at "c0"
include T K7 a3R b1A a1F a4x a5n a3j in
theorem b7N(F:Fun K d4N "Plan.__init__" a3r f fd):J1 P w K mg base CX0 6 f fd a8q (a5l K c):=fk F b7u fun _ _ _ _ _ _ hr nd=>b5 (E6 (o8 a3R hr (a3o (b8 1) c7 c7))) (b5 (E6 (o8 a1F hr (j7 (O6 b5y rfl (E7 (b8 1)) (fun _ _ _ _ _=>M3) (fun _ _ _ _ _=>o8 b1A hr (j7 (b8 0))))))) (b5 (E6 (o8 a4x hr (y9 (b8 1) (b8 2)))) (b5 (E6 (o8 a5n hr (j7 (b8 2)))) (b5 (a1s (b8 0) (X5 a2n rfl T.a4q D9 (j7 (b8 1)))) (b5 (a1s (b8 0) (O6 b5x rfl (E7 (b8 2)) (fun _ _ _ _ _=>M3) (fun _ _ _ _ _=>X5 a2n rfl T.a4q D9 (j7 (b8 0))))) (b5 (a1s (b8 0) (O6 b5w rfl (E7 (b8 1)) (fun _ _ _ _ _=>M3) (fun _ _ _ _ _=>F4 Y1))) (c6 (G0 PassesOwn.never rfl (E7 (o8 a3j hr (j7 (C3 (b8 0))))) (L8 3 nd) (c6 (E6 (U9 l5 v5 v0 F6 (j8 (C3 (b8 0)) (N6 K7 hr (by decide) (b8 0) (j7 (b8 3)))) (j7 (b8 3)))))))))))))
variable(b7O:b3r P w K mg base 6 "Plan" c.Q2 a8q (a5l K c))
abbrev a7x:List Str:=[d5L]
theorem b5Z:v7 [d5L] a7x (g0 a7o):=by walk_at "sc"
include T a3j in
theorem b6k(F:Fun K d5M "Plan.steps" a7o f fd):J1 P w K mg base CX0 2 f fd a7x (a4t K c):=fk F b5Z fun _ _ _ _ _ _ hr nd=>c6 (g9 (o8 a3j hr (j7 (C3 (b8 0)))))
variable(a5o:X2 P w K mg base 2 d5M c.Q2 a7x (a4t K c))
abbrev a3f:List Str:=[d5L,d5O]
theorem a9d:v7 [d5L,d5O] a3f (g0 a3c):=by walk_at "sc"
include T F1 K7 in
theorem a9h(F:Fun K "wanted_on" "Wanted.wanted_on" a3c f fd):J1 P w K mg base CX0 2 f fd a3f (a1m K c):=fk F a9d fun _ _ _ _ _ _ hr nd=>c6 (g9 (N6 F1 hr (by decide) (b8 0) (j7 (N6 K7 hr (by decide) (C3 (b8 0)) (j7 (b8 1))))))
variable(a1G:X2 P w K mg base 2 "wanted_on" c.O0 a3f (a1m K c))
abbrev b2y:List Str:=["row"]
theorem c1b:v7 ["row"] b2y (g0 b2n):=by walk_at "sc"
include T in
theorem c1I(F:Fun K "deed_of" "deed_of" b2n f fd):J1 P w K mg base CX0 1 f fd b2y (a9L K):=fk F c1b fun _ _ _ _ _ _ hr nd=>c6 (g9 (a5x (D3 (E4 hr) (j8 (b8 0) c7) C6) (j8 (b8 0) c7) a2I))
variable(a9b:E3 P w K mg base 1 "deed_of" b2y (a9L K))
abbrev c1y:List Str:=["row",d5N]
theorem c8h:v7 ["row",d5N] c1y (g0 c1g):=by walk_at "sc"
include T a9b in
theorem c9k(F:Fun K "does" "does" c1g f fd):J1 P w K mg base CX0 2 f fd c1y (a7f K):=fk F c8h fun _ _ _ _ _ _ hr nd=>c6 (g9 (a3D (E4 hr) (o8 a9b hr (j7 (b8 0))) (b8 1)))
variable(a4p:E3 P w K mg base 2 "does" c1y (a7f K))
abbrev a2j:List Str:=[d5L,d5Q]
theorem a7R:v7 [d5L,d5Q,"row"] a2j (g0 a2i):=by walk_at "sc"
include T a0h Y6 a4p in
theorem a7T(F:Fun K d6r "Ready.ready_behind" a2i f fd):J1 P w K mg base CX0 3 f fd a2j (a0G K c):=fk F a7R fun _ _ _ _ _ _ hr nd=>b5 (v9 2 nd (j8 (C3 (C3 (b8 0))) (b8 1))) (b5 (v8 (C2 (o8 a0h hr (y9 (b8 2) (C3 (b8 0))))) (c6 (g9 K5)) o7) (c6 (g9 (a7a (o8 a4p hr (y9 (b8 2) (C3 (b8 0)))) (M4 (N6 Y6 hr (by decide) (b8 0) (j7 (b8 1))))))))
variable(a0W:X2 P w K mg base 3 d6r c.T1 a2j (a0G K c))
abbrev a4l:List Str:=[d5L,d5O]
theorem b0X:v7 [d5L,d5O] a4l (g0 a4i):=by walk_at "sc"
include T a0W in
theorem b1k(F:Fun K "ready_on" "Ready.ready_on" a4i f fd):J1 P w K mg base CX0 4 f fd a4l (a1W K c):=fk F b0X fun _ _ _ _ _ _ hr nd=>c6 (g9 (O9 (a1t (a6y hr) (b8 1) (O2 T.U1 rfl) (a3N _)) (M4 (N6 a0W hr (by decide) (b8 0) (j7 (j8 (b8 1) c7))))))
variable(a2x:X2 P w K mg base 4 "ready_on" c.T1 a4l (a1W K c))
abbrev a1D:List Str:=[d5L,d5Q]
theorem a6K:v7 [d5L,d5Q,d5V] a1D (g0 a0m):=by walk_at "sc"
theorem a5U:V6 [d5L,d5Q,d5V] (g0 a0m) (scF [ (".0",.local),(d5Z,.local),(d5L,.free)]) d5Z := by walk_at "c0"
include T F1 in
theorem a6O(F:Fun K d6s "Wanted.wanted_behind" a0m f fd):J1 P w K mg base CX0 2 f fd a1D (U7 K c):=fk F a6K fun _ _ _ _ _ _ hr nd=>b5 (v9 2 nd (j8 (C3 (C3 (b8 0))) (b8 1))) (c6 (g9 (O9 (a3D a2K (j6 p9 rfl T.M9 j5 (j7 (b8 2))) c7) (M4 (j6 (a4E rfl) rfl T.c0B a1I (j7 (O6 a5U rfl (E7 (b8 2)) (fun _ _ _ _ _=>M3) (fun _ _ _ _ _=>N6 F1 hr (by decide) (b8 1) (j7 (b8 0))))))))))
variable(a0o:X2 P w K mg base 2 d6s c.O0 a1D (U7 K c))
abbrev a3M:List Str:=[d5L,d5O]
theorem a9O:v7 [d5L,d5O] a3M (g0 a3J):=by walk_at "sc"
include T L4 a1G a2x a0o in
theorem b0h(F:Fun K "is_brink" "Brinks.is_brink" a3J f fd):J1 P w K mg base CX0 5 f fd a3M (a1B K c):=fk F a9O fun _ _ _ _ _ _ hr nd=>b5 (v8 (M0 (Q0 (J0 (C2 (N6 a1G hr (by decide) (C3 (b8 0)) (j7 (b8 1))))) (Q9 (C2 (N6 a2x hr (by decide) (C3 (b8 0)) (j7 (b8 1))))))) (c6 (g9 K5)) o7) (c6 (g9 (a7a (a1t (a6A hr) (b8 1) (O2 T.U1 rfl) (a3N _)) (a7a (N6 L4 hr (by decide) (b8 0) (j7 (b8 1))) (M4 (a6x (N6 a0o hr (by decide) (C3 (b8 0)) (j7 (j8 (b8 1) c7)))))))))
variable(a1X:X2 P w K mg base 5 "is_brink" c.C4 a3M (a1B K c))
abbrev b2t:List Str:=[d5R,d5Q,d6b,d5X]
theorem c0W:v7 [d5R,d5Q,d6b,d5X,"at",d5Z] b2t (g0 b2i):=by walk_at "sc"
include T in
theorem c1D(F:Fun K "pass_on" "pass_on" b2i f fd):J1 P w K mg base CX0 1 f fd b2t (a5E K):=fk F c0W fun _ _ _ _ _ _ hr nd=>c6 (G0 PassesOwn.never rfl (a3n rfl T.a1y (j7 (j8 (C3 (b8 0)) (b8 1)))) (a5w rfl (U5 (L8 4 nd) (U5 (L8 5 nd) a4g))) (c6 (v8 (a0R hr (b8 5) (b8 2) rfl) (b5 (a3m hr (b8 2) (b8 5) (K0 (y9 (b8 1) (b8 4)))) (c6 (E6 (U9 l5 v5 v0 F6 (b8 3) (j7 (b8 5)))))) o7)))
variable(a6V:E3 P w K mg base 1 "pass_on" b2t (a5E K))
abbrev a5a:List Str:=[d5R,"made","broken"]
theorem b2e:v7 [d5R,"made","broken",d6b,d5X,d5Q,"done"] a5a (g0 a4X):=by walk_at "sc"
include T a6V in
theorem b2A(F:Fun K d6t d6t a4X f fd):J1 P w K mg base CX0 2 f fd a5a (a2q K c):=fk F b2e fun _ _ _ _ _ _ hr nd=>b5 (v9 3 nd (b1R (a9I c7 (O2 T.U1 rfl) b1P))) (b5 (v9 4 nd (F4 (j7 c7))) (b5 (G0 PassesOwn.never rfl (O7 rfl T.a1a (j7 (j6 p9 rfl T.M9 j5 (j7 (C3 (b8 0)))))) (L8 5 nd) (c6 (v8 (C2 (j8 (b8 2) (b8 5))) (c6 (E6 (o8 a6V hr (c5o (b8 0) (b8 5) (b8 3) (b8 4))))) o7))) (b5 (v9 6 nd c7) (b5 (a2d PassesOwn.never (D3 a0d (b8 6) (j6 p9 rfl T.M9 j5 (j7 (b8 4)))) (b5 (v9 5 nd (j8 (b8 4) (b8 6))) (b5 (b0A (n:=6) nd rfl (Or.inl rfl) c7 a8e) (c6 (v8 (J0 (C2 (j8 (b8 1) (b8 5)))) (c6 (E6 (o8 a6V hr (c5o (b8 0) (b8 5) (b8 3) (b8 4))))) o7))))) (c6 (g9 (b8 3)))))))
variable(a2X:E3 P w K mg base 2 d6t a5a (a2q K c))
abbrev a7v:List Str:=[d5L,d5R,d5N]
theorem b5X:v7 [d5L,d5R,d5N,"made"] a7v (g0 a3H):=by walk_at "sc"
theorem b3E:V6 [d5L,d5R,d5N,"made"] (g0 a3H) (scF [ (".0",.local),("row",.local),("does",.globalImplicit),(d5N,.free)]) "row" := by walk_at "c0"
theorem b3D:V6 [d5L,d5R,d5N,"made"] (g0 a3H) (scF [ (".0",.local),("row",.local),("spoils",.globalImplicit),(d5N,.free)]) "row" := by walk_at "c0"
include T a0h a4p a2X in
theorem b6i(F:Fun K d4N "Ready.__init__" a3H f fd):J1 P w K mg base CX0 3 f fd a7v (a2N K c):=fk F b5X fun _ _ _ _ _ _ hr nd=>b5 (a1s (b8 0) (b8 1)) (b5 (a1s (b8 0) (b8 2)) (b5 (b0z (n:=3) nd rfl rfl b3E rfl (E7 (C3 (b8 1))) (fun _ _ _ _ _=>M3) (fun _ _ _ _ _=>o8 a4p hr (y9 (b8 0) (b8 3)))) (c6 (a1s (b8 0) (o8 a2X hr (a3o (b8 1) (b8 3) (O6 b3D rfl (E7 (C3 (b8 1))) (fun _ _ _ _ _=>M3) (fun _ _ _ _ _=>o8 a0h hr (y9 (b8 0) (b8 3))))))))))
variable(b3M:b3r P w K mg base 3 "Ready" c.T1 a7v (a2N K c))
abbrev a4Z:List Str:=[d5R,d5N]
theorem b2d:v7 [d5R,d5N,"ends",d5Q,"row"] a4Z (g0 a4W):=by walk_at "sc"
include T a0h a4p in
theorem b2z(F:Fun K d6u d6u a4W f fd):J1 P w K mg base CX0 3 f fd a4Z (a2p K):=fk F b2d fun _ _ _ _ _ _ hr nd=>b5 (v9 2 nd (F4 Y1)) (b5 (G0 PassesOwn.never rfl (a3n rfl T.a1y (j7 (C3 (b8 0)))) (a5w rfl (U5 (L8 3 nd) (U5 (L8 4 nd) a4g))) (c6 (v8 (M0 (a1r (J0 (C2 (o8 a4p hr (y9 (b8 4) (b8 1))))) (a1q (M0 (Q0 (C2 (o8 a0h hr (y9 (b8 4) (b8 1)))) (Q9 (D3 (E4 hr) (j6 p9 rfl T.M9 j5 (j7 (j8 (C3 (b8 0)) (b8 3)))) c7))))))) (c6 (E6 (U9 l5 v5 v0 F6 (b8 2) (j7 (b8 3))))) o7))) (c6 (g9 (b8 2))))
variable(a2W:E3 P w K mg base 3 d6u a4Z (a2p K))
abbrev a4k:List Str:=[d5R,d5N]
theorem b0W:v7 [d5R,d5N,d5X,d5S,"done","here",d5O] a4k (g0 a2s):=by walk_at "sc"
theorem a9k:V6 [d5R,d5N,d5X,d5S,"done","here",d5O] (g0 a2s) (scF [(".0",.local),(d5Q,.local)]) d5Q := by walk_at "c0"
include T X0 a4p a2W in
theorem b1j(F:Fun K d6v d6v a2s f fd):J1 P w K mg base CX0 4 f fd a4k (a1V K c):=fk F b0W fun _ _ _ _ _ _ hr nd=>b5 (v9 2 nd (o8 a2W hr (y9 (b8 0) (b8 1)))) (b5 (v9 3 nd (X5 (a9v rfl) rfl T.c2m a6v (j7 (O6 a9k rfl (E7 (b8 2)) (fun _ _ _ _ _=>M3) (fun _ _ _ _ _=>K0 (y9 (b8 0) a2I)))))) (b5 (v9 4 nd c7) (b5 (a2d PassesOwn.never (D3 a0d (b8 4) (j6 p9 rfl T.M9 j5 (j7 (b8 2)))) (b5 (v9 5 nd (j8 (b8 2) (b8 4))) (b5 (b0A (n:=4) nd rfl (Or.inl rfl) c7 a8e) (c6 (G0 PassesOwn.never rfl (E7 (N6 X0 hr (by decide) (b8 0) (j7 (b8 5)))) (L8 6 nd) (c6 (v8 (M0 (a1r (Y4 (a6y hr) (b8 6) (O2 T.U1 rfl) (a3N _)) (a1r (a0R hr (j8 (b8 6) c7) (b8 3) rfl) (a1q (J0 (C2 (o8 a4p hr (y9 (j8 (C3 (b8 0)) (j8 (b8 6) c7)) (b8 1))))))))) (b5 (a3m hr (b8 3) (j8 (b8 6) c7) (b8 6)) (c6 (E6 (U9 l5 v5 v0 F6 (b8 2) (j7 (j8 (b8 6) c7)))))) o7))))))) (c6 (g9 (b8 3))))))
variable(a2u:E3 P w K mg base 4 d6v a4k (a1V K c))
abbrev a6r:List Str:=[d5L,d5R,d5N]
theorem b4z:v7 [d5L,d5R,d5N] a6r (g0 a6p):=by walk_at "sc"
include T a2u in
theorem b4Y(F:Fun K d4N "Wanted.__init__" a6p f fd):J1 P w K mg base CX0 5 f fd a6r (a2g K c):=fk F b4z fun _ _ _ _ _ _ hr nd=>b5 (a1s (b8 0) (b8 1)) (c6 (a1s (b8 0) (o8 a2u hr (y9 (b8 1) (b8 2)))))
variable(b1n:b3r P w K mg base 5 "Wanted" c.O0 a6r (a2g K c))
abbrev a6s:List Str:=[d5L,d5R,d5N]
theorem b4A:v7 [d5L,d5R,d5N] a6s (g0 a4v):=by walk_at "sc"
theorem b2J:V6 [d5L,d5R,d5N] (g0 a4v) (scF [ (".0",.local),(d5O,.local),(d5L,.free)]) d5O := by walk_at "c0"
include T a5o a1X b3M b1n in
theorem b4Z(F:Fun K d4N "Brinks.__init__" a4v f fd):J1 P w K mg base CX0 7 f fd a6s (a0D K c):=fk F b4A fun _ _ _ _ _ _ hr nd=>b5 (a1s (b8 0) (b8 1)) (b5 (a1s (b8 0) (b8 2)) (b5 (a1s (b8 0) (b1Q b3M hr (y9 (b8 1) (b8 2)))) (b5 (a1s (b8 0) (b1Q b1n hr (y9 (b8 1) (b8 2)))) (c6 (a1s (b8 0) (X5 (b5P rfl hr) rfl T.c2m a6v (j7 (O6 b2J rfl (E7 (a8I a5o hr (by decide) (b8 1))) (fun _ _ _ _ _=>b1O (C2 (N6 a1X hr (by decide) (b8 1) (j7 (b8 0))))) (fun _ _ _ _ _=>K0 (y9 (b8 0) K5))))))))))
variable(a6R:b3r P w K mg base 7 "Brinks" c.C4 a6s (a0D K c))
abbrev d0m:List Str:=[d4O]
theorem c5P:v7 [d4O,d4Q,d5m,d4T,d5k,d5b,"_law_other","_law_plan_here","_law_left","_law_right",d6d,d5o,d5u,"_law_fresh",d5J] d0m (g0 b9q):=by walk_at "sc"
theorem c7p:V6 [d4O,d4Q,d5m,d4T,d5k,d5b,"_law_other","_law_plan_here","_law_left","_law_right",d6d,d5o,d5u,"_law_fresh",d5J] (g0 b9q) (scF [ (".0",.local),(d4V,.local),("list",.globalImplicit)]) d4V := by walk_at "c0"
include T c2V K6 b0o b8h a2v a8C b5A Q1 b0n b7O a6R in
theorem d2b(ck:a1h K c)(F:Fun K "law" "law" b9q f fd):J1 P w K mg base CX0 9 f fd d0m (b4v K):=by
 refine b8P F c5P (fun vs H Q E h=>h.1) (fun cdv A outer s H vs Q E hr h=>⟨c5G K c,?_,h.2 c ck⟩);have nd:=c5P.nd;exact b5 (v9 1 nd (o8 c2V hr (j7 (b8 0)))) (b5 (a6w (o8 b8h hr (j7 (b8 1))) (a5w rfl (U5 (L8 2 nd) (U5 (L8 3 nd) (U5 (L8 4 nd) a4g))))) (b5 (E6 (U9 l5 v5 v0 F6 (b8 4) (j7 (o8 b0o hr (y9 (b8 1) (F4 (y9 C6 C6))))))) (b5 (v9 5 nd (j8 (b8 4) (o8 K6 hr (y9 (b8 1) (j6 p9 rfl T.M9 j5 (j7 (b8 4))))))) (b5 (v9 6 nd (j8 (b8 4) (o8 K6 hr (y9 (b8 1) (j6 p9 rfl T.M9 j5 (j7 (b8 4))))))) (b5 (v9 7 nd (b1Q b7O hr (y9 (X5 a2n rfl T.a4q D9 (j7 (b8 2))) (O6 c7p rfl (E7 (b8 3)) (fun _ _ _ _ _=>M3) (fun _ _ _ _ _=>X5 a2n rfl T.a4q D9 (j7 (b8 0))))))) (b5 (v9 8 nd (b1Q a6R hr (y9 (b8 7) (b8 5)))) (b5 (v9 9 nd (b1Q a6R hr (y9 (b8 7) (b8 6)))) (b5 (v9 10 nd (F4 (y9 (o8 a8C hr (a3o (b8 2) (b8 3) (b8 5))) (o8 a8C hr (a3o (b8 2) (b8 3) (b8 6)))))) (b5 (v8 (M0 (Q0 (J0 (C2 (o8 b0n hr (a9s (b8 2) (b8 3) (b8 5) (b8 8) (j8 (b8 10) c7))))) (Q9 (J0 (C2 (o8 b0n hr (a9s (b8 2) (b8 3) (b8 6) (b8 9) (j8 (b8 10) c7)))))))) (c6 (g9 K5)) o7) (b5 (v9 11 nd (o8 a2v hr (j7 (b8 3)))) (b5 (v9 12 nd (j8 (b8 11) (o8 K6 hr (y9 (b8 1) (j6 p9 rfl T.M9 j5 (j7 (b8 11))))))) (b5 (v8 (M0 (a1r (D3 a2K (j6 p9 rfl T.M9 j5 (j7 (j8 (b8 10) c7))) c7) (a1q (D3 (E4 hr) (o8 K6 hr (y9 (b8 1) c7)) c7)))) (c6 (v9 12 nd (j8 (j8 (b8 10) c7) (o8 K6 hr (y9 (b8 1) (j6 p9 rfl T.M9 j5 (j7 (j8 (b8 10) c7)))))))) o7) (b5 (v9 13 nd (b1Q a6R hr (y9 (b8 7) (b8 5)))) (b5 (v9 14 nd (N6 Q1 hr (by decide) (b8 13) (j7 (b8 12)))) (b5 (v8 (Y4 (c3j hr) (N6 Q1 hr (by decide) (b8 13) (j7 (b8 12))) (b8 14) (a3N _)) (c6 (g9 K5)) o7) (b5 (v8 (M0 (a1r (Y4 (b4e hr) (b8 12) (j8 (b8 10) c7) rfl) (a1q (D3 a8d (b8 14) a2I)))) (c6 (g9 K5)) o7) (b5 (v8 (M0 (a1r (Y4 (c3l hr) (b8 12) (j8 (b8 10) c7) rfl) (a1q (J0 (C2 (o8 b5A hr (a9s (b8 2) (b8 3) (b8 5) (b8 12) (b8 14)))))))) (c6 (g9 K5)) o7) (c6 (g9 (O9 (o8 b0n hr (a9s (b8 2) (b8 3) (b8 5) (b8 8) (j8 (b8 10) c7))) (M4 (o8 b0n hr (a9s (b8 2) (b8 3) (b8 6) (b8 9) (j8 (b8 10) c7))))))))))))))))))))))))
end
end
structure ClF(K:Fg)(y:Str)(C:Addr):Prop where
 y:D4 K A7 y=some (some (.ref C))
 pg:a4S K C Str.empty=true
 hd:a6u K C=true
 po:b2S K C=true
 sa:A6 K (.ref C) "__setattr__" = some (some (.builtin "object.__setattr__"))
 mm:a7W K C=true
 kc:a0J K (.ref C)=true
abbrev pm0:Value:=(.str "law_oncedone_k51_brinks_with_papers" 858)
abbrev pm1:Value:=(.str "oncedone.brinks" 787)
abbrev pm2:Value:=(.str "oncedone.deeds" 253)
abbrev pm3:Value:=(.str "oncedone.wanted" 705)
abbrev pm4:Value:=(.str "oncedone.plans" 435)
abbrev pm5:Value:=(.str "oncedone.ways" 565)
abbrev pm6:Value:=(.str "oncedone.ready" 607)
abbrev pm7:Value:=(.str "oncedone.checks" 405)
abbrev pm8:Value:=(.str "oncedone.words" 194)
theorem d2F{l:PySem.W.OpenLaw}{w:World}{K:Fg}{h:Heap}{mg:Str->Option Value}{fa:Addr}(X:K.In h)(G:h.Ns A7 mg)(hfa:mg "law" = some (.ref fa))
  (y_Brinks:ClF K "Brinks" 502)
  (a3V:A6 K (.ref 502) d5N = some none)
  (a1N:A6 K (.ref 502) "found" = some none)
  (a2m:A6 K (.ref 502) d5R = some none)
  (a1M:A6 K (.ref 502) "ready" = some none)
  (Y7:A6 K (.ref 502) "wanted" = some none)
  (y_Plan:ClF K "Plan" 297)
  (a1L:A6 K (.ref 297) "entries" = some none)
  (Q3:A6 K (.ref 297) d5U = some none)
  (Z0:A6 K (.ref 297) d6n = some none)
  (y_Ready:ClF K "Ready" 391)
  (a0A:A6 K (.ref 391) d6b = some none)
  (a1Q:A6 K (.ref 391) d5N = some none)
  (a1P:A6 K (.ref 391) d5R = some none)
  (y_Wanted:ClF K "Wanted" 450)
  (a0Z:A6 K (.ref 450) d5S = some none)
  (Z4:A6 K (.ref 450) d5R = some none)
  (y_DEED_KINDS:D4 K A7 "DEED_KINDS" = some (some (.ref 22))) (l_DEED_KINDS:K.lookup 22=some ⟨.type "tuple",none,.seq (([(.str "plus" 204),(.str "minus" 205),(.str "times" 206),(.str "less" 207),(.str "same" 208)]:List Value).toArray) 0,#[]⟩)
  (y_FIRST_STEP:D4 K A7 "FIRST_STEP" = some (some (.ref 201))) (l_FIRST_STEP:K.lookup 201=some ⟨.type "tuple",none,.seq (([(.int (-1) 438),(.int (0) 439)]:List Value).toArray) 0,#[]⟩)
  (x0:FnG K d4P c2z 511 pm0 (.ref 510))
  (x1:FnG K d4S c1e 518 pm0 (.ref 517))
  (x2:FnG K d4X c5W 525 pm0 (.ref 524))
  (x3:FnG K d5d a6M 530 pm0 (.ref 529))
  (x4:FnG K d5e b7y 535 pm0 (.ref 534))
  (x5:FnG K d5g b7x 542 pm0 (.ref 541))
  (x6:FnG K d5i b2j 549 pm0 (.ref 548))
  (x7:FnG K d5j c1i 556 pm0 (.ref 555))
  (x8:FnG K d5l c5T 563 pm0 (.ref 562))
  (x9:FnG K d5n c1f 570 pm0 (.ref 569))
  (x10:FnG K d5p b7v 591 pm0 (.ref 590))
  (x11:FnG K d5s a7j 584 pm0 (.ref 583))
  (x12:FnG K d5t a9R 577 pm0 (.ref 576))
  (x13:FnG K d5v d0P 598 pm0 (.ref 597))
  (x14:FnG K d5x b7w 605 pm0 (.ref 604))
  (x15:FnG K d5z b1a 610 pm0 (.ref 609))
  (x16:FnG K d5B b1e 615 pm0 (.ref 614))
  (x17:FnG K d5C c5X 651 pm0 (.ref 650))
  (x18:FnG K d5D a8l 658 pm0 (.ref 657))
  (x19:FnG K d5F b2l 672 pm0 (.ref 671))
  (x20:FnG K d5G b1c 637 pm0 (.ref 636))
  (x21:FnG K d5H b2g 679 pm0 (.ref 678))
  (x22:FnG K d5I a9P 686 pm0 (.ref 685))
  (x23:FnG K d5K c5Q 693 pm0 (.ref 692))
  (x24:FnM K 502 d5M "Brinks.steps" a5H 487 pm1 (.ref 486))
  (x25:FnG K "set_by" b4E 76 pm2 (.ref 75))
  (x26:FnG K "spoils" b4D 90 pm2 (.ref 89))
  (x27:FnM K 502 d5P "Brinks.is_spoilt_ahead" a1d 480 pm1 (.ref 479))
  (x28:FnM K 450 "wanted_at" "Wanted.wanted_at" a3d 428 pm3 (.ref 427))
  (x29:FnM K 297 "leads_to" "Plan.leads_to" a4Y 266 pm4 (.ref 265))
  (x30:FnG K d5T a9V 327 pm5 (.ref 326))
  (x31:FnG K d5W a7h 216 pm4 (.ref 215))
  (x32:FnM K 297 "stops" "Plan.stops" a7n 280 pm4 (.ref 279))
  (x33:FnM K 297 "steps_into" "Plan.steps_into" a3I 273 pm4 (.ref 272))
  (x34:FnG K "way_on" b0Z 320 pm5 (.ref 319))
  (x35:FnM K 450 d5Y "Wanted.way_unwanted" a1T 447 pm3 (.ref 446))
  (x36:FnM K 502 d6a "Brinks.way_unwanted_behind" T8 499 pm1 (.ref 498))
  (x37:FnG K "traced" b4C 315 pm5 (.ref 314))
  (x38:FnG K "way_to" b4B 308 pm5 (.ref 307))
  (x39:FnM K 391 "ready_at" "Ready.ready_at" a4j 360 pm6 (.ref 359))
  (x40:FnM K 391 d6c "Ready.begins_unready" a1C 381 pm6 (.ref 380))
  (x41:FnM K 391 "way_unready" "Ready.way_unready" a2C 388 pm6 (.ref 387))
  (x42:FnM K 502 "why_brink" "Brinks.why_brink" a3e 494 pm1 (.ref 493))
  (x43:FnG K d6e c1d 700 pm0 (.ref 699))
  (x44:FnG K d6f a5G 193 pm7 (.ref 192))
  (x45:FnG K "is_name" a8S 41 pm8 (.ref 40))
  (x46:FnG K d6h a9S 29 pm8 (.ref 28))
  (x47:FnG K d6i a9T 36 pm8 (.ref 35))
  (x48:FnG K d6j a7k 48 pm8 (.ref 47))
  (x49:FnG K "is_deed" b2k 55 pm8 (.ref 54))
  (x50:FnG K "is_row" b4F 62 pm8 (.ref 61))
  (x51:FnG K d6k a7m 200 pm7 (.ref 199))
  (x52:FnG K d6l a9U 186 pm7 (.ref 185))
  (x53:FnG K d6m a6f 206 pm4 (.ref 205))
  (x54:FnG K d6o a4u 211 pm4 (.ref 210))
  (x55:FnG K "reached" b2h 228 pm4 (.ref 227))
  (x56:FnG K "turned" b1b 221 pm4 (.ref 220))
  (x57:FnG K d6p a7l 235 pm4 (.ref 234))
  (x58:FnG K d6q a7i 240 pm4 (.ref 239))
  (x59:FnM K 297 d4N "Plan.__init__" a3r 252 pm4 (.ref 251))
  (x60:FnM K 297 d5M "Plan.steps" a7o 259 pm4 (.ref 258))
  (x61:FnM K 450 "wanted_on" "Wanted.wanted_on" a3c 440 pm3 (.ref 439))
  (x62:FnG K "deed_of" b2n 69 pm2 (.ref 68))
  (x63:FnG K "does" c1g 83 pm2 (.ref 82))
  (x64:FnM K 391 d6r "Ready.ready_behind" a2i 367 pm6 (.ref 366))
  (x65:FnM K 391 "ready_on" "Ready.ready_on" a4i 374 pm6 (.ref 373))
  (x66:FnM K 450 d6s "Wanted.wanted_behind" a0m 433 pm3 (.ref 432))
  (x67:FnM K 502 "is_brink" "Brinks.is_brink" a3J 473 pm1 (.ref 472))
  (x68:FnG K "pass_on" b2i 334 pm6 (.ref 333))
  (x69:FnG K d6t a4X 341 pm6 (.ref 340))
  (x70:FnM K 391 d4N "Ready.__init__" a3H 353 pm6 (.ref 352))
  (x71:FnG K d6u a4W 402 pm3 (.ref 401))
  (x72:FnG K d6v a2s 407 pm3 (.ref 406))
  (x73:FnM K 450 d4N "Wanted.__init__" a6p 421 pm3 (.ref 420))
  (x74:FnM K 502 d4N "Brinks.__init__" a4v 466 pm1 (.ref 465))
  (x75:FnG K "law" b9q 705 pm0 (.ref 704))
  (z_abs:D4 K A7 "abs" = some none)
  (z_all:D4 K A7 "all" = some none)
  (z_any:D4 K A7 "any" = some none)
  (z_bool:D4 K A7 "bool" = some none)
  (z_dict:D4 K A7 "dict" = some none)
  (z_enumerate:D4 K A7 "enumerate" = some none)
  (z_int:D4 K A7 "int" = some none)
  (z_isinstance:D4 K A7 "isinstance" = some none)
  (z_len:D4 K A7 "len" = some none)
  (z_list:D4 K A7 "list" = some none)
  (z_min:D4 K A7 "min" = some none)
  (z_range:D4 K A7 "range" = some none)
  (z_sorted:D4 K A7 "sorted" = some none)
  (z_str:D4 K A7 "str" = some none)
  (z_tuple:D4 K A7 "tuple" = some none)
  (z_zip:D4 K A7 "zip" = some none)
  (y_BOUND:D4 K A7 "BOUND" = some (some (.int (1000000000000) 196)))
  (y_FIGURES:D4 K A7 "FIGURES" = some (some (.str "0123456789" 200)))
  (y_LETTERS:D4 K A7 "LETTERS" = some (some (.str "abcdefghijklmnopqrstuvwxyz" 198)))
  (y_LONGEST_NAME:D4 K A7 "LONGEST_NAME" = some (some (.int (8) 202)))
  (y_MOST:D4 K A7 "MOST" = some (some (.int (400) 407)))
  : ∃fd:a2b,(∀(s:l7) (v:Value),c5i s fd ⟨[v],[]⟩ [(d4O,v)])/\∀base:Heap,K.In base->base.Ns A7 mg->J1 l.prog w K mg base CX0 9 fa fd [d4O] (b4v K):=by
 have e:=hfa.symm.trans (a0B X G x75.a);cases e
 let c:Cn:=⟨502,297,391,450,22,201⟩
 have ck:a1h K c:=⟨⟨y_Brinks.pg,y_Brinks.hd,y_Brinks.po,y_Brinks.sa⟩,a3V,a1N,a2m,a1M,Y7,⟨y_Plan.pg,y_Plan.hd,y_Plan.po,y_Plan.sa⟩,a1L,Q3,Z0,⟨y_Ready.pg,y_Ready.hd,y_Ready.po,y_Ready.sa⟩,a0A,a1Q,a1P,⟨y_Wanted.pg,y_Wanted.hd,y_Wanted.po,y_Wanted.sa⟩,a0Z,Z4,fun H=>.inr ⟨_,([(.str "plus" 204),(.str "minus" 205),(.str "times" 206),(.str "less" 207),(.str "same" 208)]:List Value).toArray,0,l_DEED_KINDS,rfl,rfl,by decide,.cons ⟨_,rfl⟩ ( .cons ⟨_,rfl⟩ ( .cons ⟨_,rfl⟩ ( .cons ⟨_,rfl⟩ ( .cons ⟨_,rfl⟩ ( .nil)))))⟩,fun H=>.inr ⟨_,([(.int (-1) 438),(.int (0) 439)]:List Value).toArray,0,l_FIRST_STEP,rfl,rfl,by decide,.cons ⟨_,rfl⟩ ( .cons ⟨_,rfl⟩ ( .nil))⟩⟩;have T:Txt K mg c:=⟨E2 X G z_abs,E2 X G z_all,E2 X G z_any,E2 X G z_bool,E2 X G z_dict,E2 X G z_enumerate,E2 X G z_int,E2 X G z_isinstance,E2 X G z_len,E2 X G z_list,E2 X G z_min,E2 X G z_range,E2 X G z_sorted,E2 X G z_str,E2 X G z_tuple,E2 X G z_zip,⟨_,a0B X G y_BOUND,⟨_,rfl⟩⟩,⟨_,a0B X G y_DEED_KINDS,rfl⟩,⟨_,a0B X G y_FIGURES,⟨_,rfl⟩⟩,⟨_,a0B X G y_FIRST_STEP,rfl⟩,⟨_,a0B X G y_LETTERS,⟨_,rfl⟩⟩,⟨_,a0B X G y_LONGEST_NAME,⟨_,rfl⟩⟩,⟨_,a0B X G y_MOST,⟨_,rfl⟩⟩⟩;refine⟨fdM "law" "law" b9q pm0 (.ref 704),fun s v=>.of_eq rfl,fun base _ _=>?_⟩;have c2V:=mkC X G x0 (d2d (P:=l.prog) (w:=w) (base:=base) T x0.i.F) fun _ _ _ _ _ _ _=>rfl
 have K6:=mkC X G x1 (c9h (P:=l.prog) (w:=w) (base:=base) T x1.i.F) fun _ _ _ _ _ _ _ _=>rfl
 have c2U:=mkC X G x2 (d2a T K6 x2.i.F) fun _ _ _ _ _ _ _ _=>rfl
 have b1z:=mkC X G x3 (c4d (P:=l.prog) (w:=w) (base:=base) T x3.i.F) fun _ _ _ _ _ _ _=>rfl
 have b8i:=mkC X G x4 (c9j T K6 x4.i.F) fun _ _ _ _ _ _ _ _=>rfl
 have b3Q:=mkC X G x5 (c6P T K6 b8i x5.i.F) fun _ _ _ _ _ _ _=>rfl
 have a0O:=mkC X G x6 (c1E T K6 x6.i.F) fun _ _ _ _ _ _ _ _=>rfl
 have b0o:=mkC X G x7 (c9l T K6 a0O x7.i.F) fun _ _ _ _ _ _ _ _=>rfl
 have c2T:=mkC X G x8 (d1Z T K6 a0O x8.i.F) fun _ _ _ _ _ _ _ _ _=>rfl
 have b8h:=mkC X G x9 (c9i T K6 c2U b1z b3Q a0O b0o c2T x9.i.F) fun _ _ _ _ _ _ _=>rfl
 have a2v:=mkC X G x10 (c6N (P:=l.prog) (w:=w) (base:=base) T x10.i.F) fun _ _ _ _ _ _ _=>rfl
 have G9:=mkC X G x11 (b6e (P:=l.prog) (w:=w) (base:=base) T x11.i.F) fun _ _ _ _ _ _ _ _=>rfl
 have R6:=mkC X G x12 (b9C (P:=l.prog) (w:=w) (base:=base) T x12.i.F) fun _ _ _ _ _ _ _ _=>rfl
 have b6p:=mkC X G x13 (d3W (P:=l.prog) (w:=w) (base:=base) T x13.i.F) fun _ _ _ _ _ _ _ _=>rfl
 have b3P:=mkC X G x14 (c6O T a2v G9 R6 b6p x14.i.F) fun _ _ _ _ _ _ _ _ _=>rfl
 have b1v:=mkC X G x15 (c3X T G9 R6 x15.i.F) fun _ _ _ _ _ _ _ _ _=>rfl
 have a8C:=mkC X G x16 (c4f T a2v G9 R6 b6p b3P b1v x16.i.F) fun _ _ _ _ _ _ _ _ _=>rfl
 have b3p:=mkC X G x17 (d2c (P:=l.prog) (w:=w) (base:=base) T x17.i.F) fun _ _ _ _ _ _ _=>rfl
 have a0u:=mkC X G x18 (b7L T b3p x18.i.F) fun _ _ _ _ _ _ _=>rfl
 have a4o:=mkC X G x19 (c1H (P:=l.prog) (w:=w) (base:=base) T x19.i.F) fun _ _ _ _ _ _ _ _ _=>rfl
 have a5N:=mkC X G x20 (c4c T b6p x20.i.F) fun _ _ _ _ _ _ _ _=>rfl
 have a8Z:=mkC X G x21 (c1B T G9 R6 a0u a4o a5N x21.i.F) fun _ _ _ _ _ _ _ _ _ _ _=>rfl
 have a7F:=mkC X G x22 (b9z T G9 R6 a0u a4o a5N x22.i.F) fun _ _ _ _ _ _ _ _ _ _ _=>rfl
 have b5A:=mkC X G x23 (d1Y T G9 b3p a8Z a7F x23.i.F) fun _ _ _ _ _ _ _ _ _ _ _=>rfl
 have a3T:=mkM x24 ck.L5 (b3A (P:=l.prog) (w:=w) (base:=base) T x24.i.F) fun _ _ _ _ _ _ _=>rfl
 have b1y:=mkC X G x25 (c4b (P:=l.prog) (w:=w) (base:=base) T x25.i.F) fun _ _ _ _ _ _ _=>rfl
 have a0h:=mkC X G x26 (c4a T b1y x26.i.F) fun _ _ _ _ _ _ _ _=>rfl
 have L4:=mkM x27 ck.L5 (a5T T a0h x27.i.F) fun _ _ _ _ _ _ _ _=>rfl
 have F1:=mkM x28 ck.Y8 (a9i (P:=l.prog) (w:=w) (base:=base) T x28.i.F) fun _ _ _ _ _ _ _ _=>rfl
 have K7:=mkM x29 ck.O4 (b2B (P:=l.prog) (w:=w) (base:=base) T x29.i.F) fun _ _ _ _ _ _ _ _=>rfl
 have a3l:=mkC X G x30 (b9G T K7 x30.i.F) fun _ _ _ _ _ _ _ _ _=>rfl
 have a3i:=mkC X G x31 (b9A (P:=l.prog) (w:=w) (base:=base) T x31.i.F) fun _ _ _ _ _ _ _=>rfl
 have a3S:=mkM x32 ck.O4 (b6j T a3i x32.i.F) fun _ _ _ _ _ _ _=>rfl
 have X0:=mkM x33 ck.O4 (b0g (P:=l.prog) (w:=w) (base:=base) T x33.i.F) fun _ _ _ _ _ _ _ _=>rfl
 have b1u:=mkC X G x34 (c3W T a3l a3S X0 x34.i.F) fun _ _ _ _ _ _ _ _=>rfl
 have a0H:=mkM x35 ck.Y8 (a7y T F1 K7 a3l b1u x35.i.F) fun _ _ _ _ _ _ _ _=>rfl
 have U0:=mkM x36 ck.L5 (a4O T F1 a0H x36.i.F) fun _ _ _ _ _ _ _ _=>rfl
 have b1x:=mkC X G x37 (c3Z (P:=l.prog) (w:=w) (base:=base) T x37.i.F) fun _ _ _ _ _ _ _ _=>rfl
 have b1t:=mkC X G x38 (c3V T b1x x38.i.F) fun _ _ _ _ _ _ _ _=>rfl
 have Y6:=mkM x39 ck.U8 (b1l (P:=l.prog) (w:=w) (base:=base) T x39.i.F) fun _ _ _ _ _ _ _ _=>rfl
 have a0p:=mkM x40 ck.U8 (a6P T a0h x40.i.F) fun _ _ _ _ _ _ _ _=>rfl
 have a1n:=mkM x41 ck.U8 (a8r T b1t Y6 a0p x41.i.F) fun _ _ _ _ _ _ _ _=>rfl
 have Q1:=mkM x42 ck.L5 (a9j T L4 U0 a1n x42.i.F) fun _ _ _ _ _ _ _ _=>rfl
 have b0n:=mkC X G x43 (c9g T a2v a0u b5A a3T Q1 x43.i.F) fun _ _ _ _ _ _ _ _ _ _ _=>rfl
 have a3R:=mkC X G x44 (b3z (P:=l.prog) (w:=w) (base:=base) T x44.i.F) fun _ _ _ _ _ _ _ _ _=>rfl
 have a2w:=mkC X G x45 (c1F (P:=l.prog) (w:=w) (base:=base) T x45.i.F) fun _ _ _ _ _ _ _=>rfl
 have a3k:=mkC X G x46 (b9D (P:=l.prog) (w:=w) (base:=base) T x46.i.F) fun _ _ _ _ _ _ _=>rfl
 have a7G:=mkC X G x47 (b9E T a3k x47.i.F) fun _ _ _ _ _ _ _=>rfl
 have a0n:=mkC X G x48 (b6f T a2w a7G x48.i.F) fun _ _ _ _ _ _ _=>rfl
 have a9a:=mkC X G x49 (c1G T a0n x49.i.F) fun _ _ _ _ _ _ _=>rfl
 have b1A:=mkC X G x50 (c4e T a2w a0n a9a x50.i.F) fun _ _ _ _ _ _ _=>rfl
 have a1F:=mkC X G x51 (b6h (P:=l.prog) (w:=w) (base:=base) T x51.i.F) fun _ _ _ _ _ _ _=>rfl
 have a7H:=mkC X G x52 (b9F T a3k x52.i.F) fun _ _ _ _ _ _ _ _=>rfl
 have a6k:=mkC X G x53 (b7M T a7H x53.i.F) fun _ _ _ _ _ _ _ _ _=>rfl
 have a4x:=mkC X G x54 (b4X T a1F a6k x54.i.F) fun _ _ _ _ _ _ _ _=>rfl
 have a6U:=mkC X G x55 (c1C (P:=l.prog) (w:=w) (base:=base) T x55.i.F) fun _ _ _ _ _ _ _ _=>rfl
 have b1w:=mkC X G x56 (c3Y (P:=l.prog) (w:=w) (base:=base) T x56.i.F) fun _ _ _ _ _ _ _=>rfl
 have a5n:=mkC X G x57 (b6g T a3i a6U b1w x57.i.F) fun _ _ _ _ _ _ _=>rfl
 have a3j:=mkC X G x58 (b9B (P:=l.prog) (w:=w) (base:=base) T x58.i.F) fun _ _ _ _ _ _ _=>rfl
 have b7O:=mkK X G x59 y_Plan.y y_Plan.mm y_Plan.kc (b7N T K7 a3R b1A a1F a4x a5n a3j x59.i.F) fun _ _ _ _ _ _ _ _ _=>rfl
 have a5o:=mkM x60 ck.O4 (b6k T a3j x60.i.F) fun _ _ _ _ _ _ _=>rfl
 have a1G:=mkM x61 ck.Y8 (a9h T F1 K7 x61.i.F) fun _ _ _ _ _ _ _ _=>rfl
 have a9b:=mkC X G x62 (c1I (P:=l.prog) (w:=w) (base:=base) T x62.i.F) fun _ _ _ _ _ _ _=>rfl
 have a4p:=mkC X G x63 (c9k T a9b x63.i.F) fun _ _ _ _ _ _ _ _=>rfl
 have a0W:=mkM x64 ck.U8 (a7T T a0h Y6 a4p x64.i.F) fun _ _ _ _ _ _ _ _=>rfl
 have a2x:=mkM x65 ck.U8 (b1k T a0W x65.i.F) fun _ _ _ _ _ _ _ _=>rfl
 have a0o:=mkM x66 ck.Y8 (a6O T F1 x66.i.F) fun _ _ _ _ _ _ _ _=>rfl
 have a1X:=mkM x67 ck.L5 (b0h T L4 a1G a2x a0o x67.i.F) fun _ _ _ _ _ _ _ _=>rfl
 have a6V:=mkC X G x68 (c1D (P:=l.prog) (w:=w) (base:=base) T x68.i.F) fun _ _ _ _ _ _ _ _ _ _=>rfl
 have a2X:=mkC X G x69 (b2A T a6V x69.i.F) fun _ _ _ _ _ _ _ _ _=>rfl
 have b3M:=mkK X G x70 y_Ready.y y_Ready.mm y_Ready.kc (b6i T a0h a4p a2X x70.i.F) fun _ _ _ _ _ _ _ _ _=>rfl
 have a2W:=mkC X G x71 (b2z T a0h a4p x71.i.F) fun _ _ _ _ _ _ _ _=>rfl
 have a2u:=mkC X G x72 (b1j T X0 a4p a2W x72.i.F) fun _ _ _ _ _ _ _ _=>rfl
 have b1n:=mkK X G x73 y_Wanted.y y_Wanted.mm y_Wanted.kc (b4Y T a2u x73.i.F) fun _ _ _ _ _ _ _ _ _=>rfl
 have a6R:=mkK X G x74 y_Brinks.y y_Brinks.mm y_Brinks.kc (b4Z T a5o a1X b3M b1n x74.i.F) fun _ _ _ _ _ _ _ _ _=>rfl
 exact d2b T c2V K6 b0o b8h a2v a8C b5A Q1 b0n b7O a6R ck x75.i.F
theorem walk{l:PySem.W.OpenLaw}{q:D8}{loose:List Str}{XP:(Str->Option Value)->Heap->Prop}{YP:World->Heap->Prop}{d:DefRec}{K:Params->Fg}(hn:l.most=some 63)(hdf:d.params.defaults=[])
  (hY:∀(w:World) (h:Heap),YP w h->(K w.params).In h)
  (F:∀(w:World) (mg:Str->Option Value) (fa:Addr) (h:Heap),(K w.params).In h->h.Ns A7 mg->mg d.name=some (.ref fa) ->
   ∃fd:a2b,(∀(s:l7) (u:Value),c5i s fd ⟨[u],[]⟩ [(d4O,u)])/\∀base:Heap,(K w.params).In base->base.Ns A7 mg->J1 l.prog w (K w.params) mg base CX0 9 fa fd [d4O] (b4v (K w.params))) :
  PySem.W.WalkO q loose XP YP l.row.toRowW d [] (fun f vs=>b8w f vs):=
 L2.c7U (n:=63) (k:=9) (x := d4O) (CX:=fun _=>CX0) (sp:=fun w=>b4v (K w.params)) hn (by decide) hdf ⟨rfl,by decide,by decide⟩ hY F (fun _ _ a ns hl hO hS=>RD.law_reading _ hl hO hS) fun _ _ _ _ _ z=>z
end PR
open PySem PySem.W PyProof.Rows
set_option maxRecDepth 100000 in
set_option maxHeartbeats 0 in
theorem PySem.Challenge.cw_oncedone_k51_brinks_with_papers_holds : PySem.Challenge.rw_oncedone_k51_brinks_with_papers.Holds := by
 refine HD.fin fun d hd hdf=>PR.walk (l:=HD.row) (K:=HD.K) rfl hdf (fun w h Y=>PySem.W.kIn_of Y) ?F
 intro w mg fa h KX G hmg;rw[hd]at hmg;apply PR.d2F KX G hmg <;> first | kernel_rfl | exact⟨⟨by kernel_rfl,by kernel_rfl,by kernel_rfl⟩,by kernel_rfl⟩ | exact⟨⟨by kernel_rfl,by kernel_rfl,by kernel_rfl⟩,by kernel_rfl,by kernel_rfl⟩ | exact⟨by kernel_rfl,by kernel_rfl,by kernel_rfl,by kernel_rfl,by kernel_rfl,by kernel_rfl,by kernel_rfl⟩
