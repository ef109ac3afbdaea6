import PyProof.Rows.All
import KE.KEqDict
import KE.KDictList
import KE.KIsAll
import KE.KDictOf
import KE.KItem
import Lean
import PySem.Challenge.RW_oncedone_k55_whole_as_many_as_brinks
open Array renaming getElem?_toList->a0D,length_toList->a1h,getElem?_eq_getElem->b8g,toList->d2X
open Bool renaming false_ne_true->z5,and_eq_true->F5,eq_iff_iff->U2,not_eq_true'->X0,toNat->a1M,true_and->a8a,or_eq_true->a9p,false_or->b2y,false_eq_true->b2V,and_true->b9U,and_eq_true_iff->c4a,false_and->d1M,and_false->d1N,or_false->d2W,true_or->d3f
open Int renaming toNat_natCast->A5,zero_add->U4,emod_lt_of_pos->a1O,emod_nonneg->a1Z,eq_ofNat_of_zero_le->a4a,toNat->c2n
open List renaming getElem?_map->a9,length_map->b5,getElem?_eq_getElem->c5,mem_singleton->o0,getElem?_append_left->o3,mem_cons->o4,size_toArray->o6,length_append->p5,mem_append->u0,getElem?_eq_some_iff->u8,mem_append_right->v7,mem_append_left->v8,range->v9,mem_iff_getElem?->z7,mem_map->A2,map_cons->B8,length_cons->C0,map_append->C5,length_take->C9,length_filter_le->D0,mem_filter->D6,replicate->D7,take_add_one->E9,take_length->F1,mem_cons_of_mem->G7,getElem_mem->I0,getElem?_append_right->J4,length_replicate->J7,lookup_cons->K8,mem_range->L9,getD->M0,filter_append->N7,not_mem_nil->O2,length_singleton->O6,append_nil->P7,getElem?_set_self->Q1,all_cons->T3,map_map->U1,mem_cons_self->U5,getElem?_set_ne->U6,getElem?_replicate->U7,all_eq_true->U8,take_of_length_le->W8,length_range->W9,nodup_cons->X4,getElem?_eq_none_iff->Y4,range_succ->a0i,find?_cons->a0j,foldl_cons->a0S,mem_of_getElem?->a0X,length_eq_zero_iff->a1u,nodup_append->a2r,lookup->a2z,map_congr_left->a3h,getElem?_range->a3i,any_cons->a3m,length_set->a3R,length_nil->a3S,length_pos_of_mem->a4B,ext_getElem?->a4C,filter_cons->a5b,filter_nil->a5R,map_inj_right->a6I,append_assoc->a7R,nodup_range->a8g,getElem?_cons_zero->a8h,any_eq_true->a8i,any_map->a9b,replicate_succ'->b0i,length_pos_iff->b1p,filterMap_cons->b1q,sum_cons->b2x,length_drop->b5l,length->b5T,of_mem_zip->b6x,length_erase_of_mem->b9R,idxOf_lt_length_iff->b9S,getElem?_take_of_lt->b9T,getElem?_cons_succ->c1H,map_nil->c2l,all_nil->c2m,mem_of_mem_take->c3Z,mem_filterMap->c6H,getElem_idxOf->c6I,mem_flatMap->c9r,idxOf_cons->d1D,forIn_cons->d1E,drop_zero->d1K,all_map->d3e
open List.Pairwise renaming map->a1v
open Nat renaming le_refl->j5,ne_of_lt->A0,lt_of_lt_of_le->D3,le_trans->D9,lt_irrefl->O4,zero_le->R8,lt_of_le_of_lt->a7c,le_add_right->a8M,min_self->a9o,sub_self->c3P,ne_of_gt->c3Q,le_of_lt->c3R,le_succ->c6B,lt_succ_self->d1C,strongRecOn->d1J,reduceAdd->d3d
open Option renaming map_eq_some_iff->o5,isSome_iff_exists->a0W,isSome_map->a1Y,getD_some->a2y,map_some->a8L,toList_some->c3Y,getD_none->c6G
open PyProof.Rows renaming boot_list->z4,boot_isinstance->A3,boot_int->a0m,callWith_type1->a1z,slot_tuple_getitem->a3l,boot_sum->a3P,boot_min->a3Q,boot_tuple->a6q,boot_dict->a6H,boot_all->a7e,envOfC->b2A,boot_bool->b5k,AllBare->b6B,IntsAre->c4d,subscriptTail_builtinR->d1H
open PySem renaming wpAny_bind->g0,boot_len->j9,Shared->k8,starEach->l9,wpAny_pure->u5,sizeLine->u6,mainGlobals->A6,compareOp->A9,Program->D4,mem_of_lookup->D8,behindInMarks->P5,Around->R3,wpAny_truthy_bool->S0,foldedSetIterable->X1,wpAny_newObj_type->Z5,FuncData->a0w,backTo->a1f,binaryOp->a1P,sysModules->a1Q,wpAny_holding->a2v,attributeBase->a2w,wpAny_typeNameOfWhole_keyiter->a2A,wpAny_mono->a2J,wpAny_passesOwn->a3n,swapsWith->a3o,keywordEach->a3p,bootBuiltins->a3q,assignEach->a3W,lookup_relabel_local->a4b,holding->a4c,tupleKind->a4E,DictEntry->a4F,wpAny_comprehension_free->a4Y,tupleKind_room_in1->a5m,importedModules->a5n,wpAny_pyIter_list->a6r,strIterType->a6s,sizeLine_eq->a7d,codeAny->a7f,sliceBounds->a8j,letOwnedTupleGo->a8k,wpAny_Call_Name_kw->a9q,backToKw->a9r,assign->a9s,NameKind->a9t,wpAny_assign_Name->b0j,getMethod->b0k,wpAny_callSpecial?_slot->b1r,relabel->b1s,wpAny_call_entry->b2z,wpAny_pyNext_list_item->b2W,wpAny_typeOf->b3B,wpAny_pyNext_list_end->b3C,wpAny_notOrdered_dict->b3D,wpAny_execs_nil->b3E,standAt->b3F,codeAny_builtin->b3G,Operator->b5j,Keyword->b6A,call->b7X,wpAny_standAt->b8h,pyNext->b8i,plainId_quiet->b8j,wpAny_dictEntries->b9V,codeAny_mono->c1J,compEnvC->c3U,callWith->c3V,wpAny_dictEpoch->c4b,callerA->c4c,BindsTo->c4e,stored->c8N,entryOfKey->c8O,call_meets->c8P,Result->c8Q,PlainAttrs->c8R,IsPart->c8S,valueAt->c9s,setItem->c9t,getItem->c9u,codeAny_compStart_list->d1I,wpAny_isTrue_Compare1->d1O,wpAny_isOneOf_keyiter->d1P,seqIndex_neg->d1Q,lastMarks->d1R,exec_Assign_Name_used->d1S,builtinLookup_eq_fast->d1T,PassesOwn->d1U,wpAny_newFunctionEnv->d3b,wpAny_loadName_local->d3c,wpAny_loadName_cell->d3g,wpAny_field->d3h,seqIndex_of->d3i,Builtin->d3j
open PySem.F renaming plainAttrs_list->z9,type_list_append->C7,slot_list_append->C8,slot_list_index->a7Q,type_list_extend->b7Z,slot_list_extend->b8a,type_list_index->b8f
open PySem.Heap renaming get?_push_of_some->i8,lt_size->l7,get?_push_size->A8,get?_update_other->c2o,get?_update_self->c3S,size_push->d1L
open PySem.Heap.DictOf renaming new->c2p
open PySem.Heap.SameBut renaming update->b8b
open PySem.W renaming findIn->t6,nsIn->C4,mg_none_of->D1,kia_one->P0,mg_of->V5,keepIn->V7,emptyDict->V8,fnOf->Y8,instObj->a0I,codeIn->a3Y,plainGet->a4O,makesIn->a5k,specialIn->a6F,hasDictIn->a6G,isFn->a8f,lookIn->a9m,kitOne->a9n,plainGet_of->b0h,callWith_K->b1o,plainOver->b2v,methodObj->b2w,takesIn->b5g,takerIn->b5h,mroIn->b7Y,cellsFrom_some->b9P,methodCall_KW->b9Q,kitx_tuple->c3O,kitx_list->c3W,kitx_dict->c3X,kdl_call->c6z,handedIn->c6A
set_option Elab.async false
set_option linter.all false
set_option maxRecDepth 100000
set_option maxHeartbeats 0
abbrev Fg:=PySem.W.Frag
abbrev Nt:=List (List Nat)
theorem gI{α:Type}{l:List α}{i:Nat}{a:α}(h:l[i]?=some a):i<l.length:=(u8.mp h).1
theorem mI{α:Type}{l:List α}{i:Nat}{a:α}(h:l[i]?=some a):a∈l:=a0X h
theorem d5q{p:Prop}[Decidable p](h:¬p):decide p=false:=decide_eq_false h
theorem d5r{p:Prop}[Decidable p](h:p):decide p=true:=decide_eq_true h
namespace L2
open PySem
def u9(s:Stmt)(j:Nat):Stmt:=match s with
 | .ClassDef _ _ _ body _ _ _ _ _ _ _=>body.getD j (.Pass ⟨0,0,0,0⟩)
 | _=>.Pass ⟨0,0,0,0⟩
def a2m(s:Stmt):Arguments:=match s with
 | .FunctionDef _ a _ _ _ _ _ _ _ _=>a
 | _=>{ posonlyargs:=[],args:=[],vararg:=none,kwonlyargs:=[],kw_defaults:=[],kwarg:=none,defaults:=[] }
def a0b(s:Stmt):List Stmt:=match s with
 | .FunctionDef _ _ b _ _ _ _ _ _ _=>b
 | _=>[]
def f6(s:Stmt):Scope:=match s with
 | .FunctionDef _ _ _ _ _ _ sc _ _ _=>sc
 | _=>{ kind:=.function,names:=[],isGenerator:=false,isCoroutine:=false }
end L2
namespace HD
open PySem PySem.W L2
abbrev P : Program := PySem.Challenge.pw_oncedone_k55_whole_as_many_as_brinks
def top (i : Nat) : Stmt := P.main.body.getD i (.Pass ⟨0, 0, 0, 0⟩)
def kE (Q : Params) (n : Str) (t : Nat) (v : Value) : DictEntry := ⟨PyData.keyHash Q n, .str n t, v⟩
def kD (es : List DictEntry) (n : Nat) : Obj := ⟨.type "dict", none, .dict es.toArray n, #[]⟩
def kF (x qual : Str) (st : Stmt) (pm cd : Value) : Obj := ⟨.type "function", none, .func (fnOf x qual (a2m st) (a0b st) (f6 st) .none .none .none pm none cd .none), #[]⟩
def kC (n q : Str) (a b c : Nat) (i3 i4 i5 i6 i7 : Int) (r8 : Nat) (i10 : Int) (r11 r13 r14 r15 : Nat) (i16 i17 : Int) (d : Nat) : Obj := ⟨.type "code", none, .fields ([.str n a, .str q b, .str "/claim/cut.py" c, .int i3 0, .int i4 0, .int i5 0, .int i6 0, .int i7 0, .ref r8, .bool true, .int i10 0, .ref r11, .none, .ref r13, .ref r14, .ref r15, .int i16 0, .int i17 0, .str "/claim/cut.py" d] : List Value).toArray, ([] : List (Option Value)).toArray⟩
def kN (n q : Str) (a b c : Nat) (i3 i4 i5 i6 i7 : Int) (r8 : Nat) (i10 : Int) (r11 r15 : Nat) (i16 i17 : Int) (d : Nat) : Obj := ⟨.type "code", none, .fields ([.str n a, .str q b, .str "/claim/cut.py" c, .int i3 0, .int i4 0, .int i5 0, .int i6 0, .int i7 0, .ref r8, .bool true, .int i10 0, .ref r11, .none, .none, .none, .ref r15, .int i16 0, .int i17 0, .str "/claim/cut.py" d] : List Value).toArray, ([] : List (Option Value)).toArray⟩
abbrev kc' (n q : Str) (a l m r i j : Nat) : Obj := kC n q a (a + 1) (a + 2) l m 0 0 3 r i (r + 1) (r + 2) (r + 3) (r + 4) j l (j + 1)
abbrev kc (n : Str) (a l m r i j : Nat) : Obj := kc' n n a l m r i j
abbrev kn' (n q : Str) (a l m r i j : Nat) : Obj := kN n q a (a + 1) (a + 2) l m 0 0 3 r i (r + 1) (r + 2) j l (j + 1)
abbrev kn (n : Str) (a l m r i j : Nat) : Obj := kn' n n a l m r i j
abbrev kg (n : Str) (i : Nat) (m : Value) (c : Nat) : Obj := kF n n (top i) m (.ref c)
def kG (x qual : Str) (st : Stmt) (dv pm cd : Value) : Obj := ⟨.type "function", none, .func (fnOf x qual (a2m st) (a0b st) (f6 st) dv .none .none pm none cd .none), #[]⟩
abbrev m0 : Value := (.str "__main__" 164)
abbrev m1 : Value := (.str "oncedone.words" 194)
abbrev m2 : Value := (.str "oncedone.deeds" 253)
abbrev m3 : Value := (.str "oncedone.errors" 285)
abbrev m4 : Value := (.str "oncedone.checks" 405)
abbrev m5 : Value := (.str "oncedone.plans" 435)
abbrev m6 : Value := (.str "oncedone.ready" 565)
abbrev m7 : Value := (.str "oncedone.wanted" 662)
abbrev m8 : Value := (.str "oncedone.brinks" 742)
abbrev m9 : Value := (.str "oncedone.choices" 814)
abbrev m10 : Value := (.str "law_oncedone_k55_whole_as_many_as_brinks" 963)
abbrev kM (Q : Params) (a : Nat) (m : Value) (l : Int) (r : List DictEntry) : List DictEntry := kE Q "__module__" a m :: kE Q "__firstlineno__" (a + 4) (.int l (a + 3)) :: r
abbrev kQ (Q : Params) (a : Nat) (m : Value) (n : Str) (l : Int) (r : List DictEntry) : List DictEntry := kE Q "__module__" a m :: kE Q "__qualname__" (a + 2) (.str n (a + 1)) :: kE Q "__firstlineno__" (a + 4) (.int l (a + 3)) :: r
abbrev kW (Q : Params) (s r : Nat) : List DictEntry := [kE Q "__static_attributes__" s (.ref r), kE Q "__dict__" (s + 2) (.ref (r + 3)), kE Q "__weakref__" (s + 4) (.ref (r + 4)), kE Q "__doc__" (s + 5) .none]
abbrev kU (n : Str) (s x : Nat) : Obj := ⟨.type "type", none, .cls { name := n, bases := [.type "object"], mro := [.ref (s + 1), .type "object"], ns := s, qualname := n, hasDict := true, subclasses := [] }, ([none, none, some (.str n x), some (.str n (x + 8)), some (.builtin "object.__new__"), some (.bool true)] : List (Option Value)).toArray⟩
abbrev kV (n : Str) (s p x : Nat) : Obj := ⟨.type "type", none, .cls { name := n, bases := [.ref 100], mro := [.ref (s + 1), .ref 100, .type "ValueError", .type "Exception", .type "BaseException", .type "object"], ns := s, qualname := n, hasDict := true, subclasses := [] }, ([some (.ref p), none, some (.str n x), some (.str n (x + 8)), some (.builtin "ValueError.__new__"), some (.bool true)] : List (Option Value)).toArray⟩
def K1 (Q : Params) : Frag := [
  (3, kD [kE Q "__name__" 165 m10, kE Q "__doc__" 166 .none, kE Q "__package__" 167 .none, kE Q "__loader__" 168 (.builtin "__main__.__loader__#opaque"), kE Q "__spec__" 169 .none, kE Q "__annotations__" 170 (.ref 6), kE Q "__builtins__" 171 (.ref 4), kE Q "__file__" 173 (.str "/claim/cut.py" 172), kE Q "__cached__" 174 .none, kE Q "_wall" 193 (.ref 21), kE Q "BOUND" 197 (.int (1000000000000) 196), kE Q "LETTERS" 199 (.str "abcdefghijklmnopqrstuvwxyz" 198), kE Q "FIGURES" 201 (.str "0123456789" 200), kE Q "LONGEST_NAME" 203 (.int (8) 202), kE Q "DEED_KINDS" 209 (.ref 22), kE Q "is_whole" 216 (.ref 29), kE Q "is_value" 223 (.ref 36), kE Q "is_name" 229 (.ref 41), kE Q "is_operand" 236 (.ref 48), kE Q "is_deed" 243 (.ref 55), kE Q "is_row" 252 (.ref 62), kE Q "deed_of" 261 (.ref 69), kE Q "set_by" 268 (.ref 76), kE Q "does" 276 (.ref 83), kE Q "spoils" 284 (.ref 90), kE Q "OnceError" 304 (.ref 100), kE Q "Wrong" 329 (.ref 120), kE Q "NoThing" 354 (.ref 139), kE Q "TooMany" 379 (.ref 158), kE Q "NoWay" 404 (.ref 177), kE Q "MOST" 408 (.int (400) 407), kE Q "is_below" 416 (.ref 186), kE Q "check_length" 425 (.ref 193), kE Q "check_each" 434 (.ref 200), kE Q "FIRST_STEP" 440 (.ref 201), kE Q "are_nexts" 446 (.ref 206), kE Q "check_nexts" 452 (.ref 211), kE Q "stops_of" 458 (.ref 216), kE Q "turned" 464 (.ref 221), kE Q "reached" 475 (.ref 228), kE Q "check_ways" 485 (.ref 235), kE Q "steps_of" 491 (.ref 240), kE Q "Plan" 564 (.ref 297), kE Q "pass_on" 578 (.ref 308), kE Q "unready_steps" 591 (.ref 315), kE Q "Ready" 661 (.ref 365), kE Q "unwanted_ends" 674 (.ref 376), kE Q "unwanted_steps" 680 (.ref 381), kE Q "Wanted" 741 (.ref 424), kE Q "Brinks" 813 (.ref 478), kE Q "marked" 821 (.ref 487), kE Q "check_held" 827 (.ref 492), kE Q "unwaiting_places" 844 (.ref 499), kE Q "places_alive_behind" 860 (.ref 506), kE Q "Choice" 962 (.ref 585), kE Q "_law_bag" 970 (.ref 594), kE Q "_law_take" 983 (.ref 601), kE Q "_law_net" 996 (.ref 608), kE Q "_law_mended" 1002 (.ref 613), kE Q "_law_name" 1008 (.ref 618), kE Q "_law_names" 1017 (.ref 625), kE Q "_law_operand" 1026 (.ref 632), kE Q "_law_deed" 1035 (.ref 639), kE Q "_law_row" 1046 (.ref 646), kE Q "_law_plan" 1061 (.ref 653), kE Q "_law_does" 1069 (.ref 660), kE Q "_law_spoils" 1077 (.ref 667), kE Q "_law_steps" 1087 (.ref 674), kE Q "_law_to" 1095 (.ref 681), kE Q "_law_ready" 1108 (.ref 688), kE Q "_law_wanted" 1114 (.ref 693), kE Q "_law_brinks" 1120 (.ref 698), kE Q "_law_walk" 1133 (.ref 705), kE Q "_law_far" 1139 (.ref 710), kE Q "_law_home" 1145 (.ref 715), kE Q "_law_places" 1151 (.ref 720), kE Q "_law_all_way" 1161 (.ref 727), kE Q "_law_int" 1168 (.ref 734), kE Q "_law_step_list" 1176 (.ref 741), kE Q "_law_int_list" 1186 (.ref 748), kE Q "_law_held" 1192 (.ref 753), kE Q "_law_counted" 1198 (.ref 758), kE Q "law" 1204 (.ref 763)] 83),
  (20, kc "_wall" 187 1 1 15 181 191),
  (21, kg "_wall" 0 m0 20),
  (22, ⟨(.type "tuple"), none, .seq ([(.str "plus" 204), (.str "minus" 205), (.str "times" 206), (.str "less" 207), (.str "same" 208)] : List Value).toArray 0, ([] : List (Option Value)).toArray⟩),
  (28, kc "is_whole" 210 10 1 23 181 214),
  (29, kg "is_whole" 7 m1 28),
  (35, kc "is_value" 217 12 1 30 181 221),
  (36, kg "is_value" 8 m1 35),
  (40, kn "is_name" 224 14 1 37 181 227),
  (41, kg "is_name" 9 m1 40),
  (47, kc "is_operand" 230 18 1 42 181 234),
  (48, kg "is_operand" 10 m1 47),
  (54, kc "is_deed" 237 20 1 49 181 241),
  (55, kg "is_deed" 11 m1 54),
  (61, kc "is_row" 244 24 1 56 181 250),
  (62, kg "is_row" 12 m1 61),
  (68, kc "deed_of" 255 39 1 63 181 259),
  (69, kg "deed_of" 14 m2 68),
  (75, kc "set_by" 262 41 1 70 181 266),
  (76, kg "set_by" 15 m2 75),
  (82, kc "does" 269 43 2 77 181 274),
  (83, kg "does" 16 m2 82),
  (89, kc "spoils" 277 45 2 84 181 282),
  (90, kg "spoils" 17 m2 89),
  (99, kD (kM Q 294 m3 48 [kE Q "__static_attributes__" 299 (.ref 98), kE Q "__weakref__" 301 (.ref 101), kE Q "__doc__" 302 .none]) 3),
  (100, ⟨(.type "type"), none, .cls { name := "OnceError", bases := [(.type "ValueError")], mro := [(.ref 100), (.type "ValueError"), (.type "Exception"), (.type "BaseException"), (.type "object")], ns := 99, qualname := "OnceError", hasDict := true, subclasses := [(.ref 120), (.ref 139), (.ref 158), (.ref 177)] }, ([some (.ref 91), none, some (.str "OnceError" 287), some (.str "OnceError" 295), some (.builtin "ValueError.__new__"), some (.bool true)] : List (Option Value)).toArray⟩),
  (116, kc' "__init__" "Wrong.__init__" 317 52 2 111 181 322),
  (117, kF "__init__" "Wrong.__init__" (u9 (top 20) 0) m3 (.ref 116)),
  (119, kD (kM Q 312 m3 50 [kE Q "__init__" 324 (.ref 117), kE Q "__static_attributes__" 326 (.ref 118), kE Q "__doc__" 327 .none]) 2),
  (120, kV "Wrong" 119 104 305),
  (135, kc' "__init__" "NoThing.__init__" 342 56 2 130 181 347),
  (136, kF "__init__" "NoThing.__init__" (u9 (top 21) 0) m3 (.ref 135)),
  (138, kD (kM Q 337 m3 54 [kE Q "__init__" 349 (.ref 136), kE Q "__static_attributes__" 351 (.ref 137), kE Q "__doc__" 352 .none]) 2),
  (139, kV "NoThing" 138 123 330),
  (154, kc' "__init__" "TooMany.__init__" 367 60 2 149 181 372),
  (155, kF "__init__" "TooMany.__init__" (u9 (top 22) 0) m3 (.ref 154)),
  (157, kD (kM Q 362 m3 58 [kE Q "__init__" 374 (.ref 155), kE Q "__static_attributes__" 376 (.ref 156), kE Q "__doc__" 377 .none]) 2),
  (158, kV "TooMany" 157 142 355),
  (173, kc' "__init__" "NoWay.__init__" 392 64 2 168 181 397),
  (174, kF "__init__" "NoWay.__init__" (u9 (top 23) 0) m3 (.ref 173)),
  (176, kD (kM Q 387 m3 62 [kE Q "__init__" 399 (.ref 174), kE Q "__static_attributes__" 401 (.ref 175), kE Q "__doc__" 402 .none]) 2),
  (177, kV "NoWay" 176 161 380),
  (185, kc "is_below" 409 68 2 180 181 414),
  (186, kg "is_below" 26 m4 185),
  (192, kc "check_length" 417 70 3 187 181 423),
  (193, kg "check_length" 27 m4 192),
  (199, kc "check_each" 426 75 1 194 181 432),
  (200, kg "check_each" 28 m4 199),
  (201, ⟨(.type "tuple"), none, .seq ([(.int (-1) 438), (.int (0) 439)] : List Value).toArray 0, ([] : List (Option Value)).toArray⟩),
  (205, kn "are_nexts" 441 81 3 202 181 444),
  (206, kg "are_nexts" 31 m5 205),
  (210, kn "check_nexts" 447 86 2 207 181 450),
  (211, kg "check_nexts" 32 m5 210),
  (215, kn "stops_of" 453 90 1 212 181 456)]
def adr1 : List Addr := [3, 20, 21, 22, 28, 29, 35, 36, 40, 41, 47, 48, 54, 55, 61, 62, 68, 69, 75, 76, 82, 83, 89, 90, 99, 100, 116, 117, 119, 120, 135, 136, 138, 139, 154, 155, 157, 158, 173, 174, 176, 177, 185, 186, 192, 193, 199, 200, 201, 205, 206, 210, 211, 215]
def K2 (Q : Params) : Frag := [
  (216, kg "stops_of" 33 m5 215),
  (220, kn "turned" 459 92 1 217 181 462),
  (221, kg "turned" 34 m5 220),
  (227, kc "reached" 465 98 2 222 181 473),
  (228, kg "reached" 35 m5 227),
  (234, kc "check_ways" 476 107 1 229 181 483),
  (235, kg "check_ways" 36 m5 234),
  (239, kn "steps_of" 486 113 1 236 181 489),
  (240, kg "steps_of" 37 m5 239),
  (251, kn' "__init__" "Plan.__init__" 504 120 3 248 181 507),
  (252, kF "__init__" "Plan.__init__" (u9 (top 38) 0) m5 (.ref 251)),
  (258, kc' "steps" "Plan.steps" 510 131 1 253 181 514),
  (259, kF "steps" "Plan.steps" (u9 (top 38) 1) m5 (.ref 258)),
  (265, kc' "leads_to" "Plan.leads_to" 517 134 2 260 181 522),
  (266, kF "leads_to" "Plan.leads_to" (u9 (top 38) 2) m5 (.ref 265)),
  (272, kc' "steps_into" "Plan.steps_into" 525 139 2 267 181 530),
  (273, kF "steps_into" "Plan.steps_into" (u9 (top 38) 3) m5 (.ref 272)),
  (279, kc' "stops" "Plan.stops" 533 142 1 274 181 537),
  (280, kF "stops" "Plan.stops" (u9 (top 38) 4) m5 (.ref 279)),
  (286, kc' "deeds" "Plan.deeds" 540 145 1 281 181 544),
  (287, kF "deeds" "Plan.deeds" (u9 (top 38) 5) m5 (.ref 286)),
  (293, kc' "names" "Plan.names" 547 148 1 288 181 551),
  (294, kF "names" "Plan.names" (u9 (top 38) 6) m5 (.ref 293)),
  (296, kD (kM Q 499 m5 118 ([kE Q "__init__" 509 (.ref 252), kE Q "steps" 516 (.ref 259), kE Q "leads_to" 524 (.ref 266), kE Q "steps_into" 532 (.ref 273), kE Q "stops" 539 (.ref 280), kE Q "deeds" 546 (.ref 287), kE Q "names" 553 (.ref 294)] ++ kW Q 557 295)) 4),
  (297, kU "Plan" 296 492),
  (307, kc "pass_on" 567 151 4 302 181 576),
  (308, kg "pass_on" 40 m6 307),
  (314, kc "unready_steps" 579 156 3 309 181 589),
  (315, kg "unready_steps" 41 m6 314),
  (326, kn' "__init__" "Ready.__init__" 604 171 3 323 181 607),
  (327, kF "__init__" "Ready.__init__" (u9 (top 42) 0) m6 (.ref 326)),
  (333, kc' "ready_at" "Ready.ready_at" 610 177 2 328 181 615),
  (334, kF "ready_at" "Ready.ready_at" (u9 (top 42) 1) m6 (.ref 333)),
  (340, kc' "ready_behind" "Ready.ready_behind" 618 180 2 335 181 624),
  (341, kF "ready_behind" "Ready.ready_behind" (u9 (top 42) 2) m6 (.ref 340)),
  (347, kc' "ready_on" "Ready.ready_on" 627 186 2 342 181 632),
  (348, kF "ready_on" "Ready.ready_on" (u9 (top 42) 3) m6 (.ref 347)),
  (354, kc' "begins_unready" "Ready.begins_unready" 635 189 2 349 181 640),
  (355, kF "begins_unready" "Ready.begins_unready" (u9 (top 42) 4) m6 (.ref 354)),
  (361, kc' "way_unready" "Ready.way_unready" 643 192 2 356 181 648),
  (362, kF "way_unready" "Ready.way_unready" (u9 (top 42) 5) m6 (.ref 361)),
  (364, kD (kM Q 599 m6 169 ([kE Q "__init__" 609 (.ref 327), kE Q "ready_at" 617 (.ref 334), kE Q "ready_behind" 626 (.ref 341), kE Q "ready_on" 634 (.ref 348), kE Q "begins_unready" 642 (.ref 355), kE Q "way_unready" 650 (.ref 362)] ++ kW Q 654 363)) 4),
  (365, kU "Ready" 364 592),
  (375, kc "unwanted_ends" 664 195 2 370 181 672),
  (376, kg "unwanted_ends" 44 m7 375),
  (380, kn "unwanted_steps" 675 201 2 377 181 678),
  (381, kg "unwanted_steps" 45 m7 380),
  (394, kc' "__init__" "Wanted.__init__" 693 215 3 389 181 699),
  (395, kF "__init__" "Wanted.__init__" (u9 (top 46) 0) m7 (.ref 394)),
  (401, kc' "wanted_at" "Wanted.wanted_at" 702 219 2 396 181 707),
  (402, kF "wanted_at" "Wanted.wanted_at" (u9 (top 46) 1) m7 (.ref 401)),
  (406, kn' "wanted_behind" "Wanted.wanted_behind" 710 222 2 403 181 713),
  (407, kF "wanted_behind" "Wanted.wanted_behind" (u9 (top 46) 2) m7 (.ref 406)),
  (413, kc' "wanted_on" "Wanted.wanted_on" 716 226 2 408 181 721)]
def adr2 : List Addr := [216, 220, 221, 227, 228, 234, 235, 239, 240, 251, 252, 258, 259, 265, 266, 272, 273, 279, 280, 286, 287, 293, 294, 296, 297, 307, 308, 314, 315, 326, 327, 333, 334, 340, 341, 347, 348, 354, 355, 361, 362, 364, 365, 375, 376, 380, 381, 394, 395, 401, 402, 406, 407, 413]
def K3 (Q : Params) : Frag := [
  (414, kF "wanted_on" "Wanted.wanted_on" (u9 (top 46) 3) m7 (.ref 413)),
  (420, kc' "way_unwanted" "Wanted.way_unwanted" 724 229 2 415 181 729),
  (421, kF "way_unwanted" "Wanted.way_unwanted" (u9 (top 46) 4) m7 (.ref 420)),
  (423, kD (kM Q 688 m7 213 ([kE Q "__init__" 701 (.ref 395), kE Q "wanted_at" 709 (.ref 402), kE Q "wanted_behind" 715 (.ref 407), kE Q "wanted_on" 723 (.ref 414), kE Q "way_unwanted" 731 (.ref 421)] ++ kW Q 734 422)) 4),
  (424, kU "Wanted" 423 681),
  (439, kn' "__init__" "Brinks.__init__" 756 234 3 436 181 759),
  (440, kF "__init__" "Brinks.__init__" (u9 (top 48) 0) m8 (.ref 439)),
  (446, kc' "is_brink" "Brinks.is_brink" 762 241 2 441 181 767),
  (447, kF "is_brink" "Brinks.is_brink" (u9 (top 48) 1) m8 (.ref 446)),
  (453, kc' "is_spoilt_ahead" "Brinks.is_spoilt_ahead" 770 246 2 448 181 775),
  (454, kF "is_spoilt_ahead" "Brinks.is_spoilt_ahead" (u9 (top 48) 2) m8 (.ref 453)),
  (460, kc' "steps" "Brinks.steps" 778 249 1 455 181 782),
  (461, kF "steps" "Brinks.steps" (u9 (top 48) 3) m8 (.ref 460)),
  (467, kc' "why_brink" "Brinks.why_brink" 785 252 2 462 181 790),
  (468, kF "why_brink" "Brinks.why_brink" (u9 (top 48) 4) m8 (.ref 467)),
  (474, kc' "way_unwanted_behind" "Brinks.way_unwanted_behind" 793 255 2 469 181 798),
  (475, kF "way_unwanted_behind" "Brinks.way_unwanted_behind" (u9 (top 48) 5) m8 (.ref 474)),
  (477, kD (kM Q 751 m8 232 ([kE Q "__init__" 761 (.ref 440), kE Q "is_brink" 769 (.ref 447), kE Q "is_spoilt_ahead" 777 (.ref 454), kE Q "steps" 784 (.ref 461), kE Q "why_brink" 792 (.ref 468), kE Q "way_unwanted_behind" 800 (.ref 475)] ++ kW Q 806 476)) 4),
  (478, kU "Brinks" 477 744),
  (486, kn "marked" 816 258 1 483 181 819),
  (487, kg "marked" 50 m9 486),
  (491, kn "check_held" 822 260 3 488 181 825),
  (492, kg "check_held" 51 m9 491),
  (498, kc "unwaiting_places" 828 264 4 493 181 842),
  (499, kg "unwaiting_places" 52 m9 498),
  (505, kc "places_alive_behind" 845 279 4 500 181 858),
  (506, kg "places_alive_behind" 53 m9 505),
  (514, ⟨(.type "tuple"), none, .seq ([.none] : List Value).toArray 0, ([] : List (Option Value)).toArray⟩),
  (518, kn' "__init__" "Choice.__init__" 873 295 4 515 181 876),
  (519, kG "__init__" "Choice.__init__" (u9 (top 54) 0) (.ref 514) m9 (.ref 518)),
  (525, kc' "waits_at" "Choice.waits_at" 879 311 2 520 181 884),
  (526, kF "waits_at" "Choice.waits_at" (u9 (top 54) 1) m9 (.ref 525)),
  (532, kc' "waits_on" "Choice.waits_on" 887 314 2 527 181 892),
  (533, kF "waits_on" "Choice.waits_on" (u9 (top 54) 2) m9 (.ref 532)),
  (539, kc' "is_put" "Choice.is_put" 895 319 2 534 181 900),
  (540, kF "is_put" "Choice.is_put" (u9 (top 54) 3) m9 (.ref 539)),
  (546, kc' "alive_at" "Choice.alive_at" 903 322 2 541 181 908),
  (547, kF "alive_at" "Choice.alive_at" (u9 (top 54) 4) m9 (.ref 546)),
  (553, kc' "alive_behind" "Choice.alive_behind" 911 325 2 548 181 916),
  (554, kF "alive_behind" "Choice.alive_behind" (u9 (top 54) 5) m9 (.ref 553)),
  (560, kc' "puts" "Choice.puts" 919 328 1 555 181 923),
  (561, kF "puts" "Choice.puts" (u9 (top 54) 6) m9 (.ref 560)),
  (567, kc' "outs" "Choice.outs" 926 331 1 562 181 930),
  (568, kF "outs" "Choice.outs" (u9 (top 54) 7) m9 (.ref 567)),
  (574, kc' "stays" "Choice.stays" 933 334 1 569 181 937),
  (575, kF "stays" "Choice.stays" (u9 (top 54) 8) m9 (.ref 574)),
  (581, kc' "stores" "Choice.stores" 940 337 1 576 181 944),
  (582, kF "stores" "Choice.stores" (u9 (top 54) 9) m9 (.ref 581)),
  (584, kD (kM Q 868 m9 293 ([kE Q "__init__" 878 (.ref 519), kE Q "waits_at" 886 (.ref 526), kE Q "waits_on" 894 (.ref 533), kE Q "is_put" 902 (.ref 540), kE Q "alive_at" 910 (.ref 547), kE Q "alive_behind" 918 (.ref 554), kE Q "puts" 925 (.ref 561), kE Q "outs" 932 (.ref 568), kE Q "stays" 939 (.ref 575), kE Q "stores" 946 (.ref 582)] ++ kW Q 955 583)) 4),
  (585, kU "Choice" 584 861),
  (593, kn "_law_bag" 965 340 1 590 181 968),
  (594, kg "_law_bag" 56 m10 593),
  (600, kc "_law_take" 971 342 2 595 181 981),
  (601, kg "_law_take" 57 m10 600)]
def adr3 : List Addr := [414, 420, 421, 423, 424, 439, 440, 446, 447, 453, 454, 460, 461, 467, 468, 474, 475, 477, 478, 486, 487, 491, 492, 498, 499, 505, 506, 514, 518, 519, 525, 526, 532, 533, 539, 540, 546, 547, 553, 554, 560, 561, 567, 568, 574, 575, 581, 582, 584, 585, 593, 594, 600, 601]
def K4 (Q : Params) : Frag := [
  (607, kc "_law_net" 984 361 2 602 181 994),
  (608, kg "_law_net" 58 m10 607),
  (612, kn "_law_mended" 997 379 1 609 181 1000),
  (613, kg "_law_mended" 59 m10 612),
  (617, kn "_law_name" 1003 394 2 614 181 1006),
  (618, kg "_law_name" 60 m10 617),
  (624, kc "_law_names" 1009 400 1 619 181 1015),
  (625, kg "_law_names" 61 m10 624),
  (631, kc "_law_operand" 1018 405 2 626 181 1024),
  (632, kg "_law_operand" 62 m10 631),
  (638, kc "_law_deed" 1027 414 2 633 181 1033),
  (639, kg "_law_deed" 63 m10 638),
  (645, kc "_law_row" 1036 417 3 640 181 1044),
  (646, kg "_law_row" 64 m10 645),
  (652, kc "_law_plan" 1047 427 1 647 181 1059),
  (653, kg "_law_plan" 65 m10 652),
  (659, kc "_law_does" 1062 444 2 654 181 1067),
  (660, kg "_law_does" 66 m10 659),
  (666, kc "_law_spoils" 1070 446 2 661 181 1075),
  (667, kg "_law_spoils" 67 m10 666),
  (673, kc "_law_steps" 1078 448 1 668 181 1085),
  (674, kg "_law_steps" 68 m10 673),
  (680, kc "_law_to" 1088 454 2 675 181 1093),
  (681, kg "_law_to" 69 m10 680),
  (687, kc "_law_ready" 1096 458 3 682 181 1106),
  (688, kg "_law_ready" 70 m10 687),
  (692, kn "_law_wanted" 1109 466 3 689 181 1112),
  (693, kg "_law_wanted" 71 m10 692),
  (697, kn "_law_brinks" 1115 473 3 694 181 1118),
  (698, kg "_law_brinks" 72 m10 697),
  (704, kc "_law_walk" 1121 485 3 699 181 1131),
  (705, kg "_law_walk" 73 m10 704),
  (709, kn "_law_far" 1134 494 1 706 181 1137),
  (710, kg "_law_far" 74 m10 709),
  (714, kn "_law_home" 1140 501 2 711 181 1143),
  (715, kg "_law_home" 75 m10 714),
  (719, kn "_law_places" 1146 511 2 716 181 1149),
  (720, kg "_law_places" 76 m10 719),
  (726, kc "_law_all_way" 1152 513 3 721 181 1159),
  (727, kg "_law_all_way" 77 m10 726),
  (733, kc "_law_int" 1162 516 1 728 181 1166),
  (734, kg "_law_int" 78 m10 733),
  (740, kc "_law_step_list" 1169 518 1 735 181 1174),
  (741, kg "_law_step_list" 79 m10 740),
  (747, kc "_law_int_list" 1177 525 2 742 181 1184),
  (748, kg "_law_int_list" 80 m10 747),
  (752, kn "_law_held" 1187 532 2 749 181 1190),
  (753, kg "_law_held" 81 m10 752),
  (757, kn "_law_counted" 1193 536 7 754 181 1196),
  (758, kg "_law_counted" 82 m10 757),
  (762, kn "law" 1199 552 1 759 181 1202),
  (763, kg "law" 83 m10 762)]
def adr4 : List Addr := [607, 608, 612, 613, 617, 618, 624, 625, 631, 632, 638, 639, 645, 646, 652, 653, 659, 660, 666, 667, 673, 674, 680, 681, 687, 688, 692, 693, 697, 698, 704, 705, 709, 710, 714, 715, 719, 720, 726, 727, 733, 734, 740, 741, 747, 748, 752, 753, 757, 758, 762, 763]
def K (Q : Params) : Frag := K1 Q ++ (K2 Q ++ (K3 Q ++ K4 Q))
def adr : List Addr := adr1 ++ (adr2 ++ (adr3 ++ adr4))
def q : Program := view P [83]
def loose : List Str := (["_wall", "BOUND", "LETTERS", "FIGURES", "LONGEST_NAME", "DEED_KINDS", "is_whole", "is_value", "is_name", "is_operand", "is_deed", "is_row", "deed_of", "set_by", "does", "spoils", "OnceError", "Wrong", "NoThing", "TooMany", "NoWay", "MOST", "is_below", "check_length", "check_each", "FIRST_STEP", "are_nexts", "check_nexts", "stops_of", "turned", "reached", "check_ways", "steps_of", "Plan", "pass_on", "unready_steps", "Ready", "unwanted_ends", "unwanted_steps", "Wanted", "Brinks", "marked", "check_held", "unwaiting_places", "places_alive_behind", "Choice", "_law_bag", "_law_take", "_law_net", "_law_mended", "_law_name", "_law_names", "_law_operand", "_law_deed", "_law_row", "_law_plan", "_law_does", "_law_spoils", "_law_steps", "_law_to", "_law_ready", "_law_wanted", "_law_brinks", "_law_walk", "_law_far", "_law_home", "_law_places", "_law_all_way", "_law_int", "_law_step_list", "_law_int_list", "_law_held", "_law_counted"] : List String).map Str.ofString
theorem left_one {p q : Program} {loose : List Str} {Xt : Shared → Bool} {α : Type} {Yf : Shared → α} {Ya : World → α} {N m₀ : Nat} {ann : Option Value} (e : opening p = plainProg p.main.scope.names) (hN : Nat.ble 600 N = true) (f : ∀ s, fenceModules? p s = some s)
    (size : ∀ w : World, ((boot_heap w.params).isNs mainGlobals, (boot_heap w.params).objs.size, (boot_heap w.params).nsMap mainGlobals "__annotations__") = (true, m₀, ann))
    {r : World → OsState → Option Shared} (hr : ∀ w os x, r w os = some x → topRun treeTable p w m₀ ann N ⟨boot_heap w.params, Array.mk [], boot_drawn, boot_toks, os⟩ (topStub p) = some x)
    (ra : ∀ w os, (r w os).map (fun s₁ => staticsOk (importedModules p.main.body) (boot_heap w.params) s₁.heap && namesBound p s₁.heap && gensDone s₁ && laidKept (boot_heap w.params) s₁.heap) = some true)
    (rb : ∀ w os, (r w os).map (openSeen q loose (importedModules p.main.body) Xt true) = some (openGood q loose))
    (rc : ∀ w os, (r w os).map Yf = some (Ya w)) :
    LeftO p q loose Xt Yf Ya N := fun w => by
  obtain ⟨⟨h, gs, d, k, os⟩, e1, e2⟩ := Option.map_eq_some_iff.mp (boot_open e hN f w)
  obtain ⟨rfl, rfl, rfl, rfl⟩ : h = boot_heap w.params ∧ gs = Array.mk [] ∧ d = boot_drawn ∧ k = boot_toks := by simpa using e2
  obtain ⟨z1, z2, z3⟩ : _ ∧ _ ∧ _ := by simpa only [Prod.mk.injEq] using size w
  obtain ⟨s₁, r1, r3⟩ := Option.map_eq_some_iff.mp (ra w os)
  have rb := rb w os
  have rc := rc w os
  rw [r1] at rb rc
  have r1 := hr w os _ r1
  have r4 : (openSeen q loose (importedModules p.main.body) Xt true s₁, Yf s₁) = (openGood q loose, Ya w) := Prod.ext (Option.some.inj rb) (Option.some.inj rc)
  have t : topFrom treeTable p w N ⟨boot_heap w.params, Array.mk [], boot_drawn, boot_toks, os⟩ = some s₁ := by
    unfold topFrom
    dsimp only
    rw [z1, z2, z3, r1]
    show (match staticsOk (importedModules p.main.body) (boot_heap w.params) s₁.heap && namesBound p s₁.heap && gensDone s₁ && laidKept (boot_heap w.params) s₁.heap with | true => some s₁ | false => none) = _
    rw [r3]
  unfold openEnds
  rw [e1]
  show (topFrom treeTable p w N _).map _ = _
  rw [t]
  exact congrArg some r4
abbrev hook : Hook := kHook K adr (fun _ => by kernel_rfl)
abbrev row : OpenLaw := PySem.Challenge.rw_oncedone_k55_whole_as_many_as_brinks
def kZ (x q : Str) (st : Stmt) : Obj := ⟨.none, none, .func { fnOf x q (a2m st) (a0b st) (f6 st) .none .none .none .none none .none .none with globals := 0 }, #[]⟩
def kS (xs : List Value) (n : Nat) : Obj := ⟨.type "tuple", none, .seq xs.toArray n, ([] : List (Option Value)).toArray⟩
noncomputable section
def kk (a : Addr) (Q : Params) : Obj := ((K Q).lookup a).getD (boot_o_4 Q)
abbrev kY (n : Str) (i : Nat) : Obj := kZ n n (top i)
abbrev k0 : Obj := ⟨.none, none, .fields ([] : List Value).toArray, ([] : List (Option Value)).toArray⟩
abbrev kf (xs : List Value) (z : Obj) (a : Nat) (Q : Params) (r : List Obj) : List Obj := kS [] 0 :: k0 :: kS xs 0 :: kS [] 0 :: z :: kk a Q :: kk (a + 1) Q :: r
abbrev ke (z : Obj) (a : Nat) (Q : Params) (r : List Obj) : List Obj := kS [] 0 :: k0 :: z :: kk a Q :: kk (a + 1) Q :: r
abbrev kw (c : String) (xs : List Value) : Obj := ⟨.type c, none, .fields xs.toArray, ([] : List (Option Value)).toArray⟩
abbrev kl (n : Str) (a l r : Nat) : Obj := kw "code" [.str n a, .str n (a + 1), .str "/claim/cut.py" (a + 2), .int l 0, .int 0 0, .int 0 0, .int 0 0, .int 0 0, .ref r, .bool false, .int 181 0, .ref (r + 1), .none, .none, .none, .none, .int (a + 3 : Nat) 0, .int l 0, .str "/claim/cut.py" (a + 4)]
abbrev kb (b : String) (v : Value) : Obj := kw "builtin_function_or_method" [.builtin b, v]
abbrev ku (r : Nat) : Obj := kw "super" [.ref r, .ref r, .ref r]
abbrev kr (c l : Nat) (m : Value) : Obj := ⟨.type "frame", none, .plain, ([some (.ref c), some (.ref 3), some (.ref l), none, some m, none, some (.ref 0)] : List (Option Value)).toArray⟩
abbrev kt (xs : List (Nat × Nat × Nat)) : Obj := ⟨.none, none, .fields (xs.flatMap fun x => ([.int x.1 0, .int x.2.1 0, .ref x.2.2] : List Value)).toArray, ([] : List (Option Value)).toArray⟩
abbrev kx (o : Obj) (r : List Obj) : List Obj := o :: r
def h1 (Q : Params) : List Obj :=
kx (boot_o_0 Q) <|
kx (boot_o_1 Q) <|
kx (boot_o_2 Q) <|
kx (kD [kE Q "__name__" 165 m7, kE Q "__doc__" 166 .none, kE Q "__package__" 167 .none, kE Q "__loader__" 168 (.builtin "__main__.__loader__#opaque"), kE Q "__spec__" 169 .none, kE Q "__annotations__" 170 (.ref 6), kE Q "__builtins__" 171 (.ref 4), kE Q "__file__" 173 (.str "/claim/cut.py" 172), kE Q "__cached__" 174 .none, kE Q "_wall" 193 (.ref 21), kE Q "BOUND" 197 (.int (1000000000000) 196), kE Q "LETTERS" 199 (.str "abcdefghijklmnopqrstuvwxyz" 198), kE Q "FIGURES" 201 (.str "0123456789" 200), kE Q "LONGEST_NAME" 203 (.int (8) 202), kE Q "DEED_KINDS" 209 (.ref 22), kE Q "is_whole" 216 (.ref 29), kE Q "is_value" 223 (.ref 36), kE Q "is_name" 229 (.ref 41), kE Q "is_operand" 236 (.ref 48), kE Q "is_deed" 243 (.ref 55), kE Q "is_row" 252 (.ref 62), kE Q "deed_of" 261 (.ref 69), kE Q "set_by" 268 (.ref 76), kE Q "does" 276 (.ref 83), kE Q "spoils" 284 (.ref 90), kE Q "OnceError" 304 (.ref 100), kE Q "Wrong" 329 (.ref 120), kE Q "NoThing" 354 (.ref 139), kE Q "TooMany" 379 (.ref 158), kE Q "NoWay" 404 (.ref 177), kE Q "MOST" 408 (.int (400) 407), kE Q "is_below" 416 (.ref 186), kE Q "check_length" 425 (.ref 193), kE Q "check_each" 434 (.ref 200), kE Q "FIRST_STEP" 440 (.ref 201), kE Q "are_nexts" 446 (.ref 206), kE Q "check_nexts" 452 (.ref 211), kE Q "stops_of" 458 (.ref 216), kE Q "turned" 464 (.ref 221), kE Q "reached" 475 (.ref 228), kE Q "check_ways" 485 (.ref 235), kE Q "steps_of" 491 (.ref 240), kE Q "Plan" 564 (.ref 297), kE Q "pass_on" 578 (.ref 308), kE Q "unready_steps" 591 (.ref 315), kE Q "Ready" 661 (.ref 365), kE Q "unwanted_ends" 674 (.ref 376)] 47) <|
kx (boot_o_4 Q) <|
kx (boot_o_5 Q) <|
kx (boot_o_6 Q) <|
kx (boot_o_7 Q) <|
kx (boot_o_8 Q) <|
kx (boot_o_9 Q) <|
kx (boot_o_10 Q) <|
kx (kS [] 0) <|
kx (kt [(1, 0, 20), (10, 0, 28), (12, 0, 35), (14, 0, 40), (18, 0, 47), (20, 0, 54), (24, 0, 61), (39, 0, 68), (41, 0, 75), (43, 0, 82), (45, 0, 89), (48, 0, 96), (50, 0, 109), (54, 0, 128), (58, 0, 147), (62, 0, 166), (68, 0, 185), (70, 0, 192), (75, 0, 199), (81, 0, 205), (86, 0, 210), (90, 0, 215), (92, 0, 220), (98, 0, 227), (107, 0, 234), (113, 0, 239), (118, 0, 246), (151, 0, 307), (156, 0, 314), (169, 0, 321), (195, 0, 375)]) <|
kx (kl "<module>" 182 1 11) <|
kx (kr 13 3 m0) <|
kf [(.str "k" 190)] (kY "_wall" 0) 20 Q <|
kx (kk 22 Q) <|
kf [(.str "thing" 213)] (kY "is_whole" 7) 28 Q <|
kf [(.str "thing" 220)] (kY "is_value" 8) 35 Q <|
ke (kY "is_name" 9) 40 Q <|
kf [(.str "thing" 233)] (kY "is_operand" 10) 47 Q <|
kf [(.str "thing" 240)] (kY "is_deed" 11) 54 Q <|
kf [(.str "thing" 247), (.str "kind" 248), (.str "rest" 249)] (kY "is_row" 12) 61 Q <|
kf [(.str "row" 258)] (kY "deed_of" 14) 68 Q <|
kf [(.str "row" 265)] (kY "set_by" 15) 75 Q <|
kf [(.str "row" 272), (.str "deed" 273)] (kY "does" 16) 82 Q <|
kf [(.str "row" 280), (.str "deed" 281)] (kY "spoils" 17) 89 Q <|
kx (kS [(.type "ValueError")] 0) <|
kx (kb "type.__prepare__" (.type "type")) <|
kx (kD (kQ Q 294 m3 "OnceError" 48 [kE Q "__static_attributes__" 299 (.ref 98)]) 4) <|
kx (kS [] 0) <|
kx k0 <|
kx (kl "OnceError" 289 48 94) <|
kx (kr 96 93 m3) <|
kx (kS [] 0) <|
kx (kk 99 Q) <|
kx (kk 100 Q) <|
kx ⟨(.type "getset_descriptor"), none, .fields ([(.str "__weakref__" 300), (.ref 100), (.builtin "ExceptionGroup.__weakref__"), .none] : List Value).toArray, ([] : List (Option Value)).toArray⟩ <|
kx (ku 100) <|
kx (kb "object.__init_subclass__" (.ref 100)) <|
kx (kS [(.ref 100)] 0) <|
kx (kb "type.__prepare__" (.type "type")) <|
kx (kD (kQ Q 312 m3 "Wrong" 50 [kE Q "__init__" 324 (.ref 117), kE Q "__static_attributes__" 326 (.ref 118)]) 5) <|
kx (kS [] 0) <|
kx (kt [(52, 4, 116)]) <|
kx (kl "Wrong" 307 50 107) <|
kx (kr 109 106 m3) <|
kf [(.str "self" 320), (.str "at" 321)] (kZ "__init__" "Wrong.__init__" (u9 (top 20) 0)) 116 Q <|
kx (kS [(.str "at" 325)] 0) <|
kx (kk 119 Q) <|
kx (kk 120 Q) <|
kx (ku 120) <|
kx (kb "object.__init_subclass__" (.ref 120)) <|
kx (kS [(.ref 100)] 0) <|
kx (kb "type.__prepare__" (.type "type")) <|
kx (kD (kQ Q 337 m3 "NoThing" 54 [kE Q "__init__" 349 (.ref 136), kE Q "__static_attributes__" 351 (.ref 137)]) 5) <|
kx (kS [] 0) <|
kx (kt [(56, 4, 135)]) <|
kx (kl "NoThing" 332 54 126) <|
kx (kr 128 125 m3) <|
kf [(.str "self" 345), (.str "at" 346)] (kZ "__init__" "NoThing.__init__" (u9 (top 21) 0)) 135 Q <|
kx (kS [(.str "at" 350)] 0) <|
kx (kk 138 Q) <|
kx (kk 139 Q) <|
kx (ku 139) <|
kx (kb "object.__init_subclass__" (.ref 139)) <|
kx (kS [(.ref 100)] 0) <|
kx (kb "type.__prepare__" (.type "type")) <|
kx (kD (kQ Q 362 m3 "TooMany" 58 [kE Q "__init__" 374 (.ref 155), kE Q "__static_attributes__" 376 (.ref 156)]) 5) <|
kx (kS [] 0) <|
kx (kt [(60, 4, 154)]) <|
kx (kl "TooMany" 357 58 145) <|
kx (kr 147 144 m3) <|
kf [(.str "self" 370), (.str "most" 371)] (kZ "__init__" "TooMany.__init__" (u9 (top 22) 0)) 154 Q <|
kx (kS [(.str "most" 375)] 0) <|
kx (kk 157 Q) <|
kx (kk 158 Q) <|
kx (ku 158) <|
kx (kb "object.__init_subclass__" (.ref 158)) <|
kx (kS [(.ref 100)] 0) <|
kx (kb "type.__prepare__" (.type "type")) <|
kx (kD (kQ Q 387 m3 "NoWay" 62 [kE Q "__init__" 399 (.ref 174), kE Q "__static_attributes__" 401 (.ref 175)]) 5) <|
kx (kS [] 0) <|
kx (kt [(64, 4, 173)]) <|
kx (kl "NoWay" 382 62 164) <|
kx (kr 166 163 m3) <|
kf [(.str "self" 395), (.str "at" 396)] (kZ "__init__" "NoWay.__init__" (u9 (top 23) 0)) 173 Q <|
kx (kS [(.str "at" 400)] 0) <|
kx (kk 176 Q) <|
kx (kk 177 Q) <|
kx (ku 177) <|
kx (kb "object.__init_subclass__" (.ref 177)) <|
kf [(.str "thing" 412), (.str "many" 413)] (kY "is_below" 26) 185 Q <|
kf [(.str "things" 420), (.str "at" 421), (.str "least" 422)] (kY "check_length" 27) 192 Q <|
kf [(.str "rights" 429), (.str "k" 430), (.str "right" 431)] (kY "check_each" 28) 199 Q <|
kx (kk 201 Q) <|
ke (kY "are_nexts" 31) 205 Q <|
ke (kY "check_nexts" 32) 210 Q <|
ke (kY "stops_of" 33) 215 Q <|
ke (kY "turned" 34) 220 Q <|
kf [(.str "begins" 468), (.str "leads" 469), (.str "seen" 470), (.str "waiting" 471), (.str "place" 472)] (kY "reached" 35) 227 Q <|
kf [(.str "nexts" 479), (.str "begun" 480), (.str "ending" 481), (.str "place" 482)] (kY "check_ways" 36) 234 Q <|
ke (kY "steps_of" 37) 239 Q <|
kx (kS [] 0) <|
kx (kb "type.__prepare__" (.type "type")) <|
kx (kD (kQ Q 499 m5 "Plan" 118 [kE Q "__init__" 509 (.ref 252), kE Q "steps" 516 (.ref 259), kE Q "leads_to" 524 (.ref 266), kE Q "steps_into" 532 (.ref 273), kE Q "stops" 539 (.ref 280), kE Q "deeds" 546 (.ref 287), kE Q "names" 553 (.ref 294), kE Q "__static_attributes__" 557 (.ref 295)]) 11) <|
kx (kS [] 0) <|
kx (kt [(120, 4, 251), (131, 4, 258), (134, 4, 265), (139, 4, 272), (142, 4, 279), (145, 4, 286), (148, 4, 293)]) <|
kx (kl "Plan" 494 118 244) <|
kx (kr 246 243 m5) <|
ke (kZ "__init__" "Plan.__init__" (u9 (top 38) 0)) 251 Q <|
kf [(.str "self" 513)] (kZ "steps" "Plan.steps" (u9 (top 38) 1)) 258 Q <|
kf [(.str "self" 520), (.str "step" 521)] (kZ "leads_to" "Plan.leads_to" (u9 (top 38) 2)) 265 Q <|
kf [(.str "self" 528), (.str "place" 529)] (kZ "steps_into" "Plan.steps_into" (u9 (top 38) 3)) 272 Q <|
kf [(.str "self" 536)] (kZ "stops" "Plan.stops" (u9 (top 38) 4)) 279 Q <|
kf [(.str "self" 543)] (kZ "deeds" "Plan.deeds" (u9 (top 38) 5)) 286 Q <|
kf [(.str "self" 550)] (kZ "names" "Plan.names" (u9 (top 38) 6)) 293 Q <|
kx (kS [(.str "entries" 554), (.str "nexts" 555), (.str "rows" 556)] 0) <|
kx (kk 296 Q) <|
kx (kk 297 Q) <|
kx ⟨(.type "getset_descriptor"), none, .fields ([(.str "__dict__" 558), (.ref 297), (.builtin "function.__dict__"), (.builtin "function.__dict__#set")] : List Value).toArray, ([] : List (Option Value)).toArray⟩ <|
kx ⟨(.type "getset_descriptor"), none, .fields ([(.str "__weakref__" 560), (.ref 297), (.builtin "ExceptionGroup.__weakref__"), .none] : List Value).toArray, ([] : List (Option Value)).toArray⟩ <|
kx (ku 297) <|
kx (kb "object.__init_subclass__" (.ref 297)) <|
kf [(.str "plan" 570), (.str "place" 571), (.str "come_by" 572), (.str "order" 573), (.str "at" 574), (.str "target" 575)] (kY "pass_on" 40) 307 Q <|
kf [(.str "plan" 582), (.str "made" 583), (.str "broken" 584), (.str "come_by" 585), (.str "order" 586), (.str "place" 587), (.str "done" 588)] (kY "unready_steps" 41) 314 Q <|
kx (kS [] 0) <|
kx (kb "type.__prepare__" (.type "type")) <|
kx (kD (kQ Q 599 m6 "Ready" 169 [kE Q "__init__" 609 (.ref 327), kE Q "ready_at" 617 (.ref 334), kE Q "ready_behind" 626 (.ref 341), kE Q "ready_on" 634 (.ref 348), kE Q "begins_unready" 642 (.ref 355), kE Q "way_unready" 650 (.ref 362), kE Q "__static_attributes__" 654 (.ref 363)]) 10) <|
kx (kS [] 0) <|
kx (kt [(171, 4, 326), (177, 4, 333), (180, 4, 340), (186, 4, 347), (189, 4, 354), (192, 4, 361)]) <|
kx (kl "Ready" 594 169 319) <|
kx (kr 321 318 m6) <|
ke (kZ "__init__" "Ready.__init__" (u9 (top 42) 0)) 326 Q <|
kf [(.str "self" 613), (.str "place" 614)] (kZ "ready_at" "Ready.ready_at" (u9 (top 42) 1)) 333 Q <|
kf [(.str "self" 621), (.str "place" 622), (.str "row" 623)] (kZ "ready_behind" "Ready.ready_behind" (u9 (top 42) 2)) 340 Q <|
kf [(.str "self" 630), (.str "step" 631)] (kZ "ready_on" "Ready.ready_on" (u9 (top 42) 3)) 347 Q <|
kf [(.str "self" 638), (.str "step" 639)] (kZ "begins_unready" "Ready.begins_unready" (u9 (top 42) 4)) 354 Q <|
kf [(.str "self" 646), (.str "place" 647)] (kZ "way_unready" "Ready.way_unready" (u9 (top 42) 5)) 361 Q <|
kx (kS [(.str "come_by" 651), (.str "deed" 652), (.str "plan" 653)] 0) <|
kx (kk 364 Q) <|
kx (kk 365 Q) <|
kx ⟨(.type "getset_descriptor"), none, .fields ([(.str "__dict__" 655), (.ref 365), (.builtin "function.__dict__"), (.builtin "function.__dict__#set")] : List Value).toArray, ([] : List (Option Value)).toArray⟩ <|
kx ⟨(.type "getset_descriptor"), none, .fields ([(.str "__weakref__" 657), (.ref 365), (.builtin "ExceptionGroup.__weakref__"), .none] : List Value).toArray, ([] : List (Option Value)).toArray⟩ <|
kx (ku 365) <|
kx (kb "object.__init_subclass__" (.ref 365)) <|
kf [(.str "plan" 667), (.str "deed" 668), (.str "ends" 669), (.str "place" 670), (.str "row" 671)] (kY "unwanted_ends" 44) 375 Q <| []
abbrev bd : List Stmt := behindTheImports P
abbrev en : Env := { scope := P.main.scope, locals := mainNs, globals := mainNs, cells := [], code := (.ref 13), frame := some 14 }
abbrev cE : Code := .body bd en
abbrev fB : List Frame := [topFrame ⟨0, 0, 0, 0⟩]
abbrev s0 (w : World) (os : OsState) : Shared := ⟨boot_heap w.params, Array.mk [], boot_drawn, boot_toks, os⟩
def sa (w : World) (os : OsState) : Shared := ((topGo treeTable P w 11 (some (.ref 6)) 12 (s0 w os) (topStub P)).map (·.1)).getD (s0 w os)
abbrev s1 (w : World) (os : OsState) : Shared := ⟨⟨Array.mk (h1 w.params), (boot_heap w.params).life⟩, Array.mk [], boot_drawn, 675, os⟩
abbrev rn (w : World) (os : OsState) : Option Shared := PySem.W.Fast.tw14082659384304107361 PySem.W.Fast.tw14364793385576792824 P w 11 (some (.ref 6)) 8026 (s1 w os) (restOf (bd.drop 45) en cE ⟨195, 0, 200, 15⟩ fB)
end
theorem go_a (w : World) (os : OsState) : topGo treeTable P w 11 (some (.ref 6)) 12 (s0 w os) (topStub P) = some (sa w os, ⟨denote treeTable cE, cE, ⟨0, 0, 0, 0⟩, fB⟩) := by kernel_rfl
theorem go_b (w : World) (os : OsState) : segRun treeTable P w 11 (some (.ref 6)) 1 1 (sa w os) (blockOf bd en cE ⟨0, 0, 0, 0⟩ fB) = some (.next, sa w os, cE, ⟨0, 0, 0, 0⟩) := by kernel_rfl
theorem go_c (w : World) (os : OsState) : segRun treeTable P w 11 (some (.ref 6)) 1 2805 (sa w os) (piecesOf (bd.take 45) en cE ⟨0, 0, 0, 0⟩ fB) = some (.next, s1 w os, cE, ⟨195, 0, 200, 15⟩) := by kernel_rfl
theorem go_d (w : World) (os : OsState) (x : Shared) (h : rn w os = some x) : topRun treeTable P w 11 (some (.ref 6)) 10844 (s0 w os) (topStub P) = some x := by
  have h : topRun treeTable P w 11 (some (.ref 6)) 8026 (s1 w os) (restOf (bd.drop 45) en cE ⟨195, 0, 200, 15⟩ fB) = some x := by rw [PySem.W.Fast.te14082659384304107361, PySem.W.Fast.te14364793385576792824]; exact h
  have h := piece_app (go_c w os) h
  rw [List.take_append_drop] at h
  exact go_top (go_a w os) (piece_block (go_b w os) h)
theorem left_a (w : World) (os : OsState) : (rn w os).map (fun s₁ => staticsOk (importedModules P.main.body) (boot_heap w.params) s₁.heap && namesBound P s₁.heap && gensDone s₁ && laidKept (boot_heap w.params) s₁.heap) = some true := by kernel_rfl
theorem left_b (w : World) (os : OsState) : (rn w os).map (PySem.W.Fast.tw4187177175401517315 q loose (importedModules P.main.body) (fun s => xlAt q [] s && recOk (RowW.records row.row.toRowW) s) true) = some (openGood q loose) := by kernel_rfl
theorem left_c1 (w : World) (os : OsState) : (rn w os).map (fun s => adr1.map s.heap.get?) = some ((K1 w.params).map fun p => some p.2) := by kernel_rfl
theorem left_c2 (w : World) (os : OsState) : (rn w os).map (fun s => adr2.map s.heap.get?) = some ((K2 w.params).map fun p => some p.2) := by kernel_rfl
theorem left_c3 (w : World) (os : OsState) : (rn w os).map (fun s => adr3.map s.heap.get?) = some ((K3 w.params).map fun p => some p.2) := by kernel_rfl
theorem left_c4 (w : World) (os : OsState) : (rn w os).map (fun s => adr4.map s.heap.get?) = some ((K4 w.params).map fun p => some p.2) := by kernel_rfl
theorem left_e (w : World) (os : OsState) : (rn w os).map (Hook.obs hook) = some (Hook.val hook w) := by
  obtain ⟨s, h1, h2⟩ := Option.map_eq_some_iff.mp (left_c1 w os)
  have h3 := left_c2 w os
  have h4 := left_c3 w os
  have h5 := left_c4 w os
  rw [h1] at h3 h4 h5 ⊢
  have h3 : adr2.map s.heap.get? = _ := Option.some.inj h3
  have h4 : adr3.map s.heap.get? = _ := Option.some.inj h4
  have h5 : adr4.map s.heap.get? = _ := Option.some.inj h5
  show some ((adr1 ++ (adr2 ++ (adr3 ++ adr4))).map s.heap.get?) = some ((K1 w.params ++ (K2 w.params ++ (K3 w.params ++ K4 w.params))).map fun p => some p.2)
  rw [List.map_append, List.map_append, List.map_append, List.map_append, List.map_append, List.map_append, h2, h3, h4, h5]
theorem left : LeftO P q loose (fun s => xlAt q [] s && recOk (RowW.records row.row.toRowW) s) (Hook.obs hook) (Hook.val hook) 10844 :=
  left_one (m₀ := 11) (ann := (some (.ref 6))) (r := rn) (by kernel_rfl) (by kernel_rfl) (fun s => by kernel_rfl) (fun w => by kernel_rfl) go_d left_a (by rw [PySem.W.Fast.te4187177175401517315]; exact left_b) left_e
theorem said0 : row.wellSaid = true := by
  rw [PySem.W.Fast.te9446332074065402090]
  kernel_rfl
theorem fin (hc : ∀ d : DefRec, d.name = "law" → d.params.defaults = [] → WalkO q loose (XL q []) (Hook.says hook) row.row.toRowW d [] (fun f vs => PySem.call f vs)) : row.Holds := by
  refine holds_law (l := row) said0 fun said => ?_
  refine holds_open (q := q) (loose := loose) (Xt := fun s => xlAt q [] s && recOk (RowW.records row.row.toRowW) s) (XP := XL q []) (Yf := Hook.obs hook) (Ya := Hook.val hook) (YP := Hook.says hook) (N := 10844) left (Hook.of hook) (Hook.keeps hook) (fun s e => xl_of s (Bool.and_eq_true_iff.mp e).1) XL.keeps (by rfl) (by rfl) (by rfl) (fun s e => recFacts_of (Bool.and_eq_true_iff.mp e).2) (by rfl) said (by decide +kernel) ⟨rfl, rfl, rfl, rfl, rfl, by decide +kernel⟩ ?hw (hc _ rfl rfl)
  case hw => w_witness2
end HD
set_option Elab.async false
set_option linter.all false
set_option maxRecDepth 100000
namespace L2
open PySem PySem.Spec PyProof.Rows
variable{us:List Value}{i t':Nat}{u:Value}{C a b dx f:Addr}{w:World}{h h':Heap}{pins:List (Addr×Obj)}{s:k8}{c e tg:Expr}{p pos pos':Pos}{Q:Value->k8->Prop}{es:List Expr}{ps:List Str}{m:Str->Option Value}
abbrev Key:=Sum Int Str
def b4N:Key->Value->Bool
 | .inl k,v=>Value.isInt k v
 | .inr x,v=>Value.isStrOf x v
def d3x(w:World):Key->Int
 | .inl k=>hashInt k
 | .inr x=>hashStr w x
theorem a0h:∀ {k:Key} {v:Value},b4N k v=true->(∃i t,k=Sum.inl i/\v=Value.int i t)\/(∃x t,k=Sum.inr x/\v=Value.str x t)
 | .inl i,v,h=>by
  obtain⟨t,e⟩:=Value.isInt_shape (k:=i) (v:=v) h
  exact .inl ⟨i,t,rfl,e⟩
 | .inr x,v,h=>by
  obtain⟨t,e⟩:=Value.isStrOf_shape (x:=x) (v:=v) h
  exact .inr ⟨x,t,rfl,e⟩
theorem c3l(i:Int)(t:Tok):b4N (.inl i) (.int i t)=true:=by simp[b4N,Value.isInt]
theorem c3k(x:Str)(t:Tok):b4N (.inr x) (.str x t)=true:=by simp[b4N,Value.isStrOf]
theorem d1d(a b:Int):decide ((Sum.inl a:Key)=Sum.inl b)=(a == b):=by
 by_cases e:a=b
 ·subst e;simp
 ·have h:¬(Sum.inl a:Key)=Sum.inl b:=fun q=>e (Sum.inl.inj q)
  rw[d5q h]
  exact(beq_eq_false_iff_ne.mpr e).symm
theorem d1a(a b:Str):decide ((Sum.inr a:Key)=Sum.inr b)=decide (a=b):=by
 by_cases e:a=b
 ·subst e;simp
 ·have h:¬(Sum.inr a:Key)=Sum.inr b:=fun q=>e (Sum.inr.inj q)
  rw[d5q h,d5q e]
theorem d1c(a:Int)(b:Str):decide ((Sum.inl a:Key)=Sum.inr b)=false:=d5q (fun q=>nomatch q)
theorem d1b(a:Str)(b:Int):decide ((Sum.inr a:Key)=Sum.inl b)=false:=d5q (fun q=>nomatch q)
def N6(prog:D4)(w:World):PySem.KeyKind prog w Key where
 is:=b4N
 hash:=d3x w
 inj:=fun v a b ha hb=>by
  rcases a0h ha with ⟨i,t,rfl,rfl⟩ | ⟨x,t,rfl,rfl⟩
  ·rcases a0h hb with ⟨j,u,rfl,e⟩ | ⟨y,u,rfl,e⟩
   ·injection e with e1 _;rw[e1]
   ·exact nomatch e
  ·rcases a0h hb with ⟨j,u,rfl,e⟩ | ⟨y,u,rfl,e⟩
   ·exact nomatch e
   ·injection e with e1 _;rw[e1]
 byValue:=fun k v h=>by
  rcases a0h h with ⟨i,t,rfl,rfl⟩ | ⟨x,t,rfl,rfl⟩ <;> rfl
 pyHash:=fun hv h=>by
  rcases a0h hv with ⟨i,t,rfl,rfl⟩ | ⟨x,t,rfl,rfl⟩
  ·exact wpAny_pyHash_int h
  ·exact wpAny_pyHash_str h
 eqBool:=fun hu hv h=>by
  rcases a0h hu with ⟨i,t,rfl,rfl⟩ | ⟨x,t,rfl,rfl⟩
  ·rcases a0h hv with ⟨j,u,rfl,rfl⟩ | ⟨y,u,rfl,rfl⟩
   ·rw[d1d]at h;exact wpAny_eqBool_int h
   ·rw[d1c]at h;exact SeqAt.EqAt.int_str i t y u _ _ _ _ h
  ·rcases a0h hv with ⟨j,u,rfl,rfl⟩ | ⟨y,u,rfl,rfl⟩
   ·rw[d1b]at h;exact SeqAt.EqAt.str_int x t j u _ _ _ _ h
   ·rw[d1a]at h;exact wpAny_eqBool_str h
 «strs» := fun k x t v h=>by
  rcases a0h h with ⟨i,u,rfl,e⟩ | ⟨y,u,rfl,e⟩
  ·exact nomatch e
  ·injection e with e1 _
   subst e1
   cases v <;> rfl
theorem b9h(prog:D4)(w:World)(i:Int)(t:Tok):(N6 prog w).is (.inl i) (.int i t)=true:=c3l i t
theorem b9g(prog:D4)(w:World)(x:Str)(t:Tok):(N6 prog w).is (.inr x) (.str x t)=true:=c3k x t
inductive V where
 | non | bl (b:Bool) | int (i:Int) | str (x:Str) | byt (b:Array UInt8) | flt (b:UInt64) | ref (a:Addr) | ty (n:String)
 deriving DecidableEq
variable{v y:V}{xs:List V}{kvs:List (Key×V)}
def K9:V->Value->Prop
 | .non,u=>u=Value.none
 | .bl b,u=>u=Value.bool b
 | .int i,u=>∃t,u=Value.int i t
 | .str x,u=>∃t,u=Value.str x t
 | .byt b,u=>∃t,u=Value.bytes b t
 | .flt b,u=>∃t,u=Value.float b t
 | .ref a,u=>u=Value.ref a
 | .ty n,u=>u=Value.type n
abbrev M3:List V->List Value->Prop:=Paired K9
theorem M3.length(r:M3 xs us):xs.length=us.length:=Paired.length r
theorem M3.get:∀ {xs:List V} {us:List Value} {i:Nat} {x:V},M3 xs us->xs[i]? = some x->∃u,us[i]? = some u/\K9 x u
 | _,_,_,_,.nil,e=>by simp at e
 | _,_,0,_,.cons r _,e=>by simp at e;subst e;exact⟨_,rfl,r⟩
 | _,_,i+1,x,.cons _ t,e=>by
  obtain⟨u,h1,h2⟩:=M3.get (i:=i) (x:=x) t (by simpa using e)
  exact⟨u,by simpa using h1,h2⟩
theorem M3.set{x:V}(r:K9 x u):∀ {xs:List V} {us:List Value} (i:Nat),M3 xs us->M3 (xs.set i x) (us.set i u)
 | _,_,_,.nil=>.nil
 | _,_,0,.cons _ t=>.cons r t
 | _,_,i+1,.cons q t=>.cons q (M3.set r i t)
theorem M3.append:∀ {xs ys:List V} {us ws:List Value},M3 xs us->M3 ys ws->M3 (xs++ys) (us++ws)
 | _,_,_,_,.nil,s=>s
 | _,_,_,_,.cons r t,s=>.cons r (M3.append t s)
theorem M3.take:∀ {xs:List V} {us:List Value} (n:Nat),M3 xs us->M3 (xs.take n) (us.take n)
 | _,_,0,_=>.nil
 | _,_,_+1,.nil=>.nil
 | _,_,n+1,.cons r t=>.cons r (M3.take n t)
theorem M3.drop:∀ {xs:List V} {us:List Value} (n:Nat),M3 xs us->M3 (xs.drop n) (us.drop n)
 | _,_,0,r=>r
 | _,_,_+1,.nil=>.nil
 | _,_,n+1,.cons _ t=>M3.drop n t
def a9k:Option V->Option Value->Prop
 | some v,some u=>K9 v u
 | none,none=>True
 | _,_=>False
def KV{κ:Type}:List (κ×V)->List (κ×Value)->Prop:=Paired fun(p:κ×V) (q:κ×Value)=>p.1=q.1/\K9 p.2 q.2
def kV:Key->V
 | .inl i=>.int i
 | .inr x=>.str x
inductive HO where
 /-- a list -/
 | lst (xs:List V)
 /-- a tuple (never changes) -/
 | tup (xs:List V)
 /-- a dict whose keys are ints and texts;one whose keys are tuples of ints and texts (the empty one is both) -/
 | dK (kvs:List (Key×V)) | dT (kvs:List (List Key×V))
 /-- a set of ints: its members,its size -/
 | set (S:Int->Bool) (n:Nat)
 /-- an instance of the class at C,its dict at dx,its attributes -/
 | ins (C dx:Addr) (fs:List (Str×V))
 /-- the dict of the instance at x -/
 | own (x:Addr)
 /-- the dict of an exception -/
 | xd (fs:List (Str×V))
 /-- a bound method,f of x -/
 | met (f x:Addr)
 /-- a range object lo,lo+1,.. below hi -/
 | rng (lo hi:Int)
 /-- a thing that is known to the object (the script;a dict while a loop walks it): read,never written while it is so -/
 | frz (o:Obj) (u:HO)
 /-- a code object's table -/
 | tbl (ps:Array Value)
 /-- any other thing,by what is true of its one object (a def of one's own: SetO a S n:=HO.ext fun h=>..) -/
 | ext (φ:Heap->Prop)
variable{o:HO}
abbrev Hp:=Addr->Option HO
variable{H H':Hp}
def upd(H:Hp)(a:Addr)(o:HO):Hp:=fun b=>if b=a then some o else H b
theorem c8:upd H a o a=some o:=by unfold upd;rw[if_pos rfl]
theorem g9(h:b≠a):upd H a o b=H b:=by unfold upd;rw[if_neg h]
theorem b3n{u:HO}:upd (upd H a o) a u=upd H a u:=by
 funext b;unfold upd;split <;> rfl
theorem N8{u:HO}(h:H a=some o)(h':H b=some u)(d:o≠u):a≠b:=by
 intro e;subst e;rw[h]at h';exact d (Option.some.inj h')
theorem c9(h:H a=some o)(h':H b=none):a≠b:=by
 intro e;subst e;rw[h]at h';cases h'
section
variable (P:D4)(w:World)
def Z4(H:Hp)(h:Heap)(a:Addr):HO->Prop
 | .lst xs=>xs.length<=u6/\∃(its:List Value) (n:Nat),M3 xs its/\h.get? a=some { cls:=.type "list",data:=.seq its.toArray n }
 | .tup xs=>xs.length<=u6/\∃its:List Value,M3 xs its/\IsTup h a its.toArray
 | .dK kvs=>kvs.length<=u6/\(a == a1Q)=false/\∃vs,KV kvs vs/\h.DictOf (N6 P w) a vs
 | .dT kvs=>kvs.length<=u6/\(a == a1Q)=false/\∃xs:List (List Key×Addr×Value),
   Paired (fun(p:List Key×V) (q:List Key×Addr×Value)=>p.1=q.1/\H q.2.1=some (.tup (p.1.map kV))/\K9 p.2 q.2.2) kvs xs /\
   ∃o es ep,h.get? a=some o/\o.ExactDict/\o.data=.dict es ep/\es.toList=xs.map (c8O (a4E (N6 P w)))/\(xs.map (·.1)).Nodup
 | .set S n=>h.SetOf (intKind P w) a S n
 | .ins C dx fs=>H dx=some (.own a)/\fs.length<=1000/\dx≠a/\h.get? a=some (a0I C dx) /\
   ∃mA,h.Ns1 dx mA/\(∀f,a9k (fs.lookup f) (mA f))/\PySem.Within mA (fs.map (·.1))
 | .own _=>∃o,h.get? a=some o
 | .xd fs=>∃mA,h.Ns1 a mA/\∀f,a9k (fs.lookup f) (mA f)
 | .rng lo hi=>∃t u v,h.get? a=some { cls:=.type "range",data:=.fields #[.int lo t,.int hi u,.int 1 v] }
 | .frz o u=>h.get? a=some o/\Z4 H h a u
 | .tbl ps=>h.get? a=some { cls:=.none,data:=.fields ps }
 | .met f x=>h.get? a=some (b2w (.ref f) (.ref x))
 | .ext φ=>φ h/\(∃o,h.get? a=some o)/\∀h1 h2:Heap,φ h1->(∀o,h1.get? a=some o->h2.get? a=some o)->φ h2
def HOk(H:Hp)(h:Heap):Prop:=∀a o,H a=some o->Z4 P w H h a o
end
section
variable {P:D4}
theorem Z4.lt(x:Z4 P w H h a o):a<h.objs.size:=by
 cases o with
 | lst xs=>obtain⟨_,_,_,_,e⟩:=x;exact l7 e
 | tup xs=>obtain⟨_,_,_,p⟩:=x;exact p.lt
 | dK kvs=>obtain⟨_,_,_,_,o,_,_,e,_⟩:=x;exact l7 e
 | dT kvs=>obtain⟨_,_,_,_,o,_,_,e,_⟩:=x;exact l7 e
 | set S n=>obtain⟨o,_,_,_,e,_⟩:=x;exact l7 e
 | ins C dx fs=>obtain⟨_,_,_,e,_⟩:=x;exact l7 e
 | own y=>obtain⟨_,e⟩:=x;exact l7 e
 | xd fs=>obtain⟨_,⟨_,_,_,e,_⟩,_⟩:=x;exact l7 e
 | rng lo hi=>obtain⟨_,_,_,e⟩:=x;exact l7 e
 | frz ob u=>obtain⟨e,_⟩:=x;exact l7 e
 | tbl ps=>exact l7 (show h.get? a=some _ from x)
 | met f y=>exact l7 (show h.get? a=some _ from x)
 | ext φ=>obtain⟨_,⟨_,e⟩,_⟩:=x;exact l7 e
theorem Paired.mapP{α β:Type}{F G:α->β->Prop}:∀ {l₁:List α} {l₂:List β},Paired F l₁ l₂->(∀a b,F a b->G a b)->Paired G l₁ l₂
 | _,_,.nil,_=>.nil
 | _,_,.cons r t,f=>.cons (f _ _ r) (Paired.mapP t f)
theorem Z4.stay(x:Z4 P w H h a o)(k:∀b u,(b=a\/H b=some (.own a))->h.get? b=some u->h'.get? b=some u)
  (ho:∀b,H b=some (.own a)->H' b=some (.own a)) (ht:∀b xs,H b=some (.tup xs)->H' b=some (.tup xs)):Z4 P w H' h' a o:=by
 induction o with
 | lst xs=>obtain⟨z,its,n,r,e⟩:=x;exact⟨z,its,n,r,k _ _ (.inl rfl) e⟩
 | tup xs=>obtain⟨z,its,r,ob,e,c⟩:=x;exact⟨z,its,r,ob,k _ _ (.inl rfl) e,c⟩
 | dK kvs=>obtain⟨z,y,vs,r,ob,es,ep,e,c⟩:=x;exact⟨z,y,vs,r,ob,es,ep,k _ _ (.inl rfl) e,c⟩
 | dT kvs=>
  obtain⟨z,y,xs,r,ob,es,ep,e,c⟩:=x
  exact⟨z,y,xs,Paired.mapP r fun p q z=>⟨z.1,ht _ _ z.2.1,z.2.2⟩,ob,es,ep,k _ _ (.inl rfl) e,c⟩
 | set S n=>obtain⟨ob,es,ep,t,e,c⟩:=x;exact⟨ob,es,ep,t,k _ _ (.inl rfl) e,c⟩
 | ins C dx fs=>
  obtain⟨d,z,ne,e,mA,⟨od,es,ep,e2,c⟩,r⟩:=x
  exact⟨ho _ d,z,ne,k _ _ (.inl rfl) e,mA,⟨od,es,ep,k _ _ (.inr d) e2,c⟩,r⟩
 | own y=>obtain⟨ob,e⟩:=x;exact⟨ob,k _ _ (.inl rfl) e⟩
 | xd fs=>obtain⟨mA,⟨od,es,ep,e,c⟩,r⟩:=x;exact⟨mA,⟨od,es,ep,k _ _ (.inl rfl) e,c⟩,r⟩
 | rng lo hi=>obtain⟨t,u,v,e⟩:=x;exact⟨t,u,v,k _ _ (.inl rfl) e⟩
 | frz ob u ih=>obtain⟨e,q⟩:=x;exact⟨k _ _ (.inl rfl) e,ih q⟩
 | tbl ps=>
  have e:h.get? a=some { cls:=.none,data:=.fields ps }:=x
  show h'.get? a=some { cls:=.none,data:=.fields ps }
  exact k a _ (.inl rfl) e
 | met f y=>
  have e:h.get? a=some (b2w (.ref f) (.ref y)):=x
  show h'.get? a=some (b2w (.ref f) (.ref y))
  exact k a _ (.inl rfl) e
 | ext φ=>obtain⟨p,⟨o,e⟩,st⟩:=x;exact⟨st _ _ p fun o q=>k _ _ (.inl rfl) q,⟨o,k _ _ (.inl rfl) e⟩,st⟩
theorem HOk.lt(x:HOk P w H h)(e:H a=some o):a<h.objs.size:=(x a o e).lt
theorem HOk.fresh(x:HOk P w H h)(e:h.objs.size<=a):H a=none:=by
 cases q:H a with
 | none=>rfl
 | some u=>exact absurd (D3 (x.lt q) e) (O4 _)
theorem HOk.kept(x:HOk P w H h)(k:∀b u,h.get? b=some u->h'.get? b=some u):HOk P w H h':=fun a o e=>
 (x a o e).stay (fun b u _ q=>k b u q) (fun _ q=>q) fun _ _ q=>q
theorem HOk.laid(x:HOk P w H h)(k:∀b u,h.get? b=some u->h'.get? b=some u)(hp:h.objs.size<=a)(new:Z4 P w (upd H a o) h' a o):HOk P w (upd H a o) h':=fun b u e=>by
 have hn:=x.fresh hp
 by_cases hb:b=a
 ·subst hb;rw[c8]at e;cases e;exact new
 ·rw[g9 hb]at e
  exact(x b u e).stay (fun c v _ q=>k c v q) (fun c q=>by rw[g9 (c9 q hn)];exact q) fun c xs q=>by rw[g9 (c9 q hn)];exact q
end
def Rd(H:Hp)(a:Addr)(u:HO):Prop:=H a=some u\/∃o,H a=some (.frz o u)
theorem Rd.ok{P:D4}{u:HO}(r:Rd H a u)(x:HOk P w H h):Z4 P w H h a u:=by
 rcases r with r | ⟨o,r⟩
 ·exact x a u r
 ·obtain⟨_,q⟩:=x a _ r
  exact q
def Mut:Option HO->Prop
 | some (.lst _)=>True
 | some (.dK _)=>True
 | some (.dT _)=>True
 | some (.set _ _)=>True
 | some (.ins _ _ _)=>True
 | some (.ext _)=>True
 | _=>False
section
variable {P:D4}{x e:Addr}{o':HO}
theorem HOk.write(ok:HOk P w H h)(mu:Mut (H x))(he:e=x\/H e=some (.own x))(k:∀b u,b≠e->h.get? b=some u->h'.get? b=some u)(heo:∃u,h'.get? e=some u)
  (new:Z4 P w (upd H x o') h' x o'):HOk P w (upd H x o') h':=fun b u q=>by
 have nown:∀c y,H c=some (.own y)->c≠x:=fun c y r z=>by subst z;rw[r]at mu;exact mu
 have ntup:∀c xs,H c=some (.tup xs)->c≠x:=fun c xs r z=>by subst z;rw[r]at mu;exact mu
 by_cases hb:b=x
 ·subst hb;rw[c8]at q;cases q;exact new
 ·rw[g9 hb]at q
  by_cases hbe:b=e
  ·have q':H b=some (.own x):=by
    rcases he with z | z
    ·exact absurd (hbe.trans z) hb
    ·rw[hbe];exact z
   rw[q]at q';cases q'
   obtain⟨v,hv⟩:=heo
   exact⟨v,by rw[hbe];exact hv⟩
  ·refine(ok b u q).stay (fun c v hc r=>k c v ?_ r) (fun c r=>by rw[g9 (nown c b r)];exact r) fun c xs r=>by rw[g9 (ntup c xs r)];exact r
   rcases hc with rfl | hc
   ·exact hbe
   ·rintro rfl
    rcases he with z | z
    ·exact nown c b hc z
    ·rw[hc]at z;cases z;exact hb rfl
end
structure Un(fs ex:List Addr)(H H':Hp)(h h':Heap):Prop where
 keep:∀b o,h.get? b=some o->H b=none->b∉fs->b∉ex->h'.get? b=some o
 slot:∀b o,h.get? b=some o->H b=none->b∈fs->b∉ex->∃sl,h'.get? b=some { o with slots:=sl }
 free:∀b o,h.get? b=some o->H b=none->b∉ex->H' b=none
 there:∀b o,h.get? b=some o->b∉ex->∃o',h'.get? b=some o'
 tups:∀b xs,H b=some (.tup xs)->H' b=some (.tup xs)
 frzs:∀b o u,H b=some (.frz o u)->H' b=some (.frz o u)
 tbls:∀b ps,H b=some (.tbl ps)->∃more,H' b=some (.tbl (ps++more))
section
variable {fs fs' ex ex':List Addr}{H1 H2:Hp}{h1 h2:Heap}{x e:Addr}
theorem Un.any(u:Un fs ex H H1 h h1){ob:Obj}(q:h.get? b=some ob)(n:H b=none)(hx:b∉ex):∃sl,h1.get? b=some { ob with slots:=sl }:=by
 by_cases hb:b∈fs
 ·exact u.slot b ob q n hb hx
 ·exact⟨ob.slots,u.keep b ob q n hb hx⟩
theorem Un.kept(k:∀b u,h.get? b=some u->h'.get? b=some u):Un fs ex H H h h':=
 ⟨fun b ob q _ _ _=>k b ob q,fun b ob q _ _ _=>⟨ob.slots,k b ob q⟩,fun _ _ _ n _=>n,fun b ob q _=>⟨ob,k b ob q⟩,fun _ _ q=>q,fun _ _ _ q=>q,fun _ ps q=>⟨#[],by rw[q];simp⟩⟩
theorem Un.refl:Un fs ex H H h h:=Un.kept fun _ _ q=>q
theorem Un.laid(k:∀b u,h.get? b=some u->h'.get? b=some u)(hp:h.objs.size<=a)(hn:H a=none):Un fs ex H (upd H a o) h h' where
 keep:=fun b u q _ _ _=>k b u q
 slot:=fun b u q _ _ _=>⟨u.slots,k b u q⟩
 free:=fun b u q n _=>by rw[g9 (A0 (D3 (l7 q) hp))];exact n
 there:=fun b u q _=>⟨u,k b u q⟩
 tups:=fun b xs q=>by rw[g9 (c9 q hn)];exact q
 frzs:=fun b u xs q=>by rw[g9 (c9 q hn)];exact q
 tbls:=fun b ps q=>⟨#[],by rw[g9 (c9 q hn),q];simp⟩
theorem Un.write(mu:Mut (H x))(he:e=x\/H e=some (.own x))(k:∀b u,b≠e->h.get? b=some u->h'.get? b=some u)(heo:∃u,h'.get? e=some u):Un fs ex H (upd H x o) h h':=by
 have hx:∀b,H b=none->b≠x:=fun b n z=>by subst z;rw[n]at mu;exact mu
 have hb:∀b,H b=none->b≠e:=fun b n z=>by
  subst z
  rcases he with r | r
  ·exact hx b n r
  ·rw[n]at r;cases r
 have hm:∀b u,H b=some u->¬Mut (some u)->b≠x:=fun b u q nm z=>by subst z;rw[q]at mu;exact nm mu
 refine⟨fun b u q n _ _=>k b u (hb b n) q,fun b u q n _ _=>⟨u.slots,k b u (hb b n) q⟩,fun b u q n _=>by rw[g9 (hx b n)];exact n,fun b u q _=>?_,
  fun b xs q=>by rw[g9 (hm b _ q fun z=>z)];exact q,fun b u xs q=>by rw[g9 (hm b _ q fun z=>z)];exact q,fun b ps q=>⟨#[],by rw[g9 (hm b _ q fun z=>z),q];simp⟩⟩
 by_cases hbe:b=e
 ·subst hbe;exact heo
 ·exact⟨u,k b u hbe q⟩
end
def trk(h:Heap)(H:Hp):List Addr:=(v9 h.objs.size).filter fun a=>(H a).isSome
def b7x(h:Heap)(H:Hp):Heap:=PySem.W.hideAll h (trk h H)
theorem c3q(h:Heap)(H:Hp):(b7x h H).objs.size=h.objs.size:=PySem.W.hideAll_size _ _
theorem c5S{o:Obj}(e:h.get? b=some o)(n:H b=none):(b7x h H).get? b=some o:=
 PySem.W.hideAll_get _ e fun hm=>by
  have q:(H b).isSome=true:=(D6.mp hm).2
  rw[n]at q;simp at q
theorem c8a{o:Obj}(e:(b7x h H).get? b=some o):h.get? b=some o/\H b=none:=by
 have e':h.get? b=some o:=PySem.W.of_hideAll (trk h H) e
 refine⟨e',?_⟩
 cases q:H b with
 | none=>rfl
 | some x=>
  have hm:b∈trk h H:=D6.mpr ⟨L9.mpr (l7 e'),by simp[q]⟩
  have z:(b7x h H).get? b=none:=PySem.W.hideAll_none (trk h H) hm
  rw[z]at e;cases e
def c8D(g h:Heap)(L:Addr):List (Addr×Obj):=(v9 h.objs.size).filterMap fun a=>if a=L\/(g.get? a).isSome=true then none else (h.get? a).map fun o=>(a,o)
def a9f(g h:Heap)(L d:Addr):List (Addr×Obj):=(c8D g h L).filter fun p=>decide (p.1≠d)
structure Mod(K:Fg)(mg:Str->Option Value)(base:Heap):Prop where
 kin:K.In base
 glob:base.Ns A6 mg
 blt:∃mb,base.Ns builtinsNs mb/\∀x:Str,x ≠ "__name__" -> mb x=a3q x
 nolimit:base.NoLimit
structure Cx where
 prog:D4
 w:World
 K:Fg
 mg:Str->Option Value
 base:Heap
 A:R3
 N:List Str
 s₀:k8
 H₀:Hp
 env:Env
 outer:List Env
 stack:List Env
 ex:List Addr
 fn:Str->Bool
 calm:Bool
 pn:List (Addr×Obj)
 xe:Value->k8->Prop
variable{X:Cx}
def frs(l:List Env):List Addr:=l.filterMap (·.frame)
abbrev Cx.fs(X:Cx):List Addr:=frs X.outer
def Vis(sc:Scope)(x:Str):Prop:=sc.names.lookup x=some .local\/sc.names.lookup x=some .cell\/sc.names.lookup x=some .free
def Loc(sc:Scope)(x:Str):Prop:=sc.names.lookup x=some .local\/sc.names.lookup x=some .cell
def d3G(env:Env)(h:Heap)(m:Str->Option Value)(x:Str)(u:Value):Prop:=
 (env.kindOf x=some .local/\m x=some u)\/((env.kindOf x=some .cell\/env.kindOf x=some .free)/\∃c,env.cells.lookup x=some c/\h.IsCell c (some u))
structure Cx.Ok(X:Cx):Prop where
 mod:Mod X.K X.mg X.base
 kind:X.env.scope.kind=.function
 glob:X.env.globals=A6
 blt:X.env.builtins=builtinsNs
 above:X.s₀.heap.objs.size<=X.env.locals
 inj:∀x y c,X.env.cells.lookup x=some c->X.env.cells.lookup y=some c->x=y
 has:∀x,(X.env.kindOf x=some .cell\/X.env.kindOf x=some .free)->∃c,X.env.cells.lookup x=some c
 cab:∀x c,X.fn x=true->X.env.cells.lookup x=some c->X.s₀.heap.objs.size<=c
 hd:X.calm=true->X.A.handled=none
 frames:X.A.frames=some X.stack
 stk:X.stack=X.outer\/(X.stack=X.env::X.outer/\X.env.frame=some X.env.locals)
 exf:∀b∈X.ex,b≠X.env.locals/\∀x c,X.env.cells.lookup x=some c->c≠b
 bs:∀b o,X.base.get? b=some o->X.s₀.heap.get? b=some o/\X.H₀ b=none
 bsz:X.base.objs.size<=X.s₀.heap.objs.size
 noex:∀b o,X.base.get? b=some o->b∉X.ex
 exfs:∀b∈X.ex,b∉X.fs
 funs:X.s₀.heap.FunFrames X.base X.outer
 frf:∀b∈X.fs,X.H₀ b=none
structure Inv(X:Cx)(pins:List (Addr×Obj))(σ:List (Option V))(H:Hp)(s:k8):Prop where
 ok:X.Ok
 os:s.os=X.s₀.os
 bare:b6B s.gens
 base:Un X.fs X.ex X.H₀ H X.s₀.heap s.heap
 loc:∃m,s.heap.Ns X.env.locals m/\∀(i:Nat) (x:Str) (v:V),X.N[i]? = some x->σ[i]? = some (some v)->Vis X.env.scope x->∃u,K9 v u/\d3G X.env s.heap m x u
 cell:∀x c,X.env.cells.lookup x=some c->∃v,s.heap.IsCell c v
 free:H X.env.locals=none
 freeC:∀x c,X.env.cells.lookup x=some c->H c=none
 pin:∀p∈X.pn++pins,s.heap.get? p.1=some p.2/\H p.1=none/\p.1≠X.env.locals/\p.1∉X.fs/\∀v,p.2.data≠.cell v
 hok:HOk X.prog X.w H s.heap
 len:σ.length=X.N.length
section
variable {σ:List (Option V)}
theorem Cx.Ok.nofr(ok:X.Ok){o:Obj}(e:X.base.get? b=some o):b∉X.fs:=fun hb=>by
 have:=(ok.funs.mem hb).1
 rw[e]at this;cases this
theorem Inv.bs(I:Inv X pins σ H s):∀b o,X.base.get? b=some o->s.heap.get? b=some o/\H b=none:=fun b o e=>
 ⟨I.base.keep b o (I.ok.bs b o e).1 (I.ok.bs b o e).2 (I.ok.nofr e) (I.ok.noex b o e),I.base.free b o (I.ok.bs b o e).1 (I.ok.bs b o e).2 (I.ok.noex b o e)⟩
theorem Inv.bk(I:Inv X pins σ H s):∀b o,X.base.get? b=some o->s.heap.get? b=some o:=fun b o e=>(I.bs b o e).1
theorem Inv.mod(I:Inv X pins σ H s):Mod X.K X.mg X.base:=I.ok.mod
theorem Inv.kIn(I:Inv X pins σ H s):X.K.In s.heap:=I.ok.mod.kin.keeps I.bk
theorem Inv.lt(I:Inv X pins σ H s):X.env.locals<s.heap.objs.size:=let⟨_,hn,_⟩:=I.loc;hn.lt
theorem Inv.sz(I:Inv X pins σ H s):X.s₀.heap.objs.size<=s.heap.objs.size:=D9 I.ok.above (c3R I.lt)
theorem Inv.nofs(I:Inv X pins σ H s)(h:s.heap.objs.size<=a):a∉X.fs:=fun hb=>by
 obtain⟨_,o,ho,_⟩:=I.ok.funs.mem hb
 exact absurd (D3 (l7 ho) (D9 I.sz h)) (O4 _)
theorem Inv.cne(I:Inv X pins σ H s):∀x c,X.env.cells.lookup x=some c->c≠X.env.locals:=fun x c e z=>by
 obtain⟨v,o,ho,hd⟩:=I.cell x c e
 obtain⟨m,⟨o',es,ep,ho',hd',_⟩,_⟩:=I.loc
 rw[z,ho']at ho;cases ho;rw[hd']at hd;cases hd
theorem Inv.funs(I:Inv X pins σ H s):s.heap.FunFrames X.base X.outer:=by
 have all:∀(l:List Env),(∀b∈frs l,b∈X.fs)->X.s₀.heap.FunFrames X.base l->s.heap.FunFrames X.base l:=by
  intro l
  induction l with
  | nil=>intro _ _;trivial
  | cons env r ih=>
   intro hs hl
   obtain⟨hk,⟨L,o,hf,hn,ho,hd⟩,hr⟩:=hl
   have hL:L∈X.fs:=hs L (by unfold frs;rw[b1q,hf];exact U5)
   obtain⟨sl,e⟩:=I.base.slot L o ho (I.ok.frf L hL) hL fun z=>I.ok.exfs L z hL
   exact⟨hk,⟨L,_,hf,hn,e,hd⟩,ih (fun b hb=>hs b (by unfold frs;rw[b1q,hf];exact G7 _ hb)) hr⟩
 exact all X.outer (fun _ hb=>hb) I.ok.funs
theorem Inv.stack(I:Inv X pins σ H s):s.heap.FunFrames X.base X.stack:=by
 rcases I.ok.stk with e | ⟨e,hf⟩
 ·rw[e];exact I.funs
 ·rw[e]
  obtain⟨m,hn,_⟩:=I.loc
  refine .cons (by rw[I.ok.kind];decide) hf hn ?_ I.funs
  exact Heap.get?_none_of_le (D9 I.ok.bsz I.ok.above)
theorem Inv.stkSub(I:Inv X pins σ H s):∀b∈frs X.stack,b∈X.env.locals::X.fs:=fun b hb=>by
 rcases I.ok.stk with e | ⟨e,hf⟩
 ·rw[e]at hb;exact G7 _ hb
 ·rw[e]at hb
  unfold frs at hb
  rw[b1q,hf]at hb
  exact hb
theorem Inv.stkFree(I:Inv X pins σ H s):∀b∈frs X.stack,H b=none:=fun b hb=>by
 rcases o4.mp (I.stkSub b hb)with e | hb
 ·rw[e];exact I.free
 ·obtain⟨_,o,ho,_⟩:=I.ok.funs.mem hb
  exact I.base.free b o ho (I.ok.frf b hb) fun z=>I.ok.exfs b z hb
theorem Inv.step{g':Array GenState}{t':Nat}{d':Drawn}{ch:List Addr}(I:Inv X pins σ H s)
  (hch:∀b∈ch,(b∈X.ex\/X.s₀.heap.objs.size<=b)/\b≠X.env.locals/\(∀x c,X.env.cells.lookup x=some c->c≠b)/\∀p∈X.pn++pins,p.1≠b)
  (keep:∀b o,b≠X.env.locals->b∉X.fs->b∉ch->s.heap.get? b=some o->H b=none->h'.get? b=some o)
  (slot:∀b o,b≠X.env.locals->b∈X.fs->b∉ch->s.heap.get? b=some o->H b=none->∃sl,h'.get? b=some { o with slots:=sl }) (free:∀b o,b∉ch->s.heap.get? b=some o->H b=none->H' b=none)
  (there:∀b o,b∉ch->s.heap.get? b=some o->∃o',h'.get? b=some o')
  (tups:∀b xs,H b=some (.tup xs)->H' b=some (.tup xs)) (frzs:∀b o u,H b=some (.frz o u)->H' b=some (.frz o u)) (tbls:∀b ps,H b=some (.tbl ps)->∃more,H' b=some (.tbl (ps++more)))
  (ns:∀m,s.heap.Ns X.env.locals m->h'.Ns X.env.locals m) (hok:HOk X.prog X.w H' h') (hg:b6B g') :
  Inv X pins σ H' { s with heap:=h',gens:=g',drawn:=d',toks:=t' }:=by
 have neL:∀b o,X.s₀.heap.get? b=some o->b≠X.env.locals:=fun b o e=>A0 (D3 (l7 e) I.ok.above)
 have neC:∀b o,X.s₀.heap.get? b=some o->b∉X.ex->b∉ch:=fun b o e hx hb=>by
  rcases(hch b hb).1 with z | z
  ·exact hx z
  ·exact absurd (D3 (l7 e) z) (O4 _)
 have cellK:∀x c,X.env.cells.lookup x=some c->∀v,s.heap.IsCell c v->h'.IsCell c v:=fun x c e v ⟨o,ho,hd⟩=>by
  have nch:c∉ch:=fun z=>(hch c z).2.2.1 x c e rfl
  by_cases hc:c∈X.fs
  ·obtain⟨sl,q⟩:=slot c o (I.cne x c e) hc nch ho (I.freeC x c e)
   exact⟨_,q,hd⟩
  ·exact⟨o,keep c o (I.cne x c e) hc nch ho (I.freeC x c e),hd⟩
 refine⟨I.ok,I.os,hg,⟨fun b o e n hb hx=>?_,fun b o e n hb hx=>?_,fun b o e n hx=>?_,fun b o e hx=>?_,fun b xs e=>tups b xs (I.base.tups b xs e),fun b o xs e=>frzs b o xs (I.base.frzs b o xs e),fun b ps e=>?_⟩,?_,fun x c e=>?_,?_,fun x c e=>?_,fun p hp=>?_,hok,I.len⟩
 ·exact keep b o (neL b o e) hb (neC b o e hx) (I.base.keep b o e n hb hx) (I.base.free b o e n hx)
 ·obtain⟨sl,e1⟩:=I.base.slot b o e n hb hx
  obtain⟨sl',e2⟩:=slot b _ (neL b o e) hb (neC b o e hx) e1 (I.base.free b o e n hx)
  exact⟨sl',e2⟩
 ·obtain⟨o',e1⟩:=I.base.there b o e hx
  exact free b o' (neC b o e hx) e1 (I.base.free b o e n hx)
 ·obtain⟨o',e1⟩:=I.base.there b o e hx
  exact there b o' (neC b o e hx) e1
 ·obtain⟨m1,e1⟩:=I.base.tbls b ps e
  obtain⟨m2,e2⟩:=tbls b _ e1
  exact⟨m1++m2,by rw[e2,Array.append_assoc]⟩
 ·obtain⟨m,hn,hl⟩:=I.loc
  refine⟨m,ns m hn,fun i x v e1 e2 e3=>?_⟩
  obtain⟨u,r,l⟩:=hl i x v e1 e2 e3
  refine⟨u,r,?_⟩
  rcases l with l | ⟨k,c,e,z⟩
  ·exact .inl l
  ·exact .inr ⟨k,c,e,cellK x c e _ z⟩
 ·obtain⟨v,z⟩:=I.cell x c e
  exact⟨v,cellK x c e v z⟩
 ·obtain⟨m,⟨o,_,_,ho,_⟩,_⟩:=I.loc
  exact free _ o (fun z=>(hch _ z).2.1 rfl) ho I.free
 ·obtain⟨v,o,ho,hd⟩:=I.cell x c e
  exact free c o (fun z=>(hch c z).2.2.1 x c e rfl) ho (I.freeC x c e)
 ·obtain⟨e,n,ne,nf,d⟩:=I.pin p hp
  have nch:p.1∉ch:=fun z=>(hch p.1 z).2.2.2 p hp rfl
  exact⟨keep p.1 p.2 ne nf nch e n,free p.1 p.2 nch e n,ne,nf,d⟩
theorem Inv.un(I:Inv X pins σ H s)(u:Un X.fs [] H H' s.heap h')(hok:HOk X.prog X.w H' h'):Inv X pins σ H' { s with heap:=h',toks:=t' }:=by
 obtain⟨m,⟨o,es,ep,ho,r⟩,_⟩:=id I.loc
 obtain⟨sl,hL⟩:=u.any ho I.free (by simp)
 exact I.step (g':=s.gens) (d':=s.drawn) (ch:=[]) (fun _ z=>nomatch z) (fun b o _ hb _ e n=>u.keep b o e n hb (by simp)) (fun b o _ hb _ e n=>u.slot b o e n hb (by simp)) (fun b o _ e n=>u.free b o e n (by simp)) (fun b o _ e=>u.there b o e (by simp)) u.tups u.frzs u.tbls (fun m' hm=>by
  obtain⟨o',es',ep',ho',r'⟩:=hm
  rw[ho]at ho';cases ho'
  exact⟨_,es',ep',hL,r'⟩) hok I.bare
theorem Inv.call{g':Array GenState}{d':Drawn}{ch:List Addr}(I:Inv X pins σ H s)(u:Un (frs X.stack) ch H H' s.heap h')(hok:HOk X.prog X.w H' h')(hg:b6B g')
  (hch:∀b∈ch,(b∈X.ex\/X.s₀.heap.objs.size<=b)/\b≠X.env.locals/\(∀x c,X.env.cells.lookup x=some c->c≠b)/\∀p∈X.pn++pins,p.1≠b) :
  Inv X pins σ H' { s with heap:=h',gens:=g',drawn:=d',toks:=t' }:=by
 obtain⟨m,⟨o,es,ep,ho,r⟩,_⟩:=id I.loc
 obtain⟨sl,hL⟩:=u.any ho I.free fun z=>(hch _ z).2.1 rfl
 exact I.step (ch:=ch) hch (fun b o hL hb hc e n=>u.keep b o e n (fun z=>(o4.mp (I.stkSub b z)).elim hL hb) hc) (fun b o _ _ hc e n=>u.any e n hc) (fun b o hc e n=>u.free b o e n hc) (fun b o hc e=>u.there b o e hc) u.tups u.frzs u.tbls (fun m' hm=>by
  obtain⟨o',es',ep',ho',r'⟩:=hm
  rw[ho]at ho';cases ho'
  exact⟨_,es',ep',hL,r'⟩) hok hg
theorem Inv.turned{it:Addr}(I:Inv X pins σ H s)(k:∀b o,b≠it->s.heap.get? b=some o->h'.get? b=some o)(hn:H it=none)(hL:it≠X.env.locals)
  (h1:it∈X.ex\/X.s₀.heap.objs.size<=it) (h2:∀x c,X.env.cells.lookup x=some c->c≠it) (h3:∀p∈X.pn++pins,p.1≠it):Inv X pins σ H { s with heap:=h',toks:=t' }:=by
 have nit:∀b u,H b=some u->b≠it:=fun b u e z=>by rw[z,hn]at e;cases e
 refine I.step (g':=s.gens) (d':=s.drawn) (ch:=[it]) (fun b hb=>?_) (fun b o _ _ hc e _=>k b o (fun z=>hc (by simp[z])) e) (fun b o _ _ hc e _=>⟨o.slots,k b o (fun z=>hc (by simp[z])) e⟩) (fun _ _ _ _ n=>n)
  (fun b o hc e=>⟨o,k b o (fun z=>hc (by simp[z])) e⟩) (fun _ _ e=>e) (fun _ _ _ e=>e) (fun b ps e=>⟨#[],by rw[e];simp⟩) (fun m hm=>?_) (fun b u e=>?_) I.bare
 ·have e:b=it:=by simpa using hb
  subst e
  exact⟨h1,hL,h2,h3⟩
 ·obtain⟨o,es,ep,ho,r⟩:=hm
  exact⟨o,es,ep,k _ o (Ne.symm hL) ho,r⟩
 ·refine(I.hok b u e).stay (fun c v hc q=>k c v ?_ q) (fun _ q=>q) fun _ _ q=>q
  rcases hc with z | z
  ·rw[z];exact nit b u e
  ·exact nit c _ z
theorem Inv.tok(I:Inv X pins σ H s)(t:Nat):Inv X pins σ H { s with toks:=t }:=I.un (h':=s.heap) (t':=t) Un.refl I.hok
theorem Inv.kept(I:Inv X pins σ H s)(k:∀b u,s.heap.get? b=some u->h'.get? b=some u):Inv X pins σ H { s with heap:=h',toks:=t' }:=I.un (Un.kept k) (I.hok.kept k)
theorem Inv.laid(I:Inv X pins σ H s)(k:∀b u,s.heap.get? b=some u->h'.get? b=some u)(hp:s.heap.objs.size<=a)(new:Z4 X.prog X.w (upd H a o) h' a o) :
  Inv X pins σ (upd H a o) { s with heap:=h',toks:=t' }:=I.un (Un.laid k hp (I.hok.fresh hp)) (I.hok.laid k hp new)
theorem Inv.write{x e:Addr}(I:Inv X pins σ H s)(mu:Mut (H x))(he:e=x\/H e=some (.own x))(k:∀b u,b≠e->s.heap.get? b=some u->h'.get? b=some u)(heo:∃u,h'.get? e=some u)
  (new:Z4 X.prog X.w (upd H x o) h' x o):Inv X pins σ (upd H x o) { s with heap:=h',toks:=t' }:=I.un (Un.write mu he k heo) (I.hok.write mu he k heo new)
theorem Inv.weak{σ':List (Option V)}(I:Inv X pins σ H s)(hl:σ'.length=σ.length)(w:∀(i:Nat) v,σ'[i]? = some (some v)->σ[i]? = some (some v)):Inv X pins σ' H s:=
 ⟨I.ok,I.os,I.bare,I.base,let⟨m,hn,hl'⟩:=I.loc; ⟨m,hn,fun i x v e1 e2 e3=>hl' i x v e1 (w i v e2) e3⟩,I.cell,I.free,I.freeC,I.pin,I.hok,hl.trans I.len⟩
theorem Inv.pins_of{pins':List (Addr×Obj)}(I:Inv X pins σ H s)(h:∀p∈pins',s.heap.get? p.1=some p.2/\H p.1=none/\p.1≠X.env.locals/\p.1∉X.fs/\∀v,p.2.data≠.cell v):Inv X pins' σ H s:=
 ⟨I.ok,I.os,I.bare,I.base,I.loc,I.cell,I.free,I.freeC,fun p hp=>(u0.mp hp).elim (fun z=>I.pin p (v8 _ z)) (h p),I.hok,I.len⟩
theorem b9d{N:List Str}(hN:N.Nodup){j:Nat}{x:Str}(a:N[i]? = some x)(b:N[j]? = some x):i=j:=by
 obtain⟨h1,e1⟩:=u8.mp a
 obtain⟨h2,e2⟩:=u8.mp b
 exact(List.getElem_inj hN).mp (e1.trans e2.symm)
theorem b1D{M:Model}{A:R3}{E:Value->k8->Prop}{x:Str}{Q:Unit->k8->Prop}(I:Inv X pins σ H s)(hN:X.N.Nodup)(hi:X.N[i]? = some x)(hx:Loc X.env.scope x)(r:K9 v u)
  (h:∀s',Inv X pins (σ.set i (some v)) H s'->(∃a,Heap.SameBut a s.heap s'.heap/\(a=X.env.locals\/X.env.cells.lookup x=some a))->Q () s') (hf:X.fn x=true\/X.env.scope.names.lookup x=some .local:=by first | exact .inl rfl | exact .inr rfl | assumption):wpAny M A (storeName X.env x u) Q E s:=by
 obtain⟨m,hn,hl⟩:=id I.loc
 have hcls:(X.env.scope.kind == .class||(X.env.scope.kind == .module&&X.env.locals != X.env.globals))=false:=by rw[I.ok.kind];rfl
 have hiσ:i<σ.length:=by rw[I.len];exact(u8.mp hi).1
 have cne:=I.cne
 have tracked:∀ {a:Addr} {h':Heap},(∃o,s.heap.get? a=some o/\H a=none)->Heap.SameBut a s.heap h'->HOk X.prog X.w H h':=fun {a h'} ha hs b ob e=>by
  obtain⟨_,_,hfree⟩:=ha
  refine(I.hok b ob e).stay (fun c w' hc q=>(hs.2 c ?_).trans q) (fun _ q=>q) fun _ _ q=>q
  rintro rfl
  rcases hc with rfl | hc
  ·rw[hfree]at e;cases e
  ·rw[hfree]at hc;cases hc
 rcases hx with hk | hk
 ·refine wpAny_storeName_local hk hn (fun h' hn' hs=>?_) hcls
  obtain⟨oL,_,_,hoL,_⟩:=id hn
  refine h _ ⟨I.ok,I.os,I.bare,⟨fun b o e n hb hx=>?_,fun b o e n hb hx=>?_,I.base.free,fun b o e hx=>?_,I.base.tups,I.base.frzs,I.base.tbls⟩,⟨_,hn',fun j y v' e1 e2 e3=>?_⟩,fun y c e=>?_,I.free,I.freeC,fun p hp=>?_,tracked ⟨oL,hoL,I.free⟩ hs,by simpa using I.len⟩ ⟨_,hs,.inl rfl⟩
  ·exact(hs.2 b (A0 (D3 (l7 e) I.ok.above))).trans (I.base.keep b o e n hb hx)
  ·obtain⟨sl,e1⟩:=I.base.slot b o e n hb hx
   exact⟨sl,(hs.2 b (A0 (D3 (l7 e) I.ok.above))).trans e1⟩
  ·obtain⟨o',e1⟩:=I.base.there b o e hx
   exact⟨o',(hs.2 b (A0 (D3 (l7 e) I.ok.above))).trans e1⟩
  ·by_cases hj:j=i
   ·subst hj
    rw[hi]at e1;cases e1
    rw[Q1 hiσ]at e2
    cases e2
    exact⟨u,r,.inl ⟨hk,by simp⟩⟩
   ·rw[U6 (Ne.symm hj)]at e2
    obtain⟨u',r',q⟩:=hl j y v' e1 e2 e3
    refine⟨u',r',?_⟩
    rcases q with ⟨k,e⟩ | ⟨k,c,e,z⟩
    ·refine .inl ⟨k,?_⟩
     have:y≠x:=fun e=>hj (b9d hN e1 (e ▸ hi))
     simp[this,e]
    ·exact .inr ⟨k,c,e,z.sameBut hs (cne y c e)⟩
  ·obtain⟨w',z⟩:=I.cell y c e
   exact⟨w',z.sameBut hs (cne y c e)⟩
  ·obtain⟨e,n,ne,nf,d⟩:=I.pin p hp
   exact⟨(hs.2 p.1 ne).trans e,n,ne,nf,d⟩
 ·have hfn:X.fn x=true:=by
   rcases hf with z | z
   ·exact z
   ·rw[z]at hk;cases hk
  obtain⟨c,hc⟩:=I.ok.has x (.inl hk)
  obtain⟨w',z⟩:=I.cell x c hc
  refine wpAny_storeName_cell I.ok.kind hk hc z (fun h' hc' hs=>?_)
  obtain⟨oc,hoc,hocd⟩:=id z
  refine h { s with heap:=h' } ⟨I.ok,I.os,I.bare,⟨fun b o e n hb hx=>?_,fun b o e n hb hx=>?_,I.base.free,fun b o e hx=>?_,I.base.tups,I.base.frzs,I.base.tbls⟩,⟨m,hn.sameBut hs (Ne.symm (cne x c hc)),fun j y v' e1 e2 e3=>?_⟩,fun y c' e=>?_,I.free,I.freeC,fun p hp=>?_,tracked ⟨oc,hoc,I.freeC x c hc⟩ hs,by simpa using I.len⟩ ⟨c,hs,.inr hc⟩
  ·exact(hs.2 b (A0 (D3 (l7 e) (I.ok.cab x c hfn hc)))).trans (I.base.keep b o e n hb hx)
  ·obtain⟨sl,e1⟩:=I.base.slot b o e n hb hx
   exact⟨sl,(hs.2 b (A0 (D3 (l7 e) (I.ok.cab x c hfn hc)))).trans e1⟩
  ·obtain⟨o',e1⟩:=I.base.there b o e hx
   exact⟨o',(hs.2 b (A0 (D3 (l7 e) (I.ok.cab x c hfn hc)))).trans e1⟩
  ·by_cases hj:j=i
   ·subst hj
    rw[hi]at e1;cases e1
    rw[Q1 hiσ]at e2
    cases e2
    exact⟨u,r,.inr ⟨.inl hk,c,hc,hc'⟩⟩
   ·rw[U6 (Ne.symm hj)]at e2
    obtain⟨u',r',q⟩:=hl j y v' e1 e2 e3
    refine⟨u',r',?_⟩
    rcases q with q | ⟨k,c',e,z'⟩
    ·exact .inl q
    ·refine .inr ⟨k,c',e,z'.sameBut hs ?_⟩
     rintro rfl
     exact hj (b9d hN e1 (I.ok.inj _ _ _ e hc ▸ hi))
  ·by_cases hcc:c'=c
   ·subst hcc;exact⟨_,hc'⟩
   ·obtain⟨w2,z2⟩:=I.cell y c' e
    exact⟨w2,z2.sameBut hs hcc⟩
  ·obtain⟨e,n,ne,nf,d⟩:=I.pin p hp
   refine⟨(hs.2 p.1 ?_).trans e,n,ne,nf,d⟩
   intro q
   rw[q,hoc]at e
   have q':oc=p.2:=Option.some.inj e
   exact d w' (by rw[<-q'];exact hocd)
theorem b0C{M:Model}{A:R3}{E:Value->k8->Prop}{x:Str}{Q:Unit->k8->Prop}(I:Inv X pins σ H s)(hN:X.N.Nodup)(hi:X.N[i]? = some x)(hx:Loc X.env.scope x)(r:K9 v u)
  (h:∀s',Inv X pins (σ.set i (some v)) H s'->Q () s') (hf:X.fn x=true\/X.env.scope.names.lookup x=some .local:=by first | exact .inl rfl | exact .inr rfl | assumption):wpAny M A (storeName X.env x u) Q E s:=
 b1D I hN hi hx r (fun s' I' _=>h s' I') hf
theorem Inv.call'{s':k8}{ch:List Addr}(I:Inv X pins σ H s)(ho:s'.os=s.os)(u:Un (frs X.stack) ch H H' s.heap s'.heap)(hok:HOk X.prog X.w H' s'.heap)(hg:b6B s'.gens)
  (hch:∀b∈ch,(b∈X.ex\/X.s₀.heap.objs.size<=b)/\b≠X.env.locals/\(∀x c,X.env.cells.lookup x=some c->c≠b)/\∀p∈X.pn++pins,p.1≠b):Inv X pins σ H' s':=by
 obtain⟨h',g',d',t',o'⟩:=s'
 have e:o'=s.os:=ho
 subst e
 exact I.call (g':=g') (t':=t') (d':=d') u hok hg hch
end
abbrev XK:=Value->Option Addr->Hp->Prop
abbrev St:=List (Option V)
variable{σ:St}
abbrev VK:=V->Hp->Prop
abbrev TE:=St->Hp->VK->Prop
variable{t ta te:TE}
abbrev TT:=St->Hp->(Bool->Hp->Prop)->Prop
abbrev TA:=St->Hp->(List V->Hp->Prop)->Prop
structure b1m where
 nx:St->Hp->Prop
 rt:VK
 bk:St->Hp->Prop:=fun _ _=>False
 ct:St->Hp->Prop:=fun _ _=>False
abbrev TS:=b1m->St->Hp->Prop
variable{tb:TS}
def EP(X:Cx)(pins:List (Addr×Obj))(σ:St)(Q:VK)(u:Value)(s':k8):Prop:=∃v H',Inv X pins σ H' s'/\K9 v u/\Q v H'
def TP(X:Cx)(pins:List (Addr×Obj))(σ:St)(Q:Bool->Hp->Prop)(b:Bool)(s':k8):Prop:=∃H',Inv X pins σ H' s'/\Q b H'
def AP(X:Cx)(pins:List (Addr×Obj))(σ:St)(Q:List V->Hp->Prop)(us:List Value)(s':k8):Prop:=∃vs H',Inv X pins σ H' s'/\M3 vs us/\Q vs H'
def SP(X:Cx)(pins:List (Addr×Obj))(D:b1m)(f:Flow)(s':k8):Prop:=
 match f with
 | .next=>∃σ' H',Inv X pins σ' H' s'/\D.nx σ' H'
 | .brk=>∃σ' H',Inv X pins σ' H' s'/\D.bk σ' H'
 | .cont=>∃σ' H',Inv X pins σ' H' s'/\D.ct σ' H'
 | .ret u=>∃v σ' H',Inv X pins σ' H' s'/\K9 v u/\D.rt v H'
def PE(X:Cx)(e:Expr)(t:TE):Prop:=
 ∀(pins:List (Addr×Obj)) (s:k8) (σ:St) (H:Hp) (Q:VK),Inv X pins σ H s->t σ H Q->wpAny (model X.prog X.w) X.A (eval e X.env) (EP X pins σ Q) X.xe s
def PT(X:Cx)(e:Expr)(t:TT):Prop:=
 ∀(pins:List (Addr×Obj)) (s:k8) (σ:St) (H:Hp) (Q:Bool->Hp->Prop),Inv X pins σ H s->t σ H Q->wpAny (model X.prog X.w) X.A (isTrue e X.env (eval e X.env)) (TP X pins σ Q) X.xe s
def PW(X:Cx)(e:Expr)(t:TT):Prop:=
 ∀(whole:Sem Value) (pins:List (Addr×Obj)) (s:k8) (σ:St) (H:Hp) (Q:Bool->Hp->Prop),Inv X pins σ H s->t σ H Q->wpAny (model X.prog X.w) X.A (isTrue e X.env whole) (TP X pins σ Q) X.xe s
theorem PW.pt{t:TT}(h:PW X e t):PT X e t:=h _
def PA(X:Cx)(es:List Expr)(t:TA):Prop:=
 ∀(pos:Pos) (pins:List (Addr×Obj)) (s:k8) (σ:St) (H:Hp) (Q:List V->Hp->Prop),Inv X pins σ H s->t σ H Q->wpAny (model X.prog X.w) X.A (spliced (a1f pos (l9 es X.env))) (AP X pins σ Q) X.xe s
def PS(X:Cx)(st:Stmt)(t:TS):Prop:=
 ∀(pins:List (Addr×Obj)) (s:k8) (σ:St) (H:Hp) (D:b1m),Inv X pins σ H s->t D σ H->wpAny (model X.prog X.w) X.A (exec st X.env) (SP X pins D) X.xe s
def PSs(X:Cx)(st:List Stmt)(t:TS):Prop:=
 ∀(pins:List (Addr×Obj)) (s:k8) (σ:St) (H:Hp) (D:b1m),Inv X pins σ H s->t D σ H->wpAny (model X.prog X.w) X.A (execs st X.env) (SP X pins D) X.xe s
theorem thn{α:Type}{t:Sem α}{Q Q':α->k8->Prop}{M:Model}{A:R3}{E:Value->k8->Prop}(h:wpAny M A t Q E s)(hQ:∀a s,Q a s->Q' a s):wpAny M A t Q' E s:=a2J h hQ fun _ _ x=>x
section
def b6(i:Nat):TE:=fun σ H Q=>∃v,σ[i]? = some (some v)/\Q v H
def tC(v:V):TE:=fun _ H Q=>Q v H
theorem d0i{x:Str}(hN:X.N[i]? = some x)(hv:Vis X.env.scope x)(hd:(x == ("__debug__" : Str))=false:=by decide)(hcd:(x == ("__classdict__" : Str))=false:=by decide):PE X (.Name x pos) (b6 i):=by
 intro pins s σ H Q I h
 obtain⟨v,e,h⟩:=h
 obtain⟨m,hn,hl⟩:=I.loc
 obtain⟨u,r,l⟩:=hl i x v hN e hv
 have fin:EP X pins σ Q u s:=⟨v,H,I,r,h⟩
 rcases l with ⟨hk,hm⟩ | ⟨hk,c,hc,hcell⟩
 ·exact wpAny_Name (d3c I.ok.kind hk hn hm fin) hd
 ·rcases hk with hk | hk
  ·exact wpAny_Name (d3g I.ok.kind hk hc hcell fin) hd
  ·exact wpAny_Name (wpAny_loadName_free I.ok.kind hk hc hcell fin hcd) hd
theorem d0r{i j pos}:PE X (.Constant (.int i) j pos) (tC (.int i)):=fun _ _ _ H _ I h=>wpAny_Constant_int ⟨.int i,H,I.tok _,⟨_,rfl⟩,h⟩
theorem d2B{b j pos}:PE X (.Constant (.bool b) j pos) (tC (.bl b)):=fun _ _ _ H _ I h=>Constant_bool ⟨.bl b,H,I,rfl,h⟩
theorem d0o{j pos}:PE X (.Constant .none j pos) (tC .non):=fun _ _ _ H _ I h=>Constant_none ⟨.non,H,I,rfl,h⟩
theorem d0k{x j pos}:PE X (.Constant (.str x) j pos) (tC (.str x)):=fun _ _ _ H _ I h=>Calls.Constant_str ⟨.str x,H,I.tok _,⟨_,rfl⟩,h⟩
def Gl(X:Cx)(x:Str):Prop:=X.env.kindOf x=some .globalImplicit
theorem b7t{E:Value->k8->Prop}{x:Str}(I:Inv X pins σ H s)(hg:Gl X x)(hm:X.mg x=some u)(h:Q u s)
  (hd:(x == ("__debug__" : Str))=false:=by decide):wpAny (model X.prog X.w) X.A (eval (.Name x pos) X.env) Q E s:=
 Calls.Name_function_global I.ok.kind hg (Calls.loadGlobal_global (by rw[I.ok.glob];exact I.mod.glob.keeps I.bk) hm h) hd
theorem b2e{E:Value->k8->Prop}{x:Str}(I:Inv X pins σ H s)(hg:Gl X x)(hm:X.mg x=none)(hv:a3q x=some u)(h:Q u s)
  (hn:x ≠ "__name__" := by decide) (hd:(x == ("__debug__" : Str))=false:=by decide):wpAny (model X.prog X.w) X.A (eval (.Name x pos) X.env) Q E s:=by
 obtain⟨mb,h1,h2⟩:=I.mod.blt
 exact Calls.Name_function_global I.ok.kind hg (Calls.loadGlobal_builtin (by rw[I.ok.glob];exact I.mod.glob.keeps I.bk) hm (by rw[I.ok.blt];exact h1.keeps I.bk) ((h2 x hn).trans hv) h) hd
theorem c7A{x:Str}(hg:Gl X x)(hm:X.mg x=some u)(r:K9 v u)(hd:(x == ("__debug__" : Str))=false:=by decide):PE X (.Name x pos) (tC v):=
 fun _ _ _ H _ I h=>b7t I hg hm ⟨v,H,I,r,h⟩ hd
theorem c7F{x:Str}(hg:Gl X x)(hm:X.mg x=none)(hv:a3q x=some u)(r:K9 v u)(hn:x ≠ "__name__" := by decide)(hd:(x == ("__debug__" : Str))=false:=by decide):PE X (.Name x pos) (tC v):=
 fun _ _ _ H _ I h=>b2e I hg hm hv ⟨v,H,I,r,h⟩ hn hd
variable {a b:Expr}{tb:TE}
def PC(X:Cx)(op:CmpOp)(a b:Expr)(t:TE):Prop:=
 ∀(pins:List (Addr×Obj)) (s:k8) (σ:St) (H:Hp) (Q:VK),Inv X pins σ H s->t σ H Q ->
  wpAny (model X.prog X.w) X.A (eval a X.env) (fun v s₁=>wpAny (model X.prog X.w) X.A (eval b X.env) (fun u s₂=>wpAny (model X.prog X.w) X.A (A9 op v u) (EP X pins σ Q) X.xe s₂) X.xe s₁) X.xe s
def tB(t:TE):TT:=fun σ H Q=>t σ H fun x H1=>∃c,x=.bl c/\Q c H1
theorem c5t{op:CmpOp}(h:PC X op a b t)(h1:P5 op b=false:=by first | exact nobehind _ (by decide) (by decide) | rfl):PE X (.Compare a [op] [b] pos) t:=fun pins s σ H Q I hw=>wpAny_Compare1 (h pins s σ H Q I hw) h1
theorem b7j{op:CmpOp}(h:PC X op a b t)(h1:P5 op b=false:=by first | exact nobehind _ (by decide) (by decide) | rfl):PT X (.Compare a [op] [b] pos) (tB t):=by
 intro pins s σ H Q I hw
 refine d1O (thn (h pins s σ H _ I hw) fun v s1 h1=>thn h1 fun u s2 h2=>thn h2 fun c s3 ⟨x,H1,I1,r1,q1⟩=>?_) h1
 obtain⟨d,rfl,q⟩:=q1
 cases r1
 exact S0 ⟨H1,I1,q⟩
theorem c9X(h:PE X e t)(he:∀whole,isTrue e X.env whole=(do let v <-whole;b3F e.pos;a4c [v] (truthy v)):=by intro _;rfl):PT X e (tB t):=by
 intro pins s σ H Q I hw
 refine isTrue_plain (thn (h pins s σ H _ I hw) fun v s1 ⟨x,H1,I1,r1,q1⟩=>?_) (he _)
 obtain⟨d,rfl,q⟩:=q1
 cases r1
 exact S0 ⟨H1,I1,q⟩
variable {tA tB':TT}{a9f:List Expr}
def b1C(t u:TT):TT:=fun σ H Q=>t σ H fun c H1=>if c=true then u σ H1 Q else Q false H1
def tOr(t u:TT):TT:=fun σ H Q=>t σ H fun c H1=>if c=true then Q true H1 else u σ H1 Q
def a3X(t:TT):TT:=fun σ H Q=>t σ H fun c H1=>Q (!c) H1
theorem c7g(ha:PT X a tA):PW X (.BoolOp .And [a] pos) tA:=by
 intro wh pins s σ H Q I h
 refine isTrue_and (thn (ha pins s σ H Q I h) fun c s1 e=>?_)
 cases c with
 | true=>exact isTrue_and_nil e
 | false=>exact e
theorem c9V(ha:PT X a tA):PW X (.BoolOp .Or [a] pos) tA:=by
 intro wh pins s σ H Q I h
 refine isTrue_or (thn (ha pins s σ H Q I h) fun c s1 e=>?_)
 cases c with
 | false=>exact isTrue_or_nil e
 | true=>exact e
theorem c9W(ha:PT X a tA)(hb:PW X (.BoolOp .And (b::a9f) pos) tB'):PW X (.BoolOp .And (a::b::a9f) pos) (b1C tA tB'):=by
 intro wh pins s σ H Q I h
 refine isTrue_and (thn (ha pins s σ H _ I h) fun c s1 ⟨H1,I1,q1⟩=>?_)
 cases c with
 | true=>exact hb wh pins s1 σ H1 Q I1 q1
 | false=>exact⟨H1,I1,q1⟩
theorem d2t(ha:PT X a tA)(hb:PW X (.BoolOp .Or (b::a9f) pos) tB'):PW X (.BoolOp .Or (a::b::a9f) pos) (tOr tA tB'):=by
 intro wh pins s σ H Q I h
 refine isTrue_or (thn (ha pins s σ H _ I h) fun c s1 ⟨H1,I1,q1⟩=>?_)
 cases c with
 | true=>exact⟨H1,I1,q1⟩
 | false=>exact hb wh pins s1 σ H1 Q I1 q1
theorem c9Y(ha:PT X a tA):PT X (.UnaryOp .Not a pos) (a3X tA):=by
 intro pins s σ H Q I h
 exact isTrue_not (ha pins s σ H (fun c H1=>Q (!c) H1) I h)
def a1w(ta tb:TE):TE:=fun σ H Q=>ta σ H fun x H1=>∃c,x=.bl c/\if c=true then tb σ H1 Q else Q (.bl false) H1
def b6K(ta tb:TE):TE:=fun σ H Q=>ta σ H fun x H1=>∃c,x=.bl c/\if c=true then Q (.bl true) H1 else tb σ H1 Q
def a8u(ta:TE):TE:=fun σ H Q=>ta σ H fun x H1=>∃c,x=.bl c/\Q (.bl (!c)) H1
theorem d0m{op}(h:PE X a t):PE X (.BoolOp op [a] pos) t:=fun pins s σ H Q I hw=>BoolOp_one (h pins s σ H Q I hw)
theorem d0u(ha:PE X a ta)(hb:PE X (.BoolOp .And (b::a9f) pos) tb):PE X (.BoolOp .And (a::b::a9f) pos) (a1w ta tb):=by
 intro pins s σ H Q I h
 refine BoolOp_and (thn (ha pins s σ H _ I h) fun v s1 ⟨x,H1,I1,r1,q1⟩=>?_)
 obtain⟨c,rfl,q1⟩:=q1
 cases r1
 refine S0 ?_
 cases c with
 | true=>exact hb pins s1 σ H1 Q I1 q1
 | false=>exact⟨.bl false,H1,I1,rfl,q1⟩
theorem d2w(ha:PE X a ta)(hb:PE X (.BoolOp .Or (b::a9f) pos) tb):PE X (.BoolOp .Or (a::b::a9f) pos) (b6K ta tb):=by
 intro pins s σ H Q I h
 refine BoolOp_or (thn (ha pins s σ H _ I h) fun v s1 ⟨x,H1,I1,r1,q1⟩=>?_)
 obtain⟨c,rfl,q1⟩:=q1
 cases r1
 refine S0 ?_
 cases c with
 | false=>exact hb pins s1 σ H1 Q I1 q1
 | true=>exact⟨.bl true,H1,I1,rfl,q1⟩
theorem d0n(ha:PE X a ta):PE X (.UnaryOp .Not a pos) (a8u ta):=by
 intro pins s σ H Q I h
 refine UnaryOp_ (thn (ha pins s σ H _ I h) fun v s1 ⟨x,H1,I1,r1,q1⟩=>?_)
 obtain⟨c,rfl,q1⟩:=q1
 cases r1
 exact not_of (S0 ⟨.bl (!c),H1,I1,rfl,q1⟩)
def tIf(t:TT)(ta tb:TE):TE:=fun σ H Q=>t σ H fun c H1=>if c=true then ta σ H1 Q else tb σ H1 Q
theorem c5q(hc:PT X c tA)(ha:PE X a ta)(hb:PE X b tb):PE X (.IfExp c a b pos) (tIf tA ta tb):=by
 intro pins s σ H Q I h
 refine wpAny_IfExp (thn (hc pins s σ H _ I h) fun d s1 ⟨H1,I1,q1⟩=>?_)
 cases d with
 | true=>exact ha pins s1 σ H1 Q I1 q1
 | false=>exact hb pins s1 σ H1 Q I1 q1
end
def SqL(K:Fg)(H:Hp)(a:Addr)(xs:List V):Prop:=
 Rd H a (.lst xs) \/
  ∃(o:Obj) (its:Array Value) (n:Nat),K.lookup a=some o/\o.cls=.type "list" /\ o.dict=none/\o.data=.seq its n/\its.size<=u6/\M3 xs its.toList
def SqT(K:Fg)(H:Hp)(a:Addr)(xs:List V):Prop:=
 Rd H a (.tup xs) \/
  ∃(o:Obj) (its:Array Value) (n:Nat),K.lookup a=some o/\o.cls=.type "tuple" /\ o.data=.seq its n/\its.size<=u6/\M3 xs its.toList
def d3E:Value->Option V
 | .none=>some .non
 | .bool b=>some (.bl b)
 | .int i _=>some (.int i)
 | .str x _=>some (.str x)
 | .bytes b _=>some (.byt b)
 | .float b _=>some (.flt b)
 | .ref a=>some (.ref a)
 | .type n=>some (.ty n)
 | _=>none
theorem K9.abs{x:V}(r:K9 x u):d3E u=some x:=by
 cases x with
 | non=>cases r;rfl
 | bl _=>cases r;rfl
 | int _=>obtain⟨t,rfl⟩:=r;rfl
 | str _=>obtain⟨t,rfl⟩:=r;rfl
 | byt _=>obtain⟨t,rfl⟩:=r;rfl
 | flt _=>obtain⟨t,rfl⟩:=r;rfl
 | ref _=>cases r;rfl
 | ty _=>cases r;rfl
theorem K9.inj{x:V}(r:K9 x u)(q:K9 y u):x=y:=Option.some.inj (r.abs.symm.trans q.abs)
theorem M3.inj:∀ {xs ys:List V} {us:List Value},M3 xs us->M3 ys us->xs=ys
 | _,_,_,.nil,.nil=>rfl
 | _,_,_,.cons r t,.cons r' t'=>by rw[r.inj r',M3.inj t t']
section
variable {ys:List V}
theorem SqL.of{K:Fg}(h:H a=some (.lst xs)):SqL K H a xs:=.inl (.inl h)
theorem SqT.of{K:Fg}(h:H a=some (.tup xs)):SqT K H a xs:=.inl (.inl h)
theorem Inv.list(I:Inv X pins σ H s)(h:SqL X.K H a xs):∃its:List Value,M3 xs its/\PlainL s.heap a its.toArray/\xs.length<=u6:=by
 rcases h with h | ⟨o,its,n,hk,hc,hd,hs,hz,r⟩
 ·obtain⟨z,its,n,r,e⟩:=h.ok I.hok
  exact⟨its,r,⟨_,n,e,rfl,rfl,rfl⟩,z⟩
 ·refine⟨its.toList,r,⟨o,n,I.kIn a o hk,hc,hd,by simpa using hs⟩,?_⟩
  have e:=r.length
  simp only[a1h]at e
  omega
theorem Inv.tuple(I:Inv X pins σ H s)(h:SqT X.K H a xs):∃its:List Value,M3 xs its/\IsTup s.heap a its.toArray/\xs.length<=u6:=by
 rcases h with h | ⟨o,its,n,hk,hc,hs,hz,r⟩
 ·obtain⟨z,its,r,p⟩:=h.ok I.hok
  exact⟨its,r,p,z⟩
 ·refine⟨its.toList,r,⟨o,I.kIn a o hk,hc,n,by simpa using hs⟩,?_⟩
  have e:=r.length
  simp only[a1h]at e
  omega
theorem Inv.list_inj(I:Inv X pins σ H s)(h:SqL X.K H a xs)(h':SqL X.K H a ys):xs=ys:=by
 obtain⟨its,r,⟨o,n,e,_,_,d⟩,_⟩:=I.list h
 obtain⟨its',r',⟨o',n',e',_,_,d'⟩,_⟩:=I.list h'
 rw[e]at e';cases e'
 rw[d]at d'
 injection d' with d1 _
 have:its=its':=by simpa using congrArg d2X d1
 subst this
 exact r.inj r'
theorem Inv.tuple_inj(I:Inv X pins σ H s)(h:SqT X.K H a xs)(h':SqT X.K H a ys):xs=ys:=by
 obtain⟨its,r,⟨o,e,_,n,d⟩,_⟩:=I.tuple h
 obtain⟨its',r',⟨o',e',_,n',d'⟩,_⟩:=I.tuple h'
 rw[e]at e';cases e'
 rw[d]at d'
 injection d' with d1 _
 have:its=its':=by simpa using congrArg d2X d1
 subst this
 exact r.inj r'
end
abbrev Cx.wish(X:Cx)(E:Value->k8->Prop):Cx:={ X with xe:=E }
abbrev Cx.nox(X:Cx):Cx:=X.wish fun _ _=>False
theorem Cx.Ok.wish(ok:X.Ok)(E:Value->k8->Prop):(X.wish E).Ok:=
 ⟨ok.mod,ok.kind,ok.glob,ok.blt,ok.above,ok.inj,ok.has,ok.cab,ok.hd,ok.frames,ok.stk,ok.exf,ok.bs,ok.bsz,ok.noex,ok.exfs,ok.funs,ok.frf⟩
theorem Cx.Ok.unwish{E:Value->k8->Prop}(ok:(X.wish E).Ok):X.Ok:=
 ⟨ok.mod,ok.kind,ok.glob,ok.blt,ok.above,ok.inj,ok.has,ok.cab,ok.hd,ok.frames,ok.stk,ok.exf,ok.bs,ok.bsz,ok.noex,ok.exfs,ok.funs,ok.frf⟩
section
variable {E:Value->k8->Prop}
theorem Inv.wish(I:Inv X pins σ H s)(E:Value->k8->Prop):Inv (X.wish E) pins σ H s:=⟨I.ok.wish E,I.os,I.bare,I.base,I.loc,I.cell,I.free,I.freeC,I.pin,I.hok,I.len⟩
theorem Inv.unwish(I:Inv (X.wish E) pins σ H s):Inv X pins σ H s:=⟨I.ok.unwish,I.os,I.bare,I.base,I.loc,I.cell,I.free,I.freeC,I.pin,I.hok,I.len⟩
theorem SP.unwish{D:b1m}{f:Flow}{s':k8}(h:SP (X.wish E) pins D f s'):SP X pins D f s':=by
 cases f with
 | next=>obtain⟨σ',H',I,q⟩:=h;exact⟨σ',H',I.unwish,q⟩
 | brk=>obtain⟨σ',H',I,q⟩:=h;exact⟨σ',H',I.unwish,q⟩
 | cont=>obtain⟨σ',H',I,q⟩:=h;exact⟨σ',H',I.unwish,q⟩
 | ret u=>obtain⟨v,σ',H',I,r,q⟩:=h;exact⟨v,σ',H',I.unwish,r,q⟩
theorem PSs.nox{st:List Stmt}{t:TS}(h:PSs X.nox st t):PSs X st t:=fun pins s σ H D I hw=>
 a2J (h pins s σ H D (I.wish _) hw) (fun _ _ q=>q.unwish) fun _ _ z=>False.elim z
end
section
variable {st:Stmt}{a9f:List Stmt}{t u:TS}
def F0:TS:=fun D σ H=>D.nx σ H
def v6(t u:TS):TS:=fun D σ H=>t { D with nx:=u D } σ H
theorem c7n:PSs X [] F0:=fun _ _ σ H _ I h=>b3E ⟨σ,H,I,h⟩
theorem c5i(h1:PS X st t)(h2:PSs X a9f u):PSs X (st::a9f) (v6 t u):=by
 intro pins s σ H D I h
 refine wpAny_execs_cons (thn (h1 pins s σ H { D with nx:=u D } I h) fun f s1 q=>?_)
 cases f with
 | next=>
  obtain⟨σ',H',I',q⟩:=q
  exact h2 pins s1 σ' H' D I' q
 | ret v=>exact q
 | brk=>exact q
 | cont=>exact q
theorem c7m(h1:PS X st t):PSs X [st] t:=by
 intro pins s σ H D I h
 refine wpAny_execs_cons (thn (h1 pins s σ H D I h) fun f s1 q=>?_)
 cases f with
 | next=>exact b3E q
 | ret v=>exact q
 | brk=>exact q
 | cont=>exact q
theorem Inv.quiet(I:Inv X pins σ H s):interactive X.env=false:=by simp[interactive,I.ok.kind]
def a0n(te:TE):TS:=fun D σ H=>te σ H fun _ H1=>D.nx σ H1
theorem c7o(he:PE X e te)(hs:a3o e none pos.line X.env=pure false:=by rfl):PS X (.Expr e pos) (a0n te):=by
 intro pins s σ H D I h
 exact wpAny_Expr_any (thn (he pins s σ H _ I h) fun v s1 ⟨x,H1,I1,r1,q1⟩=>⟨σ,H1,I1,q1⟩) I.quiet hs
def G6(te:TE):TS:=fun D σ H=>te σ H D.rt
theorem d0a(he:PE X e te):PS X (.Return (some e) pos) (G6 te):=by
 intro pins s σ H D I h
 exact wpAny_Return_some (thn (he pins s σ H _ I h) fun v s1 ⟨x,H1,I1,r1,q1⟩=>⟨x,σ,H1,I1,r1,q1⟩)
def O3(c:TT)(t u:TS):TS:=fun D σ H=>c σ H fun b H1=>if b=true then t D σ H1 else u D σ H1
theorem d2u{a b:List Stmt}{tc:TT}(hc:PT X c tc)(ha:PSs X a t)(hb:PSs X b u):PS X (.If c a b pos) (O3 tc t u):=by
 intro pins s σ H D I h
 refine wpAny_If (thn (hc pins s σ H _ I h) fun d s1 ⟨H1,I1,q1⟩=>?_)
 cases d with
 | true=>exact ha pins s1 σ H1 D I1 q1
 | false=>exact hb pins s1 σ H1 D I1 q1
end
abbrev TG:=V->St->Hp->(St->Hp->Prop)->Prop
variable{g:TG}
abbrev TGs:=List V->St->Hp->(St->Hp->Prop)->Prop
def PG(X:Cx)(target:Expr)(t:TG):Prop:=
 ∀(pins:List (Addr×Obj)) (s:k8) (σ:St) (H:Hp) (v:V) (u:Value) (Q:St->Hp->Prop),Inv X pins σ H s->K9 v u->t v σ H Q ->
  wpAny (model X.prog X.w) X.A (a9s target X.env u) (fun _ s'=>∃σ' H',Inv X pins σ' H' s'/\Q σ' H') X.xe s
def PGs(X:Cx)(ts:List Expr)(t:TGs):Prop:=
 ∀(pins:List (Addr×Obj)) (s:k8) (σ:St) (H:Hp) (vs:List V) (us:List Value) (Q:St->Hp->Prop),Inv X pins σ H s->M3 vs us->t vs σ H Q ->
  wpAny (model X.prog X.w) X.A (assignInOrder ((a3W ts X.env).map (·.2)) us) (fun _ s'=>∃σ' H',Inv X pins σ' H' s'/\Q σ' H') X.xe s
abbrev b5Q:=V->V->V->Hp->(Hp->Prop)->Prop
def c6t(X:Cx)(t:b5Q):Prop:=
 ∀(pins:List (Addr×Obj)) (s:k8) (σ:St) (H:Hp) (o i v:V) (ov iv u:Value) (Q:Hp->Prop),Inv X pins σ H s->K9 o ov->K9 i iv->K9 v u->t o i v H Q ->
  wpAny (model X.prog X.w) X.A (c9t ov iv u) (fun _ s'=>∃H',Inv X pins σ H' s'/\Q H') X.xe s
abbrev TIp:=V->V->Hp->VK->Prop
def PIp(X:Cx)(op:b5j)(t:TIp):Prop:=
 ∀(pins:List (Addr×Obj)) (s:k8) (σ:St) (H:Hp) (x y:V) (v u:Value) (Q:VK),Inv X pins σ H s->K9 x v->K9 y u->t x y H Q ->
  wpAny (model X.prog X.w) X.A (inplaceOp op v u) (EP X pins σ Q) X.xe s
section
def t8(i:Nat):TG:=fun v σ H Q=>Q (σ.set i (some v)) H
theorem b7l{x:Str}(hN:X.N.Nodup)(hi:X.N[i]? = some x)(hx:Loc X.env.scope x)(hf:X.fn x=true\/X.env.scope.names.lookup x=some .local:=by first | exact .inl rfl | exact .inr rfl | assumption):PG X (.Name x pos) (t8 i):=by
 intro pins s σ H v u Q I r h
 exact b0j (b0C I hN hi hx r (fun s' I'=>⟨_,H,I',h⟩) hf)
def b2j:TGs:=fun vs σ H Q=>vs=[]/\Q σ H
def a1y(t:TG)(u:TGs):TGs:=fun vs σ H Q=>∃v r,vs=v::r/\t v σ H fun σ' H'=>u r σ' H' Q
theorem c1V:PGs X [] b2j:=by
 intro pins s σ H vs us Q I r h
 obtain⟨e,h⟩:=h
 subst e
 cases r
 exact assignInOrder_nil ⟨σ,H,I,h⟩
theorem b4t{t:TG}{u:TGs}(h1:PG X e t)(h2:PGs X es u)
  (hs:(a3W (e::es) X.env).map (·.2)=a9s e X.env::(a3W es X.env).map (·.2):=by rfl):PGs X (e::es) (a1y t u):=by
 intro pins s σ H vs us Q I r h
 obtain⟨v,vr,e1,h⟩:=h
 subst e1
 cases r with
 | cons r rr=>
  rw[hs]
  refine assignInOrder_cons (thn (h1 pins s σ H _ _ _ I r h) fun _ s1 ⟨σ1,H1,I1,q1⟩=>?_)
  exact h2 pins s1 σ1 H1 _ _ Q I1 rr q1
def b2i(K:Fg)(n:Nat)(t:TGs):TG:=fun v σ H Q=>∃a xs,v=.ref a/\SqT K H a xs/\xs.length=n/\t xs σ H Q
theorem c5n{k:Nat}{t:TGs}{n:Nat}(hc:X.calm=true)(h:PGs X es t)
  (hn:(a3W es X.env).length=n:=by rfl) (hst:(a3W es X.env).findIdx? (·.1)=none:=by rfl):PG X (.Tuple es k pos) (b2i X.K n t):=by
 intro pins s σ H v u Q I r hw
 obtain⟨a,xs,e1,hq,hl,hw⟩:=hw
 subst e1
 cases r
 obtain⟨its,rv,ht,hz⟩:=I.tuple hq
 refine assign_Tuple_tuple (I.ok.hd hc) ht (by simp[hn,<-hl,rv.length]) hst fun h' hx=>?_
 have I1:Inv X pins σ H { s with heap:=h' }:=I.kept (t':=s.toks) fun b o e=>hx b o (A0 (l7 e)) e
 exact h pins _ σ H xs _ Q I1 (by simpa using rv) hw
def c1l(to ti:TE)(t:b5Q):TG:=fun v σ H Q=>to σ H fun o H1=>ti σ H1 fun i H2=>t o i v H2 fun H3=>Q σ H3
theorem d0h{o i:Expr}{to ti:TE}{t:b5Q}(ho:PE X o to)(hi:PE X i ti)(hs:c6t X t)
  (ha:∀v,a9s (.Subscript o i pos) X.env v=(do
   let ov <-a4c [v] (eval o X.env)
   let iv <-a4c [v,ov] (eval i X.env)
   b3F pos
   a4c [v,ov,iv] (c9t ov iv v)
   release [v,ov,iv] []):=by intro _;rfl):PG X (.Subscript o i pos) (c1l to ti t):=by
 intro pins s σ H v u Q I r h
 rw[ha]
 refine g0 (a2v (thn (ho pins s σ H _ I h) fun ov s1 ⟨x,H1,I1,r1,q1⟩=>?_))
 refine g0 (a2v (thn (hi pins s1 σ H1 _ I1 q1) fun iv s2 ⟨y,H2,I2,r2,q2⟩=>?_))
 refine g0 (b8h (g0 (a2v (thn (hs pins s2 σ H2 x y v ov iv u _ I2 r1 r2 r q2) fun _ s3 ⟨H3,I3,q3⟩=>?_))))
 exact wpAny_release ⟨σ,H3,I3,q3⟩
def G0(te:TE)(g:TG):TS:=fun D σ H=>te σ H fun x H1=>g x σ H1 D.nx
theorem d0e(he:PE X e te)(hg:PG X tg g)(hs:swapsWithSole [tg] e pos.line X.env=pure false:=by rfl)(hw:swappedStores [tg] e X.env=pure none:=by rfl)
  (h1:(a3W [tg] X.env).map (·.2)=[a9s tg X.env]:=by rfl):PS X (.Assign [tg] e pos) (G0 te g):=by
 intro pins s σ H D I h
 refine wpAny_Assign_stores (thn (he pins s σ H _ I h) fun v s1 ⟨x,H1,I1,r1,q1⟩=>?_) hs hw
 rw[h1]
 exact thn (hg pins s1 σ H1 x v _ I1 r1 q1) fun _ s2 q=>q
theorem c9Z{x:Str}(hN:X.N.Nodup)(hi:X.N[i]? = some x)(hx:Loc X.env.scope x)(he:PE X e te)(hs:a3o e (some (.Name x pos')) pos.line X.env=pure false:=by rfl)(hf:X.fn x=true\/X.env.scope.names.lookup x=some .local:=by first | exact .inl rfl | exact .inr rfl | assumption) :
  PS X (.Assign [.Name x pos'] e pos) (G0 te (t8 i)):=by
 intro pins s σ H D I h
 refine wpAny_Assign_Name (thn (he pins s σ H _ I h) fun v s1 ⟨y,H1,I1,r1,q1⟩=>?_) hs
 exact b0C I1 hN hi hx r1 (fun s2 I2=>⟨_,H1,I2,q1⟩) hf
def c0f(i:Nat)(te:TE)(ti:TIp):TS:=fun D σ H=>∃x,σ[i]? = some (some x)/\te σ H fun y H1=>ti x y H1 fun z H2=>D.nx (σ.set i (some z)) H2
theorem d0d{x:Str}{op:b5j}{ti:TIp}(hN:X.N.Nodup)(hi:X.N[i]? = some x)(hx:Loc X.env.scope x)(he:PE X e te)(ho:PIp X op ti)(hf:X.fn x=true\/X.env.scope.names.lookup x=some .local:=by first | exact .inl rfl | exact .inr rfl | assumption) :
  PS X (.AugAssign (.Name x pos') op e pos) (c0f i te ti):=by
 intro pins s σ H D I h
 obtain⟨v,e1,h⟩:=h
 obtain⟨m,hn,hl⟩:=I.loc
 have vis:Vis X.env.scope x:=by rcases hx with k | k;exact .inl k;exact .inr (.inl k)
 obtain⟨u,r,l⟩:=hl i x v hi e1 vis
 refine wpAny_AugAssign_Name ?_
 have go:wpAny (model X.prog X.w) X.A (eval e X.env) (fun w s₂=>wpAny (model X.prog X.w) X.A (inplaceOp op u w) (fun r s₃=>wpAny (model X.prog X.w) X.A (storeName X.env x r) (fun _=>SP X pins D .next) X.xe s₃) X.xe s₂) X.xe s:=by
  refine thn (he pins s σ H _ I h) fun w s1 ⟨y,H1,I1,r1,q1⟩=>?_
  refine thn (ho pins s1 σ H1 v y u w _ I1 r r1 q1) fun z s2 ⟨zv,H2,I2,r2,q2⟩=>?_
  exact b0C I2 hN hi hx r2 (fun s3 I3=>⟨_,H2,I3,q2⟩) hf
 rcases l with ⟨hk,hm⟩ | ⟨hk,c,hc,hcell⟩
 ·exact d3c I.ok.kind hk hn hm go
 ·rcases hk with hk | hk
  ·exact d3g I.ok.kind hk hc hcell go
  ·rcases hx with k | k
   ·have:X.env.scope.names.lookup x=some .free:=hk
    rw[k]at this;cases this
   ·have:X.env.scope.names.lookup x=some .free:=hk
    rw[k]at this;cases this
def c1P(to ti te:TE)(tget:V->V->Hp->VK->Prop)(tip:TIp)(tset:b5Q):TS:=fun D σ H=>to σ H fun o H1=>ti σ H1 fun i H2=>tget o i H2 fun x H3=>te σ H3 fun y H4=>tip x y H4 fun z H5=>tset o i z H5 fun H6=>D.nx σ H6
def d1w(X:Cx)(t:V->V->Hp->VK->Prop):Prop:=
 ∀(pins:List (Addr×Obj)) (s:k8) (σ:St) (H:Hp) (o i:V) (ov iv:Value) (Q:VK),Inv X pins σ H s->K9 o ov->K9 i iv->t o i H Q ->
  wpAny (model X.prog X.w) X.A (c9u ov iv) (EP X pins σ Q) X.xe s
theorem c7q{o i:Expr}{to ti:TE}{tget:V->V->Hp->VK->Prop}{tip:TIp}{tset:b5Q}{op:b5j}{tpos:Pos}(ho:PE X o to)(hi:PE X i ti)(hg:d1w X tget)(he:PE X e te)(hp:PIp X op tip)(hs:c6t X tset)
  (ha:∀ov iv new,augStore i ov iv new=(do a4c [new,ov,iv] (c9t ov iv new);release [new,ov,iv] [];pure .next):=by intros;rfl):PS X (.AugAssign (.Subscript o i tpos) op e pos) (c1P to ti te tget tip tset):=by
 intro pins s σ H D I h
 refine wpAny_AugAssign_SubscriptAny (thn (ho pins s σ H _ I h) fun ov s1 ⟨x1,H1,I1,r1,q1⟩=>?_) ha
 refine thn (hi pins s1 σ H1 _ I1 q1) fun iv s2 ⟨x2,H2,I2,r2,q2⟩=>?_
 refine thn (hg pins s2 σ H2 x1 x2 ov iv _ I2 r1 r2 q2) fun old s3 ⟨x3,H3,I3,r3,q3⟩=>?_
 refine thn (he pins s3 σ H3 _ I3 q3) fun v s4 ⟨x4,H4,I4,r4,q4⟩=>?_
 refine thn (hp pins s4 σ H4 x3 x4 old v _ I4 r3 r4 q4) fun new s5 ⟨x5,H5,I5,r5,q5⟩=>?_
 exact thn (hs pins s5 σ H5 x1 x2 x5 ov iv new _ I5 r1 r2 r5 q5) fun _ s6 ⟨H6,I6,q6⟩=>⟨σ,H6,I6,q6⟩
def ipI(f:Int->Int->Int):TIp:=fun x y H Q=>∃i j,x=.int i/\y=.int j/\Q (.int (f i j)) H
theorem d1h:PIp X .Add (ipI fun i j=>i+j):=by
 intro pins s σ H x y v u Q I r1 r2 h
 obtain⟨i,j,e1,e2,q⟩:=h
 subst e1;subst e2
 obtain⟨t,rfl⟩:=r1
 obtain⟨t',rfl⟩:=r2
 exact iadd_int ⟨.int _,H,I.tok _,⟨_,rfl⟩,q⟩
end
section
def a8t(c:TT)(tb:TS):TS:=fun D σ H=>∃W:Nat->St->Hp->Prop,(∃m,W m σ H)/\∀m σ H,W m σ H ->
 c σ H fun b H1=>if b=true then ∃N:St->Hp->Prop,(∀σ' H',N σ' H'->∃m',m'<m/\W m' σ' H')/\tb { D with nx:=N,ct:=N,bk:=D.nx } σ H1 else D.nx σ H1
theorem c5j{body:List Stmt}{tc:TT}(hp:d1U (model X.prog X.w) X.A X.env X.xe)(hc:PT X c tc)(hb:PSs X body tb):PS X (.While c body [] pos) (a8t tc tb):=by
 intro pins s σ H D I h
 obtain⟨W,⟨m0,w0⟩,turn⟩:=h
 refine wpAny_While (codeAny_whileLoop (fun n s'=>∃σ' H',Inv X pins σ' H' s'/\W n σ' H') ?_ m0 ⟨σ,H,I,w0⟩)
 rintro n s1 ⟨σ1,H1,I1,w1⟩
 refine a3n hp (thn (hc pins s1 σ1 H1 _ I1 (turn n σ1 H1 w1)) fun b s2 ⟨H2,I2,q2⟩=>?_)
 cases b with
 | true=>
  obtain⟨N,hN,q2⟩:=q2
  rw[if_pos rfl]
  refine a3n hp (thn (hb pins s2 σ1 H2 _ I2 q2) fun f s3 q3=>?_)
  cases f with
  | next=>
   obtain⟨σ3,H3,I3,n3⟩:=q3
   obtain⟨m',hm,w3⟩:=hN σ3 H3 n3
   exact⟨m',hm,σ3,H3,I3,w3⟩
  | cont=>
   obtain⟨σ3,H3,I3,n3⟩:=q3
   obtain⟨m',hm,w3⟩:=hN σ3 H3 n3
   exact⟨m',hm,σ3,H3,I3,w3⟩
  | brk=>exact q3
  | ret v=>exact q3
 | false=>
  rw[if_neg z5]
  exact b3E ⟨σ1,H2,I2,q2⟩
end
structure It where
 go:Nat->Hp->Prop
 yld:Nat->Hp->V->Hp->Prop
 stop:Nat->Hp->Prop
def a9l(X:Cx)(pins:List (Addr×Obj))(H:Hp)(b:Addr):Prop:=
 H b=none/\b≠X.env.locals/\b∉X.fs/\(b∈X.ex\/X.s₀.heap.objs.size<=b)/\(∀x c,X.env.cells.lookup x=some c->c≠b)/\∀p∈X.pn++pins,p.1≠b
theorem Inv.fpOk(I:Inv X pins σ H s)(hb:s.heap.objs.size<=b)(hn:H' b=none):a9l X pins H' b:=by
 refine⟨hn,c3Q (D3 I.lt hb),I.nofs hb,.inr (D9 I.sz hb),fun x c e z=>?_,fun p hp z=>?_⟩
 ·obtain⟨v,q⟩:=I.cell x c e
  exact absurd (D3 q.lt (by rw[z];exact hb)) (O4 _)
 ·exact absurd (D3 (l7 (I.pin p hp).1) (by rw[z];exact hb)) (O4 _)
structure b9M(P:D4)(w:World)(K:Fg)(tg:Expr)(J:It)(fp:List Addr)(it:Addr)(tn:Nat->Heap->Prop):Prop where
 mem:it∈fp
 obj:∀i h,tn i h->∀b∈fp,∃o,h.get? b=some o/\∀v,o.data≠.cell v
 keep:∀i h h',tn i h->(∀b∈fp,∀o,h.get? b=some o->h'.get? b=some o)->tn i h'
 item:∀(X:Cx),X.prog=P->X.w=w->X.K=K->X.calm=true->∀(i:Nat) (pins:List (Addr×Obj)) (s:k8) (σ:St) (H:Hp) (E:Value->k8->Prop),Inv X pins σ H s->(∀b∈fp,a9l X pins H b)->tn i s.heap->J.go i H ->
  wpAny (model P w) X.A (b8i (.ref it)) (fun r s1=>∃u,r=some u /\
   wpAny (model P w) X.A (a8k tg (.ref it) u) (fun _ s2=>∃x H',Inv X pins σ H' s2/\K9 x u/\J.yld i H x H'/\tn (i+1) s2.heap/\∀b∈fp,H' b=none) E s1) E s
 done:∀(X:Cx),X.prog=P->X.w=w->X.K=K->X.calm=true->∀(i:Nat) (pins:List (Addr×Obj)) (s:k8) (σ:St) (H:Hp) (E:Value->k8->Prop),Inv X pins σ H s->(∀b∈fp,a9l X pins H b)->tn i s.heap->J.stop i H ->
  wpAny (model P w) X.A (b8i (.ref it)) (fun r s1=>r=none/\Inv X pins σ H s1) E s
 self:∀(A:R3) (i:Nat) (s:k8) (Q:Value->k8->Prop) (E:Value->k8->Prop),tn i s.heap->Q (.ref it) s->wpAny (model P w) A (pyIter (.ref it)) Q E s
abbrev TI:=St->Hp->(It->Hp->Prop)->Prop
def PIE(X:Cx)(pins:List (Addr×Obj))(σ:St)(tg:Expr)(R:It->Hp->Prop)(itv:Value)(s2:k8):Prop:=
 ∃(it:Addr) (fp:List Addr) (tn:Nat->Heap->Prop) (J:It) (H':Hp),itv=.ref it/\Inv X pins σ H' s2/\b9M X.prog X.w X.K tg J fp it tn/\tn 0 s2.heap/\(∀b∈fp,a9l X pins H' b)/\R J H'
def PI(X:Cx)(tg iter:Expr)(wi:TI):Prop:=
 ∀(pins:List (Addr×Obj)) (s:k8) (σ:St) (H:Hp) (R:It->Hp->Prop),Inv X pins σ H s->wi σ H R ->
  wpAny (model X.prog X.w) X.A (eval iter X.env) (fun v s1=>wpAny (model X.prog X.w) X.A (pyIter v) (PIE X pins σ tg R) X.xe s1) X.xe s
theorem c5T{M:Model}{A:R3}{E:Value->k8->Prop}{it:Addr}{o:Obj}{n:String}{vs:Array Value}{Q:Unit->k8->Prop}(ho:s.heap.get? it=some o)(hc:o.cls=.type n)(hd:o.data=.fields vs)
  (hn:["enumerate","zip","dict_itemiterator","dict_reverseitemiterator","odict_iterator","itertools.zip_longest","itertools.pairwise"].contains n=false) (hQ:Q () s):wpAny M A (a8k tg (.ref it) u) Q E s:=by
 unfold a8k
 cases tg <;> first
  | exact u5 hQ
  | (cases u <;> first
    | exact u5 hQ
    | (refine g0 (wpAny_load ho ?_)
       rw[hc,hd]
       show wpAny M A (if(["enumerate","zip","dict_itemiterator","dict_reverseitemiterator","odict_iterator","itertools.zip_longest","itertools.pairwise"].contains n&&vs[0]? == some (rawInt _))=true then _ else _) Q E s
       rw[if_neg (by intro h;rw[hn,d1M]at h;cases h)]
       exact u5 hQ))
def Itl(K:Fg)(a:Addr):It:=
 ⟨fun i H=>∃xs x,SqL K H a xs/\xs[i]? = some x,fun i H x H'=>H'=H/\∀xs,SqL K H a xs->xs[i]? = some x,fun i H=>∃xs,SqL K H a xs/\xs.length<=i⟩
def Itr(lo:Int)(n:Nat):It:=⟨fun i _=>i<n,fun i H x H'=>H'=H/\x=.int (lo+i),fun i _=>n<=i⟩
theorem c2B{P:D4}{K:Fg}(a it:Addr):b9M P w K tg (Itl K a) [it] it (fun i h=>h.IsListIter it a i) where
 mem:=by simp
 obj:=fun i h st b hb=>by
  have e:b=it:=by simpa using hb
  subst e
  obtain⟨o,e,c,d⟩:=st
  exact⟨o,e,fun v z=>by rw[d]at z;cases z⟩
 keep:=fun i h h' st k=>st.at fun o e=>k it (by simp) o e
 item:=by
  intro X hP hw hK hc i pins s σ H E I hf st hg
  subst hP hw hK
  obtain⟨xs,x,hq,hx⟩:=hg
  obtain⟨its,rv,p,hz⟩:=I.list hq
  obtain⟨u,hu,ru⟩:=rv.get hx
  obtain⟨f0,f1,f2,f3,f4,f5⟩:=hf it (by simp)
  refine b2W st p.isList (x:=u) (by simpa using hu) fun h' st' sb=>?_
  have I1:Inv X pins σ H { s with heap:=h' }:=I.turned (t':=s.toks) (fun b o hb e=>(sb.2 b hb).trans e) f0 f1 f3 f4 f5
  obtain⟨o,e,c,d⟩:=id st'
  exact⟨u,rfl,c5T (s:={ s with heap:=h' }) e c d (by decide) ⟨x,H,I1,ru,⟨rfl,fun ys hy=>by rw[I.list_inj hy hq];exact hx⟩,st',fun b hb=>(hf b hb).1⟩⟩
 done:=by
  intro X hP hw hK hc i pins s σ H E I hf st hg
  subst hP hw hK
  obtain⟨xs,hq,hx⟩:=hg
  obtain⟨its,rv,p,hz⟩:=I.list hq
  obtain⟨f0,f1,f2,f3,f4,f5⟩:=hf it (by simp)
  have hl:=rv.length
  exact b3C (I.ok.hd hc) st p.isList (by simp;omega) fun h' eb=>⟨rfl,I.turned (t':=s.toks) (fun b o hb e=>eb b o hb e) f0 f1 f3 f4 f5⟩
 self:=fun _ _ _ _ _ st h=>wpAny_pyIter_listiter st h
theorem c0c{P:D4}{K:Fg}(it:Addr)(lo:Int)(n:Nat):b9M P w K tg (Itr lo n) [it] it (fun i h=>IsRangeIter h it (lo+(i:Nat) * 1) ((n:Int) - (i:Nat)) 1) where
 mem:=by simp
 obj:=fun i h st b hb=>by
  have e:b=it:=by simpa using hb
  subst e
  exact⟨_,st,fun v z=>by
   have z':Data.fields _=Data.cell v:=z
   cases z'⟩
 keep:=fun i h h' st k=>k it (by simp) _ st
 item:=by
  intro X hP hw hK hc i pins s σ H E I hf st hg
  subst hP hw hK
  obtain⟨f0,f1,f2,f3,f4,f5⟩:=hf it (by simp)
  have W:=Walks.range (prog:=X.prog) (w:=X.w) (I.ok.hd hc) it lo 1 n
  refine W.item i s _ _ hg st fun v h' tk hv st' kk=>?_
  obtain⟨t,rfl⟩:=hv
  have I1:Inv X pins σ H { s with heap:=h',toks:=tk }:=I.turned (fun b o hb e=>kk b o (by simpa using hb) e) f0 f1 f3 f4 f5
  refine⟨_,rfl,c5T (s:={ s with heap:=h',toks:=tk }) (n := "range_iterator") st' rfl rfl (by decide) ⟨.int (lo+i),H,I1,⟨t,?_⟩,⟨rfl,rfl⟩,st',fun b hb=>(hf b hb).1⟩⟩
  rw[Int.mul_one]
 done:=by
  intro X hP hw hK hc i pins s σ H E I hf st hg
  subst hP hw hK
  obtain⟨f0,f1,f2,f3,f4,f5⟩:=hf it (by simp)
  exact wpAny_pyNext_range_end (I.ok.hd hc) st (by have:n<=i:=hg;omega) fun h' eb=>⟨rfl,I.turned (t':=s.toks) (fun b o hb e=>eb b o hb e) f0 f1 f3 f4 f5⟩
 self:=fun _ _ _ _ _ st h=>wpAny_pyIter_rangeiter st h
section
def O0(K:Fg)(tl:TE):TI:=fun σ H R=>tl σ H fun x H1=>∃a,x=.ref a/\(∃xs,SqL K H1 a xs)/\R (Itl K a) H1
theorem c7v{l:Expr}{tl:TE}(hl:PE X l tl):PI X tg l (O0 X.K tl):=by
 intro pins s σ H R I h
 refine thn (hl pins s σ H _ I h) fun v s1 ⟨x,H1,I1,r1,q1⟩=>?_
 obtain⟨a,e,⟨xs,hq⟩,q⟩:=q1
 subst e
 cases r1
 obtain⟨its,rv,p,hz⟩:=I1.list hq
 refine a6r p.isList ?_
 refine⟨s1.heap.objs.size,[s1.heap.objs.size],_,_,H1,rfl,I1.kept (t':=s1.toks) fun b o e=>i8 _ e,c2B a _,⟨_,A8 _ rfl,rfl,rfl⟩,fun b hb=>?_,q⟩
 have e:b=s1.heap.objs.size:=by simpa using hb
 subst e
 exact I1.fpOk (j5 _) (I1.hok.fresh (j5 _))
theorem c4V{R:It->Hp->Prop}{E:Value->k8->Prop}{lo hi:Int}{t u v:Tok}{tk:Nat}(I:Inv X pins σ H s)(h1 : -(2 ^ 62)<=lo)(h2:lo<2 ^ 62)(h3 : -(2 ^ 62)<=hi)(h4:hi<2 ^ 62)
  (q:R (Itr lo (hi - lo).toNat) H):wpAny (model X.prog X.w) X.A (pyIter (.ref s.heap.objs.size)) (PIE X pins σ tg R) E { s with heap:=s.heap.push { cls:=.type "range",data:=.fields #[.int lo t,.int hi u,.int 1 v] },toks:=tk }:=by
 refine wpAny_pyIter_range (IsRange.new ..) (small_one h1 h2 h3 h4) ?_
 have I1:Inv X pins σ H { s with heap:=s.heap.push { cls:=.type "range",data:=.fields #[.int lo t,.int hi u,.int 1 v] },toks:=tk }:=I.kept fun b o e=>i8 _ e
 refine⟨(s.heap.push { cls:=.type "range",data:=.fields #[.int lo t,.int hi u,.int 1 v] }).objs.size,[(s.heap.push { cls:=.type "range",data:=.fields #[.int lo t,.int hi u,.int 1 v] }).objs.size],_,_,H,rfl,
  I1.kept (t':=tk) fun b o e=>i8 _ e,c0c _ lo (hi - lo).toNat,?_,fun b hb=>?_,q⟩
 ·have e1:lo+((0:Nat):Int) * 1=lo:=by simp
  have e2:(((hi - lo).toNat:Nat):Int) - ((0:Nat):Int)=Builtin.Range.rangeSize lo hi 1:=by rw[rangeSize_one];split <;> omega
  show IsRangeIter _ _ (lo+((0:Nat):Int) * 1) ((((hi - lo).toNat:Nat):Int) - ((0:Nat):Int)) 1
  rw[e1,e2]
  exact A8 _ rfl
 ·have e:b=(s.heap.push { cls:=.type "range",data:=.fields #[.int lo t,.int hi u,.int 1 v] }).objs.size:=by simpa using hb
  subst e
  exact I1.fpOk (j5 _) (I1.hok.fresh (j5 _))
def a2u(ta:TA):TI:=fun σ H R=>ta σ H fun vs H1=>∃j:Int,vs=[.int j] /\ -(2 ^ 62)<=j/\j<2 ^ 62/\R (Itr 0 j.toNat) H1
theorem c2R{a:Expr}{ta:TA}(hg:Gl X "range")(hm:X.mg "range" = none)(ha:PA X [a] ta)(hs:l9 [a] X.env=[(false,eval a X.env)]:=by rfl):PI X tg (.Call (.Name "range" p) [a] [] pos) (a2u ta):=by
 intro pins s σ H R I h
 refine Call_ (b2e I hg hm boot_range (a1z (thn (ha pos pins s σ H _ I h) fun us s1 ⟨vs,H1,I1,r1,q1⟩=>?_) hs rfl))
 obtain⟨j,e,q1,q2,q⟩:=q1
 subst e
 cases r1 with
 | cons r rr=>
  cases rr
  obtain⟨t,rfl⟩:=r
  exact call_range_1 (c4V I1 (by omega) (by omega) q1 q2 (by simpa using q))
def a1R(wi:TI)(g:TG)(tb:TS):TS:=fun D σ H=>wi σ H fun J H1=>∃W:Nat->Nat->St->Hp->Prop,(∃m,W 0 m σ H1)/\∀i m σ H,W i m σ H ->
 (J.stop i H/\D.nx σ H)\/(J.go i H/\∃N:St->Hp->Prop,(∀σ' H',N σ' H'->∃m',m'<m/\W (i+1) m' σ' H')/\∀x H',J.yld i H x H'->g x σ H' fun σ2 H2=>tb { D with nx:=N,ct:=N,bk:=D.nx } σ2 H2)
def a9Q(fp:List Addr)(h:Heap):List (Addr×Obj):=fp.filterMap fun b=>(h.get? b).map fun o=>(b,o)
theorem a4o{fp:List Addr}{o:Obj}(hb:b∈fp)(e:h.get? b=some o):(b,o)∈a9Q fp h:=c6H.mpr ⟨b,hb,by rw[e];rfl⟩
theorem c3d{fp:List Addr}{p:Addr×Obj}(hp:p∈a9Q fp h):p.1∈fp/\h.get? p.1=some p.2:=by
 obtain⟨b,hb,e⟩:=c6H.mp hp
 cases q:h.get? b with
 | none=>rw[q]at e;cases e
 | some o=>
  rw[q]at e
  have e':(b,o)=p:=Option.some.inj e
  subst e'
  exact⟨hb,q⟩
theorem Inv.pinned{fp:List Addr}(I:Inv X pins σ H s)(hf:∀b∈fp,a9l X pins H b)(ho:∀b∈fp,∃o,s.heap.get? b=some o/\∀v,o.data≠.cell v):Inv X (pins++a9Q fp s.heap) σ H s:=
 I.pins_of fun p hp=>(u0.mp hp).elim (fun z=>I.pin p (v7 _ z)) fun z=>by
  obtain⟨hb,e⟩:=c3d z
  obtain⟨f0,f1,f2,_⟩:=hf p.1 hb
  obtain⟨o,e',d⟩:=ho p.1 hb
  rw[e]at e';cases e'
  exact⟨e,f0,f1,f2,d⟩
theorem Inv.unpinned{pl:List (Addr×Obj)}(I:Inv X (pins++pl) σ H s):Inv X pins σ H s:=I.pins_of fun p hp=>I.pin p (v7 _ (v8 _ hp))
theorem d0b{iter:Expr}{body:List Stmt}{wi:TI}(hp:d1U (model X.prog X.w) X.A X.env X.xe)(hc:X.calm=true)(hi:PI X tg iter wi)(hg:PG X tg g)(hb:PSs X body tb)
  (hs:∀x,X1 iter X.env x=pure x:=by intro _;rfl):PS X (.For tg iter body [] pos) (a1R wi g tb):=by
 intro pins s σ H D I h
 refine wpAny_For (thn (hi pins s σ H _ I h) fun v s1 h1=>thn h1 fun itv s2 h2=>?_) hs
 obtain⟨it,fp,tn,J,H2,e,I2,T,st2,f2,W,⟨m0,w0⟩,turn⟩:=h2
 subst e
 have stat:∀ {H':Hp},(∀b∈fp,H' b=none)->∀b∈fp,a9l X pins H' b:=fun hn b hb=>⟨hn b hb,(f2 b hb).2⟩
 refine codeAny_forLoop_any (fun n s'=>∃i σ' H',Inv X pins σ' H' s'/\tn i s'.heap/\(∀b∈fp,H' b=none)/\W i n σ' H') ?_ m0 ⟨0,σ,H2,I2,st2,fun b hb=>(f2 b hb).1,w0⟩
 rintro n s3 ⟨i,σ3,H3,I3,st3,fr3,w3⟩
 rcases turn i n σ3 H3 w3 with ⟨stop,qn⟩ | ⟨go,N,hN,step⟩
 ·refine a3n hp (thn (T.done X rfl rfl rfl hc i pins s3 σ3 H3 X.xe I3 (stat fr3) st3 stop) fun r s4 ⟨hr,I4⟩=>?_)
  subst hr
  exact b3E ⟨σ3,H3,I4,qn⟩
 ·refine a3n hp (thn (T.item X rfl rfl rfl hc i pins s3 σ3 H3 X.xe I3 (stat fr3) st3 go) fun r s4 ⟨u,hr,h4⟩=>?_)
  subst hr
  refine a3n hp (thn h4 fun _ s5 ⟨x,H5,I5,r5,y5,st5,fr5⟩=>?_)
  have I5':=I5.pinned (stat fr5) (T.obj _ _ st5)
  refine a3n hp (thn (hg _ s5 σ3 H5 x u _ I5' r5 (step x H5 y5)) fun _ s6 ⟨σ6,H6,I6,q6⟩=>?_)
  refine a3n hp (thn (hb _ s6 σ6 H6 _ I6 q6) fun f s7 q7=>?_)
  have again:∀ {σ7:St} {H7:Hp},Inv X (pins++a9Q fp s5.heap) σ7 H7 s7->N σ7 H7->∃m,m<n/\∃i σ' H',Inv X pins σ' H' s7/\tn i s7.heap/\(∀b∈fp,H' b=none)/\W i m σ' H':=fun {σ7 H7} I7 n7=>by
   obtain⟨m',hm,w7⟩:=hN σ7 H7 n7
   refine⟨m',hm,i+1,σ7,H7,I7.unpinned,T.keep _ _ _ st5 fun b hb o e=>(I7.pin (b,o) (v7 _ (v7 _ (a4o hb e)))).1,fun b hb=>?_,w7⟩
   obtain⟨o,e,d⟩:=T.obj _ _ st5 b hb
   exact(I7.pin (b,o) (v7 _ (v7 _ (a4o hb e)))).2.1
  cases f with
  | next=>obtain⟨σ7,H7,I7,n7⟩:=q7;exact again I7 n7
  | cont=>obtain⟨σ7,H7,I7,n7⟩:=q7;exact again I7 n7
  | brk=>obtain⟨σ7,H7,I7,q7⟩:=q7;exact⟨σ7,H7,I7.unpinned,q7⟩
  | ret v=>obtain⟨x7,σ7,H7,I7,r7,q7⟩:=q7;exact⟨x7,σ7,H7,I7.unpinned,r7,q7⟩
end
theorem a2G{K:Fg}{D:b1m}(Pv:Nat->St->Hp->Prop)(h0:Pv 0 σ H)(hl:∀i σ H,i<=xs.length->Pv i σ H->SqL K H a xs)
  (hs:∀i x σ H,xs[i]? = some x->Pv i σ H->g x σ H fun σ2 H2=>tb { D with nx:=Pv (i+1),ct:=Pv (i+1),bk:=D.nx } σ2 H2) (hd:∀σ H,Pv xs.length σ H->D.nx σ H) :
  ∃W:Nat->Nat->St->Hp->Prop,(∃m,W 0 m σ H)/\∀i m σ H,W i m σ H ->
   ((Itl K a).stop i H/\D.nx σ H)\/((Itl K a).go i H/\∃N:St->Hp->Prop,(∀σ' H',N σ' H'->∃m',m'<m/\W (i+1) m' σ' H')/\∀x H',(Itl K a).yld i H x H'->g x σ H' fun σ2 H2=>tb { D with nx:=N,ct:=N,bk:=D.nx } σ2 H2):=by
 refine⟨fun i m σ H=>m=xs.length - i/\i<=xs.length/\Pv i σ H,⟨xs.length,by simp,R8 _,h0⟩,?_⟩
 rintro i m σ H ⟨rfl,hi,p⟩
 have q:=hl i σ H hi p
 by_cases hlt:i<xs.length
 ·refine .inr ⟨⟨xs,xs[i],q,by simp[hlt]⟩,Pv (i+1),fun σ' H' p'=>⟨xs.length - (i+1),by omega,rfl,hlt,p'⟩,fun x H' y=>?_⟩
  obtain⟨e,y⟩:=y
  subst e
  exact hs i x σ _ (y xs q) p
 ·have e:i=xs.length:=by omega
  subst e
  exact .inl ⟨⟨xs,q,j5 _⟩,hd σ H p⟩
theorem a0l{lo:Int}{n:Nat}{D:b1m}(Pv:Nat->St->Hp->Prop)(h0:Pv 0 σ H)
  (hs:∀i σ H,i<n->Pv i σ H->g (.int (lo+i)) σ H fun σ2 H2=>tb { D with nx:=Pv (i+1),ct:=Pv (i+1),bk:=D.nx } σ2 H2) (hd:∀σ H,Pv n σ H->D.nx σ H) :
  ∃W:Nat->Nat->St->Hp->Prop,(∃m,W 0 m σ H)/\∀i m σ H,W i m σ H ->
   ((Itr lo n).stop i H/\D.nx σ H)\/((Itr lo n).go i H/\∃N:St->Hp->Prop,(∀σ' H',N σ' H'->∃m',m'<m/\W (i+1) m' σ' H')/\∀x H',(Itr lo n).yld i H x H'->g x σ H' fun σ2 H2=>tb { D with nx:=N,ct:=N,bk:=D.nx } σ2 H2):=by
 refine⟨fun i m σ H=>m=n - i/\i<=n/\Pv i σ H,⟨n,by simp,R8 _,h0⟩,?_⟩
 rintro i m σ H ⟨rfl,hi,p⟩
 by_cases hlt:i<n
 ·refine .inr ⟨hlt,Pv (i+1),fun σ' H' p'=>⟨n - (i+1),by omega,rfl,hlt,p'⟩,fun x H' y=>?_⟩
  obtain⟨e,y⟩:=y
  subst e y
  exact hs i σ _ hlt p
 ·have e:i=n:=by omega
  subst e
  exact .inl ⟨j5 _,hd σ H p⟩
abbrev R2:=V->V->Hp->VK->Prop
def OpR(X:Cx)(f:Value->Value->Sem Value)(r:R2):Prop:=
 ∀(pins:List (Addr×Obj)) (s:k8) (σ:St) (H:Hp) (x y:V) (v u:Value) (Q:VK),Inv X pins σ H s->K9 x v->K9 y u->r x y H Q ->
  wpAny (model X.prog X.w) X.A (f v u) (EP X pins σ Q) X.xe s
def UnR(X:Cx)(f:Value->Sem Value)(r:V->Hp->VK->Prop):Prop:=
 ∀(pins:List (Addr×Obj)) (s:k8) (σ:St) (H:Hp) (x:V) (v:Value) (Q:VK),Inv X pins σ H s->K9 x v->r x H Q ->
  wpAny (model X.prog X.w) X.A (f v) (EP X pins σ Q) X.xe s
def X5(X:Cx)(f:Value)(r:List V->Hp->VK->Prop):Prop:=
 ∀(pins:List (Addr×Obj)) (s:k8) (σ:St) (H:Hp) (xs:List V) (us:List Value) (Q:VK),Inv X pins σ H s->M3 xs us->r xs H Q ->
  wpAny (model X.prog X.w) X.A (call f us) (EP X pins σ Q) X.xe s
def tOp(r:R2)(ta tb:TE):TE:=fun σ H Q=>ta σ H fun x H1=>tb σ H1 fun y H2=>r x y H2 Q
def tUn(r:V->Hp->VK->Prop)(ta:TE):TE:=fun σ H Q=>ta σ H fun x H1=>r x H1 Q
def rI(C:Int->Int->Prop)(g:Int->Int->V):R2:=fun x y H Q=>∃i j,x=.int i/\y=.int j/\C i j/\Q (g i j) H
def rI0(g:Int->Int->V):R2:=fun x y H Q=>∃i j,x=.int i/\y=.int j/\Q (g i j) H
def rU(g:Int->V):V->Hp->VK->Prop:=fun x H Q=>∃i,x=.int i/\Q (g i) H
section
variable {a b:Expr}{tb tc:TE}
theorem d1o(ha:PE X a ta)(hb:PE X b tb){R:V->V->Hp->Prop}(I:Inv X pins σ H s)
  (h:ta σ H fun x H1=>tb σ H1 fun y H2=>R x y H2) {Q:Value->k8->Prop} {f:Value->Value->Sem Value}
  (hf:∀v u s2 x y H2,Inv X pins σ H2 s2->K9 x v->K9 y u->R x y H2->wpAny (model X.prog X.w) X.A (f v u) Q X.xe s2) :
  wpAny (model X.prog X.w) X.A (eval a X.env) (fun v s₁=>wpAny (model X.prog X.w) X.A (eval b X.env) (fun u s₂=>wpAny (model X.prog X.w) X.A (f v u) Q X.xe s₂) X.xe s₁) X.xe s:=by
 refine thn (ha pins s σ H _ I h) fun v s1 ⟨x,H1,I1,r1,q1⟩=>?_
 refine thn (hb pins s1 σ H1 _ I1 q1) fun u s2 ⟨y,H2,I2,r2,q2⟩=>?_
 exact hf v u s2 x y H2 I2 r1 r2 q2
theorem d2x{op:b5j}{r:R2}(ho:OpR X (a1P op) r)(ha:PE X a ta)(hb:PE X b tb):PE X (.BinOp a op b pos) (tOp r ta tb):=by
 intro pins s σ H Q I h
 exact wpAny_BinOp (d1o ha hb I h fun v u s2 x y H2 I2 rx ry q=>ho pins s2 σ H2 x y v u Q I2 rx ry q)
theorem d2v{op:UnaryOp}{r:V->Hp->VK->Prop}(ho:UnR X (unaryOp op) r)(ha:PE X a ta):PE X (.UnaryOp op a pos) (tUn r ta):=by
 intro pins s σ H Q I h
 exact UnaryOp_ (thn (ha pins s σ H _ I h) fun v s1 ⟨x,H1,I1,r1,q1⟩=>ho pins s1 σ H1 x v Q I1 r1 q1)
theorem opI{f:Value->Value->Sem Value}{C:Int->Int->Prop}{g:Int->Int->Int}
  (rule:∀(i j:Int) (t u:Tok) (s:k8) (Q:Value->k8->Prop) (E:Value->k8->Prop),C i j->Q (.int (g i j) s.toks) { s with toks:=s.toks+1 }->wpAny (model X.prog X.w) X.A (f (.int i t) (.int j u)) Q E s) :
  OpR X f (rI C fun i j=>.int (g i j)):=by
 intro pins s σ H x y v u Q I rx ry h
 obtain⟨i,j,rfl,rfl,hc,q⟩:=h
 obtain⟨t,rfl⟩:=rx
 obtain⟨t',rfl⟩:=ry
 exact rule i j t t' s _ _ hc ⟨.int (g i j),H,I.tok _,⟨_,rfl⟩,q⟩
theorem d2I{f:Value->Value->Sem Value}{g:Int->Int->Int}
  (rule:∀(i j:Int) (t u:Tok) (s:k8) (Q:Value->k8->Prop) (E:Value->k8->Prop),Q (.int (g i j) s.toks) { s with toks:=s.toks+1 }->wpAny (model X.prog X.w) X.A (f (.int i t) (.int j u)) Q E s) :
  OpR X f (rI0 fun i j=>.int (g i j)):=by
 intro pins s σ H x y v u Q I rx ry h
 obtain⟨i,j,rfl,rfl,q⟩:=h
 obtain⟨t,rfl⟩:=rx
 obtain⟨t',rfl⟩:=ry
 exact rule i j t t' s _ _ ⟨.int (g i j),H,I.tok _,⟨_,rfl⟩,q⟩
theorem c7R{f:Value->Value->Sem Value}{g:Int->Int->Bool}
  (rule:∀(i j:Int) (t u:Tok) (s:k8) (Q:Value->k8->Prop) (E:Value->k8->Prop),Q (.bool (g i j)) s->wpAny (model X.prog X.w) X.A (f (.int i t) (.int j u)) Q E s) :
  OpR X f (rI0 fun i j=>.bl (g i j)):=by
 intro pins s σ H x y v u Q I rx ry h
 obtain⟨i,j,rfl,rfl,q⟩:=h
 obtain⟨t,rfl⟩:=rx
 obtain⟨t',rfl⟩:=ry
 exact rule i j t t' s _ _ ⟨.bl (g i j),H,I,rfl,q⟩
def c8K(i j:Int):Prop:=(-(2 ^ 64)<i/\i<2 ^ 64)\/(-(2 ^ 64)<j/\j<2 ^ 64)
theorem c8K.ok{i j:Int}(h:c8K i j):IntMulOk i j:=by
 rcases h with ⟨h1,h2⟩ | ⟨h1,h2⟩
 ·exact .of_left (intBits_le_64 h1 h2)
 ·exact .of_right (intBits_le_64 h1 h2)
theorem d0L:OpR X (a1P .Add) (rI0 fun i j=>.int (i+j)):=d2I fun _ _ _ _ _ _ _ q=>add_int q
theorem d0y:OpR X (a1P .Sub) (rI0 fun i j=>.int (i - j)):=d2I fun _ _ _ _ _ _ _ q=>sub_int q
theorem d0H:OpR X (a1P .Mult) (rI c8K fun i j=>.int (i * j)):=opI fun _ _ _ _ _ _ _ hc q=>mul_int q hc.ok
theorem d0I:OpR X (a1P .Mod) (rI (fun _ j=>0<j) fun i j=>.int (i % j)):=opI fun i j _ _ _ _ _ hc q=>by
 have h1:(0:Int)<j:=hc
 exact mod_int' (by omega) (by rw[Int.fmod_eq_emod_of_nonneg i (by omega)];exact q)
theorem unI{f:Value->Sem Value}{g:Int->Int}
  (rule:∀(i:Int) (t:Tok) (s:k8) (Q:Value->k8->Prop) (E:Value->k8->Prop),Q (.int (g i) s.toks) { s with toks:=s.toks+1 }->wpAny (model X.prog X.w) X.A (f (.int i t)) Q E s) :
  UnR X f (rU fun i=>.int (g i)):=by
 intro pins s σ H x v Q I rx h
 obtain⟨i,rfl,q⟩:=h
 obtain⟨t,rfl⟩:=rx
 exact rule i t s _ _ ⟨.int (g i),H,I.tok _,⟨_,rfl⟩,q⟩
theorem c9w:UnR X (unaryOp .USub) (rU fun i=>.int (-i)):=unI fun _ _ _ _ _ q=>neg_int q
end
def b8C:V->V->Bool
 | .non,.non=>true | .non,.int _=>true | .int _,.non=>true | .non,.bl _=>true | .bl _,.non=>true | .non,.str _=>true | .str _,.non=>true
 | .int _,.int _=>true | .bl _,.bl _=>true | .str _,.str _=>true | .byt _,.byt _=>true
 | .int _,.str _=>true | .str _,.int _=>true | .bl _,.str _=>true | .str _,.bl _=>true
 | _,_=>false
def rEq:R2:=fun x y H Q=>b8C x y=true/\Q (.bl (decide (x=y))) H
def rNe:R2:=fun x y H Q=>b8C x y=true/\Q (.bl (!decide (x=y))) H
theorem c2b{i j:Int}:decide (V.int i=V.int j)=(i == j):=by
 rw[U2]
 simp
theorem c6e{i j:Bool}:decide (V.bl i=V.bl j)=(i == j):=by
 rw[U2]
 simp
theorem c2a{i j:Str}:decide (V.str i=V.str j)=(i == j):=by
 rw[U2]
 simp
theorem c2c{i j:Array UInt8}:decide (V.byt i=V.byt j)=(i.toList == j.toList):=by
 rw[U2]
 cases i
 cases j
 simp
section
variable {a b:Expr}{tb tc:TE}
theorem Q0{Q:VK}{k k':Bool}(I:Inv X pins σ H s)(q:Q (.bl k) H)(e:k=k'):EP X pins σ Q (.bool k') s:=by
 subst e
 exact⟨.bl k,H,I,rfl,q⟩
theorem d2H:OpR X (A9 .Eq) rEq:=by
 intro pins s σ H x y v u Q I rx ry h
 obtain⟨hs,q⟩:=h
 cases x with
 | non=>
  cases rx
  cases y with
  | non=>cases ry;exact PySem.EqNone.eq_none_none (Q0 I q (by simp))
  | bl j=>cases ry;exact PySem.EqNone.eq_none_bool (Q0 I q (by simp))
  | int j=>obtain⟨t',rfl⟩:=ry;exact PySem.EqNone.eq_none_int (Q0 I q (by simp))
  | str j=>obtain⟨t',rfl⟩:=ry;exact PySem.EqNone.eq_none_str (Q0 I q (by simp))
  | _=>exact absurd (show false=true from hs) z5
 | bl i=>
  cases rx
  cases y with
  | non=>cases ry;exact PySem.EqNone.eq_bool_none (Q0 I q (by simp))
  | bl j=>cases ry;exact eq_bool (Q0 I q c6e)
  | str j=>obtain⟨t',rfl⟩:=ry;exact PySem.EqMixed.eq_bool_str (Q0 I q (by simp))
  | _=>exact absurd (show false=true from hs) z5
 | int i=>
  obtain⟨t,rfl⟩:=rx
  cases y with
  | non=>cases ry;exact PySem.EqNone.eq_int_none (Q0 I q (by simp))
  | int j=>obtain⟨t',rfl⟩:=ry;exact eq_int (Q0 I q c2b)
  | str j=>obtain⟨t',rfl⟩:=ry;exact PySem.EqMixed.eq_int_str (Q0 I q (by simp))
  | _=>exact absurd (show false=true from hs) z5
 | str i=>
  obtain⟨t,rfl⟩:=rx
  cases y with
  | non=>cases ry;exact PySem.EqNone.eq_str_none (Q0 I q (by simp))
  | bl j=>cases ry;exact PySem.EqMixed.eq_str_bool (Q0 I q (by simp))
  | int j=>obtain⟨t',rfl⟩:=ry;exact PySem.EqMixed.eq_str_int (Q0 I q (by simp))
  | str j=>obtain⟨t',rfl⟩:=ry;exact eq_str (Q0 I q c2a)
  | _=>exact absurd (show false=true from hs) z5
 | byt i=>
  obtain⟨t,rfl⟩:=rx
  cases y with
  | byt j=>obtain⟨t',rfl⟩:=ry;exact PySem.W.eq_bytes (Q0 I q c2c)
  | _=>exact absurd (show false=true from hs) z5
 | _=>cases y <;> exact absurd (show false=true from hs) z5
theorem d2C:OpR X (A9 .NotEq) rNe:=by
 intro pins s σ H x y v u Q I rx ry h
 obtain⟨hs,q⟩:=h
 cases x with
 | non=>
  cases rx
  cases y with
  | non=>cases ry;exact PySem.EqNone.ne_none_none (Q0 I q (by simp))
  | bl j=>cases ry;exact PySem.EqNone.ne_none_bool (Q0 I q (by simp))
  | int j=>obtain⟨t',rfl⟩:=ry;exact PySem.EqNone.ne_none_int (Q0 I q (by simp))
  | str j=>obtain⟨t',rfl⟩:=ry;exact PySem.EqNone.ne_none_str (Q0 I q (by simp))
  | _=>exact absurd (show false=true from hs) z5
 | bl i=>
  cases rx
  cases y with
  | non=>cases ry;exact PySem.EqNone.ne_bool_none (Q0 I q (by simp))
  | bl j=>cases ry;exact ne_bool (Q0 I q (congrArg not c6e))
  | str j=>obtain⟨t',rfl⟩:=ry;exact PySem.EqMixed.ne_bool_str (Q0 I q (by simp))
  | _=>exact absurd (show false=true from hs) z5
 | int i=>
  obtain⟨t,rfl⟩:=rx
  cases y with
  | non=>cases ry;exact PySem.EqNone.ne_int_none (Q0 I q (by simp))
  | int j=>obtain⟨t',rfl⟩:=ry;exact ne_int (Q0 I q (congrArg not c2b))
  | str j=>obtain⟨t',rfl⟩:=ry;exact PySem.EqMixed.ne_int_str (Q0 I q (by simp))
  | _=>exact absurd (show false=true from hs) z5
 | str i=>
  obtain⟨t,rfl⟩:=rx
  cases y with
  | non=>cases ry;exact PySem.EqNone.ne_str_none (Q0 I q (by simp))
  | bl j=>cases ry;exact PySem.EqMixed.ne_str_bool (Q0 I q (by simp))
  | int j=>obtain⟨t',rfl⟩:=ry;exact PySem.EqMixed.ne_str_int (Q0 I q (by simp))
  | str j=>obtain⟨t',rfl⟩:=ry;exact ne_str (Q0 I q (congrArg not c2a))
  | _=>exact absurd (show false=true from hs) z5
 | byt i=>
  obtain⟨t,rfl⟩:=rx
  cases y with
  | byt j=>obtain⟨t',rfl⟩:=ry;exact PySem.W.ne_bytes (Q0 I q (congrArg not c2c))
  | _=>exact absurd (show false=true from hs) z5
 | _=>cases y <;> exact absurd (show false=true from hs) z5
theorem d2D:OpR X (A9 .Lt) (rI0 fun i j=>.bl (decide (i<j))):=c7R fun _ _ _ _ _ _ _ q=>lt_int q
theorem d2E:OpR X (A9 .LtE) (rI0 fun i j=>.bl (decide (i<=j))):=c7R fun _ _ _ _ _ _ _ q=>le_int q
theorem d2F:OpR X (A9 .Gt) (rI0 fun i j=>.bl (decide (j<i))):=c7R fun _ _ _ _ _ _ _ q=>gt_int q
theorem d2G:OpR X (A9 .GtE) (rI0 fun i j=>.bl (decide (j<=i))):=c7R fun _ _ _ _ _ _ _ q=>ge_int q
theorem c2V:OpR X (A9 .In) (fun x y H Q=>∃i j,x=.str i/\y=.str j/\Q (.bl (!(Builtin.Str.occurrences j i 0 j.length 1).isEmpty)) H):=by
 intro pins s σ H x y v u Q I rx ry h
 obtain⟨i,j,rfl,rfl,q⟩:=h
 obtain⟨t,rfl⟩:=rx
 obtain⟨t',rfl⟩:=ry
 exact in_str (Q0 I q rfl)
theorem d0J:OpR X (A9 .Is) (fun x y H Q=>y=.non/\Q (.bl (decide (x=.non))) H):=by
 intro pins s σ H x y v u Q I rx ry h
 obtain⟨rfl,q⟩:=h
 cases ry
 refine is_none_gen (Q0 I q ?_)
 cases x <;> first
  | (cases rx;rfl)
  | (obtain⟨t,rfl⟩:=rx;rfl)
theorem c7Q:OpR X (A9 .IsNot) (fun x y H Q=>y=.non/\Q (.bl (!decide (x=.non))) H):=by
 intro pins s σ H x y v u Q I rx ry h
 obtain⟨rfl,q⟩:=h
 cases ry
 refine isnot_none_gen (Q0 I q ?_)
 cases x <;> first
  | (cases rx;rfl)
  | (obtain⟨t,rfl⟩:=rx;rfl)
theorem OpR.or{f:Value->Value->Sem Value}{r r':R2}(h:OpR X f r)(h':OpR X f r'):OpR X f (fun x y H Q=>r x y H Q\/r' x y H Q):=by
 intro pins s σ H x y v u Q I rx ry q
 rcases q with q | q
 ·exact h pins s σ H x y v u Q I rx ry q
 ·exact h' pins s σ H x y v u Q I rx ry q
theorem a7F(b:Expr){op:CmpOp}(h:op≠.In:=by decide)(h2:op≠.NotIn:=by decide):P5 op b=false:=by
 have e1:(op == CmpOp.In)=false:=by cases op <;> first | rfl | exact absurd rfl h
 have e2:(op == CmpOp.NotIn)=false:=by cases op <;> first | rfl | exact absurd rfl h2
 cases b <;> simp[P5,e1,e2]
theorem c7D{op:CmpOp}{r:R2}(ho:OpR X (A9 op) r)(ha:PE X a ta)(hb:PE X b tb)(hm:P5 op b=false):PE X (.Compare a [op] [b] pos) (tOp r ta tb):=by
 intro pins s σ H Q I h
 exact wpAny_Compare1 (d1o ha hb I h fun v u s2 x y H2 I2 rx ry q=>ho pins s2 σ H2 x y v u Q I2 rx ry q) hm
def F2(t:TE):TT:=fun σ H Q=>t σ H fun x H'=>∃k,x=.bl k/\Q k H'
theorem c7l{op:CmpOp}{r:R2}(ho:OpR X (A9 op) r)(ha:PE X a ta)(hb:PE X b tb)(hm:P5 op b=false):PT X (.Compare a [op] [b] pos) (F2 (tOp r ta tb)):=by
 intro pins s σ H Q I h
 refine d1O (thn (ha pins s σ H _ I h) fun v s1 ⟨x,H1,I1,r1,q1⟩=>thn (hb pins s1 σ H1 _ I1 q1) fun u s2 ⟨y,H2,I2,r2,q2⟩=>
  thn (ho pins s2 σ H2 x y v u _ I2 r1 r2 q2) fun c s3 ⟨z,H3,I3,r3,k,e,q3⟩=>?_) hm
 subst e
 cases r3
 exact S0 ⟨H3,I3,q3⟩
def a8v(r r':R2)(ta tb tc:TE):TE:=fun σ H Q=>ta σ H fun x H1=>tb σ H1 fun y H2=>r x y H2 fun z H3=>∃k,z=.bl k /\
 (if k=true then tc σ H3 fun w' H4=>r' y w' H4 Q else Q (.bl false) H3)
theorem c5u{op op':CmpOp}{r r':R2}(ho:OpR X (A9 op) r)(ho':OpR X (A9 op') r')(ha:PE X a ta)(hb:PE X b tb)(hc:PE X c tc)
  (hm:d1R [op,op'] [b,c]=false:=by with_unfolding_all rfl):PE X (.Compare a [op,op'] [b,c] pos) (a8v r r' ta tb tc):=by
 intro pins s σ H Q I h
 refine Compare_chain (thn (ha pins s σ H _ I h) fun v s1 ⟨x,H1,I1,r1,q1⟩=>chain_link (thn (hb pins s1 σ H1 _ I1 q1) fun u s2 ⟨y,H2,I2,r2,q2⟩=>
  thn (ho pins s2 σ H2 x y v u _ I2 r1 r2 q2) fun d s3 ⟨z,H3,I3,r3,k,e,q3⟩=>?_)) hm
 subst e
 cases r3
 refine S0 ?_
 cases k with
 | false=>exact ite_ff ⟨.bl false,H3,I3,rfl,q3⟩
 | true=>exact ite_tt (chain_last (thn (hc pins s3 σ H3 _ I3 q3) fun w' s4 ⟨z',H4,I4,r4,q4⟩=>ho' pins s4 σ H4 y z' u w' Q I4 r2 r4 q4))
theorem c5h{op op':CmpOp}{r r':R2}(ho:OpR X (A9 op) r)(ho':OpR X (A9 op') r')(ha:PE X a ta)(hb:PE X b tb)(hc:PE X c tc)
  (hm:d1R [op,op'] [b,c]=false:=by with_unfolding_all rfl):PT X (.Compare a [op,op'] [b,c] pos) (F2 (a8v r r' ta tb tc)):=by
 intro pins s σ H Q I h
 refine isTrue_chain (thn (ha pins s σ H _ I h) fun v s1 ⟨x,H1,I1,r1,q1⟩=>test_link (thn (hb pins s1 σ H1 _ I1 q1) fun u s2 ⟨y,H2,I2,r2,q2⟩=>
  thn (ho pins s2 σ H2 x y v u _ I2 r1 r2 q2) fun d s3 ⟨z,H3,I3,r3,k,e,q3⟩=>?_)) hm
 subst e
 cases r3
 refine S0 ?_
 cases k with
 | false=>
  obtain⟨k',e',q'⟩:=q3
  cases e'
  exact ite_ff ⟨H3,I3,q'⟩
 | true=>
  refine ite_tt (test_last (thn (hc pins s3 σ H3 _ I3 q3) fun w' s4 ⟨z',H4,I4,r4,q4⟩=>thn (ho' pins s4 σ H4 y z' u w' _ I4 r2 r4 q4) fun d' s5 ⟨z2,H5,I5,r5,k2,e2,q5⟩=>?_))
  subst e2
  cases r5
  exact S0 ⟨H5,I5,q5⟩
theorem b0d:(u6:Nat)<2 ^ 63:=by rw[sizeLine_eq];decide
theorem c0R:OpR X (a1P .Add) (fun x y H Q=>∃i j,x=.str i/\y=.str j/\i.length+j.length<=u6/\Q (.str (i++j)) H):=by
 intro pins s σ H x y v u Q I rx ry h
 obtain⟨i,j,rfl,rfl,hz,q⟩:=h
 obtain⟨t,rfl⟩:=rx
 obtain⟨t',rfl⟩:=ry
 exact add_str (fun t' tk=>⟨.str (i++j),H,I.tok _,⟨_,rfl⟩,q⟩) hz
theorem a4Z{x:V}(r:M3 [x] us):∃u,us=[u]/\K9 x u:=by
 cases r with
 | cons r1 r2=>cases r2;exact⟨_,rfl,r1⟩
theorem b5X{x:V}(r:M3 [x,y] us):∃u w',us=[u,w']/\K9 x u/\K9 y w':=by
 cases r with
 | cons r1 r2=>
  cases r2 with
  | cons r3 r4=>cases r4;exact⟨_,_,rfl,r1,r3⟩
theorem c6p:X5 X (.builtin "abs") (fun xs H Q=>∃i,xs=[.int i]/\Q (.int (if i<0 then -i else i)) H):=by
 intro pins s σ H xs us Q I r h
 obtain⟨i,rfl,q⟩:=h
 obtain⟨u,rfl,t,rfl⟩:=a4Z r
 exact call_abs_int fun u tk=>⟨.int (if i<0 then -i else i),H,I.tok _,⟨_,rfl⟩,q⟩
theorem c3I(hc:X.calm=true):X5 X (.builtin "min") (fun xs H Q=>∃i j,xs=[.int i,.int j]/\Q (.int (if j<i then j else i)) H):=by
 intro pins s σ H xs us Q I r h
 obtain⟨i,j,rfl,q⟩:=h
 obtain⟨u,w',rfl,⟨t,rfl⟩,⟨t',rfl⟩⟩:=b5X r
 refine min_two_ints (I.ok.hd hc) fun h' tk k=>⟨_,H,I.kept k,?_,q⟩
 by_cases hj:j<i
 ·rw[if_pos hj,if_pos hj];exact⟨_,rfl⟩
 ·rw[if_neg hj,if_neg hj];exact⟨_,rfl⟩
theorem c3J:X5 X (.type "int") (fun xs H Q=>(∃i,xs=[.int i]/\Q (.int i) H)\/∃k,xs=[.bl k]/\Q (.int (if k then 1 else 0)) H):=by
 intro pins s σ H xs us Q I r h
 rcases h with ⟨i,rfl,q⟩ | ⟨k,rfl,q⟩
 ·obtain⟨u,rfl,t,rfl⟩:=a4Z r
  exact call_int_int ⟨.int i,H,I,⟨_,rfl⟩,q⟩
 ·obtain⟨u,rfl,r1⟩:=a4Z r
  cases r1
  exact call_int_bool ⟨.int (if k then 1 else 0),H,I.tok _,⟨_,rfl⟩,q⟩
end
structure c1E(h:Heap)(x dx C:Addr)(mA:Str->Option Value):Prop where
 obj:h.get? x=some (a0I C dx)
 ns:h.Ns1 dx mA
 ne:dx≠x
theorem c3i{mA:Str->Option Value}(n:h.Ns1 dx mA):∃od,h.get? dx=some od/\∀name,a9m name od=some (mA name):=by
 obtain⟨o,es,ep,ho,hd,hk,_,hm⟩:=n
 refine⟨o,ho,fun name=>?_⟩
 have e:=hm name
 unfold nsFind findBy at e
 rw[<-Array.find?_toList]at e
 unfold a9m
 rw[hd]
 dsimp only
 split
 ·rename_i y q
  rw[q]at e
  exact congrArg some e
 ·rename_i q
  rw[q]at e
  have a:es.toList.any (·.refKey)=false:=by
   rw[List.any_eq_false]
   intro y hy
   obtain⟨z,t,hkey⟩:=hk y (Array.mem_toList_iff.mp hy)
   simp[DictEntry.refKey,hkey]
  have a':¬es.toList.any (·.refKey)=true:=by rw[a];exact z5
  rw[if_neg a']
  exact congrArg some e
theorem c1E.look{x:Addr}{mA:Str->Option Value}(I:c1E h x dx C mA):∃od,PySem.W.InstAt h x (a0I C dx) C (some od)/\∀name,a9m name od=some (mA name):=
 let⟨od,ho,hl⟩:=c3i I.ns
 ⟨od,⟨I.obj,rfl,rfl,ho⟩,hl⟩
section
variable {prog:D4}{A:R3}{E:Value->k8->Prop}{K:Fg}{x:Addr}{mA:Str->Option Value}{name:Str}{v:Value}
theorem c8u{expr:Bool}(X:K.In s.heap)(I:c1E s.heap x dx C mA)(hg:a4O K C name=true)(hh:a6G K C=true)
  (ha:t6 K (.ref C) name=some none) (hv:mA name=some v) (hv':c6A v=true) (h:Q v { s with toks:=s.toks+1 }) :
  wpAny (model prog w) A (getAttr (.ref x) name expr) Q E s:=by
 obtain⟨od,J,hl⟩:=I.look
 exact PySem.W.get_value X J (b0h hg).1 (PySem.W.findObj_own hh ha rfl (by rw[hl,hv])) hv' h
theorem c5U{pl:Sem Bool}{Q:Value×List Value->k8->Prop}(X:K.In s.heap)(I:c1E s.heap x dx C mA)(hg:a4O K C name=true)
  (hf:t6 K (.ref C) name=some (some (.ref f))) (ht:a8f K (.ref f)=true) (hv:mA name=none) (h:Q (.ref f,[.ref x]) s) :
  wpAny (model prog w) A (b0k (.ref x) name pl) Q E s:=by
 obtain⟨od,J,hl⟩:=I.look
 exact PySem.W.method_fn X J (b0h hg).1 (b0h hg).2 hf (beq_iff_eq.mp ht) (by show(a9m name od).map (·.isSome)=some false;rw[hl,hv];rfl) h
theorem c6S{ns:List Str}{Q:Unit->k8->Prop}(X:K.In s.heap)(I:c1E s.heap x dx C mA)
  (hs:t6 K (.ref C) "__setattr__" = some (some (.builtin "object.__setattr__"))) (hp:b2v K C=true) (ht:b5h K C name=some none) (hh:a6G K C=true)
  (hw:PySem.Within mA ns) (hsz:ns.length<=u6)
  (h:∀h',c1E h' x dx C (fun y=>if y=name then some v else mA y)->Heap.SameBut dx s.heap h'->Q () { s with heap:=h',toks:=s.toks+2 }) :
  wpAny (model prog w) A (setAttr (.ref x) name v) Q E s:=by
 obtain⟨od,J,hl⟩:=I.look
 refine PySem.W.set_plain X J hs (PySem.W.osa_open (s:={ s with toks:=s.toks+1 }) (r:=none) X J hp ht fun b=>?_)
 obtain⟨cd,hc,hd'⟩:=PySem.W.any_some hh
 have hx:s.heap.get? x=some ⟨.ref C,some dx,.plain,#[]⟩:=I.obj
 refine g0 (u5 (g0 (g0 (wpAny_loadPart hx (g0 (PySem.W.Looks.here (s:={ s with toks:=s.toks+1 }) (PySem.W.looks_clsIn X hc) ?_))))))
 rw[hd']
 refine u5 (a:=some dx) (g0 (u5 (g0 ?_)))
 refine wpAny_nsSet1 (s:={ s with toks:=s.toks+1 }) I.ns fun h' hn2 hs2=>?_
 obtain⟨oD,esD,epD,hoD,hdD,hcD⟩:=hn2.count (PySem.Within.cons name v hw)
 refine g0 (wpAny_lookBehind hoD (by rw[hdD];exact pastItsLine_dict (D9 hcD (by rw[C0];omega))) ?_)
 exact u5 (h _ ⟨(hs2.2 _ (Ne.symm I.ne)).trans I.obj,hn2,I.ne⟩ hs2)
theorem c5J{R:c8Q->k8->Prop}{vs:List Value}{kw:List (Str×Value)}(X:K.In s.heap)(hm:a5k K C=true)
  (hi:t6 K (.ref C) "__init__" = some (some (.ref f))) (hf:PySem.W.typeIn K (.ref f)=some (.type "function"))
  (h:a7f (model prog w) (A.under (.builtin "type.__call__" ⟨.ref C::vs,kw⟩)) (.call (.ref f) ⟨.ref (s.heap.objs.size+1)::vs,kw⟩) (PySem.W.InitBack (s.heap.objs.size+1) R)
   { s with heap:=(s.heap.push V8).push (a0I C s.heap.objs.size) }) :
  a7f (model prog w) A (.call (.ref C) ⟨vs,kw⟩) R s:=by
 obtain⟨hh,g,d,t,os⟩:=s
 exact PySem.W.make_core (PySem.W.makes_of X hm) (PySem.W.looks_findIn X hi) (fun self=>PySem.W.bind_fn X self hf) (.inl rfl) h
end
def N3(f:Str)(v:V):List (Str×V)->List (Str×V)
 | []=>[(f,v)]
 | (g,x)::r=>if g=f then (g,v)::r else (g,x)::N3 f v r
theorem b2J(f g:Str)(v:V):∀fs:List (Str×V),(N3 f v fs).lookup g=if g=f then some v else fs.lookup g
 | []=>by
  show a2z g [(f,v)]=_
  by_cases h:g=f
  ·have hb:(g == f)=true:=beq_iff_eq.mpr h
   simp only[a2z,hb,if_pos h]
  ·have hb:(g == f)=false:=beq_eq_false_iff_ne.mpr h
   simp only[a2z,hb,if_neg h]
 | (k,x)::r=>by
  have ih:=b2J f g v r
  rw[show N3 f v ((k,x)::r)=(if k=f then (k,v)::r else (k,x)::N3 f v r)from rfl]
  by_cases hk:k=f
  ·rw[if_pos hk]
   by_cases h:g=k
   ·have hb:(g == k)=true:=beq_iff_eq.mpr h
    simp only[a2z,hb,if_pos (h.trans hk)]
   ·have hb:(g == k)=false:=beq_eq_false_iff_ne.mpr h
    simp only[a2z,hb,if_neg (fun e:g=f=>h (e.trans hk.symm))]
  ·rw[if_neg hk]
   by_cases h:g=k
   ·have hb:(g == k)=true:=beq_iff_eq.mpr h
    simp only[a2z,hb,if_neg (fun e:g=f=>hk (h.symm.trans e))]
   ·have hb:(g == k)=false:=beq_eq_false_iff_ne.mpr h
    simp only[a2z,hb]
    exact ih
theorem b2g(f:Str)(v:V):∀fs:List (Str×V),f∈(N3 f v fs).map (·.1)/\∀g,g∈fs.map (·.1)->g∈(N3 f v fs).map (·.1)
 | []=>⟨by simp[N3],fun g h=>by simp at h⟩
 | (k,x)::r=>by
  obtain⟨i1,i2⟩:=b2g f v r
  rw[show N3 f v ((k,x)::r)=(if k=f then (k,v)::r else (k,x)::N3 f v r)from rfl]
  by_cases hk:k=f
  ·rw[if_pos hk]
   subst hk
   exact⟨by simp,fun g h=>by simpa using h⟩
  ·rw[if_neg hk]
   refine⟨?_,fun g h=>?_⟩
   ·rw[B8]
    exact G7 _ i1
   ·rw[B8]at h ⊢
    rcases o4.mp h with e | e
    ·exact o4.mpr (.inl e)
    ·exact G7 _ (i2 g e)
theorem b2L(f:Str)(v:V):∀fs:List (Str×V),(N3 f v fs).length<=fs.length+1
 | []=>by simp[N3]
 | (k,x)::r=>by
  have ih:=b2L f v r
  rw[show N3 f v ((k,x)::r)=(if k=f then (k,v)::r else (k,x)::N3 f v r)from rfl]
  by_cases hk:k=f
  ·rw[if_pos hk,C0,C0];omega
  ·rw[if_neg hk,C0,C0];omega
theorem a9k.some_of{o:Option Value}(r:a9k (some v) o):∃u,o=some u/\K9 v u:=by
 cases o with
 | none=>exact(show False from r).elim
 | some u=>exact⟨u,rfl,r⟩
theorem a9k.none_of{o:Option Value}(r:a9k none o):o=none:=by
 cases o with
 | none=>rfl
 | some u=>exact(show False from r).elim
theorem c3r(r:K9 v u):c6A u=true:=by
 cases v with
 | non=>cases (show u=Value.none from r);rfl
 | bl b=>cases (show u=Value.bool b from r);rfl
 | int i=>obtain⟨t,e⟩:=(show ∃t,u=Value.int i t from r);cases e;rfl
 | str x=>obtain⟨t,e⟩:=(show ∃t,u=Value.str x t from r);cases e;rfl
 | byt b=>obtain⟨t,e⟩:=(show ∃t,u=Value.bytes b t from r);cases e;rfl
 | flt b=>obtain⟨t,e⟩:=(show ∃t,u=Value.float b t from r);cases e;rfl
 | ref a=>cases (show u=Value.ref a from r);rfl
 | ty n=>cases (show u=Value.type n from r);rfl
section
variable {P:D4}{fs fs':List (Str×V)}
theorem b3z(hok:HOk P w H h)(e:H a=some (.ins C dx fs)):∃mA,c1E h a dx C mA/\(∀f,a9k (fs.lookup f) (mA f))/\PySem.Within mA (fs.map (·.1))/\fs.length<=1000/\H dx=some (.own a):=by
 obtain⟨d,z,ne,ob,mA,n,r,q⟩:=(show Z4 P w H h a (.ins C dx fs)from hok a _ e)
 exact⟨mA,⟨ob,n,ne⟩,r,q,z,d⟩
end
structure Cls(K:Fg)(C:Addr):Prop where
 pg:a4O K C Str.empty=true
 hd:a6G K C=true
 po:b2v K C=true
 sa:t6 K (.ref C) "__setattr__" = some (some (.builtin "object.__setattr__"))
theorem Cls.get{K:Fg}(c:Cls K C)(f:Str):a4O K C f=true:=c.pg
def V3(K:Fg)(C:Addr)(f:Str):Prop:=t6 K (.ref C) f=some none
theorem V3.taker{K:Fg}{f:Str}(n:V3 K C f):b5h K C f=some none:=by
 unfold b5h
 rw[show t6 K (.ref C) f=some none from n]
 rfl
structure Con(K:Fg)(C:Addr)(f:Str)(v:V)(u:Value):Prop where
 at_:t6 K (.ref C) f=some (some u)
 rel:K9 v u
 get:a6F K u "__get__" = some none
 cp:PySem.W.copiedNames.contains f=false
structure c8I(K:Fg)(C:Addr)(m:Str)(f:Addr):Prop where
 at_:t6 K (.ref C) m=some (some (.ref f))
 fn:a8f K (.ref f)=true
 kp:V7 K (.ref f)=true
section
variable {fs:List (Str×V)}{f:Str}{A:R3}{E:Value->k8->Prop}
theorem c1k{b:Bool}(I:Inv X pins σ H s)(e:H a=some (.ins C dx fs))(c:Cls X.K C)(n:V3 X.K C f)(l:fs.lookup f=some v)
  (h:∀u s',Inv X pins σ H s'->K9 v u->Q u s'):wpAny (model X.prog X.w) A (getAttr (.ref a) f b) Q E s:=by
 obtain⟨mA,O,r,_,_,_⟩:=b3z I.hok e
 obtain⟨u,hu,ru⟩:=a9k.some_of (v:=v) (o:=mA f) (by rw[<-l];exact r f)
 exact c8u I.kIn O (c.get f) c.hd n hu (c3r ru) (h u _ (I.tok _) ru)
theorem b4Q{m:Str}{g:Addr}{pl:Sem Bool}{Q:Value×List Value->k8->Prop}(I:Inv X pins σ H s)(e:H a=some (.ins C dx fs))(c:Cls X.K C)(k:c8I X.K C m g)(l:fs.lookup m=none)
  (h:Q (.ref g,[.ref a]) s):wpAny (model X.prog X.w) A (b0k (.ref a) m pl) Q E s:=by
 obtain⟨mA,O,r,_,_,_⟩:=b3z I.hok e
 have hn:mA m=none:=a9k.none_of (by rw[<-l];exact r m)
 exact c5U I.kIn O (c.get m) k.at_ k.fn hn h
theorem c0j{Q:Unit->k8->Prop}(I:Inv X pins σ H s)(e:H a=some (.ins C dx fs))(c:Cls X.K C)(n:V3 X.K C f)(hl:fs.length<1000)(ry:K9 y u)
  (h:∀s',Inv X pins σ (upd H a (.ins C dx (N3 f y fs))) s'->Q () s'):wpAny (model X.prog X.w) A (setAttr (.ref a) f u) Q E s:=by
 obtain⟨mA,O,r,wi,_,ho⟩:=b3z I.hok e
 have hz:(fs.map (·.1)).length<=u6:=by rw[b5,sizeLine_eq];omega
 refine c6S I.kIn O c.sa c.po n.taker c.hd wi hz fun h' O' sb=>h _ ?_
 have hd:∃o,h'.get? dx=some o:=let⟨o,_,_,e',_⟩:=O'.ns; ⟨o,e'⟩
 refine I.write (x:=a) (e:=dx) (by rw[e];exact True.intro) (.inr ho) (fun b q hb z=>(sb.2 b hb).trans z) hd ?_
 refine⟨by rw[g9 O.ne];exact ho,?_,O.ne,O'.obj,_,O'.ns,fun g=>?_,fun g hg=>?_⟩
 ·have:=b2L f y fs;omega
 ·show a9k ((N3 f y fs).lookup g) (if g=f then some u else mA g)
  rw[b2J]
  by_cases q:g=f
  ·rw[if_pos q,if_pos q];exact ry
  ·rw[if_neg q,if_neg q];exact r g
 ·by_cases q:g=f
  ·rw[q];exact(b2g f y fs).1
  ·refine(b2g f y fs).2 g (wi g fun z=>hg ?_)
   show(if g=f then some u else mA g)=none
   rw[if_neg q];exact z
theorem Inv.made(I:Inv X pins σ H s):Inv X pins σ (upd (upd H s.heap.objs.size (.own (s.heap.objs.size+1))) (s.heap.objs.size+1) (.ins C s.heap.objs.size []))
  { s with heap:=(s.heap.push V8).push (a0I C s.heap.objs.size) }:=by
 have e1:(s.heap.push V8).get? s.heap.objs.size=some V8:=A8 s.heap rfl
 have e2:((s.heap.push V8).push (a0I C s.heap.objs.size)).get? (s.heap.objs.size+1)=some (a0I C s.heap.objs.size):=by
  have:=A8 (s.heap.push V8) (o:=a0I C s.heap.objs.size) rfl
  rwa [d1L]at this
 have e3:(s.heap.push V8).Ns s.heap.objs.size (fun _=>none):=⟨V8,#[],_,e1,rfl,(fun e he=>absurd he (by simp)),fun _=>rfl⟩
 have I1:=I.laid (a:=s.heap.objs.size) (o:=.own (s.heap.objs.size+1)) (h':=s.heap.push V8) (t':=s.toks) (fun b u q=>i8 _ q) (j5 _) ⟨_,e1⟩
 refine I1.laid (a:=s.heap.objs.size+1) (o:=.ins C s.heap.objs.size []) (t':=s.toks) (fun b u q=>i8 _ q) (Nat.le_of_eq (d1L _ _)) ?_
 have ne:s.heap.objs.size≠s.heap.objs.size+1:=A0 (d1C _)
 refine⟨by rw[g9 ne,c8],R8 _,ne,e2,fun _=>none,(Heap.Ns1.of_empty e3).at fun o q=>i8 _ q,fun _=>True.intro,fun y hy=>absurd rfl hy⟩
theorem c8C{prog:D4}{env:Env}(hb:a2w e f env (eval e env)=eval e env)
  (h:wpAny (model prog w) A (eval e env) (fun o s₁=>wpAny (model prog w) A (getAttr o f true) Q E s₁) E s):wpAny (model prog w) A (eval (.Attribute e f pos) env) Q E s:=
 Attribute_any_ h (by rw[arm_eval_Attribute,hb])
end
def Z1(K:Fg)(ta:TE)(f:Str):TE:=fun σ H Q=>ta σ H fun x H1=>∃a C dx fs v,x=.ref a/\H1 a=some (.ins C dx fs)/\Cls K C/\V3 K C f/\fs.lookup f=some v/\Q v H1
def a5h(K:Fg)(ta tv:TE)(f:Str):TS:=fun D σ H=>tv σ H fun y H1=>ta σ H1 fun x H2=>∃a C dx fs,x=.ref a/\H2 a=some (.ins C dx fs)/\Cls K C/\V3 K C f/\fs.length<1000 /\
 D.nx σ (upd H2 a (.ins C dx (N3 f y fs)))
section
variable {o value:Expr}{f:Str}{tpos:Pos}{tv:TE}
theorem d0s(he:PE X e ta)(hb:a2w e f X.env (eval e X.env)=eval e X.env):PE X (.Attribute e f pos) (Z1 X.K ta f):=by
 intro pins s σ H Q I h
 refine c8C hb (thn (he pins s σ H _ I h) fun u s1 ⟨x,H1,I1,rx,a,C,dx,fs,v,ex,ea,c,n,l,q⟩=>?_)
 subst ex
 obtain rfl:u=Value.ref a:=rx
 exact c1k I1 ea c n l fun u' s2 I2 ru=>⟨v,H1,I2,ru,q⟩
theorem d0c(ha:PE X o ta)(hv:PE X value tv)(hs:a3o value (some (.Attribute o f pos')) pos.line X.env=pure false):PS X (.Assign [.Attribute o f pos'] value pos) (a5h X.K ta tv f):=by
 intro pins s σ H D I h
 refine plainObj_wpAny_Assign_Attribute (thn (hv pins s σ H _ I h) fun u s1 ⟨y,H1,I1,ry,q⟩=>thn (ha pins s1 σ H1 _ I1 q) fun ov s2 ⟨x,H2,I2,rx,a,C,dx,fs,ex,ea,c,n,l,q2⟩=>?_) hs
 subst ex
 obtain rfl:ov=Value.ref a:=rx
 exact c0j I2 ea c n l ry fun s3 I3=>⟨σ,_,I3,q2⟩
end
section
variable {A:R3}{E:Value->k8->Prop}{c:Value}{b:Bool}
inductive b2u(K:Fg)(H:Hp):V->Value->Prop where
 | non:b2u K H .non (.type "NoneType")
 | bl (x:Bool):b2u K H (.bl x) (.type "bool")
 | int (i:Int):b2u K H (.int i) (.type "int")
 | str (x:Str):b2u K H (.str x) (.type "str")
 | flt (x:UInt64):b2u K H (.flt x) (.type "float")
 | lst {a:Addr} {xs:List V} (e:H a=some (.lst xs)):b2u K H (.ref a) (.type "list")
 | frz {a:Addr} {o:Obj} {xs:List V} (e:H a=some (.frz o (.lst xs))):b2u K H (.ref a) (.type "list")
 | tup {a:Addr} {xs:List V} (e:H a=some (.tup xs)):b2u K H (.ref a) (.type "tuple")
 | dK {a:Addr} {kvs:List (Key×V)} (e:H a=some (.dK kvs)):b2u K H (.ref a) (.type "dict")
 | dT {a:Addr} {kvs:List (List Key×V)} (e:H a=some (.dT kvs)):b2u K H (.ref a) (.type "dict")
 | ins {a C dx:Addr} {fs:List (Str×V)} (e:H a=some (.ins C dx fs)) (cl:Cls K C) (ha:t6 K (.ref C) "__class__" = some (some (.builtin "object.__class__")))
   (hn:a6F K (.builtin "object.__class__") "__get__" = some (some (.builtin "getset_descriptor.__get__"))) (htk:b5g K (.builtin "object.__class__")=some true)
   (hm:b7Y K C (.type "object")=some true):b2u K H (.ref a) (.ref C)
theorem b6p{x:V}{t:Value}(I:Inv X pins σ H s)(rx:K9 x u)(ty:b2u X.K H x t)(e:a9n X.K t c=some b)(h:∀tk,Q (.bool b) { s with toks:=tk }) :
  wpAny (model X.prog X.w) A (call (.builtin "isinstance") [u,c]) Q E s:=by
 cases ty with
 | non=>cases (show u=Value.none from rx);exact P0 PySem.W.kitx_none I.kIn True.intro e (fun z=>nomatch z) h
 | bl y=>cases (show u=Value.bool y from rx);exact P0 PySem.W.kitx_bool I.kIn True.intro e (fun z=>nomatch z) h
 | int i=>obtain⟨t,q⟩:=(show ∃t,u=Value.int i t from rx);cases q;exact P0 PySem.W.kitx_int I.kIn True.intro e (fun z=>nomatch z) h
 | str y=>obtain⟨t,q⟩:=(show ∃t,u=Value.str y t from rx);cases q;exact P0 PySem.W.kitx_str I.kIn True.intro e (fun z=>nomatch z) h
 | flt y=>obtain⟨t,q⟩:=(show ∃t,u=Value.float y t from rx);cases q;exact P0 PySem.W.kitx_float I.kIn True.intro e (fun z=>nomatch z) h
 | @lst a xs ea=>
  cases (show u=Value.ref a from rx)
  obtain⟨_,_,n,_,h1⟩:=(show Z4 X.prog X.w H s.heap a (.lst xs)from I.hok a _ ea)
  exact P0 c3W I.kIn ⟨_,h1,rfl⟩ e (fun z=>nomatch z) h
 | @frz a ob xs ea=>
  cases (show u=Value.ref a from rx)
  obtain⟨_,_,_,n,_,h1⟩:=(show Z4 X.prog X.w H s.heap a (.frz ob (.lst xs))from I.hok a _ ea)
  exact P0 c3W I.kIn ⟨_,h1,rfl⟩ e (fun z=>nomatch z) h
 | @tup a xs ea=>
  cases (show u=Value.ref a from rx)
  obtain⟨_,_,_,p⟩:=(show Z4 X.prog X.w H s.heap a (.tup xs)from I.hok a _ ea)
  obtain⟨o,h1,h2,_⟩:=p
  exact P0 c3O I.kIn ⟨o,h1,h2⟩ e (fun z=>nomatch z) h
 | @dK a kvs ea=>
  cases (show u=Value.ref a from rx)
  obtain⟨_,_,vs,_,p⟩:=(show Z4 X.prog X.w H s.heap a (.dK kvs)from I.hok a _ ea)
  obtain⟨o,es,ep,h1,h2,_⟩:=p
  exact P0 c3X I.kIn ⟨o,h1,h2.1⟩ e (fun z=>nomatch z) h
 | @dT a kvs ea=>
  cases (show u=Value.ref a from rx)
  obtain⟨_,_,xs,_,o,es,ep,h1,h2,_⟩:=(show Z4 X.prog X.w H s.heap a (.dT kvs)from I.hok a _ ea)
  exact P0 c3X I.kIn ⟨o,h1,h2.1⟩ e (fun z=>nomatch z) h
 | @ins a C dx fs ea cl ha hn htk hm=>
  cases (show u=Value.ref a from rx)
  obtain⟨mA,O,_⟩:=b3z I.hok ea
  obtain⟨od,J,_⟩:=O.look
  exact P0 (PySem.W.kitx_own (cl.get _) cl.hd ha hn htk hm) I.kIn J e (fun z=>nomatch z) h
end
structure V6(k:Nat)(A:R3):Prop where
 hd:A.handled=none
 dp:A.depth+3 * k+5<recursionLimit
 un:A.units+16 * k+200<cLine
theorem V6.mono{j k:Nat}{A:R3}(r:V6 k A)(h:j<=k):V6 j A:=⟨r.hd,by have:=r.dp;omega,by have:=r.un;omega⟩
theorem V6.deeper{k:Nat}{A:R3}(r:V6 (k+1) A)(env:Env):V6 k (A.deeper env):=
 ⟨r.hd,by have:=r.dp;show A.depth+1+3 * k+5<_;omega,by have:=r.un;show A.units+3+16 * k+200<_;omega⟩
theorem c1f{A:R3}{kw:List (Str×Value)}:(A.under (.builtin "type.__call__" ⟨.ref C::us,kw⟩)).depth=A.depth+1:=by
 first | rfl | simp[Around.under,Code.weight,Code.isCreation,Code.isGuard,Code.isCaller,Code.frames,Code.isFrame,guardIds]
theorem c1d{A:R3}{kw:List (Str×Value)}:(A.under (.builtin "type.__call__" ⟨.ref C::us,kw⟩)).units=A.units+1:=by
 first | rfl | simp[Around.under,Code.cUnits,Code.frames,Code.isFrame]
theorem V6.make{k:Nat}{A:R3}(r:V6 (k+1) A)(C:Addr)(us:List Value)(kw:List (Str×Value)):V6 k (A.under (.builtin "type.__call__" ⟨.ref C::us,kw⟩)):=
 ⟨r.hd,by have:=r.dp;rw[c1f];omega,by have:=r.un;rw[c1d];omega⟩
theorem V6.depth{k:Nat}{A:R3}(r:V6 k A):A.depth<recursionLimit:=by have:=r.dp;omega
theorem V6.units{k:Nat}{A:R3}(r:V6 k A):A.units+64<cLine:=by have:=r.un;omega
theorem V6.units0{k:Nat}{A:R3}(r:V6 k A):A.units<cLine:=by have:=r.un;omega
def g8:TA:=fun _ H Q=>Q [] H
def b4(ta:TE)(tr:TA):TA:=fun σ H Q=>ta σ H fun x H1=>tr σ H1 fun xs H2=>Q (x::xs) H2
section
variable {t:TA}
theorem d0w:PA X [] g8:=fun _ _ _ _ H Q I h=>Calls.spliced_nil ⟨[],H,I,.nil,h⟩
theorem c7G(ha:PE X e te)(hr:PA X es t)(hs:l9 (e::es) X.env=(false,eval e X.env)::l9 es X.env:=by rfl):PA X (e::es) (b4 te t):=by
 intro pos pins s σ H Q I h
 rw[hs]
 show wpAny _ _ (spliced ((false,eval e X.env)::a1f pos (l9 es X.env))) _ _ s
 refine Calls.spliced_cons (thn (ha pins s σ H _ I h) fun u s1 ⟨x,H1,I1,r1,q1⟩=>?_)
 exact thn (hr pos pins s1 σ H1 _ I1 q1) fun us s2 ⟨xs,H2,I2,r2,q2⟩=>⟨x::xs,H2,I2,.cons r1 r2,q2⟩
def a4H(t:TA):TE:=fun σ H Q=>t σ H fun xs H1=>xs.length<=u6/\∀p,H1 p=none->Q (.ref p) (upd H1 p (.tup xs))
def a2x(t:TA):TE:=fun σ H Q=>t σ H fun xs H1=>xs.length<=u6/\∀p,H1 p=none->Q (.ref p) (upd H1 p (.lst xs))
theorem d0j{x1}(h:PA X es t):PE X (.Tuple es x1 pos) (a4H t):=by
 intro pins s σ H Q I hq
 refine wpAny_Tuple_spliced (thn (h pos pins s σ H _ I hq) fun us s1 ⟨xs,H1,I1,r,z,q⟩=>⟨by rw[<-r.length];exact z,?_⟩)
 have hf:H1 s1.heap.objs.size=none:=I1.hok.fresh (j5 _)
 refine⟨.ref s1.heap.objs.size,upd H1 s1.heap.objs.size (.tup xs),I1.laid (t':=s1.toks) (fun b u e=>i8 _ e) (j5 _) ?_,rfl,q _ hf⟩
 exact⟨z,us,r,⟨_,A8 _ rfl,rfl,_,rfl⟩⟩
theorem d0q(h:PA X es t):PE X (.List es pos) (a2x t):=by
 intro pins s σ H Q I hq
 refine wpAny_List_spliced (thn (h pos pins s σ H _ I hq) fun us s1 ⟨xs,H1,I1,r,z,q⟩=>⟨by rw[<-r.length];exact z,?_⟩)
 have hf:H1 s1.heap.objs.size=none:=I1.hok.fresh (j5 _)
 refine⟨.ref s1.heap.objs.size,upd H1 s1.heap.objs.size (.lst xs),I1.laid (t':=s1.toks) (fun b u e=>i8 _ e) (j5 _) ?_,rfl,q _ hf⟩
 exact⟨z,us,0,r,A8 _ rfl⟩
end
abbrev Sp:=List V->Hp->VK->XK->Prop
abbrev CXT:=List Env->Hp->k8->XK->Value->k8->Prop
variable{CX:CXT}
structure c1F(P:D4)(w:World)(K:Fg)(mg:Str->Option Value)(base:Heap)(A:R3)(outer:List Env)(s:k8)(H:Hp):Prop where
 frames:A.frames=some outer
 mod:Mod K mg base
 bs:∀b o,base.get? b=some o->s.heap.get? b=some o/\H b=none
 bsz:base.objs.size<=s.heap.objs.size
 funs:s.heap.FunFrames base outer
 frf:∀b∈frs outer,H b=none
 hok:HOk P w H s.heap
 bare:b6B s.gens
def CE(outer:List Env)(P:D4)(w:World)(H:Hp)(s:k8)(Q:VK)(u:Value)(s':k8):Prop:=
 ∃v H',s'.os=s.os/\b6B s'.gens/\Un (frs outer) [] H H' s.heap s'.heap/\HOk P w H' s'.heap/\K9 v u/\Q v H'
def CR(CX:CXT)(outer:List Env)(P:D4)(w:World)(H:Hp)(s:k8)(Q:VK)(E:XK)(r:c8Q)(s':k8):Prop:=
 match r with
 | .ok (.ret u)=>CE outer P w H s Q u s'
 | .ok _=>False
 | .error e=>CX outer H s E e s'
structure F7(P:D4)(w:World)(K:Fg)(mg:Str->Option Value)(base:Heap)(CX:CXT)(k:Nat)(f:Addr)(fd:a0w)(ps:List Str)(sp:Sp):Prop where
 len:∀vs H Q E,sp vs H Q E->vs.length=ps.length
 run:∀(A:R3) (outer:List Env) (s:k8) (H:Hp) (args:Args) (us:List Value) (vs:List V) (Q:VK) (E:XK),V6 k A->c1F P w K mg base A outer s H->c4e s fd args (ps.zip us)->M3 vs us->sp vs H Q E ->
  a7f (model P w) A (.call (.ref f) args) (CR CX outer P w H s Q E) s
theorem c1F.make{P:D4}{K:Fg}{mg:Str->Option Value}{base:Heap}{A:R3}{outer:List Env}(e:c1F P w K mg base A outer s H)(C:Addr)(us:List Value)(kw:List (Str×Value)) :
  c1F P w K mg base (A.under (.builtin "type.__call__" ⟨.ref C::us,kw⟩)) outer s H:=⟨by first | exact e.frames | (simpa[Around.under,Code.envs,Code.isFrame,pushEnvs]using e.frames),e.mod,e.bs,e.bsz,e.funs,e.frf,e.hok,e.bare⟩
section
variable {s':k8}
theorem Inv.env0(I:Inv X pins σ H s):c1F X.prog X.w X.K X.mg X.base X.A X.stack s H:=
 ⟨I.ok.frames,I.ok.mod,I.bs,D9 I.ok.bsz I.sz,I.stack,I.stkFree,I.hok,I.bare⟩
theorem Inv.after{Q:VK}(I:Inv X pins σ H s)(h:CE X.stack X.prog X.w H s Q u s'):EP X pins σ Q u s':=by
 obtain⟨v,H',os,bare,un,hok,r,q⟩:=h
 obtain⟨hh,g,d,t,os'⟩:=s'
 obtain rfl:os'=s.os:=os
 exact⟨v,H',I.call (h':=hh) (g':=g) (d':=d) (t':=t) (ch:=[]) un hok bare (fun b z=>absurd z (by simp)),r,q⟩
end
def w4(sp:Sp)(dvs:List V)(E:XK)(t:TA):TE:=fun σ H Q=>t σ H fun vs H1=>sp (vs++dvs) H1 Q E
def W0(C:Addr)(m:Str)(sp:Sp)(dvs:List V)(E:XK)(ta:TE)(t:TA):TE:=fun σ H Q=>ta σ H fun x H1=>∃a dx fs,x=.ref a/\H1 a=some (.ins C dx fs)/\fs.lookup m=none /\
 t σ H1 fun vs H2=>sp (x::(vs++dvs)) H2 Q E
def a5x(C:Addr)(sp:Sp)(dvs:List V)(E:XK)(t:TA):TE:=fun σ H Q=>t σ H fun vs H1=>∀x dx,H1 x=none->H1 dx=none->dx≠x ->
 sp (.ref x::(vs++dvs)) (upd (upd H1 dx (.own x)) x (.ins C dx [])) (fun v H2=>v=.non/\Q (.ref x) H2) E
def a5Q(K:Fg)(fd:a0w)(ps:List Str)(ds:List Value):Prop:=
 ∀(s:k8) (us:List Value),K.In s.heap->(us++ds).length=ps.length->c4e s fd ⟨us,[]⟩ (ps.zip (us++ds))
theorem a5Q.all{K:Fg}{fd:a0w}(h:∀us:List Value,us.length=ps.length->bindArgs fd ⟨us,[]⟩=pure (ps.zip us)):a5Q K fd ps []:=fun s us _ hl=>by
 rw[P7]at hl ⊢
 exact .of_eq (h us hl)
def b0f(CX:CXT)(X:Cx)(E:XK):Prop:=∀(pins:List (Addr×Obj)) (σ:St) (H:Hp) (s:k8) (e:Value) (s':k8),Inv X pins σ H s->CX X.stack H s E e s'->X.xe e s'
section
variable {k:Nat}{fd:a0w}{sp:Sp}{dvs:List V}{ds:List Value}{E:XK}{x m:Str}{apos:Pos}{o:Expr}{t:TA}
theorem c0A{Q:VK}{vs:List V}(F:F7 X.prog X.w X.K X.mg X.base CX k f fd ps sp)(hr:V6 k X.A)(hb:a5Q X.K fd ps ds)(hd:M3 dvs ds)(hx:b0f CX X E)
  (I:Inv X pins σ H s) (r:M3 vs us) (h:sp (vs++dvs) H Q E):wpAny (model X.prog X.w) X.A (call (.ref f) us) (EP X pins σ Q) X.xe s:=by
 have r2:M3 (vs++dvs) (us++ds):=r.append hd
 have hl:(us++ds).length=ps.length:=by rw[<-r2.length];exact F.len _ _ _ _ h
 refine wpAny_call (c1J (F.run X.A X.stack s H ⟨us,[]⟩ (us++ds) (vs++dvs) Q E hr I.env0 (hb s us I.kIn hl) r2 h) fun r s' hq=>?_)
 cases r with
 | error e=>exact hx pins σ H s e s' I hq
 | ok fl=>
  cases fl with
  | ret u=>exact I.after hq
  | next=>exact False.elim hq
  | brk=>exact False.elim hq
  | cont=>exact False.elim hq
theorem c7E(F:F7 X.prog X.w X.K X.mg X.base CX k f fd ps sp)(hr:V6 k X.A)(hg:Gl X x)(hm:X.mg x=some (.ref f))(hk:V7 X.K (.ref f)=true)(hb:a5Q X.K fd ps ds)(hd:M3 dvs ds)(hx:b0f CX X E)
  (ha:PA X (e::es) t) (hdb:(x == ("__debug__" : Str))=false:=by decide) (he:l9 (e::es) X.env=(false,eval e X.env)::l9 es X.env:=by rfl) (hpl:(a1f pos (l9 es X.env)).any (·.1)=false:=by rfl) :
  PE X (.Call (.Name x p) (e::es) [] pos) (w4 sp dvs E t):=by
 intro pins s σ H Q I h
 refine a9q (b7t I hg hm ?_ hdb)
 refine b1o (h₀:=X.base) I.ok.mod.kin hk (thn (ha pos pins s σ H _ I h) fun us s1 ⟨vs,H1,I1,r,q⟩=>⟨I1.kIn,?_⟩) he hpl
 exact c0A F hr hb hd hx I1 r q
theorem c7y{pl:Sem Bool}(he:PE X o ta)(c:Cls X.K C)(hm:c8I X.K C m f)(F:F7 X.prog X.w X.K X.mg X.base CX k f fd ps sp)(hr:V6 k X.A)(hb:a5Q X.K fd ps ds)(hd:M3 dvs ds)(hx:b0f CX X E)(ha:PA X (e::es) t)
  (hst:l9 (e::es) X.env=(false,eval e X.env)::l9 es X.env:=by rfl) (hpl:(a1f pos (l9 es X.env)).any (·.1)=false:=by rfl)
  (ht:eval (.Call (.Attribute o m apos) (e::es) [] pos) X.env=(do
   let ov <-eval o X.env
   b3F apos.atName
   let(f,first) <-a4c [ov] (b0k ov m pl)
   c3V pos f first (a1f pos (l9 (e::es) X.env)) (a9r pos (a3p [] X.env))):=by rfl) :
  PE X (.Call (.Attribute o m apos) (e::es) [] pos) (W0 C m sp dvs E ta t):=by
 intro pins s σ H Q I h
 refine b9Q (pl:=pl) (thn (he pins s σ H _ I h) fun u s1 ⟨x,H1,I1,rx,a,dx,fs,ex,ea,l,q⟩=>?_) ht
 subst ex
 obtain rfl:u=Value.ref a:=rx
 refine b4Q I1 ea c hm l ?_
 refine b1o (first:=[.ref a]) (h₀:=X.base) I.ok.mod.kin hm.kp (thn (ha pos pins s1 σ H1 _ I1 q) fun us s2 ⟨vs,H2,I2,r,q2⟩=>⟨I2.kIn,?_⟩) hst hpl
 exact c0A (us:=.ref a::us) (vs:=.ref a::vs) F hr hb hd hx I2 (.cons rfl r) q2
theorem c5p{pl:Sem Bool}(he:PE X o ta)(c:Cls X.K C)(hm:c8I X.K C m f)(F:F7 X.prog X.w X.K X.mg X.base CX k f fd ps sp)(hr:V6 k X.A)(hb:a5Q X.K fd ps ds)(hd:M3 dvs ds)(hx:b0f CX X E)
  (ht:eval (.Call (.Attribute o m apos) [] [] pos) X.env=(do
   let ov <-eval o X.env
   b3F apos.atName
   let(f,first) <-a4c [ov] (b0k ov m pl)
   c3V pos f first (a1f pos (l9 [] X.env)) (a9r pos (a3p [] X.env))):=by rfl) :
  PE X (.Call (.Attribute o m apos) [] [] pos) (W0 C m sp dvs E ta g8):=by
 intro pins s σ H Q I h
 refine b9Q (pl:=pl) (thn (he pins s σ H _ I h) fun u s1 ⟨x,H1,I1,rx,a,dx,fs,ex,ea,l,q⟩=>?_) ht
 subst ex
 obtain rfl:u=Value.ref a:=rx
 refine b4Q I1 ea c hm l ?_
 exact PySem.W.callWith_K0 (first:=[.ref a]) I1.kIn hm.kp (c0A (us:=[.ref a]) (vs:=[.ref a]) F hr hb hd hx I1 (.cons rfl .nil) q)
structure Mk(K:Fg)(C f:Addr):Prop where
 makes:a5k K C=true
 init:t6 K (.ref C) "__init__" = some (some (.ref f))
 fn:a8f K (.ref f)=true
 kp:V7 K (.ref C)=true
theorem c4T{Q:VK}{vs:List V}(M:Mk X.K C f)(F:F7 X.prog X.w X.K X.mg X.base CX k f fd ps sp)(hr:V6 (k+1) X.A)(hb:a5Q X.K fd ps ds)(hd:M3 dvs ds)
  (hx:b0f CX X E) (I:Inv X pins σ H s) (r:M3 vs us)
  (h:∀x dx,H x=none->H dx=none->dx≠x->sp (.ref x::(vs++dvs)) (upd (upd H dx (.own x)) x (.ins C dx [])) (fun v H2=>v=.non/\Q (.ref x) H2) E) :
  wpAny (model X.prog X.w) X.A (call (.ref C) us) (EP X pins σ Q) X.xe s:=by
 have hq:=h (s.heap.objs.size+1) s.heap.objs.size (I.hok.fresh (c6B _)) (I.hok.fresh (j5 _)) (A0 (d1C _))
 have I2:=Inv.made (C:=C) I
 have r2:M3 (V.ref (s.heap.objs.size+1)::(vs++dvs)) (Value.ref (s.heap.objs.size+1)::(us++ds)):=.cons rfl (r.append hd)
 have hl:(Value.ref (s.heap.objs.size+1)::us++ds).length=ps.length:=by
  have e:=r2.length
  rw[F.len _ _ _ _ hq]at e
  exact e.symm
 refine wpAny_call (c5J (f:=f) I.kIn M.makes M.init (beq_iff_eq.mp M.fn) (c1J (F.run _ X.stack _ _ ⟨Value.ref (s.heap.objs.size+1)::us,[]⟩ (Value.ref (s.heap.objs.size+1)::(us++ds)) _ _ E (hr.make C us [])
  (I2.env0.make C us []) (hb _ (Value.ref (s.heap.objs.size+1)::us) I2.kIn hl) r2 hq) fun r s' hq'=>?_))
 cases r with
 | error e=>exact hx pins σ _ _ e s' I2 hq'
 | ok fl=>
  cases fl with
  | ret u=>
   obtain⟨v,H',I3,rv,ev,q3⟩:=I2.after hq'
   subst ev
   exact⟨rv,⟨V.ref (s.heap.objs.size+1),H',I3,rfl,q3⟩⟩
  | next=>exact False.elim hq'
  | brk=>exact False.elim hq'
  | cont=>exact False.elim hq'
theorem c7z(M:Mk X.K C f)(F:F7 X.prog X.w X.K X.mg X.base CX k f fd ps sp)(hr:V6 (k+1) X.A)(hg:Gl X x)(hm:X.mg x=some (.ref C))(hb:a5Q X.K fd ps ds)(hd:M3 dvs ds)(hx:b0f CX X E)
  (ha:PA X (e::es) t) (hdb:(x == ("__debug__" : Str))=false:=by decide) (he:l9 (e::es) X.env=(false,eval e X.env)::l9 es X.env:=by rfl) (hpl:(a1f pos (l9 es X.env)).any (·.1)=false:=by rfl) :
  PE X (.Call (.Name x p) (e::es) [] pos) (a5x C sp dvs E t):=by
 intro pins s σ H Q I h
 refine a9q (b7t I hg hm ?_ hdb)
 refine b1o (h₀:=X.base) I.ok.mod.kin M.kp (thn (ha pos pins s σ H _ I h) fun us s1 ⟨vs,H1,I1,r,q⟩=>⟨I1.kIn,?_⟩) he hpl
 exact c4T M F hr hb hd hx I1 r q
end
section
variable {k:Nat}{fd:a0w}{ks:List Str}{sp:Sp}{E:XK}{x m:Str}{apos kpos:Pos}{o:Expr}{kws:List b6A}{t tk:TA}{nm:Option Str}
structure d3H(K:Fg)(fd:a0w)(ps ks:List Str)(g:List Value->List Value->List Value)(gV:List V->List V->List V):Prop where
 to:∀(s:k8) (us ws:List Value),K.In s.heap->(g us ws).length=ps.length->c4e s fd ⟨us,ks.zip ws⟩ (ps.zip (g us ws))
 rel:∀ {vs:List V} {us:List Value} {zs:List V} {ws:List Value},M3 vs us->M3 zs ws->M3 (gV vs zs) (g us ws)
variable {g:List Value->List Value->List Value}{gV:List V->List V->List V}
end
structure u7(N P:List Str)(sc:Scope):Prop where
 kind:sc.kind=.function
 co:sc.isCoroutine=false
 gen:sc.isGenerator=false
 nd:N.Nodup
 pre:N.take P.length=P
 par:∀x∈P,sc.names.lookup x=some .local\/sc.names.lookup x=some .cell
 nofree:∀y∈sc.names,y.2≠.free
theorem b6s{kindOf:Str->Option a9t}{x:Str}:∀ {binds:List (Str×Value)} {m:Str->Option Value},(∀v,(x,v)∉binds)->bindL kindOf binds m x=m x
 | [],_,_=>rfl
 | (n,v)::r,m,h=>by
  unfold bindL
  rw[b6s fun w hw=>h w (G7 _ hw)]
  split
  ·have:x≠n:=by rintro rfl;exact h v U5
   simp[this]
  ·rfl
theorem b6u{kindOf:Str->Option a9t}{x:Str}:∀ {binds:List (Str×Value)} {m:Str->Option Value},(∀v,(x,v)∉binds)->bindC kindOf binds m x=m x
 | [],_,_=>rfl
 | (n,v)::r,m,h=>by
  unfold bindC
  rw[b6u fun w hw=>h w (G7 _ hw)]
  split
  ·rfl
  ·have:x≠n:=by rintro rfl;exact h v U5
   simp[this]
theorem b6t{kindOf:Str->Option a9t}{x:Str}{v:Value}:∀ {P:List Str} {vs:List Value} {i:Nat} {m:Str->Option Value},P.Nodup->P[i]? = some x->vs[i]? = some v->kindOf x=some .local ->
  bindL kindOf (P.zip vs) m x=some v
 | [],_,_,_,_,h,_,_=>by simp at h
 | _::_,[],_,_,_,_,h,_=>by simp at h
 | p::P,w::vs,0,m,nd,h1,h2,hk=>by
  simp at h1 h2;subst h1;subst h2
  show bindL kindOf ((p,w)::P.zip vs) m p=_
  unfold bindL
  rw[b6s fun v hv=>(X4.mp nd).1 (b6x hv).1,if_pos hk]
  simp
 | p::P,w::vs,i+1,m,nd,h1,h2,hk=>by
  show bindL kindOf ((p,w)::P.zip vs) m x=_
  unfold bindL
  exact b6t (i:=i) (X4.mp nd).2 (by simpa using h1) (by simpa using h2) hk
theorem b6v{kindOf:Str->Option a9t}{x:Str}{v:Value}:∀ {P:List Str} {vs:List Value} {i:Nat} {m:Str->Option Value},P.Nodup->P[i]? = some x->vs[i]? = some v->kindOf x≠some .local ->
  bindC kindOf (P.zip vs) m x=some v
 | [],_,_,_,_,h,_,_=>by simp at h
 | _::_,[],_,_,_,_,h,_=>by simp at h
 | p::P,w::vs,0,m,nd,h1,h2,hk=>by
  simp at h1 h2;subst h1;subst h2
  show bindC kindOf ((p,w)::P.zip vs) m p=_
  unfold bindC
  rw[b6u fun v hv=>(X4.mp nd).1 (b6x hv).1,if_neg hk]
  simp
 | p::P,w::vs,i+1,m,nd,h1,h2,hk=>by
  show bindC kindOf ((p,w)::P.zip vs) m x=_
  unfold bindC
  exact b6v (i:=i) (X4.mp nd).2 (by simpa using h1) (by simpa using h2) hk
def a8x(N:List Str)(vs:List V):St:=vs.map some++D7 (N.length - vs.length) none
def b4S(CX:CXT)(P:D4)(w:World)(K:Fg)(mg:Str->Option Value)(base:Heap)(N:List Str)(qual:Str)(scope:Scope)(f:Addr)(cd:Value)(A:R3)(outer:List Env)(s:k8)(H:Hp)(E:XK):Cx where
 prog:=P
 w:=w
 K:=K
 mg:=mg
 base:=base
 A:=A.deeper (b2A qual scope s.heap.objs.size f cd)
 N:=N
 s₀:=s
 H₀:=H
 env:=b2A qual scope s.heap.objs.size f cd
 outer:=outer
 stack:=b2A qual scope s.heap.objs.size f cd::outer
 ex:=[]
 calm:=true
 fn:=fun _=>true
 pn:=[]
 xe:=fun e s'=>wpAny (model P w) (A.deeper (b2A qual scope s.heap.objs.size f cd)) (leaving (b2A qual scope s.heap.objs.size f cd) e) (fun _ s''=>CX outer H s E e s'') (fun e' s''=>CX outer H s E e' s'') s'
theorem b9y{sc:Scope}{n:Nat}{x:Str}(h:sc.names.lookup x=some .cell):∃c,(cellsFrom n sc.names []).lookup x=some c:=by
 have q:=b9P sc.names n [] (.inl h)
 exact a0W.mp q
theorem c3o{P:D4}{K:Fg}{mg:Str->Option Value}{base:Heap}{N:List Str}{qual:Str}{scope:Scope}{cd:Value}{A:R3}{outer:List Env}{s1:k8}{E:XK}{vs:List V}
  (S:u7 N ps scope) (hd:A.handled=none) (e0:c1F P w K mg base A outer s H) (hl:vs.length=ps.length) (r:M3 vs us)
  (x:InCallC s s.heap.objs.size (bindL (b2A qual scope s.heap.objs.size f cd).kindOf (ps.zip us) fun _=>none) (cellsFrom (s.heap.objs.size+1) scope.names []) (bindC (b2A qual scope s.heap.objs.size f cd).kindOf (ps.zip us) fun _=>none) s1) :
  Inv (b4S CX P w K mg base N qual scope f cd A outer s H E) [] (a8x N vs) H s1:=by
 have hpl:ps.length<=N.length:=by have:=congrArg b5T S.pre;rw[C9]at this;omega
 obtain⟨h1,tk,rfl,hk⟩:=x.done
 have noA:∀b:Addr,b∉(b4S CX P w K mg base N qual scope f cd A outer s H E).ex:=fun b z=>absurd (show b∈([]:List Addr)from z) (by simp)
 refine⟨⟨e0.mod,S.kind,rfl,rfl,j5 _,fun y z c h1 h2=>?_,fun y hy=>?_,fun y c _ h=>?_,fun _=>hd,Around.frames_deeper e0.frames,.inr ⟨rfl,rfl⟩,fun b z=>absurd z (noA b),e0.bs,e0.bsz,fun b _ _=>noA b,fun b z=>absurd z (noA b),e0.funs,e0.frf⟩,
  rfl,e0.bare,Un.kept hk,⟨_,x.toInCall.ns,fun i y v h1 h2 h3=>?_⟩,fun y c h=>⟨_,x.cell y c h⟩,e0.hok.fresh (j5 _),fun y c h=>?_,fun p hp=>absurd (show p∈([]:List (Addr×Obj))from hp) (by simp),e0.hok.kept hk,?_⟩
 ·exact name_of_addr x.apart (D8 h1) (D8 h2)
 ·have hy:scope.names.lookup y=some .cell\/scope.names.lookup y=some .free:=hy
  rcases hy with hy | hy
  ·exact b9y hy
  ·exact absurd rfl (S.nofree _ (D8 hy))
 ·exact c3R (x.above y c (D8 h))
 ·have hi:i<vs.length:=by
   unfold a8x at h2
   by_cases hi:i<vs.length
   ·exact hi
   ·rw[J4 (by simpa using hi)]at h2
    rw[U7]at h2
    split at h2 <;> cases h2
  have ha:vs[i]? = some v:=by
   unfold a8x at h2
   rw[o3 (by simpa using hi),a9]at h2
   cases e:vs[i]? with
   | none=>rw[e]at h2;cases h2
   | some a=>rw[e]at h2;cases h2;rfl
  obtain⟨u,hu,rv⟩:=r.get ha
  have hp:ps[i]? = some y:=by
   rw[<-S.pre,b9T (by omega)];exact h1
  have ndP:ps.Nodup:=by rw[<-S.pre];exact S.nd.sublist (List.take_sublist _ _)
  refine⟨u,rv,?_⟩
  rcases S.par y (a0X hp)with k | k
  ·exact .inl ⟨k,b6t ndP hp hu k⟩
  ·obtain⟨c,e⟩:=b9y (n:=s.heap.objs.size+1) k
   refine .inr ⟨.inl k,c,e,?_⟩
   have q:=x.cell y c e
   rw[b6v ndP hp hu (by show scope.names.lookup y≠_;rw[k];decide)]at q
   exact q
 ·exact e0.hok.fresh (c3R (x.above y c (D8 h)))
 ·unfold a8x
  show _=N.length
  rw[p5,b5,J7]
  omega
theorem c9m{P:D4}{K:Fg}{mg:Str->Option Value}{base:Heap}{k:Nat}{name qual:Str}{params:Arguments}{body:List Stmt}{scope:Scope}{dV kV doc pm cdv ct oc:Value}{an od:Option Addr}
  {osl:Array (Option Value)} {N ps:List Str} {sp:Sp} (lk:K.lookup f=some ⟨oc,od,.func (Y8 name qual params body scope dV kV doc pm an cdv ct),osl⟩) (hcd:a3Y K cdv qual=true) (S:u7 N ps scope)
  (len:∀vs H Q E,sp vs H Q E->vs.length=ps.length)
  (hbody:∀(A:R3) (outer:List Env) (s:k8) (H:Hp) (vs:List V) (Q:VK) (E:XK),V6 k (A.deeper (b2A qual scope s.heap.objs.size f cdv))->sp vs H Q E ->
   ∃t,PSs (b4S CX P w K mg base N qual scope f cdv A outer s H E) body t/\t { nx:=fun _ H'=>Q .non H',rt:=Q } (a8x N vs) H) :
  F7 P w K mg base CX (k+1) f (Y8 name qual params body scope dV kV doc pm an cdv ct) ps sp:=by
 refine⟨len,fun A outer s H args us vs Q E hr e0 hb r hsp=>?_⟩
 have hl:=len _ _ _ _ hsp
 have KX:K.In s.heap:=e0.mod.kin.keeps fun b o e=>(e0.bs b o e).1
 have lim:s.heap.NoLimit:=e0.mod.nolimit.keeps fun b o e=>(e0.bs b o e).1
 have hkind:∀y∈ps.zip us,scope.names.lookup y.1=some .local\/(scope.names.lookup y.1=some .cell/\((cellsFrom (s.heap.objs.size+1) scope.names []).lookup y.1).isSome=true):=fun⟨n,v⟩ hy=>by
  rcases S.par n (b6x hy).1 with q | q
  ·exact .inl q
  ·exact .inr ⟨q,b9P _ _ _ (.inl q)⟩
 refine codeAny_call_function hr.depth (KX _ _ lk) rfl S.co S.gen rfl (PySem.W.codeRec_of KX hcd) (hb _ _ _ _ ?_)
 refine wpAny_newFunctionEnv_cells S.kind hkind fun env he s1 x=>?_
 subst he
 refine⟨lim.keeps x.toInCall.keep,codeAny_func ?_⟩
 obtain⟨t,ht,hq⟩:=hbody A outer s H vs Q E (hr.deeper _) hsp
 have I:Inv (b4S CX P w K mg base N qual scope f cdv A outer s H E) [] (a8x N vs) H s1:=c3o S hr.hd e0 hl r x
 refine a2J (ht [] s1 (a8x N vs) H _ I hq) (fun fl s' hs=>?_) fun e s' hs=>hs
 have fin:∀ {σ':St} {H':Hp} {v:V} {u:Value},Inv (b4S CX P w K mg base N qual scope f cdv A outer s H E) [] σ' H' s'->K9 v u->Q v H'->CE outer P w H s Q u s':=
  fun {σ' H' v u} J rv q=>⟨v,H',J.os,J.bare,J.base,J.hok,rv,q⟩
 cases fl with
 | ret u=>
  obtain⟨v,σ',H',J,rv,q⟩:=hs
  exact fin J rv q
 | next=>
  obtain⟨σ',H',J,q⟩:=hs
  exact fin (v:=V.non) (u:=Value.none) J rfl q
 | brk=>
  obtain⟨_,_,_,q⟩:=hs
  exact False.elim q
 | cont=>
  obtain⟨_,_,_,q⟩:=hs
  exact False.elim q
section
variable {x:Str}{t:TA}{id T:String}{r:List V->Hp->VK->Prop}
def tCB(r:List V->Hp->VK->Prop)(t:TA):TE:=fun σ H Q=>t σ H fun vs H1=>r vs H1 Q
theorem c5v(hc:X5 X (.builtin id) r)(hg:Gl X x)(hm:X.mg x=none)(hv:a3q x=some (.builtin id))(ha:PA X (e::es) t)(hn:x ≠ "__name__" := by decide)(hdb:(x == ("__debug__" : Str))=false:=by decide)
  (he:l9 (e::es) X.env=(false,eval e X.env)::l9 es X.env:=by rfl) (hpl:(a1f pos (l9 es X.env)).any (·.1)=false:=by rfl):PE X (.Call (.Name x p) (e::es) [] pos) (tCB r t):=by
 intro pins s σ H Q I h
 refine a9q (b2e I hg hm hv ?_ hn hdb)
 exact PyProof.Rows.callWith_builtin1 (thn (ha pos pins s σ H _ I h) fun us s1 ⟨vs,H1,I1,r1,q1⟩=>hc pins s1 σ H1 vs us Q I1 r1 q1) he hpl
theorem c2S(hc:X5 X (.type T) r)(hg:Gl X x)(hm:X.mg x=none)(hv:a3q x=some (.type T))(ha:PA X (e::es) t)(hn:x ≠ "__name__" := by decide)(hdb:(x == ("__debug__" : Str))=false:=by decide)
  (he:l9 (e::es) X.env=(false,eval e X.env)::l9 es X.env:=by rfl) (hpl:(a1f pos (l9 es X.env)).any (·.1)=false:=by rfl):PE X (.Call (.Name x p) (e::es) [] pos) (tCB r t):=by
 intro pins s σ H Q I h
 refine a9q (b2e I hg hm hv ?_ hn hdb)
 exact a1z (thn (ha pos pins s σ H _ I h) fun us s1 ⟨vs,H1,I1,r1,q1⟩=>hc pins s1 σ H1 vs us Q I1 r1 q1) he hpl
end
section
variable {κ:Type}[DecidableEq κ]
def a7j(kvs:List (κ×V))(k:κ):Option V:=(kvs.find? fun kv=>decide (kv.1=k)).map (·.2)
def a2l(kvs:List (κ×V))(k:κ)(v:V):List (κ×V):=
 if(kvs.any fun kv=>decide (kv.1=k))=true then kvs.map (fun kv=>if kv.1=k then (kv.1,v)else kv)else kvs++[(k,v)]
theorem b0s{p:κ×V}{r:List (κ×V)}{k:κ}(e:p.1=k):a7j (p::r) k=some p.2:=by simp[a7j,a0j,e]
theorem b0t{p:κ×V}{r:List (κ×V)}{k:κ}(e:¬p.1=k):a7j (p::r) k=a7j r k:=by simp[a7j,a0j,e]
theorem a5s(k:κ):∀kvs:List (κ×V),(kvs.any fun kv=>decide (kv.1=k))=(a7j kvs k).isSome
 | []=>rfl
 | p::r=>by
  rw[a3m]
  by_cases e:p.1=k
  ·simp only[b0s e,d5r e,d3f,Option.isSome_some]
  ·rw[b0t e,d5q e,b2y];exact a5s k r
theorem a8G(kvs:List (κ×V))(k:κ)(v:V):(a2l kvs k v).length<=kvs.length+1:=by
 unfold a2l
 split
 ·rw[b5];omega
 ·rw[p5,C0,a3S];omega
theorem a9k.isSome_eq{o:Option V}{u:Option Value}(r:a9k o u):o.isSome=u.isSome:=by
 cases o with
 | none=>cases u with
  | none=>rfl
  | some _=>exact(show False from r).elim
 | some _=>cases u with
  | none=>exact(show False from r).elim
  | some _=>rfl
theorem KV.val{kvs:List (κ×V)}{vs:List (κ×Value)}(r:KV kvs vs)(k:κ):a9k (a7j kvs k) (c9s vs k):=by
 unfold KV at r
 induction r with
 | nil=>exact True.intro
 | @cons p q ps qs h t ih=>
  obtain⟨h1,h2⟩:=h
  by_cases e:p.1=k
  ·have e':q.1=k:=h1.symm.trans e
   have b:c9s (q::qs) k=some q.2:=by simp[c9s,a0j,e']
   rw[b0s e,b];exact h2
  ·have e':¬q.1=k:=fun z=>e (h1.trans z)
   have b:c9s (q::qs) k=c9s qs k:=by simp[c9s,a0j,e']
   rw[b0t e,b];exact ih
theorem KV.any{kvs:List (κ×V)}{vs:List (κ×Value)}(r:KV kvs vs)(k:κ):(kvs.any fun kv=>decide (kv.1=k))=vs.any fun kv=>decide (kv.1=k):=by
 unfold KV at r
 induction r with
 | nil=>rfl
 | cons h t ih=>rw[a3m,a3m,ih,h.1]
theorem KV.repl{kvs:List (κ×V)}{vs:List (κ×Value)}(r:KV kvs vs)(k:κ)(ry:K9 y u) :
  KV (kvs.map fun kv=>if kv.1=k then (kv.1,y)else kv) (vs.map fun kv=>if kv.1=k then (kv.1,u)else kv):=by
 unfold KV at r ⊢
 induction r with
 | nil=>exact .nil
 | @cons p q ps qs h t ih=>
  rw[B8,B8]
  refine .cons ?_ ih
  obtain⟨h1,h2⟩:=h
  by_cases e:p.1=k
  ·rw[if_pos e,if_pos (h1.symm.trans e)];exact⟨h1,ry⟩
  ·rw[if_neg e,if_neg (fun z=>e (h1.trans z))];exact⟨h1,h2⟩
theorem KV.put{kvs:List (κ×V)}{vs:List (κ×Value)}(r:KV kvs vs)(k:κ)(ry:K9 y u):KV (a2l kvs k y) (c8N vs k u):=by
 unfold a2l c8N
 rw[r.any k]
 by_cases e:(vs.any fun kv=>decide (kv.1=k))=true
 ·rw[if_pos e,if_pos e];exact r.repl k ry
 ·rw[if_neg e,if_neg e];exact Paired.snoc r ⟨rfl,ry⟩
theorem KV.keys{kvs:List (κ×V)}{vs:List (κ×Value)}(r:KV kvs vs):kvs.map (·.1)=vs.map (·.1):=by
 unfold KV at r
 induction r with
 | nil=>rfl
 | cons h t ih=>rw[B8,B8,ih,h.1]
theorem KV.length{kvs:List (κ×V)}{vs:List (κ×Value)}(r:KV kvs vs):kvs.length=vs.length:=Paired.length r
end
theorem b6o{P:D4}{k:Key}(r:K9 (kV k) u):(N6 P w).is k u=true:=by
 cases k with
 | inl i=>obtain⟨t,e⟩:=(show ∃t,u=Value.int i t from r);subst e;exact b9h P w i t
 | inr x=>obtain⟨t,e⟩:=(show ∃t,u=Value.str x t from r);subst e;exact b9g P w x t
theorem b2h{P:D4}:∀ {ks:List Key} {us:List Value},M3 (ks.map kV) us->ItemsAre (N6 P w) ks us
 | [],_,r=>by rw[c2l]at r;cases r;exact .nil
 | k::ks,_,r=>by
  rw[B8]at r
  cases r with
  | cons h t=>exact .cons (b6o h) (b2h t)
abbrev KT(H:Hp):List (List Key×V)->List (List Key×Addr×Value)->Prop:=Paired fun p q=>p.1=q.1/\H q.2.1=some (.tup (p.1.map kV))/\K9 p.2 q.2.2
theorem KT.val{kvs:List (List Key×V)}{xs:List (List Key×Addr×Value)}(r:KT H kvs xs)(k:List Key):a9k (a7j kvs k) ((atKey xs k).map (·.2)):=by
 induction r with
 | nil=>exact True.intro
 | @cons p q ps qs h t ih=>
  obtain⟨h1,_,h2⟩:=h
  by_cases e:p.1=k
  ·have e':q.1=k:=h1.symm.trans e
   have b:atKey (q::qs) k=some q.2:=by simp[atKey,a0j,e']
   rw[b0s e,b];exact h2
  ·have e':¬q.1=k:=fun z=>e (h1.trans z)
   have b:atKey (q::qs) k=atKey qs k:=by simp[atKey,a0j,e']
   rw[b0t e,b];exact ih
theorem KT.repl{kvs:List (List Key×V)}{xs:List (List Key×Addr×Value)}(r:KT H kvs xs)(k:List Key)(ry:K9 y u) :
  KT H (kvs.map fun kv=>if kv.1=k then (kv.1,y)else kv) (xs.map (putAt k u)):=by
 induction r with
 | nil=>exact .nil
 | @cons p q ps qs h t ih=>
  rw[B8,B8]
  refine .cons ?_ ih
  obtain⟨h1,h2,h3⟩:=h
  unfold putAt
  by_cases e:p.1=k
  ·rw[if_pos e,if_pos (h1.symm.trans e)];exact⟨h1,h2,ry⟩
  ·rw[if_neg e,if_neg (fun z=>e (h1.trans z))];exact⟨h1,h2,h3⟩
theorem KT.put{kvs:List (List Key×V)}{xs:List (List Key×Addr×Value)}(r:KT H kvs xs)(k:List Key)(hb:H b=some (.tup (k.map kV)))(ry:K9 y u) :
  KT H (a2l kvs k y) (storedH xs k b u):=by
 have e:(kvs.any fun kv=>decide (kv.1=k))=(atKey xs k).isSome:=by
  rw[a5s,(r.val k).isSome_eq,a1Y]
 unfold a2l storedH
 rw[e]
 by_cases q:(atKey xs k).isSome=true
 ·rw[if_pos q,if_pos q];exact r.repl k ry
 ·rw[if_neg q,if_neg q];exact Paired.snoc r ⟨rfl,hb,ry⟩
theorem KT.keeps{kvs:List (List Key×V)}{xs:List (List Key×Addr×Value)}(r:KT H kvs xs)(ht:∀b ys,H b=some (.tup ys)->H' b=some (.tup ys)):KT H' kvs xs:=
 Paired.mapP r fun _ _ z=>⟨z.1,ht _ _ z.2.1,z.2.2⟩
section
variable {P:D4}
theorem c9a{u:HO}(ok:HOk P w H h)(e:Rd H a u):Z4 P w H h a u:=e.ok ok
theorem c6c(ok:HOk P w H h)(e:Rd H a (.dK kvs)):kvs.length<=u6/\(a == a1Q)=false/\∃vs,KV kvs vs/\h.DictOf (N6 P w) a vs:=
 show Z4 P w H h a (.dK kvs)from c9a ok e
theorem c6d(ok:HOk P w H h)(e:H a=some (.dK kvs)):kvs.length<=u6/\(a == a1Q)=false/\∃vs,KV kvs vs/\h.DictOf (N6 P w) a vs:=c6c ok (.inl e)
theorem b7u{ks:List Key}(ok:HOk P w H h)(e:H a=some (.tup (ks.map kV))):(a4E (N6 P w)).is h ks a:=by
 obtain⟨_,its,r,o,h1,h2,n,h3⟩:=(show Z4 P w H h a (.tup (ks.map kV))from ok a _ e)
 exact⟨o,its.toArray,n,h1,h2,h3,by simpa using b2h r⟩
theorem c6a{kvs:List (List Key×V)}(ok:HOk P w H h)(e:Rd H a (.dT kvs)):kvs.length<=u6/\(a == a1Q)=false /\
  ∃xs,KT H kvs xs/\h.DictOfH (a4E (N6 P w)) a xs:=by
 obtain⟨z,y,xs,r,o,es,ep,h1,h2,h3,h4,h5⟩:=(show Z4 P w H h a (.dT kvs)from c9a ok e)
 refine⟨z,y,xs,r,o,es,ep,h1,h2,h3,h4,fun x hx=>?_,h5⟩
 have all:∀ {l:List (List Key×V)} {m:List (List Key×Addr×Value)},KT H l m->∀x∈m,(a4E (N6 P w)).is h x.1 x.2.1:=by
  intro l m q
  induction q with
  | nil=>intro x hx;exact nomatch hx
  | @cons p q ps qs hq t ih=>
   intro x hx
   rcases o4.mp hx with e | hx
   ·subst e
    exact b7u ok (by rw[<-hq.1];exact hq.2.1)
   ·exact ih x hx
 exact all r x hx
theorem d2R{kvs:List (List Key×V)}(ok:HOk P w H h)(e:H a=some (.dT kvs)):kvs.length<=u6/\(a == a1Q)=false /\
  ∃xs,KT H kvs xs/\h.DictOfH (a4E (N6 P w)) a xs:=c6a ok (.inl e)
end
def b1n(H:Hp)(a:Addr)(y:V)(r:Option V):Prop:=
 (∃kvs k,Rd H a (.dK kvs)/\y=kV k/\r=a7j kvs k)\/∃kvs k b,Rd H a (.dT kvs)/\y=.ref b/\H b=some (.tup (k.map kV))/\r=a7j kvs k
def b5S(H:Hp)(a:Addr)(y v:V)(H':Hp):Prop:=
 (∃kvs k,H a=some (.dK kvs)/\y=kV k/\kvs.length<u6/\H'=upd H a (.dK (a2l kvs k v))) \/
 ∃kvs k b,H a=some (.dT kvs)/\y=.ref b/\H b=some (.tup (k.map kV))/\kvs.length<u6/\H'=upd H a (.dT (a2l kvs k v))
theorem b1n.k{k:Key}(e:H a=some (.dK kvs)):b1n H a (kV k) (a7j kvs k):=.inl ⟨kvs,k,.inl e,rfl,rfl⟩
theorem b5S.k{k:Key}(e:H a=some (.dK kvs))(hl:kvs.length<u6):b5S H a (kV k) v (upd H a (.dK (a2l kvs k v))):=.inl ⟨kvs,k,e,rfl,hl,rfl⟩
section
variable {r:Value}{o:Option V}{A:R3}{E:Value->k8->Prop}
theorem Inv.big(I:Inv X pins σ H s):a1Q<s.heap.objs.size:=by
 have h:A6<s.heap.objs.size:=(I.mod.glob.keeps I.bk).lt
 exact Nat.lt_trans (by decide) h
theorem d3D(hu:A.units+1<cLine)(I:Inv X pins σ H s)(g:b1n H a y o)(ry:K9 y u)(h:∀s',Inv X pins σ H s'->Q (.bool o.isSome) s') :
  wpAny (model X.prog X.w) A (A9 .In u (.ref a)) Q E s:=by
 rcases g with ⟨kvs,k,e,ey,l⟩ | ⟨kvs,k,b,e,ey,eb,l⟩
 ·subst ey
  obtain⟨z,hd,vs,rel,dd⟩:=c6c I.hok e
  refine wpAny_in_of (b6o ry) hd dd.mapOf ?_
  rw[<-(rel.val k).isSome_eq,<-l]
  exact h _ (I.tok _)
 ·subst ey
  cases (show u=Value.ref b from ry)
  obtain⟨z,hd,xs,rel,dd⟩:=c6a I.hok e
  refine wpAny_in_heap (a5m hu) (b7u I.hok eb) hd dd ?_
  have q:=(rel.val k).isSome_eq
  rw[a1Y]at q
  rw[<-q,<-l]
  exact h _ (I.tok _)
theorem c8y(hu:A.units+1<cLine)(I:Inv X pins σ H s)(g:b1n H a y o)(ry:K9 y u)(h:∀s',Inv X pins σ H s'->Q (.bool (!o.isSome)) s') :
  wpAny (model X.prog X.w) A (A9 .NotIn u (.ref a)) Q E s:=by
 rcases g with ⟨kvs,k,e,ey,l⟩ | ⟨kvs,k,b,e,ey,eb,l⟩
 ·subst ey
  obtain⟨z,hd,vs,rel,dd⟩:=c6c I.hok e
  refine wpAny_notIn_of (b6o ry) hd dd.mapOf ?_
  rw[<-(rel.val k).isSome_eq,<-l]
  exact h _ (I.tok _)
 ·subst ey
  cases (show u=Value.ref b from ry)
  obtain⟨z,hd,xs,rel,dd⟩:=c6a I.hok e
  refine wpAny_notIn_heap (a5m hu) (b7u I.hok eb) hd dd ?_
  have q:=(rel.val k).isSome_eq
  rw[a1Y]at q
  rw[<-q,<-l]
  exact h _ (I.tok _)
theorem b7A{ob:HO}(I:Inv X pins σ H s)(mu:Mut (H a))(hs:Heap.SameBut a s.heap h')(he:∃q,h'.get? a=some q)(new:Z4 X.prog X.w (upd H a ob) h' a ob) :
  Inv X pins σ (upd H a ob) { s with heap:=h',toks:=t' }:=
 I.write (x:=a) (e:=a) mu (.inl rfl) (fun b q hb z=>(hs.2 b hb).trans z) he new
theorem b7z{P:D4}{vs:List (Key×Value)}(z:kvs.length<=u6)(hd:(a == a1Q)=false)(rel:KV kvs vs)(dd:h'.DictOf (N6 P w) a vs) :
  Z4 P w H' h' a (.dK kvs):=⟨z,hd,vs,rel,dd⟩
theorem c3u{Q:Unit->k8->Prop}(hu:A.units+1<cLine)(I:Inv X pins σ H s)(g:b5S H a y v H')(ry:K9 y u)(rv:K9 v r)(h:∀s',Inv X pins σ H' s'->Q () s') :
  wpAny (model X.prog X.w) A (c9t (.ref a) u r) Q E s:=by
 rcases g with ⟨kvs,k,e,ey,l,eH⟩ | ⟨kvs,k,b,e,ey,eb,l,eH⟩
 ·subst ey eH
  obtain⟨z,hd,vs,rel,dd⟩:=c6d I.hok e
  have hz:vs.length<=u6:=by rw[<-rel.length];exact z
  have hl:(a2l kvs k v).length<=u6:=by have:=a8G kvs k v;omega
  refine wpAny_setItem_pairs (hsz:=hz) (b6o ry) dd fun h' dd' hs=>h _ ?_
  have he:∃q,h'.get? a=some q:=let⟨q,_,_,hq,_⟩:=dd'; ⟨q,hq⟩
  exact b7A I (by rw[e];exact True.intro) hs he (b7z hl hd (rel.put k rv) dd')
 ·subst ey eH
  cases (show u=Value.ref b from ry)
  obtain⟨z,hd,xs,rel,dd⟩:=d2R I.hok e
  have hz:xs.length<=u6:=by rw[<-Paired.length rel];exact z
  have hl:(a2l kvs k v).length<=u6:=by have:=a8G kvs k v;omega
  refine wpAny_setItem_heap (hsz:=hz) (a5m hu) (b7u I.hok eb) dd fun h' dd' hs=>h _ ?_
  obtain⟨q,es,ep,hq,h2,h3,h4,_,h5⟩:=dd'
  refine b7A I (by rw[e];exact True.intro) hs ⟨q,hq⟩ ⟨hl,hd,_,(rel.put k eb rv).keeps fun c ys ec=>?_,q,es,ep,hq,h2,h3,h4,h5⟩
  rw[g9 (N8 ec e (fun z=>nomatch z))]
  exact ec
end
section
variable {k:Key}{A:R3}{E:Value->k8->Prop}
end
def b6L(ty td:TE):TE:=fun σ H Q=>ty σ H fun y H1=>td σ H1 fun x H2=>∃a o,x=.ref a/\b1n H2 a y o/\Q (.bl o.isSome) H2
def a0T(ty td:TE):TE:=fun σ H Q=>ty σ H fun y H1=>td σ H1 fun x H2=>∃a o,x=.ref a/\b1n H2 a y o/\Q (.bl (!o.isSome)) H2
def a3G(td ty tv:TE):TS:=fun D σ H=>tv σ H fun v H1=>td σ H1 fun x H2=>ty σ H2 fun y H3=>∃a H4,x=.ref a/\b5S H3 a y v H4/\D.nx σ H4
section
variable {o i value:Expr}{tpos:Pos}{td ty tv:TE}
theorem c5w(hu:X.A.units+1<cLine)(hi:PE X i ty)(ho:PE X o td):PC X .In i o (b6L ty td):=by
 intro pins s σ H Q I h
 refine thn (hi pins s σ H _ I h) fun iv s1 ⟨y,H1,I1,ry,q1⟩=>thn (ho pins s1 σ H1 _ I1 q1) fun u s2 ⟨x,H2,I2,rx,a,ov,ex,g,q2⟩=>?_
 subst ex
 obtain rfl:u=Value.ref a:=rx
 exact d3D hu I2 g ry fun s3 I3=>⟨.bl ov.isSome,H2,I3,rfl,q2⟩
theorem b6j(hu:X.A.units+1<cLine)(hi:PE X i ty)(ho:PE X o td):PC X .NotIn i o (a0T ty td):=by
 intro pins s σ H Q I h
 refine thn (hi pins s σ H _ I h) fun iv s1 ⟨y,H1,I1,ry,q1⟩=>thn (ho pins s1 σ H1 _ I1 q1) fun u s2 ⟨x,H2,I2,rx,a,ov,ex,g,q2⟩=>?_
 subst ex
 obtain rfl:u=Value.ref a:=rx
 exact c8y hu I2 g ry fun s3 I3=>⟨.bl (!ov.isSome),H2,I3,rfl,q2⟩
theorem c7p(hu:X.A.units+1<cLine)(ho:PE X o td)(hi:PE X i ty)(hv:PE X value tv)(hs:a3o value (some (.Subscript o i pos')) pos.line X.env=pure false) :
  PS X (.Assign [.Subscript o i pos'] value pos) (a3G td ty tv):=by
 intro pins s σ H D I h
 refine wpAny_Assign_Subscript (thn (hv pins s σ H _ I h) fun r s1 ⟨v,H1,I1,rv,q1⟩=>thn (ho pins s1 σ H1 _ I1 q1) fun u s2 ⟨x,H2,I2,rx,q2⟩=>thn (hi pins s2 σ H2 _ I2 q2) fun iv s3 ⟨y,H3,I3,ry,a,H4,ex,g,q3⟩=>?_) hs
 subst ex
 obtain rfl:u=Value.ref a:=rx
 exact c3u hu I3 g ry rv fun s4 I4=>⟨σ,H4,I4,q3⟩
end
theorem b9t{P:D4}(h:Heap)(hb:a1Q<h.objs.size):Z4 P w H (h.push { cls:=.type "dict",data:=.dict #[] }) h.objs.size (.dK []):=
 ⟨R8 _,beq_eq_false_iff_ne.mpr (Ne.symm (A0 hb)),[],.nil,c2p h⟩
def a9E:TE:=fun _ H Q=>∀p,H p=none->Q (.ref p) (upd H p (.dK []))
section
theorem c5r:PE X (.Dict [] [] pos) a9E:=fun pins s σ H Q I h=>
 wpAny_Dict_empty ⟨.ref s.heap.objs.size,_,I.laid (a:=s.heap.objs.size) (o:=.dK []) (t':=s.toks) (fun _ _ q=>i8 _ q) (j5 _) (b9t s.heap I.big),rfl,h _ (I.hok.fresh (j5 _))⟩
end
def c0e:List (TE×TE)->St->Hp->(List (V×V)->Hp->Prop)->Prop
 | [],_,H,Q=>Q [] H
 | (tk,tv)::r,σ,H,Q=>tk σ H fun x H1=>tv σ H1 fun y H2=>c0e r σ H2 fun ps H3=>Q ((x,y)::ps) H3
abbrev VV:List (V×V)->List (Value×Value)->Prop:=Paired fun p q=>K9 p.1 q.1/\K9 p.2 q.2
def PPs(X:Cx)(pos:Pos)(keys:List (Option Expr))(values:List Expr)(trs:List (TE×TE)):Prop:=
 ∀(pins:List (Addr×Obj)) (s:k8) (σ:St) (H:Hp) (Q:List (V×V)->Hp->Prop),Inv X pins σ H s->c0e trs σ H Q ->
  wpAny (model X.prog X.w) X.A (evalPairs (pairTrees keys values X.env pos)) (fun vs s'=>∃ps H',Inv X pins σ H' s'/\VV ps vs/\Q ps H') X.xe s
theorem c7r:PPs X pos [] [] []:=fun pins s σ H Q I h=>pairTrees_nil_walk ⟨[],H,I,.nil,h⟩
theorem c5l{k v:Expr}{ks:List (Option Expr)}{vs:List Expr}{tk tv:TE}{trs:List (TE×TE)}(hk:PE X k tk)(hv:PE X v tv)(hr:PPs X pos ks vs trs) :
  PPs X pos (some k::ks) (v::vs) ((tk,tv)::trs):=fun pins s σ H Q I h=>
 pairTrees_cons_walk (thn (hk pins s σ H _ I h) fun u s1 ⟨x,H1,I1,rx,q1⟩=>thn (hv pins s1 σ H1 _ I1 q1) fun w2 s2 ⟨y,H2,I2,ry,q2⟩=>
  thn (hr pins s2 σ H2 _ I2 q2) fun ws s3 ⟨ps,H3,I3,rel,q3⟩=>⟨(x,y)::ps,H3,I3,.cons ⟨rx,ry⟩ rel,q3⟩)
def b0c(kvs more:List (Key×V)):List (Key×V):=more.foldl (fun acc kv=>a2l acc kv.1 kv.2) kvs
theorem KV.merge:∀ {more:List (Key×V)} {rs:List (Key×Value)} {kvs:List (Key×V)} {vs:List (Key×Value)},KV more rs->KV kvs vs->KV (b0c kvs more) (merged vs rs):=by
 intro more rs kvs vs r
 unfold KV at r
 induction r generalizing kvs vs with
 | nil=>intro q;exact q
 | @cons p q ps qs h t ih=>
  intro r0
  have e:KV (a2l kvs p.1 p.2) (c8N vs q.1 q.2):=by
   have:=r0.put p.1 h.2
   rw[<-h.1];exact this
  exact ih e
theorem a9C:∀(more kvs:List (Key×V)),(b0c kvs more).length<=kvs.length+more.length
 | [],kvs=>by show kvs.length<=kvs.length+0;omega
 | p::r,kvs=>by
  have h1:=a9C r (a2l kvs p.1 p.2)
  have h2:=a8G kvs p.1 p.2
  show(b0c (a2l kvs p.1 p.2) r).length<=_
  rw[C0];omega
theorem b5b{P:D4}{w:World}:∀ {kvs:List (Key×V)} {ws:List (Value×Value)},VV (kvs.map fun kv=>(kV kv.1,kv.2)) ws->∃rs,Carries (N6 P w) ws rs/\KV kvs rs
 | [],_,r=>by rw[c2l]at r;cases r;exact⟨[],True.intro,.nil⟩
 | p::kvs,_,r=>by
  rw[B8]at r
  cases r with
  | @cons a b as bs h t=>
   obtain⟨rs,c,q⟩:=b5b (P:=P) (w:=w) t
   obtain⟨b1,b2⟩:=b
   exact⟨(p.1,b2)::rs,⟨b6o h.1,rfl,c⟩,.cons ⟨rfl,h.2⟩ q⟩
def b8y(trs:List (TE×TE)):TE:=fun σ H Q=>∀p,H p=none->c0e trs σ (upd H p (.dK [])) fun ps H2=>H2 p=some (.dK [])/\∃kvs:List (Key×V),ps=kvs.map (fun kv=>(kV kv.1,kv.2))/\kvs.length<=15/\Q (.ref p) (upd H2 p (.dK (b0c [] kvs)))
theorem c7B{keys:List (Option Expr)}{values:List Expr}{trs:List (TE×TE)}(h:PPs X pos keys values trs)(hall:keys.all (·.isSome)=true)(hl:keys.length=values.length)(h0:keys≠[])
  (h15:keys.length<=15):PE X (.Dict keys values pos) (b8y trs):=by
 intro pins s σ H Q I q
 have hn:=I.hok.fresh (j5 s.heap.objs.size)
 have I1:=I.laid (a:=s.heap.objs.size) (o:=.dK []) (h':=s.heap.push { cls:=.type "dict",data:=.dict #[] }) (t':=s.toks) (fun _ _ q=>i8 _ q) (j5 _) (b9t s.heap I.big)
 refine wpAny_Dict_walk (knd:=N6 X.prog X.w) hall hl h0 h15 (thn (h pins _ σ _ _ I1 (q _ hn)) fun ws s2 ⟨ps,H2,I2,rel,e,kvs,ep,lk,q2⟩=>?_)
 subst ep
 obtain⟨rs,c,rk⟩:=b5b (P:=X.prog) (w:=X.w) rel
 obtain⟨z,hd,vs0,r0,dd⟩:=c6d I2.hok e
 cases r0
 refine⟨rs,c,dd,fun h' dd' hs=>⟨.ref s.heap.objs.size,_,?_,rfl,q2⟩⟩
 have hz:(b0c [] kvs).length<=u6:=by
  have h1:=a9C kvs []
  rw[a3S]at h1
  rw[sizeLine_eq];omega
 have he:∃q,h'.get? s.heap.objs.size=some q:=let⟨q,_,_,hq,_⟩:=dd'; ⟨q,hq⟩
 exact b7A I2 (by rw[e];exact True.intro) hs he (b7z hz hd (rk.merge .nil) dd')
structure M1(X:Cx)(o:Expr)(m:Str)(apos:Pos)(e:Expr)(cpos:Pos):Prop where
 base:a2w o m X.env (eval o X.env)=eval o X.env
 few:((a1f cpos (l9 [e] X.env)).all (fun x => !x.1)&&(a9r cpos (a3p [] X.env)).all (fun x=>x.1.isSome)
  && decide (([e]:List Expr).length+([]:List b6A).length+(if([]:List b6A).isEmpty then 0 else 1)<30))=true
 line:(apos.endLine == cpos.line)=true
 trees:a1f cpos (l9 [e] X.env)=[(false,eval e X.env)]
structure M2(X:Cx)(o:Expr)(m:Str)(apos:Pos)(e f:Expr)(cpos:Pos):Prop where
 base:a2w o m X.env (eval o X.env)=eval o X.env
 few:((a1f cpos (l9 [e,f] X.env)).all (fun x => !x.1)&&(a9r cpos (a3p [] X.env)).all (fun x=>x.1.isSome)
  && decide (([e,f]:List Expr).length+([]:List b6A).length+(if([]:List b6A).isEmpty then 0 else 1)<30))=true
 line:(apos.endLine == cpos.line)=true
 trees:a1f cpos (l9 [e,f] X.env)=[(false,eval e X.env),(false,eval f X.env)]
section
variable {d:V}{r:Value}{o:Option V}{A:R3}{E:Value->k8->Prop}
end
section
variable {o f:Expr}{apos cpos:Pos}{td ty tx:TE}
end
section
variable {A:R3}{E:Value->k8->Prop}
end
section
variable {A:R3}{E:Value->k8->Prop}
end
end L2
namespace HT
open PySem PyProof.Rows
section
open PySem.SeqAt
open PySem.AutoSeq1 (wpAny_loadPart')
open PySem.MeetsSeq PySem.MeetsSeq2 PySem.MeetsSeq3
end
section
variable {prog:D4}{w:World}{A:R3}{E:Value->k8->Prop}{s:k8}
def sIx(n d:Nat):Option Int->Nat
 | none=>d
 | some v=>if v<0 then (v+(n:Int)).toNat else min v.toNat n
theorem b7g(n d k:Nat):sIx n d (some (k:Int))=min k n:=by
 show(if(k:Int)<0 then ((k:Int)+(n:Int)).toNat else min (k:Int).toNat n)=min k n
 rw[if_neg (by omega),A5]
theorem c9N(n d:Nat)(hd:d<=n)(o:Option Int):sIx n d o<=n:=by
 cases o with
 | none=>exact hd
 | some v=>
  show(if v<0 then (v+(n:Int)).toNat else min v.toNat n)<=n
  by_cases hv:v<0
  ·rw[if_pos hv];omega
  ·rw[if_neg hv];exact Nat.min_le_right _ _
theorem c2e(v:Int)(n d:Nat):(if v<0 then max (v+(n:Int)) 0 else min v (n:Int))=((sIx n d (some v):Nat):Int):=by
 show(if v<0 then max (v+(n:Int)) 0 else min v (n:Int))=(((if v<0 then (v+(n:Int)).toNat else min v.toNat n):Nat):Int)
 by_cases hv:v<0
 ·simp only[if_pos hv];omega
 ·simp only[if_neg hv];omega
theorem c1D(lo hi:Option Int)(n:Nat):Builtin.Slice.sliceAdjust lo hi 1 (n:Int)=(((sIx n 0 lo:Nat):Int),((sIx n n hi:Nat):Int)):=by
 have h1:¬((1:Int)<0):=by omega
 unfold Builtin.Slice.sliceAdjust
 simp only[h1,if_false]
 refine Prod.ext ?_ ?_
 ·cases lo with
  | none=>rfl
  | some v=>exact c2e v n 0
 ·cases hi with
  | none=>rfl
  | some v=>exact c2e v n n
theorem c0I(i j:Nat):Builtin.Slice.slicePlaces (i:Int) (j:Int) 1=j - i:=by
 unfold Builtin.Slice.slicePlaces
 have h1:(1:Int) > 0:=by omega
 simp only[h1,if_true,Int.ediv_one]
 split <;> omega
theorem b4b{v:Value}{o:Option Int}{Q:Option Int->k8->Prop}(p:c8S v o)(h:Q o s):wpAny (model prog w) A (Builtin.Slice.slicePartIndex v) Q E s:=by
 cases p with
 | none=>exact slicePart_none h
 | int i t=>exact slicePart_int h
theorem b1G{sl:Addr}{vl vu:Value}{lo hi:Option Int}{n:Nat}{Q:Int×Int×Nat->k8->Prop}(hs:s.heap.IsSliceOf sl vl vu .none)(pl:c8S vl lo)(pu:c8S vu hi)
  (h:Q (((sIx n 0 lo:Nat):Int),1,sIx n n hi - sIx n 0 lo) s):wpAny (model prog w) A (Builtin.Slice.sliceApplied (.ref sl) (pure (n:Int))) Q E s:=by
 obtain⟨os,hos,hcs,hds⟩:=id hs
 unfold Builtin.Slice.sliceApplied Builtin.Slice.sliceFields
 refine g0 (g0 (d3h hos hds (x:=vl) rfl (g0 (d3h hos hds (x:=vu) rfl (g0 (d3h hos hds (x:=.none) rfl (u5 ?_)))))))
 refine g0 (slicePart_none ?_)
 show wpAny _ _ (if((1:Int) == 0)=true then _ else _) _ _ s
 rw[if_neg (by decide)]
 refine g0 (b4b pl (g0 (b4b pu (g0 (u5 ?_)))))
 show wpAny _ _ (match Builtin.Slice.sliceAdjust lo hi 1 (n:Int)with | (lo,hi)=>pure (lo,(1:Int),Builtin.Slice.slicePlaces lo hi 1)) _ _ s
 rw[c1D lo hi n]
 show wpAny _ _ (pure (((sIx n 0 lo:Nat):Int),(1:Int),Builtin.Slice.slicePlaces ((sIx n 0 lo:Nat):Int) ((sIx n n hi:Nat):Int) 1)) _ _ s
 rw[c0I]
 exact u5 h
theorem c5m(xs:Array Value)(i k:Nat):((v9 k).filterMap fun(m:Nat)=>xs[((i:Int)+(m:Int) * 1).toNat]?).toArray=((xs.toList.drop i).take k).toArray:=by
 have e:(fun(m:Nat)=>xs[((i:Int)+(m:Int) * 1).toNat]?)=fun m=>xs[i+m]?:=by
  funext m
  have:((i:Int)+(m:Int) * 1).toNat=i+m:=by omega
  rw[this]
 rw[e]
 have:=pick_run xs i k
 rw[List.filterMap_map]at this
 have e2:((fun x=>xs[x]?) ∘ fun x=>i+x)=fun m=>xs[i+m]?:=rfl
 rw[e2]at this
 rw[this]
theorem b0Z{t sl:Addr}{items:Array Value}{vl vu:Value}{lo hi:Option Int}{Q:Value->k8->Prop}(ht:IsTup s.heap t items)(hs:s.heap.IsSliceOf sl vl vu .none)(pl:c8S vl lo)(pu:c8S vu hi)
  (hw:¬(sIx items.size 0 lo=0/\sIx items.size items.size hi=items.size))
  (h:Q (.ref s.heap.objs.size) { s with heap:=s.heap.push { cls:=.type "tuple",data:=.seq ((items.toList.drop (sIx items.size 0 lo)).take (sIx items.size items.size hi - sIx items.size 0 lo)).toArray } })
  (hsz:items.size<=u6):wpAny (model prog w) A (c9u (.ref t) (.ref sl)) Q E s:=by
 have htake:sizeOk (.seq ((items.toList.drop (sIx items.size 0 lo)).take (sIx items.size items.size hi - sIx items.size 0 lo)).toArray):=by
  show((items.toList.drop (sIx items.size 0 lo)).take (sIx items.size items.size hi - sIx items.size 0 lo)).toArray.size<=u6
  rw[o6,C9,b5l,a1h]
  omega
 have hj:sIx items.size items.size hi<=items.size:=c9N _ _ (j5 _) hi
 obtain⟨os,hos,hcs,hds⟩:=id hs
 have hTs:s.TypeIs (.ref sl) "slice" := ⟨os,hos,hcs⟩
 unfold c9u
 try with_reducible refine a2v ?_
 first | refine g0 (u5 ?_) | skip
 refine g0 (wpAny_sequenceKey ht.typeIs (by decide) ?_)
 refine g0 (b1r (name:=Str.ofString "__getitem__") ht.typeIs a3l
  (b2z a3l ht.typeIs entry_tuple_getitem ?_ (args_tuple_getitem _ _)))
 show wpAny _ _ (Builtin.Tuple.tupleItemsOf (.ref t) >>= _) _ _ s
 refine g0 (tupleItemsOf_ ht ?_)
 refine g0 (b3B hTs ?_)
 rw[if_pos (by decide)]
 refine g0 (b1G hs pl pu ?_)
 have hno:¬((((sIx items.size 0 lo:Nat):Int) == 0&&(1:Int) == 1&&(sIx items.size items.size hi - sIx items.size 0 lo) == items.size)=true):=by
  intro q
  rw[F5,F5]at q
  have q1:((sIx items.size 0 lo:Nat):Int)=0:=eq_of_beq q.1.1
  have q2:sIx items.size items.size hi - sIx items.size 0 lo=items.size:=eq_of_beq q.2
  exact hw ⟨by omega,by omega⟩
 show wpAny _ _ (if(((sIx items.size 0 lo:Nat):Int) == 0&&(1:Int) == 1&&(sIx items.size items.size hi - sIx items.size 0 lo) == items.size)=true then _ else _) _ _ s
 rw[if_neg hno,c5m]
 first
  | exact g0 (m:=Builtin.Tuple.tupleExact _) (Z5 (u5 ⟨_,rfl,u5 h⟩) htake)
  | exact g0 (m:=Builtin.Tuple.tupleExact _) (Z5 (g0 (u5 (u5 ⟨_,rfl,u5 h⟩))) htake)
  | exact g0 (g0 (m:=Builtin.Tuple.tupleExact _) (Z5 (u5 (u5 ⟨_,rfl,u5 h⟩)) htake))
  | exact g0 (g0 (m:=Builtin.Tuple.tupleExact _) (Z5 (u5 ⟨_,rfl,u5 h⟩) htake))
end
end HT
namespace L2
open PySem PySem.Spec PyProof.Rows
variable{X:Cx}{n:Nat}{pins:List (Addr×Obj)}{σ:St}{H:Hp}{s:k8}{xs:List V}{us:List Value}
abbrev TO:=St->Hp->(Option Int->Hp->Prop)->Prop
def PO(X:Cx)(e:Option Expr)(t:TO):Prop:=
 ∀(pins:List (Addr×Obj)) (s:k8) (σ:St) (H:Hp) (Q:Option Int->Hp->Prop),Inv X pins σ H s->t σ H Q ->
  wpAny (model X.prog X.w) X.A (evalPart e X.env) (fun u s'=>∃o H',Inv X pins σ H' s'/\c8S u o/\Q o H') X.xe s
def a4r:TO:=fun _ H Q=>Q none H
def a9A(t:TE):TO:=fun σ H Q=>t σ H fun x H1=>∃i,x=.int i/\Q (some i) H1
section
variable {e:Expr}{te:TE}{lo hi:Option Expr}{tl th:TO}{pos p2:Pos}
theorem c7t:PO X none a4r:=by
 intro pins s σ H Q I h
 rw[evalPart_none]
 exact u5 ⟨none,H,I,.none,h⟩
theorem c7s(h:PE X e te):PO X (some e) (a9A te):=by
 intro pins s σ H Q I hw
 rw[evalPart_some]
 refine thn (h pins s σ H _ I hw) fun u s1 ⟨x,H1,I1,r1,q1⟩=>?_
 obtain⟨i,rfl,q⟩:=q1
 obtain⟨t,rfl⟩:=r1
 exact⟨some i,H1,I1,.int i t,q⟩
def SlR(X:Cx)(r:V->Option Int->Option Int->Hp->VK->Prop):Prop:=
 ∀(pins:List (Addr×Obj)) (s:k8) (σ:St) (H:Hp) (x:V) (v vl vu:Value) (lo hi:Option Int) (sl:Addr) (Q:VK),Inv X pins σ H s->K9 x v->s.heap.IsSliceOf sl vl vu .none->c8S vl lo->c8S vu hi->r x lo hi H Q ->
  ∃T id,typeLookup (.type T) "__getitem__" = pure (some (.builtin id))/\s.TypeIs v T/\wpAny (model X.prog X.w) X.A (c9u v (.ref sl)) (EP X pins σ Q) X.xe s
theorem SlR.or{r r':V->Option Int->Option Int->Hp->VK->Prop}(h:SlR X r)(h':SlR X r'):SlR X (fun x lo hi H Q=>r x lo hi H Q\/r' x lo hi H Q):=by
 intro pins s σ H x v vl vu lo hi sl Q I rx hs pl pu q
 rcases q with q | q
 ·exact h pins s σ H x v vl vu lo hi sl Q I rx hs pl pu q
 ·exact h' pins s σ H x v vl vu lo hi sl Q I rx hs pl pu q
def tSl(r:V->Option Int->Option Int->Hp->VK->Prop)(te:TE)(tl th:TO):TE:=fun σ H Q=>te σ H fun x H1=>tl σ H1 fun l H2=>th σ H2 fun u H3=>r x l u H3 Q
theorem c5o{r:V->Option Int->Option Int->Hp->VK->Prop}(hr:SlR X r)(he:PE X e te)(hl:PO X lo tl)(hu:PO X hi th):PE X (.Subscript e (.Slice lo hi none p2) pos) (tSl r te tl th):=by
 intro pins s σ H Q I h
 refine Subscript_ (thn (he pins s σ H _ I h) fun v s1 ⟨x,H1,I1,r1,q1⟩=>?_)
 refine wpAny_Slice (thn (hl pins s1 σ H1 _ I1 q1) fun vl s2 ⟨l,H2,I2,pl,q2⟩=>thn (hu pins s2 σ H2 _ I2 q2) fun vu s3 ⟨u,H3,I3,pu,q3⟩=>?_)
 rw[evalPart_none]
 refine u5 ?_
 have I4:Inv X pins σ H3 { s3 with heap:=s3.heap.push { cls:=.type "slice",data:=.fields #[vl,vu,.none] } }:=I3.kept (t':=s3.toks) fun b ob q=>i8 _ q
 obtain⟨T,id,hT,ht,hg⟩:=hr pins { s3 with heap:=s3.heap.push { cls:=.type "slice",data:=.fields #[vl,vu,.none] } } σ H3 x v vl vu l u s3.heap.objs.size Q I4 r1 (Heap.IsSliceOf.new ..) pl pu q3
 show wpAny (model X.prog X.w) X.A (subscriptTail e (.Slice lo hi none p2) v (.ref s3.heap.objs.size)) (EP X pins σ Q) X.xe { s3 with heap:=s3.heap.push { cls:=.type "slice",data:=.fields #[vl,vu,.none] } }
 exact tail_any (ops:=[.ref s3.heap.objs.size,v]) ht hT hg (by with_unfolding_all rfl)
def a8J(xs:List V)(lo hi:Option Int):List V:=(xs.drop (HT.sIx xs.length 0 lo)).take (HT.sIx xs.length xs.length hi - HT.sIx xs.length 0 lo)
theorem b2P(xs:List V)(lo hi:Option Int):(a8J xs lo hi).length<=xs.length:=by
 unfold a8J
 rw[C9,b5l]
 omega
def d3p(K:Fg):V->Option Int->Option Int->Hp->VK->Prop:=fun x lo hi H Q=>∃a xs,x=.ref a/\SqT K H a xs /\
 ¬(HT.sIx xs.length 0 lo=0/\HT.sIx xs.length xs.length hi=xs.length)/\∀p,H p=none->Q (.ref p) (upd H p (.tup (a8J xs lo hi)))
theorem c9x:SlR X (d3p X.K):=by
 intro pins s σ H x v vl vu lo hi sl Q I rx hs pl pu h
 obtain⟨a,xs,rfl,hx,hw,q⟩:=h
 cases rx
 obtain⟨its,r,ht,hz⟩:=I.tuple hx
 have hlen:its.toArray.size=xs.length:=by rw[o6];exact r.length.symm
 refine⟨"tuple",_,a3l.lookup,ht.typeIs,?_⟩
 refine HT.b0Z ht hs pl pu (by rw[hlen];exact hw) ?_ (by rw[hlen];exact hz)
 rw[hlen]
 refine⟨.ref s.heap.objs.size,_,I.laid (t':=s.toks) (o:=.tup (a8J xs lo hi)) (fun b ob q=>i8 _ q) (j5 _) ?_,rfl,q _ (I.hok.fresh (j5 _))⟩
 exact⟨D9 (b2P xs lo hi) hz,_,(r.drop (HT.sIx xs.length 0 lo)).take (HT.sIx xs.length xs.length hi - HT.sIx xs.length 0 lo),IsTup.new _ _⟩
end
def ixN(n:Nat)(i:Int):Option Nat:=if 0<=i then (if i<n then some i.toNat else none)else if -(n:Int)<=i then some (i+n).toNat else none
def atI{α:Type}(xs:List α)(i:Int):Option α:=(ixN xs.length i).bind fun j=>xs[j]?
theorem c1X{i:Int}{j:Nat}(h:ixN n i=some j):seqIndex? i n=some j/\j<n /\ -(n:Int)<=i/\i<n:=by
 unfold ixN at h
 by_cases h0:0<=i
 ·rw[if_pos h0]at h
  by_cases h1:i<n
  ·rw[if_pos h1]at h
   have e:i.toNat=j:=Option.some.inj h
   exact⟨by rw[d3i h0 h1,e],by omega,by omega,h1⟩
  ·rw[if_neg h1]at h;cases h
 ·rw[if_neg h0]at h
  by_cases h1 : -(n:Int)<=i
  ·rw[if_pos h1]at h
   have e:(i+n).toNat=j:=Option.some.inj h
   exact⟨by rw[d1Q (by omega) h1,e],by omega,h1,by omega⟩
  ·rw[if_neg h1]at h;cases h
theorem b7Q{α:Type}{xs:List α}{i:Int}{v:α}(h:atI xs i=some v):∃j,seqIndex? i xs.length=some j/\xs[j]? = some v/\j<xs.length /\ -(xs.length:Int)<=i/\i<xs.length:=by
 unfold atI at h
 cases e:ixN xs.length i with
 | none=>rw[e]at h;cases h
 | some j=>
  rw[e]at h
  obtain⟨h1,h2,h3,h4⟩:=c1X e
  exact⟨j,h1,h,h2,h3,h4⟩
theorem a0v{α:Type}{xs:List α}{j:Nat}{v:α}(h:xs[j]? = some v):atI xs (j:Int)=some v:=by
 have hj:j<xs.length:=(u8.mp h).1
 have e:ixN xs.length (j:Int)=some j:=by
  unfold ixN
  rw[if_pos (by omega),if_pos (by omega)];simp
 unfold atI;rw[e];exact h
def b7U(b:Expr):Prop:=∀o i,subscripted b false o i=operate [o,i] (c9u o i)
def IxR(X:Cx)(r:R2):Prop:=
 ∀(value slice:Expr) (pins:List (Addr×Obj)) (s:k8) (σ:St) (H:Hp) (x y:V) (v u:Value) (Q:VK),Inv X pins σ H s->K9 x v->K9 y u->r x y H Q ->
  subscripted slice false v u=operate [v,u] (c9u v u)->wpAny (model X.prog X.w) X.A (subscriptTail value slice v u) (EP X pins σ Q) X.xe s
def MtR(X:Cx)(id:String)(r:V->List V->Hp->VK->Prop):Prop:=
 ∀(pins:List (Addr×Obj)) (s:k8) (σ:St) (H:Hp) (x:V) (xs:List V) (v:Value) (us:List Value) (Q:VK),Inv X pins σ H s->K9 x v->M3 xs us->r x xs H Q ->
  wpAny (model X.prog X.w) X.A (call (.builtin id) (v::us)) (EP X pins σ Q) X.xe s
section
variable {a b:Expr}{ta tb:TE}{pos:Pos}
theorem IxR.or{r r':R2}(h:IxR X r)(h':IxR X r'):IxR X (fun x y H Q=>r x y H Q\/r' x y H Q):=by
 intro value slice pins s σ H x y v u Q I rx ry q hs
 rcases q with q | q
 ·exact h value slice pins s σ H x y v u Q I rx ry q hs
 ·exact h' value slice pins s σ H x y v u Q I rx ry q hs
theorem d2z{r:R2}(hr:IxR X r)(ha:PE X a ta)(hb:PE X b tb)(hs:b7U b):PE X (.Subscript a b pos) (tOp r ta tb):=by
 intro pins s σ H Q I h
 exact Subscript_ (d1o ha hb I h fun v u s2 x y H2 I2 rx ry q=>hr a b pins s2 σ H2 x y v u Q I2 rx ry q (hs _ _))
def d2n(K:Fg):R2:=fun x y H Q=>∃p xs i v,x=.ref p/\y=.int i/\SqL K H p xs/\atI xs i=some v/\Q v H
def d2l(K:Fg):R2:=fun x y H Q=>∃p xs i v,x=.ref p/\y=.int i/\SqT K H p xs/\atI xs i=some v/\Q v H
def d2m:R2:=fun x y H Q=>∃z i c,x=.str z/\y=.int i/\z.length<=u6/\atI z.cps.toList i=some c/\Q (.str ⟨#[c]⟩) H
theorem c8o:IxR X (d2n X.K):=by
 intro value slice pins s σ H x y v u Q I rx ry h hs
 obtain⟨p,xs,i,z,rfl,rfl,hq,he,q⟩:=h
 cases rx
 obtain⟨t,rfl⟩:=ry
 obtain⟨its,r,pl,hz⟩:=I.list hq
 obtain⟨j,h1,h2,h3,h4,h5⟩:=b7Q he
 obtain⟨w,ew,rw'⟩:=r.get h2
 have hl:=r.length
 have hn:=b0d
 have fin:EP X pins σ Q w s:=⟨z,H,I,rw',q⟩
 by_cases h0:0<=i
 ·have hj:i.toNat=j:=by
   rw[d3i h0 h5]at h1
   exact Option.some.inj h1
  exact item_listR pl.isList h0 (by omega) (by rw[hj];simpa using ew) fin hs
 ·have hj:(i+(its.toArray.size:Int)).toNat=j:=by
   rw[d1Q (by omega) h4]at h1
   rw[o6,<-hl]
   exact Option.some.inj h1
  exact d1H (x:=w) pl.isList.typeIs slot_list_getitem.lookup
   (wpAny_getItem_list_neg (Q:=fun r s'=>r=w/\EP X pins σ Q r s') pl.isList (by omega) (by rw[o6] <;> omega) (by omega) (by rw[hj];simpa using ew) ⟨rfl,fin⟩) hs
theorem d1e:IxR X (d2l X.K):=by
 intro value slice pins s σ H x y v u Q I rx ry h hs
 obtain⟨p,xs,i,z,rfl,rfl,hq,he,q⟩:=h
 cases rx
 obtain⟨t,rfl⟩:=ry
 obtain⟨its,r,pl,hz⟩:=I.tuple hq
 obtain⟨j,h1,h2,h3,h4,h5⟩:=b7Q he
 obtain⟨w,ew,rw'⟩:=r.get h2
 have hl:=r.length
 have hn:=b0d
 have fin:EP X pins σ Q w s:=⟨z,H,I,rw',q⟩
 exact d1H (x:=w) pl.typeIs slot_tuple_getitem.lookup
  (getItem_tuple (j:=j) (Q:=fun r s'=>r=w/\EP X pins σ Q r s') pl (by omega) (by omega) (by rw[o6,<-hl];exact h1) (by simpa using ew) ⟨rfl,fin⟩) hs
theorem d1f:IxR X d2m:=by
 intro value slice pins s σ H x y v u Q I rx ry h hs
 obtain⟨z,i,c,rfl,rfl,hz,he,q⟩:=h
 obtain⟨t,rfl⟩:=rx
 obtain⟨t',rfl⟩:=ry
 obtain⟨j,h1,h2,h3,h4,h5⟩:=b7Q he
 have hl:z.cps.toList.length=z.length:=by simp[Str.length]
 rw[hl]at h1 h4 h5
 have hn:=b0d
 exact tail_any (typeIs_str s z t) slot_str_getitem.lookup (getItem_str (c:=c) (by
  have e1:decide (i < -(2 ^ 63:Int))=false:=d5q (by omega)
  have e2:decide (i ≥ 2 ^ 63)=false:=d5q (by omega)
  rw[e1,e2,d2W]) (by rw[h1];simpa using h2) ⟨.str ⟨#[c]⟩,H,I.tok _,⟨_,rfl⟩,q⟩) hs
def rIx(K:Fg):R2:=fun x y H Q=>d2n K x y H Q\/d2l K x y H Q\/d2m x y H Q
theorem c5Q:IxR X (rIx X.K):=c8o.or (d1e.or d1f)
theorem c1c(its:List Value)(n j:Nat)(u:Value):Obj.mapSeq (·.setIfInBounds j u) { cls:=.type "list",data:=.seq its.toArray n }={ cls:=.type "list",data:=.seq (its.set j u).toArray n }:=by
 simp[Obj.mapSeq]
theorem Inv.lst{pins:List (Addr×Obj)}{σ:St}{H:Hp}{s:k8}{p:Addr}{xs:List V}(I:Inv X pins σ H s)(h:H p=some (.lst xs)) :
  ∃(its:List Value) (n:Nat),M3 xs its/\s.heap.get? p=some { cls:=.type "list",data:=.seq its.toArray n }/\xs.length<=u6:=by
 obtain⟨z,its,n,r,e⟩:=I.hok p _ h
 exact⟨its,n,r,e,z⟩
theorem Inv.lstUpd{p:Addr}{ys:List V}{its its':List Value}{n':Nat}{f:Obj->Obj}(I:Inv X pins σ H s)(h:H p=some (.lst xs))
  (ho:s.heap.get? p=some { cls:=.type "list",data:=.seq its.toArray n }) (hf:f { cls:=.type "list",data:=.seq its.toArray n }={ cls:=.type "list",data:=.seq its'.toArray n' }) (r:M3 ys its') (hz:ys.length<=u6) (t:Nat) :
  Inv X pins σ (upd H p (.lst ys)) { s with heap:=s.heap.update p f,toks:=t }:=by
 have e:(s.heap.update p f).get? p=some { cls:=.type "list",data:=.seq its'.toArray n' }:=by
  rw[c3S f ho (by rw[hf] <;> rfl),hf]
 refine I.write (x:=p) (e:=p) (by rw[h];trivial) (.inl rfl) (fun b u hb q=>(c2o _ _ (Ne.symm hb)).trans q) ⟨_,e⟩ ?_
 exact⟨hz,its',n',r,e⟩
def d2k:V->V->V->Hp->(Hp->Prop)->Prop:=fun o i v H Q=>∃p xs k j,o=.ref p/\i=.int k/\H p=some (.lst xs)/\ixN xs.length k=some j/\Q (upd H p (.lst (xs.set j v)))
theorem c4J:c6t X d2k:=by
 intro pins s σ H o i v ov iv u Q I ro ri rv h
 obtain⟨p,xs,k,j,rfl,rfl,hp,hj,q⟩:=h
 cases ro
 obtain⟨t,rfl⟩:=ri
 obtain⟨its,n,r,ho,hz⟩:=I.lst hp
 obtain⟨h1,h2,h3,h4⟩:=c1X hj
 have hl:=r.length
 have hn:=b0d
 have I':Inv X pins σ (upd H p (.lst (xs.set j v))) { s with heap:=s.heap.update p (Obj.mapSeq (·.setIfInBounds j u)) }:=
  I.lstUpd hp ho (c1c its n j u) (r.set rv j) (by rw[a3R];exact hz) s.toks
 by_cases h0:0<=k
 ·have hk:k.toNat=j:=by
   rw[d3i h0 h4]at h1
   exact Option.some.inj h1
  exact PySem.W.ki_setAt ho h0 (by omega) (by rw[o6,<-hl];exact h4) (by rw[hk];exact⟨_,I',q⟩)
 ·have hk:(k+(its.toArray.size:Int)).toNat=j:=by
   rw[d1Q (by omega) h3]at h1
   rw[o6,<-hl]
   exact Option.some.inj h1
  exact PySem.W.ki_setBack ho (by omega) (by rw[o6,<-hl];exact h3) (by omega) (by rw[hk];exact⟨_,I',q⟩)
theorem b6T(lo hi:Option Int)(n:Nat):(a8j lo hi none n).1=((HT.sIx n 0 lo:Nat):Int)/\(a8j lo hi none n).2.1=((HT.sIx n n hi:Nat):Int)/\(a8j lo hi none n).2.2=1:=by
 refine⟨?_,?_,rfl⟩
 ·cases lo with
  | none=>simp[a8j,HT.sIx]
  | some i=>
   simp only[a8j,HT.sIx,c6G,show(1:Int) > 0 by decide,if_true]
   by_cases h:i<0
   ·simp only[h,if_true] <;> omega
   ·simp only[h,if_false] <;> omega
 ·cases hi with
  | none=>simp[a8j,HT.sIx]
  | some i=>
   simp only[a8j,HT.sIx,c6G,show(1:Int) > 0 by decide,if_true]
   by_cases h:i<0
   ·simp only[h,if_true] <;> omega
   ·simp only[h,if_false] <;> omega
theorem b5s(its:List Value)(lo hi:Option Int):slicePick its.toArray lo hi none=((its.drop (HT.sIx its.length 0 lo)).take (HT.sIx its.length its.length hi - HT.sIx its.length 0 lo)).toArray:=by
 obtain⟨h1,h2,h3⟩:=b6T lo hi its.toArray.size
 unfold slicePick
 rw[h1,h2,h3]
 simp only[sliceRange_one,pick_run,o6] <;> rfl
def c9P(K:Fg):V->Option Int->Option Int->Hp->VK->Prop:=fun x lo hi H Q=>∃a xs,x=.ref a/\SqL K H a xs/\∀p,H p=none->Q (.ref p) (upd H p (.lst (a8J xs lo hi)))
theorem c1Q:SlR X (c9P X.K):=by
 intro pins s σ H x v vl vu lo hi sl Q I rx hs pl pu h
 obtain⟨a,xs,rfl,hx,q⟩:=h
 cases rx
 obtain⟨its,r,ht,hz⟩:=I.list hx
 have hlen:=r.length
 refine⟨"list",_,slot_list_getitem.lookup,ht.isList.typeIs,?_⟩
 refine wpAny_getItem_list_slice ht.isList hs pl pu .none (by simp) ?_ (by rw[o6] <;> omega)
 rw[b5s,<-hlen]
 refine⟨.ref s.heap.objs.size,_,I.laid (t':=s.toks) (o:=.lst (a8J xs lo hi)) (fun b ob q=>i8 _ q) (j5 _) ?_,rfl,q _ (I.hok.fresh (j5 _))⟩
 exact⟨D9 (b2P xs lo hi) hz,_,0,(r.drop (HT.sIx xs.length 0 lo)).take (HT.sIx xs.length xs.length hi - HT.sIx xs.length 0 lo),A8 _ rfl⟩
def R6:V->Bool
 | .non=>true
 | .bl _=>true
 | .int _=>true
 | .str _=>true
 | _=>false
def eqV:V->V->Bool
 | .non,.non=>true
 | .bl a,.bl b=>a == b
 | .bl a,.int b=>(if a then 1 else 0) == b
 | .int a,.bl b=>a == (if b then 1 else 0)
 | .int a,.int b=>a == b
 | .str a,.str b=>a == b
 | _,_=>false
theorem c5X{A:R3}{y x:V}{u v:Value}(ry:K9 y u)(rx:K9 x v)(fy:R6 y=true)(fx:R6 x=true):SeqAt.EqAt A s u v (eqV y x):=by
 cases y with
 | non=>
  cases ry
  cases x with
  | non=>cases rx;exact SeqAt.EqAt.same _
  | bl b=>cases rx;exact SeqAt.EqAt.none_bool b
  | int b=>obtain⟨t,rfl⟩:=rx;exact SeqAt.EqAt.none_int b t
  | str b=>obtain⟨t,rfl⟩:=rx;exact SeqAt.EqAt.none_str b t
  | _=>exact absurd (show false=true from fx) z5
 | bl a=>
  cases ry
  cases x with
  | non=>cases rx;exact SeqAt.EqAt.bool_none a
  | bl b=>cases rx;exact SeqAt.EqAt.bool_bool a b
  | int b=>obtain⟨t,rfl⟩:=rx;exact SeqAt.EqAt.bool_int a b t
  | str b=>obtain⟨t,rfl⟩:=rx;exact SeqAt.EqAt.bool_str a b t
  | _=>exact absurd (show false=true from fx) z5
 | int a=>
  obtain⟨t',rfl⟩:=ry
  cases x with
  | non=>cases rx;exact SeqAt.EqAt.int_none a t'
  | bl b=>cases rx;exact SeqAt.EqAt.int_bool a t' b
  | int b=>obtain⟨t,rfl⟩:=rx;exact SeqAt.EqAt.int_int a t' b t
  | str b=>obtain⟨t,rfl⟩:=rx;exact SeqAt.EqAt.int_str a t' b t
  | _=>exact absurd (show false=true from fx) z5
 | str a=>
  obtain⟨t',rfl⟩:=ry
  cases x with
  | non=>cases rx;exact SeqAt.EqAt.str_none a t'
  | bl b=>cases rx;exact SeqAt.EqAt.str_bool a t' b
  | int b=>obtain⟨t,rfl⟩:=rx;exact SeqAt.EqAt.str_int a t' b t
  | str b=>obtain⟨t,rfl⟩:=rx;exact SeqAt.EqAt.str_str a t' b t
  | _=>exact absurd (show false=true from fx) z5
 | _=>exact absurd (show false=true from fy) z5
def eqU(x:V)(u:Value):Bool:=match u with
 | .none=>eqV .non x
 | .bool b=>eqV (.bl b) x
 | .int i _=>eqV (.int i) x
 | .str z _=>eqV (.str z) x
 | _=>false
theorem c5W{x y:V}{u:Value}(r:K9 y u)(f:R6 y=true):eqU x u=eqV y x:=by
 cases y with
 | non=>cases r;rfl
 | bl b=>cases r;rfl
 | int i=>obtain⟨t,rfl⟩:=r;rfl
 | str z=>obtain⟨t,rfl⟩:=r;rfl
 | _=>exact absurd (show false=true from f) z5
theorem b7S{x:V}:∀ {xs:List V} {us:List Value},M3 xs us->xs.all R6=true->us.any (eqU x)=xs.any fun y=>eqV y x
 | _,_,.nil,_=>rfl
 | y::xs,u::us,.cons r t,f=>by
  rw[T3,F5]at f
  rw[a3m,a3m,c5W r f.1,b7S t f.2]
theorem b4M{A:R3}{x:V}{v:Value}(rx:K9 x v)(fx:R6 x=true):∀ {xs:List V} {us:List Value},M3 xs us->xs.all R6=true->∀u∈us,SeqAt.EqAt A s u v (eqU x u)
 | _,_,.nil,_=>fun u hu=>by cases hu
 | y::xs,u::us,.cons r t,f=>fun u' hu=>by
  rw[T3,F5]at f
  rcases o4.mp hu with rfl | hu
  ·rw[c5W r f.1];exact c5X r rx f.1 fx
  ·exact b4M rx fx t f.2 u' hu
def inV(x:V)(xs:List V):Bool:=xs.any fun y=>eqV y x
def rIn(K:Fg)(neg:Bool):R2:=fun x y H Q=>∃p xs,y=.ref p/\(SqL K H p xs\/SqT K H p xs)/\R6 x=true/\xs.all R6=true/\Q (.bl (if neg then !inV x xs else inV x xs)) H
theorem b6k:OpR X (A9 .In) (rIn X.K false):=by
 intro pins s σ H x y v u Q I rx ry h
 obtain⟨p,xs,rfl,hq,fx,fs,q⟩:=h
 cases ry
 rcases hq with hq | hq
 ·obtain⟨its,r,pl,hz⟩:=I.list hq
  refine SeqAt.in_listAt (eqU x) pl.isList (fun w hw=>b4M rx fx r fs w (by simpa using hw)) ⟨.bl _,H,I,rfl,?_⟩
  rw[show its.toArray.any (eqU x)=its.any (eqU x) by simp,b7S r fs]
  exact q
 ·obtain⟨its,r,pl,hz⟩:=I.tuple hq
  refine SeqAt.in_tupleAt (eqU x) pl (fun w hw=>b4M rx fx r fs w (by simpa using hw)) ⟨.bl _,H,I,rfl,?_⟩
  rw[show its.toArray.any (eqU x)=its.any (eqU x) by simp,b7S r fs]
  exact q
theorem b1b:X5 X (.builtin "len") (fun xs H Q=>∃p ys,xs=[.ref p]/\(SqL X.K H p ys\/SqT X.K H p ys)/\Q (.int ys.length) H):=by
 intro pins s σ H xs us Q I r h
 obtain⟨p,ys,rfl,hq,q⟩:=h
 obtain⟨u,rfl,rx⟩:=a4Z r
 cases rx
 have hn:=b0d
 rcases hq with hq | hq
 ·obtain⟨its,r',pl,hz⟩:=I.list hq
  have hlen:=r'.length
  exact Calls.call_len_list pl.isList (by simp only[o6] <;> omega) ⟨.int ys.length,H,I.tok _,⟨s.toks+1,by rw[o6,hlen]⟩,q⟩
 ·obtain⟨its,r',pl,hz⟩:=I.tuple hq
  have hlen:=r'.length
  exact len_tuple pl (by simp only[o6] <;> omega) ⟨.int ys.length,H,I.tok _,⟨s.toks+1,by rw[o6,hlen]⟩,q⟩
theorem b7J:X5 X (.builtin "len") (fun xs H Q=>∃z,xs=[.str z]/\z.length<=u6/\Q (.int z.length) H):=by
 intro pins s σ H xs us Q I r h
 obtain⟨z,rfl,hz,q⟩:=h
 obtain⟨u,rfl,t,rfl⟩:=a4Z r
 have hn:=b0d
 exact len_str (by omega) ⟨.int z.length,H,I.tok _,⟨_,rfl⟩,q⟩
theorem X5.or{f:Value}{r r':List V->Hp->VK->Prop}(h:X5 X f r)(h':X5 X f r'):X5 X f (fun xs H Q=>r xs H Q\/r' xs H Q):=by
 intro pins s σ H xs us Q I rs q
 rcases q with q | q
 ·exact h pins s σ H xs us Q I rs q
 ·exact h' pins s σ H xs us Q I rs q
theorem b7I:X5 X (.type "list") (fun xs H Q=>∃p ys,xs=[.ref p]/\(SqL X.K H p ys\/SqT X.K H p ys)/\∀l,H l=none->Q (.ref l) (upd H l (.lst ys))):=by
 intro pins s σ H xs us Q I r h
 obtain⟨p,ys,rfl,hq,q⟩:=h
 obtain⟨u,rfl,rx⟩:=a4Z r
 cases rx
 have fin:∀(its:List Value),M3 ys its->ys.length<=u6->∀(h':Heap) (c':Nat),(∀b o',s.heap.get? b=some o'->h'.get? b=some o') ->
   h'.get? s.heap.objs.size=some { cls:=.type "list",dict:=none,data:=.seq its.toArray c',slots := #[] }->EP X pins σ Q (.ref s.heap.objs.size) { s with heap:=h' }:=fun its r' hz h' c' kp e=>
  ⟨.ref s.heap.objs.size,_,I.laid (t':=s.toks) kp (j5 _) (show Z4 X.prog X.w _ h' _ (.lst ys)from⟨hz,its,c',r',e⟩),rfl,q _ (I.hok.fresh (j5 _))⟩
 rcases hq with hq | hq
 ·obtain⟨its,r',pl,hz⟩:=I.list hq
  have hlen:=r'.length
  obtain⟨o,ho,hc,n,hd⟩:=pl.isList
  exact call_list_seq p (.inl rfl) ho hc hd (fun h' c' kp e=>fin its r' hz h' c' kp e) (by simp only[o6] <;> omega)
 ·obtain⟨its,r',pl,hz⟩:=I.tuple hq
  have hlen:=r'.length
  obtain⟨o,ho,hc,n,hd⟩:=pl
  exact call_list_seq p (.inr rfl) ho hc hd (fun h' c' kp e=>fin its r' hz h' c' kp e) (by simp only[o6] <;> omega)
def tyV(K:Fg)(T:String)(x:V)(H:Hp):Prop:=match x with
 | .str _=>T = "str"
 | .int _=>T = "int"
 | .ref p=>(T = "list" /\ ∃xs,SqL K H p xs)\/(T = "tuple" /\ ∃o,K.lookup p=some o/\o.cls=.type "tuple" /\ o.dict=none) \/
   (T = "dict" /\ ((∃kvs,H p=some (.dK kvs))\/∃kvs,H p=some (.dT kvs)))\/(T = "set" /\ ∃S n,H p=some (.set S n))
 | _=>False
theorem c4v{T:String}{x:V}{v:Value}(I:Inv X pins σ H s)(r:K9 x v)(ty:tyV X.K T x H) :
  s.TypeIs v T/\∀a,v=.ref a->∃ob,s.heap.get? a=some ob/\ob.dict=none:=by
 cases x with
 | str z=>
  obtain⟨t,rfl⟩:=r
  cases (show T = "str" from ty)
  exact⟨typeIs_str s z t,fun _ e=>nomatch e⟩
 | int i=>
  obtain⟨t,rfl⟩:=r
  cases (show T = "int" from ty)
  exact⟨typeIs_int s i t,fun _ e=>nomatch e⟩
 | ref p=>
  cases r
  rcases ty with ⟨rfl,xs,hq⟩ | ⟨rfl,o,hk,hc,hd⟩ | ⟨rfl,hk⟩ | ⟨rfl,S,n,hk⟩
  ·obtain⟨its,_,pl,_⟩:=I.list hq
   refine⟨pl.isList.typeIs,fun a e=>?_⟩
   cases e
   obtain⟨o,n,e,c,hd,_⟩:=pl
   exact⟨o,e,hd⟩
  ·refine⟨⟨o,I.kIn p o hk,hc⟩,fun a e=>?_⟩
   cases e
   exact⟨o,I.kIn _ o hk,hd⟩
  ·have z:∃o,s.heap.get? p=some o/\o.ExactDict:=by
    rcases hk with ⟨kvs,hk⟩ | ⟨kvs,hk⟩
    ·obtain⟨_,_,_,_,o,_,_,e,ex,_⟩:=I.hok p _ hk
     exact⟨o,e,ex⟩
    ·obtain⟨_,_,_,_,o,_,_,e,ex,_⟩:=I.hok p _ hk
     exact⟨o,e,ex⟩
   obtain⟨o,e,ex⟩:=z
   refine⟨⟨o,e,ex.1⟩,fun a e2=>?_⟩
   cases e2
   exact⟨o,e,ex.2.1⟩
  ·obtain⟨o,_,_,_,e,ex,_⟩:=I.hok p _ hk
   refine⟨⟨o,e,ex.1⟩,fun a e2=>?_⟩
   cases e2
   exact⟨o,e,ex.2.1⟩
 | _=>exact False.elim ty
def c6P(K:Fg)(T:String)(r:V->List V->Hp->VK->Prop)(to:TE):TE:=fun σ H Q=>to σ H fun x H1=>tyV K T x H1/\r x [] H1 Q
def tBM(K:Fg)(T:String)(r:V->List V->Hp->VK->Prop)(to:TE)(t:TA):TE:=fun σ H Q=>to σ H fun x H1=>tyV K T x H1/\t σ H1 fun xs H2=>r x xs H2 Q
variable {o e:Expr}{es:List Expr}{to:TE}{t:TA}{name:Str}{apos cpos:Pos}{T id:String}{r:V->List V->Hp->VK->Prop}
theorem d0t(pa:c8R T)(slot:Slot T name id)(hty:typeOf (.builtin id)=pure (.type "method_descriptor"))(hm:MtR X id r)(ho:PE X o to)
  (hbase:a2w o name X.env (eval o X.env)=eval o X.env:=by rfl) (hline:(apos.endLine == cpos.line)=true:=by rfl):PE X (.Call (.Attribute o name apos) [] [] cpos) (c6P X.K T r to):=by
 intro pins s σ H Q I h
 refine wpAny_Call_method0_late hbase hline (thn (ho pins s σ H _ I h) fun v s1 ⟨x,H1,I1,r1,ty,q1⟩=>?_)
 obtain⟨h1,h2⟩:=c4v I1 r1 ty
 exact⟨T,id,pa,slot,hty,h1,h2,Calls.callWith_builtin rfl (PySem.evalArgs_none (hm pins s1 σ H1 x [] v [] Q I1 r1 .nil q1))⟩
theorem d2A(pa:c8R T)(slot:Slot T name id)(hty:typeOf (.builtin id)=pure (.type "method_descriptor"))(hm:MtR X id r)(ho:PE X o to)(ha:PA X (e::es) t)
  (hbase:a2w o name X.env (eval o X.env)=eval o X.env:=by rfl)
  (hfew:((a1f cpos (l9 (e::es) X.env)).all (fun x => !x.1)&&(a9r cpos (a3p [] X.env)).all (fun x=>x.1.isSome)
   && decide ((e::es).length+([]:List b6A).length+(if([]:List b6A).isEmpty then 0 else 1)<30))=true:=by rfl)
  (hline:(apos.endLine == cpos.line)=true:=by rfl) (hs:l9 (e::es) X.env=(false,eval e X.env)::l9 es X.env:=by rfl) (hplain:(a1f cpos (l9 es X.env)).any (·.1)=false:=by rfl) :
  PE X (.Call (.Attribute o name apos) (e::es) [] cpos) (tBM X.K T r to t):=by
 intro pins s σ H Q I h
 refine wpAny_Call_method_late hbase hfew hline rfl (thn (ho pins s σ H _ I h) fun v s1 ⟨x,H1,I1,r1,ty,q1⟩=>?_)
 obtain⟨h1,h2⟩:=c4v I1 r1 ty
 refine⟨T,id,pa,slot,hty,h1,h2,?_⟩
 have hA:=ha cpos pins s1 σ H1 _ I1 q1
 rw[hs]at hA ⊢
 refine Calls.callWith_builtin (by show(false||(a1f cpos (l9 es X.env)).any (·.1))=false;rw[hplain] <;> rfl) (Calls.evalArgs_plain ?_)
 exact thn hA fun us s2 ⟨vs,H2,I2,r2,q2⟩=>hm pins s2 σ H2 x vs v us Q I2 r1 r2 q2
end
def MtM(X:Cx)(id:String)(r:V->List V->Hp->VK->Prop):Prop:=
 ∀(pins:List (Addr×Obj)) (s:k8) (σ:St) (H:Hp) (x:V) (xs:List V) (v:Value) (us:List Value) (Q:VK),Inv X pins σ H s->K9 x v->M3 xs us->r x xs H Q ->
  wpAny (model X.prog X.w) X.A (call (.builtin id) (v::us)) (EP X pins σ Q) X.xe s
theorem M3.one:∀ {x:V} {us:List Value},M3 [x] us->∃u,us=[u]/\K9 x u
 | _,_,.cons r .nil=>⟨_,rfl,r⟩
theorem M3.zero:∀ {us:List Value},M3 [] us->us=[]
 | _,.nil=>rfl
theorem M3.dropLast(h:M3 xs us):M3 xs.dropLast us.dropLast:=by
 induction h with
 | nil=>exact .nil
 | cons r t ih=>
  cases t with
  | nil=>exact .nil
  | cons q t'=>exact .cons r ih
theorem c1p{α:Type}(l:List α):l.eraseIdx (l.length - 1)=l.dropLast:=by
 induction l with
 | nil=>rfl
 | cons a r ih=>
  cases r with
  | nil=>rfl
  | cons b r=>
   have e:(a::b::r).length - 1=((b::r).length - 1)+1:=by
    have h1:(a::b::r).length=r.length+2:=rfl
    have h2:(b::r).length=r.length+1:=rfl
    omega
   rw[e,List.eraseIdx_cons_succ,ih]
   all_goals rfl
section
variable {l b:Addr}{ys zs:List V}
theorem Inv.lset{its its':List Value}{f:Array Value->Array Value}{t':Nat}(I:Inv X pins σ H s)(hH:H l=some (.lst xs))
  (e:s.heap.get? l=some { cls:=.type "list",data:=.seq its.toArray n }) (hf:f its.toArray=its'.toArray) (hv:M3 ys its') (hz:ys.length<=u6) :
  Inv X pins σ (upd H l (.lst ys)) { s with heap:=s.heap.update l (Obj.mapSeq f),toks:=t' }:=by
 have q:=PySem.IsL.update e f
 rw[hf]at q
 refine I.write (x:=l) (e:=l) (by rw[hH];exact trivial) (.inl rfl) (fun b' u hb hu=>(c2o s.heap (Obj.mapSeq f) (Ne.symm hb)).trans hu) ⟨_,q⟩ ?_
 exact⟨hz,its',_,hv,q⟩
theorem Inv.lnew{its:List Value}{t':Nat}(I:Inv X pins σ H s)(hv:M3 ys its)(hz:ys.length<=u6) :
  Inv X pins σ (upd H s.heap.objs.size (.lst ys)) { s with heap:=s.heap.push { cls:=.type "list",data:=.seq its.toArray },toks:=t' }:=
 I.laid (fun _ _ q=>i8 _ q) (j5 _) ⟨hz,its,0,hv,A8 _ rfl⟩
theorem Inv.fresh(I:Inv X pins σ H s):H s.heap.objs.size=none:=I.hok.fresh (j5 _)
theorem Inv.lstM(I:Inv X pins σ H s)(hH:H l=some (.lst xs)):xs.length<=u6/\∃(its:List Value) (n:Nat),M3 xs its/\xs.length=its.length/\s.heap.get? l=some { cls:=.type "list",data:=.seq its.toArray n }:=by
 obtain⟨z,its,n,r,e⟩:=I.hok l _ hH
 exact⟨z,its,n,r,r.length,e⟩
theorem c5D(h:n<=u6):Builtin.List.listTooLong n=false:=by
 unfold Builtin.List.listTooLong
 exact d5q (by omega)
end
section
def c7e:V->List V->Hp->VK->Prop:=fun x vs H Q=>∃l xs y,x=.ref l/\vs=[y]/\H l=some (.lst xs)/\xs.length<u6/\Q .non (upd H l (.lst (xs++[y])))
theorem b2d:MtM X "list.append" c7e:=by
 intro pins s σ H x vs v us Q I rx rv h
 obtain⟨l,xs,y,rfl,rfl,hH,hz,q⟩:=h
 cases rx
 obtain⟨u,rfl,ru⟩:=rv.one
 obtain⟨z,its,n,r,hl,e⟩:=I.lstM hH
 refine c8P F.slot_list_append ⟨_,e,rfl⟩ F.entry_list_append (F.args_list_append_2 _ _) (PySem.list_append l its.toArray n u (by rw[o6];omega)) ⟨e,?_⟩
 refine⟨.non,_,I.lset (its':=its++[u]) hH e (by simp) (r.append (.cons ru .nil)) ?_,rfl,q⟩
 rw[p5,O6]
 omega
def c7d:V->List V->Hp->VK->Prop:=fun x vs H Q=>∃l b xs zs,x=.ref l/\vs=[.ref b]/\H l=some (.lst xs)/\H b=some (.lst zs)/\xs.length+zs.length<=u6/\Q .non (upd H l (.lst (xs++zs)))
theorem c3f:MtM X "list.extend" c7d:=by
 intro pins s σ H x vs v us Q I rx rv h
 obtain⟨l,b,xs,zs,rfl,rfl,hH,hB,hz,q⟩:=h
 cases rx
 obtain⟨u,rfl,ru⟩:=rv.one
 cases ru
 obtain⟨z,its,n,r,hl,e⟩:=I.lstM hH
 obtain⟨z2,its2,n2,r2,hl2,e2⟩:=I.lstM hB
 have hsz:its.toArray.size+its2.toArray.size<=u6:=by rw[o6,o6];omega
 have hlong:¬(!its.toArray.isEmpty&&Builtin.List.listTooLong (its.toArray.size+its2.toArray.size))=true:=by
  rw[c5D hsz,d1N]
  exact z5
 refine c8P F.slot_list_extend ⟨_,e,rfl⟩ F.entry_list_extend (F.args_list_extend_2 _ _)
  (AutoSeq1.list_extend_list_list_0 l its.toArray n b its2.toArray n2 hlong (by rw[o6];omega) (by omega)) ⟨e,e2,?_⟩
 refine⟨.non,_,I.lset (its':=its++its2) hH e (by simp) (r.append r2) ?_,rfl,q⟩
 rw[p5]
 omega
def d3q:V->List V->Hp->VK->Prop:=fun x vs H Q=>∃l xs y,x=.ref l/\vs=[]/\H l=some (.lst xs)/\xs[xs.length - 1]? = some y/\Q y (upd H l (.lst xs.dropLast))
theorem d0T:MtM X "list.pop" d3q:=by
 intro pins s σ H x vs v us Q I rx rv h
 obtain⟨l,xs,y,rfl,rfl,hH,hy,q⟩:=h
 cases rx
 have hus:=rv.zero
 subst hus
 obtain⟨z,its,n,r,hl,e⟩:=I.lstM hH
 obtain⟨u,hu,ru⟩:=r.get hy
 have hy':its.toArray[its.toArray.size - 1]? = some u:=by
  show its.toArray[its.length - 1]? = some u
  rw[<-a0D,<-hl]
  exact hu
 refine c8P F.slot_list_pop ⟨_,e,rfl⟩ F.entry_list_pop (F.args_list_pop_1 _) (MeetsSeq.list_pop_last l its.toArray n u hy' (by rw[o6];omega)) ⟨e,?_⟩
 refine⟨y,_,I.lset (its':=its.dropLast) hH e ?_ r.dropLast ?_,ru,q⟩
 ·show its.toArray.eraseIdxIfInBounds (its.toArray.size - 1)=its.dropLast.toArray
  rw[o6,List.eraseIdxIfInBounds_toArray,c1p]
 ·rw[List.length_dropLast]
  omega
def d3r:R2:=fun x y H Q=>∃l b xs zs,x=.ref l/\y=.ref b/\H l=some (.lst xs)/\H b=some (.lst zs)/\xs.length+zs.length<=u6/\∀p,H p=none->Q (.ref p) (upd H p (.lst (xs++zs)))
theorem d0K:OpR X (a1P .Add) d3r:=by
 intro pins s σ H x y v u Q I rx ry h
 obtain⟨l,b,xs,zs,rfl,rfl,hH,hB,hz,q⟩:=h
 cases rx
 cases ry
 obtain⟨z,its,n,r,hl,e⟩:=I.lstM hH
 obtain⟨z2,its2,n2,r2,hl2,e2⟩:=I.lstM hB
 refine PySem.P.add_list e e2 ?_ (by rw[o6,o6];omega)
 have ea:its.toArray++its2.toArray=(its++its2).toArray:=by simp
 rw[ea]
 exact⟨.ref _,_,I.lnew (t':=s.toks) (r.append r2) (by rw[p5];omega),rfl,q _ I.fresh⟩
end
section
variable {prog:D4}{w:World}{A:R3}{E:Value->k8->Prop}
set_option maxRecDepth 100000 in
end
section
end
end L2
namespace Att
open PySem PySem.W PySem.Calls PyProof.Rows
theorem b3g{P:Params}{h:Heap}:∀(ns:List Int) (vs:List Value),WellAll P h vs (ns.map WData.int)->c4d vs ns:=by
 intro ns
 induction ns with
 | nil=>
  intro vs w
  rw[c2l]at w
  cases w
  exact .nil
 | cons n ns ih=>
  intro vs w
  rw[B8]at w
  cases w with
  | cons a b=>
   cases a
   exact .cons _ _ (ih _ b)
theorem c2D{l:OpenLaw}{n:Nat}(hn:l.most=some n){P:Params}{h:Heap}{args:List WData}{vals:List Value}
  (hpre:l.row.toRowW.claim.pre args=true) (hwl:WellAll P h vals args) :
  ∃a vs ns,vals=[Value.ref a]/\args=[WData.list (ns.map WData.int)]/\h.get? a=some { cls:=.type "list",data:=.seq vs.toArray }/\c4d vs ns/\ns.length<=n:=by
 have hsh:WShape.hasAll [] args [.list .int]=true:=(pre_splitW hpre).1
 have hc:l.pre.holds [] { args:=args }=true:=(pre_splitW hpre).2
 obtain⟨d,r,rfl,h1,h2⟩:=hasAllW_cons hsh
 obtain rfl:=hasAllW_nil h2
 obtain⟨xs,rfl,h3⟩:=hasW_list h1
 obtain⟨ns,rfl⟩:=items_int h3
 have hlen:ns.length<=n:=by
  unfold OpenLaw.pre at hc
  have h4:(WTm.not (.lt (.lit (.int (n:Int))) (.len (.arg 0)))).holds [] { args:=[.list (ns.map .int)] }=true:=by
   have h4:=(holds_andW hc).1
   rw[hn]at h4
   exact h4
  have h5:=condW_of h4 (w_not (w_lt w_lit (w_len_list (w_arg rfl))))
  rw[b5]at h5
  refine Nat.le_of_not_lt fun q=>?_
  have q':(n:Int)<((ns.length:Nat):Int):=by omega
  first
   | (rw[d5r q']at h5;exact absurd h5 (by decide))
   | (simp at h5;omega)
 cases hwl with
 | cons w1 w2=>
  cases w2
  cases w1 with
  | list ho hall=>exact⟨_,_,ns,rfl,rfl,ho,b3g ns _ hall,hlen⟩
theorem c2Q(l:OpenLaw)(args:List WData):l.row.toRowW.claim.post args (.bool true) args=true:=
 postW_of (r:=l.row.toRowW) (X:=(true == true))
  (show WShape.has [] (.bool true) .bool=true by first | rfl | decide | simp[WShape.has,WShape.arms,WShape.armsAll])
  (show(WTm.eq .res (.lit (.bool true))).value [] { args:=args,res:=some (.bool true),after:=args }=some (.bool (true == true))from w_eq_bool (w_res rfl) w_lit) rfl
theorem b9L{l:OpenLaw}{n:Nat}{q:D4}{loose:List Str}{XP:(Str->Option Value)->Heap->Prop}{YP:World->Heap->Prop}{d:DefRec}
  (hn:l.most=some n) (hdf:d.params.defaults=[])
  (call:∀(w:World) (s₀ s₁:k8) (mg mb:Str->Option Value) (fa:Addr) (o:Obj) (pm cd doc:Value) (a:Addr) (vs:List Value) (ns:List Int),
   Ground q loose [] XP w s₀ mg mb s₁.heap->YP w s₁.heap ->
   s₁.heap.get? fa=some o->o.data=.func (docDef d.name d.params d.body d.scope pm cd doc)->s₁.heap.CodeRec cd d.name->mg d.name=some (.ref fa) ->
   s₁.heap.get? a=some { cls:=.type "list",data:=.seq vs.toArray }->c4d vs ns->ns.length<=n->s₁.gens = #[] ->
   a7f (model l.prog w) c4c (.call (.ref fa) ⟨[.ref a],[]⟩) (fun r s'=>r=.ok (.ret (.bool true))/\OldK s₁.heap s'.heap/\s'.os=s₁.os/\b6B s'.gens) s₁) :
  WalkO q loose XP YP l.row.toRowW d [] (fun f vs=>b7X f vs):=by
 intro w s₀ s₁ mg mb G Y fa o pm cd doc dV kV ho hd hcd hD hmg hg args vals as hpre hlay hrd hwl hlo
 obtain rfl:dV=.none:=Dflts.none hD hdf
 obtain rfl:kV=.none:=Dflts.noKw hD
 obtain⟨a,vs,ns,rfl,rfl,hobj,hints,hlen⟩:=c2D hn hpre hwl
 refine enter_call (c1J (call w s₀ s₁ mg mb fa o pm cd doc a vs ns G Y ho (fd_plain hd) hcd hmg hobj hints hlen hg) fun r s' hq=>?_)
 obtain⟨rfl,h2,h3,h4⟩:=hq
 exact⟨.inl ⟨.bool true,.bool true,[],rfl,fun _=>rfl,.bool true,c2Q l _,fun _=>⟨List.Pairwise.nil,fun _ hm=>(nomatch hm)⟩⟩,h2,h3,h4⟩
section
variable {prog:D4}{w:World}{A:R3}{E:Value->k8->Prop}{s:k8}{K:Frag}
end
end Att
namespace L2
open PySem PySem.Spec PyProof.Rows
theorem b1y:∀ {vs:List Value} {ns:List Int},c4d vs ns->M3 (ns.map V.int) vs
 | _,_,.nil=>.nil
 | _,_,.cons n t h=>.cons ⟨t,rfl⟩ (b1y h)
def c8H(H:Hp):Prop:=∀b,H b=none\/∃o xs,H b=some (.frz o (.lst xs))
theorem c5N{P:D4}{w:World}{K:Fg}{mg mb:Str->Option Value}{CX:CXT}{k:Nat}{fa a:Addr}{fd:a0w}{x:Str}{sp:Sp}{s₁:k8}{vs:List Value}{ns:List Int}
  (KX:K.In s₁.heap) (hns:s₁.heap.Ns A6 mg) (hb:s₁.heap.Ns builtinsNs mb) (hbb:∀x:Str,x ≠ "__name__" -> mb x=a3q x) (hlim:s₁.heap.NoLimit) (hg:s₁.gens = #[])
  (ha:s₁.heap.get? a=some { cls:=.type "list",data:=.seq vs.toArray }) (hi:c4d vs ns) (hl:ns.length<=u6) (hr:V6 k c4c)
  (F:∀base:Heap,K.In base->base.Ns A6 mg->F7 P w K mg base CX k fa fd [x] sp) (hbind:∀(s:k8) (u:Value),c4e s fd ⟨[u],[]⟩ [(x,u)])
  (hsp:∀H:Hp,c8H H->SqL K H a (ns.map V.int)->sp [.ref a] H (fun v _=>v=.bl true) fun _ _ _=>False)
  (hCX:∀H e s',CX [] H s₁ (fun _ _ _=>False) e s'->False) :
  a7f (model P w) c4c (.call (.ref fa) ⟨[.ref a],[]⟩) (fun r s'=>r=.ok (.ret (.bool true))/\OldK s₁.heap s'.heap/\s'.os=s₁.os/\b6B s'.gens) s₁:=by
 have rv:=b1y hi
 have lenV:=hi.length
 have core:∀H:Hp,c8H H->SqL K H a (ns.map V.int)->HOk P w H s₁.heap->(∀b,H b≠none->b=a)->(H a≠none->K.lookup a=none) ->
   a7f (model P w) c4c (.call (.ref fa) ⟨[.ref a],[]⟩) (fun r s'=>r=.ok (.ret (.bool true))/\OldK s₁.heap s'.heap/\s'.os=s₁.os/\b6B s'.gens) s₁:=by
  intro H hO hS hok hA hK
  have base_of:∀ {b:Addr} {o:Obj},s₁.heap.get? b=some o->H b=none->(b7x s₁.heap H).get? b=some o:=fun e n=>c5S e n
  have noA:∀ {b:Addr} {o:Obj} {es:Array a4F} {ep:Nat},s₁.heap.get? b=some o->o.data=.dict es ep->H b=none:=fun {b o es ep} e d=>by
   cases q:H b with
   | none=>rfl
   | some u=>
    have e':b=a:=hA b (by rw[q];simp)
    subst e'
    rw[ha]at e;cases e
    have d':Data.seq vs.toArray _=Data.dict es ep:=d
    cases d'
  have nsK:∀ {b:Addr} {m:Str->Option Value},s₁.heap.Ns b m->(b7x s₁.heap H).Ns b m:=fun {b m} ⟨o,es,ep,e,d,r⟩=>⟨o,es,ep,base_of e (noA e d),d,r⟩
  have hKb:K.In (b7x s₁.heap H):=fun b o e=>base_of (KX b o e) (by
   cases q:H b with
   | none=>rfl
   | some u=>
    have e':b=a:=hA b (by rw[q];simp)
    subst e'
    rw[hK (by rw[q];simp)]at e;cases e)
  have hM:Mod K mg (b7x s₁.heap H):=⟨hKb,nsK hns,⟨mb,nsK hb,hbb⟩,let⟨mc,h1,h2⟩:=hlim; ⟨mc,nsK h1,h2⟩⟩
  have e0:c1F P w K mg (b7x s₁.heap H) c4c [] s₁ H:=⟨rfl,hM,fun b o e=>c8a e,Nat.le_of_eq (c3q _ _),trivial,fun b hb=>absurd (show b∈([]:List Addr)from hb) (by simp),hok,.of_eq hg⟩
  refine c1J ((F _ hKb (nsK hns)).run c4c [] s₁ H ⟨[.ref a],[]⟩ [.ref a] [.ref a] _ _ hr e0 (hbind s₁ (.ref a)) (.cons rfl .nil) (hsp H hO hS)) fun r s' h=>?_
  cases r with
  | error e=>exact(hCX H e s' h).elim
  | ok fl=>
   cases fl with
   | next=>exact False.elim h
   | brk=>exact False.elim h
   | cont=>exact False.elim h
   | ret u=>
    obtain⟨v,H',os,bare,un,hok',r',q⟩:=h
    have q':v=.bl true:=q
    subst q'
    obtain rfl:u=Value.bool true:=r'
    refine⟨rfl,OldK.of_keep fun b o e=>?_,os,bare⟩
    cases q:H b with
    | none=>exact un.keep b o e q (by intro z;exact absurd (show b∈([]:List Addr)from z) (by simp)) (by simp)
    | some u=>
     rcases hO b with z | ⟨ob,xs,z⟩
     ·rw[q]at z;cases z
     ·have z2:=un.frzs b ob _ z
      obtain⟨e1,_⟩:=hok b _ z
      obtain⟨e2,_⟩:=hok' b _ z2
      rw[e]at e1;cases e1
      exact e2
 cases hk:K.lookup a with
 | some o=>
  have e:=KX a o hk
  rw[ha]at e
  cases e
  refine core (fun _=>none) (fun _=>.inl rfl) (.inr ⟨_,vs.toArray,_,hk,rfl,rfl,rfl,by rw[o6,lenV];exact hl,by simpa using rv⟩) (fun b u z=>by have z':(none:Option HO)=some u:=z;cases z') (fun b z=>absurd rfl z) fun z=>absurd rfl z
 | none=>
  refine core (fun b=>if b=a then some (.frz { cls:=.type "list",data:=.seq vs.toArray } (.lst (ns.map V.int)))else none) (fun b=>?_) (.inl (.inr ⟨{ cls:=.type "list",data:=.seq vs.toArray },if_pos rfl⟩)) (fun b u z=>?_) (fun b z=>?_) fun _=>hk
  ·by_cases hb:b=a
   ·exact .inr ⟨_,_,if_pos hb⟩
   ·exact .inl (if_neg hb)
  ·by_cases hb:b=a
   ·have z':=(if_pos hb).symm.trans z
    cases z'
    subst hb
    exact⟨ha,by rw[b5];exact hl,vs,_,rv,ha⟩
   ·have z':=(if_neg hb).symm.trans z
    cases z'
  ·by_cases hb:b=a
   ·exact hb
   ·exact absurd (if_neg hb) z
theorem c6O{l:PySem.W.OpenLaw}{n k:Nat}{q:D4}{loose:List Str}{XP:(Str->Option Value)->Heap->Prop}{YP:World->Heap->Prop}{d:DefRec}{K:Params->Fg}{CX:World->CXT}{sp:World->Sp}{x:Str}
  (hn:l.most=some n) (hn2:n<=u6) (hdf:d.params.defaults=[]) (hr:V6 k c4c)
  (hY:∀(w:World) (h:Heap),YP w h->(K w.params).In h)
  (F:∀(w:World) (mg:Str->Option Value) (fa:Addr) (h:Heap),(K w.params).In h->h.Ns A6 mg->mg d.name=some (.ref fa) ->
   ∃fd:a0w,(∀(s:k8) (u:Value),c4e s fd ⟨[u],[]⟩ [(x,u)]) /\
    ∀base:Heap,(K w.params).In base->base.Ns A6 mg->F7 l.prog w (K w.params) mg base (CX w) k fa fd [x] (sp w))
  (hsp:∀(w:World) (H:Hp) (a:Addr) (ns:List Int),ns.length<=n->c8H H->SqL (K w.params) H a (ns.map V.int)->sp w [.ref a] H (fun v _=>v=.bl true) fun _ _ _=>False)
  (hCX:∀(w:World) (H:Hp) (s:k8) (e:Value) (s':k8),CX w [] H s (fun _ _ _=>False) e s'->False) :
  PySem.W.WalkO q loose XP YP l.row.toRowW d [] (fun f vs=>b7X f vs):=by
 refine Att.b9L hn hdf fun w s₀ s₁ mg mb fa o pm cd doc a vs ns G Y ho hd hcd hmg hobj hints hlen hg=>?_
 have KX:=hY w _ Y
 obtain⟨fd,hb,hF⟩:=F w mg fa _ KX G.T.g hmg
 exact c5N KX G.T.g G.T.b G.T.builtins G.T.nolimit hg hobj hints (D9 hlen hn2) hr hF hb (fun H hO hS=>hsp w H a ns hlen hO hS) fun H e s'=>hCX w H s₁ e s'
abbrev CX0:CXT:=fun _ _ _ _ _ _=>False
abbrev E0:XK:=fun _ _ _=>False
theorem c1W{X:Cx}:b0f CX0 X E0:=fun _ _ _ _ _ _ _ h=>h.elim
structure Fun(K:Fg)(x qual:Str)(st:Stmt)(f:Addr)(fd:a0w):Prop where
 ex:∃(oc:Value) (od:Option Addr) (kV doc pm:Value) (an:Option Addr) (cdv ct:Value) (osl:Array (Option Value)),
  fd=Y8 x qual (a2m st) (a0b st) (f6 st) .none kV doc pm an cdv ct/\K.lookup f=some ⟨oc,od,.func fd,osl⟩/\a3Y K cdv qual=true
 kp:V7 K (.ref f)=true
section
variable {P:D4}{w:World}{K:Fg}{mg:Str->Option Value}{base:Heap}
theorem Fun.ok{x qual:Str}{st:Stmt}{f:Addr}{fd:a0w}{N ps:List Str}{k:Nat}{sp:Sp}(F:Fun K x qual st f fd)(S:u7 N ps (f6 st))(len:∀vs H Q E,sp vs H Q E->vs.length=ps.length)
  (hbody:∀(cdv:Value) (A:R3) (outer:List Env) (s:k8) (H:Hp) (vs:List V) (Q:VK) (E:XK),V6 k (A.deeper (b2A qual (f6 st) s.heap.objs.size f cdv))->sp vs H Q E ->
   ∃t,PSs (b4S CX0 P w K mg base N qual (f6 st) f cdv A outer s H E).nox (a0b st) t/\t { nx:=fun _ H'=>Q .non H',rt:=Q } (a8x N vs) H):F7 P w K mg base CX0 (k+1) f fd ps sp:=by
 obtain⟨oc,od,kV,doc,pm,an,cdv,ct,osl,rfl,lk,hcd⟩:=F.ex
 refine c9m lk hcd S len fun A outer s H vs Q E hr hsp=>?_
 obtain⟨t,h,q⟩:=hbody cdv A outer s H vs Q E hr hsp
 exact⟨t,h.nox,q⟩
theorem Fun.binds{x qual:Str}{st:Stmt}{f:Addr}{fd:a0w}{ps:List Str}(F:Fun K x qual st f fd)
  (h:∀(kV doc pm:Value) (an:Option Addr) (cdv ct:Value) (us:List Value),us.length=ps.length->bindArgs (Y8 x qual (a2m st) (a0b st) (f6 st) .none kV doc pm an cdv ct) ⟨us,[]⟩=pure (ps.zip us)):a5Q K fd ps []:=by
 obtain⟨oc,od,kV,doc,pm,an,cdv,ct,osl,rfl,lk,hcd⟩:=F.ex
 exact .all (h kV doc pm an cdv ct)
theorem d1k{x qual:Str}{st:Stmt}{f:Addr}{oc:Value}{od an:Option Addr}{osl:Array (Option Value)}{kV doc pm cdv ct:Value}(l:K.lookup f=some ⟨oc,od,.func (Y8 x qual (a2m st) (a0b st) (f6 st) .none kV doc pm an cdv ct),osl⟩)
  (c:a3Y K cdv qual=true) (k:V7 K (.ref f)=true):Fun K x qual st f (Y8 x qual (a2m st) (a0b st) (f6 st) .none kV doc pm an cdv ct):=⟨⟨oc,od,kV,doc,pm,an,cdv,ct,osl,rfl,l,c⟩,k⟩
end
theorem b4P{A:R3}{k:Nat}(hr:V6 k A):A.units+1<cLine:=a7c (Nat.add_le_add_left (by decide:1<=64) _) hr.units
section
variable {X:Cx}
end
theorem d1g{A B:Prop}(h:B):if false=true then A else B:=by
 rw[if_neg z5]
 exact h
theorem b9l{A B:Prop}(h:A):if true=true then A else B:=by
 rw[if_pos rfl]
 exact h
theorem a3j{c A B:Prop}[Decidable c](h1:c->A)(h2:¬c->B):if c then A else B:=by
 by_cases h:c
 ·rw[if_pos h]
  exact h1 h
 ·rw[if_neg h]
  exact h2 h
def i9(H H':Hp):Prop:=∀b o,H b=some o->H' b=some o
theorem i9.refl(H:Hp):i9 H H:=fun _ _ h=>h
theorem i9.trans{H H1 H2:Hp}(a:i9 H H1)(b:i9 H1 H2):i9 H H2:=fun c o h=>b c o (a c o h)
theorem i9.free{H H':Hp}(e:i9 H H'){l:Addr}(h:H' l=Option.none):H l=Option.none:=by
 cases q:H l with
 | none=>rfl
 | some o=>
  rw[e l o q]at h
  cases h
section
variable {κ:Type}[DecidableEq κ]
theorem c1M{kvs:List (κ×V)}{k:κ}{v:V}(h:a7j kvs k=some v):k∈kvs.map (·.1):=by
 have q:(kvs.any fun kv=>decide (kv.1=k))=true:=by
  rw[a5s,h]
  all_goals rfl
 obtain⟨p,hp,e⟩:=a8i.mp q
 exact A2.mpr ⟨p,hp,of_decide_eq_true e⟩
end
end L2
set_option maxHeartbeats 4000000
namespace L2
open PySem PySem.Spec PyProof.Rows
variable{env:Env}{scope:Scope}{y:Str}{X:Cx}{w:World}{s:k8}{elt iter:Expr}{elts ifs:List Expr}{p pos tp:Pos}{pins:List (Addr×Obj)}{σ:St}{H:Hp}{cl:List (Str×Addr)}{fp:List Addr}{tt:TT}{te:TE}{wi:TI}{i j:Nat}{xs:List V}{us:List Value}{ps:List Str}{sp:Sp}
theorem b7B:∀(names:List (Str×a9t)) (cs:List (Str×Addr)),(∀y∈names,y.2=.free->∃c,env.cells.lookup y.1=some c) ->
  (∀y c,cs.lookup y=some c->env.cells.lookup y=some c) ->
  ∃cl,(forIn names cs (fun(x:Str×a9t) (r:List (Str×Addr))=>(if(x.2 == NameKind.free)=true then (do let c <-cellOf env x.1;pure (ForInStep.yield ((x.1,c)::r)))else pure (ForInStep.yield r):Sem (ForInStep (List (Str×Addr)))))=(pure cl:Sem (List (Str×Addr)))) /\
   (∀y c,cl.lookup y=some c->env.cells.lookup y=some c)/\(∀y,(y,NameKind.free)∈names\/(cs.lookup y).isSome=true->(cl.lookup y).isSome=true)
 | [],cs,_,h=>⟨cs,rfl,h,fun y q=>q.elim (fun z=>absurd z (by simp)) id⟩
 | (n,k)::r,cs,hc,h=>by
  by_cases e:(k == NameKind.free)=true
  ·have ek:k=.free:=by simpa using e
   obtain⟨c,hcc⟩:=hc (n,k) U5 ek
   have h':∀y d,((n,c)::cs).lookup y=some d->env.cells.lookup y=some d:=by
    intro y d q
    rw[K8]at q
    cases eq:y == n with
    | true=>
     rw[eq]at q
     have e2:y=n:=by simpa using eq
     cases q;rw[e2];exact hcc
    | false=>rw[eq]at q;exact h y d q
   obtain⟨cl,h1,h2,h3⟩:=b7B r ((n,c)::cs) (fun y hy=>hc y (G7 _ hy)) h'
   refine⟨cl,?_,h2,fun y q=>h3 y ?_⟩
   ·rw[d1E]
    show((if(k == NameKind.free)=true then (do let c <-cellOf env n;pure (ForInStep.yield ((n,c)::cs)))else pure (ForInStep.yield cs):Sem (ForInStep (List (Str×Addr)))) >>= _)=_
    rw[if_pos e]
    have ec:cellOf env n=pure c:=by unfold cellOf;rw[hcc]
    rw[ec]
    exact h1
   ·rcases q with q | q
    ·rcases o4.mp q with q | q
     ·cases q
      right
      simp[K8]
     ·exact .inl q
    ·right
     rw[K8]
     cases y == n
     ·exact q
     ·rfl
  ·obtain⟨cl,h1,h2,h3⟩:=b7B r cs (fun y hy=>hc y (G7 _ hy)) h
   refine⟨cl,?_,h2,fun y q=>h3 y ?_⟩
   ·rw[d1E]
    show((if(k == NameKind.free)=true then (do let c <-cellOf env n;pure (ForInStep.yield ((n,c)::cs)))else pure (ForInStep.yield cs):Sem (ForInStep (List (Str×Addr)))) >>= _)=_
    rw[if_neg e]
    exact h1
   ·rcases q with q | q
    ·rcases o4.mp q with q | q
     ·cases q
      exact absurd rfl e
     ·exact .inl q
    ·exact .inr q
theorem a7L(hc:∀y∈scope.names,y.2=.free->∃c,env.cells.lookup y.1=some c) :
  ∃cl,closureFor scope env=pure cl/\(∀y c,cl.lookup y=some c->env.cells.lookup y=some c)/\∀y,(y,NameKind.free)∈scope.names->(cl.lookup y).isSome=true:=by
 obtain⟨cl,h1,h2,h3⟩:=b7B scope.names [] hc (fun y c q=>by cases q)
 refine⟨cl,?_,h2,fun y q=>h3 y (.inl q)⟩
 unfold closureFor
 first
  | exact h1
  | (show(forIn scope.names [] _ >>= fun r=>pure r)=_;rw[h1];rfl)
theorem V0{env:Env}:∀ {names:List (Str×a9t)} {y:Str} {k:a9t},
  (names.map fun(n,k)=>if(k == NameKind.free&&env.scope.kind == .function&&env.kindOf n == some .cell)then (n,NameKind.cell)else (n,k)).lookup y=some k ->
  names.lookup y=some k\/(names.lookup y=some .free/\k=.cell)
 | [],_,_,h=>by cases h
 | (n,k0)::r,y,k,h=>by
  have ih := @V0 env r y k
  rw[B8]at h
  rw[K8]
  cases hx:y == n with
  | true=>
   by_cases hc:(k0 == NameKind.free&&env.scope.kind == .function&&env.kindOf n == some .cell)=true
   ·have e2:k0=.free:=by simp at hc;exact hc.1.1
    dsimp only at h
    rw[if_pos hc,K8,hx]at h
    cases h
    exact .inr ⟨by rw[e2],rfl⟩
   ·dsimp only at h
    rw[if_neg hc,K8,hx]at h
    exact .inl h
  | false=>
   by_cases hc:(k0 == NameKind.free&&env.scope.kind == .function&&env.kindOf n == some .cell)=true
   ·dsimp only at h
    rw[if_pos hc,K8,hx]at h
    exact ih h
   ·dsimp only at h
    rw[if_neg hc,K8,hx]at h
    exact ih h
def hid(x:Str)(N:List Str):List Str:=N.map fun y=>if y=x then ("." : Str)++x else y
def a0y(X:Cx)(scope:Scope)(cl:List (Str×Addr))(C:Addr)(x:Str)(fp:List Addr)(s3:k8)(H3:Hp):Cx:=
 { X with N:=x::hid x X.N,s₀:=s3,H₀:=H3,env:=c3U scope cl C X.env,outer:=X.stack,stack:=X.stack,ex:=fp,fn:=fun _=>false,pn:=[],xe:=fun _ _=>False }
structure L3(N:List Str)(osc sc:Scope)(x:Str):Prop where
 kind:sc.kind=.function
 cell:∀y∈sc.names,y.2≠.cell
 names:∀y∈sc.names,y.2=.local->sc.names.lookup y.1=some .local
 own:sc.names.lookup x=some .local
 fr:∀y∈sc.names,y.2=.free->osc.names.lookup y.1=some .cell\/osc.names.lookup y.1=some .free
 see:∀y∈hid x N,sc.names.lookup y≠some .local
 dot:sc.names.lookup (("." : Str)++x)=none
 nd:(x::hid x N).Nodup
def O5(wi:TI)(tt:TT)(te:TE):TE:=fun σ H Q=>wi σ H fun J H1=>∀D,H1 D=none->∃W:Nat->Nat->List V->Hp->Prop,
 (∃m,W 0 m [] (upd H1 D (.lst [])))/\∀i m ys H2,W i m ys H2->H2 D=some (.lst ys) /\
  ((J.stop i H2 /\ Q (.ref D) H2) \/ (J.go i H2 /\ ∀ x H3,J.yld i H2 x H3 -> tt (some x :: σ) H3 fun ok H4 => if ok = true then
    te (some x::σ) H4 (fun y H5=>H5 D=some (.lst ys)/\ys.length<u6/\∃m',m'<m/\W (i+1) m' (ys++[y]) (upd H5 D (.lst (ys++[y]))))
    else ∃m',m'<m/\W (i+1) m' ys H4))
def PTs(X:Cx)(ifs:List Expr)(t:TT):Prop:=
 ∀(pins:List (Addr×Obj)) (s:k8) (σ:St) (H:Hp) (Q:Bool->Hp->Prop),Inv X pins σ H s->t σ H Q ->
  wpAny (model X.prog X.w) X.A (forIn ifs true fun c r=>if r=true then do let ok <-isTrue c X.env (eval c X.env);pure (ForInStep.yield ok)else pure (ForInStep.yield r)) (TP X pins σ Q) X.xe s
def Q7:TT:=fun _ H Q=>Q true H
theorem c7k:PTs X [] Q7:=fun _ _ _ H _ I h=>wpAny_tests_nil ⟨H,I,h⟩
theorem c7j{c:Expr}{t:TT}(h:PT X c t):PTs X [c] t:=fun pins s σ H Q I hq=>wpAny_tests_one (h pins s σ H Q I hq)
theorem b6q{prog:D4}{A:R3}{R:c8Q->k8->Prop}{target:Expr}{it acc:Value}(I:Nat->k8->Prop)
  (turn:∀n s,I n s->wpAny (model prog w) A (b8i it) (fun r s₁=>match r with
   | none=>R (.ok .next) s₁
   | some v=>wpAny (model prog w) A (a8k target it v) (fun _ s₂=>wpAny (model prog w) A (a9s target env v) (fun _ s₃=>
     wpAny (model prog w) A (forIn ifs true fun c r=>if r=true then do let ok <-isTrue c env (eval c env);pure (ForInStep.yield ok)else pure (ForInStep.yield r)) (fun ok s₄=>
      if ok=true then wpAny (model prog w) A (eval elt env) (fun x s₅=>
       wpAny (model prog w) A (call (.builtin "list.append") [acc,x]) (fun _ s₆=>∃m,m<n/\I m s₆) (fun _ _=>False) s₅) (fun _ _=>False) s₄
      else ∃m,m<n/\I m s₄) (fun _ _=>False) s₃) (fun _ _=>False) s₂) (fun _ _=>False) s₁) (fun _ _=>False) s)
  (n:Nat) (h:I n s) :
  a7f (model prog w) A (.compLoop (.ListComp elt [⟨target,iter,ifs,0⟩] scope pos) 0 it acc env) R s:=by
 have up:∀ {α:Type} {m:Sem α} {Q:α->k8->Prop} {E:Value->k8->Prop} {s:k8},wpAny (model prog w) A m Q (fun _ _=>False) s->wpAny (model prog w) A m Q E s:=
  fun h=>a2J h (fun _ _ q=>q) fun _ _ f=>f.elim
 refine codeAny_loop rfl I (fun n s hI=>?_) n h
 refine wpAny_noted ?_
 rw[compTurn_list]
 refine g0 (b8h (g0 (up (thn (turn n s hI) fun r s₁ h₁=>?_))))
 cases r with
 | none=>exact u5 h₁
 | some v=>
  refine g0 (up (thn h₁ fun _ s₂ h₂=>g0 (up (thn h₂ fun _ s₃ h₃=>g0 (up (thn h₃ fun ok s₄ h₄=>?_))))))
  cases ok with
  | false=>exact u5 ⟨rfl,by simpa using h₄⟩
  | true=>
   rw[if_pos rfl]at h₄
   exact g0 (g0 (up (thn h₄ fun x s₅ h₅=>g0 (up (thn h₅ fun _ s₆ h₆=>u5 (u5 ⟨rfl,h₆⟩))))))
section
variable {x:Str}{px:Pos}
theorem c6h{s3:k8}{h4:Heap}{tk:Nat}(hc:L3 X.N X.env.scope scope x)(I:Inv X pins σ H s3)
  (hcl:∀y c,cl.lookup y=some c->X.env.cells.lookup y=some c) (hcl2:∀y,(y,NameKind.free)∈scope.names->(cl.lookup y).isSome=true)
  (fpo:∀b∈fp,a9l X pins H b) (fpl:∀b∈fp,b<s3.heap.objs.size)
  (hn:h4.Ns s3.heap.objs.size (fun _=>none)) (k:∀b o,s3.heap.get? b=some o->h4.get? b=some o) :
  Inv (a0y X scope cl s3.heap.objs.size x fp s3 H) [] (none::σ) H { s3 with heap:=h4,toks:=tk }:=by
 have low:∀x y,(a0y X scope cl s3.heap.objs.size x fp s3 H).env.cells.lookup y=cl.lookup y:=fun _ _=>rfl
 have below:∀y c,cl.lookup y=some c->c<s3.heap.objs.size:=fun y c e=>by
  obtain⟨v,q⟩:=I.cell y c (hcl y c e)
  exact q.lt
 have kinds:∀y,((a0y X scope cl s3.heap.objs.size x fp s3 H).env.kindOf y=some .cell\/(a0y X scope cl s3.heap.objs.size x fp s3 H).env.kindOf y=some .free)->scope.names.lookup y=some .free:=by
  intro y hy
  rcases hy with hy | hy
  ·rcases V0 hy with q | ⟨q,_⟩
   ·exact absurd rfl (hc.cell _ (D8 q))
   ·exact q
  ·rcases V0 hy with q | ⟨q,z⟩
   ·exact q
   ·cases z
 refine⟨⟨I.ok.mod,?_,I.ok.glob,I.ok.blt,j5 _,fun y z c h1 h2=>?_,fun y hy=>?_,fun y c h=>?_,I.ok.hd,I.ok.frames,.inl rfl,fun b hb=>⟨?_,fun y c e z=>?_⟩,fun b o e=>I.bs b o e,D9 I.ok.bsz I.sz,fun b o e hb=>?_,fun b hb hf=>?_,I.stack,I.stkFree⟩,
  rfl,I.bare,Un.kept k,⟨_,hn,fun i y v h1 h2 h3=>?_⟩,fun y c e=>?_,I.fresh,fun y c e=>?_,fun p hp=>absurd (show p∈([]:List (Addr×Obj))from hp) (by simp),I.hok.kept k,?_⟩
 ·exact hc.kind
 ·exact I.ok.inj y z c (hcl _ _ h1) (hcl _ _ h2)
 ·have:=hcl2 y (D8 (kinds y hy))
  exact a0W.mp this
 ·cases h
 ·exact A0 (fpl b hb)
 ·exact(fpo b hb).2.2.2.2.1 y c (hcl y c e) z
 ·rcases(fpo b hb).2.2.2.1 with q | q
  ·exact I.ok.noex b o e q
  ·exact absurd (D3 (l7 (I.ok.bs b o e).1) q) (O4 _)
 ·rcases o4.mp (I.stkSub b hf)with e | e
  ·exact(fpo b hb).2.1 e
  ·exact(fpo b hb).2.2.1 e
 ·-- the names
  have h1:(x::hid x X.N)[i]? = some y:=h1
  cases i with
  | zero=>cases h2
  | succ i=>
   have h1:(hid x X.N)[i]? = some y:=h1
   have h2:σ[i]? = some (some v):=h2
   have my:y∈hid x X.N:=a0X h1
   have h3:(b1s scope X.env).names.lookup y=some .local\/(b1s scope X.env).names.lookup y=some .cell\/(b1s scope X.env).names.lookup y=some .free:=h3
   have hf:scope.names.lookup y=some .free:=by
    rcases h3 with q | q
    ·rcases V0 q with q | ⟨_,z⟩
     ·exact absurd q (hc.see y my)
     ·cases z
    ·exact kinds y q
   have hy:X.N[i]? = some y:=by
    unfold hid at h1
    rw[a9]at h1
    cases e:X.N[i]? with
    | none=>rw[e]at h1;cases h1
    | some z=>
     rw[e]at h1
     by_cases ez:z=x
     ·rw[a8L,if_pos ez]at h1
      have h1:=Option.some.inj h1
      subst h1
      rw[hc.dot]at hf
      cases hf
     ·rw[a8L,if_neg ez]at h1
      exact h1
   obtain⟨m,_,hl⟩:=I.loc
   obtain⟨c,hcc⟩:=a0W.mp (hcl2 y (D8 hf))
   have vis:Vis X.env.scope y:=by
    rcases hc.fr _ (D8 hf) rfl with q | q
    ·exact .inr (.inl q)
    ·exact .inr (.inr q)
   obtain⟨u,ru,lk⟩:=hl i y v hy h2 vis
   refine⟨u,ru,.inr ⟨?_,c,hcc,?_⟩⟩
   ·rcases h3 with q | q
    ·rcases V0 q with q | ⟨_,z⟩
     ·exact absurd q (hc.see y my)
     ·cases z
    ·exact q
   ·have hce:=hcl y c hcc
    rcases lk with ⟨q,_⟩ | ⟨_,c',e',z⟩
    ·rcases hc.fr _ (D8 hf) rfl with q' | q'
     ·have q:X.env.scope.names.lookup y=some .local:=q
      rw[show X.env.scope.names.lookup y=some NameKind.cell from q']at q
      cases q
     ·have q:X.env.scope.names.lookup y=some .local:=q
      rw[show X.env.scope.names.lookup y=some NameKind.free from q']at q
      cases q
    ·rw[e']at hce
     cases hce
     obtain⟨o,ho,hd⟩:=z
     exact⟨o,k _ _ ho,hd⟩
 ·obtain⟨v,o,ho,hd⟩:=I.cell y c (hcl y c e)
  exact⟨v,o,k _ _ ho,hd⟩
 ·exact I.freeC y c (hcl y c e)
 ·show(none::σ).length=(x::hid x X.N).length
  have:=I.len
  simp[hid,this]
theorem b4U{H1:Hp}{s2:k8}{it:Addr}{tn:Nat->Heap->Prop}{J:It}{Q:VK}{E:Value->k8->Prop}
  {RR:Value->Addr->c8Q->k8->Prop} (hc:L3 X.N X.env.scope scope x) (hcalm:X.calm=true)
  (hcl:∀y c,cl.lookup y=some c->X.env.cells.lookup y=some c) (hcl2:∀y,(y,NameKind.free)∈scope.names->(cl.lookup y).isSome=true)
  (ht:∀C fp s3 H3,PTs (a0y X scope cl C x fp s3 H3) ifs tt) (he:∀C fp s3 H3,PE (a0y X scope cl C x fp s3 H3) elt te)
  (I:Inv X pins σ H1 s2) (T:b9M X.prog X.w X.K (.Name x px) J fp it tn) (st:tn 0 s2.heap) (fpo:∀b∈fp,a9l X pins H1 b)
  (h:∀D,H1 D=none->∃W:Nat->Nat->List V->Hp->Prop,
   (∃m,W 0 m [] (upd H1 D (.lst [])))/\∀i m ys H2,W i m ys H2->H2 D=some (.lst ys) /\
   ((J.stop i H2 /\ Q (.ref D) H2) \/ (J.go i H2 /\ ∀ x H3,J.yld i H2 x H3 -> tt (some x :: σ) H3 fun ok H4 => if ok = true then
     te (some x::σ) H4 (fun y H5=>H5 D=some (.lst ys)/\ys.length<u6/\∃m',m'<m/\W (i+1) m' (ys++[y]) (upd H5 D (.lst (ys++[y]))))
     else ∃m',m'<m/\W (i+1) m' ys H4)))
  (hRR:∀D C s' H' m,Inv X pins σ H' s'->s'.heap.Ns C m->H' C=none->C≠X.env.locals->X.s₀.heap.objs.size<=C->(∀y c,X.env.cells.lookup y=some c->c≠C)->(∀p∈X.pn++pins,p.1≠C)->Q (.ref D) H'->RR (.ref D) C (.ok .next) s') :
  wpAny (model X.prog X.w) X.A (newList []) (fun acc s₃=>wpAny (model X.prog X.w) X.A (newFunctionEnv scope X.env.globals cl [] X.env.qual none .none (some X.env)) (fun cenv s₄=>
   a7f (model X.prog X.w) X.A (.compStart (.ListComp elt [⟨.Name x px,iter,ifs,0⟩] scope pos) 0 (.ref it) acc { cenv with scope:=b1s scope X.env }) (RR acc cenv.locals) s₄) E s₃) E s2:=by
 refine Z5 (hd:=by size_fits) ?_
 have I3:=I.lnew (ys:=[]) (its:=[]) (t':=s2.toks) .nil (by show 0<=u6;exact R8 _)
 obtain⟨W,⟨m0,w0⟩,turn⟩:=h _ I.fresh
 generalize hD:s2.heap.objs.size=D at I3 w0 turn ⊢
 generalize hs3:({ s2 with heap:=s2.heap.push { cls:=.type "list",data:=.seq ([]:List Value).toArray } }:k8)=s3
 have hs3':({ s2 with heap:=s2.heap.push { cls:=.type "list",data:=.seq ([]:List Value).toArray },toks:=s2.toks }:k8)=s3:=hs3
 rw[hs3']at I3
 have keep3:∀b o,s2.heap.get? b=some o->s3.heap.get? b=some o:=fun b o e=>by rw[<-hs3];exact i8 _ e
 have fpl:∀b∈fp,b<s3.heap.objs.size:=fun b hb=>by
  obtain⟨o,e,_⟩:=T.obj _ _ st b hb
  exact l7 (keep3 b o e)
 have fpD:∀b∈fp,b≠D:=fun b hb z=>by
  obtain⟨o,e,_⟩:=T.obj _ _ st b hb
  exact absurd (l7 e) (by rw[z,hD];exact O4 _)
 have fpo3:∀b∈fp,a9l X pins (upd H1 D (.lst [])) b:=fun b hb=>⟨by rw[g9 (fpD b hb)];exact(fpo b hb).1,(fpo b hb).2⟩
 show wpAny _ _ _ _ _ s3
 refine d3b hc.cell (by intro y hy;simp at hy) (fun h₁ hns₁ hsb₁=>?_) hc.kind
 dsimp only[newEnv]at hns₁ hsb₁ ⊢
 have keep4:∀b o,s3.heap.get? b=some o->h₁.get? b=some o:=fun b o e=>hsb₁.extBut b o (A0 (l7 e)) (i8 _ e)
 have I4:=c6h (tk:=s3.toks+([]:List (Str×Value)).length) hc I3 hcl hcl2 fpo3 fpl hns₁ keep4
 have st4:tn 0 h₁:=T.keep _ _ _ st fun b hb o e=>keep4 b o (keep3 b o e)
 have loop:∀s₄:k8,s₄={ s3 with heap:=h₁,toks:=s3.toks+([]:List (Str×Value)).length } ->
   a7f (model X.prog X.w) X.A (.compLoop (.ListComp elt [⟨.Name x px,iter,ifs,0⟩] scope pos) 0 (.ref it) (.ref D) (c3U scope cl s3.heap.objs.size X.env)) (RR (.ref D) s3.heap.objs.size) s₄:=by
  rintro s₄ rfl
  have stat:∀ {H':Hp},(∀b∈fp,H' b=none)->∀b∈fp,a9l (a0y X scope cl s3.heap.objs.size x fp s3 (upd H1 D (.lst []))) [] H' b:=fun hn b hb=>
   ⟨hn b hb,A0 (fpl b hb),fun hf=>by
    rcases o4.mp (I3.stkSub b hf)with e | e
    ·exact(fpo b hb).2.1 e
    ·exact(fpo b hb).2.2.1 e,.inl hb,fun y c e=>(fpo b hb).2.2.2.2.1 y c (hcl y c e),fun p hp=>absurd (show p∈([]:List (Addr×Obj))from hp) (by simp)⟩
  refine b6q (env:=c3U scope cl s3.heap.objs.size X.env) (fun n s'=>∃i ys H',Inv (a0y X scope cl s3.heap.objs.size x fp s3 (upd H1 D (.lst []))) [] (none::σ) H' s'/\tn i s'.heap/\(∀b∈fp,H' b=none)/\W i n ys H') ?_ m0
   ⟨0,[],_,I4,st4,fun b hb=>(fpo3 b hb).1,w0⟩
  rintro n s5 ⟨i,ys,H5,I5,st5,fr5,w5⟩
  obtain⟨hDy,alt⟩:=turn i n ys H5 w5
  rcases alt with ⟨stop,q⟩ | ⟨go,step⟩
  ·refine a2J (T.done (a0y X scope cl s3.heap.objs.size x fp s3 (upd H1 D (.lst []))) rfl rfl rfl hcalm i [] s5 _ H5 (fun _ _=>False) I5 (stat fr5) st5 stop) (fun r s6 ⟨hr,I6⟩=>?_) fun _ _ f=>f
   subst hr
   obtain⟨m6,n6,_⟩:=I6.loc
   have J6:Inv X pins σ H5 s6:=by
    refine I3.call' (ch:=fp) I6.os I6.base I6.hok I6.bare fun b hb=>?_
    obtain⟨_,f1,f2,f3,f4,f5⟩:=fpo3 b hb
    exact⟨f3,f1,f4,f5⟩
   refine hRR D _ s6 H5 m6 J6 n6 I6.free (c3Q I3.lt) I3.sz (fun y c e z=>?_) (fun p hp z=>?_) q
   ·obtain⟨v,q⟩:=I3.cell y c e
    exact absurd q.lt (by rw[z];exact O4 _)
   ·exact absurd (l7 (I3.pin p hp).1) (by rw[z];exact O4 _)
  ·refine a2J (T.item (a0y X scope cl s3.heap.objs.size x fp s3 (upd H1 D (.lst []))) rfl rfl rfl hcalm i [] s5 _ H5 (fun _ _=>False) I5 (stat fr5) st5 go) (fun r s6 ⟨u,hr,h6⟩=>?_) fun _ _ f=>f
   subst hr
   refine thn h6 fun _ s6 ⟨xv,H6,I6,r6,y6,st6,fr6⟩=>?_
   have I6':=I6.pinned (stat fr6) (T.obj _ _ st6)
   refine b0j (b0C (i:=0) I6' ?nd rfl (.inl ?loc) r6 (fun s7 I7=>?_) (.inr ?loc))
   case nd=>exact hc.nd
   case loc=>exact a4b hc.own
   have I7:Inv (a0y X scope cl s3.heap.objs.size x fp s3 (upd H1 D (.lst []))) ([]++a9Q fp s6.heap) (some xv::σ) H6 s7:=I7
   have again:∀ {s8:k8} {H8:Hp} {ys8:List V},Inv (a0y X scope cl s3.heap.objs.size x fp s3 (upd H1 D (.lst []))) ([]++a9Q fp s6.heap) (some xv::σ) H8 s8->(∃m',m'<n/\W (i+1) m' ys8 H8) ->
     ∃m,m<n/\∃i ys H',Inv (a0y X scope cl s3.heap.objs.size x fp s3 (upd H1 D (.lst []))) [] (none::σ) H' s8/\tn i s8.heap/\(∀b∈fp,H' b=none)/\W i m ys H':=by
    rintro s8 H8 ys8 I8 ⟨m',hm,w8⟩
    refine⟨m',hm,i+1,ys8,H8,(I8.unpinned (pins:=[])).weak rfl (fun j v e=>?_),T.keep _ _ _ st6 fun b hb o e=>(I8.pin (b,o) (v7 _ (v7 _ (a4o hb e)))).1,fun b hb=>?_,w8⟩
    ·cases j with
     | zero=>cases e
     | succ j=>exact e
    ·obtain⟨o,e,d⟩:=T.obj _ _ st6 b hb
     exact(I8.pin (b,o) (v7 _ (v7 _ (a4o hb e)))).2.1
   refine thn (ht _ fp s3 _ _ s7 _ H6 _ I7 (step xv H6 y6)) (fun ok s8 ⟨H8,I8,q8⟩=>?_)
   cases ok with
   | false=>exact again I8 (by simpa using q8)
   | true=>
    rw[if_pos rfl]at q8
    rw[if_pos rfl]
    refine thn (he _ fp s3 _ _ s8 _ H8 _ I8 q8) (fun v s9 ⟨y,H9,I9,r9,hD9,hz9,w9⟩=>?_)
    refine a2J (b2d (X:=a0y X scope cl s3.heap.objs.size x fp s3 (upd H1 D (.lst []))) _ s9 _ H9 (.ref D) [y] (.ref D) [v] (fun _ H'=>H'=upd H9 D (.lst (ys++[y]))) I9 rfl (.cons r9 .nil) ⟨D,ys,y,rfl,rfl,hD9,hz9,rfl⟩) (fun _ s10 ⟨_,H10,I10,_,e10⟩=>?_) fun _ _ f=>f
    subst e10
    exact again I10 w9
 exact d1I (loop _ rfl) (T.self X.A 0 _ _ _ st4 (loop _ rfl))
theorem b4T(hc:L3 X.N X.env.scope scope x)(I:Inv X pins σ H s):∀y∈scope.names,y.2=.free->∃c,X.env.cells.lookup y.1=some c:=by
 intro y hy e
 rcases hc.fr y hy e with q | q
 ·exact I.ok.has y.1 (.inl q)
 ·exact I.ok.has y.1 (.inr q)
theorem c7C(hc:L3 X.N X.env.scope scope x)(hcalm:X.calm=true)(hi:PI X (.Name x px) iter wi)
  (ht:∀cl C fp s3 H3,PTs (a0y X scope cl C x fp s3 H3) ifs tt) (he:∀cl C fp s3 H3,PE (a0y X scope cl C x fp s3 H3) elt te)
  (hs:∀x,X1 iter X.env x=pure x:=by intro _;rfl) :
  PE X (.ListComp elt [⟨.Name x px,iter,ifs,0⟩] scope pos) (O5 wi tt te):=by
 intro pins s σ H Q I h
 obtain⟨cl,hclos,hcl,hcl2⟩:=a7L (b4T hc I)
 rw[eval_ListComp]
 refine a4Y (use:=none) rfl hs hclos hc.kind hc.names (thn (hi pins s σ H _ I h) fun v s1 h1=>thn h1 fun itv s2 ⟨it,fp,tn,J,H2,e,I2,T,st,fpo,R⟩=>?_)
 subst e
 refine b4U (RR:=fun acc C=>compPost (model X.prog X.w) X.A X.xe none (EP X pins σ Q) acc C) (Q:=Q) hc hcalm hcl hcl2 (ht cl) (he cl) I2 T st fpo R ?_
 intro D C s' H' m I' n f1 f2 f3 f4 f5 q
 exact⟨m,n,fun h' sb=>⟨.ref D,H',I'.turned (t':=s'.toks) (fun b o hb e=>(sb.2 b hb).trans e) f1 f2 (.inr f3) f4 f5,rfl,q⟩⟩
theorem c0H{py spos:Pos}(hN:X.N.Nodup)(hiy:X.N[i]? = some y)(hy:X.env.scope.names.lookup y=some .local)(hc:L3 X.N X.env.scope scope x)(hcalm:X.calm=true)(hi:PI X (.Name x px) iter wi)
  (ht:∀cl C fp s3 H3,PTs (a0y X scope cl C x fp s3 H3) ifs tt) (he:∀cl C fp s3 H3,PE (a0y X scope cl C x fp s3 H3) elt te)
  (hsw:a3o (.ListComp elt [⟨.Name x px,iter,ifs,0⟩] scope pos) (some (.Name y py)) spos.line X.env=pure true:=by rfl)
  (hs:∀x,X1 iter X.env x=pure x:=by intro _;rfl) :
  PS X (.Assign [.Name y py] (.ListComp elt [⟨.Name x px,iter,ifs,0⟩] scope pos) spos) (fun D σ H=>O5 wi tt te σ H fun v H1=>D.nx (σ.set i (some v)) H1):=by
 intro pins s σ H D I h
 obtain⟨cl,hclos,hcl,hcl2⟩:=a7L (b4T hc I)
 rw[d1S _ _ _ _ hsw]
 refine g0 (b8h (g0 ?_))
 show wpAny _ X.A (do let _ <-comprehension (.ListComp elt [⟨.Name x px,iter,ifs,0⟩] scope pos) scope X.env _ (newList []) false (eval iter X.env) (some (a9s (.Name y py) X.env))) _ _ s
 refine g0 (a2J (a4Y (use:=some (a9s (.Name y py) X.env)) (Q:=fun _ s'=>SP X pins D .next s') rfl hs hclos hc.kind hc.names
  (thn (hi pins s σ H _ I h) fun v s1 h1=>thn h1 fun itv s2 ⟨it,fp,tn,J,H2,e,I2,T,st,fpo,R⟩=>?_)) (fun _ s' hq=>u5 (u5 hq)) fun _ _ e=>e)
 subst e
 refine b4U (RR:=fun acc C=>compPost (model X.prog X.w) X.A X.xe (some (a9s (.Name y py) X.env)) (fun _ s'=>SP X pins D .next s') acc C) (Q:=fun v H1=>D.nx (σ.set i (some v)) H1) hc hcalm hcl hcl2 (ht cl) (he cl) I2 T st fpo R ?_
 intro E C s' H' m I' n f1 f2 f3 f4 f5 q
 show wpAny _ _ (a9s (.Name y py) X.env (.ref E)) _ _ _
 refine b0j (b1D (v:=.ref E) I' hN hiy (.inl hy) rfl (fun s'' I'' ch=>?_) (.inr hy))
 obtain⟨a,sb,ha⟩:=ch
 have hCa:C≠a:=by
  rcases ha with e | e
  ·rw[e];exact f2
  ·exact fun z=>f4 y a e z.symm
 exact⟨m,n.sameBut sb hCa,fun h' sb'=>⟨_,_,I''.turned (t':=s''.toks) (fun b o hb e=>(sb'.2 b hb).trans e) f1 f2 (.inr f3) f4 f5,q⟩⟩
end
section
theorem OpR.imp{f:Value->Value->Sem Value}{r r':R2}(h:OpR X f r)(i:∀x y H Q,r' x y H Q->r x y H Q):OpR X f r':=fun pins s σ H x y u v Q I rx ry q=>h pins s σ H x y u v Q I rx ry (i _ _ _ _ q)
theorem X5.imp{f:Value}{r r':List V->Hp->VK->Prop}(h:X5 X f r)(i:∀xs H Q,r' xs H Q->r xs H Q):X5 X f r':=fun pins s σ H xs us Q I rx q=>h pins s σ H xs us Q I rx (i _ _ _ q)
theorem IxR.imp{r r':R2}(h:IxR X r)(i:∀x y H Q,r' x y H Q->r x y H Q):IxR X r':=by
 intro value slice pins s σ H x y v u Q I rx ry q hs
 exact h value slice pins s σ H x y v u Q I rx ry (i _ _ _ _ q) hs
theorem SlR.imp{r r':V->Option Int->Option Int->Hp->VK->Prop}(h:SlR X r)(i:∀x lo hi H Q,r' x lo hi H Q->r x lo hi H Q):SlR X r':=fun pins s σ H x v vl vu lo hi sl Q I rx hs pl pu q=>h pins s σ H x v vl vu lo hi sl Q I rx hs pl pu (i _ _ _ _ _ q)
def a5T:R2:=fun x y H Q=>match x,y with
 | .int i,.int j=>Q (.int (i+j)) H
 | .str i,.str j=>i.length+j.length<=u6/\Q (.str (i++j)) H
 | .ref a,.ref b=>match H a,H b with
  | some (.lst xs),some (.lst ys)=>xs.length+ys.length<=u6/\∀p,H p=none->Q (.ref p) (upd H p (.lst (xs++ys)))
  | _,_=>False
 | _,_=>False
theorem c7P:OpR X (a1P .Add) a5T:=by
 refine(d0L.or (c0R.or d0K)).imp fun x y H Q h=>?_
 unfold a5T at h
 split at h
 ·exact .inl ⟨_,_,rfl,rfl,h⟩
 ·exact .inr (.inl ⟨_,_,rfl,rfl,h.1,h.2⟩)
 ·split at h
  ·exact .inr (.inr ⟨_,_,_,_,rfl,rfl,by assumption,by assumption,h.1,h.2⟩)
  ·exact h.elim
 ·exact h.elim
def q2I(C:Int->Int->Prop)(g:Int->Int->V):R2:=fun x y H Q=>match x,y with
 | .int i,.int j=>C i j/\Q (g i j) H
 | _,_=>False
def b8S(g:Int->Int->V):R2:=fun x y H Q=>match x,y with
 | .int i,.int j=>Q (g i j) H
 | _,_=>False
theorem c0G{f:Value->Value->Sem Value}{C:Int->Int->Prop}{g:Int->Int->V}(h:OpR X f (rI C g)):OpR X f (q2I C g):=h.imp fun x y H Q q=>by
 unfold q2I at q
 split at q
 ·exact⟨_,_,rfl,rfl,q.1,q.2⟩
 ·exact q.elim
theorem b0N{f:Value->Value->Sem Value}{g:Int->Int->V}(h:OpR X f (rI0 g)):OpR X f (b8S g):=h.imp fun x y H Q q=>by
 unfold b8S at q
 split at q
 ·exact⟨_,_,rfl,rfl,q⟩
 ·exact q.elim
abbrev c5b:R2:=b8S fun i j=>.int (i - j)
abbrev c0B:R2:=q2I c8K fun i j=>.int (i * j)
abbrev b5B:R2:=q2I (fun _ j=>0<j) fun i j=>.int (i % j)
abbrev c7f:R2:=q2I (fun _ j=>0<j/\j<2 ^ 64) fun i j=>.int (i / j)
abbrev qLt:R2:=b8S fun i j=>.bl (decide (i<j))
abbrev qLe:R2:=b8S fun i j=>.bl (decide (i<=j))
abbrev qGt:R2:=b8S fun i j=>.bl (decide (j<i))
abbrev qGe:R2:=b8S fun i j=>.bl (decide (j<=i))
theorem c7H:OpR X (a1P .Sub) c5b:=b0N d0y
theorem c7J:OpR X (a1P .Mult) c0B:=c0G d0H
theorem c7K:OpR X (a1P .Mod) b5B:=c0G d0I
theorem c7O:OpR X (a1P .FloorDiv) c7f:=c0G (opI fun i j _ _ _ _ _ hc q=>by
 have hl:j.natAbs.log2<9000:=by
  have:j.natAbs<2 ^ 64:=by have:=hc.1;have:=hc.2;omega
  by_cases h0:j.natAbs=0
  ·rw[h0];decide +kernel
  ·exact Nat.lt_trans ((Nat.log2_lt h0).mpr this) (by decide)
 refine floordiv_int (by omega) ?_ (.inl (PyProof.noPylong_of_log2 hl))
 rw[Int.fdiv_eq_ediv_of_nonneg _ (by omega)]
 exact q)
theorem d0A:OpR X (A9 .Lt) qLt:=b0N d2D
theorem d0B:OpR X (A9 .LtE) qLe:=b0N d2E
theorem d0E:OpR X (A9 .Gt) qGt:=b0N d2F
theorem d0F:OpR X (A9 .GtE) qGe:=b0N d2G
def qIx:R2:=fun x y H Q=>match x,y with
 | .ref p,.int i=>match H p with
  | some (.lst xs)=>∃v,atI xs i=some v/\Q v H
  | some (.tup xs)=>∃v,atI xs i=some v/\Q v H
  | _=>False
 | .str z,.int i=>z.length<=u6/\∃c,atI z.cps.toList i=some c/\Q (.str ⟨#[c]⟩) H
 | _,_=>False
theorem d3y:IxR X qIx:=c5Q.imp fun x y H Q h=>by
 unfold qIx at h
 split at h
 ·split at h
  ·obtain⟨v,e,q⟩:=h
   exact .inl ⟨_,_,_,v,rfl,rfl,SqL.of (by assumption),e,q⟩
  ·obtain⟨v,e,q⟩:=h
   exact .inr (.inl ⟨_,_,_,v,rfl,rfl,SqT.of (by assumption),e,q⟩)
  ·exact h.elim
 ·obtain⟨z,c,e,q⟩:=h
  exact .inr (.inr ⟨_,_,c,rfl,rfl,z,e,q⟩)
 ·exact h.elim
def qSl:V->Option Int->Option Int->Hp->VK->Prop:=fun x lo hi H Q=>match x with
 | .ref a=>match H a with
  | some (.lst xs)=>∀p,H p=none->Q (.ref p) (upd H p (.lst (a8J xs lo hi)))
  | some (.tup xs)=>¬(HT.sIx xs.length 0 lo=0/\HT.sIx xs.length xs.length hi=xs.length)/\∀p,H p=none->Q (.ref p) (upd H p (.tup (a8J xs lo hi)))
  | _=>False
 | _=>False
theorem d3k:SlR X qSl:=(c1Q.or c9x).imp fun x lo hi H Q h=>by
 unfold qSl at h
 split at h
 ·split at h
  ·exact .inl ⟨_,_,rfl,SqL.of (by assumption),h⟩
  ·exact .inr ⟨_,_,rfl,SqT.of (by assumption),h.1,h.2⟩
  ·exact h.elim
 ·exact h.elim
def X9:List V->Hp->VK->Prop:=fun xs H Q=>match xs with
 | [.ref p]=>match H p with
  | some (.lst ys)=>Q (.int ys.length) H
  | some (.tup ys)=>Q (.int ys.length) H
  | _=>False
 | [.str z]=>z.length<=u6/\Q (.int z.length) H
 | _=>False
theorem c3C:X5 X (.builtin "len") X9:=(b1b.or b7J).imp fun xs H Q h=>by
 unfold X9 at h
 split at h
 ·split at h
  ·exact .inl ⟨_,_,rfl,.inl (SqL.of (by assumption)),h⟩
  ·exact .inl ⟨_,_,rfl,.inr (SqT.of (by assumption)),h⟩
  ·exact h.elim
 ·exact .inr ⟨_,rfl,h.1,h.2⟩
 ·exact h.elim
def c5g:List V->Hp->VK->Prop:=fun xs H Q=>match xs with
 | [.int i]=>Q (.int (if i<0 then -i else i)) H
 | _=>False
theorem c3H:X5 X (.builtin "abs") c5g:=c6p.imp fun xs H Q h=>by
 unfold c5g at h
 split at h
 ·exact⟨_,rfl,h⟩
 ·exact h.elim
def b5A:V->V->V->Hp->(Hp->Prop)->Prop:=fun o i v H Q=>match o,i with
 | .ref p,.int k=>match H p with
  | some (.lst xs)=>∃j,ixN xs.length k=some j/\Q (upd H p (.lst (xs.set j v)))
  | _=>False
 | _,_=>False
theorem d1X:c6t X b5A:=by
 intro pins s σ H o i v u1 u2 u3 Q I r1 r2 r3 h
 refine c4J pins s σ H o i v u1 u2 u3 Q I r1 r2 r3 ?_
 unfold b5A at h
 split at h
 ·split at h
  ·obtain⟨j,e,q⟩:=h
   exact⟨_,_,_,j,rfl,rfl,by assumption,e,q⟩
  ·exact h.elim
 ·exact h.elim
def T0(xs ys:List V):Bool:=(v9 (min xs.length ys.length)).all (fun j=>eqV (xs.getD j .non) (ys.getD j .non))&&xs.length == ys.length
def eqO(x y:V)(H:Hp):Option Bool:=if b8C x y=true then some (decide (x=y))else match x,y with
 | .ref a,.ref b=>match H a,H b with
  | some (.tup xs),some (.tup ys)=>if xs.all R6=true/\ys.all R6=true then some (T0 xs ys)else none
  | some (.lst xs),some (.lst ys)=>if xs.all R6=true/\ys.all R6=true then some (T0 xs ys)else none
  | _,_=>none
 | .non,.ref a=>match H a with
  | some (.tup _)=>some false
  | _=>none
 | .ref a,.non=>match H a with
  | some (.tup _)=>some false
  | _=>none
 | _,_=>none
def qEq:R2:=fun x y H Q=>∃b,eqO x y H=some b/\Q (.bl b) H
def qNe:R2:=fun x y H Q=>∃b,eqO x y H=some b/\Q (.bl (!b)) H
theorem a7J{A:R3}{ys:List V}{ws:List Value}(rx:M3 xs us)(ry:M3 ys ws)(fx:xs.all R6=true)(fy:ys.all R6=true) :
  ∀j (h1:j<us.toArray.size) (h2:j<ws.toArray.size),SeqAt.EqAt A s us.toArray[j] ws.toArray[j] (eqV (xs.getD j .non) (ys.getD j .non)):=by
 intro j h1 h2
 have l1:=rx.length
 have l2:=ry.length
 have h1':j<us.length:=by simpa using h1
 have h2':j<ws.length:=by simpa using h2
 have e1:xs[j]? = some (xs[j]'(by omega)):=by simp
 have e2:ys[j]? = some (ys[j]'(by omega)):=by simp
 obtain⟨u,hu,ru⟩:=rx.get e1
 obtain⟨w,hw,rw'⟩:=ry.get e2
 have z1:us.toArray[j]=u:=by
  have:us[j]? = some us[j]:=by simp
  rw[this]at hu
  simpa using hu
 have z2:ws.toArray[j]=w:=by
  have:ws[j]? = some ws[j]:=by simp
  rw[this]at hw
  simpa using hw
 rw[z1,z2]
 have g1:xs.getD j .non=xs[j]'(by omega):=by simp[M0,e1]
 have g2:ys.getD j .non=ys[j]'(by omega):=by simp[M0,e2]
 rw[g1,g2]
 exact c5X ru rw' (U8.mp fx _ (I0 _)) (U8.mp fy _ (I0 _))
theorem c9b{x y:V}{v u:Value}{k:Bool}(I:Inv X pins σ H s)(hu:X.A.units<cLine)(rx:K9 x v)(ry:K9 y u)(hs:¬b8C x y=true)(e:eqO x y H=some k) :
  SeqAt.RcAt X.A s v u k/\SeqAt.RcNeAt X.A s v u (!k):=by
 unfold eqO at e
 rw[if_neg hs]at e
 split at e
 ·rename_i a b
  cases rx
  cases ry
  split at e
  ·rename_i xs ys ha hb
   split at e
   ·rename_i hf
    cases e
    obtain⟨us,r1,t1,_⟩:=I.tuple (SqT.of ha)
    obtain⟨ws,r2,t2,_⟩:=I.tuple (SqT.of hb)
    have l1:=r1.length
    have l2:=r2.length
    have q1:=SeqAt.RcAt.tuples (A:=X.A) t1 t2 hu (a7J r1 r2 hf.1 hf.2)
    have q2:=SeqAt.RcNeAt.tuples (A:=X.A) t1 t2 hu (a7J r1 r2 hf.1 hf.2)
    simp only[o6,<-l1,<-l2]at q1 q2
    exact⟨q1,q2⟩
   ·cases e
  ·rename_i xs ys ha hb
   split at e
   ·rename_i hf
    cases e
    obtain⟨us,r1,t1,_⟩:=I.list (SqL.of ha)
    obtain⟨ws,r2,t2,_⟩:=I.list (SqL.of hb)
    have l1:=r1.length
    have l2:=r2.length
    by_cases hl:us.toArray.size=ws.toArray.size
    ·have q1:=SeqAt.RcAt.lists (A:=X.A) t1.isList t2.isList hl hu (a7J r1 r2 hf.1 hf.2)
     have q2:=SeqAt.RcNeAt.lists (A:=X.A) t1.isList t2.isList hl hu (a7J r1 r2 hf.1 hf.2)
     have hl':xs.length=ys.length:=by simpa[<-l1,<-l2]using hl
     have ef:T0 xs ys=(v9 us.toArray.size).all fun j=>eqV (xs.getD j .non) (ys.getD j .non):=by
      unfold T0
      rw[hl',a9o,o6,<-l1,hl']
      simp
     rw[ef]
     exact⟨q1,q2⟩
    ·have hl2:(us.toArray.size != ws.toArray.size)=true:=by simpa using hl
     have q1:=SeqAt.RcAt.lists_lengths (A:=X.A) t1.isList t2.isList hl2 hu
     have q2:=SeqAt.RcNeAt.lists_lengths (A:=X.A) t1.isList t2.isList hl2 hu
     have ef:T0 xs ys=false:=by
      unfold T0
      have:¬xs.length=ys.length:=by simpa[<-l1,<-l2]using hl
      simp[this]
     rw[ef]
     exact⟨q1,q2⟩
   ·cases e
  ·cases e
 ·cases rx
  cases ry
  split at e
  ·cases e
   obtain⟨us,_,t1,_⟩:=I.tuple (SqT.of (by assumption))
   exact⟨SeqAt.RcAt.none_tuple t1 hu,SeqAt.RcNeAt.none_tuple t1 hu⟩
  ·cases e
 ·cases rx
  cases ry
  split at e
  ·cases e
   obtain⟨us,_,t1,_⟩:=I.tuple (SqT.of (by assumption))
   exact⟨SeqAt.RcAt.tuple_none t1 hu,SeqAt.RcNeAt.tuple_none t1 hu⟩
  ·cases e
 ·cases e
theorem d0G(hu:X.A.units<cLine):OpR X (A9 .Eq) qEq:=by
 intro pins s σ H x y v u Q I rx ry h
 obtain⟨k,e,q⟩:=h
 by_cases hs:b8C x y=true
 ·unfold eqO at e
  rw[if_pos hs]at e
  cases e
  exact d2H pins s σ H x y v u Q I rx ry ⟨hs,q⟩
 ·exact(c9b I hu rx ry hs e).1 _ _ _ _ ⟨.bl k,H,I,rfl,q⟩
theorem d0z(hu:X.A.units<cLine):OpR X (A9 .NotEq) qNe:=by
 intro pins s σ H x y v u Q I rx ry h
 obtain⟨k,e,q⟩:=h
 by_cases hs:b8C x y=true
 ·unfold eqO at e
  rw[if_pos hs]at e
  cases e
  exact d2C pins s σ H x y v u Q I rx ry ⟨hs,q⟩
 ·exact(c9b I hu rx ry hs e).2 _ _ _ _ ⟨.bl (!k),H,I,rfl,q⟩
def qIn(neg:Bool):R2:=fun x y H Q=>match x,y with
 | .str i,.str j=>Q (.bl (if neg then !(!(Builtin.Str.occurrences j i 0 j.length 1).isEmpty)else !(Builtin.Str.occurrences j i 0 j.length 1).isEmpty)) H
 | x,.ref p=>match H p with
  | some (.lst xs)=>R6 x=true/\xs.all R6=true/\Q (.bl (if neg then !inV x xs else inV x xs)) H
  | some (.tup xs)=>R6 x=true/\xs.all R6=true/\Q (.bl (if neg then !inV x xs else inV x xs)) H
  | _=>False
 | _,_=>False
theorem d0D:OpR X (A9 .In) (qIn false):=(c2V.or b6k).imp fun x y H Q h=>by
 unfold qIn at h
 split at h
 ·exact .inl ⟨_,_,rfl,rfl,h⟩
 ·split at h
  ·exact .inr ⟨_,_,rfl,.inl (SqL.of (by assumption)),h.1,h.2.1,h.2.2⟩
  ·exact .inr ⟨_,_,rfl,.inr (SqT.of (by assumption)),h.1,h.2.1,h.2.2⟩
  ·exact h.elim
 ·exact h.elim
def Y0:V->List V->Hp->VK->Prop:=fun x vs H Q=>match x,vs with
 | .ref l,[y]=>match H l with
  | some (.lst xs)=>xs.length<u6/\Q .non (upd H l (.lst (xs++[y])))
  | _=>False
 | _,_=>False
theorem c1b:MtR X "list.append" Y0:=fun pins s σ H x xs v us Q I rx rv h=>by
 refine b2d pins s σ H x xs v us Q I rx rv ?_
 unfold Y0 at h
 split at h
 ·split at h
  ·exact⟨_,_,_,rfl,rfl,by assumption,h.1,h.2⟩
  ·exact h.elim
 ·exact h.elim
def a6u:List V->Option (List Str)
 | []=>some []
 | .str s::r=>(a6u r).map (s :: ·)
 | _=>none
theorem c0g(ss:List Str):a6u (ss.map V.str)=some ss:=by
 induction ss with
 | nil=>rfl
 | cons s r ih=>simp[a6u,ih]
theorem b3X:∀ {xs:List V} {us:List Value} {ss:List Str},M3 xs us->a6u xs=some ss->StrsAre us ss
 | _,_,ss,.nil,e=>by cases e;exact .nil
 | x::xs,_,ss,.cons r t,e=>by
  cases x with
  | str s=>
   obtain⟨k,rfl⟩:=r
   cases e2:a6u xs with
   | none=>simp[a6u,e2]at e
   | some ss2=>
    simp[a6u,e2]at e
    subst e
    exact .cons _ _ (b3X t e2)
  | _=>simp[a6u]at e
def b6i:V->List V->Hp->VK->Prop:=fun x vs H Q=>match x,vs with
 | .str x,[.ref l]=>match H l with
  | some (.lst xs)=>∃ss,a6u xs=some ss/\(ss.map (·.length)).sum+ss.length * x.length<=16777216/\Q (.str (Txt.join x ss)) H
  | _=>False
 | _,_=>False
theorem c5G:MtR X "str.join" b6i:=fun pins s σ H x xs v us Q I rx rv h=>by
 unfold b6i at h
 split at h
 ·split at h
  ·obtain⟨ss,e,hk,q⟩:=h
   obtain⟨t,rfl⟩:=rx
   obtain⟨u,rfl,ru⟩:=rv.one
   cases ru
   obtain⟨its,r,p,hz⟩:=I.list (SqL.of (by assumption))
   exact join_list p.isList (b3X r e) hk fun t' k=>⟨.str _,H,I.tok _,⟨_,rfl⟩,q⟩
  ·exact h.elim
 ·exact h.elim
def a4P(x:V)(H:Hp):Option String:=match x with
 | .non=>some "NoneType"
 | .bl _=>some "bool"
 | .int _=>some "int"
 | .str _=>some "str"
 | .ref a=>match H a with
  | some (.lst _)=>some "list"
  | some (.tup _)=>some "tuple"
  | some (.dK _)=>some "dict"
  | some (.dT _)=>some "dict"
  | _=>none
 | _=>none
def c1i(t c:String):Bool:=t == c||(t == "bool" && c == "int")
def b2f:List String:=["int","bool","str","list","tuple","dict"]
theorem c5O(K:Fg):∀t ∈ "NoneType" :: b2f,∀c∈b2f,a9n K (.type t) (.type c)=some (c1i t c):=by
 intro t ht c hc
 simp only[b2f,o4,O2,or_false]at ht hc
 rcases ht with rfl | rfl | rfl | rfl | rfl | rfl | rfl <;> rcases hc with rfl | rfl | rfl | rfl | rfl | rfl <;> kernel_rfl
theorem d1V{K:Fg}{x:V}{t:String}(h:a4P x H=some t):b2u K H x (.type t)/\t ∈ "NoneType" :: b2f:=by
 unfold a4P at h
 split at h
 ·cases h;exact⟨.non,by decide⟩
 ·cases h;exact⟨.bl _,by decide⟩
 ·cases h;exact⟨.int _,by decide⟩
 ·cases h;exact⟨.str _,by decide⟩
 ·split at h
  ·cases h;exact⟨.lst (by assumption),by decide⟩
  ·cases h;exact⟨.tup (by assumption),by decide⟩
  ·cases h;exact⟨.dK (by assumption),by decide⟩
  ·cases h;exact⟨.dT (by assumption),by decide⟩
  ·cases h
 ·cases h
def a8d:List V->Hp->VK->Prop:=fun xs H Q=>match xs with
 | [x,.ty c]=>∃t,a4P x H=some t/\c∈b2f/\Q (.bl (c1i t c)) H
 | _=>False
theorem c3D:X5 X (.builtin "isinstance") a8d:=fun pins s σ H xs us Q I r h=>by
 unfold a8d at h
 split at h
 ·obtain⟨t,e,hc,q⟩:=h
  obtain⟨u,u2,rfl,ru,ru2⟩:=b5X r
  cases ru2
  obtain⟨ty,ht⟩:=d1V (K:=X.K) e
  exact b6p I ru ty (c5O X.K t ht _ hc) fun tk=>⟨.bl _,H,I.tok _,rfl,q⟩
 ·exact h.elim
def c2O:V->V->Hp->VK->Prop:=fun x y H Q=>match x,y with
 | .ref p,.int i=>match H p with
  | some (.lst xs)=>0<=i/\∃v,xs[i.toNat]? = some v/\Q v H
  | _=>False
 | _,_=>False
theorem d2Q:d1w X c2O:=fun pins s σ H o i ov iv Q I r1 r2 h=>by
 unfold c2O at h
 split at h
 ·split at h
  ·obtain⟨h0,v,e,q⟩:=h
   cases r1
   obtain⟨t,rfl⟩:=r2
   obtain⟨its,r,pl,hz⟩:=I.list (SqL.of (by assumption))
   obtain⟨u,eu,ru⟩:=r.get e
   have hl:=(u8.mp e).1
   have hn:=b0d
   exact wpAny_getItem_list pl.isList h0 (by omega) (by simpa using eu) ⟨v,H,I,ru,q⟩
  ·exact h.elim
 ·exact h.elim
def qIs:R2:=fun x y H Q=>y=.non/\Q (.bl (decide (x=.non))) H
def c0C:R2:=fun x y H Q=>y=.non/\Q (.bl (!decide (x=.non))) H
theorem d0C:OpR X (A9 .Is) qIs:=d0J
theorem c2U:OpR X (A9 .IsNot) c0C:=c7Q
structure E7(P:D4)(w:World)(K:Fg)(mg:Str->Option Value)(base:Heap)(k:Nat)(x:Str)(ps:List Str)(sp:Sp):Prop where
 ex:∃f fd,F7 P w K mg base CX0 k f fd ps sp/\mg x=some (.ref f)/\V7 K (.ref f)=true/\a5Q K fd ps []
theorem d0l{k:Nat}{x:Str}{e:Expr}{es:List Expr}{t:TA}{p:Pos}(C:E7 X.prog X.w X.K X.mg X.base k x ps sp)(hr:V6 j X.A)(hk:k<=j)(hg:Gl X x)(ha:PA X (e::es) t)
  (hdb:(x == ("__debug__" : Str))=false:=by decide) (he:l9 (e::es) X.env=(false,eval e X.env)::l9 es X.env:=by rfl) (hpl:(a1f pos (l9 es X.env)).any (·.1)=false:=by rfl) :
  PE X (.Call (.Name x p) (e::es) [] pos) (w4 sp [] E0 t):=by
 obtain⟨f,fd,F,hm,hkp,hb⟩:=C.ex
 exact c7E F (hr.mono hk) hg hm hkp hb .nil c1W ha hdb he hpl
theorem c3A{P:D4}{K:Fg}{mg:Str->Option Value}{base:Heap}{k:Nat}{x q:Str}{st:Stmt}{f:Addr}{fd:a0w}(F:Fun K x q st f fd)(O:F7 P w K mg base CX0 k f fd ps sp)
  (hm:mg x=some (.ref f)) (hb:a5Q K fd ps []):E7 P w K mg base k x ps sp:=⟨f,fd,O,hm,F.kp,hb⟩
def a6U:List V->Hp->VK->Prop:=fun xs H Q=>match xs with
 | [.ref p]=>match H p with
  | some (.lst ys)=>∀l,H l=none->Q (.ref l) (upd H l (.lst ys))
  | some (.tup ys)=>∀l,H l=none->Q (.ref l) (upd H l (.lst ys))
  | _=>False
 | _=>False
theorem c1x:X5 X (.type "list") a6U:=b7I.imp fun xs H Q h=>by
 unfold a6U at h
 split at h
 ·split at h
  ·exact⟨_,_,rfl,.inl (SqL.of (by assumption)),h⟩
  ·exact⟨_,_,rfl,.inr (SqT.of (by assumption)),h⟩
  ·exact h.elim
 ·exact h.elim
theorem b3P:∀ {kvs:List (Key×V)} {k:Key} {x:V},(kvs.map (·.1)).Nodup->(k,x)∈kvs->a7j kvs k=some x
 | [],_,_,_,h=>by cases h
 | (k0,x0)::r,k,x,nd,h=>by
  have nd':k0∉r.map (·.1)/\(r.map (·.1)).Nodup:=X4.mp nd
  unfold a7j
  rw[a0j]
  by_cases e:k0=k
  ·rw[show decide (((k0,x0):Key×V).1=k)=true from d5r e]
   rcases o4.mp h with z | z
   ·cases z;rfl
   ·exact absurd (A2.mpr ⟨_,z,e.symm⟩) nd'.1
  ·rw[show decide (((k0,x0):Key×V).1=k)=false from d5q e]
   rcases o4.mp h with z | z
   ·cases z;exact absurd rfl e
   ·exact b3P nd'.2 z
def b8R:List V->Hp->VK->Prop:=fun xs H Q=>match xs with
 | [.int i]=>Q (.int i) H
 | [.bl k]=>Q (.int (if k then 1 else 0)) H
 | _=>False
theorem c3E:X5 X (.type "int") b8R:=c3J.imp fun xs H Q h=>by
 unfold b8R at h
 split at h
 ·exact .inl ⟨_,rfl,h⟩
 ·exact .inr ⟨_,rfl,h⟩
 ·exact h.elim
end
def Its(x:Str):It:=⟨fun i _=>i<x.length,fun i H v H'=>H'=H/\∃c,x.cps[i]? = some c/\v=.str ⟨#[c]⟩,fun i _=>x.length<=i⟩
theorem c4x{P:D4}{K:Fg}{tg:Expr}(x:Str)(t:Tok)(it:Addr):b9M P w K tg (Its x) [it] it (fun i h=>h.IsStrIter it (a6s x) x t i) where
 mem:=by simp
 obj:=fun i h st b hb=>by
  have e:b=it:=by simpa using hb
  subst e
  obtain⟨o,e,c,d⟩:=st
  exact⟨o,e,fun v z=>by rw[d]at z;cases z⟩
 keep:=fun i h h' st k=>let⟨o,ho,r⟩:=st; ⟨o,k it (by simp) o ho,r⟩
 item:=by
  intro X hP hw hK hc i pins s σ H E I hf st hg
  subst hP hw hK
  have hi:i<x.cps.size:=hg
  obtain⟨f0,f1,f2,f3,f4,f5⟩:=hf it (by simp)
  have hx:x.cps[i]? = some x.cps[i]:=by simp[hi]
  have fin:∀h',h'.IsStrIter it (a6s x) x t (i+1)->Heap.SameBut it s.heap h'->∃u,some (Value.str ⟨#[x.cps[i]]⟩ s.toks)=some u /\
    wpAny (model X.prog X.w) X.A (a8k tg (.ref it) u) (fun _ s2=>∃v H',Inv X pins σ H' s2/\K9 v u/\(Its x).yld i H v H'/\s2.heap.IsStrIter it (a6s x) x t (i+1)/\∀b∈[it],H' b=none) E { s with heap:=h',toks:=s.toks+1 }:=by
   intro h' st' sb
   have I1:Inv X pins σ H { s with heap:=h',toks:=s.toks+1 }:=I.turned (t':=s.toks+1) (fun b o hb e=>(sb.2 b hb).trans e) f0 f1 f3 f4 f5
   obtain⟨o,e,c,d⟩:=id st'
   refine⟨_,rfl,c5T (s:={ s with heap:=h',toks:=s.toks+1 }) e c d ?_ ⟨.str ⟨#[x.cps[i]]⟩,H,I1,⟨_,rfl⟩,⟨rfl,_,hx,rfl⟩,st',fun b hb=>(hf b hb).1⟩⟩
   unfold a6s
   split <;> decide
  unfold a6s at st fin ⊢
  split at st
  ·rename_i ha
   simp only[ha]at fin ⊢
   exact wpAny_pyNext_ascii_item st hx fun h' st' sb=>fin h' st' sb
  ·rename_i ha
   simp only[ha]at fin ⊢
   exact wpAny_pyNext_wide_item st hx fun h' st' sb=>fin h' st' sb
 done:=by
  intro X hP hw hK hc i pins s σ H E I hf st hg
  subst hP hw hK
  have hi:x.cps.size<=i:=hg
  obtain⟨f0,f1,f2,f3,f4,f5⟩:=hf it (by simp)
  have hx:x.cps[i]? = none:=by simp[hi]
  unfold a6s at st
  split at st
  ·exact wpAny_pyNext_ascii_end (I.ok.hd hc) st hx fun h' eb=>⟨rfl,I.turned (t':=s.toks) (fun b o hb e=>eb b o hb e) f0 f1 f3 f4 f5⟩
  ·exact wpAny_pyNext_wide_end (I.ok.hd hc) st hx fun h' eb=>⟨rfl,I.turned (t':=s.toks) (fun b o hb e=>eb b o hb e) f0 f1 f3 f4 f5⟩
 self:=fun _ _ _ _ _ st h=>by
  unfold a6s at st
  split at st
  ·exact wpAny_pyIter_striter_ascii st h
  ·exact wpAny_pyIter_striter_wide st h
def c8q(tl:TE):TI:=fun σ H R=>tl σ H fun v H1=>∃x,v=.str x/\R (Its x) H1
section
variable {tg:Expr}
theorem d0g{l:Expr}{tl:TE}(hl:PE X l tl):PI X tg l (c8q tl):=by
 intro pins s σ H R I h
 refine thn (hl pins s σ H _ I h) fun v s1 ⟨y,H1,I1,r1,x,e,q1⟩=>?_
 subst e
 obtain⟨t,rfl⟩:=r1
 refine wpAny_pyIter_strU ?_
 have k:∀b u,s1.heap.get? b=some u->(s1.heap.push { cls:=.type (a6s x),data:=.fields #[.str x t,.int 0 0] }).get? b=some u:=fun b u q=>i8 _ q
 refine⟨s1.heap.objs.size,[s1.heap.objs.size],_,Its x,H1,rfl,I1.kept (t':=s1.toks) k,c4x x t _,⟨_,A8 _ rfl,rfl,rfl⟩,fun b hb=>?_,q1⟩
 have e:b=s1.heap.objs.size:=by simpa using hb
 subst e
 exact I1.fpOk (j5 _) I1.fresh
def a0G:List V->Option (List Bool)
 | []=>some []
 | .bl b::r=>(a0G r).map (b :: ·)
 | _=>none
theorem b2s:∀ {xs:List V} {bs:List Bool} {i:Nat} {x:V},a0G xs=some bs->xs[i]? = some x->∃b,bs[i]? = some b/\x=.bl b
 | [],_,_,_,_,h=>by simp at h
 | y::r,bs,i,x,e,h=>by
  cases y with
  | bl b=>
   cases e2:a0G r with
   | none=>simp[a0G,e2]at e
   | some bs2=>
    simp[a0G,e2]at e
    subst e
    cases i with
    | zero=>simp at h;exact⟨b,rfl,h.symm⟩
    | succ i=>
     obtain⟨b',h1,h2⟩:=b2s (i:=i) e2 (by simpa using h)
     exact⟨b',by simpa using h1,h2⟩
  | _=>simp[a0G]at e
theorem b2r:∀ {xs:List V} {bs:List Bool},a0G xs=some bs->xs.length=bs.length
 | [],_,e=>by cases e;rfl
 | y::r,bs,e=>by
  cases y with
  | bl b=>
   cases e2:a0G r with
   | none=>simp[a0G,e2]at e
   | some bs2=>
    simp[a0G,e2]at e
    subst e
    simp[b2r e2]
  | _=>simp[a0G]at e
theorem c3M(bs:List Bool):((v9 bs.length).all fun i=>(bs[i]?).getD true)=bs.all id:=by
 rw[U2,U8,U8]
 constructor
 ·intro h b hb
  obtain⟨i,hi,rfl⟩:=List.mem_iff_getElem.mp hb
  have:=h i (by simpa using hi)
  simpa[hi]using this
 ·intro h i hi
  have hl:i<bs.length:=by simpa using hi
  have:=h bs[i] (I0 _)
  simpa[hl]using this
def b5C:List V->Hp->VK->Prop:=fun vs H Q=>match vs with
 | [.ref l]=>match H l with
  | some (.lst xs)=>∃bs,a0G xs=some bs/\Q (.bl (bs.all id)) H
  | _=>False
 | _=>False
theorem c3G(hc:X.calm=true):X5 X (.builtin "all") b5C:=fun pins s σ H xs us Q I r h=>by
 unfold b5C at h
 split at h
 ·split at h
  ·rename_i l _ ys hl
   obtain⟨bs,e,q⟩:=h
   obtain⟨u,rfl,ru⟩:=a4Z r
   cases ru
   obtain⟨its,rv,pl,hz⟩:=I.list (SqL.of hl)
   have hlt:l<s.heap.objs.size:=by obtain⟨_,e,_⟩:=pl.isList;exact l7 e
   have hlen:=rv.length
   have hbl:=b2r e
   refine call_all_walk (a6r pl.isList ?_)
   refine⟨s.heap.objs.size,[s.heap.objs.size,l],[s.heap.objs.size],its.toArray.size,_,_,fun i=>(bs[i]?).getD true,rfl,Walks.list (A:=X.A.in1) (I.ok.hd hc) _ l (A0 hlt) its.toArray,
    ⟨⟨_,A8 _ rfl,rfl,rfl⟩,pl.isList.push _⟩,fun i v s' Q' E' hP hQ=>?_,fun h' tk hk=>?_⟩
   ·have hP:its[i]? = some v:=by simpa using hP
    have hi:i<ys.length:=by rw[hlen];exact(u8.mp hP).1
    have ey:ys[i]? = some ys[i]:=by simp[hi]
    obtain⟨b,eb,ez⟩:=b2s e ey
    obtain⟨u,eu,ru⟩:=rv.get ey
    rw[hP]at eu
    cases eu
    rw[ez]at ru
    cases ru
    simp only[eb,a2y]at hQ
    exact S0 hQ
   ·have e2:((v9 its.toArray.size).all fun i=>(bs[i]?).getD true)=bs.all id:=by
     rw[o6,<-hlen,hbl]
     exact c3M bs
    rw[e2]
    exact⟨.bl _,H,I.kept (t':=tk) fun b x e=>hk b x (fun hm=>by rw[o0.mp hm]at e;exact O4 _ (l7 e)) (i8 _ e),rfl,q⟩
  ·exact h.elim
 ·exact h.elim
end
section
theorem Inv.turnedL{h':Heap}{t':Nat}(I:Inv X pins σ H s)(k:∀b o,b∉fp->s.heap.get? b=some o->h'.get? b=some o)(hf:∀b∈fp,a9l X pins H b) :
  Inv X pins σ H { s with heap:=h',toks:=t' }:=by
 have nit:∀b u,H b=some u->b∉fp:=fun b u e z=>by rw[(hf b z).1]at e;cases e
 refine I.step (g':=s.gens) (d':=s.drawn) (ch:=fp) (fun b hb=>?_) (fun b o _ _ hc e _=>k b o hc e) (fun b o _ _ hc e _=>⟨o.slots,k b o hc e⟩) (fun _ _ _ _ n=>n)
  (fun b o hc e=>⟨o,k b o hc e⟩) (fun _ _ e=>e) (fun _ _ _ e=>e) (fun b ps e=>⟨#[],by rw[e];simp⟩) (fun m hm=>?_) (fun b u e=>?_) I.bare
 ·obtain⟨_,f1,_,f3,f4,f5⟩:=hf b hb
  exact⟨f3,f1,f4,f5⟩
 ·obtain⟨o,es,ep,ho,r⟩:=hm
  exact⟨o,es,ep,k _ o (fun z=>(hf _ z).2.1 rfl) ho,r⟩
 ·refine(I.hok b u e).stay (fun c v hc q=>k c v ?_ q) (fun _ q=>q) fun _ _ q=>q
  rcases hc with z | z
  ·rw[z];exact nit b u e
  ·exact nit c _ z
theorem Inv.pairL{h':Heap}{t':Nat}{x y:V}{u v:Value}(I:Inv X pins σ H s)(hf:∀b∈fp,a9l X pins H b)(fl:∀b∈fp,b≠s.heap.objs.size)
  (rx:K9 x u) (ry:K9 y v) (ht:h'.get? s.heap.objs.size=some { cls:=.type "tuple",data:=.seq #[u,v] }) (k:∀b o,b∉fp->s.heap.get? b=some o->h'.get? b=some o) :
  Inv X pins σ (upd H s.heap.objs.size (.tup [x,y])) { s with heap:=h',toks:=t' }:=by
 have I1:Inv X pins σ (upd H s.heap.objs.size (.tup [x,y])) { s with heap:=s.heap.push { cls:=.type "tuple",data:=.seq #[u,v] },toks:=s.toks }:=
  I.laid (fun b u e=>i8 _ e) (j5 _) ⟨by show 2<=u6;decide,[u,v],.cons rx (.cons ry .nil),⟨_,A8 _ rfl,rfl,_,rfl⟩⟩
 refine Inv.turnedL (s:={ s with heap:=s.heap.push { cls:=.type "tuple",data:=.seq #[u,v] },toks:=s.toks }) (fp:=fp) I1 (fun b o hb e=>?_) fun b hb=>⟨by rw[g9 (fl b hb)];exact(hf b hb).1,(hf b hb).2⟩
 by_cases hz:b=s.heap.objs.size
 ·subst hz
  have e2:=A8 s.heap (o:={ cls:=.type "tuple",data:=.seq #[u,v] }) rfl
  rw[show(s.heap.push { cls:=.type "tuple",data:=.seq #[u,v] }).get? s.heap.objs.size=some o from e]at e2
  cases e2
  exact ht
 ·refine k b o hb ?_
  have e:(s.heap.push { cls:=.type "tuple",data:=.seq #[u,v] }).get? b=some o:=e
  rwa [Heap.get?_push_ne _ _ _ hz]at e
def Ite(K:Fg)(a:Addr):It:=
 ⟨fun i H=>∃xs x,SqL K H a xs/\xs[i]? = some x,fun i H v H'=>∃p x,H p=none/\v=.ref p/\H'=upd H p (.tup [.int i,x])/\∀xs,SqL K H a xs->xs[i]? = some x,fun i H=>∃xs,SqL K H a xs/\xs.length<=i⟩
theorem c2C{P:D4}{K:Fg}{x1}(a e it:Addr)(hne:e≠it):b9M P w K (.Tuple elts x1 tp) (Ite K a) [e,it] e (fun i h=>(∃old,IsEnum h e it i old)/\h.IsListIter it a i) where
 mem:=by simp
 obj:=fun i h st b hb=>by
  obtain⟨⟨old,he⟩,o,e1,c,d⟩:=st
  rcases o4.mp hb with rfl | hb
  ·exact⟨_,he,fun v z=>by
    have z':Data.fields _=Data.cell v:=z
    cases z'⟩
  ·have:b=it:=by simpa using hb
   subst this
   exact⟨o,e1,fun v z=>by rw[d]at z;cases z⟩
 keep:=fun i h h' st k=>by
  obtain⟨⟨old,he⟩,hi⟩:=st
  exact⟨⟨old,k e (by simp) _ he⟩,hi.at fun o q=>k it (by simp) o q⟩
 item:=by
  intro X hP hw hK hc i pins s σ H E I hf st hg
  subst hP hw hK
  obtain⟨⟨old,he⟩,hit⟩:=st
  obtain⟨xs,x,hq,hx⟩:=hg
  obtain⟨its,rv,p,hz⟩:=I.list hq
  obtain⟨u,hu,ru⟩:=rv.get hx
  refine wpAny_pyNext_enum_item he hit p.isList (x:=u) (by simpa using hu) hne fun h1 ho hit1 hT hsz hk=>?_
  refine⟨_,rfl,?_⟩
  refine wpAny_letOwnedTupleGo_enum (s:={ s with heap:=h1,toks:=s.toks+1 }) ho fun h2 he2 hs2=>?_
  have hs2:Heap.SameBut e h1 h2:=hs2
  have le:e≠s.heap.objs.size:=A0 (l7 he)
  have li:it≠s.heap.objs.size:=by obtain⟨_,q,_⟩:=hit;exact A0 (l7 q)
  have fl:∀b∈[e,it],b≠s.heap.objs.size:=fun b hb=>by
   rcases o4.mp hb with rfl | hb
   ·exact le
   ·have:b=it:=by simpa using hb
    subst this;exact li
  have I2:=I.pairL (h':=h2) (t':=s.toks+1) (x:=.int i) (y:=x) (u:=.int i s.toks) (v:=u) hf fl ⟨_,rfl⟩ ru ((hs2.2 _ (Ne.symm le)).trans hT) fun b o hb q=>by
   have n1:b≠e:=fun z=>hb (by simp[z])
   have n2:b≠it:=fun z=>hb (by simp[z])
   exact(hs2.2 b n1).trans (hk b o n1 n2 q)
  refine⟨.ref s.heap.objs.size,_,I2,rfl,⟨_,x,I.fresh,rfl,rfl,fun ys hy=>by rw[I.list_inj hy hq];exact hx⟩,⟨⟨u,by simpa using he2⟩,hit1.at fun o q=>(hs2.2 it (Ne.symm hne)).trans q⟩,fun b hb=>?_⟩
  rw[g9 (fl b hb)];exact(hf b hb).1
 done:=by
  intro X hP hw hK hc i pins s σ H E I hf st hg
  subst hP hw hK
  obtain⟨⟨old,he⟩,hit⟩:=st
  obtain⟨xs,hq,hx⟩:=hg
  obtain⟨its,rv,p,hz⟩:=I.list hq
  obtain⟨f0,f1,f2,f3,f4,f5⟩:=hf it (by simp)
  have hl:=rv.length
  exact wpAny_pyNext_enum_end (I.ok.hd hc) he hit p.isList (by simp;omega) fun h' eb=>⟨rfl,I.turned (t':=s.toks) (fun b o hb e=>eb b o hb e) f0 f1 f3 f4 f5⟩
 self:=fun _ _ _ _ _ st h=>by
  obtain⟨⟨old,he⟩,_⟩:=st
  exact wpAny_pyIter_enum he h
def a7X(K:Fg)(ta:TA):TI:=fun σ H R=>ta σ H fun vs H1=>∃a,vs=[.ref a]/\(∃xs,SqL K H1 a xs)/\R (Ite K a) H1
theorem c7w{x1}{a:Expr}{ta:TA}(hg:Gl X "enumerate")(hm:X.mg "enumerate" = none)(ha:PA X [a] ta)(hs:l9 [a] X.env=[(false,eval a X.env)]:=by rfl) :
  PI X (.Tuple elts x1 tp) (.Call (.Name "enumerate" p) [a] [] pos) (a7X X.K ta):=by
 intro pins s σ H R I h
 refine Call_ (b2e I hg hm boot_enumerate (a1z (thn (ha pos pins s σ H _ I h) fun us s1 ⟨vs,H1,I1,r1,q1⟩=>?_) hs rfl))
 obtain⟨b,e,⟨xs,hq⟩,q⟩:=q1
 subst e
 cases r1 with
 | cons r rr=>
  cases rr
  cases r
  obtain⟨its,rv,pl,hz⟩:=I1.list hq
  refine call_enumerate_list pl.isList fun h' he hit hsz hk=>?_
  have I2:Inv X pins σ H1 { s1 with heap:=h' }:=I1.kept (t':=s1.toks) hk
  refine wpAny_pyIter_enum he ⟨_,[s1.heap.objs.size+1,s1.heap.objs.size],_,_,H1,rfl,I2,c2C b (s1.heap.objs.size+1) s1.heap.objs.size (Nat.succ_ne_self _),⟨⟨_,he⟩,hit⟩,fun c hc=>?_,q⟩
  rcases o4.mp hc with rfl | hc
  ·exact I1.fpOk (by omega) (I1.hok.fresh (by omega))
  ·have:c=s1.heap.objs.size:=by simpa using hc
   subst this
   exact I1.fpOk (j5 _) (I1.hok.fresh (j5 _))
def Itz(K:Fg)(a b:Addr):It:=
 ⟨fun i H=>∃xs ys x y,SqL K H a xs/\SqL K H b ys/\xs[i]? = some x/\ys[i]? = some y,fun i H v H'=>∃p x y,H p=none/\v=.ref p/\H'=upd H p (.tup [x,y])/\(∀xs,SqL K H a xs->xs[i]? = some x)/\∀ys,SqL K H b ys->ys[i]? = some y,
  fun i H=>∃xs ys,SqL K H a xs/\SqL K H b ys/\(xs.length<=i\/ys.length<=i)⟩
theorem Z3{h:Heap}{a b:Addr}{o o':Obj}(h1:h.get? a=some o)(h2:h.get? b=some o')(hc:o.cls≠o'.cls):a≠b:=fun z=>by
 subst z;rw[h1]at h2;cases h2;exact hc rfl
theorem c4w{P:D4}{K:Fg}{x1}(a b z TI TO i1 i2:Addr)(n1:TI≠z)(n2:TO≠z)(n3:i1≠z)(n4:i2≠z)(n5:TI≠TO)(n6:TI≠i1)(n7:TI≠i2)(n8:TO≠i1)(n9:TO≠i2)(n10:i1≠i2) :
  b9M P w K (.Tuple elts x1 tp) (Itz K a b) [z,TI,TO,i1,i2] z (fun i h=>IsZip h z TI TO .none/\IsPair h TI (.ref i1) (.ref i2)/\(∃u v,IsPair h TO u v)/\h.IsListIter i1 a i/\h.IsListIter i2 b i) where
 mem:=by simp
 obj:=fun i h st c hb=>by
  obtain⟨hz,hTI,⟨u,v,hTO⟩,⟨o1,e1,c1,d1⟩,⟨o2,e2,c2,d2⟩⟩:=st
  simp only[o4,O2,or_false]at hb
  rcases hb with rfl | rfl | rfl | rfl | rfl
  ·exact⟨_,hz,fun v z=>by
    have z':Data.fields _=Data.cell v:=z
    cases z'⟩
  ·exact⟨_,hTI,fun v z=>by
    have z':Data.seq _ _=Data.cell v:=z
    cases z'⟩
  ·exact⟨_,hTO,fun v z=>by
    have z':Data.seq _ _=Data.cell v:=z
    cases z'⟩
  ·exact⟨o1,e1,fun v z=>by rw[d1]at z;cases z⟩
  ·exact⟨o2,e2,fun v z=>by rw[d2]at z;cases z⟩
 keep:=fun i h h' st k=>by
  obtain⟨hz,hTI,⟨u,v,hTO⟩,h1,h2⟩:=st
  exact⟨k z (by simp) _ hz,k TI (by simp) _ hTI,⟨u,v,k TO (by simp) _ hTO⟩,h1.at fun o q=>k i1 (by simp) o q,h2.at fun o q=>k i2 (by simp) o q⟩
 item:=by
  intro X hP hw hK hc i pins s σ H E I hf st hg
  subst hP hw hK
  obtain⟨hz,hTI,⟨u,v,hTO⟩,h1,h2⟩:=st
  obtain⟨xs,ys,x,y,hqa,hqb,hx,hy⟩:=hg
  obtain⟨ia,ra,pa,za⟩:=I.list hqa
  obtain⟨ib,rb,pb,zb⟩:=I.list hqb
  obtain⟨ux,hux,rux⟩:=ra.get hx
  obtain⟨uy,huy,ruy⟩:=rb.get hy
  obtain⟨oa,la,ca,_⟩:=id pa.isList
  obtain⟨ob,lb,cb,_⟩:=id pb.isList
  obtain⟨o1,e1,c1,_⟩:=id h1
  obtain⟨o2,e2,c2,_⟩:=id h2
  have D:ZipApart z TI TO i1 i2 a b:=⟨n1,n2,n3,n4,n5,n6,n7,n8,n9,n10,
   Z3 la hz (by rw[ca];intro z;injection z with z;revert z;decide),Z3 la hTO (by rw[ca];intro z;injection z with z;revert z;decide),Z3 la e1 (by rw[ca,c1];intro z;injection z with z;revert z;decide),Z3 la e2 (by rw[ca,c2];intro z;injection z with z;revert z;decide),
   Z3 lb hz (by rw[cb];intro z;injection z with z;revert z;decide),Z3 lb hTO (by rw[cb];intro z;injection z with z;revert z;decide),Z3 lb e1 (by rw[cb,c1];intro z;injection z with z;revert z;decide),Z3 lb e2 (by rw[cb,c2];intro z;injection z with z;revert z;decide)⟩
  refine wpAny_pyNext_zip_item D hz hTI hTO h1 h2 pa.isList pb.isList (x:=ux) (y:=uy) (by simpa using hux) (by simpa using huy) fun h3 a1 a2 a3 a4 a5 a6 hk=>?_
  refine⟨_,rfl,?_⟩
  refine wpAny_letOwnedTupleGo_zip (s:={ s with heap:=h3 }) a1 fun h4 hz4 hs4=>?_
  have hs4:Heap.SameBut z h3 h4:=hs4
  have lz:z≠s.heap.objs.size:=A0 (l7 hz)
  have fl:∀c∈[z,TI,TO,i1,i2],c≠s.heap.objs.size:=fun c hc=>by
   simp only[o4,O2,or_false]at hc
   rcases hc with rfl | rfl | rfl | rfl | rfl
   ·exact lz
   ·exact A0 (l7 hTI)
   ·exact A0 (l7 hTO)
   ·exact A0 (l7 e1)
   ·exact A0 (l7 e2)
  have I2:=I.pairL (h':=h4) (t':=s.toks) (x:=x) (y:=y) (u:=ux) (v:=uy) hf fl rux ruy ((hs4.2 _ (Ne.symm lz)).trans a5) fun c o hc q=>by
   have m1:c≠z:=fun z=>hc (by simp[z])
   have m3:c≠TO:=fun z=>hc (by simp[z])
   have m4:c≠i1:=fun z=>hc (by simp[z])
   have m5:c≠i2:=fun z=>hc (by simp[z])
   exact(hs4.2 c m1).trans (hk c o m1 m3 m4 m5 q)
  refine⟨.ref s.heap.objs.size,_,I2,rfl,⟨_,x,y,I.fresh,rfl,rfl,fun zs hy=>by rw[I.list_inj hy hqa];exact hx,fun zs hy'=>by rw[I.list_inj hy' hqb];exact hy⟩,
   ⟨hz4,hs4.extBut _ _ n1 (hk _ _ n1 n5 n6 n7 hTI),⟨_,_,hs4.extBut _ _ n2 a2⟩,a3.extBut hs4.extBut n3,a4.extBut hs4.extBut n4⟩,fun c hc=>?_⟩
  rw[g9 (fl c hc)];exact(hf c hc).1
 done:=by
  intro X hP hw hK hc i pins s σ H E I hf st hg
  subst hP hw hK
  obtain⟨hz,hTI,⟨u,v,hTO⟩,h1,h2⟩:=st
  obtain⟨xs,ys,hqa,hqb,hx⟩:=hg
  obtain⟨ia,ra,pa,za⟩:=I.list hqa
  obtain⟨ib,rb,pb,zb⟩:=I.list hqb
  obtain⟨oa,la,ca,_⟩:=id pa.isList
  obtain⟨ob,lb,cb,_⟩:=id pb.isList
  obtain⟨o1,e1,c1,_⟩:=id h1
  obtain⟨o2,e2,c2,_⟩:=id h2
  have D:ZipApart z TI TO i1 i2 a b:=⟨n1,n2,n3,n4,n5,n6,n7,n8,n9,n10,
   Z3 la hz (by rw[ca];intro z;injection z with z;revert z;decide),Z3 la hTO (by rw[ca];intro z;injection z with z;revert z;decide),Z3 la e1 (by rw[ca,c1];intro z;injection z with z;revert z;decide),Z3 la e2 (by rw[ca,c2];intro z;injection z with z;revert z;decide),
   Z3 lb hz (by rw[cb];intro z;injection z with z;revert z;decide),Z3 lb hTO (by rw[cb];intro z;injection z with z;revert z;decide),Z3 lb e1 (by rw[cb,c1];intro z;injection z with z;revert z;decide),Z3 lb e2 (by rw[cb,c2];intro z;injection z with z;revert z;decide)⟩
  have la':=ra.length
  have lb':=rb.length
  have hend:ia.toArray[i]? = none\/ib.toArray[i]? = none:=by
   rcases hx with hx | hx
   ·left;simp;omega
   ·right;simp;omega
  refine wpAny_pyNext_zip_end (I.ok.hd hc) D hz hTI hTO h1 h2 pa.isList pb.isList hend fun h' hk=>⟨rfl,?_⟩
  refine I.turnedL (t':=s.toks) (fp:=[z,TI,TO,i1,i2]) (fun c o hc q=>?_) hf
  exact hk c o (fun z=>hc (by simp[z])) (fun z=>hc (by simp[z])) (fun z=>hc (by simp[z])) (fun z=>hc (by simp[z])) q
 self:=fun _ _ _ _ _ st h=>wpAny_pyIter_zip st.1 h
def c3p(K:Fg)(ta:TA):TI:=fun σ H R=>ta σ H fun vs H1=>∃a b,vs=[.ref a,.ref b]/\(∃xs,SqL K H1 a xs)/\(∃xs,SqL K H1 b xs)/\R (Itz K a b) H1
theorem d0f{x1}{a b:Expr}{ta:TA}(hg:Gl X "zip")(hm:X.mg "zip" = none)(ha:PA X [a,b] ta)(hs:l9 [a,b] X.env=[(false,eval a X.env),(false,eval b X.env)]:=by rfl)(hs2:l9 [b] X.env=[(false,eval b X.env)]:=by rfl) :
  PI X (.Tuple elts x1 tp) (.Call (.Name "zip" p) [a,b] [] pos) (c3p X.K ta):=by
 intro pins s σ H R I h
 refine Call_ (b2e I hg hm boot_zip (a1z (thn (ha pos pins s σ H _ I h) fun us s1 ⟨vs,H1,I1,r1,q1⟩=>?_) (by rw[hs,hs2]) (by rw[hs2];rfl)))
 obtain⟨c,d,e,⟨xs,hq⟩,⟨ys,hq'⟩,q⟩:=q1
 subst e
 cases r1 with
 | cons r rr=>
  cases rr with
  | cons r' rr=>
   cases rr
   cases r
   cases r'
   obtain⟨ia,ra,pa,za⟩:=I1.list hq
   obtain⟨ib,rb,pb,zb⟩:=I1.list hq'
   refine call_zip_2 pa.isList pb.isList fun h' hz hTI hTO h1 h2 hsz hk=>?_
   have I2:Inv X pins σ H1 { s1 with heap:=h' }:=I1.kept (t':=s1.toks) hk
   have N:∀n:Nat,n+2≠n+4/\n+3≠n+4/\n≠n+4/\n+1≠n+4/\n+2≠n+3/\n+2≠n/\n+2≠n+1/\n+3≠n/\n+3≠n+1/\n≠n+1:=fun n=>by omega
   obtain⟨m1,m2,m3,m4,m5,m6,m7,m8,m9,m10⟩:=N s1.heap.objs.size
   refine wpAny_pyIter_zip hz ⟨_,[s1.heap.objs.size+4,s1.heap.objs.size+2,s1.heap.objs.size+3,s1.heap.objs.size,s1.heap.objs.size+1],_,_,H1,rfl,I2,
    c4w c d (s1.heap.objs.size+4) (s1.heap.objs.size+2) (s1.heap.objs.size+3) s1.heap.objs.size (s1.heap.objs.size+1) m1 m2 m3 m4 m5 m6 m7 m8 m9 m10,⟨hz,hTI,⟨_,_,hTO⟩,h1,h2⟩,fun y hy=>?_,q⟩
   have:s1.heap.objs.size<=y:=by
    simp only[o4,O2,or_false]at hy
    rcases hy with rfl | rfl | rfl | rfl | rfl
    ·exact a8M _ _
    ·exact a8M _ _
    ·exact a8M _ _
    ·exact j5 _
    ·exact a8M _ _
   exact I1.fpOk this (I1.hok.fresh this)
end
def b7y(x y:Str)(N:List Str):List Str:=N.map fun z=>if z=x then ("." : Str)++x else if z=y then ("." : Str)++y else z
def V1(X:Cx)(scope:Scope)(cl:List (Str×Addr))(C:Addr)(x y:Str)(fp:List Addr)(s3:k8)(H3:Hp):Cx:=
 { X with N:=x::y::b7y x y X.N,s₀:=s3,H₀:=H3,env:=c3U scope cl C X.env,outer:=X.stack,stack:=X.stack,ex:=fp,fn:=fun _=>false,pn:=[],xe:=fun _ _=>False }
structure a4A(N:List Str)(osc sc:Scope)(x y:Str):Prop where
 kind:sc.kind=.function
 cell:∀y∈sc.names,y.2≠.cell
 names:∀y∈sc.names,y.2=.local->sc.names.lookup y.1=some .local
 own:sc.names.lookup x=some .local
 own2:sc.names.lookup y=some .local
 fr:∀y∈sc.names,y.2=.free->osc.names.lookup y.1=some .cell\/osc.names.lookup y.1=some .free
 see:∀z∈b7y x y N,sc.names.lookup z≠some .local
 dot:sc.names.lookup (("." : Str)++x)=none
 dot2:sc.names.lookup (("." : Str)++y)=none
 nd:(x::y::b7y x y N).Nodup
def a7k(K:Fg)(wi:TI)(tt:TT)(te:TE):TE:=fun σ H Q=>wi σ H fun J H1=>∀D,H1 D=none->∃W:Nat->Nat->List V->Hp->Prop,
 (∃m,W 0 m [] (upd H1 D (.lst [])))/\∀i m ys H2,W i m ys H2->H2 D=some (.lst ys) /\
  ((J.stop i H2 /\ Q (.ref D) H2) \/ (J.go i H2 /\ ∀ x H3,J.yld i H2 x H3 -> ∃ a u v,x = .ref a /\ SqT K H3 a [u,v] /\ tt (some u :: some v :: σ) H3 fun ok H4 => if ok = true then
    te (some u::some v::σ) H4 (fun y H5=>H5 D=some (.lst ys)/\ys.length<u6/\∃m',m'<m/\W (i+1) m' (ys++[y]) (upd H5 D (.lst (ys++[y]))))
    else ∃m',m'<m/\W (i+1) m' ys H4))
section
variable {x x2:Str}{px py2 pt:Pos}{kt}
theorem c3v{s3:k8}{h4:Heap}{tk:Nat}(hc:a4A X.N X.env.scope scope x x2)(I:Inv X pins σ H s3)
  (hcl:∀y c,cl.lookup y=some c->X.env.cells.lookup y=some c) (hcl2:∀y,(y,NameKind.free)∈scope.names->(cl.lookup y).isSome=true)
  (fpo:∀b∈fp,a9l X pins H b) (fpl:∀b∈fp,b<s3.heap.objs.size)
  (hn:h4.Ns s3.heap.objs.size (fun _=>none)) (k:∀b o,s3.heap.get? b=some o->h4.get? b=some o) :
  Inv (V1 X scope cl s3.heap.objs.size x x2 fp s3 H) [] (none::none::σ) H { s3 with heap:=h4,toks:=tk }:=by
 have low:∀x y,(V1 X scope cl s3.heap.objs.size x x2 fp s3 H).env.cells.lookup y=cl.lookup y:=fun _ _=>rfl
 have below:∀y c,cl.lookup y=some c->c<s3.heap.objs.size:=fun y c e=>by
  obtain⟨v,q⟩:=I.cell y c (hcl y c e)
  exact q.lt
 have kinds:∀y,((V1 X scope cl s3.heap.objs.size x x2 fp s3 H).env.kindOf y=some .cell\/(V1 X scope cl s3.heap.objs.size x x2 fp s3 H).env.kindOf y=some .free)->scope.names.lookup y=some .free:=by
  intro y hy
  rcases hy with hy | hy
  ·rcases V0 hy with q | ⟨q,_⟩
   ·exact absurd rfl (hc.cell _ (D8 q))
   ·exact q
  ·rcases V0 hy with q | ⟨q,z⟩
   ·exact q
   ·cases z
 refine⟨⟨I.ok.mod,?_,I.ok.glob,I.ok.blt,j5 _,fun y z c h1 h2=>?_,fun y hy=>?_,fun y c h=>?_,I.ok.hd,I.ok.frames,.inl rfl,fun b hb=>⟨?_,fun y c e z=>?_⟩,fun b o e=>I.bs b o e,D9 I.ok.bsz I.sz,fun b o e hb=>?_,fun b hb hf=>?_,I.stack,I.stkFree⟩,
  rfl,I.bare,Un.kept k,⟨_,hn,fun i y v h1 h2 h3=>?_⟩,fun y c e=>?_,I.fresh,fun y c e=>?_,fun p hp=>absurd (show p∈([]:List (Addr×Obj))from hp) (by simp),I.hok.kept k,?_⟩
 ·exact hc.kind
 ·exact I.ok.inj y z c (hcl _ _ h1) (hcl _ _ h2)
 ·have:=hcl2 y (D8 (kinds y hy))
  exact a0W.mp this
 ·cases h
 ·exact A0 (fpl b hb)
 ·exact(fpo b hb).2.2.2.2.1 y c (hcl y c e) z
 ·rcases(fpo b hb).2.2.2.1 with q | q
  ·exact I.ok.noex b o e q
  ·exact absurd (D3 (l7 (I.ok.bs b o e).1) q) (O4 _)
 ·rcases o4.mp (I.stkSub b hf)with e | e
  ·exact(fpo b hb).2.1 e
  ·exact(fpo b hb).2.2.1 e
 ·-- the names
  have h1:(x::x2::b7y x x2 X.N)[i]? = some y:=h1
  cases i with
  | zero=>cases h2
  | succ i=>
   cases i with
   | zero=>cases h2
   | succ i=>
   have h1:(b7y x x2 X.N)[i]? = some y:=h1
   have h2:σ[i]? = some (some v):=h2
   have my:y∈b7y x x2 X.N:=a0X h1
   have h3:(b1s scope X.env).names.lookup y=some .local\/(b1s scope X.env).names.lookup y=some .cell\/(b1s scope X.env).names.lookup y=some .free:=h3
   have hf:scope.names.lookup y=some .free:=by
    rcases h3 with q | q
    ·rcases V0 q with q | ⟨_,z⟩
     ·exact absurd q (hc.see y my)
     ·cases z
    ·exact kinds y q
   have hy:X.N[i]? = some y:=by
    unfold b7y at h1
    rw[a9]at h1
    cases e:X.N[i]? with
    | none=>rw[e]at h1;cases h1
    | some z=>
     rw[e]at h1
     by_cases ez:z=x
     ·rw[a8L,if_pos ez]at h1
      have h1:=Option.some.inj h1
      subst h1
      rw[hc.dot]at hf
      cases hf
     ·rw[a8L,if_neg ez]at h1
      by_cases ez2:z=x2
      ·rw[if_pos ez2]at h1
       have h1:=Option.some.inj h1
       subst h1
       rw[hc.dot2]at hf
       cases hf
      ·rw[if_neg ez2]at h1
       exact h1
   obtain⟨m,_,hl⟩:=I.loc
   obtain⟨c,hcc⟩:=a0W.mp (hcl2 y (D8 hf))
   have vis:Vis X.env.scope y:=by
    rcases hc.fr _ (D8 hf) rfl with q | q
    ·exact .inr (.inl q)
    ·exact .inr (.inr q)
   obtain⟨u,ru,lk⟩:=hl i y v hy h2 vis
   refine⟨u,ru,.inr ⟨?_,c,hcc,?_⟩⟩
   ·rcases h3 with q | q
    ·rcases V0 q with q | ⟨_,z⟩
     ·exact absurd q (hc.see y my)
     ·cases z
    ·exact q
   ·have hce:=hcl y c hcc
    rcases lk with ⟨q,_⟩ | ⟨_,c',e',z⟩
    ·rcases hc.fr _ (D8 hf) rfl with q' | q'
     ·have q:X.env.scope.names.lookup y=some .local:=q
      rw[show X.env.scope.names.lookup y=some NameKind.cell from q']at q
      cases q
     ·have q:X.env.scope.names.lookup y=some .local:=q
      rw[show X.env.scope.names.lookup y=some NameKind.free from q']at q
      cases q
    ·rw[e']at hce
     cases hce
     obtain⟨o,ho,hd⟩:=z
     exact⟨o,k _ _ ho,hd⟩
 ·obtain⟨v,o,ho,hd⟩:=I.cell y c (hcl y c e)
  exact⟨v,o,k _ _ ho,hd⟩
 ·exact I.freeC y c (hcl y c e)
 ·show(none::none::σ).length=(x::x2::b7y x x2 X.N).length
  have:=I.len
  simp[b7y,this]
theorem b2R{H1:Hp}{s2:k8}{it:Addr}{tn:Nat->Heap->Prop}{J:It}{Q:VK}{E:Value->k8->Prop}
  {RR:Value->Addr->c8Q->k8->Prop} (hc:a4A X.N X.env.scope scope x x2) (hcalm:X.calm=true)
  (hcl:∀y c,cl.lookup y=some c->X.env.cells.lookup y=some c) (hcl2:∀y,(y,NameKind.free)∈scope.names->(cl.lookup y).isSome=true)
  (ht:∀C fp s3 H3,PTs (V1 X scope cl C x x2 fp s3 H3) ifs tt) (he:∀C fp s3 H3,PE (V1 X scope cl C x x2 fp s3 H3) elt te)
  (I:Inv X pins σ H1 s2) (T:b9M X.prog X.w X.K (.Tuple [.Name x px,.Name x2 py2] kt pt) J fp it tn) (st:tn 0 s2.heap) (fpo:∀b∈fp,a9l X pins H1 b)
  (h:∀D,H1 D=none->∃W:Nat->Nat->List V->Hp->Prop,
   (∃m,W 0 m [] (upd H1 D (.lst [])))/\∀i m ys H2,W i m ys H2->H2 D=some (.lst ys) /\
   ((J.stop i H2 /\ Q (.ref D) H2) \/ (J.go i H2 /\ ∀ x H3,J.yld i H2 x H3 -> ∃ a u v,x = .ref a /\ SqT X.K H3 a [u,v] /\ tt (some u :: some v :: σ) H3 fun ok H4 => if ok = true then
     te (some u::some v::σ) H4 (fun y H5=>H5 D=some (.lst ys)/\ys.length<u6/\∃m',m'<m/\W (i+1) m' (ys++[y]) (upd H5 D (.lst (ys++[y]))))
     else ∃m',m'<m/\W (i+1) m' ys H4)))
  (hRR:∀D C s' H' m,Inv X pins σ H' s'->s'.heap.Ns C m->H' C=none->C≠X.env.locals->X.s₀.heap.objs.size<=C->(∀y c,X.env.cells.lookup y=some c->c≠C)->(∀p∈X.pn++pins,p.1≠C)->Q (.ref D) H'->RR (.ref D) C (.ok .next) s') :
  wpAny (model X.prog X.w) X.A (newList []) (fun acc s₃=>wpAny (model X.prog X.w) X.A (newFunctionEnv scope X.env.globals cl [] X.env.qual none .none (some X.env)) (fun cenv s₄=>
   a7f (model X.prog X.w) X.A (.compStart (.ListComp elt [⟨.Tuple [.Name x px,.Name x2 py2] kt pt,iter,ifs,0⟩] scope pos) 0 (.ref it) acc { cenv with scope:=b1s scope X.env }) (RR acc cenv.locals) s₄) E s₃) E s2:=by
 refine Z5 (hd:=by size_fits) ?_
 have I3:=I.lnew (ys:=[]) (its:=[]) (t':=s2.toks) .nil (by show 0<=u6;exact R8 _)
 obtain⟨W,⟨m0,w0⟩,turn⟩:=h _ I.fresh
 generalize hD:s2.heap.objs.size=D at I3 w0 turn ⊢
 generalize hs3:({ s2 with heap:=s2.heap.push { cls:=.type "list",data:=.seq ([]:List Value).toArray } }:k8)=s3
 have hs3':({ s2 with heap:=s2.heap.push { cls:=.type "list",data:=.seq ([]:List Value).toArray },toks:=s2.toks }:k8)=s3:=hs3
 rw[hs3']at I3
 have keep3:∀b o,s2.heap.get? b=some o->s3.heap.get? b=some o:=fun b o e=>by rw[<-hs3];exact i8 _ e
 have fpl:∀b∈fp,b<s3.heap.objs.size:=fun b hb=>by
  obtain⟨o,e,_⟩:=T.obj _ _ st b hb
  exact l7 (keep3 b o e)
 have fpD:∀b∈fp,b≠D:=fun b hb z=>by
  obtain⟨o,e,_⟩:=T.obj _ _ st b hb
  exact absurd (l7 e) (by rw[z,hD];exact O4 _)
 have fpo3:∀b∈fp,a9l X pins (upd H1 D (.lst [])) b:=fun b hb=>⟨by rw[g9 (fpD b hb)];exact(fpo b hb).1,(fpo b hb).2⟩
 show wpAny _ _ _ _ _ s3
 refine d3b hc.cell (by intro y hy;simp at hy) (fun h₁ hns₁ hsb₁=>?_) hc.kind
 dsimp only[newEnv]at hns₁ hsb₁ ⊢
 have keep4:∀b o,s3.heap.get? b=some o->h₁.get? b=some o:=fun b o e=>hsb₁.extBut b o (A0 (l7 e)) (i8 _ e)
 have I4:=c3v (tk:=s3.toks+([]:List (Str×Value)).length) hc I3 hcl hcl2 fpo3 fpl hns₁ keep4
 have st4:tn 0 h₁:=T.keep _ _ _ st fun b hb o e=>keep4 b o (keep3 b o e)
 have loop:∀s₄:k8,s₄={ s3 with heap:=h₁,toks:=s3.toks+([]:List (Str×Value)).length } ->
   a7f (model X.prog X.w) X.A (.compLoop (.ListComp elt [⟨.Tuple [.Name x px,.Name x2 py2] kt pt,iter,ifs,0⟩] scope pos) 0 (.ref it) (.ref D) (c3U scope cl s3.heap.objs.size X.env)) (RR (.ref D) s3.heap.objs.size) s₄:=by
  rintro s₄ rfl
  have stat:∀ {H':Hp},(∀b∈fp,H' b=none)->∀b∈fp,a9l (V1 X scope cl s3.heap.objs.size x x2 fp s3 (upd H1 D (.lst []))) [] H' b:=fun hn b hb=>
   ⟨hn b hb,A0 (fpl b hb),fun hf=>by
    rcases o4.mp (I3.stkSub b hf)with e | e
    ·exact(fpo b hb).2.1 e
    ·exact(fpo b hb).2.2.1 e,.inl hb,fun y c e=>(fpo b hb).2.2.2.2.1 y c (hcl y c e),fun p hp=>absurd (show p∈([]:List (Addr×Obj))from hp) (by simp)⟩
  refine b6q (env:=c3U scope cl s3.heap.objs.size X.env) (fun n s'=>∃i ys H',Inv (V1 X scope cl s3.heap.objs.size x x2 fp s3 (upd H1 D (.lst []))) [] (none::none::σ) H' s'/\tn i s'.heap/\(∀b∈fp,H' b=none)/\W i n ys H') ?_ m0
   ⟨0,[],_,I4,st4,fun b hb=>(fpo3 b hb).1,w0⟩
  rintro n s5 ⟨i,ys,H5,I5,st5,fr5,w5⟩
  obtain⟨hDy,alt⟩:=turn i n ys H5 w5
  rcases alt with ⟨stop,q⟩ | ⟨go,step⟩
  ·refine a2J (T.done (V1 X scope cl s3.heap.objs.size x x2 fp s3 (upd H1 D (.lst []))) rfl rfl rfl hcalm i [] s5 _ H5 (fun _ _=>False) I5 (stat fr5) st5 stop) (fun r s6 ⟨hr,I6⟩=>?_) fun _ _ f=>f
   subst hr
   obtain⟨m6,n6,_⟩:=I6.loc
   have J6:Inv X pins σ H5 s6:=by
    refine I3.call' (ch:=fp) I6.os I6.base I6.hok I6.bare fun b hb=>?_
    obtain⟨_,f1,f2,f3,f4,f5⟩:=fpo3 b hb
    exact⟨f3,f1,f4,f5⟩
   refine hRR D _ s6 H5 m6 J6 n6 I6.free (c3Q I3.lt) I3.sz (fun y c e z=>?_) (fun p hp z=>?_) q
   ·obtain⟨v,q⟩:=I3.cell y c e
    exact absurd q.lt (by rw[z];exact O4 _)
   ·exact absurd (l7 (I3.pin p hp).1) (by rw[z];exact O4 _)
  ·refine a2J (T.item (V1 X scope cl s3.heap.objs.size x x2 fp s3 (upd H1 D (.lst []))) rfl rfl rfl hcalm i [] s5 _ H5 (fun _ _=>False) I5 (stat fr5) st5 go) (fun r s6 ⟨u,hr,h6⟩=>?_) fun _ _ f=>f
   subst hr
   refine thn h6 fun _ s6 ⟨xv,H6,I6,r6,y6,st6,fr6⟩=>?_
   have I6':=I6.pinned (stat fr6) (T.obj _ _ st6)
   obtain⟨pa,u1,u2,rfl,hsq,step⟩:=step xv H6 y6
   have hpg:PG (V1 X scope cl s3.heap.objs.size x x2 fp s3 (upd H1 D (.lst []))) (.Tuple [.Name x px,.Name x2 py2] kt pt) (b2i X.K 2 (a1y (t8 0) (a1y (t8 1) b2j))):=
    c5n (X:=V1 X scope cl s3.heap.objs.size x x2 fp s3 (upd H1 D (.lst []))) hcalm (b4t (b7l (i:=0) hc.nd rfl (.inl (a4b hc.own)) (.inr (a4b hc.own))) (b4t (b7l (i:=1) hc.nd rfl (.inl (a4b hc.own2)) (.inr (a4b hc.own2))) c1V))
   refine thn (hpg _ s6 (none::none::σ) H6 (.ref pa) u (fun σ' H'=>σ'=some u1::some u2::σ/\H'=H6) I6' r6 ⟨pa,[u1,u2],rfl,hsq,rfl,_,_,rfl,_,_,rfl,rfl,rfl,rfl⟩) fun _ s7 ⟨σ7,H7,I7,e7,e7'⟩=>?_
   subst e7 e7'
   have again:∀ {s8:k8} {H8:Hp} {ys8:List V},Inv (V1 X scope cl s3.heap.objs.size x x2 fp s3 (upd H1 D (.lst []))) ([]++a9Q fp s6.heap) (some u1::some u2::σ) H8 s8->(∃m',m'<n/\W (i+1) m' ys8 H8) ->
     ∃m,m<n/\∃i ys H',Inv (V1 X scope cl s3.heap.objs.size x x2 fp s3 (upd H1 D (.lst []))) [] (none::none::σ) H' s8/\tn i s8.heap/\(∀b∈fp,H' b=none)/\W i m ys H':=by
    rintro s8 H8 ys8 I8 ⟨m',hm,w8⟩
    refine⟨m',hm,i+1,ys8,H8,(I8.unpinned (pins:=[])).weak rfl (fun j v e=>?_),T.keep _ _ _ st6 fun b hb o e=>(I8.pin (b,o) (v7 _ (v7 _ (a4o hb e)))).1,fun b hb=>?_,w8⟩
    ·cases j with
     | zero=>cases e
     | succ j=>
      cases j with
      | zero=>cases e
      | succ j=>exact e
    ·obtain⟨o,e,d⟩:=T.obj _ _ st6 b hb
     exact(I8.pin (b,o) (v7 _ (v7 _ (a4o hb e)))).2.1
   refine thn (ht _ fp s3 _ _ s7 _ _ _ I7 step) (fun ok s8 ⟨H8,I8,q8⟩=>?_)
   cases ok with
   | false=>exact again I8 (by simpa using q8)
   | true=>
    rw[if_pos rfl]at q8
    rw[if_pos rfl]
    refine thn (he _ fp s3 _ _ s8 _ H8 _ I8 q8) (fun v s9 ⟨y,H9,I9,r9,hD9,hz9,w9⟩=>?_)
    refine a2J (b2d (X:=V1 X scope cl s3.heap.objs.size x x2 fp s3 (upd H1 D (.lst []))) _ s9 _ H9 (.ref D) [y] (.ref D) [v] (fun _ H'=>H'=upd H9 D (.lst (ys++[y]))) I9 rfl (.cons r9 .nil) ⟨D,ys,y,rfl,rfl,hD9,hz9,rfl⟩) (fun _ s10 ⟨_,H10,I10,_,e10⟩=>?_) fun _ _ f=>f
    subst e10
    exact again I10 w9
 exact d1I (loop _ rfl) (T.self X.A 0 _ _ _ st4 (loop _ rfl))
theorem b2Q(hc:a4A X.N X.env.scope scope x x2)(I:Inv X pins σ H s):∀y∈scope.names,y.2=.free->∃c,X.env.cells.lookup y.1=some c:=by
 intro y hy e
 rcases hc.fr y hy e with q | q
 ·exact I.ok.has y.1 (.inl q)
 ·exact I.ok.has y.1 (.inr q)
theorem c5s(hc:a4A X.N X.env.scope scope x x2)(hcalm:X.calm=true)(hi:PI X (.Tuple [.Name x px,.Name x2 py2] kt pt) iter wi)
  (ht:∀cl C fp s3 H3,PTs (V1 X scope cl C x x2 fp s3 H3) ifs tt) (he:∀cl C fp s3 H3,PE (V1 X scope cl C x x2 fp s3 H3) elt te)
  (hs:∀x,X1 iter X.env x=pure x:=by intro _;rfl) :
  PE X (.ListComp elt [⟨.Tuple [.Name x px,.Name x2 py2] kt pt,iter,ifs,0⟩] scope pos) (a7k X.K wi tt te):=by
 intro pins s σ H Q I h
 obtain⟨cl,hclos,hcl,hcl2⟩:=a7L (b2Q hc I)
 rw[eval_ListComp]
 refine a4Y (use:=none) rfl hs hclos hc.kind hc.names (thn (hi pins s σ H _ I h) fun v s1 h1=>thn h1 fun itv s2 ⟨it,fp,tn,J,H2,e,I2,T,st,fpo,R⟩=>?_)
 subst e
 refine b2R (RR:=fun acc C=>compPost (model X.prog X.w) X.A X.xe none (EP X pins σ Q) acc C) (Q:=Q) hc hcalm hcl hcl2 (ht cl) (he cl) I2 T st fpo R ?_
 intro D C s' H' m I' n f1 f2 f3 f4 f5 q
 exact⟨m,n,fun h' sb=>⟨.ref D,H',I'.turned (t':=s'.toks) (fun b o hb e=>(sb.2 b hb).trans e) f1 f2 (.inr f3) f4 f5,rfl,q⟩⟩
end
section
variable {x x2:Str}{px py2 pt:Pos}{kt:Nat}
theorem b8T{py spos:Pos}(hN:X.N.Nodup)(hiy:X.N[i]? = some y)(hy:X.env.scope.names.lookup y=some .local)(hc:a4A X.N X.env.scope scope x x2)(hcalm:X.calm=true)(hi:PI X (.Tuple [.Name x px,.Name x2 py2] kt pt) iter wi)
  (ht:∀cl C fp s3 H3,PTs (V1 X scope cl C x x2 fp s3 H3) ifs tt) (he:∀cl C fp s3 H3,PE (V1 X scope cl C x x2 fp s3 H3) elt te)
  (hsw:a3o (.ListComp elt [⟨.Tuple [.Name x px,.Name x2 py2] kt pt,iter,ifs,0⟩] scope pos) (some (.Name y py)) spos.line X.env=pure true:=by rfl)
  (hs:∀x,X1 iter X.env x=pure x:=by intro _;rfl) :
  PS X (.Assign [.Name y py] (.ListComp elt [⟨.Tuple [.Name x px,.Name x2 py2] kt pt,iter,ifs,0⟩] scope pos) spos) (fun D σ H=>a7k X.K wi tt te σ H fun v H1=>D.nx (σ.set i (some v)) H1):=by
 intro pins s σ H D I h
 obtain⟨cl,hclos,hcl,hcl2⟩:=a7L (b2Q hc I)
 rw[d1S _ _ _ _ hsw]
 refine g0 (b8h (g0 ?_))
 show wpAny _ X.A (do let _ <-comprehension (.ListComp elt [⟨.Tuple [.Name x px,.Name x2 py2] kt pt,iter,ifs,0⟩] scope pos) scope X.env _ (newList []) false (eval iter X.env) (some (a9s (.Name y py) X.env))) _ _ s
 refine g0 (a2J (a4Y (use:=some (a9s (.Name y py) X.env)) (Q:=fun _ s'=>SP X pins D .next s') rfl hs hclos hc.kind hc.names
  (thn (hi pins s σ H _ I h) fun v s1 h1=>thn h1 fun itv s2 ⟨it,fp,tn,J,H2,e,I2,T,st,fpo,R⟩=>?_)) (fun _ s' hq=>u5 (u5 hq)) fun _ _ e=>e)
 subst e
 refine b2R (RR:=fun acc C=>compPost (model X.prog X.w) X.A X.xe (some (a9s (.Name y py) X.env)) (fun _ s'=>SP X pins D .next s') acc C) (Q:=fun v H1=>D.nx (σ.set i (some v)) H1) hc hcalm hcl hcl2 (ht cl) (he cl) I2 T st fpo R ?_
 intro E C s' H' m I' n f1 f2 f3 f4 f5 q
 show wpAny _ _ (a9s (.Name y py) X.env (.ref E)) _ _ _
 refine b0j (b1D (v:=.ref E) I' hN hiy (.inl hy) rfl (fun s'' I'' ch=>?_) (.inr hy))
 obtain⟨a,sb,ha⟩:=ch
 have hCa:C≠a:=by
  rcases ha with e | e
  ·rw[e];exact f2
  ·exact fun z=>f4 y a e z.symm
 exact⟨m,n.sameBut sb hCa,fun h' sb'=>⟨_,_,I''.turned (t':=s''.toks) (fun b o hb e=>(sb'.2 b hb).trans e) f1 f2 (.inr f3) f4 f5,q⟩⟩
end
section
def c2N:List V->Hp->VK->Prop:=fun xs H Q=>match xs with
 | [.int i,.int j]=>Q (.int (if j<i then j else i)) H
 | _=>False
theorem c3B(hc:X.calm=true):X5 X (.builtin "min") c2N:=(c3I hc).imp fun xs H Q h=>by
 unfold c2N at h
 split at h
 ·exact⟨_,_,rfl,h⟩
 ·exact h.elim
theorem c3L:∀bs:List Bool,((v9 bs.length).any fun i=>(bs[i]?).getD false)=bs.any id:=by
 intro bs
 induction bs with
 | nil=>rfl
 | cons b r ih=>
  rw[C0,List.range_succ_eq_map,a3m,a9b,a3m]
  rw[<-ih]
  rfl
def c0F:List V->Hp->VK->Prop:=fun vs H Q=>match vs with
 | [.ref l]=>match H l with
  | some (.lst xs)=>∃bs,a0G xs=some bs/\Q (.bl (bs.any id)) H
  | _=>False
 | _=>False
theorem c3F(hc:X.calm=true):X5 X (.builtin "any") c0F:=fun pins s σ H xs us Q I r h=>by
 unfold c0F at h
 split at h
 ·split at h
  ·rename_i l _ ys hl
   obtain⟨bs,e,q⟩:=h
   obtain⟨u,rfl,ru⟩:=a4Z r
   cases ru
   obtain⟨its,rv,pl,hz⟩:=I.list (SqL.of hl)
   have hlt:l<s.heap.objs.size:=by obtain⟨_,e,_⟩:=pl.isList;exact l7 e
   have hlen:=rv.length
   have hbl:=b2r e
   refine call_any_walk (a6r pl.isList ?_)
   refine⟨s.heap.objs.size,[s.heap.objs.size,l],[s.heap.objs.size],its.toArray.size,_,_,fun i=>(bs[i]?).getD false,rfl,Walks.list (A:=X.A.in1) (I.ok.hd hc) _ l (A0 hlt) its.toArray,
    ⟨⟨_,A8 _ rfl,rfl,rfl⟩,pl.isList.push _⟩,fun i v s' Q' E' hP hQ=>?_,fun h' tk hk=>?_⟩
   ·have hP:its[i]? = some v:=by simpa using hP
    have hi:i<ys.length:=by rw[hlen];exact(u8.mp hP).1
    have ey:ys[i]? = some ys[i]:=by simp[hi]
    obtain⟨b,eb,ez⟩:=b2s e ey
    obtain⟨u,eu,ru⟩:=rv.get ey
    rw[hP]at eu
    cases eu
    rw[ez]at ru
    cases ru
    simp only[eb,a2y]at hQ
    exact S0 hQ
   ·have e2:((v9 its.toArray.size).any fun i=>(bs[i]?).getD false)=bs.any id:=by
     rw[o6,<-hlen,hbl]
     exact c3L bs
    rw[e2]
    exact⟨.bl _,H,I.kept (t':=tk) fun b x e=>hk b x (fun hm=>by rw[o0.mp hm]at e;exact O4 _ (l7 e)) (i8 _ e),rfl,q⟩
  ·exact h.elim
 ·exact h.elim
def a3N:List V->Option (List Int)
 | []=>some []
 | .int i::r=>(a3N r).map (i :: ·)
 | _=>none
theorem a5K(ns:List Int):a3N (ns.map V.int)=some ns:=by
 induction ns with
 | nil=>rfl
 | cons s r ih=>simp[a3N,ih]
theorem a4M:∀ {xs:List V} {us:List Value} {ss:List Int},M3 xs us->a3N xs=some ss->c4d us ss
 | _,_,ss,.nil,e=>by cases e;exact .nil
 | x::xs,_,ss,.cons r t,e=>by
  cases x with
  | int s=>
   obtain⟨k,rfl⟩:=r
   cases e2:a3N xs with
   | none=>simp[a3N,e2]at e
   | some ss2=>
    simp[a3N,e2]at e
    subst e
    exact .cons _ _ (a4M t e2)
  | _=>simp[a3N]at e
def a8V:List V->Hp->VK->Prop:=fun vs H Q=>match vs with
 | [.ref l]=>match H l with
  | some (.lst xs)=>∃ns,a3N xs=some ns/\ns.length<64/\∀(p:Addr) (ms:List Int),ms.Perm ns->ms.Pairwise (· <= ·)->H p=none->Q (.ref p) (upd H p (.lst (ms.map V.int)))
  | _=>False
 | _=>False
theorem b7H:X5 X (.builtin "sorted") a8V:=fun pins s σ H xs us Q I r h=>by
 unfold a8V at h
 split at h
 ·split at h
  ·rename_i l _ ys hl
   obtain⟨ns,e,hn,q⟩:=h
   obtain⟨u,rfl,ru⟩:=a4Z r
   cases ru
   obtain⟨its,rv,pl,hz⟩:=I.list (SqL.of hl)
   have hi:=a4M rv e
   have hil:=hi.length
   refine sorted_ints pl.isList hi (by omega) fun out ns' a1 a2 a3=>?_
   obtain⟨c,he⟩:=sortedAll_at s.heap its out
   have hl':=a2.length_eq
   refine⟨.ref _,_,I.laid (t':=s.toks) (a:=s.heap.objs.size+1) (o:=.lst (ns'.map V.int)) (fun b ob q=>sortedAll_old q) (c6B _) ?_,rfl,q _ ns' a2 a3 (I.hok.fresh (c6B _))⟩
   refine⟨by rw[b5,sizeLine_eq];omega,out.toList,c,b1y a1,?_⟩
   exact he
  ·exact h.elim
 ·exact h.elim
def a7w:V->List V->Hp->VK->Prop:=fun x vs H Q=>match x,vs with
 | .ref l,[.int k]=>match H l with
  | some (.lst xs)=>∃ns,a3N xs=some ns/\ns.length<10000/\k∈ns/\Q (.int (ns.idxOf k:Nat)) H
  | _=>False
 | _,_=>False
theorem c3e:MtR X "list.index" a7w:=fun pins s σ H x xs v us Q I rx rv h=>by
 unfold a7w at h
 split at h
 ·split at h
  ·rename_i l k _ ys hl
   obtain⟨ns,e,hn,hk,q⟩:=h
   cases rx
   obtain⟨u,rfl,⟨t,rfl⟩⟩:=rv.one
   obtain⟨its,r,pl,hz⟩:=I.list (SqL.of hl)
   have hi:=a4M r e
   obtain⟨⟨cls,dd,data,sl⟩,ho,hc,n,hd⟩:=id pl.isList
   simp only at hc hd
   subst hc hd
   have hlen:=hi.length
   have hj:ns.idxOf k<ns.length:=b9S.mpr hk
   refine c8P a7Q ⟨_,ho,rfl⟩ PySem.F.entry_list_index (PySem.F.args_list_index_2 _ _)
    (PySem.SeqAt.list_indexAt l its.toArray n dd sl (.int k t) (isInt k) (ns.idxOf k) (by simpa[hlen]using hj) (by omega) ?_ ?_) ⟨ho,fun y hy=>(eq_isInt k t hi y (by simpa using hy)).at _ _,⟨.int _,H,I.tok _,⟨_,rfl⟩,q⟩⟩
   ·show isInt k its[ns.idxOf k]=true
    rw[isInt_at k hi _ (by omega) hj]
    simpa using c6I hj
   ·intro j hjs hlt
    show isInt k its[j]=false
    rw[isInt_at k hi j (by simpa using hjs) (by omega)]
    exact ne_of_lt_idxOf hlt _
  ·exact h.elim
 ·exact h.elim
def a7x:V->List V->Hp->VK->Prop:=fun x vs H Q=>match x,vs with
 | .ref l,[.ref b]=>match H l,H b with
  | some (.lst xs),some (.lst zs)=>xs.length+zs.length<=u6/\Q .non (upd H l (.lst (xs++zs)))
  | _,_=>False
 | _,_=>False
theorem c1a:MtR X "list.extend" a7x:=fun pins s σ H x xs v us Q I rx rv h=>by
 refine c3f pins s σ H x xs v us Q I rx rv ?_
 unfold a7x at h
 split at h
 ·split at h
  ·exact⟨_,_,_,_,rfl,rfl,by assumption,by assumption,h.1,h.2⟩
  ·exact h.elim
 ·exact h.elim
def c2L:V->List V->Hp->VK->Prop:=fun x vs H Q=>match x,vs with
 | .ref l,[]=>match H l with
  | some (.lst xs)=>∃y,xs[xs.length - 1]? = some y/\Q y (upd H l (.lst xs.dropLast))
  | _=>False
 | _,_=>False
theorem c8f:MtR X "list.pop" c2L:=fun pins s σ H x xs v us Q I rx rv h=>by
 refine d0T pins s σ H x xs v us Q I rx rv ?_
 unfold c2L at h
 split at h
 ·split at h
  ·obtain⟨y,e,q⟩:=h
   exact⟨_,_,y,rfl,rfl,by assumption,e,q⟩
  ·exact h.elim
 ·exact h.elim
def a4j:List V->Hp->VK->Prop:=fun xs H Q=>match xs with
 | [.ref p]=>match H p with
  | some (.dK kvs)=>∀l,H l=none->Q (.ref l) (upd H l (.lst (kvs.map fun kv=>kV kv.1)))
  | _=>False
 | _=>False
theorem d2N{P:D4}{k:Key}{u:Value}(r:(N6 P w).is k u=true):K9 (kV k) u:=by
 rcases a0h (show b4N k u=true from r)with ⟨i,t,rfl,rfl⟩ | ⟨x,t,rfl,rfl⟩
 ·exact⟨t,rfl⟩
 ·exact⟨t,rfl⟩
theorem b6I:∀ {xs:List V} {us:List Value},xs.length=us.length->(∀(i:Nat) x u,xs[i]? = some x->us[i]? = some u->K9 x u)->M3 xs us
 | [],[],_,_=>.nil
 | x::xs,u::us,hl,h=>.cons (h 0 x u rfl rfl) (b6I (by simpa using hl) fun i y v a b=>h (i+1) y v (by simpa using a) (by simpa using b))
 | [],u::us,hl,_=>by cases hl
 | x::xs,[],hl,_=>by cases hl
theorem c9l:∀ {l:List (Key×V)} {la:List (Key×Value)} {i:Nat} {k:Key} {x:Value},KV l la->la[i]? = some (k,x)->∃y,l[i]? = some (k,y)
 | p::l,q::la,0,k,x,h,e=>by
  have h:Paired _ _ _:=h
  cases h with
  | cons h t=>
   cases e
   exact⟨p.2,by rw[a8h];rw[show k=p.1 from h.1.symm]⟩
 | p::l,q::la,i+1,k,x,h,e=>by
  have h:Paired _ _ _:=h
  cases h with
  | cons h t => 
   obtain⟨y,hy⟩:=c9l (i:=i) (show KV l la from t) (by simpa using e)
   exact⟨y,by simpa using hy⟩
 | [],la,i,k,x,h,e=>by
  have h:Paired _ _ _:=h
  cases h
  cases e
 | p::l,[],i,k,x,h,e=>by
  have h:Paired _ _ _:=h
  cases h
theorem b9H(hc:X.calm=true):X5 X (.type "list") a4j:=fun pins s σ H xs us Q I r h=>by
 unfold a4j at h
 split at h
 ·split at h
  ·rename_i p _ kvs hp
   obtain⟨u,rfl,ru⟩:=a4Z r
   cases ru
   obtain⟨hz,hS,vs,rk,hD⟩:=c6d I.hok hp
   obtain⟨ep,hat⟩:=hD.dictAt
   have hl:=Paired.length rk
   refine c6z (PySem.W.kdl_dict (knd:=N6 X.prog X.w) (kvs:=vs) (ep:=ep) hS) (I.ok.hd hc) hat (by omega) fun h' tk acc c hk ha hit=>?_
   refine⟨.ref _,_,I.laid (t':=tk) (a:=s.heap.objs.size) (o:=.lst (kvs.map fun kv=>kV kv.1)) hk (j5 _) ?_,rfl,h _ (I.hok.fresh (j5 _))⟩
   refine⟨by rw[b5];exact hz,acc.toList,c,?_,by simpa using ha⟩
   refine b6I (by have:=hit.1;rw[b5];simp;omega) fun i x u a b=>?_
   obtain⟨k,y,e1,e2⟩:=hit.2 i u (by rw[<-a0D];exact b)
   obtain⟨z,e3⟩:=c9l rk e1
   rw[a9,e3]at a
   cases a
   exact d2N e2
  ·exact h.elim
 ·exact h.elim
inductive Dq(K:Fg)(H:Hp):Nat->V->V->Prop
 | flat {n:Nat} {x:V}:R6 x=true->Dq K H n x x
 | tup {n:Nat} {a b:Addr} {xs ys:List V}:SqT K H a xs->SqT K H b ys->xs.length=ys.length->(∀(j:Nat) x y,xs[j]? = some x->ys[j]? = some y->Dq K H n x y)->Dq K H (n+1) (.ref a) (.ref b)
 | lst {n:Nat} {a b:Addr} {xs ys:List V}:SqL K H a xs->SqL K H b ys->xs.length=ys.length->(∀(j:Nat) x y,xs[j]? = some x->ys[j]? = some y->Dq K H n x y)->Dq K H (n+1) (.ref a) (.ref b)
def c2P(K:Fg):R2:=fun x y H Q=>∃a b xs ys,x=.ref a/\y=.ref b/\SqT K H a xs/\SqT K H b ys/\xs.all R6=true/\ys.all R6=true/\Q (.bl (T0 xs ys)) H
theorem c7N{k:Nat}(hr:V6 k X.A):OpR X (A9 .Eq) (c2P X.K):=by
 intro pins s σ H x y v u Q I rx ry ⟨a,b,xs,ys,e1,e2,ha,hb,fx,fy,q⟩
 have hu:=hr.units
 subst e1 e2
 cases rx
 cases ry
 obtain⟨us,r1,t1,_⟩:=I.tuple ha
 obtain⟨ws,r2,t2,_⟩:=I.tuple hb
 have l1:=r1.length
 have l2:=r2.length
 have q1:=SeqAt.RcAt.tuples (A:=X.A) t1 t2 (by omega) (a7J r1 r2 fx fy)
 simp only[o6,<-l1,<-l2]at q1
 exact q1 _ _ _ _ ⟨.bl (T0 xs ys),H,I,rfl,q⟩
def c2M(K:Fg):R2:=fun x y H Q=>∃a b xs ys,x=.ref a/\y=.ref b/\SqT K H a xs/\SqT K H b ys/\xs.all R6=true/\ys.all R6=true/\Q (.bl (!T0 xs ys)) H
theorem c7I{k:Nat}(hr:V6 k X.A):OpR X (A9 .NotEq) (c2M X.K):=by
 intro pins s σ H x y v u Q I rx ry ⟨a,b,xs,ys,e1,e2,ha,hb,fx,fy,q⟩
 have hu:=hr.units
 subst e1 e2
 cases rx
 cases ry
 obtain⟨us,r1,t1,_⟩:=I.tuple ha
 obtain⟨ws,r2,t2,_⟩:=I.tuple hb
 have l1:=r1.length
 have l2:=r2.length
 have q1:=SeqAt.RcNeAt.tuples (A:=X.A) t1 t2 (by omega) (a7J r1 r2 fx fy)
 simp only[o6,<-l1,<-l2]at q1
 exact q1 _ _ _ _ ⟨.bl (!T0 xs ys),H,I,rfl,q⟩
def c5c(K:Fg):List V->Hp->VK->Prop:=fun vs H Q=>∃p xs,vs=[.ref p]/\SqT K H p xs/\Q (.int xs.length) H
theorem c1y:X5 X (.builtin "len") (c5c X.K):=b1b.imp fun xs H Q ⟨p,ys,e,h,q⟩=>⟨p,ys,e,.inr h,q⟩
def c9U(K:Fg):R2:=fun x y H Q=>∃p xs,y=.ref p/\SqT K H p xs/\R6 x=true/\xs.all R6=true/\Q (.bl (inV x xs)) H
theorem c7M:OpR X (A9 .In) (c9U X.K):=b6k.imp fun x y H Q ⟨p,xs,e,h1,h2,h3,q⟩=>⟨p,xs,e,.inr h1,h2,h3,q⟩
def b8Q(K:Fg):R2:=fun x y H Q=>∃p i xs v,x=.ref p/\y=.int i/\SqT K H p xs/\atI xs i=some v/\Q v H
theorem d2O:IxR X (b8Q X.K):=c5Q.imp fun x y H Q ⟨p,i,xs,v,e1,e2,h,e,q⟩=>.inr (.inl ⟨p,xs,i,v,e1,e2,h,e,q⟩)
def c5d(K:Fg):List V->Hp->VK->Prop:=fun vs H Q=>∃p xs,vs=[.ref p,.ty "tuple"]/\SqT K H p xs/\Q (.bl true) H
theorem c1z:X5 X (.builtin "isinstance") (c5d X.K):=fun pins s σ H xs us Q I r h=>by
 obtain⟨p,ys,rfl,hp,q⟩:=h
 obtain⟨u,u2,rfl,ru,ru2⟩:=b5X r
 cases ru
 cases ru2
 obtain⟨its,rv,⟨o,h1,h2,_⟩,_⟩:=I.tuple hp
 exact P0 c3O I.kIn ⟨o,h1,h2⟩ (c5O X.K "tuple" (by decide) "tuple" (by decide)) (fun z=>nomatch z) fun tk=>⟨.bl true,H,I.tok _,rfl,q⟩
theorem c5k{e c:Option Expr}:PS X (.Raise e c pos) (fun _ _ _=>False):=fun _ _ _ _ _ _ h=>h.elim
structure a9D(P:D4)(w:World)(K:Fg)(mg:Str->Option Value)(base:Heap)(k:Nat)(x:Str)(C:Addr)(ps:List Str)(sp:Sp):Prop where
 ex:∃f fd,F7 P w K mg base CX0 k f fd ps sp/\mg x=some (.ref C)/\Mk K C f/\a5Q K fd ps []
theorem d2y{k:Nat}{x:Str}{C:Addr}{e:Expr}{es:List Expr}{t:TA}{p:Pos}(M:a9D X.prog X.w X.K X.mg X.base k x C ps sp)(hr:V6 j X.A)(hk:k+1<=j)(hg:Gl X x)(ha:PA X (e::es) t)
  (hdb:(x == ("__debug__" : Str))=false:=by decide) (he:l9 (e::es) X.env=(false,eval e X.env)::l9 es X.env:=by rfl) (hpl:(a1f pos (l9 es X.env)).any (·.1)=false:=by rfl) :
  PE X (.Call (.Name x p) (e::es) [] pos) (a5x C sp [] E0 t):=by
 obtain⟨f,fd,F,hm,hM,hb⟩:=M.ex
 exact c7z hM F (hr.mono hk) hg hm hb .nil c1W ha hdb he hpl
structure W4(P:D4)(w:World)(K:Fg)(mg:Str->Option Value)(base:Heap)(k:Nat)(m:Str)(C:Addr)(ps:List Str)(sp:Sp):Prop where
 ex:∃f fd,F7 P w K mg base CX0 k f fd ps sp/\Cls K C/\c8I K C m f/\a5Q K fd ps []
theorem d0p{pl:Sem Bool}{k:Nat}{m:Str}{C:Addr}{o e:Expr}{es:List Expr}{ta:TE}{t:TA}{apos:Pos}(M:W4 X.prog X.w X.K X.mg X.base k m C ps sp)(hr:V6 j X.A)(hk:k<=j)(ho:PE X o ta)(ha:PA X (e::es) t)
  (hst:l9 (e::es) X.env=(false,eval e X.env)::l9 es X.env:=by rfl) (hpl:(a1f pos (l9 es X.env)).any (·.1)=false:=by rfl)
  (ht:eval (.Call (.Attribute o m apos) (e::es) [] pos) X.env=(do
   let ov <-eval o X.env
   b3F apos.atName
   let(f,first) <-a4c [ov] (b0k ov m pl)
   c3V pos f first (a1f pos (l9 (e::es) X.env)) (a9r pos (a3p [] X.env))):=by rfl) :
  PE X (.Call (.Attribute o m apos) (e::es) [] pos) (W0 C m sp [] E0 ta t):=by
 obtain⟨f,fd,F,c,hm,hb⟩:=M.ex
 exact c7y (pl:=pl) ho c hm F (hr.mono hk) hb .nil c1W ha hst hpl ht
theorem c7x{pl:Sem Bool}{k:Nat}{m:Str}{C:Addr}{o:Expr}{ta:TE}{apos:Pos}(M:W4 X.prog X.w X.K X.mg X.base k m C ps sp)(hr:V6 j X.A)(hk:k<=j)(ho:PE X o ta)
  (ht:eval (.Call (.Attribute o m apos) [] [] pos) X.env=(do
   let ov <-eval o X.env
   b3F apos.atName
   let(f,first) <-a4c [ov] (b0k ov m pl)
   c3V pos f first (a1f pos (l9 [] X.env)) (a9r pos (a3p [] X.env))):=by rfl) :
  PE X (.Call (.Attribute o m apos) [] [] pos) (W0 C m sp [] E0 ta g8):=by
 obtain⟨f,fd,F,c,hm,hb⟩:=M.ex
 exact c5p (pl:=pl) ho c hm F (hr.mono hk) hb .nil c1W ht
end
theorem b0M{env:Env}:∀ {names:List (Str×a9t)} {y:Str},names.lookup y=some .free ->
  (names.map fun(n,k)=>if(k == NameKind.free&&env.scope.kind == .function&&env.kindOf n == some .cell)then (n,NameKind.cell)else (n,k)).lookup y=some .cell \/
  (names.map fun(n,k)=>if(k == NameKind.free&&env.scope.kind == .function&&env.kindOf n == some .cell)then (n,NameKind.cell)else (n,k)).lookup y=some .free
 | [],_,h=>by cases h
 | (n,k0)::r,y,h=>by
  have ih := @b0M env r y
  rw[K8]at h
  rw[B8]
  dsimp only
  cases hx:y == n with
  | true=>
   rw[hx]at h
   cases h
   by_cases hc:(NameKind.free == NameKind.free&&env.scope.kind == .function&&env.kindOf n == some .cell)=true
   ·rw[if_pos hc,K8,hx];exact .inl rfl
   ·rw[if_neg hc,K8,hx];exact .inr rfl
  | false=>
   rw[hx]at h
   by_cases hc:(k0 == NameKind.free&&env.scope.kind == .function&&env.kindOf n == some .cell)=true
   ·rw[if_pos hc,K8,hx];exact ih h
   ·rw[if_neg hc,K8,hx];exact ih h
theorem c1Y{sc1 sc:Scope}(h:∀y∈sc.names,y.2=.free->sc1.names.lookup y.1=some .free):∀y∈sc.names,y.2=.free->(b1s sc1 env).names.lookup y.1=some .cell\/(b1s sc1 env).names.lookup y.1=some .free:=
 fun y hy e=>b0M (h y hy e)
end L2
namespace PySem
open Sem (wp)
namespace F
theorem lk_list_keys:typeLookup (.type "list") "keys" = pure none:=by rw[typeLookup_type,d1T];kernel_rfl
theorem lk_list_getattr:typeLookup (.type "list") "__getattr__" = pure none:=by rw[typeLookup_type,d1T];kernel_rfl
end F
section
variable {prog:D4}{w:World}{A:R3}{E:Value->k8->Prop}{h:Heap}{g:Array GenState}{d:Drawn}{t:Nat}{os:OsState}{a:Addr}{xs:Array Value}{n:Nat}{sl:Array (Option Value)}
theorem keys_entry_list{tk:Tok}{Q:Fin->k8->Prop}(hh:A.handled=none)(hx:h.get? a=some ⟨.type "list",none,.seq xs n,sl⟩)(he:∀h' t' e,Heap.NewAttrErr h h' e (.ref a) "keys" -> E (.ref e) ⟨h',g,d,t',os⟩) :
  wpAny (model prog w) A (d3j.«object.__getattribute__» ⟨[.ref a,.str "keys" tk],[]⟩) Q E ⟨h,g,d,t,os⟩:=by
 have hT:(⟨h,g,d,t,os⟩:k8).TypeIs (.ref a) "list" := ⟨_,hx,rfl⟩
 have f4:=F.lk_list_keys
 have f5:=F.lk_list_getattr
 repeat (any_goals (first | assumption | wp_step))
 exact wpAny_raiseAttrError hh he (attrMsg_fits (by decide +kernel) (by decide +kernel))
theorem keys_call_list{tk:Tok}{R:c8Q->k8->Prop}(hh:A.handled=none)(hx:h.get? a=some ⟨.type "list",none,.seq xs n,sl⟩)(he:∀h' t' e,Heap.NewAttrErr h h' e (.ref a) "keys" -> R (.error (.ref e)) ⟨h',g,d,t',os⟩) :
  a7f (model prog w) A (.call (.builtin "list.__getattribute__") ⟨[.ref a,.str "keys" tk],[]⟩) R ⟨h,g,d,t,os⟩:=
 codeAny_call_builtin F.slot_list_getattribute.plain F.entry_list_ga (F.slot_list_getattribute.check _ _ _ _ _ _ _ _ (show(⟨h,g,d,t,os⟩:k8).TypeIs (.ref a) "list" from⟨_,hx,rfl⟩) (F.args_list_getattribute_2 _ _) (keys_entry_list hh hx he))
theorem keys_attr_list{Q:Option Value->k8->Prop}(hh:A.handled=none)(hx:h.get? a=some ⟨.type "list",none,.seq xs n,sl⟩)(hq:∀h' t',(∀b ob,h.get? b=some ob->h'.get? b=some ob)->Q none ⟨h',g,d,t',os⟩) :
  wpAny (model prog w) A (getAttr? (.ref a) "keys") Q E ⟨h,g,d,t,os⟩:=by
 have hT:(⟨h,g,d,t,os⟩:k8).TypeIs (.ref a) "list" := ⟨_,hx,rfl⟩
 have f2:=F.slot_list_getattribute.lookup
 have f3:=F.slot_list_getattribute.bind (.ref a)
 unfold getAttr? getAttrBy?
 repeat (any_goals (first | assumption | wp_step))
 refine keys_call_list hh hx fun h' t' e ne=>?_
 obtain⟨t'',u',he⟩:=ne.there
 have f1:=sub_AttributeError
 have f5:=F.lk_list_getattr
 show wpAny _ _ (getattributeRaised _ _ _ _ _ _ _) _ _ _
 unfold getattributeRaised
 repeat (any_goals (first | assumption | wp_step))
 exact hq _ _ ne.keeps
end
end PySem
namespace PySem
open Sem (wp)
namespace F
theorem entry_update_loop:entryFor table "dict.update.loop" = some d3j.«dict.update.loop» := entryFor_of_tree (by kernel_rfl)
theorem plain_update_loop:plainId "dict.update.loop" = true:=by decide +kernel
end F
section
variable {prog:D4}{w:World}{K:Type}[DecidableEq K]{knd:KeyKind prog w K}{A:R3}{s:k8}{R:c8Q->k8->Prop}
def prsF(ps:List (K×Value)):List (K×Value):=ps.foldl (fun m p=>c8N m p.1 p.2) []
theorem prsF_snoc(ps:List (K×Value))(p:K×Value):prsF (ps++[p])=c8N (prsF ps) p.1 p.2:=by unfold prsF;rw[List.foldl_append];rfl
theorem update_loop{d I l:Addr}{items:Array Value}{ps:List (K×Value)}(hh:A.handled=none)(hdI:d≠I)(hld:l≠d)(hlI:l≠I)(hn:items.size=ps.length)(hsz:ps.length<=u6)(res:Value){h₁:Heap}(hl:h₁.IsList l items)
  (hp:∀(i:Nat) k v,ps[i]? = some (k,v)->∃p key n dd ss,items[i]? = some (.ref p)/\h₁.get? p=some ⟨.type "tuple",dd,.seq #[key,v] n,ss⟩/\knd.is k key=true/\p≠d/\p≠I)
  (hsl:∀qs:List (K×Value),qs.length<=ps.length->(prsF qs).length<=u6)
  (hR:∀h' tk,(∀b o,b≠d->b≠I->h₁.get? b=some o->h'.get? b=some o)->h'.DictOf knd d (prsF ps)->R (.ok (.ret res)) { s with heap:=h',toks:=tk }) :
  ∀(k i:Nat) (h:Heap) (tk:Nat) (u:Tok),ps.length - i=k->i<=ps.length->h.IsListIter I l i->h.DictOf knd d (prsF (ps.take i))->(∀b o,b≠d->b≠I->h₁.get? b=some o->h.get? b=some o) ->
   a7f (model prog w) A (.builtin "dict.update.loop" ⟨[.ref d,.ref I,.int (i:Int) u,res],[]⟩) R { s with heap:=h,toks:=tk }:=by
 intro k
 induction k with
 | zero=>
  intro i h tk u hk hi hit hD hkeep
  have hin:i=ps.length:=by omega
  subst hin
  obtain⟨ol,hol,hcl,nl,hdl⟩:=id hl
  have hl':h.IsList l items:=⟨ol,hkeep _ _ hld hlI hol,hcl,nl,hdl⟩
  refine b3G F.entry_update_loop ?_
  rw[Around.under_plainId F.plain_update_loop _]
  show wpAny _ A.in1 (b8i (.ref I) >>= _) _ _ _
  refine g0 (b3C (s:={ s with heap:=h,toks:=tk }) (A:=A.in1) hh hit hl' (by simp[hn]) fun h' he=>?_)
  refine g0 (u5 (u5 (hR h' tk (fun b o h1 h2 e=>he b o h2 (hkeep b o h1 h2 e)) ?_)))
  rw[F1]at hD
  exact hD.extBut he hdI
 | succ k ih=>
  intro i h tk u hk hi hit hD hkeep
  have hlt:i<ps.length:=by omega
  obtain⟨⟨kk,x⟩,hx⟩:∃p,ps[i]? = some p:=⟨ps[i],c5 hlt⟩
  obtain⟨p,key,n,dd,ss,e1,e2,e3,e4,e5⟩:=hp i kk x hx
  obtain⟨ol,hol,hcl,nl,hdl⟩:=id hl
  have hl':h.IsList l items:=⟨ol,hkeep _ _ hld hlI hol,hcl,nl,hdl⟩
  refine b3G F.entry_update_loop ?_
  rw[Around.under_plainId F.plain_update_loop _]
  show wpAny _ A.in1 (b8i (.ref I) >>= _) _ _ _
  refine g0 (b2W (s:={ s with heap:=h,toks:=tk }) (A:=A.in1) hit hl' e1 fun h' hit' sb=>?_)
  have e2':h'.get? p=some ⟨.type "tuple",dd,.seq #[key,x] n,ss⟩:=(sb.2 p e5).trans (hkeep _ _ e4 e5 e2)
  refine g0 ?_
  refine a2v (g0 ?_)
  refine wpAny_tryCatch ?_
  unfold Builtin.Dict.pairItems
  refine g0 (b3B (show({ s with heap:=h',toks:=tk }:k8).TypeIs (.ref p) "tuple" from⟨_,e2',rfl⟩) ?_)
  rw[if_pos (by decide)]
  refine g0 (wpAny_seqItems e2' rfl (u5 ?_))
  have hD':h'.DictOf knd d (prsF (ps.take i)):=hD.sameBut sb hdI
  show wpAny _ _ (a4c [key,x] (dictSet d key x)) _ _ _
  refine a2v (wpAny_dictSet_pairs (s:={ s with heap:=h',toks:=tk }) e3 hD' (fun h'' hD'' sb2=>?_) (hsl _ (by rw[C9];omega)))
  refine u5 ⟨b8j F.plain_update_loop _,?_⟩
  have tk1:ps.take (i+1)=ps.take i++[(kk,x)]:=by rw[E9,hx];rfl
  refine ih (i+1) h'' _ _ (by omega) hlt ?_ ?_ fun b o h1 h2 e=>?_
  ·obtain⟨oi,g1,g2,g3⟩:=hit'
   exact⟨oi,(sb2.2 I (Ne.symm hdI)).trans g1,g2,g3⟩
  ·rw[tk1,prsF_snoc]
   exact hD''
  ·exact(sb2.2 b h1).trans ((sb.2 b h2).trans (hkeep b o h1 h2 e))
end
section
variable {prog:D4}{w:World}{K:Type}[DecidableEq K]{knd:KeyKind prog w K}{A:R3}{E:Value->k8->Prop}{s:k8}
theorem call_dict_pairs{l:Addr}{items:Array Value}{n:Nat}{sl:Array (Option Value)}{ps:List (K×Value)}{Q:Value->k8->Prop}(hh:A.handled=none)(hl:s.heap.get? l=some ⟨.type "list",none,.seq items n,sl⟩)(hn:items.size=ps.length)(hsz:ps.length<=u6)
  (hp:∀(i:Nat) k v,ps[i]? = some (k,v)->∃p key n dd ss,items[i]? = some (.ref p)/\s.heap.get? p=some ⟨.type "tuple",dd,.seq #[key,v] n,ss⟩/\knd.is k key=true)
  (hsl:∀qs:List (K×Value),qs.length<=ps.length->(prsF qs).length<=u6)
  (h:∀h' tk,(∀b o,s.heap.get? b=some o->h'.get? b=some o)->h'.DictOf knd s.heap.objs.size (prsF ps)->Q (.ref s.heap.objs.size) { s with heap:=h',toks:=tk }) :
  wpAny (model prog w) A (call (.type "dict") [.ref l]) Q E s:=by
 refine callType_codes (Q₁:=fun obj s₁=>obj=.ref s.heap.objs.size/\s₁={ s with heap:=s.heap.push { cls:=.type "dict",data:=.dict #[] } }) F.kt_called_dict (F.kt_typeCall_dict_1 _) F.entry_dict_init (kt_code_dict_new _ ⟨rfl,rfl⟩) ?_
 rintro obj s₁ ⟨rfl,rfl⟩
 have hnew:(s.heap.push { cls:=.type "dict",data:=.dict #[] }).DictOf knd s.heap.objs.size []:=c2p s.heap
 have hl1:(s.heap.push { cls:=.type "dict",data:=.dict #[] }).get? l=some ⟨.type "list",none,.seq items n,sl⟩:=i8 _ hl
 refine⟨hnew.typeIs,F.args_dict_init_2 _ _,?_⟩
 unfold d3j.«dict.__init__»
 refine g0 ?_
 unfold Builtin.Dict.selfAndRest
 refine g0 (b3D hnew.typeIs ?_)
 show wpAny _ _ (pure (s.heap.objs.size,[Value.ref l])) _ _ _
 refine u5 ?_
 show wpAny _ _ (Builtin.Dict.updateFrom "dict.__init__" s.heap.objs.size (.ref l) [] .none) _ _ _
 unfold Builtin.Dict.updateFrom
 refine g0 (b3B (show({ s with heap:=s.heap.push { cls:=.type "dict",data:=.dict #[] } }:k8).TypeIs (.ref l) "list" from⟨_,hl1,rfl⟩) ?_)
 rw[if_pos (by decide)]
 refine g0 (keys_attr_list (A:=A.in1.in1) hh hl1 fun h2 t2 k2=>?_)
 rw[if_pos (show(none:Option Value).isNone=true from rfl)]
 refine g0 (wpAny_rule ?_)
 have hl2:h2.IsList l items:=⟨_,k2 _ _ hl1,rfl,n,rfl⟩
 refine g0 (a6r (s:={ s with heap:=h2,toks:=t2 }) hl2 ?_)
 have hdlt:s.heap.objs.size<h2.objs.size:=by
  obtain⟨o,es,ep,ho,_⟩:=hnew
  exact l7 (k2 _ _ ho)
 have up:∀b o,s.heap.get? b=some o->h2.get? b=some o:=fun b o e=>k2 _ _ (i8 _ e)
 have ne1:∀b o,s.heap.get? b=some o->b≠s.heap.objs.size/\b≠h2.objs.size:=fun b o e=>⟨A0 (l7 e),A0 (l7 (up b o e))⟩
 refine u5 ⟨b8j F.plain_update_loop _,?_⟩
 have hD2:(h2.push { cls:=.type "list_iterator",data:=.fields #[.ref l,.int 0 0] }).DictOf knd s.heap.objs.size []:=by
  obtain⟨o,es,ep,ho,r⟩:=hnew
  exact⟨o,es,ep,i8 _ (k2 _ _ ho),r⟩
 refine update_loop (s:=s) (A:=A.in1) (knd:=knd) (d:=s.heap.objs.size) (I:=h2.objs.size) (ps:=ps) hh (A0 hdlt) (ne1 l _ hl).1 (ne1 l _ hl).2 hn hsz .none (h₁:=h2.push { cls:=.type "list_iterator",data:=.fields #[.ref l,.int 0 0] }) ?_ (fun i k v e=>?_) hsl (fun h' tk kp hd=>⟨rfl,h h' tk (fun b o e=>kp b o (ne1 b o e).1 (ne1 b o e).2 (i8 _ (up _ _ e))) hd⟩) ps.length 0 _ _ _ (by omega) (R8 _) ⟨_,A8 _ rfl,rfl,rfl⟩ hD2 fun b o _ _ e=>e
 ·exact⟨_,i8 _ (up _ _ hl),rfl,n,rfl⟩
 ·obtain⟨p,key,m,dd,ss,a1,a2,a3⟩:=hp i k v e
  exact⟨p,key,m,dd,ss,a1,i8 _ (up _ _ a2),a3,(ne1 p _ a2).1,(ne1 p _ a2).2⟩
end
end PySem
namespace L2
open PySem PySem.Spec PyProof.Rows
variable{X:Cx}
section
def b7i:List V->Hp->VK->Prop:=fun xs H Q=>∃a vs kvs,xs=[.ref a]/\H a=some (.lst vs)/\vs.length=(kvs:List (Key×V)).length /\
 (∀(i:Nat) k x,kvs[i]? = some (k,x)->∃p,vs[i]? = some (.ref p)/\H p=some (.tup [kV k,x]))/\(kvs.map (·.1)).Nodup/\∀p,H p=none->Q (.ref p) (upd H p (.dK kvs))
theorem b4s{K:Type}[DecidableEq K](ps:List (K×Value)):(prsF ps).length<=ps.length:=by
 have:∀(ps m:List (K×Value)),(ps.foldl (fun m p=>c8N m p.1 p.2) m).length<=m.length+ps.length:=by
  intro ps
  induction ps with
  | nil=>intro m;simp
  | cons p ps ih=>
   intro m
   have h1:=ih (c8N m p.1 p.2)
   have h2:=stored_length_le m p.1 p.2
   simp only[a0S,C0]
   omega
 have:=this ps []
 simpa[prsF]using this
theorem b4w{P:D4}{w:World}{H:Hp}{h:Heap}(ok:HOk P w H h):∀(kvs:List (Key×V)) (vs:List V) (its:List Value),vs.length=kvs.length->(∀(i:Nat) k x,kvs[i]? = some (k,x)->∃p,vs[i]? = some (.ref p)/\H p=some (.tup [kV k,x]))->M3 vs its ->
  ∃ps:List (Key×Value),KV kvs ps/\∀(i:Nat) k v,ps[i]? = some (k,v)->∃p key n dd ss,its[i]? = some (.ref p)/\h.get? p=some ⟨.type "tuple",dd,.seq #[key,v] n,ss⟩/\(N6 P w).is k key=true
 | [],_,_,_,_,_=>⟨[],.nil,fun i k v e=>by simp at e⟩
 | (k,x)::kvs,[],_,l,_,_=>by cases l
 | (k,x)::kvs,v::vs,its,l,hp,rv=>by
  cases rv with
  | cons r0 rv=>
   rename_i u its
   obtain⟨p,e1,e2⟩:=hp 0 k x rfl
   cases e1
   cases r0
   obtain⟨ps,q1,q2⟩:=b4w ok kvs vs its (by simpa using l) (fun i k x e=>hp (i+1) k x e) rv
   obtain⟨_,js,rj,o,g1,g2,n,g3⟩:=(show Z4 P w H h p (.tup [kV k,x])from ok p _ e2)
   obtain⟨u1,u2,rfl,r1,r2⟩:=b5X rj
   refine⟨(k,u2)::ps,.cons ⟨rfl,r2⟩ q1,fun i k' v' e=>?_⟩
   cases i with
   | zero=>
    cases e
    refine⟨p,u1,n,o.dict,o.slots,rfl,?_,b6o r1⟩
    rw[g1]
    cases o
    cases g2
    cases g3
    rfl
   | succ i=>exact q2 i k' v' e
theorem b9K(hc:X.calm=true):X5 X (.type "dict") b7i:=fun pins s σ H xs us Q I r h=>by
 obtain⟨a,vs,kvs,rfl,hl,hn,hp,nd,q⟩:=h
 obtain⟨u,rfl,ru⟩:=a4Z r
 cases ru
 obtain⟨hz,its,n,rv,hg⟩:=(show Z4 X.prog X.w H s.heap a (.lst vs)from I.hok a _ hl)
 have li:=Paired.length rv
 obtain⟨ps,rel,hps⟩:=b4w I.hok kvs vs its hn hp rv
 have hpl:=rel.length
 have hnd:(ps.map (·.1)).Nodup:=by rw[<-rel.keys];exact nd
 refine call_dict_pairs (knd:=N6 X.prog X.w) (ps:=ps) (I.ok.hd hc) hg (by simp;omega) (by omega) (fun i k v e=>by
  obtain⟨p,key,m,dd,ss,a1,a2,a3⟩:=hps i k v e
  exact⟨p,key,m,dd,ss,by simpa using a1,a2,a3⟩) (fun qs hq=>D9 (b4s qs) (by omega)) fun h' tk kp dd=>?_
 have e:prsF ps=ps:=merged_nil_of_nodup ps hnd
 rw[e]at dd
 exact⟨.ref s.heap.objs.size,_,I.laid (a:=s.heap.objs.size) (o:=.dK kvs) (t':=tk) (fun b o hb=>kp b o hb) (j5 _) (b7z (by omega) (beq_eq_false_iff_ne.mpr (Ne.symm (A0 I.big))) rel dd),rfl,q _ (I.hok.fresh (j5 _))⟩
end
section
variable {tg:Expr}
end
section
theorem c1m(xs:List V)(h:xs.all R6=true):T0 xs xs=true:=by
 unfold T0
 rw[a9o,beq_self_eq_true,b9U,U8]
 intro j hj
 have hl:j<xs.length:=by simpa using hj
 have e:xs.getD j .non=xs[j]:=by simp[M0,hl]
 rw[e]
 have f:=U8.mp h _ (I0 hl)
 cases q:xs[j] with
 | non=>rfl
 | bl b=>simp[eqV]
 | int i=>simp[eqV]
 | str s=>simp[eqV]
 | byt b=>rw[q]at f;cases f
 | flt b=>rw[q]at f;cases f
 | ref a=>rw[q]at f;cases f
 | ty n=>rw[q]at f;cases f
theorem c1T:∀ {bs:List Addr} {its:List Value},M3 (bs.map V.ref) its->its=bs.map Value.ref
 | [],_,.nil=>rfl
 | b::bs,_,.cons r t=>by
  cases r
  rw[c1T t];rfl
end
section
end
structure IsC(K:Fg)(C:Addr):Prop where
 cl:Cls K C
 ha:t6 K (.ref C) "__class__" = some (some (.builtin "object.__class__"))
 hn:a6F K (.builtin "object.__class__") "__get__" = some (some (.builtin "getset_descriptor.__get__"))
 htk:b5g K (.builtin "object.__class__")=some true
 hm:b7Y K C (.type "object")=some true
def c5e(K:Fg):List V->Hp->VK->Prop:=fun vs H Q=>∃a C dx fs,vs=[.ref a,.ref C]/\H a=some (.ins C dx fs)/\IsC K C/\Q (.bl true) H
theorem c1A:X5 X (.builtin "isinstance") (c5e X.K):=fun pins s σ H vs us Q I r h=>by
 obtain⟨a,C,dx,fs,rfl,ha,ic,q⟩:=h
 obtain⟨u,u2,rfl,ru,ru2⟩:=b5X r
 cases ru
 cases ru2
 have e:a9n X.K (.ref C) (.ref C)=some true:=by
  unfold a9n
  rw[if_pos (by simp)]
 exact b6p (x:=.ref a) I rfl (.ins ha ic.cl ic.ha ic.hn ic.htk ic.hm) e fun tk=>⟨.bl true,H,I.tok _,rfl,q⟩
section
variable {P:D4}{w:World}{K:Type}[DecidableEq K]{knd:HeapKind P w K}{A:R3}{E:Value->k8->Prop}{s:k8}
theorem c6q{xs:List (K×Addr×Value)}(nd:(xs.map (·.1)).Nodup){i j:Nat}{k:K}{p q:Addr×Value}(h1:xs[i]? = some (k,p))(h2:xs[j]? = some (k,q)):i=j/\p=q:=by
 have e1:(xs.map (·.1))[i]? = some k:=by rw[a9,h1];rfl
 have e2:(xs.map (·.1))[j]? = some k:=by rw[a9,h2];rfl
 obtain⟨l1,g1⟩:=u8.mp e1
 obtain⟨l2,g2⟩:=u8.mp e2
 have z1:=nd.idxOf_getElem i l1
 have z2:=nd.idxOf_getElem j l2
 rw[g1]at z1
 rw[g2]at z2
 have e:i=j:=z1.symm.trans z2
 subst e
 rw[h1]at h2
 exact⟨rfl,(Prod.ext_iff.mp (Option.some.inj h2)).2⟩
end
section
end
end L2
namespace PySem
open Sem (wp)
section
variable {prog:D4}{w:World}{A:R3}{E:Value->k8->Prop}{s:k8}
def Raw(h:Heap)(d:Addr)(es:Array a4F)(ep:Nat):Prop:=∃o,h.get? d=some o/\o.ExactDict/\o.data=.dict es ep
theorem Raw.at{h h':Heap}{d:Addr}{es:Array a4F}{ep:Nat}(x:Raw h d es ep)(e:∀o,h.get? d=some o->h'.get? d=some o):Raw h' d es ep:=let⟨o,h1,r⟩:=x; ⟨o,e _ h1,r⟩
theorem Raw.typeIs{d:Addr}{es:Array a4F}{ep:Nat}(x:Raw s.heap d es ep):s.TypeIs (.ref d) "dict" := let⟨o,h1,h2,_⟩:=x; ⟨o,h1,h2.1⟩
theorem iter_raw{d:Addr}{es:Array a4F}{ep:Nat}{Q:Value->k8->Prop}(hd:(d == a1Q)=false)(hm:Raw s.heap d es ep)
  (hQ:Q (.ref s.heap.objs.size) { s with heap:=s.heap.push { cls:=.type "dict_keyiterator",data:=.fields #[.ref d,.int 0 0,.int es.size 0,.int ep 0] } }):wpAny (model prog w) A (pyIter (.ref d)) Q E s:=by
 have hT:=hm.typeIs
 obtain⟨o,ho,hc,hdat⟩:=id hm
 refine wpAny_pyIter_slot hT F.slot_dict_iter (b2z F.slot_dict_iter hT F.entry_dict_iter ?_ (F.args_dict_iter_1 _))
 unfold d3j.«dict.__iter__» Builtin.Dict.dictSlotNone
 refine g0 (g0 (b3D hT (u5 ?_)))
 show wpAny _ _ (Builtin.Dict.showsAll d >>= _) _ _ s
 unfold Builtin.Dict.showsAll
 simp only[hd,b2V,if_false]
 refine g0 (u5 (g0 (b9V ho hdat (g0 (c4b ho hdat (g0 (Z5 (u5 ⟨_,rfl,"dict_keyiterator",_,⟨_,A8 _ rfl,rfl⟩,F.slot_dict_keyiterator_next.lookup,?_⟩))))))))
 simpa[rawInt]using hQ
theorem next_raw{it d:Addr}{i ep:Nat}{es:Array a4F}{Q:Option Value->k8->Prop}(hit:s.heap.IsKeyIter it d i es.size ep)(hm:Raw s.heap d es ep)(hi:i<es.size)
  (hQ:∀h',h'.IsKeyIter it d (i+1) es.size ep->Heap.SameBut it s.heap h'->Q (some es[i].key) { s with heap:=h' }):wpAny (model prog w) A (b8i (.ref it)) Q E s:=by
 have hT:=hit.typeIs
 obtain⟨o,ho,hc,hd⟩:=id hit
 obtain⟨od,hod,_,hdd⟩:=hm
 have own:Builtin.Dict_items.ownsTuple "dict_keyiterator" = false:=by decide
 unfold b8i
 refine g0 (wpAny_attempt (b1r (name:=Str.ofString "__next__") hT F.slot_dict_keyiterator_next (b2z F.slot_dict_keyiterator_next hT F.entry_dict_keyiterator_next ?_ (F.args_dict_keyiterator_next_1 _))))
 refine g0 (u5 (g0 (g0 (g0 (a2A hT (u5 (g0 (wpAny_fieldsOf ho hd ?_))))))))
 simp only[own,b2V,if_false]
 show wpAny _ _ (if(Value.ref d == Value.none)=true then _ else _) _ _ s
 have nn:¬(Value.ref d == Value.none)=true:=(z5:¬false=true)
 rw[if_neg nn]
 refine g0 (u5 (g0 (b9V hod hdd ?_)))
 rw[if_neg (by simp)]
 refine g0 (u5 (g0 (c4b hod hdd ?_)))
 rw[if_neg (by simp)]
 refine u5 ?_
 simp only[show ¬((i:Int)<0) by omega,if_false,A5,b8g hi]
 refine g0 (g0 (a2A hT (u5 (g0 (d1P hT ?_)))))
 show wpAny _ _ (setField (.ref it) 1 (rawInt ((i:Int)+1)) >>= _) _ _ s
 refine g0 (wpAny_setField ho hd (by simp) ?_)
 have hit':(s.heap.update it (Obj.mapFields (·.setIfInBounds 1 (rawInt ((i:Int)+1))))).IsKeyIter it d (i+1) es.size ep:=
  ⟨_,c3S _ ho (Obj.isFreed_of_fields (Obj.data_mapFields hd _)),(Obj.cls_mapFields ..).trans hc,by rw[Obj.data_mapFields hd];simp[rawInt]⟩
 refine g0 (a2v (g0 (d1P (s:={ s with heap:=s.heap.update it (Obj.mapFields (·.setIfInBounds 1 (rawInt ((i:Int)+1)))) }) hit'.typeIs ?_)))
 show wpAny _ _ (pure es[i].key) _ _ _
 exact u5 (u5 ⟨_,rfl,u5 (hQ _ hit' (b8b ..))⟩)
theorem end_raw{it d:Addr}{i ep:Nat}{es:Array a4F}{Q:Option Value->k8->Prop}(hh:A.handled=none)(hit:s.heap.IsKeyIter it d i es.size ep)(hm:Raw s.heap d es ep)(hi:es.size<=i)
  (hQ:∀h',Heap.ExtBut it s.heap h'->Q none { s with heap:=h' }):wpAny (model prog w) A (b8i (.ref it)) Q E s:=by
 have hT:=hit.typeIs
 obtain⟨o,ho,hc,hd⟩:=id hit
 obtain⟨od,hod,_,hdd⟩:=hm
 have own:Builtin.Dict_items.ownsTuple "dict_keyiterator" = false:=by decide
 unfold b8i
 refine g0 (wpAny_attempt (b1r (name:=Str.ofString "__next__") hT F.slot_dict_keyiterator_next (b2z F.slot_dict_keyiterator_next hT F.entry_dict_keyiterator_next ?_ (F.args_dict_keyiterator_next_1 _))))
 refine g0 (u5 (g0 (g0 (g0 (a2A hT (u5 (g0 (wpAny_fieldsOf ho hd ?_))))))))
 simp only[own,b2V,if_false]
 show wpAny _ _ (if(Value.ref d == Value.none)=true then _ else _) _ _ s
 have nn:¬(Value.ref d == Value.none)=true:=(z5:¬false=true)
 rw[if_neg nn]
 refine g0 (u5 (g0 (b9V hod hdd ?_)))
 rw[if_neg (by simp)]
 refine g0 (u5 (g0 (c4b hod hdd ?_)))
 rw[if_neg (by simp)]
 refine u5 ?_
 simp only[show ¬((i:Int)<0) by omega,if_false,A5,Array.getElem?_eq_none hi]
 refine g0 (g0 (a2A hT (u5 ?_)))
 show wpAny _ _ (setField (.ref it) 0 .none >>= _) _ _ s
 refine g0 (wpAny_setField ho hd (by simp) ?_)
 refine g0 ?_
 simp only[newExc,newTuple]
 refine g0 (Z5 ?_ (by size_fits))
 refine g0 (m:=firstArgMember _ _) (wpAny_of_eq (a:=Value.none) (by simp only[firstArgMember];rfl) (Z5 ?_ (by size_fits)))
 simp only[raiseNew]
 refine g0 (wpAny_handled ?_)
 rw[show A.in1.handled=none from hh]
 refine g0 (u5 (wpAny_throw ?_))
 refine g0 (wpAny_isInstance (T := "StopIteration") (b:=true) (show Shared.TypeIs _ (.ref _) _ from⟨_,A8 _ rfl,rfl⟩) isSubtype_stop (u5 (hQ _ ?_)))
 exact((b8b ..).extBut.push _).push _
theorem walks_raw(hh:A.handled=none)(I d:Addr)(hne:d≠I)(es:Array a4F)(ep:Nat) :
  Walks prog w A I [I,d] [I] es.size (fun i v=>∃e,es[i]? = some e/\v=e.key) (fun i h=>h.IsKeyIter I d i es.size ep/\Raw h d es ep) where
 sub:=fun b hb=>by simp at hb;simp[hb]
 frame:=fun _ _ _ st hk=>⟨st.1.at fun o e=>hk I (by simp) o e,st.2.at fun o e=>hk d (by simp) o e⟩
 item:=fun i s Q E hi st hQ=>next_raw st.1 st.2 hi fun h' hit' hs'=>hQ _ h' s.toks ⟨_,b8g hi,rfl⟩ ⟨hit',st.2.at fun o e=>hs'.extBut d o hne e⟩ fun b o hb e=>hs'.extBut b o (fun h=>hb (by simp[h])) e
 done:=fun s Q E st hQ=>end_raw hh st.1 st.2 (j5 _) fun h' he'=>hQ h' s.toks fun b o hb e=>he' b o (fun h=>hb (by simp[h])) e
 self:=fun _ _ _ _ st hQ=>wpAny_pyIter_keyiter st.1 hQ
theorem list_raw{d:Addr}{es:Array a4F}{ep:Nat}(lo:(d == a1Q)=false):PySem.W.KdlSrc prog w "dict" d d es.size (fun i v=>∃e,es[i]? = some e/\v=e.key) (fun h=>Raw h d es ep) where
 type:=fun s hm=>Raw.typeIs (s:=s) hm
 there:=fun _ ⟨_,h1,_⟩=>⟨l7 h1,l7 h1⟩
 keep:=fun _ _ hm hk=>hm.at fun o e=>hk d (.inl rfl) o e
 notList:=by decide
 notTuple:=by decide
 hint:=fun _ _ _ _ hm hq=>PySem.W.kdl_hint_dict (Raw.typeIs hm) hq
 iter:=fun _ _ hh hm=>⟨_,_,(fun _ _ hq=>iter_raw lo hm hq),walks_raw hh _ d (A0 (let⟨_,h1,_⟩:=hm;l7 h1)) es ep,⟨⟨_,A8 _ rfl,rfl,rfl⟩,hm.at fun _ e=>i8 _ e⟩⟩
end
end PySem
namespace L2
open PySem PySem.Spec PyProof.Rows
section
variable {X:Cx}
end
end L2
namespace PySem
open Sem (wp)
section
variable {prog:D4}{w:World}{K:Type}[DecidableEq K]{knd:HeapKind prog w K}{A:R3}{s:k8}{R:c8Q->k8->Prop}
def Lasts(knd:HeapKind prog w K):Prop:=∀(h h':Heap) k a,knd.is h k a->(∀o,h.get? a=some o->h'.get? a=some o)->knd.is h' k a
theorem dofh_move{h h':Heap}{d:Addr}{xs:List (K×Addr×Value)}(L:Lasts knd)(hm:h.DictOfH knd d xs)(hd:∀o,h.get? d=some o->h'.get? d=some o)(hk:∀x∈xs,∀o,h.get? x.2.1=some o->h'.get? x.2.1=some o):h'.DictOfH knd d xs:=by
 obtain⟨o,es,ep,h1,h2,h3,h4,h5,h6⟩:=hm
 exact⟨o,es,ep,hd _ h1,h2,h3,h4,fun x hx=>L _ _ _ _ (h5 x hx) (hk x hx),h6⟩
theorem take_new{ps:List (K×Addr×Value)}(nd:(ps.map (·.1)).Nodup){i:Nat}{k:K}{p:Addr×Value}(h:ps[i]? = some (k,p)):atKey (ps.take i) k=none:=atKey_none_of_get fun j q hj=>by
 have hji:j<i:=by
  have:=(u8.mp hj).1
  rw[C9]at this
  omega
 rw[b9T hji]at hj
 have:=(L2.c6q nd hj h).1
 omega
theorem update_loop_h{d I l:Addr}{items:Array Value}{ps:List (K×Addr×Value)}(L:Lasts knd)(hu:knd.room A.in1)(hh:A.handled=none)(nd:(ps.map (·.1)).Nodup)(hdI:d≠I)(hld:l≠d)(hlI:l≠I)(hn:items.size=ps.length)(hsz:ps.length<=u6)(res:Value){h₁:Heap}(hl:h₁.IsList l items)
  (hp:∀(i:Nat) k c v,ps[i]? = some (k,c,v)->∃p n dd ss,items[i]? = some (.ref p)/\h₁.get? p=some ⟨.type "tuple",dd,.seq #[.ref c,v] n,ss⟩/\knd.is h₁ k c/\p≠d/\p≠I/\c≠d/\c≠I)
  (hR:∀h' tk,(∀b o,b≠d->b≠I->h₁.get? b=some o->h'.get? b=some o)->h'.DictOfH knd d ps->R (.ok (.ret res)) { s with heap:=h',toks:=tk }) :
  ∀(m i:Nat) (h:Heap) (tk:Nat) (u:Tok),ps.length - i=m->i<=ps.length->h.IsListIter I l i->h.DictOfH knd d (ps.take i)->(∀b o,b≠d->b≠I->h₁.get? b=some o->h.get? b=some o) ->
   a7f (model prog w) A (.builtin "dict.update.loop" ⟨[.ref d,.ref I,.int (i:Int) u,res],[]⟩) R { s with heap:=h,toks:=tk }:=by
 intro m
 have cI:∀(i:Nat),∀x∈ps.take i,x.2.1≠I/\x.2.1≠d:=fun i x hx=>by
  obtain⟨j,hj⟩:=z7.mp (c3Z hx)
  obtain⟨p,n,dd,ss,_,_,_,_,_,e1,e2⟩:=hp j x.1 x.2.1 x.2.2 hj
  exact⟨e2,e1⟩
 induction m with
 | zero=>
  intro i h tk u hm hi hit hD hkeep
  have hin:i=ps.length:=by omega
  subst hin
  obtain⟨ol,hol,hcl,nl,hdl⟩:=id hl
  have hl':h.IsList l items:=⟨ol,hkeep _ _ hld hlI hol,hcl,nl,hdl⟩
  refine b3G F.entry_update_loop ?_
  rw[Around.under_plainId F.plain_update_loop _]
  show wpAny _ A.in1 (b8i (.ref I) >>= _) _ _ _
  refine g0 (b3C (s:={ s with heap:=h,toks:=tk }) (A:=A.in1) hh hit hl' (by simp[hn]) fun h' he=>?_)
  refine g0 (u5 (u5 (hR h' tk (fun b o h1 h2 e=>he b o h2 (hkeep b o h1 h2 e)) ?_)))
  have c:=cI ps.length
  rw[F1]at hD c
  exact dofh_move L hD (fun o e=>he _ _ hdI e) fun x hx o e=>he _ _ (c x hx).1 e
 | succ m ih=>
  intro i h tk u hm hi hit hD hkeep
  have hlt:i<ps.length:=by omega
  obtain⟨⟨k,c,x⟩,hx⟩:∃p,ps[i]? = some p:=⟨ps[i],c5 hlt⟩
  obtain⟨p,n,dd,ss,e1,e2,e3,e4,e5,e6,e7⟩:=hp i k c x hx
  obtain⟨ol,hol,hcl,nl,hdl⟩:=id hl
  have hl':h.IsList l items:=⟨ol,hkeep _ _ hld hlI hol,hcl,nl,hdl⟩
  refine b3G F.entry_update_loop ?_
  rw[Around.under_plainId F.plain_update_loop _]
  show wpAny _ A.in1 (b8i (.ref I) >>= _) _ _ _
  refine g0 (b2W (s:={ s with heap:=h,toks:=tk }) (A:=A.in1) hit hl' e1 fun h' hit' sb=>?_)
  have e2':h'.get? p=some ⟨.type "tuple",dd,.seq #[.ref c,x] n,ss⟩:=(sb.2 p e5).trans (hkeep _ _ e4 e5 e2)
  have e3':knd.is h' k c:=L _ _ _ _ e3 fun o e=>(sb.2 c e7).trans (hkeep _ _ e6 e7 e)
  refine g0 (a2v (g0 (wpAny_tryCatch ?_)))
  unfold Builtin.Dict.pairItems
  refine g0 (b3B (show({ s with heap:=h',toks:=tk }:k8).TypeIs (.ref p) "tuple" from⟨_,e2',rfl⟩) ?_)
  rw[if_pos (by decide)]
  refine g0 (wpAny_seqItems e2' rfl (u5 ?_))
  have hD':h'.DictOfH knd d (ps.take i):=dofh_move L hD (fun o e=>(sb.2 d hdI).trans e) fun x hx o e=>(sb.2 _ (cI i x hx).1).trans e
  show wpAny _ _ (a4c [.ref c,x] (dictSet d (.ref c) x)) _ _ _
  refine a2v (wpAny_dictSet_heap (s:={ s with heap:=h',toks:=tk }) (hsz:=by rw[C9];omega) hu e3' hD' fun h'' hD'' sb2=>?_)
  refine u5 ⟨b8j F.plain_update_loop _,?_⟩
  have tk1:ps.take (i+1)=ps.take i++[(k,c,x)]:=by rw[E9,hx];rfl
  rw[storedH_new (take_new nd hx)]at hD''
  refine ih (i+1) h'' _ _ (by omega) hlt ?_ (by rw[tk1];exact hD'') fun b o h1 h2 e=>(sb2.2 b h1).trans ((sb.2 b h2).trans (hkeep b o h1 h2 e))
  obtain⟨oi,g1,g2,g3⟩:=hit'
  exact⟨oi,(sb2.2 I (Ne.symm hdI)).trans g1,g2,g3⟩
end
section
variable {prog:D4}{w:World}{K:Type}[DecidableEq K]{knd:HeapKind prog w K}{A:R3}{E:Value->k8->Prop}{s:k8}
theorem call_dict_pairs_h{l:Addr}{items:Array Value}{n:Nat}{sl:Array (Option Value)}{ps:List (K×Addr×Value)}{Q:Value->k8->Prop}(L:Lasts knd)(hu:knd.room A.in1.in1)(hh:A.handled=none)(nd:(ps.map (·.1)).Nodup)(hl:s.heap.get? l=some ⟨.type "list",none,.seq items n,sl⟩)(hn:items.size=ps.length)(hsz:ps.length<=u6)
  (hp:∀(i:Nat) k c v,ps[i]? = some (k,c,v)->∃p n dd ss,items[i]? = some (.ref p)/\s.heap.get? p=some ⟨.type "tuple",dd,.seq #[.ref c,v] n,ss⟩/\knd.is s.heap k c/\∃o,s.heap.get? c=some o)
  (h:∀h' tk,(∀b o,s.heap.get? b=some o->h'.get? b=some o)->h'.DictOfH knd s.heap.objs.size ps->Q (.ref s.heap.objs.size) { s with heap:=h',toks:=tk }) :
  wpAny (model prog w) A (call (.type "dict") [.ref l]) Q E s:=by
 refine callType_codes (Q₁:=fun obj s₁=>obj=.ref s.heap.objs.size/\s₁={ s with heap:=s.heap.push { cls:=.type "dict",data:=.dict #[] } }) F.kt_called_dict (F.kt_typeCall_dict_1 _) F.entry_dict_init (kt_code_dict_new _ ⟨rfl,rfl⟩) ?_
 rintro obj s₁ ⟨rfl,rfl⟩
 have hnew:(s.heap.push { cls:=.type "dict",data:=.dict #[] }).DictOfH knd s.heap.objs.size []:=Heap.DictOfH.new s.heap
 have hT:({ s with heap:=s.heap.push { cls:=.type "dict",data:=.dict #[] } }:k8).TypeIs (.ref s.heap.objs.size) "dict" := ⟨_,A8 _ rfl,rfl⟩
 have hl1:(s.heap.push { cls:=.type "dict",data:=.dict #[] }).get? l=some ⟨.type "list",none,.seq items n,sl⟩:=i8 _ hl
 refine⟨hT,F.args_dict_init_2 _ _,?_⟩
 unfold d3j.«dict.__init__» Builtin.Dict.selfAndRest
 refine g0 (g0 (b3D hT (u5 ?_)))
 show wpAny _ _ (Builtin.Dict.updateFrom "dict.__init__" s.heap.objs.size (.ref l) [] .none) _ _ _
 unfold Builtin.Dict.updateFrom
 refine g0 (b3B (show({ s with heap:=s.heap.push { cls:=.type "dict",data:=.dict #[] } }:k8).TypeIs (.ref l) "list" from⟨_,hl1,rfl⟩) ?_)
 rw[if_pos (by decide)]
 refine g0 (keys_attr_list (A:=A.in1.in1) hh hl1 fun h2 t2 k2=>?_)
 rw[if_pos (show(none:Option Value).isNone=true from rfl)]
 refine g0 (wpAny_rule ?_)
 have hl2:h2.IsList l items:=⟨_,k2 _ _ hl1,rfl,n,rfl⟩
 refine g0 (a6r (s:={ s with heap:=h2,toks:=t2 }) hl2 ?_)
 have hdlt:s.heap.objs.size<h2.objs.size:=by
  obtain⟨o,es,ep,ho,_⟩:=hnew
  exact l7 (k2 _ _ ho)
 have up:∀b o,s.heap.get? b=some o->(h2.push { cls:=.type "list_iterator",data:=.fields #[.ref l,.int 0 0] }).get? b=some o:=fun b o e=>i8 _ (k2 _ _ (i8 _ e))
 have ne1:∀b o,s.heap.get? b=some o->b≠s.heap.objs.size/\b≠h2.objs.size:=fun b o e=>⟨A0 (l7 e),A0 (l7 (k2 _ _ (i8 _ e)))⟩
 refine u5 ⟨b8j F.plain_update_loop _,?_⟩
 have hD2:(h2.push { cls:=.type "list_iterator",data:=.fields #[.ref l,.int 0 0] }).DictOfH knd s.heap.objs.size (ps.take 0):=dofh_move L hnew (fun o e=>i8 _ (k2 _ _ e)) fun x hx=>nomatch hx
 refine update_loop_h (s:=s) (A:=A.in1) (knd:=knd) (d:=s.heap.objs.size) (I:=h2.objs.size) (ps:=ps) L hu hh nd (A0 hdlt) (ne1 l _ hl).1 (ne1 l _ hl).2 hn hsz .none ?_ (fun i k c v e=>?_) (fun h' tk kp hd=>⟨rfl,h h' tk (fun b o e=>kp b o (ne1 b o e).1 (ne1 b o e).2 (up _ _ e)) hd⟩) ps.length 0 _ _ _ (by omega) (R8 _) ⟨_,A8 _ rfl,rfl,rfl⟩ hD2 fun b o _ _ e=>e
 ·exact⟨_,up _ _ hl,rfl,n,rfl⟩
 ·obtain⟨p,m,dd,ss,a1,a2,a3,o,a4⟩:=hp i k c v e
  exact⟨p,m,dd,ss,a1,up _ _ a2,L _ _ _ _ a3 fun o e=>up _ _ e,(ne1 p _ a2).1,(ne1 p _ a2).2,(ne1 c _ a4).1,(ne1 c _ a4).2⟩
theorem tuple_lasts{K:Type}[DecidableEq K](kk:KeyKind prog w K):Lasts (a4E kk):=fun h h' k a ⟨o,its,n,h1,r⟩ e=>⟨o,its,n,e _ h1,r⟩
end
end PySem
namespace L2
open PySem PySem.Spec PyProof.Rows
variable{X:Cx}{pins:List (Addr×Obj)}{σ:St}{H:Hp}{s:k8}{a:Addr}{w:World}{h:Heap}{ys:List (List Key×Addr×Value)}
section
end
section
end
abbrev XE:=List Key×Addr×V
variable{xs:List XE}
def d1x(k:List Key):Prop:=∀y∈k,∃i:Int,y=Sum.inl i
theorem c3s{P P':D4}{w':World}(x:List Key×Addr×Value)(h:d1x x.1):c8O (a4E (N6 P w)) x=c8O (a4E (N6 P' w')) x:=by
 have e:x.1.map (N6 P w).hash=x.1.map (N6 P' w').hash:=a3h fun y hy=>by
  obtain⟨i,rfl⟩:=h y hy
  rfl
 show DictEntry.mk (reduceHash (Builtin.Tuple.tupleHashOf (x.1.map (N6 P w).hash))) _ _=DictEntry.mk (reduceHash (Builtin.Tuple.tupleHashOf (x.1.map (N6 P' w').hash))) _ _
 rw[e]
abbrev XR:List XE->List (List Key×Addr×Value)->Prop:=Paired fun p q=>p.1=q.1/\p.2.1=q.2.1/\K9 p.2.2 q.2.2
def b7W(h:Heap)(a:Addr)(xs:List XE):Prop:=xs.length<=u6/\(a == a1Q)=false/\(xs.map (·.1)).Nodup/\(∀x∈xs,d1x x.1)/\∃ys,XR xs ys/\∃(P:D4) (w:World) (o:Obj) (es:Array a4F) (ep:Nat),h.get? a=some o/\o.ExactDict/\o.data=.dict es ep/\es.toList=ys.map (c8O (a4E (N6 P w)))
def dX(a:Addr)(xs:List XE):HO:=.ext fun h=>b7W h a xs
theorem b7W.there(x:b7W h a xs):∃o,h.get? a=some o:=by
 obtain⟨_,_,_,_,_,_,_,_,o,_,_,e,_⟩:=x
 exact⟨o,e⟩
theorem b7W.stay{h':Heap}(x:b7W h a xs)(k:∀o,h.get? a=some o->h'.get? a=some o):b7W h' a xs:=by
 obtain⟨z,y,nd,ik,ys,r,P,w,o,es,ep,e,c⟩:=x
 exact⟨z,y,nd,ik,ys,r,P,w,o,es,ep,k _ e,c⟩
theorem b7W.ok{P:D4}(x:b7W h a xs):Z4 P w H h a (dX a xs):=⟨x,x.there,fun _ _ q k=>q.stay k⟩
def b5e(K:Fg)(H:Hp)(xs:List XE):Prop:=∀x∈xs,SqT K H x.2.1 (x.1.map kV)
section
variable {b:Addr}{k:List Key}
theorem b3y(I:Inv X pins σ H s)(h:SqT X.K H b (k.map kV)):(a4E (N6 X.prog X.w)).is s.heap k b:=by
 obtain⟨its,r,⟨o,h1,h2,n,h3⟩,_⟩:=I.tuple h
 exact⟨o,its.toArray,n,h1,h2,h3,by simpa using b2h r⟩
theorem b6G:∀ {xs:List XE} {ys:List (List Key×Addr×Value)},XR xs ys->xs.map (·.1)=ys.map (·.1)
 | [],_,.nil=>rfl
 | p::xs,_,.cons (b:=q) r t=>by rw[B8,B8,r.1,b6G t]
theorem c4t:∀ {xs:List XE} {ys:List (List Key×Addr×Value)},XR xs ys->∀y∈ys,∃x∈xs,x.1=y.1/\x.2.1=y.2.1/\K9 x.2.2 y.2.2
 | [],_,.nil,y,h=>by cases h
 | p::xs,_,.cons (b:=q) r t,y,h=>by
  rcases o4.mp h with rfl | h
  ·exact⟨p,U5,r⟩
  ·obtain⟨x,hx,z⟩:=c4t t y h
   exact⟨x,G7 _ hx,z⟩
theorem c5Z(I:Inv X pins σ H s)(e:H a=some (dX a xs))(hk:b5e X.K H xs):xs.length<=u6/\(a == a1Q)=false/\∃ys,XR xs ys/\s.heap.DictOfH (a4E (N6 X.prog X.w)) a ys:=by
 obtain⟨⟨z,y,nd,ik,ys,r,P,w,o,es,ep,e1,e2,e3,e4⟩,_⟩:=(show Z4 X.prog X.w H s.heap a (dX a xs)from I.hok a _ e)
 refine⟨z,y,ys,r,o,es,ep,e1,e2,e3,e4.trans (a3h fun q hq=>c3s q (by obtain⟨x,hx,z,_⟩:=c4t r q hq;rw[<-z];exact ik x hx)),fun y hy=>?_,?_⟩
 ·obtain⟨x,hx,q1,q2,_⟩:=c4t r y hy
  have:=b3y I (hk x hx)
  rw[q1,q2]at this
  exact this
 ·rw[<-b6G r];exact nd
def b3O(xs:List XE)(k:List Key):Option V:=(xs.find? fun x=>decide (x.1=k)).map (·.2.2)
theorem b9Z:∀ {xs:List XE} {ys:List (List Key×Addr×Value)},XR xs ys->∀k,a9k (b3O xs k) ((atKey ys k).map (·.2))
 | [],_,.nil,k=>trivial
 | p::xs,_,.cons (b:=q) r t,k=>by
  have ih:=b9Z t k
  unfold b3O atKey at ih ⊢
  rw[a0j,a0j]
  by_cases e:p.1=k
  ·have e':q.1=k:=r.1.symm.trans e
   simp only[e,e',decide_true]
   exact r.2.2
  ·have e':¬q.1=k:=fun z=>e (r.1.trans z)
   simp only[e,e',decide_false]
   exact ih
end
def b5r(K:Fg)(neg:Bool)(ti to:TE):TE:=fun σ H Q=>ti σ H fun y H1=>to σ H1 fun x H2=>∃a b xs k,x=.ref a/\y=.ref b/\H2 a=some (dX a xs)/\b5e K H2 xs/\SqT K H2 b (k.map kV)/\Q (.bl (if neg then !(b3O xs k).isSome else (b3O xs k).isSome)) H2
def b4r(K:Fg):List V->Hp->VK->Prop:=fun vs H Q=>∃a xs,vs=[.ref a]/\H a=some (dX a xs)/\b5e K H xs/\∀l,H l=none->Q (.ref l) (upd H l (.lst (xs.map fun x=>V.ref x.2.1)))
def b7h(K:Fg):List V->Hp->VK->Prop:=fun vs H Q=>∃a us xs,vs=[.ref a]/\H a=some (.lst us)/\us.length=(xs:List XE).length /\
 (∀(i:Nat) x,xs[i]? = some x->∃p,us[i]? = some (.ref p)/\H p=some (.tup [.ref x.2.1,x.2.2]))/\b5e K H xs/\(xs.map (·.1)).Nodup/\(∀x∈xs,d1x x.1)/\∀p,H p=none->Q (.ref p) (upd H p (dX p xs))
section
variable {i o:Expr}{ti to:TE}
theorem b6g{o:Option V}{u:Option Value}(h:a9k o u):o.isSome=u.isSome:=h.isSome_eq
theorem d0v(hu:X.A.units+1<cLine)(hi:PE X i ti)(ho:PE X o to):PC X .In i o (b5r X.K false ti to):=by
 intro pins s σ H Q I h
 refine thn (hi pins s σ H _ I h) fun iv s1 ⟨y,H1,I1,ry,q1⟩=>thn (ho pins s1 σ H1 _ I1 q1) fun u s2 ⟨x,H2,I2,rx,a,b,xs,k,ex,ey,ea,hk,hb,q2⟩=>?_
 subst ex ey
 cases rx
 cases ry
 obtain⟨_,hd,ys,r,dd⟩:=c5Z I2 ea hk
 refine wpAny_in_heap (a5m hu) (b3y I2 hb) hd dd ?_
 have q:=b6g (b9Z r k)
 rw[a1Y]at q
 rw[<-q]
 exact⟨.bl (b3O xs k).isSome,H2,I2.tok _,rfl,q2⟩
theorem c2T(hu:X.A.units+1<cLine)(hi:PE X i ti)(ho:PE X o to):PC X .NotIn i o (b5r X.K true ti to):=by
 intro pins s σ H Q I h
 refine thn (hi pins s σ H _ I h) fun iv s1 ⟨y,H1,I1,ry,q1⟩=>thn (ho pins s1 σ H1 _ I1 q1) fun u s2 ⟨x,H2,I2,rx,a,b,xs,k,ex,ey,ea,hk,hb,q2⟩=>?_
 subst ex ey
 cases rx
 cases ry
 obtain⟨_,hd,ys,r,dd⟩:=c5Z I2 ea hk
 refine wpAny_notIn_heap (a5m hu) (b3y I2 hb) hd dd ?_
 have q:=b6g (b9Z r k)
 rw[a1Y]at q
 rw[<-q]
 exact⟨.bl (!(b3O xs k).isSome),H2,I2.tok _,rfl,q2⟩
theorem c4s(r:XR xs ys):xs.length=ys.length:=Paired.length r
theorem c0a:∀ {xs:List XE} {ys:List (List Key×Addr×Value)} {i:Nat} {y:List Key×Addr×Value},XR xs ys->ys[i]? = some y->∃x,xs[i]? = some x/\x.1=y.1/\x.2.1=y.2.1/\K9 x.2.2 y.2.2
 | [],_,i,y,.nil,e=>by cases e
 | p::xs,_,0,y,.cons (b:=q) r t,e=>by cases e;exact⟨p,rfl,r⟩
 | p::xs,_,i+1,y,.cons (b:=q) r t,e=>c0a (i:=i) t e
theorem b9G(hc:X.calm=true):X5 X (.type "list") (b4r X.K):=fun pins s σ H vs us Q I r h=>by
 obtain⟨a,xs,rfl,ha,hk,q⟩:=h
 obtain⟨u,rfl,ru⟩:=a4Z r
 cases ru
 obtain⟨hz,hd,ys,rk,o,es,ep,e1,e2,e3,e4,_⟩:=c5Z I ha hk
 have hl:=c4s rk
 have hs:es.size=ys.length:=size_of_entries e4
 refine c6z (list_raw (es:=es) (ep:=ep) hd) (I.ok.hd hc) ⟨o,e1,e2,e3⟩ (by omega) fun h' tk acc c hkp hacc hit=>?_
 refine⟨.ref _,_,I.laid (t':=tk) (a:=s.heap.objs.size) (o:=.lst (xs.map fun x=>V.ref x.2.1)) hkp (j5 _) ?_,rfl,q _ (I.hok.fresh (j5 _))⟩
 refine⟨by rw[b5];omega,acc.toList,c,?_,by simpa using hacc⟩
 refine b6I (by have:=hit.1;rw[b5];simp;omega) fun i x u a b=>?_
 obtain⟨en,g1,g2⟩:=hit.2 i u (by rw[<-a0D];exact b)
 rw[<-a0D,e4,a9]at g1
 obtain⟨y,hy,rfl⟩:=o5.mp g1
 obtain⟨z,hz1,_,hz3,_⟩:=c0a rk hy
 rw[a9,hz1]at a
 cases a
 rw[g2]
 show Value.ref y.2.1=Value.ref z.2.1
 rw[hz3]
theorem b4v{P:D4}(ok:HOk P w H h):∀(xs:List XE) (us:List V) (its:List Value),us.length=xs.length->(∀(i:Nat) x,xs[i]? = some x->∃p,us[i]? = some (.ref p)/\H p=some (.tup [.ref x.2.1,x.2.2]))->M3 us its ->
  ∃ps,XR xs ps/\∀(i:Nat) k c v,ps[i]? = some (k,c,v)->∃p n dd ss,its[i]? = some (.ref p)/\h.get? p=some ⟨.type "tuple",dd,.seq #[.ref c,v] n,ss⟩
 | [],_,_,_,_,_=>⟨[],.nil,fun i k c v e=>by simp at e⟩
 | x::xs,[],_,l,_,_=>by cases l
 | x::xs,v::vs,its,l,hp,rv=>by
  cases rv with
  | cons r0 rv=>
   rename_i u its
   obtain⟨p,e1,e2⟩:=hp 0 x rfl
   cases e1
   cases r0
   obtain⟨ps,q1,q2⟩:=b4v ok xs vs its (by simpa using l) (fun i k e=>hp (i+1) k e) rv
   obtain⟨_,js,rj,o,g1,g2,n,g3⟩:=(show Z4 P w H h p (.tup [.ref x.2.1,x.2.2])from ok p _ e2)
   obtain⟨u1,u2,rfl,r1,r2⟩:=b5X rj
   cases r1
   refine⟨(x.1,x.2.1,u2)::ps,.cons ⟨rfl,rfl,r2⟩ q1,fun i k' c' v' e=>?_⟩
   cases i with
   | zero=>
    cases e
    refine⟨p,n,o.dict,o.slots,rfl,?_⟩
    rw[g1]
    cases o
    cases g2
    cases g3
    rfl
   | succ i=>exact q2 i k' c' v' e
theorem b2S(hc:X.calm=true)(hr:X.A.units+2<cLine):X5 X (.type "dict") (b7h X.K):=fun pins s σ H vs us Q I r h=>by
 obtain⟨a,ws,xs,rfl,hl,hn,hp,hk,nd,ik,q⟩:=h
 obtain⟨u,rfl,ru⟩:=a4Z r
 cases ru
 obtain⟨hz,its,n,rv,hg⟩:=(show Z4 X.prog X.w H s.heap a (.lst ws)from I.hok a _ hl)
 have li:=Paired.length rv
 obtain⟨ps,rel,hps⟩:=b4v I.hok xs ws its hn hp rv
 have hpl:=c4s rel
 have hnd:(ps.map (·.1)).Nodup:=by rw[<-b6G rel];exact nd
 refine call_dict_pairs_h (knd:=a4E (N6 X.prog X.w)) (ps:=ps) (tuple_lasts _) (show X.A.units+1+1<cLine by omega) (I.ok.hd hc) hnd hg (by simp;omega) (by omega) (fun i k c v e=>by
  obtain⟨p,m,dd,ss,a1,a2⟩:=hps i k c v e
  obtain⟨x,hx,z1,z2,_⟩:=c0a rel e
  have ky:=b3y I (hk x (a0X hx))
  rw[z1,z2]at ky
  exact⟨p,m,dd,ss,by simpa using a1,a2,ky,let⟨o,_,_,z,_⟩:=ky; ⟨o,z⟩⟩) fun h' tk kp dd=>?_
 have hf:=I.hok.fresh (j5 s.heap.objs.size)
 obtain⟨o,es,ep,d1,d2,d3,d4,_,d6⟩:=dd
 have dx:b7W h' s.heap.objs.size xs:=⟨by omega,beq_eq_false_iff_ne.mpr (Ne.symm (A0 I.big)),nd,ik,ps,rel,X.prog,X.w,o,es,ep,d1,d2,d3,d4⟩
 exact⟨.ref s.heap.objs.size,_,I.laid (a:=s.heap.objs.size) (o:=dX s.heap.objs.size xs) (t':=tk) (fun b o hb=>kp b o hb) (j5 _) dx.ok,rfl,q _ hf⟩
end
section
def c0D(K:Fg)(neg:Bool):R2:=fun x y H Q=>∃a p xs bs zss,x=.ref a/\y=.ref p/\SqT K H a xs/\xs.all R6=true/\H p=some (.lst ((bs:List Addr).map V.ref))/\bs.length=(zss:List (List V)).length /\
 (∀(i:Nat) b zs,bs[i]? = some b->zss[i]? = some zs->SqT K H b zs/\zs.all R6=true)/\Q (.bl (if neg then !(zss.any fun zs=>T0 zs xs)else zss.any fun zs=>T0 zs xs)) H
theorem c5R{xs:List V}{bs:List Addr}{zss:List (List V)}(I:Inv X pins σ H s)(hu:X.A.in1.units<cLine)(ha:SqT X.K H a xs)(fx:xs.all R6=true)(hl:bs.length=zss.length)
  (hb:∀(i:Nat) b zs,bs[i]? = some b->zss[i]? = some zs->SqT X.K H b zs/\zs.all R6=true) :
  ∃f:Value->Bool,(∀w∈bs.map Value.ref,SeqAt.EqAt X.A.in1 s w (.ref a) (f w))/\(bs.map Value.ref).any f=zss.any fun zs=>T0 zs xs:=by
 obtain⟨g,hg⟩:∃g:Addr->Bool,∀(i:Nat) b zs,bs[i]? = some b->zss[i]? = some zs->g b=T0 zs xs:=by
  have:∀b:Addr,∃v:Bool,∀(i:Nat) zs,bs[i]? = some b->zss[i]? = some zs->v=T0 zs xs:=fun b=>by
   by_cases h:∃(i:Nat) (zs:List V),bs[i]? = some b/\zss[i]? = some zs
   ·obtain⟨i,zs,e1,e2⟩:=h
    refine⟨T0 zs xs,fun j ys f1 f2=>?_⟩
    rw[I.tuple_inj (hb i b zs e1 e2).1 (hb j b ys f1 f2).1]
   ·exact⟨false,fun i zs e1 e2=>absurd ⟨i,zs,e1,e2⟩ h⟩
  obtain⟨g,hg⟩:=Classical.axiomOfChoice this
  exact⟨g,fun i b zs e1 e2=>hg b i zs e1 e2⟩
 refine⟨fun w=>match w with | .ref b=>g b | _=>false,fun w hw=>?_,?_⟩
 ·obtain⟨b,hbm,rfl⟩:=A2.mp hw
  obtain⟨i,hi⟩:=z7.mp hbm
  obtain⟨zs,hzs⟩:∃zs,zss[i]? = some zs:=⟨_,c5 (by rw[<-hl];exact(u8.mp hi).1)⟩
  obtain⟨hz,fz⟩:=hb i b zs hi hzs
  show SeqAt.EqAt X.A.in1 s (.ref b) (.ref a) (g b)
  rw[hg i b zs hi hzs]
  by_cases q:b=a
  ·subst q
   rw[I.tuple_inj hz ha,c1m _ fx]
   exact SeqAt.EqAt.same _
  ·refine SeqAt.EqAt.of_refs q ?_
   obtain⟨us,r1,t1,_⟩:=I.tuple hz
   obtain⟨ws,r2,t2,_⟩:=I.tuple ha
   have l1:=r1.length
   have l2:=r2.length
   have q1:=SeqAt.RcAt.tuples (A:=X.A.in1) t1 t2 hu (a7J r1 r2 fz fx)
   simp only[o6,<-l1,<-l2]at q1
   exact q1
 ·rw[a9b]
  have e:bs.map g=zss.map fun zs=>T0 zs xs:=by
   apply a4C
   intro i
   rw[a9,a9]
   cases h1:bs[i]? with
   | none=>rw[Y4.mpr (by have:=Y4.mp h1;omega)];rfl
   | some b=>
    obtain⟨zs,hzs⟩:∃zs,zss[i]? = some zs:=⟨_,c5 (by rw[<-hl];exact(u8.mp h1).1)⟩
    rw[hzs]
    show some (g b)=some _
    rw[hg i b zs h1 hzs]
  have e1:bs.any g=(bs.map g).any id:=by rw[a9b];rfl
  have e2:(zss.any fun zs=>T0 zs xs)=(zss.map fun zs=>T0 zs xs).any id:=by rw[a9b];rfl
  show bs.any g=_
  rw[e1,e2,e]
theorem c7L(hu:X.A.in1.units<cLine):OpR X (A9 .In) (c0D X.K false):=by
 intro pins s σ H x y v u Q I rx ry h
 obtain⟨a,p,xs,bs,zss,rfl,rfl,ha,fx,hp,hl,hb,q⟩:=h
 cases rx
 cases ry
 obtain⟨its,r,pl,hz⟩:=I.list (SqL.of hp)
 obtain rfl:=c1T r
 obtain⟨f,f1,f2⟩:=c5R I hu ha fx hl hb
 refine SeqAt.in_listAt f pl.isList (fun w hw=>f1 w (by simpa using hw)) ⟨.bl _,H,I,rfl,?_⟩
 rw[show(bs.map Value.ref).toArray.any f=(bs.map Value.ref).any f by simp,f2]
 exact q
end
section
end
section
def c8g(kvs:List (Key×V)):List (Key×V):=kvs.foldl (fun m p=>a2l m p.1 p.2) []
theorem d0U:∀ {kvs:List (Key×V)} {ps:List (Key×Value)},KV kvs ps->∀ {m:List (Key×V)} {n:List (Key×Value)},KV m n->KV (kvs.foldl (fun m p=>a2l m p.1 p.2) m) (ps.foldl (fun m p=>c8N m p.1 p.2) n):=by
 intro kvs ps h
 unfold KV at h
 induction h with
 | nil=>intro m n r;exact r
 | @cons p q l1 l2 h hr ih=>
  intro m n r
  rw[a0S,a0S,<-h.1]
  exact ih (KV.put r _ h.2)
def c5f:List V->Hp->VK->Prop:=fun xs H Q=>∃a vs kvs,xs=[.ref a]/\H a=some (.lst vs)/\vs.length=(kvs:List (Key×V)).length /\
 (∀(i:Nat) k x,kvs[i]? = some (k,x)->∃p,vs[i]? = some (.ref p)/\H p=some (.tup [kV k,x]))/\∀p,H p=none->Q (.ref p) (upd H p (.dK (c8g kvs)))
theorem b9J(hc:X.calm=true):X5 X (.type "dict") c5f:=fun pins s σ H xs us Q I r h=>by
 obtain⟨a,vs,kvs,rfl,hl,hn,hp,q⟩:=h
 obtain⟨u,rfl,ru⟩:=a4Z r
 cases ru
 obtain⟨hz,its,n,rv,hg⟩:=(show Z4 X.prog X.w H s.heap a (.lst vs)from I.hok a _ hl)
 have li:=Paired.length rv
 obtain⟨ps,rel,hps⟩:=b4w I.hok kvs vs its hn hp rv
 have hpl:=rel.length
 refine call_dict_pairs (knd:=N6 X.prog X.w) (ps:=ps) (I.ok.hd hc) hg (by simp;omega) (by omega) (fun i k v e=>by
  obtain⟨p,key,m,dd,ss,a1,a2,a3⟩:=hps i k v e
  exact⟨p,key,m,dd,ss,by simpa using a1,a2,a3⟩) (fun qs hq=>D9 (b4s qs) (by omega)) fun h' tk kp dd=>?_
 have rel2:KV (c8g kvs) (prsF ps):=d0U rel .nil
 have ll:=rel2.length
 have l2:=b4s ps
 exact⟨.ref s.heap.objs.size,_,I.laid (a:=s.heap.objs.size) (o:=.dK (c8g kvs)) (t':=tk) (fun b o hb=>kp b o hb) (j5 _) (b7z (by omega) (beq_eq_false_iff_ne.mpr (Ne.symm (A0 I.big))) rel2 dd),rfl,q _ (I.hok.fresh (j5 _))⟩
def c0E(K:Fg):List V->Hp->VK->Prop:=fun xs H Q=>c5f xs H Q\/b7h K xs H Q
theorem b9I(hc:X.calm=true)(hr:X.A.units+2<cLine):X5 X (.type "dict") (c0E X.K):=(b9J hc).or (b2S hc hr)
end
structure b9O(K:Fg)(x qual:Str)(st:Stmt)(T f:Addr)(fd:a0w):Prop where
 ex:∃(oc:Value) (od:Option Addr) (kV doc pm:Value) (an:Option Addr) (cdv ct:Value) (osl:Array (Option Value)),
  fd=Y8 x qual (a2m st) (a0b st) (f6 st) (.ref T) kV doc pm an cdv ct/\K.lookup f=some ⟨oc,od,.func fd,osl⟩/\a3Y K cdv qual=true
section
variable {P:D4}{K:Fg}{mg:Str->Option Value}{base:Heap}{x qual:Str}{st:Stmt}{T f:Addr}{fd:a0w}
theorem b9O.ok{N ps:List Str}{k:Nat}{sp:Sp}(F:b9O K x qual st T f fd)(S:u7 N ps (f6 st))(len:∀vs H Q E,sp vs H Q E->vs.length=ps.length)
  (hbody:∀(cdv:Value) (A:R3) (outer:List Env) (s:k8) (H:Hp) (vs:List V) (Q:VK) (E:XK),V6 k (A.deeper (b2A qual (f6 st) s.heap.objs.size f cdv))->sp vs H Q E ->
   ∃t,PSs (b4S CX0 P w K mg base N qual (f6 st) f cdv A outer s H E).nox (a0b st) t/\t { nx:=fun _ H'=>Q .non H',rt:=Q } (a8x N vs) H):F7 P w K mg base CX0 (k+1) f fd ps sp:=by
 obtain⟨oc,od,kV,doc,pm,an,cdv,ct,osl,rfl,lk,hcd⟩:=F.ex
 refine c9m lk hcd S len fun A outer s H vs Q E hr hsp=>?_
 obtain⟨t,h,q⟩:=hbody cdv A outer s H vs Q E hr hsp
 exact⟨t,h.nox,q⟩
theorem b9O.binds{ps:List Str}{ds:List Value}{o:Obj}{items:Array Value}{n:Nat}(F:b9O K x qual st T f fd)(hT:K.lookup T=some o)(ho:o.data=.seq items n)
  (h:∀(kV doc pm:Value) (an:Option Addr) (cdv ct:Value) (us:List Value),(us++ds).length=ps.length->∃k,bindArgs (Y8 x qual (a2m st) (a0b st) (f6 st) (.ref T) kV doc pm an cdv ct) ⟨us,[]⟩=(seqItems? (.ref T) >>= k)/\k (some items)=pure (ps.zip (us++ds))):a5Q K fd ps ds:=by
 obtain⟨oc,od,kV,doc,pm,an,cdv,ct,osl,rfl,lk,hcd⟩:=F.ex
 intro s us KX hl
 obtain⟨k,h1,h2⟩:=h kV doc pm an cdv ct us hl
 exact .of_defaults (T:=T) rfl (KX _ _ hT) ho h1 h2
structure d3F(P:D4)(w:World)(K:Fg)(mg:Str->Option Value)(base:Heap)(k:Nat)(x:Str)(C:Addr)(ps:List Str)(dvs:List V)(sp:Sp):Prop where
 ex:∃f fd ds,F7 P w K mg base CX0 k f fd ps sp/\mg x=some (.ref C)/\Mk K C f/\a5Q K fd ps ds/\M3 dvs ds
end
section
theorem b9p{its:List Value}{ns:List Int}(hi:c4d its ns):∃zs:Array (Int×Tok),its.toArray=intItems zs/\zs.toList.map (·.1)=ns:=by
 obtain⟨zs,ez⟩:=hi.allInts.items
 refine⟨zs,ez,?_⟩
 rw[<-nums_intItems,<-ez]
 exact hi.numsOf
def b4q:List V->Hp->VK->Prop:=fun vs H Q=>match vs with
 | [.ref l]=>match H l with
  | some (.lst xs)=>∃ns,a3N xs=some ns/\0<ns.length/\∀M,M∈ns->(∀a∈ns,M<=a)->Q (.int M) H
  | _=>False
 | _=>False
theorem c1w(hc:X.calm=true):X5 X (.builtin "min") b4q:=fun pins s σ H xs us Q I r h=>by
 unfold b4q at h
 split at h
 ·split at h
  ·rename_i l _ ys hl
   obtain⟨ns,e,hn,q⟩:=h
   obtain⟨u,rfl,ru⟩:=a4Z r
   cases ru
   obtain⟨its,rv,pl,hz⟩:=I.list (SqL.of hl)
   obtain⟨zs,e1,e2⟩:=b9p (a4M rv e)
   have ln:zs.size=ns.length:=by rw[<-e2,b5,a1h]
   have il:=pl.isList
   rw[e1]at il
   refine min_intList (I.ok.hd hc) il (by omega) fun v h' tk hv kk=>?_
   obtain⟨t,rfl⟩:=intItems_at hv
   have b:=argBest_lt (numAt zs) (zs.size - 1)
   refine⟨.int (numAt zs (argBest (fun i j=>decide (numAt zs i<numAt zs j)) (zs.size - 1))),H,I.kept kk,⟨_,rfl⟩,q _ ?_ fun a ha=>?_⟩
   ·rw[numAt_eq,e2]
    exact getD_mem (by have:=b.1;omega)
   ·obtain⟨j,hj,rfl⟩:=mem_getD ha
    rw[<-e2,<-numAt_eq]
    exact b.2 j (by omega)
  ·exact h.elim
 ·exact h.elim
def a9B:List V->Hp->VK->Prop:=fun vs H Q=>match vs with
 | [.ref l]=>match H l with
  | some (.lst xs)=>∃ns,a3N xs=some ns/\Q (.int ns.sum) H
  | _=>False
 | _=>False
theorem c1v(hc:X.calm=true):X5 X (.builtin "sum") a9B:=fun pins s σ H xs us Q I r h=>by
 unfold a9B at h
 split at h
 ·split at h
  ·rename_i l _ ys hl
   obtain⟨ns,e,q⟩:=h
   obtain⟨u,rfl,ru⟩:=a4Z r
   cases ru
   obtain⟨its,rv,pl,hz⟩:=I.list (SqL.of hl)
   obtain⟨zs,e1,e2⟩:=b9p (a4M rv e)
   have ln:zs.size=ns.length:=by rw[<-e2,b5,a1h]
   have il:=pl.isList
   rw[e1]at il
   refine sum_intListG (I.ok.hd hc) il fun h' tk t' kk=>⟨.int (preSum (numAt zs) zs.size),H,I.kept kk,⟨_,rfl⟩,?_⟩
   rw[preSum_eq,e2,W8 (by omega)]
   exact q
  ·exact h.elim
 ·exact h.elim
end
end L2
namespace Y
open PySem PySem.Spec PyProof.Rows L2
structure y'E(X:Cx)(e:Expr)(t:TE):Prop where h:PE X e t
structure y'A(X:Cx)(e:List Expr)(t:TA):Prop where h:PA X e t
structure y'S(X:Cx)(e:Stmt)(t:TS):Prop where h:PS X e t
structure b2X(X:Cx)(e:List Stmt)(t:TS):Prop where h:PSs X e t
structure y'T(X:Cx)(e:Expr)(t:TT):Prop where h:PT X e t
structure y'W(X:Cx)(e:Expr)(t:TT):Prop where h:PW X e t
structure c2y(X:Cx)(e:List Expr)(t:TT):Prop where h:PTs X e t
structure b5q(X:Cx)(tg e:Expr)(t:TI):Prop where h:PI X tg e t
structure y'G(X:Cx)(e:Expr)(t:TG):Prop where h:PG X e t
structure c6M(X:Cx)(e:List Expr)(t:TGs):Prop where h:PGs X e t
structure y'O(X:Cx)(e:Option Expr)(t:TO):Prop where h:PO X e t
structure a0Z(X:Cx)(f:Value->Value->Sem Value)(r:R2):Prop where h:OpR X f r
structure c8T(X:Cx)(f:Value->Sem Value)(r:V->Hp->VK->Prop):Prop where h:UnR X f r
structure X6(X:Cx)(f:Value)(r:List V->Hp->VK->Prop):Prop where h:X5 X f r
structure b3M(X:Cx)(id:String)(r:V->List V->Hp->VK->Prop):Prop where h:MtR X id r
structure c4p(X:Cx)(r:R2):Prop where h:IxR X r
structure c4o(X:Cx)(r:V->Option Int->Option Int->Hp->VK->Prop):Prop where h:SlR X r
structure b9Y(X:Cx)(t:b5Q):Prop where h:c6t X t
structure c4r(X:Cx)(t:V->V->Hp->VK->Prop):Prop where h:d1w X t
structure c4q(X:Cx)(op:b5j)(t:TIp):Prop where h:PIp X op t
section
variable {X:Cx}{st:Stmt}{a9f:List Stmt}{t u:TS}{e a b c o i:Expr}{es more:List Expr}{te ta tb tc to ti:TE}{tt tu:TT}{tr:TA}{pos p pos':Pos}{x:Str}
theorem p8:b2X X [] F0:=⟨L2.c7n⟩
theorem b8(h1:y'S X st t)(h2:b2X X a9f u):b2X X (st::a9f) (v6 t u):=⟨L2.c5i h1.h h2.h⟩
theorem c6(h1:y'S X st t):b2X X [st] t:=⟨L2.c7m h1.h⟩
theorem c4g{n:Nat}(hN:X.N.Nodup)(hi:X.N[n]? = some x)(hx:Loc X.env.scope x)(he:y'E X e te)(hs:a3o e (some (.Name x pos')) pos.line X.env=pure false:=by rfl)(hf:X.fn x=true\/X.env.scope.names.lookup x=some .local:=by first | exact .inl rfl | exact .inr rfl) :
  y'S X (.Assign [.Name x pos'] e pos) (G0 te (t8 n)):=⟨L2.c9Z hN hi hx he.h hs hf⟩
theorem a8m{tg:Expr}{g:TG}(he:y'E X e te)(hg:y'G X tg g)(hs:swapsWithSole [tg] e pos.line X.env=pure false:=by rfl)(hw:swappedStores [tg] e X.env=pure none:=by rfl)
  (h1:(a3W [tg] X.env).map (·.2)=[a9s tg X.env]:=by rfl):y'S X (.Assign [tg] e pos) (G0 te g):=⟨L2.d0e he.h hg.h hs hw h1⟩
theorem c2t{tget:V->V->Hp->VK->Prop}{tip:TIp}{tset:b5Q}{op:b5j}(ho:y'E X o to)(hi:y'E X i ti)(hg:c4r X tget)(he:y'E X e te)(hp:c4q X op tip)(hs:b9Y X tset)
  (ha:∀ov iv new,augStore i ov iv new=(do a4c [new,ov,iv] (c9t ov iv new);release [new,ov,iv] [];pure .next):=by intros;rfl):y'S X (.AugAssign (.Subscript o i p) op e pos) (c1P to ti te tget tip tset):=⟨L2.c7q ho.h hi.h hg.h he.h hp.h hs.h ha⟩
theorem b0m{n:Nat}{op:b5j}{tip:TIp}(hN:X.N.Nodup)(hi:X.N[n]? = some x)(hx:Loc X.env.scope x)(he:y'E X e te)(ho:c4q X op tip)(hf:X.fn x=true\/X.env.scope.names.lookup x=some .local:=by first | exact .inl rfl | exact .inr rfl) :
  y'S X (.AugAssign (.Name x pos') op e pos) (c0f n te tip):=⟨L2.d0d hN hi hx he.h ho.h hf⟩
theorem A4{la lb:List Stmt}(hc:y'T X c tt)(ha:b2X X la t)(hb:b2X X lb u):y'S X (.If c la lb pos) (O3 tt t u):=⟨L2.d2u hc.h ha.h hb.h⟩
theorem j8(he:y'E X e te):y'S X (.Return (some e) pos) (G6 te):=⟨L2.d0a he.h⟩
theorem J8(he:y'E X e te)(hs:a3o e none pos.line X.env=pure false:=by rfl):y'S X (.Expr e pos) (a0n te):=⟨L2.c7o he.h hs⟩
theorem G8{tg:Expr}{wi:TI}{g:TG}{body:List Stmt}(hp:d1U (model X.prog X.w) X.A X.env X.xe)(hc:X.calm=true)(hi:b5q X tg e wi)(hg:y'G X tg g)(hb:b2X X body t)
  (hs:∀x,X1 e X.env x=pure x:=by intro _;rfl):y'S X (.For tg e body [] pos) (a1R wi g t):=⟨L2.d0b hp hc hi.h hg.h hb.h hs⟩
theorem c2u{n:Nat}(hN:X.N.Nodup)(hi:X.N[n]? = some x)(hx:Loc X.env.scope x)(hf:X.fn x=true\/X.env.scope.names.lookup x=some .local:=by first | exact .inl rfl | exact .inr rfl):y'G X (.Name x pos) (t8 n):=⟨L2.b7l hN hi hx hf⟩
theorem a2e:c6M X [] b2j:=⟨L2.c1V⟩
theorem M4{g:TG}{gs:TGs}(h1:y'G X e g)(h2:c6M X es gs)(h:(a3W (e::es) X.env).map (·.2)=a9s e X.env::(a3W es X.env).map (·.2):=by rfl):c6M X (e::es) (a1y g gs):=⟨L2.b4t h1.h h2.h h⟩
theorem a3r{k n:Nat}{gs:TGs}(hc:X.calm=true)(h:c6M X es gs)(hn:(a3W es X.env).length=n:=by rfl)(hst:(a3W es X.env).findIdx? (·.1)=none:=by rfl):y'G X (.Tuple es k pos) (b2i X.K n gs):=⟨L2.c5n hc h.h hn hst⟩
theorem b0n{ts:b5Q}(ho:y'E X o to)(hi:y'E X i ti)(hs:b9Y X ts)
  (ha:∀v,a9s (.Subscript o i pos) X.env v=(do
   let ov <-a4c [v] (eval o X.env)
   let iv <-a4c [v,ov] (eval i X.env)
   b3F pos
   a4c [v,ov,iv] (c9t ov iv v)
   release [v,ov,iv] []):=by intro _;rfl):y'G X (.Subscript o i pos) (c1l to ti ts):=⟨L2.d0h ho.h hi.h hs.h ha⟩
theorem K0{tg:Expr}(hg:Gl X "range")(hm:X.mg "range" = none)(ha:y'A X [a] tr)(hs:l9 [a] X.env=[(false,eval a X.env)]:=by rfl):b5q X tg (.Call (.Name "range" p) [a] [] pos) (a2u tr):=⟨L2.c2R hg hm ha.h hs⟩
theorem C2{tg:Expr}(h:y'E X e te):b5q X tg e (O0 X.K te):=⟨L2.c7v h.h⟩
theorem T6:y'A X [] g8:=⟨L2.d0w⟩
theorem Q2(ha:y'E X e te)(hr:y'A X es tr)(hs:l9 (e::es) X.env=(false,eval e X.env)::l9 es X.env:=by rfl):y'A X (e::es) (b4 te tr):=⟨L2.c7G ha.h hr.h hs⟩
theorem E1:c2y X [] Q7:=⟨L2.c7k⟩
theorem a5l(h:y'T X e tt):c2y X [e] tt:=⟨L2.c7j h.h⟩
theorem E6{elt iter:Expr}{px:Pos}{ifs:List Expr}{scope:Scope}{wi:TI}(hc:L3 X.N X.env.scope scope x)(hcalm:X.calm=true)(hi:b5q X (.Name x px) iter wi)
  (ht:∀cl C fp s3 H3,c2y (a0y X scope cl C x fp s3 H3) ifs tt) (he:∀cl C fp s3 H3,y'E (a0y X scope cl C x fp s3 H3) elt te)
  (hs:∀x,X1 iter X.env x=pure x:=by intro _;rfl):y'E X (.ListComp elt [⟨.Name x px,iter,ifs,0⟩] scope pos) (O5 wi tt te):=
 ⟨L2.c7C hc hcalm hi.h (fun cl C fp s3 H3=>(ht cl C fp s3 H3).h) (fun cl C fp s3 H3=>(he cl C fp s3 H3).h) hs⟩
theorem a5c{elt iter:Expr}{px py spos:Pos}{ifs:List Expr}{scope:Scope}{wi:TI}{n:Nat}{y:Str}(hN:X.N.Nodup)(hiy:X.N[n]? = some y)(hy:X.env.scope.names.lookup y=some .local)(hc:L3 X.N X.env.scope scope x)(hcalm:X.calm=true)(hi:b5q X (.Name x px) iter wi)
  (ht:∀cl C fp s3 H3,c2y (a0y X scope cl C x fp s3 H3) ifs tt) (he:∀cl C fp s3 H3,y'E (a0y X scope cl C x fp s3 H3) elt te)
  (hsw:a3o (.ListComp elt [⟨.Name x px,iter,ifs,0⟩] scope pos) (some (.Name y py)) spos.line X.env=pure true:=by rfl)
  (hs:∀x,X1 iter X.env x=pure x:=by intro _;rfl) :
  y'S X (.Assign [.Name y py] (.ListComp elt [⟨.Name x px,iter,ifs,0⟩] scope pos) spos) (fun D σ H=>O5 wi tt te σ H fun v H1=>D.nx (σ.set n (some v)) H1):=
 ⟨L2.c0H hN hiy hy hc hcalm hi.h (fun cl C fp s3 H3=>(ht cl C fp s3 H3).h) (fun cl C fp s3 H3=>(he cl C fp s3 H3).h) hsw hs⟩
theorem c7{n:Int}{j}:y'E X (.Constant (.int n) j pos) (tC (.int n)):=⟨L2.d0r⟩
theorem M5{v:Bool}{j}:y'E X (.Constant (.bool v) j pos) (tC (.bl v)):=⟨L2.d2B⟩
theorem a8n{j}:y'E X (.Constant .none j pos) (tC .non):=⟨L2.d0o⟩
theorem G9{j}:y'E X (.Constant (.str x) j pos) (tC (.str x)):=⟨L2.d0k⟩
theorem b9(n:Nat)(hN:X.N[n]? = some x:=by rfl)(hv:Vis X.env.scope x:=by first | exact Or.inl rfl | exact Or.inr (Or.inl rfl) | exact Or.inr (Or.inr rfl))(hd:(x == ("__debug__" : Str))=false:=by decide)
  (hcd:(x == ("__classdict__" : Str))=false:=by decide):y'E X (.Name x pos) (b6 n):=⟨L2.d0i hN hv hd hcd⟩
theorem a0k{v:V}{u:Value}(hg:Gl X x)(hm:X.mg x=none)(hv:a3q x=some u)(r:K9 v u)(hn:x ≠ "__name__" := by decide)(hd:(x == ("__debug__" : Str))=false:=by decide):y'E X (.Name x pos) (tC v):=⟨L2.c7F hg hm hv r hn hd⟩
theorem O8{v:V}(hm:∃u,X.mg x=some u/\K9 v u)(hg:Gl X x)(hd:(x == ("__debug__" : Str))=false:=by decide):y'E X (.Name x pos) (tC v):=by
 obtain⟨u,h1,h2⟩:=hm
 exact⟨L2.c7A hg h1 h2 hd⟩
theorem L4{op:b5j}{r:R2}(ho:a0Z X (a1P op) r)(ha:y'E X a ta)(hb:y'E X b tb):y'E X (.BinOp a op b pos) (tOp r ta tb):=⟨L2.d2x ho.h ha.h hb.h⟩
theorem c1K{op:UnaryOp}{r:V->Hp->VK->Prop}(ho:c8T X (unaryOp op) r)(ha:y'E X a ta):y'E X (.UnaryOp op a pos) (tUn r ta):=⟨L2.d2v ho.h ha.h⟩
theorem a6L(ha:y'E X a ta):y'E X (.UnaryOp .Not a pos) (a8u ta):=⟨L2.d0n ha.h⟩
theorem a0A{op:CmpOp}{r:R2}(ho:a0Z X (A9 op) r)(ha:y'E X a ta)(hb:y'E X b tb)(hm:P5 op b=false):y'E X (.Compare a [op] [b] pos) (tOp r ta tb):=⟨L2.c7D ho.h ha.h hb.h hm⟩
theorem a3b{op:CmpOp}{r:R2}(ho:a0Z X (A9 op) r)(ha:y'E X a ta)(hb:y'E X b tb)(hm:P5 op b=false):y'T X (.Compare a [op] [b] pos) (F2 (tOp r ta tb)):=⟨L2.c7l ho.h ha.h hb.h hm⟩
theorem b3K{op op':CmpOp}{r r':R2}(ho:a0Z X (A9 op) r)(ho':a0Z X (A9 op') r')(ha:y'E X a ta)(hb:y'E X b tb)(hc:y'E X c tc)
  (hm:d1R [op,op'] [b,c]=false:=by with_unfolding_all rfl):y'E X (.Compare a [op,op'] [b,c] pos) (a8v r r' ta tb tc):=⟨L2.c5u ho.h ho'.h ha.h hb.h hc.h hm⟩
theorem b9W{op op':CmpOp}{r r':R2}(ho:a0Z X (A9 op) r)(ho':a0Z X (A9 op') r')(ha:y'E X a ta)(hb:y'E X b tb)(hc:y'E X c tc)
  (hm:d1R [op,op'] [b,c]=false:=by with_unfolding_all rfl):y'T X (.Compare a [op,op'] [b,c] pos) (F2 (a8v r r' ta tb tc)):=⟨L2.c5h ho.h ho'.h ha.h hb.h hc.h hm⟩
theorem T4{op}(h:y'E X a te):y'E X (.BoolOp op [a] pos) te:=⟨L2.d0m h.h⟩
theorem Q6(ha:y'E X a ta)(hb:y'E X (.BoolOp .And (b::more) pos) tb):y'E X (.BoolOp .And (a::b::more) pos) (a1w ta tb):=⟨L2.d0u ha.h hb.h⟩
theorem b3l(ha:y'E X a ta)(hb:y'E X (.BoolOp .Or (b::more) pos) tb):y'E X (.BoolOp .Or (a::b::more) pos) (b6K ta tb):=⟨L2.d2w ha.h hb.h⟩
theorem a4e(hc:y'T X c tt)(ha:y'E X a ta)(hb:y'E X b tb):y'E X (.IfExp c a b pos) (tIf tt ta tb):=⟨L2.c5q hc.h ha.h hb.h⟩
theorem Q4{k}(h:y'A X es tr):y'E X (.Tuple es k pos) (a4H tr):=⟨L2.d0j h.h⟩
theorem K5(h:y'A X es tr):y'E X (.List es pos) (a2x tr):=⟨L2.d0q h.h⟩
theorem a6K:y'O X none a4r:=⟨L2.c7t⟩
theorem a6J(h:y'E X e te):y'O X (some e) (a9A te):=⟨L2.c7s h.h⟩
theorem a5p{lo hi:Option Expr}{tl th:TO}{r:V->Option Int->Option Int->Hp->VK->Prop}(hr:c4o X r)(he:y'E X e te)(hl:y'O X lo tl)(hu:y'O X hi th):y'E X (.Subscript e (.Slice lo hi none p) pos) (tSl r te tl th):=⟨L2.c5o hr.h he.h hl.h hu.h⟩
theorem a7g{r:R2}(hr:c4p X r)(ha:y'E X a ta)(hb:y'E X b tb)(hs:b7U b):y'E X (.Subscript a b pos) (tOp r ta tb):=⟨L2.d2z hr.h ha.h hb.h hs⟩
theorem c4i{k j:Nat}{ps:List Str}{sp:Sp}(C:E7 X.prog X.w X.K X.mg X.base k x ps sp)(hr:V6 j X.A)(hk:k<=j)(hg:Gl X x)(ha:y'A X (e::es) tr)
  (hdb:(x == ("__debug__" : Str))=false:=by decide) (he:l9 (e::es) X.env=(false,eval e X.env)::l9 es X.env:=by rfl) (hpl:(a1f pos (l9 es X.env)).any (·.1)=false:=by rfl) :
  y'E X (.Call (.Name x p) (e::es) [] pos) (w4 sp [] E0 tr):=⟨L2.d0l C hr hk hg ha.h hdb he hpl⟩
theorem j6{id:String}{r:List V->Hp->VK->Prop}(hc:X6 X (.builtin id) r)(hg:Gl X x)(hm:X.mg x=none)(hv:a3q x=some (.builtin id))(ha:y'A X (e::es) tr)(hn:x ≠ "__name__" := by decide)(hdb:(x == ("__debug__" : Str))=false:=by decide)
  (he:l9 (e::es) X.env=(false,eval e X.env)::l9 es X.env:=by rfl) (hpl:(a1f pos (l9 es X.env)).any (·.1)=false:=by rfl):y'E X (.Call (.Name x p) (e::es) [] pos) (tCB r tr):=⟨L2.c5v hc.h hg hm hv ha.h hn hdb he hpl⟩
theorem F9{id:String}{r:List V->Hp->VK->Prop}(hc:X6 X (.type id) r)(hg:Gl X x)(hm:X.mg x=none)(hv:a3q x=some (.type id))(ha:y'A X (e::es) tr)(hn:x ≠ "__name__" := by decide)(hdb:(x == ("__debug__" : Str))=false:=by decide)
  (he:l9 (e::es) X.env=(false,eval e X.env)::l9 es X.env:=by rfl) (hpl:(a1f pos (l9 es X.env)).any (·.1)=false:=by rfl):y'E X (.Call (.Name x p) (e::es) [] pos) (tCB r tr):=⟨L2.c2S hc.h hg hm hv ha.h hn hdb he hpl⟩
theorem a0s{ty id:String}{name:Str}{r:V->List V->Hp->VK->Prop}{apos:Pos}(pa:c8R ty)(slot:Slot ty name id)(hty:typeOf (.builtin id)=pure (.type "method_descriptor"))(hm:b3M X id r)(ho:y'E X o to)(ha:y'A X (e::es) tr)
  (hbase:a2w o name X.env (eval o X.env)=eval o X.env:=by rfl)
  (hfew:((a1f pos (l9 (e::es) X.env)).all (fun x => !x.1)&&(a9r pos (a3p [] X.env)).all (fun x=>x.1.isSome)
   && decide ((e::es).length+([]:List b6A).length+(if([]:List b6A).isEmpty then 0 else 1)<30))=true:=by rfl)
  (hline:(apos.endLine == pos.line)=true:=by rfl) (hs:l9 (e::es) X.env=(false,eval e X.env)::l9 es X.env:=by rfl) (hplain:(a1f pos (l9 es X.env)).any (·.1)=false:=by rfl) :
  y'E X (.Call (.Attribute o name apos) (e::es) [] pos) (tBM X.K ty r to tr):=⟨L2.d2A pa slot hty hm.h ho.h ha.h hbase hfew hline hs hplain⟩
theorem M9(ha:y'T X a tt):y'T X (.UnaryOp .Not a pos) (a3X tt):=⟨L2.c9Y ha.h⟩
theorem a3a(ha:y'T X a tt):y'W X (.BoolOp .And [a] pos) tt:=⟨L2.c7g ha.h⟩
theorem Y6(ha:y'T X a tt):y'W X (.BoolOp .Or [a] pos) tt:=⟨L2.c9V ha.h⟩
theorem a2B(ha:y'T X a tt)(hb:y'W X (.BoolOp .And (b::more) pos) tu):y'W X (.BoolOp .And (a::b::more) pos) (b1C tt tu):=⟨L2.c9W ha.h hb.h⟩
theorem Y9(ha:y'T X a tt)(hb:y'W X (.BoolOp .Or (b::more) pos) tu):y'W X (.BoolOp .Or (a::b::more) pos) (tOr tt tu):=⟨L2.d2t ha.h hb.h⟩
theorem R1(h:y'W X e tt):y'T X e tt:=⟨PW.pt h.h⟩
theorem E2(h:y'E X e te)(he:∀whole,isTrue e X.env whole=(do let v <-whole;b3F e.pos;a4c [v] (truthy v)):=by intro _;rfl):y'T X e (tB te):=⟨L2.c9X h.h he⟩
theorem X3:a0Z X (a1P .Add) a5T:=⟨L2.c7P⟩
theorem b1u:a0Z X (a1P .Sub) c5b:=⟨L2.c7H⟩
theorem a6M:a0Z X (a1P .Mult) c0B:=⟨L2.c7J⟩
theorem a3d:a0Z X (a1P .Mod) b5B:=⟨L2.c7K⟩
theorem b5W:a0Z X (a1P .FloorDiv) c7f:=⟨L2.c7O⟩
theorem F3{k:Nat}(hr:V6 k X.A):a0Z X (A9 .Eq) qEq:=⟨L2.d0G hr.units0⟩
theorem a3s{k:Nat}(hr:V6 k X.A):a0Z X (A9 .NotEq) qNe:=⟨L2.d0z hr.units0⟩
theorem a1j:X6 X (.type "list") a6U:=⟨L2.c1x⟩
theorem a0Y:a0Z X (A9 .Lt) qLt:=⟨L2.d0A⟩
theorem b0o:a0Z X (A9 .LtE) qLe:=⟨L2.d0B⟩
theorem a3t:a0Z X (A9 .Gt) qGt:=⟨L2.d0E⟩
theorem c4n:a0Z X (A9 .GtE) qGe:=⟨L2.d0F⟩
theorem a5r:a0Z X (A9 .In) (qIn false):=⟨L2.d0D⟩
theorem c4m:a0Z X (A9 .Is) qIs:=⟨L2.d0C⟩
theorem b8n:a0Z X (A9 .IsNot) c0C:=⟨L2.c2U⟩
theorem a5Y:X6 X (.type "int") b8R:=⟨L2.c3E⟩
theorem a7h:y'E X (.Dict [] [] pos) a9E:=⟨L2.c5r⟩
theorem c4j{k:Nat}(hr:V6 k X.A)(hi:y'E X i ti)(ho:y'E X o to)(h1:P5 .In o=false):y'E X (.Compare i [.In] [o] pos) (b6L ti to):=⟨L2.c5t (L2.c5w (b4P hr) hi.h ho.h) h1⟩
theorem b8l{k:Nat}(hr:V6 k X.A)(hi:y'E X i ti)(ho:y'E X o to)(h1:P5 .In o=false):y'T X (.Compare i [.In] [o] pos) (tB (b6L ti to)):=⟨L2.b7j (L2.c5w (b4P hr) hi.h ho.h) h1⟩
theorem a2d{k:Nat}(hr:V6 k X.A)(ho:y'E X o to)(hi:y'E X i ti)(hv:y'E X e te)(hs:a3o e (some (.Subscript o i pos')) pos.line X.env=pure false:=by rfl):y'S X (.Assign [.Subscript o i pos'] e pos) (a3G to ti te):=⟨L2.c7p (b4P hr) ho.h hi.h hv.h hs⟩
theorem c4h{tg:Expr}(h:y'E X e te):b5q X tg e (c8q te):=⟨L2.d0g h.h⟩
theorem a8q(hc:X.calm=true):X6 X (.builtin "all") b5C:=⟨L2.c3G hc⟩
theorem b8k:c8T X (unaryOp .USub) (rU fun i=>.int (-i)):=⟨L2.c9w⟩
theorem c9v:c4p X qIx:=⟨L2.d3y⟩
theorem b6C:c4o X qSl:=⟨L2.d3k⟩
theorem c2s:c4o X (c9P X.K):=⟨L2.c1Q⟩
theorem b0l:b9Y X b5A:=⟨L2.d1X⟩
theorem c6K:c4r X c2O:=⟨L2.d2Q⟩
theorem a8p:c4q X .Add (ipI fun i j=>i+j):=⟨L2.d1h⟩
theorem u4:X6 X (.builtin "len") X9:=⟨L2.c3C⟩
theorem b8q:X6 X (.builtin "abs") c5g:=⟨L2.c3H⟩
theorem V9:X6 X (.builtin "isinstance") a8d:=⟨L2.c3D⟩
theorem P3:b3M X "list.append" Y0:=⟨L2.c1b⟩
theorem b9X:b3M X "str.join" b6i:=⟨L2.c5G⟩
end
theorem b8o{P:D4}{w:World}{K:Fg}{mg:Str->Option Value}{base:Heap}{x qual:Str}{st:Stmt}{f:Addr}{fd:a0w}{N ps:List Str}{k:Nat}{sp:Sp}(F:Fun K x qual st f fd)(y'S:u7 N ps (f6 st))(len:∀vs H Q y'E,sp vs H Q y'E->vs.length=ps.length)
  (hbody:∀(cdv:Value) (y'A:R3) (outer:List Env) (s:k8) (H:Hp) (vs:List V) (Q:VK) (y'E:XK),V6 k (y'A.deeper (b2A qual (f6 st) s.heap.objs.size f cdv))->sp vs H Q y'E ->
   ∃t,b2X (b4S CX0 P w K mg base N qual (f6 st) f cdv y'A outer s H y'E).nox (a0b st) t/\t { nx:=fun _ H'=>Q .non H',rt:=Q } (a8x N vs) H):F7 P w K mg base CX0 (k+1) f fd ps sp:=
 F.ok y'S len fun cdv y'A outer s H vs Q y'E hr h=>let⟨t,a,b⟩:=hbody cdv y'A outer s H vs Q y'E hr h; ⟨t,a.h,b⟩
end Y
namespace Y
open PySem PySem.Spec PyProof.Rows L2
section
variable {X:Cx}{st:Stmt}{a9f:List Stmt}{t u:TS}{e a b c o i:Expr}{es more:List Expr}{te ta tb tc to ti:TE}{tt tu:TT}{tr:TA}{pos p pos':Pos}{x y:Str}
theorem a3c{elts:List Expr}{x1}{tp:Pos}(hg:Gl X "enumerate")(hm:X.mg "enumerate" = none)(ha:y'A X [a] tr)(hs:l9 [a] X.env=[(false,eval a X.env)]:=by rfl) :
  b5q X (.Tuple elts x1 tp) (.Call (.Name "enumerate" p) [a] [] pos) (a7X X.K tr):=⟨L2.c7w hg hm ha.h hs⟩
theorem b3I{elts:List Expr}{x1}{tp:Pos}(hg:Gl X "zip")(hm:X.mg "zip" = none)(ha:y'A X [a,b] tr)(hs:l9 [a,b] X.env=[(false,eval a X.env),(false,eval b X.env)]:=by rfl)(hs2:l9 [b] X.env=[(false,eval b X.env)]:=by rfl) :
  b5q X (.Tuple elts x1 tp) (.Call (.Name "zip" p) [a,b] [] pos) (c3p X.K tr):=⟨L2.d0f hg hm ha.h hs hs2⟩
theorem b3J{elt iter:Expr}{px py pt:Pos}{kt}{ifs:List Expr}{scope:Scope}{wi:TI}(hc:a4A X.N X.env.scope scope x y)(hcalm:X.calm=true)(hi:b5q X (.Tuple [.Name x px,.Name y py] kt pt) iter wi)
  (ht:∀cl C fp s3 H3,c2y (V1 X scope cl C x y fp s3 H3) ifs tt) (he:∀cl C fp s3 H3,y'E (V1 X scope cl C x y fp s3 H3) elt te)
  (hs:∀x,X1 iter X.env x=pure x:=by intro _;rfl):y'E X (.ListComp elt [⟨.Tuple [.Name x px,.Name y py] kt pt,iter,ifs,0⟩] scope pos) (a7k X.K wi tt te):=
 ⟨L2.c5s hc hcalm hi.h (fun cl C fp s3 H3=>(ht cl C fp s3 H3).h) (fun cl C fp s3 H3=>(he cl C fp s3 H3).h) hs⟩
theorem a5o{body:List Stmt}(hp:d1U (model X.prog X.w) X.A X.env X.xe)(hc:y'T X c tt)(hb:b2X X body t):y'S X (.While c body [] pos) (a8t tt t):=⟨L2.c5j hp hc.h hb.h⟩
theorem a2Q{e c:Option Expr}:y'S X (.Raise e c pos) (fun _ _ _=>False):=⟨L2.c5k⟩
theorem C3{f:Str}(he:y'E X e te)(hb:a2w e f X.env (eval e X.env)=eval e X.env:=by rfl):y'E X (.Attribute e f pos) (Z1 X.K te f):=⟨L2.d0s he.h hb⟩
theorem Q3{f:Str}(ha:y'E X o to)(hv:y'E X e te)(hs:a3o e (some (.Attribute o f pos')) pos.line X.env=pure false:=by rfl):y'S X (.Assign [.Attribute o f pos'] e pos) (a5h X.K to te f):=⟨L2.d0c ha.h hv.h hs⟩
theorem c6J{k j:Nat}{C:Addr}{ps:List Str}{sp:Sp}(M:a9D X.prog X.w X.K X.mg X.base k x C ps sp)(hr:V6 j X.A)(hk:k+1<=j)(hg:Gl X x)(ha:y'A X (e::es) tr)
  (hdb:(x == ("__debug__" : Str))=false:=by decide) (he:l9 (e::es) X.env=(false,eval e X.env)::l9 es X.env:=by rfl) (hpl:(a1f pos (l9 es X.env)).any (·.1)=false:=by rfl) :
  y'E X (.Call (.Name x p) (e::es) [] pos) (a5x C sp [] E0 tr):=⟨L2.d2y M hr hk hg ha.h hdb he hpl⟩
theorem Q5{pl:Sem Bool}{k j:Nat}{m:Str}{C:Addr}{ps:List Str}{sp:Sp}{apos:Pos}(M:W4 X.prog X.w X.K X.mg X.base k m C ps sp)(hr:V6 j X.A)(hk:k<=j)(ho:y'E X o to)(ha:y'A X (e::es) tr)
  (hst:l9 (e::es) X.env=(false,eval e X.env)::l9 es X.env:=by rfl) (hpl:(a1f pos (l9 es X.env)).any (·.1)=false:=by rfl)
  (ht:eval (.Call (.Attribute o m apos) (e::es) [] pos) X.env=(do
   let ov <-eval o X.env
   b3F apos.atName
   let(f,first) <-a4c [ov] (b0k ov m pl)
   c3V pos f first (a1f pos (l9 (e::es) X.env)) (a9r pos (a3p [] X.env))):=by rfl) :
  y'E X (.Call (.Attribute o m apos) (e::es) [] pos) (W0 C m sp [] E0 to tr):=⟨L2.d0p (pl:=pl) M hr hk ho.h ha.h hst hpl ht⟩
theorem a4d{pl:Sem Bool}{k j:Nat}{m:Str}{C:Addr}{ps:List Str}{sp:Sp}{apos:Pos}(M:W4 X.prog X.w X.K X.mg X.base k m C ps sp)(hr:V6 j X.A)(hk:k<=j)(ho:y'E X o to)
  (ht:eval (.Call (.Attribute o m apos) [] [] pos) X.env=(do
   let ov <-eval o X.env
   b3F apos.atName
   let(f,first) <-a4c [ov] (b0k ov m pl)
   c3V pos f first (a1f pos (l9 [] X.env)) (a9r pos (a3p [] X.env))):=by rfl) :
  y'E X (.Call (.Attribute o m apos) [] [] pos) (W0 C m sp [] E0 to g8):=⟨L2.c7x (pl:=pl) M hr hk ho.h ht⟩
theorem c4k{ty id:String}{name:Str}{r:V->List V->Hp->VK->Prop}{apos:Pos}(pa:c8R ty)(slot:Slot ty name id)(hty:typeOf (.builtin id)=pure (.type "method_descriptor"))(hm:b3M X id r)(ho:y'E X o to)
  (hbase:a2w o name X.env (eval o X.env)=eval o X.env:=by rfl) (hline:(apos.endLine == pos.line)=true:=by rfl):y'E X (.Call (.Attribute o name apos) [] [] pos) (c6P X.K ty r to):=⟨L2.d0t pa slot hty hm.h ho.h hbase hline⟩
structure c6L(X:Cx)(pos:Pos)(ks:List (Option Expr))(vs:List Expr)(trs:List (TE×TE)):Prop where h:PPs X pos ks vs trs
theorem b5U:c6L X pos [] [] []:=⟨L2.c7r⟩
theorem b3H{ks:List (Option Expr)}{vs:List Expr}{trs:List (TE×TE)}(hk:y'E X a ta)(hv:y'E X b tb)(hr:c6L X pos ks vs trs):c6L X pos (some a::ks) (b::vs) ((ta,tb)::trs):=⟨L2.c5l hk.h hv.h hr.h⟩
theorem b5V{keys:List (Option Expr)}{values:List Expr}{trs:List (TE×TE)}(h:c6L X pos keys values trs)(hall:keys.all (·.isSome)=true:=by rfl)(hl:keys.length=values.length:=by rfl)(h0:keys≠[]:=by intro z;cases z)
  (h15:keys.length<=15:=by decide):y'E X (.Dict keys values pos) (b8y trs):=⟨L2.c7B h.h hall hl h0 h15⟩
theorem a8o{k:Nat}(hr:V6 k X.A)(hi:y'E X i ti)(ho:y'E X o to)(h1:P5 .NotIn o=false):y'E X (.Compare i [.NotIn] [o] pos) (a0T ti to):=⟨L2.c5t (L2.b6j (b4P hr) hi.h ho.h) h1⟩
theorem a1g{k:Nat}(hr:V6 k X.A)(hi:y'E X i ti)(ho:y'E X o to)(h1:P5 .NotIn o=false):y'T X (.Compare i [.NotIn] [o] pos) (tB (a0T ti to)):=⟨L2.b7j (L2.b6j (b4P hr) hi.h ho.h) h1⟩
theorem b2C(hc:X.calm=true):X6 X (.builtin "min") c2N:=⟨L2.c3B hc⟩
theorem b8p(hc:X.calm=true):X6 X (.builtin "any") c0F:=⟨L2.c3F hc⟩
theorem b3L:X6 X (.builtin "sorted") a8V:=⟨L2.b7H⟩
theorem a2C(hc:X.calm=true):X6 X (.type "list") a4j:=⟨L2.b9H hc⟩
theorem b6E:X6 X (.builtin "isinstance") (c5d X.K):=⟨L2.c1z⟩
theorem b2B:b3M X "list.index" a7w:=⟨L2.c3e⟩
theorem b0p:b3M X "list.extend" a7x:=⟨L2.c1a⟩
theorem c2w:b3M X "list.pop" c2L:=⟨L2.c8f⟩
theorem b1w{k:Nat}(hr:V6 k X.A):a0Z X (A9 .Eq) (c2P X.K):=⟨L2.c7N hr⟩
theorem a8N{k:Nat}(hr:V6 k X.A):a0Z X (A9 .NotEq) (c2M X.K):=⟨L2.c7I hr⟩
theorem b6D:X6 X (.builtin "len") (c5c X.K):=⟨L2.c1y⟩
theorem c2v:a0Z X (A9 .In) (c9U X.K):=⟨L2.c7M⟩
theorem a8O:c4p X (b8Q X.K):=⟨L2.d2O⟩
end
end Y
namespace Y
open PySem PySem.Spec PyProof.Rows L2
theorem b5m{X:Cx}{elt iter:Expr}{px py2 pt py spos pos:Pos}{kt:Nat}{ifs:List Expr}{scope:Scope}{x x2:Str}{wi:TI}{tt:TT}{te:TE}{n:Nat}{y:Str}(hN:X.N.Nodup)(hiy:X.N[n]? = some y)(hy:X.env.scope.names.lookup y=some .local)(hc:a4A X.N X.env.scope scope x x2)(hcalm:X.calm=true)(hi:b5q X (.Tuple [.Name x px,.Name x2 py2] kt pt) iter wi)
  (ht:∀cl C fp s3 H3,c2y (V1 X scope cl C x x2 fp s3 H3) ifs tt) (he:∀cl C fp s3 H3,y'E (V1 X scope cl C x x2 fp s3 H3) elt te)
  (hsw:a3o (.ListComp elt [⟨.Tuple [.Name x px,.Name x2 py2] kt pt,iter,ifs,0⟩] scope pos) (some (.Name y py)) spos.line X.env=pure true:=by rfl)
  (hs:∀x,X1 iter X.env x=pure x:=by intro _;rfl) :
  y'S X (.Assign [.Name y py] (.ListComp elt [⟨.Tuple [.Name x px,.Name x2 py2] kt pt,iter,ifs,0⟩] scope pos) spos) (fun D σ H=>a7k X.K wi tt te σ H fun v H1=>D.nx (σ.set n (some v)) H1):=
 ⟨L2.b8T hN hiy hy hc hcalm hi.h (fun cl C fp s3 H3=>(ht cl C fp s3 H3).h) (fun cl C fp s3 H3=>(he cl C fp s3 H3).h) hsw hs⟩
end Y
namespace Y
open PySem PySem.Spec PyProof.Rows L2
theorem b5p{X:Cx}(hc:X.calm=true):X6 X (.type "dict") b7i:=⟨L2.b9K hc⟩
end Y
namespace Y
open PySem PySem.Spec PyProof.Rows L2
end Y
namespace Y
open PySem PySem.Spec PyProof.Rows L2
end Y
namespace Y
open PySem PySem.Spec PyProof.Rows L2
end Y
namespace Y
open PySem PySem.Spec PyProof.Rows L2
section
variable {X:Cx}{e0 e1 e2 e3 e4:Expr}{t0 t1 t2 t3 t4:TE}
theorem j7(h0:y'E X e0 t0)(s0:l9 [e0] X.env=(false,eval e0 X.env)::l9 [] X.env:=by rfl):y'A X [e0] (b4 t0 g8):=(Q2 h0 T6 s0)
theorem A7(h0:y'E X e0 t0)(h1:y'E X e1 t1)(s0:l9 [e0,e1] X.env=(false,eval e0 X.env)::l9 [e1] X.env:=by rfl)(s1:l9 [e1] X.env=(false,eval e1 X.env)::l9 [] X.env:=by rfl):y'A X [e0,e1] (b4 t0 (b4 t1 g8)):=(Q2 h0 (Q2 h1 T6 s1) s0)
theorem a5X(h0:y'E X e0 t0)(h1:y'E X e1 t1)(h2:y'E X e2 t2)(s0:l9 [e0,e1,e2] X.env=(false,eval e0 X.env)::l9 [e1,e2] X.env:=by rfl)(s1:l9 [e1,e2] X.env=(false,eval e1 X.env)::l9 [e2] X.env:=by rfl)(s2:l9 [e2] X.env=(false,eval e2 X.env)::l9 [] X.env:=by rfl):y'A X [e0,e1,e2] (b4 t0 (b4 t1 (b4 t2 g8))):=(Q2 h0 (Q2 h1 (Q2 h2 T6 s2) s1) s0)
theorem b8m(h0:y'E X e0 t0)(h1:y'E X e1 t1)(h2:y'E X e2 t2)(h3:y'E X e3 t3)(s0:l9 [e0,e1,e2,e3] X.env=(false,eval e0 X.env)::l9 [e1,e2,e3] X.env:=by rfl)(s1:l9 [e1,e2,e3] X.env=(false,eval e1 X.env)::l9 [e2,e3] X.env:=by rfl)(s2:l9 [e2,e3] X.env=(false,eval e2 X.env)::l9 [e3] X.env:=by rfl)(s3:l9 [e3] X.env=(false,eval e3 X.env)::l9 [] X.env:=by rfl):y'A X [e0,e1,e2,e3] (b4 t0 (b4 t1 (b4 t2 (b4 t3 g8)))):=(Q2 h0 (Q2 h1 (Q2 h2 (Q2 h3 T6 s3) s2) s1) s0)
theorem c4l(h0:y'E X e0 t0)(h1:y'E X e1 t1)(h2:y'E X e2 t2)(h3:y'E X e3 t3)(h4:y'E X e4 t4)(s0:l9 [e0,e1,e2,e3,e4] X.env=(false,eval e0 X.env)::l9 [e1,e2,e3,e4] X.env:=by rfl)(s1:l9 [e1,e2,e3,e4] X.env=(false,eval e1 X.env)::l9 [e2,e3,e4] X.env:=by rfl)(s2:l9 [e2,e3,e4] X.env=(false,eval e2 X.env)::l9 [e3,e4] X.env:=by rfl)(s3:l9 [e3,e4] X.env=(false,eval e3 X.env)::l9 [e4] X.env:=by rfl)(s4:l9 [e4] X.env=(false,eval e4 X.env)::l9 [] X.env:=by rfl):y'A X [e0,e1,e2,e3,e4] (b4 t0 (b4 t1 (b4 t2 (b4 t3 (b4 t4 g8))))):=(Q2 h0 (Q2 h1 (Q2 h2 (Q2 h3 (Q2 h4 T6 s4) s3) s2) s1) s0)
end
end Y
local macro_rules | `(tactic| walk_at "sc") => `(tactic| exact ⟨rfl, rfl, rfl, by decide +kernel, rfl, by decide +kernel, by decide +kernel⟩)
namespace Y
open PySem PySem.Spec PyProof.Rows L2
section
variable {X:Cx}{e a b o:Expr}{es:List Expr}{te ta tb to:TE}{tr:TA}{pos p pos':Pos}{x:Str}
theorem A1(n:Nat)(hN:X.N.Nodup)(he:y'E X e te)(hi:X.N[n]? = some x:=by rfl)(hx:Loc X.env.scope x:=by first | exact Or.inl rfl | exact Or.inr rfl)(hs:a3o e (some (.Name x pos')) pos.line X.env=pure false:=by rfl)(hf:X.fn x=true\/X.env.scope.names.lookup x=some .local:=by first | exact .inl rfl | exact .inr rfl) :
  y'S X (.Assign [.Name x pos'] e pos) (G0 te (t8 n)):=c4g hN hi hx he hs hf
theorem L1(n:Nat)(hN:X.N.Nodup)(hi:X.N[n]? = some x:=by rfl)(hx:Loc X.env.scope x:=by first | exact Or.inl rfl | exact Or.inr rfl)(hf:X.fn x=true\/X.env.scope.names.lookup x=some .local:=by first | exact .inl rfl | exact .inr rfl):y'G X (.Name x pos) (t8 n):=c2u hN hi hx hf
theorem p9{k j:Nat}{ps:List Str}{sp:Sp}(C:E7 X.prog X.w X.K X.mg X.base k x ps sp)(hr:V6 j X.A)(ha:y'A X (e::es) tr)(hk:k<=j:=by decide)(hg:Gl X x:=by rfl)
  (hdb:(x == ("__debug__" : Str))=false:=by decide) (he:l9 (e::es) X.env=(false,eval e X.env)::l9 es X.env:=by rfl) (hpl:(a1f pos (l9 es X.env)).any (·.1)=false:=by rfl) :
  y'E X (.Call (.Name x p) (e::es) [] pos) (w4 sp [] E0 tr):=c4i C hr hk hg ha hdb he hpl
theorem b1t{k j:Nat}{C:Addr}{ps:List Str}{sp:Sp}(M:a9D X.prog X.w X.K X.mg X.base k x C ps sp)(hr:V6 j X.A)(ha:y'A X (e::es) tr)(hk:k+1<=j:=by decide)(hg:Gl X x:=by rfl)
  (hdb:(x == ("__debug__" : Str))=false:=by decide) (he:l9 (e::es) X.env=(false,eval e X.env)::l9 es X.env:=by rfl) (hpl:(a1f pos (l9 es X.env)).any (·.1)=false:=by rfl) :
  y'E X (.Call (.Name x p) (e::es) [] pos) (a5x C sp [] E0 tr):=c6J M hr hk hg ha hdb he hpl
theorem v0(ha:y'E X a ta)(hb:y'E X b tb)(hs:b7U b:=by exact fun _ _=>rfl):y'E X (.Subscript a b pos) (tOp qIx ta tb):=a7g c9v ha hb hs
theorem a5q{op:CmpOp}{r:R2}(ho:a0Z X (A9 op) r)(ha:y'E X a ta)(hb:y'E X b tb)(hm:P5 op b=false:=by exact a7F _):y'E X (.Compare a [op] [b] pos) (tOp r ta tb):=a0A ho ha hb hm
theorem E5{op:CmpOp}{r:R2}(ho:a0Z X (A9 op) r)(ha:y'E X a ta)(hb:y'E X b tb)(hm:P5 op b=false:=by exact a7F _):y'T X (.Compare a [op] [b] pos) (F2 (tOp r ta tb)):=a3b ho ha hb hm
end
end Y
namespace Y
open PySem PySem.Spec PyProof.Rows L2
section
variable {X:Cx}{e o i:Expr}{te to ti:TE}{t:TS}{pos p:Pos}{k:Nat}
end
end Y
namespace Y
open PySem PySem.Spec PyProof.Rows L2
theorem b6F{X:Cx}:X6 X (.builtin "isinstance") (c5e X.K):=⟨L2.c1A⟩
end Y
namespace Y
open PySem PySem.Spec PyProof.Rows L2
section
variable {X:Cx}{i o:Expr}{ti to:TE}{pos:Pos}{k:Nat}
theorem c4f(hr:V6 k X.A)(hi:y'E X i ti)(ho:y'E X o to)(h1:P5 .In o=false):y'T X (.Compare i [.In] [o] pos) (tB (b5r X.K false ti to)):=⟨L2.b7j (L2.d0v (b4P hr) hi.h ho.h) h1⟩
theorem a8l(hr:V6 k X.A)(hi:y'E X i ti)(ho:y'E X o to)(h1:P5 .NotIn o=false):y'T X (.Compare i [.NotIn] [o] pos) (tB (b5r X.K true ti to)):=⟨L2.b7j (L2.c2T (b4P hr) hi.h ho.h) h1⟩
theorem a9u(hc:X.calm=true):X6 X (.type "list") (b4r X.K):=⟨L2.b9G hc⟩
theorem b5n(hc:X.calm=true)(hr:V6 k X.A):X6 X (.type "dict") (b7h X.K):=⟨L2.b2S hc (by have:=hr.un;omega)⟩
theorem b1v(hr:V6 k X.A):a0Z X (A9 .In) (c0D X.K false):=⟨L2.c7L (by have:=hr.units;show X.A.units+1<cLine;omega)⟩
end
end Y
namespace Y
open PySem PySem.Spec PyProof.Rows L2
end Y
namespace Y
open PySem PySem.Spec PyProof.Rows L2
theorem b5o{X:Cx}{k:Nat}(hc:X.calm=true)(hr:V6 k X.A):X6 X (.type "dict") (c0E X.K):=⟨L2.b9I hc (by have:=hr.un;omega)⟩
end Y
namespace Y
open PySem PySem.Spec PyProof.Rows L2
theorem c2x{P:D4}{w:World}{K:Fg}{mg:Str->Option Value}{base:Heap}{x qual:Str}{st:Stmt}{y'T f:Addr}{fd:a0w}{N ps:List Str}{k:Nat}{sp:Sp}(F:b9O K x qual st y'T f fd)(y'S:u7 N ps (f6 st))(len:∀vs H Q y'E,sp vs H Q y'E->vs.length=ps.length)
  (hbody:∀(cdv:Value) (y'A:R3) (outer:List Env) (s:k8) (H:Hp) (vs:List V) (Q:VK) (y'E:XK),V6 k (y'A.deeper (b2A qual (f6 st) s.heap.objs.size f cdv))->sp vs H Q y'E ->
   ∃t,b2X (b4S CX0 P w K mg base N qual (f6 st) f cdv y'A outer s H y'E).nox (a0b st) t/\t { nx:=fun _ H'=>Q .non H',rt:=Q } (a8x N vs) H):F7 P w K mg base CX0 (k+1) f fd ps sp:=
 F.ok y'S len fun cdv y'A outer s H vs Q y'E hr h=>let⟨t,a,b⟩:=hbody cdv y'A outer s H vs Q y'E hr h; ⟨t,a.h,b⟩
end Y
namespace Y
open PySem PySem.Spec PyProof.Rows L2
theorem b0q{X:Cx}(hc:X.calm=true):X6 X (.builtin "min") b4q:=⟨L2.c1w hc⟩
theorem a5d{X:Cx}(hc:X.calm=true):X6 X (.builtin "sum") a9B:=⟨L2.c1v hc⟩
end Y
namespace RD
open PySem PySem.Spec L2
variable{C a b cx d dd dx la na p rx w wx:Addr}{H H' H0 H1:Hp}{o:HO}{ds xs ys:List V}{D:b1m}{σ:St}{ta te ti to:TE}{tt:TT}{Q:VK}{v:V}{e i j m n t u:Nat}{z:Str}{L Y ks l:List Nat}{QD:Hp->Prop}{R:It->Hp->Prop}{M N:Nt}{ns:List Int}{as rs:List Addr}{Z:Addr->Prop}{Do:Nat->Bool}{kvs:List (Key×V)}{neg:Bool}
def E8(b:Addr)(H H':Hp):Prop:=(∀a o,H a=some o->a≠b->H' a=some o)/\∀o,H b=some o->∃o',H' b=some o'
theorem E8.refl(b:Addr)(H:Hp):E8 b H H:=⟨fun _ _ h _=>h,fun o h=>⟨o,h⟩⟩
theorem E8.trans{H2:Hp}(x:E8 b H H1)(y:E8 b H1 H2):E8 b H H2:=
 ⟨fun a o h n=>y.1 a o (x.1 a o h n) n,fun o h=>let⟨o',h'⟩:=x.2 o h;y.2 o' h'⟩
theorem E8.upd(b:Addr)(H:Hp)(o:HO):E8 b H (upd H b o):=⟨fun a u h n=>by rw[g9 n];exact h,fun _ _=>⟨o,c8⟩⟩
theorem E8.new(h:H p=none):E8 b H (L2.upd H p o):=
 ⟨fun a u e _=>by rw[g9 (c9 e h)];exact e,fun u e=>⟨u,by rw[g9 (c9 e h)];exact e⟩⟩
theorem E8.of_same(s:i9 H H'):E8 b H H':=⟨fun a o h _=>s a o h,fun o h=>⟨o,s _ _ h⟩⟩
theorem z6(h:H p=none):i9 H (L2.upd H p o):=fun a u e=>by rw[g9 (c9 e h)];exact e
theorem E8.none(k:E8 b H H')(h:H' p=Option.none):H p=Option.none:=by
 cases e:H p with
 | none=>rfl
 | some o=>
  by_cases z:p=b
  ·subst z
   obtain⟨o',h'⟩:=k.2 o e
   rw[h]at h'
   cases h'
  ·rw[k.1 p o e z]at h
   cases h
theorem E8.tup{b a:Addr}{H H':Hp}{xs ys:List V}(k:E8 b H H')(hb:H b=some (.lst ys))(h:H a=some (.tup xs)):H' a=some (.tup xs):=
 k.1 a _ h (N8 h hb (by intro z;cases z))
structure Bag(H:Hp)(b c:Addr):Prop where
 ex:∃(i0 i1 i2:Int) (ns:List Int),H b=some (.lst [.int i0,.int i1,.int i2,.ref c])/\H c=some (.lst (ns.map V.int))/\0<=i0/\0<=i1/\i1<2147483647/\0<=i2/\∀x∈ns,0<=x
theorem Bag.lst{H:Hp}{b c:Addr}(h:Bag H b c):∃xs,H b=some (.lst xs):=by
 obtain⟨i0,i1,i2,ns,h,_⟩:=h.ex
 exact⟨_,h⟩
theorem Bag.same{c:Addr}(h:Bag H b c)(s:i9 H H'):Bag H' b c:=by
 obtain⟨i0,i1,i2,ns,h1,h2,r⟩:=h.ex
 exact⟨i0,i1,i2,ns,s _ _ h1,s _ _ h2,r⟩
theorem Bag.new{c:Addr}(h:Bag H b c)(n:H p=none):Bag (L2.upd H p o) b c:=h.same (z6 n)
theorem Bag.put{c:Addr}(h:Bag H b c)(n1:p≠b)(n2:p≠c):Bag (L2.upd H p o) b c:=by
 obtain⟨i0,i1,i2,ns,h1,h2,r⟩:=h.ex
 exact⟨i0,i1,i2,ns,by rw[g9 n1.symm];exact h1,by rw[g9 n2.symm];exact h2,r⟩
theorem Bag.nb{c:Addr}(h:Bag H b c)(n:H p=none):p≠b/\p≠c:=by
 obtain⟨i0,i1,i2,ns,h1,h2,r⟩:=h.ex
 exact⟨(c9 h1 n).symm,(c9 h2 n).symm⟩
theorem E8.put(k:E8 b H H')(n:H p=Option.none):E8 b H (L2.upd H' p o):=
 ⟨fun a u e z=>by rw[g9 (c9 e n)];exact k.1 a u e z,fun u e=>by
  obtain⟨o',h⟩:=k.2 u e
  exact⟨o',by rw[g9 (c9 e n)];exact h⟩⟩
theorem a3k{α:Type}(a:α)(r:List α):atI (a::r) 0=some a:=by
 have := @a0v α (a::r) 0 a rfl
 simpa using this
theorem b1h{α:Type}(a b:α)(r:List α):atI (a::b::r) 1=some b := @a0v α (a::b::r) 1 b rfl
theorem c6s{α:Type}(a b c:α)(r:List α):atI (a::b::c::r) 2=some c := @a0v α (a::b::c::r) 2 c rfl
theorem d2V{α:Type}(a b c d:α)(r:List α):atI (a::b::c::d::r) 3=some d := @a0v α (a::b::c::d::r) 3 d rfl
theorem a7P{α:Type}{xs:List α}{i:Int}(h0:0<=i)(h1:i<xs.length):∃v,atI xs i=some v/\xs[i.toNat]? = some v:=by
 have hl:i.toNat<xs.length:=by omega
 have e:xs[i.toNat]? = some (xs[i.toNat]'hl):=by simp[hl]
 refine⟨_,?_,e⟩
 have:=a0v e
 rwa [Int.toNat_of_nonneg h0]at this
section
variable {t u:TS}{tb tc:TE}{tu:TT}{tr:TA}{QB:Bool->Hp->Prop}{QA:List V->Hp->Prop}{QO:Option Int->Hp->Prop}{x y:V}{i j:Int}{r r':R2}{K:Fg}
theorem K6(h:t { D with nx:=u D } σ H):v6 t u D σ H:=h
theorem a5a{P:St->Hp->Prop}(tail:∀σ H,P σ H->u D σ H)(main:∀nx:St->Hp->Prop,(∀σ H,P σ H->nx σ H)->t { D with nx:=nx } σ H):v6 t u D σ H:=main _ tail
theorem b4o{g:TG}(h:te σ H fun x H1=>g x σ H1 D.nx):G0 te g D σ H:=h
theorem b7d{QS:St->Hp->Prop}(h:QS (σ.set n (some v)) H):t8 n v σ H QS:=h
theorem c9K{QS:St->Hp->Prop}{ts:b5Q}(h:to σ H fun o H1=>ti σ H1 fun i H2=>ts o i v H2 fun H3=>QS σ H3):c1l to ti ts v σ H QS:=h
theorem c4N(h:te σ H D.rt):G6 te D σ H:=h
theorem c0x(h:te σ H fun _ H1=>D.nx σ H1):a0n te D σ H:=h
theorem d2g(h:tt σ H fun b H1=>if b=true then t D σ H1 else u D σ H1):O3 tt t u D σ H:=h
theorem b6Z(h:D.nx σ H):F0 D σ H:=h
theorem c9F(h:te σ H fun x H'=>∃k,x=.bl k/\QB k H'):F2 te σ H QB:=h
theorem c9G(h:te σ H fun x H'=>∃k,x=.bl k/\QB k H'):tB te σ H QB:=h
theorem d2c(h:tt σ H fun c H1=>QB (!c) H1):a3X tt σ H QB:=h
theorem d2j(h:tt σ H fun c H1=>if c=true then tu σ H1 QB else QB false H1):b1C tt tu σ H QB:=h
theorem d3o(h:tt σ H fun c H1=>if c=true then QB true H1 else tu σ H1 QB):tOr tt tu σ H QB:=h
theorem c9M(h:ta σ H fun x H1=>∃c,x=.bl c/\if c=true then tb σ H1 Q else Q (.bl false) H1):a1w ta tb σ H Q:=h
theorem d2b(h:ta σ H fun x H1=>∃c,x=.bl c/\if c=true then Q (.bl true) H1 else tb σ H1 Q):b6K ta tb σ H Q:=h
theorem c9I(h:ta σ H fun x H1=>∃c,x=.bl c/\Q (.bl (!c)) H1):a8u ta σ H Q:=h
theorem d2f(h:tt σ H fun c H1=>if c=true then ta σ H1 Q else tb σ H1 Q):tIf tt ta tb σ H Q:=h
theorem b8K(h:ta σ H fun x H1=>tb σ H1 fun y H2=>r x y H2 Q):tOp r ta tb σ H Q:=h
theorem c7c(h:ta σ H fun x H1=>tb σ H1 fun y H2=>r x y H2 fun z H3=>∃k,z=.bl k/\(if k=true then tc σ H3 fun w' H4=>r' y w' H4 Q else Q (.bl false) H3)):a8v r r' ta tb tc σ H Q:=h
theorem d3m{f:V->Hp->VK->Prop}(h:ta σ H fun x H1=>f x H1 Q):tUn f ta σ H Q:=h
theorem d2d(h:Q (.int (-i)) H):rU (fun i=>.int (-i)) (.int i) H Q:=⟨i,rfl,h⟩
theorem X2(e:σ[n]? = some (some v))(h:Q v H):b6 n σ H Q:=⟨v,e,h⟩
theorem s_c(h:Q v H):tC v σ H Q:=h
theorem Z9(h:te σ H fun x H1=>tr σ H1 fun xs H2=>QA (x::xs) H2):b4 te tr σ H QA:=h
theorem a6h(h:QA [] H):g8 σ H QA:=h
theorem b4n{sp:Sp}{E:XK}(h:tr σ H fun vs H1=>sp (vs++[]) H1 Q E):w4 sp [] E tr σ H Q:=h
theorem c4S{f:List V->Hp->VK->Prop}(h:tr σ H fun vs H1=>f vs H1 Q):tCB f tr σ H Q:=h
def New(o:HO)(n:Nat)(H:Hp)(Q:VK):Prop:=n<=u6/\∀p,H p=none->Q (.ref p) (upd H p o)
theorem L6(hl:n<=100000)(h:∀p H',H p=none->H' p=some o->i9 H H'->Q (.ref p) H'):New o n H Q:=
 ⟨D9 hl (by rw[a7d];decide),fun p hp=>h p _ hp c8 (z6 hp)⟩
theorem c8Z(h:tr σ H fun xs H1=>New (.tup xs) xs.length H1 Q):a4H tr σ H Q:=h
theorem d2e(h:tr σ H fun xs H1=>New (.lst xs) xs.length H1 Q):a2x tr σ H Q:=h
theorem d3n{f:V->Option Int->Option Int->Hp->VK->Prop}{tl th:TO}(h:te σ H fun x H1=>tl σ H1 fun l H2=>th σ H2 fun u H3=>f x l u H3 Q):tSl f te tl th σ H Q:=h
theorem c9H(h:te σ H fun x H1=>∃i,x=.int i/\QO (some i) H1):a9A te σ H QO:=h
theorem c4O(h:QO none H):a4r σ H QO:=h
theorem c0t(h:QB true H):Q7 σ H QB:=h
theorem a8c{f:V->List V->Hp->VK->Prop}(h:to σ H fun x H1=>tyV K "list" x H1/\tr σ H1 fun xs H2=>f x xs H2 Q):tBM K "list" f to tr σ H Q:=h
theorem d2h{s:Str}{f:V->List V->Hp->VK->Prop}(h:tr σ H fun xs H2=>f (.str s) xs H2 Q):tBM K "str" f (tC (.str s)) tr σ H Q:=⟨rfl,h⟩
theorem c9L{tget:V->V->Hp->VK->Prop}{tip:TIp}{tset:b5Q}(h:to σ H fun o H1=>ti σ H1 fun i H2=>tget o i H2 fun x H3=>te σ H3 fun y H4=>tip x y H4 fun z H5=>tset o i z H5 fun H6=>D.nx σ H6):c1P to ti te tget tip tset D σ H:=h
theorem d2r(h:Q (.int (i+j)) H):a5T (.int i) (.int j) H Q:=h
theorem c4Z{a b:Str}(hl:a.length+b.length<=u6)(h:Q (.str (a++b)) H):a5T (.str a) (.str b) H Q:=⟨hl,h⟩
theorem c5a(ha:H a=some (.lst xs))(hb:H b=some (.lst ys))(h:New (.lst (xs++ys)) (xs.length+ys.length) H Q):a5T (.ref a) (.ref b) H Q:=by
 unfold a5T
 simp only[ha,hb]
 exact h
theorem c9T{g:Int->Int->V}(h:Q (g i j) H):b8S g (.int i) (.int j) H Q:=h
theorem a6T{C:Int->Int->Prop}{g:Int->Int->V}(hc:C i j)(h:Q (g i j) H):q2I C g (.int i) (.int j) H Q:=⟨hc,h⟩
theorem d3t{f:Int->Int->Int}(h:Q (.int (f i j)) H):ipI f (.int i) (.int j) H Q:=⟨i,j,rfl,rfl,h⟩
theorem J1(hp:H p=some (.lst xs))(he:atI xs i=some v)(h:Q v H):qIx (.ref p) (.int i) H Q:=by
 unfold qIx
 simp only[hp]
 exact⟨v,he,h⟩
theorem a0g(hp:H p=some (.tup xs))(he:atI xs i=some v)(h:Q v H):qIx (.ref p) (.int i) H Q:=by
 unfold qIx
 simp only[hp]
 exact⟨v,he,h⟩
theorem c4X{c:Nat}(hz:z.length<=u6)(he:atI z.cps.toList i=some c)(h:Q (.str ⟨#[c]⟩) H):qIx (.str z) (.int i) H Q:=⟨hz,c,he,h⟩
theorem b8O{QH:Hp->Prop}{k:Nat}(hp:H p=some (.lst xs))(he:ixN xs.length i=some k)(h:QH (upd H p (.lst (xs.set k v)))):b5A (.ref p) (.int i) v H QH:=by
 unfold b5A
 simp only[hp]
 exact⟨k,he,h⟩
theorem d2p(hp:H p=some (.lst xs))(h0:0<=i)(he:xs[i.toNat]? = some v)(h:Q v H):c2O (.ref p) (.int i) H Q:=by
 unfold c2O
 simp only[hp]
 exact⟨h0,v,he,h⟩
theorem L7(hp:H p=some (.lst xs))(h:Q (.int xs.length) H):X9 [.ref p] H Q:=by
 unfold X9
 simp only[hp]
 exact h
theorem a8z(hp:H p=some (.tup xs))(h:Q (.int xs.length) H):X9 [.ref p] H Q:=by
 unfold X9
 simp only[hp]
 exact h
theorem c9R(hz:z.length<=u6)(h:Q (.int z.length) H):X9 [.str z] H Q:=⟨hz,h⟩
theorem d2s(h:Q (.int (if i<0 then -i else i)) H):c5g [.int i] H Q:=h
theorem d3u(hs:b8C x y=true)(h:Q (.bl (decide (x=y))) H):qEq x y H Q:=⟨_,if_pos hs,h⟩
theorem d3s(hs:b8C x y=true)(h:Q (.bl (!decide (x=y))) H):qNe x y H Q:=⟨_,if_pos hs,h⟩
theorem c1Z(ha:H a=some (.tup xs))(hb:H b=some (.tup ys))(fx:xs.all R6=true)(fy:ys.all R6=true):eqO (.ref a) (.ref b) H=some (T0 xs ys):=by
 unfold eqO
 rw[if_neg (by intro z;cases z)]
 simp only[ha,hb]
 rw[if_pos ⟨fx,fy⟩]
theorem b1a(ha:H a=some (.lst xs))(hb:H b=some (.lst ys))(fx:xs.all R6=true)(fy:ys.all R6=true):eqO (.ref a) (.ref b) H=some (T0 xs ys):=by
 unfold eqO
 rw[if_neg (by intro z;cases z)]
 simp only[ha,hb]
 rw[if_pos ⟨fx,fy⟩]
theorem d1m(hb:H b=some (.tup ys)):eqO .non (.ref b) H=some false:=by
 unfold eqO
 rw[if_neg (by intro z;cases z)]
 simp only[hb]
theorem b6h(hp:H p=some (.tup xs))(hx:R6 x=true)(ha:xs.all R6=true)(h:Q (.bl (inV x xs)) H):qIn false x (.ref p) H Q:=by
 unfold qIn
 cases x <;> first | (simp only[hp];exact⟨hx,ha,h⟩) | cases hx
theorem a0E{l:Addr}(hp:H l=some (.lst xs))(hl:xs.length<u6)(h:Q .non (upd H l (.lst (xs++[y])))):Y0 (.ref l) [y] H Q:=by
 unfold Y0
 simp only[hp]
 exact⟨hl,h⟩
theorem c9c{lo hi:Option Int}(ha:H a=some (.tup xs))(hw:¬(HT.sIx xs.length 0 lo=0/\HT.sIx xs.length xs.length hi=xs.length))(h:∀p H',H p=none->H' p=some (.tup (a8J xs lo hi))->i9 H H'->Q (.ref p) H'):qSl (.ref a) lo hi H Q:=by
 unfold qSl
 simp only[ha]
 exact⟨hw,fun p hp=>h p _ hp c8 (z6 hp)⟩
theorem c9d{lo hi:Option Int}(ha:H a=some (.lst xs))(h:∀p H',H p=none->H' p=some (.lst (a8J xs lo hi))->i9 H H'->Q (.ref p) H'):qSl (.ref a) lo hi H Q:=by
 unfold qSl
 simp only[ha]
 exact fun p hp=>h p _ hp c8 (z6 hp)
theorem a6l{s c:String}(e:a4P x H=some s)(hc:c∈b2f)(h:Q (.bl (c1i s c)) H):a8d [x,.ty c] H Q:=⟨s,e,hc,h⟩
theorem c9S{s:Str}{l:Addr}{ss:List Str}(hp:H l=some (.lst xs))(e:a6u xs=some ss)(hl:(ss.map (·.length)).sum+ss.length * s.length<=16777216)(h:Q (.str (Txt.join s ss)) H):b6i (.str s) [.ref l] H Q:=by
 unfold b6i
 simp only[hp]
 exact⟨ss,e,hl,h⟩
end
section
variable {D:Addr}{K:Fg}
theorem a6W{lo:Int}(Pv:Nat->List V->Hp->Prop)(h0:Pv 0 [] (upd H1 D (.lst [])))(hP:∀i ys H,Pv i ys H->H D=some (.lst ys))
  (step:∀i ys H2,i<n->Pv i ys H2->∀R:VK,(∀y H5,H5 D=some (.lst ys)->ys.length<u6->Pv (i+1) (ys++[y]) (upd H5 D (.lst (ys++[y])))->R y H5)->te (some (.int (lo+i))::σ) H2 R)
  (done:∀ys H2,Pv n ys H2->QD H2) :
  ∃W:Nat->Nat->List V->Hp->Prop,(∃m,W 0 m [] (upd H1 D (.lst [])))/\∀i m ys H2,W i m ys H2->H2 D=some (.lst ys) /\
   (((Itr lo n).stop i H2 /\ QD H2) \/ ((Itr lo n).go i H2 /\ ∀ x H3,(Itr lo n).yld i H2 x H3 -> Q7 (some x :: σ) H3 fun ok H4 => if ok = true then
     te (some x::σ) H4 (fun y H5=>H5 D=some (.lst ys)/\ys.length<u6/\∃m',m'<m/\W (i+1) m' (ys++[y]) (upd H5 D (.lst (ys++[y]))))
     else ∃m',m'<m/\W (i+1) m' ys H4)):=by
 refine⟨fun i m ys H=>m=n - i/\i<=n/\Pv i ys H,⟨n,rfl,R8 _,h0⟩,?_⟩
 rintro i m ys H2 ⟨rfl,hi,p⟩
 refine⟨hP i ys H2 p,?_⟩
 by_cases hlt:i<n
 ·refine .inr ⟨hlt,fun x H3 y=>?_⟩
  obtain⟨e,y⟩:=y
  subst e y
  refine c0t ?_
  rw[if_pos rfl]
  exact step i ys _ hlt p _ fun y H5 h1 h2 h3=>⟨h1,h2,n - (i+1),by omega,rfl,hlt,h3⟩
 ·have e:i=n:=by omega
  subst e
  exact .inl ⟨j5 _,done ys H2 p⟩
theorem U0(Pv:Nat->List V->Hp->Prop)(h0:Pv 0 [] (upd H1 D (.lst [])))(hP:∀i ys H,Pv i ys H->H D=some (.lst ys))(hl:∀i ys H,i<=xs.length->Pv i ys H->SqL K H a xs)
  (step:∀i x ys H2,xs[i]? = some x->Pv i ys H2->∀R:VK,(∀y H5,H5 D=some (.lst ys)->ys.length<u6->Pv (i+1) (ys++[y]) (upd H5 D (.lst (ys++[y])))->R y H5)->te (some x::σ) H2 R)
  (done:∀ys H2,Pv xs.length ys H2->QD H2) :
  ∃W:Nat->Nat->List V->Hp->Prop,(∃m,W 0 m [] (upd H1 D (.lst [])))/\∀i m ys H2,W i m ys H2->H2 D=some (.lst ys) /\
   (((Itl K a).stop i H2 /\ QD H2) \/ ((Itl K a).go i H2 /\ ∀ x H3,(Itl K a).yld i H2 x H3 -> Q7 (some x :: σ) H3 fun ok H4 => if ok = true then
     te (some x::σ) H4 (fun y H5=>H5 D=some (.lst ys)/\ys.length<u6/\∃m',m'<m/\W (i+1) m' (ys++[y]) (upd H5 D (.lst (ys++[y]))))
     else ∃m',m'<m/\W (i+1) m' ys H4)):=by
 refine⟨fun i m ys H=>m=xs.length - i/\i<=xs.length/\Pv i ys H,⟨xs.length,rfl,R8 _,h0⟩,?_⟩
 rintro i m ys H2 ⟨rfl,hi,p⟩
 refine⟨hP i ys H2 p,?_⟩
 have q:=hl i ys H2 hi p
 by_cases hlt:i<xs.length
 ·refine .inr ⟨⟨xs,xs[i],q,by simp[hlt]⟩,fun x H3 y=>?_⟩
  obtain⟨e,y⟩:=y
  subst e
  refine c0t ?_
  rw[if_pos rfl]
  exact step i x ys _ (y xs q) p _ fun y H5 h1 h2 h3=>⟨h1,h2,xs.length - (i+1),by omega,rfl,hlt,h3⟩
 ·have e:i=xs.length:=by omega
  subst e
  exact .inl ⟨⟨xs,q,j5 _⟩,done ys H2 p⟩
theorem U3{wi:TI}(h:wi σ H1 fun J H1=>∀D,H1 D=none->∃W:Nat->Nat->List V->Hp->Prop,
 (∃m,W 0 m [] (upd H1 D (.lst [])))/\∀i m ys H2,W i m ys H2->H2 D=some (.lst ys) /\
  ((J.stop i H2 /\ Q (.ref D) H2) \/ (J.go i H2 /\ ∀ x H3,J.yld i H2 x H3 -> tt (some x :: σ) H3 fun ok H4 => if ok = true then
    te (some x::σ) H4 (fun y H5=>H5 D=some (.lst ys)/\ys.length<u6/\∃m',m'<m/\W (i+1) m' (ys++[y]) (upd H5 D (.lst (ys++[y]))))
    else ∃m',m'<m/\W (i+1) m' ys H4))):O5 wi tt te σ H1 Q:=h
theorem a1n{ta:TA}(h:ta σ H1 fun vs H2=>∃j:Int,vs=[.int j] /\ -(2 ^ 62)<=j/\j<2 ^ 62/\R (Itr 0 j.toNat) H2):a2u ta σ H1 R:=h
theorem P8(h:ta σ H1 fun x H2=>∃a,x=.ref a/\(∃xs,SqL K H2 a xs)/\R (Itl K a) H2):O0 K ta σ H1 R:=h
theorem a0p{wi:TI}{g:TG}{tb:TS}{D:b1m}(h:wi σ H1 fun J H1=>∃W:Nat->Nat->St->Hp->Prop,(∃m,W 0 m σ H1)/\∀i m σ H,W i m σ H ->
 (J.stop i H/\D.nx σ H)\/(J.go i H/\∃N:St->Hp->Prop,(∀σ' H',N σ' H'->∃m',m'<m/\W (i+1) m' σ' H')/\∀x H',J.yld i H x H'->g x σ H' fun σ2 H2=>tb { D with nx:=N,ct:=N,bk:=D.nx } σ2 H2)):a1R wi g tb D σ H1:=h
end
def G5(H H':Hp):Prop:=∀a xs,H a=some (.tup xs)->H' a=some (.tup xs)
theorem G5.refl(H:Hp):G5 H H:=fun _ _ h=>h
theorem G5.new(h:H p=none):G5 H (upd H p o):=fun a xs e=>by rw[g9 (c9 e h)];exact e
theorem G5.put(h:H p=some (.lst ys)):G5 H (upd H p o):=fun a xs e=>by
 rw[g9 (N8 e h (by intro z;cases z))];exact e
theorem i9.ts(s:i9 H H'):G5 H H':=fun a xs h=>s a _ h
theorem E8.ts{c:Addr}(k:E8 b H H')(hB:Bag H b c):G5 H H':=fun a xs h=>by
 obtain⟨ys,hb⟩:=hB.lst
 exact k.tup hb h
def OpV(v:V):Prop:=(∃s,v=.str s)\/∃n:Int,v=.int n/\0<=n/\n<1000000000000
def d1A(H:Hp)(p:Addr):Prop:=∃k v1 v2,H p=some (.tup [.str k,v1,v2])/\OpV v1/\OpV v2/\k∈(["plus","minus","times","less","same"]:List Str)
inductive b6w(H:Hp):List V->Prop
 | set (n:Str) (p:Addr):d1A H p->b6w H [.str "set",.str n,.ref p]
 | copy (n:Str) (v:V):OpV v->b6w H [.str "copy",.str n,v]
 | take (n:Str):b6w H [.str "take",.str n]
 | tell (v:V):OpV v->b6w H [.str "tell",v]
 | ask (v:V):OpV v->b6w H [.str "ask",v]
 | skip:b6w H [.str "skip"]
structure d3I(H:Hp)(a:Addr):Prop where
 ex:∃ss:List Str,H a=some (.lst (ss.map V.str))/\ss≠[]/\ss.length<=8
theorem small(h:n<=100000):n<=u6:=D9 h (by rw[a7d];decide)
theorem F4(h:n<100000):n<u6:=D3 h (by rw[a7d];decide)
theorem C6{c:Bool}{A B:Prop}(hc:c=true)(h:A):if c=true then A else B:=by rw[if_pos hc];exact h
theorem v5{c:Bool}{A B:Prop}(hc:c=false)(h:B):if c=true then A else B:=by rw[hc];exact L2.d1g h
section
variable {t u:TS}{tb tc:TE}{tu:TT}{tr:TA}{QB:Bool->Hp->Prop}{QA:List V->Hp->Prop}{x y:V}{i j:Int}{K:Fg}
theorem b7e(h:∀p H',H p=none->H' p=some (.dK [])->i9 H H'->Q (.ref p) H'):a9E σ H Q:=fun p hp=>h p _ hp c8 (z6 hp)
theorem c4R(h:ti σ H fun y H1=>to σ H1 fun x H2=>∃a o,x=.ref a/\b1n H2 a y o/\Q (.bl o.isSome) H2):b6L ti to σ H Q:=h
theorem a1V(h:ti σ H fun y H1=>to σ H1 fun x H2=>∃a o,x=.ref a/\b1n H2 a y o/\Q (.bl (!o.isSome)) H2):a0T ti to σ H Q:=h
theorem a7r(h:te σ H fun v H1=>to σ H1 fun x H2=>ti σ H2 fun y H3=>∃a H4,x=.ref a/\b5S H3 a y v H4/\D.nx σ H4):a3G to ti te D σ H:=h
theorem Q8{f:Str}(h:ta σ H fun x H1=>∃a C dx fs v,x=.ref a/\H1 a=some (.ins C dx fs)/\Cls K C/\V3 K C f/\fs.lookup f=some v/\Q v H1):Z1 K ta f σ H Q:=h
theorem a0K{f:Str}(h:te σ H fun y H1=>ta σ H1 fun x H2=>∃a C dx fs,x=.ref a/\H2 a=some (.ins C dx fs)/\Cls K C/\V3 K C f/\fs.length<1000/\D.nx σ (upd H2 a (.ins C dx (N3 f y fs)))):a5h K ta te f D σ H:=h
theorem W3{m:Str}{sp:Sp}{E:XK}(h:ta σ H fun x H1=>∃a dx fs,x=.ref a/\H1 a=some (.ins C dx fs)/\fs.lookup m=none/\tr σ H1 fun vs H2=>sp (x::(vs++[])) H2 Q E):W0 C m sp [] E ta tr σ H Q:=h
theorem b4k{sp:Sp}{E:XK}(h:tr σ H fun vs H1=>∀x dx,H1 x=none->H1 dx=none->dx≠x ->
 sp (.ref x::(vs++[])) (upd (upd H1 dx (.own x)) x (.ins C dx [])) (fun v H2=>v=.non/\Q (.ref x) H2) E):a5x C sp [] E tr σ H Q:=h
theorem d2i{f:V->List V->Hp->VK->Prop}(h:to σ H fun x H1=>tyV K "list" x H1/\f x [] H1 Q):c6P K "list" f to σ H Q:=h
theorem Z6(h:H p=some (.lst xs)):tyV K "list" (.ref p) H:=.inl ⟨rfl,xs,SqL.of h⟩
theorem a6j{a b:Nat}{QS:St->Hp->Prop}(hp:SqT K H p [x,y])(h:QS ((σ.set a (some x)).set b (some y)) H):b2i K 2 (a1y (t8 a) (a1y (t8 b) b2j)) (.ref p) σ H QS:=
 ⟨p,_,rfl,hp,rfl,_,_,rfl,_,_,rfl,rfl,h⟩
theorem a6i(h:tr σ H fun vs H1=>∃a,vs=[.ref a]/\(∃xs,SqL K H1 a xs)/\R (Ite K a) H1):a7X K tr σ H R:=h
theorem c0w(h:tr σ H fun vs H1=>∃a b,vs=[.ref a,.ref b]/\(∃xs,SqL K H1 a xs)/\(∃xs,SqL K H1 b xs)/\R (Itz K a b) H1):c3p K tr σ H R:=h
theorem b0I(h:∃W:Nat->St->Hp->Prop,(∃m,W m σ H)/\∀m σ H,W m σ H ->
 tt σ H fun b H1=>if b=true then ∃N:St->Hp->Prop,(∀σ' H',N σ' H'->∃m',m'<m/\W m' σ' H')/\t { D with nx:=N,ct:=N,bk:=D.nx } σ H1 else D.nx σ H1):a8t tt t D σ H:=h
theorem b6Y(h:te σ H fun v H1=>D.nx (σ.set n (some v)) H1):(fun D σ H=>te σ H fun v H1=>(D:b1m).nx (σ.set n (some v)) H1:TS) D σ H:=h
theorem b7f{wi:TI}(h:wi σ H1 fun J H1=>∀D,H1 D=none->∃W:Nat->Nat->List V->Hp->Prop,
 (∃m,W 0 m [] (upd H1 D (.lst [])))/\∀i m ys H2,W i m ys H2->H2 D=some (.lst ys) /\
  ((J.stop i H2 /\ Q (.ref D) H2) \/ (J.go i H2 /\ ∀ x H3,J.yld i H2 x H3 -> ∃ a u v,x = .ref a /\ SqT K H3 a [u,v] /\ tt (some u :: some v :: σ) H3 fun ok H4 => if ok = true then
    te (some u::some v::σ) H4 (fun y H5=>H5 D=some (.lst ys)/\ys.length<u6/\∃m',m'<m/\W (i+1) m' (ys++[y]) (upd H5 D (.lst (ys++[y]))))
    else ∃m',m'<m/\W (i+1) m' ys H4))):a7k K wi tt te σ H1 Q:=h
theorem c1t{J:It}{D:Addr}(n:Nat)(Pv:Nat->List V->Hp->Prop)(h0:Pv 0 [] (upd H1 D (.lst [])))(hP:∀i ys H,Pv i ys H->H D=some (.lst ys))(stop:∀ys H,Pv n ys H->J.stop n H/\QD H)(go:∀i ys H,i<n->Pv i ys H->J.go i H)
  (step:∀i ys H2,i<n->Pv i ys H2->∀x H3,J.yld i H2 x H3->∀(R:VK) (S:Hp->Prop),(∀y H5,H5 D=some (.lst ys)->ys.length<u6->Pv (i+1) (ys++[y]) (upd H5 D (.lst (ys++[y])))->R y H5)->(∀H4,Pv (i+1) ys H4->S H4) ->
   tt (some x::σ) H3 fun ok H4=>if ok=true then te (some x::σ) H4 R else S H4) :
  ∃W:Nat->Nat->List V->Hp->Prop,(∃m,W 0 m [] (upd H1 D (.lst [])))/\∀i m ys H2,W i m ys H2->H2 D=some (.lst ys) /\
   ((J.stop i H2 /\ QD H2) \/ (J.go i H2 /\ ∀ x H3,J.yld i H2 x H3 -> tt (some x :: σ) H3 fun ok H4 => if ok = true then
     te (some x::σ) H4 (fun y H5=>H5 D=some (.lst ys)/\ys.length<u6/\∃m',m'<m/\W (i+1) m' (ys++[y]) (upd H5 D (.lst (ys++[y]))))
     else ∃m',m'<m/\W (i+1) m' ys H4)):=by
 refine⟨fun i m ys H=>m=n - i/\i<=n/\Pv i ys H,⟨n,rfl,R8 _,h0⟩,?_⟩
 rintro i m ys H2 ⟨rfl,hi,p⟩
 refine⟨hP i ys H2 p,?_⟩
 by_cases hlt:i<n
 ·exact .inr ⟨go i ys H2 hlt p,fun x H3 hy=>step i ys H2 hlt p x H3 hy _ _ (fun y H5 h1 h2 h3=>⟨h1,h2,n - (i+1),by omega,rfl,hlt,h3⟩) fun H4 h4=>⟨n - (i+1),by omega,rfl,hlt,h4⟩⟩
 ·have e:i=n:=by omega
  subst e
  exact .inl (stop ys H2 p)
theorem c1r{J:It}{D:Addr}(n:Nat)(Pv:Nat->List V->Hp->Prop)(h0:Pv 0 [] (upd H1 D (.lst [])))(hP:∀i ys H,Pv i ys H->H D=some (.lst ys))(stop:∀ys H,Pv n ys H->J.stop n H/\QD H)(go:∀i ys H,i<n->Pv i ys H->J.go i H)
  (step:∀i ys H2,i<n->Pv i ys H2->∀x H3,J.yld i H2 x H3->∃a u v,x=.ref a/\SqT K H3 a [u,v]/\∀(R:VK) (S:Hp->Prop),(∀y H5,H5 D=some (.lst ys)->ys.length<u6->Pv (i+1) (ys++[y]) (upd H5 D (.lst (ys++[y])))->R y H5)->(∀H4,Pv (i+1) ys H4->S H4) ->
   tt (some u::some v::σ) H3 fun ok H4=>if ok=true then te (some u::some v::σ) H4 R else S H4) :
  ∃W:Nat->Nat->List V->Hp->Prop,(∃m,W 0 m [] (upd H1 D (.lst [])))/\∀i m ys H2,W i m ys H2->H2 D=some (.lst ys) /\
   ((J.stop i H2 /\ QD H2) \/ (J.go i H2 /\ ∀ x H3,J.yld i H2 x H3 -> ∃ a u v,x = .ref a /\ SqT K H3 a [u,v] /\ tt (some u :: some v :: σ) H3 fun ok H4 => if ok = true then
     te (some u::some v::σ) H4 (fun y H5=>H5 D=some (.lst ys)/\ys.length<u6/\∃m',m'<m/\W (i+1) m' (ys++[y]) (upd H5 D (.lst (ys++[y]))))
     else ∃m',m'<m/\W (i+1) m' ys H4)):=by
 refine⟨fun i m ys H=>m=n - i/\i<=n/\Pv i ys H,⟨n,rfl,R8 _,h0⟩,?_⟩
 rintro i m ys H2 ⟨rfl,hi,p⟩
 refine⟨hP i ys H2 p,?_⟩
 by_cases hlt:i<n
 ·refine .inr ⟨go i ys H2 hlt p,fun x H3 hy=>?_⟩
  obtain⟨a,u,v,e,hs,st⟩:=step i ys H2 hlt p x H3 hy
  exact⟨a,u,v,e,hs,st _ _ (fun y H5 h1 h2 h3=>⟨h1,h2,n - (i+1),by omega,rfl,hlt,h3⟩) fun H4 h4=>⟨n - (i+1),by omega,rfl,hlt,h4⟩⟩
 ·have e:i=n:=by omega
  subst e
  exact .inl (stop ys H2 p)
theorem b2N{J:It}{g:TG}{tb:TS}(n:Nat)(Pv:Nat->St->Hp->Prop)(h0:Pv 0 σ H)(stop:∀σ H,Pv n σ H->J.stop n H/\D.nx σ H)(go:∀i σ H,i<n->Pv i σ H->J.go i H)
  (hs:∀i σ H,i<n->Pv i σ H->∀x H',J.yld i H x H'->g x σ H' fun σ2 H2=>tb { D with nx:=Pv (i+1),ct:=Pv (i+1),bk:=D.nx } σ2 H2) :
  ∃W:Nat->Nat->St->Hp->Prop,(∃m,W 0 m σ H)/\∀i m σ H,W i m σ H ->
   (J.stop i H/\D.nx σ H)\/(J.go i H/\∃N:St->Hp->Prop,(∀σ' H',N σ' H'->∃m',m'<m/\W (i+1) m' σ' H')/\∀x H',J.yld i H x H'->g x σ H' fun σ2 H2=>tb { D with nx:=N,ct:=N,bk:=D.nx } σ2 H2):=by
 refine⟨fun i m σ H=>m=n - i/\i<=n/\Pv i σ H,⟨n,rfl,R8 _,h0⟩,?_⟩
 rintro i m σ H ⟨rfl,hi,p⟩
 by_cases hlt:i<n
 ·exact .inr ⟨go i σ H hlt p,Pv (i+1),fun σ' H' p'=>⟨n - (i+1),by omega,rfl,hlt,p'⟩,fun x H' hy=>hs i σ H hlt p x H' hy⟩
 ·have e:i=n:=by omega
  subst e
  exact .inl (stop σ H p)
theorem c9e(h:Q (.int (if j<i then j else i)) H):c2N [.int i,.int j] H Q:=h
theorem b2U(bs:List Bool):a0G (bs.map V.bl)=some bs:=by
 induction bs with
 | nil=>rfl
 | cons s r ih=>simp[a0G,ih]
theorem d2q{l:Addr}{bs:List Bool}(hl:H l=some (.lst (bs.map V.bl)))(h:Q (.bl (bs.any id)) H):c0F [.ref l] H Q:=by
 unfold c0F
 simp only[hl]
 exact⟨bs,b2U bs,h⟩
theorem c9g{l:Addr}{bs:List Bool}(hl:H l=some (.lst (bs.map V.bl)))(h:Q (.bl (bs.all id)) H):b5C [.ref l] H Q:=by
 unfold b5C
 simp only[hl]
 exact⟨bs,b2U bs,h⟩
theorem b8P{l:Addr}{zs:List V}(hl:H l=some (.lst xs))(hb:H b=some (.lst zs))(hz:xs.length+zs.length<=u6)(h:Q .non (upd H l (.lst (xs++zs)))):a7x (.ref l) [.ref b] H Q:=by
 unfold a7x
 simp only[hl,hb]
 exact⟨hz,h⟩
theorem d2o{l:Addr}(hl:H l=some (.lst (xs++[y])))(h:Q y (upd H l (.lst xs))):c2L (.ref l) [] H Q:=by
 unfold c2L
 simp only[hl]
 refine⟨y,by simp,?_⟩
 simpa using h
theorem a7v(hp:H p=some (.lst ys))(h:∀l H',H l=none->H' l=some (.lst ys)->i9 H H'->Q (.ref l) H'):a6U [.ref p] H Q:=by
 unfold a6U
 simp only[hp]
 exact fun l hl=>h l _ hl c8 (z6 hl)
end
def IL(l:List Nat):List V:=l.map fun(n:Nat)=>V.int (n:Int)
theorem D2(l:List Nat):(IL l).length=l.length:=by simp[IL]
theorem a9a(l:List Nat):(IL l).all R6=true:=by
 rw[U8]
 intro x hx
 obtain⟨s,_,rfl⟩:=A2.mp hx
 rfl
theorem b7V(l:List Nat):IL l=(l.map fun(n:Nat)=>(n:Int)).map V.int:=by simp[IL]
def KS(ks:List Nat):List (Key×V):=ks.map fun(k:Nat)=>(Sum.inl (k:Int),V.bl true)
theorem c6u(ks:List Nat)(k:Nat):(a7j (KS ks) (Sum.inl (k:Int))).isSome=decide (k∈ks):=by
 induction ks with
 | nil=>rfl
 | cons a r ih=>
  by_cases e:a=k
  ·subst e
   rw[show KS (a::r)=(Sum.inl (a:Int),V.bl true)::KS r from rfl,b0s rfl]
   simp
  ·rw[show KS (a::r)=(Sum.inl (a:Int),V.bl true)::KS r from rfl,b0t (by intro z;have:=Sum.inl.inj z;exact e (by omega)),ih]
   have:(k∈a::r)↔k∈r:=by
    rw[o4]
    exact⟨fun h=>h.elim (fun z=>absurd z.symm e) id,.inr⟩
   simp[this]
def a3H(ks:List Nat)(k:Nat):List Nat:=if k∈ks then ks else ks++[k]
theorem c6v(ks:List Nat)(k:Nat):a2l (KS ks) (Sum.inl (k:Int)) (V.bl true)=KS (a3H ks k):=by
 unfold a2l a3H
 rw[a5s,c6u]
 by_cases h:k∈ks
 ·rw[if_pos (d5r h),if_pos h]
  unfold KS
  rw[U1]
  apply a3h
  intro a _
  show(if(Sum.inl (a:Int):Key)=Sum.inl (k:Int)then ((Sum.inl (a:Int):Key),V.bl true)else ((Sum.inl (a:Int):Key),V.bl true))=_
  split <;> rfl
 ·rw[if_neg (by simpa using h),if_neg h]
  simp[KS]
theorem Y7{k:Nat}:j∈a3H ks k↔j∈ks\/j=k:=by
 unfold a3H
 split
 ·rename_i h
  exact⟨.inl,fun q=>q.elim id fun z=>z ▸ h⟩
 ·simp
theorem a6m{k:Nat}(h:ks.Nodup):(a3H ks k).Nodup:=by
 unfold a3H
 split
 ·exact h
 ·rename_i hk
  rw[a2r]
  exact⟨h,by simp,fun a ha b hb=>by rw[o0.mp hb];intro z;exact hk (z ▸ ha)⟩
theorem c6w(ks:List Nat):(KS ks).length=ks.length:=by simp[KS]
theorem a3M:∀(n:Nat) (ks:List Nat),ks.Nodup->(∀k∈ks,k<n)->ks.length<=n:=by
 intro n
 induction n with
 | zero=>
  intro ks _ h
  cases ks with
  | nil=>exact j5 _
  | cons a r=>exact absurd (h a U5) (Nat.not_lt_zero _)
 | succ n ih=>
  intro ks nd h
  by_cases hn:n∈ks
  ·have:=ih (ks.erase n) (nd.erase n) fun k hk=>by
    have h1:=(List.Nodup.mem_erase_iff nd).mp hk
    have:=h k h1.2
    have:=h1.1
    omega
   rw[b9R hn]at this
   omega
  ·have:=ih ks nd fun k hk=>by
    have:=h k hk
    have:k≠n:=fun z=>hn (z ▸ hk)
    omega
   omega
theorem a4x(h:H d=some (.dK (KS ks)))(k:Nat):∃o,b1n H d (.int (k:Int)) o/\o.isSome=decide (k∈ks):=⟨_,b1n.k (k:=Sum.inl (k:Int)) h,c6u ks k⟩
theorem a8W(h:H d=some (.dK (KS ks)))(hl:ks.length<100000)(k:Nat):b5S H d (.int (k:Int)) (.bl true) (upd H d (.dK (KS (a3H ks k)))):=by
 rw[<-c6v]
 exact b5S.k (k:=Sum.inl (k:Int)) h (F4 (by rw[c6w];exact hl))
end RD
namespace RD
variable{C a b cx d dd dx la na p rx w wx:Addr}{H H' H0 H1:Hp}{o:HO}{ds xs ys:List V}{D:b1m}{σ:St}{ta te ti to:TE}{tt:TT}{Q:VK}{v:V}{e i j m n t u:Nat}{z:Str}{L Y ks l:List Nat}{QD:Hp->Prop}{R:It->Hp->Prop}{M N:Nt}{ns:List Int}{as rs:List Addr}{Z:Addr->Prop}{Do:Nat->Bool}{kvs:List (Key×V)}{neg:Bool}
theorem b4J:∀(l m:List Nat),l.Nodup->(∀x∈l,x∈m)->l.length<=m.length
 | [],_,_,_=>R8 _
 | a::r,m,nd,h=>by
  have ha:=h a U5
  have:=b4J r (m.erase a) (X4.mp nd).2 fun x hx=>(List.mem_erase_of_ne (show x≠a from fun z=>(X4.mp nd).1 (z ▸ hx))).mpr (h x (G7 _ hx))
  rw[b9R ha]at this
  have:=a4B ha
  rw[C0]
  omega
inductive Gd(N:Nt):Nat->Prop
 | stop {k:Nat}:N[k]? = some []->Gd N k
 | step {k t:Nat} {l:List Nat}:N[k]? = some l->t∈l->Gd N t->Gd N k
inductive Rc(N:Nt):Nat->Prop
 | zero:Rc N 0
 | step {k t:Nat} {l:List Nat}:Rc N k->N[k]? = some l->t∈l->Rc N t
structure Q9(N:Nt):Prop where
 pos:0<N.length
 le:N.length<=400
 two:∀l∈N,l.length<=2
 lt:∀l∈N,∀t∈l,t<N.length
 rc:∀k,k<N.length->Rc N k
 gd:∀k,k<N.length->Gd N k
def a6n(N:Nt)(G:List Nat):List (List Nat):=(v9 N.length).map fun k=>if k∈G then N.getD k [] else (N.length - 1)::(N.getD k []).drop 1
theorem b6m(N:Nt)(G:List Nat):(a6n N G).length=N.length:=by simp[a6n]
theorem b4K{G:List Nat}{k:Nat}(h:k<N.length):(a6n N G)[k]? = some (if k∈G then N.getD k [] else (N.length - 1)::(N.getD k []).drop 1):=by
 unfold a6n
 rw[a9,a3i h]
 rfl
theorem b0T{G:List Nat}{k:Nat}(h:N[k]? = some l)(hk:k∈G):(a6n N G)[k]? = some l:=by
 have hl:=(u8.mp h).1
 rw[b4K hl,if_pos hk]
 simp[M0,h]
theorem b6l{G:List Nat}{k:Nat}(h:N[k]? = some l)(hk:¬k∈G):(a6n N G)[k]? = some ((N.length - 1)::l.drop 1):=by
 have hl:=(u8.mp h).1
 rw[b4K hl,if_neg hk]
 simp[M0,h]
theorem c8v{G:List Nat}(hG:∀k∈G,Gd N k)(hl:N[N.length - 1]? = some [])(hm:N.length - 1∈G):∀k,k<N.length->Gd (a6n N G) k:=by
 have last:Gd (a6n N G) (N.length - 1):=.stop (b0T hl hm)
 have out:∀k,k<N.length->¬k∈G->Gd (a6n N G) k:=fun k hk h=>.step (b6l (l:=N[k]) (by simp) h) U5 last
 have go:∀k,Gd N k->Gd (a6n N G) k:=by
  intro k h
  induction h with
  | @stop k h=>
   by_cases hk:k∈G
   ·exact .stop (b0T h hk)
   ·exact out k (u8.mp h).1 hk
  | @step k t l h ht _ ih=>
   by_cases hk:k∈G
   ·exact .step (b0T h hk) ht ih
   ·exact out k (u8.mp h).1 hk
 intro k hk
 by_cases h:k∈G
 ·exact go k (hG k h)
 ·exact out k hk h
theorem b9i{G:List Nat}(hp:0<N.length)(hs:∀l∈N,l.length<=2/\∀t∈l,t<N.length)(hl:N[N.length - 1]? = some [])(hm:N.length - 1∈G):∀l∈a6n N G,l.length<=2/\∀t∈l,t<N.length:=by
 intro l hl'
 obtain⟨k,hk⟩:=z7.mp hl'
 have hkl:k<N.length:=by have:=(u8.mp hk).1;rwa [b6m]at this
 rw[b4K hkl]at hk
 have e:N.getD k []=N[k]:=by simp[M0,hkl]
 rw[e]at hk
 obtain⟨h1,h2⟩:=hs N[k] (I0 _)
 by_cases hg:k∈G
 ·rw[if_pos hg]at hk
  cases hk
  exact⟨h1,h2⟩
 ·rw[if_neg hg]at hk
  cases hk
  refine⟨?_,fun t ht=>?_⟩
  ·rw[C0,b5l];omega
  ·rcases o4.mp ht with z | z
   ·omega
   ·exact h2 t (List.drop_subset _ _ z)
def a9F(N:Nt)(O:List Nat):List (List Nat):=O.map fun k=>(N.getD k []).map fun t=>O.idxOf t
theorem c1j{O:List Nat}(h:t∈O):O.idxOf t<O.length:=b9S.mpr h
theorem b6M{O:List Nat}{k:Nat}(hk:k∈O)(h:N[k]? = some l):(a9F N O)[O.idxOf k]? = some (l.map fun t=>O.idxOf t):=by
 unfold a9F
 have:O[O.idxOf k]? = some k:=by
  rw[c5 (c1j hk)]
  simp
 rw[a9,this]
 simp[M0,h]
theorem c1n{O:List Nat}(h0:0∈O)(hs:O.Pairwise (· <= ·)):O.idxOf 0=0:=by
 cases O with
 | nil=>cases h0
 | cons a r=>
  have:a=0:=by
   rcases o4.mp h0 with z | z
   ·exact z.symm
   ·have:=(List.pairwise_cons.mp hs).1 0 z
    omega
  subst this
  simp
theorem c2z{O:List Nat}(h0:0∈O)(hs:O.Pairwise (· <= ·))(hnd:O.Nodup)(hlt:∀k∈O,k<N.length)(hN:N.length<=400)(hcl:∀k∈O,∀l,N[k]? = some l->∀t∈l,t∈O)(hrc:∀k∈O,Rc N k)
  (hsm:∀l∈N,l.length<=2) (hgd:∀k,k<N.length->Gd N k):Q9 (a9F N O):=by
 have hlen:(a9F N O).length=O.length:=by simp[a9F]
 have rc:∀k,Rc N k->k∈O/\Rc (a9F N O) (O.idxOf k):=by
  intro k h
  induction h with
  | zero=>
   refine⟨h0,?_⟩
   rw[c1n h0 hs]
   exact .zero
  | @step k t l _ hl ht ih=>
   obtain⟨i1,i2⟩:=ih
   exact⟨hcl k i1 l hl t ht,.step i2 (b6M i1 hl) (A2.mpr ⟨t,ht,rfl⟩)⟩
 have gd:∀k,Gd N k->k∈O->Gd (a9F N O) (O.idxOf k):=by
  intro k h
  induction h with
  | @stop k h=>
   intro hk
   exact .stop (by rw[b6M hk h];rfl)
  | @step k t l h ht _ ih=>
   intro hk
   exact .step (b6M hk h) (A2.mpr ⟨t,ht,rfl⟩) (ih (hcl k hk l h t ht))
 have at_:∀i,i<O.length->∃k∈O,O.idxOf k=i:=fun i hi=>⟨O[i],I0 _,hnd.idxOf_getElem i hi⟩
 have mem:∀l∈a9F N O,∃k∈O,∃l',N[k]? = some l'/\l=l'.map fun t=>O.idxOf t:=by
  intro l hl
  obtain⟨k,hk,rfl⟩:=A2.mp hl
  refine⟨k,hk,N[k]'(hlt k hk),by simp[hlt k hk],?_⟩
  simp[M0,hlt k hk]
 refine⟨?_,?_,fun l hl=>?_,fun l hl t ht=>?_,fun i hi=>?_,fun i hi=>?_⟩
 ·rw[hlen]
  exact a4B h0
 ·rw[hlen]
  exact D9 (a3M _ _ hnd hlt) hN
 ·obtain⟨k,hk,l',e,rfl⟩:=mem l hl
  rw[b5]
  exact hsm l' (a0X e)
 ·obtain⟨k,hk,l',e,rfl⟩:=mem l hl
  obtain⟨t',ht',rfl⟩:=A2.mp ht
  rw[hlen]
  exact c1j (hcl k hk l' e t' ht')
 ·rw[hlen]at hi
  obtain⟨k,hk,rfl⟩:=at_ i hi
  exact(rc k (hrc k hk)).2
 ·rw[hlen]at hi
  obtain⟨k,hk,rfl⟩:=at_ i hi
  exact gd k (hgd k (hlt k hk)) hk
end RD
namespace RD
open PySem PySem.Spec PyProof.Rows L2
variable{C a b cx d dd dx la na p rx w wx:Addr}{H H' H0 H1:Hp}{o:HO}{ds xs ys:List V}{D:b1m}{σ:L2.St}{ta te ti to:TE}{tt:TT}{Q:VK}{v:V}{e i j m n t u:Nat}{z:Str}{L Y ks l:List Nat}{QD:Hp->Prop}{R:It->Hp->Prop}{M N:Nt}{ns:List Int}{as rs:List Addr}{Z:Addr->Prop}{Do:Nat->Bool}{kvs:List (Key×V)}{neg:Bool}
structure Cn where
 E3:Addr
 C1:Addr
 M8:Addr
 Z0:Addr
 R0:Addr
 a7S:Addr
 M7:Addr
variable{c:Cn}
structure a0R(K:Fg)(c:Cn):Prop where
 V4:Cls K c.E3
 a3V:V3 K c.E3 "deed"
 a2P:V3 K c.E3 "found"
 a3U:V3 K c.E3 "plan"
 a2O:V3 K c.E3 "ready"
 a1e:V3 K c.E3 "wanted"
 F8:Cls K c.C1
 a1d:V3 K c.C1 "brinks"
 a3T:V3 K c.C1 "deed"
 a2t:V3 K c.C1 "fallen"
 a0H:V3 K c.C1 "left_in"
 a1s:V3 K c.C1 "left_out"
 a4q:V3 K c.C1 "living"
 a2b:V3 K c.C1 "plan"
 a1c:V3 K c.C1 "put_in"
 N4:Cls K c.M8
 a1A:V3 K c.M8 "entries"
 U9:V3 K c.M8 "nexts"
 P4:V3 K c.M8 "rows"
 a1D:Cls K c.Z0
 a2s:V3 K c.Z0 "come_by"
 a2I:V3 K c.Z0 "deed"
 a4D:V3 K c.Z0 "plan"
 a2c:Cls K c.R0
 a1N:V3 K c.R0 "goes_by"
 a2a:V3 K c.R0 "plan"
 b8c:∀H,SqT K H c.a7S [.str "plus",.str "minus",.str "times",.str "less",.str "same"]
 Y5:∀H,SqT K H c.M7 [.int (-1),.int (0)]
 c8L:IsC K c.M8
def spD(n m:Nat)(t:TS):Sp:=fun vs H Q _=>vs.length=n/\t { nx:=fun _ H'=>Q .non H',rt:=Q } (vs.map some++D7 (m - vs.length) none) H
def c8Y(K:Fg):TS:=G6 (a2x (b4 (tC (.int 0)) (b4 (tC (.int 1234567891)) (b4 (tC (.int 0)) (b4 (O5 (O0 K (tSl (c9P K) (b6 0) a4r (a9A (tC (.int 63))))) Q7 (tCB c5g (b4 (b6 0) g8))) g8)))))
def b6S(K:Fg):Sp:=spD 1 1 (c8Y K)
def c4z(K:Fg):TS:=v6 (O3 (F2 (tOp qEq (tOp qIx (b6 0) (tC (.int 0))) (tC (.int 0)))) (v6 (G0 (tC (.int 12345)) (t8 2)) (v6 (O3 (F2 (tOp qLt (tOp qIx (b6 0) (tC (.int 2))) (tCB X9 (b4 (tOp qIx (b6 0) (tC (.int 3))) g8)))) (v6 (G0 (tOp qIx (tOp qIx (b6 0) (tC (.int 3))) (tOp qIx (b6 0) (tC (.int 2)))) (t8 3)) (v6 (c1P (b6 0) (tC (.int 2)) (tC (.int 1)) c2O (ipI fun i j=>i+j) b5A) (v6 (O3 (F2 (tOp qGe (b6 3) (tC (.int 1000000000000000000)))) (G0 (b6 3) (c1l (b6 0) (tC (.int 0)) b5A)) F0) (G0 (tOp a5T (tOp b5B (b6 3) (tC (.int 2147483647))) (tC (.int 1))) (t8 2))))) F0) (G0 (tOp b5B (tOp a5T (tOp c0B (tOp qIx (b6 0) (tC (.int 1))) (tC (.int 48271))) (b6 2)) (tC (.int 2147483647))) (c1l (b6 0) (tC (.int 1)) b5A)))) F0) (v6 (O3 (F2 (tOp qGt (tOp qIx (b6 0) (tC (.int 0))) (tC (.int 0)))) (v6 (G0 (tOp b5B (tOp qIx (b6 0) (tC (.int 0))) (b6 1)) (t8 4)) (v6 (G0 (tOp c7f (tOp qIx (b6 0) (tC (.int 0))) (b6 1)) (c1l (b6 0) (tC (.int 0)) b5A)) (G6 (b6 4)))) F0) (v6 (G0 (tOp b5B (tOp c0B (tOp qIx (b6 0) (tC (.int 1))) (tC (.int 39373))) (tC (.int 1000000007))) (t8 5)) (v6 (G0 (tOp b5B (tOp c0B (b6 5) (tC (.int 30011))) (tC (.int 998244353))) (t8 6)) (v6 (O3 (F2 (tOp qGt (b6 1) (tC (.int 1000000)))) (G6 (tOp b5B (tOp a5T (tOp c0B (b6 6) (tC (.int 1000000000))) (b6 5)) (b6 1))) F0) (G6 (tOp b5B (tOp c7f (b6 6) (tC (.int 3))) (b6 1)))))))
def L5(K:Fg):Sp:=spD 2 7 (c4z K)
def c8V(K:Fg):TS:=v6 (G0 (a2x g8) (t8 2)) (v6 (a1R (a2u (b4 (b6 1) g8)) (t8 3) (v6 (G0 (tCB c2N (b4 (tOp a5T (b6 3) (tC (.int 1))) (b4 (tOp c5b (b6 1) (tC (.int 1))) g8))) (t8 4)) (v6 (G0 (a2x (b4 (b6 4) (b4 (w4 (L5 K) [] E0 (b4 (b6 0) (b4 (b6 1) g8))) g8))) (t8 5)) (v6 (G0 (w4 (L5 K) [] E0 (b4 (b6 0) (b4 (tC (.int 8)) g8))) (t8 6)) (v6 (O3 (F2 (tOp qLt (b6 6) (tC (.int 3)))) (G0 (a2x (b4 (tOp qIx (b6 5) (tC (.int 1))) (b4 (b6 4) g8))) (t8 5)) F0) (v6 (O3 (F2 (tOp qEq (b6 6) (tC (.int 3)))) (G0 (a2x (b4 (tOp qIx (b6 5) (tC (.int 1))) (b4 (w4 (L5 K) [] E0 (b4 (b6 0) (b4 (b6 1) g8))) g8))) (t8 5)) F0) (v6 (O3 (tOr (b1C (F2 (tOp qGt (b6 6) (tC (.int 3)))) (F2 (tOp qLt (b6 6) (tC (.int 7))))) (F2 (tOp qEq (b6 1) (tC (.int 1))))) (G0 (a2x (b4 (b6 4) g8)) (t8 5)) F0) (v6 (O3 (b1C (F2 (tOp qEq (b6 6) (tC (.int 7)))) (F2 (tOp qGt (b6 1) (tC (.int 1))))) (G0 (a2x (b4 (tOp qIx (b6 5) (tC (.int 1))) g8)) (t8 5)) F0) (v6 (O3 (tOr (F2 (tOp qEq (b6 3) (tOp c5b (b6 1) (tC (.int 1))))) (b1C (F2 (tOp qEq (b6 6) (tC (.int 6)))) (F2 (tOp qEq (w4 (L5 K) [] E0 (b4 (b6 0) (b4 (tC (.int 4)) g8))) (tC (.int 0)))))) (G0 (a2x g8) (t8 5)) F0) (a0n (tBM K "list" Y0 (b6 2) (b4 (b6 5) g8)))))))))))) (G6 (b6 2)))
def b6Q(K:Fg):Sp:=spD 2 7 (c8V K)
def b8w(K:Fg):TS:=v6 (G0 a9E (t8 1)) (v6 (a1R (a2u (b4 (tCB X9 (b4 (b6 0) g8)) g8)) (t8 2) (a1R (a2u (b4 (tCB X9 (b4 (b6 0) g8)) g8)) (t8 3) (O3 (tOr (F2 (tOp qEq (tOp qIx (b6 0) (b6 3)) (a2x g8))) (tB (tCB c0F (b4 (O5 (O0 K (tOp qIx (b6 0) (b6 3))) Q7 (b6L (b6 0) (b6 2))) g8)))) (a3G (b6 1) (b6 3) (tC (.bl true))) F0))) (v6 (G0 (O5 (a2u (b4 (tCB X9 (b4 (b6 0) g8)) g8)) Q7 (tIf (tB (b6L (b6 0) (b6 2))) (tOp qIx (b6 1) (b6 0)) (tOp a5T (a2x (b4 (tOp c5b (tCB X9 (b4 (b6 1) g8)) (tC (.int 1))) g8)) (tSl qSl (tOp qIx (b6 1) (b6 0)) (a9A (tC (.int 1))) a4r)))) (t8 0)) (v6 (G0 (b8y ((tC (.int 0),tC (.bl true))::[])) (t8 4)) (v6 (a1R (a2u (b4 (tCB X9 (b4 (b6 0) g8)) g8)) (t8 2) (a1R (a2u (b4 (tCB X9 (b4 (b6 0) g8)) g8)) (t8 3) (O3 (tB (b6L (b6 3) (b6 4))) (a1R (O0 K (tOp qIx (b6 0) (b6 3))) (t8 5) (a3G (b6 4) (b6 5) (tC (.bl true)))) F0))) (v6 (G0 (tCB a8V (b4 (tCB a4j (b4 (b6 4) g8)) g8)) (t8 6)) (G6 (O5 (O0 K (b6 6)) Q7 (O5 (O0 K (tOp qIx (b6 1) (b6 0))) Q7 (tBM K "list" a7w (b6 8) (b4 (b6 0) g8))))))))))
def a8S(K:Fg):Sp:=spD 1 7 (b8w K)
def c4B(K:Fg):TS:=v6 (O3 (F2 (tOp qEq (w4 (L5 K) [] E0 (b4 (b6 0) (b4 (tC (.int 5)) g8))) (tC (.int 0)))) (G6 (tOp qIx (a2x (b4 (tC (.str "k0")) (b4 (tC (.str "set")) (b4 (tC (.str "ask")) (b4 (tC (.str "k1")) (b4 (tC (.str "a")) (b4 (tC (.str "copy")) g8))))))) (w4 (L5 K) [] E0 (b4 (b6 0) (b4 (tC (.int 6)) g8))))) F0) (v6 (G0 (tOp a5T (tOp c0B (w4 (L5 K) [] E0 (b4 (b6 0) (b4 (tC (.int 4)) g8))) (tC (.int 2))) (tOp b5B (b6 1) (tC (.int 2)))) (t8 2)) (v6 (G0 (tC (.str "abcdefghijklmnopqrstuvwxyz0123456789")) (t8 3)) (G6 (tOp a5T (tOp qIx (b6 3) (w4 (L5 K) [] E0 (b4 (b6 0) (b4 (tC (.int 26)) g8)))) (tBM K "str" b6i (tC (.str "")) (b4 (O5 (a2u (b4 (b6 2) g8)) Q7 (tOp qIx (b6 4) (w4 (L5 K) [] E0 (b4 (b6 1) (b4 (tC (.int 36)) g8))))) g8))))))
def b3r(K:Fg):Sp:=spD 2 4 (c4B K)
def c1O(K:Fg):TS:=v6 (G0 a9E (t8 1)) (v6 (a1R (a2u (b4 (tOp a5T (tC (.int 3)) (w4 (L5 K) [] E0 (b4 (b6 0) (b4 (tC (.int 3)) g8)))) g8)) (t8 2) (a3G (b6 1) (w4 (b3r K) [] E0 (b4 (b6 0) (b4 (b6 2) g8))) (tC (.bl true)))) (G6 (tCB a4j (b4 (b6 1) g8))))
def b0E(K:Fg):Sp:=spD 1 3 (c1O K)
def b6a(K:Fg):TS:=v6 (O3 (F2 (tOp qGt (w4 (L5 K) [] E0 (b4 (b6 0) (b4 (tC (.int 4)) g8))) (tC (.int 0)))) (G6 (tOp qIx (b6 1) (w4 (L5 K) [] E0 (b4 (b6 0) (b4 (tCB X9 (b4 (b6 1) g8)) g8))))) F0) (v6 (G0 (w4 (L5 K) [] E0 (b4 (b6 0) (b4 (tC (.int 4)) g8))) (t8 2)) (v6 (O3 (F2 (tOp qLt (b6 2) (tC (.int 2)))) (G6 (b6 2)) F0) (v6 (O3 (F2 (tOp qEq (b6 2) (tC (.int 2)))) (G6 (tC (.int 999999999999))) F0) (G6 (w4 (L5 K) [] E0 (b4 (b6 0) (b4 (tC (.int 1000000000000)) g8)))))))
def a1S(K:Fg):Sp:=spD 2 3 (b6a K)
def c4G(K:Fg):TS:=v6 (G0 (tOp qIx (a2x (b4 (tC (.str "plus")) (b4 (tC (.str "minus")) (b4 (tC (.str "times")) (b4 (tC (.str "less")) (b4 (tC (.str "same")) g8)))))) (w4 (L5 K) [] E0 (b4 (b6 0) (b4 (tC (.int 5)) g8)))) (t8 2)) (G6 (a4H (b4 (b6 2) (b4 (w4 (a1S K) [] E0 (b4 (b6 0) (b4 (b6 1) g8))) (b4 (w4 (a1S K) [] E0 (b4 (b6 0) (b4 (b6 1) g8))) g8)))))
def b3u(K:Fg):Sp:=spD 2 3 (c4G K)
def c8U(K:Fg):TS:=v6 (G0 (w4 (L5 K) [] E0 (b4 (b6 0) (b4 (tC (.int 8)) g8))) (t8 3)) (v6 (G0 (tOp qIx (b6 1) (w4 (L5 K) [] E0 (b4 (b6 0) (b4 (tCB X9 (b4 (b6 1) g8)) g8)))) (t8 4)) (v6 (O3 (F2 (tOp qLt (b6 3) (tC (.int 5)))) (G6 (a4H (b4 (tC (.str "set")) (b4 (b6 4) (b4 (tOp qIx (b6 2) (w4 (L5 K) [] E0 (b4 (b6 0) (b4 (tCB X9 (b4 (b6 2) g8)) g8)))) g8))))) F0) (v6 (O3 (F2 (tOp qEq (b6 3) (tC (.int 5)))) (G6 (a4H (b4 (tC (.str "copy")) (b4 (b6 4) (b4 (w4 (a1S K) [] E0 (b4 (b6 0) (b4 (b6 1) g8))) g8))))) F0) (v6 (O3 (F2 (tOp qEq (b6 3) (tC (.int 6)))) (G6 (a4H (b4 (tC (.str "take")) (b4 (b6 4) g8)))) F0) (G6 (tOp qIx (a2x (b4 (a4H (b4 (tC (.str "tell")) (b4 (w4 (a1S K) [] E0 (b4 (b6 0) (b4 (b6 1) g8))) g8))) (b4 (a4H (b4 (tC (.str "skip")) g8)) g8))) (w4 (L5 K) [] E0 (b4 (b6 0) (b4 (tC (.int 2)) g8)))))))))
def b6P(K:Fg):Sp:=spD 3 5 (c8U K)
def c4A(K:Fg):TS:=v6 (G0 (tOp qEq (w4 (L5 K) [] E0 (b4 (b6 0) (b4 (tC (.int 8)) g8))) (tC (.int 0))) (t8 1)) (v6 (G0 (tOp a5T (tC (.int 1)) (w4 (L5 K) [] E0 (b4 (b6 0) (b4 (tC (.int 9)) g8)))) (t8 2)) (v6 (O3 (tB (b6 1)) (G0 (tOp a5T (tC (.int 15)) (w4 (L5 K) [] E0 (b4 (b6 0) (b4 (tC (.int 10)) g8)))) (t8 2)) F0) (v6 (G0 (w4 (a8S K) [] E0 (b4 (w4 (b6Q K) [] E0 (b4 (b6 0) (b4 (b6 2) g8))) g8)) (t8 3)) (v6 (G0 (w4 (b0E K) [] E0 (b4 (b6 0) g8)) (t8 4)) (v6 (G0 (a2x g8) (t8 5)) (v6 (a1R (a2u (b4 (tOp a5T (tC (.int 1)) (w4 (L5 K) [] E0 (b4 (b6 0) (b4 (tC (.int 3)) g8)))) g8)) (t8 6) (a0n (tBM K "list" Y0 (b6 5) (b4 (w4 (b3u K) [] E0 (b4 (b6 0) (b4 (tSl qSl (b6 4) a4r (a9A (tC (.int 2)))) g8))) g8)))) (v6 (G0 (a2x g8) (t8 7)) (v6 (a1R (O0 K (b6 3)) (t8 8) (O3 (F2 (tOp qEq (tCB X9 (b4 (b6 8) g8)) (tC (.int 2)))) (a0n (tBM K "list" Y0 (b6 7) (b4 (a4H (b4 (tC (.str "ask")) (b4 (w4 (a1S K) [] E0 (b4 (b6 0) (b4 (b6 4) g8))) g8))) g8))) (a0n (tBM K "list" Y0 (b6 7) (b4 (w4 (b6P K) [] E0 (b4 (b6 0) (b4 (b6 4) (b4 (b6 5) g8)))) g8))))) (G6 (a4H (b4 (b6 7) (b4 (b6 3) (b4 (b6 5) g8)))))))))))))
def b3q(K:Fg):Sp:=spD 1 9 (c4A K)
def c4E(K:Fg):TS:=v6 (O3 (F2 (tOp qEq (w4 (L5 K) [] E0 (b4 (b6 0) (b4 (tC (.int 4)) g8))) (tC (.int 0)))) (G6 (O5 (a2u (b4 (b6 1) g8)) Q7 (b6 0))) F0) (G6 (O5 (a2u (b4 (w4 (L5 K) [] E0 (b4 (b6 0) (b4 (tC (.int 7)) g8))) g8)) Q7 (w4 (L5 K) [] E0 (b4 (b6 1) (b4 (b6 2) g8)))))
def b3t(K:Fg):Sp:=spD 2 2 (c4E K)
def c4y(K:Fg):TS:=v6 (G0 (a2x (b4 (a4H (b4 (tUn (rU fun i=>.int (-i)) (tC (.int 1))) (b4 (tC (.int 0)) g8))) g8)) (t8 3)) (v6 (G0 (tC (.int 0)) (t8 4)) (v6 (a1R (a2u (b4 (w4 (L5 K) [] E0 (b4 (b6 0) (b4 (b6 2) g8))) g8)) (t8 5) (O3 (F2 (tOp qNe (tOp qIx (b6 1) (b6 4)) (a2x g8))) (v6 (G0 (w4 (L5 K) [] E0 (b4 (b6 0) (b4 (tCB X9 (b4 (tOp qIx (b6 1) (b6 4)) g8)) g8))) (t8 6)) (v6 (a0n (tBM K "list" Y0 (b6 3) (b4 (a4H (b4 (b6 4) (b4 (b6 6) g8))) g8))) (G0 (tOp qIx (tOp qIx (b6 1) (b6 4)) (b6 6)) (t8 4)))) F0)) (G6 (b6 3))))
def b3p(K:Fg):Sp:=spD 3 7 (c4y K)
def d1W(K:Fg):TS:=v6 (O3 (F2 (tOp qLt (tOp (b8Q K) (b6 1) (tC (.int 0))) (tC (.int 0)))) (G6 (tC (.int 0))) F0) (G6 (tOp qIx (tOp qIx (b6 0) (tOp (b8Q K) (b6 1) (tC (.int 0)))) (tOp (b8Q K) (b6 1) (tC (.int 1)))))
def b8B(K:Fg):Sp:=spD 2 2 (d1W K)
def c8X(K:Fg):TS:=v6 (G0 (O5 (O0 K (b6 0)) Q7 (tIf (F2 (tOp qEq (b6 0) (a2x g8))) (tC (.int 0)) (tCB X9 (b4 (b6 1) g8)))) (t8 1)) (v6 (a1R (a2u (b4 (tCB X9 (b4 (b6 0) g8)) g8)) (t8 2) (a1R (a2u (b4 (tCB X9 (b4 (b6 0) g8)) g8)) (t8 3) (O3 (F2 (tOp qNe (tOp qIx (b6 0) (b6 3)) (a2x g8))) (G0 (tCB c2N (b4 (tCB X9 (b4 (b6 0) g8)) (b4 (tOp a5T (tC (.int 1)) (tCB b4q (b4 (O5 (O0 K (tOp qIx (b6 0) (b6 3))) Q7 (tOp qIx (b6 2) (b6 0))) g8))) g8))) (c1l (b6 1) (b6 3) b5A)) F0))) (G6 (b6 1)))
def b6R(K:Fg):Sp:=spD 1 4 (c8X K)
def c4D(K:Fg):TS:=v6 (G0 (w4 (b6R K) [] E0 (b4 (b6 0) g8)) (t8 2)) (v6 (G0 (a2x g8) (t8 3)) (v6 (a1R (a2u (b4 (tCB X9 (b4 (b6 0) g8)) g8)) (t8 4) (O3 (F2 (tOp qNe (tOp qIx (b6 0) (b6 1)) (a2x g8))) (v6 (fun D σ H=>(O5 (O0 K (tOp qIx (b6 0) (b6 1))) Q7 (tOp qIx (b6 3) (b6 0))) σ H fun v H1=>D.nx (σ.set 5 (some v)) H1) (v6 (G0 (tBM K "list" a7w (b6 5) (b4 (tCB b4q (b4 (b6 5) g8)) g8)) (t8 6)) (v6 (a0n (tBM K "list" Y0 (b6 3) (b4 (a4H (b4 (b6 1) (b4 (b6 6) g8))) g8))) (G0 (tOp qIx (tOp qIx (b6 0) (b6 1)) (b6 6)) (t8 1))))) F0)) (G6 (b6 3))))
def b3s(K:Fg):Sp:=spD 2 7 (c4D K)
def b6e(K:Fg):TS:=v6 (G0 (w4 (b3p K) [] E0 (b4 (b6 0) (b4 (b6 1) (b4 (b6 2) g8)))) (t8 3)) (G6 (tOp a5T (b6 3) (w4 (b3s K) [] E0 (b4 (b6 1) (b4 (w4 (b8B K) [] E0 (b4 (b6 1) (b4 (tOp qIx (b6 3) (tUn (rU fun i=>.int (-i)) (tC (.int 1)))) g8))) g8)))))
def a7m(K:Fg):Sp:=spD 3 4 (b6e K)
def c8W(K:Fg):TS:=G6 (a1w (tCB a8d (b4 (b6 0) (b4 (tC (.ty "int")) g8))) (a8u (tCB a8d (b4 (b6 0) (b4 (tC (.ty "bool")) g8)))))
def b1F(K:Fg):Sp:=spD 1 1 (c8W K)
def b2E(K:Fg):TS:=v6 (O3 (a3X (tB (tCB a8d (b4 (b6 0) (b4 (tC (.ty "list")) g8))))) (G6 (tC (.bl false))) F0) (v6 (a1R (O0 K (b6 0)) (t8 1) (O3 (tOr (a3X (tB (tCB (c5d K) (b4 (b6 1) (b4 (tC (.ty "tuple")) g8))))) (tOr (F2 (tOp qNe (tCB (c5c K) (b4 (b6 1) g8)) (tC (.int 2)))) (tOr (a3X (tB (w4 (b1F K) [] E0 (b4 (tOp (b8Q K) (b6 1) (tC (.int 0))) g8)))) (a3X (tB (w4 (b1F K) [] E0 (b4 (tOp (b8Q K) (b6 1) (tC (.int 1))) g8))))))) (G6 (tC (.bl false))) F0)) (G6 (tC (.bl true))))
def a3x(K:Fg):Sp:=spD 1 2 (b2E K)
def b3W(K:Fg):TS:=v6 (O3 (tOr (a3X (tB (tCB a8d (b4 (b6 0) (b4 (tC (.ty "list")) g8))))) (F2 (tOp qNe (tCB X9 (b4 (b6 0) g8)) (tCB X9 (b4 (b6 1) g8))))) (G6 (tC (.bl false))) F0) (v6 (a1R (c3p K (b4 (b6 0) (b4 (b6 1) g8))) (b2i K 2 (a1y (t8 2) (a1y (t8 3) (b2j)))) (O3 (tOr (a3X (tB (w4 (b1F K) [] E0 (b4 (b6 2) g8)))) (F2 (tOp qNe (b6 2) (b6 3)))) (G6 (tC (.bl false))) F0)) (G6 (tC (.bl true))))
def a6g(K:Fg):Sp:=spD 2 4 (b3W K)
def b8v(K:Fg):TS:=G6 (O5 (O0 K (b6 1)) Q7 (w4 (b8B K) [] E0 (b4 (b6 1) (b4 (b6 0) g8))))
def a8R(K:Fg):Sp:=spD 2 2 (b8v K)
def b3T(K:Fg):TS:=G6 (a1w (tOp qEq (tOp qIx (b6 0) (tC (.int 0))) (tC (.str "set"))) (tOp qEq (tOp qIx (b6 0) (tC (.int 2))) (b6 1)))
def a4J(K:Fg):Sp:=spD 2 2 (b3T K)
def b6d(K:Fg):TS:=v6 (G0 (w4 (a8R K) [] E0 (b4 (b6 1) (b4 (b6 3) g8))) (t8 7)) (v6 (G0 (tCB a9B (b4 (O5 (O0 K (b6 3)) Q7 (tCB b8R (b4 (tOp (c0D K false) (b6 0) (b6 5)) g8))) g8)) (t8 8)) (v6 (G0 (tOp a5T (tCB a9B (b4 (O5 (O0 K (b6 3)) Q7 (tCB b8R (b4 (tOp (c0D K false) (b6 0) (b6 6)) g8))) g8)) (tCB a9B (b4 (O5 (O0 K (b6 7)) Q7 (tCB b8R (b4 (tOp (qIn false) (b6 0) (b6 7)) g8))) g8))) (t8 9)) (v6 (G0 (tCB a9B (b4 (O5 (O0 K (b6 7)) Q7 (tCB b8R (b4 (w4 (a4J K) [] E0 (b4 (tOp qIx (b6 1) (b6 0)) (b4 (b6 3) g8))) g8))) g8)) (t8 10)) (v6 (O3 (tOr (F2 (tOp qNe (b6 9) (b6 8))) (F2 (tOp qGt (b6 8) (b6 10)))) (G6 (tC (.bl false))) F0) (v6 (G0 (tC (.bl false)) (t8 11)) (v6 (a1R (c3p K (b4 (b6 3) (b4 (b6 7) g8))) (b2i K 2 (a1y (t8 12) (a1y (t8 13) (b2j)))) (v6 (O3 (F2 (tOp (c0D K false) (b6 12) (b6 4))) (v6 (O3 (tB (b6 11)) (G6 (tC (.bl false))) F0) (G0 (tC (.bl true)) (t8 11))) F0) (O3 (tB (w4 (a4J K) [] E0 (b4 (tOp qIx (b6 0) (b6 13)) (b4 (b6 2) g8)))) (G0 (tC (.bl false)) (t8 11)) F0))) (G6 (a8u (b6 11)))))))))
def a7l(K:Fg):Sp:=spD 7 14 (b6d K)
def a8s(K:Fg):TS:=G6 (tCB (b4r K) (b4 (Z1 K (b6 0) "found") g8))
def a1x(K:Fg):Sp:=spD 1 1 (a8s K)
def a9x(K:Fg):TS:=G6 (tCB (b4r K) (b4 (Z1 K (b6 0) "put_in") g8))
def a3A(K:Fg):Sp:=spD 1 1 (a9x K)
def a8r(K:Fg):TS:=G6 (tCB a4j (b4 (Z1 K (b6 0) "left_in") g8))
def a2K(K:Fg):Sp:=spD 1 1 (a8r K)
def a5u(K:Fg):TS:=v6 (O3 (tOr (a3X (tB (tCB a8d (b4 (b6 0) (b4 (tC (.ty "list")) g8))))) (F2 (tOp qLt (tCB X9 (b4 (b6 0) g8)) (b6 2)))) (fun _ _ _=>False) F0) (O3 (F2 (tOp qGt (tCB X9 (b4 (b6 0) g8)) (tC (.int 400)))) (fun _ _ _=>False) F0)
def a0B(K:Fg):Sp:=spD 3 3 (a5u K)
def b1B(K:Fg):TS:=v6 (O3 (tOr (a3X (tB (tCB a8d (b4 (b6 0) (b4 (tC (.ty "str")) g8))))) (a3X (F2 (a8v qLe qLe (tC (.int 1)) (tCB X9 (b4 (b6 0) g8)) (tC (.int 8)))))) (G6 (tC (.bl false))) F0) (G6 (a1w (tOp (qIn false) (tOp qIx (b6 0) (tC (.int 0))) (tC (.str "abcdefghijklmnopqrstuvwxyz"))) (tCB b5C (b4 (O5 (c8q (b6 0)) Q7 (tOp (qIn false) (b6 0) (tOp a5T (tC (.str "abcdefghijklmnopqrstuvwxyz")) (tC (.str "0123456789"))))) g8))))
def a1k(K:Fg):Sp:=spD 1 1 (b1B K)
def c0d(K:Fg):TS:=G6 (a1w (tCB a8d (b4 (b6 0) (b4 (tC (.ty "int")) g8))) (a8u (tCB a8d (b4 (b6 0) (b4 (tC (.ty "bool")) g8)))))
def a4K(K:Fg):Sp:=spD 1 1 (c0d K)
def b3U(K:Fg):TS:=G6 (a1w (w4 (a4K K) [] E0 (b4 (b6 0) g8)) (a8v qLe qLt (tC (.int 0)) (b6 0) (tC (.int 1000000000000))))
def a6f(K:Fg):Sp:=spD 1 1 (b3U K)
def b0w(K:Fg):TS:=G6 (b6K (w4 (a1k K) [] E0 (b4 (b6 0) g8)) (w4 (a6f K) [] E0 (b4 (b6 0) g8)))
def a0J(K:Fg):Sp:=spD 1 1 (b0w K)
def b6b(K:Fg)(c:Cn):TS:=v6 (O3 (tOr (a3X (tB (tCB a8d (b4 (b6 0) (b4 (tC (.ty "tuple")) g8))))) (F2 (tOp qNe (tCB X9 (b4 (b6 0) g8)) (tC (.int 3))))) (G6 (tC (.bl false))) F0) (G6 (a1w (tOp (c9U K) (tOp qIx (b6 0) (tC (.int 0))) (tC (.ref c.a7S))) (a1w (w4 (a0J K) [] E0 (b4 (tOp qIx (b6 0) (tC (.int 1))) g8)) (w4 (a0J K) [] E0 (b4 (tOp qIx (b6 0) (tC (.int 2))) g8)))))
def a5B(K:Fg)(c:Cn):Sp:=spD 1 1 (b6b K c)
def b8x(K:Fg)(c:Cn):TS:=v6 (O3 (tOr (a3X (tB (tCB a8d (b4 (b6 0) (b4 (tC (.ty "tuple")) g8))))) (F2 (tOp qEq (tCB X9 (b4 (b6 0) g8)) (tC (.int 0))))) (G6 (tC (.bl false))) F0) (v6 (G0 (tOp qIx (b6 0) (tC (.int 0))) (t8 1)) (v6 (G0 (tSl qSl (b6 0) (a9A (tC (.int 1))) a4r) (t8 2)) (v6 (O3 (F2 (tOp qEq (b6 1) (tC (.str "set")))) (G6 (a1w (tOp qEq (tCB X9 (b4 (b6 2) g8)) (tC (.int 2))) (a1w (w4 (a1k K) [] E0 (b4 (tOp qIx (b6 2) (tC (.int 0))) g8)) (w4 (a5B K c) [] E0 (b4 (tOp qIx (b6 2) (tC (.int 1))) g8))))) F0) (v6 (O3 (F2 (tOp qEq (b6 1) (tC (.str "copy")))) (G6 (a1w (tOp qEq (tCB X9 (b4 (b6 2) g8)) (tC (.int 2))) (a1w (w4 (a1k K) [] E0 (b4 (tOp qIx (b6 2) (tC (.int 0))) g8)) (w4 (a0J K) [] E0 (b4 (tOp qIx (b6 2) (tC (.int 1))) g8))))) F0) (v6 (O3 (F2 (tOp qEq (b6 1) (tC (.str "take")))) (G6 (a1w (tOp qEq (tCB X9 (b4 (b6 2) g8)) (tC (.int 1))) (w4 (a1k K) [] E0 (b4 (tOp qIx (b6 2) (tC (.int 0))) g8)))) F0) (v6 (O3 (F2 (tOp (qIn false) (b6 1) (a4H (b4 (tC (.str "tell")) (b4 (tC (.str "ask")) g8))))) (G6 (a1w (tOp qEq (tCB X9 (b4 (b6 2) g8)) (tC (.int 1))) (w4 (a0J K) [] E0 (b4 (tOp qIx (b6 2) (tC (.int 0))) g8)))) F0) (G6 (a1w (tOp qEq (b6 1) (tC (.str "skip"))) (tOp qEq (tCB X9 (b4 (b6 2) g8)) (tC (.int 0)))))))))))
def a8T(K:Fg)(c:Cn):Sp:=spD 1 3 (b8x K c)
def b0z(K:Fg):TS:=a1R (a7X K (b4 (b6 0) g8)) (b2i K 2 (a1y (t8 1) (a1y (t8 2) (b2j)))) (O3 (a3X (tB (b6 2))) (fun _ _ _=>False) F0)
def a1B(K:Fg):Sp:=spD 1 3 (b0z K)
def b3V(K:Fg):TS:=G6 (a1w (w4 (a4K K) [] E0 (b4 (b6 0) g8)) (a8v qLe qLt (tC (.int 0)) (b6 0) (b6 1)))
def a4L(K:Fg):Sp:=spD 2 2 (b3V K)
def b2F(K:Fg):TS:=v6 (O3 (a3X (tB (tCB a8d (b4 (b6 1) (b4 (tC (.ty "list")) g8))))) (G6 (tC (.bl false))) F0) (v6 (G0 (tIf (F2 (tOp qEq (tOp qIx (b6 0) (tC (.int 0))) (tC (.str "ask")))) (a4H (b4 (tC (.int 2)) g8)) (a4H (b4 (tC (.int 0)) (b4 (tC (.int 1)) g8)))) (t8 3)) (G6 (a1w (tOp (qIn false) (tCB X9 (b4 (b6 1) g8)) (b6 3)) (tCB b5C (b4 (O5 (O0 K (b6 1)) Q7 (w4 (a4L K) [] E0 (b4 (b6 0) (b4 (b6 3) g8)))) g8)))))
def a5e(K:Fg):Sp:=spD 3 4 (b2F K)
def a9v(K:Fg):TS:=v6 (O3 (tOr (a3X (tB (tCB a8d (b4 (b6 1) (b4 (tC (.ty "list")) g8))))) (F2 (tOp qNe (tCB X9 (b4 (b6 1) g8)) (tCB X9 (b4 (b6 0) g8))))) (fun _ _ _=>False) F0) (a0n (w4 (a1B K) [] E0 (b4 (a7k K (c3p K (b4 (b6 0) (b4 (b6 1) g8))) Q7 (w4 (a5e K) [] E0 (b4 (b6 0) (b4 (b6 1) (b4 (tCB X9 (b4 (b6 2) g8)) g8))))) g8)))
def a3z(K:Fg):Sp:=spD 2 2 (a9v K)
def b5Y(K:Fg):TS:=v6 (G0 a9E (t8 2)) (v6 (G0 (tCB a6U (b4 (b6 0) g8)) (t8 3)) (v6 (a8t (F2 (tOp qGt (tCB X9 (b4 (b6 3) g8)) (tC (.int 0)))) (v6 (G0 (c6P K "list" c2L (b6 3)) (t8 4)) (O3 (tB (a0T (b6 4) (b6 2))) (v6 (a3G (b6 2) (b6 4) (tC (.bl true))) (a0n (tBM K "list" a7x (b6 3) (b4 (tOp qIx (b6 1) (b6 4)) g8)))) F0))) (G6 (b6 2))))
def a5z(K:Fg):Sp:=spD 2 5 (b5Y K)
def b8s(K:Fg):TS:=v6 (fun D σ H=>(O5 (O0 K (b6 0)) Q7 (a2x g8)) σ H fun v H1=>D.nx (σ.set 1 (some v)) H1) (v6 (a1R (a7X K (b4 (b6 0) g8)) (b2i K 2 (a1y (t8 2) (a1y (t8 3) (b2j)))) (a1R (O0 K (b6 3)) (t8 4) (a0n (tBM K "list" Y0 (tOp qIx (b6 1) (b6 4)) (b4 (b6 2) g8))))) (G6 (b6 1)))
def a8Q(K:Fg):Sp:=spD 1 5 (b8s K)
def b3Q(K:Fg):TS:=G6 (a7k K (a7X K (b4 (b6 0) g8)) (F2 (tOp qEq (tCB X9 (b4 (b6 1) g8)) (tC (.int 0)))) (b6 0))
def a6e(K:Fg):Sp:=spD 1 1 (b3Q K)
def b0x(K:Fg):TS:=v6 (G0 (w4 (a5z K) [] E0 (b4 (a2x (b4 (tC (.int 0)) g8)) (b4 (b6 0) g8))) (t8 1)) (v6 (G0 (w4 (a5z K) [] E0 (b4 (w4 (a6e K) [] E0 (b4 (b6 0) g8)) (b4 (w4 (a8Q K) [] E0 (b4 (b6 0) g8)) g8))) (t8 2)) (a1R (a2u (b4 (tCB X9 (b4 (b6 0) g8)) g8)) (t8 3) (O3 (tOr (tB (a0T (b6 3) (b6 1))) (tB (a0T (b6 3) (b6 2)))) (fun _ _ _=>False) F0)))
def a4s(K:Fg):Sp:=spD 1 4 (b0x K)
def b3R(K:Fg)(c:Cn):TS:=v6 (G0 (a2x (b4 (tC (.ref c.M7)) g8)) (t8 1)) (v6 (a1R (a7X K (b4 (b6 0) g8)) (b2i K 2 (a1y (t8 2) (a1y (t8 3) (b2j)))) (a0n (tBM K "list" a7x (b6 1) (b4 (O5 (a2u (b4 (tCB X9 (b4 (b6 3) g8)) g8)) Q7 (a4H (b4 (b6 3) (b4 (b6 0) g8)))) g8)))) (G6 (b6 1)))
def a4I(K:Fg)(c:Cn):Sp:=spD 1 4 (b3R K c)
def a7V(K:Fg)(c:Cn):TS:=v6 (O3 (F2 (tOp (c2P K) (b6 1) (tC (.ref c.M7)))) (G6 (tC (.int 0))) F0) (G6 (tOp qIx (tOp qIx (Z1 K (b6 0) "nexts") (tOp qIx (b6 1) (tC (.int 0)))) (tOp qIx (b6 1) (tC (.int 1)))))
def T8(K:Fg)(c:Cn):Sp:=spD 2 2 (a7V K c)
def b2G(K:Fg)(c:Cn):TS:=v6 (a0n (w4 (a0B K) [] E0 (b4 (b6 1) (b4 (tC (.int 0)) (b4 (tC (.int 1)) g8))))) (v6 (a0n (w4 (a1B K) [] E0 (b4 (O5 (O0 K (b6 1)) Q7 (w4 (a8T K c) [] E0 (b4 (b6 0) g8))) g8))) (v6 (a0n (w4 (a3z K) [] E0 (b4 (b6 1) (b4 (b6 2) g8)))) (v6 (a0n (w4 (a4s K) [] E0 (b4 (b6 2) g8))) (v6 (a5h K (b6 0) (tCB a6U (b4 (b6 1) g8)) "rows") (v6 (a5h K (b6 0) (O5 (O0 K (b6 2)) Q7 (tCB a6U (b4 (b6 0) g8))) "nexts") (v6 (a5h K (b6 0) (O5 (O0 K (b6 1)) Q7 (a2x g8)) "entries") (a1R (O0 K (w4 (a4I K c) [] E0 (b4 (Z1 K (b6 0) "nexts") g8))) (t8 3) (a0n (tBM K "list" Y0 (tOp qIx (Z1 K (b6 0) "entries") (W0 c.M8 "leads_to" (T8 K c) [] E0 (b6 0) (b4 (b6 3) g8))) (b4 (b6 3) g8))))))))))
def a5f(K:Fg)(c:Cn):Sp:=spD 3 4 (b2G K c)
def b0B(K:Fg)(c:Cn):TS:=G6 (w4 (a4I K c) [] E0 (b4 (Z1 K (b6 0) "nexts") g8))
def a1C(K:Fg)(c:Cn):Sp:=spD 1 1 (b0B K c)
def a5w(K:Fg):TS:=G6 (a0T (b6 1) (Z1 K (b6 0) "goes_by"))
def Z2(K:Fg):Sp:=spD 2 2 (a5w K)
def a5v(K:Fg)(c:Cn):TS:=G6 (W0 c.R0 "wanted_at" (Z2 K) [] E0 (b6 0) (b4 (W0 c.M8 "leads_to" (T8 K c) [] E0 (Z1 K (b6 0) "plan") (b4 (b6 1) g8)) g8))
def a0V(K:Fg)(c:Cn):Sp:=spD 2 2 (a5v K c)
def b8u(K:Fg):TS:=G6 (tIf (F2 (tOp (qIn false) (tOp qIx (b6 0) (tC (.int 0))) (a4H (b4 (tC (.str "set")) (b4 (tC (.str "copy")) (b4 (tC (.str "take")) g8)))))) (tOp qIx (b6 0) (tC (.int 1))) (tC .non))
def b1E(K:Fg):Sp:=spD 1 1 (b8u K)
def b8t(K:Fg):TS:=G6 (tOp (qIn false) (w4 (b1E K) [] E0 (b4 (b6 0) g8)) (tSl qSl (b6 1) (a9A (tC (.int 1))) a4r))
def a4f(K:Fg):Sp:=spD 2 2 (b8t K)
def b6c(K:Fg):TS:=G6 (tIf (F2 (tOp qEq (tOp qIx (b6 0) (tC (.int 0))) (tC (.str "set")))) (tOp qIx (b6 0) (tC (.int 2))) (tC .non))
def a9G(K:Fg):Sp:=spD 1 1 (b6c K)
def c4F(K:Fg):TS:=G6 (tOp qEq (w4 (a9G K) [] E0 (b4 (b6 0) g8)) (b6 1))
def a3y(K:Fg):Sp:=spD 2 2 (c4F K)
def a6P(K:Fg):TS:=G6 (a0T (b6 1) (Z1 K (b6 0) "come_by"))
def a1I(K:Fg):Sp:=spD 2 2 (a6P K)
def a4G(K:Fg)(c:Cn):TS:=v6 (G0 (tOp qIx (Z1 K (Z1 K (b6 0) "plan") "rows") (b6 1)) (t8 2)) (v6 (O3 (tB (w4 (a4f K) [] E0 (b4 (b6 2) (b4 (Z1 K (b6 0) "deed") g8)))) (G6 (tC (.bl false))) F0) (G6 (b6K (w4 (a3y K) [] E0 (b4 (b6 2) (b4 (Z1 K (b6 0) "deed") g8))) (W0 c.Z0 "ready_at" (a1I K) [] E0 (b6 0) (b4 (b6 1) g8)))))
def a0t(K:Fg)(c:Cn):Sp:=spD 2 3 (a4G K c)
def a6O(K:Fg)(c:Cn):TS:=G6 (a1w (tOp (c2M K) (b6 1) (tC (.ref c.M7))) (W0 c.Z0 "ready_behind" (a0t K c) [] E0 (b6 0) (b4 (tOp qIx (b6 1) (tC (.int 0))) g8)))
def a1H(K:Fg)(c:Cn):Sp:=spD 2 2 (a6O K c)
def a2D(K:Fg):TS:=G6 (w4 (a4f K) [] E0 (b4 (tOp qIx (Z1 K (Z1 K (b6 0) "plan") "rows") (tOp qIx (b6 1) (tC (.int 0)))) (b4 (Z1 K (b6 0) "deed") g8)))
def P6(K:Fg):Sp:=spD 2 2 (a2D K)
def a3u(K:Fg)(c:Cn):TS:=v6 (G0 (tOp qIx (Z1 K (Z1 K (b6 0) "plan") "nexts") (b6 1)) (t8 2)) (G6 (a1w (tOp qGt (tCB X9 (b4 (b6 2) g8)) (tC (.int 0))) (tCB b5C (b4 (O5 (O0 K (b6 2)) Q7 (W0 c.R0 "wanted_at" (Z2 K) [] E0 (b6 1) (b4 (b6 0) g8))) g8))))
def T7(K:Fg)(c:Cn):Sp:=spD 2 3 (a3u K c)
def a6d(K:Fg)(c:Cn):TS:=v6 (O3 (tOr (a3X (tB (W0 c.R0 "wanted_on" (a0V K c) [] E0 (Z1 K (b6 0) "wanted") (b4 (b6 1) g8)))) (tB (W0 c.Z0 "ready_on" (a1H K c) [] E0 (Z1 K (b6 0) "ready") (b4 (b6 1) g8)))) (G6 (tC (.bl false))) F0) (G6 (b6K (tOp (c2P K) (b6 1) (tC (.ref c.M7))) (b6K (W0 c.E3 "is_spoilt_ahead" (P6 K) [] E0 (b6 0) (b4 (b6 1) g8)) (a8u (W0 c.R0 "wanted_behind" (T7 K c) [] E0 (Z1 K (b6 0) "wanted") (b4 (tOp qIx (b6 1) (tC (.int 0))) g8))))))
def a1m(K:Fg)(c:Cn):Sp:=spD 2 2 (a6d K c)
def b5Z(K:Fg):TS:=a1R (a7X K (b4 (tOp qIx (Z1 K (b6 0) "nexts") (b6 1)) g8)) (b2i K 2 (a1y (t8 4) (a1y (t8 5) (b2j)))) (O3 (tB (a0T (b6 5) (b6 2))) (v6 (a3G (b6 2) (b6 5) (a4H (b4 (b6 1) (b4 (b6 4) g8)))) (a0n (tBM K "list" Y0 (b6 3) (b4 (b6 5) g8)))) F0)
def a5A(K:Fg):Sp:=spD 4 6 (b5Z K)
def a7U(K:Fg)(c:Cn):TS:=v6 (G0 (b8y ((tC (.int 0),tC (.ref c.M7))::[])) (t8 3)) (v6 (G0 (a2x (b4 (tC (.int 0)) g8)) (t8 4)) (v6 (a1R (a2u (b4 (tCB X9 (b4 (Z1 K (b6 0) "rows") g8)) g8)) (t8 5) (O3 (tB (tOp qIx (b6 2) (b6 5))) (a0n (w4 (a5A K) [] E0 (b4 (b6 0) (b4 (b6 5) (b4 (b6 3) (b4 (b6 4) g8)))))) F0)) (v6 (G0 (tC (.int 0)) (t8 6)) (v6 (a8t (F2 (tOp qLt (b6 6) (tCB X9 (b4 (b6 4) g8)))) (v6 (G0 (tOp qIx (b6 4) (b6 6)) (t8 5)) (v6 (c0f 6 (tC (.int 1)) (ipI fun i j=>i+j)) (O3 (a3X (tB (tOp qIx (b6 1) (b6 5)))) (a0n (w4 (a5A K) [] E0 (b4 (b6 0) (b4 (b6 5) (b4 (b6 3) (b4 (b6 4) g8)))))) F0)))) (G6 (b6 3))))))
def a2g(K:Fg)(c:Cn):Sp:=spD 3 7 (a7U K c)
def b0A(K:Fg)(c:Cn):TS:=v6 (a5h K (b6 0) (b6 1) "plan") (v6 (a5h K (b6 0) (b6 2) "deed") (v6 (fun D σ H=>(O5 (O0 K (Z1 K (b6 1) "rows")) Q7 (w4 (a3y K) [] E0 (b4 (b6 0) (b4 (b6 3) g8)))) σ H fun v H1=>D.nx (σ.set 3 (some v)) H1) (a5h K (b6 0) (w4 (a2g K c) [] E0 (b4 (b6 1) (b4 (b6 3) (b4 (O5 (O0 K (Z1 K (b6 1) "rows")) Q7 (w4 (a4f K) [] E0 (b4 (b6 0) (b4 (b6 3) g8)))) g8)))) "come_by")))
def a2E(K:Fg)(c:Cn):Sp:=spD 3 4 (b0A K c)
def a7T(K:Fg):TS:=v6 (G0 (a2x g8) (t8 2)) (v6 (a1R (a7X K (b4 (Z1 K (b6 0) "rows") g8)) (b2i K 2 (a1y (t8 3) (a1y (t8 4) (b2j)))) (O3 (b1C (a3X (tB (w4 (a3y K) [] E0 (b4 (b6 4) (b4 (b6 1) g8))))) (tOr (tB (w4 (a4f K) [] E0 (b4 (b6 4) (b4 (b6 1) g8)))) (F2 (tOp qEq (tCB X9 (b4 (tOp qIx (Z1 K (b6 0) "nexts") (b6 3)) g8)) (tC (.int 0)))))) (a0n (tBM K "list" Y0 (b6 2) (b4 (b6 3) g8))) F0)) (G6 (b6 2)))
def a2f(K:Fg):Sp:=spD 2 5 (a7T K)
def a6a(K:Fg):TS:=G6 (tCB a6U (b4 (tOp qIx (Z1 K (b6 0) "entries") (b6 1)) g8))
def a0o(K:Fg):Sp:=spD 2 2 (a6a K)
def a6N(K:Fg)(c:Cn):TS:=v6 (G0 (w4 (a2f K) [] E0 (b4 (b6 0) (b4 (b6 1) g8))) (t8 2)) (v6 (G0 (tCB b7i (b4 (O5 (O0 K (b6 2)) Q7 (a4H (b4 (b6 0) (b4 (tC .non) g8)))) g8)) (t8 3)) (v6 (G0 (tC (.int 0)) (t8 4)) (v6 (a8t (F2 (tOp qLt (b6 4) (tCB X9 (b4 (b6 2) g8)))) (v6 (G0 (tOp qIx (b6 2) (b6 4)) (t8 5)) (v6 (c0f 4 (tC (.int 1)) (ipI fun i j=>i+j)) (a1R (O0 K (W0 c.M8 "steps_into" (a0o K) [] E0 (b6 0) (b4 (b6 5) g8))) (t8 6) (O3 (b1C (F2 (tOp (c2M K) (b6 6) (tC (.ref c.M7)))) (b1C (tB (a0T (tOp qIx (b6 6) (tC (.int 0))) (b6 3))) (a3X (tB (w4 (a3y K) [] E0 (b4 (tOp qIx (Z1 K (b6 0) "rows") (tOp qIx (b6 6) (tC (.int 0)))) (b4 (b6 1) g8))))))) (v6 (a3G (b6 3) (tOp qIx (b6 6) (tC (.int 0))) (b6 6)) (a0n (tBM K "list" Y0 (b6 2) (b4 (tOp qIx (b6 6) (tC (.int 0))) g8)))) F0))))) (G6 (b6 3)))))
def a1G(K:Fg)(c:Cn):Sp:=spD 2 7 (a6N K c)
def a9w(K:Fg)(c:Cn):TS:=v6 (a5h K (b6 0) (b6 1) "plan") (a5h K (b6 0) (w4 (a1G K c) [] E0 (b4 (b6 1) (b4 (b6 2) g8))) "goes_by")
def a1T(K:Fg)(c:Cn):Sp:=spD 3 3 (a9w K c)
def a9z(K:Fg)(c:Cn):TS:=v6 (a5h K (b6 0) (b6 1) "plan") (v6 (a5h K (b6 0) (b6 2) "deed") (v6 (a5h K (b6 0) (a5x c.Z0 (a2E K c) [] E0 (b4 (b6 1) (b4 (b6 2) g8))) "ready") (v6 (a5h K (b6 0) (a5x c.R0 (a1T K c) [] E0 (b4 (b6 1) (b4 (b6 2) g8))) "wanted") (a5h K (b6 0) (tCB (b7h K) (b4 (O5 (O0 K (W0 c.M8 "steps" (a1C K c) [] E0 (b6 1) g8)) (tB (W0 c.E3 "is_brink" (a1m K c) [] E0 (b6 1) (b4 (b6 0) g8))) (a4H (b4 (b6 0) (b4 (tC (.bl true)) g8)))) g8)) "found"))))
def a1a(K:Fg)(c:Cn):Sp:=spD 3 3 (a9z K c)
def b0y(K:Fg):TS:=O3 (F2 (tOp c0C (b6 1) (tC .non))) (v6 (a0n (w4 (a0B K) [] E0 (b4 (b6 1) (b4 (b6 2) (b4 (tC (.int 0)) g8))))) (a0n (w4 (a1B K) [] E0 (b4 (O5 (O0 K (b6 1)) Q7 (w4 (a4L K) [] E0 (b4 (b6 0) (b4 (tCB X9 (b4 (Z1 K (b6 1) "rows") g8)) g8)))) g8)))) F0
def a4t(K:Fg):Sp:=spD 3 3 (b0y K)
def b3S(K:Fg):TS:=G6 (tCB (c0E K) (b4 (O5 (O0 K (b6 0)) Q7 (a4H (b4 (b6 0) (b4 (tC (.bl true)) g8)))) g8))
def a2h(K:Fg):Sp:=spD 1 1 (b3S K)
def a5t(K:Fg)(c:Cn):TS:=v6 (G0 (w4 (a2h K) [] E0 (b4 (b6 3) g8)) (t8 4)) (v6 (a1R (O0 K (W0 c.M8 "steps" (a1C K c) [] E0 (b6 0) g8)) (t8 5) (O3 (b1C (tB (b5r K true (b6 5) (b6 2))) (tOr (F2 (tOp (c2P K) (b6 5) (tC (.ref c.M7)))) (tB (w4 (a3y K) [] E0 (b4 (tOp qIx (Z1 K (b6 0) "rows") (tOp qIx (b6 5) (tC (.int 0)))) (b4 (b6 1) g8)))))) (a3G (b6 4) (W0 c.M8 "leads_to" (T8 K c) [] E0 (b6 0) (b4 (b6 5) g8)) (tC (.bl true))) F0)) (v6 (G0 (tCB a4j (b4 (b6 4) g8)) (t8 6)) (v6 (G0 (tC (.int 0)) (t8 7)) (v6 (a8t (F2 (tOp qLt (b6 7) (tCB X9 (b4 (b6 6) g8)))) (v6 (G0 (tOp qIx (b6 6) (b6 7)) (t8 8)) (v6 (c0f 7 (tC (.int 1)) (ipI fun i j=>i+j)) (a1R (a7X K (b4 (tOp qIx (Z1 K (b6 0) "nexts") (b6 8)) g8)) (b2i K 2 (a1y (t8 9) (a1y (t8 10) (b2j)))) (O3 (b1C (tB (b5r K true (a4H (b4 (b6 8) (b4 (b6 9) g8))) (b6 2))) (tB (a0T (b6 10) (b6 4)))) (v6 (a3G (b6 4) (b6 10) (tC (.bl true))) (a0n (tBM K "list" Y0 (b6 6) (b4 (b6 10) g8)))) F0))))) (G6 (b6 4))))))
def a0U(K:Fg)(c:Cn):Sp:=spD 4 11 (a5t K c)
def a3Z(K:Fg)(c:Cn):TS:=v6 (G0 a9E (t8 4)) (v6 (G0 (tCB a4j (b4 (b6 2) g8)) (t8 5)) (v6 (G0 (tC (.int 0)) (t8 6)) (v6 (a8t (F2 (tOp qLt (b6 6) (tCB X9 (b4 (b6 5) g8)))) (v6 (G0 (tOp qIx (b6 5) (b6 6)) (t8 7)) (v6 (c0f 6 (tC (.int 1)) (ipI fun i j=>i+j)) (a1R (O0 K (W0 c.M8 "steps_into" (a0o K) [] E0 (b6 0) (b4 (b6 7) g8))) (t8 8) (v6 (G0 (tOp (b8Q K) (b6 8) (tC (.int 0))) (t8 9)) (O3 (b1C (F2 (tOp (c2M K) (b6 8) (tC (.ref c.M7)))) (b1C (tB (b5r K true (b6 8) (b6 1))) (tB (a0T (b6 9) (b6 4))))) (v6 (a3G (b6 4) (b6 9) (tC (.bl true))) (O3 (tB (a0T (b6 9) (b6 3))) (a0n (tBM K "list" Y0 (b6 5) (b4 (b6 9) g8))) F0)) F0)))))) (G6 (b6 4)))))
def Z7(K:Fg)(c:Cn):Sp:=spD 4 10 (a3Z K c)
def a6c(K:Fg):TS:=G6 (a0T (b6 1) (Z1 K (b6 0) "fallen"))
def S9(K:Fg):Sp:=spD 2 2 (a6c K)
def a6b(K:Fg)(c:Cn):TS:=v6 (O3 (tB (b5r K false (b6 1) (Z1 K (b6 0) "brinks"))) (G6 (tC (.bl true))) F0) (G6 (a1w (tOp (c2M K) (b6 1) (tC (.ref c.M7))) (a1w (W0 c.C1 "waits_at" (S9 K) [] E0 (b6 0) (b4 (tOp qIx (b6 1) (tC (.int 0))) g8)) (a8u (w4 (a3y K) [] E0 (b4 (tOp qIx (Z1 K (Z1 K (b6 0) "plan") "rows") (tOp qIx (b6 1) (tC (.int 0)))) (b4 (Z1 K (b6 0) "deed") g8)))))))
def a1l(K:Fg)(c:Cn):Sp:=spD 2 2 (a6b K c)
def a7W(K:Fg)(c:Cn):TS:=G6 (a1w (W0 c.C1 "waits_on" (a1l K c) [] E0 (b6 0) (b4 (b6 1) g8)) (a8u (W0 c.C1 "waits_at" (S9 K) [] E0 (b6 0) (b4 (W0 c.M8 "leads_to" (T8 K c) [] E0 (Z1 K (b6 0) "plan") (b4 (b6 1) g8)) g8))))
def a2i(K:Fg)(c:Cn):Sp:=spD 2 2 (a7W K c)
def a9y(K:Fg)(c:Cn):TS:=v6 (O3 (a3X (tB (tCB (c5e K) (b4 (b6 1) (b4 (tC (.ref c.M8)) g8))))) (fun _ _ _=>False) F0) (v6 (O3 (a3X (tB (w4 (a5B K c) [] E0 (b4 (b6 2) g8)))) (fun _ _ _=>False) F0) (v6 (a0n (w4 (a4t K) [] E0 (b4 (b6 1) (b4 (b6 3) (b4 (tC (.int 2)) g8))))) (v6 (a5h K (b6 0) (b6 1) "plan") (v6 (a5h K (b6 0) (b6 2) "deed") (v6 (a5h K (b6 0) (w4 (a2h K) [] E0 (b4 (W0 c.E3 "steps" (a1x K) [] E0 (a5x c.E3 (a1a K c) [] E0 (b4 (b6 1) (b4 (b6 2) g8))) g8) g8)) "brinks") (v6 (a5h K (b6 0) (w4 (a0U K c) [] E0 (b4 (b6 1) (b4 (b6 2) (b4 (Z1 K (b6 0) "brinks") (b4 (tIf (F2 (tOp qIs (b6 3) (tC .non))) (a2x g8) (b6 3)) g8))))) "fallen") (v6 (fun D σ H=>(a7k K (a7X K (b4 (Z1 K (b6 1) "rows") g8)) (tB (w4 (a3y K) [] E0 (b4 (b6 1) (b4 (b6 4) g8)))) (b6 0)) σ H fun v H1=>D.nx (σ.set 4 (some v)) H1) (v6 (a5h K (b6 0) (w4 (a2h K) [] E0 (b4 (O5 (O0 K (W0 c.M8 "steps" (a1C K c) [] E0 (b6 1) g8)) (tB (W0 c.C1 "is_put" (a2i K c) [] E0 (b6 1) (b4 (b6 0) g8))) (b6 0)) g8)) "put_in") (v6 (a5h K (b6 0) (w4 (a2h K) [] E0 (b4 (O5 (O0 K (b6 4)) (a3X (tB (W0 c.C1 "waits_at" (S9 K) [] E0 (b6 1) (b4 (b6 0) g8)))) (b6 0)) g8)) "left_out") (v6 (a5h K (b6 0) (w4 (a2h K) [] E0 (b4 (O5 (O0 K (b6 4)) (tB (W0 c.C1 "waits_at" (S9 K) [] E0 (b6 1) (b4 (b6 0) g8))) (b6 0)) g8)) "left_in") (a5h K (b6 0) (w4 (Z7 K c) [] E0 (b4 (b6 1) (b4 (Z1 K (b6 0) "put_in") (b4 (Z1 K (b6 0) "left_out") (b4 (Z1 K (b6 0) "left_in") g8))))) "living")))))))))))
def a1U(K:Fg)(c:Cn):Sp:=spD 4 5 (a9y K c)
def c4C(K:Fg)(c:Cn):TS:=v6 (G0 (w4 (b6S K) [] E0 (b4 (b6 0) g8)) (t8 1)) (v6 (G0 (w4 (b3q K) [] E0 (b4 (b6 1) g8)) (b2i K 3 (a1y (t8 2) (a1y (t8 3) (a1y (t8 4) (b2j)))))) (v6 (G0 (w4 (b3t K) [] E0 (b4 (b6 1) (b4 (tCB X9 (b4 (b6 2) g8)) g8))) (t8 5)) (v6 (O3 (F2 (tOp qEq (w4 (L5 K) [] E0 (b4 (b6 1) (b4 (tC (.int 2)) g8))) (tC (.int 0)))) (G0 (a2x g8) (t8 5)) F0) (v6 (G0 (a5x c.M8 (a5f K c) [] E0 (b4 (tCB a6U (b4 (b6 2) g8)) (b4 (O5 (O0 K (b6 3)) Q7 (tCB a6U (b4 (b6 0) g8))) g8))) (t8 6)) (v6 (fun D σ H=>(O5 (a2u (b4 (tC (.int 4)) g8)) Q7 (w4 (a7m K) [] E0 (b4 (b6 2) (b4 (b6 4) (b4 (tC (.int 40)) g8))))) σ H fun v H1=>D.nx (σ.set 7 (some v)) H1) (v6 (a1R (O0 K (b6 4)) (t8 8) (v6 (G0 (W0 c.E3 "steps" (a1x K) [] E0 (a5x c.E3 (a1a K c) [] E0 (b4 (b6 6) (b4 (b6 8) g8))) g8) (t8 9)) (v6 (G0 (a5x c.C1 (a1U K c) [] E0 (b4 (b6 6) (b4 (b6 8) (b4 (tCB a6U (b4 (b6 5) g8)) g8)))) (t8 10)) (v6 (G0 (W0 c.C1 "puts" (a3A K) [] E0 (b6 10) g8) (t8 11)) (v6 (G0 (W0 c.C1 "stays" (a2K K) [] E0 (b6 10) g8) (t8 12)) (v6 (O3 (tOr (a3X (tB (w4 (a3x K) [] E0 (b4 (b6 9) g8)))) (tOr (a3X (tB (w4 (a3x K) [] E0 (b4 (b6 11) g8)))) (a3X (tB (w4 (a6g K) [] E0 (b4 (b6 12) (b4 (b6 12) g8))))))) (G6 (tC (.bl false))) F0) (a1R (O0 K (b6 7)) (t8 13) (O3 (a3X (tB (w4 (a7l K) [] E0 (b4 (b6 2) (b4 (b6 3) (b4 (b6 8) (b4 (b6 13) (b4 (b6 9) (b4 (b6 11) (b4 (b6 12) g8)))))))))) (G6 (tC (.bl false))) F0)))))))) (G6 (tC (.bl true)))))))))
def b3Z(K:Fg):Sp:=fun vs H Q _=>vs.length=1/\∀c,a0R K c->c4C K c { nx:=fun _ H'=>Q .non H',rt:=Q } (vs.map some++D7 (14 - vs.length) none) H
end RD
local macro_rules | `(tactic| walk_at "st") => `(tactic| (with_reducible first
 | refine RD.b4o ?_ | refine RD.b7d ?_ | refine RD.c9K ?_ | refine RD.c4N ?_ | refine RD.c0x ?_ | refine RD.d2g ?_ | refine RD.b6Z ?_ | refine RD.c9F ?_ | refine RD.c9G ?_ | refine RD.d2c ?_ | refine RD.d2j ?_ | refine RD.d3o ?_ | refine RD.c9M ?_ | refine RD.d2b ?_ | refine RD.c9I ?_ | refine RD.d2f ?_ | refine RD.b8K ?_ | refine RD.c7c ?_ | refine RD.d3m ?_ | refine RD.d2d ?_ | refine RD.s_c ?_ | refine RD.Z9 ?_ | refine RD.a6h ?_ | refine RD.b4n ?_ | refine RD.c4S ?_ | refine RD.c8Z ?_ | refine RD.d2e ?_ | refine RD.d3n ?_ | refine RD.c9H ?_ | refine RD.c4O ?_ | refine RD.s_rev ?_ | refine RD.c0t ?_ | refine RD.c9L ?_ | refine RD.d2h ?_
 | refine RD.X2 (by with_unfolding_all rfl) ?_ | refine Exists.intro _ (And.intro (Eq.refl (L2.V.bl _)) ?_) | refine Exists.intro _ (And.intro (Eq.refl (L2.V.int _)) ?_)
 | refine RD.d2r ?_ | refine RD.c9T ?_ | refine RD.d3t ?_ | refine RD.d2s ?_ | refine RD.d3u rfl ?_ | refine RD.d3s rfl ?_))
local macro_rules | `(tactic| walk_at "ev") => `(tactic| repeat walk_at "st")
local macro_rules | `(tactic| walk_at "go") => `(tactic| repeat (first | with_reducible refine RD.K6 ?_ | walk_at "st"))
local macro_rules | `(tactic| ext) => `(tactic| walk_at "ev")
local macro_rules | `(tactic| exists $t:term) => `(tactic| (refine $t; walk_at "ev"))
local macro_rules | `(tactic| specialize $t:term) => `(tactic| (with_reducible refine $t; walk_at "ev"))
local macro_rules | `(tactic| exact_mod_cast $t:term) => `(tactic| with_reducible refine $t)
local macro_rules | `(tactic| nofun) => `(tactic| (with_reducible refine RD.K6 ?_; walk_at "ev"))
namespace RD
open PySem PySem.Spec L2
variable{C a b cx d dd dx la na p rx w wx:Addr}{H H' H0 H1:Hp}{o:HO}{ds xs ys:List V}{D:b1m}{σ:St}{ta te ti to:TE}{tt:TT}{Q:VK}{v:V}{e i j m n t u:Nat}{z:Str}{L Y ks l:List Nat}{QD:Hp->Prop}{R:It->Hp->Prop}{M N:Nt}{ns:List Int}{as rs:List Addr}{Z:Addr->Prop}{Do:Nat->Bool}{kvs:List (Key×V)}{neg:Bool}{c:Cn}
section
variable {D:Addr}
theorem c9J(h:ta σ H fun v H2=>∃x,v=.str x/\R (Its x) H2):c8q ta σ H R:=h
theorem c6f{x:Str}(Pv:Nat->List V->Hp->Prop)(h0:Pv 0 [] (upd H1 D (.lst [])))(hP:∀i ys H,Pv i ys H->H D=some (.lst ys))
  (step:∀i c ys H2,x.cps[i]? = some c->Pv i ys H2->∀(R:VK) (R':Hp->Prop),(∀y H5,H5 D=some (.lst ys)->ys.length<u6->Pv (i+1) (ys++[y]) (upd H5 D (.lst (ys++[y])))->R y H5)->(∀H4,Pv (i+1) ys H4->R' H4) ->
   tt (some (.str ⟨#[c]⟩)::σ) H2 fun ok H4=>if ok=true then te (some (.str ⟨#[c]⟩)::σ) H4 R else R' H4)
  (done:∀ys H2,Pv x.length ys H2->QD H2) :
  ∃W:Nat->Nat->List V->Hp->Prop,(∃m,W 0 m [] (upd H1 D (.lst [])))/\∀i m ys H2,W i m ys H2->H2 D=some (.lst ys) /\
   (((Its x).stop i H2 /\ QD H2) \/ ((Its x).go i H2 /\ ∀ v H3,(Its x).yld i H2 v H3 -> tt (some v :: σ) H3 fun ok H4 => if ok = true then
     te (some v::σ) H4 (fun y H5=>H5 D=some (.lst ys)/\ys.length<u6/\∃m',m'<m/\W (i+1) m' (ys++[y]) (upd H5 D (.lst (ys++[y]))))
     else ∃m',m'<m/\W (i+1) m' ys H4)):=by
 refine⟨fun i m ys H=>m=x.length - i/\i<=x.length/\Pv i ys H,⟨x.length,rfl,R8 _,h0⟩,?_⟩
 rintro i m ys H2 ⟨rfl,hi,p⟩
 refine⟨hP i ys H2 p,?_⟩
 by_cases hlt:i<x.length
 ·refine .inr ⟨hlt,fun v H3 y=>?_⟩
  obtain⟨e,c,hc,ev⟩:=y
  subst e ev
  exact step i c ys _ hc p _ _ (fun y H5 h1 h2 h3=>⟨h1,h2,x.length - (i+1),by omega,rfl,hlt,h3⟩) fun H4 h=>⟨x.length - (i+1),by omega,rfl,hlt,h⟩
 ·have e:i=x.length:=by omega
  subst e
  exact .inl ⟨j5 _,done ys H2 p⟩
end
def sgn(S:Str)(c:Nat):Bool := !(Builtin.Str.occurrences S ⟨#[c]⟩ 0 S.length 1).isEmpty
theorem c9f{S:Str}{c:Nat}(h:Q (.bl (sgn S c)) H):qIn false (.str ⟨#[c]⟩) (.str S) H Q:=h
abbrev LET:Str := "abcdefghijklmnopqrstuvwxyz"
abbrev SGN:Str := "abcdefghijklmnopqrstuvwxyz0123456789"
theorem c9y:LET++("0123456789" : Str)=SGN:=by decide +kernel
def a8E(z:Str):Bool:=decide (1<=z.length)&&decide (z.length<=8)&&(match z.cps[0]? with | some c=>sgn LET c | none=>false)&&z.cps.toList.all (sgn SGN)
theorem b9m{K:Fg}{E:XK}(hz:z.length<=100)(k:∀H',i9 H H'->Q (.bl (a8E z)) H'):a1k K [.str z] H Q E:=by
 refine⟨rfl,?_⟩
 unfold b1B
 have hz':=small (show z.length<=100000 by omega)
 nofun
 exists a6l (s := "str") rfl (by decide) ?_
 exists v5 (by decide) ?_
 exists c9R hz' ?_
 by_cases h1:1<=z.length
 case neg=>
  exists v5 (d5q (by omega)) ?_
  exists C6 rfl ?_
  have e:a8E z=false:=by unfold a8E;rw[d5q h1];simp
  rw[<-e]
  exact k H (i9.refl _)
 exists C6 (d5r (by omega)) ?_
 by_cases h8:z.length<=8
 case neg=>
  rw[d5q (show ¬((z.length:Int)<=8) by omega)]
  exists C6 rfl ?_
  have e:a8E z=false:=by unfold a8E;rw[d5q h8];simp
  rw[<-e]
  exact k H (i9.refl _)
 rw[d5r (show(z.length:Int)<=8 by omega)]
 exists v5 rfl ?_
 have hl:z.cps.toList.length=z.length:=a1h
 obtain⟨c0,hc0,hc1⟩:=a7P (xs:=z.cps.toList) (i:=0) (by decide) (by omega)
 have hc2:z.cps[0]? = some c0:=by rw[<-a0D];exact hc1
 exists c4X hz' hc0 ?_
 have en:a8E z=(sgn LET c0&&z.cps.toList.all (sgn SGN)):=by
  unfold a8E
  rw[d5r h1,d5r h8,hc2]
  simp
 refine c9f (S:=LET) ?_
 refine⟨_,rfl,?_⟩
 cases hs:sgn LET c0 with
 | false=>
  refine d1g ?_
  have e:a8E z=false:=by rw[en,hs];rfl
  rw[<-e]
  exact k H (i9.refl _)
 | true=>
  exists b9l ?_
  specialize U3 (c9J ?_)
  refine⟨z,rfl,fun D hD=>?_⟩
  refine c6f (fun i ys H2=>ys=(z.cps.toList.take i).map (fun c=>V.bl (sgn SGN c))/\H2=upd H D (.lst ys)) ⟨by simp,rfl⟩ ?_ ?_ ?_
  ·rintro i ys _ ⟨_,rfl⟩
   exact c8
  ·rintro i c ys _ hc ⟨rfl,rfl⟩ R R' hR hR'
   have hc':z.cps.toList[i]? = some c:=by rw[a0D];exact hc
   ext
   exists b9l ?_
   refine c4Z (small (by decide +kernel)) ?_
   have e:(("abcdefghijklmnopqrstuvwxyz" : Str)++("0123456789" : Str))=SGN:=c9y
   rw[e]
   refine c9f (S:=SGN) ?_
   refine hR (.bl (sgn SGN c)) _ c8 (F4 ?_) ⟨?_,?_⟩
   ·rw[b5,C9];omega
   ·rw[E9,hc'];simp
   ·rw[b3n]
  ·rintro ys _ ⟨rfl,rfl⟩
   ext
   have eb:a0G ((z.cps.toList.take z.length).map (fun c=>V.bl (sgn SGN c)))=some ((z.cps.toList.take z.length).map (sgn SGN)):=by
    generalize z.cps.toList.take z.length=l
    induction l with
    | nil=>rfl
    | cons a r ih=>simp[a0G,ih]
   have ea:((z.cps.toList.take z.length).map (sgn SGN)).all id=a8E z:=by
    rw[en,hs,a8a,W8 (by omega),d3e]
    rfl
   refine(show b5C [.ref D] _ _ from ?_)
   unfold b5C
   simp only[c8]
   refine⟨_,eb,?_⟩
   rw[ea]
   exact k _ (z6 hD)
def NmS(s:Str):Prop:=a8E s=true/\s.length<=8
def OpN(v:V):Prop:=(∃s,v=.str s/\NmS s)\/∃n:Int,v=.int n/\0<=n/\n<1000000000000
theorem OpN.flat(h:OpN v):R6 v=true:=by
 rcases h with ⟨s,rfl,_⟩ | ⟨n,rfl,_⟩ <;> rfl
abbrev c6x:List Str:=["plus","minus","times","less","same"]
def a7b(H:Hp)(p:Addr):Prop:=∃k v1 v2,H p=some (.tup [.str k,v1,v2])/\OpN v1/\OpN v2/\k∈c6x
theorem a7b.ts(h:a7b H p)(t:G5 H H'):a7b H' p:=by
 obtain⟨k,v1,v2,h,a,b,c⟩:=h
 exact⟨k,v1,v2,t _ _ h,a,b,c⟩
inductive b1j(H:Hp):List V->Prop
 | set (n:Str) (p:Addr):NmS n->a7b H p->b1j H [.str "set",.str n,.ref p]
 | copy (n:Str) (v:V):NmS n->OpN v->b1j H [.str "copy",.str n,v]
 | take (n:Str):NmS n->b1j H [.str "take",.str n]
 | tell (v:V):OpN v->b1j H [.str "tell",v]
 | ask (v:V):OpN v->b1j H [.str "ask",v]
 | skip:b1j H [.str "skip"]
theorem b1j.ts(h:b1j H xs)(t:G5 H H'):b1j H' xs:=by
 cases h with
 | set n p a d=>exact .set n p a (d.ts t)
 | copy n v a o=>exact .copy n v a o
 | take n a=>exact .take n a
 | tell v o=>exact .tell v o
 | ask v o=>exact .ask v o
 | skip=>exact .skip
def b5d(H:Hp)(v:V)(ask:Bool):Prop:=∃p xs,v=.ref p/\H p=some (.tup xs)/\b1j H xs/\(∃k r,xs=.str k::r/\decide ((k:Str) = "ask")=ask)
theorem b5d.ts{a:Bool}(h:b5d H v a)(t:G5 H H'):b5d H' v a:=by
 obtain⟨p,xs,rfl,h,r,q⟩:=h
 exact⟨p,xs,rfl,t _ _ h,r.ts t,q⟩
theorem d1i{n:Int}(k:Q (.bl true) H) :
  G6 (a1w (tCB a8d (b4 (b6 0) (b4 (tC (.ty "int")) g8))) (a8u (tCB a8d (b4 (b6 0) (b4 (tC (.ty "bool")) g8))))) { nx:=fun _ H'=>Q .non H',rt:=Q } [some (.int n)] H:=by
 ext
 exists a6l (s := "int") rfl (by decide) ?_
 exists C6 (by decide) ?_
 exists a6l (s := "int") rfl (by decide) ?_
 exact k
theorem b0X{K:Fg}{n:Int}{E:XK}(k:Q (.bl true) H):a4K K [.int n] H Q E:=⟨rfl,d1i k⟩
theorem b7v{K:Fg}{n:Int}{E:XK}(h0:0<=n)(h1:n<1000000000000)(k:Q (.bl true) H):a6f K [.int n] H Q E:=by
 refine⟨rfl,?_⟩
 unfold b3U
 ext
 refine b0X ?_
 exists ⟨_,rfl,b9l ?_⟩
 exists C6 (d5r h0) ?_
 show Q (.bl (decide (n<1000000000000))) H
 rw[d5r h1]
 exact k
theorem b0Y{K:Fg}{n m:Int}{E:XK}(h0:0<=n)(h1:n<m)(k:Q (.bl true) H):a4L K [.int n,.int m] H Q E:=by
 refine⟨rfl,?_⟩
 unfold b3V
 ext
 refine b0X ?_
 exists ⟨_,rfl,b9l ?_⟩
 exists C6 (d5r h0) ?_
 show Q (.bl (decide (n<m))) H
 rw[d5r h1]
 exact k
theorem a7I{K:Fg}{E:XK}(h:NmS z)(k:∀H',i9 H H'->Q (.bl true) H'):a1k K [.str z] H Q E:=by
 refine b9m (by have:=h.2;omega) fun H' s=>?_
 rw[h.1]
 exact k H' s
theorem b9n{K:Fg}{n:Int}{E:XK}(k:Q (.bl false) H):a1k K [.int n] H Q E:=by
 refine⟨rfl,?_⟩
 unfold b1B
 nofun
 exists a6l (s := "int") rfl (by decide) ?_
 refine C6 (by decide) ?_
 exists C6 rfl ?_
 exact k
theorem a2F{K:Fg}{E:XK}(h:OpN v)(k:∀H',i9 H H'->Q (.bl true) H'):a0J K [v] H Q E:=by
 refine⟨rfl,?_⟩
 unfold b0w
 ext
 rcases h with ⟨s,rfl,hs⟩ | ⟨n,rfl,h0,h1⟩
 ·refine a7I hs fun G s=>?_
  exact⟨_,rfl,b9l (k G s)⟩
 ·refine b9n ?_
  exists ⟨_,rfl,d1g ?_⟩
  exact b7v h0 h1 (k H (i9.refl _))
theorem c5P{k:Str}(h:k∈c6x):inV (.str k) [.str "plus",.str "minus",.str "times",.str "less",.str "same"]=true:=by
 simp only[c6x,o4,O2,or_false]at h
 rcases h with rfl | rfl | rfl | rfl | rfl <;> decide +kernel
theorem b4O{K:Fg}{E:XK}(ck:a0R K c)(h:a7b H p)(k:∀H',i9 H H'->Q (.bl true) H'):a5B K c [.ref p] H Q E:=by
 obtain⟨kd,v1,v2,hp,o1,o2,hk⟩:=h
 refine⟨rfl,?_⟩
 unfold b6b
 nofun
 exists a6l (s := "tuple") (by simp only[a4P,hp]) (by decide) ?_
 exists v5 (by decide) ?_
 exists a8z hp ?_
 exists v5 (by simp) ?_
 exists a0g hp (a3k _ _) ?_
 refine⟨_,_,rfl,ck.b8c H,rfl,rfl,?_⟩
 exists ⟨_,rfl,C6 (c5P hk) ?_⟩
 exists a0g hp (b1h _ _ _) ?_
 refine a2F o1 fun G1 s1=>?_
 exists ⟨_,rfl,b9l ?_⟩
 exists a0g (s1 _ _ hp) (c6s _ _ _ _) ?_
 exact a2F o2 fun G2 s2=>k G2 (s1.trans s2)
theorem d1n(a:V)(r:List V):a8J (a::r) (some 1) none=r:=by
 unfold a8J
 have e:HT.sIx (a::r).length 0 (some 1)=1:=by
  have:=HT.b7g (a::r).length 0 1
  rw[show((1:Nat):Int)=1 from rfl]at this
  rw[this,C0]
  omega
 rw[e]
 show List.take ((a::r).length - 1) r=r
 rw[W8 (by simp)]
theorem b9c(a:V)(r:List V):¬(HT.sIx (a::r).length 0 (some 1)=0/\HT.sIx (a::r).length (a::r).length none=(a::r).length):=by
 intro h
 have e:HT.sIx (a::r).length 0 (some 1)=1:=by
  have:=HT.b7g (a::r).length 0 1
  rw[show((1:Nat):Int)=1 from rfl]at this
  rw[this,C0]
  omega
 omega
theorem c3m{K:Fg}{a:Bool}{E:XK}(ck:a0R K c)(h:b5d H v a)(k:∀H',i9 H H'->Q (.bl true) H'):a8T K c [v] H Q E:=by
 obtain⟨p,xs,rfl,hp,hr,kd,r,rfl,_⟩:=h
 refine⟨rfl,?_⟩
 unfold b8x
 nofun
 exists a6l (s := "tuple") (by simp only[a4P,hp]) (by decide) ?_
 exists v5 (by decide) ?_
 exists a8z hp ?_
 exists v5 (d5q (by intro z;have:=V.int.inj z;rw[C0]at this;omega)) ?_
 nofun
 exists a0g hp (a3k _ _) ?_
 nofun
 refine c9c hp (b9c _ _) fun q G hq e s=>?_
 rw[d1n]at e
 ext
 have hr:=hr.ts (i9.ts s)
 cases hr with
 | set n d hn hd=>
  nofun
  exists C6 (by decide) ?_
  exists a8z e ?_
  exists C6 (by simp) ?_
  exists a0g e (a3k _ _) ?_
  refine a7I hn fun G1 s1=>?_
  exists ⟨_,rfl,b9l ?_⟩
  exists a0g (s1 _ _ e) (b1h _ _ _) ?_
  exact b4O ck (hd.ts (i9.ts s1)) fun G2 s2=>k G2 ((s.trans s1).trans s2)
 | copy n v hn ho=>
  nofun
  exists v5 (by decide) ?_
  nofun
  exists C6 (by decide) ?_
  exists a8z e ?_
  exists C6 (by simp) ?_
  exists a0g e (a3k _ _) ?_
  refine a7I hn fun G1 s1=>?_
  exists ⟨_,rfl,b9l ?_⟩
  exists a0g (s1 _ _ e) (b1h _ _ _) ?_
  exact a2F ho fun G2 s2=>k G2 ((s.trans s1).trans s2)
 | take n hn=>
  nofun
  exists v5 (by decide) ?_
  nofun
  exists v5 (by decide) ?_
  nofun
  exists C6 (by decide) ?_
  exists a8z e ?_
  exists C6 (by simp) ?_
  exists a0g e (a3k _ _) ?_
  exact a7I hn fun G1 s1=>k G1 (s.trans s1)
 | tell v ho=>
  nofun
  exists v5 (by decide) ?_
  nofun
  exists v5 (by decide) ?_
  nofun
  exists v5 (by decide) ?_
  nofun
  refine L6 (by simp) fun q2 G2 hq2 e2 s2=>?_
  exists b6h e2 rfl rfl ?_
  exists C6 (by decide +kernel) ?_
  exists a8z (s2 _ _ e) ?_
  exists C6 (by simp) ?_
  exists a0g (s2 _ _ e) (a3k _ _) ?_
  exact a2F ho fun G1 s1=>k G1 ((s.trans s2).trans s1)
 | ask v ho=>
  nofun
  exists v5 (by decide) ?_
  nofun
  exists v5 (by decide) ?_
  nofun
  exists v5 (by decide) ?_
  nofun
  refine L6 (by simp) fun q2 G2 hq2 e2 s2=>?_
  exists b6h e2 rfl rfl ?_
  exists C6 (by decide +kernel) ?_
  exists a8z (s2 _ _ e) ?_
  exists C6 (by simp) ?_
  exists a0g (s2 _ _ e) (a3k _ _) ?_
  exact a2F ho fun G1 s1=>k G1 ((s.trans s2).trans s1)
 | skip=>
  nofun
  exists v5 (by decide) ?_
  nofun
  exists v5 (by decide) ?_
  nofun
  exists v5 (by decide) ?_
  nofun
  refine L6 (by simp) fun q2 G2 hq2 e2 s2=>?_
  exists b6h e2 rfl rfl ?_
  exists v5 (by decide +kernel) ?_
  exists C6 (by decide) ?_
  exists a8z (s2 _ _ e) ?_
  have e0:decide (V.int ((([]:List V).length:Nat):Int)=V.int 0)=true:=by decide
  rw[e0]
  exact k G2 (s.trans s2)
theorem ix0{α:Type}(a b c d:α):ixN [a,b,c,d].length 0=some 0:=by
 show ixN 4 0=some 0
 decide
theorem ix1{α:Type}(a b c d:α):ixN [a,b,c,d].length 1=some 1:=by
 show ixN 4 1=some 1
 decide
theorem ix2{α:Type}(a b c d:α):ixN [a,b,c,d].length 2=some 2:=by
 show ixN 4 2=some 2
 decide
structure b5f(H:Hp)(b:Addr)(i0 i1 i2:Int)(c:Addr)(ns:List Int):Prop where
 hb:H b=some (.lst [.int i0,.int i1,.int i2,.ref c])
 hc:H c=some (.lst (ns.map V.int))
 p0:0<=i0
 p1:0<=i1
 p1':i1<2147483647
 p2:0<=i2
 pn:∀x∈ns,0<=x
theorem b5f.bag{i0 i1 i2:Int}{c:Addr}(h:b5f H b i0 i1 i2 c ns):Bag H b c:=⟨i0,i1,i2,ns,h.hb,h.hc,h.p0,h.p1,h.p1',h.p2,h.pn⟩
theorem Bag.parts{c:Addr}(h:Bag H b c):∃i0 i1 i2 ns,b5f H b i0 i1 i2 c ns:=by
 obtain⟨i0,i1,i2,ns,h1,h2,h3,h4,h5,h6,h7⟩:=h.ex
 exact⟨i0,i1,i2,ns,h1,h2,h3,h4,h5,h6,h7⟩
theorem b5f.ne{i0 i1 i2:Int}{c:Addr}(h:b5f H b i0 i1 i2 c ns):c≠b:=N8 h.hc h.hb (by
  intro z
  have z:=HO.lst.inj z
  cases ns with
  | nil=>cases z
  | cons a r=>cases r with
   | nil=>cases z
   | cons a2 r=>cases r with
    | nil=>cases z
    | cons a3 r=>cases r with
     | nil=>cases z
     | cons a4 r=>simp at z)
theorem b5f.put{i0 i1 i2 j0 j1 j2:Int}{c:Addr}(h:b5f H b i0 i1 i2 c ns)(q0:0<=j0)(q1:0<=j1)(q1':j1<2147483647)(q2:0<=j2) :
  b5f (upd H b (.lst [.int j0,.int j1,.int j2,.ref c])) b j0 j1 j2 c ns:=⟨c8,by rw[g9 h.ne];exact h.hc,q0,q1,q1',q2,h.pn⟩
theorem O7{K:Fg}{c:Addr}{many:Int}{E:XK}(hB:Bag H b c)(h0:0<many)(h1:many<2 ^ 64)
  (k:∀n H',0<=n->n<many->Bag H' b c->E8 b H H'->Q (.int n) H'):L5 K [.ref b,.int many] H Q E:=by
 obtain⟨i0,i1,i2,ns,B⟩:=hB.parts
 refine⟨rfl,?_⟩
 unfold c4z
 refine a5a (P:=fun σ H1=>∃x2 x3 j0 j1 j2,σ=[some (.ref b),some (.int many),x2,x3,none,none,none]/\b5f H1 b j0 j1 j2 c ns/\E8 b H H1) ?_ ?_
 ·-- the second part
  rintro _ H1 ⟨x2,x3,j0,j1,j2,rfl,B1,k1⟩
  refine a5a (P:=fun σ H2=>H2=H1/\σ=[some (.ref b),some (.int many),x2,x3,none,none,none]) ?_ ?_
  ·rintro _ _ ⟨rfl,rfl⟩
   walk_at "go"
   refine J1 B1.hb (b1h _ _ _) ?_
   walk_at "go"
   refine a6T (.inr (by omega)) ?_
   walk_at "go"
   refine a6T (by omega) ?_
   walk_at "go"
   have g1:=a1Z (j1 * 39373) (show(1000000007:Int)≠0 by decide)
   have g2:=a1O (j1 * 39373) (show(0:Int)<1000000007 by decide)
   refine a6T (.inr (by omega)) ?_
   walk_at "go"
   refine a6T (by omega) ?_
   walk_at "go"
   have g3:=a1Z (j1 * 39373 % 1000000007 * 30011) (show(998244353:Int)≠0 by decide)
   have g4:=a1O (j1 * 39373 % 1000000007 * 30011) (show(0:Int)<998244353 by decide)
   refine a3j (fun _=>?_) (fun _=>?_)
   ·walk_at "go"
    refine a6T (.inr (by omega)) ?_
    walk_at "go"
    refine a6T h0 ?_
    exact k _ _ (a1Z _ (by omega)) (a1O _ h0) B1.bag k1
   ·walk_at "go"
    refine a6T (by omega) ?_
    walk_at "go"
    refine a6T h0 ?_
    exact k _ _ (a1Z _ (by omega)) (a1O _ h0) B1.bag k1
  ·intro nx hnx
   walk_at "go"
   refine J1 B1.hb (a3k _ _) ?_
   walk_at "go"
   refine a3j (fun _=>?_) (fun _=>?_)
   ·walk_at "go"
    refine J1 B1.hb (a3k _ _) ?_
    walk_at "go"
    refine a6T h0 ?_
    walk_at "go"
    refine J1 B1.hb (a3k _ _) ?_
    walk_at "go"
    refine a6T ⟨h0,h1⟩ ?_
    walk_at "go"
    refine b8O B1.hb (ix0 _ _ _ _) ?_
    walk_at "go"
    refine k _ _ (a1Z _ (by omega)) (a1O _ h0) (B1.put (Int.ediv_nonneg B1.p0 (by omega)) B1.p1 B1.p1' B1.p2).bag (k1.trans (E8.upd _ _ _))
   ·walk_at "go"
    exact hnx _ _ ⟨rfl,rfl⟩
 ·intro nx hnx
  walk_at "go"
  refine J1 B.hb (a3k _ _) ?_
  walk_at "go"
  refine a3j (fun e=>?_) (fun _=>?_)
  ·have e:i0=0:=by simpa using e
   subst e
   nofun
   exact_mod_cast a5a (P:=fun σ H1=>∃m x3 j0 j2,σ=[some (.ref b),some (.int many),some (.int m),x3,none,none,none]/\b5f H1 b j0 i1 j2 c ns/\E8 b H H1/\0<=m) ?_ ?_
   ·rintro _ H1 ⟨m,x3,j0,j2,rfl,B1,k1,hm⟩
    walk_at "go"
    refine J1 B1.hb (b1h _ _ _) ?_
    walk_at "go"
    refine a6T (.inr (by omega)) ?_
    walk_at "go"
    refine a6T (by omega) ?_
    walk_at "go"
    refine b8O B1.hb (ix1 _ _ _ _) ?_
    have g1:=a1Z (i1 * 48271+m) (show(2147483647:Int)≠0 by decide)
    have g2:=a1O (i1 * 48271+m) (show(0:Int)<2147483647 by decide)
    exact hnx _ _ ⟨_,x3,j0,_,j2,rfl,B1.put B1.p0 g1 g2 B1.p2,k1.trans (E8.upd _ _ _)⟩
   ·intro nx2 hnx2
    walk_at "go"
    refine J1 B.hb (c6s _ _ _ _) ?_
    walk_at "go"
    refine J1 B.hb (d2V _ _ _ _ _) ?_
    walk_at "go"
    refine L7 B.hc ?_
    walk_at "go"
    refine a3j (fun e=>?_) (fun _=>?_)
    ·have e:i2<(ns.length:Int):=by simpa using e
     obtain⟨v,ev,ev2⟩:=a7P (xs:=ns.map V.int) B.p2 (by simpa using e)
     obtain⟨z,ez,rfl⟩:∃z,ns[i2.toNat]? = some z/\v=V.int z:=by
      rw[a9]at ev2
      cases q:ns[i2.toNat]? with
      | none=>rw[q]at ev2;cases ev2
      | some z=>rw[q]at ev2;exact⟨z,rfl,(Option.some.inj ev2).symm⟩
     have hz:0<=z:=B.pn z (mI ez)
     walk_at "go"
     refine J1 B.hb (d2V _ _ _ _ _) ?_
     walk_at "go"
     refine J1 B.hb (c6s _ _ _ _) ?_
     walk_at "go"
     refine J1 B.hc ev ?_
     walk_at "go"
     exists d2p B.hb (by decide) rfl ?_
     refine b8O B.hb (ix2 _ _ _ _) ?_
     have B2:=B.put (j0:=0) (j1:=i1) (j2:=i2+1) (Int.le_refl _) B.p1 B.p1' (by have:=B.p2;omega)
     exact_mod_cast a5a (P:=fun σ H1=>∃j0,σ=[some (.ref b),some (.int many),some (.int 12345),some (.int z),none,none,none]/\b5f H1 b j0 i1 (i2+1) c ns/\E8 b H H1) ?_ ?_
     ·rintro _ H1 ⟨j0,rfl,B1,k1⟩
      walk_at "go"
      refine a6T (by omega) ?_
      walk_at "go"
      have g1:=a1Z z (show(2147483647:Int)≠0 by decide)
      exact hnx2 _ _ ⟨_,_,j0,_,rfl,B1,k1,by omega⟩
     ·intro nx3 hnx3
      walk_at "go"
      refine a3j (fun _=>?_) (fun _=>?_)
      ·walk_at "go"
       refine b8O B2.hb (ix0 _ _ _ _) ?_
       refine hnx3 _ _ ⟨z,rfl,?_,(E8.upd _ _ _).trans (E8.upd _ _ _)⟩
       exact B2.put hz B.p1 B.p1' (by have:=B.p2;omega)
      ·walk_at "go"
       exact hnx3 _ _ ⟨0,rfl,B2,E8.upd _ _ _⟩
    ·walk_at "go"
     exact hnx2 _ _ ⟨_,_,0,i2,rfl,B,E8.refl _ _,by decide⟩
  ·walk_at "go"
   exact hnx _ _ ⟨_,_,i0,i1,i2,rfl,B,E8.refl _ _⟩
theorem d1q{K:Fg}{E:XK}(hS:SqL K H a (ns.map V.int))(hl:ns.length<=63)
  (k:∀b c H',Bag H' b c->i9 H H'->H b=none->Q (.ref b) H'):b6S K [.ref a] H Q E:=by
 refine⟨rfl,?_⟩
 unfold c8Y
 walk_at "go"
 exact_mod_cast U3 (P8 ?_)
 walk_at "go"
 refine⟨a,_,rfl,hS,fun p hp=>⟨p,rfl,⟨_,SqL.of c8⟩,fun D hD=>?_⟩⟩
 have hcut:a8J (ns.map V.int) none (some 63)=ns.map V.int:=by
  unfold a8J
  have e:HT.sIx (ns.map V.int).length 0 none=0:=rfl
  have e2:HT.sIx (ns.map V.int).length (ns.map V.int).length (some 63)=ns.length:=by
   have:=HT.b7g (ns.map V.int).length (ns.map V.int).length 63
   rw[b5]at this ⊢
   rw[show((63:Nat):Int)=63 from rfl]at this
   rw[this];omega
  rw[e,e2,d1K,Nat.sub_zero,W8 (by simp)]
 rw[hcut]at hD ⊢
 have s1:i9 H (upd H p (.lst (ns.map V.int))):=z6 hp
 refine U0 (xs:=ns.map V.int) (fun i ys H2=>ys=(ns.take i).map (fun x=>V.int (if x<0 then -x else x))/\H2=upd (upd H p (.lst (ns.map V.int))) D (.lst ys)) ⟨by simp,rfl⟩ ?_ ?_ ?_ ?_
 ·rintro i ys _ ⟨_,rfl⟩
  exact c8
 ·rintro i ys _ _ ⟨_,rfl⟩
  refine SqL.of ?_
  rw[g9 (c9 c8 hD),c8]
 ·rintro i x ys _ hx ⟨rfl,rfl⟩ R hR
  rw[a9]at hx
  cases e:ns[i]? with
  | none=>rw[e]at hx;cases hx
  | some z=>
   rw[e]at hx
   cases hx
   ext
   refine hR _ _ c8 (F4 ?_) ⟨?_,?_⟩
   ·rw[b5,C9];omega
   ·rw[E9,e];simp
   ·rw[b3n]
 ·rintro ys _ ⟨rfl,rfl⟩
  ext
  refine L6 (by simp) fun b H4 hb hb4 s4=>?_
  rw[b5,W8 (j5 _)]at hb s4
  refine k b D _ ⟨0,1234567891,0,ns.map (fun x=>if x<0 then -x else x),hb4,?_,by decide,by decide,by decide,by decide,?_⟩ ?_ ?_
  ·rw[s4 D _ c8,U1];rfl
  ·intro x hx
   obtain⟨y,_,rfl⟩:=A2.mp hx
   split <;> omega
  ·exact(s1.trans (z6 hD)).trans s4
  ·exact(s1.trans (z6 hD)).free hb
structure a6E(H:Hp)(a:Addr):Prop where
 ex:∃ss:List Str,H a=some (.lst (ss.map V.str))/\ss≠[]/\ss.length<=8/\∀s∈ss,NmS s
theorem a6E.kept{c:Addr}(h:a6E H a)(hB:Bag H b c)(k:E8 b H H'):a6E H' a/\a≠b:=by
 obtain⟨ss,h1,h2,h3,h4⟩:=h.ex
 obtain⟨i0,i1,i2,ns,hb,_⟩:=hB.ex
 have ne:a≠b:=N8 h1 hb (by
  intro z
  have z:=HO.lst.inj z
  cases ss with
  | nil=>exact h2 rfl
  | cons s r=>cases z)
 exact⟨⟨ss,k.1 a _ h1 ne,h2,h3,h4⟩,ne⟩
theorem c6R:∀c∈LET.cps.toList,sgn LET c=true:=by decide +kernel
theorem c6Q:∀c∈SGN.cps.toList,sgn SGN c=true:=by decide +kernel
theorem c8j:∀c∈LET.cps.toList,sgn SGN c=true:=by decide +kernel
theorem c1h(cs:List Nat):Txt.join (Str.ofString "") (cs.map fun k=>(⟨#[k]⟩:Str))=⟨cs.toArray⟩:=by
 show Builtin.Str.glued ("") _=_
 rw[StrLaws.glued_eq_join]
 exact PyProof.Rows.join_ones cs
theorem d2L{ch:Nat}{cs:List Nat}(h1:ch∈LET.cps.toList)(h2:∀c∈cs,c∈SGN.cps.toList)(hl:cs.length<=7):NmS ((⟨#[ch]⟩:Str)++⟨cs.toArray⟩):=by
 have hlen:((⟨#[ch]⟩:Str)++⟨cs.toArray⟩).length=cs.length+1:=by
  rw[Str.length_append]
  show 1+cs.toArray.size=_
  rw[o6];omega
 have hc:((⟨#[ch]⟩:Str)++⟨cs.toArray⟩).cps=(ch::cs).toArray:=by
  rw[Str.cps_append]
  show #[ch]++cs.toArray=_
  simp
 refine⟨?_,by omega⟩
 unfold a8E
 rw[hlen,hc]
 have e0:(ch::cs).toArray[0]? = some ch:=by simp
 rw[e0]
 simp only[F5,decide_eq_true_eq,U8]
 refine⟨⟨⟨by omega,by omega⟩,c6R ch h1⟩,?_⟩
 intro c hcc
 have hcc:c∈ch::cs:=by simpa using hcc
 rcases o4.mp hcc with q | q
 ·subst q;exact c8j _ h1
 ·exact c6Q c (h2 c q)
structure b1k(H:Hp)(a:Addr):Prop where
 ex:∃ps:List Addr,H a=some (.lst (ps.map V.ref))/\ps≠[]/\ps.length<=8/\∀p∈ps,a7b H p
theorem a2k{c:Addr}(hB:Bag H b c)(h:H a=some (.lst (as.map V.ref))):a≠b:=by
 obtain⟨i0,i1,i2,ns,hb,_⟩:=hB.ex
 refine N8 h hb ?_
 intro z
 have z:=HO.lst.inj z
 cases as with
 | nil=>cases z
 | cons s r=>cases z
theorem b4c{c:Addr}(hB:Bag H b c)(h:H a=some (.lst xs))(hl:xs.length<=3):a≠b:=by
 obtain⟨i0,i1,i2,ns,hb,_⟩:=hB.ex
 refine N8 h hb ?_
 intro z
 have z:=HO.lst.inj z
 rw[z]at hl
 simp at hl
theorem b1k.kept{c:Addr}(h:b1k H a)(hB:Bag H b c)(k:E8 b H H'):b1k H' a:=by
 obtain⟨ps,h1,h2,h3,h4⟩:=h.ex
 exact⟨ps,k.1 a _ h1 (a2k hB h1),h2,h3,fun p hp=>(h4 p hp).ts (E8.ts k hB)⟩
theorem b1k.same(h:b1k H a)(k:i9 H H'):b1k H' a:=by
 obtain⟨ps,h1,h2,h3,h4⟩:=h.ex
 exact⟨ps,k a _ h1,h2,h3,fun p hp=>(h4 p hp).ts (i9.ts k)⟩
structure J5(H:Hp)(a:Addr)(N:Nt):Prop where
 ex:∃as:List Addr,H a=some (.lst (as.map V.ref))/\as.length=N.length/\∀(i:Nat) x l,as[i]? = some x->N[i]? = some l->H x=some (.lst (IL l))
theorem J5.same(h:J5 H a N)(k:i9 H H'):J5 H' a N:=by
 obtain⟨as,h1,h2,h3⟩:=h.ex
 exact⟨as,k a _ h1,h2,fun i x l e1 e2=>k _ _ (h3 i x l e1 e2)⟩
theorem J5.kept{c:Addr}(h:J5 H a N)(hB:Bag H b c)(hN:∀l∈N,l.length<=2)(k:E8 b H H'):J5 H' a N:=by
 obtain⟨as,h1,h2,h3⟩:=h.ex
 refine⟨as,k.1 a _ h1 (a2k hB h1),h2,fun i x l e1 e2=>?_⟩
 have q:=h3 i x l e1 e2
 refine k.1 _ _ q (b4c hB q ?_)
 rw[D2]
 have:=hN l (mI e2)
 omega
theorem J5.at(h:J5 H a N){k:Nat}(e:N[k]? = some l):∃(xs:List V) (x:Addr),H a=some (.lst xs)/\atI xs (k:Int)=some (.ref x)/\H x=some (.lst (IL l))/\xs.length=N.length:=by
 obtain⟨as,h1,h2,h3⟩:=h.ex
 have hk:k<as.length:=by rw[h2];exact(gI e)
 have e1:as[k]? = some as[k]:=by simp
 refine⟨_,as[k],h1,?_,h3 k _ l e1 e,by rw[b5,h2]⟩
 exact a0v (by rw[a9,e1];rfl)
theorem J5.len(h:J5 H a N):∃xs,H a=some (.lst xs)/\xs.length=N.length:=by
 obtain⟨as,h1,h2,h3⟩:=h.ex
 exact⟨_,h1,by rw[b5,h2]⟩
theorem b1l(e:l[j]? = some t):atI (IL l) (j:Int)=some (.int (t:Int)):=a0v (by unfold IL;rw[a9,e];rfl)
theorem c1U{K:Fg}{c:Addr}{E:XK}(hB:Bag H b c)(ha:H a=some (.lst xs))(na:a≠b)(h0:xs≠[])(hl:xs.length<=100)
  (k:∀(n:Int) v H',atI xs n=some v->v∈xs->H' a=some (.lst xs)->Bag H' b c->E8 b H H'->Q (.int n) H'):L5 K [.ref b,.int xs.length] H Q E:=by
 have hp:0<xs.length:=b1p.mpr h0
 refine O7 hB (by omega) (by omega) fun n H1 n0 n1 B1 k1=>?_
 obtain⟨v,hv,hv2⟩:=a7P (xs:=xs) n0 n1
 exact k n v H1 hv (mI hv2) (k1.1 _ _ ha na) B1 k1
theorem b4a{α:Type}(l:List α):l=[]\/∃r a,l=r++[a]:=by
 cases h:l.reverse with
 | nil=>left;simpa using h
 | cons a r=>
  right
  refine⟨r.reverse,a,?_⟩
  have:=congrArg List.reverse h
  simpa using this
theorem c6r{α:Type}{xs:List α}{a:α}:atI (xs++[a]) (-1)=some a:=by
 unfold atI ixN
 rw[if_neg (by decide),if_pos (by rw[p5,O6];omega)]
 have:(-1+((xs++[a]).length:Int)).toNat=xs.length:=by rw[p5,O6];omega
 rw[this]
 simp
structure b5R(H0 H:Hp)(b c D:Addr)(m:Nat)(as:List Addr)(N:Nt):Prop where
 bag:Bag H b c
 kept:E8 b H0 H
 hD:H D=some (.lst (as.map V.ref))
 nb:D≠b
 nc:D≠c
 len:as.length=N.length
 at_:∀(i:Nat) x l,as[i]? = some x->N[i]? = some l->H x=some (.lst (IL l))/\x≠D/\x≠b
 small:∀l∈N,l.length<=2/\∀t∈l,t<m
theorem b5R.next{c D:Addr}(h:b5R H0 H b c D m as N)(B:Bag H' b c)(k:E8 b H H'):b5R H0 H' b c D m as N:=
 ⟨B,h.kept.trans k,k.1 _ _ h.hD h.nb,h.nb,h.nc,h.len,fun i x l e1 e2=>let⟨q1,q2,q3⟩:=h.at_ i x l e1 e2; ⟨k.1 _ _ q1 q3,q2,q3⟩,h.small⟩
structure b1i(H:Hp)(b D q:Addr)(m:Nat)(l:List Nat):Prop where
 h:H q=some (.lst (IL l))
 nD:q≠D
 nb:q≠b
 len:l.length<=2
 lt:∀t∈l,t<m
theorem b1i.next{D q:Addr}(h:b1i H b D q m l)(k:E8 b H H'):b1i H' b D q m l:=⟨k.1 _ _ h.h h.nb,h.nD,h.nb,h.len,h.lt⟩
theorem Z8{α:Type}{xs:List α}{x y:α}(h:(xs++[x])[i]? = some y):(i<xs.length/\xs[i]? = some y)\/(i=xs.length/\y=x):=by
 by_cases hi:i<xs.length
 ·left
  rw[o3 hi]at h
  exact⟨hi,h⟩
 ·right
  rw[J4 (by omega)]at h
  have:i - xs.length=0:=by
   have:=(gI h)
   simp at this
   omega
  rw[this]at h
  simp at h
  exact⟨by omega,h.symm⟩
theorem b9u{a b:Int}:decide (V.int a=V.int b)=decide (a=b):=by
 by_cases h:a=b
 ·subst h;simp
 ·rw[d5q h,d5q (fun z=>h (V.int.inj z))]
theorem d0S{K:Fg}{c:Addr}{E:XK}(hB:Bag H b c)(m0:0<m)(m1:m<=24)
  (k:∀a N H',J5 H' a N->N.length=m->(∀l∈N,l.length<=2/\∀t∈l,t<m)->N[m - 1]? = some []->Bag H' b c->E8 b H H'->Q (.ref a) H'):b6Q K [.ref b,.int (m:Int)] H Q E:=by
 refine⟨rfl,?_⟩
 unfold c8V
 nofun
 exists L6 (by simp) fun D H1 hD e1 s1=>?_
 obtain⟨nb,nc⟩:=hB.nb hD
 have B1:=hB.same s1
 exact_mod_cast K6 ?_
 specialize a0p (a1n ?_)
 refine⟨m,rfl,by omega,by omega,?_⟩
 rw[A5]
 refine a0l (fun i σ H2=>∃x3 x4 x5 x6 as N,σ=[some (.ref b),some (.int (m:Int)),some (.ref D),x3,x4,x5,x6]/\b5R H H2 b c D m as N/\N.length=i/\(i=m->N[m - 1]? = some [])) ?_ ?_ ?_
 ·exact⟨_,_,_,_,[],[],rfl,⟨B1,E8.of_same s1,e1,nb,nc,rfl,fun i x l e=>by simp at e,fun l h=>by simp at h⟩,rfl,fun z=>by omega⟩
 ·rintro i _ H2 hi ⟨x3,x4,x5,x6,as,N,rfl,I2,hlen,_⟩
  ext
  rw[U4]
  nofun
  exists c9e ?_
  obtain⟨r,hr,hrm⟩:∃r:Nat,(if(m:Int) - 1<(i:Int)+1 then (m:Int) - 1 else (i:Int)+1)=(r:Int)/\r<m:=by
   by_cases h:(m:Int) - 1<(i:Int)+1
   ·exact⟨m - 1,by rw[if_pos h];omega,by omega⟩
   ·exact⟨i+1,by rw[if_neg h];omega,by omega⟩
  rw[hr]
  nofun
  refine O7 I2.bag (by omega) (by omega) fun j H3 j0 j1 B3 k3=>?_
  obtain⟨j,rfl⟩:=a4a j0
  ext
  exists L6 (by simp) fun q H4 hq e4 s4=>?_
  have I3:=I2.next B3 k3
  have I4:=I3.next (B3.same s4) (E8.of_same s4)
  have S4:b1i H4 b D q m [r,j]:=⟨e4,(c9 I3.hD hq).symm,(B3.nb hq).1,by simp,fun t ht=>by
   simp only[o4,O2,or_false]at ht
   rcases ht with rfl | rfl
   ·exact hrm
   ·omega⟩
  nofun
  exists O7 I4.bag (by decide) (by decide) fun w H5 w0 w1 B5 k5=>?_
  have I5:=I4.next B5 k5
  have S5:=S4.next k5
  exact_mod_cast a5a (P:=fun σ H6=>∃q l,σ=[some (.ref b),some (.int (m:Int)),some (.ref D),some (.int (i:Int)),some (.int (r:Int)),some (.ref q),some (.int w)]/\b5R H H6 b c D m as N/\b1i H6 b D q m l/\l.length=2) ?_ ?_
  rotate_left
  ·intro nx hnx
   ext
   refine a3j (fun _=>?_) (fun _=>?_)
   ·ext
    exists J1 S5.h (b1h _ _ _) ?_
    refine L6 (by simp) fun q6 H6 hq6 e6 s6=>?_
    exact hnx _ _ ⟨q6,[j,r],rfl,I5.next (B5.same s6) (E8.of_same s6),⟨e6,(c9 I5.hD hq6).symm,(B5.nb hq6).1,by simp,fun t ht=>by
     simp only[o4,O2,or_false]at ht
     rcases ht with rfl | rfl
     ·exact S5.lt _ (by simp)
     ·exact S5.lt _ (by simp)⟩,rfl⟩
   ·ext
    exact hnx _ _ ⟨q,[r,j],rfl,I5,S5,rfl⟩
  rintro _ H6 ⟨q,l,rfl,I6,S6,hl6⟩
  obtain⟨l0,l1,rfl⟩:∃l0 l1,l=[l0,l1]:=by
   match l,hl6 with
   | [a,b],_=>exact⟨a,b,rfl⟩
  exact_mod_cast a5a (P:=fun σ H6=>∃q l,σ=[some (.ref b),some (.int (m:Int)),some (.ref D),some (.int (i:Int)),some (.int (r:Int)),some (.ref q),some (.int w)]/\b5R H H6 b c D m as N/\b1i H6 b D q m l/\l.length=2) ?_ ?_
  rotate_left
  ·intro nx hnx
   ext
   refine a3j (fun _=>?_) (fun _=>?_)
   ·ext
    exists J1 S6.h (b1h _ _ _) ?_
    refine O7 I6.bag (by omega) (by omega) fun j2 H7 z0 z1 B7 k7=>?_
    obtain⟨j2,rfl⟩:=a4a z0
    ext
    have I7:=I6.next B7 k7
    refine L6 (by simp) fun q8 H8 hq8 e8 s8=>?_
    exact hnx _ _ ⟨q8,[l1,j2],rfl,I7.next (B7.same s8) (E8.of_same s8),⟨e8,(c9 I7.hD hq8).symm,(B7.nb hq8).1,by simp,fun t ht=>by
     simp only[o4,O2,or_false]at ht
     rcases ht with rfl | rfl
     ·exact S6.lt _ (by simp)
     ·omega⟩,rfl⟩
   ·ext
    exact hnx _ _ ⟨q,_,rfl,I6,S6,rfl⟩
  clear S6 I6 l0 l1 hl6 S5 I5 S4 I4 I3 B3 k3 B5 k5 s4 e4 hq
  rintro _ H6 ⟨q,l,rfl,I6,S6,hl6⟩
  obtain⟨l0,l1,rfl⟩:∃l0 l1,l=[l0,l1]:=by
   match l,hl6 with
   | [a,b],_=>exact⟨a,b,rfl⟩
  exact_mod_cast a5a (P:=fun σ H6=>∃q l,σ=[some (.ref b),some (.int (m:Int)),some (.ref D),some (.int (i:Int)),some (.int (r:Int)),some (.ref q),some (.int w)]/\b5R H H6 b c D m as N/\b1i H6 b D q m l/\(w=7->1<m->l.length=2)) ?_ ?_
  rotate_left
  ·intro nx hnx
   have one:∀H7,H7=H6->((w=7/\1<m)->False)->New (.lst [V.int (r:Int)]) 1 H7 fun v H1=>nx [some (.ref b),some (.int (m:Int)),some (.ref D),some (.int (i:Int)),some (.int (r:Int)),some v,some (.int w)] H1:=by
    rintro _ rfl hw
    refine L6 (by simp) fun q8 H8 hq8 e8 s8=>?_
    exact hnx _ _ ⟨q8,[r],rfl,I6.next (I6.bag.same s8) (E8.of_same s8),⟨e8,(c9 I6.hD hq8).symm,(I6.bag.nb hq8).1,by simp,fun t ht=>by rw[o0.mp ht];exact hrm⟩,fun h1 h2=>(hw ⟨h1,h2⟩).elim⟩
   ext
   refine a3j (fun a3=>?_) (fun a3=>?_)
   ·ext
    refine a3j (fun a7=>?_) (fun a7=>?_)
    ·exists C6 rfl ?_
     exact one _ rfl fun⟨z,_⟩=>by have:=of_decide_eq_true a7;omega
    ·ext
     refine a3j (fun a1=>?_) (fun a1=>?_)
     ·ext
      rw[b9u]at a1
      exact one _ rfl fun⟨_,z⟩=>by have:=of_decide_eq_true a1;omega
     ·ext
      exact hnx _ _ ⟨q,_,rfl,I6,S6,fun _ _=>rfl⟩
   ·ext
    exists v5 rfl ?_
    refine a3j (fun a1=>?_) (fun a1=>?_)
    ·ext
     rw[b9u]at a1
     exact one _ rfl fun⟨_,z⟩=>by have:=of_decide_eq_true a1;omega
    ·ext
     exact hnx _ _ ⟨q,_,rfl,I6,S6,fun _ _=>rfl⟩
  clear S6 I6 l0 l1 hl6
  rintro _ H6 ⟨q,l,rfl,I6,S6,hl6⟩
  exact_mod_cast a5a (P:=fun σ H6=>∃q l,σ=[some (.ref b),some (.int (m:Int)),some (.ref D),some (.int (i:Int)),some (.int (r:Int)),some (.ref q),some (.int w)]/\b5R H H6 b c D m as N/\b1i H6 b D q m l) ?_ ?_
  rotate_left
  ·intro nx hnx
   ext
   refine a3j (fun a7=>?_) (fun a7=>?_)
   ·ext
    refine a3j (fun a1=>?_) (fun a1=>?_)
    ·rw[b9u]at a7
     have a7:=of_decide_eq_true a7
     have a1:=of_decide_eq_true a1
     have hl:=hl6 a7 (by omega)
     obtain⟨l0,l1,rfl⟩:∃l0 l1,l=[l0,l1]:=by
      match l,hl with
      | [a,b],_=>exact⟨a,b,rfl⟩
     ext
     exists J1 S6.h (b1h _ _ _) ?_
     refine L6 (by simp) fun q8 H8 hq8 e8 s8=>?_
     exact hnx _ _ ⟨q8,[l1],rfl,I6.next (I6.bag.same s8) (E8.of_same s8),⟨e8,(c9 I6.hD hq8).symm,(I6.bag.nb hq8).1,by simp,fun t ht=>by rw[o0.mp ht];exact S6.lt _ (by simp)⟩⟩
    ·ext
     exact hnx _ _ ⟨q,_,rfl,I6,S6⟩
   ·exists v5 rfl ?_
    exact hnx _ _ ⟨q,_,rfl,I6,S6⟩
  clear S6 I6 hl6 l
  rintro _ H6 ⟨q,l,rfl,I6,S6⟩
  exact_mod_cast a5a (P:=fun σ H6=>∃q l,σ=[some (.ref b),some (.int (m:Int)),some (.ref D),some (.int (i:Int)),some (.int (r:Int)),some (.ref q),some (.int w)]/\b5R H H6 b c D m as N/\b1i H6 b D q m l/\(i+1=m->l=[])) ?_ ?_
  rotate_left
  ·intro nx hnx
   have none:∀H7,b5R H H7 b c D m as N->New (.lst []) 0 H7 fun v H1=>nx [some (.ref b),some (.int (m:Int)),some (.ref D),some (.int (i:Int)),some (.int (r:Int)),some v,some (.int w)] H1:=by
    intro H7 I7
    refine L6 (by simp) fun q8 H8 hq8 e8 s8=>?_
    exact hnx _ _ ⟨q8,[],rfl,I7.next (I7.bag.same s8) (E8.of_same s8),⟨e8,(c9 I7.hD hq8).symm,(I7.bag.nb hq8).1,by simp,fun t ht=>by simp at ht⟩,fun _=>rfl⟩
   ext
   refine a3j (fun a1=>?_) (fun a1=>?_)
   ·exists C6 rfl ?_
    exact none _ I6
   ·rw[b9u]at a1
    have a1:¬((i:Int)=(m:Int) - 1):=fun z=>a1 (d5r z)
    ext
    refine a3j (fun a6=>?_) (fun a6=>?_)
    ·ext
     exists O7 I6.bag (by decide) (by decide) fun z H7 z0 z1 B7 k7=>?_
     refine a3j (fun a0=>?_) (fun a0=>?_)
     ·ext
      exact none _ (I6.next B7 k7)
     ·ext
      exact hnx _ _ ⟨q,l,rfl,I6.next B7 k7,S6.next k7,fun z=>by omega⟩
    ·exists v5 rfl ?_
     exact hnx _ _ ⟨q,l,rfl,I6,S6,fun z=>by omega⟩
  clear S6 I6 l
  rintro _ H6 ⟨q,l,rfl,I6,S6,hlast⟩
  ext
  specialize a8c ?_
  exists ⟨Z6 I6.hD,?_⟩
  refine a0E I6.hD (F4 (by rw[b5,I6.len];omega)) ?_
  have nqc:D≠c:=I6.nc
  refine⟨_,_,_,_,as++[q],N++[l],rfl,⟨I6.bag.put I6.nb nqc,I6.kept.put hD,by rw[c8];simp,I6.nb,I6.nc,by simp[I6.len],?_,?_⟩,by simp[hlen],?_⟩
  ·intro i' x' l' e1' e2'
   rcases Z8 e1' with ⟨hi1,f1⟩ | ⟨hi1,f1⟩
   ·rcases Z8 e2' with ⟨hi2,f2⟩ | ⟨hi2,f2⟩
    ·obtain⟨g1,g2,g3⟩:=I6.at_ i' x' l' f1 f2
     exact⟨by rw[g9 g2];exact g1,g2,g3⟩
    ·have:=I6.len;omega
   ·rcases Z8 e2' with ⟨hi2,f2⟩ | ⟨hi2,f2⟩
    ·have:=I6.len;omega
    ·subst f1 f2
     exact⟨by rw[g9 S6.nD];exact S6.h,S6.nD,S6.nb⟩
  ·intro l' hl'
   rcases u0.mp hl' with z | z
   ·exact I6.small l' z
   ·rw[o0.mp z];exact⟨S6.len,S6.lt⟩
  ·intro z
   rw[hlast z]
   have:m - 1=N.length:=by omega
   rw[this];simp
 ·rintro _ H2 ⟨x3,x4,x5,x6,as,N,rfl,I2,hlen,hlast⟩
  ext
  exact k D N H2 ⟨as,I2.hD,I2.len,fun i x l e1 e2=>(I2.at_ i x l e1 e2).1⟩ hlen I2.small (hlast rfl) I2.bag I2.kept
theorem d2U(xs:List V):a8J xs (some 1) none=xs.drop 1:=by
 cases xs with
 | nil=>rfl
 | cons a r=>rw[d1n];rfl
theorem c8J(l:List Nat)(n:Nat):(IL l).drop n=IL (l.drop n):=by unfold IL;rw[List.map_drop]
theorem a5M(xs:List V):T0 xs []=decide (xs.length=0):=by
 unfold T0
 rw[show min xs.length ([]:List V).length=0 by simp]
 simp only[List.range_zero,c2m,a8a,a3S]
 by_cases h:xs.length=0
 ·rw[h];rfl
 ·rw[d5q h]
  simpa using h
theorem d1r{G:List Nat}(h:(l.map fun t=>decide (t∈G)).any id=true):∃t∈l,t∈G:=by
 obtain⟨x,hx,e⟩:=a8i.mp h
 obtain⟨t,ht,rfl⟩:=A2.mp hx
 exact⟨t,ht,of_decide_eq_true e⟩
theorem b7w{α:Type}(l:List Nat)(f:Nat->α)(i:Nat)(e:l[i]? = some t):(l.take (i+1)).map f=(l.take i).map f++[f t]:=by
 rw[E9,e];simp
structure a7Z(H0 H:Hp)(d:Addr)(N:Nt)(G:List Nat):Prop where
 same:i9 H0 H
 hd:H d=some (.dK (KS G))
 nd:G.Nodup
 lt:∀k∈G,k<N.length
 gd:∀k∈G,Gd N k
theorem a7Z.next{G:List Nat}(h:a7Z H0 H d N G)(s:i9 H H'):a7Z H0 H' d N G:=⟨h.same.trans s,s _ _ h.hd,h.nd,h.lt,h.gd⟩
theorem a7Z.put{G:List Nat}(h:a7Z H0 H d N G)(n:H0 d=none){k:Nat}(hk:k<N.length)(g:Gd N k):a7Z H0 (upd H d (.dK (KS (a3H G k)))) d N (a3H G k):=
 ⟨fun b o e=>by rw[g9 (c9 e n)];exact h.same b o e,c8,a6m h.nd,fun j hj=>(Y7.mp hj).elim (h.lt j) fun z=>z ▸ hk,fun j hj=>(Y7.mp hj).elim (h.gd j) fun z=>z ▸ g⟩
theorem c8t{K:Fg}{x2 x4 x5 x6:Option V}{G:List Nat}(n0:H0 d=none)(hn:J5 H a N)(hN:N.length<=24)(hl:N[i]? = some l)(hl2:l.length<=2)(hG:a7Z H0 H d N G)
  (k:∀H' G',a7Z H0 H' d N G'->(∀j∈G,j∈G')->(l=[]->i∈G')->J5 H' a N->D.nx [some (.ref a),some (.ref d),x2,some (.int (i:Int)),x4,x5,x6] H') :
  O3 (tOr (F2 (tOp qEq (tOp qIx (b6 0) (b6 3)) (a2x (g8)))) (tB (tCB c0F (b4 (O5 (O0 K (tOp qIx (b6 0) (b6 3))) (Q7) (b6L (b6 0) (b6 2))) (g8))))) (a3G (b6 1) (b6 3) (tC (.bl true))) (F0) D
   [some (.ref a),some (.ref d),x2,some (.int (i:Int)),x4,x5,x6] H:=by
 have hi:i<N.length:=(gI hl)
 have hGl:G.length<100000:=by
  have:=a3M _ _ hG.nd hG.lt
  omega
 have put:∀H1,J5 H1 a N->a7Z H0 H1 d N G->a≠d->(∀x,H1 x=some (.dK (KS G))->True)->Gd N i->a3G (b6 1) (b6 3) (tC (.bl true)) D [some (.ref a),some (.ref d),x2,some (.int (i:Int)),x4,x5,x6] H1:=by
  intro H1 n1 g1 nad _ gd
  specialize a7r ?_
  refine⟨d,_,rfl,a8W g1.hd hGl i,?_⟩
  refine k _ (a3H G i) (g1.put n0 hi gd) (fun j hj=>Y7.mpr (.inl hj)) (fun _=>Y7.mpr (.inr rfl)) ?_
  obtain⟨as,q1,q2,q3⟩:=n1.ex
  refine⟨as,by rw[g9 nad];exact q1,q2,fun j x l' e1 e2=>?_⟩
  have q:=q3 j x l' e1 e2
  rw[g9 (N8 q g1.hd (by intro z;cases z))]
  exact q
 obtain⟨xs,x,h1,h2,h3,_⟩:=hn.at hl
 have nad:a≠d:=N8 h1 hG.hd (by intro z;cases z)
 ext
 exists J1 h1 h2 ?_
 refine L6 (by simp) fun p H1 hp e1 s1=>?_
 refine⟨_,b1a (s1 _ _ h3) e1 (a9a l) rfl,?_⟩
 rw[a5M,D2]
 ext
 by_cases hz:l=[]
 ·refine C6 (d5r (by rw[hz];rfl)) ?_
  refine C6 rfl ?_
  exact put H1 (hn.same s1) (hG.next s1) nad (fun _ _=>trivial) (.stop (hz ▸ hl))
 exists v5 (d5q fun z=>hz (a1u.mp z)) ?_
 specialize U3 (P8 ?_)
 refine J1 (s1 _ _ h1) h2 ?_
 refine⟨x,rfl,⟨_,SqL.of (s1 _ _ h3)⟩,fun E hE=>?_⟩
 have G1:=hG.next s1
 refine U0 (xs:=IL l) (fun j ys H2=>ys=(l.take j).map (fun t=>V.bl (decide (t∈G)))/\H2 E=some (.lst ys)/\i9 H1 H2) ⟨by simp,c8,z6 hE⟩ ?_ ?_ ?_ ?_
 ·rintro j ys H2 ⟨_,h,_⟩
  exact h
 ·rintro j ys H2 _ ⟨_,_,s2⟩
  exact SqL.of (s2 _ _ (s1 _ _ h3))
 ·rintro j y ys H2 hy ⟨rfl,hE2,s2⟩ R hR
  have hy:(l.map fun(n:Nat)=>V.int (n:Int))[j]? = some y:=hy
  rw[a9]at hy
  cases ht:l[j]? with
  | none=>rw[ht]at hy;cases hy
  | some t=>
   rw[ht]at hy
   cases hy
   have hj:=(gI ht)
   specialize c4R ?_
   obtain⟨o,g1,g2⟩:=a4x (s2 _ _ G1.hd) t
   refine⟨d,o,rfl,g1,?_⟩
   rw[g2]
   refine hR _ _ hE2 (F4 ?_) ⟨?_,c8,fun b o e=>?_⟩
   ·rw[b5,C9]
    omega
   ·rw[b7w l _ j ht]
   ·rw[g9 (c9 e hE)];exact s2 b o e
 ·rintro ys H2 ⟨rfl,hE2,s2⟩
  rw[D2,F1]at hE2
  have he:l.map (fun t=>V.bl (decide (t∈G)))=(l.map fun t=>decide (t∈G)).map V.bl:=by rw[U1];rfl
  rw[he]at hE2
  ext
  exists d2q hE2 ?_
  refine a3j (fun c=>?_) (fun c=>?_)
  ·obtain⟨t,t1,t2⟩:=d1r c
   exact put H2 ((hn.same s1).same s2) (G1.next s2) nad (fun _ _=>trivial) (.step hl t1 (hG.gd t t2))
  ·ext
   exact k H2 G (G1.next s2) (fun j hj=>hj) (fun z=>(hz z).elim) ((hn.same s1).same s2)
structure b7T(H0 H:Hp)(d:Addr)(N:Nt)(S:List Nat):Prop where
 same:i9 H0 H
 hd:H d=some (.dK (KS S))
 nd:S.Nodup
 lt:∀k∈S,k<N.length
 rc:∀k∈S,Rc N k
 zero:0∈S
theorem b7T.put{S:List Nat}(h:b7T H0 H d N S)(n:H0 d=none){k:Nat}(hk:k<N.length)(g:Rc N k):b7T H0 (upd H d (.dK (KS (a3H S k)))) d N (a3H S k):=
 ⟨fun b o e=>by rw[g9 (c9 e n)];exact h.same b o e,c8,a6m h.nd,fun j hj=>(Y7.mp hj).elim (h.lt j) fun z=>z ▸ hk,fun j hj=>(Y7.mp hj).elim (h.rc j) fun z=>z ▸ g,Y7.mpr (.inl h.zero)⟩
def b0g(N:Nt)(S:List Nat):Prop:=∀k∈S,∀l,N[k]? = some l->∀t∈l,t∈S
theorem c7i{S:List Nat}{k:Nat}(h:k∈S):a3H S k=S:=by unfold a3H;rw[if_pos h]
theorem J5.dput{ks:List (Key×V)}(h:J5 H a N)(hd:H d=some (.dK ks)):J5 (upd H d o) a N:=by
 obtain⟨as,q1,q2,q3⟩:=h.ex
 exact⟨as,by rw[g9 (N8 q1 hd (by intro z;cases z))];exact q1,q2,fun j x l e1 e2=>by
  have q:=q3 j x l e1 e2
  rw[g9 (N8 q hd (by intro z;cases z))];exact q⟩
theorem c4U{K:Fg}{x1 x2 x5 x6:Option V}{S:List Nat}(n0:H0 d=none)(hn:J5 H a N)(hN:N.length<=24)(hl:N[i]? = some l)(hlt:∀t∈l,t<N.length)(hS:b7T H0 H d N S)
  (k:∀H' S' x5,b7T H0 H' d N S'->(∀j∈S,j∈S')->(i∈S->∀t∈l,t∈S')->(b0g N S->S'=S)->J5 H' a N->D.nx [some (.ref a),x1,x2,some (.int (i:Int)),some (.ref d),x5,x6] H') :
  O3 (tB (b6L (b6 3) (b6 4))) (a1R (O0 K (tOp qIx (b6 0) (b6 3))) (t8 5) (a3G (b6 4) (b6 5) (tC (.bl true)))) (F0) D [some (.ref a),x1,x2,some (.int (i:Int)),some (.ref d),x5,x6] H:=by
 ext
 specialize c4R ?_
 obtain⟨o,g1,g2⟩:=a4x hS.hd i
 refine⟨d,o,rfl,g1,?_⟩
 rw[g2]
 ext
 refine a3j (fun c=>?_) (fun c=>?_)
 ·have hi:i∈S:=of_decide_eq_true c
  obtain⟨xs,x,h1,h2,h3,_⟩:=hn.at hl
  specialize a0p (P8 ?_)
  refine J1 h1 h2 ?_
  refine⟨x,rfl,⟨_,SqL.of h3⟩,a2G (xs:=IL l) (fun j σ H2=>∃S' x5,σ=[some (.ref a),x1,x2,some (.int (i:Int)),some (.ref d),x5,x6]/\b7T H0 H2 d N S'/\(∀j∈S,j∈S')/\(∀t∈l.take j,t∈S')/\(b0g N S->S'=S)/\J5 H2 a N/\H2 x=some (.lst (IL l))) ?_ ?_ ?_ ?_⟩
  ·exact⟨S,x5,rfl,hS,fun _ h=>h,by simp,fun _=>rfl,hn,h3⟩
  ·rintro j σ H2 _ ⟨_,_,_,_,_,_,_,_,h⟩
   exact SqL.of h
  ·rintro j y _ H2 hy ⟨S',x5,rfl,I2,i1,i2,i3,n2,hx2⟩
   have hy:(l.map fun(n:Nat)=>V.int (n:Int))[j]? = some y:=hy
   rw[a9]at hy
   cases ht:l[j]? with
   | none=>rw[ht]at hy;cases hy
   | some t=>
    rw[ht]at hy
    cases hy
    have tm:=mI ht
    ext
    specialize a7r ?_
    refine⟨d,_,rfl,a8W I2.hd (by have:=a3M _ _ I2.nd I2.lt;omega) t,?_⟩
    refine⟨a3H S' t,_,rfl,I2.put n0 (hlt t tm) (.step (hS.rc i hi) hl tm),fun j hj=>Y7.mpr (.inl (i1 j hj)),fun z hz=>?_,fun hc=>?_,n2.dput I2.hd,?_⟩
    ·rw[E9,ht]at hz
     rcases u0.mp hz with q | q
     ·exact Y7.mpr (.inl (i2 z q))
     ·exact Y7.mpr (.inr (by simpa using q))
    ·rw[i3 hc]
     exact c7i (hc i hi l hl t tm)
    ·rw[g9 (N8 hx2 I2.hd (by intro z;cases z))];exact hx2
  ·rintro _ H2 ⟨S',x5,rfl,I2,i1,i2,i3,n2,hx2⟩
   refine k H2 S' x5 I2 i1 (fun _ t ht=>i2 t ?_) i3 n2
   rw[D2,F1];exact ht
 ·ext
  exact k H S x5 hS (fun _ h=>h) (fun h=>(c (d5r h)).elim) (fun _=>rfl) hn
theorem b9f{ms:List Int}{S:List Nat}(h:ms.Perm (S.map fun(n:Nat)=>(n:Int))):∃O:List Nat,O.Perm S/\ms=O.map fun(n:Nat)=>(n:Int):=by
 refine⟨ms.map c2n,?_,?_⟩
 ·have:=h.map c2n
  rw[U1]at this
  have e:(c2n ∘ fun(n:Nat)=>(n:Int))=id:=by funext n;simp
  rw[e,List.map_id]at this
  exact this
 ·rw[U1]
  have:∀x∈ms,((fun(n:Nat)=>(n:Int)) ∘ c2n) x=id x:=by
   intro x hx
   obtain⟨n,_,rfl⟩:=A2.mp (h.subset hx)
   simp
  rw[a3h this,List.map_id]
theorem c0i{O:List Nat}(h:(O.map fun(n:Nat)=>(n:Int)).Pairwise (· <= ·)):O.Pairwise (· <= ·):=by
 rw[List.pairwise_map]at h
 exact h.imp fun q=>by omega
theorem b9r(O:List Nat)(t:Nat):(O.map fun(n:Nat)=>(n:Int)).idxOf (t:Int)=O.idxOf t:=by
 induction O with
 | nil=>rfl
 | cons a r ih=>
  rw[B8,d1D,d1D]
  by_cases e:a=t
  ·subst e;simp
  ·have:((a:Int) == (t:Int))=false:=by simp;omega
   have e2:(a == t)=false:=by simpa using e
   rw[this,e2,ih]
theorem L8(h:i<N.length):N[i]? = some N[i]:=by simp
theorem c3g{K:Fg}{E:XK}(hn:J5 H a N)(hp:0<N.length)(hN:N.length<=24)(hs:∀l∈N,l.length<=2/\∀t∈l,t<N.length)(hl:N[N.length - 1]? = some [])
  (k:∀a' N' H',J5 H' a' N'->Q9 N'->N'.length<=24->i9 H H'->Q (.ref a') H'):a8S K [.ref a] H Q E:=by
 refine⟨rfl,?_⟩
 unfold b8w
 nofun
 exists b7e fun d H1 hd e1 s1=>?_
 have n1:=hn.same s1
 obtain⟨xs0,hx0,lx0⟩:=hn.len
 exact_mod_cast a5a (P:=fun σ H2=>∃x2 x3 G,σ=[some (.ref a),some (.ref d),x2,x3,none,none,none]/\a7Z H H2 d N G/\N.length - 1∈G/\J5 H2 a N) ?_ ?_
 rotate_left
 ·intro nx hnx
  specialize a0p (a1n ?_)
  refine L7 (s1 _ _ hx0) ?_
  refine⟨N.length,by rw[lx0],by omega,by omega,?_⟩
  rw[A5]
  refine a0l (fun i σ H2=>∃x2 x3 G,σ=[some (.ref a),some (.ref d),x2,x3,none,none,none]/\a7Z H H2 d N G/\(0<i->N.length - 1∈G)/\J5 H2 a N) ?_ ?_ ?_
  ·exact⟨_,_,[],rfl,⟨s1,e1,by simp,by simp,by simp⟩,by omega,n1⟩
  ·rintro i _ H2 hi ⟨x2,x3,G,rfl,I2,g2,n2⟩
   ext
   obtain⟨xs2,hx2,lx2⟩:=n2.len
   specialize a0p (a1n ?_)
   refine L7 hx2 ?_
   refine⟨N.length,by rw[lx2],by omega,by omega,?_⟩
   rw[A5]
   refine a0l (fun j σ H3=>∃x3 G,σ=[some (.ref a),some (.ref d),some (.int (0+(i:Int))),x3,none,none,none]/\a7Z H H3 d N G/\(j=N.length->N.length - 1∈G)/\J5 H3 a N) ?_ ?_ ?_
   ·exact⟨_,G,rfl,I2,by omega,n2⟩
   ·rintro j _ H3 hj ⟨x3,G3,rfl,I3,g3,n3⟩
    exact_mod_cast b7d ?_
    rw[U4 (j:Int)]
    refine c8t hd n3 hN (L8 hj) (hs _ (I0 _)).1 I3 fun H4 G4 I4 sub4 h4 n4=>?_
    refine⟨_,G4,rfl,I4,fun z=>?_,n4⟩
    have e:N.length - 1=j:=by omega
    rw[e]at hl ⊢
    refine h4 ?_
    rw[L8 hj]at hl
    exact Option.some.inj hl
   ·rintro _ H3 ⟨x3,G3,rfl,I3,g3,n3⟩
    exact⟨_,_,G3,rfl,I3,fun _=>g3 rfl,n3⟩
  ·rintro _ H2 ⟨x2,x3,G,rfl,I2,g2,n2⟩
   exact hnx _ _ ⟨x2,x3,G,rfl,I2,g2 hp,n2⟩
 rintro _ H2 ⟨x2,x3,G,rfl,I2,hlast,n2⟩
 nofun
 exact_mod_cast U3 (a1n ?_)
 obtain⟨xs2,hx2,lx2⟩:=n2.len
 ext
 refine L7 hx2 ?_
 refine⟨N.length,by rw[lx2],by omega,by omega,fun A hA=>?_⟩
 rw[A5]
 refine a6W (fun i ys H3=>∃as:List Addr,ys=as.map V.ref/\as.length=i/\(∀(j:Nat) x l,as[j]? = some x->(a6n N G)[j]? = some l->H3 x=some (.lst (IL l))/\x≠A)/\H3 A=some (.lst ys)/\i9 H2 H3) ?_ ?_ ?_ ?_
 ·exact⟨[],rfl,rfl,by simp,c8,z6 hA⟩
 ·rintro i ys H3 ⟨_,_,_,_,h,_⟩
  exact h
 ·rintro i ys H3 hi ⟨as,rfl,la,at3,hA3,s3⟩ R hR
  rw[U4]
  obtain⟨ys0,x,f1,f2,f3,f4⟩:=(n2.same s3).at (L8 hi)
  have more:∀q H4,i9 H3 H4->(∀l,(a6n N G)[i]? = some l->H4 q=some (.lst (IL l)))->q≠A->R (.ref q) H4:=by
   intro q H4 s4 hq nq
   refine hR _ _ (s4 _ _ hA3) (F4 (by rw[b5];omega)) ⟨as++[q],by simp,by simp[la],?_,c8,fun b o e=>?_⟩
   ·intro j y l' h1 h2
    rcases Z8 h1 with ⟨_,g1⟩ | ⟨hj,g1⟩
    ·obtain⟨g2,g3⟩:=at3 j y l' g1 h2
     exact⟨by rw[g9 g3];exact s4 _ _ g2,g3⟩
    ·rw[hj,la]at h2
     subst g1
     exact⟨by rw[g9 nq];exact hq l' h2,nq⟩
   ·rw[g9 (c9 e hA)]
    exact s4 _ _ (s3 _ _ e)
  ext
  specialize c4R ?_
  obtain⟨o,g1,g2⟩:=a4x (s3 _ _ I2.hd) i
  refine⟨d,o,rfl,g1,?_⟩
  rw[g2]
  ext
  refine a3j (fun c=>?_) (fun c=>?_)
  ·ext
   refine J1 f1 f2 ?_
   refine more x H3 (i9.refl _) (fun l hl'=>?_) ?_
   ·rw[b0T (L8 hi) (of_decide_eq_true c)]at hl'
    cases hl'
    exact f3
   ·refine(c9 (H:=H2) (a:=x) (b:=A) (o:=.lst (IL N[i])) ?_ hA)
    obtain⟨ys1,x',f1',f2',f3',_⟩:=n2.at (L8 hi)
    have e1:=s3 _ _ f1'
    rw[f1]at e1
    cases e1
    rw[f2]at f2'
    cases f2'
    exact f3'
  ·ext
   exists L7 f1 ?_
   exists L6 (by simp) fun p1 H4 hp1 e4 s4=>?_
   exists J1 (s4 _ _ f1) f2 ?_
   refine c9d (s4 _ _ f3) fun p2 H5 hp2 e5 s5=>?_
   rw[d2U,c8J]at e5
   have hl2:=(hs _ (I0 (l:=N) (h:=hi))).1
   refine c5a (s5 _ _ e4) e5 (L6 (by simp[D2];omega) fun p3 H6 hp3 e6 s6=>?_)
   refine more p3 H6 ((s4.trans s5).trans s6) (fun l hl'=>?_) ?_
   ·rw[b6l (L8 hi) (fun z=>c (d5r z))]at hl'
    cases hl'
    rw[e6,f4]
    have:((N.length:Int) - 1)=((N.length - 1:Nat):Int):=by omega
    rw[this]
    rfl
   ·exact(c9 ((s4.trans s5) _ _ hA3) hp3).symm
 rintro ys H3 ⟨as,rfl,la,at3,hA3,s3⟩
 obtain⟨N2,hN2⟩:∃N2,N2=a6n N G:=⟨_,rfl⟩
 have len2:N2.length=N.length:=by rw[hN2,b6m]
 have n3:J5 H3 A N2:=⟨as,hA3,by rw[len2,la],fun i x l h1 h2=>(at3 i x l h1 (hN2 ▸ h2)).1⟩
 have small2:∀l∈N2,l.length<=2/\∀t∈l,t<N2.length:=by
  rw[len2,hN2]
  exact b9i hp hs hl hlast
 have gd2:∀k,k<N2.length->Gd N2 k:=by
  rw[len2,hN2]
  exact c8v I2.gd hl hlast
 have s03:i9 H H3:=I2.same.trans s3
 clear at3 hN2 la
 ext
 nofun
 intro r hr
 refine⟨c8,[(Sum.inl 0,V.bl true)],rfl,by simp,?_⟩
 have e4:(upd (upd H3 r (.dK [])) r (.dK (b0c [] [(Sum.inl 0,V.bl true)])))=upd H3 r (.dK (KS [0])):=by
  rw[b3n];rfl
 rw[e4]
 ext
 obtain⟨H4,hH4⟩:∃H4,H4=upd H3 r (.dK (KS [0])):=⟨_,rfl⟩
 rw[<-hH4]
 have s4:i9 H3 H4:=hH4 ▸ z6 hr
 have er:H4 r=some (.dK (KS [0])):=hH4 ▸ c8
 have n4:=n3.same s4
 clear hH4 e4
 have hp2:0<N2.length:=by omega
 exact_mod_cast a5a (P:=fun σ H5=>∃x2 x3 x5 S,σ=[some (.ref A),some (.ref d),x2,x3,some (.ref r),x5,none]/\b7T H3 H5 r N2 S/\b0g N2 S/\J5 H5 A N2) ?_ ?_
 rotate_left
 ·intro nx hnx
  obtain⟨ys4,hy4,ly4⟩:=n4.len
  specialize a0p (a1n ?_)
  refine L7 hy4 ?_
  refine⟨N2.length,by rw[ly4],by omega,by omega,?_⟩
  rw[A5]
  refine a0l (fun i σ H5=>∃x2 x3 x5 S,σ=[some (.ref A),some (.ref d),x2,x3,some (.ref r),x5,none]/\b7T H3 H5 r N2 S/\(b0g N2 S\/i+1<=S.length)/\J5 H5 A N2) ?_ ?_ ?_
  ·exact⟨_,_,_,[0],rfl,⟨s4,er,by simp,by simpa using hp2,by simpa using Rc.zero,by simp⟩,.inr (by simp),n4⟩
  ·rintro i _ H5 hi ⟨x2,x3,x5,S,rfl,I5,g5,n5⟩
   ext
   obtain⟨ys5,hy5,ly5⟩:=n5.len
   specialize a0p (a1n ?_)
   refine L7 hy5 ?_
   refine⟨N2.length,by rw[ly5],by omega,by omega,?_⟩
   rw[A5]
   refine a0l (fun j σ H6=>∃x3 x5 S',σ=[some (.ref A),some (.ref d),some (.int (0+(i:Int))),x3,some (.ref r),x5,none]/\b7T H3 H6 r N2 S'/\(∀k∈S,k∈S')/\(∀k∈S,k<j->∀l,N2[k]? = some l->∀t∈l,t∈S')/\(b0g N2 S->S'=S)/\J5 H6 A N2) ?_ ?_ ?_
   ·exact⟨_,_,S,rfl,I5,fun _ h=>h,by omega,fun _=>rfl,n5⟩
   ·rintro j _ H6 hj ⟨x3,x5,S',rfl,I6,b1,b2,b3,n6⟩
    exact_mod_cast b7d ?_
    rw[U4 (j:Int)]
    refine c4U hr n6 (by omega) (L8 hj) (small2 _ (I0 _)).2 I6 fun H7 S7 x5 I7 c1 c2 c3 n7=>?_
    refine⟨_,x5,S7,rfl,I7,fun k hk=>c1 k (b1 k hk),fun k hk hkj l hl' t ht=>?_,fun hc=>?_,n7⟩
    ·by_cases e:k=j
     ·subst e
      rw[L8 hj]at hl'
      cases hl'
      exact c2 (b1 k hk) t ht
     ·exact c1 t (b2 k hk (by omega) l hl' t ht)
    ·have:=b3 hc
     rw[this]at c3
     exact c3 hc
   ·rintro _ H6 ⟨x3,x5,S',rfl,I6,b1,b2,b3,n6⟩
    refine⟨_,x3,x5,S',rfl,I6,?_,n6⟩
    rcases g5 with hc | hc
    ·exact .inl (by rw[b3 hc];exact hc)
    ·by_cases hcl:b0g N2 S
     ·exact .inl (by rw[b3 hcl];exact hcl)
     ·right
      obtain⟨t,t1,t2⟩:∃t,t∈S'/\¬t∈S:=by
       refine Classical.byContradiction fun hno=>hcl fun k hk l hl' t ht=>?_
       refine Classical.byContradiction fun hts=>hno ⟨t,b2 k hk (I5.lt k hk) l hl' t ht,hts⟩
      have:(t::S).length<=S'.length:=by
       have nd:(t::S).Nodup:=X4.mpr ⟨t2,I5.nd⟩
       have sub:∀k∈t::S,k∈S':=fun k hk=>(o4.mp hk).elim (fun z=>z ▸ t1) (b1 k)
       exact b4J _ _ nd sub
      rw[C0]at this
      omega
  ·rintro _ H5 ⟨x2,x3,x5,S,rfl,I5,g5,n5⟩
   refine hnx _ _ ⟨x2,x3,x5,S,rfl,I5,g5.elim id fun h=>?_,n5⟩
   have:=a3M _ _ I5.nd I5.lt
   omega
 rintro _ H5 ⟨y2,y3,y5,S,rfl,I5,hcl,n5⟩
 have hSl:=a3M _ _ I5.nd I5.lt
 nofun
 have ek:(KS S).map (fun kv=>kV kv.1)=(S.map fun(n:Nat)=>(n:Int)).map V.int:=by
  unfold KS;rw[U1,U1];rfl
 have ld:a4j [.ref r] H5=fun Q=>∀l,H5 l=none->Q (.ref l) (upd H5 l (.lst ((KS S).map fun kv=>kV kv.1))):=by
  unfold a4j
  simp only[I5.hd]
 rw[ld]
 intro p6 hp6
 rw[ek]
 obtain⟨H6,hH6⟩:∃H6,H6=upd H5 p6 (.lst ((S.map fun(n:Nat)=>(n:Int)).map V.int)):=⟨_,rfl⟩
 rw[<-hH6]
 have s6:i9 H5 H6:=hH6 ▸ z6 hp6
 have e6:H6 p6=some (.lst ((S.map fun(n:Nat)=>(n:Int)).map V.int)):=hH6 ▸ c8
 clear hH6 ld
 ext
 have so:a8V [.ref p6] H6=fun Q=>∃ns,a3N ((S.map fun(n:Nat)=>(n:Int)).map V.int)=some ns/\ns.length<64/\∀(p:Addr) (ms:List Int),ms.Perm ns->ms.Pairwise (· <= ·)->H6 p=none->Q (.ref p) (upd H6 p (.lst (ms.map V.int))):=by
  unfold a8V
  simp only[e6]
 rw[so]
 refine⟨_,a5K _,by rw[b5];omega,fun p7 ms hperm hsort hp7=>?_⟩
 obtain⟨O,hO,rfl⟩:=b9f hperm
 have hsO:=c0i hsort
 have ndO:O.Nodup:=hO.nodup_iff.mpr I5.nd
 have memO:∀k,k∈O↔k∈S:=fun k=>hO.mem_iff
 obtain⟨H7,hH7⟩:∃H7,H7=upd H6 p7 (.lst ((O.map fun(n:Nat)=>(n:Int)).map V.int)):=⟨_,rfl⟩
 rw[<-hH7]
 have s7:i9 H6 H7:=hH7 ▸ z6 hp7
 have e7:H7 p7=some (.lst ((O.map fun(n:Nat)=>(n:Int)).map V.int)):=hH7 ▸ c8
 clear hH7 so
 have hOl:O.length<=24:=by rw[hO.length_eq];omega
 ext
 have n7:=(n5.same s6).same s7
 have s07:i9 H H7:=((s03.trans I5.same).trans s6).trans s7
 have valid:Q9 (a9F N2 O):=c2z ((memO 0).mpr I5.zero) hsO ndO (fun k hk=>I5.lt k ((memO k).mp hk)) (by omega) (fun k hk l hl' t ht=>(memO t).mpr (hcl k ((memO k).mp hk) l hl' t ht)) (fun k hk=>I5.rc k ((memO k).mp hk))
  (fun l hl'=>(small2 l hl').1) gd2
 specialize U3 (P8 ?_)
 refine⟨p7,rfl,⟨_,SqL.of e7⟩,fun B hB=>?_⟩
 refine U0 (xs:=(O.map fun(n:Nat)=>(n:Int)).map V.int) (fun i ys H8=>∃bs:List Addr,ys=bs.map V.ref/\bs.length=i/\(∀(j:Nat) x l,bs[j]? = some x->(a9F N2 O)[j]? = some l->H8 x=some (.lst (IL l))/\x≠B)/\H8 B=some (.lst ys)/\i9 H7 H8) ?_ ?_ ?_ ?_ ?_
 ·exact⟨[],rfl,rfl,by simp,c8,z6 hB⟩
 ·rintro i ys H8 ⟨_,_,_,_,h,_⟩
  exact h
 ·rintro i ys H8 _ ⟨_,_,_,_,_,s8⟩
  exact SqL.of (s8 _ _ e7)
 ·rintro i x ys H8 hx ⟨bs,rfl,lb,at8,hB8,s8⟩ R hR
  rw[a9,a9]at hx
  cases ho:O[i]? with
  | none=>rw[ho]at hx;cases hx
  | some kk=>
   rw[ho]at hx
   cases hx
   have hko:=mI ho
   have hks:=(memO kk).mp hko
   have hkl:=I5.lt kk hks
   obtain⟨ys8,x8,f1,f2,f3,_⟩:=(n7.same s8).at (L8 hkl)
   obtain⟨l8,hl8⟩:∃l8,l8=N2[kk]:=⟨_,rfl⟩
   rw[<-hl8]at f3
   have hN8:N2[kk]? = some l8:=by rw[hl8];exact L8 hkl
   specialize U3 (P8 ?_)
   refine J1 f1 f2 ?_
   refine⟨x8,rfl,⟨_,SqL.of f3⟩,fun C hC=>?_⟩
   refine U0 (xs:=IL l8) (fun j zs H9=>zs=IL ((l8.take j).map fun t=>O.idxOf t)/\H9 C=some (.lst zs)/\i9 H8 H9) ⟨rfl,c8,z6 hC⟩ ?_ ?_ ?_ ?_
   ·rintro j zs H9 ⟨_,h,_⟩
    exact h
   ·rintro j zs H9 _ ⟨_,_,s9⟩
    exact SqL.of (s9 _ _ f3)
   ·rintro j y zs H9 hy ⟨rfl,hC9,s9⟩ R' hR'
    have hy:(l8.map fun(n:Nat)=>V.int (n:Int))[j]? = some y:=hy
    rw[a9]at hy
    cases ht:l8[j]? with
    | none=>rw[ht]at hy;cases hy
    | some t=>
     rw[ht]at hy
     cases hy
     have htO:t∈O:=(memO t).mpr (hcl kk hks l8 hN8 t (mI ht))
     specialize a8c ?_
     have e9:H9 p7=_:=s9 _ _ (s8 _ _ e7)
     exists ⟨Z6 e9,?_⟩
     have ix:a7w (.ref p7) [.int (t:Int)] H9=fun Q=>∃ns,a3N ((O.map fun(n:Nat)=>(n:Int)).map V.int)=some ns/\ns.length<10000/\(t:Int)∈ns/\Q (.int (ns.idxOf (t:Int):Nat)) H9:=by
      unfold a7w
      simp only[e9]
     rw[ix]
     refine⟨_,a5K _,by rw[b5];omega,A2.mpr ⟨t,htO,rfl⟩,?_⟩
     rw[b9r]
     have hl2:=(small2 l8 (mI hN8)).1
     refine hR' _ _ hC9 (F4 ?_) ⟨?_,c8,fun b o e=>?_⟩
     ·rw[D2,b5,C9];omega
     ·unfold IL
      rw[b7w l8 (fun t=>O.idxOf t) j ht]
      simp
     ·rw[g9 (c9 e hC)];exact s9 _ _ e
   ·rintro zs H9 ⟨rfl,hC9,s9⟩
    rw[D2,F1]at hC9
    refine hR _ _ (s9 _ _ hB8) (F4 (by rw[b5];have:=(gI ho);omega)) ⟨bs++[C],by simp,by simp[lb],?_,c8,fun b o e=>?_⟩
    ·have nCB:C≠B:=(c9 hB8 hC).symm
     intro j y l' h1 h2
     rcases Z8 h1 with ⟨_,g1⟩ | ⟨hj,g1⟩
     ·obtain⟨g2,g3⟩:=at8 j y l' g1 h2
      exact⟨by rw[g9 g3];exact s9 _ _ g2,g3⟩
     ·rw[hj,lb]at h2
      subst g1
      refine⟨?_,nCB⟩
      rw[g9 nCB,hC9]
      have h2':(a9F N2 O)[i]? = some (l8.map fun t=>O.idxOf t):=by
       unfold a9F
       rw[a9,ho]
       simp[M0,hN8]
      rw[h2']at h2
      cases h2
      rfl
    ·rw[g9 (c9 e hB)]
     exact s9 _ _ (s8 _ _ e)
 ·rintro ys H8 ⟨bs,rfl,lb,at8,hB8,s8⟩
  rw[b5,b5]at lb
  have hlen:(a9F N2 O).length=O.length:=by simp[a9F]
  exact k B (a9F N2 O) H8 ⟨bs,hB8,by rw[lb,hlen],fun i x l h1 h2=>(at8 i x l h1 h2).1⟩ valid (by rw[hlen];exact hOl) (s07.trans s8)
structure a0O(H:Hp)(a:Addr)(N:Nt):Prop where
 ex:∃rs:List Addr,H a=some (.lst (rs.map V.ref))/\rs.length=N.length/\∀(i:Nat) x l,rs[i]? = some x->N[i]? = some l->b5d H (.ref x) (l.length == 2)
theorem a0O.same(h:a0O H a N)(k:i9 H H'):a0O H' a N:=by
 obtain⟨rs,h1,h2,h3⟩:=h.ex
 exact⟨rs,k a _ h1,h2,fun i x l e1 e2=>(h3 i x l e1 e2).ts (i9.ts k)⟩
theorem a0O.kept{c:Addr}(h:a0O H a N)(hB:Bag H b c)(k:E8 b H H'):a0O H' a N:=by
 obtain⟨rs,h1,h2,h3⟩:=h.ex
 exact⟨rs,k.1 a _ h1 (a2k hB h1),h2,fun i x l e1 e2=>(h3 i x l e1 e2).ts (E8.ts k hB)⟩
theorem c5H:∀s∈(["k0","set","ask","k1","a","copy"]:List Str),NmS s:=by
 intro s hs
 simp only[o4,O2,or_false]at hs
 rcases hs with rfl | rfl | rfl | rfl | rfl | rfl <;> exact⟨by decide +kernel,by decide +kernel⟩
theorem d3w:∀i,i<26->∀c,(("abcdefghijklmnopqrstuvwxyz0123456789" : Str).cps.toList)[i]? = some c->c∈LET.cps.toList:=by decide +kernel
theorem d3l:∀c∈("abcdefghijklmnopqrstuvwxyz0123456789" : Str).cps.toList,c∈SGN.cps.toList:=by decide +kernel
theorem c8e{K:Fg}{c:Addr}{E:XK}(hB:Bag H b c)(k:∀s H',NmS s->Bag H' b c->E8 b H H'->Q (.str s) H'):b3r K [.ref b,.int (n:Int)] H Q E:=by
 refine⟨rfl,?_⟩
 unfold c4B
 nofun
 exists O7 hB (by decide) (by decide) fun n1 H1 a0 a1 B1 k1=>?_
 refine a3j (fun _=>?_) (fun _=>?_)
 ·ext
  exists L6 (by simp) fun p G hp e s=>?_
  refine O7 (B1.same s) (by decide) (by decide) fun n2 H2 b0 b1 B2 k2=>?_
  have hp2:=k2.1 p _ e (B1.nb hp).1
  obtain⟨v,hv,hv2⟩:=a7P (xs:=(["k0","set","ask","k1","a","copy"]:List Str).map V.str) b0 (by simpa using b1)
  refine J1 hp2 hv ?_
  obtain⟨t,ht,rfl⟩:=A2.mp (mI hv2)
  exact k _ _ (c5H t ht) B2 (k1.trans ((E8.of_same s).trans k2))
 ext
 nofun
 exists O7 B1 (by decide) (by decide) fun n2 H2 b0 b1 B2 k2=>?_
 have k02:=k1.trans k2
 exists ⟨.inl ⟨by omega,by omega⟩,?_⟩
 exists ⟨(show(0:Int)<2 by decide),?_⟩
 obtain⟨m,hm⟩:∃m:Nat,n2 * 2+(n:Int) % 2=(m:Int):=⟨(n2 * 2+(n:Int) % 2).toNat,by omega⟩
 have hm7:m<=7:=by omega
 rw[hm]
 nofun
 refine O7 B2 (by decide) (by decide) fun n3 H3 c0 c1 B3 k3=>?_
 have k03:=k02.trans k3
 have l36:(("abcdefghijklmnopqrstuvwxyz0123456789" : Str).cps.toList).length=36:=by decide +kernel
 obtain⟨ch,hc,hc2⟩:=a7P (xs:=("abcdefghijklmnopqrstuvwxyz0123456789" : Str).cps.toList) c0 (by omega)
 exists c4X (small (by decide +kernel)) hc ?_
 specialize U3 (a1n ?_)
 refine⟨(m:Int),rfl,by omega,by omega,fun D hD=>?_⟩
 rw[A5]
 obtain⟨nb,nc⟩:=B3.nb hD
 refine a6W (fun i ys H4=>∃cs:List Nat,ys=cs.map (fun k=>V.str (⟨#[k]⟩:Str))/\cs.length=i/\(∀c∈cs,c∈SGN.cps.toList)/\H4 D=some (.lst ys)/\Bag H4 b c/\E8 b H3 H4) ?_ ?_ ?_ ?_
 ·exact⟨[],rfl,rfl,by simp,c8,B3.new hD,E8.new hD⟩
 ·rintro i ys H4 ⟨_,_,_,_,h,_⟩
  exact h
 ·rintro i ys H4 hi ⟨cs,rfl,rfl,h1,hd,B4,k4⟩ R hR
  ext
  refine O7 B4 (by decide) (by decide) fun j H5 j0 j1 B5 k5=>?_
  obtain⟨cj,hcj,hcj2⟩:=a7P (xs:=("abcdefghijklmnopqrstuvwxyz0123456789" : Str).cps.toList) j0 (by omega)
  refine c4X (small (by decide +kernel)) hcj ?_
  refine hR _ _ (k5.1 _ _ hd nb) (F4 (by rw[b5];omega)) ⟨cs++[cj],by simp,by simp,?_,c8,B5.put nb nc,(k4.trans k5).put hD⟩
  intro s hs
  rcases u0.mp hs with q | q
  ·exact h1 s q
  ·rw[o0.mp q]
   exact d3l _ (mI hcj2)
 ·rintro ys H4 ⟨cs,rfl,hn,h1,hd,B4,k4⟩
  ext
  have he:cs.map (fun k=>V.str (⟨#[k]⟩:Str))=(cs.map fun k=>(⟨#[k]⟩:Str)).map V.str:=by rw[U1];rfl
  rw[he]at hd
  have hsum:((cs.map fun k=>(⟨#[k]⟩:Str)).map (·.length)).sum=cs.length:=by
   clear hn hd he h1
   induction cs with
   | nil=>rfl
   | cons s r ih=>
    rw[B8,B8,b2x,ih,C0]
    show 1+_=_
    omega
  refine c9S hd (c0g _) ?_ ?_
  ·rw[hsum,b5]
   show cs.length+cs.length * 0<=_
   omega
  ·have hj:Txt.join (Str.ofString "") (cs.map fun k=>(⟨#[k]⟩:Str))=⟨cs.toArray⟩:=c1h cs
   rw[hj]
   have hN:=d2L (d3w n3.toNat (by omega) ch hc2) h1 (by omega)
   refine c4Z (small ?_) ?_
   ·have:=hN.2
    rw[Str.length_append]at this
    omega
   ·exact k _ _ hN B4 (k03.trans k4)
def SS(ss:List Str):List (Key×V):=ss.map fun s=>(Sum.inr s,V.bl true)
def b5D(ss:List Str)(s:Str):List Str:=if(ss.any fun t=>decide (t=s))=true then ss else ss++[s]
theorem d1v(ss:List Str)(s:Str):a2l (SS ss) (Sum.inr s) (V.bl true)=SS (b5D ss s):=by
 have e:((SS ss).any fun kv=>decide (kv.1=Sum.inr s))=ss.any fun t=>decide (t=s):=by
  unfold SS
  rw[a9b]
  congr 1
  funext t
  show decide ((Sum.inr t:Key)=Sum.inr s)=decide (t=s)
  by_cases h:t=s
  ·subst h;simp
  ·rw[d5q h,d5q fun z=>h (Sum.inr.inj z)]
 unfold a2l b5D
 rw[e]
 split
 ·unfold SS
  rw[U1]
  apply a3h
  intro t _
  show(if(Sum.inr t:Key)=Sum.inr s then ((Sum.inr t:Key),V.bl true)else (Sum.inr t,V.bl true))=_
  split <;> rfl
 ·unfold SS
  rw[C5];rfl
theorem c5I{ss:List Str}{s t:Str}(h:t∈b5D ss s):t∈ss\/t=s:=by
 unfold b5D at h
 split at h
 ·exact .inl h
 ·exact(u0.mp h).imp id o0.mp
theorem c5L(ss:List Str)(s:Str):ss.length<=(b5D ss s).length/\(b5D ss s).length<=ss.length+1:=by
 unfold b5D
 split
 ·omega
 ·simp
theorem c8b(ss:List Str)(s:Str):b5D ss s≠[]:=by
 unfold b5D
 split
 ·rename_i h
  intro z
  rw[z]at h
  cases h
 ·simp
theorem c5F{K:Fg}{c:Addr}{E:XK}(hB:Bag H b c)(k:∀a H',a6E H' a->Bag H' b c->E8 b H H'->H a=none->Q (.ref a) H'):b0E K [.ref b] H Q E:=by
 refine⟨rfl,?_⟩
 unfold c1O
 nofun
 refine b7e fun d H1 hd e1 s1=>?_
 obtain⟨nb,nc⟩:=hB.nb hd
 ext
 exact_mod_cast K6 ?_
 specialize a0p (a1n ?_)
 exists O7 (hB.same s1) (by decide) (by decide) fun n2 H2 b0 b1 B2 k2=>?_
 refine⟨3+n2,rfl,by omega,by omega,?_⟩
 refine a0l (fun i σ H3=>∃y2 ss,σ=[some (.ref b),some (.ref d),y2]/\H3 d=some (.dK (SS ss))/\ss.length<=i/\(0<i->ss≠[])/\(∀s∈ss,NmS s)/\Bag H3 b c/\E8 b H H3) ⟨_,[],rfl,k2.1 _ _ e1 nb,by simp,by simp,(fun s hs=>by cases hs),B2,(E8.of_same s1).trans k2⟩ ?_ ?_
 ·rintro i _ H3 hi ⟨y2,ss,rfl,e3,l3,n3,m3,B3,k3⟩
  rw[U4]
  ext
  specialize a7r ?_
  refine c8e B3 fun s H4 hs B4 k4=>?_
  have e4:=k4.1 _ _ e3 nb
  refine⟨d,_,rfl,b5S.k (k:=Sum.inr s) e4 (F4 (by unfold SS;rw[b5];omega)),?_⟩
  have l4:=c5L ss s
  exact⟨_,b5D ss s,rfl,by rw[c8,d1v],by omega,fun _=>c8b ss s,fun t ht=>(c5I ht).elim (m3 t) fun z=>z ▸ hs,B4.put nb nc,(k3.trans k4).put hd⟩
 ·rintro _ H3 ⟨y2,ss,rfl,e3,l3,n3,m3,B3,k3⟩
  ext
  unfold a4j
  simp only[e3]
  intro l hl
  have el:(SS ss).map (fun kv=>kV kv.1)=ss.map V.str:=by unfold SS;rw[U1];rfl
  rw[el]
  have s4:i9 H3 (upd H3 l (.lst (ss.map V.str))):=z6 hl
  exact k l _ ⟨ss,c8,n3 (by omega),by omega,m3⟩ (B3.same s4) (k3.trans (E8.of_same s4)) (k3.none hl)
theorem a5I{K:Fg}{c:Addr}{E:XK}(hB:Bag H b c)(hN:a6E H a)(k:∀v H',OpN v->Bag H' b c->E8 b H H'->Q v H'):a1S K [.ref b,.ref a] H Q E:=by
 refine⟨rfl,?_⟩
 unfold b6a
 nofun
 exists O7 hB (by decide) (by decide) fun n1 H1 a0 a1 B1 k1=>?_
 refine a3j (fun _=>?_) (fun _=>?_)
 ·ext
  obtain⟨N1,ne⟩:=hN.kept hB k1
  obtain⟨ss,h1,h2,h3,h4⟩:=N1.ex
  exists L7 h1 ?_
  have hl:0<ss.length:=b1p.mpr h2
  refine O7 B1 (by rw[b5];omega) (by rw[b5];omega) fun n2 H2 b0 b1 B2 k2=>?_
  obtain⟨v,hv,hv2⟩:=a7P (xs:=ss.map V.str) b0 b1
  obtain⟨s,hs,rfl⟩:=A2.mp (mI hv2)
  exact J1 (k2.1 _ _ h1 ne) hv (k _ _ (.inl ⟨s,rfl,h4 s hs⟩) B2 (k1.trans k2))
 ext
 nofun
 exists O7 B1 (by decide) (by decide) fun n2 H2 b0 b1 B2 k2=>?_
 have k02:=k1.trans k2
 nofun
 refine a3j (fun _=>?_) (fun _=>?_)
 ·ext
  exact k _ _ (.inr ⟨n2,rfl,by omega,by omega⟩) B2 k02
 ext
 nofun
 refine a3j (fun _=>?_) (fun _=>?_)
 ·ext
  exact k _ _ (.inr ⟨_,rfl,by decide,by decide⟩) B2 k02
 ext
 refine O7 B2 (by decide) (by decide) fun n3 H3 c0 c1 B3 k3=>?_
 exact k _ _ (.inr ⟨n3,rfl,by omega,by omega⟩) B3 (k02.trans k3)
theorem c8x{K:Fg}{c:Addr}{E:XK}(hB:Bag H b c)(hN:a6E H a)(k:∀p H',a7b H' p->H p=none->Bag H' b c->E8 b H H'->Q (.ref p) H'):b3u K [.ref b,.ref a] H Q E:=by
 refine⟨rfl,?_⟩
 unfold c4G
 nofun
 exists L6 (by decide) fun p G hp e s=>?_
 refine O7 (hB.same s) (by decide) (by decide) fun n1 H1 a0 a1 B1 k1=>?_
 have hp1:=k1.1 p _ e (hB.nb hp).1
 have k01:E8 b H H1:=(E8.of_same s).trans k1
 obtain⟨v,hv,hv2⟩:=a7P (xs:=([.str "plus",.str "minus",.str "times",.str "less",.str "same"]:List V)) a0 (by simpa using a1)
 refine J1 hp1 hv ?_
 have:∃kd:Str,v=.str kd/\kd∈(["plus","minus","times","less","same"]:List Str):=by
  have m:=mI hv2
  simp only[o4,O2,or_false]at m
  rcases m with rfl | rfl | rfl | rfl | rfl <;> exact⟨_,rfl,by simp⟩
 obtain⟨kd,rfl,hkd⟩:=this
 ext
 obtain⟨N1,_⟩:=hN.kept hB k01
 exists a5I B1 N1 fun v1 H2 o1 B2 k2=>?_
 obtain⟨N2,_⟩:=N1.kept B1 k2
 exists a5I B2 N2 fun v2 H3 o2 B3 k3=>?_
 refine L6 (by simp) fun q G hq e s=>?_
 exact k q _ ⟨kd,v1,v2,e,o1,o2,hkd⟩ (k01.none (k2.none (k3.none hq))) (B3.same s) (((k01.trans k2).trans k3).trans (E8.of_same s))
theorem c9O{K:Fg}{c:Addr}{E:XK}(hB:Bag H b c)(hN:a6E H a)(hP:b1k H p)(k:∀v H',b5d H' v false->Bag H' b c->E8 b H H'->Q v H'):b6P K [.ref b,.ref a,.ref p] H Q E:=by
 refine⟨rfl,?_⟩
 unfold c8U
 nofun
 exists O7 hB (by decide) (by decide) fun w H1 w0 w1 B1 k1=>?_
 nofun
 obtain⟨N1,na⟩:=hN.kept hB k1
 have P1:=hP.kept hB k1
 obtain⟨ss,s1,s2,s3,s4⟩:=N1.ex
 exists L7 s1 ?_
 refine c1U B1 s1 na (by simpa using s2) (by rw[b5];omega) fun n v H2 e1 e2 a2 B2 k2=>?_
 refine J1 a2 e1 ?_
 obtain⟨s,hs,rfl⟩:=A2.mp e2
 have ns:=s4 s hs
 ext
 obtain⟨N2,_⟩:=N1.kept B1 k2
 have P2:=P1.kept B1 k2
 have k02:=k1.trans k2
 nofun
 refine a3j (fun _=>?_) (fun _=>?_)
 ·obtain⟨ps,p1,p2,p3,p4⟩:=P2.ex
  ext
  exists L7 p1 ?_
  refine c1U B2 p1 (a2k B2 p1) (by simpa using p2) (by rw[b5];omega) fun n v H3 f1 f2 a3 B3 k3=>?_
  refine J1 a3 f1 ?_
  obtain⟨d,hd,rfl⟩:=A2.mp f2
  have hd3:=(p4 d hd).ts (E8.ts k3 B2)
  ext
  refine L6 (by simp) fun q G hq e s=>?_
  exact k _ _ ⟨q,_,rfl,e,.set _ d ns (hd3.ts (i9.ts s)),_,_,rfl,by decide⟩ (B3.same s) ((k02.trans k3).trans (E8.of_same s))
 ext
 nofun
 refine a3j (fun _=>?_) (fun _=>?_)
 ·ext
  exists a5I B2 N2 fun v H3 o1 B3 k3=>?_
  refine L6 (by simp) fun q G hq e s=>?_
  exact k _ _ ⟨q,_,rfl,e,.copy _ v ns o1,_,_,rfl,by decide⟩ (B3.same s) ((k02.trans k3).trans (E8.of_same s))
 ext
 nofun
 refine a3j (fun _=>?_) (fun _=>?_)
 ·ext
  refine L6 (by simp) fun q G hq e s=>?_
  exact k _ _ ⟨q,_,rfl,e,.take _ ns,_,_,rfl,by decide⟩ (B2.same s) (k02.trans (E8.of_same s))
 ext
 exists a5I B2 N2 fun v H3 o1 B3 k3=>?_
 exists L6 (by simp) fun q1 G1 hq1 e1 s1=>?_
 exists L6 (by simp) fun q2 G2 hq2 e2 s2=>?_
 exists L6 (by simp) fun q3 G3 hq3 e3 s3=>?_
 have B1':=B3.same s1
 have B2':=B1'.same s2
 refine O7 (B2'.same s3) (by decide) (by decide) fun j H4 j0 j1 B4 k4=>?_
 obtain⟨x,hx,hx2⟩:=a7P (xs:=[V.ref q1,V.ref q2]) j0 (by simpa using j1)
 refine J1 (k4.1 _ _ e3 (B2'.nb hq3).1) hx ?_
 have kk:E8 b H H4:=((k02.trans k3).trans (E8.of_same ((s1.trans s2).trans s3))).trans k4
 have f1:H4 q1=_:=k4.1 _ _ (s3 _ _ (s2 _ _ e1)) (B3.nb hq1).1
 have f2:H4 q2=_:=k4.1 _ _ (s3 _ _ e2) (B1'.nb hq2).1
 have m:=mI hx2
 simp only[o4,O2,or_false]at m
 rcases m with rfl | rfl
 ·exact k _ _ ⟨q1,_,rfl,f1,.tell v o1,_,_,rfl,by decide⟩ B4 kk
 ·exact k _ _ ⟨q2,_,rfl,f2,.skip,_,_,rfl,by decide⟩ B4 kk
theorem d2T(ss:List Str):a8J (ss.map V.str) none (some 2)=(ss.take 2).map V.str:=by
 unfold a8J
 have e1:HT.sIx (ss.map V.str).length 0 none=0:=rfl
 have e2:HT.sIx (ss.map V.str).length (ss.map V.str).length (some 2)=min 2 ss.length:=by
  rw[b5]
  show(if(2:Int)<0 then ((2:Int)+(ss.length:Int)).toNat else min (2:Int).toNat ss.length)=min 2 ss.length
  rw[if_neg (by decide)];rfl
 rw[e1,e2,d1K,Nat.sub_zero]
 by_cases h:2<=ss.length
 ·rw[Nat.min_eq_left h,List.map_take]
 ·rw[Nat.min_eq_right (by omega),W8 (by rw[b5];omega),W8 (by omega)]
theorem a6E.two{H:Hp}{a q:Addr}{ss:List Str}(h1:H' q=some (.lst ((ss.take 2).map V.str)))(h2:ss≠[])(h3:ss.length<=8)(h4:∀s∈ss,NmS s):a6E H' q:=by
 have:=b1p.mpr h2
 exact⟨ss.take 2,h1,by
  intro z
  have:=congrArg b5T z
  rw[C9,a3S]at this
  omega,by rw[C9];omega,fun s hs=>h4 s (c3Z hs)⟩
theorem c7u{K:Fg}{c:Addr}{E:XK}(hB:Bag H b c)
  (k:∀p ra na da N H',H' p=some (.tup [.ref ra,.ref na,.ref da])->a0O H' ra N->J5 H' na N->b1k H' da->Q9 N->N.length<=24->ra≠da->na≠da->Bag H' b c->E8 b H H'->Q (.ref p) H'):b3q K [.ref b] H Q E:=by
 refine⟨rfl,?_⟩
 unfold c4A
 nofun
 exists O7 hB (by decide) (by decide) fun n0 H0 a0 a1 B0 k0=>?_
 obtain⟨lg,hlg⟩:∃lg:Bool,lg=decide (V.int n0=V.int 0):=⟨_,rfl⟩
 rw[<-hlg]
 nofun
 refine O7 B0 (by decide) (by decide) fun n1 H1 b0 b1 B1 k1=>?_
 obtain⟨n1,rfl⟩:=a4a b0
 ext
 have k01:=k0.trans k1
 exact_mod_cast a5a (P:=fun σ H2=>∃m:Nat,σ=[some (.ref b),some (.bl lg),some (.int (m:Int)),none,none,none,none,none,none]/\0<m/\m<=24/\Bag H2 b c/\E8 b H H2) ?_ ?_
 rotate_left
 ·intro nx hnx
  ext
  refine a3j (fun _=>?_) (fun _=>?_)
  ·ext
   refine O7 B1 (by decide) (by decide) fun n2 H2 c0 c1 B2 k2=>?_
   obtain⟨n2,rfl⟩:=a4a c0
   ext
   exact hnx _ _ ⟨15+n2,rfl,by omega,by omega,B2,k01.trans k2⟩
  ·ext
   exact hnx _ _ ⟨1+n1,rfl,by omega,by omega,B1,k01⟩
 rintro _ H2 ⟨m,rfl,m0,m1,B2,k2⟩
 nofun
 exists d0S B2 m0 m1 fun a N0 H3 n3 l3 s3 z3 B3 k3=>?_
 exists c3g n3 (by omega) (by omega) (by rw[l3];exact s3) (by rw[l3];exact z3) fun na N H4 n4 v4 lN s4=>?_
 have B4:=B3.same s4
 have k4:E8 b H H4:=(k2.trans k3).trans (E8.of_same s4)
 nofun
 exists c5F B4 fun sa H5 N5 B5 k5 hsa=>?_
 have k05:=k4.trans k5
 have n5:=n4.kept B4 v4.two k5
 obtain⟨ss,t1,t2,t3,t4⟩:=id N5.ex
 nofun
 exists L6 (by simp) fun D H6 hD e6 s6=>?_
 obtain⟨nb,nc⟩:=B5.nb hD
 have nsD:sa≠D:=c9 t1 hD
 obtain⟨as5,q5,_,_⟩:=id n5.ex
 have nnaD:na≠D:=c9 q5 hD
 have hD0:H D=none:=k05.none hD
 exact_mod_cast K6 ?_
 specialize a0p (a1n ?_)
 exists O7 (B5.same s6) (by decide) (by decide) fun n6 H6' d0 d1 B6' k6'=>?_
 refine⟨1+n6,rfl,by omega,by omega,?_⟩
 refine a0l (fun i σ H7=>∃y6 ps,σ=[some (.ref b),some (.bl lg),some (.int (m:Int)),some (.ref na),some (.ref sa),some (.ref D),y6,none,none]/\(ps:List Addr).length=i/\(∀p∈ps,a7b H7 p)/\H7 D=some (.lst (ps.map V.ref))/\Bag H7 b c/\E8 b H5 H7) ⟨_,[],rfl,rfl,(fun p hp=>by cases hp),k6'.1 _ _ e6 nb,B6',(E8.of_same s6).trans k6'⟩ ?_ ?_
 ·rintro i _ H7 hi ⟨y6,ps,rfl,lp,hp,hD7,B7,k7⟩
  rw[U4]
  ext
  specialize a8c ?_
  exists ⟨Z6 hD7,?_⟩
  have t7:H7 sa=some (.lst (ss.map V.str)):=k7.1 _ _ t1 (N5.kept B5 (E8.refl _ _)).2
  refine c9d t7 fun q H8 hq e8 s8=>?_
  rw[d2T]at e8
  ext
  exists c8x (B7.same s8) (a6E.two (H:=H8) (a:=sa) e8 t2 t3 t4) fun p H9 hd9 _ B9 k9=>?_
  have hD9:=k9.1 _ _ (s8 _ _ hD7) nb
  refine a0E hD9 (F4 (by rw[b5];omega)) ?_
  refine⟨_,ps++[p],rfl,by simp[lp],fun q' hq'=>?_,by rw[c8];simp,B9.put nb nc,((k7.trans (E8.of_same s8)).trans k9).put hD⟩
  rcases u0.mp hq' with z | z
  ·exact(((hp q' z).ts (i9.ts s8)).ts (E8.ts k9 (B7.same s8))).ts (G5.put hD9)
  ·rw[o0.mp z];exact hd9.ts (G5.put hD9)
 rintro _ H9 ⟨y6,ps,rfl,lp,hp,hD9,B9,k9⟩
 have P9:b1k H9 D:=⟨ps,hD9,by intro z;subst z;simp at lp;omega,by omega,hp⟩
 have n9:=n5.kept B5 v4.two k9
 obtain⟨N9,nsb⟩:=N5.kept B5 k9
 have k09:E8 b H H9:=k05.trans k9
 nofun
 exists L6 (by simp) fun R' H10 hR' e10 s10=>?_
 have B10:=B9.same s10
 obtain⟨rb,rc⟩:=B9.nb hR'
 have nRD:R'≠D:=(c9 hD9 hR').symm
 exact_mod_cast K6 ?_
 specialize a0p (P8 ?_)
 obtain⟨as,q1,q2,q3⟩:=id n9.ex
 refine⟨na,rfl,⟨_,SqL.of (s10 _ _ q1)⟩,a2G (xs:=as.map V.ref) (fun i σ H11=>∃y8 rs,σ=[some (.ref b),some (.bl lg),some (.int (m:Int)),some (.ref na),some (.ref sa),some (.ref D),y6,some (.ref R'),y8]/\(rs:List Addr).length=i/\(∀(j:Nat) x l,rs[j]? = some x->N[j]? = some l->b5d H11 (.ref x) (l.length == 2))/\H11 R'=some (.lst (rs.map V.ref))/\Bag H11 b c/\E8 b H9 H11) ?_ ?_ ?_ ?_⟩
 ·exact⟨_,[],rfl,rfl,by simp,e10,B10,E8.of_same s10⟩
 ·rintro i σ H11 _ ⟨_,_,_,_,_,_,_,k11⟩
  exact SqL.of (k11.1 _ _ q1 (a2k B9 q1))
 ·rintro i x _ H11 hx ⟨y8,rs,rfl,lr,hr,hR11,B11,k11⟩
  rw[a9]at hx
  obtain⟨xa,hxa,rfl⟩:=o5.mp hx
  have hi:i<N.length:=by rw[<-q2];exact(gI hxa)
  have hx9:=q3 i xa _ hxa (L8 hi)
  have hx11:=k11.1 _ _ hx9 (b4c B9 hx9 (by rw[D2];have:=v4.two _ (I0 hi);omega))
  have P11:=P9.kept B9 k11
  obtain⟨N11,_⟩:=N9.kept B9 k11
  ext
  exists L7 hx11 ?_
  rw[D2]
  by_cases h2:N[i].length=2
  ·exists C6 (d5r (by rw[h2];rfl)) ?_
   specialize a8c ?_
   exists ⟨Z6 hR11,?_⟩
   exists a5I B11 N11 fun v H12 o12 B12 k12=>?_
   exists L6 (by simp) fun q H13 hq e13 s13=>?_
   have hR13:=s13 _ _ (k12.1 _ _ hR11 rb)
   have r13:b5d H13 (.ref q) (N[i].length == 2):=⟨q,_,rfl,e13,.ask v o12,_,_,rfl,by rw[h2];decide⟩
   refine a0E hR13 (F4 (by rw[b5];omega)) ?_
   refine⟨_,rs++[q],rfl,by simp[lr],fun j y l g1 g2=>?_,by rw[c8];simp,(B12.same s13).put rb rc,((k11.trans k12).trans (E8.of_same s13)).put hR'⟩
   rcases Z8 g1 with ⟨_,f1⟩ | ⟨hj,f1⟩
   ·exact(((hr j y l f1 g2).ts (E8.ts k12 B11)).ts (i9.ts s13)).ts (G5.put hR13)
   ·rw[hj,lr,L8 hi]at g2
    cases g2
    subst f1
    exact r13.ts (G5.put hR13)
  ·exists v5 (d5q (by intro z;have:=V.int.inj z;omega)) ?_
   specialize a8c ?_
   exists ⟨Z6 hR11,?_⟩
   refine c9O B11 N11 P11 fun v H12 r12 B12 k12=>?_
   obtain⟨pv,xv,rfl,_⟩:=id r12
   ext
   have hR12:=k12.1 _ _ hR11 rb
   have hm2:(N[i].length == 2)=false:=by simpa using h2
   refine a0E hR12 (F4 (by rw[b5];omega)) ?_
   refine⟨_,rs++[pv],rfl,by simp[lr],fun j y l g1 g2=>?_,by rw[c8];simp,B12.put rb rc,(k11.trans k12).put hR'⟩
   rcases Z8 g1 with ⟨_,f1⟩ | ⟨hj,f1⟩
   ·exact((hr j y l f1 g2).ts (E8.ts k12 B11)).ts (G5.put hR12)
   ·rw[hj,lr,L8 hi]at g2
    cases g2
    subst f1
    rw[hm2]
    exact r12.ts (G5.put hR12)
 ·rintro _ H11 ⟨y8,rs,rfl,lr,hr,hR11,B11,k11⟩
  rw[b5]at lr
  ext
  refine L6 (by simp) fun p H12 hp12 e12 s12=>?_
  exact k p R' na D N H12 e12 ((⟨rs,hR11,by rw[lr,q2],hr⟩:a0O H11 R' N).same s12) ((n9.kept B9 v4.two k11).same s12) ((P9.kept B9 k11).same s12) v4 lN nRD nnaD (B11.same s12) ((k09.trans k11).trans (E8.of_same s12))
theorem big(h:n<=1000000):n<=u6:=D9 h (by rw[a7d];decide)
theorem b3h{K:Fg}{E:XK}(ha:H a=some (.lst xs))(h1:1<=xs.length)(h2:xs.length<=400)(k:Q .non H):a0B K [.ref a,.int 0,.int 1] H Q E:=by
 refine⟨rfl,?_⟩
 unfold a5u
 nofun
 exists a6l (s := "list") (by simp only[a4P,ha]) (by decide) ?_
 exists v5 (by decide) ?_
 exists L7 ha ?_
 exists v5 (d5q (by omega)) ?_
 exists L7 ha ?_
 exists v5 (d5q (by omega)) ?_
 exact k
theorem a6D{K:Fg}{E:XK}(ha:H a=some (.lst (D7 n (V.bl true))))(k:∀H',i9 H H'->Q .non H'):a1B K [.ref a] H Q E:=by
 refine⟨rfl,?_⟩
 unfold b0z
 specialize a0p (a6i ?_)
 refine⟨a,rfl,⟨_,SqL.of ha⟩,?_⟩
 refine b2N n (fun i σ H2=>∃x1 x2,σ=[some (.ref a),x1,x2]/\i9 H H2) ⟨_,_,rfl,i9.refl _⟩ ?_ ?_ ?_
 ·rintro _ H2 ⟨x1,x2,rfl,s2⟩
  exact⟨⟨_,SqL.of (s2 _ _ ha),by simp⟩,k H2 s2⟩
 ·rintro i _ H2 hi ⟨x1,x2,rfl,s2⟩
  exact⟨_,V.bl true,SqL.of (s2 _ _ ha),by rw[U7,if_pos hi]⟩
 ·rintro i _ H2 hi ⟨x1,x2,rfl,s2⟩ x H3 ⟨p,y,hp,rfl,rfl,hy⟩
  have hy:=hy _ (SqL.of (s2 _ _ ha))
  rw[U7,if_pos hi]at hy
  cases hy
  exists a6j (SqT.of c8) ?_
  exists v5 rfl ?_
  exact⟨_,_,rfl,s2.trans (z6 hp)⟩
theorem b0v(n:Nat):D7 n (V.bl true)++[V.bl true]=D7 (n+1) (V.bl true):=by
 rw[b0i]
theorem d0W(h:n=0\/n=1):inV (.int (n:Int)) [.int 0,.int 1]=true:=by
 rcases h with rfl | rfl <;> decide
theorem b7R{K:Fg}{x:Addr}{E:XK}(hv:b5d H v (l.length == 2))(hx:H x=some (.lst (IL l)))(h2:l.length<=2)(hlt:∀t∈l,t<m)(k:∀H',i9 H H'->Q (.bl true) H') :
  a5e K [v,.ref x,.int (m:Int)] H Q E:=by
 obtain⟨p,xs,rfl,hp,_,kd,r,rfl,hk⟩:=hv
 refine⟨rfl,?_⟩
 unfold b2F
 nofun
 exists a6l (s := "list") (by simp only[a4P,hx]) (by decide) ?_
 exists v5 (by decide) ?_
 exact_mod_cast a5a (P:=fun σ H1=>∃w ws,σ=[some (.ref p),some (.ref x),some (.int (m:Int)),some (.ref w)]/\H1 w=some (.tup ws)/\ws.all R6=true/\inV (.int (l.length:Int)) ws=true/\i9 H H1) ?_ ?_
 rotate_left
 ·intro nx hnx
  ext
  exists a0g hp (a3k _ _) ?_
  by_cases e:kd = "ask"
  ·exists C6 (d5r (by rw[e])) ?_
   refine L6 (by simp) fun w H1 hw e1 s1=>?_
   rw[d5r e]at hk
   have:l.length=2:=by simpa using hk.symm
   exact hnx _ _ ⟨w,_,rfl,e1,rfl,by rw[this];decide,s1⟩
  ·exists v5 (d5q (fun z=>e (V.str.inj z))) ?_
   refine L6 (by simp) fun w H1 hw e1 s1=>?_
   rw[d5q e]at hk
   have:¬l.length=2:=by
    intro z
    rw[z]at hk
    exact absurd hk (by decide)
   exact hnx _ _ ⟨w,_,rfl,e1,rfl,d0W (by omega),s1⟩
 rintro _ H1 ⟨w,ws,rfl,hw,fw,iw,s1⟩
 ext
 exists L7 (s1 _ _ hx) ?_
 rw[D2]
 refine b6h hw rfl fw ?_
 exists ⟨_,rfl,C6 iw ?_⟩
 specialize U3 (P8 ?_)
 refine⟨x,rfl,⟨_,SqL.of (s1 _ _ hx)⟩,fun D hD=>?_⟩
 refine U0 (xs:=IL l) (fun i ys H2=>ys=D7 i (V.bl true)/\H2 D=some (.lst ys)/\i9 H1 H2) ⟨rfl,c8,z6 hD⟩ ?_ ?_ ?_ ?_
 ·rintro i ys H2 ⟨_,h,_⟩
  exact h
 ·rintro i ys H2 _ ⟨_,_,s2⟩
  exact SqL.of (s2 _ _ (s1 _ _ hx))
 ·rintro i y ys H2 hy ⟨rfl,hD2,s2⟩ R hR
  have hy:(l.map fun(n:Nat)=>V.int (n:Int))[i]? = some y:=hy
  rw[a9]at hy
  cases ht:l[i]? with
  | none=>rw[ht]at hy;cases hy
  | some t=>
   rw[ht]at hy
   cases hy
   have hi:=(gI ht)
   have:=hlt t (mI ht)
   ext
   refine b0Y (by omega) (by omega) ?_
   refine hR _ _ hD2 (F4 (by rw[J7];omega)) ⟨b0v i,c8,fun b o e=>?_⟩
   rw[g9 (c9 e hD)];exact s2 _ _ e
 ·rintro ys H2 ⟨rfl,hD2,s2⟩
  ext
  have e:D7 (IL l).length (V.bl true)=(D7 l.length true).map V.bl:=by rw[D2];simp
  rw[e]at hD2
  refine c9g hD2 ?_
  have:(D7 l.length true).all id=true:=by simp
  rw[this]
  exact k H2 (s1.trans s2)
theorem b4W{K:Fg}{ra:Addr}{E:XK}(hr:a0O H ra N)(hn:J5 H na N)(h400:N.length<=400)(h2:∀l∈N,l.length<=2)(hlt:∀l∈N,∀t∈l,t<N.length)(k:∀H',i9 H H'->Q .non H') :
  a3z K [.ref ra,.ref na] H Q E:=by
 obtain⟨rs,r1,r2,r3⟩:=id hr.ex
 obtain⟨as,a1,a2,a3⟩:=id hn.ex
 refine⟨rfl,?_⟩
 unfold a9v
 nofun
 exists a6l (s := "list") (by simp only[a4P,a1]) (by decide) ?_
 exists v5 (by decide) ?_
 exists L7 a1 ?_
 exists L7 r1 ?_
 exists v5 (by rw[b5,b5,r2,a2];simp) ?_
 specialize b7f (c0w ?_)
 refine⟨ra,na,rfl,⟨_,SqL.of r1⟩,⟨_,SqL.of a1⟩,fun D hD=>?_⟩
 refine c1r N.length (fun i ys H2=>ys=D7 i (V.bl true)/\H2 D=some (.lst ys)/\i9 H H2) ⟨rfl,c8,z6 hD⟩ ?_ ?_ ?_ ?_
 ·rintro i ys H2 ⟨_,h,_⟩
  exact h
 ·rintro ys H2 ⟨rfl,hD2,s2⟩
  exists ⟨⟨_,_,SqL.of (s2 _ _ r1),SqL.of (s2 _ _ a1),.inl (by rw[b5,r2];exact j5 _)⟩,?_⟩
  exact a6D hD2 fun H3 s3=>k H3 (s2.trans s3)
 ·rintro i ys H2 hi ⟨_,_,s2⟩
  have e1:rs[i]? = some (rs[i]'(by omega)):=by simp[r2,hi]
  have e2:as[i]? = some (as[i]'(by omega)):=by simp[a2,hi]
  exact⟨_,_,_,_,SqL.of (s2 _ _ r1),SqL.of (s2 _ _ a1),by rw[a9,e1];rfl,by rw[a9,e2];rfl⟩
 ·rintro i ys H2 hi ⟨rfl,hD2,s2⟩ x H3 ⟨p,y1,y2,hp,rfl,rfl,g1,g2⟩
  obtain⟨rx,e1⟩:∃rx,rs[i]? = some rx:=⟨_,c5 (by omega)⟩
  obtain⟨ax,e2⟩:∃ax,as[i]? = some ax:=⟨_,c5 (by omega)⟩
  have g1:=g1 _ (SqL.of (s2 _ _ r1))
  have g2:=g2 _ (SqL.of (s2 _ _ a1))
  rw[a9,e1]at g1
  rw[a9,e2]at g2
  cases g1
  cases g2
  refine⟨p,_,_,rfl,SqT.of c8,fun R S hR hS=>?_⟩
  have s3:i9 H2 (upd H2 p (.tup [V.ref rx,V.ref ax])):=z6 hp
  obtain⟨H3,hH3⟩:∃H3,H3=upd H2 p (.tup [V.ref rx,V.ref ax]):=⟨_,rfl⟩
  rw[<-hH3]at s3 ⊢
  ext
  exists C6 rfl ?_
  have s03:=s2.trans s3
  exists L7 (s03 _ _ r1) ?_
  have hl:=L8 hi
  rw[b5,r2]
  refine b7R ((r3 i _ _ e1 hl).ts (i9.ts s03)) (s03 _ _ (a3 i _ _ e2 hl)) (h2 _ (I0 hi)) (hlt _ (I0 hi)) fun H4 s4=>?_
  refine hR _ _ (s4 _ _ (s3 _ _ hD2)) (F4 (by rw[J7];omega)) ⟨b0v i,c8,fun b o e=>?_⟩
  rw[g9 (c9 e hD)];exact s4 _ _ (s03 _ _ e)
def a8H(N:Nt)(k:Nat):Bool:=(N.getD k []).isEmpty
def b6N(N:Nt):List Nat:=(v9 N.length).filter (a8H N)
theorem c3h{k:Nat}(h:N[k]? = some []):k∈b6N N:=by
 refine D6.mpr ⟨L9.mpr (gI h),?_⟩
 unfold a8H
 simp[M0,h]
theorem b8z{K:Fg}{E:XK}(hn:J5 H na N)(h400:N.length<=400)(k:∀a H',H a=none->H' a=some (.lst (IL (b6N N)))->i9 H H'->Q (.ref a) H'):a6e K [.ref na] H Q E:=by
 obtain⟨as,a1,a2,a3⟩:=id hn.ex
 refine⟨rfl,?_⟩
 unfold b3Q
 ext
 specialize b7f (a6i ?_)
 refine⟨na,rfl,⟨_,SqL.of a1⟩,fun D hD=>?_⟩
 refine c1r N.length (fun i ys H2=>ys=IL ((v9 i).filter (a8H N))/\H2 D=some (.lst ys)/\i9 H H2) ⟨rfl,c8,z6 hD⟩ ?_ ?_ ?_ ?_
 ·rintro i ys H2 ⟨_,h,_⟩
  exact h
 ·rintro ys H2 ⟨rfl,hD2,s2⟩
  exact⟨⟨_,SqL.of (s2 _ _ a1),by rw[b5,a2];exact j5 _⟩,k D H2 hD hD2 s2⟩
 ·rintro i ys H2 hi ⟨_,_,s2⟩
  exact⟨_,_,SqL.of (s2 _ _ a1),by rw[a9,c5 (show i<as.length by omega)];rfl⟩
 ·rintro i ys H2 hi ⟨rfl,hD2,s2⟩ x H3 ⟨p,y,hp,rfl,rfl,g1⟩
  obtain⟨ax,e1⟩:∃ax,as[i]? = some ax:=⟨_,c5 (by omega)⟩
  have g1:=g1 _ (SqL.of (s2 _ _ a1))
  rw[a9,e1]at g1
  cases g1
  refine⟨p,_,_,rfl,SqT.of c8,fun R S hR hS=>?_⟩
  have s3:i9 H2 (upd H2 p (.tup [V.int (i:Int),V.ref ax])):=z6 hp
  obtain⟨H3,hH3⟩:∃H3,H3=upd H2 p (.tup [V.int (i:Int),V.ref ax]):=⟨_,rfl⟩
  rw[<-hH3]at s3 ⊢
  have s03:=s2.trans s3
  have hl:=L8 hi
  ext
  exists L7 (s03 _ _ (a3 i _ _ e1 hl)) ?_
  have hst:a8H N i=decide (V.int ((IL N[i]).length:Int)=V.int 0):=by
   rw[b9u,D2]
   unfold a8H
   simp only[M0,hl,a2y]
   cases N[i] with
   | nil=>rfl
   | cons a r=>
    rw[List.isEmpty_cons,eq_comm,decide_eq_false_iff_not,C0]
    omega
  rw[<-hst]
  cases hb:a8H N i with
  | true=>
   exists C6 rfl ?_
   refine hR _ _ (s3 _ _ hD2) (F4 ?_) ⟨?_,c8,fun b o e=>?_⟩
   ·rw[D2]
    have:=D0 (a8H N) (v9 i)
    rw[W9]at this
    omega
   ·rw[a0i,N7]
    unfold IL
    rw[C5]
    congr 1
    simp[hb]
   ·rw[g9 (c9 e hD)];exact s03 _ _ e
  | false=>
   refine v5 rfl ?_
   refine hS _ ⟨?_,s3 _ _ hD2,s03⟩
   rw[a0i,N7]
   simp[hb]
theorem c9k{α:Type}{l:List α}(nd:l.Nodup){x:α}(h1:l[i]? = some x)(h2:l[j]? = some x):i=j:=
 (List.getElem?_inj (gI h1) nd).mp (h1.trans h2.symm)
structure a8K(H0 H:Hp)(a:Addr)(as:List Addr)(M:Nt):Prop where
 same:i9 H0 H
 h:H a=some (.lst (as.map V.ref))
 len:as.length=M.length
 nd:as.Nodup
 na:a∉as
 at_:∀(i:Nat) x l,as[i]? = some x->M[i]? = some l->H x=some (.lst (IL l))
 new:H0 a=none/\∀x∈as,H0 x=none
theorem a8K.next(h:a8K H0 H a as M)(s:i9 H H'):a8K H0 H' a as M:=
 ⟨h.same.trans s,s _ _ h.h,h.len,h.nd,h.na,fun i x l e1 e2=>s _ _ (h.at_ i x l e1 e2),h.new⟩
theorem a8K.add(h:a8K H0 H a as M){p:Nat}{x:Addr}(e1:as[t]? = some x)(e2:M[t]? = some l) :
  a8K H0 (upd H x (.lst (IL (l++[p])))) a as (M.set t (l++[p])):=by
 have hx:=mI e1
 have hxa:x≠a:=fun z=>h.na (z ▸ hx)
 refine⟨fun b o e=>by rw[g9 (c9 e (h.new.2 x hx))];exact h.same b o e,by rw[g9 hxa.symm];exact h.h,by rw[a3R];exact h.len,h.nd,h.na,fun i y l' f1 f2=>?_,h.new⟩
 by_cases e:i=t
 ·subst e
  rw[e1]at f1
  cases f1
  rw[Q1 (gI e2)]at f2
  cases f2
  exact c8
 ·rw[U6 (Ne.symm e)]at f2
  have:y≠x:=by
   rintro rfl
   exact e (c9k h.nd f1 e1)
  rw[g9 this]
  exact h.at_ i y l' f1 f2
theorem a8K.net(h:a8K H0 H a as M):J5 H a M:=⟨as,h.h,h.len,h.at_⟩
theorem a8K.nil{H0 H:Hp}{a:Addr}(n:H0 a=none)(s:i9 H0 H)(e:H a=some (.lst [])):a8K H0 H a [] []:=⟨s,e,rfl,by simp,by simp,by simp,n,by simp⟩
theorem a8K.snoc(h:a8K H0 H a as M)(hp:H p=none)(ep:H' p=some (.lst (IL [])))(s:i9 H H') :
  a8K H0 (upd H' a (.lst ((as++[p]).map V.ref))) a (as++[p]) (M++[[]]):=by
 have npa:p≠a:=(c9 h.h hp).symm
 have npas:p∉as:=fun z=>by
  obtain⟨i,hi⟩:=z7.mp z
  have hl:i<M.length:=by rw[<-h.len];exact(gI hi)
  have:=h.at_ i p _ hi (L8 hl)
  rw[hp]at this
  cases this
 have fr0:H0 p=none:=h.same.free hp
 refine⟨fun b o e=>by rw[g9 (c9 e h.new.1)];exact s _ _ (h.same b o e),c8,by simp[h.len],?_,?_,fun i x l f1 f2=>?_,h.new.1,fun x hx=>?_⟩
 ·rw[a2r]
  exact⟨h.nd,by simp,fun x hx y hy=>by rw[o0.mp hy];intro z;exact npas (z ▸ hx)⟩
 ·intro z
  rcases u0.mp z with q | q
  ·exact h.na q
  ·exact npa (o0.mp q).symm
 ·rcases Z8 f1 with ⟨hi,g1⟩ | ⟨hi,g1⟩
  ·rcases Z8 f2 with ⟨hj,g2⟩ | ⟨hj,g2⟩
   ·have:x≠a:=fun z=>h.na (z ▸ mI g1)
    rw[g9 this]
    exact s _ _ (h.at_ i x l g1 g2)
   ·have:=h.len;omega
  ·rcases Z8 f2 with ⟨hj,g2⟩ | ⟨hj,g2⟩
   ·have:=h.len;omega
   ·subst g1 g2
    rw[g9 npa]
    exact ep
 ·rcases u0.mp hx with q | q
  ·exact h.new.2 x q
  ·rw[o0.mp q];exact fr0
theorem c6T{l':List Nat}(h:(M.set t l)[u]? = some l'):(u=t/\l'=l)\/(u≠t/\M[u]? = some l'):=by
 by_cases e:u=t
 ·subst e
  have hl:=(gI h)
  rw[a3R]at hl
  rw[Q1 hl]at h
  exact .inl ⟨rfl,(Option.some.inj h).symm⟩
 ·rw[U6 (Ne.symm e)]at h
  exact .inr ⟨e,h⟩
theorem c2A{K:Fg}{E:XK}(hn:J5 H na N)(h400:N.length<=400)(h2:∀l∈N,l.length<=2)(hlt:∀l∈N,∀t∈l,t<N.length)
  (k:∀a M H',J5 H' a M->M.length=N.length->(∀(p:Nat) (l:List Nat),N[p]? = some l->∀t∈l,∃l',M[t]? = some l'/\p∈l')->(∀l∈M,l.length<=2 * N.length/\∀p∈l,p<N.length)->i9 H H'->Q (.ref a) H'):a8Q K [.ref na] H Q E:=by
 obtain⟨ns,a1,a2,a3⟩:=id hn.ex
 refine⟨rfl,?_⟩
 unfold b8s
 exact_mod_cast K6 ?_
 specialize U3 (P8 ?_)
 refine⟨na,rfl,⟨_,SqL.of a1⟩,fun A hA=>?_⟩
 refine U0 (xs:=ns.map V.ref) (fun i ys H2=>∃as,ys=as.map V.ref/\a8K H H2 A as (D7 i [])) ?_ ?_ ?_ ?_ ?_
 ·exact⟨[],rfl,.nil hA (z6 hA) c8⟩
 ·rintro i ys H2 ⟨as,rfl,I⟩
  exact I.h
 ·rintro i ys H2 _ ⟨as,rfl,I⟩
  exact SqL.of (I.same _ _ a1)
 ·rintro i x ys H2 hx ⟨as,rfl,I⟩ R hR
  have hi:i<N.length:=by
   have:=(gI hx)
   rw[b5,a2]at this
   exact this
  ext
  refine L6 (by simp) fun p H3 hp e3 s3=>?_
  have:=I.len
  rw[J7]at this
  refine hR _ _ (s3 _ _ I.h) (F4 (by rw[b5];omega)) ⟨as++[p],by simp,?_⟩
  have q:=I.snoc hp e3 s3
  rw[show D7 i ([]:List Nat)++[[]]=D7 (i+1) [] from by rw[b0i]]at q
  rw[show as.map V.ref++[V.ref p]=(as++[p]).map V.ref by simp]
  exact q
 rintro ys H2 ⟨as,rfl,I2⟩
 rw[b5,a2]at I2
 ext
 exact_mod_cast K6 ?_
 specialize a0p (a6i ?_)
 refine⟨na,rfl,⟨_,SqL.of (I2.same _ _ a1)⟩,?_⟩
 refine b2N N.length (fun i σ H3=>∃x2 x3 x4 M,σ=[some (.ref na),some (.ref A),x2,x3,x4]/\a8K H H3 A as M/\M.length=N.length/\(∀(p:Nat) (l:List Nat),p<i->N[p]? = some l->∀t∈l,∃l',M[t]? = some l'/\p∈l')/\(∀l∈M,l.length<=2 * i/\∀p∈l,p<N.length)) ?_ ?_ ?_ ?_
 ·exact⟨_,_,_,_,rfl,I2,by simp,by omega,fun l hl=>by rw[List.eq_of_mem_replicate hl];simp⟩
 ·rintro _ H3 ⟨x2,x3,x4,M,rfl,I3,lM,g1,g2⟩
  exists ⟨⟨_,SqL.of (I3.same _ _ a1),by rw[b5,a2];exact j5 _⟩,?_⟩
  exact k A M H3 I3.net lM (fun p l hl=>g1 p l (gI hl) hl) g2 I3.same
 ·rintro i _ H3 hi ⟨x2,x3,x4,M,rfl,I3,lM,g1,g2⟩
  exact⟨_,_,SqL.of (I3.same _ _ a1),by rw[a9,c5 (show i<ns.length by omega)];rfl⟩
 ·rintro i _ H3 hi ⟨x2,x3,x4,M,rfl,I3,lM,g1,g2⟩ x H4 ⟨p,y,hp,rfl,rfl,gy⟩
  obtain⟨nx,e1⟩:∃nx,ns[i]? = some nx:=⟨_,c5 (by omega)⟩
  have gy:=gy _ (SqL.of (I3.same _ _ a1))
  rw[a9,e1]at gy
  cases gy
  refine a6j (SqT.of c8) ?_
  have s4:i9 H3 (upd H3 p (.tup [V.int (i:Int),V.ref nx])):=z6 hp
  obtain⟨H4,hH4⟩:∃H4,H4=upd H3 p (.tup [V.int (i:Int),V.ref nx]):=⟨_,rfl⟩
  rw[<-hH4]at s4 ⊢
  have I4:=I3.next s4
  have hl:=L8 hi
  obtain⟨l,hle⟩:∃l,l=N[i]:=⟨_,rfl⟩
  rw[<-hle]at hl
  have hx:H nx=some (.lst (IL l)):=a3 i nx l e1 hl
  have hll:=h2 l (mI hl)
  specialize a0p (P8 ?_)
  refine⟨nx,rfl,⟨_,SqL.of (I4.same _ _ hx)⟩,a2G (xs:=IL l) (fun j σ H5=>∃x4 M',σ=[some (.ref na),some (.ref A),some (.int (i:Int)),some (.ref nx),x4]/\a8K H H5 A as M'/\M'.length=N.length/\(∀(p:Nat) (l:List Nat),p<i->N[p]? = some l->∀t∈l,∃l',M'[t]? = some l'/\p∈l')/\(∀t∈l.take j,∃l',M'[t]? = some l'/\i∈l')/\(∀l∈M',l.length<=2 * i+j/\∀p∈l,p<N.length)) ?_ ?_ ?_ ?_⟩
  ·exact⟨_,M,rfl,I4,lM,g1,by simp,g2⟩
  ·rintro j σ H5 _ ⟨_,_,_,I5,_⟩
   exact SqL.of (I5.same _ _ hx)
  ·rintro j y _ H5 hy ⟨x4,M',rfl,I5,lM',c1,c2,c3⟩
   have hy:(l.map fun(n:Nat)=>V.int (n:Int))[j]? = some y:=hy
   rw[a9]at hy
   cases ht:l[j]? with
   | none=>rw[ht]at hy;cases hy
   | some t=>
    rw[ht]at hy
    cases hy
    have tm:=mI ht
    have hj:=(gI ht)
    have htn:t<N.length:=hlt l (mI hl) t tm
    ext
    obtain⟨z,hz⟩:∃z,as[t]? = some z:=⟨_,c5 (by have:=I5.len;omega)⟩
    have hMt:=L8 (show t<M'.length by omega)
    have hMz:=I5.at_ t z _ hz hMt
    specialize a8c ?_
    refine J1 I5.h (a0v (by rw[a9,hz];rfl)) ?_
    exists ⟨Z6 hMz,?_⟩
    have hb:=c3 _ (I0 (show t<M'.length by omega))
    refine a0E hMz (F4 (by rw[D2];omega)) ?_
    refine⟨_,M'.set t (M'[t]++[i]),rfl,?_,by rw[a3R];exact lM',?_,?_,?_⟩
    ·have:=I5.add (p:=i) hz hMt
     rw[show IL M'[t]++[V.int (i:Int)]=IL (M'[t]++[i]) by simp[IL]]
     exact this
    ·intro p' l' hp' hl' u hu
     obtain⟨l'',q1,q2⟩:=c1 p' l' hp' hl' u hu
     by_cases e:u=t
     ·subst e
      rw[hMt]at q1
      cases q1
      exact⟨_,Q1 (by omega),v8 _ q2⟩
     ·exact⟨l'',by rw[U6 (Ne.symm e)];exact q1,q2⟩
    ·intro u hu
     rw[E9,ht]at hu
     by_cases e:u=t
     ·subst e
      exact⟨_,Q1 (by omega),by simp⟩
     ·rcases u0.mp hu with q | q
      ·obtain⟨l'',q1,q2⟩:=c2 u q
       exact⟨l'',by rw[U6 (Ne.symm e)];exact q1,q2⟩
      ·exact absurd (by simpa using q) e
    ·intro l' hl'
     obtain⟨u,hu⟩:=z7.mp hl'
     rcases c6T hu with ⟨_,rfl⟩ | ⟨_,q⟩
     ·refine⟨by rw[p5,O6];omega,fun p' hp'=>?_⟩
      rcases u0.mp hp' with q | q
      ·exact hb.2 p' q
      ·rw[o0.mp q];exact hi
     ·obtain⟨r1,r2⟩:=c3 l' (mI q)
      exact⟨by omega,r2⟩
  ·rintro _ H5 ⟨x4,M',rfl,I5,lM',c1,c2,c3⟩
   rw[D2,F1]at c2
   refine⟨_,_,x4,M',rfl,I5,lM',fun p' l' hp' hl' t ht=>?_,fun l' hl'=>?_⟩
   ·by_cases e:p'=i
    ·subst e
     rw[hl]at hl'
     cases hl'
     exact c2 t ht
    ·exact c1 p' l' (by omega) hl' t ht
   ·obtain⟨r1,r2⟩:=c3 l' hl'
    rw[D2]at r1
    exact⟨by omega,r2⟩
theorem b4p{K:Fg}{ba:Addr}{bs:List Nat}{B:Nat}{E:XK}(hb:H ba=some (.lst (IL bs)))(hm:J5 H la M)(h400:M.length<=400)(hB:B<=800)(hl:∀l∈M,l.length<=B/\∀t∈l,t<M.length)(hbs:∀x∈bs,x<M.length)(lb:bs.length<=400)
  (k:∀d S H',H' d=some (.dK (KS S))->S.Nodup->(∀x∈S,x<M.length)->(∀x∈bs,x∈S)->b0g M S->i9 H H'->Q (.ref d) H'):a5z K [.ref ba,.ref la] H Q E:=by
 refine⟨rfl,?_⟩
 unfold b5Y
 nofun
 exists b7e fun d H1 hd e1 s1=>?_
 nofun
 exists a7v (s1 _ _ hb) fun w H2 hw e2 s2=>?_
 have s02:=s1.trans s2
 have hw0:H w=none:=s1.free hw
 have ndw:d≠w:=c9 e1 hw
 exact_mod_cast K6 ?_
 exact_mod_cast b0I ?_
 refine⟨fun m σ H3=>∃x4 ws S,σ=[some (.ref ba),some (.ref la),some (.ref d),some (.ref w),x4]/\H3 w=some (.lst (IL ws))/\H3 d=some (.dK (KS S))/\i9 H H3/\S.Nodup/\(∀x∈S,x<M.length)/\(∀x∈ws,x<M.length) /\
  (∀x∈bs,x∈S\/x∈ws)/\(∀k∈S,∀l,M[k]? = some l->∀t∈l,t∈S\/t∈ws)/\ws.length<=400+S.length * B/\m=(M.length - S.length) * (B+1)+ws.length,?_,?_⟩
 ·exact⟨_,_,bs,[],rfl,e2,s2 _ _ e1,s02,by simp,by simp,hbs,fun x hx=>.inr hx,by simp,by omega,rfl⟩
 rintro m _ H3 ⟨x4,ws,S,rfl,hw3,hd3,s3,nd,hS,hws,c1,c2,c3,rfl⟩
 ext
 exists L7 hw3 ?_
 have hSl:=a3M _ _ nd hS
 rcases b4a ws with rfl | ⟨r,p,rfl⟩
 ·exists v5 (d5q (by rw[D2];simp)) ?_
  refine k d S H3 hd3 nd hS (fun x hx=>(c1 x hx).elim id fun z=>by simp at z) (fun a ha l hl' t ht=>(c2 a ha l hl' t ht).elim id fun z=>by simp at z) s3
 refine C6 (d5r (by rw[D2,p5,O6];omega)) ?_
 have hp:p<M.length:=hws p (by simp)
 have eIL:IL (r++[p])=IL r++[V.int (p:Int)]:=by simp[IL]
 rw[eIL]at hw3
 refine⟨fun σ H4=>∃m' x4 ws S',σ=[some (.ref ba),some (.ref la),some (.ref d),some (.ref w),x4]/\H4 w=some (.lst (IL ws))/\H4 d=some (.dK (KS S'))/\i9 H H4/\S'.Nodup/\(∀x∈S',x<M.length)/\(∀x∈ws,x<M.length) /\
  (∀x∈bs,x∈S'\/x∈ws)/\(∀k∈S',∀l,M[k]? = some l->∀t∈l,t∈S'\/t∈ws)/\ws.length<=400+S'.length * B/\m'=(M.length - S'.length) * (B+1)+ws.length/\m'<(M.length - S.length) * (B+1)+(r++[p]).length,?_,?_⟩
 ·rintro σ' H4 ⟨m',x4,ws,S',e,r1,r2,r3,r4,r5,r6,r7,r8,r9,r10,r11⟩
  exact⟨m',r11,x4,ws,S',e,r1,r2,r3,r4,r5,r6,r7,r8,r9,r10⟩
 nofun
 specialize d2i ?_
 exists ⟨Z6 hw3,d2o hw3 ?_⟩
 have sW:i9 H (upd H3 w (.lst (IL r))):=fun b o e=>by rw[g9 (c9 e hw0)];exact s3 b o e
 have hdW:(upd H3 w (.lst (IL r))) d=some (.dK (KS S)):=by rw[g9 ndw];exact hd3
 have hwW:(upd H3 w (.lst (IL r))) w=some (.lst (IL r)):=c8
 obtain⟨H4,hH4⟩:∃H4,H4=upd H3 w (.lst (IL r)):=⟨_,rfl⟩
 rw[<-hH4]at sW hdW hwW ⊢
 rw[p5,O6]at c3 ⊢
 specialize a1V ?_
 obtain⟨o,g1,g2⟩:=a4x hdW p
 refine⟨d,o,rfl,g1,?_⟩
 rw[g2]
 ext
 by_cases hps:p∈S
 ·exists v5 (by rw[d5r hps];rfl) ?_
  refine⟨_,_,r,S,rfl,hwW,hdW,sW,nd,hS,fun x hx=>hws x (v8 _ hx),fun x hx=>?_,fun a ha l hl' t ht=>?_,by omega,rfl,by omega⟩
  ·rcases c1 x hx with z | z
   ·exact .inl z
   ·rcases u0.mp z with q | q
    ·exact .inr q
    ·exact .inl (o0.mp q ▸ hps)
  ·rcases c2 a ha l hl' t ht with z | z
   ·exact .inl z
   ·rcases u0.mp z with q | q
    ·exact .inr q
    ·exact .inl (o0.mp q ▸ hps)
 refine C6 (by rw[d5q hps];rfl) ?_
 obtain⟨xs,y,f1,f2,f3,_⟩:=(hm.same sW).at (L8 hp)
 obtain⟨l,hle⟩:∃l,l=M[p]:=⟨_,rfl⟩
 have hlp:M[p]? = some l:=by rw[hle];exact L8 hp
 rw[<-hle]at f3
 obtain⟨b1,b2⟩:=hl l (mI hlp)
 have hput:a3H S p=S++[p]:=by unfold a3H;rw[if_neg hps]
 have hS1:S.length<M.length:=by
  have:=a3M _ _ (a6m (k:=p) nd) fun x hx=>(Y7.mp hx).elim (hS x) fun z=>z ▸ hp
  rw[hput,p5,O6]at this
  omega
 exact_mod_cast K6 ?_
 specialize a7r ?_
 refine⟨d,_,rfl,a8W hdW (by omega) p,?_⟩
 rw[hput]
 obtain⟨H5,hH5⟩:∃H5,H5=upd H4 d (.dK (KS (S++[p]))):=⟨_,rfl⟩
 have hd5:H5 d=some (.dK (KS (S++[p]))):=hH5 ▸ c8
 have oth:∀b o,H4 b=some o->b≠d->H5 b=some o:=fun b o e n=>by rw[hH5,g9 n];exact e
 have s5:i9 H H5:=fun b o e=>oth b o (sW b o e) (c9 e hd)
 rw[<-hH5]
 have hw5:=oth w _ hwW (Ne.symm ndw)
 have fx5:=oth _ _ f1 (N8 f1 hdW (by intro z;cases z))
 have fy5:=oth _ _ f3 (N8 f3 hdW (by intro z;cases z))
 ext
 specialize a8c ?_
 exists ⟨Z6 hw5,?_⟩
 refine J1 fx5 f2 ?_
 have hSB:S.length * B<=400 * 800:=Nat.mul_le_mul (by omega) hB
 ext
 refine b8P hw5 fy5 (big (by rw[D2,D2];omega)) ?_
 have e6:IL r++IL l=IL (r++l):=by simp[IL]
 rw[e6]
 ext
 have key:(M.length - (S.length+1)) * (B+1)+(B+1)=(M.length - S.length) * (B+1):=by
  rw[<-Nat.succ_mul]
  congr 1
  omega
 refine⟨_,_,r++l,S++[p],rfl,c8,by rw[g9 ndw];exact hd5,fun b o e=>by rw[g9 (c9 e hw0)];exact s5 b o e,hput ▸ a6m nd,fun x hx=>?_,fun x hx=>?_,fun x hx=>?_,fun a ha l' hl' t ht=>?_,?_,rfl,?_⟩
 ·rcases u0.mp hx with q | q
  ·exact hS x q
  ·rw[o0.mp q];exact hp
 ·rcases u0.mp hx with q | q
  ·exact hws x (v8 _ q)
  ·exact b2 x q
 ·rcases c1 x hx with z | z
  ·exact .inl (v8 _ z)
  ·rcases u0.mp z with q | q
   ·exact .inr (v8 _ q)
   ·exact .inl (v7 _ q)
 ·rcases u0.mp ha with q | q
  ·rcases c2 a q l' hl' t ht with z | z
   ·exact .inl (v8 _ z)
   ·rcases u0.mp z with u | u
    ·exact .inr (v8 _ u)
    ·exact .inl (v7 _ u)
  ·rw[o0.mp q,hlp]at hl'
   cases hl'
   exact .inr (v7 _ ht)
 ·rw[p5,p5,O6,Nat.succ_mul]
  omega
 ·rw[p5,p5,O6]
  omega
theorem b5L{K:Fg}{E:XK}(hn:J5 H na N)(hv:Q9 N)(k:∀H',i9 H H'->Q .non H'):a4s K [.ref na] H Q E:=by
 refine⟨rfl,?_⟩
 unfold b0x
 nofun
 exists L6 (by simp) fun p1 H1 hp1 e1 s1=>?_
 exists b4p (bs:=[0]) (B:=2) e1 (hn.same s1) hv.le (by decide) (fun l hl=>⟨hv.two l hl,hv.lt l hl⟩) (by simpa using hv.pos) (by simp) fun d1 S1 H2 hd1 nd1 hS1 hb1 cl1 s2=>?_
 have in1:∀x,Rc N x->x∈S1:=by
  intro x h
  induction h with
  | zero=>exact hb1 0 (by simp)
  | @step a t l _ hl ht ih=>exact cl1 a ih l hl t ht
 nofun
 exists b8z ((hn.same s1).same s2) hv.le fun sa H3 _ e3 s3=>?_
 exists c2A (((hn.same s1).same s2).same s3) hv.le hv.two hv.lt fun ta M H4 m4 lM hM1 hM2 s4=>?_
 have lst:(b6N N).length<=N.length:=by
  have:=D0 (a8H N) (v9 N.length)
  rwa [W9]at this
 have hle:=hv.le
 refine b4p (bs:=b6N N) (B:=2 * N.length) (s4 _ _ e3) m4 (by omega) (by omega) (fun l hl=>⟨(hM2 l hl).1,by rw[lM];exact(hM2 l hl).2⟩) (fun x hx=>by
  rw[lM]
  exact L9.mp (D6.mp hx).1) (by omega) fun d2 S2 H5 hd2 nd2 hS2 hb2 cl2 s5=>?_
 have in2:∀x,Gd N x->x∈S2:=by
  intro x h
  induction h with
  | @stop a h=>exact hb2 a (c3h h)
  | @step a t l h ht _ ih=>
   obtain⟨l',q1,q2⟩:=hM1 a l h t ht
   exact cl2 t ih l' q1 a q2
 have s05:=(((s1.trans s2).trans s3).trans s4).trans s5
 have hd1':H5 d1=_:=s5 _ _ (s4 _ _ (s3 _ _ hd1))
 obtain⟨ys,hy,ly⟩:=(hn.same s05).len
 ext
 specialize a0p (a1n ?_)
 refine L7 hy ?_
 refine⟨N.length,by rw[ly],by omega,by omega,?_⟩
 rw[A5]
 refine a0l (fun i σ H6=>∃x3,σ=[some (.ref na),some (.ref d1),some (.ref d2),x3]/\H6=H5) ⟨_,rfl,rfl⟩ ?_ ?_
 ·rintro i _ H6 hi ⟨x3,rfl,rfl⟩
  ext
  rw[U4]
  specialize a1V ?_
  obtain⟨o,g1,g2⟩:=a4x hd1' i
  refine⟨d1,o,rfl,g1,?_⟩
  rw[g2,d5r (in1 i (hv.rc i hi))]
  ext
  exists v5 rfl ?_
  specialize a1V ?_
  obtain⟨o',g1',g2'⟩:=a4x hd2 i
  refine⟨d2,o',rfl,g1',?_⟩
  rw[g2',d5r (in2 i (hv.gd i hi))]
  ext
  exists v5 rfl ?_
  exact⟨_,rfl,rfl⟩
 ·rintro _ H6 ⟨x3,rfl,rfl⟩
  exact k _ s05
abbrev Stp:=Int×Int
variable{s:Stp}{B:List Stp}
def FST:Stp:=(-1,0)
def a3v(N:Nt)(p:Nat):List Stp:=(v9 (N.getD p []).length).map fun(a:Nat)=>((p:Int),(a:Int))
def a5y(N:Nt)(i:Nat):List Stp:=FST::(v9 i).flatMap (a3v N)
def D5(N:Nt):List Stp:=a5y N N.length
def E4(N:Nt)(s:Stp):Nat:=if s=FST then 0 else (N.getD s.1.toNat []).getD s.2.toNat 0
theorem a8w(N:Nt)(i:Nat):a5y N (i+1)=a5y N i++a3v N i:=by
 unfold a5y
 rw[a0i,List.flatMap_append]
 simp
def a0P(N:Nt)(s:Stp):Prop:=s=FST\/∃(p q:Nat) (l:List Nat) (t:Nat),s=((p:Int),(q:Int))/\N[p]? = some l/\l[q]? = some t
theorem a3f(h:s∈D5 N):a0P N s:=by
 rcases o4.mp h with z | z
 ·exact .inl z
 ·obtain⟨p,hp,q⟩:=c9r.mp z
  have hp:=L9.mp hp
  obtain⟨a,ha,rfl⟩:=A2.mp q
  have ha:=L9.mp ha
  have e:N.getD p []=N[p]:=by simp[M0,hp]
  rw[e]at ha
  exact .inr ⟨p,a,N[p],N[p][a],rfl,L8 hp,by simp⟩
theorem a7H(hv:Q9 N)(h:a0P N s):E4 N s<N.length:=by
 unfold E4
 rcases h with rfl | ⟨p,q,l,t,rfl,h1,h2⟩
 ·rw[if_pos rfl];exact hv.pos
 ·split
  ·exact hv.pos
  ·have:(N.getD ((p:Int),(q:Int)).1.toNat []).getD ((p:Int),(q:Int)).2.toNat 0=t:=by
    show(N.getD (p:Int).toNat []).getD (q:Int).toNat 0=t
    rw[A5,A5]
    simp[M0,h1,h2]
   rw[this]
   exact hv.lt l (mI h1) t (mI h2)
def a0x(K:Fg)(H:Hp)(a:Addr)(s:Stp):Prop:=H a=some (.tup [.int s.1,.int s.2])\/(s=FST/\∀H,SqT K H a [.int (-1),.int 0])
theorem a0x.ts{K:Fg}(h:a0x K H a s)(t:G5 H H'):a0x K H' a s:=by
 rcases h with h | h
 ·exact .inl (t _ _ h)
 ·exact .inr h
theorem a0x.sq{K:Fg}(h:a0x K H a s):SqT K H a [.int s.1,.int s.2]:=by
 rcases h with h | ⟨e,h⟩
 ·exact SqT.of h
 ·subst e;exact h H
structure M6(K:Fg)(H:Hp)(l:Addr)(S:List Stp):Prop where
 ex:∃vs:List Addr,H l=some (.lst (vs.map V.ref))/\vs.length=S.length/\∀(i:Nat) x s,vs[i]? = some x->S[i]? = some s->a0x K H x s
theorem M6.same{K:Fg}{l:Addr}{S:List Stp}(h:M6 K H l S)(s:i9 H H'):M6 K H' l S:=by
 obtain⟨vs,h1,h2,h3⟩:=h.ex
 exact⟨vs,s _ _ h1,h2,fun i x t e1 e2=>(h3 i x t e1 e2).ts (i9.ts s)⟩
theorem M6.kept{K:Fg}{c l:Addr}{S:List Stp}(h:M6 K H l S)(hB:Bag H b c)(k:E8 b H H'):M6 K H' l S:=by
 obtain⟨vs,h1,h2,h3⟩:=h.ex
 exact⟨vs,k.1 _ _ h1 (a2k hB h1),h2,fun i x t e1 e2=>(h3 i x t e1 e2).ts (E8.ts k hB)⟩
theorem M6.put{K:Fg}{l y:Addr}{S:List Stp}(h:M6 K H l S)(hy:H y=some (.lst xs))(n:l≠y):M6 K (upd H y (.lst ys)) l S:=by
 obtain⟨vs,h1,h2,h3⟩:=h.ex
 exact⟨vs,by rw[g9 n];exact h1,h2,fun i x t e1 e2=>(h3 i x t e1 e2).ts (G5.put hy)⟩
theorem b2H{K:Fg}{E:XK}(ck:a0R K c)(hn:J5 H na N)(h400:N.length<=400)(h2:∀l∈N,l.length<=2)
  (k:∀a H',H a=none->M6 K H' a (D5 N)->i9 H H'->Q (.ref a) H'):a4I K c [.ref na] H Q E:=by
 obtain⟨ns,a1,a2,a3⟩:=id hn.ex
 refine⟨rfl,?_⟩
 unfold b3R
 nofun
 exists L6 (by simp) fun D H1 hD e1 s1=>?_
 exact_mod_cast K6 ?_
 specialize a0p (a6i ?_)
 refine⟨na,rfl,⟨_,SqL.of (s1 _ _ a1)⟩,?_⟩
 refine b2N N.length (fun i σ H2=>∃x2 x3 vs,σ=[some (.ref na),some (.ref D),x2,x3]/\H2 D=some (.lst ((vs:List Addr).map V.ref))/\vs.length=(a5y N i).length/\vs.length<=1+2 * i/\(∀(j:Nat) x s,vs[j]? = some x->(a5y N i)[j]? = some s->a0x K H2 x s)/\i9 H H2) ?_ ?_ ?_ ?_
 ·refine⟨_,_,[c.M7],rfl,e1,rfl,by simp,fun j x s f1 f2=>?_,s1⟩
  cases j with
  | zero=>
   cases f1
   cases f2
   exact .inr ⟨rfl,ck.Y5⟩
  | succ j=>simp at f1
 ·rintro _ H2 ⟨x2,x3,vs,rfl,hD2,lv,_,at2,s2⟩
  exists ⟨⟨_,SqL.of (s2 _ _ a1),by rw[b5,a2];exact j5 _⟩,?_⟩
  exact k D H2 hD ⟨vs,hD2,lv,at2⟩ s2
 ·rintro i _ H2 hi ⟨x2,x3,vs,rfl,hD2,lv,_,at2,s2⟩
  exact⟨_,_,SqL.of (s2 _ _ a1),by rw[a9,c5 (show i<ns.length by omega)];rfl⟩
 ·rintro i _ H2 hi ⟨x2,x3,vs,rfl,hD2,lv,lv2,at2,s2⟩ x H3 ⟨p,y,hp,rfl,rfl,gy⟩
  obtain⟨nx,f1⟩:∃nx,ns[i]? = some nx:=⟨_,c5 (by omega)⟩
  have gy:=gy _ (SqL.of (s2 _ _ a1))
  rw[a9,f1]at gy
  cases gy
  refine a6j (SqT.of c8) ?_
  have s3:i9 H2 (upd H2 p (.tup [V.int (i:Int),V.ref nx])):=z6 hp
  obtain⟨H3,hH3⟩:∃H3,H3=upd H2 p (.tup [V.int (i:Int),V.ref nx]):=⟨_,rfl⟩
  rw[<-hH3]at s3 ⊢
  have s03:=s2.trans s3
  have hl:=L8 hi
  obtain⟨l,hle⟩:∃l,l=N[i]:=⟨_,rfl⟩
  rw[<-hle]at hl
  have hll:=h2 l (mI hl)
  have hx:=s03 _ _ (a3 i nx l f1 hl)
  ext
  specialize a8c ?_
  exists ⟨Z6 (s3 _ _ hD2),?_⟩
  specialize U3 (a1n ?_)
  refine L7 hx ?_
  rw[D2]
  refine⟨l.length,rfl,by omega,by omega,fun A hA=>?_⟩
  rw[A5]
  refine a6W (fun j ys H4=>∃ws:List Addr,ys=ws.map V.ref/\ws.length=j/\(∀(q:Nat) x,ws[q]? = some x->H4 x=some (.tup [.int (i:Int),.int (q:Int)]))/\H4 A=some (.lst ys)/\i9 H3 H4) ?_ ?_ ?_ ?_
  ·exact⟨[],rfl,rfl,by simp,c8,z6 hA⟩
  ·rintro j ys H4 ⟨_,_,_,_,h,_⟩
   exact h
  ·rintro j ys H4 hj ⟨ws,rfl,lw,at4,hA4,s4⟩ R hR
   ext
   refine L6 (by simp) fun z H5 hz e5 s5=>?_
   rw[U4]at e5
   have nzA:z≠A:=(c9 hA4 hz).symm
   refine hR _ _ (s5 _ _ hA4) (F4 (by rw[b5];omega)) ⟨ws++[z],by simp,by simp[lw],fun q x hq=>?_,c8,fun b o e=>?_⟩
   ·rcases Z8 hq with ⟨_,g⟩ | ⟨hq',g⟩
    ·have:=s5 _ _ (at4 q x g)
     rw[g9 (N8 this (s5 _ _ hA4) (by intro z;cases z))]
     exact this
    ·subst g
     rw[g9 nzA,e5,hq',lw]
   ·rw[g9 (c9 e hA)];exact s5 _ _ (s4 _ _ e)
  ·rintro ys H4 ⟨ws,rfl,lw,at4,hA4,s4⟩
   ext
   have hD4:H4 D=_:=s4 _ _ (s3 _ _ hD2)
   have s04:=s03.trans s4
   refine b8P hD4 hA4 (big (by rw[b5,b5];omega)) ?_
   rw[<-C5]
   have hon:a3v N i=(v9 l.length).map fun(a:Nat)=>((i:Int),(a:Int)):=by
    unfold a3v
    simp[M0,hl]
   have hU:=a8w N i
   have lon:(a3v N i).length=l.length:=by rw[hon];simp
   refine⟨_,_,vs++ws,rfl,c8,by rw[hU,p5,p5,lv,lw,lon],by rw[p5];omega,fun j x s g1 g2=>?_,fun b o e=>?_⟩
   ·rw[hU]at g2
    by_cases hj:j<vs.length
    ·rw[o3 hj]at g1
     rw[o3 (by omega)]at g2
     exact((at2 j x s g1 g2).ts (i9.ts (s3.trans s4))).ts (G5.put hD4)
    ·rw[J4 (by omega)]at g1
     rw[J4 (by omega),<-lv,hon,a9]at g2
     have hq:j - vs.length<l.length:=by
      have:=(gI g1)
      omega
     rw[a3i hq]at g2
     cases g2
     have:=at4 _ _ g1
     exact .inl (by rw[g9 (N8 this hD4 (by intro z;cases z))];exact this)
   ·rw[g9 (c9 e hD)];exact s04 _ _ e
def c2j(c:Cn)(H:Hp)(x:Addr)(N:Nt):Prop:=∃dx fs n,H x=some (.ins c.M8 dx fs)/\fs.lookup ("nexts" : Str)=some (V.ref n)/\J5 H n N
theorem eq2(p q:Int):T0 [.int p,.int q] [.int (-1),.int 0]=decide ((p,q)=FST):=by
 unfold T0
 simp only[C0,a3S,Nat.zero_add,d3d,a9o]
 rw[show v9 2=[0,1] from rfl]
 simp only[T3,c2m,b9U,M0,a8h,c1H,a2y,beq_self_eq_true]
 unfold FST
 by_cases h:p = -1
 ·by_cases h':q=0
  ·subst h h';decide
  ·subst h
   simp[eqV,h']
 ·simp[eqV,h]
theorem a6o{K:Fg}{x:Addr}{E:XK}(ck:a0R K c)(hp:c2j c H x N)(ha:a0x K H a s)(hs:a0P N s)(k:Q (.int (E4 N s:Nat)) H):T8 K c [.ref x,.ref a] H Q E:=by
 refine⟨rfl,?_⟩
 unfold a7V
 nofun
 refine⟨_,_,_,_,rfl,rfl,ha.sq,ck.Y5 H,rfl,rfl,?_⟩
 rw[eq2]
 ext
 by_cases e:s=FST
 ·exists C6 (d5r e) ?_
  unfold E4 at k
  rw[if_pos e]at k
  exact k
 ·exists v5 (d5q e) ?_
  rcases hs with z | ⟨p,q,l,t,rfl,h1,h2⟩
  ·exact(e z).elim
  rcases ha with ha | ⟨z,_⟩
  rotate_left
  ·exact(e z).elim
  obtain⟨dx,fs,n,hx,hf,hn⟩:=hp
  specialize Q8 ?_
  exists ⟨x,_,dx,fs,_,rfl,hx,ck.N4,ck.U9,hf,?_⟩
  refine a0g ha (a3k _ _) ?_
  obtain⟨xs,y,f1,f2,f3,_⟩:=hn.at h1
  exists J1 f1 f2 ?_
  refine a0g ha (b1h _ _ _) ?_
  refine J1 f3 (b1l h2) ?_
  have:E4 N ((p:Int),(q:Int))=t:=by
   unfold E4
   rw[if_neg e]
   show(N.getD (p:Int).toNat []).getD (q:Int).toNat 0=t
   rw[A5,A5]
   simp[M0,h1,h2]
  rw[this]at k
  exact k
structure c6y(K:Fg)(H0 H:Hp)(e:Addr)(es:List Addr)(P:List (List Stp)):Prop where
 same:i9 H0 H
 h:H e=some (.lst (es.map V.ref))
 len:es.length=P.length
 nd:es.Nodup
 na:e∉es
 at_:∀(i:Nat) y S,es[i]? = some y->P[i]? = some S->M6 K H y S
 new:H0 e=none/\∀y∈es,H0 y=none
theorem c6y.add{K:Fg}{e:Addr}{es:List Addr}{P:List (List Stp)}(h:c6y K H0 H e es P){y:Addr}{S:List Stp}{vs:List Addr}(e1:es[t]? = some y)(e2:P[t]? = some S)(hy:H y=some (.lst (vs.map V.ref)))
  (lv:vs.length=S.length) (at2:∀(i:Nat) x s,vs[i]? = some x->S[i]? = some s->a0x K H x s) (ha:a0x K H a s):c6y K H0 (upd H y (.lst ((vs++[a]).map V.ref))) e es (P.set t (S++[s])):=by
 have hm:=mI e1
 have ye:y≠e:=fun z=>h.na (z ▸ hm)
 refine⟨fun b o q=>by rw[g9 (c9 q (h.new.2 y hm))];exact h.same b o q,by rw[g9 ye.symm];exact h.h,by rw[a3R];exact h.len,h.nd,h.na,fun i z S' f1 f2=>?_,h.new⟩
 by_cases q:i=t
 ·subst q
  rw[e1]at f1
  cases f1
  rw[Q1 (gI e2)]at f2
  cases f2
  refine⟨vs++[a],c8,by simp[lv],fun j x s' g1 g2=>?_⟩
  rcases Z8 g1 with ⟨_,k1⟩ | ⟨j1,k1⟩
  ·rcases Z8 g2 with ⟨_,k2⟩ | ⟨j2,k2⟩
   ·exact(at2 j x s' k1 k2).ts (G5.put hy)
   ·omega
  ·rcases Z8 g2 with ⟨_,k2⟩ | ⟨j2,k2⟩
   ·omega
   ·subst k1 k2
    exact ha.ts (G5.put hy)
 ·rw[U6 (Ne.symm q)]at f2
  have:z≠y:=by
   rintro rfl
   exact q (c9k h.nd f1 e1)
  exact(h.at_ i z S' f1 f2).put hy this
structure a1r(K:Fg)(c:Cn)(H:Hp)(x:Addr)(N:Nt):Prop where
 ex:∃dx r n e es,H x=some (.ins c.M8 dx [("rows",.ref r),("nexts",.ref n),("entries",.ref e)])/\a0O H r N/\J5 H n N/\H e=some (.lst ((es:List Addr).map V.ref))/\es.length=N.length /\
  ∀(t:Nat) y,es[t]? = some y->M6 K H y ((D5 N).filter fun s=>decide (E4 N s=t))
structure a7a(K:Fg)(c:Cn)(Z:Addr->Prop)(rs:List Addr)(H:Hp)(x:Addr)(N:Nt):Prop where
 ex:∃dx r n e es ns,H x=some (.ins c.M8 dx [("rows",.ref r),("nexts",.ref n),("entries",.ref e)])/\(a0O H r N/\H r=some (.lst (rs.map V.ref)))/\H n=some (.lst ((ns:List Addr).map V.ref))/\ns.length=N.length/\(∀(i:Nat) y l,ns[i]? = some y->N[i]? = some l->H y=some (.lst (IL l))) /\
  H e=some (.lst ((es:List Addr).map V.ref))/\es.length=N.length/\(∀(t:Nat) y,es[t]? = some y->M6 K H y ((D5 N).filter fun s=>decide (E4 N s=t)))/\∀z,Z z->z≠r/\z≠n/\z≠e/\z∉ns/\z∉es
theorem a7a.at{K:Fg}{x:Addr}(h:a7a K c Z rs H x N):a1r K c H x N:=by
 obtain⟨dx,r,n,e,es,ns,h1,⟨h2,h2r⟩,h3,h4,h5,h6,h7,h8,_⟩:=h.ex
 exact⟨dx,r,n,e,es,h1,h2,⟨ns,h3,h4,h5⟩,h6,h7,h8⟩
theorem a7a.same{K:Fg}{x:Addr}(h:a7a K c Z rs H x N)(s:i9 H H'):a7a K c Z rs H' x N:=by
 obtain⟨dx,r,n,e,es,ns,h1,⟨h2,h2r⟩,h3,h4,h5,h6,h7,h8,h9⟩:=h.ex
 exact⟨dx,r,n,e,es,ns,s _ _ h1,⟨h2.same s,s _ _ h2r⟩,s _ _ h3,h4,fun i y l a b=>s _ _ (h5 i y l a b),s _ _ h6,h7,fun t y q=>(h8 t y q).same s,h9⟩
theorem a7a.kept{K:Fg}{x:Addr}(h:a7a K c Z rs H x N)(hB:Bag H b d)(h2':∀l∈N,l.length<=2)(k:E8 b H H'):a7a K c Z rs H' x N:=by
 obtain⟨dx,r,n,e,es,ns,h1,⟨h2,h2r⟩,h3,h4,h5,h6,h7,h8,h9⟩:=h.ex
 obtain⟨bs,hb⟩:=hB.lst
 refine⟨dx,r,n,e,es,ns,k.1 _ _ h1 (N8 h1 hb (by intro z;cases z)),⟨h2.kept hB k,k.1 _ _ h2r (a2k hB h2r)⟩,k.1 _ _ h3 (a2k hB h3),h4,fun i y l a b=>?_,k.1 _ _ h6 (a2k hB h6),h7,fun t y q=>(h8 t y q).kept hB k,h9⟩
 have q:=h5 i y l a b
 exact k.1 _ _ q (b4c hB q (by rw[D2];have:=h2' l (mI b);omega))
theorem a1r.same{K:Fg}{x:Addr}(h:a1r K c H x N)(s:i9 H H'):a1r K c H' x N:=by
 obtain⟨dx,r,n,e,es,h1,h2,h3,h4,h5,h6⟩:=h.ex
 exact⟨dx,r,n,e,es,s _ _ h1,h2.same s,h3.same s,s _ _ h4,h5,fun t y q=>(h6 t y q).same s⟩
theorem a1r.x{K:Fg}{x:Addr}(h:a1r K c H x N):c2j c H x N:=by
 obtain⟨dx,r,n,e,es,h1,h2,h3,_⟩:=h.ex
 exact⟨dx,_,n,h1,rfl,h3⟩
theorem J5.ins{H:Hp}{a x C dx:Addr}{N:Nt}{fs:List (Str×V)}{o:HO}(h:J5 H a N)(hx:H x=some (.ins C dx fs)):J5 (upd H x o) a N:=by
 obtain⟨as,q1,q2,q3⟩:=h.ex
 exact⟨as,by rw[g9 (N8 q1 hx (by intro z;cases z))];exact q1,q2,fun j y l e1 e2=>by
  have q:=q3 j y l e1 e2
  rw[g9 (N8 q hx (by intro z;cases z))];exact q⟩
theorem G5.ins{H:Hp}{x C dx:Addr}{fs:List (Str×V)}{o:HO}(hx:H x=some (.ins C dx fs)):G5 H (upd H x o):=fun a xs e=>by
 rw[g9 (N8 e hx (by intro z;cases z))];exact e
theorem a0O.ins{H:Hp}{a x C dx:Addr}{N:Nt}{fs:List (Str×V)}{o:HO}(h:a0O H a N)(hx:H x=some (.ins C dx fs)):a0O (upd H x o) a N:=by
 obtain⟨as,q1,q2,q3⟩:=h.ex
 exact⟨as,by rw[g9 (N8 q1 hx (by intro z;cases z))];exact q1,q2,fun j y l e1 e2=>(q3 j y l e1 e2).ts (G5.ins hx)⟩
theorem a6Q(h:∀l∈N,l.length<=2):(D5 N).length<=1+2 * N.length:=by
 have go:∀i,i<=N.length->(a5y N i).length<=1+2 * i:=by
  intro i
  induction i with
  | zero=>intro _;show 1<=1;exact j5 _
  | succ i ih=>
   intro hi
   rw[a8w,p5]
   have:=ih (by omega)
   have h2:(a3v N i).length<=2:=by
    unfold a3v
    rw[b5,W9]
    have e:N.getD i []=N[i]:=by simp[M0,show i<N.length by omega]
    rw[e]
    exact h _ (I0 _)
   omega
 exact go _ (j5 _)
theorem c1o{S:List Stp}{f:Stp->Nat}(h:S[i]? = some s):(S.take (i+1)).filter (fun s=>decide (f s=t))=(S.take i).filter (fun s=>decide (f s=t))++(if f s=t then [s] else []):=by
 rw[E9,h,N7]
 congr 1
 by_cases e:f s=t
 ·rw[if_pos e];simp[e]
 ·rw[if_neg e];simp[e]
theorem b7k{K:Fg}{x ra:Addr}{E:XK}(ck:a0R K c)(hrs:H ra=some (.lst (rs.map V.ref)))(hr:a0O H ra N)(hn:J5 H na N)(hv:Q9 N)(hx:H x=some (.ins c.M8 dx []))
  (k:∀H',a7a K c (fun z=>∃o,H z=some o/\z≠x) rs H' x N->(∀b o,H b=some o->b≠x->H' b=some o)->Q .non H'):a5f K c [.ref x,.ref ra,.ref na] H Q E:=by
 obtain⟨rs',r1,r2,r3⟩:=id hr.ex
 obtain rfl:rs'=rs:=by
  rw[hrs]at r1
  exact(a6I (f:=V.ref) (fun a b h=>V.ref.inj h) |>.mp (HO.lst.inj (Option.some.inj r1))).symm
 obtain⟨ns,n1,n2,n3⟩:=id hn.ex
 have hpos:=hv.pos
 have h400:=hv.le
 refine⟨rfl,?_⟩
 unfold b2G
 nofun
 exists b3h r1 (by rw[b5];omega) (by rw[b5];omega) ?_
 nofun
 specialize U3 (P8 ?_)
 refine⟨ra,rfl,⟨_,SqL.of r1⟩,fun D hD=>?_⟩
 refine U0 (xs:=rs'.map V.ref) (fun i ys H2=>ys=D7 i (V.bl true)/\H2 D=some (.lst ys)/\i9 H H2) ⟨rfl,c8,z6 hD⟩ ?_ ?_ ?_ ?_
 ·rintro i ys H2 ⟨_,h,_⟩
  exact h
 ·rintro i ys H2 _ ⟨_,_,s2⟩
  exact SqL.of (s2 _ _ r1)
 ·rintro i y ys H2 hy ⟨rfl,hD2,s2⟩ R hR
  rw[a9]at hy
  cases hrx:rs'[i]? with
  | none=>rw[hrx]at hy;cases hy
  | some rx=>
   rw[hrx]at hy
   cases hy
   have hi:i<N.length:=by rw[<-r2];exact(gI hrx)
   ext
   refine c3m ck ((r3 i rx _ hrx (L8 hi)).ts (i9.ts s2)) fun H3 s3=>?_
   refine hR _ _ (s3 _ _ hD2) (F4 (by rw[J7];omega)) ⟨b0v i,c8,fun b o e=>?_⟩
   rw[g9 (c9 e hD)];exact s3 _ _ (s2 _ _ e)
 rintro ys H2 ⟨rfl,hD2,s2⟩
 ext
 refine a6D hD2 fun H3 s3=>?_
 have s03:=s2.trans s3
 ext
 nofun
 refine b4W (hr.same s03) (hn.same s03) h400 hv.two hv.lt fun H4 s4=>?_
 have s04:=s03.trans s4
 ext
 nofun
 refine b5L (hn.same s04) hv fun H5 s5=>?_
 have s05:=s04.trans s5
 ext
 exact_mod_cast K6 ?_
 specialize a0K ?_
 refine a7v (s05 _ _ r1) fun rp H6 hrp e6 s6=>?_
 have s06:=s05.trans s6
 ext
 refine⟨x,_,dx,[],rfl,s06 _ _ hx,ck.N4,ck.P4,by simp,?_⟩
 obtain⟨H7,hH7⟩:∃H7,H7=upd H6 x (.ins c.M8 dx (N3 "rows" (.ref rp) [])):=⟨_,rfl⟩
 have x7:H7 x=some (.ins c.M8 dx [("rows",.ref rp)]):=hH7 ▸ c8
 have f7:∀b o,H6 b=some o->b≠x->H7 b=some o:=fun b o e n=>by rw[hH7,g9 n];exact e
 have rows7:a0O H7 rp N:=by
  have q:a0O H6 rp N:=⟨rs',e6,r2,fun i y l a b=>(r3 i y l a b).ts (i9.ts s06)⟩
  rw[hH7]
  exact q.ins (s06 _ _ hx)
 have net7:J5 H7 na N:=by rw[hH7];exact(hn.same s06).ins (s06 _ _ hx)
 have ra7:H7 ra=some (.lst (rs'.map V.ref)):=f7 _ _ (s06 _ _ r1) (N8 r1 hx (by intro z;cases z))
 rw[<-hH7]
 clear hH7
 exact_mod_cast K6 ?_
 exact_mod_cast a0K ?_
 exact_mod_cast U3 (P8 ?_)
 obtain⟨ns',m1,m2,m3⟩:=id net7.ex
 ext
 refine⟨na,rfl,⟨_,SqL.of m1⟩,fun np hnp=>?_⟩
 refine U0 (xs:=ns'.map V.ref) (fun i ys H8=>∃as:List Addr,ys=as.map V.ref/\as.length=i/\(∀(j:Nat) y l,as[j]? = some y->N[j]? = some l->H8 y=some (.lst (IL l))/\y≠np)/\H8 np=some (.lst ys)/\i9 H7 H8/\∀y∈as,H7 y=none) ?_ ?_ ?_ ?_ ?_
 ·exact⟨[],rfl,rfl,by simp,c8,z6 hnp,by simp⟩
 ·rintro i ys H8 ⟨_,_,_,_,h,_⟩
  exact h
 ·rintro i ys H8 _ ⟨_,_,_,_,_,s8,_⟩
  exact SqL.of (s8 _ _ m1)
 ·rintro i y ys H8 hy ⟨as,rfl,la,at8,hnp8,s8,fr8⟩ R hR
  rw[a9]at hy
  cases hnx:ns'[i]? with
  | none=>rw[hnx]at hy;cases hy
  | some nx=>
   rw[hnx]at hy
   cases hy
   have hi:i<N.length:=by rw[<-m2];exact(gI hnx)
   ext
   refine a7v (s8 _ _ (m3 i nx _ hnx (L8 hi))) fun q H9 hq e9 s9=>?_
   have nq:q≠np:=(c9 hnp8 hq).symm
   refine hR _ _ (s9 _ _ hnp8) (F4 (by rw[b5];omega)) ⟨as++[q],by simp,by simp[la],fun j y l g1 g2=>?_,c8,fun b o e=>?_,fun y hy=>?_⟩
   ·rcases Z8 g1 with ⟨_,f1⟩ | ⟨hj,f1⟩
    ·obtain⟨f2,f3⟩:=at8 j y l f1 g2
     exact⟨by rw[g9 f3];exact s9 _ _ f2,f3⟩
    ·rw[hj,la,L8 hi]at g2
     cases g2
     subst f1
     exact⟨by rw[g9 nq];exact e9,nq⟩
   ·rw[g9 (c9 e hnp)];exact s9 _ _ (s8 _ _ e)
   ·rcases u0.mp hy with z | z
    ·exact fr8 y z
    ·rw[o0.mp z];exact s8.free hq
 rintro ys H8 ⟨as,rfl,la,at8,hnp8,s8,fr8⟩
 rw[b5,m2]at la
 have net8:J5 H8 np N:=⟨as,hnp8,la,fun i y l a b=>(at8 i y l a b).1⟩
 ext
 refine⟨x,_,dx,_,rfl,s8 _ _ x7,ck.N4,ck.U9,by simp,?_⟩
 obtain⟨H9,hH9⟩:∃H9,H9=upd H8 x (.ins c.M8 dx (N3 "nexts" (.ref np) [("rows",.ref rp)])):=⟨_,rfl⟩
 have x9:H9 x=some (.ins c.M8 dx [("rows",.ref rp),("nexts",.ref np)]):=by
  rw[hH9,c8]
  simp only[N3]
  rw[if_neg (by decide)]
 have f9:∀b o,H8 b=some o->b≠x->H9 b=some o:=fun b o e n=>by rw[hH9,g9 n];exact e
 have rows9:a0O H9 rp N:=by rw[hH9];exact(rows7.same s8).ins (s8 _ _ x7)
 have net9:J5 H9 np N:=by rw[hH9];exact net8.ins (s8 _ _ x7)
 have ra9:H9 ra=some (.lst (rs'.map V.ref)):=f9 _ _ (s8 _ _ ra7) (N8 ra7 x7 (by intro z;cases z))
 rw[<-hH9]
 clear hH9
 exact_mod_cast K6 ?_
 exact_mod_cast a0K ?_
 specialize U3 (P8 ?_)
 refine⟨ra,rfl,⟨_,SqL.of ra9⟩,fun ep hep=>?_⟩
 refine U0 (xs:=rs'.map V.ref) (fun i ys H10=>∃es,ys=es.map V.ref/\a8K H9 H10 ep es (D7 i [])) ?_ ?_ ?_ ?_ ?_
 ·exact⟨[],rfl,.nil hep (z6 hep) c8⟩
 ·rintro i ys H10 ⟨es,rfl,I⟩
  exact I.h
 ·rintro i ys H10 _ ⟨es,rfl,I⟩
  exact SqL.of (I.same _ _ ra9)
 ·rintro i y ys H10 hy ⟨es,rfl,I⟩ R hR
  have hi:i<N.length:=by
   have:=(gI hy)
   rw[b5,r2]at this
   exact this
  ext
  refine L6 (by simp) fun p H11 hp e11 s11=>?_
  have:=I.len
  rw[J7]at this
  refine hR _ _ (s11 _ _ I.h) (F4 (by rw[b5];omega)) ⟨es++[p],by simp,?_⟩
  have q:=I.snoc hp e11 s11
  rw[show D7 i ([]:List Nat)++[[]]=D7 (i+1) [] from by rw[b0i]]at q
  rw[show es.map V.ref++[V.ref p]=(es++[p]).map V.ref by simp]
  exact q
 rintro ys H10 ⟨es,rfl,I10⟩
 rw[b5,r2]at I10
 ext
 have x10:=I10.same _ _ x9
 refine⟨x,_,dx,_,rfl,x10,ck.N4,ck.a1A,by simp,?_⟩
 obtain⟨F,hF⟩:∃F:List (Str×V),F=([("rows",.ref rp),("nexts",.ref np),("entries",.ref ep)]:List (Str×V)):=⟨_,rfl⟩
 have hput:N3 "entries" (.ref ep) [("rows",.ref rp),("nexts",.ref np)]=F:=by
  rw[hF]
  simp only[N3]
  rw[if_neg (by decide),if_neg (by decide)]
 rw[hput]
 obtain⟨H11,hH11⟩:∃H11,H11=upd H10 x (.ins c.M8 dx F):=⟨_,rfl⟩
 obtain⟨H0,hH0⟩:∃H0,H0=upd H9 x (.ins c.M8 dx F):=⟨_,rfl⟩
 have x0:H0 x=some (.ins c.M8 dx F):=hH0 ▸ c8
 have f0:∀b o,H9 b=some o->b≠x->H0 b=some o:=fun b o e n=>by rw[hH0,g9 n];exact e
 have rows0:a0O H0 rp N:=by rw[hH0];exact rows9.ins x9
 have net0:J5 H0 np N:=by rw[hH0];exact net9.ins x9
 have np0:H0 np=some (.lst (as.map V.ref)):=by
  have:=f9 _ _ hnp8 (N8 hnp8 (s8 _ _ x7) (by intro z;cases z))
  exact f0 _ _ this (N8 this x9 (by intro z;cases z))
 have rp0:H0 rp=some (.lst (rs'.map V.ref)):=by
  have q:=s8 _ _ (f7 _ _ e6 (N8 e6 (s06 _ _ hx) (by intro z;cases z)))
  have q:=f9 _ _ q (N8 q (s8 _ _ x7) (by intro z;cases z))
  exact f0 _ _ q (N8 q x9 (by intro z;cases z))
 have at0:∀(i:Nat) y l,as[i]? = some y->N[i]? = some l->H0 y=some (.lst (IL l)):=fun i y l a b=>by
  have q:=(at8 i y l a b).1
  have q:=f9 _ _ q (N8 q (s8 _ _ x7) (by intro z;cases z))
  exact f0 _ _ q (N8 q x9 (by intro z;cases z))
 have old9:∀b o,H b=some o->b≠x->H9 b=some o:=fun b o e n=>f9 _ _ (s8 _ _ (f7 _ _ (s06 _ _ e) n)) n
 have ent11:c6y K H0 H11 ep es (D7 N.length []):=by
  have nxe:x≠ep:=c9 x9 hep
  have nxes:∀y∈es,x≠y:=fun y hy=>c9 x9 (I10.new.2 y hy)
  refine⟨fun b o e=>?_,by rw[hH11,g9 nxe.symm];exact I10.h,by rw[J7];have:=I10.len;rwa [J7]at this,I10.nd,I10.na,fun i y S a b=>?_,by rw[hH0,g9 nxe.symm];exact hep,fun y hy=>by rw[hH0,g9 (nxes y hy).symm];exact I10.new.2 y hy⟩
  ·rw[hH0]at e
   rw[hH11]
   by_cases q:b=x
   ·subst q
    rw[c8]at e ⊢
    exact e
   ·rw[g9 q]at e ⊢
    exact I10.same _ _ e
  ·have hi:=(gI b)
   rw[J7]at hi
   have q:=I10.at_ i y [] a (by rw[U7,if_pos hi])
   rw[U7,if_pos hi]at b
   cases b
   refine⟨[],?_,rfl,by simp⟩
   rw[hH11,g9 (N8 q x10 (by intro z;cases z))]
   exact q
 have old:∀b o,H b=some o->b≠x->H0 b=some o:=fun b o e n=>f0 _ _ (f9 _ _ (s8 _ _ (f7 _ _ (s06 _ _ e) n)) n) n
 rw[<-hH11]
 clear hH11 hH0 I10 x10 f0 f9 x9 ra9 net9 rows9
 specialize a0p (P8 ?_)
 specialize Q8 ?_
 exists ⟨x,_,dx,F,.ref np,rfl,ent11.same _ _ x0,ck.N4,ck.U9,by rw[hF];rfl,?_⟩
 refine b2H ck (net0.same ent11.same) h400 hv.two fun sl H12 hsl S12 s12=>?_
 obtain⟨vs,v1,v2,v3⟩:=id S12.ex
 have nsl:sl∉es:=fun z=>by
  obtain⟨i,hi⟩:=z7.mp z
  have hil:i<N.length:=by
   have:=ent11.len
   rw[J7]at this
   rw[<-this];exact(gI hi)
  obtain⟨ws,w1,_⟩:=(ent11.at_ i sl [] hi (by rw[U7,if_pos hil])).ex
  rw[hsl]at w1
  cases w1
 refine⟨sl,rfl,⟨_,SqL.of v1⟩,a2G (xs:=vs.map V.ref) (fun i σ H13=>∃x3 P,σ=[some (.ref x),some (.ref ra),some (.ref na),x3]/\c6y K H0 H13 ep es P/\P.length=N.length/\(∀t,t<N.length->P[t]? = some (((D5 N).take i).filter fun s=>decide (E4 N s=t)))/\M6 K H13 sl (D5 N)/\H13 sl=some (.lst (vs.map V.ref))) ?_ ?_ ?_ ?_⟩
 ·refine⟨_,D7 N.length [],rfl,⟨ent11.same.trans s12,s12 _ _ ent11.h,ent11.len,ent11.nd,ent11.na,fun i y S a b=>(ent11.at_ i y S a b).same s12,ent11.new⟩,by simp,fun t ht=>by rw[U7,if_pos ht];simp,S12,v1⟩
 ·rintro i σ H13 _ ⟨_,_,_,_,_,_,_,h⟩
  exact SqL.of h
 ·rintro i y _ H13 hy ⟨x3,P,rfl,I13,lP,hP,S13,hsl13⟩
  rw[a9]at hy
  cases hvx:vs[i]? with
  | none=>rw[hvx]at hy;cases hy
  | some vx=>
   rw[hvx]at hy
   cases hy
   obtain⟨ws,w1,w2,w3⟩:=S13.ex
   have ews:ws=vs:=by
    rw[hsl13]at w1
    have:=a6I (f:=V.ref) (fun a b h=>V.ref.inj h) |>.mp (HO.lst.inj (Option.some.inj w1))
    exact this.symm
   subst ews
   have hi:i<(D5 N).length:=by rw[<-w2];exact(gI hvx)
   obtain⟨s,hs⟩:∃s,(D5 N)[i]? = some s:=⟨_,c5 hi⟩
   have hst:=w3 i vx s hvx hs
   have hm:=mI hs
   have his:=a3f hm
   have hlt:=a7H hv his
   have x13:=I13.same _ _ x0
   ext
   specialize a8c ?_
   specialize Q8 ?_
   refine⟨x,_,dx,F,.ref ep,rfl,x13,ck.N4,ck.a1A,by rw[hF];rfl,?_⟩
   specialize W3 ?_
   exists ⟨x,dx,F,rfl,x13,by rw[hF];rfl,?_⟩
   refine a6o ck ⟨dx,F,np,x13,by rw[hF];rfl,net0.same I13.same⟩ hst his ?_
   obtain⟨z,hz⟩:∃z,es[E4 N s]? = some z:=⟨_,c5 (by have:=I13.len;omega)⟩
   refine J1 I13.h (a0v (by rw[a9,hz];rfl)) ?_
   have hPt:=hP _ hlt
   obtain⟨us,u1,u2,u3⟩:=(I13.at_ _ z _ hz hPt).ex
   exists ⟨Z6 u1,?_⟩
   have hul:us.length<=i:=by
    rw[u2]
    refine D9 (D0 _ _) ?_
    rw[C9];omega
   have hlen1:(D5 N).length<=1000:=by
    rw[<-w2]
    have:(D5 N).length<=1+2 * N.length:=a6Q hv.two
    omega
   refine a0E u1 (F4 (by rw[b5];omega)) ?_
   have add:=I13.add (a:=vx) (s:=s) hz hPt u1 u2 u3 hst
   rw[show us.map V.ref++[V.ref vx]=(us++[vx]).map V.ref by simp]
   have nz:sl≠z:=fun q=>nsl (q ▸ mI hz)
   refine⟨_,_,rfl,add,by rw[a3R];exact lP,fun t ht=>?_,S13.put u1 nz,by rw[g9 nz];exact hsl13⟩
   rw[c1o hs]
   by_cases q:E4 N s=t
   ·subst q
    rw[Q1 (by omega),if_pos rfl]
   ·rw[U6 q,if_neg q,P7]
    exact hP t ht
 ·rintro _ H13 ⟨x3,P,rfl,I13,lP,hP,S13,hsl13⟩
  have f8:∀b o,H b=some o->b≠x->H7 b=some o:=fun b o e n=>f7 _ _ (s06 _ _ e) n
  refine k H13 ⟨dx,rp,np,ep,es,as,hF ▸ I13.same _ _ x0,⟨rows0.same I13.same,I13.same _ _ rp0⟩,I13.same _ _ np0,la,fun i y l a b=>I13.same _ _ (at0 i y l a b),I13.h,by rw[I13.len,lP],fun t y hy=>?_,fun z ⟨o,ho,hzx⟩=>⟨c9 (s05 _ _ ho) hrp,c9 (f8 _ _ ho hzx) hnp,c9 (old9 _ _ ho hzx) hep,fun q=>c9 (f8 _ _ ho hzx) (fr8 z q) rfl,fun q=>c9 (old _ _ ho hzx) (I13.new.2 z q) rfl⟩⟩ fun b o e n=>I13.same _ _ (old b o e n)
  have ht:t<N.length:=by
   have:=(gI hy)
   have:=I13.len
   omega
  have q:=I13.at_ t y _ hy (hP t ht)
  rw[b5,v2,F1]at q
  exact q
def a8I(H:Hp)(xs ds:List V):Bool:=match xs with
 | [.str k,_,.ref q]=>match H q with
  | some (.tup qs)=>decide (k=("set" : Str))&&T0 qs ds
  | _=>false
 | _=>false
def a3w(xs ds:List V):Bool:=match xs with
 | .str k::n::_=>(decide (k=("set" : Str))||decide (k=("copy" : Str))||decide (k=("take" : Str)))&&inV n (ds.drop 1)
 | _=>false
theorem b8A(v:V)(ds:List V):a3w [.str "tell",v] ds=false:=by
 show((decide (("tell" : Str) = "set")||decide (("tell" : Str) = "copy")||decide (("tell" : Str) = "take"))&&inV v (ds.drop 1))=false
 rw[show(decide (("tell" : Str) = "set")||decide (("tell" : Str) = "copy")||decide (("tell" : Str) = "take"))=false by decide]
 rfl
theorem c0h(v:V)(ds:List V):a3w [.str "ask",v] ds=false:=by
 show((decide (("ask" : Str) = "set")||decide (("ask" : Str) = "copy")||decide (("ask" : Str) = "take"))&&inV v (ds.drop 1))=false
 rw[show(decide (("ask" : Str) = "set")||decide (("ask" : Str) = "copy")||decide (("ask" : Str) = "take"))=false by decide]
 rfl
theorem b4R(h:b1j H xs)(t:G5 H H'):a8I H' xs ds=a8I H xs ds:=by
 cases h with
 | set n p a d=>
  obtain⟨k,v1,v2,h,_⟩:=d
  simp only[a8I,h,t _ _ h]
 | copy n v a o=>
  rcases o with ⟨s,rfl,_⟩ | ⟨z,rfl,_⟩ <;> rfl
 | take n a=>rfl
 | tell v o=>rfl
 | ask v o=>rfl
 | skip=>rfl
structure a0Q(H:Hp)(d:Addr)(ds:List V):Prop where
 h:H d=some (.tup ds)
 ex:∃k v1 v2,ds=[.str k,v1,v2]/\OpN v1/\OpN v2
theorem a0Q.ts(h:a0Q H d ds)(t:G5 H H'):a0Q H' d ds:=⟨t _ _ h.h,h.ex⟩
theorem a7b.q(h:a7b H d):∃ds,a0Q H d ds:=by
 obtain⟨k,v1,v2,h,a,b,_⟩:=h
 exact⟨_,h,k,v1,v2,rfl,a,b⟩
theorem a0Q.flat(h:a0Q H d ds):ds.all R6=true:=by
 obtain⟨k,v1,v2,rfl,a,b⟩:=h.ex
 rw[T3,T3,T3,a.flat,b.flat]
 rfl
theorem a0Q.flat1(h:a0Q H d ds):(ds.drop 1).all R6=true:=by
 obtain⟨k,v1,v2,rfl,a,b⟩:=h.ex
 simp[a.flat,b.flat]
theorem c8p(h:a0Q H d ds):inV .non (ds.drop 1)=false:=by
 obtain⟨k,v1,v2,rfl,a,b⟩:=h.ex
 show inV .non [v1,v2]=false
 rcases a with ⟨s,rfl,_⟩ | ⟨n,rfl,_⟩ <;> rcases b with ⟨s',rfl,_⟩ | ⟨n',rfl,_⟩ <;> rfl
def b9N(H:Hp)(p:Addr)(xs:List V):Prop:=H p=some (.tup xs)/\b1j H xs
theorem b9N.ts(h:b9N H p xs)(t:G5 H H'):b9N H' p xs:=⟨t _ _ h.1,h.2.ts t⟩
theorem b5d.x{a:Bool}(h:b5d H (.ref p) a):∃xs,b9N H p xs:=by
 obtain⟨q,xs,e,h1,h2,_⟩:=h
 cases e
 exact⟨xs,h1,h2⟩
theorem b1j.head(h:b1j H xs):∃k r,xs=.str k::r:=by cases h <;> exact⟨_,_,rfl⟩
theorem a8P{K:Fg}{E:XK}(hr:b9N H p xs)(hd:a0Q H d ds)(k:∀H',i9 H H'->Q (.bl (a3w xs ds)) H'):a4f K [.ref p,.ref d] H Q E:=by
 refine⟨rfl,?_⟩
 unfold b8t
 ext
 have sl:∀(v:V) H1,i9 H H1->R6 v=true->inV v (ds.drop 1)=a3w xs ds->tSl qSl (b6 1) (a9A (tC (.int 1))) a4r [some (.ref p),some (.ref d)] H1 fun y H2=>qIn false v y H2 Q:=by
  intro v H1 s1 fv e
  ext
  obtain⟨k0,v1,v2,rfl,_⟩:=hd.ex
  refine c9c (s1 _ _ hd.h) (b9c _ _) fun q H2 hq e2 s2=>?_
  rw[d1n]at e2
  refine b6h e2 fv hd.flat1 ?_
  rw[show inV v [v1,v2]=a3w xs [.str k0,v1,v2] from e]
  exact k H2 (s1.trans s2)
 have none':∀H1,i9 H H1->a3w xs ds=false->(fun(v:V) H1=>tSl qSl (b6 1) (a9A (tC (.int 1))) a4r [some (.ref p),some (.ref d)] H1 fun y H2=>qIn false v y H2 Q) .non H1:=
  fun H1 s1 e=>sl .non H1 s1 rfl (by rw[c8p hd,e])
 refine⟨rfl,?_⟩
 unfold b8u
 obtain⟨hp,hs⟩:=hr
 obtain⟨k0,r,rfl⟩:=hs.head
 ext
 exists a0g hp (a3k _ _) ?_
 refine L6 (by simp) fun q H1 hq e1 s1=>?_
 exists b6h e1 rfl rfl ?_
 cases hs with
 | set n p2 a d2=>
  exists C6 (by decide +kernel) ?_
  refine a0g (s1 _ _ hp) (b1h _ _ _) ?_
  exact sl _ H1 s1 rfl (by simp[a3w])
 | copy n v a o=>
  exists C6 (by decide +kernel) ?_
  refine a0g (s1 _ _ hp) (b1h _ _ _) ?_
  exact sl _ H1 s1 rfl (by simp[a3w])
 | take n a=>
  exists C6 (by decide +kernel) ?_
  refine a0g (s1 _ _ hp) (b1h _ _ _) ?_
  exact sl _ H1 s1 rfl (by simp[a3w])
 | tell v o=>
  refine v5 (by decide +kernel) ?_
  exact_mod_cast s_c ?_
  exact none' H1 s1 (b8A _ _)
 | ask v o=>
  refine v5 (by decide +kernel) ?_
  exact_mod_cast s_c ?_
  exact none' H1 s1 (c0h _ _)
 | skip=>
  refine v5 (by decide +kernel) ?_
  exact_mod_cast s_c ?_
  exact none' H1 s1 rfl
theorem a7K{K:Fg}{E:XK}(hr:b9N H p xs)(hd:a0Q H d ds)(k:Q (.bl (a8I H xs ds)) H):a3y K [.ref p,.ref d] H Q E:=by
 obtain⟨hp,hs⟩:=hr
 have none':a8I H xs ds=false->qEq .non (.ref d) H Q:=fun e=>⟨false,d1m hd.h,by rw[e]at k;exact k⟩
 refine⟨rfl,?_⟩
 unfold c4F
 ext
 refine⟨rfl,?_⟩
 unfold b6c
 obtain⟨k0,r,rfl⟩:=hs.head
 ext
 exists a0g hp (a3k _ _) ?_
 cases hs with
 | set n p2 a d2=>
  exists C6 (by decide) ?_
  exists a0g hp (c6s _ _ _ _) ?_
  obtain⟨k1,w1,w2,h2,o1,o2,_⟩:=d2
  refine⟨_,c1Z h2 hd.h (by rw[T3,T3,T3,o1.flat,o2.flat];rfl) hd.flat,?_⟩
  simp only[a8I,h2]at k
  simpa using k
 | copy n v a o=>
  exists v5 (by decide) ?_
  refine none' ?_
  rcases o with ⟨s,rfl,_⟩ | ⟨z,rfl,_⟩ <;> rfl
 | take n a=>
  exists v5 (by decide) ?_
  exact none' rfl
 | tell v o=>
  exists v5 (by decide) ?_
  exact none' rfl
 | ask v o=>
  exists v5 (by decide) ?_
  exact none' rfl
 | skip=>
  exists v5 (by decide) ?_
  exact none' rfl
theorem b2M{K:Fg}{E:XK}(hr:b9N H p xs)(hd:a0Q H d ds)(k:Q (.bl (a8I H xs ds)) H):a4J K [.ref p,.ref d] H Q E:=by
 obtain⟨hp,hs⟩:=hr
 refine⟨rfl,?_⟩
 unfold b3T
 obtain⟨k0,r,rfl⟩:=hs.head
 ext
 exists a0g hp (a3k _ _) ?_
 cases hs with
 | set n p2 a d2=>
  exists C6 (by decide) ?_
  exists a0g hp (c6s _ _ _ _) ?_
  obtain⟨k1,w1,w2,h2,o1,o2,_⟩:=d2
  refine⟨_,c1Z h2 hd.h (by rw[T3,T3,T3,o1.flat,o2.flat];rfl) hd.flat,?_⟩
  simp only[a8I,h2]at k
  simpa using k
 | copy n v a o=>
  refine v5 (by decide) ?_
  have:a8I H [.str "copy",.str n,v] ds=false:=by rcases o with ⟨s,rfl,_⟩ | ⟨z,rfl,_⟩ <;> rfl
  rw[this]at k
  exact k
 | take n a=>exact v5 (by decide) k
 | tell v o=>exact v5 (by decide) k
 | ask v o=>exact v5 (by decide) k
 | skip=>exact v5 (by decide) k
theorem c1S{ti:TIp}{x:V}(e:σ[n]? = some (some x))(h:te σ H fun y H1=>ti x y H1 fun z H2=>D.nx (σ.set n (some z)) H2):c0f n te ti D σ H:=⟨x,e,h⟩
theorem d2S{K:Fg}(k:∀d H',H d=none->H' d=some (.dK [(Sum.inl 0,.ref a)])->i9 H H'->Q (.ref d) H'):b8y ((tC (.int 0),tC (.ref a))::[]) σ H Q:=by
 intro d hd
 refine⟨c8,[(Sum.inl 0,.ref a)],rfl,by simp,?_⟩
 have e:(upd (upd H d (.dK [])) d (.dK (b0c [] [(Sum.inl 0,V.ref a)])))=upd H d (.dK [(Sum.inl 0,.ref a)]):=by rw[b3n];rfl
 rw[e]
 exact k d _ hd c8 (z6 hd)
def a5W(H:Hp)(rs:List Addr)(ds:List V)(Do Sp:Nat->Bool):Prop:=∀(p:Nat) rx,rs[p]? = some rx->∃xs,b9N H rx xs/\a8I H xs ds=Do p/\a3w xs ds=Sp p
theorem a5W.ts{Sp:Nat->Bool}(h:a5W H rs ds Do Sp)(t:G5 H H'):a5W H' rs ds Do Sp:=fun p rx e=>by
 obtain⟨xs,q1,q2,q3⟩:=h p rx e
 exact⟨xs,q1.ts t,by rw[b4R q1.2 t];exact q2,q3⟩
theorem a5W.ex(hr:a0O H a N)(h:H a=some (.lst (rs.map V.ref)))(ds:List V):∃Do Sp,a5W H rs ds Do Sp:=by
 obtain⟨rs',r1,r2,r3⟩:=hr.ex
 obtain rfl:rs'=rs:=by
  rw[h]at r1
  exact(a6I (f:=V.ref) (fun a b h=>V.ref.inj h) |>.mp (HO.lst.inj (Option.some.inj r1))).symm
 refine⟨fun p=>match rs'[p]? with | some rx=>(match H rx with | some (.tup xs)=>a8I H xs ds | _=>false) | none=>false,fun p=>match rs'[p]? with | some rx=>(match H rx with | some (.tup xs)=>a3w xs ds | _=>false) | none=>false,fun p rx e=>?_⟩
 have hp:p<N.length:=by rw[<-r2];exact(gI e)
 obtain⟨xs,q⟩:=(r3 p rx _ e (L8 hp)).x
 refine⟨xs,q,?_,?_⟩
 ·simp only[e,q.1]
 ·simp only[e,q.1]
def Jst(N:Nt)(Do Sp:Nat->Bool)(S:List Nat)(i:Nat)(s:Stp)(t:Nat):Prop:=
 (i=0/\s=FST/\t=0)\/∃(p q:Nat) (l:List Nat),s=((p:Int),(q:Int))/\N[p]? = some l/\l[q]? = some t/\(Sp p=true\/∃j,j<i/\S[j]? = some p/\Do p=false)
theorem Jst.grow{Sp:Nat->Bool}{S ext:List Nat}(h:Jst N Do Sp S i s t):Jst N Do Sp (S++ext) i s t:=by
 rcases h with h | ⟨p,q,l,h1,h2,h3,h4⟩
 ·exact .inl h
 ·refine .inr ⟨p,q,l,h1,h2,h3,?_⟩
  rcases h4 with h4 | ⟨j,j1,j2,j3⟩
  ·exact .inl h4
  ·exact .inr ⟨j,j1,by rw[o3 (gI j2)];exact j2,j3⟩
structure CbK(K:Fg)(H:Hp)(d:Addr)(N:Nt)(Do Sp:Nat->Bool)(S:List Nat)(kvs:List (Key×V)):Prop where
 hd:H d=some (.dK kvs)
 nd:S.Nodup
 lt:∀t∈S,t<N.length
 len:kvs.length=S.length
 z:S[0]? = some 0
 at_:∀(i:Nat) t,S[i]? = some t->∃a s,kvs[i]? = some (Sum.inl (t:Int),.ref a)/\a0x K H a s/\Jst N Do Sp S i s t
theorem CbK.keys{K:Fg}{Sp:Nat->Bool}{S:List Nat}(h:CbK K H d N Do Sp S kvs):kvs.map (·.1)=S.map fun(t:Nat)=>(Sum.inl (t:Int):Key):=by
 apply a4C
 intro i
 rw[a9,a9]
 cases e:S[i]? with
 | none=>
  have:kvs[i]? = none:=by
   rw[Y4]at e ⊢
   have:=h.len
   omega
  rw[this];rfl
 | some t=>
  obtain⟨a,s,q,_⟩:=h.at_ i t e
  rw[q];rfl
theorem CbK.ndk{K:Fg}{Sp:Nat->Bool}{S:List Nat}(h:CbK K H d N Do Sp S kvs):(kvs.map (·.1)).Nodup:=by
 rw[h.keys]
 refine a1v _ (fun a b hab z=>hab ?_) h.nd
 have:=Sum.inl.inj z
 omega
theorem CbK.in_{K:Fg}{Sp:Nat->Bool}{S:List Nat}(h:CbK K H d N Do Sp S kvs)(t:Nat):(a7j kvs (Sum.inl (t:Int))).isSome=decide (t∈S):=by
 by_cases ht:t∈S
 ·rw[d5r ht]
  obtain⟨i,hi⟩:=z7.mp ht
  obtain⟨a,s,q,_⟩:=h.at_ i t hi
  rw[b3P h.ndk (mI q)]
  rfl
 ·rw[d5q ht]
  cases e:a7j kvs (Sum.inl (t:Int))with
  | none=>rfl
  | some v=>
   have:=c1M e
   rw[h.keys]at this
   obtain⟨u,hu,z⟩:=A2.mp this
   have:=Sum.inl.inj z
   exact absurd (show t ∈ S from (by have : u = t := by omega
                                     exact this ▸ hu)) ht
theorem CbK.notin{K:Fg}{Sp:Nat->Bool}{S:List Nat}(h:CbK K H d N Do Sp S kvs)(t:Nat):∃o,b1n H d (.int (t:Int)) o/\o.isSome=decide (t∈S):=⟨_,b1n.k (k:=Sum.inl (t:Int)) h.hd,h.in_ t⟩
theorem CbK.same{K:Fg}{Sp:Nat->Bool}{S:List Nat}(h:CbK K H d N Do Sp S kvs)(s:i9 H H'):CbK K H' d N Do Sp S kvs:=
 ⟨s _ _ h.hd,h.nd,h.lt,h.len,h.z,fun i t e=>let⟨a,st,q1,q2,q3⟩:=h.at_ i t e; ⟨a,st,q1,q2.ts (i9.ts s),q3⟩⟩
theorem CbK.add{K:Fg}{Sp:Nat->Bool}{S:List Nat}(h:CbK K H d N Do Sp S kvs)(ht:¬t∈S)(hlt:t<N.length)(ha:a0x K H a s)(hj:Jst N Do Sp S S.length s t) :
  CbK K (upd H d (.dK (a2l kvs (Sum.inl (t:Int)) (.ref a)))) d N Do Sp (S++[t]) (a2l kvs (Sum.inl (t:Int)) (.ref a)):=by
 have e:a2l kvs (Sum.inl (t:Int)) (.ref a)=kvs++[(Sum.inl (t:Int),.ref a)]:=by
  unfold a2l
  rw[a5s,h.in_,d5q ht,if_neg (by decide)]
 rw[e]
 have ts:G5 H (upd H d (.dK (kvs++[(Sum.inl (t:Int),.ref a)]))):=fun b xs q=>by rw[g9 (N8 q h.hd (by intro z;cases z))];exact q
 refine⟨c8,?_,fun u hu=>?_,by simp[h.len],?_,fun i u hu=>?_⟩
 ·rw[a2r]
  exact⟨h.nd,by simp,fun x hx y hy=>by rw[o0.mp hy];intro z;exact ht (z ▸ hx)⟩
 ·rcases u0.mp hu with q | q
  ·exact h.lt u q
  ·rw[o0.mp q];exact hlt
 ·rw[o3 (u8.mp h.z).1];exact h.z
 ·rcases Z8 hu with ⟨hi,g⟩ | ⟨hi,g⟩
  ·obtain⟨a',s',q1,q2,q3⟩:=h.at_ i u g
   exact⟨a',s',by rw[o3 (gI q1)];exact q1,q2.ts ts,q3.grow⟩
  ·subst g
   refine⟨a,s,?_,ha.ts ts,?_⟩
   ·rw[hi,<-h.len];simp
   ·rw[hi];exact hj.grow
structure CbI(K:Fg)(H0 H:Hp)(d o:Addr)(N:Nt)(Do Sp:Nat->Bool)(S:List Nat)(kvs:List (Key×V)):Prop where
 cb:CbK K H d N Do Sp S kvs
 same:i9 H0 H
 ho:H o=some (.lst (IL S))
 fr:H0 d=none/\H0 o=none
theorem CbI.next{K:Fg}{o:Addr}{Sp:Nat->Bool}{S:List Nat}(h:CbI K H0 H d o N Do Sp S kvs)(s:i9 H H'):CbI K H0 H' d o N Do Sp S kvs:=⟨h.cb.same s,h.same.trans s,s _ _ h.ho,h.fr⟩
theorem c8B{K:Fg}{o:Addr}{Sp:Nat->Bool}{S:List Nat}{a b f g p q:Nat}(ha:σ[a]? = some (some (.int (t:Int))))(hb:σ[b]? = some (some (.ref d)))(he:σ[e]? = some (some (.int (p:Int))))(hf:σ[f]? = some (some (.int (q:Int))))(hg:σ[g]? = some (some (.ref o)))
  (I:CbI K H0 H d o N Do Sp S kvs) (h400:N.length<=400) (hl:N[p]? = some l) (ht:l[q]? = some t) (htn:t<N.length) (hj:Sp p=true\/∃j:Nat,S[j]? = some p/\Do p=false)
  (k:∀H' S' kvs',CbI K H0 H' d o N Do Sp S' kvs'->(∃ext,S'=S++ext)->t∈S'->D.nx σ H') :
  O3 (tB (a0T (b6 a) (b6 b))) (v6 (a3G (b6 b) (b6 a) (a4H (b4 (b6 e) (b4 (b6 f) (g8))))) (a0n (tBM K "list" Y0 (b6 g) (b4 (b6 a) (g8))))) (F0) D σ H:=by
 exact_mod_cast d2g ?_
 exact_mod_cast c9G ?_
 exact_mod_cast a1V ?_
 exact_mod_cast X2 ha ?_
 exact_mod_cast X2 hb ?_
 obtain⟨o',g1,g2⟩:=I.cb.notin t
 refine⟨d,o',rfl,g1,?_⟩
 rw[g2]
 refine⟨_,rfl,?_⟩
 by_cases hts:t∈S
 ·refine v5 (by rw[d5r hts];rfl) ?_
  exact_mod_cast b6Z ?_
  exact k H S kvs I ⟨[],by simp⟩ hts
 refine C6 (by rw[d5q hts];rfl) ?_
 exact_mod_cast K6 ?_
 exact_mod_cast a7r ?_
 exact_mod_cast c8Z ?_
 exact_mod_cast Z9 ?_
 exact_mod_cast X2 he ?_
 exact_mod_cast Z9 ?_
 exact_mod_cast X2 hf ?_
 exact_mod_cast a6h ?_
 refine L6 (by simp) fun z H1 hz e1 s1=>?_
 have I1:=I.next s1
 exact_mod_cast X2 hb ?_
 exact_mod_cast X2 ha ?_
 have hlen:S.length<=400:=D9 (a3M _ _ I.cb.nd I.cb.lt) h400
 refine⟨d,_,rfl,b5S.k (k:=Sum.inl (t:Int)) I1.cb.hd (F4 (by rw[I.cb.len];omega)),?_⟩
 have add:=I1.cb.add (a:=z) (s:=((p:Int),(q:Int))) hts htn (.inl e1) (.inr ⟨p,q,l,rfl,hl,ht,hj.imp id fun⟨j,j1,j2⟩=>⟨j,(gI j1),j1,j2⟩⟩)
 obtain⟨kvs',hk⟩:∃kvs',kvs'=a2l kvs (Sum.inl (t:Int)) (.ref z):=⟨_,rfl⟩
 rw[<-hk]at add ⊢
 obtain⟨H2,hH2⟩:∃H2,H2=upd H1 d (.dK kvs'):=⟨_,rfl⟩
 rw[<-hH2]at add ⊢
 have nod:o≠d:=N8 I1.ho I1.cb.hd (by intro z;cases z)
 have ho2:H2 o=some (.lst (IL S)):=by rw[hH2,g9 nod];exact I1.ho
 have s2:i9 H0 H2:=fun b' o'' q'=>by rw[hH2,g9 (c9 q' I.fr.1)];exact I1.same _ _ q'
 exact_mod_cast c0x ?_
 exact_mod_cast a8c ?_
 exact_mod_cast X2 hg ?_
 refine⟨Z6 ho2,?_⟩
 exact_mod_cast Z9 ?_
 exact_mod_cast X2 ha ?_
 exact_mod_cast a6h ?_
 refine a0E ho2 (F4 (by rw[D2];omega)) ?_
 have e3:IL S++[V.int (t:Int)]=IL (S++[t]):=by simp[IL]
 rw[e3]
 have ts:G5 H2 (upd H2 o (.lst (IL (S++[t])))):=G5.put ho2
 refine k _ (S++[t]) kvs' ⟨⟨by rw[g9 nod.symm];exact add.hd,add.nd,add.lt,add.len,add.z,fun i u hu=>let⟨a',s',q1,q2,q3⟩:=add.at_ i u hu; ⟨a',s',q1,q2.ts ts,q3⟩⟩,fun b' o'' q'=>by rw[g9 (c9 q' I.fr.2)];exact s2 _ _ q',c8,I.fr⟩ ⟨[t],rfl⟩ (by simp)
structure a3g(c:Cn)(H:Hp)(x:Addr)(N:Nt)(rs:List Addr):Prop where
 ex:∃dx fs n r,H x=some (.ins c.M8 dx fs)/\fs.lookup ("nexts" : Str)=some (V.ref n)/\J5 H n N/\fs.lookup ("rows" : Str)=some (V.ref r)/\H r=some (.lst (rs.map V.ref))/\rs.length=N.length
theorem a3g.x{x:Addr}(h:a3g c H x N rs):c2j c H x N:=by
 obtain⟨dx,fs,n,r,h1,h2,h3,_⟩:=h.ex
 exact⟨dx,fs,n,h1,h2,h3⟩
theorem a3g.same{x:Addr}(h:a3g c H x N rs)(s:i9 H H'):a3g c H' x N rs:=by
 obtain⟨dx,fs,n,r,h1,h2,h3,h4,h5,h6⟩:=h.ex
 exact⟨dx,fs,n,r,s _ _ h1,h2,h3.same s,h4,s _ _ h5,h6⟩
theorem a7a.r{K:Fg}{x:Addr}(h:a7a K c Z rs H x N):a3g c H x N rs:=by
 obtain⟨dx,r,n,e,es,ns,h1,⟨h2,h2r⟩,h3,h4,h5,h6,h7,h8,_⟩:=h.ex
 refine⟨dx,_,n,r,h1,rfl,⟨ns,h3,h4,h5⟩,rfl,h2r,?_⟩
 obtain⟨rs',q1,q2,_⟩:=h2.ex
 rw[h2r]at q1
 have:=congrArg b5T (HO.lst.inj (Option.some.inj q1))
 rw[b5,b5]at this
 omega
theorem b4u{K:Fg}{x o:Addr}{Sp:Nat->Bool}{S:List Nat}{p:Nat}{E:XK}(ck:a0R K c)(hp:c2j c H0 x N)(hv:Q9 N)(I:CbI K H0 H d o N Do Sp S kvs)(hl:N[p]? = some l)(hj:Sp p=true\/∃j:Nat,S[j]? = some p/\Do p=false)
  (k:∀H' S' kvs',CbI K H0 H' d o N Do Sp S' kvs'->(∃ext,S'=S++ext)->(∀t∈l,t∈S')->Q .non H'):a5A K [.ref x,.int (p:Int),.ref d,.ref o] H Q E:=by
 obtain⟨dx,fs,n,hx,hf,hn⟩:=hp
 refine⟨rfl,?_⟩
 unfold b5Z
 specialize a0p (a6i ?_)
 specialize Q8 ?_
 exists ⟨x,_,dx,fs,_,rfl,I.same _ _ hx,ck.N4,ck.U9,hf,?_⟩
 obtain⟨xs,y,f1,f2,f3,_⟩:=hn.at hl
 exists J1 (I.same _ _ f1) f2 ?_
 refine⟨y,rfl,⟨_,SqL.of (I.same _ _ f3)⟩,?_⟩
 have hlt:=hv.lt l (mI hl)
 refine b2N l.length (fun i σ H'=>∃y4 y5 S' kvs',σ=[some (.ref x),some (.int (p:Int)),some (.ref d),some (.ref o),y4,y5]/\CbI K H0 H' d o N Do Sp S' kvs'/\(∃ext,S'=S++ext)/\∀t∈l.take i,t∈S') ?_ ?_ ?_ ?_
 ·exact⟨_,_,S,kvs,rfl,I,⟨[],by simp⟩,by simp⟩
 ·rintro _ H' ⟨y4,y5,S',kvs',rfl,I',e',g'⟩
  rw[F1]at g'
  exact⟨⟨_,SqL.of (I'.same _ _ f3),by rw[D2];exact j5 _⟩,k H' S' kvs' I' e' g'⟩
 ·rintro i _ H' hi ⟨y4,y5,S',kvs',rfl,I',e',g'⟩
  exact⟨_,_,SqL.of (I'.same _ _ f3),by unfold IL;rw[a9,c5 hi];rfl⟩
 ·rintro i _ H' hi ⟨y4,y5,S',kvs',rfl,I',⟨ext,e'⟩,g'⟩ v H1 ⟨pp,w,hpp,rfl,rfl,gw⟩
  obtain⟨t,ht⟩:∃t,l[i]? = some t:=⟨_,c5 hi⟩
  have gw:=gw _ (SqL.of (I'.same _ _ f3))
  unfold IL at gw
  rw[a9,ht]at gw
  cases gw
  refine a6j (SqT.of c8) ?_
  have I1:=I'.next (z6 (o:=.tup [V.int (i:Int),V.int (t:Int)]) hpp)
  refine c8B (p:=p) (q:=i) (t:=t) (l:=l) rfl rfl rfl rfl rfl I1 hv.le hl ht (hlt t (mI ht)) ?_ fun H2 S2 kvs2 I2 ⟨ext2,e2⟩ t2=>?_
  ·rcases hj with hj | ⟨j,j1,j2⟩
   ·exact .inl hj
   ·exact .inr ⟨j,by rw[e',o3 (gI j1)];exact j1,j2⟩
  ·refine⟨_,_,S2,kvs2,rfl,I2,⟨ext++ext2,by rw[e2,e',a7R]⟩,fun u hu=>?_⟩
   rw[E9,ht]at hu
   rcases u0.mp hu with q | q
   ·rw[e2];exact v8 _ (g' u q)
   ·have:u=t:=by simpa using q
    subst this;exact t2
structure d1u(N:Nt)(Do Sp:Nat->Bool)(S:List Nat):Prop where
 sp:∀(p:Nat) l,Sp p=true->N[p]? = some l->∀t∈l,t∈S
 no:∀(p:Nat) l,p∈S->Do p=false->N[p]? = some l->∀t∈l,t∈S
theorem c6o{K:Fg}{o:Addr}{Sp:Nat->Bool}(ck:a0R K c)(hv:Q9 N)(hd:H d=some (.dK [(Sum.inl 0,.ref c.M7)]))(ho:H o=some (.lst [.int 0]))(s:i9 H0 H)(f1:H0 d=none)(f2:H0 o=none):CbI K H0 H d o N Do Sp [0] [(Sum.inl 0,.ref c.M7)]:=by
 refine⟨⟨hd,by simp,by simpa using hv.pos,rfl,rfl,fun i t hi=>?_⟩,s,ho,f1,f2⟩
 cases i with
 | zero=>
  cases hi
  exact⟨_,FST,rfl,.inr ⟨rfl,ck.Y5⟩,.inl ⟨rfl,rfl,rfl⟩⟩
 | succ i=>simp at hi
def BL(n:Nat)(f:Nat->Bool):List V:=(v9 n).map fun p=>V.bl (f p)
theorem d1B(n:Nat)(f:Nat->Bool):(BL n f).length=n:=by simp[BL]
theorem c9q{p:Nat}{f:Nat->Bool}(h:p<n):atI (BL n f) (p:Int)=some (V.bl (f p)):=a0v (by unfold BL;rw[a9,a3i h];rfl)
theorem b1A{K:Fg}{x ma br:Addr}{Sp:Nat->Bool}{E:XK}(ck:a0R K c)(hp:a3g c H x N rs)(hv:Q9 N)(hm:H ma=some (.lst (BL N.length Do)))(hb:H br=some (.lst (BL N.length Sp)))
  (k:∀d H' S kvs,CbK K H' d N Do Sp S kvs->d1u N Do Sp S->i9 H H'->Q (.ref d) H'):a2g K c [.ref x,.ref ma,.ref br] H Q E:=by
 have h400:=hv.le
 obtain⟨dx,fs,n,r,hx,hfn,hn,hfr,hr,lr⟩:=hp.ex
 refine⟨rfl,?_⟩
 unfold a7U
 nofun
 exists d2S (K:=K) fun d H1 hd1 e1 s1=>?_
 nofun
 exists L6 (by simp) fun o H2 ho e2 s2=>?_
 have I2:CbI K H H2 d o N Do Sp [0] _:=c6o ck hv (s2 _ _ e1) e2 (s1.trans s2) hd1 (s1.free ho)
 exact_mod_cast a5a (P:=fun σ H3=>∃y5 S kvs,σ=[some (.ref x),some (.ref ma),some (.ref br),some (.ref d),some (.ref o),y5,none]/\CbI K H H3 d o N Do Sp S kvs/\∀(p:Nat) l,Sp p=true->N[p]? = some l->∀t∈l,t∈S) ?_ ?_
 rotate_left
 ·intro nx hnx
  specialize a0p (a1n ?_)
  specialize Q8 ?_
  exists ⟨x,_,dx,fs,_,rfl,I2.same _ _ hx,ck.N4,ck.P4,hfr,?_⟩
  refine L7 (I2.same _ _ hr) ?_
  rw[b5,lr]
  refine⟨N.length,rfl,by omega,by omega,?_⟩
  rw[A5]
  refine a0l (fun i σ H3=>∃y5 S kvs,σ=[some (.ref x),some (.ref ma),some (.ref br),some (.ref d),some (.ref o),y5,none]/\CbI K H H3 d o N Do Sp S kvs/\∀(p:Nat) l,p<i->Sp p=true->N[p]? = some l->∀t∈l,t∈S) ⟨_,[0],_,rfl,I2,by omega⟩ ?_ ?_
  ·rintro i _ H3 hi ⟨y5,S,kvs,rfl,I3,g3⟩
   rw[U4]
   ext
   exists J1 (I3.same _ _ hb) (c9q hi) ?_
   refine a3j (fun e=>?_) (fun e=>?_)
   ·ext
    refine b4u ck hp.x hv I3 (L8 hi) (.inl e) fun H6 S6 kvs6 I6 ⟨ext,e6⟩ g6=>?_
    refine⟨_,S6,kvs6,rfl,I6,fun p l hpi hsp hl t ht=>?_⟩
    by_cases q:p=i
    ·subst q
     rw[L8 hi]at hl
     cases hl
     exact g6 t ht
    ·rw[e6]
     exact v8 _ (g3 p l (by omega) hsp hl t ht)
   ·ext
    refine⟨_,S,kvs,rfl,I3,fun p l hpi hsp hl t ht=>?_⟩
    by_cases q:p=i
    ·subst q;exact(e hsp).elim
    ·exact g3 p l (by omega) hsp hl t ht
  ·rintro _ H3 ⟨y5,S,kvs,rfl,I3,g3⟩
   exact hnx _ _ ⟨y5,S,kvs,rfl,I3,fun p l a b=>g3 p l (gI b) a b⟩
 rintro _ H3 ⟨y5,S3,kvs3,rfl,I3,g3⟩
 nofun
 exact_mod_cast K6 ?_
 exact_mod_cast b0I ?_
 refine⟨fun m σ H4=>∃(y5:Option V) (S:List Nat) (kvs:List (Key×V)) (dn:Nat),σ=[some (.ref x),some (.ref ma),some (.ref br),some (.ref d),some (.ref o),y5,some (.int (dn:Int))]/\CbI K H H4 d o N Do Sp S kvs/\(∀(p:Nat) l,Sp p=true->N[p]? = some l->∀t∈l,t∈S)/\dn<=S.length/\(∀(j p:Nat) l,j<dn->S[j]? = some p->Do p=false->N[p]? = some l->∀t∈l,t∈S)/\m=N.length - dn,
  ⟨_,y5,S3,kvs3,0,rfl,I3,g3,by omega,by omega,rfl⟩,?_⟩
 rintro m _ H4 ⟨y5,S,kvs,dn,rfl,I4,g4,hdn,c4,rfl⟩
 ext
 exists L7 I4.ho ?_
 rw[D2]
 have hSl:S.length<=N.length:=a3M _ _ I4.cb.nd I4.cb.lt
 by_cases hlt:dn<S.length
 ·refine C6 (d5r (by omega)) ?_
  obtain⟨p,hpS⟩:∃p,S[dn]? = some p:=⟨_,c5 hlt⟩
  have hpn:=I4.cb.lt p (mI hpS)
  refine⟨fun σ H5=>∃(m':Nat) (y5:Option V) (S:List Nat) (kvs:List (Key×V)) (dn':Nat),σ=[some (.ref x),some (.ref ma),some (.ref br),some (.ref d),some (.ref o),y5,some (.int (dn':Int))]/\CbI K H H5 d o N Do Sp S kvs/\(∀(p:Nat) l,Sp p=true->N[p]? = some l->∀t∈l,t∈S)/\dn'<=S.length/\(∀(j p:Nat) l,j<dn'->S[j]? = some p->Do p=false->N[p]? = some l->∀t∈l,t∈S)/\m'=N.length - dn'/\m'<N.length - dn,?_,?_⟩
  ·rintro σ' H5 ⟨m',y4,S,kvs,dn',e,r1,r2,r3,r4,r5,r6⟩
   exact⟨m',r6,y4,S,kvs,dn',e,r1,r2,r3,r4,r5⟩
  nofun
  exists J1 I4.ho (b1l hpS) ?_
  exact_mod_cast K6 ?_
  specialize c1S rfl ?_
  exists J1 (I4.same _ _ hm) (c9q hpn) ?_
  have e1:(dn:Int)+1=((dn+1:Nat):Int):=by omega
  cases hDo:Do p with
  | true=>
   exists v5 rfl ?_
   rw[e1]
   refine⟨_,_,S,kvs,dn+1,rfl,I4,g4,by omega,fun j p' l hj hj2 hD hl t ht=>?_,rfl,by omega⟩
   by_cases q:j=dn
   ·subst q
    rw[hpS]at hj2
    cases hj2
    rw[hDo]at hD
    cases hD
   ·exact c4 j p' l (by omega) hj2 hD hl t ht
  | false=>
   exists C6 rfl ?_
   rw[e1]
   refine b4u ck hp.x hv I4 (L8 hpn) (.inr ⟨dn,hpS,hDo⟩) fun H6 S6 kvs6 I6 ⟨ext,e6⟩ g6=>?_
   refine⟨_,_,S6,kvs6,dn+1,rfl,I6,fun p' l a b t ht=>by rw[e6];exact v8 _ (g4 p' l a b t ht),by rw[e6,p5];omega,fun j p' l hj hj2 hD hl t ht=>?_,rfl,by omega⟩
   have hj3:S[j]? = some p':=by rw[e6,o3 (by omega)]at hj2;exact hj2
   by_cases q:j=dn
   ·subst q
    rw[hpS]at hj3
    cases hj3
    rw[L8 hpn]at hl
    cases hl
    exact g6 t ht
   ·rw[e6];exact v8 _ (c4 j p' l (by omega) hj3 hD hl t ht)
 ·exists v5 (d5q (by omega)) ?_
  refine k d H4 S kvs I4.cb ⟨g4,fun p l hp' hD hl t ht=>?_⟩ I4.same
  obtain⟨j,hj⟩:=z7.mp hp'
  have:=(gI hj)
  exact c4 j p l (by omega) hj hD hl t ht
inductive Fw(N:Nt):Stp->List Stp->Nat->Prop
 | one {s:Stp}:a0P N s->Fw N s [] (E4 N s)
 | cons {s s':Stp} {r:List Stp} {t:Nat}:a0P N s->s'.1=(E4 N s:Int)->Fw N s' r t->Fw N s (s'::r) t
theorem a5L{p q:Nat}:¬(((p:Int),(q:Int)):Stp)=FST:=by
 unfold FST
 intro z
 have:=congrArg Prod.fst z
 simp at this
structure Rdy(K:Fg)(c:Cn)(H:Hp)(rx x dd:Addr)(N:Nt)(rs:List Addr)(ds:List V)(Do Sp:Nat->Bool)(S:List Nat):Prop where
 ex:∃dx d kvs,H rx=some (.ins c.Z0 dx [("plan",.ref x),("deed",.ref dd),("come_by",.ref d)])/\CbK K H d N Do Sp S kvs
 plan:a3g c H x N rs
 deed:a0Q H dd ds
 sat:a5W H rs ds Do Sp
 shut:d1u N Do Sp S
theorem Rdy.same{K:Fg}{x:Addr}{Sp:Nat->Bool}{S:List Nat}(h:Rdy K c H rx x dd N rs ds Do Sp S)(s:i9 H H'):Rdy K c H' rx x dd N rs ds Do Sp S:=by
 obtain⟨dx,d,kvs,h1,h2⟩:=h.ex
 exact⟨⟨dx,d,kvs,s _ _ h1,h2.same s⟩,h.plan.same s,h.deed.ts (i9.ts s),h.sat.ts (i9.ts s),h.shut⟩
theorem c2d{K:Fg}{x:Addr}{f:Nat->Bool}(ck:a0R K c)(hp:a3g c H x N rs)(hv:Q9 N)(hσ:σ[1]? = some (some (.ref x)))
  (step:∀(p:Nat) rx H',rs[p]? = some rx->i9 H H'->∀R:VK,(∀H'',i9 H' H''->R (.bl (f p)) H'')->te (some (.ref rx)::σ) H' R)
  (k:∀D H',H D=none->H' D=some (.lst (BL N.length f))->i9 H H'->Q (.ref D) H'):O5 (O0 K (Z1 K (b6 1) "rows")) Q7 te σ H Q:=by
 have h400:=hv.le
 obtain⟨dx,fs,n,r,hx,hfn,hn,hfr,hr,lr⟩:=hp.ex
 exact_mod_cast U3 (P8 ?_)
 exact_mod_cast Q8 ?_
 exact_mod_cast X2 hσ ?_
 refine⟨x,_,dx,fs,_,rfl,hx,ck.N4,ck.P4,hfr,?_⟩
 refine⟨r,rfl,⟨_,SqL.of hr⟩,fun D hD=>?_⟩
 refine U0 (xs:=rs.map V.ref) (fun i ys H8=>ys=BL i f/\H8 D=some (.lst ys)/\i9 H H8) ?_ ?_ ?_ ?_ ?_
 ·exact⟨rfl,c8,z6 hD⟩
 ·rintro i ys H8 ⟨_,h,_⟩
  exact h
 ·rintro i ys H8 _ ⟨_,_,s8⟩
  exact SqL.of (s8 _ _ hr)
 ·rintro i y ys H8 hy ⟨rfl,hD8,s8⟩ R hR
  rw[a9]at hy
  cases hrx:rs[i]? with
  | none=>rw[hrx]at hy;cases hy
  | some rx=>
   rw[hrx]at hy
   cases hy
   have hi:i<rs.length:=(gI hrx)
   refine step i rx H8 hrx s8 _ fun H9 s9=>?_
   refine hR _ _ (s9 _ _ hD8) (F4 (by rw[d1B];omega)) ⟨?_,c8,fun b o e=>?_⟩
   ·unfold BL
    rw[a0i,C5]
    rfl
   ·rw[g9 (c9 e hD)];exact s9 _ _ (s8 _ _ e)
 ·rintro ys H8 ⟨rfl,hD8,s8⟩
  rw[b5,lr]at hD8
  exact k D H8 hD hD8 s8
theorem b5z{K:Fg}{x:Addr}{Sp:Nat->Bool}{E:XK}(ck:a0R K c)(hp:a3g c H x N rs)(hv:Q9 N)(hd:a0Q H dd ds)(hs:a5W H rs ds Do Sp)(hrx:H rx=none)(hdx:H dx=none)
  (k:∀H' S,Rdy K c H' rx x dd N rs ds Do Sp S->i9 H H'->Q .non H'):a2E K c [.ref rx,.ref x,.ref dd] (upd (upd H dx (.own rx)) rx (.ins c.Z0 dx [])) Q E:=by
 refine⟨rfl,?_⟩
 unfold b0A
 exact_mod_cast K6 ?_
 specialize a0K ?_
 refine⟨rx,_,dx,[],rfl,c8,ck.a1D,ck.a4D,by simp,?_⟩
 exact_mod_cast K6 ?_
 specialize a0K ?_
 refine⟨rx,_,dx,_,rfl,c8,ck.a1D,ck.a2I,by simp[N3],?_⟩
 obtain⟨H3,hH3⟩:∃H3,H3=upd (upd (upd (upd H dx (.own rx)) rx (.ins c.Z0 dx [])) rx (.ins c.Z0 dx (N3 "plan" (.ref x) []))) rx (.ins c.Z0 dx (N3 "deed" (.ref dd) (N3 "plan" (.ref x) []))):=⟨_,rfl⟩
 rw[<-hH3]
 have x3:H3 rx=some (.ins c.Z0 dx (N3 "deed" (.ref dd) (N3 "plan" (.ref x) []))):=hH3 ▸ c8
 have s3:i9 H H3:=fun b o e=>by
  have n1:=c9 e hrx
  rw[hH3,g9 n1,g9 n1,g9 n1,g9 (c9 e hdx)];exact e
 have hs3:=hs.ts (i9.ts s3)
 have hd3:=hd.ts (i9.ts s3)
 exact_mod_cast K6 ?_
 refine b6Y ?_
 refine c2d ck (hp.same s3) hv (f:=Do) rfl (fun p ax H4 hax s4 R hR=>?_) fun ma H4 hma e4 s4=>?_
 ·obtain⟨xs,x1,x2,x3⟩:=hs3 p ax hax
  ext
  refine a7K (x1.ts (i9.ts s4)) (hd3.ts (i9.ts s4)) ?_
  rw[b4R x1.2 (i9.ts s4),x2]
  exact hR H4 (i9.refl _)
 have s04:=s3.trans s4
 specialize a0K ?_
 refine c2d ck (hp.same s04) hv (f:=Sp) rfl (fun p ax H5 hax s5 R hR=>?_) fun br H5 hbr e5 s5=>?_
 ·obtain⟨xs,x1,x2,x3⟩:=hs3 p ax hax
  ext
  refine a8P (x1.ts (i9.ts (s4.trans s5))) (hd3.ts (i9.ts (s4.trans s5))) fun H6 s6=>?_
  rw[x3]
  exact hR H6 s6
 ext
 have s35:=s4.trans s5
 exists b1A ck (hp.same (s3.trans s35)) hv (s5 _ _ e4) e5 fun d H6 S kvs cb sh s6=>?_
 have x4:=s6 _ _ (s35 _ _ x3)
 refine⟨rx,_,dx,_,rfl,x4,ck.a1D,ck.a2s,(by show(2:Nat)<1000;decide),?_⟩
 obtain⟨H5',hH5⟩:∃H5',H5'=upd H6 rx (.ins c.Z0 dx (N3 "come_by" (.ref d) (N3 "deed" (.ref dd) (N3 "plan" (.ref x) [])))):=⟨_,rfl⟩
 rw[<-hH5]
 have s5':i9 H H5':=fun b o e=>by rw[hH5,g9 (c9 e hrx)];exact s6 _ _ (s35 _ _ (s3 _ _ e))
 have t5:G5 H6 H5':=hH5 ▸ G5.ins x4
 refine k H5' S ⟨⟨dx,d,kvs,?_,?_⟩,hp.same s5',hd.ts (i9.ts s5'),hs.ts (i9.ts s5'),sh⟩ s5'
 ·rw[hH5,c8];rfl
 ·refine⟨?_,cb.nd,cb.lt,cb.len,cb.z,fun i t e=>?_⟩
  ·rw[hH5,g9 (N8 cb.hd x4 (by intro z;cases z))];exact cb.hd
  ·obtain⟨a,s,q1,q2,q3⟩:=cb.at_ i t e
   exact⟨a,s,q1,q2.ts t5,q3⟩
theorem c1e{K:Fg}{x:Addr}{Sp:Nat->Bool}{a b:Nat}(ck:a0R K c)(hp:a3g c H x N rs)(hv:Q9 N)(hd:a0Q H dd ds)(hs:a5W H rs ds Do Sp)(ea:σ[a]? = some (some (.ref x)))(eb:σ[b]? = some (some (.ref dd)))
  (k:∀rx H' S,H rx=none->Rdy K c H' rx x dd N rs ds Do Sp S->i9 H H'->Q (.ref rx) H'):a5x c.Z0 (a2E K c) [] E0 (b4 (b6 a) (b4 (b6 b) g8)) σ H Q:=by
 exact_mod_cast b4k ?_
 refine Z9 (X2 ea (Z9 (X2 eb (a6h ?_))))
 intro rx dx hrx hdx hne
 exact b5z ck hp hv hd hs hrx hdx fun H' S h s=>⟨rfl,k rx H' S hrx h s⟩
theorem b8N{K:Fg}{x:Addr}{Sp:Nat->Bool}{S:List Nat}{E:XK}(ck:a0R K c)(h:Rdy K c H rx x dd N rs ds Do Sp S)(k:Q (.bl (!decide (t∈S))) H):a1I K [.ref rx,.int (t:Int)] H Q E:=by
 obtain⟨dx,d,kvs,h1,cb⟩:=h.ex
 refine⟨rfl,?_⟩
 unfold a6P
 ext
 specialize a1V ?_
 specialize Q8 ?_
 refine⟨rx,_,dx,_,_,rfl,h1,ck.a1D,ck.a2s,rfl,?_⟩
 obtain⟨o',g1,g2⟩:=cb.notin t
 refine⟨d,o',rfl,g1,?_⟩
 rw[g2]
 exact k
def beh(Do Sp:Nat->Bool)(S:List Nat)(p:Nat):Bool:=if Sp p=true then false else (Do p || !decide (p∈S))
theorem b3c{K:Fg}{x:Addr}{Sp:Nat->Bool}{S:List Nat}{p:Nat}{E:XK}(ck:a0R K c)(h:Rdy K c H rx x dd N rs ds Do Sp S)(hp:p<N.length)(k:∀H',i9 H H'->Q (.bl (beh Do Sp S p)) H'):a0t K c [.ref rx,.int (p:Int)] H Q E:=by
 obtain⟨dx,d,kvs,h1,cb⟩:=h.ex
 obtain⟨dx',fs,n,r,hx,hfn,hn,hfr,hr,lr⟩:=h.plan.ex
 obtain⟨ax,hax⟩:∃ax,rs[p]? = some ax:=⟨_,c5 (by omega)⟩
 obtain⟨xs,x1,x2,x3⟩:=h.sat p ax hax
 refine⟨rfl,?_⟩
 unfold a4G
 nofun
 exact_mod_cast Q8 ?_
 specialize Q8 ?_
 refine⟨rx,_,dx,_,_,rfl,h1,ck.a1D,ck.a4D,rfl,?_⟩
 exists ⟨x,_,dx',fs,_,rfl,hx,ck.N4,ck.P4,hfr,?_⟩
 exists J1 hr (a0v (by rw[a9,hax];rfl)) ?_
 nofun
 specialize Q8 ?_
 exists ⟨rx,_,dx,_,_,rfl,h1,ck.a1D,ck.a2I,rfl,?_⟩
 exists a8P x1 h.deed fun H1 s1=>?_
 rw[x3]
 unfold beh at k
 cases hSp:Sp p with
 | true=>
  exists C6 rfl ?_
  have:=k H1 s1
  rw[if_pos hSp]at this
  exact this
 | false=>
  exists v5 rfl ?_
  specialize Q8 ?_
  exists ⟨rx,_,dx,_,_,rfl,s1 _ _ h1,ck.a1D,ck.a2I,rfl,?_⟩
  refine a7K (x1.ts (i9.ts s1)) (h.deed.ts (i9.ts s1)) ?_
  rw[b4R x1.2 (i9.ts s1),x2]
  ext
  have kk:=k H1 s1
  rw[if_neg (by rw[hSp];intro z;cases z)]at kk
  cases hDo:Do p with
  | true=>
   refine C6 rfl ?_
   rw[hDo]at kk
   exact kk
  | false=>
   exists v5 rfl ?_
   specialize W3 ?_
   exists ⟨rx,dx,_,rfl,s1 _ _ h1,rfl,?_⟩
   refine b8N ck (h.same s1) ?_
   rw[hDo]at kk
   exact kk
def onF(Do Sp:Nat->Bool)(S:List Nat)(s:Stp):Bool := !decide (s=FST)&&beh Do Sp S s.1.toNat
theorem b8M{K:Fg}{x:Addr}{Sp:Nat->Bool}{S:List Nat}{E:XK}(ck:a0R K c)(h:Rdy K c H rx x dd N rs ds Do Sp S)(ha:a0x K H a s)(hs:a0P N s)(k:∀H',i9 H H'->Q (.bl (onF Do Sp S s)) H'):a1H K c [.ref rx,.ref a] H Q E:=by
 obtain⟨dx,d,kvs,h1,cb⟩:=h.ex
 refine⟨rfl,?_⟩
 unfold a6O
 ext
 refine⟨_,_,_,_,rfl,rfl,ha.sq,ck.Y5 H,rfl,rfl,?_⟩
 rw[eq2]
 ext
 rcases hs with rfl | ⟨p,q,l,t,rfl,hl,hq⟩
 ·refine v5 rfl ?_
  exact k H (i9.refl H)
 ·refine C6 (by
   have:decide ((((p:Int),(q:Int)).1,((p:Int),(q:Int)).2)=FST)=false:=d5q a5L
   rw[this];rfl) ?_
  rcases ha with ha | ⟨z,_⟩
  rotate_left
  ·exact(a5L z).elim
  ext
  specialize W3 ?_
  exists ⟨rx,dx,_,rfl,h1,rfl,?_⟩
  exists a0g ha (a3k _ _) ?_
  refine b3c ck h (gI hl) fun H' s'=>?_
  have:=k H' s'
  unfold onF at this
  rw[d5q a5L]at this
  exact this
theorem a4n(h:a0P N s):s∈D5 N:=by
 rcases h with rfl | ⟨p,q,l,t,rfl,h1,h2⟩
 ·exact U5 ..
 ·refine G7 _ (c9r.mpr ⟨p,L9.mpr (gI h1),?_⟩)
  unfold a3v
  refine A2.mpr ⟨q,L9.mpr ?_,rfl⟩
  simp only[M0,h1,a2y]
  exact(gI h2)
theorem a8D(r n e:Addr)(m:Str)(h:m∉(["rows","nexts","entries"]:List Str)):([("rows",.ref r),("nexts",.ref n),("entries",.ref e)]:List (Str×V)).lookup m=none:=by
 rw[List.lookup_eq_none_iff]
 intro p hp
 simp only[o4,O2,or_false]at h hp
 rcases hp with rfl | rfl | rfl
 ·simp;intro z;exact h (.inl z)
 ·simp;intro z;exact h (.inr (.inl z))
 ·simp;intro z;exact h (.inr (.inr z))
theorem b0O{K:Fg}{x:Addr}{E:XK}(ck:a0R K c)(hp:a1r K c H x N)(ht:t<N.length)
  (k:∀a H',H a=none->M6 K H' a ((D5 N).filter fun s=>decide (E4 N s=t))->i9 H H'->Q (.ref a) H'):a0o K [.ref x,.int (t:Int)] H Q E:=by
 obtain⟨dx,r,n,e,es,h1,_,_,h4,h5,h6⟩:=hp.ex
 refine⟨rfl,?_⟩
 unfold a6a
 ext
 specialize Q8 ?_
 exists ⟨x,_,dx,_,.ref e,rfl,h1,ck.N4,ck.a1A,rfl,?_⟩
 obtain⟨y,hy⟩:∃y,es[t]? = some y:=⟨_,c5 (by omega)⟩
 exists J1 h4 (a0v (by rw[a9,hy];rfl)) ?_
 obtain⟨vs,v1,v2,v3⟩:=(h6 t y hy).ex
 refine a7v v1 fun l H' hl e' s'=>?_
 exact k l H' hl ⟨vs,e',v2,fun i x s a b=>(v3 i x s a b).ts (i9.ts s')⟩ s'
def c1G(N:Nt)(Do Sp:Nat->Bool)(t:Nat):Prop:=Do t=false/\(Sp t=true\/N[t]? = some [])
def Jgb(K:Fg)(H:Hp)(N:Nt)(Do Sp:Nat->Bool)(S:List Nat)(i t:Nat)(v:V):Prop:=
 (v=.non/\c1G N Do Sp t)\/∃(a:Addr) (q:Nat) (l:List Nat) (u j:Nat),v=.ref a/\a0x K H a ((t:Int),(q:Int))/\N[t]? = some l/\l[q]? = some u/\S[j]? = some u/\j<i/\Do t=false
theorem Jgb.grow{K:Fg}{Sp:Nat->Bool}{S ext:List Nat}(h:Jgb K H N Do Sp S i t v)(ts:G5 H H'):Jgb K H' N Do Sp (S++ext) i t v:=by
 rcases h with h | ⟨a,q,l,u,j,h1,h2,h3,h4,h5,h6,h7⟩
 ·exact .inl h
 ·exact .inr ⟨a,q,l,u,j,h1,h2.ts ts,h3,h4,by rw[o3 (gI h5)];exact h5,h6,h7⟩
structure GbK(K:Fg)(H:Hp)(d:Addr)(N:Nt)(Do Sp:Nat->Bool)(S:List Nat)(kvs:List (Key×V)):Prop where
 hd:H d=some (.dK kvs)
 nd:S.Nodup
 lt:∀t∈S,t<N.length
 len:kvs.length=S.length
 at_:∀(i:Nat) t,S[i]? = some t->∃v,kvs[i]? = some (Sum.inl (t:Int),v)/\Jgb K H N Do Sp S i t v
section
variable {K:Fg}{Sp:Nat->Bool}{S:List Nat}
theorem GbK.keys(h:GbK K H d N Do Sp S kvs):kvs.map (·.1)=S.map fun(t:Nat)=>(Sum.inl (t:Int):Key):=by
 apply a4C
 intro i
 rw[a9,a9]
 cases e:S[i]? with
 | none=>
  have:kvs[i]? = none:=by
   rw[Y4]at e ⊢
   have:=h.len
   omega
  rw[this];rfl
 | some t=>
  obtain⟨v,q,_⟩:=h.at_ i t e
  rw[q];rfl
theorem GbK.ndk(h:GbK K H d N Do Sp S kvs):(kvs.map (·.1)).Nodup:=by
 rw[h.keys]
 refine a1v _ (fun a b hab z=>hab ?_) h.nd
 have:=Sum.inl.inj z
 omega
theorem GbK.in_(h:GbK K H d N Do Sp S kvs)(t:Nat):(a7j kvs (Sum.inl (t:Int))).isSome=decide (t∈S):=by
 by_cases ht:t∈S
 ·rw[d5r ht]
  obtain⟨i,hi⟩:=z7.mp ht
  obtain⟨v,q,_⟩:=h.at_ i t hi
  rw[b3P h.ndk (mI q)]
  rfl
 ·rw[d5q ht]
  cases e:a7j kvs (Sum.inl (t:Int))with
  | none=>rfl
  | some v=>
   have:=c1M e
   rw[h.keys]at this
   obtain⟨u,hu,z⟩:=A2.mp this
   have:=Sum.inl.inj z
   have:u=t:=by omega
   exact absurd (this ▸ hu) ht
theorem GbK.notin(h:GbK K H d N Do Sp S kvs)(t:Nat):∃o,b1n H d (.int (t:Int)) o/\o.isSome=decide (t∈S):=⟨_,b1n.k (k:=Sum.inl (t:Int)) h.hd,h.in_ t⟩
theorem GbK.same(h:GbK K H d N Do Sp S kvs)(s:i9 H H'):GbK K H' d N Do Sp S kvs:=
 ⟨s _ _ h.hd,h.nd,h.lt,h.len,fun i t e=>by
  obtain⟨v,q1,q2⟩:=h.at_ i t e
  have:=q2.grow (ext:=[]) (i9.ts s)
  rw[P7]at this
  exact⟨v,q1,this⟩⟩
theorem GbK.add(h:GbK K H d N Do Sp S kvs)(ht:¬t∈S)(hlt:t<N.length)(hj:Jgb K H N Do Sp S S.length t v) :
  GbK K (upd H d (.dK (a2l kvs (Sum.inl (t:Int)) v))) d N Do Sp (S++[t]) (a2l kvs (Sum.inl (t:Int)) v):=by
 have e:a2l kvs (Sum.inl (t:Int)) v=kvs++[(Sum.inl (t:Int),v)]:=by
  unfold a2l
  rw[a5s,h.in_,d5q ht,if_neg (by decide)]
 rw[e]
 have ts:G5 H (upd H d (.dK (kvs++[(Sum.inl (t:Int),v)]))):=fun b xs q=>by rw[g9 (N8 q h.hd (by intro z;cases z))];exact q
 refine⟨c8,?_,fun u hu=>?_,by simp[h.len],fun i u hu=>?_⟩
 ·rw[a2r]
  exact⟨h.nd,by simp,fun x hx y hy=>by rw[o0.mp hy];intro z;exact ht (z ▸ hx)⟩
 ·rcases u0.mp hu with q | q
  ·exact h.lt u q
  ·rw[o0.mp q];exact hlt
 ·rcases Z8 hu with ⟨hi,g⟩ | ⟨hi,g⟩
  ·obtain⟨v',q1,q2⟩:=h.at_ i u g
   exact⟨v',by rw[o3 (gI q1)];exact q1,q2.grow ts⟩
  ·subst g
   refine⟨v,?_,?_⟩
   ·rw[hi,<-h.len];simp
   ·rw[hi];exact hj.grow ts
end
structure c9n(N:Nt)(Do Sp:Nat->Bool)(S:List Nat):Prop where
 en:∀t,t<N.length->c1G N Do Sp t->t∈S
 no:∀(p:Nat) l,N[p]? = some l->Do p=false->∀t∈l,t∈S->p∈S
def d1p(N:Nt)(S:List Nat)(p:Nat):Bool:=decide (0<(N.getD p []).length)&&(N.getD p []).all fun t => !decide (t∈S)
structure Wnt(K:Fg)(c:Cn)(H:Hp)(wx x:Addr)(N:Nt)(Do Sp:Nat->Bool)(S:List Nat):Prop where
 ex:∃dx d kvs,H wx=some (.ins c.R0 dx [("plan",.ref x),("goes_by",.ref d)])/\GbK K H d N Do Sp S kvs
 plan:a1r K c H x N
 shut:c9n N Do Sp S
section
variable {K:Fg}{x:Addr}{Sp:Nat->Bool}{S:List Nat}{p:Nat}{E:XK}
theorem Wnt.same(h:Wnt K c H wx x N Do Sp S)(s:i9 H H'):Wnt K c H' wx x N Do Sp S:=by
 obtain⟨dx,d,kvs,h1,h2⟩:=h.ex
 exact⟨⟨dx,d,kvs,s _ _ h1,h2.same s⟩,h.plan.same s,h.shut⟩
theorem b3v(a b:V)(m:Str)(h:m∉(["plan","goes_by"]:List Str)):([("plan",a),("goes_by",b)]:List (Str×V)).lookup m=none:=by
 have h1:m≠("plan" : Str):=fun e=>h (by rw[e];simp)
 have h2:m≠("goes_by" : Str):=fun e=>h (by rw[e];simp)
 simp[a2z,beq_eq_false_iff_ne.mpr h1,beq_eq_false_iff_ne.mpr h2]
theorem b0r(ck:a0R K c)(h:Wnt K c H wx x N Do Sp S)(k:Q (.bl (!decide (t∈S))) H):Z2 K [.ref wx,.int (t:Int)] H Q E:=by
 obtain⟨dx,d,kvs,h1,cb⟩:=h.ex
 refine⟨rfl,?_⟩
 unfold a5w
 ext
 specialize a1V ?_
 specialize Q8 ?_
 refine⟨wx,_,dx,_,_,rfl,h1,ck.a2c,ck.a1N,rfl,?_⟩
 obtain⟨o',g1,g2⟩:=cb.notin t
 refine⟨d,o',rfl,g1,?_⟩
 rw[g2]
 exact k
theorem b6H(ck:a0R K c)(h:Wnt K c H wx x N Do Sp S)(ha:a0x K H a s)(hs:a0P N s)(k:Q (.bl (!decide (E4 N s∈S))) H):a0V K c [.ref wx,.ref a] H Q E:=by
 obtain⟨dx,d,kvs,h1,cb⟩:=id h.ex
 obtain⟨dx',fs,n,hx,hf,hn⟩:=h.plan.x
 obtain⟨dx2,r,n2,e,es,p1,_⟩:=h.plan.ex
 refine⟨rfl,?_⟩
 unfold a5v
 ext
 specialize W3 ?_
 exists ⟨wx,dx,_,rfl,h1,b3v _ _ _ (by decide),?_⟩
 exact_mod_cast W3 ?_
 specialize Q8 ?_
 refine⟨wx,_,dx,_,_,rfl,h1,ck.a2c,ck.a2a,rfl,?_⟩
 exists ⟨x,dx2,_,rfl,p1,a8D r n2 e _ (by decide),?_⟩
 exists a6o ck h.plan.x ha hs ?_
 exact b0r ck h k
theorem b1x(ck:a0R K c)(h:Wnt K c H wx x N Do Sp S)(hv:Q9 N)(hp:p<N.length)(k:∀H',i9 H H'->Q (.bl (d1p N S p)) H'):T7 K c [.ref wx,.int (p:Int)] H Q E:=by
 obtain⟨dx,d,kvs,h1,cb⟩:=id h.ex
 obtain⟨dx',fs,n,hx,hf,hn⟩:=h.plan.x
 have hl:=L8 hp
 obtain⟨l,hle⟩:∃l,l=N[p]:=⟨_,rfl⟩
 rw[<-hle]at hl
 have hg:N.getD p []=l:=by simp[M0,hl]
 have l2:=hv.two l (mI hl)
 obtain⟨us,u,f1,f2,f3,_⟩:=hn.at hl
 unfold d1p at k
 rw[hg]at k
 refine⟨rfl,?_⟩
 unfold a3u
 nofun
 exact_mod_cast Q8 ?_
 specialize Q8 ?_
 refine⟨wx,_,dx,_,_,rfl,h1,ck.a2c,ck.a2a,rfl,?_⟩
 exists ⟨x,_,dx',fs,_,rfl,hx,ck.N4,ck.U9,hf,?_⟩
 exists J1 f1 f2 ?_
 refine L7 f3 ?_
 rw[D2]
 ext
 by_cases h0:0<l.length
 ·rw[d5r h0]at k
  exists C6 (d5r (by omega)) ?_
  specialize U3 (P8 ?_)
  refine⟨u,rfl,⟨_,SqL.of f3⟩,fun T hT=>?_⟩
  refine U0 (xs:=IL l) (fun i ys H8=>ys=((l.take i).map fun t=>V.bl (!decide (t∈S)))/\H8 T=some (.lst ys)/\i9 H H8) ?_ ?_ ?_ ?_ ?_
  ·exact⟨rfl,c8,z6 hT⟩
  ·rintro i ys H8 ⟨_,h,_⟩
   exact h
  ·rintro i ys H8 _ ⟨_,_,s8⟩
   exact SqL.of (s8 _ _ f3)
  ·rintro i y ys H8 hy ⟨rfl,hT8,s8⟩ R hR
   unfold IL at hy
   rw[a9]at hy
   cases hz:l[i]? with
   | none=>rw[hz]at hy;cases hy
   | some z=>
    rw[hz]at hy
    cases hy
    ext
    specialize W3 ?_
    exists ⟨wx,dx,_,rfl,s8 _ _ h1,b3v _ _ _ (by decide),?_⟩
    refine b0r ck (h.same s8) ?_
    refine hR _ _ hT8 (F4 (by rw[b5,C9];omega)) ⟨?_,c8,fun b o e=>?_⟩
    ·rw[E9,hz,C5];rfl
    ·rw[g9 (c9 e hT)];exact s8 _ _ e
  ·rintro ys H8 ⟨rfl,hT8,s8⟩
   rw[D2,F1]at hT8
   have eb:(l.map fun t=>V.bl (!decide (t∈S)))=(l.map fun t => !decide (t∈S)).map V.bl:=by rw[U1];rfl
   rw[eb]at hT8
   ext
   refine c9g hT8 ?_
   have:=k H8 s8
   rw[a8a]at this
   rw[d3e]
   exact this
 ·rw[d5q h0]at k
  refine v5 (d5q (by omega)) ?_
  exact k H (i9.refl _)
end
theorem a1J{p q:Nat}(h1:N[p]? = some l)(h2:l[q]? = some t):E4 N ((p:Int),(q:Int))=t:=by
 unfold E4
 rw[if_neg a5L]
 show(N.getD (p:Int).toNat []).getD (q:Int).toNat 0=t
 rw[A5,A5]
 simp[M0,h1,h2]
theorem d1y(a b:List Nat):IL (a++b)=IL a++IL b:=by unfold IL;rw[C5]
def b0e(N:Nt)(Do Sp:Nat->Bool)(p:Nat):Bool := !Do p&&(Sp p||decide ((N.getD p []).length=0))
structure a7Y(c:Cn)(H:Hp)(x:Addr)(N:Nt)(rs:List Addr):Prop where
 ex:∃dx fs n r,H x=some (.ins c.M8 dx fs)/\fs.lookup ("nexts" : Str)=some (V.ref n)/\J5 H n N/\fs.lookup ("rows" : Str)=some (V.ref r)/\H r=some (.lst (rs.map V.ref))/\rs.length=N.length
theorem b1z{K:Fg}{x:Addr}{Sp:Nat->Bool}{E:XK}(ck:a0R K c)(hp:a7Y c H x N rs)(hv:Q9 N)(hd:a0Q H dd ds)(hs:a5W H rs ds Do Sp)
  (k:∀D H',H D=none->H' D=some (.lst (IL ((v9 N.length).filter (b0e N Do Sp))))->i9 H H'->Q (.ref D) H'):a2f K [.ref x,.ref dd] H Q E:=by
 have h400:=hv.le
 obtain⟨dx,fs,n,r,hx,hfn,hn,hfr,hr,lr⟩:=hp.ex
 refine⟨rfl,?_⟩
 unfold a7T
 nofun
 exists L6 (by simp) fun D H1 hD e1 s1=>?_
 exact_mod_cast K6 ?_
 specialize a0p (a6i ?_)
 specialize Q8 ?_
 exists ⟨x,_,dx,fs,_,rfl,s1 _ _ hx,ck.N4,ck.P4,hfr,?_⟩
 refine⟨r,rfl,⟨_,SqL.of (s1 _ _ hr)⟩,?_⟩
 refine b2N N.length (fun i σ H2=>∃y3 y4,σ=[some (.ref x),some (.ref dd),some (.ref D),y3,y4]/\H2 D=some (.lst (IL ((v9 i).filter (b0e N Do Sp))))/\i9 H H2) ⟨_,_,rfl,e1,s1⟩ ?_ ?_ ?_
 ·rintro _ H2 ⟨y3,y4,rfl,hD2,s2⟩
  exists ⟨⟨_,SqL.of (s2 _ _ hr),by rw[b5,lr];exact j5 _⟩,?_⟩
  exact k D H2 hD hD2 s2
 ·rintro i _ H2 hi ⟨y3,y4,rfl,hD2,s2⟩
  exact⟨_,_,SqL.of (s2 _ _ hr),by rw[a9,c5 (show i<rs.length by omega)];rfl⟩
 ·rintro i _ H2 hi ⟨y3,y4,rfl,hD2,s2⟩ v H3 ⟨pp,w,hpp,rfl,rfl,gw⟩
  obtain⟨rx,hrx⟩:∃rx,rs[i]? = some rx:=⟨_,c5 (by omega)⟩
  have gw:=gw _ (SqL.of (s2 _ _ hr))
  rw[a9,hrx]at gw
  cases gw
  refine a6j (SqT.of c8) ?_
  have s3:i9 H2 (upd H2 pp (.tup [V.int (i:Int),V.ref rx])):=z6 hpp
  obtain⟨H3,hH3⟩:∃H3,H3=upd H2 pp (.tup [V.int (i:Int),V.ref rx]):=⟨_,rfl⟩
  rw[<-hH3]at s3 ⊢
  have s03:=s2.trans s3
  obtain⟨xs,x1,x2,x3⟩:=(hs.ts (i9.ts s03)) i rx hrx
  have hlp:=L8 hi
  obtain⟨lp,hle⟩:∃lp,lp=N[i]:=⟨_,rfl⟩
  rw[<-hle]at hlp
  have hg:N.getD i []=lp:=by simp[M0,hlp]
  have hb:b0e N Do Sp i=(!Do i&&(Sp i||decide (lp.length=0))):=by unfold b0e;rw[hg]
  have lf:((v9 i).filter (b0e N Do Sp)).length<=i:=by
   have:=D0 (b0e N Do Sp) (v9 i)
   rw[W9]at this
   exact this
  have skip:∀H4,i9 H3 H4->b0e N Do Sp i=false->(∃y3 y4,[some (V.ref x),some (.ref dd),some (.ref D),some (.int (i:Int)),some (.ref rx)]=[some (V.ref x),some (.ref dd),some (.ref D),y3,y4]/\H4 D=some (.lst (IL ((v9 (i+1)).filter (b0e N Do Sp))))/\i9 H H4):=fun H4 s4 e=>by
   refine⟨_,_,rfl,?_,s03.trans s4⟩
   rw[a0i,N7]
   simp only[a5b,e,a5R,if_neg (show ¬(false=true) by decide),P7]
   exact s4 _ _ (s3 _ _ hD2)
  have put:∀H4,i9 H3 H4->b0e N Do Sp i=true->(∃y3 y4,[some (V.ref x),some (.ref dd),some (.ref D),some (.int (i:Int)),some (.ref rx)]=[some (V.ref x),some (.ref dd),some (.ref D),y3,y4]/\(upd H4 D (.lst (IL ((v9 i).filter (b0e N Do Sp))++[.int (i:Int)]))) D=some (.lst (IL ((v9 (i+1)).filter (b0e N Do Sp))))/\i9 H (upd H4 D (.lst (IL ((v9 i).filter (b0e N Do Sp))++[.int (i:Int)])))):=fun H4 s4 e=>by
   refine⟨_,_,rfl,?_,fun b o q=>?_⟩
   ·rw[c8,a0i,N7]
    simp only[a5b,e,a5R,if_pos]
    rw[d1y]
    rfl
   ·rw[g9 (c9 q hD)];exact s4 _ _ (s03 _ _ q)
  ext
  refine a7K x1 (hd.ts (i9.ts s03)) ?_
  rw[x2]
  ext
  cases hDo:Do i with
  | true=>
   refine v5 rfl ?_
   exists v5 rfl ?_
   exact skip H3 (i9.refl _) (by rw[hb,hDo];rfl)
  | false=>
   exists C6 rfl ?_
   refine a8P x1 (hd.ts (i9.ts s03)) fun H4 s4=>?_
   rw[x3]
   ext
   cases hSp:Sp i with
   | true=>
    refine C6 rfl ?_
    exists C6 rfl ?_
    specialize a8c ?_
    exists ⟨Z6 (s4 _ _ (s3 _ _ hD2)),?_⟩
    refine a0E (s4 _ _ (s3 _ _ hD2)) (F4 (by rw[D2];omega)) ?_
    exact put H4 s4 (by rw[hb,hDo,hSp];rfl)
   | false=>
    exists v5 rfl ?_
    specialize Q8 ?_
    refine⟨x,_,dx,fs,_,rfl,(s03.trans s4) _ _ hx,ck.N4,ck.U9,hfn,?_⟩
    obtain⟨us,u,f1,f2,f3,_⟩:=(hn.same (s03.trans s4)).at hlp
    ext
    exists J1 f1 f2 ?_
    refine L7 f3 ?_
    rw[D2]
    ext
    by_cases h0:lp.length=0
    ·exists C6 (d5r (by rw[h0];rfl)) ?_
     specialize a8c ?_
     exists ⟨Z6 (s4 _ _ (s3 _ _ hD2)),?_⟩
     refine a0E (s4 _ _ (s3 _ _ hD2)) (F4 (by rw[D2];omega)) ?_
     exact put H4 s4 (by rw[hb,hDo,hSp,d5r h0];rfl)
    ·exists v5 (d5q (fun z=>h0 (by have:=V.int.inj z;omega))) ?_
     exact skip H4 s4 (by rw[hb,hDo,hSp,d5q h0];rfl)
def b0S(L:List Nat):List (Key×V):=L.map fun(p:Nat)=>(Sum.inl (p:Int),V.non)
theorem c3t{K:Fg}{tr:TE}(nd:L.Nodup)(l400:L.length<=400)(htr:∀R:VK,(∀a H',H' a=some (.lst (IL L))->i9 H H'->R (.ref a) H')->tr σ H R)
  (k:∀d H',H d=none->H' d=some (.dK (b0S L))->i9 H H'->Q (.ref d) H'):tCB b7i (b4 (O5 (O0 K tr) Q7 (a4H (b4 (b6 0) (b4 (tC .non) g8)))) g8) σ H Q:=by
 exact_mod_cast c4S ?_
 exact_mod_cast Z9 ?_
 exact_mod_cast U3 (P8 ?_)
 refine htr _ fun a H1 e1 s1=>?_
 refine⟨a,rfl,⟨_,SqL.of e1⟩,fun T hT=>?_⟩
 refine U0 (xs:=IL L) (fun i ys H8=>ys.length=i/\H8 T=some (.lst ys)/\i9 H1 H8/\∀(j p:Nat),j<i->L[j]? = some p->∃b,ys[j]? = some (V.ref b)/\H8 b=some (.tup [.int (p:Int),.non])) ?_ ?_ ?_ ?_ ?_
 ·exact⟨rfl,c8,z6 hT,by omega⟩
 ·rintro i ys H8 ⟨_,h,_⟩
  exact h
 ·rintro i ys H8 _ ⟨_,_,s8,_⟩
  exact SqL.of (s8 _ _ e1)
 ·rintro i y ys H8 hy ⟨l8,hT8,s8,a8⟩ R hR
  unfold IL at hy
  rw[a9]at hy
  cases hz:L[i]? with
  | none=>rw[hz]at hy;cases hy
  | some z=>
   rw[hz]at hy
   cases hy
   have hi:=(gI hz)
   ext
   refine L6 (by simp) fun b H9 hb e9 s9=>?_
   have bT:b≠T:=fun q=>by rw[q,hT8]at hb;cases hb
   refine hR _ _ (s9 _ _ hT8) (F4 (by omega)) ⟨by rw[p5,l8];rfl,c8,fun b o e=>?_,fun j p hj hp=>?_⟩
   ·rw[g9 (c9 e hT)];exact s9 _ _ (s8 _ _ e)
   ·by_cases q:j=i
    ·subst q
     rw[hz]at hp
     cases hp
     exact⟨b,by rw[<-l8];simp,by rw[g9 bT];exact e9⟩
    ·obtain⟨b',q1,q2⟩:=a8 j p (by omega) hp
     exact⟨b',by rw[o3 (by omega)];exact q1,by rw[g9 (N8 q2 hT8 (by intro z;cases z))];exact s9 _ _ q2⟩
 ·rintro ys H8 ⟨l8,hT8,s8,a8⟩
  rw[D2]at l8 a8
  exact_mod_cast a6h ?_
  refine⟨T,ys,b0S L,rfl,hT8,by rw[l8];simp[b0S],fun i kk x e=>?_,?_,fun d hd=>?_⟩
  ·unfold b0S at e
   rw[a9]at e
   cases hz:L[i]? with
   | none=>rw[hz]at e;cases e
   | some z=>
    rw[hz]at e
    cases e
    obtain⟨b,q1,q2⟩:=a8 i z (gI hz) hz
    exact⟨b,q1,q2⟩
  ·unfold b0S
   rw[U1]
   refine a1v _ (fun a b hab z=>hab ?_) nd
   have:=Sum.inl.inj z
   omega
  ·have s08:=s1.trans s8
   exact k d _ (s08.free hd) c8 (s08.trans (z6 hd))
theorem c5V{K:Fg}{Sp:Nat->Bool}(hd:H d=some (.dK (b0S L)))(nd:L.Nodup)(lt:∀t∈L,t<N.length)(en:∀t∈L,c1G N Do Sp t):GbK K H d N Do Sp L (b0S L):=by
 refine⟨hd,nd,lt,by simp[b0S],fun i t e=>⟨.non,?_,.inl ⟨rfl,en t (mI e)⟩⟩⟩
 unfold b0S
 rw[a9,e]
 rfl
structure GbI(K:Fg)(H0 H:Hp)(d o:Addr)(N:Nt)(Do Sp:Nat->Bool)(S:List Nat)(kvs:List (Key×V)):Prop where
 gb:GbK K H d N Do Sp S kvs
 same:i9 H0 H
 ho:H o=some (.lst (IL S))
 fr:H0 d=none/\H0 o=none
def But(d o:Addr)(H H':Hp):Prop:=∀b ob,b≠d->b≠o->H b=some ob->H' b=some ob
section
variable {K:Fg}{o:Addr}{Sp:Nat->Bool}{S:List Nat}
theorem GbI.next(h:GbI K H0 H d o N Do Sp S kvs)(s:i9 H H'):GbI K H0 H' d o N Do Sp S kvs:=⟨h.gb.same s,h.same.trans s,s _ _ h.ho,h.fr⟩
theorem But.ts(h:But d o H H')(hd:H d=some (.dK kvs))(ho:H o=some (.lst (IL S))):G5 H H':=fun b xs q=>h b _ (N8 q hd (by intro z;cases z)) (N8 q ho (by intro z;cases z)) q
theorem c8w{a b g p q:Nat}{x:Addr}(ha:σ[a]? = some (some (.ref x)))(hb:σ[b]? = some (some (.ref d)))(hg:σ[g]? = some (some (.ref o)))(I:GbI K H0 H d o N Do Sp S kvs)(h400:N.length<=400)(hx:H x=some (.tup [.int (p:Int),.int (q:Int)]))(hl:N[p]? = some l)(ht:l[q]? = some t)(hj:S[j]? = some t)(hD:Do p=false)(hps:¬p∈S)
  (k:∀H' kvs',kvs'=kvs++[(Sum.inl (p:Int),.ref x)]->GbI K H0 H' d o N Do Sp (S++[p]) kvs'->But d o H H'->D.nx σ H'):v6 (a3G (b6 b) (tOp qIx (b6 a) (tC (.int 0))) (b6 a)) (a0n (tBM K "list" Y0 (b6 g) (b4 (tOp qIx (b6 a) (tC (.int 0))) (g8)))) D σ H:=by
 exact_mod_cast K6 ?_
 exact_mod_cast a7r ?_
 exact_mod_cast X2 ha ?_
 exact_mod_cast X2 hb ?_
 exact_mod_cast b8K ?_
 exact_mod_cast X2 ha ?_
 exact_mod_cast s_c ?_
 refine a0g hx (a3k _ _) ?_
 have hlen:S.length<=400:=D9 (a3M _ _ I.gb.nd I.gb.lt) h400
 refine⟨d,_,rfl,b5S.k (k:=Sum.inl (p:Int)) I.gb.hd (F4 (by rw[I.gb.len];omega)),?_⟩
 have add:=I.gb.add (v:=.ref x) hps (gI hl) (.inr ⟨x,q,l,t,j,rfl,.inl hx,hl,ht,hj,(gI hj),hD⟩)
 have ek:a2l kvs (Sum.inl (p:Int)) (.ref x)=kvs++[(Sum.inl (p:Int),.ref x)]:=by
  unfold a2l
  rw[a5s,I.gb.in_,d5q hps,if_neg (by decide)]
 obtain⟨kvs',hk⟩:∃kvs',kvs'=a2l kvs (Sum.inl (p:Int)) (.ref x):=⟨_,rfl⟩
 rw[<-hk]at add ⊢
 obtain⟨H2,hH2⟩:∃H2,H2=upd H d (.dK kvs'):=⟨_,rfl⟩
 rw[<-hH2]at add ⊢
 have nod:o≠d:=N8 I.ho I.gb.hd (by intro z;cases z)
 have ho2:H2 o=some (.lst (IL S)):=by rw[hH2,g9 nod];exact I.ho
 have hx2:H2 x=some (.tup [.int (p:Int),.int (q:Int)]):=by rw[hH2,g9 (N8 hx I.gb.hd (by intro z;cases z))];exact hx
 exact_mod_cast c0x ?_
 exact_mod_cast a8c ?_
 exact_mod_cast X2 hg ?_
 refine⟨Z6 ho2,?_⟩
 exact_mod_cast Z9 ?_
 exact_mod_cast b8K ?_
 exact_mod_cast X2 ha ?_
 exact_mod_cast s_c ?_
 refine a0g hx2 (a3k _ _) ?_
 exact_mod_cast a6h ?_
 refine a0E ho2 (F4 (by rw[D2];omega)) ?_
 have e3:IL S++[V.int (p:Int)]=IL (S++[p]):=by simp[IL]
 rw[e3]
 have ts:G5 H2 (upd H2 o (.lst (IL (S++[p])))):=G5.put ho2
 refine k _ kvs' (hk.trans ek) ⟨⟨by rw[g9 nod.symm];exact add.hd,add.nd,add.lt,add.len,fun i u hu=>?_⟩,fun b' o'' q'=>?_,c8,I.fr⟩ fun b ob n1 n2 e=>?_
 ·obtain⟨v,q1,q2⟩:=add.at_ i u hu
  have:=q2.grow (ext:=[]) ts
  rw[P7]at this
  exact⟨v,q1,this⟩
 ·rw[g9 (c9 q' I.fr.2),hH2,g9 (c9 q' I.fr.1)];exact I.same _ _ q'
 ·rw[g9 n2,hH2,g9 n1];exact e
theorem d1j{a b g p q:Nat}{x:Addr}(ha:σ[a]? = some (some (.ref x)))(hb:σ[b]? = some (some (.ref d)))(hg:σ[g]? = some (some (.ref o)))(I:GbI K H0 H d o N Do Sp S kvs)(h400:N.length<=400)(hx:H x=some (.tup [.int (p:Int),.int (q:Int)]))(hl:N[p]? = some l)(ht:l[q]? = some t)(hj:S[j]? = some t)(hD:Do p=false)(hps:¬p∈S)
  (k:∀H' kvs',GbI K H0 H' d o N Do Sp (S++[p]) kvs'->But d o H H'->D.nx σ H'):v6 (a3G (b6 b) (tOp qIx (b6 a) (tC (.int 0))) (b6 a)) (a0n (tBM K "list" Y0 (b6 g) (b4 (tOp qIx (b6 a) (tC (.int 0))) (g8)))) D σ H:=
 c8w ha hb hg I h400 hx hl ht hj hD hps fun H' kvs' _=>k H' kvs'
end
theorem But.trans{o:Addr}{H'':Hp}(h:But d o H H')(h':But d o H' H''):But d o H H'':=fun b ob n1 n2 e=>h' b ob n1 n2 (h b ob n1 n2 e)
theorem But.refl{o:Addr}:But d o H H:=fun _ _ _ _ e=>e
theorem c5Y{Sp:Nat->Bool}(ht:t<N.length):b0e N Do Sp t=true↔c1G N Do Sp t:=by
 have hg:N.getD t []=N[t]:=by simp[M0,ht]
 unfold b0e c1G
 rw[hg,F5,a9p,L8 ht,X0,decide_eq_true_iff,a1u,Option.some.injEq]
theorem a7Y.same{x:Addr}(h:a7Y c H x N rs)(s:i9 H H'):a7Y c H' x N rs:=by
 obtain⟨dx,fs,n,r,h1,h2,h3,h4,h5,h6⟩:=h.ex
 exact⟨dx,fs,n,r,s _ _ h1,h2,h3.same s,h4,s _ _ h5,h6⟩
theorem a7a.q{K:Fg}{x:Addr}(h:a7a K c Z rs H x N):a7Y c H x N rs:=by
 obtain⟨dx,r,n,e,es,ns,h1,⟨h2,h2r⟩,h3,h4,h5,h6,h7,h8,_⟩:=h.ex
 refine⟨dx,_,n,r,h1,rfl,⟨ns,h3,h4,h5⟩,rfl,h2r,?_⟩
 obtain⟨rs',q1,q2,_⟩:=h2.ex
 rw[h2r]at q1
 have:=congrArg b5T (HO.lst.inj (Option.some.inj q1))
 rw[b5,b5]at this
 omega
theorem b0u{K:Fg}{x:Addr}{Sp:Nat->Bool}{E:XK}(ck:a0R K c)(hp:a7Y c H x N rs)(hz:a1r K c H x N)(hv:Q9 N)(hd:a0Q H dd ds)(hs:a5W H rs ds Do Sp)
  (k:∀d H' S kvs,GbK K H' d N Do Sp S kvs->c9n N Do Sp S->i9 H H'->Q (.ref d) H'):a1G K c [.ref x,.ref dd] H Q E:=by
 have h400:=hv.le
 obtain⟨dx,fs,n,r,hx,hfn,hn,hfr,hr,lr⟩:=id hp.ex
 obtain⟨dx2,r2,n2,e2',es,p1,_⟩:=id hz.ex
 obtain⟨L0,hL0⟩:∃L0,L0=(v9 N.length).filter (b0e N Do Sp):=⟨_,rfl⟩
 have nd0:L0.Nodup:=hL0 ▸ a8g.filter _
 have lt0:∀t∈L0,t<N.length:=fun t ht=>by rw[hL0]at ht;exact L9.mp (D6.mp ht).1
 have en0:∀t,t<N.length->(t∈L0↔c1G N Do Sp t):=fun t ht=>by
  rw[hL0,D6,L9,c5Y ht]
  exact⟨fun h=>h.2,fun h=>⟨ht,h⟩⟩
 have l0:L0.length<=400:=D9 (a3M _ _ nd0 lt0) h400
 refine⟨rfl,?_⟩
 unfold a6N
 nofun
 refine b1z ck hp hv hd hs fun o H1 ho e1 s1=>?_
 rw[<-hL0]at e1
 ext
 exact_mod_cast K6 ?_
 exact_mod_cast b4o ?_
 exists c3t nd0 l0 (fun R hR=>X2 rfl (hR o H1 e1 (i9.refl _))) fun d H2 hd2 e2 s2=>?_
 have I2:GbI K H H2 d o N Do Sp L0 _:=⟨c5V e2 nd0 lt0 fun t ht=>(en0 t (lt0 t ht)).mp ht,s1.trans s2,s2 _ _ e1,s1.free hd2,ho⟩
 nofun
 exact_mod_cast K6 ?_
 exact_mod_cast b0I ?_
 refine⟨fun m σ H4=>∃(y5 y6:Option V) (S:List Nat) (kvs:List (Key×V)) (dn:Nat),σ=[some (.ref x),some (.ref dd),some (.ref o),some (.ref d),some (.int (dn:Int)),y5,y6]/\GbI K H H4 d o N Do Sp S kvs/\(∃ext,S=L0++ext)/\dn<=S.length/\(∀(j t p:Nat) l,j<dn->S[j]? = some t->N[p]? = some l->t∈l->Do p=false->p∈S)/\m=N.length - dn,
  ⟨_,_,_,L0,_,0,rfl,I2,⟨[],by simp⟩,by omega,by omega,rfl⟩,?_⟩
 rintro m _ H4 ⟨y5,y6,S,kvs,dn,rfl,I4,x4,hdn,c4,rfl⟩
 ext
 exists L7 I4.ho ?_
 rw[D2]
 have hSl:S.length<=N.length:=a3M _ _ I4.gb.nd I4.gb.lt
 by_cases hlt:dn<S.length
 ·refine C6 (d5r (by omega)) ?_
  obtain⟨t,htS⟩:∃t,S[dn]? = some t:=⟨_,c5 hlt⟩
  have htn:=I4.gb.lt t (mI htS)
  refine⟨fun σ H5=>∃(m':Nat) (y5 y6:Option V) (S:List Nat) (kvs:List (Key×V)) (dn':Nat),σ=[some (.ref x),some (.ref dd),some (.ref o),some (.ref d),some (.int (dn':Int)),y5,y6]/\GbI K H H5 d o N Do Sp S kvs/\(∃ext,S=L0++ext)/\dn'<=S.length/\(∀(j t p:Nat) l,j<dn'->S[j]? = some t->N[p]? = some l->t∈l->Do p=false->p∈S)/\m'=N.length - dn'/\m'<N.length - dn,?_,?_⟩
  ·rintro σ' H5 ⟨m',y5,y6,S,kvs,dn',e,r1,r2,r3,r4,r5,r6⟩
   exact⟨m',r6,y5,y6,S,kvs,dn',e,r1,r2,r3,r4,r5⟩
  nofun
  exists J1 I4.ho (b1l htS) ?_
  exact_mod_cast K6 ?_
  specialize c1S rfl ?_
  have e1':(dn:Int)+1=((dn+1:Nat):Int):=by omega
  rw[e1']
  specialize a0p (P8 ?_)
  specialize W3 ?_
  exists ⟨x,dx2,_,rfl,I4.same _ _ p1,a8D r2 n2 e2' _ (by decide),?_⟩
  refine b0O ck (hz.same I4.same) htn fun st H5 hst sa s5=>?_
  obtain⟨vs,v1,v2,v3⟩:=sa.ex
  have I5:=I4.next s5
  have nst:st≠d/\st≠o:=⟨(c9 I4.gb.hd hst).symm,(c9 I4.ho hst).symm⟩
  obtain⟨Z,hZ⟩:∃Z,Z=(D5 N).filter fun s=>decide (E4 N s=t):=⟨_,rfl⟩
  rw[<-hZ]at v2 v3
  refine⟨st,rfl,⟨_,SqL.of v1⟩,a2G (xs:=vs.map V.ref) (fun i σ H6=>∃(y6:Option V) (S':List Nat) (kvs':List (Key×V)),σ=[some (.ref x),some (.ref dd),some (.ref o),some (.ref d),some (.int ((dn+1:Nat):Int)),some (.int (t:Int)),y6]/\GbI K H H6 d o N Do Sp S' kvs'/\(∃ext,S'=S++ext)/\But d o H5 H6/\∀(j p q:Nat),j<i->Z[j]? = some ((p:Int),(q:Int))->Do p=false->p∈S') ⟨_,S,kvs,rfl,I5,⟨[],by simp⟩,But.refl,by omega⟩ ?_ ?_ ?_⟩
  ·rintro i σ H6 _ ⟨_,_,_,_,_,_,bt,_⟩
   exact SqL.of (bt _ _ nst.1 nst.2 v1)
  ·rintro i y _ H6 hy ⟨y6,S',kvs',rfl,I6,⟨ext,e6⟩,bt,g6⟩
   rw[a9]at hy
   cases hw:vs[i]? with
   | none=>rw[hw]at hy;cases hy
   | some w=>
    rw[hw]at hy
    cases hy
    obtain⟨s,hsi⟩:∃s,Z[i]? = some s:=⟨_,c5 (by have:=(gI hw);omega)⟩
    have sm:=mI hsi
    rw[hZ,D6]at sm
    have iss:=a3f sm.1
    have ld:=of_decide_eq_true sm.2
    have st6:a0x K H6 w s:=(v3 i w s hw hsi).ts (bt.ts I5.gb.hd I5.ho)
    have lS':S'.length<=N.length:=a3M _ _ I6.gb.nd I6.gb.lt
    have grow:∀S'',(∃e,S''=S'++e)->(∀p q:Nat,s=((p:Int),(q:Int))->Do p=false->p∈S'')->∀(j p q:Nat),j<i+1->Z[j]? = some ((p:Int),(q:Int))->Do p=false->p∈S'':=by
     rintro S'' ⟨e,rfl⟩ h j p q hj hj2 hD
     by_cases z:j=i
     ·subst z
      rw[hsi]at hj2
      exact h p q (Option.some.inj hj2) hD
     ·exact v8 _ (g6 j p q (by omega) hj2 hD)
    ext
    refine⟨_,_,_,_,rfl,rfl,st6.sq,ck.Y5 H6,rfl,rfl,?_⟩
    rw[eq2]
    ext
    rcases iss with rfl | ⟨p,q,l,t',rfl,hl,hq⟩
    ·refine v5 rfl ?_
     exists v5 rfl ?_
     exact⟨_,S',kvs',rfl,I6,⟨ext,e6⟩,bt,grow S' ⟨[],by simp⟩ fun p q e _=>(a5L e.symm).elim⟩
    ·rw[a1J hl hq]at ld
     subst ld
     refine C6 (by
      have:decide ((((p:Int),(q:Int)).1,((p:Int),(q:Int)).2)=FST)=false:=d5q a5L
      rw[this];rfl) ?_
     rcases st6 with st6 | ⟨z,_⟩
     rotate_left
     ·exact(a5L z).elim
     have eqs:∀p' q':Nat,(((p:Int),(q:Int)):Stp)=((p':Int),(q':Int))->p'=p:=fun p' q' e=>by
      have:(p:Int)=(p':Int):=congrArg Prod.fst e
      omega
     ext
     specialize a1V ?_
     exists a0g st6 (a3k _ _) ?_
     obtain⟨o',g1,g2⟩:=I6.gb.notin p
     refine⟨d,o',rfl,g1,?_⟩
     rw[g2]
     ext
     by_cases hps:p∈S'
     ·refine v5 (by rw[d5r hps];rfl) ?_
      exists v5 rfl ?_
      exact⟨_,S',kvs',rfl,I6,⟨ext,e6⟩,bt,grow S' ⟨[],by simp⟩ fun p' q' e _=>by rw[eqs p' q' e];exact hps⟩
     ·refine C6 (by rw[d5q hps];rfl) ?_
      have hpn:=(gI hl)
      obtain⟨ax,hax⟩:∃ax,rs[p]? = some ax:=⟨_,c5 (by omega)⟩
      obtain⟨xs,x1,x2,x3⟩:=(hs.ts (i9.ts I6.same)) p ax hax
      ext
      specialize Q8 ?_
      exists ⟨x,_,dx,fs,_,rfl,I6.same _ _ hx,ck.N4,ck.P4,hfr,?_⟩
      exists a0g st6 (a3k _ _) ?_
      exists J1 (I6.same _ _ hr) (a0v (by rw[a9,hax];rfl)) ?_
      refine a7K x1 (hd.ts (i9.ts I6.same)) ?_
      rw[x2]
      ext
      cases hDo:Do p with
      | true=>
       exists v5 rfl ?_
       exact⟨_,S',kvs',rfl,I6,⟨ext,e6⟩,bt,grow S' ⟨[],by simp⟩ fun p' q' e hD=>by rw[eqs p' q' e,hDo]at hD;cases hD⟩
      | false=>
       refine C6 rfl ?_
       refine d1j (a:=6) (b:=3) (g:=2) (j:=dn) rfl rfl rfl I6 h400 st6 hl hq (by rw[e6,o3 hlt];exact htS) hDo hps fun H7 kvs7 I7 b7=>?_
       exact⟨_,S'++[p],kvs7,rfl,I7,⟨ext++[p],by rw[e6,a7R]⟩,bt.trans b7,grow _ ⟨[p],rfl⟩ fun p' q' e _=>by rw[eqs p' q' e];simp⟩
  ·rintro _ H6 ⟨y6,S',kvs',rfl,I6,⟨ext,e6⟩,bt,g6⟩
   obtain⟨ext4,hx4⟩:=x4
   refine⟨_,_,_,S',kvs',dn+1,rfl,I6,⟨ext4++ext,by rw[e6,hx4,a7R]⟩,by rw[e6,p5];omega,fun j t' p l hj hj2 hl ht hD=>?_,rfl,by omega⟩
   rw[b5,v2]at g6
   have hj3:S[j]? = some t':=by rw[e6,o3 (by omega)]at hj2;exact hj2
   by_cases q:j=dn
   ·subst q
    rw[htS]at hj3
    cases hj3
    obtain⟨q,hq⟩:=z7.mp ht
    have m1:(((p:Int),(q:Int)):Stp)∈Z:=by
     rw[hZ,D6]
     exact⟨a4n (.inr ⟨p,q,l,t,rfl,hl,hq⟩),d5r (a1J hl hq)⟩
    obtain⟨i,hi⟩:=z7.mp m1
    exact g6 i p q (gI hi) hi hD
   ·rw[e6];exact v8 _ (c4 j t' p l (by omega) hj3 hl ht hD)
 ·exists v5 (d5q (by omega)) ?_
  obtain⟨ext4,hx4⟩:=x4
  refine k d H4 S kvs I4.gb ⟨fun t ht he=>by rw[hx4];exact v8 _ ((en0 t ht).mpr he),fun p l hl hD t ht htS=>?_⟩ I4.same
  obtain⟨j,hj⟩:=z7.mp htS
  have:=(gI hj)
  exact c4 j t p l (by omega) hj hl ht hD
inductive On(N:Nt):Nat->List Stp->Nat->Prop
 | nil {t:Nat}:On N t [] t
 | cons {p q u e:Nat} {l:List Nat} {W:List Stp}:N[p]? = some l->l[q]? = some u->On N u W e->On N p (((p:Int),(q:Int))::W) e
section
variable {e':Nat}{W W':List Stp}
theorem On.app(h:On N t W e)(h':On N e W' e'):On N t (W++W') e':=by
 induction h with
 | nil=>exact h'
 | cons h1 h2 _ ih=>exact .cons h1 h2 (ih h')
theorem On.snoc{q:Nat}(h:On N t W e)(h1:N[e]? = some l)(h2:l[q]? = some u):On N t (W++[((e:Int),(q:Int))]) u:=h.app (.cons h1 h2 .nil)
theorem On.isStep(h:On N t W e):∀x∈W,a0P N x:=by
 induction h with
 | nil=>intro x hx;cases hx
 | @cons p q u e l W h1 h2 _ ih=>
  intro x hx
  rcases o4.mp hx with rfl | hx
  ·exact .inr ⟨p,q,l,u,rfl,h1,h2⟩
  ·exact ih x hx
theorem On.beg(h:On N t W e):t::W.map (E4 N)=(W.map fun s=>s.1.toNat)++[e]:=by
 induction h with
 | nil=>rfl
 | @cons p q u e l W h1 h2 _ ih=>
  rw[B8,B8,a1J h1 h2,ih]
  rfl
end
section
variable {S:List Nat}
end
theorem GbK.ins{K:Fg}{H:Hp}{d x C dx:Addr}{N:Nt}{Do Sp:Nat->Bool}{S:List Nat}{kvs:List (Key×V)}{fs:List (Str×V)}{o:HO}(h:GbK K H d N Do Sp S kvs)(hx:H x=some (.ins C dx fs)):GbK K (upd H x o) d N Do Sp S kvs:=by
 refine⟨by rw[g9 (N8 h.hd hx (by intro z;cases z))];exact h.hd,h.nd,h.lt,h.len,fun i t e=>?_⟩
 obtain⟨v,q1,q2⟩:=h.at_ i t e
 have:=q2.grow (ext:=[]) (G5.ins (o:=o) hx)
 rw[P7]at this
 exact⟨v,q1,this⟩
theorem b3N{K:Fg}{x:Addr}{Sp:Nat->Bool}{E:XK}(ck:a0R K c)(hp:a7Y c H x N rs)(hz:a1r K c H x N)(hv:Q9 N)(hd:a0Q H dd ds)(hs:a5W H rs ds Do Sp)(hwx:H wx=none)(hdx:H dx=none)
  (k:∀H' S,Wnt K c H' wx x N Do Sp S->i9 H H'->Q .non H'):a1T K c [.ref wx,.ref x,.ref dd] (upd (upd H dx (.own wx)) wx (.ins c.R0 dx [])) Q E:=by
 refine⟨rfl,?_⟩
 unfold a9w
 exact_mod_cast K6 ?_
 specialize a0K ?_
 refine⟨wx,_,dx,[],rfl,c8,ck.a2c,ck.a2a,by simp,?_⟩
 obtain⟨H3,hH3⟩:∃H3,H3=upd (upd (upd H dx (.own wx)) wx (.ins c.R0 dx [])) wx (.ins c.R0 dx (N3 "plan" (.ref x) [])):=⟨_,rfl⟩
 rw[<-hH3]
 have x3:H3 wx=some (.ins c.R0 dx (N3 "plan" (.ref x) [])):=hH3 ▸ c8
 have s3:i9 H H3:=fun b o e=>by
  have n1:=c9 e hwx
  rw[hH3,g9 n1,g9 n1,g9 (c9 e hdx)];exact e
 specialize a0K ?_
 exists b0u ck (hp.same s3) (hz.same s3) hv (hd.ts (i9.ts s3)) (hs.ts (i9.ts s3)) fun d H6 S kvs gb sh s6=>?_
 have x4:=s6 _ _ x3
 refine⟨wx,_,dx,_,rfl,x4,ck.a2c,ck.a1N,(by show(1:Nat)<1000;decide),?_⟩
 have g7:=gb.ins (o:=.ins c.R0 dx (N3 "goes_by" (.ref d) (N3 "plan" (.ref x) []))) x4
 obtain⟨H7,hH7⟩:∃H7,H7=upd H6 wx (.ins c.R0 dx (N3 "goes_by" (.ref d) (N3 "plan" (.ref x) []))):=⟨_,rfl⟩
 rw[<-hH7]at g7 ⊢
 have s7:i9 H H7:=fun b o e=>by rw[hH7,g9 (c9 e hwx)];exact s6 _ _ (s3 _ _ e)
 refine k H7 S ⟨⟨dx,d,kvs,?_,g7⟩,hz.same s7,sh⟩ s7
 rw[hH7,c8];rfl
theorem b9j{K:Fg}{x:Addr}{Sp:Nat->Bool}{a b:Nat}(ck:a0R K c)(hp:a7Y c H x N rs)(hz:a1r K c H x N)(hv:Q9 N)(hd:a0Q H dd ds)(hs:a5W H rs ds Do Sp)(ea:σ[a]? = some (some (.ref x)))(eb:σ[b]? = some (some (.ref dd)))
  (k:∀wx H' S,H wx=none->Wnt K c H' wx x N Do Sp S->i9 H H'->Q (.ref wx) H'):a5x c.R0 (a1T K c) [] E0 (b4 (b6 a) (b4 (b6 b) g8)) σ H Q:=by
 exact_mod_cast b4k ?_
 refine Z9 (X2 ea (Z9 (X2 eb (a6h ?_))))
 intro wx dx hwx hdx _
 exact b3N ck hp hz hv hd hs hwx hdx fun H' S h s=>⟨rfl,k wx H' S hwx h s⟩
section
variable {K:Fg}{E:XK}
theorem b7s{n:Int}(k:Q (.bl true) H):b1F K [.int n] H Q E:=by
 refine⟨rfl,?_⟩
 unfold c8W
 ext
 exists a6l rfl (by decide) ?_
 exists C6 rfl ?_
 exists a6l rfl (by decide) ?_
 exact k
theorem c5K(hn:J5 H na N)(ha:a0x K H a s)(hs:a0P N s)(k:Q (.int (E4 N s:Nat)) H):b8B K [.ref na,.ref a] H Q E:=by
 have sq:=ha.sq
 refine⟨rfl,?_⟩
 unfold d1W
 nofun
 exists ⟨a,0,_,_,rfl,rfl,sq,a3k _ _,?_⟩
 rcases hs with rfl | ⟨p,q,l,t,rfl,h1,h2⟩
 ·exists C6 (by decide) ?_
  exact k
 ·exists v5 (d5q (by show ¬((p:Int)<0);omega)) ?_
  obtain⟨xs,y,f1,f2,f3,_⟩:=hn.at h1
  refine⟨a,0,_,_,rfl,rfl,sq,a3k _ _,?_⟩
  exists J1 f1 f2 ?_
  refine⟨a,1,_,_,rfl,rfl,sq,b1h _ _ _,?_⟩
  refine J1 f3 (b1l h2) ?_
  rw[a1J h1 h2]at k
  exact k
end
section
variable {K:Fg}{S:List Stp}{E:XK}
theorem b0D(hw:M6 K H w S)(k:Q (.bl true) H):a3x K [.ref w] H Q E:=by
 obtain⟨vs,v1,v2,v3⟩:=hw.ex
 refine⟨rfl,?_⟩
 unfold b2E
 nofun
 exists a6l (s := "list") (by simp only[a4P,v1]) (by decide) ?_
 exists v5 (by decide) ?_
 exact_mod_cast K6 ?_
 specialize a0p (P8 ?_)
 refine⟨w,rfl,⟨_,SqL.of v1⟩,a2G (xs:=vs.map V.ref) (fun i σ H2=>∃y1,σ=[some (.ref w),y1]/\H2=H) ⟨_,rfl,rfl⟩ ?_ ?_ ?_⟩
 ·rintro i σ H2 _ ⟨_,_,rfl⟩
  exact SqL.of v1
 ·rintro i v _ _ hv ⟨y1,rfl,rfl⟩
  rw[a9]at hv
  obtain⟨p,hp,rfl⟩:=o5.mp hv
  obtain⟨s,hs⟩:∃s,S[i]? = some s:=⟨_,c5 (by rw[<-v2];exact(gI hp))⟩
  have sq:=(v3 i p s hp hs).sq
  ext
  exists ⟨p,_,rfl,sq,?_⟩
  exists v5 rfl ?_
  exists ⟨p,_,rfl,sq,?_⟩
  exists v5 rfl ?_
  exists ⟨p,0,_,_,rfl,rfl,sq,a3k _ _,?_⟩
  exists b7s (E:=E0) ?_
  exists v5 rfl ?_
  exists ⟨p,1,_,_,rfl,rfl,sq,b1h _ _ _,?_⟩
  exists b7s (E:=E0) ?_
  exists v5 rfl ?_
  exact⟨_,rfl,rfl⟩
 ·rintro _ _ ⟨y1,rfl,rfl⟩
  ext
  exact k
end
inductive UnR(N:Nt)(Do Sp:Nat->Bool):Nat->Prop
 | zero:UnR N Do Sp 0
 | spoil {p t:Nat} {l:List Nat}:N[p]? = some l->t∈l->Sp p=true->UnR N Do Sp t
 | step {p t:Nat} {l:List Nat}:UnR N Do Sp p->Do p=false->N[p]? = some l->t∈l->UnR N Do Sp t
theorem c0b{Sp:Nat->Bool}{S:List Nat}(z:0∈S)(h:d1u N Do Sp S):∀t,UnR N Do Sp t->t∈S:=by
 intro t u
 induction u with
 | zero=>exact z
 | spoil h1 h2 h3=>exact h.sp _ _ h3 h1 _ h2
 | step _ h2 h3 h4 ih=>exact h.no _ _ ih h2 h3 _ h4
theorem c4u{K:Fg}{Sp:Nat->Bool}{S:List Nat}(h:CbK K H d N Do Sp S kvs):∀(i t:Nat),S[i]? = some t->UnR N Do Sp t:=by
 intro i
 induction i using d1J with
 | _ i ih=>
  intro t e
  obtain⟨a,s,_,_,j⟩:=h.at_ i t e
  rcases j with ⟨_,_,rfl⟩ | ⟨p,q,l,_,h2,h3,h4⟩
  ·exact .zero
  ·rcases h4 with h4 | ⟨j,j1,j2,j3⟩
   ·exact .spoil h2 (mI h3) h4
   ·exact .step (ih j j1 p j2) j3 h2 (mI h3)
theorem Rdy.un{K:Fg}{x:Addr}{Sp:Nat->Bool}{S:List Nat}(h:Rdy K c H rx x dd N rs ds Do Sp S)(t:Nat):t∈S↔UnR N Do Sp t:=by
 obtain⟨dx,d,kvs,_,cb⟩:=h.ex
 refine⟨fun ht=>?_,c0b (mI cb.z) h.shut t⟩
 obtain⟨i,hi⟩:=z7.mp ht
 exact c4u cb i t hi
inductive UnW(N:Nt)(Do Sp:Nat->Bool):Nat->Prop
 | en {t:Nat}:t<N.length->c1G N Do Sp t->UnW N Do Sp t
 | go {p t:Nat} {l:List Nat}:N[p]? = some l->Do p=false->t∈l->UnW N Do Sp t->UnW N Do Sp p
theorem Wnt.un{K:Fg}{x:Addr}{Sp:Nat->Bool}{S:List Nat}(h:Wnt K c H wx x N Do Sp S)(t:Nat):t∈S↔UnW N Do Sp t:=by
 obtain⟨dx,d,kvs,_,gb⟩:=h.ex
 constructor
 ·intro ht
  obtain⟨i,hi⟩:=z7.mp ht
  clear ht
  induction i using d1J generalizing t with
  | _ i ih=>
   obtain⟨v,_,j⟩:=gb.at_ i t hi
   rcases j with ⟨_,e⟩ | ⟨a,q,l,u,j,_,_,h3,h4,h5,h6,h7⟩
   ·exact .en (gb.lt t (mI hi)) e
   ·exact .go h3 h7 (mI h4) (ih j h6 u h5)
 ·intro u
  induction u with
  | en h1 h2=>exact h.shut.en _ h1 h2
  | go h1 h2 h3 _ ih=>exact h.shut.no _ _ h1 h2 _ h3 ih
def a6Z(N:Nt)(Do Sp fr fw:Nat->Bool)(s:Stp):Bool:=fw (E4 N s)&&(decide (s=FST)||(Sp s.1.toNat||(!fr s.1.toNat&&(!Do s.1.toNat && !(N.getD s.1.toNat []).all fw))))
theorem c2k{p q:Nat}(h:N[p]? = some l):N.getD p []=l/\p<N.length:=⟨by simp[M0,h],(gI h)⟩
theorem c3K{Sp fr fw fr' fw':Nat->Bool}(hv:Q9 N)(is:a0P N s)(h1:∀t,t<N.length->fr t=fr' t)(h2:∀t,t<N.length->fw t=fw' t):a6Z N Do Sp fr fw s=a6Z N Do Sp fr' fw' s:=by
 unfold a6Z
 rw[h2 _ (a7H hv is)]
 rcases is with rfl | ⟨p,q,l,t,rfl,e1,e2⟩
 ·rw[d5r rfl];simp
 ·obtain⟨g1,g2⟩:=c2k (q:=0) e1
  have e:((((p:Int),(q:Int)):Stp).1).toNat=p:=rfl
  rw[e,h1 p g2,g1]
  have:l.all fw=l.all fw':=by
   rw[U2,U8,U8]
   exact⟨fun h x hx=>by rw[<-h2 x (hv.lt l (mI e1) x hx)];exact h x hx,fun h x hx=>by rw[h2 x (hv.lt l (mI e1) x hx)];exact h x hx⟩
  rw[this]
theorem a6x{K:Fg}{x:Addr}{E:XK}(ck:a0R K c)(hp:a1r K c H x N)(hv:Q9 N)(k:∀a H',H a=none->M6 K H' a (D5 N)->i9 H H'->Q (.ref a) H'):a1C K c [.ref x] H Q E:=by
 obtain⟨dx,r,n,e,es,h1,h2,h3,h4⟩:=hp.ex
 refine⟨rfl,?_⟩
 unfold b0B
 ext
 specialize Q8 ?_
 exists ⟨x,_,dx,_,_,rfl,h1,ck.N4,ck.U9,rfl,?_⟩
 exact b2H ck h3 hv.le hv.two k
theorem b3Y(N:Nt):(D5 N).Nodup:=by
 have key:∀i,(a5y N i).Nodup/\∀s∈a5y N i,s.1<(i:Int):=by
  intro i
  induction i with
  | zero=>exact⟨by simp[a5y],fun s hs=>by simp[a5y]at hs;rw[hs];decide⟩
  | succ i ih=>
   rw[a8w]
   have on:∀s∈a3v N i,s.1=(i:Int):=fun s hs=>by
    unfold a3v at hs
    obtain⟨q,_,rfl⟩:=A2.mp hs
    rfl
   refine⟨a2r.mpr ⟨ih.1,?_,fun a ha b hb e=>?_⟩,fun s hs=>?_⟩
   ·unfold a3v
    exact a1v _ (fun a b h e=>h (by have:=congrArg Prod.snd e;have:(a:Int)=(b:Int):=this;omega)) a8g
   ·have h1:=ih.2 a ha
    have h2:=on b hb
    rw[e]at h1
    omega
   ·rcases u0.mp hs with h | h
    ·have:=ih.2 s h;omega
    ·rw[on s h];omega
 exact(key N.length).1
theorem CbK.move{K:Fg}{Sp:Nat->Bool}{S:List Nat}(h:CbK K H d N Do Sp S kvs)(t:G5 H H')(hd:H' d=some (.dK kvs)):CbK K H' d N Do Sp S kvs:=
 ⟨hd,h.nd,h.lt,h.len,h.z,fun i u e=>let⟨a,s,q1,q2,q3⟩:=h.at_ i u e; ⟨a,s,q1,q2.ts t,q3⟩⟩
def stK(s:Stp):List Key:=[Sum.inl s.1,Sum.inl s.2]
theorem b6O{t:Stp}(h:stK s=stK t):s=t:=by
 unfold stK at h
 have h1:=Sum.inl.inj (List.cons.inj h).1
 have h2:=Sum.inl.inj (List.cons.inj (List.cons.inj h).2).1
 exact Prod.ext h1 h2
structure XD(K:Fg)(H:Hp)(d:Addr)(L:List Stp):Prop where
 ex:∃xs:List XE,H d=some (dX d xs)/\xs.length=L.length/\∀(i:Nat) x s,xs[i]? = some x->L[i]? = some s->x.1=stK s/\a0x K H x.2.1 s
section
variable {K:Fg}{b':Addr}{L:List Stp}{xs:List XE}
theorem XD.move(h:XD K H d L)(t:G5 H H')(k:∀xs,H d=some (dX d xs)->H' d=some (dX d xs)):XD K H' d L:=by
 obtain⟨xs,h1,h2,h3⟩:=h.ex
 exact⟨xs,k _ h1,h2,fun i x s e1 e2=>⟨(h3 i x s e1 e2).1,(h3 i x s e1 e2).2.ts t⟩⟩
theorem XD.same(h:XD K H d L)(s:i9 H H'):XD K H' d L:=h.move (i9.ts s) fun _ e=>s _ _ e
theorem a7i(hl:xs.length=L.length)(h:∀(i:Nat) x s,xs[i]? = some x->L[i]? = some s->x.1=stK s/\a0x K H x.2.1 s):xs.map (·.1)=L.map stK/\b5e K H xs:=by
 constructor
 ·apply a4C
  intro i
  rw[a9,a9]
  cases e:xs[i]? with
  | none=>rw[Y4.mpr (by rw[<-hl];exact Y4.mp e)];rfl
  | some x=>
   have hi:=(gI e)
   have e2:L[i]? = some (L[i]'(by omega)):=by simp
   rw[e2]
   exact congrArg some (h i x _ e e2).1
 ·intro x hx
  obtain⟨i,hi⟩:=z7.mp hx
  have hi':=(gI hi)
  have e2:L[i]? = some (L[i]'(by omega)):=by simp
  obtain⟨q1,q2⟩:=h i x _ hi e2
  rw[q1]
  exact q2.sq
theorem c1L(h:xs.map (·.1)=L.map stK)(s:Stp):(b3O xs (stK s)).isSome=decide (s∈L):=by
 unfold b3O
 rw[a1Y,U2,List.find?_isSome,decide_eq_true_iff]
 constructor
 ·rintro⟨x,hx,e⟩
  have e:=of_decide_eq_true e
  have:x.1∈L.map stK:=h ▸ A2.mpr ⟨x,hx,rfl⟩
  obtain⟨t,ht,et⟩:=A2.mp this
  rw[e]at et
  rw[<-b6O et];exact ht
 ·intro hs
  have:stK s∈xs.map (·.1):=h ▸ A2.mpr ⟨s,hs,rfl⟩
  obtain⟨x,hx,e⟩:=A2.mp this
  exact⟨x,hx,d5r e⟩
theorem XD.list(h:XD K H d L)(k:∀l H',H l=none->M6 K H' l L->i9 H H'->Q (.ref l) H'):b4r K [.ref d] H Q:=by
 obtain⟨xs,h1,h2,h3⟩:=h.ex
 refine⟨d,xs,rfl,h1,(a7i h2 h3).2,fun l hl=>?_⟩
 refine k l _ hl ⟨xs.map (·.2.1),?_,by rw[b5,h2],fun i a s e1 e2=>?_⟩ (z6 hl)
 ·rw[c8,U1];rfl
 ·rw[a9]at e1
  obtain⟨x,hx,rfl⟩:=o5.mp e1
  exact(h3 i x s hx e2).2.ts (G5.new hl)
theorem XD.in_(h:XD K H d L)(ha:a0x K H a s)(hi:∀R:VK,R (.ref a) H->ti σ H R)(ho:∀R:VK,R (.ref d) H->to σ H R)(k:Q (.bl (if neg then !decide (s∈L)else decide (s∈L))) H):b5r K neg ti to σ H Q:=by
 obtain⟨xs,h1,h2,h3⟩:=h.ex
 refine hi _ (ho _ ⟨d,a,xs,stK s,rfl,rfl,h1,(a7i h2 h3).2,ha.sq,?_⟩)
 rw[c1L (a7i h2 h3).1]
 exact k
end
abbrev b2t(x dd rx wx:Addr)(t:List (Str×V)):List (Str×V):=("plan",.ref x)::("deed",.ref dd)::("ready",.ref rx)::("wanted",.ref wx)::t
theorem b3w{x:Addr}{t:List (Str×V)}{m:Str}(ht:t=[]\/t=([("found",.ref d)]:List (Str×V)))(h:m∉(["plan","deed","ready","wanted","found"]:List Str)):(b2t x dd rx wx t).lookup m=none:=by
 have h1:m≠("plan" : Str):=fun e=>h (by rw[e];simp)
 have h2:m≠("deed" : Str):=fun e=>h (by rw[e];simp)
 have h3:m≠("ready" : Str):=fun e=>h (by rw[e];simp)
 have h4:m≠("wanted" : Str):=fun e=>h (by rw[e];simp)
 have h5:m≠("found" : Str):=fun e=>h (by rw[e];simp)
 rcases ht with rfl | rfl <;> simp[a2z,beq_eq_false_iff_ne.mpr h1,beq_eq_false_iff_ne.mpr h2,beq_eq_false_iff_ne.mpr h3,beq_eq_false_iff_ne.mpr h4,beq_eq_false_iff_ne.mpr h5]
section
variable {K:Fg}{bx x:Addr}{Sp:Nat->Bool}{Sr Sw:List Nat}{p q:Nat}{t:List (Str×V)}{E:XK}
theorem b2Y(ck:a0R K c)(hx:H bx=some (.ins c.E3 dx (b2t x dd rx wx t)))(hp:a3g c H x N rs)(hd:a0Q H dd ds)(sat:a5W H rs ds Do Sp)(ha:a0x K H a ((p:Int),(q:Int)))(hl:p<N.length)(k:∀H',i9 H H'->Q (.bl (Sp p)) H'):P6 K [.ref bx,.ref a] H Q E:=by
 obtain⟨dx',fs,n,r,hx',hfn,hn,hfr,hr,lr⟩:=hp.ex
 obtain⟨ax,hax⟩:∃ax,rs[p]? = some ax:=⟨_,c5 (by omega)⟩
 obtain⟨xs,x1,x2,x3⟩:=sat p ax hax
 have ha:=ha.resolve_right fun z=>a5L z.1
 refine⟨rfl,?_⟩
 unfold a2D
 ext
 exact_mod_cast Q8 ?_
 specialize Q8 ?_
 refine⟨bx,_,dx,_,_,rfl,hx,ck.V4,ck.a3U,rfl,?_⟩
 exists ⟨x,_,dx',fs,_,rfl,hx',ck.N4,ck.P4,hfr,?_⟩
 exists a0g ha (a3k _ _) ?_
 exists J1 hr (a0v (by rw[a9,hax];rfl)) ?_
 specialize Q8 ?_
 exists ⟨bx,_,dx,_,_,rfl,hx,ck.V4,ck.a3V,rfl,?_⟩
 refine a8P x1 hd fun H1 s1=>?_
 rw[x3]
 exact k H1 s1
abbrev frS(S:List Nat):Nat->Bool:=fun t => !decide (t∈S)
theorem b9o(ck:a0R K c)(hx:H bx=some (.ins c.E3 dx (b2t x dd rx wx t)))(ht:t=[]\/t=([("found",.ref d)]:List (Str×V)))(hR:Rdy K c H rx x dd N rs ds Do Sp Sr)(hW:Wnt K c H wx x N Do Sp Sw)(hv:Q9 N)(ha:a0x K H a s)(is:a0P N s)(k:∀H',i9 H H'->Q (.bl (a6Z N Do Sp (frS Sr) (frS Sw) s)) H'):a1m K c [.ref bx,.ref a] H Q E:=by
 obtain⟨dr,rd,kr,r1,_⟩:=id hR.ex
 obtain⟨dw,wd,kw,w1,_⟩:=id hW.ex
 refine⟨rfl,?_⟩
 unfold a6d
 nofun
 exact_mod_cast W3 ?_
 specialize Q8 ?_
 refine⟨bx,_,dx,_,_,rfl,hx,ck.V4,ck.a1e,rfl,?_⟩
 exists ⟨wx,dw,_,rfl,w1,b3v _ _ _ (by decide),?_⟩
 refine b6H ck hW ha is ?_
 ext
 unfold a6Z at k
 by_cases hlw:E4 N s∈Sw
 ·rw[d5r hlw]
  refine C6 rfl ?_
  refine C6 rfl ?_
  ext
  have:=k H (i9.refl _)
  rw[show frS Sw (E4 N s)=false by show(!decide _)=false;rw[d5r hlw];rfl,d1M]at this
  exact this
 rw[show frS Sw (E4 N s)=true by show(!decide _)=true;rw[d5q hlw];rfl]at k
 simp only[a8a]at k
 rw[d5q hlw]
 refine v5 rfl ?_
 ext
 exact_mod_cast W3 ?_
 specialize Q8 ?_
 refine⟨bx,_,dx,_,_,rfl,hx,ck.V4,ck.a2O,rfl,?_⟩
 exists ⟨rx,dr,_,rfl,r1,rfl,?_⟩
 refine b8M ck hR ha is fun H1 s1=>?_
 ext
 rcases is with rfl | ⟨p,q,l,u,rfl,h1,h2⟩
 ·have e:onF Do Sp Sr FST=false:=by unfold onF;rw[d5r rfl];rfl
  rw[e]
  refine v5 rfl ?_
  ext
  refine⟨_,_,_,_,rfl,rfl,(ha.ts (i9.ts s1)).sq,ck.Y5 H1,rfl,rfl,?_⟩
  rw[eq2]
  refine⟨_,rfl,C6 (by decide) ?_⟩
  exact k H1 s1
 ·obtain⟨hg,hpl⟩:=c2k (q:=0) h1
  have hf:decide ((((p:Int),(q:Int)):Stp)=FST)=false:=d5q a5L
  have k':∀H',i9 H H'->Q (.bl (Sp p||(!frS Sr p&&(!Do p && !l.all (frS Sw))))) H':=fun H' s'=>by
   have:=k H' s'
   rw[hf,b2y]at this
   have e:((((p:Int),(q:Int)):Stp).1).toNat=p:=rfl
   rw[e,hg]at this
   exact this
  have e:onF Do Sp Sr ((p:Int),(q:Int))=beh Do Sp Sr p:=by unfold onF;rw[hf];rfl
  rw[e]
  have tail:Sp p=true\/(Sp p=false/\frS Sr p=false/\Do p=false)->(b6K (tOp (c2P K) (b6 1) (tC (.ref c.M7))) (b6K (W0 c.E3 "is_spoilt_ahead" (P6 K) [] E0 (b6 0) (b4 (b6 1) (g8))) (a8u (W0 c.R0 "wanted_behind" (T7 K c) [] E0 (Z1 K (b6 0) "wanted") (b4 (tOp qIx (b6 1) (tC (.int 0))) (g8)))))) [some (V.ref bx),some (.ref a)] H1 Q:=by
   intro hcase
   have ha1:=ha.ts (i9.ts s1)
   ext
   refine⟨_,_,_,_,rfl,rfl,ha1.sq,ck.Y5 H1,rfl,rfl,?_⟩
   rw[eq2]
   refine⟨_,rfl,v5 hf ?_⟩
   ext
   specialize W3 ?_
   exists ⟨bx,dx,_,rfl,s1 _ _ hx,b3w ht (by decide),?_⟩
   refine b2Y ck (s1 _ _ hx) (hR.plan.same s1) (hR.deed.ts (i9.ts s1)) (hR.sat.ts (i9.ts s1)) ha1 hpl fun H2 s2=>?_
   have s12:=s1.trans s2
   refine⟨_,rfl,?_⟩
   rcases hcase with hs | ⟨hs,hr,hdo⟩
   ·rw[hs]
    refine C6 rfl ?_
    have:=k' H2 s12
    rw[hs,d3f]at this
    exact this
   ·rw[hs]
    refine v5 rfl ?_
    ext
    exact_mod_cast W3 ?_
    specialize Q8 ?_
    refine⟨bx,_,dx,_,_,rfl,s12 _ _ hx,ck.V4,ck.a1e,rfl,?_⟩
    exists ⟨wx,dw,_,rfl,s12 _ _ w1,b3v _ _ _ (by decide),?_⟩
    exists a0g ((ha1.ts (i9.ts s2)).resolve_right fun z=>a5L z.1) (a3k _ _) ?_
    refine b1x ck (hW.same s12) hv hpl fun H3 s3=>?_
    refine⟨_,rfl,?_⟩
    have:=k' H3 (s12.trans s3)
    rw[hs,hr,hdo]at this
    unfold d1p
    rw[hg,d5r (a4B (mI h2)),a8a]
    exact this
  cases hs:Sp p with
  | true=>
   rw[show beh Do Sp Sr p=false by unfold beh;rw[hs,if_pos rfl]]
   refine v5 rfl ?_
   exact_mod_cast b6Z ?_
   exact_mod_cast c4N ?_
   exact tail (.inl hs)
  | false=>
   have hb:beh Do Sp Sr p=(Do p||frS Sr p):=by unfold beh;rw[hs];rfl
   rw[hb]
   cases hdo:Do p with
   | true=>
    refine C6 rfl ?_
    ext
    have:=k' H1 s1
    rw[hs,hdo]at this
    simpa using this
   | false=>
    cases hr:frS Sr p with
    | true=>
     refine C6 rfl ?_
     ext
     have:=k' H1 s1
     rw[hs,hr]at this
     exact this
    | false=>
     refine v5 rfl ?_
     exact_mod_cast b6Z ?_
     exact_mod_cast c4N ?_
     exact tail (.inr ⟨hs,hr,hdo⟩)
end
structure Brx(K:Fg)(c:Cn)(H:Hp)(bx x dd:Addr)(N:Nt)(rs:List Addr)(ds:List V)(Do Sp:Nat->Bool)(Sr Sw:List Nat):Prop where
 ex:∃dx rx wx d,H bx=some (.ins c.E3 dx (b2t x dd rx wx [("found",.ref d)]))/\Rdy K c H rx x dd N rs ds Do Sp Sr/\Wnt K c H wx x N Do Sp Sw/\XD K H d ((D5 N).filter (a6Z N Do Sp (frS Sr) (frS Sw)))
section
variable {K:Fg}{bx x b':Addr}{Sp:Nat->Bool}{Sr Sw:List Nat}{p q:Nat}{E:XK}
theorem b5c(ck:a0R K c)(hp:a3g c H x N rs)(hq:a7Y c H x N rs)(hz:a1r K c H x N)(hv:Q9 N)(hd:a0Q H dd ds)(hs:a5W H rs ds Do Sp)(hbx:H bx=none)(hdx:H dx=none)
  (k:∀H' Sr Sw,Brx K c H' bx x dd N rs ds Do Sp Sr Sw->i9 H H'->Q .non H'):a1a K c [.ref bx,.ref x,.ref dd] (upd (upd H dx (.own bx)) bx (.ins c.E3 dx [])) Q E:=by
 refine⟨rfl,?_⟩
 unfold a9z
 exact_mod_cast K6 ?_
 specialize a0K ?_
 refine⟨bx,_,dx,[],rfl,c8,ck.V4,ck.a3U,by simp,?_⟩
 exact_mod_cast K6 ?_
 specialize a0K ?_
 refine⟨bx,_,dx,_,rfl,c8,ck.V4,ck.a3V,by simp[N3],?_⟩
 obtain⟨H3,hH3⟩:∃H3,H3=upd (upd (upd (upd H dx (.own bx)) bx (.ins c.E3 dx [])) bx (.ins c.E3 dx (N3 "plan" (.ref x) []))) bx (.ins c.E3 dx (N3 "deed" (.ref dd) (N3 "plan" (.ref x) []))):=⟨_,rfl⟩
 rw[<-hH3]
 have x3:H3 bx=some (.ins c.E3 dx (N3 "deed" (.ref dd) (N3 "plan" (.ref x) []))):=hH3 ▸ c8
 have s3:i9 H H3:=fun b o e=>by
  have n1:=c9 e hbx
  rw[hH3,g9 n1,g9 n1,g9 n1,g9 (c9 e hdx)];exact e
 have put:∀ {H':Hp} {o:HO},i9 H H'->i9 H (upd H' bx o):=fun s' b o e=>by rw[g9 (c9 e hbx)];exact s' _ _ e
 exact_mod_cast K6 ?_
 exact_mod_cast a0K ?_
 refine c1e ck (hp.same s3) hv (hd.ts (i9.ts s3)) (hs.ts (i9.ts s3)) rfl rfl fun rx H4 Sr hrx R4 s4=>?_
 have x4:=s4 _ _ x3
 have s04:=s3.trans s4
 have nrx:rx≠bx:=(c9 x3 hrx).symm
 ext
 exists ⟨bx,_,dx,_,rfl,x4,ck.V4,ck.a2O,(by show(2:Nat)<1000;decide),?_⟩
 have rput:∀ {H':Hp} {fs:List (Str×V)} {o:HO},H' bx=some (.ins c.E3 dx fs)->i9 H H'->Rdy K c H' rx x dd N rs ds Do Sp Sr->Rdy K c (upd H' bx o) rx x dd N rs ds Do Sp Sr:=by
  intro H' fs o e s' R
  obtain⟨dr,rd,kr,r1,r2⟩:=R.ex
  have t:=G5.ins (o:=o) e
  exact⟨⟨dr,rd,kr,by rw[g9 nrx];exact r1,r2.move t (by rw[g9 (N8 r2.hd e (by intro z;cases z))];exact r2.hd)⟩,hp.same (put s'),R.deed.ts t,R.sat.ts t,R.shut⟩
 have R5:=rput (o:=.ins c.E3 dx (N3 "ready" (.ref rx) (N3 "deed" (.ref dd) (N3 "plan" (.ref x) [])))) x4 s04 R4
 obtain⟨H5,hH5⟩:∃H5,H5=upd H4 bx (.ins c.E3 dx (N3 "ready" (.ref rx) (N3 "deed" (.ref dd) (N3 "plan" (.ref x) [])))):=⟨_,rfl⟩
 have s05:i9 H H5:=hH5 ▸ put s04
 have x5:H5 bx=some (.ins c.E3 dx (N3 "ready" (.ref rx) (N3 "deed" (.ref dd) (N3 "plan" (.ref x) [])))):=hH5 ▸ c8
 rw[<-hH5]at R5 ⊢
 exact_mod_cast K6 ?_
 exact_mod_cast a0K ?_
 refine b9j ck (hq.same s05) (hz.same s05) hv (hd.ts (i9.ts s05)) (hs.ts (i9.ts s05)) rfl rfl fun wx H6 Sw hwx W6 s6=>?_
 have x6:=s6 _ _ x5
 have s06:=s05.trans s6
 have nwx:wx≠bx:=(c9 x5 hwx).symm
 ext
 exists ⟨bx,_,dx,_,rfl,x6,ck.V4,ck.a1e,(by show(3:Nat)<1000;decide),?_⟩
 have wput:∀ {H':Hp} {fs:List (Str×V)} {o:HO},H' bx=some (.ins c.E3 dx fs)->i9 H H'->Wnt K c H' wx x N Do Sp Sw->Wnt K c (upd H' bx o) wx x N Do Sp Sw:=by
  intro H' fs o e s' W
  obtain⟨dw,wd,kw,w1,w2⟩:=W.ex
  exact⟨⟨dw,wd,kw,by rw[g9 nwx];exact w1,w2.ins e⟩,hz.same (put s'),W.shut⟩
 have R7:=rput (o:=.ins c.E3 dx (b2t x dd rx wx [])) x6 s06 (R5.same s6)
 have W7:=wput (o:=.ins c.E3 dx (b2t x dd rx wx [])) x6 s06 W6
 have ef:N3 "wanted" (.ref wx) (N3 "ready" (.ref rx) (N3 "deed" (.ref dd) (N3 "plan" (.ref x) [])))=b2t x dd rx wx []:=rfl
 rw[ef]
 obtain⟨H7,hH7⟩:∃H7,H7=upd H6 bx (.ins c.E3 dx (b2t x dd rx wx [])):=⟨_,rfl⟩
 have s07:i9 H H7:=hH7 ▸ put s06
 have x7:H7 bx=some (.ins c.E3 dx (b2t x dd rx wx [])):=hH7 ▸ c8
 rw[<-hH7]at R7 W7 ⊢
 obtain⟨dx2,r2,n2,e2,es2,p1,_⟩:=id hz.ex
 specialize a0K ?_
 exact_mod_cast U3 (P8 ?_)
 specialize W3 ?_
 exists ⟨x,dx2,_,rfl,s07 _ _ p1,a8D r2 n2 e2 _ (by decide),?_⟩
 refine a6x ck (hz.same s07) hv fun w H8 hw S8 s8=>?_
 have s08:=s07.trans s8
 obtain⟨ps,w1,w2,w3⟩:=id S8.ex
 have lst:=a6Q hv.two
 have h400:=hv.le
 refine⟨w,rfl,⟨_,SqL.of w1⟩,fun D hD=>?_⟩
 refine c1t (J:=Itl K w) ps.length (fun i ys H9=>∃(ts:List Addr) (xs:List XE),ys=ts.map V.ref/\ts.length=xs.length/\(∀(j:Nat) y,xs[j]? = some y->∃p,ts[j]? = some p/\H9 p=some (.tup [.ref y.2.1,y.2.2]))/\xs.length=(((D5 N).take i).filter (a6Z N Do Sp (frS Sr) (frS Sw))).length /\
  (∀(j:Nat) y s,xs[j]? = some y->(((D5 N).take i).filter (a6Z N Do Sp (frS Sr) (frS Sw)))[j]? = some s->y.1=stK s/\a0x K H9 y.2.1 s)/\H9 D=some (.lst ys)/\i9 H8 H9)
  ⟨[],[],rfl,rfl,(fun j y h=>by cases h),rfl,(fun j y s h=>by cases h),c8,z6 hD⟩ ?_ ?_ ?_ ?_
 ·rintro i ys H9 ⟨_,_,_,_,_,_,_,h,_⟩
  exact h
 ·rintro ys H9 ⟨ts,xs,rfl,l1,t1,l2,t2,hD9,s9⟩
  refine⟨⟨_,SqL.of (s9 _ _ w1),by rw[b5];exact j5 _⟩,?_⟩
  rw[w2,F1]at l2 t2
  obtain⟨kk1,kk2⟩:=a7i l2 t2
  ext
  refine⟨D,_,xs,rfl,hD9,by rw[b5,l1],fun j y e=>?_,kk2,?_,fun y hy=>?_,fun dd2 hdd=>?_⟩
  ·obtain⟨p,q1,q2⟩:=t1 j y e
   exact⟨p,by rw[a9,q1];rfl,q2⟩
  ·rw[kk1]
   exact a1v stK (fun a b h e=>h (b6O e)) ((b3Y N).filter _)
  ·obtain⟨j,hj⟩:=z7.mp hy
   have hj':=(gI hj)
   rw[(t2 j y _ hj (c5 (by omega))).1]
   intro z hz
   unfold stK at hz
   rcases o4.mp hz with rfl | hz
   ·exact⟨_,rfl⟩
   ·exact⟨_,o0.mp hz⟩
  ·ext
   have s10:i9 H9 (upd H9 dd2 (dX dd2 xs)):=z6 hdd
   obtain⟨H10,hH10⟩:∃H10,H10=upd H9 dd2 (dX dd2 xs):=⟨_,rfl⟩
   have e10:H10 dd2=some (dX dd2 xs):=hH10 ▸ c8
   rw[<-hH10]at s10 ⊢
   have s810:=s9.trans s10
   have s710:=s8.trans s810
   have x10:=s710 _ _ x7
   refine⟨bx,_,dx,_,rfl,x10,ck.V4,ck.a2P,(by show(4:Nat)<1000;decide),?_⟩
   have ef:N3 "found" (.ref dd2) (b2t x dd rx wx [])=b2t x dd rx wx [("found",.ref dd2)]:=rfl
   rw[ef]
   have s010:=s07.trans s710
   have R11:=rput (o:=.ins c.E3 dx (b2t x dd rx wx [("found",.ref dd2)])) x10 s010 (R7.same s710)
   have W11:=wput (o:=.ins c.E3 dx (b2t x dd rx wx [("found",.ref dd2)])) x10 s010 (W7.same s710)
   refine k _ Sr Sw ⟨dx,rx,wx,dd2,c8,R11,W11,xs,?_,l2,fun j y s e1 e2=>⟨(t2 j y s e1 e2).1,?_⟩⟩ (put s010)
   ·rw[g9 (N8 e10 x10 (by intro z;cases z))];exact e10
   ·exact((t2 j y s e1 e2).2.ts (i9.ts s10)).ts (G5.ins x10)
 ·rintro i ys H9 hi ⟨_,_,_,_,_,_,_,_,s9⟩
  exact⟨_,.ref ps[i],SqL.of (s9 _ _ w1),by rw[a9,c5 hi];rfl⟩
 ·rintro i ys H9' hi ⟨ts,xs,rfl,l1,t1,l2,t2,hD9,s9⟩ v H9 ⟨rfl,hy⟩ R S hR hS
  have hv':=hy _ (SqL.of (s9 _ _ w1))
  rw[a9]at hv'
  obtain⟨p,hp',rfl⟩:=o5.mp hv'
  obtain⟨s,hs'⟩:∃s,(D5 N)[i]? = some s:=⟨_,c5 (by rw[<-w2];exact hi)⟩
  have is:=a3f (mI hs')
  have s79:=s8.trans s9
  have st:=(w3 i p s hp' hs').ts (i9.ts s9)
  have tk:((D5 N).take (i+1)).filter (a6Z N Do Sp (frS Sr) (frS Sw))=((D5 N).take i).filter (a6Z N Do Sp (frS Sr) (frS Sw))++if a6Z N Do Sp (frS Sr) (frS Sw) s=true then [s] else []:=by
   rw[E9,hs',N7]
   congr 1
   simp only[c3Y,a5b,a5R]
  ext
  specialize W3 ?_
  exists ⟨bx,dx,_,rfl,s79 _ _ x7,b3w (d:=0) (.inl rfl) (by decide),?_⟩
  refine b9o (d:=0) ck (s79 _ _ x7) (.inl rfl) (R7.same s79) (W7.same s79) hv st is fun H11 s11=>?_
  refine⟨_,rfl,?_⟩
  cases hb:a6Z N Do Sp (frS Sr) (frS Sw) s with
  | false=>
   rw[hb,if_neg (by decide),P7]at tk
   refine v5 rfl ?_
   refine hS _ ⟨ts,xs,rfl,l1,fun j y e=>let⟨p,q1,q2⟩:=t1 j y e; ⟨p,q1,s11 _ _ q2⟩,by rw[tk];exact l2,fun j y s e1 e2=>?_,s11 _ _ hD9,s9.trans s11⟩
   rw[tk]at e2
   exact⟨(t2 j y s e1 e2).1,(t2 j y s e1 e2).2.ts (i9.ts s11)⟩
  | true=>
   rw[hb,if_pos rfl]at tk
   refine C6 rfl ?_
   ext
   refine L6 (by simp) fun tp H12 htp e12 s12=>?_
   have s912:=s11.trans s12
   have lle:(((D5 N).take i).filter (a6Z N Do Sp (frS Sr) (frS Sw))).length<=(D5 N).length:=by
    have h1:=D0 (a6Z N Do Sp (frS Sr) (frS Sw)) ((D5 N).take i)
    rw[C9]at h1
    omega
   refine hR _ _ (s912 _ _ hD9) (F4 (by rw[b5];omega)) ⟨ts++[tp],xs++[(stK s,p,.bl true)],by rw[C5];rfl,by simp[l1],fun j y e=>?_,?_,fun j y u e1 e2=>?_,c8,fun b o e=>by rw[g9 (c9 e hD)];exact s912 _ _ (s9 _ _ e)⟩
   ·have tt:G5 H12 (upd H12 D (.lst (ts.map V.ref++[.ref tp]))):=G5.put (s912 _ _ hD9)
    rcases Z8 e with ⟨j1,j2⟩ | ⟨j1,j2⟩
    ·obtain⟨p',q1,q2⟩:=t1 j y j2
     exact⟨p',by rw[o3 (by omega)];exact q1,tt _ _ (s912 _ _ q2)⟩
    ·subst j2
     exact⟨tp,by rw[j1,<-l1];simp,tt _ _ e12⟩
   ·rw[tk,p5,p5,l2];rfl
   ·have tt:G5 H9 (upd H12 D (.lst (ts.map V.ref++[.ref tp]))):=fun b z h=>G5.put (s912 _ _ hD9) _ _ (s912 _ _ h)
    rw[tk]at e2
    rcases Z8 e1 with ⟨j1,j2⟩ | ⟨j1,j2⟩
    ·rw[o3 (by omega)]at e2
     exact⟨(t2 j y u j2 e2).1,(t2 j y u j2 e2).2.ts tt⟩
    ·rw[j1,l2,J4 (j5 _),c3P]at e2
     cases e2
     subst j2
     exact⟨rfl,st.ts tt⟩
theorem b6r(ck:a0R K c)(h:Brx K c H bx x dd N rs ds Do Sp Sr Sw)(k:∀l H',H l=none->M6 K H' l ((D5 N).filter (a6Z N Do Sp (frS Sr) (frS Sw)))->i9 H H'->Q (.ref l) H'):a1x K [.ref bx] H Q E:=by
 obtain⟨dx,rx,wx,d,h1,_,_,h5⟩:=h.ex
 refine⟨rfl,?_⟩
 unfold a8s
 ext
 specialize Q8 ?_
 exists ⟨bx,_,dx,_,_,rfl,h1,ck.V4,ck.a2P,rfl,?_⟩
 exact h5.list k
end
section
variable {K:Fg}{bx x:Addr}{Sp fr fw:Nat->Bool}{Sr Sw:List Nat}
theorem b2I{a b:Nat}(ck:a0R K c)(hp:a3g c H x N rs)(hq:a7Y c H x N rs)(hz:a1r K c H x N)(hv:Q9 N)(hd:a0Q H dd ds)(hs:a5W H rs ds Do Sp)(ea:σ[a]? = some (some (.ref x)))(eb:σ[b]? = some (some (.ref dd)))
  (k:∀bx H' Sr Sw,H bx=none->Brx K c H' bx x dd N rs ds Do Sp Sr Sw->i9 H H'->Q (.ref bx) H'):a5x c.E3 (a1a K c) [] E0 (b4 (b6 a) (b4 (b6 b) g8)) σ H Q:=by
 exact_mod_cast b4k ?_
 refine Z9 (X2 ea (Z9 (X2 eb (a6h ?_))))
 intro bx dx hbx hdx _
 exact b5c ck hp hq hz hv hd hs hbx hdx fun H' Sr Sw h s=>⟨rfl,k bx H' Sr Sw hbx h s⟩
end
def uniq(L:List Nat):List Nat:=L.foldl a3H []
theorem b6n:∀ {L ks:List Nat} {j:Nat},j∈L.foldl a3H ks↔j∈ks\/j∈L
 | [],ks,j=>by simp
 | a::L,ks,j=>by
  rw[a0S,b6n,Y7,o4,or_assoc]
theorem b9e:∀ {L ks:List Nat},ks.Nodup->(L.foldl a3H ks).Nodup
 | [],_,h=>h
 | a::L,_,h=>by rw[a0S];exact b9e (a6m h)
theorem b9s:∀ {L ks:List Nat},(ks++L).Nodup->L.foldl a3H ks=ks++L
 | [],ks,_=>by simp
 | a::L,ks,h=>by
  have na:a∉ks:=fun z=>(a2r.mp h).2.2 a z a (by simp) rfl
  rw[a0S,show a3H ks a=ks++[a] by unfold a3H;rw[if_neg na],b9s (by simpa using h)]
  simp
theorem b4L:j∈uniq L↔j∈L:=by unfold uniq;rw[b6n];simp
theorem c8c(L:List Nat):(uniq L).Nodup:=b9e List.nodup_nil
theorem c1N(h:L.Nodup):uniq L=L:=b9s (by simpa using h)
theorem d0V(L:List Nat):c8g (KS L)=KS (uniq L):=by
 have key:∀(L ks:List Nat),(KS L).foldl (fun m p=>a2l m p.1 p.2) (KS ks)=KS (L.foldl a3H ks):=by
  intro L
  induction L with
  | nil=>intro ks;rfl
  | cons a L ih=>
   intro ks
   rw[show KS (a::L)=(Sum.inl (a:Int),V.bl true)::KS L from rfl,a0S,a0S,c6v,ih]
 exact key L []
section
variable {K:Fg}{S:List Stp}{E:XK}
theorem a8F(h:H w=some (.lst (IL L)))(l400:L.length<=400)(k:∀d H',H d=none->H' d=some (.dK (KS (uniq L)))->i9 H H'->Q (.ref d) H'):a2h K [.ref w] H Q E:=by
 refine⟨rfl,?_⟩
 unfold b3S
 ext
 specialize U3 (P8 ?_)
 refine⟨w,rfl,⟨_,SqL.of h⟩,fun T hT=>?_⟩
 refine U0 (xs:=IL L) (fun i ys H8=>ys.length=i/\H8 T=some (.lst ys)/\i9 H H8/\∀(j p:Nat),j<i->L[j]? = some p->∃b,ys[j]? = some (V.ref b)/\H8 b=some (.tup [.int (p:Int),.bl true])) ?_ ?_ ?_ ?_ ?_
 ·exact⟨rfl,c8,z6 hT,by omega⟩
 ·rintro i ys H8 ⟨_,h,_⟩
  exact h
 ·rintro i ys H8 _ ⟨_,_,s8,_⟩
  exact SqL.of (s8 _ _ h)
 ·rintro i y ys H8 hy ⟨l8,hT8,s8,a8⟩ R hR
  unfold IL at hy
  rw[a9]at hy
  cases hz:L[i]? with
  | none=>rw[hz]at hy;cases hy
  | some z=>
   rw[hz]at hy
   cases hy
   have hi:=(gI hz)
   ext
   refine L6 (by simp) fun b H9 hb e9 s9=>?_
   have bT:b≠T:=fun q=>by rw[q,hT8]at hb;cases hb
   refine hR _ _ (s9 _ _ hT8) (F4 (by omega)) ⟨by rw[p5,l8];rfl,c8,fun b o e=>?_,fun j p hj hp=>?_⟩
   ·rw[g9 (c9 e hT)];exact s9 _ _ (s8 _ _ e)
   ·by_cases q:j=i
    ·subst q
     rw[hz]at hp
     cases hp
     exact⟨b,by rw[<-l8];simp,by rw[g9 bT];exact e9⟩
    ·obtain⟨b',q1,q2⟩:=a8 j p (by omega) hp
     exact⟨b',by rw[o3 (by omega)];exact q1,by rw[g9 (N8 q2 hT8 (by intro z;cases z))];exact s9 _ _ q2⟩
 ·rintro ys H8 ⟨l8,hT8,s8,a8⟩
  rw[D2]at l8 a8
  ext
  refine .inl ⟨T,ys,KS L,rfl,hT8,by rw[l8,c6w],fun i kk x e=>?_,fun d hd=>?_⟩
  ·unfold KS at e
   rw[a9]at e
   cases hz:L[i]? with
   | none=>rw[hz]at e;cases e
   | some z=>
    rw[hz]at e
    cases e
    obtain⟨b,q1,q2⟩:=a8 i z (gI hz) hz
    exact⟨b,q1,q2⟩
  ·exact k d _ (s8.free hd) (by rw[d0V];exact c8) (s8.trans (z6 hd))
theorem b0U(h:M6 K H w S)(nd:S.Nodup)(l2:S.length<=2000)(k:∀d H',H d=none->XD K H' d S->i9 H H'->Q (.ref d) H'):a2h K [.ref w] H Q E:=by
 obtain⟨ps,w1,w2,w3⟩:=h.ex
 refine⟨rfl,?_⟩
 unfold b3S
 ext
 specialize U3 (P8 ?_)
 refine⟨w,rfl,⟨_,SqL.of w1⟩,fun D hD=>?_⟩
 refine U0 (xs:=ps.map V.ref) (fun i ys H9=>∃(ts:List Addr),ys=ts.map V.ref/\ts.length=i/\(∀(j:Nat) p,j<i->ps[j]? = some p->∃q,ts[j]? = some q/\H9 q=some (.tup [.ref p,.bl true]))/\H9 D=some (.lst ys)/\i9 H H9) ?_ ?_ ?_ ?_ ?_
 ·exact⟨[],rfl,rfl,by omega,c8,z6 hD⟩
 ·rintro i ys H8 ⟨_,_,_,_,h,_⟩
  exact h
 ·rintro i ys H8 _ ⟨_,_,_,_,_,s8⟩
  exact SqL.of (s8 _ _ w1)
 ·rintro i y ys H8 hy ⟨ts,rfl,l8,a8,hT8,s8⟩ R hR
  rw[a9]at hy
  obtain⟨p,hp',rfl⟩:=o5.mp hy
  have hi:=(gI hp')
  ext
  refine L6 (by simp) fun b H9 hb e9 s9=>?_
  have bT:b≠D:=fun q=>by rw[q,hT8]at hb;cases hb
  refine hR _ _ (s9 _ _ hT8) (F4 (by rw[b5];omega)) ⟨ts++[b],by rw[C5];rfl,by simp[l8],fun j p' hj hp=>?_,c8,fun b o e=>?_⟩
  ·by_cases q:j=i
   ·subst q
    rw[hp']at hp
    cases hp
    exact⟨b,by rw[<-l8];simp,by rw[g9 bT];exact e9⟩
   ·obtain⟨b',q1,q2⟩:=a8 j p' (by omega) hp
    exact⟨b',by rw[o3 (by omega)];exact q1,by rw[g9 (N8 q2 hT8 (by intro z;cases z))];exact s9 _ _ q2⟩
  ·rw[g9 (c9 e hD)];exact s9 _ _ (s8 _ _ e)
 ·rintro ys H8 ⟨ts,rfl,l8,a8,hT8,s8⟩
  rw[b5]at l8 a8
  ext
  let xs:List XE:=(S.zip ps).map fun z=>(stK z.1,z.2,V.bl true)
  have lx:xs.length=S.length:=by simp only[xs,b5,List.length_zip,w2,a9o]
  have at_:∀(j:Nat) y s,xs[j]? = some y->S[j]? = some s->∃p,ps[j]? = some p/\y=(stK s,p,V.bl true):=by
   intro j y s e1 e2
   have hj:=(gI e2)
   have e3:ps[j]? = some (ps[j]'(by omega)):=by simp
   refine⟨_,e3,?_⟩
   simp only[xs,a9]at e1
   rw[show(S.zip ps)[j]? = some (s,ps[j]'(by omega))from List.getElem?_zip_eq_some.mpr ⟨e2,e3⟩]at e1
   exact(Option.some.inj e1).symm
  have t2:∀(j:Nat) y s,xs[j]? = some y->S[j]? = some s->y.1=stK s/\a0x K H8 y.2.1 s:=by
   intro j y s e1 e2
   obtain⟨p,e3,rfl⟩:=at_ j y s e1 e2
   exact⟨rfl,(w3 j p s e3 e2).ts (i9.ts s8)⟩
  have ex:∀(j:Nat) y,xs[j]? = some y->∃s,S[j]? = some s:=fun j y e=>by
   have hj:=(gI e)
   exact⟨_,c5 (by omega)⟩
  obtain⟨kk1,kk2⟩:=a7i lx t2
  refine .inr ⟨D,_,xs,rfl,hT8,by rw[b5,l8,lx,w2],fun j y e=>?_,kk2,?_,fun y hy=>?_,fun d hd=>?_⟩
  ·obtain⟨s,e2⟩:=ex j y e
   obtain⟨p,e3,rfl⟩:=at_ j y s e e2
   obtain⟨q,q1,q2⟩:=a8 j p (by have:=(gI e3);omega) e3
   exact⟨q,by rw[a9,q1];rfl,q2⟩
  ·rw[kk1]
   exact a1v stK (fun a b h e=>h (b6O e)) nd
  ·obtain⟨j,hj⟩:=z7.mp hy
   obtain⟨s,e2⟩:=ex j y hj
   rw[(t2 j y s hj e2).1]
   intro z hz
   unfold stK at hz
   rcases o4.mp hz with rfl | hz
   ·exact⟨_,rfl⟩
   ·exact⟨_,o0.mp hz⟩
  ·exact k d _ (s8.free hd) ⟨xs,c8,lx,fun j y s e1 e2=>⟨(t2 j y s e1 e2).1,(t2 j y s e1 e2).2.ts (G5.new hd)⟩⟩ (s8.trans (z6 hd))
end
section
variable {K:Fg}{x:Addr}{E:XK}
theorem b5M(ha:H a=some (.lst xs))(h2:xs.length<=400)(k:Q .non H):a0B K [.ref a,.int 2,.int 0] H Q E:=by
 refine⟨rfl,?_⟩
 unfold a5u
 nofun
 exists a6l (s := "list") (by simp only[a4P,ha]) (by decide) ?_
 exists v5 (by decide) ?_
 exists L7 ha ?_
 exists v5 (by simp) ?_
 exists L7 ha ?_
 refine v5 (by simp;omega) ?_
 exact k
theorem b5N(ck:a0R K c)(hp:a3g c H x N rs)(h400:N.length<=400)(ha:H a=some (.lst (IL L)))(hl:L.length<=400)(hlt:∀t∈L,t<N.length)(k:∀H',i9 H H'->Q .non H'):a4t K [.ref x,.ref a,.int 2] H Q E:=by
 obtain⟨dx,fs,n,r,h1,_,_,h4,h5,h6⟩:=hp.ex
 refine⟨rfl,?_⟩
 unfold b0y
 ext
 refine⟨rfl,?_⟩
 refine⟨_,rfl,C6 rfl ?_⟩
 nofun
 exists b5M ha (by rw[D2];exact hl) ?_
 specialize U3 (P8 ?_)
 refine⟨a,rfl,⟨_,SqL.of ha⟩,fun D hD=>?_⟩
 refine U0 (xs:=IL L) (fun i ys H2=>ys=D7 i (V.bl true)/\H2 D=some (.lst ys)/\i9 H H2) ⟨rfl,c8,z6 hD⟩ ?_ ?_ ?_ ?_
 ·rintro i ys H2 ⟨_,h,_⟩
  exact h
 ·rintro i ys H2 _ ⟨_,_,s2⟩
  exact SqL.of (s2 _ _ ha)
 ·rintro i y ys H2 hy ⟨rfl,hD2,s2⟩ R hR
  have hy:(L.map fun(n:Nat)=>V.int (n:Int))[i]? = some y:=hy
  rw[a9]at hy
  cases ht:L[i]? with
  | none=>rw[ht]at hy;cases hy
  | some t=>
   rw[ht]at hy
   cases hy
   have hi:=(gI ht)
   have:=hlt t (mI ht)
   ext
   specialize Q8 ?_
   exists ⟨x,_,dx,fs,_,rfl,s2 _ _ h1,ck.N4,ck.P4,h4,?_⟩
   exists L7 (s2 _ _ h5) ?_
   refine b0Y (by omega) (by rw[b5];omega) ?_
   refine hR _ _ hD2 (F4 (by rw[J7];omega)) ⟨b0v i,c8,fun b o e=>?_⟩
   rw[g9 (c9 e hD)];exact s2 _ _ e
 ·rintro ys H2 ⟨rfl,hD2,s2⟩
  ext
  exact a6D hD2 fun H3 s3=>k H3 (s2.trans s3)
end
inductive Fal(N:Nt)(Do:Nat->Bool)(B:List Stp)(L:List Nat):Nat->Prop
 | held {t:Nat}:t∈L->Fal N Do B L t
 | lead {s:Stp}:s∈D5 N->s∉B->(s=FST\/Do s.1.toNat=true)->Fal N Do B L (E4 N s)
 | on {p q t:Nat} {l:List Nat}:Fal N Do B L p->N[p]? = some l->l[q]? = some t->(((p:Int),(q:Int)):Stp)∉B->Fal N Do B L t
def c9o(S:List Nat):List V:=(KS S).map fun kv=>kV kv.1
theorem d2M(S:List Nat):c9o S=IL S:=by
 unfold c9o KS IL
 rw[U1]
 rfl
theorem G5.dK{H:Hp}{p:Addr}{kvs:List (Key×V)}{o:HO}(h:H p=some (.dK kvs)):G5 H (upd H p o):=fun a xs e=>by rw[g9 (N8 e h (by intro z;cases z))];exact e
section
variable {K:Fg}{x bd:Addr}{Sp:Nat->Bool}{S:List Nat}{E:XK}
theorem b7r(h:H d=some (.dK (KS S)))(k:∀l H',H l=none->H' l=some (.lst (IL S))->i9 H H'->Q (.ref l) H'):a4j [.ref d] H Q:=by
 unfold a4j
 simp only[h]
 intro l hl
 exact k l _ hl (by rw[c8];exact congrArg (fun z=>some (HO.lst z)) (d2M S)) (z6 hl)
theorem d2a(h:ti σ H fun y H1=>to σ H1 fun x H2=>∃a b xs k,x=.ref a/\y=.ref b/\H2 a=some (dX a xs)/\b5e K H2 xs/\SqT K H2 b (k.map kV)/\Q (.bl (if neg then !(b3O xs k).isSome else (b3O xs k).isSome)) H2):b5r K neg ti to σ H Q:=h
theorem XD.val(h:XD K H d B)(s:Stp):∃xs,H d=some (dX d xs)/\b5e K H xs/\(b3O xs (stK s)).isSome=decide (s∈B):=by
 obtain⟨xs,h1,h2,h3⟩:=h.ex
 exact⟨xs,h1,(a7i h2 h3).2,c1L (a7i h2 h3).1 s⟩
theorem b6J(ck:a0R K c)(hp:a3g c H x N rs)(hz:a1r K c H x N)(hv:Q9 N)(hd:a0Q H dd ds)(hs:a5W H rs ds Do Sp)(hB:XD K H bd B)(ha:H la=some (.lst (IL L)))(lL:L.length<=400)(hL:∀t∈L,t<N.length)
  (k:∀d F H',H d=none->H' d=some (.dK (KS F))->F.Nodup->(∀t∈F,t<N.length)->(∀t,t∈F↔Fal N Do B L t)->i9 H H'->Q (.ref d) H'):a0U K c [.ref x,.ref dd,.ref bd,.ref la] H Q E:=by
 obtain⟨dx,fs,n,r,h1,h2,h3,h4,h5,h6⟩:=hp.ex
 obtain⟨dx2,r2,n2,e2,es2,p1,_⟩:=id hz.ex
 have h400:=hv.le
 have lst:=a6Q hv.two
 refine⟨rfl,?_⟩
 unfold a5t
 nofun
 exists a8F ha lL fun d H1 hd0 e1 s1=>?_
 exact_mod_cast K6 ?_
 exact_mod_cast a0p (P8 ?_)
 specialize W3 ?_
 exists ⟨x,dx2,_,rfl,s1 _ _ p1,a8D r2 n2 e2 _ (by decide),?_⟩
 refine a6x ck (hz.same s1) hv fun w H2 hw S2 s2=>?_
 obtain⟨ps,w1,w2,w3⟩:=id S2.ex
 have s02:=s1.trans s2
 have ndw:d≠w:=c9 e1 hw
 refine⟨w,rfl,⟨_,SqL.of w1⟩,a2G (xs:=ps.map V.ref) (fun j σ H5=>∃y5 F,σ=[some (.ref x),some (.ref dd),some (.ref bd),some (.ref la),some (.ref d),y5,none,none,none,none,none]/\H5 d=some (.dK (KS F))/\H5 w=some (.lst (ps.map V.ref))/\G5 H2 H5/\i9 H H5/\F.Nodup/\(∀t∈F,t<N.length)/\(∀t∈F,Fal N Do B L t)/\(∀t∈L,t∈F) /\
  ∀s∈(D5 N).take j,s∉B->(s=FST\/Do s.1.toNat=true)->E4 N s∈F) ?_ ?_ ?_ ?_⟩
 ·exact⟨_,uniq L,rfl,s2 _ _ e1,w1,G5.refl _,s02,c8c L,fun t ht=>hL t (b4L.mp ht),fun t ht=>.held (b4L.mp ht),fun t ht=>b4L.mpr ht,fun s hs=>by simp at hs⟩
 ·rintro j σ H5 _ ⟨_,_,_,_,q,_⟩
  exact SqL.of q
 ·rintro j v _ H5 hy ⟨y5,F,rfl,d5,w5,t5,s5,nd,flt,fal,fL,cl⟩
  rw[a9]at hy
  obtain⟨p,hp',rfl⟩:=o5.mp hy
  have hj:=(gI hp')
  obtain⟨s,hs'⟩:∃s,(D5 N)[j]? = some s:=⟨_,c5 (by rw[<-w2];exact hj)⟩
  have ms:=mI hs'
  have is:=a3f ms
  have st:=(w3 j p s hp' hs').ts t5
  have tk:(D5 N).take (j+1)=(D5 N).take j++[s]:=by rw[E9,hs'];rfl
  have lF:=a3M _ _ nd flt
  ext
  refine(hB.same s5).in_ (neg:=true) st (fun R hR'=>⟨_,rfl,hR'⟩) (fun R hR'=>⟨_,rfl,hR'⟩) ?_
  have skip:¬(s∉B/\(s=FST\/Do s.1.toNat=true))->∀s'∈(D5 N).take (j+1),s'∉B->(s'=FST\/Do s'.1.toNat=true)->E4 N s'∈F:=fun no s' h' b' c'=>by
   rw[tk]at h'
   rcases u0.mp h' with q | q
   ·exact cl s' q b' c'
   ·rw[o0.mp q]at b' c';exact(no ⟨b',c'⟩).elim
  have put:s∉B->(s=FST\/Do s.1.toNat=true)->∀ {D':b1m} {H6:Hp} {z:Option V},i9 H5 H6->(∀σ' H',(∃y5 F,σ'=[some (V.ref x),some (.ref dd),some (.ref bd),some (.ref la),some (.ref d),y5,none,none,none,none,none]/\H' d=some (.dK (KS F))/\H' w=some (.lst (ps.map V.ref))/\G5 H2 H'/\i9 H H'/\F.Nodup/\(∀t∈F,t<N.length)/\(∀t∈F,Fal N Do B L t)/\(∀t∈L,t∈F) /\
    ∀s∈(D5 N).take (j+1),s∉B->(s=FST\/Do s.1.toNat=true)->E4 N s∈F)->D'.nx σ' H')->(a3G (b6 4) (W0 c.M8 "leads_to" (T8 K c) [] E0 (b6 0) (b4 (b6 5) (g8))) (tC (.bl true))) D' [some (V.ref x),some (.ref dd),some (.ref bd),some (.ref la),some (.ref d),some (.ref p),none,none,none,none,none] H6:=by
   intro hb hc D' H6 z s6 hR
   have d6:=s6 _ _ d5
   specialize a7r ?_
   specialize W3 ?_
   exists ⟨x,dx2,_,rfl,s6 _ _ (s5 _ _ p1),a8D r2 n2 e2 _ (by decide),?_⟩
   refine a6o ck ((hp.same (s5.trans s6)).x) (st.ts (i9.ts s6)) is ?_
   refine⟨d,_,rfl,a8W d6 (by omega) (E4 N s),?_⟩
   refine hR _ _ ⟨_,a3H F (E4 N s),rfl,c8,by rw[g9 (Ne.symm ndw)];exact s6 _ _ w5,?_,fun b o e=>by rw[g9 (c9 e hd0)];exact s6 _ _ (s5 _ _ e),a6m nd,fun t ht=>(Y7.mp ht).elim (flt t) fun z=>z ▸ a7H hv is,fun t ht=>(Y7.mp ht).elim (fal t) fun z=>z ▸ .lead ms hb hc,fun t ht=>Y7.mpr (.inl (fL t ht)),fun s' h' b' c'=>?_⟩
   ·exact fun b ys h=>G5.dK d6 _ _ (s6 _ _ (t5 _ _ h))
   ·rw[tk]at h'
    rcases u0.mp h' with q | q
    ·exact Y7.mpr (.inl (cl s' q b' c'))
    ·rw[o0.mp q];exact Y7.mpr (.inr rfl)
  by_cases hb:s∈B
  ·refine⟨_,rfl,v5 (by rw[if_pos rfl,d5r hb];rfl) ?_⟩
   exists v5 rfl ?_
   exact⟨_,F,rfl,d5,w5,t5,s5,nd,flt,fal,fL,skip fun z=>z.1 hb⟩
  exists ⟨_,rfl,C6 (by rw[if_pos rfl,d5q hb];rfl) ?_⟩
  refine⟨_,_,_,_,rfl,rfl,st.sq,ck.Y5 H5,rfl,rfl,?_⟩
  rw[eq2]
  by_cases hf:s=FST
  ·refine⟨_,rfl,C6 (by exact d5r hf) ?_⟩
   refine C6 rfl ?_
   exact put hb (.inl hf) (z:=none) (i9.refl _) fun _ _ h=>h
  refine⟨_,rfl,v5 (by exact d5q hf) ?_⟩
  rcases is with e | ⟨p0,q0,l0,t0,rfl,e1,e2⟩
  ·exact(hf e).elim
  rcases id st with st' | ⟨z,_⟩
  rotate_left
  ·exact(hf z).elim
  have hp0:=(gI e1)
  ext
  specialize Q8 ?_
  exists ⟨x,_,dx,fs,_,rfl,s5 _ _ h1,ck.N4,ck.P4,h4,?_⟩
  exists a0g st' (a3k _ _) ?_
  obtain⟨rx,hrx⟩:∃rx,rs[p0]? = some rx:=⟨_,c5 (by omega)⟩
  exists J1 (s5 _ _ h5) (a0v (by rw[a9,hrx];rfl)) ?_
  obtain⟨xs,x1,x2,x3⟩:=(hs.ts (i9.ts s5)) p0 rx hrx
  refine a7K x1 (hd.ts (i9.ts s5)) ?_
  rw[x2]
  cases hdo:Do p0 with
  | true=>
   refine⟨_,rfl,C6 rfl ?_⟩
   exact put hb (.inr hdo) (z:=none) (i9.refl _) fun _ _ h=>h
  | false=>
   exists ⟨_,rfl,v5 rfl ?_⟩
   refine⟨_,F,rfl,d5,w5,t5,s5,nd,flt,fal,fL,skip fun z=>?_⟩
   rcases z.2 with e | e
   ·exact hf e
   ·have e:Do p0=true:=e
    rw[hdo]at e;cases e
 ·rintro _ H5 ⟨y5,F,rfl,d5,w5,t5,s5,nd,flt,fal,fL,cl⟩
  rw[b5,w2,F1]at cl
  nofun
  exists b7r d5 fun o H6 ho e6 s6=>?_
  nofun
  exact_mod_cast K6 ?_
  have s06:=s5.trans s6
  have ho0:H o=none:=s5.free ho
  have ndo:d≠o:=c9 d5 ho
  exact_mod_cast b0I ?_
  refine⟨fun m σ H7=>∃(y8 y9 y10:Option V) (G:List Nat) (dn:Nat),σ=[some (.ref x),some (.ref dd),some (.ref bd),some (.ref la),some (.ref d),y5,some (.ref o),some (.int (dn:Int)),y8,y9,y10]/\H7 d=some (.dK (KS G))/\H7 o=some (.lst (IL G))/\i9 H H7/\G.Nodup/\(∀t∈G,t<N.length)/\(∀t∈G,Fal N Do B L t)/\(∀t∈F,t∈G) /\
   (∀(i p:Nat) l,i<dn->G[i]? = some p->N[p]? = some l->∀(q t:Nat),l[q]? = some t->(((p:Int),(q:Int)):Stp)∉B->t∈G)/\dn<=G.length/\m=N.length - dn,⟨_,_,_,_,F,0,rfl,s6 _ _ d5,e6,s06,nd,flt,fal,fun _ h=>h,by omega,by omega,rfl⟩,?_⟩
  rintro m _ H7 ⟨y8,y9,y10,G,dn,rfl,d7,o7,s7,gnd,glt,gal,gF,gcl,hdn,rfl⟩
  have lG:=a3M _ _ gnd glt
  ext
  exists L7 o7 ?_
  rw[D2]
  by_cases hlt:dn<G.length
  rotate_left
  ·exists v5 (d5q (by omega)) ?_
   refine k d G H7 hd0 d7 gnd glt (fun t=>⟨gal t,fun h=>?_⟩) s7
   induction h with
   | held h=>exact gF _ (fL _ h)
   | lead h1 h2 h3=>exact gF _ (cl _ h1 h2 h3)
   | @on p q t l _ e1 e2 e3 ih=>
    obtain⟨i,hi⟩:=z7.mp ih
    have:=(gI hi)
    exact gcl i p l (by omega) hi e1 q t e2 e3
  ·refine C6 (d5r (by omega)) ?_
   obtain⟨p,hpG⟩:∃p,G[dn]? = some p:=⟨_,c5 hlt⟩
   have hpn:=glt p (mI hpG)
   refine⟨fun σ H8=>∃(m':Nat) (y8 y9 y10:Option V) (G:List Nat) (dn':Nat),σ=[some (.ref x),some (.ref dd),some (.ref bd),some (.ref la),some (.ref d),y5,some (.ref o),some (.int (dn':Int)),y8,y9,y10]/\H8 d=some (.dK (KS G))/\H8 o=some (.lst (IL G))/\i9 H H8/\G.Nodup/\(∀t∈G,t<N.length)/\(∀t∈G,Fal N Do B L t)/\(∀t∈F,t∈G) /\
    (∀(i p:Nat) l,i<dn'->G[i]? = some p->N[p]? = some l->∀(q t:Nat),l[q]? = some t->(((p:Int),(q:Int)):Stp)∉B->t∈G)/\dn'<=G.length/\m'=N.length - dn'/\m'<N.length - dn,?_,?_⟩
   ·rintro σ' H8 ⟨m',y8,y9,y10,G,dn',e,q1,q2,q3,q4,q5,q6,q7,q8,q9,q10,q11⟩
    exact⟨m',q11,y8,y9,y10,G,dn',e,q1,q2,q3,q4,q5,q6,q7,q8,q9,q10⟩
   nofun
   exists J1 o7 (b1l hpG) ?_
   exact_mod_cast K6 ?_
   specialize c1S rfl ?_
   have e1:(dn:Int)+1=((dn+1:Nat):Int):=by omega
   rw[e1]
   specialize a0p (a6i ?_)
   specialize Q8 ?_
   exists ⟨x,_,dx,fs,_,rfl,s7 _ _ h1,ck.N4,ck.U9,h2,?_⟩
   obtain⟨l,hle⟩:∃l,l=N[p]:=⟨_,rfl⟩
   have hl:N[p]? = some l:=by rw[hle];exact L8 hpn
   obtain⟨xs,y,f1,f2,f3,_⟩:=h3.at hl
   exists J1 (s7 _ _ f1) f2 ?_
   refine⟨y,rfl,⟨_,SqL.of (s7 _ _ f3)⟩,?_⟩
   refine b2N l.length (fun i σ H8=>∃(y9 y10:Option V) (G':List Nat),σ=[some (.ref x),some (.ref dd),some (.ref bd),some (.ref la),some (.ref d),y5,some (.ref o),some (.int ((dn+1:Nat):Int)),some (.int (p:Int)),y9,y10]/\H8 d=some (.dK (KS G'))/\H8 o=some (.lst (IL G'))/\i9 H H8/\G'.Nodup/\(∀t∈G',t<N.length)/\(∀t∈G',Fal N Do B L t) /\
    (∃ex,G'=G++ex)/\∀(q t:Nat),q<i->l[q]? = some t->(((p:Int),(q:Int)):Stp)∉B->t∈G') ?_ ?_ ?_ ?_
   ·exact⟨_,_,G,rfl,d7,o7,s7,gnd,glt,gal,⟨[],by simp⟩,by omega⟩
   ·rintro _ H8 ⟨y9,y10,G',rfl,d8,o8,s8,nd8,lt8,al8,⟨ex,rfl⟩,cl8⟩
    refine⟨⟨_,SqL.of (s8 _ _ f3),by rw[D2];exact j5 _⟩,_,_,_,_,_,dn+1,rfl,d8,o8,s8,nd8,lt8,al8,fun t ht=>v8 _ (gF t ht),fun i p' l' hi hpi hl' q t hq hb=>?_,by rw[p5];omega,rfl,by omega⟩
    rw[o3 (by omega)]at hpi
    by_cases z:i=dn
    ·rw[z,hpG]at hpi
     cases hpi
     rw[hl]at hl'
     cases hl'
     exact cl8 q t (gI hq) hq hb
    ·exact v8 _ (gcl i p' l' (by omega) hpi hl' q t hq hb)
   ·rintro i _ H8 hi ⟨y9,y10,G',rfl,d8,o8,s8,_⟩
    exact⟨_,_,SqL.of (s8 _ _ f3),by unfold IL;rw[a9,c5 hi];rfl⟩
   ·rintro i _ H8 hi ⟨y9,y10,G',rfl,d8,o8,s8,nd8,lt8,al8,⟨ex,rfl⟩,cl8⟩ v H9 ⟨pp,w,hpp,rfl,rfl,gw⟩
    obtain⟨t,ht⟩:∃t,l[i]? = some t:=⟨_,c5 hi⟩
    have gw:=gw _ (SqL.of (s8 _ _ f3))
    unfold IL at gw
    rw[a9,ht]at gw
    cases gw
    refine a6j (SqT.of c8) ?_
    have s9:i9 H8 (upd H8 pp (.tup [V.int (i:Int),V.int (t:Int)])):=z6 hpp
    obtain⟨H9,hH9⟩:∃H9,H9=upd H8 pp (.tup [V.int (i:Int),V.int (t:Int)]):=⟨_,rfl⟩
    rw[<-hH9]at s9 ⊢
    have htn:=hv.lt l (mI hl) t (mI ht)
    ext
    specialize d2a ?_
    exists L6 (by simp) fun tp H10 htp e10 s10=>?_
    have s810:=s9.trans s10
    have s010:=s8.trans s810
    obtain⟨xs',v1,v2,v3⟩:=(hB.same s010).val ((p:Int),(i:Int))
    have st:a0x K H10 tp ((p:Int),(i:Int)):=.inl e10
    refine⟨bd,tp,xs',stK ((p:Int),(i:Int)),rfl,rfl,v1,v2,st.sq,?_⟩
    rw[v3]
    have d10:=s810 _ _ d8
    have o10:=s810 _ _ o8
    have sk:((((p:Int),(i:Int)):Stp)∉B->t∈G++ex)->∀(q u:Nat),q<i+1->l[q]? = some u->(((p:Int),(q:Int)):Stp)∉B->u∈G++ex:=fun no q u hq hu hb=>by
     by_cases z:q=i
     ·rw[z,ht]at hu
      cases hu
      rw[z]at hb
      exact no hb
     ·exact cl8 q u (by omega) hu hb
    by_cases hb:(((p:Int),(i:Int)):Stp)∈B
    ·refine⟨_,rfl,v5 (by rw[if_pos rfl,d5r hb];rfl) ?_⟩
     exists v5 rfl ?_
     exact⟨_,_,G++ex,rfl,d10,o10,s010,nd8,lt8,al8,⟨ex,rfl⟩,sk fun z=>(z hb).elim⟩
    exists ⟨_,rfl,C6 (by rw[if_pos rfl,d5q hb];rfl) ?_⟩
    specialize a1V ?_
    obtain⟨ov,g1,g2⟩:=a4x d10 t
    refine⟨d,ov,rfl,g1,?_⟩
    rw[g2]
    by_cases hin:t∈G++ex
    ·exists ⟨_,rfl,v5 (by rw[d5r hin];rfl) ?_⟩
     exact⟨_,_,G++ex,rfl,d10,o10,s010,nd8,lt8,al8,⟨ex,rfl⟩,sk fun _=>hin⟩
    refine⟨_,rfl,C6 (by rw[d5q hin];rfl) ?_⟩
    have lGx:=a3M _ _ nd8 lt8
    have hput:a3H (G++ex) t=G++ex++[t]:=by unfold a3H;rw[if_neg hin]
    exact_mod_cast K6 ?_
    specialize a7r ?_
    refine⟨d,_,rfl,a8W d10 (by omega) t,?_⟩
    rw[hput]
    ext
    specialize a8c ?_
    have o11:(upd H10 d (.dK (KS (G++ex++[t])))) o=some (.lst (IL (G++ex))):=by rw[g9 (Ne.symm ndo)];exact o10
    exists ⟨Z6 o11,?_⟩
    exists a0E o11 (F4 (by rw[D2];omega)) ?_
    have eIL:IL (G++ex)++[V.int (t:Int)]=IL (G++ex++[t]):=by simp[IL]
    refine⟨_,_,G++ex++[t],rfl,by rw[g9 ndo];exact c8,by rw[c8];exact congrArg (fun z=>some (HO.lst z)) eIL,fun b ob e=>by rw[g9 (c9 e ho0),g9 (c9 e hd0)];exact s010 _ _ e,hput ▸ a6m nd8,fun u hu=>?_,fun u hu=>?_,⟨ex++[t],by simp⟩,fun q u hq hu hb'=>?_⟩
    ·rcases u0.mp hu with z | z
     ·exact lt8 u z
     ·rw[o0.mp z];exact htn
    ·rcases u0.mp hu with z | z
     ·exact al8 u z
     ·rw[o0.mp z]
      exact .on (gal p (mI hpG)) hl ht hb
    ·by_cases z:q=i
     ·rw[z,ht]at hu
      cases hu
      exact v7 _ (by simp)
     ·exact v8 _ (cl8 q u (by omega) hu hb')
end
def wtF(Do:Nat->Bool)(B:List Stp)(F:List Nat)(s:Stp):Bool:=decide (s∈B)||(!decide (s=FST)&&(!decide (s.1.toNat∈F) && !Do s.1.toNat))
def puF(N:Nt)(Do:Nat->Bool)(B:List Stp)(F:List Nat)(s:Stp):Bool:=wtF Do B F s&&decide (E4 N s∈F)
structure ChF(K:Fg)(c:Cn)(H:Hp)(cx dx x dd:Addr)(N:Nt)(rs:List Addr)(ds:List V)(Do Sp:Nat->Bool)(B:List Stp)(F:List Nat)(fs:List (Str×V)):Prop where
 hx:H cx=some (.ins c.C1 dx fs)
 lp:fs.lookup ("plan" : Str)=some (.ref x)
 ld:fs.lookup ("deed" : Str)=some (.ref dd)
 br:∃bd,fs.lookup ("brinks" : Str)=some (.ref bd)/\XD K H bd B
 fl:∃fa,fs.lookup ("fallen" : Str)=some (.ref fa)/\H fa=some (.dK (KS F))
 no:∀m:Str,m∉(["plan","deed","brinks","fallen","put_in","left_out","left_in","living"]:List Str)->fs.lookup m=none
 plan:a3g c H x N rs
 pat:a1r K c H x N
 deed:a0Q H dd ds
 sat:a5W H rs ds Do Sp
section
variable {K:Fg}{x:Addr}{Sp:Nat->Bool}{F:List Nat}{fs:List (Str×V)}{E:XK}
theorem ChF.same(h:ChF K c H cx dx x dd N rs ds Do Sp B F fs)(s:i9 H H'):ChF K c H' cx dx x dd N rs ds Do Sp B F fs:=
 ⟨s _ _ h.hx,h.lp,h.ld,let⟨bd,a,b⟩:=h.br; ⟨bd,a,b.same s⟩,let⟨fa,a,b⟩:=h.fl; ⟨fa,a,s _ _ b⟩,h.no,h.plan.same s,h.pat.same s,h.deed.ts (i9.ts s),h.sat.ts (i9.ts s)⟩
theorem a5Z(ck:a0R K c)(h:ChF K c H cx dx x dd N rs ds Do Sp B F fs)(k:Q (.bl (!decide (t∈F))) H):S9 K [.ref cx,.int (t:Int)] H Q E:=by
 obtain⟨fa,f1,f2⟩:=h.fl
 refine⟨rfl,?_⟩
 unfold a6c
 ext
 specialize a1V ?_
 specialize Q8 ?_
 refine⟨cx,_,dx,fs,_,rfl,h.hx,ck.F8,ck.a2t,f1,?_⟩
 obtain⟨ov,g1,g2⟩:=a4x f2 t
 refine⟨fa,ov,rfl,g1,?_⟩
 rw[g2]
 exact k
theorem b8r(ck:a0R K c)(h:ChF K c H cx dx x dd N rs ds Do Sp B F fs)(ha:a0x K H a s)(is:a0P N s)(k:Q (.bl (wtF Do B F s)) H):a1l K c [.ref cx,.ref a] H Q E:=by
 obtain⟨bd,b1,b2⟩:=h.br
 obtain⟨px,pf,n,r,h1,h2,h3,h4,h5,h6⟩:=h.plan.ex
 refine⟨rfl,?_⟩
 unfold a6b
 nofun
 refine b2.in_ (neg:=false) ha (fun R hR'=>⟨_,rfl,hR'⟩) (fun R hR'=>?_) ?_
 ·specialize Q8 ?_
  exact⟨cx,_,dx,fs,_,rfl,h.hx,ck.F8,ck.a1d,b1,hR'⟩
 by_cases hb:s∈B
 ·exists ⟨_,rfl,C6 (by rw[if_neg (by decide)];exact d5r hb) ?_⟩
  unfold wtF at k
  rw[d5r hb]at k
  exact k
 refine⟨_,rfl,v5 (by rw[if_neg (by decide)];exact d5q hb) ?_⟩
 unfold wtF at k
 rw[d5q hb,b2y]at k
 ext
 refine⟨_,_,_,_,rfl,rfl,ha.sq,ck.Y5 H,rfl,rfl,?_⟩
 rw[eq2]
 by_cases hf:s=FST
 ·rw[d5r hf]at k
  refine⟨_,rfl,v5 (by rw[show((s.1,s.2):Stp)=s from rfl,d5r hf];rfl) ?_⟩
  exact k
 rw[d5q hf]at k
 refine⟨_,rfl,C6 (by rw[show((s.1,s.2):Stp)=s from rfl,d5q hf];rfl) ?_⟩
 rcases is with e | ⟨p0,q0,l0,t0,rfl,e1,e2⟩
 ·exact(hf e).elim
 rcases id ha with ha' | ⟨z,_⟩
 rotate_left
 ·exact(hf z).elim
 have hp0:=(gI e1)
 have et:((((p0:Int),(q0:Int)):Stp).1).toNat=p0:=rfl
 rw[et]at k
 ext
 specialize W3 ?_
 exists ⟨cx,dx,_,rfl,h.hx,h.no _ (by decide),?_⟩
 exists a0g ha' (a3k _ _) ?_
 refine a5Z (t:=p0) ck h ?_
 by_cases hF:p0∈F
 ·rw[d5r hF]at k ⊢
  exact⟨_,rfl,v5 rfl k⟩
 rw[d5q hF]at k ⊢
 exists ⟨_,rfl,C6 rfl ?_⟩
 exact_mod_cast Q8 ?_
 specialize Q8 ?_
 exists ⟨cx,_,dx,fs,_,rfl,h.hx,ck.F8,ck.a2b,h.lp,?_⟩
 exists ⟨x,_,px,pf,_,rfl,h1,ck.N4,ck.P4,h4,?_⟩
 exists a0g ha' (a3k _ _) ?_
 obtain⟨rx,hrx⟩:∃rx,rs[p0]? = some rx:=⟨_,c5 (by omega)⟩
 exists J1 h5 (a0v (by rw[a9,hrx];rfl)) ?_
 specialize Q8 ?_
 exists ⟨cx,_,dx,fs,_,rfl,h.hx,ck.F8,ck.a3T,h.ld,?_⟩
 obtain⟨xs,x1,x2,x3⟩:=h.sat p0 rx hrx
 refine a7K x1 h.deed ?_
 rw[x2]
 ext
 exact k
theorem c3n(ck:a0R K c)(h:ChF K c H cx dx x dd N rs ds Do Sp B F fs)(ha:a0x K H a s)(is:a0P N s)(k:Q (.bl (puF N Do B F s)) H):a2i K c [.ref cx,.ref a] H Q E:=by
 obtain⟨px,pf,n,r,h1,h2,h3,h4,h5,h6⟩:=h.plan.ex
 refine⟨rfl,?_⟩
 unfold a7W
 ext
 specialize W3 ?_
 exists ⟨cx,dx,_,rfl,h.hx,h.no _ (by decide),?_⟩
 refine b8r ck h ha is ?_
 unfold puF at k
 cases hw:wtF Do B F s with
 | false=>rw[hw]at k;exact⟨_,rfl,v5 rfl k⟩
 | true=>
  rw[hw]at k
  exists ⟨_,rfl,C6 rfl ?_⟩
  specialize W3 ?_
  exists ⟨cx,dx,_,rfl,h.hx,h.no _ (by decide),?_⟩
  exact_mod_cast W3 ?_
  specialize Q8 ?_
  refine⟨cx,_,dx,fs,_,rfl,h.hx,ck.F8,ck.a2b,h.lp,?_⟩
  obtain⟨dx2,r2,n2,e2,es2,p1,_⟩:=id h.pat.ex
  exists ⟨x,dx2,_,rfl,p1,a8D r2 n2 e2 _ (by decide),?_⟩
  exists a6o ck h.plan.x ha is ?_
  refine a5Z (t:=E4 N s) ck h ?_
  refine⟨_,rfl,?_⟩
  rw[Bool.not_not]
  exact k
end
inductive Liv(N:Nt)(P:List Stp)(O Y:List Nat):Nat->Prop
 | out {t q u:Nat} {l:List Nat}:N[t]? = some l->l[q]? = some u->(((t:Int),(q:Int)):Stp)∉P->u∈O->Liv N P O Y t
 | on {t q u:Nat} {l:List Nat}:N[t]? = some l->l[q]? = some u->(((t:Int),(q:Int)):Stp)∉P->Liv N P O Y u->u∉Y->Liv N P O Y t
section
variable {K:Fg}{x pd od yd:Addr}{P:List Stp}{O:List Nat}{E:XK}
theorem c3j(ck:a0R K c)(hz:a1r K c H x N)(hv:Q9 N)(hP:XD K H pd P)(hO:H od=some (.dK (KS O)))(hY:H yd=some (.dK (KS Y)))(ndO:O.Nodup)(ltO:∀t∈O,t<N.length)
  (k:∀d G H',H d=none->H' d=some (.dK (KS G))->G.Nodup->(∀t∈G,t<N.length)->(∀t,t∈G↔Liv N P O Y t)->i9 H H'->Q (.ref d) H'):Z7 K c [.ref x,.ref pd,.ref od,.ref yd] H Q E:=by
 obtain⟨dx2,r2,n2,e2,es2,p1,_⟩:=id hz.ex
 have h400:=hv.le
 have lO:=a3M _ _ ndO ltO
 have lst:=a6Q hv.two
 refine⟨rfl,?_⟩
 unfold a3Z
 nofun
 exists b7e fun d H1 hd0 e1 s1=>?_
 nofun
 exists b7r (s1 _ _ hO) fun o H2 ho e2' s2=>?_
 nofun
 exact_mod_cast K6 ?_
 have s02:=s1.trans s2
 have ho0:H o=none:=s1.free ho
 have ndo:d≠o:=c9 e1 ho
 exact_mod_cast b0I ?_
 refine⟨fun m σ H7=>∃(y7 y8 y9:Option V) (G:List Nat) (dn:Nat),σ=[some (.ref x),some (.ref pd),some (.ref od),some (.ref yd),some (.ref d),some (.ref o),some (.int (dn:Int)),y7,y8,y9]/\H7 d=some (.dK (KS G))/\H7 o=some (.lst (IL (O++G.filter fun t => !decide (t∈Y))))/\i9 H H7/\G.Nodup/\(∀t∈G,t<N.length)/\(∀t∈G,Liv N P O Y t) /\
  (∀(i u:Nat),i<dn->(O++G.filter fun t => !decide (t∈Y))[i]? = some u->∀s∈D5 N,E4 N s=u->s≠FST->s∉P->s.1.toNat∈G)/\dn<=(O++G.filter fun t => !decide (t∈Y)).length/\m=800 - dn,⟨_,_,_,_,[],0,rfl,s2 _ _ e1,by simpa using e2',s02,by simp,by simp,by simp,by omega,by omega,rfl⟩,?_⟩
 rintro m _ H7 ⟨y7,y8,y9,G,dn,rfl,d7,o7,s7,gnd,glt,gal,gcl,hdn,rfl⟩
 have lG:=a3M _ _ gnd glt
 have lR:(O++G.filter fun t => !decide (t∈Y)).length<=800:=by
  have:=D0 (fun t => !decide (t∈Y)) G
  rw[p5];omega
 ext
 exists L7 o7 ?_
 rw[D2]
 by_cases hlt:dn<(O++G.filter fun t => !decide (t∈Y)).length
 rotate_left
 ·exists v5 (d5q (by omega)) ?_
  have key:∀ {t q u:Nat} {l:List Nat},N[t]? = some l->l[q]? = some u->(((t:Int),(q:Int)):Stp)∉P->u∈O++G.filter (fun t => !decide (t∈Y))->t∈G:=fun {t q u l} a1 a2 a3 a4=>by
   obtain⟨i,hi⟩:=z7.mp a4
   have:=(gI hi)
   exact gcl i u (by omega) hi ((t:Int),(q:Int)) (a4n (.inr ⟨t,q,l,u,rfl,a1,a2⟩)) (a1J a1 a2) a5L a3
  refine k d G H7 hd0 d7 gnd glt (fun t=>⟨gal t,fun h=>?_⟩) s7
  induction h with
  | out a1 a2 a3 a4=>exact key a1 a2 a3 (v8 _ a4)
  | on a1 a2 a3 _ a5 ih=>exact key a1 a2 a3 (v7 _ (D6.mpr ⟨ih,by simpa using a5⟩))
 ·refine C6 (d5r (by omega)) ?_
  obtain⟨u,hu⟩:∃u,(O++G.filter fun t => !decide (t∈Y))[dn]? = some u:=⟨_,c5 hlt⟩
  have muR:=mI hu
  have hun:u<N.length:=(u0.mp muR).elim (ltO u) fun z=>glt u (D6.mp z).1
  refine⟨fun σ H8=>∃(m':Nat) (y7 y8 y9:Option V) (G:List Nat) (dn':Nat),σ=[some (.ref x),some (.ref pd),some (.ref od),some (.ref yd),some (.ref d),some (.ref o),some (.int (dn':Int)),y7,y8,y9]/\H8 d=some (.dK (KS G))/\H8 o=some (.lst (IL (O++G.filter fun t => !decide (t∈Y))))/\i9 H H8/\G.Nodup/\(∀t∈G,t<N.length)/\(∀t∈G,Liv N P O Y t) /\
   (∀(i u:Nat),i<dn'->(O++G.filter fun t => !decide (t∈Y))[i]? = some u->∀s∈D5 N,E4 N s=u->s≠FST->s∉P->s.1.toNat∈G)/\dn'<=(O++G.filter fun t => !decide (t∈Y)).length/\m'=800 - dn'/\m'<800 - dn,?_,?_⟩
  ·rintro σ' H8 ⟨m',y7,y8,y9,G,dn',e,q1,q2,q3,q4,q5,q6,q7,q8,q9,q10⟩
   exact⟨m',q10,y7,y8,y9,G,dn',e,q1,q2,q3,q4,q5,q6,q7,q8,q9⟩
  nofun
  exists J1 o7 (b1l hu) ?_
  exact_mod_cast K6 ?_
  specialize c1S rfl ?_
  have e1':(dn:Int)+1=((dn+1:Nat):Int):=by omega
  rw[e1']
  exact_mod_cast a0p (P8 ?_)
  specialize W3 ?_
  exists ⟨x,dx2,_,rfl,s7 _ _ p1,a8D r2 n2 e2 _ (by decide),?_⟩
  refine b0O ck (hz.same s7) hun fun w H8 hw S8 s8=>?_
  obtain⟨ps,w1,w2,w3⟩:=id S8.ex
  have s08:=s7.trans s8
  have ndw:d≠w:=c9 d7 hw
  have now:o≠w:=c9 o7 hw
  refine⟨w,rfl,⟨_,SqL.of w1⟩,a2G (xs:=ps.map V.ref) (fun j σ H9=>∃(y8 y9:Option V) (G':List Nat),σ=[some (.ref x),some (.ref pd),some (.ref od),some (.ref yd),some (.ref d),some (.ref o),some (.int ((dn+1:Nat):Int)),some (.int (u:Int)),y8,y9]/\H9 d=some (.dK (KS G'))/\H9 o=some (.lst (IL (O++G'.filter fun t => !decide (t∈Y))))/\H9 w=some (.lst (ps.map V.ref))/\G5 H8 H9/\i9 H H9/\G'.Nodup/\(∀t∈G',t<N.length)/\(∀t∈G',Liv N P O Y t)/\(∃ex,G'=G++ex) /\
   ∀s∈((D5 N).filter fun s=>decide (E4 N s=u)).take j,s≠FST->s∉P->s.1.toNat∈G') ?_ ?_ ?_ ?_⟩
  ·exact⟨_,_,G,rfl,s8 _ _ d7,s8 _ _ o7,w1,G5.refl _,s08,gnd,glt,gal,⟨[],by simp⟩,fun s hs=>by simp at hs⟩
  ·rintro j σ H9 _ ⟨_,_,_,_,_,_,q,_⟩
   exact SqL.of q
  ·rintro j v _ H9 hy ⟨y8,y9,G',rfl,d9,o9,w9,t9,s9,nd9,lt9,al9,⟨ex,rfl⟩,cl9⟩
   rw[a9]at hy
   obtain⟨p,hp',rfl⟩:=o5.mp hy
   have hj:=(gI hp')
   obtain⟨s,hs'⟩:∃s,((D5 N).filter fun s=>decide (E4 N s=u))[j]? = some s:=⟨_,c5 (by rw[<-w2];exact hj)⟩
   have ms:=D6.mp (mI hs')
   have is:=a3f ms.1
   have hls:E4 N s=u:=of_decide_eq_true ms.2
   have st:=(w3 j p s hp' hs').ts t9
   have tk:((D5 N).filter fun s=>decide (E4 N s=u)).take (j+1)=((D5 N).filter fun s=>decide (E4 N s=u)).take j++[s]:=by rw[E9,hs'];rfl
   have lG9:=a3M _ _ nd9 lt9
   have lR9:(O++(G++ex).filter fun t => !decide (t∈Y)).length<=800:=by
    have:=D0 (fun t => !decide (t∈Y)) (G++ex)
    rw[p5];omega
   have skip:∀ {X:List Nat},(∀t∈G++ex,t∈X)->(s≠FST->s∉P->s.1.toNat∈X)->∀s'∈((D5 N).filter fun s=>decide (E4 N s=u)).take (j+1),s'≠FST->s'∉P->s'.1.toNat∈X:=fun {X} sub no s' h' b' c'=>by
    rw[tk]at h'
    rcases u0.mp h' with q | q
    ·exact sub _ (cl9 s' q b' c')
    ·rw[o0.mp q]at b' c' ⊢;exact no b' c'
   ext
   nofun
   exists ⟨p,0,_,_,rfl,rfl,st.sq,a3k _ _,?_⟩
   refine⟨_,_,_,_,rfl,rfl,st.sq,ck.Y5 H9,rfl,rfl,?_⟩
   rw[eq2]
   by_cases hf:s=FST
   ·refine⟨_,rfl,v5 (by rw[show((s.1,s.2):Stp)=s from rfl,d5r hf];rfl) ?_⟩
    exists v5 rfl ?_
    exact⟨_,_,G++ex,rfl,d9,o9,w9,t9,s9,nd9,lt9,al9,⟨ex,rfl⟩,skip (fun _ h=>h) fun z=>(z hf).elim⟩
   exists ⟨_,rfl,C6 (by rw[show((s.1,s.2):Stp)=s from rfl,d5q hf];rfl) ?_⟩
   refine(hP.same s9).in_ (neg:=true) st (fun R hR'=>⟨_,rfl,hR'⟩) (fun R hR'=>⟨_,rfl,hR'⟩) ?_
   by_cases hb:s∈P
   ·refine⟨_,rfl,v5 (by rw[if_pos rfl,d5r hb];rfl) ?_⟩
    exists v5 rfl ?_
    exact⟨_,_,G++ex,rfl,d9,o9,w9,t9,s9,nd9,lt9,al9,⟨ex,rfl⟩,skip (fun _ h=>h) fun _ z=>(z hb).elim⟩
   refine⟨_,rfl,C6 (by rw[if_pos rfl,d5q hb];rfl) ?_⟩
   rcases is with e | ⟨p0,q0,l0,t0,rfl,a1,a2⟩
   ·exact(hf e).elim
   have hp0:=(gI a1)
   have et:((((p0:Int),(q0:Int)):Stp).1).toNat=p0:=rfl
   rw[a1J a1 a2]at hls
   subst hls
   have lv:Liv N P O Y p0:=by
    rcases u0.mp muR with z | z
    ·exact .out a1 a2 hb z
    ·have z:=D6.mp z
     exact .on a1 a2 hb (gal _ z.1) (by simpa using z.2)
   ext
   specialize a1V ?_
   obtain⟨ov,g1,g2⟩:=a4x d9 p0
   refine⟨d,ov,rfl,g1,?_⟩
   rw[g2]
   by_cases hin:p0∈G++ex
   ·exists ⟨_,rfl,v5 (by rw[d5r hin];rfl) ?_⟩
    exact⟨_,_,G++ex,rfl,d9,o9,w9,t9,s9,nd9,lt9,al9,⟨ex,rfl⟩,skip (fun _ h=>h) fun _ _=>hin⟩
   refine⟨_,rfl,C6 (by rw[d5q hin];rfl) ?_⟩
   have hput:a3H (G++ex) p0=G++ex++[p0]:=by unfold a3H;rw[if_neg hin]
   have nd10:(G++ex++[p0]).Nodup:=hput ▸ a6m nd9
   have lt10:∀t∈G++ex++[p0],t<N.length:=fun t ht=>by
    rcases u0.mp ht with z | z
    ·exact lt9 t z
    ·rw[o0.mp z];exact hp0
   have al10:∀t∈G++ex++[p0],Liv N P O Y t:=fun t ht=>by
    rcases u0.mp ht with z | z
    ·exact al9 t z
    ·rw[o0.mp z];exact lv
   have cl10:=skip (X:=G++ex++[p0]) (fun _ h=>v8 _ h) fun _ _=>v7 _ (by simp[et])
   exact_mod_cast K6 ?_
   specialize a7r ?_
   refine⟨d,_,rfl,a8W d9 (by omega) p0,?_⟩
   rw[hput]
   obtain⟨H10,hH10⟩:∃H10,H10=upd H9 d (.dK (KS (G++ex++[p0]))):=⟨_,rfl⟩
   have d10:H10 d=some (.dK (KS (G++ex++[p0]))):=hH10 ▸ c8
   have oth:∀b ob,H9 b=some ob->b≠d->H10 b=some ob:=fun b ob e n=>by rw[hH10,g9 n];exact e
   have s10:i9 H H10:=fun b ob e=>oth b ob (s9 b ob e) (c9 e hd0)
   have t10:G5 H8 H10:=fun b ys h=>hH10 ▸ G5.dK d9 _ _ (t9 _ _ h)
   rw[<-hH10]
   have o10:=oth o _ o9 (Ne.symm ndo)
   have w10:=oth w _ w9 (Ne.symm ndw)
   ext
   specialize a1V ?_
   obtain⟨ov',g1',g2'⟩:=a4x (s10 _ _ hY) p0
   refine⟨yd,ov',rfl,g1',?_⟩
   rw[g2']
   by_cases hy':p0∈Y
   ·exists ⟨_,rfl,v5 (by rw[d5r hy'];rfl) ?_⟩
    refine⟨_,_,G++ex++[p0],rfl,d10,?_,w10,t10,s10,nd10,lt10,al10,⟨ex++[p0],by simp⟩,cl10⟩
    rw[N7 (G++ex),show [p0].filter (fun t => !decide (t∈Y))=[] by simp[hy'],P7]
    exact o10
   exists ⟨_,rfl,C6 (by rw[d5q hy'];rfl) ?_⟩
   specialize a8c ?_
   exists ⟨Z6 o10,?_⟩
   exists a0E o10 (F4 (by rw[D2];omega)) ?_
   have eIL:IL (O++(G++ex).filter fun t => !decide (t∈Y))++[V.int (p0:Int)]=IL (O++(G++ex++[p0]).filter fun t => !decide (t∈Y)):=by
    rw[N7 (G++ex),show [p0].filter (fun t => !decide (t∈Y))=[p0] by simp[hy']]
    simp[IL]
   refine⟨_,_,G++ex++[p0],rfl,by rw[g9 ndo];exact d10,by rw[c8];exact congrArg (fun z=>some (HO.lst z)) eIL,by rw[g9 (Ne.symm now)];exact w10,fun b ys h=>G5.put o10 _ _ (t10 _ _ h),fun b ob e=>by rw[g9 (c9 e ho0)];exact s10 _ _ e,nd10,lt10,al10,⟨ex++[p0],by simp⟩,cl10⟩
  ·rintro _ H9 ⟨y8,y9,G',rfl,d9,o9,w9,t9,s9,nd9,lt9,al9,⟨ex,rfl⟩,cl9⟩
   rw[b5,w2,F1]at cl9
   have eR:(O++(G++ex).filter fun t => !decide (t∈Y))=(O++G.filter fun t => !decide (t∈Y))++ex.filter fun t => !decide (t∈Y):=by rw[N7,a7R]
   refine⟨_,_,_,_,G++ex,dn+1,rfl,d9,o9,s9,nd9,lt9,al9,fun i v hi hv' s hs hl' hf hb=>?_,by rw[eR,p5];omega,rfl,by omega⟩
   rw[eR,o3 (by omega)]at hv'
   by_cases z:i=dn
   ·rw[z,hu]at hv'
    cases hv'
    exact cl9 s (D6.mpr ⟨hs,d5r hl'⟩) hf hb
   ·exact v8 _ (gcl i v (by omega) hv' s hs hl' hf hb)
end
section
variable {K:Fg}{S:List Stp}
theorem b2O{α:Type}{l:List α}{f:α->Bool}{s:α}(h:l[i]? = some s):(l.take (i+1)).filter f=(l.take i).filter f++if f s=true then [s] else []:=by
 rw[E9,h,N7]
 congr 1
 simp only[c3Y,a5b,a5R]
theorem c6g{f:Stp->Bool}(lS:S.length<=2000)(hti:∀R:VK,(∀w H',M6 K H' w S->i9 H H'->R (.ref w) H')->ti σ H R)
  (htt:∀p s H',a0x K H' p s->s∈S->i9 H H'->∀R:Bool->Hp->Prop,R (f s) H'->tt (some (.ref p)::σ) H' R)
  (k:∀D H',H D=none->M6 K H' D (S.filter f)->i9 H H'->Q (.ref D) H'):O5 (O0 K ti) tt (b6 0) σ H Q:=by
 exact_mod_cast U3 (P8 ?_)
 refine hti _ fun w H1 S1 s1=>?_
 obtain⟨ps,w1,w2,w3⟩:=id S1.ex
 refine⟨w,rfl,⟨_,SqL.of w1⟩,fun D hD=>?_⟩
 refine c1t (J:=Itl K w) ps.length (fun i ys H9=>∃(ts:List Addr),ys=ts.map V.ref/\ts.length=((S.take i).filter f).length/\(∀(j:Nat) y s,ts[j]? = some y->((S.take i).filter f)[j]? = some s->a0x K H1 y s)/\H9 D=some (.lst ys)/\i9 H1 H9)
  ⟨[],rfl,rfl,(fun j y s h=>by cases h),c8,z6 hD⟩ ?_ ?_ ?_ ?_
 ·rintro i ys H9 ⟨_,_,_,_,h,_⟩
  exact h
 ·rintro ys H9 ⟨ts,rfl,l1,t1,hD9,s9⟩
  refine⟨⟨_,SqL.of (s9 _ _ w1),by rw[b5];exact j5 _⟩,?_⟩
  rw[w2,F1]at l1 t1
  exact k D H9 (s1.free hD) ⟨ts,hD9,l1,fun j y s e1 e2=>(t1 j y s e1 e2).ts (i9.ts s9)⟩ (s1.trans s9)
 ·rintro i ys H9 hi ⟨_,_,_,_,_,s9⟩
  exact⟨_,.ref ps[i],SqL.of (s9 _ _ w1),by rw[a9,c5 hi];rfl⟩
 ·rintro i ys H9' hi ⟨ts,rfl,l1,t1,hD9,s9⟩ v H9 ⟨rfl,hy⟩ R S' hR hS
  have hv':=hy _ (SqL.of (s9 _ _ w1))
  rw[a9]at hv'
  obtain⟨p,hp',rfl⟩:=o5.mp hv'
  obtain⟨s,hs'⟩:∃s,S[i]? = some s:=⟨_,c5 (by rw[<-w2];exact hi)⟩
  have st0:=w3 i p s hp' hs'
  have tk:=b2O (f:=f) hs'
  refine htt p s H9 (st0.ts (i9.ts s9)) (mI hs') (s1.trans s9) _ ?_
  cases hb:f s with
  | false=>
   rw[hb,if_neg (by decide),P7]at tk
   exact v5 rfl (hS _ ⟨ts,rfl,by rw[tk];exact l1,by rw[tk];exact t1,hD9,s9⟩)
  | true=>
   rw[hb,if_pos rfl]at tk
   exists C6 rfl ?_
   have lle:((S.take i).filter f).length<=S.length:=by
    have h1:=D0 f (S.take i)
    rw[C9]at h1
    omega
   refine hR _ _ hD9 (F4 (by rw[b5];omega)) ⟨ts++[p],by rw[C5];rfl,by rw[tk,p5,p5,l1];rfl,fun j y u e1 e2=>?_,c8,fun b o e=>by rw[g9 (c9 e hD)];exact s9 _ _ e⟩
   rw[tk]at e2
   rcases Z8 e1 with ⟨j1,j2⟩ | ⟨j1,j2⟩
   ·rw[o3 (by omega)]at e2
    exact t1 j y u j2 e2
   ·rw[j1,l1,J4 (j5 _),c3P]at e2
    cases e2
    subst j2
    exact st0
theorem b9v{f:Nat->Bool}(lL:L.length<=2000)(hti:∀R:VK,(∀w H',H' w=some (.lst (IL L))->i9 H H'->R (.ref w) H')->ti σ H R)
  (htt:∀(t:Nat) H',t∈L->i9 H H'->∀R:Bool->Hp->Prop,R (f t) H'->tt (some (.int (t:Int))::σ) H' R)
  (k:∀D H',H D=none->H' D=some (.lst (IL (L.filter f)))->i9 H H'->Q (.ref D) H'):O5 (O0 K ti) tt (b6 0) σ H Q:=by
 exact_mod_cast U3 (P8 ?_)
 refine hti _ fun w H1 w1 s1=>?_
 refine⟨w,rfl,⟨_,SqL.of w1⟩,fun D hD=>?_⟩
 refine c1t (J:=Itl K w) L.length (fun i ys H9=>ys=IL ((L.take i).filter f)/\H9 D=some (.lst ys)/\i9 H1 H9) ⟨rfl,c8,z6 hD⟩ ?_ ?_ ?_ ?_
 ·rintro i ys H9 ⟨_,h,_⟩
  exact h
 ·rintro ys H9 ⟨rfl,hD9,s9⟩
  rw[F1]at hD9
  exact⟨⟨_,SqL.of (s9 _ _ w1),by rw[D2];exact j5 _⟩,k D H9 (s1.free hD) hD9 (s1.trans s9)⟩
 ·rintro i ys H9 hi ⟨_,_,s9⟩
  exact⟨_,_,SqL.of (s9 _ _ w1),by unfold IL;rw[a9,c5 hi];rfl⟩
 ·rintro i ys H9' hi ⟨rfl,hD9,s9⟩ v H9 ⟨rfl,hy⟩ R S' hR hS
  have hv':=hy _ (SqL.of (s9 _ _ w1))
  unfold IL at hv'
  rw[a9]at hv'
  obtain⟨t,hs',rfl⟩:=o5.mp hv'
  have tk:=b2O (f:=f) hs'
  refine htt t H9 (mI hs') (s1.trans s9) _ ?_
  cases hb:f t with
  | false=>
   rw[hb,if_neg (by decide),P7]at tk
   exact v5 rfl (hS _ ⟨by rw[tk],hD9,s9⟩)
  | true=>
   rw[hb,if_pos rfl]at tk
   exists C6 rfl ?_
   have lle:((L.take i).filter f).length<=L.length:=by
    have h1:=D0 f (L.take i)
    rw[C9]at h1
    omega
   refine hR _ _ hD9 (F4 (by rw[D2];omega)) ⟨by rw[tk];simp[IL],c8,fun b o e=>by rw[g9 (c9 e hD)];exact s9 _ _ e⟩
end
section
variable {K:Fg}{x:Addr}{Sp:Nat->Bool}
theorem c1u(ck:a0R K c)(hp:a3g c H x N rs)(h400:N.length<=400)(hd:a0Q H dd ds)(hs:a5W H rs ds Do Sp)(e1:σ[1]? = some (some (.ref x)))(e2:σ[2]? = some (some (.ref dd)))
  (k:∀D H',H D=none->H' D=some (.lst (IL ((v9 N.length).filter Do)))->i9 H H'->Q (.ref D) H'):a7k K (a7X K (b4 (Z1 K (b6 1) "rows") (g8))) (tB (w4 (a3y K) [] E0 (b4 (b6 1) (b4 (b6 4) (g8))))) (b6 0) σ H Q:=by
 obtain⟨dx,fs,n,r,h1,h2,h3,h4,h5,h6⟩:=hp.ex
 exact_mod_cast b7f (a6i ?_)
 refine Z9 (Q8 (X2 e1 ?_))
 refine⟨x,_,dx,fs,_,rfl,h1,ck.N4,ck.P4,h4,?_⟩
 refine a6h ?_
 refine⟨r,rfl,⟨_,SqL.of h5⟩,fun D hD=>?_⟩
 refine c1r N.length (fun i ys H9=>ys=IL ((v9 i).filter Do)/\H9 D=some (.lst ys)/\i9 H H9) ⟨rfl,c8,z6 hD⟩ ?_ ?_ ?_ ?_
 ·rintro i ys H9 ⟨_,h,_⟩
  exact h
 ·rintro ys H9 ⟨rfl,hD9,s9⟩
  exact⟨⟨_,SqL.of (s9 _ _ h5),by rw[b5,h6];exact j5 _⟩,k D H9 hD hD9 s9⟩
 ·rintro i ys H9 hi ⟨_,_,s9⟩
  exact⟨_,.ref (rs[i]'(by omega)),SqL.of (s9 _ _ h5),by rw[a9,c5 (by omega)];rfl⟩
 ·rintro i ys H9 hi ⟨rfl,hD9,s9⟩ v H10 ⟨pp,w,hpp,rfl,rfl,gw⟩
  obtain⟨rx,hrx⟩:∃rx,rs[i]? = some rx:=⟨_,c5 (by omega)⟩
  have gw:=gw _ (SqL.of (s9 _ _ h5))
  rw[a9,hrx]at gw
  cases gw
  refine⟨pp,_,_,rfl,SqT.of c8,fun R S hR hS=>?_⟩
  have s10:i9 H9 (upd H9 pp (.tup [V.int (i:Int),V.ref rx])):=z6 hpp
  have s010:=s9.trans s10
  obtain⟨xs,x1,x2,x3⟩:=(hs.ts (i9.ts s010)) i rx hrx
  refine c9G (b4n (Z9 (X2 rfl (Z9 (X2 (by exact e2) (a6h ?_))))))
  refine a7K x1 (hd.ts (i9.ts s010)) ?_
  rw[x2]
  refine⟨_,rfl,?_⟩
  have tk:(v9 (i+1)).filter Do=(v9 i).filter Do++if Do i=true then [i] else []:=by
   rw[a0i,N7]
   congr 1
   simp only[a5b,a5R]
  cases hb:Do i with
  | false=>
   rw[hb,if_neg (by decide),P7]at tk
   exact v5 rfl (hS _ ⟨by rw[tk],s10 _ _ hD9,s010⟩)
  | true=>
   rw[hb,if_pos rfl]at tk
   exists C6 rfl ?_
   have lle:((v9 i).filter Do).length<=i:=by
    have h1:=D0 Do (v9 i)
    rw[W9]at h1
    exact h1
   refine hR _ _ (s10 _ _ hD9) (F4 (by rw[D2];omega)) ⟨by rw[tk];simp[IL],c8,fun b o e=>by rw[g9 (c9 e hD)];exact s010 _ _ e⟩
end
def BkL(N:Nt)(Do Sp:Nat->Bool)(B:List Stp):Prop:=∃fr fw,(∀t,t<N.length->(fr t=false↔UnR N Do Sp t))/\(∀t,t<N.length->(fw t=false↔UnW N Do Sp t))/\B=(D5 N).filter (a6Z N Do Sp fr fw)
theorem BkL.uniq{Sp:Nat->Bool}{B':List Stp}(hv:Q9 N)(h:BkL N Do Sp B)(h':BkL N Do Sp B'):B=B':=by
 obtain⟨fr,fw,h1,h2,rfl⟩:=h
 obtain⟨fr',fw',h1',h2',rfl⟩:=h'
 have cg:∀ {a b:Bool} {P:Prop},(a=false↔P)->(b=false↔P)->a=b:=fun {a b P} x y=>by
  cases a <;> cases b <;> simp_all
 exact List.filter_congr fun s hs=>c3K hv (a3f hs) (fun t ht=>cg (h1 t ht) (h1' t ht)) fun t ht=>cg (h2 t ht) (h2' t ht)
structure Cho(K:Fg)(c:Cn)(H:Hp)(cx x dd:Addr)(N:Nt)(rs:List Addr)(ds:List V)(Do Sp:Nat->Bool)(B:List Stp)(F:List Nat)(P:List Stp)(O Y G:List Nat):Prop where
 ex:∃dx fs,ChF K c H cx dx x dd N rs ds Do Sp B F fs/\(∃a,fs.lookup ("put_in" : Str)=some (.ref a)/\XD K H a P)/\(∃a,fs.lookup ("left_out" : Str)=some (.ref a)/\H a=some (.dK (KS O)))/\(∃a,fs.lookup ("left_in" : Str)=some (.ref a)/\H a=some (.dK (KS Y)))/\∃a,fs.lookup ("living" : Str)=some (.ref a)/\H a=some (.dK (KS G))
def b8U(N:Nt)(Do:Nat->Bool)(F:List Nat):List Nat:=((v9 N.length).filter Do).filter fun t => !(!decide (t∈F))
def inF(N:Nt)(Do:Nat->Bool)(F:List Nat):List Nat:=((v9 N.length).filter Do).filter fun t => !decide (t∈F)
section
variable {K:Fg}{x:Addr}{Sp:Nat->Bool}{P:List Stp}{F O G:List Nat}{fs:List (Str×V)}{E:XK}
theorem Cho.same(h:Cho K c H cx x dd N rs ds Do Sp B F P O Y G)(s:i9 H H'):Cho K c H' cx x dd N rs ds Do Sp B F P O Y G:=by
 obtain⟨dx,fs,h1,⟨a,a1,a2⟩,⟨b,b1,b2⟩,⟨d,d1,d2⟩,⟨e,e1,e2⟩⟩:=h.ex
 exact⟨dx,fs,h1.same s,⟨a,a1,a2.same s⟩,⟨b,b1,s _ _ b2⟩,⟨d,d1,s _ _ d2⟩,⟨e,e1,s _ _ e2⟩⟩
abbrev a5O(x dd bd fa:Addr)(z:List (Str×V)):List (Str×V):=("plan",.ref x)::("deed",.ref dd)::("brinks",.ref bd)::("fallen",.ref fa)::z
theorem b2K{m:Str}:∀ {z:List (Str×V)},m∉z.map (·.1)->z.lookup m=none
 | [],_=>rfl
 | p::z,h=>by
  have h1:(m == p.1)=false:=beq_eq_false_iff_ne.mpr fun e=>h (by rw[e];simp)
  rw[K8,h1]
  exact b2K fun q=>h (G7 _ q)
theorem c8d{bd fa:Addr}{z:List (Str×V)}(hz:(z.map (·.1)) <+: (["put_in","left_out","left_in","living"]:List Str))(m:Str)(h:m∉(["plan","deed","brinks","fallen","put_in","left_out","left_in","living"]:List Str)):(a5O x dd bd fa z).lookup m=none:=by
 refine b2K fun q=>h ?_
 simp only[a5O,B8,o4]at q
 rcases q with q | q | q | q | q
 ·rw[q];simp
 ·rw[q];simp
 ·rw[q];simp
 ·rw[q];simp
 ·exact v7 (["plan","deed","brinks","fallen"]:List Str) (hz.subset q)
theorem a6t(hx:H cx=some (.ins C dx fs))(h:XD K H a P):XD K (upd H cx o) a P:=h.move (G5.ins hx) fun xs e=>by rw[g9 (N8 e hx (by intro z;cases z))];exact e
theorem a5N(hx:H cx=some (.ins C dx fs))(h:H a=some (.dK kvs)):upd H cx o a=some (.dK kvs):=by rw[g9 (N8 h hx (by intro z;cases z))];exact h
theorem b4V(ck:a0R K c)(hp:a3g c H x N rs)(hq:a7Y c H x N rs)(hz:a1r K c H x N)(hv:Q9 N)(hd:a0Q H dd ds)(hn:a7b H dd)(hs:a5W H rs ds Do Sp)(ha:H la=some (.lst (IL L)))(lL:L.length<=400)(hL:∀t∈L,t<N.length)(hcx:H cx=none)(hdx:H dx=none)
  (k:∀H' B F G,BkL N Do Sp B->(∀t,t∈F↔Fal N Do B L t)->(∀t,t∈G↔Liv N ((D5 N).filter (puF N Do B F)) (b8U N Do F) (inF N Do F) t)->Cho K c H' cx x dd N rs ds Do Sp B F ((D5 N).filter (puF N Do B F)) (b8U N Do F) (inF N Do F) G->i9 H H'->Q .non H') :
  a1U K c [.ref cx,.ref x,.ref dd,.ref la] (upd (upd H dx (.own cx)) cx (.ins c.C1 dx [])) Q E:=by
 have h400:=hv.le
 have lst:=a6Q hv.two
 obtain⟨dx2,r2,n2,e2,es2,p1,_⟩:=id hz.ex
 have s0:i9 H (upd (upd H dx (.own cx)) cx (.ins c.C1 dx [])):=fun b o e=>by rw[g9 (c9 e hcx),g9 (c9 e hdx)];exact e
 have put:∀ {H':Hp} {o:HO},i9 H H'->i9 H (upd H' cx o):=fun s' b o e=>by rw[g9 (c9 e hcx)];exact s' _ _ e
 refine⟨rfl,?_⟩
 unfold a9y
 obtain⟨H1,hH1⟩:∃H1,H1=upd (upd H dx (.own cx)) cx (.ins c.C1 dx []):=⟨_,rfl⟩
 have x1:H1 cx=some (.ins c.C1 dx []):=hH1 ▸ c8
 rw[<-hH1]at s0 ⊢
 nofun
 refine⟨x,c.M8,dx2,_,rfl,s0 _ _ p1,ck.c8L,?_⟩
 refine⟨_,rfl,?_⟩
 exists v5 rfl ?_
 nofun
 refine b4O ck (hn.ts (i9.ts s0)) fun H2 s2=>?_
 refine⟨_,rfl,?_⟩
 exists v5 rfl ?_
 nofun
 have s02:=s0.trans s2
 refine b5N ck (hp.same s02) h400 (s02 _ _ ha) lL hL fun H3 s3=>?_
 have s03:=s02.trans s3
 have x3:=s3 _ _ (s2 _ _ x1)
 ext
 exact_mod_cast K6 ?_
 specialize a0K ?_
 refine⟨cx,_,dx,[],rfl,x3,ck.F8,ck.a2b,by simp,?_⟩
 exact_mod_cast K6 ?_
 specialize a0K ?_
 refine⟨cx,_,dx,_,rfl,c8,ck.F8,ck.a3T,by simp[N3],?_⟩
 obtain⟨H4,hH4⟩:∃H4,H4=upd (upd H3 cx (.ins c.C1 dx (N3 "plan" (.ref x) []))) cx (.ins c.C1 dx (N3 "deed" (.ref dd) (N3 "plan" (.ref x) []))):=⟨_,rfl⟩
 have x4:H4 cx=some (.ins c.C1 dx (N3 "deed" (.ref dd) (N3 "plan" (.ref x) []))):=hH4 ▸ c8
 have s04:i9 H H4:=hH4 ▸ put (put s03)
 rw[<-hH4]
 exact_mod_cast K6 ?_
 specialize a0K ?_
 exact_mod_cast W3 ?_
 refine b2I ck (hp.same s04) (hq.same s04) (hz.same s04) hv (hd.ts (i9.ts s04)) (hs.ts (i9.ts s04)) rfl rfl fun bx H5 Sr Sw hbx B5 s5=>?_
 obtain⟨bdx,brx,bwx,bfd,b1,bR,bW,bX⟩:=id B5.ex
 exists ⟨bx,bdx,_,rfl,b1,b3w (d:=bfd) (.inr rfl) (by decide),?_⟩
 refine b6r ck B5 fun w H6 hw S6 s6=>?_
 obtain⟨B,hB⟩:∃B,B=(D5 N).filter (a6Z N Do Sp (frS Sr) (frS Sw)):=⟨_,rfl⟩
 rw[<-hB]at S6
 have bk:BkL N Do Sp B:=⟨frS Sr,frS Sw,fun t _=>by rw[<-bR.un t];simp[frS],fun t _=>by rw[<-bW.un t];simp[frS],hB⟩
 have lB:B.length<=2000:=by
  have:=D0 (a6Z N Do Sp (frS Sr) (frS Sw)) (D5 N)
  rw[hB];omega
 ext
 refine b0U S6 (hB ▸ (b3Y N).filter _) lB fun bd H7 hbd X7 s7=>?_
 have s07:=((s04.trans s5).trans s6).trans s7
 have x7:=s7 _ _ (s6 _ _ (s5 _ _ x4))
 ext
 refine⟨cx,_,dx,_,rfl,x7,ck.F8,ck.a1d,(by show(2:Nat)<1000;decide),?_⟩
 obtain⟨H8,hH8⟩:∃H8,H8=upd H7 cx (.ins c.C1 dx (N3 "brinks" (.ref bd) (N3 "deed" (.ref dd) (N3 "plan" (.ref x) [])))):=⟨_,rfl⟩
 have x8:H8 cx=some (.ins c.C1 dx (N3 "brinks" (.ref bd) (N3 "deed" (.ref dd) (N3 "plan" (.ref x) [])))):=hH8 ▸ c8
 have s08:i9 H H8:=hH8 ▸ put s07
 have X8:XD K H8 bd B:=hH8 ▸ a6t x7 X7
 rw[<-hH8]
 exact_mod_cast K6 ?_
 specialize a0K ?_
 specialize Q8 ?_
 exists ⟨cx,_,dx,_,_,rfl,x8,ck.F8,ck.a1d,rfl,?_⟩
 exists ⟨rfl,_,rfl,v5 rfl ?_⟩
 refine b6J ck (hp.same s08) (hz.same s08) hv (hd.ts (i9.ts s08)) (hs.ts (i9.ts s08)) X8 (s08 _ _ ha) lL hL fun fa F H9 hfa f9 nF ltF alF s9=>?_
 have x9:=s9 _ _ x8
 have s09:=s08.trans s9
 ext
 refine⟨cx,_,dx,_,rfl,x9,ck.F8,ck.a2t,(by show(3:Nat)<1000;decide),?_⟩
 obtain⟨H10,hH10⟩:∃H10,H10=upd H9 cx (.ins c.C1 dx (a5O x dd bd fa [])):=⟨_,rfl⟩
 have x10:H10 cx=some (.ins c.C1 dx (a5O x dd bd fa [])):=hH10 ▸ c8
 have s010:i9 H H10:=hH10 ▸ put s09
 have X10:XD K H10 bd B:=hH10 ▸ a6t x9 (X8.same s9)
 have f10:H10 fa=some (.dK (KS F)):=hH10 ▸ a5N x9 f9
 show(_:Prop)
 rw[show N3 "fallen" (.ref fa) (N3 "brinks" (.ref bd) (N3 "deed" (.ref dd) (N3 "plan" (.ref x) [])))=a5O x dd bd fa [] from rfl,<-hH10]
 have chf:∀ {H':Hp} {z:List (Str×V)},(z.map (·.1)) <+: (["put_in","left_out","left_in","living"]:List Str)->H' cx=some (.ins c.C1 dx (a5O x dd bd fa z))->i9 H H'->XD K H' bd B->H' fa=some (.dK (KS F))->ChF K c H' cx dx x dd N rs ds Do Sp B F (a5O x dd bd fa z):=fun {H' z} hz' hx s' X' f'=>
  ⟨hx,rfl,rfl,⟨bd,rfl,X'⟩,⟨fa,rfl,f'⟩,c8d hz',hp.same s',hz.same s',hd.ts (i9.ts s'),hs.ts (i9.ts s')⟩
 exact_mod_cast K6 ?_
 refine b6Y ?_
 refine c1u ck (hp.same s010) h400 (hd.ts (i9.ts s010)) (hs.ts (i9.ts s010)) rfl rfl fun dg H11 hdg e11 s11=>?_
 have s011:=s010.trans s11
 have x11:=s11 _ _ x10
 have C11:=chf (z:=[]) (by simp) x11 s011 (X10.same s11) (s11 _ _ f10)
 have lD:((v9 N.length).filter Do).length<=400:=by
  have:=D0 Do (v9 N.length)
  rw[W9]at this
  omega
 have ndD:((v9 N.length).filter Do).Nodup:=a8g.filter _
 exact_mod_cast K6 ?_
 exact_mod_cast a0K ?_
 exact_mod_cast b4n ?_
 exact_mod_cast Z9 ?_
 refine c6g (S:=D5 N) (f:=puF N Do B F) (by omega) (fun R hR=>?_) (fun p s H' st ms s' R hR=>?_) fun w12 H12 hw12 S12 s12=>?_
 ·specialize W3 ?_
  exists ⟨x,dx2,_,rfl,s011 _ _ p1,a8D r2 n2 e2 _ (by decide),?_⟩
  exact a6x ck (hz.same s011) hv fun w H' _ S' s'=>hR w H' S' s'
 ·ext
  specialize W3 ?_
  exists ⟨cx,dx,_,rfl,s' _ _ x11,C11.no _ (by decide),?_⟩
  exact c3n ck (C11.same s') st (a3f ms) ⟨_,rfl,hR⟩
 ext
 have lP:((D5 N).filter (puF N Do B F)).length<=2000:=by
  have:=D0 (puF N Do B F) (D5 N)
  omega
 exists b0U S12 ((b3Y N).filter _) lP fun pd H13 hpd X13 s13=>?_
 have s113:=s12.trans s13
 have x13:=s113 _ _ x11
 have s013:=s011.trans s113
 refine⟨cx,_,dx,_,rfl,x13,ck.F8,ck.a1c,(by show(4:Nat)<1000;decide),?_⟩
 obtain⟨H14,hH14⟩:∃H14,H14=upd H13 cx (.ins c.C1 dx (a5O x dd bd fa [("put_in",.ref pd)])):=⟨_,rfl⟩
 have x14:H14 cx=some (.ins c.C1 dx (a5O x dd bd fa [("put_in",.ref pd)])):=hH14 ▸ c8
 have s014:i9 H H14:=hH14 ▸ put s013
 have C14:=chf (z:=[("put_in",.ref pd)]) (by exact⟨["left_out","left_in","living"],rfl⟩) x14 s014 (hH14 ▸ a6t x13 ((X10.same s11).same s113)) (hH14 ▸ a5N x13 (s113 _ _ (s11 _ _ f10)))
 have X14:XD K H14 pd _:=hH14 ▸ a6t x13 X13
 have g14:H14 dg=some (.lst (IL ((v9 N.length).filter Do))):=by rw[hH14,g9 (N8 e11 x11 (by intro z;cases z))];exact s113 _ _ e11
 rw[show N3 "put_in" (.ref pd) (a5O x dd bd fa [])=a5O x dd bd fa [("put_in",.ref pd)] from rfl,<-hH14]
 exact_mod_cast K6 ?_
 exact_mod_cast a0K ?_
 exact_mod_cast b4n ?_
 exact_mod_cast Z9 ?_
 refine b9v (L:=(v9 N.length).filter Do) (f:=fun t => !(!decide (t∈F))) (by omega) (fun R hR=>⟨_,rfl,hR dg H14 g14 (i9.refl _)⟩) (fun t H' mt s' R hR=>?_) fun w15 H15 hw15 e15 s15=>?_
 ·ext
  specialize W3 ?_
  exists ⟨cx,dx,_,rfl,s' _ _ x14,C14.no _ (by decide),?_⟩
  exact a5Z (t:=t) ck (C14.same s') ⟨_,rfl,hR⟩
 ext
 have e15:H15 w15=some (.lst (IL (b8U N Do F))):=e15
 have lO:(b8U N Do F).length<=400:=D9 (D0 _ _) lD
 have ndO:(b8U N Do F).Nodup:=ndD.filter _
 refine a8F e15 lO fun od H16 hod o16 s16=>?_
 rw[c1N ndO]at o16
 ext
 have s116:=s15.trans s16
 have x16:=s116 _ _ x14
 have s016:=s014.trans s116
 refine⟨cx,_,dx,_,rfl,x16,ck.F8,ck.a1s,(by show(5:Nat)<1000;decide),?_⟩
 obtain⟨H17,hH17⟩:∃H17,H17=upd H16 cx (.ins c.C1 dx (a5O x dd bd fa [("put_in",.ref pd),("left_out",.ref od)])):=⟨_,rfl⟩
 have x17:H17 cx=some (.ins c.C1 dx (a5O x dd bd fa [("put_in",.ref pd),("left_out",.ref od)])):=hH17 ▸ c8
 have s017:i9 H H17:=hH17 ▸ put s016
 obtain⟨_,b1',X14b⟩:=C14.br
 cases b1'
 obtain⟨_,b1',f14⟩:=C14.fl
 cases b1'
 have C17:=chf (z:=[("put_in",.ref pd),("left_out",.ref od)]) (by exact⟨["left_in","living"],rfl⟩) x17 s017 (hH17 ▸ a6t x16 (X14b.same s116)) (hH17 ▸ a5N x16 (s116 _ _ f14))
 have X17:XD K H17 pd _:=hH17 ▸ a6t x16 (X14.same s116)
 have o17:H17 od=_:=hH17 ▸ a5N x16 o16
 have g17:H17 dg=some (.lst (IL ((v9 N.length).filter Do))):=by rw[hH17,g9 (N8 e11 x11 (by intro z;cases z))];exact s116 _ _ g14
 rw[show N3 "left_out" (.ref od) (a5O x dd bd fa [("put_in",.ref pd)])=a5O x dd bd fa [("put_in",.ref pd),("left_out",.ref od)] from rfl,<-hH17]
 exact_mod_cast K6 ?_
 exact_mod_cast a0K ?_
 exact_mod_cast b4n ?_
 exact_mod_cast Z9 ?_
 refine b9v (L:=(v9 N.length).filter Do) (f:=fun t => !decide (t∈F)) (by omega) (fun R hR=>⟨_,rfl,hR dg H17 g17 (i9.refl _)⟩) (fun t H' mt s' R hR=>?_) fun w18 H18 hw18 e18 s18=>?_
 ·ext
  specialize W3 ?_
  exists ⟨cx,dx,_,rfl,s' _ _ x17,C17.no _ (by decide),?_⟩
  exact a5Z (t:=t) ck (C17.same s') ⟨_,rfl,hR⟩
 ext
 have e18:H18 w18=some (.lst (IL (inF N Do F))):=e18
 have lY:(inF N Do F).length<=400:=D9 (D0 _ _) lD
 have ndY:(inF N Do F).Nodup:=ndD.filter _
 refine a8F e18 lY fun yd H19 hyd y19 s19=>?_
 rw[c1N ndY]at y19
 ext
 have s119:=s18.trans s19
 have x19:=s119 _ _ x17
 have s019:=s017.trans s119
 refine⟨cx,_,dx,_,rfl,x19,ck.F8,ck.a0H,(by show(6:Nat)<1000;decide),?_⟩
 obtain⟨H20,hH20⟩:∃H20,H20=upd H19 cx (.ins c.C1 dx (a5O x dd bd fa [("put_in",.ref pd),("left_out",.ref od),("left_in",.ref yd)])):=⟨_,rfl⟩
 have x20:H20 cx=some (.ins c.C1 dx (a5O x dd bd fa [("put_in",.ref pd),("left_out",.ref od),("left_in",.ref yd)])):=hH20 ▸ c8
 have s020:i9 H H20:=hH20 ▸ put s019
 obtain⟨_,b1',X17b⟩:=C17.br
 cases b1'
 obtain⟨_,b1',f17⟩:=C17.fl
 cases b1'
 have X20b:XD K H20 bd B:=hH20 ▸ a6t x19 (X17b.same s119)
 have f20:H20 fa=some (.dK (KS F)):=hH20 ▸ a5N x19 (s119 _ _ f17)
 have X20:XD K H20 pd _:=hH20 ▸ a6t x19 (X17.same s119)
 have o20:H20 od=some (.dK (KS (b8U N Do F))):=hH20 ▸ a5N x19 (s119 _ _ o17)
 have y20:H20 yd=some (.dK (KS (inF N Do F))):=hH20 ▸ a5N x19 y19
 rw[show N3 "left_in" (.ref yd) (a5O x dd bd fa [("put_in",.ref pd),("left_out",.ref od)])=a5O x dd bd fa [("put_in",.ref pd),("left_out",.ref od),("left_in",.ref yd)] from rfl,<-hH20]
 specialize a0K ?_
 specialize Q8 ?_
 exists ⟨cx,_,dx,_,_,rfl,x20,ck.F8,ck.a1c,rfl,?_⟩
 specialize Q8 ?_
 exists ⟨cx,_,dx,_,_,rfl,x20,ck.F8,ck.a1s,rfl,?_⟩
 specialize Q8 ?_
 exists ⟨cx,_,dx,_,_,rfl,x20,ck.F8,ck.a0H,rfl,?_⟩
 exists c3j ck (hz.same s020) hv X20 o20 y20 ndO (fun t ht=>L9.mp (D6.mp (D6.mp ht).1).1) fun ld G H21 hld g21 nG ltG alG s21=>?_
 have x21:=s21 _ _ x20
 have s021:=s020.trans s21
 refine⟨cx,_,dx,_,rfl,x21,ck.F8,ck.a4q,(by show(7:Nat)<1000;decide),?_⟩
 obtain⟨H22,hH22⟩:∃H22,H22=upd H21 cx (.ins c.C1 dx (a5O x dd bd fa [("put_in",.ref pd),("left_out",.ref od),("left_in",.ref yd),("living",.ref ld)])):=⟨_,rfl⟩
 have x22:H22 cx=some (.ins c.C1 dx (a5O x dd bd fa [("put_in",.ref pd),("left_out",.ref od),("left_in",.ref yd),("living",.ref ld)])):=hH22 ▸ c8
 have s022:i9 H H22:=hH22 ▸ put s021
 rw[show N3 "living" (.ref ld) (a5O x dd bd fa [("put_in",.ref pd),("left_out",.ref od),("left_in",.ref yd)])=a5O x dd bd fa [("put_in",.ref pd),("left_out",.ref od),("left_in",.ref yd),("living",.ref ld)] from rfl,<-hH22]
 have C22:=chf (z:=[("put_in",.ref pd),("left_out",.ref od),("left_in",.ref yd),("living",.ref ld)]) (by exact⟨[],rfl⟩) x22 s022 (hH22 ▸ a6t x21 (X20b.same s21)) (hH22 ▸ a5N x21 (s21 _ _ f20))
 exact k H22 B F G bk alF alG ⟨dx,_,C22,⟨pd,rfl,hH22 ▸ a6t x21 (X20.same s21)⟩,⟨od,rfl,hH22 ▸ a5N x21 (s21 _ _ o20)⟩,⟨yd,rfl,hH22 ▸ a5N x21 (s21 _ _ y20)⟩,⟨ld,rfl,hH22 ▸ a5N x21 g21⟩⟩ s022
end
section
variable {K:Fg}{x:Addr}{Sp:Nat->Bool}{P:List Stp}{F O G:List Nat}{E:XK}
theorem b9k{a b:Nat}{tr:TE}(ck:a0R K c)(hp:a3g c H x N rs)(hq:a7Y c H x N rs)(hz:a1r K c H x N)(hv:Q9 N)(hd:a0Q H dd ds)(hn:a7b H dd)(hs:a5W H rs ds Do Sp)(hL:∀t∈L,t<N.length)(lL:L.length<=400)(ea:σ[a]? = some (some (.ref x)))(eb:σ[b]? = some (some (.ref dd)))
  (htr:∀R:VK,(∀la H',H' la=some (.lst (IL L))->i9 H H'->R (.ref la) H')->tr σ H R)
  (k:∀cx H' B F G,H cx=none->BkL N Do Sp B->(∀t,t∈F↔Fal N Do B L t)->(∀t,t∈G↔Liv N ((D5 N).filter (puF N Do B F)) (b8U N Do F) (inF N Do F) t)->Cho K c H' cx x dd N rs ds Do Sp B F ((D5 N).filter (puF N Do B F)) (b8U N Do F) (inF N Do F) G->i9 H H'->Q (.ref cx) H') :
  a5x c.C1 (a1U K c) [] E0 (b4 (b6 a) (b4 (b6 b) (b4 tr g8))) σ H Q:=by
 exact_mod_cast b4k ?_
 refine Z9 (X2 ea (Z9 (X2 eb (Z9 ?_))))
 refine htr _ fun la H1 h1 s1=>?_
 refine a6h ?_
 intro cx dx hcx hdx _
 exact b4V ck (hp.same s1) (hq.same s1) (hz.same s1) hv (hd.ts (i9.ts s1)) (hn.ts (i9.ts s1)) (hs.ts (i9.ts s1)) h1 lL hL hcx hdx fun H' B F G h2 h3 h4 h5 h6=>⟨rfl,k cx H' B F G (s1.free hcx) h2 h3 h4 h5 (s1.trans h6)⟩
theorem c7h(ck:a0R K c)(h:Cho K c H cx x dd N rs ds Do Sp B F P O Y G)(k:∀l H',H l=none->M6 K H' l P->i9 H H'->Q (.ref l) H'):a3A K [.ref cx] H Q E:=by
 obtain⟨dx,fs,h1,⟨a,a1,a2⟩,_⟩:=h.ex
 refine⟨rfl,?_⟩
 unfold a9x
 ext
 specialize Q8 ?_
 exists ⟨cx,_,dx,_,_,rfl,h1.hx,ck.F8,ck.a1c,a1,?_⟩
 exact a2.list k
end
section
variable {K:Fg}{x:Addr}{Sp:Nat->Bool}{P:List Stp}{F O G:List Nat}{E:XK}
theorem c4I(ck:a0R K c)(h:Cho K c H cx x dd N rs ds Do Sp B F P O Y G)(k:∀l H',H l=none->H' l=some (.lst (IL Y))->i9 H H'->Q (.ref l) H'):a2K K [.ref cx] H Q E:=by
 obtain⟨dx,fs,h1,_,_,⟨a,a1,a2⟩,_⟩:=h.ex
 refine⟨rfl,?_⟩
 unfold a8r
 ext
 specialize Q8 ?_
 exists ⟨cx,_,dx,_,_,rfl,h1.hx,ck.F8,ck.a0H,a1,?_⟩
 exact b7r a2 k
end
section
variable {K:Fg}{S:List Stp}{E:XK}
structure WS(H:Hp)(w:Addr)(S:List Stp):Prop where
 ex:∃ps:List Addr,H w=some (.lst (ps.map V.ref))/\ps.length=S.length/\∀(i:Nat) p s,ps[i]? = some p->S[i]? = some s->H p=some (.tup [.int s.1,.int s.2])
theorem WS.at(h:WS H w S):M6 K H w S:=by
 obtain⟨ps,h1,h2,h3⟩:=h.ex
 exact⟨ps,h1,h2,fun i p s a c=>.inl (h3 i p s a c)⟩
theorem WS.same(h:WS H w S)(s:i9 H H'):WS H' w S:=by
 obtain⟨ps,h1,h2,h3⟩:=h.ex
 exact⟨ps,s _ _ h1,h2,fun i p t a c=>s _ _ (h3 i p t a c)⟩
theorem WS.kept(h:WS H w S)(hB:Bag H b d)(k:E8 b H H'):WS H' w S:=by
 obtain⟨ps,h1,h2,h3⟩:=h.ex
 obtain⟨bs,hb⟩:=hB.lst
 exact⟨ps,k.1 _ _ h1 (a2k hB h1),h2,fun i p t a c=>k.tup hb (h3 i p t a c)⟩
theorem WS.app{z:Addr}{ps:List Addr}(h1:H w=some (.lst (ps.map V.ref)))(h2:ps.length=S.length)(h3:∀(i:Nat) p s,ps[i]? = some p->S[i]? = some s->H p=some (.tup [.int s.1,.int s.2]))(hz:H z=some (.tup [.int s.1,.int s.2])):WS (upd H w (.lst (ps.map V.ref++[.ref z]))) w (S++[s]):=by
 refine⟨ps++[z],by rw[c8,C5];rfl,by simp[h2],fun i p t f1 f2=>?_⟩
 rcases Z8 f1 with ⟨hi,f1⟩ | ⟨hi,f1⟩
 ·rcases Z8 f2 with ⟨_,f2⟩ | ⟨hj,_⟩
  ·exact G5.put h1 _ _ (h3 i p t f1 f2)
  ·omega
 ·subst f1
  rcases Z8 f2 with ⟨hj,_⟩ | ⟨_,f2⟩
  ·omega
  ·subst f2
   exact G5.put h1 _ _ hz
end
section
variable {K:Fg}{M:List Nat}{E:XK}
theorem b9q(h1:H a=some (.lst (IL L)))(h2:H b=some (.lst (IL L)))(k:∀H',i9 H H'->Q (.bl true) H'):a6g K [.ref a,.ref b] H Q E:=by
 refine⟨rfl,?_⟩
 unfold b3W
 nofun
 exists a6l (s := "list") (by simp only[a4P,h1]) (by decide) ?_
 exists v5 (by decide) ?_
 exists L7 h1 ?_
 exists L7 h2 ?_
 exists v5 (by simp) ?_
 exact_mod_cast K6 ?_
 specialize a0p (c0w ?_)
 refine⟨a,b,rfl,⟨_,SqL.of h1⟩,⟨_,SqL.of h2⟩,?_⟩
 refine b2N L.length (fun i σ H9=>∃y2 y3,σ=[some (.ref a),some (.ref b),y2,y3]/\i9 H H9) ⟨_,_,rfl,i9.refl _⟩ ?_ ?_ ?_
 ·rintro _ H9 ⟨y2,y3,rfl,s9⟩
  exists ⟨⟨_,_,SqL.of (s9 _ _ h1),SqL.of (s9 _ _ h2),.inl (by rw[D2];exact j5 _)⟩,?_⟩
  exact k H9 s9
 ·rintro i _ H9 hi ⟨y2,y3,rfl,s9⟩
  have e:(IL L)[i]? = some (V.int (L[i]:Int)):=by unfold IL;rw[a9,c5 hi];rfl
  exact⟨_,_,_,_,SqL.of (s9 _ _ h1),SqL.of (s9 _ _ h2),e,e⟩
 ·rintro i _ H9 hi ⟨y2,y3,rfl,s9⟩ v H10 ⟨pp,u1,u2,hpp,rfl,rfl,g1,g2⟩
  have e:(IL L)[i]? = some (V.int (L[i]:Int)):=by unfold IL;rw[a9,c5 hi];rfl
  have g1:=g1 _ (SqL.of (s9 _ _ h1))
  have g2:=g2 _ (SqL.of (s9 _ _ h2))
  rw[e]at g1 g2
  cases g1
  cases g2
  refine a6j (SqT.of c8) ?_
  have s10:=s9.trans (z6 (o:=.tup [V.int (L[i]:Int),V.int (L[i]:Int)]) hpp)
  ext
  refine b7s ⟨_,rfl,?_⟩
  exists v5 rfl ?_
  exists v5 (by simp) ?_
  exact⟨_,_,rfl,s10⟩
end
section
variable {K:Fg}{pa oa ya:Addr}{O:List Nat}{P:List Stp}{E:XK}
theorem fe2(a b x y:Int):T0 [.int a,.int b] [.int x,.int y]=decide (((a,b):Stp)=(x,y)):=by
 unfold T0
 simp only[C0,a3S,Nat.zero_add,d3d,a9o]
 rw[show v9 2=[0,1] from rfl]
 simp only[T3,c2m,b9U,M0,a8h,c1H,a2y,beq_self_eq_true]
 by_cases h:a=x <;> by_cases h':b=y <;> simp[eqV,h,h']
theorem M6.ins{neg:Bool}(h:M6 K H w P)(ha:a0x K H a s)(k:Q (.bl (if neg then !decide (s∈P)else decide (s∈P))) H):c0D K neg (.ref a) (.ref w) H Q:=by
 obtain⟨ps,h1,h2,h3⟩:=h.ex
 refine⟨a,w,[.int s.1,.int s.2],ps,P.map fun s=>[.int s.1,.int s.2],rfl,rfl,ha.sq,rfl,h1,by rw[b5,h2],fun i b zs e1 e2=>?_,?_⟩
 ·rw[a9]at e2
  obtain⟨u,hu,rfl⟩:=o5.mp e2
  exact⟨(h3 i b u e1 hu).sq,rfl⟩
 ·have:((P.map fun s=>([.int s.1,.int s.2]:List V)).any fun zs=>T0 zs [.int s.1,.int s.2])=decide (s∈P):=by
   rw[U2,a8i,decide_eq_true_iff]
   constructor
   ·rintro⟨z,hz,e⟩
    obtain⟨u,hu,rfl⟩:=A2.mp hz
    rw[fe2]at e
    have e:=of_decide_eq_true e
    have:u=s:=e
    rw[<-this];exact hu
   ·intro h
    exact⟨_,A2.mpr ⟨s,h,rfl⟩,by rw[fe2];exact d5r rfl⟩
  rw[this]
  exact k
theorem d2P(h:H w=some (.lst (IL L)))(k:Q (.bl (if neg then !decide (t∈L)else decide (t∈L))) H):qIn neg (.int (t:Int)) (.ref w) H Q:=by
 have e:inV (.int (t:Int)) (IL L)=decide (t∈L):=by
  unfold inV IL
  rw[U2,a8i,decide_eq_true_iff]
  constructor
  ·rintro⟨z,hz,e⟩
   obtain⟨u,hu,rfl⟩:=A2.mp hz
   have:(u:Int)=(t:Int):=by simpa[eqV]using e
   have:u=t:=by omega
   rw[<-this];exact hu
  ·intro h
   exact⟨_,A2.mpr ⟨t,h,rfl⟩,by simp[eqV]⟩
 unfold qIn
 simp only[h]
 refine⟨rfl,a9a L,?_⟩
 rw[e]
 exact k
end
section
variable {K:Fg}{c:Addr}{E:XK}
theorem c8s(hB:Bag H b c)(hn:0<n)(hn2:n<=400)(k:∀D L H',D≠b->H' D=some (.lst (IL L))->L.length<=400->(∀t∈L,t<n)->Bag H' b c->E8 b H H'->Q (.ref D) H'):b3t K [.ref b,.int (n:Int)] H Q E:=by
 refine⟨rfl,?_⟩
 unfold c4E
 nofun
 exists O7 hB (by decide) (by decide) fun n1 H1 a0 a1 B1 k1=>?_
 refine a3j (fun _=>?_) (fun _=>?_)
 ·ext
  specialize U3 (a1n ?_)
  refine⟨(n:Int),rfl,by omega,by omega,fun D hD=>?_⟩
  rw[A5]
  obtain⟨nb,nc⟩:=B1.nb hD
  refine a6W (fun i ys H4=>ys=IL (v9 i)/\H4 D=some (.lst ys)/\Bag H4 b c/\E8 b H1 H4) ⟨rfl,c8,B1.new hD,E8.new hD⟩ ?_ ?_ ?_
  ·rintro i ys H4 ⟨_,h,_⟩
   exact h
  ·rintro i ys H4 hi ⟨rfl,hd,B4,k4⟩ R hR
   ext
   rw[U4]
   refine hR _ _ hd (F4 (by rw[D2,W9];omega)) ⟨by rw[a0i];simp[IL],c8,B4.put nb nc,k4.put hD⟩
  ·rintro ys H4 ⟨rfl,hd,B4,k4⟩
   ext
   exact k D _ H4 nb hd (by rw[W9];exact hn2) (fun t ht=>L9.mp ht) B4 (k1.trans k4)
 ·ext
  specialize U3 (a1n ?_)
  refine O7 B1 (by decide) (by decide) fun n2 H2 b0 b1 B2 k2=>?_
  obtain⟨m,rfl⟩:∃m:Nat,n2=(m:Int):=⟨n2.toNat,by omega⟩
  ext
  refine⟨(m:Int),rfl,by omega,by omega,fun D hD=>?_⟩
  rw[A5]
  obtain⟨nb,nc⟩:=B2.nb hD
  refine a6W (fun i ys H4=>∃L:List Nat,ys=IL L/\L.length=i/\(∀t∈L,t<n)/\H4 D=some (.lst ys)/\Bag H4 b c/\E8 b H2 H4) ⟨[],rfl,rfl,by simp,c8,B2.new hD,E8.new hD⟩ ?_ ?_ ?_
  ·rintro i ys H4 ⟨_,_,_,_,h,_⟩
   exact h
  ·rintro i ys H4 hi ⟨L,rfl,rfl,h1,hd,B4,k4⟩ R hR
   ext
   refine O7 B4 (by omega) (by omega) fun j H5 j0 j1 B5 k5=>?_
   obtain⟨t,rfl⟩:∃t:Nat,j=(t:Int):=⟨j.toNat,by omega⟩
   refine hR _ _ (k5.1 _ _ hd nb) (F4 (by rw[D2];omega)) ⟨L++[t],by simp[IL],by simp,fun u hu=>?_,c8,B5.put nb nc,(k4.trans k5).put hD⟩
   rcases u0.mp hu with q | q
   ·exact h1 u q
   ·rw[o0.mp q];omega
  ·rintro ys H4 ⟨L,rfl,hl,h1,hd,B4,k4⟩
   ext
   exact k D L H4 nb hd (by omega) h1 B4 ((k1.trans k2).trans k4)
end
theorem c1s{K:Fg}(hn:J5 H a N)(h400:N.length<=400)(hi:σ[i]? = some (some (.ref a)))(k:∀a' H',J5 H' a' N->i9 H H'->Q (.ref a') H'):O5 (O0 K (b6 i)) Q7 (tCB a6U (b4 (b6 0) g8)) σ H Q:=by
 obtain⟨ns,m1,m2,m3⟩:=id hn.ex
 exact_mod_cast U3 (P8 ?_)
 refine⟨_,hi,a,rfl,⟨_,SqL.of m1⟩,fun np hnp=>?_⟩
 refine U0 (xs:=ns.map V.ref) (fun i ys H8=>∃as:List Addr,ys=as.map V.ref/\as.length=i/\(∀(j:Nat) y l,as[j]? = some y->N[j]? = some l->H8 y=some (.lst (IL l))/\y≠np)/\H8 np=some (.lst ys)/\i9 H H8) ⟨[],rfl,rfl,by simp,c8,z6 hnp⟩ ?_ ?_ ?_ ?_
 ·rintro i ys H8 ⟨_,_,_,_,h,_⟩
  exact h
 ·rintro i ys H8 _ ⟨_,_,_,_,_,s8⟩
  exact SqL.of (s8 _ _ m1)
 ·rintro i y ys H8 hy ⟨as,rfl,la,at8,hnp8,s8⟩ R hR
  rw[a9]at hy
  obtain⟨nx,hnx,rfl⟩:=o5.mp hy
  have hi:i<N.length:=by rw[<-m2];exact(gI hnx)
  ext
  refine a7v (s8 _ _ (m3 i nx _ hnx (L8 hi))) fun q H9 hq e9 s9=>?_
  have nq:q≠np:=(c9 hnp8 hq).symm
  refine hR _ _ (s9 _ _ hnp8) (F4 (by rw[b5];omega)) ⟨as++[q],by simp,by simp[la],fun j y l g1 g2=>?_,c8,fun b o e=>by rw[g9 (c9 e hnp)];exact s9 _ _ (s8 _ _ e)⟩
  rcases Z8 g1 with ⟨_,f1⟩ | ⟨hj,f1⟩
  ·obtain⟨f2,f3⟩:=at8 j y l f1 g2
   exact⟨by rw[g9 f3];exact s9 _ _ f2,f3⟩
  ·rw[hj,la,L8 hi]at g2
   cases g2
   subst f1
   exact⟨by rw[g9 nq];exact e9,nq⟩
 ·rintro ys H8 ⟨as,rfl,la,at8,hnp8,s8⟩
  rw[b5,m2]at la
  exact k np H8 ⟨as,hnp8,la,fun i y l a b=>(at8 i y l a b).1⟩ s8
section
variable {Sp:Nat->Bool}{P:List Stp}{F O G:List Nat}{p q:Nat}
theorem BkL.lead(bk:BkL N Do Sp B)(hv:Q9 N)(h:s∈B):¬UnW N Do Sp (E4 N s):=by
 obtain⟨fr,fw,h1,h2,rfl⟩:=bk
 obtain⟨m,b⟩:=D6.mp h
 have:=(h2 _ (a7H hv (a3f m))).mpr
 unfold a6Z at b
 rw[F5]at b
 intro z
 rw[this z]at b
 exact nomatch b.1
theorem BkL.at(bk:BkL N Do Sp B)(hl:N[p]? = some l)(hq:l[q]? = some u)(h:(((p:Int),(q:Int)):Stp)∈B):Sp p=true\/(UnR N Do Sp p/\Do p=false/\∃t∈l,t<N.length->UnW N Do Sp t):=by
 obtain⟨fr,fw,h1,h2,rfl⟩:=bk
 obtain⟨m,b⟩:=D6.mp h
 obtain⟨g1,g2⟩:=c2k (q:=0) hl
 unfold a6Z at b
 rw[F5,show((((p:Int),(q:Int)):Stp).1).toNat=p from rfl,d5q (by intro z;have:=congrArg Prod.fst z;have:(p:Int) = -1:=this;omega),b2y,g1]at b
 rcases a9p _ _ ▸ b.2 with b | b
 ·exact .inl b
 rw[F5,F5]at b
 obtain⟨b1,b2,b3⟩:=b
 refine .inr ⟨(h1 p g2).mp (by simpa using b1),by simpa using b2,?_⟩
 rw[X0,List.all_eq_false]at b3
 obtain⟨t,t1,t2⟩:=b3
 exact⟨t,t1,fun lt=>(h2 t lt).mp (by simpa using t2)⟩
theorem c8i:t∈inF N Do F↔t<N.length/\Do t=true/\t∉F:=by
 unfold inF
 simp[D6,L9,and_assoc]
 exact fun _=>and_comm
theorem c8h(is:a0P N s):s∈(D5 N).filter (puF N Do B F)↔(s∈B\/s≠FST/\s.1.toNat∉F/\Do s.1.toNat=false)/\E4 N s∈F:=by
 unfold puF wtF
 simp[D6,a4n is]
end
section
variable {K:Fg}{S:List Stp}{E:XK}
theorem c1g(hn:J5 H na N)(hw:M6 K H w S)(his:∀s∈S,a0P N s)(lS:S.length<=2000)
  (k:∀D H',H D=none->H' D=some (.lst (IL (S.map (E4 N))))->i9 H H'->Q (.ref D) H'):a8R K [.ref na,.ref w] H Q E:=by
 obtain⟨vs,v1,v2,v3⟩:=hw.ex
 refine⟨rfl,?_⟩
 unfold b8v
 ext
 specialize U3 (P8 ?_)
 refine⟨w,rfl,⟨_,SqL.of v1⟩,fun T hT=>?_⟩
 refine U0 (xs:=vs.map V.ref) (fun i ys H2=>ys=IL ((S.take i).map (E4 N))/\H2 T=some (.lst ys)/\i9 H H2) ⟨rfl,c8,z6 hT⟩ ?_ ?_ ?_ ?_
 ·rintro i ys H2 ⟨_,h,_⟩
  exact h
 ·rintro i ys H2 _ ⟨_,_,s2⟩
  exact SqL.of (s2 _ _ v1)
 ·rintro i v ys H2 hv ⟨rfl,hT2,s2⟩ R hR
  rw[a9]at hv
  obtain⟨p,hp,rfl⟩:=o5.mp hv
  have hi:=(gI hp)
  obtain⟨s,hs⟩:∃s,S[i]? = some s:=⟨_,c5 (by omega)⟩
  ext
  refine c5K (hn.same s2) ((v3 i p s hp hs).ts (i9.ts s2)) (his s (mI hs)) ?_
  refine hR _ _ hT2 (F4 (by rw[D2,b5,C9];omega)) ⟨?_,c8,fun b o e=>by rw[g9 (c9 e hT)];exact s2 _ _ e⟩
  rw[E9,hs,C5]
  unfold IL
  rw[C5];rfl
 rintro ys H2 ⟨rfl,hT2,s2⟩
 rw[b5,v2,F1]at hT2
 exact k T H2 hT hT2 s2
end
section
variable {K:Fg}{S:List Stp}{E:XK}
theorem On.next{W:List Stp}(h:On N t W e):∀a0,E4 N a0=t->∀(i:Nat) a b,(a0::W)[i]? = some a->W[i]? = some b->∃(q u:Nat) (l:List Nat),b=((E4 N a:Int),(q:Int))/\N[E4 N a]? = some l/\l[q]? = some u:=by
 induction h with
 | nil=>intro a0 _ i a b _ h;simp at h
 | @cons p q u e l W h1 h2 _ ih=>
  intro a0 e0 i a b f1 f2
  cases i with
  | zero=>
   cases f1
   cases f2
   exact⟨q,u,l,by rw[e0],by rw[e0];exact h1,h2⟩
  | succ i=>exact ih _ (a1J h1 h2) i a b (by simpa using f1) (by simpa using f2)
theorem c6N{m:Int}(hB:Bag H b d)(hn:J5 H na N)(hv:Q9 N)(m0:0<m)(m1:m<=60)
  (k:∀w W e H',WS H' w (FST::W)->On N 0 W e->W.length<=60->e<N.length->H w=none->Bag H' b d->E8 b H H'->Q (.ref w) H'):b3p K [.ref b,.ref na,.int m] H Q E:=by
 have h400:=hv.le
 have pos:=hv.pos
 have net:∀ {H'},E8 b H H'->J5 H' na N:=fun k=>hn.kept hB hv.two k
 refine⟨rfl,?_⟩
 unfold c4y
 nofun
 exists L6 (by simp) fun z1 H1 hz1 e1 s1=>?_
 exists L6 (by simp) fun w H2 hw1 e2 s2=>?_
 have s02:=s1.trans s2
 have hw:H w=none:=s1.free hw1
 have wb:=hB.nb hw
 have W2:WS H2 w [FST]:=⟨[z1],e2,rfl,fun i p s f1 f2=>by
  cases i with
  | zero=>
   cases f1
   cases f2
   exact s2 _ _ e1
  | succ i=>cases f1⟩
 nofun
 exact_mod_cast K6 ?_
 specialize a0p (a1n ?_)
 exists O7 (hB.same s02) (by omega) (by omega) fun m3 H3 d0 d1 B3 k3=>?_
 have Wq:=W2.kept (hB.same s02) k3
 have k03:=(E8.of_same (b:=b) s02).trans k3
 refine⟨m3,rfl,by omega,by omega,?_⟩
 refine a0l (fun i σ H5=>∃y5 y6 W,∃p:Nat,σ=[some (.ref b),some (.ref na),some (.int m),some (.ref w),some (.int (p:Int)),y5,y6]/\W.length<=i/\WS H5 w (FST::W)/\On N 0 W p/\Bag H5 b d/\E8 b H H5/\p<N.length) ⟨_,_,[],0,rfl,by simp,Wq,.nil,B3,k03,pos⟩ ?_ ?_
 ·rintro i _ H5 hi ⟨y5,y6,W,p,rfl,l5,W5,I5,B5,k5,hp⟩
  rw[U4]
  have hl:=L8 hp
  obtain⟨l,hle⟩:∃l,l=N[p]:=⟨_,rfl⟩
  rw[<-hle]at hl
  have l2:=hv.two l (mI hl)
  obtain⟨us,y,f1,f2,f3,_⟩:=(net k5).at hl
  ext
  exists J1 f1 f2 ?_
  refine L6 (by simp) fun z H6 hz e6 s6=>?_
  refine⟨_,b1a (s6 _ _ f3) e6 (a9a _) rfl,?_⟩
  rw[a5M,D2]
  ext
  have k6:=k5.trans (E8.of_same s6)
  have B6:=B5.same s6
  by_cases h0:l.length=0
  ·exists v5 (by rw[d5r h0];rfl) ?_
   exact⟨_,_,W,p,rfl,by omega,W5.same s6,I5,B6,k6,hp⟩
  refine C6 (by rw[d5q h0];rfl) ?_
  nofun
  exists J1 (s6 _ _ f1) f2 ?_
  refine L7 (s6 _ _ f3) ?_
  rw[D2]
  ext
  refine O7 B6 (by omega) (by omega) fun n7 H7 c0 c1 B7 k7=>?_
  have k07:=k6.trans k7
  have W7:=(W5.same s6).kept B6 k7
  ext
  nofun
  specialize a8c ?_
  obtain⟨ps,q1,q2,q3⟩:=W7.ex
  rw[C0]at q2
  exists ⟨Z6 q1,?_⟩
  exists L6 (by simp) fun z8 H8 hz8 e8 s8=>?_
  exists a0E (s8 _ _ q1) (F4 (by rw[b5];omega)) ?_
  have k9:E8 b H (upd H8 w (.lst (ps.map V.ref++[.ref z8]))):=(k07.trans (E8.of_same s8)).put hw
  have B9:Bag (upd H8 w (.lst (ps.map V.ref++[.ref z8]))) b d:=(B7.same s8).put wb.1 wb.2
  obtain⟨us',y',g1,g2,g3,_⟩:=(net k9).at hl
  exists J1 g1 g2 ?_
  have hn7:n7.toNat<l.length:=by omega
  have hu:l[n7.toNat]? = some l[n7.toNat]:=by simp
  have en:((n7.toNat:Nat):Int)=n7:=by omega
  have ix:=b1l hu
  rw[en]at ix
  exists J1 g3 ix ?_
  refine⟨_,_,W++[((p:Int),n7)],l[n7.toNat],rfl,by simp;omega,WS.app (S:=FST::W) (s8 _ _ q1) (by simpa using q2) (fun i p s a c=>s8 _ _ (q3 i p s a c)) e8,?_,B9,k9,hv.lt l (mI hl) _ (I0 _)⟩
  have:=I5.snoc hl hu
  rw[en]at this
  exact this
 ·rintro _ H5 ⟨y5,y6,W,p,rfl,l5,W5,I5,B5,k5,hp⟩
  ext
  exact k w W p H5 W5 I5 (by omega) hp hw B5 k5
end
def nrA(N:Nt)(f:Nat->Nat):List Nat:=(v9 N.length).filter fun k=>decide (f k<N.length)
structure FrJ(N:Nt)(f:Nat->Nat):Prop where
 st:∀k,N[k]? = some []->f k=0
 le:∀k,f k<=N.length
 dn:∀k l,N[k]? = some l->l≠[]->f k=N.length\/∃u∈l,f u+1<=f k
 bd:∀k,k<N.length->f k<N.length->f k+1<=(nrA N f).length
def b6U(f:Nat->Nat)(k v:Nat):Nat->Nat:=fun j=>if j=k then v else f j
def FL(n:Nat)(f:Nat->Nat):List Nat:=(v9 n).map f
section
variable {f g:Nat->Nat}{k:Nat}
theorem a7G:k∈nrA N f↔k<N.length/\f k<N.length:=by
 unfold nrA
 rw[D6,L9,decide_eq_true_iff]
theorem c5E:(nrA N f).Nodup:=a8g.filter _
theorem d2K(h:∀j,g j<=f j):(nrA N f).length<=(nrA N g).length:=b4J _ _ c5E fun x hx=>by
 have:=a7G.mp hx
 have:=h x
 exact a7G.mpr ⟨by omega,by omega⟩
theorem c9j(h:∀j,g j<=f j)(hk:k<N.length)(h1:¬f k<N.length)(h2:g k<N.length):(nrA N f).length+1<=(nrA N g).length:=by
 refine b4J (k::nrA N f) _ (X4.mpr ⟨fun z=>h1 (a7G.mp z).2,c5E⟩) fun x hx=>?_
 rcases o4.mp hx with rfl | hx
 ·exact a7G.mpr ⟨hk,h2⟩
 ·have:=a7G.mp hx
  have:=h x
  exact a7G.mpr ⟨by omega,by omega⟩
theorem c9i(hk:k<N.length)(h1:¬f k<N.length):(nrA N f).length+1<=N.length:=by
 have:=b4J (k::nrA N f) (v9 N.length) (X4.mpr ⟨fun z=>h1 (a7G.mp z).2,c5E⟩) fun x hx=>by
  rcases o4.mp hx with rfl | hx
  ·exact L9.mpr hk
  ·exact L9.mpr (a7G.mp hx).1
 rw[W9]at this
 exact this
theorem FrJ.put(h:FrJ N f)(hv:Q9 N)(hl:N[k]? = some l)(h0:u∈l)(mn:∀w∈l,f u<=f w):FrJ N (b6U f k (min N.length (f u+1)))/\(∀j,b6U f k (min N.length (f u+1)) j<=f j)/\(f u<N.length->b6U f k (min N.length (f u+1)) k<N.length):=by
 have hk:=(gI hl)
 have hne:l≠[]:=fun z=>by rw[z]at h0;cases h0
 have hu:=hv.lt l (mI hl) u h0
 obtain⟨g,hg⟩:∃g,g=b6U f k (min N.length (f u+1)):=⟨_,rfl⟩
 have gk:g k=min N.length (f u+1):=by rw[hg];unfold b6U;rw[if_pos rfl]
 have gj:∀j,j≠k->g j=f j:=fun j n=>by rw[hg];unfold b6U;rw[if_neg n]
 rw[<-hg]
 have mono:∀j,g j<=f j:=fun j=>by
  by_cases z:j=k
  ·rw[z,gk]
   rcases h.dn k l hl hne with e | ⟨w,w1,w2⟩
   ·omega
   ·have:=mn w w1
    omega
  ·rw[gj j z];exact j5 _
 have last:f u<N.length->g k<N.length:=fun e=>by
  by_cases z:f k<N.length
  ·have:=mono k
   omega
  ·have:=c9i hk z
   have:=h.bd u hu e
   omega
 refine⟨⟨fun j e=>?_,fun j=>D9 (mono j) (h.le j),fun j m e ne=>?_,fun j hj e=>?_⟩,mono,last⟩
 ·have:=mono j
  have:=h.st j e
  omega
 ·by_cases z:j=k
  ·subst z
   rw[hl]at e
   cases e
   by_cases y:u=j
   ·subst y
    rcases h.dn u l hl hne with e | ⟨w,w1,w2⟩
    ·left;omega
    ·have:=mn w w1
     omega
   ·by_cases q:N.length<=f u+1
    ·left;omega
    ·exact .inr ⟨u,h0,by rw[gj u y];omega⟩
  ·rw[gj j z]
   rcases h.dn j m e ne with e | ⟨w,w1,w2⟩
   ·exact .inl e
   ·exact .inr ⟨w,w1,by have:=mono w;omega⟩
 ·have l1:=d2K (N:=N) mono
  by_cases z:j=k
  ·subst z
   by_cases y:f j<N.length
   ·have:=mono j
    have:=h.bd j hj y
    omega
   ·have:=c9j mono hj y e
    have:=h.bd u hu (by omega)
    omega
  ·rw[gj j z]at e ⊢
   have:=h.bd j hj e
   omega
theorem FrJ.grow(h:FrJ N f)(hv:Q9 N)(mono:∀j,g j<=f j)(cl:∀j m,N[j]? = some m->∀w∈m,f w<N.length->g j<N.length):(∀j,j<N.length->g j<N.length)\/(nrA N f).length+1<=(nrA N g).length:=by
 by_cases a:∀j,j<N.length->f j<N.length
 ·exact .inl fun j hj=>a7c (mono j) (a j hj)
 right
 have key:∀z,Gd N z->f z<N.length\/∃j,j<N.length/\¬f j<N.length/\g j<N.length:=by
  intro z hz
  induction hz with
  | @stop z e=>left;rw[h.st z e];exact hv.pos
  | @step z t m e ht _ ih=>
   rcases ih with ih | ih
   ·by_cases y:f z<N.length
    ·exact .inl y
    ·exact .inr ⟨z,(gI e),y,cl z m e t ht ih⟩
   ·exact .inr ih
 have:∃j,j<N.length/\¬f j<N.length:=Classical.byContradiction fun no=>a fun j hj=>Classical.byContradiction fun y=>no ⟨j,hj,y⟩
 obtain⟨j,hj,y⟩:=this
 rcases key j (hv.gd j hj)with e | ⟨i,i1,i2,i3⟩
 ·exact(y e).elim
 ·exact c9j mono i1 i2 i3
theorem c9p(h:k<n):(FL n f)[k]? = some (f k):=by
 unfold FL
 rw[a9,a3i h]
 rfl
theorem d1z{v:Nat}(h:k<n):(IL (FL n f)).set k (.int (v:Int))=IL (FL n (b6U f k v)):=by
 apply a4C
 intro i
 rw[List.getElem?_set]
 have lf:(IL (FL n f)).length=n:=by rw[D2];unfold FL;simp
 by_cases e:k=i
 ·rw[if_pos e,if_pos (by omega),<-e]
  unfold IL
  rw[a9,c9p h]
  unfold b6U
  rw[if_pos rfl];rfl
 ·rw[if_neg e]
  unfold IL FL b6U
  rw[a9,a9,a9,a9]
  by_cases q:i<n
  ·rw[a3i q]
   show _=some (V.int (if i=k then v else f i:Nat))
   rw[if_neg (Ne.symm e)];rfl
  ·rw[List.getElem?_eq_none (by simpa using q)];rfl
end
section
variable {K:Fg}{fa D:Addr}{f:Nat->Nat}{m:List Nat}{E:XK}
theorem c4W(h:H D=some (.lst (IL m)))(hm:0<m.length)(k:∀v∈m,(∀w∈m,v<=w)->Q (.int (v:Int)) H):b4q [.ref D] H Q:=by
 unfold b4q
 simp only[h]
 refine⟨m.map fun(n:Nat)=>(n:Int),by rw[b7V,a5K],by rw[b5];exact hm,fun M hM hle=>?_⟩
 obtain⟨v,hv,rfl⟩:=A2.mp hM
 exact k v hv fun w hw=>by have:=hle (w:Int) (A2.mpr ⟨w,hw,rfl⟩);omega
theorem c4Y{v:Nat}(h:H D=some (.lst (IL m)))(hm:m.length<10000)(hv:v∈m)(k:∀i:Nat,m[i]? = some v->Q (.int (i:Int)) H):a7w (.ref D) [.int (v:Int)] H Q:=by
 unfold a7w
 simp only[h]
 refine⟨m.map fun(n:Nat)=>(n:Int),by rw[b7V,a5K],by rw[b5];exact hm,A2.mpr ⟨v,hv,rfl⟩,?_⟩
 rw[b9r]
 have hl:=c1j hv
 exact k _ (by rw[c5 hl,c6I hl])
theorem b9w{p:Nat}(hn:J5 H na N)(hv:Q9 N)(hl:N[p]? = some l)(hf:H fa=some (.lst (IL (FL N.length f))))(hi:σ[i]? = some (some (.ref na)))(hj:σ[j]? = some (some (.int (p:Int))))(he:σ[e]? = some (some (.ref fa)))
  (k:∀D H',H D=none->H' D=some (.lst (IL (l.map f)))->i9 H H'->Q (.ref D) H'):O5 (O0 K (tOp qIx (b6 i) (b6 j))) (Q7) (tOp qIx (b6 (e+1)) (b6 0)) σ H Q:=by
 obtain⟨xs,y,f1,f2,f3,_⟩:=hn.at hl
 have l2:=hv.two l (mI hl)
 exact_mod_cast U3 (P8 ?_)
 refine b8K (X2 hi (X2 hj (J1 f1 f2 ?_)))
 refine⟨y,rfl,⟨_,SqL.of f3⟩,fun D hD=>?_⟩
 refine U0 (xs:=IL l) (fun i ys H4=>ys=IL ((l.take i).map f)/\H4 D=some (.lst ys)/\i9 H H4) ⟨rfl,c8,z6 hD⟩ ?_ ?_ ?_ ?_
 ·rintro i ys H4 ⟨_,h,_⟩
  exact h
 ·rintro i ys H4 _ ⟨_,_,s4⟩
  exact SqL.of (s4 _ _ f3)
 ·rintro i x ys H4 hx ⟨rfl,hd,s4⟩ R hR
  unfold IL at hx
  rw[a9]at hx
  obtain⟨t,ht,rfl⟩:=o5.mp hx
  have tn:=hv.lt l (mI hl) t (mI ht)
  refine b8K (X2 (by exact he) (X2 rfl (J1 (s4 _ _ hf) (b1l (c9p tn)) ?_)))
  refine hR _ _ hd (F4 (by rw[D2,b5,C9];omega)) ⟨by rw[b7w l f i ht];simp[IL],c8,fun b o e=>by rw[g9 (c9 e hD)];exact s4 _ _ e⟩
 ·rintro ys H4 ⟨rfl,hd,s4⟩
  rw[D2,F1]at hd
  exact k D H4 hD hd s4
def b2k(N:Nt)(k:Nat):Nat:=if(N.getD k []).length=0 then 0 else N.length
theorem d1l(hn:J5 H na N)(hv:Q9 N)(k:∀a f H',H a=none->H' a=some (.lst (IL (FL N.length f)))->FrJ N f->(∀t,t<N.length->f t<N.length)->i9 H H'->Q (.ref a) H'):b6R K [.ref na] H Q E:=by
 have h400:=hv.le
 obtain⟨as,hna,las,hat⟩:=id hn.ex
 refine⟨rfl,?_⟩
 unfold c8X
 exact_mod_cast K6 ?_
 exact_mod_cast b4o ?_
 specialize U3 (P8 ?_)
 refine⟨na,rfl,⟨_,SqL.of hna⟩,fun D hD=>?_⟩
 refine U0 (xs:=as.map V.ref) (fun i ys H4=>ys=IL (FL i (b2k N))/\H4 D=some (.lst ys)/\i9 H H4) ⟨rfl,c8,z6 hD⟩ ?_ ?_ ?_ ?_
 ·rintro i ys H4 ⟨_,h,_⟩
  exact h
 ·rintro i ys H4 _ ⟨_,_,s4⟩
  exact SqL.of (s4 _ _ hna)
 ·rintro i x ys H4 hx ⟨rfl,hd,s4⟩ R hR
  rw[a9]at hx
  obtain⟨y,hy,rfl⟩:=o5.mp hx
  have hi:i<N.length:=by rw[<-las];exact(gI hy)
  have hyl:=hat i y _ hy (L8 hi)
  have ef:∀v,b2k N i=v->IL (FL i (b2k N))++[V.int (v:Int)]=IL (FL (i+1) (b2k N)):=fun v e=>by
   unfold IL FL
   rw[a0i,C5,C5,<-e];rfl
  have hg:N.getD i []=N[i]:=by simp[M0,hi]
  have sm:(IL (FL i (b2k N))).length<u6:=F4 (by rw[D2];unfold FL;simp;omega)
  ext
  refine L6 (by simp) fun z H5 hz e5 s5=>?_
  refine⟨_,b1a (s5 _ _ (s4 _ _ hyl)) e5 (a9a _) rfl,?_⟩
  rw[a5M,D2]
  ext
  by_cases h0:N[i].length=0
  ·exists C6 (d5r h0) ?_
   refine hR _ _ (s5 _ _ hd) sm ⟨ef 0 (by unfold b2k;rw[hg,if_pos h0]),c8,fun b o e=>by rw[g9 (c9 e hD)];exact s5 _ _ (s4 _ _ e)⟩
  ·exists v5 (d5q h0) ?_
   refine L7 (s5 _ _ (s4 _ _ hna)) ?_
   rw[b5,las]
   refine hR _ _ (s5 _ _ hd) sm ⟨ef _ (by unfold b2k;rw[hg,if_neg h0]),c8,fun b o e=>by rw[g9 (c9 e hD)];exact s5 _ _ (s4 _ _ e)⟩
 rintro ys H1 ⟨rfl,hd1,s1⟩
 rw[b5,las]at hd1
 have J0:FrJ N (b2k N):=by
  have z:∀k l,N[k]? = some l->b2k N k=if l.length=0 then 0 else N.length:=fun k l e=>by unfold b2k;rw[(c2k (q:=0) e).1]
  refine⟨fun k e=>by rw[z k _ e];rfl,fun k=>by unfold b2k;split <;> omega,fun k l e ne=>.inl (by rw[z k l e,if_neg (by rw[a1u];exact ne)]),fun k hk e=>?_⟩
  have:b2k N k=0:=by
   unfold b2k at e ⊢
   split at e
   ·rename_i q;rw[if_pos q]
   ·omega
  have:=a4B (a7G.mpr ⟨hk,e⟩)
  omega
 ext
 exact_mod_cast K6 ?_
 specialize a0p (a1n ?_)
 refine L7 (s1 _ _ hna) ?_
 rw[b5,las]
 refine⟨N.length,rfl,by omega,by omega,?_⟩
 rw[A5]
 refine a0l (fun i σ H2=>∃y2 y3 f,σ=[some (.ref na),some (.ref D),y2,y3]/\H2 D=some (.lst (IL (FL N.length f)))/\i9 H H2/\FrJ N f/\((∀j,j<N.length->f j<N.length)\/i<=(nrA N f).length)) ⟨_,_,_,rfl,hd1,s1,J0,.inr (R8 _)⟩ ?_ ?_
 ·rintro i _ H2 hi ⟨y2,y3,f,rfl,hd2,s2,J2,cnt⟩
  rw[U4]
  ext
  specialize a0p (a1n ?_)
  refine L7 (s2 _ _ hna) ?_
  rw[b5,las]
  refine⟨N.length,rfl,by omega,by omega,?_⟩
  rw[A5]
  refine a0l (fun j σ H3=>∃y3 g,σ=[some (.ref na),some (.ref D),some (.int (i:Int)),y3]/\H3 D=some (.lst (IL (FL N.length g)))/\i9 H H3/\FrJ N g/\(∀t,g t<=f t)/\∀t l,t<j->N[t]? = some l->∀w∈l,f w<N.length->g t<N.length) ⟨_,_,rfl,hd2,s2,J2,fun _=>j5 _,by omega⟩ ?_ ?_
  ·rintro j _ H3 hj ⟨y3,g,rfl,hd3,s3,J3,mono,cl⟩
   rw[U4]
   have hl:=L8 hj
   obtain⟨l,hle⟩:∃l,l=N[j]:=⟨_,rfl⟩
   rw[<-hle]at hl
   obtain⟨us,y,f1,f2,f3,_⟩:=(hn.same s3).at hl
   ext
   exists J1 f1 f2 ?_
   refine L6 (by simp) fun z H4 hz e4 s4=>?_
   refine⟨_,b1a (s4 _ _ f3) e4 (a9a _) rfl,?_⟩
   rw[a5M,D2]
   ext
   have s04:=s3.trans s4
   by_cases h0:l.length=0
   ·exists v5 (by rw[d5r h0];rfl) ?_
    refine⟨_,g,rfl,s4 _ _ hd3,s04,J3,mono,fun t m ht e w hw=>?_⟩
    by_cases q:t=j
    ·subst q
     rw[hl]at e
     cases e
     rw[a1u.mp h0]at hw
     cases hw
    ·exact cl t m (by omega) e w hw
   exists C6 (by rw[d5q h0];rfl) ?_
   refine L7 (s04 _ _ hna) ?_
   rw[b5,las]
   ext
   exists b9w (i:=0) (j:=3) (e:=1) (hn.same s04) hv hl (s4 _ _ hd3) rfl rfl rfl fun ca H5 hca e5 s5=>?_
   refine c4W e5 (by rw[b5];omega) fun v hv' mn=>?_
   obtain⟨u,hu,rfl⟩:=A2.mp hv'
   have mn:∀w∈l,g u<=g w:=fun w hw=>mn _ (A2.mpr ⟨w,hw,rfl⟩)
   ext
   refine c9e ?_
   have ev:(if(1:Int)+(g u:Int)<(N.length:Int)then (1:Int)+(g u:Int)else (N.length:Int))=((min N.length (g u+1):Nat):Int):=by
    split <;> omega
   rw[ev]
   ext
   have hd5:=s5 _ _ (s4 _ _ hd3)
   refine b8O (k:=j) hd5 (by rw[D2];unfold FL ixN;simp;omega) ?_
   rw[d1z hj]
   obtain⟨j1,j2,j3⟩:=J3.put hv hl hu mn
   refine⟨_,_,rfl,c8,fun b o e=>by rw[g9 (c9 e hD)];exact s5 _ _ (s04 _ _ e),j1,fun t=>D9 (j2 t) (mono t),fun t m ht e w hw h=>?_⟩
   by_cases q:t=j
   ·subst q
    rw[hl]at e
    cases e
    exact j3 (by have:=mn w hw;have:=mono w;omega)
   ·exact a7c (j2 t) (cl t m (by omega) e w hw h)
  ·rintro _ H3 ⟨y3,g,rfl,hd3,s3,J3,mono,cl⟩
   refine⟨_,_,g,rfl,hd3,s3,J3,?_⟩
   rcases cnt with c | c
   ·exact .inl fun j hj=>a7c (mono j) (c j hj)
   ·exact(J2.grow hv mono fun j m e w hw h=>cl j m (gI e) e w hw h).imp id fun z=>by omega
 ·rintro _ H2 ⟨y2,y3,f,rfl,hd2,s2,J2,cnt⟩
  ext
  refine k D f H2 hD hd2 J2 (fun t ht=>?_) s2
  rcases cnt with c | c
  ·exact c t ht
  ·exact Classical.byContradiction fun z=>by have:=c9i ht z;omega
theorem c8r{t0:Nat}(hn:J5 H na N)(hv:Q9 N)(ht0:t0<N.length)
  (k:∀w W e H',H w=none->WS H' w W->On N t0 W e->W.length<=400->N[e]? = some []->i9 H H'->Q (.ref w) H'):b3s K [.ref na,.int (t0:Int)] H Q E:=by
 have h400:=hv.le
 obtain⟨as,hna,las,hat⟩:=id hn.ex
 refine⟨rfl,?_⟩
 unfold c4D
 nofun
 exists d1l hn hv fun fa f H1 hfa e1 J fl s1=>?_
 nofun
 exists L6 (by simp) fun w H2 hw1 e2 s2=>?_
 have s02:=s1.trans s2
 have hw:H w=none:=s1.free hw1
 have nfw:fa≠w:=c9 e1 hw1
 have W2:WS H2 w []:=⟨[],e2,rfl,fun i p s f1 f2=>by cases f1⟩
 exact_mod_cast K6 ?_
 specialize a0p (a1n ?_)
 refine L7 (s02 _ _ hna) ?_
 rw[b5,las]
 refine⟨N.length,rfl,by omega,by omega,?_⟩
 rw[A5]
 refine a0l (fun i σ H5=>∃y4 y5 y6 W,∃p:Nat,σ=[some (.ref na),some (.int (p:Int)),some (.ref fa),some (.ref w),y4,y5,y6]/\W.length<=i/\WS H5 w W/\On N t0 W p/\i9 H H5/\H5 fa=some (.lst (IL (FL N.length f)))/\p<N.length/\(N[p]? = some []\/f p+i+1<=N.length)) ⟨_,_,_,[],t0,rfl,j5 _,W2,.nil,s02,s2 _ _ e1,ht0,.inr (fl t0 ht0)⟩ ?_ ?_
 ·rintro i _ H5 hi ⟨y4,y5,y6,W,p,rfl,l5,W5,I5,s5,f5,hp,dn⟩
  rw[U4]
  have hl:=L8 hp
  obtain⟨l,hle⟩:∃l,l=N[p]:=⟨_,rfl⟩
  rw[<-hle]at hl
  have l2:=hv.two l (mI hl)
  obtain⟨us,y,f1,f2,f3,_⟩:=(hn.same s5).at hl
  ext
  exists J1 f1 f2 ?_
  refine L6 (by simp) fun z H6 hz e6 s6=>?_
  refine⟨_,b1a (s6 _ _ f3) e6 (a9a _) rfl,?_⟩
  rw[a5M,D2]
  ext
  have s06:=s5.trans s6
  by_cases h0:l.length=0
  ·exists v5 (by rw[d5r h0];rfl) ?_
   exact⟨_,_,_,W,p,rfl,by omega,W5.same s6,I5,s06,s6 _ _ f5,hp,.inl (by rw[hl,a1u.mp h0])⟩
  refine C6 (by rw[d5q h0];rfl) ?_
  have dn:f p+i+1<=N.length:=dn.elim (fun z=>by rw[hl]at z;cases z;simp at h0) id
  exact_mod_cast K6 ?_
  refine b6Y ?_
  exists b9w (i:=0) (j:=1) (e:=2) (hn.same s06) hv hl (s6 _ _ f5) rfl rfl rfl fun ca H7 hca e7 s7=>?_
  nofun
  specialize a8c ?_
  exists ⟨Z6 e7,?_⟩
  exists c4W e7 (by rw[b5];omega) fun v hv' mn=>?_
  refine c4Y e7 (by rw[b5];omega) hv' fun q hq=>?_
  rw[a9]at hq
  obtain⟨u,hu,rfl⟩:=o5.mp hq
  have um:=mI hu
  have un:=hv.lt l (mI hl) u um
  have fd:f u+1<=f p:=by
   rcases J.dn p l hl (fun z=>h0 (by rw[z];rfl))with z | ⟨t,t1,t2⟩
   ·have:=fl p hp
    omega
   ·have:=mn (f t) (A2.mpr ⟨t,t1,rfl⟩)
    omega
  have s07:=s06.trans s7
  have W7:=(W5.same s6).same s7
  obtain⟨ps,q1,q2,q3⟩:=W7.ex
  ext
  nofun
  specialize a8c ?_
  exists ⟨Z6 q1,?_⟩
  exists L6 (by simp) fun z8 H8 hz8 e8 s8=>?_
  exists a0E (s8 _ _ q1) (F4 (by rw[b5];omega)) ?_
  have s9:i9 H (upd H8 w (.lst (ps.map V.ref++[.ref z8]))):=fun b o e=>by rw[g9 (c9 e hw)];exact s8 _ _ (s07 _ _ e)
  obtain⟨us',y',g1,g2,g3,_⟩:=(hn.same s9).at hl
  exists J1 g1 g2 ?_
  exists J1 g3 (b1l hu) ?_
  exact⟨_,_,_,W++[((p:Int),(q:Int))],u,rfl,by simp;omega,WS.app (s8 _ _ q1) q2 (fun i p s a c=>s8 _ _ (q3 i p s a c)) e8,I5.snoc hl hu,s9,by rw[g9 nfw];exact s8 _ _ (s7 _ _ (s6 _ _ f5)),un,.inr (by omega)⟩
 ·rintro _ H5 ⟨y4,y5,y6,W,p,rfl,l5,W5,I5,s5,f5,hp,dn⟩
  ext
  exact k w W p H5 hw W5 I5 (by omega) (dn.elim id fun z=>by omega) s5
end
section
variable {Sp:Nat->Bool}{F:List Nat}{p q:Nat}
theorem b2D(hv:Q9 N)(bk:BkL N Do Sp B)(al:∀t,t∈F↔Fal N Do B L t)(h:Rc N t):t∉F->¬UnW N Do Sp t:=by
 induction h with
 | zero=>
  intro nf
  have hb:FST∈B:=Classical.byContradiction fun z=>nf ((al 0).mpr (.lead (a4n (.inl rfl)) z (.inl rfl)))
  exact bk.lead hv hb
 | @step p t l _ hl ht ih=>
  intro nf
  obtain⟨q,hq⟩:=z7.mp ht
  have is:a0P N (((p:Int),(q:Int)):Stp):=.inr ⟨p,q,l,t,rfl,hl,hq⟩
  have ld:E4 N (((p:Int),(q:Int)):Stp)=t:=a1J hl hq
  by_cases hb:(((p:Int),(q:Int)):Stp)∈B
  ·have:=bk.lead hv hb
   rw[ld]at this
   exact this
  ·have nd:Do p=false:=by
    cases z:Do p with
    | false=>rfl
    | true=>exact(nf ((al t).mpr (ld ▸ Fal.lead (a4n is) hb (.inr z)))).elim
   exact fun w=>ih (fun z=>nf ((al t).mpr (.on ((al p).mp z) hl hq hb))) (.go hl nd ht w)
end
def nB{α:Type}(f:α->Bool)(l:List α):Nat:=((l.map f).map a1M).sum
section
variable {Sp:Nat->Bool}{F:List Nat}{p q:Nat}{W:List Stp}
theorem a4w{α:Type}{f:α->Bool}{a:α}{l:List α}:nB f (a::l)=(f a).toNat+nB f l:=by
 unfold nB
 rw[B8,B8,b2x]
theorem On.last(on:On N 0 W e)(h:(FST::W)[W.length]? = some s):E4 N s=e:=by
 have h1:((FST::W).map (E4 N))[W.length]? = some (E4 N s):=by rw[a9,h];rfl
 rw[show(FST::W).map (E4 N)=0::W.map (E4 N)from rfl,on.beg,J4 (by rw[b5];exact j5 _),b5,c3P]at h1
 exact(Option.some.inj h1).symm
theorem b3m(hv:Q9 N)(bk:BkL N Do Sp B)(hl:N[p]? = some l)(hq:l[q]? = some u)(nd:Do p=false)(h2:¬UnW N Do Sp p):¬UnW N Do Sp u/\(((p:Int),(q:Int)):Stp)∉B:=by
 have hp:=(gI hl)
 refine⟨fun w=>h2 (.go hl nd (mI hq) w),fun hb=>?_⟩
 rcases bk.at hl hq hb with z | ⟨_,_,t,t1,t2⟩
 ·exact h2 (.en hp ⟨nd,.inl z⟩)
 ·exact h2 (.go hl nd t1 (t2 (hv.lt l (mI hl) t t1)))
def pnd(Do:Nat->Bool)(F:List Nat)(t:Nat):Bool := !decide (t∈F) && !Do t
theorem c8A(hv:Q9 N)(bk:BkL N Do Sp B)(al:∀t,t∈F↔Fal N Do B L t)(he:N[e]? = some []):pnd Do F e=false:=by
 have hn:=(gI he)
 unfold pnd
 by_cases f:e∈F
 ·rw[d5r f];rfl
 cases d:Do e with
 | true=>rw[Bool.not_true,d1N]
 | false=>exact(b2D hv bk al (hv.rc e hn) f (.en hn ⟨d,.inr he⟩)).elim
theorem c6i{w f d:Bool}(h:f=false->w=true):w.toNat=(w&&f).toNat+(d && !f).toNat+(!f && !d).toNat:=by
 cases w <;> cases f <;> cases d <;> simp_all
theorem b9x(hv:Q9 N)(bk:BkL N Do Sp B)(al:∀t,t∈F↔Fal N Do B L t)(is:a0P N s){w:Bool}(hw:w=true↔(s∈B\/s≠FST/\s.1.toNat∉F/\Do s.1.toNat=false)):w.toNat=(decide (s∈(D5 N).filter (puF N Do B F))).toNat+(decide (E4 N s∈inF N Do F)).toNat+(pnd Do F (E4 N s)).toNat:=by
 have hu:=a7H hv is
 have h:decide (E4 N s∈F)=false->w=true:=fun z=>by
  have z:=of_decide_eq_false z
  refine hw.mpr (Classical.byContradiction fun no=>z ?_)
  have nb:s∉B:=fun b=>no (.inl b)
  rcases id is with rfl | ⟨p,q,l,t,rfl,e1,e2⟩
  ·exact(al _).mpr (.lead (a4n is) nb (.inl rfl))
  ·cases d:Do p with
   | true=>exact(al _).mpr (.lead (a4n is) nb (.inr d))
   | false=>
    by_cases f:p∈F
    ·rw[a1J e1 e2]
     exact(al _).mpr (.on ((al p).mp f) e1 e2 nb)
    ·exact(no (.inr ⟨by intro z;have:=congrArg Prod.fst z;have:(p:Int) = -1:=this;omega,f,d⟩)).elim
 have e1:decide (s∈(D5 N).filter (puF N Do B F))=(w&&decide (E4 N s∈F)):=by
  rw[U2,decide_eq_true_iff,c8h is,F5,decide_eq_true_iff,hw]
 have e2:decide (E4 N s∈inF N Do F)=(Do (E4 N s) && !decide (E4 N s∈F)):=by
  rw[U2,decide_eq_true_iff,c8i,F5,X0,decide_eq_false_iff_not]
  exact⟨fun h=>h.2,fun h=>⟨hu,h⟩⟩
 rw[e1,e2]
 unfold pnd
 exact c6i h
theorem c8z(hv:Q9 N)(bk:BkL N Do Sp B)(al:∀t,t∈F↔Fal N Do B L t)(h:On N t W e):nB (fun s=>decide (s∈B)) W+(pnd Do F t).toNat=nB (fun s=>decide (s∈(D5 N).filter (puF N Do B F))) W+nB (fun t=>decide (t∈inF N Do F)) (W.map (E4 N))+(pnd Do F e).toNat:=by
 induction h with
 | nil=>simp[nB]
 | @cons p q u e l W h1 h2 _ ih=>
  have is:a0P N (((p:Int),(q:Int)):Stp):=.inr ⟨p,q,l,u,rfl,h1,h2⟩
  have nf:(((p:Int),(q:Int)):Stp)≠FST:=by intro z;have:=congrArg Prod.fst z;have:(p:Int) = -1:=this;omega
  have hp:=(gI h1)
  have st:=b9x hv bk al is (w:=decide ((((p:Int),(q:Int)):Stp)∈B)||pnd Do F p) (by
   unfold pnd
   rw[a9p,F5,X0,X0,decide_eq_true_iff,decide_eq_false_iff_not]
   exact⟨fun h=>h.imp id fun h=>⟨nf,h⟩,fun h=>h.imp id fun h=>h.2⟩)
  have ex:(decide ((((p:Int),(q:Int)):Stp)∈B)||pnd Do F p).toNat=(decide ((((p:Int),(q:Int)):Stp)∈B)).toNat+(pnd Do F p).toNat:=by
   cases z:pnd Do F p with
   | false=>rw[d2W];rfl
   | true=>
    unfold pnd at z
    rw[F5,X0,X0,decide_eq_false_iff_not]at z
    rw[d5q (b3m hv bk h1 h2 z.2 (b2D hv bk al (hv.rc p hp) z.1)).2]
    rfl
  rw[a1J h1 h2,ex]at st
  rw[B8,a4w,a4w,a4w,a1J h1 h2]
  omega
theorem c6b(hv:Q9 N)(bk:BkL N Do Sp B)(h:On N t W e)(he:N[e]? = some []):∀b:Bool,(b=true->¬UnW N Do Sp t/\Do t=false)->nB (fun s=>decide (s∈B)) W+b.toNat<=nB Do (W.map (E4 N)):=by
 induction h with
 | @nil t=>
  intro b hb
  cases b with
  | false=>simp[nB]
  | true=>exact((hb rfl).1 (.en (gI he) ⟨(hb rfl).2,.inr he⟩)).elim
 | @cons p q u e l W h1 h2 _ ih=>
  intro b hb
  have is:a0P N (((p:Int),(q:Int)):Stp):=.inr ⟨p,q,l,u,rfl,h1,h2⟩
  rw[B8,a4w,a4w,a1J h1 h2]
  have hw:b=true\/(((p:Int),(q:Int)):Stp)∈B->¬UnW N Do Sp u:=fun z=>by
   rcases z with z | z
   ·exact(b3m hv bk h1 h2 (hb z).2 (hb z).1).1
   ·have:=bk.lead hv z
    rw[a1J h1 h2]at this
    exact this
  have ex:b=true->(((p:Int),(q:Int)):Stp)∉B:=fun z=>(b3m hv bk h1 h2 (hb z).2 (hb z).1).2
  have i:=ih he ((b||decide ((((p:Int),(q:Int)):Stp)∈B)) && !Do u) fun z=>by
   rw[F5,a9p,X0,decide_eq_true_iff]at z
   exact⟨hw z.1,z.2⟩
  cases d:Do u with
  | true=>
   rw[d]at i
   cases b with
   | true=>rw[d5q (ex rfl)];simp at i ⊢;omega
   | false=>
    cases z:decide ((((p:Int),(q:Int)):Stp)∈B) <;> simp at i ⊢ <;> omega
  | false=>
   rw[d]at i
   cases b with
   | true=>rw[d5q (ex rfl)]at i ⊢;simp at i ⊢;omega
   | false=>
    cases z:decide ((((p:Int),(q:Int)):Stp)∈B) <;> rw[z]at i <;> simp at i ⊢ <;> omega
end
section
variable {K:Fg}{D wa ra ba pa ya:Addr}{Sp:Nat->Bool}{F m:List Nat}{W:List Stp}{E:XK}
theorem c4H(m:List Nat):(m.map fun(n:Nat)=>(n:Int)).sum=(m.sum:Nat):=by
 induction m with
 | nil=>rfl
 | cons a r ih=>rw[B8,b2x,b2x,ih];omega
theorem c9Q(h:H D=some (.lst (IL m)))(k:Q (.int (m.sum:Nat)) H):a9B [.ref D] H Q:=by
 unfold a9B
 simp only[h]
 exact⟨m.map fun(n:Nat)=>(n:Int),by rw[b7V,a5K],by rw[c4H];exact k⟩
theorem b3o(ms:List Bool)(hx:H wa=some (.lst xs))(lm:ms.length=xs.length)(lx:xs.length<=5000)(hi:σ[i]? = some (some (.ref wa)))
  (he:∀(j:Nat) x c H',xs[j]? = some x->ms[j]? = some c->i9 H H'->∀R:VK,R (.bl c) H'->te (some x::σ) H' R) (k:∀H',i9 H H'->Q (.int ((ms.map a1M).sum:Nat)) H'):tCB a9B (b4 (O5 (O0 K (b6 i)) (Q7) (tCB b8R (b4 te g8))) g8) σ H Q:=by
 refine c4S (Z9 ?_)
 exact_mod_cast U3 (P8 ?_)
 refine X2 hi ?_
 refine⟨wa,rfl,⟨_,SqL.of hx⟩,fun D hD=>?_⟩
 refine U0 (xs:=xs) (fun i ys H4=>ys=IL ((ms.take i).map a1M)/\H4 D=some (.lst ys)/\i9 H H4) ⟨rfl,c8,z6 hD⟩ ?_ ?_ ?_ ?_
 ·rintro i ys H4 ⟨_,h,_⟩
  exact h
 ·rintro i ys H4 _ ⟨_,_,s4⟩
  exact SqL.of (s4 _ _ hx)
 ·rintro i x ys H4 hx' ⟨rfl,hd,s4⟩ R hR
  have hlt:=(gI hx')
  obtain⟨c,hc⟩:∃c,ms[i]? = some c:=⟨_,c5 (by omega)⟩
  refine c4S (Z9 (he i x c H4 hx' hc s4 _ (a6h ?_)))
  have ei:(if c=true then (1:Int)else 0)=(c.toNat:Nat):=by cases c <;> rfl
  show R (.int (if c=true then 1 else 0)) H4
  rw[ei]
  refine hR _ _ hd (F4 (by rw[D2,b5,C9];omega)) ⟨?_,c8,fun b o e=>by rw[g9 (c9 e hD)];exact s4 _ _ e⟩
  rw[E9,hc,C5]
  simp[IL]
 ·rintro ys H4 ⟨rfl,hd,s4⟩
  rw[<-lm,F1]at hd
  exact a6h (c9Q hd (k H4 s4))
theorem c1C{n:Int}(hB:Bag H b d)(hn:J5 H na N)(hv:Q9 N)(m0:0<n)(m1:n<=60)
  (k:∀w W e H',WS H' w (FST::W)->On N 0 W e->W.length<=500->N[e]? = some []->H w=none->Bag H' b d->E8 b H H'->Q (.ref w) H'):a7m K [.ref b,.ref na,.int n] H Q E:=by
 refine⟨rfl,?_⟩
 unfold b6e
 nofun
 exists c6N hB hn hv m0 m1 fun w W e H1 W1 on lW en hw B1 k1=>?_
 obtain⟨ps,w1,w2,w3⟩:=id W1.ex
 rw[C0]at w2
 rcases b4a ps with rfl | ⟨ps',z,rfl⟩
 ·simp at w2
 have lz:ps'.length=W.length:=by simpa using w2
 have w1':=w1
 rw[C5]at w1'
 obtain⟨s,hs⟩:∃s,(FST::W)[W.length]? = some s:=⟨_,c5 (by simp)⟩
 have hz:=w3 W.length z s (by rw[<-lz];simp) hs
 have hn1:=hn.kept hB hv.two k1
 exists J1 w1' c6r ?_
 refine c5K hn1 (.inl hz) ?_ ?_
 ·rcases o4.mp (mI hs)with rfl | m
  ·exact .inl rfl
  ·exact on.isStep s m
 rw[on.last hs]
 ext
 refine c8r hn1 hv en fun w6 W6 e6 H6 hw6 S6 on6 l6 he s6=>?_
 obtain⟨ps6,r1,r2,r3⟩:=S6.ex
 refine c5a (s6 _ _ w1) r1 (L6 (by rw[b5,b5];omega) fun y H7 hy e7 s7=>?_)
 have y0:H y=none:=by
  cases q:H y with
  | none=>rfl
  | some o=>
   exact absurd (s6.free hy) (by
    by_cases x:y=b
    ·obtain⟨bs,hb⟩:=B1.lst
     rw[x,hb];exact nofun
    ·rw[k1.1 _ _ q x];exact nofun)
 refine k y (W++W6) e6 H7 ⟨(ps'++[z])++ps6,by rw[e7];simp,by simp[lz,r2];omega,fun i p s f1 f2=>?_⟩ (on.app on6) (by simp;omega) he y0 (B1.same (s6.trans s7)) (k1.trans (E8.of_same (s6.trans s7)))
 rw[<-List.cons_append]at f2
 by_cases hi:i<(ps'++[z]).length
 ·rw[o3 hi]at f1
  rw[o3 (by simp at hi ⊢;omega)]at f2
  exact s7 _ _ (s6 _ _ (w3 i p s f1 f2))
 ·rw[J4 (by omega)]at f1
  rw[J4 (by simp at hi ⊢;omega),show(FST::W).length=(ps'++[z]).length by simp[lz]]at f2
  exact s7 _ _ (r3 _ p s f1 f2)
theorem c1q(hr:H ra=some (.lst (rs.map V.ref)))(lr:rs.length=N.length)(hn:J5 H na N)(hv:Q9 N)(dq:a0Q H dd ds)(sat:a5W H rs ds Do Sp)(hB:M6 K H ba B)(hP:M6 K H pa ((D5 N).filter (puF N Do B F)))(hY:H ya=some (.lst (IL (inF N Do F))))(bk:BkL N Do Sp B)(al:∀t,t∈F↔Fal N Do B L t)(hw:WS H wa (FST::W))(on:On N 0 W e)(lW:W.length<=500)(he:N[e]? = some [])
  (k:∀H',i9 H H'->Q (.bl true) H'):a7l K [.ref ra,.ref na,.ref dd,.ref wa,.ref ba,.ref pa,.ref ya] H Q E:=by
 obtain⟨ps,w1,w2,w3⟩:=id hw.ex
 rw[C0]at w2
 have isS:∀s∈FST::W,a0P N s:=fun s hs=>by
  rcases o4.mp hs with rfl | hs
  ·exact .inl rfl
  ·exact on.isStep s hs
 have stp:∀ {C:List Stp} {ca:Addr} {j:Nat} {σ:St},M6 K H ca C->σ[j]? = some (some (.ref ca))->∀(i:Nat) x c H',(ps.map V.ref)[i]? = some x->((FST::W).map fun s=>decide (s∈C))[i]? = some c->i9 H H'->∀R:VK,R (.bl c) H'->tOp (c0D K false) (b6 0) (b6 (j+1)) (some x::σ) H' R:=by
  intro C ca j σ hC hj i x c H' hx hc s' R hR
  rw[a9]at hx hc
  obtain⟨z,hz,rfl⟩:=o5.mp hx
  obtain⟨s,hs,rfl⟩:=o5.mp hc
  refine b8K (X2 rfl (X2 (by exact hj) ?_))
  refine(hC.same s').ins (neg:=false) (.inl (s' _ _ (w3 i z s hz hs))) ?_
  rw[if_neg (by decide)]
  exact hR
 refine⟨rfl,?_⟩
 unfold b6d
 nofun
 exists c1g hn hw.at isS (by simp;omega) fun pl H1 hpl e1 s1=>?_
 have stp1:=fun {C ca j σ} (h:M6 K H ca C) (h2:σ[j]? = some (some (.ref ca))) i x c H' h3 h4 (s':i9 H1 H') R hR=>stp (C:=C) (ca:=ca) (j:=j) (σ:=σ) h h2 i x c H' h3 h4 (s1.trans s') R hR
 have l1:((FST::W).map fun s=>decide (s∈B)).length=(ps.map V.ref).length:=by simp[w2]
 have l2:((FST::W).map fun s=>decide (s∈(D5 N).filter (puF N Do B F))).length=(ps.map V.ref).length:=by simp[w2]
 have lp:(ps.map V.ref).length<=5000:=by rw[b5];omega
 obtain⟨pls,hpls⟩:∃pls,pls=(FST::W).map (E4 N):=⟨_,rfl⟩
 have lpl:pls.length=W.length+1:=by rw[hpls];simp
 have ltp:∀t∈pls,t<N.length:=fun t ht=>by
  rw[hpls]at ht
  obtain⟨s,hs,rfl⟩:=A2.mp ht
  exact a7H hv (isS s hs)
 rw[<-hpls]at e1
 exact_mod_cast K6 ?_
 exact_mod_cast b4o ?_
 refine b3o (ms:=(FST::W).map fun s=>decide (s∈B)) (s1 _ _ w1) l1 lp rfl (fun i x c H' h3 h4 s' R hR=>stp1 (j:=4) hB rfl i x c H' h3 h4 s' R hR) fun H2 s2=>?_
 have s02:=s1.trans s2
 ext
 exact_mod_cast K6 ?_
 exact_mod_cast b4o ?_
 exact_mod_cast b8K ?_
 refine b3o (ms:=(FST::W).map fun s=>decide (s∈(D5 N).filter (puF N Do B F))) (s02 _ _ w1) l2 lp rfl (fun i x c H' h3 h4 s' R hR=>stp (j:=5) hP rfl i x c H' h3 h4 (s02.trans s') R hR) fun H3 s3=>?_
 have s03:=s02.trans s3
 have e3:=s3 _ _ (s2 _ _ e1)
 refine b3o (ms:=pls.map fun t=>decide (t∈inF N Do F)) e3 (by rw[b5,D2]) (by rw[D2];omega) rfl (fun i x c H' h3 h4 s' R hR=>?_) fun H4 s4=>?_
 ·unfold IL at h3
  rw[a9]at h3 h4
  obtain⟨t,ht,rfl⟩:=o5.mp h3
  rw[ht]at h4
  cases h4
  refine b8K (X2 rfl (X2 rfl ?_))
  refine d2P (neg:=false) ((s03.trans s') _ _ hY) ?_
  rw[if_neg (by decide)]
  exact hR
 have s04:=s03.trans s4
 have e4:=s4 _ _ e3
 ext
 exact_mod_cast K6 ?_
 exact_mod_cast b4o ?_
 refine b3o (ms:=pls.map Do) e4 (by rw[b5,D2]) (by rw[D2];omega) rfl (fun i x c H' h3 h4 s' R hR=>?_) fun H5 s5=>?_
 ·unfold IL at h3
  rw[a9]at h3 h4
  obtain⟨t,ht,rfl⟩:=o5.mp h3
  rw[ht]at h4
  cases h4
  have tn:=ltp t (mI ht)
  have s0':=s04.trans s'
  obtain⟨rx,hrx⟩:∃rx,rs[t]? = some rx:=⟨_,c5 (by omega)⟩
  obtain⟨xs,y1,y2,y3⟩:=(sat.ts (i9.ts s0')) t rx hrx
  ext
  exists J1 (s0' _ _ hr) (a0v (by rw[a9,hrx];rfl)) ?_
  refine b2M y1 (dq.ts (i9.ts s0')) ?_
  rw[y2]
  exact hR
 have s05:=s04.trans s5
 have e5:=s5 _ _ e4
 ext
 have n1:nB (fun s=>decide (s∈B)) (FST::W)=nB (fun s=>decide (s∈(D5 N).filter (puF N Do B F))) (FST::W)+nB (fun t=>decide (t∈inF N Do F)) pls:=by
  have c1:=c8z hv bk al on
  have c2:=b9x hv bk al (s:=FST) (.inl rfl) (w:=decide (FST∈B)) (by rw[decide_eq_true_iff];exact⟨.inl,fun h=>h.elim id fun z=>(z.1 rfl).elim⟩)
  have z0:E4 N FST=0:=rfl
  rw[c8A hv bk al he]at c1
  rw[hpls,B8,a4w,a4w,a4w,z0]
  rw[z0]at c2
  simp only[Bool.toNat_false]at c1
  omega
 have n2:nB (fun s=>decide (s∈B)) (FST::W)<=nB Do pls:=by
  have z0:E4 N FST=0:=rfl
  have c1:=c6b hv bk on he (decide (FST∈B) && !Do 0) fun z=>by
   rw[F5,decide_eq_true_iff,X0]at z
   exact⟨bk.lead hv z.1,z.2⟩
  rw[hpls,B8,a4w,a4w,z0]
  cases x:decide (FST∈B) <;> cases y:Do 0 <;> rw[x,y]at c1 <;> simp at c1 ⊢ <;> omega
 unfold nB at n1 n2
 nofun
 exists v5 (by rw[n1];simp) ?_
 exists v5 (by rw[decide_eq_false_iff_not];omega) ?_
 nofun
 exact_mod_cast K6 ?_
 specialize a0p (c0w ?_)
 have w15:=s05 _ _ w1
 refine⟨wa,pl,rfl,⟨_,SqL.of w15⟩,⟨_,SqL.of e5⟩,?_⟩
 refine b2N ps.length (fun i σ H9=>∃y12 y13 bt,σ=[some (.ref ra),some (.ref na),some (.ref dd),some (.ref wa),some (.ref ba),some (.ref pa),some (.ref ya),some (.ref pl),some (.int (((((FST::W).map fun s=>decide (s∈B)).map a1M).sum:Nat):Int)),some (.int (((((FST::W).map fun s=>decide (s∈(D5 N).filter (puF N Do B F))).map a1M).sum:Nat)+(((pls.map fun t=>decide (t∈inF N Do F)).map a1M).sum:Nat):Int)),some (.int ((((pls.map Do).map a1M).sum:Nat):Int)),some (.bl bt),y12,y13]/\i9 H5 H9/\(bt=true->∃j s,i=j+1/\(FST::W)[j]? = some s/\¬UnW N Do Sp (E4 N s)/\Do (E4 N s)=false)) ⟨_,_,_,rfl,i9.refl _,fun z=>nomatch z⟩ ?_ ?_ ?_
 ·rintro _ H9 ⟨y12,y13,bt,rfl,s9,hb⟩
  exists ⟨⟨_,_,SqL.of (s9 _ _ w15),SqL.of (s9 _ _ e5),.inl (by rw[b5];exact j5 _)⟩,?_⟩
  cases bt with
  | false=>exact k H9 (s05.trans s9)
  | true=>
   obtain⟨j,s,j1,j2,j3,j4⟩:=hb rfl
   have ee:=on.last (by rw[<-show j=W.length by omega];exact j2)
   rw[ee]at j3 j4
   exact(j3 (.en (gI he) ⟨j4,.inr he⟩)).elim
 ·rintro i _ H9 hi ⟨y12,y13,bt,rfl,s9,hb⟩
  exact⟨_,_,_,_,SqL.of (s9 _ _ w15),SqL.of (s9 _ _ e5),by rw[a9,c5 hi];rfl,by unfold IL;rw[a9,c5 (by omega)];rfl⟩
 ·rintro i _ H9 hi ⟨y12,y13,bt,rfl,s9,hb⟩ v H10 ⟨pp,u1,u2,hpp,rfl,rfl,g1,g2⟩
  have g1:=g1 _ (SqL.of (s9 _ _ w15))
  have g2:=g2 _ (SqL.of (s9 _ _ e5))
  obtain⟨s,hs⟩:∃s,(FST::W)[i]? = some s:=⟨_,c5 (by simp;omega)⟩
  rw[a9,c5 hi]at g1
  cases g1
  unfold IL at g2
  rw[hpls,a9,a9,hs]at g2
  cases g2
  have is:=isS s (mI hs)
  have tn:=a7H hv is
  refine a6j (SqT.of c8) ?_
  have s10:=s9.trans (z6 (o:=.tup [V.ref ps[i],V.int (E4 N s:Int)]) hpp)
  have s010:=s05.trans s10
  have sp:=w3 i ps[i] s (c5 hi) hs
  have ex:bt=true->s∉B/\¬UnW N Do Sp (E4 N s):=fun z=>by
   obtain⟨j,s',j1,j2,j3,j4⟩:=hb z
   subst j1
   obtain⟨q,u,l,rfl,f1,f2⟩:=on.next FST rfl j s' s j2 (by simpa using hs)
   obtain⟨r1,r2⟩:=b3m hv bk f1 f2 j4 j3
   exact⟨r2,by rw[a1J f1 f2];exact r1⟩
  exact_mod_cast a5a (P:=fun σ H11=>∃b2,σ=[some (.ref ra),some (.ref na),some (.ref dd),some (.ref wa),some (.ref ba),some (.ref pa),some (.ref ya),some (.ref pl),some (.int (((((FST::W).map fun s=>decide (s∈B)).map a1M).sum:Nat):Int)),some (.int (((((FST::W).map fun s=>decide (s∈(D5 N).filter (puF N Do B F))).map a1M).sum:Nat)+(((pls.map fun t=>decide (t∈inF N Do F)).map a1M).sum:Nat):Int)),some (.int ((((pls.map Do).map a1M).sum:Nat):Int)),some (.bl b2),some (.ref ps[i]),some (.int (E4 N s:Int))]/\(upd H9 pp (.tup [V.ref ps[i],V.int (E4 N s:Int)]))=H11/\(b2=true->¬UnW N Do Sp (E4 N s))) ?_ ?_
  rotate_left
  ·intro nx hnx
   ext
   refine(hB.same s010).ins (neg:=false) (.inl (s010 _ _ sp)) ?_
   by_cases h:s∈B
   ·refine⟨_,rfl,C6 (by rw[if_neg (by decide)];exact d5r h) ?_⟩
    nofun
    exists v5 (by cases bt with | false=>rfl | true=>exact((ex rfl).1 h).elim) ?_
    exact hnx _ _ ⟨true,rfl,rfl,fun _=>bk.lead hv h⟩
   ·exists ⟨_,rfl,v5 (by rw[if_neg (by decide)];exact d5q h) ?_⟩
    exact hnx _ _ ⟨bt,rfl,rfl,fun z=>(ex z).2⟩
  rintro _ _ ⟨b2,rfl,rfl,hb2⟩
  obtain⟨rx,hrx⟩:∃rx,rs[E4 N s]? = some rx:=⟨_,c5 (by omega)⟩
  obtain⟨xs,y1,y2,y3⟩:=(sat.ts (i9.ts s010)) _ rx hrx
  ext
  exists J1 (s010 _ _ hr) (a0v (by rw[a9,hrx];rfl)) ?_
  refine b2M y1 (dq.ts (i9.ts s010)) ?_
  rw[y2]
  refine⟨_,rfl,?_⟩
  cases hd:Do (E4 N s)with
  | true=>
   exists C6 rfl ?_
   exact⟨_,_,false,rfl,s10,fun z=>nomatch z⟩
  | false=>
   exists v5 rfl ?_
   exact⟨_,_,b2,rfl,s10,fun z=>⟨i,s,rfl,hs,hb2 z,hd⟩⟩
end
theorem WS.put{z:Addr}{S:List Stp}(h:WS H w S)(hl:H z=some (.lst xs))(n:w≠z):WS (upd H z (.lst ys)) w S:=by
 obtain⟨ps,h1,h2,h3⟩:=h.ex
 exact⟨ps,by rw[g9 n];exact h1,h2,fun i p s a c=>G5.put hl _ _ (h3 i p s a c)⟩
theorem law_reading(K:Fg)(hl:ns.length<=63)(hO:c8H H)(hS:SqL K H a (ns.map V.int)):b3Z K [.ref a] H (fun v _=>v=.bl true) (fun _ _ _=>False):=by
 have p64:(2:Int) ^ 64=18446744073709551616:=by decide
 refine⟨rfl,fun c ck=>?_⟩
 unfold c4C
 nofun
 refine d1q hS hl fun b d H1 B1 s1 _=>?_
 ext
 nofun
 refine c7u B1 fun p1 ra na da N H2 e2 R2 T2 P2 hv l24 nra nna B2 k2=>?_
 refine⟨p1,_,rfl,SqT.of e2,rfl,_,_,rfl,_,_,rfl,_,_,rfl,rfl,?_⟩
 obtain⟨ps,hps,nps,lps,dps⟩:=id P2.ex
 obtain⟨rs,hrs,lrs,_⟩:=id R2.ex
 have pos:=hv.pos
 have h400:=hv.le
 nofun
 exists L7 hrs ?_
 rw[b5,lrs]
 refine c8s (E:=E0) B2 pos h400 fun la L H4 nla e4 lL hL B4 k4=>?_
 ext
 exact_mod_cast a5a (P:=fun σ H5=>∃la L,σ=[some (.ref a),some (.ref b),some (.ref ra),some (.ref na),some (.ref da),some (.ref la),none,none,none,none,none,none,none,none]/\la≠b/\H5 la=some (.lst (IL L))/\L.length<=400/\(∀t∈L,t<N.length)/\Bag H5 b d/\E8 b H2 H5) ?_ ?_
 rotate_left
 ·intro nx hnx
  ext
  refine O7 (E:=E0) B4 (by decide) (by decide) fun n2 H5 b0 b1 B5 k5=>?_
  ext
  refine a3j (fun _=>?_) (fun _=>?_)
  ·ext
   refine L6 (by simp) fun lb H6 hlb e6 s6=>?_
   ext
   exact hnx _ _ ⟨lb,[],rfl,(B5.nb hlb).1,e6,by simp,by simp,B5.same s6,(k4.trans k5).trans (E8.of_same s6)⟩
  ·ext
   exact hnx _ _ ⟨la,L,rfl,nla,k5.1 _ _ e4 nla,lL,hL,B5,k4.trans k5⟩
 rintro _ H5 ⟨la,L,rfl,nla,e5,lL,hL,B5,k25⟩
 have R5:=R2.kept B2 k25
 have T5:=T2.kept B2 hv.two k25
 have hra5:=k25.1 _ _ hrs (a2k B2 hrs)
 nofun
 specialize b4k ?_
 refine a7v hra5 fun ra' H8 hra' e8 s8=>?_
 ext
 refine c1s (T5.same s8) hv.le rfl fun na' H9 T9 s9=>?_
 ext
 intro x dx hx hdx hne
 have sm:i9 H9 (upd (upd H9 dx (.own x)) x (.ins c.M8 dx [])):=fun b o e=>by
  rw[g9 (c9 e hx),g9 (c9 e hdx)];exact e
 obtain⟨H10,hH10⟩:∃H10,H10=upd (upd H9 dx (.own x)) x (.ins c.M8 dx []):=⟨_,rfl⟩
 have x10:H10 x=some (.ins c.M8 dx []):=hH10 ▸ c8
 rw[<-hH10]at sm ⊢
 have s59:=s8.trans s9
 have s510:=s59.trans sm
 have R9:a0O H9 ra' N:=by
  obtain⟨rs',q1,q2,q3⟩:=id (R5.same s59).ex
  rw[s59 _ _ hra5]at q1
  obtain rfl:rs'=rs:=(a6I (f:=V.ref) (fun a b h=>V.ref.inj h) |>.mp (HO.lst.inj (Option.some.inj q1))).symm
  exact⟨rs',s9 _ _ e8,q2,q3⟩
 refine b7k (E:=E0) ck (sm _ _ (s9 _ _ e8)) (R9.same sm) (T9.same sm) hv x10 fun H11 pz old=>⟨rfl,?_⟩
 have s511:i9 H5 H11:=fun b o e=>old b o (s510 _ _ e) (c9 (s59 _ _ e) hx)
 have B11:=B5.same s511
 have k211:=k25.trans (E8.of_same s511)
 ext
 exact_mod_cast K6 ?_
 refine b6Y ?_
 specialize U3 (a1n ?_)
 refine⟨4,rfl,by omega,by omega,fun wl hwl=>?_⟩
 obtain⟨nb,nc⟩:=B11.nb hwl
 refine a6W (fun i ys H4=>∃ws:List Addr,ys=ws.map V.ref/\ws.length=i/\(∀w∈ws,w≠wl/\∃W e,WS H4 w (FST::W)/\On N 0 W e/\W.length<=500/\N[e]? = some [])/\H4 wl=some (.lst ys)/\Bag H4 b d/\E8 b H11 H4) ⟨[],rfl,rfl,by simp,c8,B11.new hwl,E8.new hwl⟩ ?_ ?_ ?_
 ·rintro i ys H4 ⟨_,_,_,_,h,_⟩
  exact h
 ·rintro i ys H4 hi ⟨ws,rfl,rfl,h1,hd,B4,k4⟩ R hR
  ext
  refine c1C B4 (T2.kept B2 hv.two (k211.trans k4)) hv (by decide) (by decide) fun w W e H5 W5 on lW he hw B5 k5=>?_
  have nw:w≠wl:=(c9 hd hw).symm
  have hd5:=k5.1 _ _ hd nb
  refine hR _ _ hd5 (F4 (by rw[b5];omega)) ⟨ws++[w],by simp,by simp,fun w' hw'=>?_,c8,B5.put nb nc,(k4.trans k5).put hwl⟩
  rcases u0.mp hw' with q | q
  ·obtain⟨n',W',e',q1,q2⟩:=h1 w' q
   exact⟨n',W',e',(q1.kept B4 k5).put hd5 n',q2⟩
  ·rw[o0.mp q]
   exact⟨nw,W,e,W5.put hd5 nw,on,lW,he⟩
 rintro ys H12 ⟨ws,rfl,lws,hws,hwl12,B12,k12⟩
 have pz12:=pz.kept B11 hv.two k12
 have k212:=k211.trans k12
 have R12:=R2.kept B2 k212
 have T12:=T2.kept B2 hv.two k212
 have hra12:=k212.1 _ _ hrs (a2k B2 hrs)
 have hps12:=k212.1 _ _ hps (a2k B2 hps)
 have e12:=k12.1 _ _ (s511 _ _ e5) nla
 have dps12:∀p∈ps,a7b H12 p:=fun p h=>(dps p h).ts (k212.ts B2)
 ext
 exact_mod_cast K6 ?_
 specialize a0p (P8 ?_)
 refine⟨da,rfl,⟨_,SqL.of hps12⟩,a2G (xs:=ps.map V.ref) (fun j σ H13=>∃y8 y9 y10 y11 y12 y13,σ=[some (.ref a),some (.ref b),some (.ref ra),some (.ref na),some (.ref da),some (.ref la),some (.ref x),some (.ref wl),y8,y9,y10,y11,y12,y13]/\i9 H12 H13) ?_ ?_ ?_ ?_⟩
 ·exact⟨_,_,_,_,_,_,rfl,i9.refl _⟩
 ·rintro j σ H13 _ ⟨_,_,_,_,_,_,_,s13⟩
  exact SqL.of (s13 _ _ hps12)
 ·rintro j v _ H13 hy ⟨y8,y9,y10,y11,y12,y13,rfl,s13⟩
  rw[a9]at hy
  obtain⟨p,hp',rfl⟩:=o5.mp hy
  have D13:=(dps12 p (mI hp')).ts (i9.ts s13)
  obtain⟨ds,dq⟩:=D13.q
  obtain⟨Do,Sp,sat⟩:=a5W.ex (R12.same s13) (s13 _ _ hra12) ds
  have pz13:=pz12.same s13
  ext
  nofun
  exact_mod_cast W3 ?_
  refine b2I ck pz13.r pz13.q pz13.at hv dq sat rfl rfl fun bx H14 Sr Sw hbx B14 s14=>?_
  obtain⟨bdx,brx,bwx,bfd,b1,bR,bW,bX⟩:=id B14.ex
  exists ⟨bx,bdx,_,rfl,b1,b3w (d:=bfd) (.inr rfl) (by decide),?_⟩
  refine b6r ck B14 fun bl H15 hbl L15 s15=>?_
  have bk:BkL N Do Sp _:=⟨frS Sr,frS Sw,fun t _=>by rw[<-bR.un t];simp[frS],fun t _=>by rw[<-bW.un t];simp[frS],rfl⟩
  ext
  have s1315:=s14.trans s15
  have pz15:=pz13.same s1315
  exact_mod_cast K6 ?_
  exact_mod_cast b4o ?_
  refine b9k ck pz15.r pz15.q pz15.at hv (dq.ts (i9.ts s1315)) (D13.ts (i9.ts s1315)) (sat.ts (i9.ts s1315)) hL lL rfl rfl (fun R hR=>c4S (Z9 (X2 rfl (a6h (a7v (s1315 _ _ (s13 _ _ e12)) fun l H'' _ e'' s''=>hR l H'' e'' s''))))) fun c1 H16 B F G hc1 bk1 al1 lv1 C16 s16=>?_
  rw[bk.uniq hv bk1]at L15
  obtain⟨dx1,fs1,cf1,_⟩:=id C16.ex
  ext
  nofun
  specialize W3 ?_
  exists ⟨c1,dx1,_,rfl,cf1.hx,cf1.no _ (by decide),?_⟩
  exists c7h ck C16 fun pl H17 hpl P17 s17=>?_
  nofun
  specialize W3 ?_
  exists ⟨c1,dx1,_,rfl,s17 _ _ cf1.hx,cf1.no _ (by decide),?_⟩
  exists c4I ck (C16.same s17) fun yl H18 hyl Y18 s18=>?_
  have s1518:=(s16.trans s17).trans s18
  have L18:=L15.same s1518
  have P18:=P17.same s18
  nofun
  refine b0D L18 ⟨_,rfl,?_⟩
  exists v5 rfl ?_
  refine b0D P18 ⟨_,rfl,?_⟩
  exists v5 rfl ?_
  refine b9q Y18 Y18 fun H19 s19=>⟨_,rfl,?_⟩
  exists v5 rfl ?_
  have s1319:=(s1315.trans s1518).trans s19
  have s1219:=s13.trans s1319
  specialize a0p (P8 ?_)
  refine⟨wl,rfl,⟨_,SqL.of (s1219 _ _ hwl12)⟩,a2G (xs:=ws.map V.ref) (fun j σ H20=>∃y13,σ=[some (.ref a),some (.ref b),some (.ref ra),some (.ref na),some (.ref da),some (.ref la),some (.ref x),some (.ref wl),some (.ref p),some (.ref bl),some (.ref c1),some (.ref pl),some (.ref yl),y13]/\i9 H19 H20) ?_ ?_ ?_ ?_⟩
  ·exact⟨_,rfl,i9.refl _⟩
  ·rintro j σ H20 _ ⟨_,_,s20⟩
   exact SqL.of (s20 _ _ (s1219 _ _ hwl12))
  ·rintro j v _ H20 hy ⟨y13,rfl,s20⟩
   rw[a9]at hy
   obtain⟨w,hw',rfl⟩:=o5.mp hy
   obtain⟨_,W,e,W12,on,lW,he⟩:=hws w (mI hw')
   have s1220:=s1219.trans s20
   have s1320:=s1319.trans s20
   ext
   refine c1q (s1220 _ _ hra12) lrs (T12.same s1220) hv (dq.ts (i9.ts s1320)) (sat.ts (i9.ts s1320)) ((L18.same s19).same s20) ((P18.same s19).same s20) (s20 _ _ (s19 _ _ Y18)) bk1 al1 (W12.same s1220) on lW he fun H21 s21=>⟨_,rfl,?_⟩
   exists v5 rfl ?_
   exact⟨_,rfl,s20.trans s21⟩
  ·rintro _ H20 ⟨y13,rfl,s20⟩
   exact⟨_,_,_,_,_,_,rfl,s1219.trans s20⟩
 ·rintro _ H13 ⟨y8,y9,y10,y11,y12,y13,rfl,s13⟩
  ext
  rfl
end RD
set_option maxHeartbeats 0
namespace PR
open PySem L2 RD Y
abbrev d3J:Str:="__init__"
abbrev d3K:Str:="_law_script"
abbrev d3L:Str:="_law_bag"
abbrev d3M:Str:="_law_bag_here"
abbrev d3N:Str:="_law_many"
abbrev d3O:Str:="_law_take"
abbrev d3P:Str:="_law_nexts"
abbrev d3Q:Str:="_law_k"
abbrev d3R:Str:="_law_some"
abbrev d3S:Str:="_law_way"
abbrev d3T:Str:="_law_net"
abbrev d3U:Str:="_law_good"
abbrev d3V:Str:="_law_turn"
abbrev d3W:Str:="_law_reached"
abbrev d3X:Str:="_law_one"
abbrev d3Y:Str:="_law_order"
abbrev d3Z:Str:="_law_mended"
abbrev d4a:Str:="_law_name"
abbrev d4b:Str:="_law_found"
abbrev d4c:Str:="_law_names"
abbrev d4d:Str:="_law_names_here"
abbrev d4e:Str:="_law_operand"
abbrev d4f:Str:="_law_deed"
abbrev d4g:Str:="_law_deeds"
abbrev d4h:Str:="_law_row"
abbrev d4i:Str:="_law_rows"
abbrev d4j:Str:="_law_plan"
abbrev d4k:Str:="_law_held"
abbrev d4l:Str:="_law_most"
abbrev d4m:Str:="_law_place"
abbrev d4n:Str:="_law_walk"
abbrev d4o:Str:="_law_step"
abbrev d4p:Str:="_law_to"
abbrev d4q:Str:="_law_far_here"
abbrev d4r:Str:="_law_far"
abbrev d4s:Str:="_law_home"
abbrev d4t:Str:="_law_all_way"
abbrev d4u:Str:="_law_int"
abbrev d4v:Str:="_law_step_list"
abbrev d4w:Str:="_law_int_list"
abbrev d4x:Str:="_law_places"
abbrev d4y:Str:="_law_deed_here"
abbrev d4z:Str:="_law_does"
abbrev d4A:Str:="_law_brinks_here"
abbrev d4B:Str:="_law_puts"
abbrev d4C:Str:="_law_stays"
abbrev d4D:Str:="_law_places_here"
abbrev d4E:Str:="_law_done"
abbrev d4F:Str:="_law_begun"
abbrev d4G:Str:="_law_counted"
abbrev d4H:Str:="self"
abbrev d4I:Str:="steps"
abbrev d4J:Str:="check_length"
abbrev d4K:Str:="thing"
abbrev d4L:Str:="is_whole"
abbrev d4M:Str:="is_value"
abbrev d4N:Str:="is_operand"
abbrev d4O:Str:="check_each"
abbrev d4P:Str:="is_below"
abbrev d4Q:Str:="following"
abbrev d4R:Str:="place"
abbrev d4S:Str:="are_nexts"
abbrev d4T:Str:="rows"
abbrev d4U:Str:="nexts"
abbrev d4V:Str:="check_nexts"
abbrev d4W:Str:="target"
abbrev d4X:Str:="stops_of"
abbrev d4Y:Str:="check_ways"
abbrev d4Z:Str:="steps_of"
abbrev d5a:Str:="step"
abbrev d5b:Str:="deed"
abbrev d5c:Str:="ready_behind"
abbrev d5d:Str:="is_spoilt_ahead"
abbrev d5e:Str:="wanted_behind"
abbrev d5f:Str:="plan"
abbrev d5g:Str:="order"
abbrev d5h:Str:="unready_steps"
abbrev d5i:Str:="unwanted_ends"
abbrev d5j:Str:="unwanted_steps"
abbrev d5k:Str:="held"
abbrev d5l:Str:="check_held"
abbrev d5m:Str:="unwaiting_places"
abbrev d5n:Str:="places_alive_behind"
abbrev d5o:Str:="_law_held_here"
abbrev d5p:Str:="_law_plan_here"
section
def top(i:Nat):Stmt:=PySem.Challenge.pw_oncedone_k55_whole_as_many_as_brinks.main.body.getD i (.Pass ⟨0,0,0,0⟩)
abbrev c1R:Stmt:=top 56
abbrev c0u:Stmt:=top 57
abbrev c4P:Stmt:=top 58
abbrev a6S:Stmt:=top 59
abbrev b7b:Stmt:=top 60
abbrev b7a:Stmt:=top 61
abbrev b1N:Stmt:=top 62
abbrev c0z:Stmt:=top 63
abbrev c4M:Stmt:=top 64
abbrev c0v:Stmt:=top 65
abbrev b4m:Stmt:=top 81
abbrev c0s:Stmt:=top 73
abbrev c9E:Stmt:=top 69
abbrev b8L:Stmt:=top 74
abbrev b7c:Stmt:=top 75
abbrev b1Q:Stmt:=top 77
abbrev c4Q:Stmt:=top 78
abbrev a8y:Stmt:=top 79
abbrev a9P:Stmt:=top 80
abbrev b0K:Stmt:=top 76
abbrev a9L:Stmt:=top 66
abbrev a4g:Stmt:=top 82
abbrev a5E:Stmt:=u9 (top 48) 3
abbrev a6w:Stmt:=u9 (top 54) 6
abbrev a5D:Stmt:=u9 (top 54) 8
abbrev a5C:Stmt:=top 27
abbrev a8U:Stmt:=top 9
abbrev a9M:Stmt:=top 7
abbrev a9N:Stmt:=top 8
abbrev a7q:Stmt:=top 10
abbrev b1O:Stmt:=top 11
abbrev b4l:Stmt:=top 12
abbrev a7t:Stmt:=top 28
abbrev a9O:Stmt:=top 26
abbrev a6k:Stmt:=top 31
abbrev a4u:Stmt:=top 32
abbrev b1L:Stmt:=top 35
abbrev b0J:Stmt:=top 34
abbrev a7o:Stmt:=top 33
abbrev a7s:Stmt:=top 36
abbrev a7p:Stmt:=top 37
abbrev a4S:Stmt:=u9 (top 38) 2
abbrev a3e:Stmt:=u9 (top 38) 0
abbrev a7u:Stmt:=u9 (top 38) 1
abbrev a2T:Stmt:=u9 (top 46) 1
abbrev a2S:Stmt:=u9 (top 46) 3
abbrev b4j:Stmt:=top 15
abbrev b4i:Stmt:=top 17
abbrev b1P:Stmt:=top 14
abbrev c0y:Stmt:=top 16
abbrev a4i:Stmt:=u9 (top 42) 1
abbrev a1W:Stmt:=u9 (top 42) 2
abbrev a4h:Stmt:=u9 (top 42) 3
abbrev a0M:Stmt:=u9 (top 48) 2
abbrev a0a:Stmt:=u9 (top 46) 2
abbrev a3F:Stmt:=u9 (top 48) 1
abbrev b1M:Stmt:=top 40
abbrev a4R:Stmt:=top 41
abbrev a3B:Stmt:=u9 (top 42) 0
abbrev a4Q:Stmt:=top 44
abbrev a3C:Stmt:=u9 (top 38) 3
abbrev a2j:Stmt:=top 45
abbrev a6v:Stmt:=u9 (top 46) 0
abbrev a4v:Stmt:=u9 (top 48) 0
abbrev a5g:Stmt:=top 51
abbrev b0L:Stmt:=top 50
abbrev a2R:Stmt:=top 52
abbrev a1E:Stmt:=top 53
abbrev a3E:Stmt:=u9 (top 54) 1
abbrev a3D:Stmt:=u9 (top 54) 2
abbrev a4T:Stmt:=u9 (top 54) 3
abbrev a0L:Stmt:=u9 (top 54) 0
abbrev b6f:Stmt:=top 83
structure Txt(K:Fg)(mg:Str->Option Value)(c:Cn):Prop where
 d3a:mg "abs" = none
 c6F:mg "all" = none
 d2Z:mg "any" = none
 c6E:mg "bool" = none
 c1I:mg "dict" = none
 a1i:mg "enumerate" = none
 b6z:mg "int" = none
 O1:mg "isinstance" = none
 O9:mg "len" = none
 a1t:mg "list" = none
 c2r:mg "min" = none
 a0f:mg "range" = none
 c6D:mg "sorted" = none
 d2Y:mg "str" = none
 c2q:mg "sum" = none
 b8e:mg "tuple" = none
 c6C:mg "zip" = none
 c8M:∃u,mg "BOUND" = some u/\K9 (.int 1000000000000) u
 b8d:∃u,mg "DEED_KINDS" = some u/\K9 (.ref c.a7S) u
 c3T:∃u,mg "FIGURES" = some u/\K9 (.str "0123456789") u
 a0e:∃u,mg "FIRST_STEP" = some u/\K9 (.ref c.M7) u
 b6y:∃u,mg "LETTERS" = some u/\K9 (.str "abcdefghijklmnopqrstuvwxyz") u
 b5i:∃u,mg "LONGEST_NAME" = some u/\K9 (.int 8) u
 d1G:∃u,mg "MOST" = some u/\K9 (.int 400) u
 d1F:∃u,mg "Plan" = some u/\K9 (.ref c.M8) u
abbrev scF(ns:List (Str×a9t)):Scope:={ kind:=.function,names:=ns,isGenerator:=false,isCoroutine:=false,more:=[] }
local macro_rules | `(tactic| walk_at "c0") => `(tactic| exact ⟨rfl, by decide +kernel, by decide +kernel, rfl, by decide +kernel, by decide +kernel, rfl, by decide +kernel⟩)
local macro_rules | `(tactic| walk_at "c1") => `(tactic| exact ⟨rfl, by decide +kernel, by decide +kernel, rfl, c1Y (by decide +kernel), by decide +kernel, rfl, by decide +kernel⟩)
local macro_rules | `(tactic| walk_at "c2") => `(tactic| exact ⟨rfl, by decide +kernel, by decide +kernel, rfl, rfl, by decide +kernel, by decide +kernel, rfl, rfl, by decide +kernel⟩)
local macro_rules | `(tactic| walk_at "c3") => `(tactic| exact ⟨rfl, by decide +kernel, by decide +kernel, rfl, rfl, c1Y (by decide +kernel), by decide +kernel, rfl, rfl, by decide +kernel⟩)
def c3N(f:List Value->Prop):List Str->Prop
 | []=>f []
 | _::r=>∀u,c3N (fun us=>f (u::us)) r
theorem c3N.mp:∀ {ps:List Str} {f:List Value->Prop},c3N f ps->∀us,us.length=ps.length->f us
 | [],_,h,[],_=>h
 | _::_,_,h,u::us,e=>c3N.mp (h u) us (Nat.succ.inj e)
section
variable {P:D4}{w:World}{K:Fg}{mg:Str->Option Value}{base h:Heap}{c:Cn}{f C:Addr}{fd:a0w}{x q:Str}{st:Stmt}{N ps:List Str}{k:Nat}{t:TS}{pm cd:Value}{sp:Sp}
open PySem.Spec PyProof.Rows in
theorem fk(F:Fun K x q st f fd)(S:u7 N ps (f6 st))(b:∀cdv A outer s H E,V6 k (A.deeper (b2A q (f6 st) s.heap.objs.size f cdv))->N.Nodup->b2X (b4S CX0 P w K mg base N q (f6 st) f cdv A outer s H E).nox (a0b st) t):F7 P w K mg base CX0 (k+1) f fd ps (spD ps.length N.length t):=
 b8o F S (fun _ _ _ _ h=>h.1) fun cdv A outer s H _ _ E hr h=>⟨t,b cdv A outer s H E hr S.nd,h.2⟩
abbrev fdM(x q:Str)(st:Stmt)(pm cd:Value):a0w:=Y8 x q (a2m st) (a0b st) (f6 st) .none .none .none pm none cd .none
structure FnI(K:Fg)(x q:Str)(st:Stmt)(f:Addr)(pm cd:Value):Prop where
 l:K.lookup f=some ⟨.type "function",none,.func (fdM x q st pm cd),#[]⟩
 c:a3Y K cd q=true
 k:V7 K (.ref f)=true
structure FnG(K:Fg)(x:Str)(st:Stmt)(f:Addr)(pm cd:Value):Prop where
 i:FnI K x x st f pm cd
 a:C4 K A6 x=some (some (.ref f))
structure FnM(K:Fg)(C:Addr)(x q:Str)(st:Stmt)(f:Addr)(pm cd:Value):Prop where
 i:FnI K x q st f pm cd
 a:t6 K (.ref C) x=some (some (.ref f))
 n:a8f K (.ref f)=true
theorem FnI.F(h:FnI K x q st f pm cd):Fun K x q st f (fdM x q st pm cd):=d1k h.l h.c h.k
abbrev BdA(x q:Str)(st:Stmt)(ps:List Str):Prop:=∀(kV doc pm:Value) (an:Option Addr) (cdv ct:Value),c3N (fun us=>bindArgs (Y8 x q (a2m st) (a0b st) (f6 st) .none kV doc pm an cdv ct) ⟨us,[]⟩=pure (ps.zip us)) ps
theorem mkC(X:K.In h)(G:h.Ns A6 mg)(g:FnG K x st f pm cd)(O:F7 P w K mg base CX0 k f (fdM x x st pm cd) ps sp)(B:BdA x x st ps):E7 P w K mg base k x ps sp:=c3A g.i.F O (V5 X G g.a) (g.i.F.binds fun _ _ _ _ _ _ us hl=>(B _ _ _ _ _ _).mp us hl)
theorem mkM(g:FnM K C x q st f pm cd)(cl:Cls K C)(O:F7 P w K mg base CX0 k f (fdM x q st pm cd) ps sp)(B:BdA x q st ps):W4 P w K mg base k x C ps sp:=⟨_,_,O,cl,⟨g.a,g.n,g.i.k⟩,g.i.F.binds fun _ _ _ _ _ _ us hl=>(B _ _ _ _ _ _).mp us hl⟩
theorem mkK{y:Str}(X:K.In h)(G:h.Ns A6 mg)(g:FnM K C d3J q st f pm cd)(y1:C4 K A6 y=some (some (.ref C)))(m:a5k K C=true)(kc:V7 K (.ref C)=true)(O:F7 P w K mg base CX0 k f (fdM d3J q st pm cd) ps sp)(B:BdA d3J q st ps):a9D P w K mg base k y C ps sp:=⟨_,_,O,V5 X G y1,⟨m,g.a,g.n,kc⟩,g.i.F.binds fun _ _ _ _ _ _ us hl=>(B _ _ _ _ _ _).mp us hl⟩
variable {D:Addr}{its:Array Value}{n:Nat}
abbrev fdD(x q:Str)(st:Stmt)(D:Addr)(pm cd:Value):a0w:=Y8 x q (a2m st) (a0b st) (f6 st) (.ref D) .none .none pm none cd .none
structure FnD(K:Fg)(C:Addr)(x q:Str)(st:Stmt)(D f:Addr)(pm cd:Value)(its:Array Value)(n:Nat):Prop where
 l:K.lookup f=some ⟨.type "function",none,.func (fdD x q st D pm cd),#[]⟩
 c:a3Y K cd q=true
 k:V7 K (.ref f)=true
 a:t6 K (.ref C) x=some (some (.ref f))
 fn:a8f K (.ref f)=true
 t:K.lookup D=some ⟨.type "tuple",none,.seq its n,#[]⟩
theorem FnD.F(h:FnD K C x q st D f pm cd its n):b9O K x q st D f (fdD x q st D pm cd):=⟨⟨_,_,_,_,_,_,_,_,_,rfl,h.l,h.c⟩⟩
open PySem.Spec PyProof.Rows in
theorem fkD(F:b9O K x q st D f fd)(S:u7 N ps (f6 st))(b:∀cdv A outer s H E,V6 k (A.deeper (b2A q (f6 st) s.heap.objs.size f cdv))->N.Nodup->b2X (b4S CX0 P w K mg base N q (f6 st) f cdv A outer s H E).nox (a0b st) t):F7 P w K mg base CX0 (k+1) f fd ps (spD ps.length N.length t):=
 c2x F S (fun _ _ _ _ h=>h.1) fun cdv A outer s H _ _ E hr h=>⟨t,b cdv A outer s H E hr S.nd,h.2⟩
abbrev BdD(x q:Str)(st:Stmt)(D:Addr)(its:Array Value)(ps:List Str):Prop:=∀(kV doc pm:Value) (an:Option Addr) (cdv ct:Value),c3N (fun us=>∃k,bindArgs (Y8 x q (a2m st) (a0b st) (f6 st) (.ref D) kV doc pm an cdv ct) ⟨us,[]⟩=(seqItems? (.ref D) >>= k)/\k (some its)=pure (ps.zip us)) ps
theorem d3v{y:Str}(X:K.In h)(G:h.Ns A6 mg)(g:FnD K C d3J q st D f pm cd its n)(y1:C4 K A6 y=some (some (.ref C)))(m:a5k K C=true)(kc:V7 K (.ref C)=true)(O:F7 P w K mg base CX0 k f (fdD d3J q st D pm cd) ps sp)(B:BdD d3J q st D its ps):a9D P w K mg base k y C ps sp:=⟨_,_,O,V5 X G y1,⟨m,g.a,g.fn,kc⟩,g.F.binds (ds:=[]) g.t rfl fun _ _ _ _ _ _ us hl=>by rw[P7]at hl ⊢;exact(B _ _ _ _ _ _).mp us hl⟩
end
section
variable {P:D4}{w:World}{K:Fg}{mg:Str->Option Value}{base:Heap}{c:Cn}{D:Addr}{f:Addr}{fd:a0w}(T:Txt K mg c)
abbrev c5B:List Str:=[d3K]
theorem c9D:u7 [d3K] c5B (f6 c1R):=by walk_at "sc"
theorem c6n:L3 [d3K] (f6 c1R) (scF [ (".0",.local),("_law_cell",.local),("abs",.globalImplicit)]) "_law_cell" := by walk_at "c0"
include T in
theorem d0R(F:Fun K d3L d3L c1R f fd):F7 P w K mg base CX0 1 f fd c5B (b6S K):=fk F c9D fun _ _ _ _ _ _ hr nd=>c6 (j8 (K5 (b8m c7 c7 c7 (E6 c6n rfl (C2 (a5p c2s (b9 0) a6K (a6J c7))) (fun _ _ _ _ _=>E1) (fun _ _ _ _ _=>j6 b8q rfl T.d3a PyProof.Rows.boot_abs (j7 (b9 0)))))))
variable(c2i:E7 P w K mg base 1 d3L c5B (b6S K))
abbrev c0K:List Str:=[d3M,d3N]
theorem c6V:u7 [d3M,d3N,"_law_more","_law_cell","_law_value","_law_first","_law_second"] c0K (f6 c0u):=by walk_at "sc"
include T in
theorem c7T(F:Fun K d3O d3O c0u f fd):F7 P w K mg base CX0 1 f fd c0K (L5 K):=fk F c6V fun _ _ _ _ _ _ hr nd=>b8 (A4 (E5 (F3 hr) (v0 (b9 0) c7) c7) (b8 (A1 2 nd c7) (b8 (A4 (E5 a0Y (v0 (b9 0) c7) (j6 u4 rfl T.O9 j9 (j7 (v0 (b9 0) c7)))) (b8 (A1 3 nd (v0 (v0 (b9 0) c7) (v0 (b9 0) c7))) (b8 (c2t (b9 0) c7 c6K c7 a8p b0l) (b8 (A4 (E5 c4n (b9 3) c7) (c6 (a8m (b9 3) (b0n (b9 0) c7 b0l))) p8) (c6 (A1 2 nd (L4 X3 (L4 a3d (b9 3) c7) c7)))))) p8) (c6 (a8m (L4 a3d (L4 X3 (L4 a6M (v0 (b9 0) c7) c7) (b9 2)) c7) (b0n (b9 0) c7 b0l))))) p8) (b8 (A4 (E5 a3t (v0 (b9 0) c7) c7) (b8 (A1 4 nd (L4 a3d (v0 (b9 0) c7) (b9 1))) (b8 (a8m (L4 b5W (v0 (b9 0) c7) (b9 1)) (b0n (b9 0) c7 b0l)) (c6 (j8 (b9 4))))) p8) (b8 (A1 5 nd (L4 a3d (L4 a6M (v0 (b9 0) c7) c7) c7)) (b8 (A1 6 nd (L4 a3d (L4 a6M (b9 5) c7) c7)) (b8 (A4 (E5 a3t (b9 1) c7) (c6 (j8 (L4 a3d (L4 X3 (L4 a6M (b9 6) c7) (b9 5)) (b9 1)))) p8) (c6 (j8 (L4 a3d (L4 b5W (b9 6) c7) (b9 1))))))))
variable(F6:E7 P w K mg base 1 d3O c0K (L5 K))
abbrev c5y:List Str:=[d3M,d3N]
theorem c9A:u7 [d3M,d3N,d3P,d3Q,"_law_near",d3R,d3S] c5y (f6 c4P):=by walk_at "sc"
include T F6 in
theorem d0N(F:Fun K d3T d3T c4P f fd):F7 P w K mg base CX0 2 f fd c5y (b6Q K):=fk F c9A fun _ _ _ _ _ _ hr nd=>b8 (A1 2 nd (K5 T6)) (b8 (G8 PassesOwn.never rfl (K0 rfl T.a0f (j7 (b9 1))) (L1 3 nd) (b8 (A1 4 nd (j6 (b2C rfl) rfl T.c2r a3Q (A7 (L4 X3 (b9 3) c7) (L4 b1u (b9 1) c7)))) (b8 (A1 5 nd (K5 (A7 (b9 4) (p9 F6 hr (A7 (b9 0) (b9 1)))))) (b8 (A1 6 nd (p9 F6 hr (A7 (b9 0) c7))) (b8 (A4 (E5 a0Y (b9 6) c7) (c6 (A1 5 nd (K5 (A7 (v0 (b9 5) c7) (b9 4))))) p8) (b8 (A4 (E5 (F3 hr) (b9 6) c7) (c6 (A1 5 nd (K5 (A7 (v0 (b9 5) c7) (p9 F6 hr (A7 (b9 0) (b9 1))))))) p8) (b8 (A4 (R1 (Y9 (R1 (a2B (E5 a3t (b9 6) c7) (a3a (E5 a0Y (b9 6) c7)))) (Y6 (E5 (F3 hr) (b9 1) c7)))) (c6 (A1 5 nd (K5 (j7 (b9 4))))) p8) (b8 (A4 (R1 (a2B (E5 (F3 hr) (b9 6) c7) (a3a (E5 a3t (b9 1) c7)))) (c6 (A1 5 nd (K5 (j7 (v0 (b9 5) c7))))) p8) (b8 (A4 (R1 (Y9 (E5 (F3 hr) (b9 3) (L4 b1u (b9 1) c7)) (Y6 (R1 (a2B (E5 (F3 hr) (b9 6) c7) (a3a (E5 (F3 hr) (p9 F6 hr (A7 (b9 0) c7)) c7))))))) (c6 (A1 5 nd (K5 T6))) p8) (c6 (J8 (a0s z9 C8 C7 P3 (b9 2) (j7 (b9 5)))))))))))))) (c6 (j8 (b9 2))))
variable(c2g:E7 P w K mg base 2 d3T c5y (b6Q K))
abbrev b4B:List Str:=[d3P]
theorem c2I:u7 [d3P,d3U,d3V,d3Q,d3W,d3X,d3Y] b4B (f6 a6S):=by walk_at "sc"
theorem b9E:L3 [d3P,d3U,d3V,d3Q,d3W,d3X,d3Y] (f6 a6S) (scF [ (".0",.local),(d3X,.local),(d3U,.free)]) d3X := by walk_at "c0"
theorem b9D:L3 [d3P,d3U,d3V,d3Q,d3W,d3X,d3Y] (f6 a6S) (scF [ (".0",.local),(d3Q,.local),("len",.globalImplicit),(d3U,.free),(d3P,.free)]) d3Q := by walk_at "c0"
theorem b9C:L3 [d3P,d3U,d3V,d3Q,d3W,d3X,d3Y] (f6 a6S) (scF [ (".0",.local),(d3Q,.local),(d3P,.free),(d3Y,.free)]) d3Q := by walk_at "c0"
theorem b9B(env:Env):L3 [d3Q,d3P,d3U,d3V,"._law_k",d3W,d3X,d3Y] (b1s (scF [ (".0",.local),(d3Q,.local),(d3P,.free),(d3Y,.free)]) env) (scF [ (".0",.local),(d3X,.local),(d3Y,.free)]) d3X := by walk_at "c1"
include T in
theorem c3a(F:Fun K d3Z d3Z a6S f fd):F7 P w K mg base CX0 1 f fd b4B (a8S K):=fk F c2I fun _ _ _ _ _ _ hr nd=>b8 (A1 1 nd a7h) (b8 (G8 PassesOwn.never rfl (K0 rfl T.a0f (j7 (j6 u4 rfl T.O9 j9 (j7 (b9 0))))) (L1 2 nd) (c6 (G8 PassesOwn.never rfl (K0 rfl T.a0f (j7 (j6 u4 rfl T.O9 j9 (j7 (b9 0))))) (L1 3 nd) (c6 (A4 (R1 (Y9 (E5 (F3 hr) (v0 (b9 0) (b9 3)) (K5 T6)) (Y6 (E2 (j6 (b8p rfl) rfl T.d2Z PyProof.Rows.boot_any (j7 (E6 b9E rfl (C2 (v0 (b9 0) (b9 3))) (fun _ _ _ _ _=>E1) (fun _ _ _ _ _=>c4j hr (b9 0) (b9 2) rfl)))))))) (c6 (a2d hr (b9 1) (b9 3) M5)) p8))))) (b8 (A1 0 nd (E6 b9D rfl (K0 rfl T.a0f (j7 (j6 u4 rfl T.O9 j9 (j7 (b9 0))))) (fun _ _ _ _ _=>E1) (fun _ _ _ _ _=>a4e (b8l hr (b9 0) (b9 2) rfl) (v0 (b9 1) (b9 0)) (L4 X3 (K5 (j7 (L4 b1u (j6 u4 rfl T.O9 j9 (j7 (b9 1))) c7))) (a5p b6C (v0 (b9 1) (b9 0)) (a6J c7) a6K))))) (b8 (A1 4 nd (b5V (b3H c7 M5 b5U))) (b8 (G8 PassesOwn.never rfl (K0 rfl T.a0f (j7 (j6 u4 rfl T.O9 j9 (j7 (b9 0))))) (L1 2 nd) (c6 (G8 PassesOwn.never rfl (K0 rfl T.a0f (j7 (j6 u4 rfl T.O9 j9 (j7 (b9 0))))) (L1 3 nd) (c6 (A4 (b8l hr (b9 3) (b9 4) rfl) (c6 (G8 PassesOwn.never rfl (C2 (v0 (b9 0) (b9 3))) (L1 5 nd) (c6 (a2d hr (b9 4) (b9 5) M5)))) p8))))) (b8 (A1 6 nd (j6 b3L rfl T.c6D PyProof.Rows.boot_sorted (j7 (F9 (a2C rfl) rfl T.a1t z4 (j7 (b9 4)))))) (c6 (j8 (E6 b9C rfl (C2 (b9 6)) (fun _ _ _ _ _=>E1) (fun _ _ _ _ _=>E6 (b9B _) rfl (C2 (v0 (b9 1) (b9 0))) (fun _ _ _ _ _=>E1) (fun _ _ _ _ _=>a0s z9 a7Q b8f b2B (b9 8) (j7 (b9 0))))))))))))
variable(b1f:E7 P w K mg base 1 d3Z b4B (a8S K))
abbrev c0M:List Str:=[d3M,d3Q]
theorem c6X:u7 [d3M,d3Q,"_law_size","_law_signs"] c0M (f6 b7b):=by walk_at "sc"
theorem c3w:L3 [d3M,d3Q,"_law_size","_law_signs"] (f6 b7b) (scF [ (".0",.local),(d3V,.local),(d3O,.globalImplicit),(d3M,.free),("_law_signs",.free)]) d3V := by walk_at "c0"
include T F6 in
theorem c7V(F:Fun K d4a d4a b7b f fd):F7 P w K mg base CX0 2 f fd c0M (b3r K):=fk F c6X fun _ _ _ _ _ _ hr nd=>b8 (A4 (E5 (F3 hr) (p9 F6 hr (A7 (b9 0) c7)) c7) (c6 (j8 (v0 (K5 (Q2 G9 (c4l G9 G9 G9 G9 G9))) (p9 F6 hr (A7 (b9 0) c7))))) p8) (b8 (A1 2 nd (L4 X3 (L4 a6M (p9 F6 hr (A7 (b9 0) c7)) c7) (L4 a3d (b9 1) c7))) (b8 (A1 3 nd G9) (c6 (j8 (L4 X3 (v0 (b9 3) (p9 F6 hr (A7 (b9 0) c7))) (a0s PySem.F.plainAttrs_str PySem.F.slot_str_join PySem.F.type_str_join b9X G9 (j7 (E6 c3w rfl (K0 rfl T.a0f (j7 (b9 2))) (fun _ _ _ _ _=>E1) (fun _ _ _ _ _=>v0 (b9 4) (p9 F6 hr (A7 (b9 1) c7)))))))))))
variable(b7M:E7 P w K mg base 2 d4a c0M (b3r K))
abbrev b7m:List Str:=[d3M]
theorem c4K:u7 [d3M,d4b,d3Q] b7m (f6 b7a):=by walk_at "sc"
include T F6 b7M in
theorem c5C(F:Fun K d4c d4c b7a f fd):F7 P w K mg base CX0 3 f fd b7m (b0E K):=fk F c4K fun _ _ _ _ _ _ hr nd=>b8 (A1 1 nd a7h) (b8 (G8 PassesOwn.never rfl (K0 rfl T.a0f (j7 (L4 X3 c7 (p9 F6 hr (A7 (b9 0) c7))))) (L1 2 nd) (c6 (a2d hr (b9 1) (p9 b7M hr (A7 (b9 0) (b9 2))) M5))) (c6 (j8 (F9 (a2C rfl) rfl T.a1t z4 (j7 (b9 1))))))
variable(b3A:E7 P w K mg base 3 d4c b7m (b0E K))
abbrev b1T:List Str:=[d3M,d4d]
theorem c0m:u7 [d3M,d4d,d3S] b1T (f6 b1N):=by walk_at "sc"
include T F6 in
theorem c0U(F:Fun K d4e d4e b1N f fd):F7 P w K mg base CX0 2 f fd b1T (a1S K):=fk F c0m fun _ _ _ _ _ _ hr nd=>b8 (A4 (E5 a3t (p9 F6 hr (A7 (b9 0) c7)) c7) (c6 (j8 (v0 (b9 1) (p9 F6 hr (A7 (b9 0) (j6 u4 rfl T.O9 j9 (j7 (b9 1)))))))) p8) (b8 (A1 2 nd (p9 F6 hr (A7 (b9 0) c7))) (b8 (A4 (E5 a0Y (b9 2) c7) (c6 (j8 (b9 2))) p8) (b8 (A4 (E5 (F3 hr) (b9 2) c7) (c6 (j8 c7)) p8) (c6 (j8 (p9 F6 hr (A7 (b9 0) c7)))))))
variable(a0C:E7 P w K mg base 2 d4e b1T (a1S K))
abbrev c0Q:List Str:=[d3M,d4d]
theorem c7b:u7 [d3M,d4d,"_law_kind"] c0Q (f6 c0z):=by walk_at "sc"
include T F6 a0C in
theorem c7Z(F:Fun K d4f d4f c0z f fd):F7 P w K mg base CX0 3 f fd c0Q (b3u K):=fk F c7b fun _ _ _ _ _ _ hr nd=>b8 (A1 2 nd (v0 (K5 (c4l G9 G9 G9 G9 G9)) (p9 F6 hr (A7 (b9 0) c7)))) (c6 (j8 (Q4 (a5X (b9 2) (p9 a0C hr (A7 (b9 0) (b9 1))) (p9 a0C hr (A7 (b9 0) (b9 1)))))))
variable(b7P:E7 P w K mg base 3 d4f c0Q (b3u K))
abbrev c5x:List Str:=[d3M,d4d,d4g]
theorem c9z:u7 [d3M,d4d,d4g,d3S,"_law_name_here"] c5x (f6 c4M):=by walk_at "sc"
include T F6 a0C in
theorem d0M(F:Fun K d4h d4h c4M f fd):F7 P w K mg base CX0 3 f fd c5x (b6P K):=fk F c9z fun _ _ _ _ _ _ hr nd=>b8 (A1 3 nd (p9 F6 hr (A7 (b9 0) c7))) (b8 (A1 4 nd (v0 (b9 1) (p9 F6 hr (A7 (b9 0) (j6 u4 rfl T.O9 j9 (j7 (b9 1))))))) (b8 (A4 (E5 a0Y (b9 3) c7) (c6 (j8 (Q4 (a5X G9 (b9 4) (v0 (b9 2) (p9 F6 hr (A7 (b9 0) (j6 u4 rfl T.O9 j9 (j7 (b9 2)))))))))) p8) (b8 (A4 (E5 (F3 hr) (b9 3) c7) (c6 (j8 (Q4 (a5X G9 (b9 4) (p9 a0C hr (A7 (b9 0) (b9 1))))))) p8) (b8 (A4 (E5 (F3 hr) (b9 3) c7) (c6 (j8 (Q4 (A7 G9 (b9 4))))) p8) (c6 (j8 (v0 (K5 (A7 (Q4 (A7 G9 (p9 a0C hr (A7 (b9 0) (b9 1))))) (Q4 (j7 G9)))) (p9 F6 hr (A7 (b9 0) c7)))))))))
variable(c2f:E7 P w K mg base 3 d4h c5x (b6P K))
abbrev c0L:List Str:=[d3M]
theorem c6W:u7 [d3M,"_law_large",d3N,d3P,d4d,d4g,d3Q,d4i,d3R] c0L (f6 c0v):=by walk_at "sc"
include T F6 c2g b1f b3A a0C b7P c2f in
theorem c7U(F:Fun K d4j d4j c0v f fd):F7 P w K mg base CX0 4 f fd c0L (b3q K):=fk F c6W fun _ _ _ _ _ _ hr nd=>b8 (A1 1 nd (a5q (F3 hr) (p9 F6 hr (A7 (b9 0) c7)) c7)) (b8 (A1 2 nd (L4 X3 c7 (p9 F6 hr (A7 (b9 0) c7)))) (b8 (A4 (E2 (b9 1)) (c6 (A1 2 nd (L4 X3 c7 (p9 F6 hr (A7 (b9 0) c7))))) p8) (b8 (A1 3 nd (p9 b1f hr (j7 (p9 c2g hr (A7 (b9 0) (b9 2)))))) (b8 (A1 4 nd (p9 b3A hr (j7 (b9 0)))) (b8 (A1 5 nd (K5 T6)) (b8 (G8 PassesOwn.never rfl (K0 rfl T.a0f (j7 (L4 X3 c7 (p9 F6 hr (A7 (b9 0) c7))))) (L1 6 nd) (c6 (J8 (a0s z9 C8 C7 P3 (b9 5) (j7 (p9 b7P hr (A7 (b9 0) (a5p b6C (b9 4) a6K (a6J c7))))))))) (b8 (A1 7 nd (K5 T6)) (b8 (G8 PassesOwn.never rfl (C2 (b9 3)) (L1 8 nd) (c6 (A4 (E5 (F3 hr) (j6 u4 rfl T.O9 j9 (j7 (b9 8))) c7) (c6 (J8 (a0s z9 C8 C7 P3 (b9 7) (j7 (Q4 (A7 G9 (p9 a0C hr (A7 (b9 0) (b9 4))))))))) (c6 (J8 (a0s z9 C8 C7 P3 (b9 7) (j7 (p9 c2f hr (a5X (b9 0) (b9 4) (b9 5)))))))))) (c6 (j8 (Q4 (a5X (b9 7) (b9 3) (b9 5)))))))))))))
variable(b7L:E7 P w K mg base 4 d4j c0L (b3q K))
abbrev c0O:List Str:=[d3M,d3N]
theorem c6Z:u7 [d3M,d3N] c0O (f6 b4m):=by walk_at "sc"
theorem c3z:L3 [d3M,d3N] (f6 b4m) (scF [(".0",.local),(d3Q,.local)]) d3Q := by walk_at "c0"
theorem c3y:L3 [d3M,d3N] (f6 b4m) (scF [ (".0",.local),(d3Q,.local),(d3O,.globalImplicit),(d3M,.free),(d3N,.free)]) d3Q := by walk_at "c0"
include T F6 in
theorem c7X(F:Fun K d4k d4k b4m f fd):F7 P w K mg base CX0 2 f fd c0O (b3t K):=fk F c6Z fun _ _ _ _ _ _ hr nd=>b8 (A4 (E5 (F3 hr) (p9 F6 hr (A7 (b9 0) c7)) c7) (c6 (j8 (E6 c3z rfl (K0 rfl T.a0f (j7 (b9 1))) (fun _ _ _ _ _=>E1) (fun _ _ _ _ _=>b9 0)))) p8) (c6 (j8 (E6 c3y rfl (K0 rfl T.a0f (j7 (p9 F6 hr (A7 (b9 0) c7)))) (fun _ _ _ _ _=>E1) (fun _ _ _ _ _=>p9 F6 hr (A7 (b9 1) (b9 2))))))
variable(b7O:E7 P w K mg base 2 d4k c0O (b3t K))
abbrev c0J:List Str:=[d3M,d3P,d4l]
theorem c6U:u7 [d3M,d3P,d4l,d3S,d4m,d3Q,"_law_at"] c0J (f6 c0s):=by walk_at "sc"
include T F6 in
theorem c7S(F:Fun K d4n d4n c0s f fd):F7 P w K mg base CX0 2 f fd c0J (b3p K):=fk F c6U fun _ _ _ _ _ _ hr nd=>b8 (A1 3 nd (K5 (j7 (Q4 (A7 (c1K b8k c7) c7))))) (b8 (A1 4 nd c7) (b8 (G8 PassesOwn.never rfl (K0 rfl T.a0f (j7 (p9 F6 hr (A7 (b9 0) (b9 2))))) (L1 5 nd) (c6 (A4 (E5 (a3s hr) (v0 (b9 1) (b9 4)) (K5 T6)) (b8 (A1 6 nd (p9 F6 hr (A7 (b9 0) (j6 u4 rfl T.O9 j9 (j7 (v0 (b9 1) (b9 4))))))) (b8 (J8 (a0s z9 C8 C7 P3 (b9 3) (j7 (Q4 (A7 (b9 4) (b9 6)))))) (c6 (A1 4 nd (v0 (v0 (b9 1) (b9 4)) (b9 6)))))) p8))) (c6 (j8 (b9 3)))))
variable(b7K:E7 P w K mg base 2 d4n c0J (b3p K))
abbrev d0x:List Str:=[d3P,d4o]
theorem d1Y:u7 [d3P,d4o] d0x (f6 c9E):=by walk_at "sc"
include T in
theorem d2J(F:Fun K d4p d4p c9E f fd):F7 P w K mg base CX0 1 f fd d0x (b8B K):=fk F d1Y fun _ _ _ _ _ _ hr nd=>b8 (A4 (E5 a0Y (a7g a8O (b9 1) c7 (fun _ _=>rfl)) c7) (c6 (j8 c7)) p8) (c6 (j8 (v0 (v0 (b9 0) (a7g a8O (b9 1) c7 (fun _ _=>rfl))) (a7g a8O (b9 1) c7 (fun _ _=>rfl)))))
variable(c1B:E7 P w K mg base 1 d4p d0x (b8B K))
abbrev c5A:List Str:=[d3P]
theorem c9C:u7 [d3P,d4q,d3V,d3Q] c5A (f6 b8L):=by walk_at "sc"
theorem c6m:L3 [d3P,d4q,d3V,d3Q] (f6 b8L) (scF [ (".0",.local),(d3R,.local),("len",.globalImplicit),(d3P,.free)]) d3R := by walk_at "c0"
theorem c6l:L3 [d3P,d4q,d3V,d3Q] (f6 b8L) (scF [ (".0",.local),(d3X,.local),(d4q,.free)]) d3X := by walk_at "c0"
include T in
theorem d0Q(F:Fun K d4r d4r b8L f fd):F7 P w K mg base CX0 1 f fd c5A (b6R K):=fk F c9C fun _ _ _ _ _ _ hr nd=>b8 (A1 1 nd (E6 c6m rfl (C2 (b9 0)) (fun _ _ _ _ _=>E1) (fun _ _ _ _ _=>a4e (E5 (F3 hr) (b9 0) (K5 T6)) c7 (j6 u4 rfl T.O9 j9 (j7 (b9 1)))))) (b8 (G8 PassesOwn.never rfl (K0 rfl T.a0f (j7 (j6 u4 rfl T.O9 j9 (j7 (b9 0))))) (L1 2 nd) (c6 (G8 PassesOwn.never rfl (K0 rfl T.a0f (j7 (j6 u4 rfl T.O9 j9 (j7 (b9 0))))) (L1 3 nd) (c6 (A4 (E5 (a3s hr) (v0 (b9 0) (b9 3)) (K5 T6)) (c6 (a8m (j6 (b2C rfl) rfl T.c2r a3Q (A7 (j6 u4 rfl T.O9 j9 (j7 (b9 0))) (L4 X3 c7 (j6 (b0q rfl) rfl T.c2r a3Q (j7 (E6 c6l rfl (C2 (v0 (b9 0) (b9 3))) (fun _ _ _ _ _=>E1) (fun _ _ _ _ _=>v0 (b9 2) (b9 0)))))))) (b0n (b9 1) (b9 3) b0l))) p8))))) (c6 (j8 (b9 1))))
variable(c2h:E7 P w K mg base 1 d4r c5A (b6R K))
abbrev c0N:List Str:=[d3P,d4m]
theorem c6Y:u7 [d3P,d4m,d4q,d3S,d3V,"_law_ends","_law_at"] c0N (f6 b7c):=by walk_at "sc"
theorem c3x:L3 [d3P,d4m,d4q,d3S,d3V,"_law_ends","_law_at"] (f6 b7c) (scF [ (".0",.local),(d3X,.local),(d4q,.free)]) d3X := by walk_at "c0"
include T c2h in
theorem c7W(F:Fun K d4s d4s b7c f fd):F7 P w K mg base CX0 2 f fd c0N (b3s K):=fk F c6Y fun _ _ _ _ _ _ hr nd=>b8 (A1 2 nd (p9 c2h hr (j7 (b9 0)))) (b8 (A1 3 nd (K5 T6)) (b8 (G8 PassesOwn.never rfl (K0 rfl T.a0f (j7 (j6 u4 rfl T.O9 j9 (j7 (b9 0))))) (L1 4 nd) (c6 (A4 (E5 (a3s hr) (v0 (b9 0) (b9 1)) (K5 T6)) (b8 (a5c (n:=5) nd rfl rfl c3x rfl (C2 (v0 (b9 0) (b9 1))) (fun _ _ _ _ _=>E1) (fun _ _ _ _ _=>v0 (b9 3) (b9 0))) (b8 (A1 6 nd (a0s z9 a7Q b8f b2B (b9 5) (j7 (j6 (b0q rfl) rfl T.c2r a3Q (j7 (b9 5)))))) (b8 (J8 (a0s z9 C8 C7 P3 (b9 3) (j7 (Q4 (A7 (b9 1) (b9 6)))))) (c6 (A1 1 nd (v0 (v0 (b9 0) (b9 1)) (b9 6))))))) p8))) (c6 (j8 (b9 3)))))
variable(b7N:E7 P w K mg base 2 d4s c0N (b3s K))
abbrev b1Y:List Str:=[d3M,d3P,d4l]
theorem c0r:u7 [d3M,d3P,d4l,d3S] b1Y (f6 b1Q):=by walk_at "sc"
include T b7K c1B b7N in
theorem c0Z(F:Fun K d4t d4t b1Q f fd):F7 P w K mg base CX0 3 f fd b1Y (a7m K):=fk F c0r fun _ _ _ _ _ _ hr nd=>b8 (A1 3 nd (p9 b7K hr (a5X (b9 0) (b9 1) (b9 2)))) (c6 (j8 (L4 X3 (b9 3) (p9 b7N hr (A7 (b9 1) (p9 c1B hr (A7 (b9 1) (v0 (b9 3) (c1K b8k c7)))))))))
variable(a8Z:E7 P w K mg base 3 d4t b1Y (a7m K))
abbrev c5z:List Str:=[d4b]
theorem c9B:u7 [d4b] c5z (f6 c4Q):=by walk_at "sc"
include T in
theorem d0P(F:Fun K d4u d4u c4Q f fd):F7 P w K mg base CX0 1 f fd c5z (b1F K):=fk F c9B fun _ _ _ _ _ _ hr nd=>c6 (j8 (Q6 (j6 V9 rfl T.O1 A3 (A7 (b9 0) (a0k rfl T.b6z a0m rfl))) (T4 (a6L (j6 V9 rfl T.O1 A3 (A7 (b9 0) (a0k rfl T.c6E b5k rfl)))))))
variable(b2T:E7 P w K mg base 1 d4u c5z (b1F K))
abbrev a8A:List Str:=[d4b]
theorem b6V:u7 [d4b,d4o] a8A (f6 a8y):=by walk_at "sc"
include T b2T in
theorem b7n(F:Fun K d4v d4v a8y f fd):F7 P w K mg base CX0 2 f fd a8A (a3x K):=fk F b6V fun _ _ _ _ _ _ hr nd=>b8 (A4 (M9 (E2 (j6 V9 rfl T.O1 A3 (A7 (b9 0) (a0k rfl T.a1t z4 rfl))))) (c6 (j8 M5)) p8) (b8 (G8 PassesOwn.never rfl (C2 (b9 0)) (L1 1 nd) (c6 (A4 (R1 (Y9 (M9 (E2 (j6 b6E rfl T.O1 A3 (A7 (b9 1) (a0k rfl T.b8e a6q rfl))))) (Y9 (E5 (a3s hr) (j6 b6D rfl T.O9 j9 (j7 (b9 1))) c7) (Y9 (M9 (E2 (p9 b2T hr (j7 (a7g a8O (b9 1) c7 (fun _ _=>rfl)))))) (Y6 (M9 (E2 (p9 b2T hr (j7 (a7g a8O (b9 1) c7 (fun _ _=>rfl))))))))))) (c6 (j8 M5)) p8))) (c6 (j8 M5)))
variable(a4N:E7 P w K mg base 2 d4v a8A (a3x K))
abbrev a9X:List Str:=[d4b,"_law_due"]
theorem b8J:u7 [d4b,"_law_due",d3X,"_law_other"] a9X (f6 a9P):=by walk_at "sc"
include T b2T in
theorem b9b(F:Fun K d4w d4w a9P f fd):F7 P w K mg base CX0 2 f fd a9X (a6g K):=fk F b8J fun _ _ _ _ _ _ hr nd=>b8 (A4 (R1 (Y9 (M9 (E2 (j6 V9 rfl T.O1 A3 (A7 (b9 0) (a0k rfl T.a1t z4 rfl))))) (Y6 (E5 (a3s hr) (j6 u4 rfl T.O9 j9 (j7 (b9 0))) (j6 u4 rfl T.O9 j9 (j7 (b9 1))))))) (c6 (j8 M5)) p8) (b8 (G8 PassesOwn.never rfl (b3I rfl T.c6C (A7 (b9 0) (b9 1))) (a3r rfl (M4 (L1 2 nd) (M4 (L1 3 nd) a2e))) (c6 (A4 (R1 (Y9 (M9 (E2 (p9 b2T hr (j7 (b9 2))))) (Y6 (E5 (a3s hr) (b9 2) (b9 3))))) (c6 (j8 M5)) p8))) (c6 (j8 M5)))
variable(a7O:E7 P w K mg base 2 d4w a9X (a6g K))
abbrev b4A:List Str:=[d3P,d3S]
theorem c2H:u7 [d3P,d3S] b4A (f6 b0K):=by walk_at "sc"
theorem b9A:L3 [d3P,d3S] (f6 b0K) (scF [ (".0",.local),(d4o,.local),(d4p,.globalImplicit),(d3P,.free)]) d4o := by walk_at "c0"
include T c1B in
theorem c2Z(F:Fun K d4x d4x b0K f fd):F7 P w K mg base CX0 2 f fd b4A (a8R K):=fk F c2H fun _ _ _ _ _ _ hr nd=>c6 (j8 (E6 b9A rfl (C2 (b9 1)) (fun _ _ _ _ _=>E1) (fun _ _ _ _ _=>p9 c1B hr (A7 (b9 1) (b9 0)))))
variable(b1e:E7 P w K mg base 2 d4x b4A (a8R K))
abbrev a9T:List Str:=["_law_row_here",d4y]
theorem b8F:u7 ["_law_row_here",d4y] a9T (f6 a9L):=by walk_at "sc"
include T in
theorem b8X(F:Fun K d4z d4z a9L f fd):F7 P w K mg base CX0 1 f fd a9T (a4J K):=fk F b8F fun _ _ _ _ _ _ hr nd=>c6 (j8 (Q6 (a5q (F3 hr) (v0 (b9 0) c7) G9) (T4 (a5q (F3 hr) (v0 (b9 0) c7) (b9 1)))))
variable(a5P:E7 P w K mg base 1 d4z a9T (a4J K))
abbrev b1X:List Str:=[d4i,d3P,d4y,d3S,d4A,d4B,d4C]
theorem c0q:u7 [d4i,d3P,d4y,d3S,d4A,d4B,d4C,d4D,d3N,d4b,d4E,d4F,d4o,d4m] b1X (f6 a4g):=by walk_at "sc"
theorem b7G:L3 [d4i,d3P,d4y,d3S,d4A,d4B,d4C,d4D,d3N,d4b,d4E,d4F,d4o,d4m] (f6 a4g) (scF [ (".0",.local),(d4o,.local),("int",.globalImplicit),(d4A,.free)]) d4o := by walk_at "c0"
theorem b7F:L3 [d4i,d3P,d4y,d3S,d4A,d4B,d4C,d4D,d3N,d4b,d4E,d4F,d4o,d4m] (f6 a4g) (scF [ (".0",.local),(d4o,.local),("int",.globalImplicit),(d4B,.free)]) d4o := by walk_at "c0"
theorem b7E:L3 [d4i,d3P,d4y,d3S,d4A,d4B,d4C,d4D,d3N,d4b,d4E,d4F,d4o,d4m] (f6 a4g) (scF [ (".0",.local),(d4m,.local),("int",.globalImplicit),(d4C,.free)]) d4m := by walk_at "c0"
theorem b7D:L3 [d4i,d3P,d4y,d3S,d4A,d4B,d4C,d4D,d3N,d4b,d4E,d4F,d4o,d4m] (f6 a4g) (scF [ (".0",.local),(d4m,.local),("int",.globalImplicit),(d4z,.globalImplicit),(d4y,.free),(d4i,.free)]) d4m := by walk_at "c0"
include T b1e a5P in
theorem c0Y(F:Fun K d4G d4G a4g f fd):F7 P w K mg base CX0 3 f fd b1X (a7l K):=fk F c0q fun _ _ _ _ _ _ hr nd=>b8 (A1 7 nd (p9 b1e hr (A7 (b9 1) (b9 3)))) (b8 (A1 8 nd (j6 (a5d rfl) rfl T.c2q a3P (j7 (E6 b7G rfl (C2 (b9 3)) (fun _ _ _ _ _=>E1) (fun _ _ _ _ _=>F9 a5Y rfl T.b6z a0m (j7 (a0A (b1v hr) (b9 0) (b9 5) rfl))))))) (b8 (A1 9 nd (L4 X3 (j6 (a5d rfl) rfl T.c2q a3P (j7 (E6 b7F rfl (C2 (b9 3)) (fun _ _ _ _ _=>E1) (fun _ _ _ _ _=>F9 a5Y rfl T.b6z a0m (j7 (a0A (b1v hr) (b9 0) (b9 6) rfl)))))) (j6 (a5d rfl) rfl T.c2q a3P (j7 (E6 b7E rfl (C2 (b9 7)) (fun _ _ _ _ _=>E1) (fun _ _ _ _ _=>F9 a5Y rfl T.b6z a0m (j7 (a0A a5r (b9 0) (b9 7) rfl)))))))) (b8 (A1 10 nd (j6 (a5d rfl) rfl T.c2q a3P (j7 (E6 b7D rfl (C2 (b9 7)) (fun _ _ _ _ _=>E1) (fun _ _ _ _ _=>F9 a5Y rfl T.b6z a0m (j7 (p9 a5P hr (A7 (v0 (b9 1) (b9 0)) (b9 3))))))))) (b8 (A4 (R1 (Y9 (E5 (a3s hr) (b9 9) (b9 8)) (Y6 (E5 a3t (b9 8) (b9 10))))) (c6 (j8 M5)) p8) (b8 (A1 11 nd M5) (b8 (G8 PassesOwn.never rfl (b3I rfl T.c6C (A7 (b9 3) (b9 7))) (a3r rfl (M4 (L1 12 nd) (M4 (L1 13 nd) a2e))) (b8 (A4 (a3b (b1v hr) (b9 12) (b9 4) rfl) (b8 (A4 (E2 (b9 11)) (c6 (j8 M5)) p8) (c6 (A1 11 nd M5))) p8) (c6 (A4 (E2 (p9 a5P hr (A7 (v0 (b9 0) (b9 13)) (b9 2)))) (c6 (A1 11 nd M5)) p8)))) (c6 (j8 (a6L (b9 11))))))))))
variable(a8Y:E7 P w K mg base 3 d4G b1X (a7l K))
abbrev a5H:List Str:=[d4H]
theorem b3b:u7 [d4H] a5H (f6 a5E):=by walk_at "sc"
include T in
theorem b3f(F:Fun K d4I "Brinks.steps" a5E f fd):F7 P w K mg base CX0 1 f fd a5H (a1x K):=fk F b3b fun _ _ _ _ _ _ hr nd=>c6 (j8 (F9 (a9u rfl) rfl T.a1t z4 (j7 (C3 (b9 0)))))
variable(a0r:W4 P w K mg base 1 d4I c.E3 a5H (a1x K))
abbrev a6A:List Str:=[d4H]
theorem b4f:u7 [d4H] a6A (f6 a6w):=by walk_at "sc"
include T in
theorem b4G(F:Fun K "puts" "Choice.puts" a6w f fd):F7 P w K mg base CX0 1 f fd a6A (a3A K):=fk F b4f fun _ _ _ _ _ _ hr nd=>c6 (j8 (F9 (a9u rfl) rfl T.a1t z4 (j7 (C3 (b9 0)))))
variable(a4z:W4 P w K mg base 1 "puts" c.C1 a6A (a3A K))
abbrev a5G:List Str:=[d4H]
theorem b3a:u7 [d4H] a5G (f6 a5D):=by walk_at "sc"
include T in
theorem b3e(F:Fun K "stays" "Choice.stays" a5D f fd):F7 P w K mg base CX0 1 f fd a5G (a2K K):=fk F b3a fun _ _ _ _ _ _ hr nd=>c6 (j8 (F9 (a2C rfl) rfl T.a1t z4 (j7 (C3 (b9 0)))))
variable(a3O:W4 P w K mg base 1 "stays" c.C1 a5G (a2K K))
abbrev a5F:List Str:=["things","at","least"]
theorem b2Z:u7 ["things","at","least"] a5F (f6 a5C):=by walk_at "sc"
include T in
theorem b3d(F:Fun K d4J d4J a5C f fd):F7 P w K mg base CX0 1 f fd a5F (a0B K):=fk F b2Z fun _ _ _ _ _ _ hr nd=>b8 (A4 (R1 (Y9 (M9 (E2 (j6 V9 rfl T.O1 A3 (A7 (b9 0) (a0k rfl T.a1t z4 rfl))))) (Y6 (E5 a0Y (j6 u4 rfl T.O9 j9 (j7 (b9 0))) (b9 2))))) (c6 a2Q) p8) (c6 (A4 (E5 a3t (j6 u4 rfl T.O9 j9 (j7 (b9 0))) (O8 T.d1G rfl)) (c6 a2Q) p8))
variable(a0q:E7 P w K mg base 1 d4J a5F (a0B K))
abbrev b1U:List Str:=[d4K]
theorem c0n:u7 [d4K] b1U (f6 a8U):=by walk_at "sc"
theorem b7C:L3 [d4K] (f6 a8U) (scF [ (".0",.local),("sign",.local),("LETTERS",.globalImplicit),("FIGURES",.globalImplicit)]) "sign" := by walk_at "c0"
include T in
theorem c0V(F:Fun K "is_name" "is_name" a8U f fd):F7 P w K mg base CX0 1 f fd b1U (a1k K):=fk F c0n fun _ _ _ _ _ _ hr nd=>b8 (A4 (R1 (Y9 (M9 (E2 (j6 V9 rfl T.O1 A3 (A7 (b9 0) (a0k rfl T.d2Y PyProof.Rows.boot_str rfl))))) (Y6 (M9 (b9W b0o b0o c7 (j6 u4 rfl T.O9 j9 (j7 (b9 0))) (O8 T.b5i rfl)))))) (c6 (j8 M5)) p8) (c6 (j8 (Q6 (a0A a5r (v0 (b9 0) c7) (O8 T.b6y rfl) rfl) (T4 (j6 (a8q rfl) rfl T.c6F a7e (j7 (E6 b7C rfl (c4h (b9 0)) (fun _ _ _ _ _=>E1) (fun _ _ _ _ _=>a0A a5r (b9 0) (L4 X3 (O8 T.b6y rfl) (O8 T.c3T rfl)) rfl))))))))
variable(a2o:E7 P w K mg base 1 "is_name" b1U (a1k K))
abbrev a9U:List Str:=[d4K]
theorem b8G:u7 [d4K] a9U (f6 a9M):=by walk_at "sc"
include T in
theorem b8Y(F:Fun K d4L d4L a9M f fd):F7 P w K mg base CX0 1 f fd a9U (a4K K):=fk F b8G fun _ _ _ _ _ _ hr nd=>c6 (j8 (Q6 (j6 V9 rfl T.O1 A3 (A7 (b9 0) (a0k rfl T.b6z a0m rfl))) (T4 (a6L (j6 V9 rfl T.O1 A3 (A7 (b9 0) (a0k rfl T.c6E b5k rfl)))))))
variable(a2Y:E7 P w K mg base 1 d4L a9U (a4K K))
abbrev a9V:List Str:=[d4K]
theorem b8H:u7 [d4K] a9V (f6 a9N):=by walk_at "sc"
include T a2Y in
theorem b8Z(F:Fun K d4M d4M a9N f fd):F7 P w K mg base CX0 2 f fd a9V (a6f K):=fk F b8H fun _ _ _ _ _ _ hr nd=>c6 (j8 (Q6 (p9 a2Y hr (j7 (b9 0))) (T4 (b3K b0o a0Y c7 (b9 0) (O8 T.c8M rfl)))))
variable(a7N:E7 P w K mg base 2 d4M a9V (a6f K))
abbrev a7y:List Str:=[d4K]
theorem b5t:u7 [d4K] a7y (f6 a7q):=by walk_at "sc"
include T a2o a7N in
theorem b5E(F:Fun K d4N d4N a7q f fd):F7 P w K mg base CX0 3 f fd a7y (a0J K):=fk F b5t fun _ _ _ _ _ _ hr nd=>c6 (j8 (b3l (p9 a2o hr (j7 (b9 0))) (T4 (p9 a7N hr (j7 (b9 0))))))
variable(a0c:E7 P w K mg base 3 d4N a7y (a0J K))
abbrev b1V:List Str:=[d4K]
theorem c0o:u7 [d4K] b1V (f6 b1O):=by walk_at "sc"
include T a0c in
theorem c0W(F:Fun K "is_deed" "is_deed" b1O f fd):F7 P w K mg base CX0 4 f fd b1V (a5B K c):=fk F c0o fun _ _ _ _ _ _ hr nd=>b8 (A4 (R1 (Y9 (M9 (E2 (j6 V9 rfl T.O1 A3 (A7 (b9 0) (a0k rfl T.b8e a6q rfl))))) (Y6 (E5 (a3s hr) (j6 u4 rfl T.O9 j9 (j7 (b9 0))) c7)))) (c6 (j8 M5)) p8) (c6 (j8 (Q6 (a0A c2v (v0 (b9 0) c7) (O8 T.b8d rfl) rfl) (Q6 (p9 a0c hr (j7 (v0 (b9 0) c7))) (T4 (p9 a0c hr (j7 (v0 (b9 0) c7))))))))
variable(a4p:E7 P w K mg base 4 "is_deed" b1V (a5B K c))
abbrev b4D:List Str:=[d4K]
theorem c2K:u7 [d4K,"kind","rest"] b4D (f6 b4l):=by walk_at "sc"
include T a2o a0c a4p in
theorem c3c(F:Fun K "is_row" "is_row" b4l f fd):F7 P w K mg base CX0 5 f fd b4D (a8T K c):=fk F c2K fun _ _ _ _ _ _ hr nd=>b8 (A4 (R1 (Y9 (M9 (E2 (j6 V9 rfl T.O1 A3 (A7 (b9 0) (a0k rfl T.b8e a6q rfl))))) (Y6 (E5 (F3 hr) (j6 u4 rfl T.O9 j9 (j7 (b9 0))) c7)))) (c6 (j8 M5)) p8) (b8 (A1 1 nd (v0 (b9 0) c7)) (b8 (A1 2 nd (a5p b6C (b9 0) (a6J c7) a6K)) (b8 (A4 (E5 (F3 hr) (b9 1) G9) (c6 (j8 (Q6 (a5q (F3 hr) (j6 u4 rfl T.O9 j9 (j7 (b9 2))) c7) (Q6 (p9 a2o hr (j7 (v0 (b9 2) c7))) (T4 (p9 a4p hr (j7 (v0 (b9 2) c7)))))))) p8) (b8 (A4 (E5 (F3 hr) (b9 1) G9) (c6 (j8 (Q6 (a5q (F3 hr) (j6 u4 rfl T.O9 j9 (j7 (b9 2))) c7) (Q6 (p9 a2o hr (j7 (v0 (b9 2) c7))) (T4 (p9 a0c hr (j7 (v0 (b9 2) c7)))))))) p8) (b8 (A4 (E5 (F3 hr) (b9 1) G9) (c6 (j8 (Q6 (a5q (F3 hr) (j6 u4 rfl T.O9 j9 (j7 (b9 2))) c7) (T4 (p9 a2o hr (j7 (v0 (b9 2) c7))))))) p8) (b8 (A4 (a3b a5r (b9 1) (Q4 (A7 G9 G9)) rfl) (c6 (j8 (Q6 (a5q (F3 hr) (j6 u4 rfl T.O9 j9 (j7 (b9 2))) c7) (T4 (p9 a0c hr (j7 (v0 (b9 2) c7))))))) p8) (c6 (j8 (Q6 (a5q (F3 hr) (b9 1) G9) (T4 (a5q (F3 hr) (j6 u4 rfl T.O9 j9 (j7 (b9 2))) c7)))))))))))
variable(b1g:E7 P w K mg base 5 "is_row" b4D (a8T K c))
abbrev a7B:List Str:=["rights"]
theorem b5w:u7 ["rights","k","right"] a7B (f6 a7t):=by walk_at "sc"
include T in
theorem b5H(F:Fun K d4O d4O a7t f fd):F7 P w K mg base CX0 1 f fd a7B (a1B K):=fk F b5w fun _ _ _ _ _ _ hr nd=>c6 (G8 PassesOwn.never rfl (a3c rfl T.a1i (j7 (b9 0))) (a3r rfl (M4 (L1 1 nd) (M4 (L1 2 nd) a2e))) (c6 (A4 (M9 (E2 (b9 2))) (c6 a2Q) p8)))
variable(Y1:E7 P w K mg base 1 d4O a7B (a1B K))
abbrev a9W:List Str:=[d4K,"many"]
theorem b8I:u7 [d4K,"many"] a9W (f6 a9O):=by walk_at "sc"
include T a2Y in
theorem b9a(F:Fun K d4P d4P a9O f fd):F7 P w K mg base CX0 2 f fd a9W (a4L K):=fk F b8I fun _ _ _ _ _ _ hr nd=>c6 (j8 (Q6 (p9 a2Y hr (j7 (b9 0))) (T4 (b3K b0o a0Y c7 (b9 0) (b9 1)))))
variable(a2Z:E7 P w K mg base 2 d4P a9W (a4L K))
abbrev a8B:List Str:=["row",d4Q,"many"]
theorem b6W:u7 ["row",d4Q,"many","wanted"] a8B (f6 a6k):=by walk_at "sc"
theorem b4X:L3 ["row",d4Q,"many","wanted"] (f6 a6k) (scF [ (".0",.local),(d4R,.local),(d4P,.globalImplicit),("many",.free)]) d4R := by walk_at "c0"
include T a2Z in
theorem b7o(F:Fun K d4S d4S a6k f fd):F7 P w K mg base CX0 3 f fd a8B (a5e K):=fk F b6W fun _ _ _ _ _ _ hr nd=>b8 (A4 (M9 (E2 (j6 V9 rfl T.O1 A3 (A7 (b9 1) (a0k rfl T.a1t z4 rfl))))) (c6 (j8 M5)) p8) (b8 (A1 3 nd (a4e (E5 (F3 hr) (v0 (b9 0) c7) G9) (Q4 (j7 c7)) (Q4 (A7 c7 c7)))) (c6 (j8 (Q6 (a0A a5r (j6 u4 rfl T.O9 j9 (j7 (b9 1))) (b9 3) rfl) (T4 (j6 (a8q rfl) rfl T.c6F a7e (j7 (E6 b4X rfl (C2 (b9 1)) (fun _ _ _ _ _=>E1) (fun _ _ _ _ _=>p9 a2Z hr (A7 (b9 0) (b9 3)))))))))))
variable(a6p:E7 P w K mg base 3 d4S a8B (a5e K))
abbrev a6y:List Str:=[d4T,d4U]
theorem b4d:u7 [d4T,d4U] a6y (f6 a4u):=by walk_at "sc"
theorem b2l:a4A [d4T,d4U] (f6 a4u) (scF [ (".0",.local),("row",.local),(d4Q,.local),(d4S,.globalImplicit),("len",.globalImplicit),(d4T,.free)]) "row" d4Q := by walk_at "c2"
include T Y1 a6p in
theorem b4E(F:Fun K d4V d4V a4u f fd):F7 P w K mg base CX0 4 f fd a6y (a3z K):=fk F b4d fun _ _ _ _ _ _ hr nd=>b8 (A4 (R1 (Y9 (M9 (E2 (j6 V9 rfl T.O1 A3 (A7 (b9 1) (a0k rfl T.a1t z4 rfl))))) (Y6 (E5 (a3s hr) (j6 u4 rfl T.O9 j9 (j7 (b9 1))) (j6 u4 rfl T.O9 j9 (j7 (b9 0))))))) (c6 a2Q) p8) (c6 (J8 (p9 Y1 hr (j7 (b3J b2l rfl (b3I rfl T.c6C (A7 (b9 0) (b9 1))) (fun _ _ _ _ _=>E1) (fun _ _ _ _ _=>p9 a6p hr (a5X (b9 0) (b9 1) (j6 u4 rfl T.O9 j9 (j7 (b9 2))))))))))
variable(a4y:E7 P w K mg base 4 d4V a6y (a3z K))
abbrev b1R:List Str:=["begins","leads"]
theorem c0k:u7 ["begins","leads","seen","waiting",d4R] b1R (f6 b1L):=by walk_at "sc"
include T in
theorem c0S(F:Fun K "reached" "reached" b1L f fd):F7 P w K mg base CX0 1 f fd b1R (a5z K):=fk F c0k fun _ _ _ _ _ _ hr nd=>b8 (A1 2 nd a7h) (b8 (A1 3 nd (F9 a1j rfl T.a1t z4 (j7 (b9 0)))) (b8 (a5o PassesOwn.never (E5 a3t (j6 u4 rfl T.O9 j9 (j7 (b9 3))) c7) (b8 (A1 4 nd (c4k z9 PySem.F.slot_list_pop PySem.F.type_list_pop c2w (b9 3))) (c6 (A4 (a1g hr (b9 4) (b9 2) rfl) (b8 (a2d hr (b9 2) (b9 4) M5) (c6 (J8 (a0s z9 b8a b7Z b0p (b9 3) (j7 (v0 (b9 1) (b9 4))))))) p8)))) (c6 (j8 (b9 2)))))
variable(a6X:E7 P w K mg base 1 "reached" b1R (a5z K))
abbrev b4x:List Str:=[d4U]
theorem c2E:u7 [d4U,"sources",d4R,d4Q,d4W] b4x (f6 b0J):=by walk_at "sc"
theorem b9z:L3 [d4U,"sources",d4R,d4Q,d4W] (f6 b0J) (scF [(".0",.local),(d4Q,.local)]) d4Q := by walk_at "c0"
include T in
theorem c2W(F:Fun K "turned" "turned" b0J f fd):F7 P w K mg base CX0 1 f fd b4x (a8Q K):=fk F c2E fun _ _ _ _ _ _ hr nd=>b8 (a5c (n:=1) nd rfl rfl b9z rfl (C2 (b9 0)) (fun _ _ _ _ _=>E1) (fun _ _ _ _ _=>K5 T6)) (b8 (G8 PassesOwn.never rfl (a3c rfl T.a1i (j7 (b9 0))) (a3r rfl (M4 (L1 2 nd) (M4 (L1 3 nd) a2e))) (c6 (G8 PassesOwn.never rfl (C2 (b9 3)) (L1 4 nd) (c6 (J8 (a0s z9 C8 C7 P3 (v0 (b9 1) (b9 4)) (j7 (b9 2)))))))) (c6 (j8 (b9 1))))
variable(b1c:E7 P w K mg base 1 "turned" b4x (a8Q K))
abbrev a9R:List Str:=[d4U]
theorem b8D:u7 [d4U] a9R (f6 a7o):=by walk_at "sc"
theorem b5O:a4A [d4U] (f6 a7o) (scF [ (".0",.local),(d4R,.local),(d4Q,.local),("len",.globalImplicit)]) d4R d4Q := by walk_at "c2"
include T in
theorem b8V(F:Fun K d4X d4X a7o f fd):F7 P w K mg base CX0 1 f fd a9R (a6e K):=fk F b8D fun _ _ _ _ _ _ hr nd=>c6 (j8 (b3J b5O rfl (a3c rfl T.a1i (j7 (b9 0))) (fun _ _ _ _ _=>a5l (E5 (F3 hr) (j6 u4 rfl T.O9 j9 (j7 (b9 1))) c7)) (fun _ _ _ _ _=>b9 0)))
variable(a7M:E7 P w K mg base 1 d4X a9R (a6e K))
abbrev a7z:List Str:=[d4U]
theorem b5u:u7 [d4U,"begun","ending",d4R] a7z (f6 a7s):=by walk_at "sc"
include T a6X b1c a7M in
theorem b5F(F:Fun K d4Y d4Y a7s f fd):F7 P w K mg base CX0 2 f fd a7z (a4s K):=fk F b5u fun _ _ _ _ _ _ hr nd=>b8 (A1 1 nd (p9 a6X hr (A7 (K5 (j7 c7)) (b9 0)))) (b8 (A1 2 nd (p9 a6X hr (A7 (p9 a7M hr (j7 (b9 0))) (p9 b1c hr (j7 (b9 0)))))) (c6 (G8 PassesOwn.never rfl (K0 rfl T.a0f (j7 (j6 u4 rfl T.O9 j9 (j7 (b9 0))))) (L1 3 nd) (c6 (A4 (R1 (Y9 (a1g hr (b9 3) (b9 1) rfl) (Y6 (a1g hr (b9 3) (b9 2) rfl)))) (c6 a2Q) p8)))))
variable(a5i:E7 P w K mg base 2 d4Y a7z (a4s K))
abbrev a9S:List Str:=[d4U]
theorem b8E:u7 [d4U,d4I,d4R,d4Q] a9S (f6 a7p):=by walk_at "sc"
theorem b5P:L3 [d4U,d4I,d4R,d4Q] (f6 a7p) (scF [ (".0",.local),("at",.local),(d4R,.free)]) "at" := by walk_at "c0"
include T in
theorem b8W(F:Fun K d4Z d4Z a7p f fd):F7 P w K mg base CX0 1 f fd a9S (a4I K c):=fk F b8E fun _ _ _ _ _ _ hr nd=>b8 (A1 1 nd (K5 (j7 (O8 T.a0e rfl)))) (b8 (G8 PassesOwn.never rfl (a3c rfl T.a1i (j7 (b9 0))) (a3r rfl (M4 (L1 2 nd) (M4 (L1 3 nd) a2e))) (c6 (J8 (a0s z9 b8a b7Z b0p (b9 1) (j7 (E6 b5P rfl (K0 rfl T.a0f (j7 (j6 u4 rfl T.O9 j9 (j7 (b9 3))))) (fun _ _ _ _ _=>E1) (fun _ _ _ _ _=>Q4 (A7 (b9 3) (b9 0))))))))) (c6 (j8 (b9 1))))
variable(a2X:E7 P w K mg base 1 d4Z a9S (a4I K c))
abbrev a4W:List Str:=[d4H,d5a]
theorem b1J:u7 [d4H,d5a] a4W (f6 a4S):=by walk_at "sc"
include T in
theorem b2b(F:Fun K "leads_to" "Plan.leads_to" a4S f fd):F7 P w K mg base CX0 1 f fd a4W (T8 K c):=fk F b1J fun _ _ _ _ _ _ hr nd=>b8 (A4 (a3b (b1w hr) (b9 1) (O8 T.a0e rfl) (a7F _)) (c6 (j8 c7)) p8) (c6 (j8 (v0 (v0 (C3 (b9 0)) (v0 (b9 1) c7)) (v0 (b9 1) c7))))
variable(J9:W4 P w K mg base 1 "leads_to" c.M8 a4W (T8 K c))
abbrev a8C:List Str:=[d4H,d4T,d4U]
theorem b6X:u7 [d4H,d4T,d4U,d5a] a8C (f6 a3e):=by walk_at "sc"
theorem b5a:L3 [d4H,d4T,d4U,d5a] (f6 a3e) (scF [ (".0",.local),("row",.local),("is_row",.globalImplicit)]) "row" := by walk_at "c0"
theorem b4Z:L3 [d4H,d4T,d4U,d5a] (f6 a3e) (scF [ (".0",.local),(d4Q,.local),("list",.globalImplicit)]) d4Q := by walk_at "c0"
theorem b4Y:L3 [d4H,d4T,d4U,d5a] (f6 a3e) (scF [(".0",.local),("row",.local)]) "row" := by walk_at "c0"
include T a0q b1g Y1 a4y a5i a2X J9 in
theorem b7p(F:Fun K d3J "Plan.__init__" a3e f fd):F7 P w K mg base CX0 6 f fd a8C (a5f K c):=fk F b6X fun _ _ _ _ _ _ hr nd=>b8 (J8 (p9 a0q hr (a5X (b9 1) c7 c7))) (b8 (J8 (p9 Y1 hr (j7 (E6 b5a rfl (C2 (b9 1)) (fun _ _ _ _ _=>E1) (fun _ _ _ _ _=>p9 b1g hr (j7 (b9 0))))))) (b8 (J8 (p9 a4y hr (A7 (b9 1) (b9 2)))) (b8 (J8 (p9 a5i hr (j7 (b9 2)))) (b8 (Q3 (b9 0) (F9 a1j rfl T.a1t z4 (j7 (b9 1)))) (b8 (Q3 (b9 0) (E6 b4Z rfl (C2 (b9 2)) (fun _ _ _ _ _=>E1) (fun _ _ _ _ _=>F9 a1j rfl T.a1t z4 (j7 (b9 0))))) (b8 (Q3 (b9 0) (E6 b4Y rfl (C2 (b9 1)) (fun _ _ _ _ _=>E1) (fun _ _ _ _ _=>K5 T6))) (c6 (G8 PassesOwn.never rfl (C2 (p9 a2X hr (j7 (C3 (b9 0))))) (L1 3 nd) (c6 (J8 (a0s z9 C8 C7 P3 (v0 (C3 (b9 0)) (Q5 J9 hr (by decide) (b9 0) (j7 (b9 3)))) (j7 (b9 3)))))))))))))
variable(b7q:a9D P w K mg base 6 "Plan" c.M8 a8C (a5f K c))
abbrev a7D:List Str:=[d4H]
theorem b5y:u7 [d4H] a7D (f6 a7u):=by walk_at "sc"
include T a2X in
theorem b5J(F:Fun K d4I "Plan.steps" a7u f fd):F7 P w K mg base CX0 2 f fd a7D (a1C K c):=fk F b5y fun _ _ _ _ _ _ hr nd=>c6 (j8 (p9 a2X hr (j7 (C3 (b9 0)))))
variable(Y2:W4 P w K mg base 2 d4I c.M8 a7D (a1C K c))
abbrev a2W:List Str:=[d4H,d4R]
theorem a9e:u7 [d4H,d4R] a2W (f6 a2T):=by walk_at "sc"
include T in
theorem a9i(F:Fun K "wanted_at" "Wanted.wanted_at" a2T f fd):F7 P w K mg base CX0 1 f fd a2W (Z2 K):=fk F a9e fun _ _ _ _ _ _ hr nd=>c6 (j8 (a8o hr (b9 1) (C3 (b9 0)) rfl))
variable(T1:W4 P w K mg base 1 "wanted_at" c.R0 a2W (Z2 K))
abbrev a2V:List Str:=[d4H,d5a]
theorem a9d:u7 [d4H,d5a] a2V (f6 a2S):=by walk_at "sc"
include T J9 T1 in
theorem a9h(F:Fun K "wanted_on" "Wanted.wanted_on" a2S f fd):F7 P w K mg base CX0 2 f fd a2V (a0V K c):=fk F a9d fun _ _ _ _ _ _ hr nd=>c6 (j8 (Q5 T1 hr (by decide) (b9 0) (j7 (Q5 J9 hr (by decide) (C3 (b9 0)) (j7 (b9 1))))))
variable(a1q:W4 P w K mg base 2 "wanted_on" c.R0 a2V (a0V K c))
abbrev b4z:List Str:=["row"]
theorem c2G:u7 ["row"] b4z (f6 b4j):=by walk_at "sc"
include T in
theorem c2Y(F:Fun K "set_by" "set_by" b4j f fd):F7 P w K mg base CX0 1 f fd b4z (b1E K):=fk F c2G fun _ _ _ _ _ _ hr nd=>c6 (j8 (a4e (a3b a5r (v0 (b9 0) c7) (Q4 (a5X G9 G9 G9)) rfl) (v0 (b9 0) c7) a8n))
variable(b1d:E7 P w K mg base 1 "set_by" b4z (b1E K))
abbrev b4y:List Str:=["row",d5b]
theorem c2F:u7 ["row",d5b] b4y (f6 b4i):=by walk_at "sc"
include T b1d in
theorem c2X(F:Fun K "spoils" "spoils" b4i f fd):F7 P w K mg base CX0 2 f fd b4y (a4f K):=fk F c2F fun _ _ _ _ _ _ hr nd=>c6 (j8 (a0A a5r (p9 b1d hr (j7 (b9 0))) (a5p b6C (b9 1) (a6J c7) a6K) rfl))
variable(a1b:E7 P w K mg base 2 "spoils" b4y (a4f K))
abbrev b1W:List Str:=["row"]
theorem c0p:u7 ["row"] b1W (f6 b1P):=by walk_at "sc"
include T in
theorem c0X(F:Fun K "deed_of" "deed_of" b1P f fd):F7 P w K mg base CX0 1 f fd b1W (a9G K):=fk F c0p fun _ _ _ _ _ _ hr nd=>c6 (j8 (a4e (E5 (F3 hr) (v0 (b9 0) c7) G9) (v0 (b9 0) c7) a8n))
variable(a8X:E7 P w K mg base 1 "deed_of" b1W (a9G K))
abbrev c0P:List Str:=["row",d5b]
theorem c7a:u7 ["row",d5b] c0P (f6 c0y):=by walk_at "sc"
include T a8X in
theorem c7Y(F:Fun K "does" "does" c0y f fd):F7 P w K mg base CX0 2 f fd c0P (a3y K):=fk F c7a fun _ _ _ _ _ _ hr nd=>c6 (j8 (a5q (F3 hr) (p9 a8X hr (j7 (b9 0))) (b9 1)))
variable(a0z:E7 P w K mg base 2 "does" c0P (a3y K))
abbrev a4m:List Str:=[d4H,d4R]
theorem b0H:u7 [d4H,d4R] a4m (f6 a4i):=by walk_at "sc"
include T in
theorem b0R(F:Fun K "ready_at" "Ready.ready_at" a4i f fd):F7 P w K mg base CX0 1 f fd a4m (a1I K):=fk F b0H fun _ _ _ _ _ _ hr nd=>c6 (j8 (a8o hr (b9 1) (C3 (b9 0)) rfl))
variable(a2q:W4 P w K mg base 1 "ready_at" c.Z0 a4m (a1I K))
abbrev a1X:List Str:=[d4H,d4R]
theorem a8b:u7 [d4H,d4R,"row"] a1X (f6 a1W):=by walk_at "sc"
include T a1b a0z a2q in
theorem a8e(F:Fun K d5c "Ready.ready_behind" a1W f fd):F7 P w K mg base CX0 3 f fd a1X (a0t K c):=fk F a8b fun _ _ _ _ _ _ hr nd=>b8 (A1 2 nd (v0 (C3 (C3 (b9 0))) (b9 1))) (b8 (A4 (E2 (p9 a1b hr (A7 (b9 2) (C3 (b9 0))))) (c6 (j8 M5)) p8) (c6 (j8 (b3l (p9 a0z hr (A7 (b9 2) (C3 (b9 0)))) (T4 (Q5 a2q hr (by decide) (b9 0) (j7 (b9 1))))))))
variable(a0F:W4 P w K mg base 3 d5c c.Z0 a1X (a0t K c))
abbrev a4l:List Str:=[d4H,d5a]
theorem b0G:u7 [d4H,d5a] a4l (f6 a4h):=by walk_at "sc"
include T a0F in
theorem b0Q(F:Fun K "ready_on" "Ready.ready_on" a4h f fd):F7 P w K mg base CX0 4 f fd a4l (a1H K c):=fk F b0G fun _ _ _ _ _ _ hr nd=>c6 (j8 (Q6 (a0A (a8N hr) (b9 1) (O8 T.a0e rfl) (a7F _)) (T4 (Q5 a0F hr (by decide) (b9 0) (j7 (v0 (b9 1) c7))))))
variable(a2p:W4 P w K mg base 4 "ready_on" c.Z0 a4l (a1H K c))
abbrev a0N:List Str:=[d4H,d5a]
theorem a5S:u7 [d4H,d5a] a0N (f6 a0M):=by walk_at "sc"
include T a1b in
theorem a5U(F:Fun K d5d "Brinks.is_spoilt_ahead" a0M f fd):F7 P w K mg base CX0 3 f fd a0N (P6 K):=fk F a5S fun _ _ _ _ _ _ hr nd=>c6 (j8 (p9 a1b hr (A7 (v0 (C3 (C3 (b9 0))) (v0 (b9 1) c7)) (C3 (b9 0)))))
variable(Y3:W4 P w K mg base 3 d5d c.E3 a0N (P6 K))
abbrev a1o:List Str:=[d4H,d4R]
theorem a6R:u7 [d4H,d4R,d4Q] a1o (f6 a0a):=by walk_at "sc"
theorem a5V:L3 [d4H,d4R,d4Q] (f6 a0a) (scF [ (".0",.local),(d4W,.local),(d4H,.free)]) d4W := by walk_at "c0"
include T T1 in
theorem a6V(F:Fun K d5e "Wanted.wanted_behind" a0a f fd):F7 P w K mg base CX0 2 f fd a1o (T7 K c):=fk F a6R fun _ _ _ _ _ _ hr nd=>b8 (A1 2 nd (v0 (C3 (C3 (b9 0))) (b9 1))) (c6 (j8 (Q6 (a5q a3t (j6 u4 rfl T.O9 j9 (j7 (b9 2))) c7) (T4 (j6 (a8q rfl) rfl T.c6F a7e (j7 (E6 a5V rfl (C2 (b9 2)) (fun _ _ _ _ _=>E1) (fun _ _ _ _ _=>Q5 T1 hr (by decide) (b9 1) (j7 (b9 0))))))))))
variable(a0d:W4 P w K mg base 2 d5e c.R0 a1o (T7 K c))
abbrev a3L:List Str:=[d4H,d5a]
theorem a9K:u7 [d4H,d5a] a3L (f6 a3F):=by walk_at "sc"
include T a1q a2p Y3 a0d in
theorem b0b(F:Fun K "is_brink" "Brinks.is_brink" a3F f fd):F7 P w K mg base CX0 5 f fd a3L (a1m K c):=fk F a9K fun _ _ _ _ _ _ hr nd=>b8 (A4 (R1 (Y9 (M9 (E2 (Q5 a1q hr (by decide) (C3 (b9 0)) (j7 (b9 1))))) (Y6 (E2 (Q5 a2p hr (by decide) (C3 (b9 0)) (j7 (b9 1))))))) (c6 (j8 M5)) p8) (c6 (j8 (b3l (a0A (b1w hr) (b9 1) (O8 T.a0e rfl) (a7F _)) (b3l (Q5 Y3 hr (by decide) (b9 0) (j7 (b9 1))) (T4 (a6L (Q5 a0d hr (by decide) (C3 (b9 0)) (j7 (v0 (b9 1) c7)))))))))
variable(a1L:W4 P w K mg base 5 "is_brink" c.E3 a3L (a1m K c))
abbrev b1S:List Str:=[d5f,d4R,"come_by",d5g]
theorem c0l:u7 [d5f,d4R,"come_by",d5g,"at",d4W] b1S (f6 b1M):=by walk_at "sc"
include T in
theorem c0T(F:Fun K "pass_on" "pass_on" b1M f fd):F7 P w K mg base CX0 1 f fd b1S (a5A K):=fk F c0l fun _ _ _ _ _ _ hr nd=>c6 (G8 PassesOwn.never rfl (a3c rfl T.a1i (j7 (v0 (C3 (b9 0)) (b9 1)))) (a3r rfl (M4 (L1 4 nd) (M4 (L1 5 nd) a2e))) (c6 (A4 (a1g hr (b9 5) (b9 2) rfl) (b8 (a2d hr (b9 2) (b9 5) (Q4 (A7 (b9 1) (b9 4)))) (c6 (J8 (a0s z9 C8 C7 P3 (b9 3) (j7 (b9 5)))))) p8)))
variable(a6Y:E7 P w K mg base 1 "pass_on" b1S (a5A K))
abbrev a4V:List Str:=[d5f,"made","broken"]
theorem b1I:u7 [d5f,"made","broken","come_by",d5g,d4R,"done"] a4V (f6 a4R):=by walk_at "sc"
include T a6Y in
theorem b2a(F:Fun K d5h d5h a4R f fd):F7 P w K mg base CX0 2 f fd a4V (a2g K c):=fk F b1I fun _ _ _ _ _ _ hr nd=>b8 (A1 3 nd (b5V (b3H c7 (O8 T.a0e rfl) b5U))) (b8 (A1 4 nd (K5 (j7 c7))) (b8 (G8 PassesOwn.never rfl (K0 rfl T.a0f (j7 (j6 u4 rfl T.O9 j9 (j7 (C3 (b9 0)))))) (L1 5 nd) (c6 (A4 (E2 (v0 (b9 2) (b9 5))) (c6 (J8 (p9 a6Y hr (b8m (b9 0) (b9 5) (b9 3) (b9 4))))) p8))) (b8 (A1 6 nd c7) (b8 (a5o PassesOwn.never (E5 a0Y (b9 6) (j6 u4 rfl T.O9 j9 (j7 (b9 4)))) (b8 (A1 5 nd (v0 (b9 4) (b9 6))) (b8 (b0m (n:=6) nd rfl (Or.inl rfl) c7 a8p) (c6 (A4 (M9 (E2 (v0 (b9 1) (b9 5)))) (c6 (J8 (p9 a6Y hr (b8m (b9 0) (b9 5) (b9 3) (b9 4))))) p8))))) (c6 (j8 (b9 3)))))))
variable(a2M:E7 P w K mg base 2 d5h a4V (a2g K c))
abbrev a7C:List Str:=[d4H,d5f,d5b]
theorem b5x:u7 [d4H,d5f,d5b,"made"] a7C (f6 a3B):=by walk_at "sc"
theorem b3k:L3 [d4H,d5f,d5b,"made"] (f6 a3B) (scF [ (".0",.local),("row",.local),("does",.globalImplicit),(d5b,.free)]) "row" := by walk_at "c0"
theorem b3j:L3 [d4H,d5f,d5b,"made"] (f6 a3B) (scF [ (".0",.local),("row",.local),("spoils",.globalImplicit),(d5b,.free)]) "row" := by walk_at "c0"
include T a1b a0z a2M in
theorem b5I(F:Fun K d3J "Ready.__init__" a3B f fd):F7 P w K mg base CX0 3 f fd a7C (a2E K c):=fk F b5x fun _ _ _ _ _ _ hr nd=>b8 (Q3 (b9 0) (b9 1)) (b8 (Q3 (b9 0) (b9 2)) (b8 (a5c (n:=3) nd rfl rfl b3k rfl (C2 (C3 (b9 1))) (fun _ _ _ _ _=>E1) (fun _ _ _ _ _=>p9 a0z hr (A7 (b9 0) (b9 3)))) (c6 (Q3 (b9 0) (p9 a2M hr (a5X (b9 1) (b9 3) (E6 b3j rfl (C2 (C3 (b9 1))) (fun _ _ _ _ _=>E1) (fun _ _ _ _ _=>p9 a1b hr (A7 (b9 0) (b9 3))))))))))
variable(b3x:a9D P w K mg base 3 "Ready" c.Z0 a7C (a2E K c))
abbrev a4U:List Str:=[d5f,d5b]
theorem b1H:u7 [d5f,d5b,"ends",d4R,"row"] a4U (f6 a4Q):=by walk_at "sc"
include T a1b a0z in
theorem b1Z(F:Fun K d5i d5i a4Q f fd):F7 P w K mg base CX0 3 f fd a4U (a2f K):=fk F b1H fun _ _ _ _ _ _ hr nd=>b8 (A1 2 nd (K5 T6)) (b8 (G8 PassesOwn.never rfl (a3c rfl T.a1i (j7 (C3 (b9 0)))) (a3r rfl (M4 (L1 3 nd) (M4 (L1 4 nd) a2e))) (c6 (A4 (R1 (a2B (M9 (E2 (p9 a0z hr (A7 (b9 4) (b9 1))))) (a3a (R1 (Y9 (E2 (p9 a1b hr (A7 (b9 4) (b9 1)))) (Y6 (E5 (F3 hr) (j6 u4 rfl T.O9 j9 (j7 (v0 (C3 (b9 0)) (b9 3)))) c7))))))) (c6 (J8 (a0s z9 C8 C7 P3 (b9 2) (j7 (b9 3))))) p8))) (c6 (j8 (b9 2))))
variable(a2L:E7 P w K mg base 3 d5i a4U (a2f K))
abbrev a3I:List Str:=[d4H,d4R]
theorem a9H:u7 [d4H,d4R] a3I (f6 a3C):=by walk_at "sc"
include T in
theorem a9Y(F:Fun K "steps_into" "Plan.steps_into" a3C f fd):F7 P w K mg base CX0 1 f fd a3I (a0o K):=fk F a9H fun _ _ _ _ _ _ hr nd=>c6 (j8 (F9 a1j rfl T.a1t z4 (j7 (v0 (C3 (b9 0)) (b9 1)))))
variable(V2:W4 P w K mg base 1 "steps_into" c.M8 a3I (a0o K))
abbrev a4k:List Str:=[d5f,d5b]
theorem b0F:u7 [d5f,d5b,d5g,"goes_by","done","here",d5a] a4k (f6 a2j):=by walk_at "sc"
theorem a9j:L3 [d5f,d5b,d5g,"goes_by","done","here",d5a] (f6 a2j) (scF [(".0",.local),(d4R,.local)]) d4R := by walk_at "c0"
include T a0z a2L V2 in
theorem b0P(F:Fun K d5j d5j a2j f fd):F7 P w K mg base CX0 4 f fd a4k (a1G K c):=fk F b0F fun _ _ _ _ _ _ hr nd=>b8 (A1 2 nd (p9 a2L hr (A7 (b9 0) (b9 1)))) (b8 (A1 3 nd (F9 (b5p rfl) rfl T.c1I a6H (j7 (E6 a9j rfl (C2 (b9 2)) (fun _ _ _ _ _=>E1) (fun _ _ _ _ _=>Q4 (A7 (b9 0) a8n)))))) (b8 (A1 4 nd c7) (b8 (a5o PassesOwn.never (E5 a0Y (b9 4) (j6 u4 rfl T.O9 j9 (j7 (b9 2)))) (b8 (A1 5 nd (v0 (b9 2) (b9 4))) (b8 (b0m (n:=4) nd rfl (Or.inl rfl) c7 a8p) (c6 (G8 PassesOwn.never rfl (C2 (Q5 V2 hr (by decide) (b9 0) (j7 (b9 5)))) (L1 6 nd) (c6 (A4 (R1 (a2B (a3b (a8N hr) (b9 6) (O8 T.a0e rfl) (a7F _)) (a2B (a1g hr (v0 (b9 6) c7) (b9 3) rfl) (a3a (M9 (E2 (p9 a0z hr (A7 (v0 (C3 (b9 0)) (v0 (b9 6) c7)) (b9 1))))))))) (b8 (a2d hr (b9 3) (v0 (b9 6) c7) (b9 6)) (c6 (J8 (a0s z9 C8 C7 P3 (b9 2) (j7 (v0 (b9 6) c7)))))) p8))))))) (c6 (j8 (b9 3))))))
variable(a2n:E7 P w K mg base 4 d5j a4k (a1G K c))
abbrev a6z:List Str:=[d4H,d5f,d5b]
theorem b4e:u7 [d4H,d5f,d5b] a6z (f6 a6v):=by walk_at "sc"
include T a2n in
theorem b4F(F:Fun K d3J "Wanted.__init__" a6v f fd):F7 P w K mg base CX0 5 f fd a6z (a1T K c):=fk F b4e fun _ _ _ _ _ _ hr nd=>b8 (Q3 (b9 0) (b9 1)) (c6 (Q3 (b9 0) (p9 a2n hr (A7 (b9 1) (b9 2)))))
variable(b0V:a9D P w K mg base 5 "Wanted" c.R0 a6z (a1T K c))
abbrev a6C:List Str:=[d4H,d5f,d5b]
theorem b4h:u7 [d4H,d5f,d5b] a6C (f6 a4v):=by walk_at "sc"
theorem b2q:L3 [d4H,d5f,d5b] (f6 a4v) (scF [ (".0",.local),(d5a,.local),(d4H,.free)]) d5a := by walk_at "c0"
include T Y2 a1L b3x b0V in
theorem b4I(F:Fun K d3J "Brinks.__init__" a4v f fd):F7 P w K mg base CX0 7 f fd a6C (a1a K c):=fk F b4h fun _ _ _ _ _ _ hr nd=>b8 (Q3 (b9 0) (b9 1)) (b8 (Q3 (b9 0) (b9 2)) (b8 (Q3 (b9 0) (b1t b3x hr (A7 (b9 1) (b9 2)))) (b8 (Q3 (b9 0) (b1t b0V hr (A7 (b9 1) (b9 2)))) (c6 (Q3 (b9 0) (F9 (b5n rfl hr) rfl T.c1I a6H (j7 (E6 b2q rfl (C2 (a4d Y2 hr (by decide) (b9 1))) (fun _ _ _ _ _=>a5l (E2 (Q5 a1L hr (by decide) (b9 1) (j7 (b9 0))))) (fun _ _ _ _ _=>Q4 (A7 (b9 0) M5))))))))))
variable(a5J:a9D P w K mg base 7 "Brinks" c.E3 a6C (a1a K c))
abbrev a7A:List Str:=[d5f,d5k,"at"]
theorem b5v:u7 [d5f,d5k,"at"] a7A (f6 a5g):=by walk_at "sc"
theorem b3i:L3 [d5f,d5k,"at"] (f6 a5g) (scF [ (".0",.local),(d4R,.local),(d4P,.globalImplicit),("len",.globalImplicit),(d5f,.free)]) d4R := by walk_at "c0"
include T a0q Y1 a2Z in
theorem b5G(F:Fun K d5l d5l a5g f fd):F7 P w K mg base CX0 3 f fd a7A (a4t K):=fk F b5v fun _ _ _ _ _ _ hr nd=>c6 (A4 (E5 b8n (b9 1) a8n) (b8 (J8 (p9 a0q hr (a5X (b9 1) (b9 2) c7))) (c6 (J8 (p9 Y1 hr (j7 (E6 b3i rfl (C2 (b9 1)) (fun _ _ _ _ _=>E1) (fun _ _ _ _ _=>p9 a2Z hr (A7 (b9 0) (j6 u4 rfl T.O9 j9 (j7 (C3 (b9 1)))))))))))) p8)
variable(a5j:E7 P w K mg base 3 d5l a7A (a4t K))
abbrev b4C:List Str:=["things"]
theorem c2J:u7 ["things"] b4C (f6 b0L):=by walk_at "sc"
theorem b9F:L3 ["things"] (f6 b0L) (scF [(".0",.local),(d4K,.local)]) d4K := by walk_at "c0"
include T in
theorem c3b(F:Fun K "marked" "marked" b0L f fd):F7 P w K mg base CX0 1 f fd b4C (a2h K):=fk F c2J fun _ _ _ _ _ _ hr nd=>c6 (j8 (F9 (b5o rfl hr) rfl T.c1I a6H (j7 (E6 b9F rfl (C2 (b9 0)) (fun _ _ _ _ _=>E1) (fun _ _ _ _ _=>Q4 (A7 (b9 0) M5))))))
variable(a2H:E7 P w K mg base 1 "marked" b4C (a2h K))
abbrev a2U:List Str:=[d5f,d5b,"brinks",d5k]
theorem a9c:u7 [d5f,d5b,"brinks",d5k,"fallen",d5a,d5g,"done",d4R,"at",d4W] a2U (f6 a2R):=by walk_at "sc"
include T J9 Y2 a0z a2H in
theorem a9g(F:Fun K d5m d5m a2R f fd):F7 P w K mg base CX0 3 f fd a2U (a0U K c):=fk F a9c fun _ _ _ _ _ _ hr nd=>b8 (A1 4 nd (p9 a2H hr (j7 (b9 3)))) (b8 (G8 PassesOwn.never rfl (C2 (a4d Y2 hr (by decide) (b9 0))) (L1 5 nd) (c6 (A4 (R1 (a2B (a8l hr (b9 5) (b9 2) rfl) (a3a (R1 (Y9 (a3b (b1w hr) (b9 5) (O8 T.a0e rfl) (a7F _)) (Y6 (E2 (p9 a0z hr (A7 (v0 (C3 (b9 0)) (v0 (b9 5) c7)) (b9 1)))))))))) (c6 (a2d hr (b9 4) (Q5 J9 hr (by decide) (b9 0) (j7 (b9 5))) M5)) p8))) (b8 (A1 6 nd (F9 (a2C rfl) rfl T.a1t z4 (j7 (b9 4)))) (b8 (A1 7 nd c7) (b8 (a5o PassesOwn.never (E5 a0Y (b9 7) (j6 u4 rfl T.O9 j9 (j7 (b9 6)))) (b8 (A1 8 nd (v0 (b9 6) (b9 7))) (b8 (b0m (n:=7) nd rfl (Or.inl rfl) c7 a8p) (c6 (G8 PassesOwn.never rfl (a3c rfl T.a1i (j7 (v0 (C3 (b9 0)) (b9 8)))) (a3r rfl (M4 (L1 9 nd) (M4 (L1 10 nd) a2e))) (c6 (A4 (R1 (a2B (a8l hr (Q4 (A7 (b9 8) (b9 9))) (b9 2) rfl) (a3a (a1g hr (b9 10) (b9 4) rfl)))) (b8 (a2d hr (b9 4) (b9 10) M5) (c6 (J8 (a0s z9 C8 C7 P3 (b9 6) (j7 (b9 10)))))) p8))))))) (c6 (j8 (b9 4)))))))
variable(a1p:E7 P w K mg base 3 d5m a2U (a0U K c))
abbrev a1F:List Str:=[d5f,"puts","outs","stays"]
theorem a7n:u7 [d5f,"puts","outs","stays","found",d5g,"done","here",d5a,d4R] a1F (f6 a1E):=by walk_at "sc"
include T V2 in
theorem a7E(F:Fun K d5n d5n a1E f fd):F7 P w K mg base CX0 2 f fd a1F (Z7 K c):=fk F a7n fun _ _ _ _ _ _ hr nd=>b8 (A1 4 nd a7h) (b8 (A1 5 nd (F9 (a2C rfl) rfl T.a1t z4 (j7 (b9 2)))) (b8 (A1 6 nd c7) (b8 (a5o PassesOwn.never (E5 a0Y (b9 6) (j6 u4 rfl T.O9 j9 (j7 (b9 5)))) (b8 (A1 7 nd (v0 (b9 5) (b9 6))) (b8 (b0m (n:=6) nd rfl (Or.inl rfl) c7 a8p) (c6 (G8 PassesOwn.never rfl (C2 (Q5 V2 hr (by decide) (b9 0) (j7 (b9 7)))) (L1 8 nd) (b8 (A1 9 nd (a7g a8O (b9 8) c7 (fun _ _=>rfl))) (c6 (A4 (R1 (a2B (a3b (a8N hr) (b9 8) (O8 T.a0e rfl) (a7F _)) (a2B (a8l hr (b9 8) (b9 1) rfl) (a3a (a1g hr (b9 9) (b9 4) rfl))))) (b8 (a2d hr (b9 4) (b9 9) M5) (c6 (A4 (a1g hr (b9 9) (b9 3) rfl) (c6 (J8 (a0s z9 C8 C7 P3 (b9 5) (j7 (b9 9))))) p8))) p8)))))))) (c6 (j8 (b9 4))))))
variable(a0u:E7 P w K mg base 2 d5n a1F (Z7 K c))
abbrev a3K:List Str:=[d4H,d4R]
theorem a9J:u7 [d4H,d4R] a3K (f6 a3E):=by walk_at "sc"
include T in
theorem b0a(F:Fun K "waits_at" "Choice.waits_at" a3E f fd):F7 P w K mg base CX0 1 f fd a3K (S9 K):=fk F a9J fun _ _ _ _ _ _ hr nd=>c6 (j8 (a8o hr (b9 1) (C3 (b9 0)) rfl))
variable(K7:W4 P w K mg base 1 "waits_at" c.C1 a3K (S9 K))
abbrev a3J:List Str:=[d4H,d5a]
theorem a9I:u7 [d4H,d5a] a3J (f6 a3D):=by walk_at "sc"
include T a0z K7 in
theorem a9Z(F:Fun K "waits_on" "Choice.waits_on" a3D f fd):F7 P w K mg base CX0 3 f fd a3J (a1l K c):=fk F a9I fun _ _ _ _ _ _ hr nd=>b8 (A4 (c4f hr (b9 1) (C3 (b9 0)) rfl) (c6 (j8 M5)) p8) (c6 (j8 (Q6 (a0A (a8N hr) (b9 1) (O8 T.a0e rfl) (a7F _)) (Q6 (Q5 K7 hr (by decide) (b9 0) (j7 (v0 (b9 1) c7))) (T4 (a6L (p9 a0z hr (A7 (v0 (C3 (C3 (b9 0))) (v0 (b9 1) c7)) (C3 (b9 0))))))))))
variable(a1K:W4 P w K mg base 3 "waits_on" c.C1 a3J (a1l K c))
abbrev a4X:List Str:=[d4H,d5a]
theorem b1K:u7 [d4H,d5a] a4X (f6 a4T):=by walk_at "sc"
include T J9 K7 a1K in
theorem b2c(F:Fun K "is_put" "Choice.is_put" a4T f fd):F7 P w K mg base CX0 4 f fd a4X (a2i K c):=fk F b1K fun _ _ _ _ _ _ hr nd=>c6 (j8 (Q6 (Q5 a1K hr (by decide) (b9 0) (j7 (b9 1))) (T4 (a6L (Q5 K7 hr (by decide) (b9 0) (j7 (Q5 J9 hr (by decide) (C3 (b9 0)) (j7 (b9 1)))))))))
variable(a2N:W4 P w K mg base 4 "is_put" c.C1 a4X (a2i K c))
abbrev a6B:List Str:=[d4H,d5f,d5b,d5k]
theorem b4g:u7 [d4H,d5f,d5b,d5k,"doing"] a6B (f6 a0L):=by walk_at "sc"
theorem b2p:a4A [d4H,d5f,d5b,d5k,"doing"] (f6 a0L) (scF [ (".0",.local),(d4R,.local),("row",.local),("does",.globalImplicit),(d5b,.free)]) d4R "row" := by walk_at "c2"
theorem b2o:L3 [d4H,d5f,d5b,d5k,"doing"] (f6 a0L) (scF [ (".0",.local),(d5a,.local),(d4H,.free)]) d5a := by walk_at "c0"
theorem b2n:L3 [d4H,d5f,d5b,d5k,"doing"] (f6 a0L) (scF [ (".0",.local),(d4R,.local),(d4H,.free)]) d4R := by walk_at "c0"
theorem b2m:L3 [d4H,d5f,d5b,d5k,"doing"] (f6 a0L) (scF [ (".0",.local),(d4R,.local),(d4H,.free)]) d4R := by walk_at "c0"
include T a0r a4p Y2 a0z a5J a5j a2H a1p a0u K7 a2N in
theorem b4H(F:b9O K d3J "Choice.__init__" a0L D f fd):F7 P w K mg base CX0 9 f fd a6B (a1U K c):=fkD F b4g fun _ _ _ _ _ _ hr nd=>b8 (A4 (M9 (E2 (j6 b6F rfl T.O1 A3 (A7 (b9 1) (O8 T.d1F rfl))))) (c6 a2Q) p8) (b8 (A4 (M9 (E2 (p9 a4p hr (j7 (b9 2))))) (c6 a2Q) p8) (b8 (J8 (p9 a5j hr (a5X (b9 1) (b9 3) c7))) (b8 (Q3 (b9 0) (b9 1)) (b8 (Q3 (b9 0) (b9 2)) (b8 (Q3 (b9 0) (p9 a2H hr (j7 (a4d a0r hr (by decide) (b1t a5J hr (A7 (b9 1) (b9 2))))))) (b8 (Q3 (b9 0) (p9 a1p hr (b8m (b9 1) (b9 2) (C3 (b9 0)) (a4e (E5 c4m (b9 3) a8n) (K5 T6) (b9 3))))) (b8 (b5m (n:=4) nd rfl rfl b2p rfl (a3c rfl T.a1i (j7 (C3 (b9 1)))) (fun _ _ _ _ _=>a5l (E2 (p9 a0z hr (A7 (b9 1) (b9 4))))) (fun _ _ _ _ _=>b9 0)) (b8 (Q3 (b9 0) (p9 a2H hr (j7 (E6 b2o rfl (C2 (a4d Y2 hr (by decide) (b9 1))) (fun _ _ _ _ _=>a5l (E2 (Q5 a2N hr (by decide) (b9 1) (j7 (b9 0))))) (fun _ _ _ _ _=>b9 0))))) (b8 (Q3 (b9 0) (p9 a2H hr (j7 (E6 b2n rfl (C2 (b9 4)) (fun _ _ _ _ _=>a5l (M9 (E2 (Q5 K7 hr (by decide) (b9 1) (j7 (b9 0)))))) (fun _ _ _ _ _=>b9 0))))) (b8 (Q3 (b9 0) (p9 a2H hr (j7 (E6 b2m rfl (C2 (b9 4)) (fun _ _ _ _ _=>a5l (E2 (Q5 K7 hr (by decide) (b9 1) (j7 (b9 0))))) (fun _ _ _ _ _=>b9 0))))) (c6 (Q3 (b9 0) (p9 a0u hr (b8m (b9 1) (C3 (b9 0)) (C3 (b9 0)) (C3 (b9 0))))))))))))))))
variable(b0W:a9D P w K mg base 9 "Choice" c.C1 a6B (a1U K c))
abbrev c9h:List Str:=[d3K]
theorem c4L:u7 [d3K,d3M,d4i,d3P,d4g,d5o,d5p,"_law_ways",d4y,d4A,"_law_choice",d4B,d4C,d3S] c9h (f6 b6f):=by walk_at "sc"
theorem c6k:L3 [d3K,d3M,d4i,d3P,d4g,d5o,d5p,"_law_ways",d4y,d4A,"_law_choice",d4B,d4C,d3S] (f6 b6f) (scF [ (".0",.local),(d3R,.local),("list",.globalImplicit)]) d3R := by walk_at "c0"
theorem c6j:L3 [d3K,d3M,d4i,d3P,d4g,d5o,d5p,"_law_ways",d4y,d4A,"_law_choice",d4B,d4C,d3S] (f6 b6f) (scF [ (".0",.local),(d3V,.local),(d4t,.globalImplicit),(d3M,.free),(d3P,.free)]) d3V := by walk_at "c0"
include T c2i F6 b7L b7O a8Z a4N a7O a8Y a0r a4z a3O b7q a5J b0W in
theorem d0O(ck:a0R K c)(F:Fun K "law" "law" b6f f fd):F7 P w K mg base CX0 11 f fd c9h (b3Z K):=by
 refine b8o F c4L (fun vs H Q E h=>h.1) (fun cdv A outer s H vs Q E hr h=>⟨c4C K c,?_,h.2 c ck⟩)
 have nd:=c4L.nd
 exact b8 (A1 1 nd (p9 c2i hr (j7 (b9 0)))) (b8 (a8m (p9 b7L hr (j7 (b9 1))) (a3r rfl (M4 (L1 2 nd) (M4 (L1 3 nd) (M4 (L1 4 nd) a2e))))) (b8 (A1 5 nd (p9 b7O hr (A7 (b9 1) (j6 u4 rfl T.O9 j9 (j7 (b9 2)))))) (b8 (A4 (E5 (F3 hr) (p9 F6 hr (A7 (b9 1) c7)) c7) (c6 (A1 5 nd (K5 T6))) p8) (b8 (A1 6 nd (b1t b7q hr (A7 (F9 a1j rfl T.a1t z4 (j7 (b9 2))) (E6 c6k rfl (C2 (b9 3)) (fun _ _ _ _ _=>E1) (fun _ _ _ _ _=>F9 a1j rfl T.a1t z4 (j7 (b9 0))))))) (b8 (a5c (n:=7) nd rfl rfl c6j rfl (K0 rfl T.a0f (j7 c7)) (fun _ _ _ _ _=>E1) (fun _ _ _ _ _=>p9 a8Z hr (a5X (b9 2) (b9 4) c7))) (b8 (G8 PassesOwn.never rfl (C2 (b9 4)) (L1 8 nd) (b8 (A1 9 nd (a4d a0r hr (by decide) (b1t a5J hr (A7 (b9 6) (b9 8))))) (b8 (A1 10 nd (b1t b0W hr (a5X (b9 6) (b9 8) (F9 a1j rfl T.a1t z4 (j7 (b9 5)))))) (b8 (A1 11 nd (a4d a4z hr (by decide) (b9 10))) (b8 (A1 12 nd (a4d a3O hr (by decide) (b9 10))) (b8 (A4 (R1 (Y9 (M9 (E2 (p9 a4N hr (j7 (b9 9))))) (Y9 (M9 (E2 (p9 a4N hr (j7 (b9 11))))) (Y6 (M9 (E2 (p9 a7O hr (A7 (b9 12) (b9 12))))))))) (c6 (j8 M5)) p8) (c6 (G8 PassesOwn.never rfl (C2 (b9 7)) (L1 13 nd) (c6 (A4 (M9 (E2 (p9 a8Y hr (Q2 (b9 2) (Q2 (b9 3) (c4l (b9 8) (b9 13) (b9 9) (b9 11) (b9 12))))))) (c6 (j8 M5)) p8)))))))))) (c6 (j8 M5))))))))
end
end
structure ClF(K:Fg)(y:Str)(C:Addr):Prop where
 y:C4 K A6 y=some (some (.ref C))
 pg:a4O K C Str.empty=true
 hd:a6G K C=true
 po:b2v K C=true
 sa:t6 K (.ref C) "__setattr__" = some (some (.builtin "object.__setattr__"))
 mm:a5k K C=true
 kc:V7 K (.ref C)=true
abbrev pm0:Value:=(.str "law_oncedone_k55_whole_as_many_as_brinks" 963)
abbrev pm1:Value:=(.str "oncedone.brinks" 742)
abbrev pm2:Value:=(.str "oncedone.choices" 814)
abbrev pm3:Value:=(.str "oncedone.checks" 405)
abbrev pm4:Value:=(.str "oncedone.words" 194)
abbrev pm5:Value:=(.str "oncedone.plans" 435)
abbrev pm6:Value:=(.str "oncedone.wanted" 662)
abbrev pm7:Value:=(.str "oncedone.deeds" 253)
abbrev pm8:Value:=(.str "oncedone.ready" 565)
theorem d1s{l:PySem.W.OpenLaw}{w:World}{K:Fg}{h:Heap}{mg:Str->Option Value}{fa:Addr}(X:K.In h)(G:h.Ns A6 mg)(hfa:mg "law" = some (.ref fa))
  (y_Brinks:ClF K "Brinks" 478)
  (a3V:t6 K (.ref 478) d5b = some none)
  (a2P:t6 K (.ref 478) "found" = some none)
  (a3U:t6 K (.ref 478) d5f = some none)
  (a2O:t6 K (.ref 478) "ready" = some none)
  (a1e:t6 K (.ref 478) "wanted" = some none)
  (y_Choice:ClF K "Choice" 585)
  (a1d:t6 K (.ref 585) "brinks" = some none)
  (a3T:t6 K (.ref 585) d5b = some none)
  (a2t:t6 K (.ref 585) "fallen" = some none)
  (a0H:t6 K (.ref 585) "left_in" = some none)
  (a1s:t6 K (.ref 585) "left_out" = some none)
  (a4q:t6 K (.ref 585) "living" = some none)
  (a2b:t6 K (.ref 585) d5f = some none)
  (a1c:t6 K (.ref 585) "put_in" = some none)
  (y_Plan:ClF K "Plan" 297)
  (a1A:t6 K (.ref 297) "entries" = some none)
  (U9:t6 K (.ref 297) d4U = some none)
  (P4:t6 K (.ref 297) d4T = some none)
  (y_Ready:ClF K "Ready" 365)
  (a2s:t6 K (.ref 365) "come_by" = some none)
  (a2I:t6 K (.ref 365) d5b = some none)
  (a4D:t6 K (.ref 365) d5f = some none)
  (y_Wanted:ClF K "Wanted" 424)
  (a1N:t6 K (.ref 424) "goes_by" = some none)
  (a2a:t6 K (.ref 424) d5f = some none)
  (ha_Plan:t6 K (.ref 297) "__class__" = some (some (.builtin "object.__class__"))) (hn_Plan:a6F K (.builtin "object.__class__") "__get__" = some (some (.builtin "getset_descriptor.__get__"))) (tk_Plan:b5g K (.builtin "object.__class__")=some true) (hm_Plan:b7Y K 297 (.type "object")=some true)
  (y_DEED_KINDS:C4 K A6 "DEED_KINDS" = some (some (.ref 22))) (l_DEED_KINDS:K.lookup 22=some ⟨.type "tuple",none,.seq (([(.str "plus" 204),(.str "minus" 205),(.str "times" 206),(.str "less" 207),(.str "same" 208)]:List Value).toArray) 0,#[]⟩)
  (y_FIRST_STEP:C4 K A6 "FIRST_STEP" = some (some (.ref 201))) (l_FIRST_STEP:K.lookup 201=some ⟨.type "tuple",none,.seq (([(.int (-1) 438),(.int (0) 439)]:List Value).toArray) 0,#[]⟩)
  (x0:FnG K d3L c1R 594 pm0 (.ref 593))
  (x1:FnG K d3O c0u 601 pm0 (.ref 600))
  (x2:FnG K d3T c4P 608 pm0 (.ref 607))
  (x3:FnG K d3Z a6S 613 pm0 (.ref 612))
  (x4:FnG K d4a b7b 618 pm0 (.ref 617))
  (x5:FnG K d4c b7a 625 pm0 (.ref 624))
  (x6:FnG K d4e b1N 632 pm0 (.ref 631))
  (x7:FnG K d4f c0z 639 pm0 (.ref 638))
  (x8:FnG K d4h c4M 646 pm0 (.ref 645))
  (x9:FnG K d4j c0v 653 pm0 (.ref 652))
  (x10:FnG K d4k b4m 753 pm0 (.ref 752))
  (x11:FnG K d4n c0s 705 pm0 (.ref 704))
  (x12:FnG K d4p c9E 681 pm0 (.ref 680))
  (x13:FnG K d4r b8L 710 pm0 (.ref 709))
  (x14:FnG K d4s b7c 715 pm0 (.ref 714))
  (x15:FnG K d4t b1Q 727 pm0 (.ref 726))
  (x16:FnG K d4u c4Q 734 pm0 (.ref 733))
  (x17:FnG K d4v a8y 741 pm0 (.ref 740))
  (x18:FnG K d4w a9P 748 pm0 (.ref 747))
  (x19:FnG K d4x b0K 720 pm0 (.ref 719))
  (x20:FnG K d4z a9L 660 pm0 (.ref 659))
  (x21:FnG K d4G a4g 758 pm0 (.ref 757))
  (x22:FnM K 478 d4I "Brinks.steps" a5E 461 pm1 (.ref 460))
  (x23:FnM K 585 "puts" "Choice.puts" a6w 561 pm2 (.ref 560))
  (x24:FnM K 585 "stays" "Choice.stays" a5D 575 pm2 (.ref 574))
  (x25:FnG K d4J a5C 193 pm3 (.ref 192))
  (x26:FnG K "is_name" a8U 41 pm4 (.ref 40))
  (x27:FnG K d4L a9M 29 pm4 (.ref 28))
  (x28:FnG K d4M a9N 36 pm4 (.ref 35))
  (x29:FnG K d4N a7q 48 pm4 (.ref 47))
  (x30:FnG K "is_deed" b1O 55 pm4 (.ref 54))
  (x31:FnG K "is_row" b4l 62 pm4 (.ref 61))
  (x32:FnG K d4O a7t 200 pm3 (.ref 199))
  (x33:FnG K d4P a9O 186 pm3 (.ref 185))
  (x34:FnG K d4S a6k 206 pm5 (.ref 205))
  (x35:FnG K d4V a4u 211 pm5 (.ref 210))
  (x36:FnG K "reached" b1L 228 pm5 (.ref 227))
  (x37:FnG K "turned" b0J 221 pm5 (.ref 220))
  (x38:FnG K d4X a7o 216 pm5 (.ref 215))
  (x39:FnG K d4Y a7s 235 pm5 (.ref 234))
  (x40:FnG K d4Z a7p 240 pm5 (.ref 239))
  (x41:FnM K 297 "leads_to" "Plan.leads_to" a4S 266 pm5 (.ref 265))
  (x42:FnM K 297 d3J "Plan.__init__" a3e 252 pm5 (.ref 251))
  (x43:FnM K 297 d4I "Plan.steps" a7u 259 pm5 (.ref 258))
  (x44:FnM K 424 "wanted_at" "Wanted.wanted_at" a2T 402 pm6 (.ref 401))
  (x45:FnM K 424 "wanted_on" "Wanted.wanted_on" a2S 414 pm6 (.ref 413))
  (x46:FnG K "set_by" b4j 76 pm7 (.ref 75))
  (x47:FnG K "spoils" b4i 90 pm7 (.ref 89))
  (x48:FnG K "deed_of" b1P 69 pm7 (.ref 68))
  (x49:FnG K "does" c0y 83 pm7 (.ref 82))
  (x50:FnM K 365 "ready_at" "Ready.ready_at" a4i 334 pm8 (.ref 333))
  (x51:FnM K 365 d5c "Ready.ready_behind" a1W 341 pm8 (.ref 340))
  (x52:FnM K 365 "ready_on" "Ready.ready_on" a4h 348 pm8 (.ref 347))
  (x53:FnM K 478 d5d "Brinks.is_spoilt_ahead" a0M 454 pm1 (.ref 453))
  (x54:FnM K 424 d5e "Wanted.wanted_behind" a0a 407 pm6 (.ref 406))
  (x55:FnM K 478 "is_brink" "Brinks.is_brink" a3F 447 pm1 (.ref 446))
  (x56:FnG K "pass_on" b1M 308 pm8 (.ref 307))
  (x57:FnG K d5h a4R 315 pm8 (.ref 314))
  (x58:FnM K 365 d3J "Ready.__init__" a3B 327 pm8 (.ref 326))
  (x59:FnG K d5i a4Q 376 pm6 (.ref 375))
  (x60:FnM K 297 "steps_into" "Plan.steps_into" a3C 273 pm5 (.ref 272))
  (x61:FnG K d5j a2j 381 pm6 (.ref 380))
  (x62:FnM K 424 d3J "Wanted.__init__" a6v 395 pm6 (.ref 394))
  (x63:FnM K 478 d3J "Brinks.__init__" a4v 440 pm1 (.ref 439))
  (x64:FnG K d5l a5g 492 pm2 (.ref 491))
  (x65:FnG K "marked" b0L 487 pm2 (.ref 486))
  (x66:FnG K d5m a2R 499 pm2 (.ref 498))
  (x67:FnG K d5n a1E 506 pm2 (.ref 505))
  (x68:FnM K 585 "waits_at" "Choice.waits_at" a3E 526 pm2 (.ref 525))
  (x69:FnM K 585 "waits_on" "Choice.waits_on" a3D 533 pm2 (.ref 532))
  (x70:FnM K 585 "is_put" "Choice.is_put" a4T 540 pm2 (.ref 539))
  (x71:FnD K 585 d3J "Choice.__init__" a0L 514 519 pm2 (.ref 518) (([.none]:List Value).toArray) 0)
  (x72:FnG K "law" b6f 763 pm0 (.ref 762))
  (z_abs:C4 K A6 "abs" = some none)
  (z_all:C4 K A6 "all" = some none)
  (z_any:C4 K A6 "any" = some none)
  (z_bool:C4 K A6 "bool" = some none)
  (z_dict:C4 K A6 "dict" = some none)
  (z_enumerate:C4 K A6 "enumerate" = some none)
  (z_int:C4 K A6 "int" = some none)
  (z_isinstance:C4 K A6 "isinstance" = some none)
  (z_len:C4 K A6 "len" = some none)
  (z_list:C4 K A6 "list" = some none)
  (z_min:C4 K A6 "min" = some none)
  (z_range:C4 K A6 "range" = some none)
  (z_sorted:C4 K A6 "sorted" = some none)
  (z_str:C4 K A6 "str" = some none)
  (z_sum:C4 K A6 "sum" = some none)
  (z_tuple:C4 K A6 "tuple" = some none)
  (z_zip:C4 K A6 "zip" = some none)
  (y_BOUND:C4 K A6 "BOUND" = some (some (.int (1000000000000) 196)))
  (y_FIGURES:C4 K A6 "FIGURES" = some (some (.str "0123456789" 200)))
  (y_LETTERS:C4 K A6 "LETTERS" = some (some (.str "abcdefghijklmnopqrstuvwxyz" 198)))
  (y_LONGEST_NAME:C4 K A6 "LONGEST_NAME" = some (some (.int (8) 202)))
  (y_MOST:C4 K A6 "MOST" = some (some (.int (400) 407)))
  : ∃fd:a0w,(∀(s:k8) (v:Value),c4e s fd ⟨[v],[]⟩ [(d3K,v)])/\∀base:Heap,K.In base->base.Ns A6 mg->F7 l.prog w K mg base CX0 11 fa fd [d3K] (b3Z K):=by
 have e:=hfa.symm.trans (V5 X G x72.a)
 cases e
 let c:Cn:=⟨478,585,297,365,424,22,201⟩
 have ck:a0R K c:=⟨⟨y_Brinks.pg,y_Brinks.hd,y_Brinks.po,y_Brinks.sa⟩,a3V,a2P,a3U,a2O,a1e,⟨y_Choice.pg,y_Choice.hd,y_Choice.po,y_Choice.sa⟩,a1d,a3T,a2t,a0H,a1s,a4q,a2b,a1c,⟨y_Plan.pg,y_Plan.hd,y_Plan.po,y_Plan.sa⟩,a1A,U9,P4,⟨y_Ready.pg,y_Ready.hd,y_Ready.po,y_Ready.sa⟩,a2s,a2I,a4D,⟨y_Wanted.pg,y_Wanted.hd,y_Wanted.po,y_Wanted.sa⟩,a1N,a2a,fun H=>.inr ⟨_,([(.str "plus" 204),(.str "minus" 205),(.str "times" 206),(.str "less" 207),(.str "same" 208)]:List Value).toArray,0,l_DEED_KINDS,rfl,rfl,by decide,.cons ⟨_,rfl⟩ ( .cons ⟨_,rfl⟩ ( .cons ⟨_,rfl⟩ ( .cons ⟨_,rfl⟩ ( .cons ⟨_,rfl⟩ ( .nil)))))⟩,fun H=>.inr ⟨_,([(.int (-1) 438),(.int (0) 439)]:List Value).toArray,0,l_FIRST_STEP,rfl,rfl,by decide,.cons ⟨_,rfl⟩ ( .cons ⟨_,rfl⟩ ( .nil))⟩,⟨⟨y_Plan.pg,y_Plan.hd,y_Plan.po,y_Plan.sa⟩,ha_Plan,hn_Plan,tk_Plan,hm_Plan⟩⟩
 have T:Txt K mg c:=⟨D1 X G z_abs,D1 X G z_all,D1 X G z_any,D1 X G z_bool,D1 X G z_dict,D1 X G z_enumerate,D1 X G z_int,D1 X G z_isinstance,D1 X G z_len,D1 X G z_list,D1 X G z_min,D1 X G z_range,D1 X G z_sorted,D1 X G z_str,D1 X G z_sum,D1 X G z_tuple,D1 X G z_zip,⟨_,V5 X G y_BOUND,⟨_,rfl⟩⟩,⟨_,V5 X G y_DEED_KINDS,rfl⟩,⟨_,V5 X G y_FIGURES,⟨_,rfl⟩⟩,⟨_,V5 X G y_FIRST_STEP,rfl⟩,⟨_,V5 X G y_LETTERS,⟨_,rfl⟩⟩,⟨_,V5 X G y_LONGEST_NAME,⟨_,rfl⟩⟩,⟨_,V5 X G y_MOST,⟨_,rfl⟩⟩,⟨_,V5 X G y_Plan.y,rfl⟩⟩
 refine⟨fdM "law" "law" b6f pm0 (.ref 762),fun s v=>.of_eq rfl,fun base _ _=>?_⟩
 have c2i:=mkC X G x0 (d0R (P:=l.prog) (w:=w) (base:=base) T x0.i.F) fun _ _ _ _ _ _ _=>rfl
 have F6:=mkC X G x1 (c7T (P:=l.prog) (w:=w) (base:=base) T x1.i.F) fun _ _ _ _ _ _ _ _=>rfl
 have c2g:=mkC X G x2 (d0N T F6 x2.i.F) fun _ _ _ _ _ _ _ _=>rfl
 have b1f:=mkC X G x3 (c3a (P:=l.prog) (w:=w) (base:=base) T x3.i.F) fun _ _ _ _ _ _ _=>rfl
 have b7M:=mkC X G x4 (c7V T F6 x4.i.F) fun _ _ _ _ _ _ _ _=>rfl
 have b3A:=mkC X G x5 (c5C T F6 b7M x5.i.F) fun _ _ _ _ _ _ _=>rfl
 have a0C:=mkC X G x6 (c0U T F6 x6.i.F) fun _ _ _ _ _ _ _ _=>rfl
 have b7P:=mkC X G x7 (c7Z T F6 a0C x7.i.F) fun _ _ _ _ _ _ _ _=>rfl
 have c2f:=mkC X G x8 (d0M T F6 a0C x8.i.F) fun _ _ _ _ _ _ _ _ _=>rfl
 have b7L:=mkC X G x9 (c7U T F6 c2g b1f b3A a0C b7P c2f x9.i.F) fun _ _ _ _ _ _ _=>rfl
 have b7O:=mkC X G x10 (c7X T F6 x10.i.F) fun _ _ _ _ _ _ _ _=>rfl
 have b7K:=mkC X G x11 (c7S T F6 x11.i.F) fun _ _ _ _ _ _ _ _ _=>rfl
 have c1B:=mkC X G x12 (d2J (P:=l.prog) (w:=w) (base:=base) T x12.i.F) fun _ _ _ _ _ _ _ _=>rfl
 have c2h:=mkC X G x13 (d0Q (P:=l.prog) (w:=w) (base:=base) T x13.i.F) fun _ _ _ _ _ _ _=>rfl
 have b7N:=mkC X G x14 (c7W T c2h x14.i.F) fun _ _ _ _ _ _ _ _=>rfl
 have a8Z:=mkC X G x15 (c0Z T b7K c1B b7N x15.i.F) fun _ _ _ _ _ _ _ _ _=>rfl
 have b2T:=mkC X G x16 (d0P (P:=l.prog) (w:=w) (base:=base) T x16.i.F) fun _ _ _ _ _ _ _=>rfl
 have a4N:=mkC X G x17 (b7n T b2T x17.i.F) fun _ _ _ _ _ _ _=>rfl
 have a7O:=mkC X G x18 (b9b T b2T x18.i.F) fun _ _ _ _ _ _ _ _=>rfl
 have b1e:=mkC X G x19 (c2Z T c1B x19.i.F) fun _ _ _ _ _ _ _ _=>rfl
 have a5P:=mkC X G x20 (b8X (P:=l.prog) (w:=w) (base:=base) T x20.i.F) fun _ _ _ _ _ _ _ _=>rfl
 have a8Y:=mkC X G x21 (c0Y T b1e a5P x21.i.F) fun _ _ _ _ _ _ _ _ _ _ _ _ _=>rfl
 have a0r:=mkM x22 ck.V4 (b3f (P:=l.prog) (w:=w) (base:=base) T x22.i.F) fun _ _ _ _ _ _ _=>rfl
 have a4z:=mkM x23 ck.F8 (b4G (P:=l.prog) (w:=w) (base:=base) T x23.i.F) fun _ _ _ _ _ _ _=>rfl
 have a3O:=mkM x24 ck.F8 (b3e (P:=l.prog) (w:=w) (base:=base) T x24.i.F) fun _ _ _ _ _ _ _=>rfl
 have a0q:=mkC X G x25 (b3d (P:=l.prog) (w:=w) (base:=base) T x25.i.F) fun _ _ _ _ _ _ _ _ _=>rfl
 have a2o:=mkC X G x26 (c0V (P:=l.prog) (w:=w) (base:=base) T x26.i.F) fun _ _ _ _ _ _ _=>rfl
 have a2Y:=mkC X G x27 (b8Y (P:=l.prog) (w:=w) (base:=base) T x27.i.F) fun _ _ _ _ _ _ _=>rfl
 have a7N:=mkC X G x28 (b8Z T a2Y x28.i.F) fun _ _ _ _ _ _ _=>rfl
 have a0c:=mkC X G x29 (b5E T a2o a7N x29.i.F) fun _ _ _ _ _ _ _=>rfl
 have a4p:=mkC X G x30 (c0W T a0c x30.i.F) fun _ _ _ _ _ _ _=>rfl
 have b1g:=mkC X G x31 (c3c T a2o a0c a4p x31.i.F) fun _ _ _ _ _ _ _=>rfl
 have Y1:=mkC X G x32 (b5H (P:=l.prog) (w:=w) (base:=base) T x32.i.F) fun _ _ _ _ _ _ _=>rfl
 have a2Z:=mkC X G x33 (b9a T a2Y x33.i.F) fun _ _ _ _ _ _ _ _=>rfl
 have a6p:=mkC X G x34 (b7o T a2Z x34.i.F) fun _ _ _ _ _ _ _ _ _=>rfl
 have a4y:=mkC X G x35 (b4E T Y1 a6p x35.i.F) fun _ _ _ _ _ _ _ _=>rfl
 have a6X:=mkC X G x36 (c0S (P:=l.prog) (w:=w) (base:=base) T x36.i.F) fun _ _ _ _ _ _ _ _=>rfl
 have b1c:=mkC X G x37 (c2W (P:=l.prog) (w:=w) (base:=base) T x37.i.F) fun _ _ _ _ _ _ _=>rfl
 have a7M:=mkC X G x38 (b8V (P:=l.prog) (w:=w) (base:=base) T x38.i.F) fun _ _ _ _ _ _ _=>rfl
 have a5i:=mkC X G x39 (b5F T a6X b1c a7M x39.i.F) fun _ _ _ _ _ _ _=>rfl
 have a2X:=mkC X G x40 (b8W (P:=l.prog) (w:=w) (base:=base) T x40.i.F) fun _ _ _ _ _ _ _=>rfl
 have J9:=mkM x41 ck.N4 (b2b (P:=l.prog) (w:=w) (base:=base) T x41.i.F) fun _ _ _ _ _ _ _ _=>rfl
 have b7q:=mkK X G x42 y_Plan.y y_Plan.mm y_Plan.kc (b7p T a0q b1g Y1 a4y a5i a2X J9 x42.i.F) fun _ _ _ _ _ _ _ _ _=>rfl
 have Y2:=mkM x43 ck.N4 (b5J T a2X x43.i.F) fun _ _ _ _ _ _ _=>rfl
 have T1:=mkM x44 ck.a2c (a9i (P:=l.prog) (w:=w) (base:=base) T x44.i.F) fun _ _ _ _ _ _ _ _=>rfl
 have a1q:=mkM x45 ck.a2c (a9h T J9 T1 x45.i.F) fun _ _ _ _ _ _ _ _=>rfl
 have b1d:=mkC X G x46 (c2Y (P:=l.prog) (w:=w) (base:=base) T x46.i.F) fun _ _ _ _ _ _ _=>rfl
 have a1b:=mkC X G x47 (c2X T b1d x47.i.F) fun _ _ _ _ _ _ _ _=>rfl
 have a8X:=mkC X G x48 (c0X (P:=l.prog) (w:=w) (base:=base) T x48.i.F) fun _ _ _ _ _ _ _=>rfl
 have a0z:=mkC X G x49 (c7Y T a8X x49.i.F) fun _ _ _ _ _ _ _ _=>rfl
 have a2q:=mkM x50 ck.a1D (b0R (P:=l.prog) (w:=w) (base:=base) T x50.i.F) fun _ _ _ _ _ _ _ _=>rfl
 have a0F:=mkM x51 ck.a1D (a8e T a1b a0z a2q x51.i.F) fun _ _ _ _ _ _ _ _=>rfl
 have a2p:=mkM x52 ck.a1D (b0Q T a0F x52.i.F) fun _ _ _ _ _ _ _ _=>rfl
 have Y3:=mkM x53 ck.V4 (a5U T a1b x53.i.F) fun _ _ _ _ _ _ _ _=>rfl
 have a0d:=mkM x54 ck.a2c (a6V T T1 x54.i.F) fun _ _ _ _ _ _ _ _=>rfl
 have a1L:=mkM x55 ck.V4 (b0b T a1q a2p Y3 a0d x55.i.F) fun _ _ _ _ _ _ _ _=>rfl
 have a6Y:=mkC X G x56 (c0T (P:=l.prog) (w:=w) (base:=base) T x56.i.F) fun _ _ _ _ _ _ _ _ _ _=>rfl
 have a2M:=mkC X G x57 (b2a T a6Y x57.i.F) fun _ _ _ _ _ _ _ _ _=>rfl
 have b3x:=mkK X G x58 y_Ready.y y_Ready.mm y_Ready.kc (b5I T a1b a0z a2M x58.i.F) fun _ _ _ _ _ _ _ _ _=>rfl
 have a2L:=mkC X G x59 (b1Z T a1b a0z x59.i.F) fun _ _ _ _ _ _ _ _=>rfl
 have V2:=mkM x60 ck.N4 (a9Y (P:=l.prog) (w:=w) (base:=base) T x60.i.F) fun _ _ _ _ _ _ _ _=>rfl
 have a2n:=mkC X G x61 (b0P T a0z a2L V2 x61.i.F) fun _ _ _ _ _ _ _ _=>rfl
 have b0V:=mkK X G x62 y_Wanted.y y_Wanted.mm y_Wanted.kc (b4F T a2n x62.i.F) fun _ _ _ _ _ _ _ _ _=>rfl
 have a5J:=mkK X G x63 y_Brinks.y y_Brinks.mm y_Brinks.kc (b4I T Y2 a1L b3x b0V x63.i.F) fun _ _ _ _ _ _ _ _ _=>rfl
 have a5j:=mkC X G x64 (b5G T a0q Y1 a2Z x64.i.F) fun _ _ _ _ _ _ _ _ _=>rfl
 have a2H:=mkC X G x65 (c3b (P:=l.prog) (w:=w) (base:=base) T x65.i.F) fun _ _ _ _ _ _ _=>rfl
 have a1p:=mkC X G x66 (a9g T J9 Y2 a0z a2H x66.i.F) fun _ _ _ _ _ _ _ _ _ _=>rfl
 have a0u:=mkC X G x67 (a7E T V2 x67.i.F) fun _ _ _ _ _ _ _ _ _ _=>rfl
 have K7:=mkM x68 ck.F8 (b0a (P:=l.prog) (w:=w) (base:=base) T x68.i.F) fun _ _ _ _ _ _ _ _=>rfl
 have a1K:=mkM x69 ck.F8 (a9Z T a0z K7 x69.i.F) fun _ _ _ _ _ _ _ _=>rfl
 have a2N:=mkM x70 ck.F8 (b2c T J9 K7 a1K x70.i.F) fun _ _ _ _ _ _ _ _=>rfl
 have b0W:=d3v X G x71 y_Choice.y y_Choice.mm y_Choice.kc (b4H T a0r a4p Y2 a0z a5J a5j a2H a1p a0u K7 a2N x71.F) fun _ _ _ _ _ _ _ _ _ _=>⟨_,rfl,rfl⟩
 exact d0O T c2i F6 b7L b7O a8Z a4N a7O a8Y a0r a4z a3O b7q a5J b0W ck x72.i.F
theorem walk{l:PySem.W.OpenLaw}{q:D4}{loose:List Str}{XP:(Str->Option Value)->Heap->Prop}{YP:World->Heap->Prop}{d:DefRec}{K:Params->Fg}(hn:l.most=some 63)(hdf:d.params.defaults=[])
  (hY:∀(w:World) (h:Heap),YP w h->(K w.params).In h)
  (F:∀(w:World) (mg:Str->Option Value) (fa:Addr) (h:Heap),(K w.params).In h->h.Ns A6 mg->mg d.name=some (.ref fa) ->
   ∃fd:a0w,(∀(s:k8) (u:Value),c4e s fd ⟨[u],[]⟩ [(d3K,u)])/\∀base:Heap,(K w.params).In base->base.Ns A6 mg->F7 l.prog w (K w.params) mg base CX0 11 fa fd [d3K] (b3Z (K w.params))) :
  PySem.W.WalkO q loose XP YP l.row.toRowW d [] (fun f vs=>b7X f vs):=
 L2.c6O (n:=63) (k:=11) (x := d3K) (CX:=fun _=>CX0) (sp:=fun w=>b3Z (K w.params)) hn (by decide) hdf ⟨rfl,by decide,by decide⟩ hY F (fun _ _ a ns hl hO hS=>RD.law_reading _ hl hO hS) fun _ _ _ _ _ z=>z
end PR
open PySem PySem.W PyProof.Rows
set_option maxRecDepth 100000 in
set_option maxHeartbeats 0 in
theorem PySem.Challenge.cw_oncedone_k55_whole_as_many_as_brinks_holds : PySem.Challenge.rw_oncedone_k55_whole_as_many_as_brinks.Holds := by
 refine HD.fin fun d hd hdf=>PR.walk (l:=HD.row) (K:=HD.K) rfl hdf (fun w h Y=>PySem.W.kIn_of Y) ?F
 intro w mg fa h KX G hmg
 rw[hd]at hmg
 apply PR.d1s KX G hmg <;> first | kernel_rfl | exact⟨⟨by kernel_rfl,by kernel_rfl,by kernel_rfl⟩,by kernel_rfl⟩ | exact⟨⟨by kernel_rfl,by kernel_rfl,by kernel_rfl⟩,by kernel_rfl,by kernel_rfl⟩ | exact⟨by kernel_rfl,by kernel_rfl,by kernel_rfl,by kernel_rfl,by kernel_rfl,by kernel_rfl,by kernel_rfl⟩ | exact⟨by kernel_rfl,by kernel_rfl,by kernel_rfl,by kernel_rfl,by kernel_rfl,by kernel_rfl⟩
