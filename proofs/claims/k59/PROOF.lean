import PyProof.Rows.All
import KE.KEqDict
import KE.KDictList
import KE.KIsAll
import KE.KDictOf
import KE.KItem
import PyProof.StrBlockI
import PyProof.StrOps2
import PyProof.StrLaws
import KE.KIntText
import PyProof.Draws
import PyProof.EnumMake
import PyProof.ReprReads
import PyProof.CallFns
import PyProof.StationsW
import PyProof.RulesTry
import PyProof.InstStoreFacts
import OpenK.KOwn
import PyProof.ExcClass3
import PyProof.ExcInit
import PyProof.ExcBaseAll.ValueError
import PyProof.RulesDel
import PyProof.RulesAs
import PyProof.ExcAttrAll.ValueError
import Lean
import PySem.Challenge.RW_oncedone_k59_choices_refused
open Array renaming getElem?_toList->a0D,getElem?_eq_some_iff->a2T,length_toList->a6f,getElem?_eq_getElem->b8x
open Bool renaming false_ne_true->z6,and_eq_true->a0w,eq_iff_iff->a2a,true_and->a2u,false_or->b2P,false_eq_true->b3j,not_eq_true'->b3U,false_and->b8v,and_false->b8w,and_eq_true_iff->c4u,eq_false_iff->c8A,true_or->d2G,or_true->d2H
open Int renaming toNat_natCast->C9,zero_add->a1X,emod_lt_of_pos->a1Y,emod_nonneg->a2t,eq_ofNat_of_zero_le->a4r,toNat->c2N,toNat_of_nonneg->c6S
open List renaming getElem?_map->b6,length_map->b8,getElem?_eq_getElem->c8,mem_singleton->l7,getElem?_append_left->o5,replicate->p8,mem_cons->t8,getElem?_eq_some_iff->u0,size_toArray->u4,length_append->u5,mem_append->v7,mem_append_left->v9,range->A1,length_replicate->A8,mem_iff_getElem?->C8,mem_append_right->D3,length_cons->D4,mem_map->F5,length_take->F7,map_append->F8,append_nil->F9,length_filter_le->G6,not_mem_nil->G8,getElem?_append_right->J1,map_cons->J7,mem_cons_of_mem->K6,take_add_one->L3,take_length->M3,lookup_cons->M4,getElem?_set_self->M6,getElem_mem->M9,getElem?_replicate->N3,getElem?_set_ne->O2,all_eq_true->P5,getD->Q2,mem_cons_self->Q4,map_map->R3,mem_range->U0,mem_filter->U4,lookup->W0,length_singleton->X0,filter_append->X9,foldl_cons->a0j,find?_cons->a0k,replicate_succ->a0l,take_of_length_le->a0s,nodup_cons->a0X,length_set->a0Y,all_cons->a1r,range_succ->a1Z,nodup_append->a2M,length_range->a2N,append_assoc->a2O,mem_of_getElem?->a2U,getElem?_eq_none_iff->a3t,map_congr_left->a3z,any_cons->a3C,length_nil->a4f,flatten_cons->a4M,filter_cons->a5k,filter_nil->a6e,map_inj_right->a6T,filter_congr->a8a,eq_of_mem_replicate->a8o,length_pos_of_mem->a9o,replicate_succ'->b0C,length_pos_iff->b1J,getElem?_range->b1K,filterMap_cons->b1L,map_nil->b3S,ext_getElem?->b3T,nodup_range->b5J,length_drop->b5K,length->b6l,of_mem_zip->b6Q,length_erase_of_mem->c0n,idxOf_lt_length_iff->c0o,getElem?_take_of_lt->c0p,length_eq_zero_iff->c1T,getElem?_cons_zero->c1U,getElem?_cons_succ->c1V,mem_of_mem_take->c4t,mem_filterMap->c6O,length_mapIdx->c6P,foldl->c6Q,contains_cons->c6R,mem_flatMap->c9q,any_eq_true->c9r,idxOf_cons->d1e,forIn_cons->d1f,drop_zero->d1j,any_map->d2D,all_nil->d2E,all_map->d2F
open List.Pairwise renaming map->a1C
open Nat renaming le_refl->j8,ne_of_lt->A3,lt_of_lt_of_le->A7,le_trans->G5,lt_irrefl->O0,zero_le->W3,le_succ->a4q,lt_succ_self->a8X,le_add_right->a8Y,ne_of_gt->b5C,le_of_lt->b5D,le_of_eq->b5E,succ_mul->c4i,min_self->c4j,lt_of_le_of_lt->c8z,strongRecOn->d1i
open Option renaming map_eq_some_iff->E9,isSome_map->a2s,getD_some->a4U,isSome_iff_exists->a7p,bind_some->b3R,toList_some->c4s,getD_none->c6N,map_some->c8y
open PyProof.Rows renaming boot_isinstance->o6,boot_list->u9,callWith_type1->a1G,slot_tuple_getitem->a3B,boot_dict->a6S,boot_all->a7o,envOfC->a8e,AllBare->b3W,boot_tuple->b5B,boot_bool->b5I,boot_int->b6k,IntsAre->c9w,subscriptTail_builtinR->d1h
open PySem renaming wpAny_bind->c5,Shared->j6,boot_len->p5,wpAny_pure->p9,starEach->u6,mainGlobals->w6,sizeLine->z9,Program->A4,compareOp->J4,mem_of_lookup->P4,FuncData->Q5,Around->R0,wpAny_truthy_bool->T3,behindInMarks->V3,wpAny_holding->X2,wpAny_newObj_type->Z6,wpAny_Call_Name_kw->a0u,backTo->a0v,keywordEach->a1f,DictEntry->a1g,wpAny_mono->a2b,sysModules->a2c,foldedSetIterable->a2d,wpAny_typeNameOfWhole_keyiter->a2V,wpAny_passesOwn->a3D,codeAny_mono->a3E,tupleKind->a4O,tupleKind_room_in1->a5w,letOwnedTupleGo->a5x,importedModules->a5y,codeAny->a5z,binaryOp->a5A,backToKw->a5B,attributeBase->a5C,strIterType->a6z,swapsWith->a6U,bootBuiltins->a6V,sizeLine_eq->a7n,holding->a7q,lookup_relabel_local->a8d,wpAny_standAt->a8p,wpAny_execs_nil->a8v,sliceBounds->a8w,NameKind->a9z,wpAny_pyIter_list->b0D,getMethod->b0E,wpAny_field->b1M,wpAny_callSpecial?_slot->b1N,BindsTo->b1O,wpAny_call_entry->b2Q,standAt->b3V,call_meets->b5G,assignEach->b5H,call->b8o,pyNext->b8y,Result->b8z,wpAny_dictEntries->c0q,wpAny_assign_Name->c0r,Keyword->c0s,assign->c1Y,callWith->c4o,Operator->c4p,wpAny_dictEpoch->c4v,relabel->c4w,callerA->c4x,wpAny_comprehension_free->c8E,typeLookup->c8F,stored->c8G,entryOfKey->c8H,IsPart->c8I,valueAt->c9u,getItem->c9v,wpAny_pyNext_list_item->d1g,wpAny_typeOf->d1l,wpAny_pyNext_list_end->d1m,wpAny_notOrdered_dict->d1n,wpAny_isTrue_Compare1->d1o,wpAny_isOneOf_keyiter->d1p,seqIndex_neg->d1q,builtinLookup_eq_fast->d1r,wpAny_loadName_local->d2B,wpAny_loadName_cell->d2I,seqIndex_of->d2J,Builtin->d2K
open PySem.F renaming plainAttrs_list->C0,type_list_append->E7,slot_list_append->E8,attr_ValueError->a3A,type_list_extend->b8p,slot_list_extend->b8q,slot_list_index->b8u,entry_bexc_ga->c0m,args_bexc_ga->c1S
open PySem.Heap renaming get?_push_of_some->j7,lt_size->l5,get?_push_size->C7,get?_update_other->a0t,get?_update_self->a0I,get?_update_ne->c6H,size_update->c9s,size_push->d1k
open PySem.Heap.DictOf renaming new->c2O
open PySem.Heap.Ns1 renaming of_empty->c4k
open PySem.Heap.SameBut renaming update->b8r
open PySem.W renaming findIn->o0,nsIn->C5,mg_none_of->D7,mg_of->E6,keepIn->O8,emptyDict->R8,kia_one->T7,fnOf->T8,kitOne->Y0,instObj->Z5,callWith_K->a1F,makesIn->a1O,mroIn->a3s,specialIn->a4j,hasDictIn->a4k,codeIn->a4l,plainGet->a4T,isFn->a8t,takesIn->a8u,lookIn->a9y,plainGet_of->b0B,plainOver->b2N,methodObj->b2O,takerIn->b5A,cellsFrom_some->c0j,methodCall_KW->c0l,kitx_list->c4q,kitx_dict->c4r,kdl_call->c6F,handedIn->c6G,typeIn->c8x
set_option Elab.async false
set_option linter.all false
set_option maxRecDepth 100000
set_option maxHeartbeats 0
abbrev Fg:=PySem.W.Frag
abbrev Nt:=List (List Nat)
def gI{α:Type}{l:List α}{i:Nat}{a:α}(h:l[i]?=some a):i<l.length:=(u0.mp h).1
def mI{α:Type}{l:List α}{i:Nat}{a:α}(h:l[i]?=some a):a∈l:=a2U h
def d4D{p:Prop}[Decidable p](h:¬p):decide p=false:=decide_eq_false h
def d4E{p:Prop}[Decidable p](h:p):decide p=true:=decide_eq_true h
namespace L2
open PySem
def A5(s:Stmt)(j:Nat):Stmt:=match s with
 |.ClassDef _ _ _ body _ _ _ _ _ _ _=>body.getD j (.Pass ⟨0,0,0,0⟩)
 |_=>.Pass ⟨0,0,0,0⟩
def a1d(s:Stmt):Arguments:=match s with
 |.FunctionDef _ a _ _ _ _ _ _ _ _=>a
 |_=>{ posonlyargs:=[],args:=[],vararg:=none,kwonlyargs:=[],kw_defaults:=[],kwarg:=none,defaults:=[] }
def R1(s:Stmt):List Stmt:=match s with
 |.FunctionDef _ _ b _ _ _ _ _ _ _=>b
 |_=>[]
def g8(s:Stmt):Scope:=match s with
 |.FunctionDef _ _ _ _ _ _ sc _ _ _=>sc
 |_=>{ kind:=.function,names:=[],isGenerator:=false,isCoroutine:=false }
end L2
namespace HD
open PySem PySem.W L2
abbrev P : Program := PySem.Challenge.pw_oncedone_k59_choices_refused
def top (i : Nat) : Stmt := P.main.body.getD i (.Pass ⟨0, 0, 0, 0⟩)
def kE (Q : Params) (n : Str) (t : Nat) (v : Value) : DictEntry := ⟨PyData.keyHash Q n, .str n t, v⟩
def kD (es : List DictEntry) (n : Nat) : Obj := ⟨.type "dict", none, .dict es.toArray n, #[]⟩
def kF (x qual : Str) (st : Stmt) (pm cd : Value) : Obj := ⟨.type "function", none, .func (fnOf x qual (a1d st) (R1 st) (g8 st) .none .none .none pm none cd .none), #[]⟩
def kC (n q : Str) (a b c : Nat) (i3 i4 i5 i6 i7 : Int) (r8 : Nat) (i10 : Int) (r11 r13 r14 r15 : Nat) (i16 i17 : Int) (d : Nat) : Obj := ⟨.type "code", none, .fields ([.str n a, .str q b, .str "/claim/cut.py" c, .int i3 0, .int i4 0, .int i5 0, .int i6 0, .int i7 0, .ref r8, .bool true, .int i10 0, .ref r11, .none, .ref r13, .ref r14, .ref r15, .int i16 0, .int i17 0, .str "/claim/cut.py" d] : List Value).toArray, ([] : List (Option Value)).toArray⟩
def kN (n q : Str) (a b c : Nat) (i3 i4 i5 i6 i7 : Int) (r8 : Nat) (i10 : Int) (r11 r15 : Nat) (i16 i17 : Int) (d : Nat) : Obj := ⟨.type "code", none, .fields ([.str n a, .str q b, .str "/claim/cut.py" c, .int i3 0, .int i4 0, .int i5 0, .int i6 0, .int i7 0, .ref r8, .bool true, .int i10 0, .ref r11, .none, .none, .none, .ref r15, .int i16 0, .int i17 0, .str "/claim/cut.py" d] : List Value).toArray, ([] : List (Option Value)).toArray⟩
abbrev kc' (n q : Str) (a l m r i j : Nat) : Obj := kC n q a (a + 1) (a + 2) l m 0 0 3 r i (r + 1) (r + 2) (r + 3) (r + 4) j l (j + 1)
abbrev kc (n : Str) (a l m r i j : Nat) : Obj := kc' n n a l m r i j
abbrev kn' (n q : Str) (a l m r i j : Nat) : Obj := kN n q a (a + 1) (a + 2) l m 0 0 3 r i (r + 1) (r + 2) j l (j + 1)
abbrev kn (n : Str) (a l m r i j : Nat) : Obj := kn' n n a l m r i j
abbrev kg (n : Str) (i : Nat) (m : Value) (c : Nat) : Obj := kF n n (top i) m (.ref c)
def kG (x qual : Str) (st : Stmt) (dv pm cd : Value) : Obj := ⟨.type "function", none, .func (fnOf x qual (a1d st) (R1 st) (g8 st) dv .none .none pm none cd .none), #[]⟩
abbrev m0 : Value := (.str "__main__" 164)
abbrev m1 : Value := (.str "oncedone.words" 194)
abbrev m2 : Value := (.str "oncedone.deeds" 253)
abbrev m3 : Value := (.str "oncedone.errors" 285)
abbrev m4 : Value := (.str "oncedone.checks" 421)
abbrev m5 : Value := (.str "oncedone.plans" 451)
abbrev m6 : Value := (.str "oncedone.ready" 581)
abbrev m7 : Value := (.str "oncedone.wanted" 678)
abbrev m8 : Value := (.str "oncedone.brinks" 758)
abbrev m9 : Value := (.str "oncedone.choices" 830)
abbrev m10 : Value := (.str "law_oncedone_k59_choices_refused" 979)
abbrev kM (Q : Params) (a : Nat) (m : Value) (l : Int) (r : List DictEntry) : List DictEntry := kE Q "__module__" a m :: kE Q "__firstlineno__" (a + 4) (.int l (a + 3)) :: r
abbrev kQ (Q : Params) (a : Nat) (m : Value) (n : Str) (l : Int) (r : List DictEntry) : List DictEntry := kE Q "__module__" a m :: kE Q "__qualname__" (a + 2) (.str n (a + 1)) :: kE Q "__firstlineno__" (a + 4) (.int l (a + 3)) :: r
abbrev kW (Q : Params) (s r : Nat) : List DictEntry := [kE Q "__static_attributes__" s (.ref r), kE Q "__dict__" (s + 2) (.ref (r + 3)), kE Q "__weakref__" (s + 4) (.ref (r + 4)), kE Q "__doc__" (s + 5) .none]
abbrev kU (n : Str) (s x : Nat) : Obj := ⟨.type "type", none, .cls { name := n, bases := [.type "object"], mro := [.ref (s + 1), .type "object"], ns := s, qualname := n, hasDict := true, subclasses := [] }, ([none, none, some (.str n x), some (.str n (x + 8)), some (.builtin "object.__new__"), some (.bool true)] : List (Option Value)).toArray⟩
abbrev kV (n : Str) (s p x : Nat) : Obj := ⟨.type "type", none, .cls { name := n, bases := [.ref 100], mro := [.ref (s + 1), .ref 100, .type "ValueError", .type "Exception", .type "BaseException", .type "object"], ns := s, qualname := n, hasDict := true, subclasses := [] }, ([some (.ref p), none, some (.str n x), some (.str n (x + 8)), some (.builtin "ValueError.__new__"), some (.bool true)] : List (Option Value)).toArray⟩
def K1 (Q : Params) : Frag := [
  (3, kD [kE Q "__name__" 165 m10, kE Q "__doc__" 166 .none, kE Q "__package__" 167 .none, kE Q "__loader__" 168 (.builtin "__main__.__loader__#opaque"), kE Q "__spec__" 169 .none, kE Q "__annotations__" 170 (.ref 6), kE Q "__builtins__" 171 (.ref 4), kE Q "__file__" 173 (.str "/claim/cut.py" 172), kE Q "__cached__" 174 .none, kE Q "_wall" 193 (.ref 21), kE Q "BOUND" 197 (.int (1000000000000) 196), kE Q "LETTERS" 199 (.str "abcdefghijklmnopqrstuvwxyz" 198), kE Q "FIGURES" 201 (.str "0123456789" 200), kE Q "LONGEST_NAME" 203 (.int (8) 202), kE Q "DEED_KINDS" 209 (.ref 22), kE Q "is_whole" 216 (.ref 29), kE Q "is_value" 223 (.ref 36), kE Q "is_name" 229 (.ref 41), kE Q "is_operand" 236 (.ref 48), kE Q "is_deed" 243 (.ref 55), kE Q "is_row" 252 (.ref 62), kE Q "deed_of" 261 (.ref 69), kE Q "set_by" 268 (.ref 76), kE Q "does" 276 (.ref 83), kE Q "spoils" 284 (.ref 90), kE Q "OnceError" 304 (.ref 100), kE Q "Wrong" 329 (.ref 120), kE Q "NoThing" 354 (.ref 139), kE Q "TooMany" 379 (.ref 158), kE Q "NoWay" 404 (.ref 177), kE Q "NoText" 420 (.ref 189), kE Q "MOST" 424 (.int (400) 423), kE Q "is_below" 432 (.ref 198), kE Q "check_length" 441 (.ref 205), kE Q "check_each" 450 (.ref 212), kE Q "FIRST_STEP" 456 (.ref 213), kE Q "are_nexts" 462 (.ref 218), kE Q "check_nexts" 468 (.ref 223), kE Q "stops_of" 474 (.ref 228), kE Q "turned" 480 (.ref 233), kE Q "reached" 491 (.ref 240), kE Q "check_ways" 501 (.ref 247), kE Q "steps_of" 507 (.ref 252), kE Q "Plan" 580 (.ref 309), kE Q "pass_on" 594 (.ref 320), kE Q "unready_steps" 607 (.ref 327), kE Q "Ready" 677 (.ref 377), kE Q "unwanted_ends" 690 (.ref 388), kE Q "unwanted_steps" 696 (.ref 393), kE Q "Wanted" 757 (.ref 436), kE Q "Brinks" 829 (.ref 490), kE Q "marked" 837 (.ref 499), kE Q "check_held" 843 (.ref 504), kE Q "unwaiting_places" 860 (.ref 511), kE Q "places_alive_behind" 876 (.ref 518), kE Q "Choice" 978 (.ref 597), kE Q "_law_bag" 986 (.ref 606), kE Q "_law_take" 999 (.ref 613), kE Q "_law_net" 1012 (.ref 620), kE Q "_law_mended" 1018 (.ref 625), kE Q "_law_name" 1024 (.ref 630), kE Q "_law_names" 1033 (.ref 637), kE Q "_law_operand" 1042 (.ref 644), kE Q "_law_deed" 1051 (.ref 651), kE Q "_law_row" 1062 (.ref 658), kE Q "_law_plan" 1077 (.ref 665), kE Q "_law_int" 1084 (.ref 672), kE Q "_law_refused" 1093 (.ref 679), kE Q "_law_bad_deed" 1103 (.ref 686), kE Q "_law_bad_held" 1109 (.ref 691), kE Q "law" 1115 (.ref 696)] 71),
  (20, kc "_wall" 187 1 1 15 181 191),
  (21, kg "_wall" 0 m0 20),
  (22, ⟨(.type "tuple"), none, .seq ([(.str "plus" 204), (.str "minus" 205), (.str "times" 206), (.str "less" 207), (.str "same" 208)] : List Value).toArray 0, ([] : List (Option Value)).toArray⟩),
  (28, kc "is_whole" 210 10 1 23 181 214),
  (29, kg "is_whole" 7 m1 28),
  (35, kc "is_value" 217 12 1 30 181 221),
  (36, kg "is_value" 8 m1 35),
  (40, kn "is_name" 224 14 1 37 181 227),
  (41, kg "is_name" 9 m1 40),
  (47, kc "is_operand" 230 18 1 42 181 234),
  (48, kg "is_operand" 10 m1 47),
  (54, kc "is_deed" 237 20 1 49 181 241),
  (55, kg "is_deed" 11 m1 54),
  (61, kc "is_row" 244 24 1 56 181 250),
  (62, kg "is_row" 12 m1 61),
  (68, kc "deed_of" 255 39 1 63 181 259),
  (69, kg "deed_of" 14 m2 68),
  (75, kc "set_by" 262 41 1 70 181 266),
  (76, kg "set_by" 15 m2 75),
  (82, kc "does" 269 43 2 77 181 274),
  (83, kg "does" 16 m2 82),
  (89, kc "spoils" 277 45 2 84 181 282),
  (90, kg "spoils" 17 m2 89),
  (99, kD (kM Q 294 m3 48 [kE Q "__static_attributes__" 299 (.ref 98), kE Q "__weakref__" 301 (.ref 101), kE Q "__doc__" 302 .none]) 3),
  (100, ⟨(.type "type"), none, .cls { name := "OnceError", bases := [(.type "ValueError")], mro := [(.ref 100), (.type "ValueError"), (.type "Exception"), (.type "BaseException"), (.type "object")], ns := 99, qualname := "OnceError", hasDict := true, subclasses := [(.ref 120), (.ref 139), (.ref 158), (.ref 177), (.ref 189)] }, ([some (.ref 91), none, some (.str "OnceError" 287), some (.str "OnceError" 295), some (.builtin "ValueError.__new__"), some (.bool true)] : List (Option Value)).toArray⟩),
  (116, kc' "__init__" "Wrong.__init__" 317 52 2 111 181 322),
  (117, kF "__init__" "Wrong.__init__" (A5 (top 20) 0) m3 (.ref 116)),
  (119, kD (kM Q 312 m3 50 [kE Q "__init__" 324 (.ref 117), kE Q "__static_attributes__" 326 (.ref 118), kE Q "__doc__" 327 .none]) 2),
  (120, kV "Wrong" 119 104 305),
  (135, kc' "__init__" "NoThing.__init__" 342 56 2 130 181 347),
  (136, kF "__init__" "NoThing.__init__" (A5 (top 21) 0) m3 (.ref 135)),
  (138, kD (kM Q 337 m3 54 [kE Q "__init__" 349 (.ref 136), kE Q "__static_attributes__" 351 (.ref 137), kE Q "__doc__" 352 .none]) 2),
  (139, kV "NoThing" 138 123 330),
  (154, kc' "__init__" "TooMany.__init__" 367 60 2 149 181 372),
  (155, kF "__init__" "TooMany.__init__" (A5 (top 22) 0) m3 (.ref 154)),
  (157, kD (kM Q 362 m3 58 [kE Q "__init__" 374 (.ref 155), kE Q "__static_attributes__" 376 (.ref 156), kE Q "__doc__" 377 .none]) 2),
  (158, kV "TooMany" 157 142 355),
  (173, kc' "__init__" "NoWay.__init__" 392 64 2 168 181 397),
  (174, kF "__init__" "NoWay.__init__" (A5 (top 23) 0) m3 (.ref 173)),
  (176, kD (kM Q 387 m3 62 [kE Q "__init__" 399 (.ref 174), kE Q "__static_attributes__" 401 (.ref 175), kE Q "__doc__" 402 .none]) 2),
  (177, kV "NoWay" 176 161 380),
  (188, kD (kM Q 412 m3 66 [kE Q "__static_attributes__" 417 (.ref 187), kE Q "__doc__" 418 .none]) 2),
  (189, kV "NoText" 188 180 405),
  (197, kc "is_below" 425 70 2 192 181 430),
  (198, kg "is_below" 27 m4 197),
  (204, kc "check_length" 433 72 3 199 181 439),
  (205, kg "check_length" 28 m4 204)]
def adr1 : List Addr := [3, 20, 21, 22, 28, 29, 35, 36, 40, 41, 47, 48, 54, 55, 61, 62, 68, 69, 75, 76, 82, 83, 89, 90, 99, 100, 116, 117, 119, 120, 135, 136, 138, 139, 154, 155, 157, 158, 173, 174, 176, 177, 188, 189, 197, 198, 204, 205]
def K2 (Q : Params) : Frag := [
  (211, kc "check_each" 442 77 1 206 181 448),
  (212, kg "check_each" 29 m4 211),
  (213, ⟨(.type "tuple"), none, .seq ([(.int (-1) 454), (.int (0) 455)] : List Value).toArray 0, ([] : List (Option Value)).toArray⟩),
  (217, kn "are_nexts" 457 83 3 214 181 460),
  (218, kg "are_nexts" 32 m5 217),
  (222, kn "check_nexts" 463 88 2 219 181 466),
  (223, kg "check_nexts" 33 m5 222),
  (227, kn "stops_of" 469 92 1 224 181 472),
  (228, kg "stops_of" 34 m5 227),
  (232, kn "turned" 475 94 1 229 181 478),
  (233, kg "turned" 35 m5 232),
  (239, kc "reached" 481 100 2 234 181 489),
  (240, kg "reached" 36 m5 239),
  (246, kc "check_ways" 492 109 1 241 181 499),
  (247, kg "check_ways" 37 m5 246),
  (251, kn "steps_of" 502 115 1 248 181 505),
  (252, kg "steps_of" 38 m5 251),
  (263, kn' "__init__" "Plan.__init__" 520 122 3 260 181 523),
  (264, kF "__init__" "Plan.__init__" (A5 (top 39) 0) m5 (.ref 263)),
  (270, kc' "steps" "Plan.steps" 526 133 1 265 181 530),
  (271, kF "steps" "Plan.steps" (A5 (top 39) 1) m5 (.ref 270)),
  (277, kc' "leads_to" "Plan.leads_to" 533 136 2 272 181 538),
  (278, kF "leads_to" "Plan.leads_to" (A5 (top 39) 2) m5 (.ref 277)),
  (284, kc' "steps_into" "Plan.steps_into" 541 141 2 279 181 546),
  (285, kF "steps_into" "Plan.steps_into" (A5 (top 39) 3) m5 (.ref 284)),
  (291, kc' "stops" "Plan.stops" 549 144 1 286 181 553),
  (292, kF "stops" "Plan.stops" (A5 (top 39) 4) m5 (.ref 291)),
  (298, kc' "deeds" "Plan.deeds" 556 147 1 293 181 560),
  (299, kF "deeds" "Plan.deeds" (A5 (top 39) 5) m5 (.ref 298)),
  (305, kc' "names" "Plan.names" 563 150 1 300 181 567),
  (306, kF "names" "Plan.names" (A5 (top 39) 6) m5 (.ref 305)),
  (308, kD (kM Q 515 m5 120 ([kE Q "__init__" 525 (.ref 264), kE Q "steps" 532 (.ref 271), kE Q "leads_to" 540 (.ref 278), kE Q "steps_into" 548 (.ref 285), kE Q "stops" 555 (.ref 292), kE Q "deeds" 562 (.ref 299), kE Q "names" 569 (.ref 306)] ++ kW Q 573 307)) 4),
  (309, kU "Plan" 308 508),
  (319, kc "pass_on" 583 153 4 314 181 592),
  (320, kg "pass_on" 41 m6 319),
  (326, kc "unready_steps" 595 158 3 321 181 605),
  (327, kg "unready_steps" 42 m6 326),
  (338, kn' "__init__" "Ready.__init__" 620 173 3 335 181 623),
  (339, kF "__init__" "Ready.__init__" (A5 (top 43) 0) m6 (.ref 338)),
  (345, kc' "ready_at" "Ready.ready_at" 626 179 2 340 181 631),
  (346, kF "ready_at" "Ready.ready_at" (A5 (top 43) 1) m6 (.ref 345)),
  (352, kc' "ready_behind" "Ready.ready_behind" 634 182 2 347 181 640),
  (353, kF "ready_behind" "Ready.ready_behind" (A5 (top 43) 2) m6 (.ref 352)),
  (359, kc' "ready_on" "Ready.ready_on" 643 188 2 354 181 648),
  (360, kF "ready_on" "Ready.ready_on" (A5 (top 43) 3) m6 (.ref 359)),
  (366, kc' "begins_unready" "Ready.begins_unready" 651 191 2 361 181 656),
  (367, kF "begins_unready" "Ready.begins_unready" (A5 (top 43) 4) m6 (.ref 366)),
  (373, kc' "way_unready" "Ready.way_unready" 659 194 2 368 181 664)]
def adr2 : List Addr := [211, 212, 213, 217, 218, 222, 223, 227, 228, 232, 233, 239, 240, 246, 247, 251, 252, 263, 264, 270, 271, 277, 278, 284, 285, 291, 292, 298, 299, 305, 306, 308, 309, 319, 320, 326, 327, 338, 339, 345, 346, 352, 353, 359, 360, 366, 367, 373]
def K3 (Q : Params) : Frag := [
  (374, kF "way_unready" "Ready.way_unready" (A5 (top 43) 5) m6 (.ref 373)),
  (376, kD (kM Q 615 m6 171 ([kE Q "__init__" 625 (.ref 339), kE Q "ready_at" 633 (.ref 346), kE Q "ready_behind" 642 (.ref 353), kE Q "ready_on" 650 (.ref 360), kE Q "begins_unready" 658 (.ref 367), kE Q "way_unready" 666 (.ref 374)] ++ kW Q 670 375)) 4),
  (377, kU "Ready" 376 608),
  (387, kc "unwanted_ends" 680 197 2 382 181 688),
  (388, kg "unwanted_ends" 45 m7 387),
  (392, kn "unwanted_steps" 691 203 2 389 181 694),
  (393, kg "unwanted_steps" 46 m7 392),
  (406, kc' "__init__" "Wanted.__init__" 709 217 3 401 181 715),
  (407, kF "__init__" "Wanted.__init__" (A5 (top 47) 0) m7 (.ref 406)),
  (413, kc' "wanted_at" "Wanted.wanted_at" 718 221 2 408 181 723),
  (414, kF "wanted_at" "Wanted.wanted_at" (A5 (top 47) 1) m7 (.ref 413)),
  (418, kn' "wanted_behind" "Wanted.wanted_behind" 726 224 2 415 181 729),
  (419, kF "wanted_behind" "Wanted.wanted_behind" (A5 (top 47) 2) m7 (.ref 418)),
  (425, kc' "wanted_on" "Wanted.wanted_on" 732 228 2 420 181 737),
  (426, kF "wanted_on" "Wanted.wanted_on" (A5 (top 47) 3) m7 (.ref 425)),
  (432, kc' "way_unwanted" "Wanted.way_unwanted" 740 231 2 427 181 745),
  (433, kF "way_unwanted" "Wanted.way_unwanted" (A5 (top 47) 4) m7 (.ref 432)),
  (435, kD (kM Q 704 m7 215 ([kE Q "__init__" 717 (.ref 407), kE Q "wanted_at" 725 (.ref 414), kE Q "wanted_behind" 731 (.ref 419), kE Q "wanted_on" 739 (.ref 426), kE Q "way_unwanted" 747 (.ref 433)] ++ kW Q 750 434)) 4),
  (436, kU "Wanted" 435 697),
  (451, kn' "__init__" "Brinks.__init__" 772 236 3 448 181 775),
  (452, kF "__init__" "Brinks.__init__" (A5 (top 49) 0) m8 (.ref 451)),
  (458, kc' "is_brink" "Brinks.is_brink" 778 243 2 453 181 783),
  (459, kF "is_brink" "Brinks.is_brink" (A5 (top 49) 1) m8 (.ref 458)),
  (465, kc' "is_spoilt_ahead" "Brinks.is_spoilt_ahead" 786 248 2 460 181 791),
  (466, kF "is_spoilt_ahead" "Brinks.is_spoilt_ahead" (A5 (top 49) 2) m8 (.ref 465)),
  (472, kc' "steps" "Brinks.steps" 794 251 1 467 181 798),
  (473, kF "steps" "Brinks.steps" (A5 (top 49) 3) m8 (.ref 472)),
  (479, kc' "why_brink" "Brinks.why_brink" 801 254 2 474 181 806),
  (480, kF "why_brink" "Brinks.why_brink" (A5 (top 49) 4) m8 (.ref 479)),
  (486, kc' "way_unwanted_behind" "Brinks.way_unwanted_behind" 809 257 2 481 181 814),
  (487, kF "way_unwanted_behind" "Brinks.way_unwanted_behind" (A5 (top 49) 5) m8 (.ref 486)),
  (489, kD (kM Q 767 m8 234 ([kE Q "__init__" 777 (.ref 452), kE Q "is_brink" 785 (.ref 459), kE Q "is_spoilt_ahead" 793 (.ref 466), kE Q "steps" 800 (.ref 473), kE Q "why_brink" 808 (.ref 480), kE Q "way_unwanted_behind" 816 (.ref 487)] ++ kW Q 822 488)) 4),
  (490, kU "Brinks" 489 760),
  (498, kn "marked" 832 260 1 495 181 835),
  (499, kg "marked" 51 m9 498),
  (503, kn "check_held" 838 262 3 500 181 841),
  (504, kg "check_held" 52 m9 503),
  (510, kc "unwaiting_places" 844 266 4 505 181 858),
  (511, kg "unwaiting_places" 53 m9 510),
  (517, kc "places_alive_behind" 861 281 4 512 181 874),
  (518, kg "places_alive_behind" 54 m9 517),
  (526, ⟨(.type "tuple"), none, .seq ([.none] : List Value).toArray 0, ([] : List (Option Value)).toArray⟩),
  (530, kn' "__init__" "Choice.__init__" 889 297 4 527 181 892),
  (531, kG "__init__" "Choice.__init__" (A5 (top 55) 0) (.ref 526) m9 (.ref 530)),
  (537, kc' "waits_at" "Choice.waits_at" 895 313 2 532 181 900),
  (538, kF "waits_at" "Choice.waits_at" (A5 (top 55) 1) m9 (.ref 537)),
  (544, kc' "waits_on" "Choice.waits_on" 903 316 2 539 181 908),
  (545, kF "waits_on" "Choice.waits_on" (A5 (top 55) 2) m9 (.ref 544))]
def adr3 : List Addr := [374, 376, 377, 387, 388, 392, 393, 406, 407, 413, 414, 418, 419, 425, 426, 432, 433, 435, 436, 451, 452, 458, 459, 465, 466, 472, 473, 479, 480, 486, 487, 489, 490, 498, 499, 503, 504, 510, 511, 517, 518, 526, 530, 531, 537, 538, 544, 545]
def K4 (Q : Params) : Frag := [
  (551, kc' "is_put" "Choice.is_put" 911 321 2 546 181 916),
  (552, kF "is_put" "Choice.is_put" (A5 (top 55) 3) m9 (.ref 551)),
  (558, kc' "alive_at" "Choice.alive_at" 919 324 2 553 181 924),
  (559, kF "alive_at" "Choice.alive_at" (A5 (top 55) 4) m9 (.ref 558)),
  (565, kc' "alive_behind" "Choice.alive_behind" 927 327 2 560 181 932),
  (566, kF "alive_behind" "Choice.alive_behind" (A5 (top 55) 5) m9 (.ref 565)),
  (572, kc' "puts" "Choice.puts" 935 330 1 567 181 939),
  (573, kF "puts" "Choice.puts" (A5 (top 55) 6) m9 (.ref 572)),
  (579, kc' "outs" "Choice.outs" 942 333 1 574 181 946),
  (580, kF "outs" "Choice.outs" (A5 (top 55) 7) m9 (.ref 579)),
  (586, kc' "stays" "Choice.stays" 949 336 1 581 181 953),
  (587, kF "stays" "Choice.stays" (A5 (top 55) 8) m9 (.ref 586)),
  (593, kc' "stores" "Choice.stores" 956 339 1 588 181 960),
  (594, kF "stores" "Choice.stores" (A5 (top 55) 9) m9 (.ref 593)),
  (596, kD (kM Q 884 m9 295 ([kE Q "__init__" 894 (.ref 531), kE Q "waits_at" 902 (.ref 538), kE Q "waits_on" 910 (.ref 545), kE Q "is_put" 918 (.ref 552), kE Q "alive_at" 926 (.ref 559), kE Q "alive_behind" 934 (.ref 566), kE Q "puts" 941 (.ref 573), kE Q "outs" 948 (.ref 580), kE Q "stays" 955 (.ref 587), kE Q "stores" 962 (.ref 594)] ++ kW Q 971 595)) 4),
  (597, kU "Choice" 596 877),
  (605, kn "_law_bag" 981 342 1 602 181 984),
  (606, kg "_law_bag" 57 m10 605),
  (612, kc "_law_take" 987 344 2 607 181 997),
  (613, kg "_law_take" 58 m10 612),
  (619, kc "_law_net" 1000 363 2 614 181 1010),
  (620, kg "_law_net" 59 m10 619),
  (624, kn "_law_mended" 1013 381 1 621 181 1016),
  (625, kg "_law_mended" 60 m10 624),
  (629, kn "_law_name" 1019 396 2 626 181 1022),
  (630, kg "_law_name" 61 m10 629),
  (636, kc "_law_names" 1025 402 1 631 181 1031),
  (637, kg "_law_names" 62 m10 636),
  (643, kc "_law_operand" 1034 407 2 638 181 1040),
  (644, kg "_law_operand" 63 m10 643),
  (650, kc "_law_deed" 1043 416 2 645 181 1049),
  (651, kg "_law_deed" 64 m10 650),
  (657, kc "_law_row" 1052 419 3 652 181 1060),
  (658, kg "_law_row" 65 m10 657),
  (664, kc "_law_plan" 1063 429 1 659 181 1075),
  (665, kg "_law_plan" 66 m10 664),
  (671, kc "_law_int" 1078 446 1 666 181 1082),
  (672, kg "_law_int" 67 m10 671),
  (678, kc "_law_refused" 1085 448 1 673 181 1091),
  (679, kg "_law_refused" 68 m10 678),
  (685, kc "_law_bad_deed" 1094 465 2 680 181 1101),
  (686, kg "_law_bad_deed" 69 m10 685),
  (690, kn "_law_bad_held" 1104 481 2 687 181 1107),
  (691, kg "_law_bad_held" 70 m10 690),
  (695, kn "law" 1110 496 1 692 181 1113),
  (696, kg "law" 71 m10 695)]
def adr4 : List Addr := [551, 552, 558, 559, 565, 566, 572, 573, 579, 580, 586, 587, 593, 594, 596, 597, 605, 606, 612, 613, 619, 620, 624, 625, 629, 630, 636, 637, 643, 644, 650, 651, 657, 658, 664, 665, 671, 672, 678, 679, 685, 686, 690, 691, 695, 696]
def K (Q : Params) : Frag := K1 Q ++ (K2 Q ++ (K3 Q ++ K4 Q))
def adr : List Addr := adr1 ++ (adr2 ++ (adr3 ++ adr4))
def q : Program := view P [71]
def loose : List Str := (["_wall", "BOUND", "LETTERS", "FIGURES", "LONGEST_NAME", "DEED_KINDS", "is_whole", "is_value", "is_name", "is_operand", "is_deed", "is_row", "deed_of", "set_by", "does", "spoils", "OnceError", "Wrong", "NoThing", "TooMany", "NoWay", "NoText", "MOST", "is_below", "check_length", "check_each", "FIRST_STEP", "are_nexts", "check_nexts", "stops_of", "turned", "reached", "check_ways", "steps_of", "Plan", "pass_on", "unready_steps", "Ready", "unwanted_ends", "unwanted_steps", "Wanted", "Brinks", "marked", "check_held", "unwaiting_places", "places_alive_behind", "Choice", "_law_bag", "_law_take", "_law_net", "_law_mended", "_law_name", "_law_names", "_law_operand", "_law_deed", "_law_row", "_law_plan", "_law_int", "_law_refused", "_law_bad_deed", "_law_bad_held"] : List String).map Str.ofString
theorem left_one {p q : Program} {loose : List Str} {Xt : Shared → Bool} {α : Type} {Yf : Shared → α} {Ya : World → α} {N m₀ : Nat} {ann : Option Value} (e : opening p = plainProg p.main.scope.names) (hN : Nat.ble 600 N = true) (f : ∀ s, fenceModules? p s = some s)
    (size : ∀ w : World, ((boot_heap w.params).isNs mainGlobals, (boot_heap w.params).objs.size, (boot_heap w.params).nsMap mainGlobals "__annotations__") = (true, m₀, ann))
    {r : World → OsState → Option Shared} (hr : ∀ w os x, r w os = some x → topRun treeTable p w m₀ ann N ⟨boot_heap w.params, Array.mk [], boot_drawn, boot_toks, os⟩ (topStub p) = some x)
    (ra : ∀ w os, (r w os).map (fun s₁ => staticsOk (importedModules p.main.body) (boot_heap w.params) s₁.heap && namesBound p s₁.heap && gensDone s₁ && laidKept (boot_heap w.params) s₁.heap) = some true)
    (rb : ∀ w os, (r w os).map (openSeen q loose (importedModules p.main.body) Xt true) = some (openGood q loose))
    (rc : ∀ w os, (r w os).map Yf = some (Ya w)) :
    LeftO p q loose Xt Yf Ya N := fun w => by
  obtain ⟨⟨h, gs, d, k, os⟩, e1, e2⟩ := Option.map_eq_some_iff.mp (boot_open e hN f w);obtain ⟨rfl, rfl, rfl, rfl⟩ : h = boot_heap w.params ∧ gs = Array.mk [] ∧ d = boot_drawn ∧ k = boot_toks := by simpa using e2
  obtain ⟨z1, z2, z3⟩ : _ ∧ _ ∧ _ := by simpa only [Prod.mk.injEq] using size w
  obtain ⟨s₁, r1, r3⟩ := Option.map_eq_some_iff.mp (ra w os);have rb := rb w os;have rc := rc w os;rw [r1] at rb rc;have r1 := hr w os _ r1;have r4 : (openSeen q loose (importedModules p.main.body) Xt true s₁, Yf s₁) = (openGood q loose, Ya w) := Prod.ext (Option.some.inj rb) (Option.some.inj rc)
  have t : topFrom treeTable p w N ⟨boot_heap w.params, Array.mk [], boot_drawn, boot_toks, os⟩ = some s₁ := by
    unfold topFrom;dsimp only;rw [z1, z2, z3, r1];show (match staticsOk (importedModules p.main.body) (boot_heap w.params) s₁.heap && namesBound p s₁.heap && gensDone s₁ && laidKept (boot_heap w.params) s₁.heap with | true => some s₁ | false => none) = _;rw [r3]
  unfold openEnds;rw [e1];show (topFrom treeTable p w N _).map _ = _;rw [t];exact congrArg some r4
abbrev hook : Hook := kHook K adr (fun _ => by kernel_rfl)
abbrev row : OpenLaw := PySem.Challenge.rw_oncedone_k59_choices_refused
def kZ (x q : Str) (st : Stmt) : Obj := ⟨.none, none, .func { fnOf x q (a1d st) (R1 st) (g8 st) .none .none .none .none none .none .none with globals := 0 }, #[]⟩
def kS (xs : List Value) (n : Nat) : Obj := ⟨.type "tuple", none, .seq xs.toArray n, ([] : List (Option Value)).toArray⟩
noncomputable section
def kk (a : Addr) (Q : Params) : Obj := ((K Q).lookup a).getD (boot_o_4 Q)
abbrev kY (n : Str) (i : Nat) : Obj := kZ n n (top i)
abbrev k0 : Obj := ⟨.none, none, .fields ([] : List Value).toArray, ([] : List (Option Value)).toArray⟩
abbrev kf (xs : List Value) (z : Obj) (a : Nat) (Q : Params) (r : List Obj) : List Obj := kS [] 0 :: k0 :: kS xs 0 :: kS [] 0 :: z :: kk a Q :: kk (a + 1) Q :: r
abbrev ke (z : Obj) (a : Nat) (Q : Params) (r : List Obj) : List Obj := kS [] 0 :: k0 :: z :: kk a Q :: kk (a + 1) Q :: r
abbrev kw (c : String) (xs : List Value) : Obj := ⟨.type c, none, .fields xs.toArray, ([] : List (Option Value)).toArray⟩
abbrev kl (n : Str) (a l r : Nat) : Obj := kw "code" [.str n a, .str n (a + 1), .str "/claim/cut.py" (a + 2), .int l 0, .int 0 0, .int 0 0, .int 0 0, .int 0 0, .ref r, .bool false, .int 181 0, .ref (r + 1), .none, .none, .none, .none, .int (a + 3 : Nat) 0, .int l 0, .str "/claim/cut.py" (a + 4)]
abbrev kb (b : String) (v : Value) : Obj := kw "builtin_function_or_method" [.builtin b, v]
abbrev ku (r : Nat) : Obj := kw "super" [.ref r, .ref r, .ref r]
abbrev kr (c l : Nat) (m : Value) : Obj := ⟨.type "frame", none, .plain, ([some (.ref c), some (.ref 3), some (.ref l), none, some m, none, some (.ref 0)] : List (Option Value)).toArray⟩
abbrev kt (xs : List (Nat × Nat × Nat)) : Obj := ⟨.none, none, .fields (xs.flatMap fun x => ([.int x.1 0, .int x.2.1 0, .ref x.2.2] : List Value)).toArray, ([] : List (Option Value)).toArray⟩
abbrev kx (o : Obj) (r : List Obj) : List Obj := o :: r
def h1 (Q : Params) : List Obj :=
kx (boot_o_0 Q) <|
kx (boot_o_1 Q) <|
kx (boot_o_2 Q) <|
kx (kD [kE Q "__name__" 165 m6, kE Q "__doc__" 166 .none, kE Q "__package__" 167 .none, kE Q "__loader__" 168 (.builtin "__main__.__loader__#opaque"), kE Q "__spec__" 169 .none, kE Q "__annotations__" 170 (.ref 6), kE Q "__builtins__" 171 (.ref 4), kE Q "__file__" 173 (.str "/claim/cut.py" 172), kE Q "__cached__" 174 .none, kE Q "_wall" 193 (.ref 21), kE Q "BOUND" 197 (.int (1000000000000) 196), kE Q "LETTERS" 199 (.str "abcdefghijklmnopqrstuvwxyz" 198), kE Q "FIGURES" 201 (.str "0123456789" 200), kE Q "LONGEST_NAME" 203 (.int (8) 202), kE Q "DEED_KINDS" 209 (.ref 22), kE Q "is_whole" 216 (.ref 29), kE Q "is_value" 223 (.ref 36), kE Q "is_name" 229 (.ref 41), kE Q "is_operand" 236 (.ref 48), kE Q "is_deed" 243 (.ref 55), kE Q "is_row" 252 (.ref 62), kE Q "deed_of" 261 (.ref 69), kE Q "set_by" 268 (.ref 76), kE Q "does" 276 (.ref 83), kE Q "spoils" 284 (.ref 90), kE Q "OnceError" 304 (.ref 100), kE Q "Wrong" 329 (.ref 120), kE Q "NoThing" 354 (.ref 139), kE Q "TooMany" 379 (.ref 158), kE Q "NoWay" 404 (.ref 177), kE Q "NoText" 420 (.ref 189), kE Q "MOST" 424 (.int (400) 423), kE Q "is_below" 432 (.ref 198), kE Q "check_length" 441 (.ref 205), kE Q "check_each" 450 (.ref 212), kE Q "FIRST_STEP" 456 (.ref 213), kE Q "are_nexts" 462 (.ref 218), kE Q "check_nexts" 468 (.ref 223), kE Q "stops_of" 474 (.ref 228), kE Q "turned" 480 (.ref 233), kE Q "reached" 491 (.ref 240), kE Q "check_ways" 501 (.ref 247), kE Q "steps_of" 507 (.ref 252), kE Q "Plan" 580 (.ref 309), kE Q "pass_on" 594 (.ref 320), kE Q "unready_steps" 607 (.ref 327), kE Q "Ready" 677 (.ref 377)] 47) <|
kx (boot_o_4 Q) <|
kx (boot_o_5 Q) <|
kx (boot_o_6 Q) <|
kx (boot_o_7 Q) <|
kx (boot_o_8 Q) <|
kx (boot_o_9 Q) <|
kx (boot_o_10 Q) <|
kx (kS [] 0) <|
kx (kt [(1, 0, 20), (10, 0, 28), (12, 0, 35), (14, 0, 40), (18, 0, 47), (20, 0, 54), (24, 0, 61), (39, 0, 68), (41, 0, 75), (43, 0, 82), (45, 0, 89), (48, 0, 96), (50, 0, 109), (54, 0, 128), (58, 0, 147), (62, 0, 166), (66, 0, 185), (70, 0, 197), (72, 0, 204), (77, 0, 211), (83, 0, 217), (88, 0, 222), (92, 0, 227), (94, 0, 232), (100, 0, 239), (109, 0, 246), (115, 0, 251), (120, 0, 258), (153, 0, 319), (158, 0, 326), (171, 0, 333)]) <|
kx (kl "<module>" 182 1 11) <|
kx (kr 13 3 m0) <|
kf [(.str "k" 190)] (kY "_wall" 0) 20 Q <|
kx (kk 22 Q) <|
kf [(.str "thing" 213)] (kY "is_whole" 7) 28 Q <|
kf [(.str "thing" 220)] (kY "is_value" 8) 35 Q <|
ke (kY "is_name" 9) 40 Q <|
kf [(.str "thing" 233)] (kY "is_operand" 10) 47 Q <|
kf [(.str "thing" 240)] (kY "is_deed" 11) 54 Q <|
kf [(.str "thing" 247), (.str "kind" 248), (.str "rest" 249)] (kY "is_row" 12) 61 Q <|
kf [(.str "row" 258)] (kY "deed_of" 14) 68 Q <|
kf [(.str "row" 265)] (kY "set_by" 15) 75 Q <|
kf [(.str "row" 272), (.str "deed" 273)] (kY "does" 16) 82 Q <|
kf [(.str "row" 280), (.str "deed" 281)] (kY "spoils" 17) 89 Q <|
kx (kS [(.type "ValueError")] 0) <|
kx (kb "type.__prepare__" (.type "type")) <|
kx (kD (kQ Q 294 m3 "OnceError" 48 [kE Q "__static_attributes__" 299 (.ref 98)]) 4) <|
kx (kS [] 0) <|
kx k0 <|
kx (kl "OnceError" 289 48 94) <|
kx (kr 96 93 m3) <|
kx (kS [] 0) <|
kx (kk 99 Q) <|
kx (kk 100 Q) <|
kx ⟨(.type "getset_descriptor"), none, .fields ([(.str "__weakref__" 300), (.ref 100), (.builtin "ExceptionGroup.__weakref__"), .none] : List Value).toArray, ([] : List (Option Value)).toArray⟩ <|
kx (ku 100) <|
kx (kb "object.__init_subclass__" (.ref 100)) <|
kx (kS [(.ref 100)] 0) <|
kx (kb "type.__prepare__" (.type "type")) <|
kx (kD (kQ Q 312 m3 "Wrong" 50 [kE Q "__init__" 324 (.ref 117), kE Q "__static_attributes__" 326 (.ref 118)]) 5) <|
kx (kS [] 0) <|
kx (kt [(52, 4, 116)]) <|
kx (kl "Wrong" 307 50 107) <|
kx (kr 109 106 m3) <|
kf [(.str "self" 320), (.str "at" 321)] (kZ "__init__" "Wrong.__init__" (A5 (top 20) 0)) 116 Q <|
kx (kS [(.str "at" 325)] 0) <|
kx (kk 119 Q) <|
kx (kk 120 Q) <|
kx (ku 120) <|
kx (kb "object.__init_subclass__" (.ref 120)) <|
kx (kS [(.ref 100)] 0) <|
kx (kb "type.__prepare__" (.type "type")) <|
kx (kD (kQ Q 337 m3 "NoThing" 54 [kE Q "__init__" 349 (.ref 136), kE Q "__static_attributes__" 351 (.ref 137)]) 5) <|
kx (kS [] 0) <|
kx (kt [(56, 4, 135)]) <|
kx (kl "NoThing" 332 54 126) <|
kx (kr 128 125 m3) <|
kf [(.str "self" 345), (.str "at" 346)] (kZ "__init__" "NoThing.__init__" (A5 (top 21) 0)) 135 Q <|
kx (kS [(.str "at" 350)] 0) <|
kx (kk 138 Q) <|
kx (kk 139 Q) <|
kx (ku 139) <|
kx (kb "object.__init_subclass__" (.ref 139)) <|
kx (kS [(.ref 100)] 0) <|
kx (kb "type.__prepare__" (.type "type")) <|
kx (kD (kQ Q 362 m3 "TooMany" 58 [kE Q "__init__" 374 (.ref 155), kE Q "__static_attributes__" 376 (.ref 156)]) 5) <|
kx (kS [] 0) <|
kx (kt [(60, 4, 154)]) <|
kx (kl "TooMany" 357 58 145) <|
kx (kr 147 144 m3) <|
kf [(.str "self" 370), (.str "most" 371)] (kZ "__init__" "TooMany.__init__" (A5 (top 22) 0)) 154 Q <|
kx (kS [(.str "most" 375)] 0) <|
kx (kk 157 Q) <|
kx (kk 158 Q) <|
kx (ku 158) <|
kx (kb "object.__init_subclass__" (.ref 158)) <|
kx (kS [(.ref 100)] 0) <|
kx (kb "type.__prepare__" (.type "type")) <|
kx (kD (kQ Q 387 m3 "NoWay" 62 [kE Q "__init__" 399 (.ref 174), kE Q "__static_attributes__" 401 (.ref 175)]) 5) <|
kx (kS [] 0) <|
kx (kt [(64, 4, 173)]) <|
kx (kl "NoWay" 382 62 164) <|
kx (kr 166 163 m3) <|
kf [(.str "self" 395), (.str "at" 396)] (kZ "__init__" "NoWay.__init__" (A5 (top 23) 0)) 173 Q <|
kx (kS [(.str "at" 400)] 0) <|
kx (kk 176 Q) <|
kx (kk 177 Q) <|
kx (ku 177) <|
kx (kb "object.__init_subclass__" (.ref 177)) <|
kx (kS [(.ref 100)] 0) <|
kx (kb "type.__prepare__" (.type "type")) <|
kx (kD (kQ Q 412 m3 "NoText" 66 [kE Q "__static_attributes__" 417 (.ref 187)]) 4) <|
kx (kS [] 0) <|
kx k0 <|
kx (kl "NoText" 407 66 183) <|
kx (kr 185 182 m3) <|
kx (kS [] 0) <|
kx (kk 188 Q) <|
kx (kk 189 Q) <|
kx (ku 189) <|
kx (kb "object.__init_subclass__" (.ref 189)) <|
kf [(.str "thing" 428), (.str "many" 429)] (kY "is_below" 27) 197 Q <|
kf [(.str "things" 436), (.str "at" 437), (.str "least" 438)] (kY "check_length" 28) 204 Q <|
kf [(.str "rights" 445), (.str "k" 446), (.str "right" 447)] (kY "check_each" 29) 211 Q <|
kx (kk 213 Q) <|
ke (kY "are_nexts" 32) 217 Q <|
ke (kY "check_nexts" 33) 222 Q <|
ke (kY "stops_of" 34) 227 Q <|
ke (kY "turned" 35) 232 Q <|
kf [(.str "begins" 484), (.str "leads" 485), (.str "seen" 486), (.str "waiting" 487), (.str "place" 488)] (kY "reached" 36) 239 Q <|
kf [(.str "nexts" 495), (.str "begun" 496), (.str "ending" 497), (.str "place" 498)] (kY "check_ways" 37) 246 Q <|
ke (kY "steps_of" 38) 251 Q <|
kx (kS [] 0) <|
kx (kb "type.__prepare__" (.type "type")) <|
kx (kD (kQ Q 515 m5 "Plan" 120 [kE Q "__init__" 525 (.ref 264), kE Q "steps" 532 (.ref 271), kE Q "leads_to" 540 (.ref 278), kE Q "steps_into" 548 (.ref 285), kE Q "stops" 555 (.ref 292), kE Q "deeds" 562 (.ref 299), kE Q "names" 569 (.ref 306), kE Q "__static_attributes__" 573 (.ref 307)]) 11) <|
kx (kS [] 0) <|
kx (kt [(122, 4, 263), (133, 4, 270), (136, 4, 277), (141, 4, 284), (144, 4, 291), (147, 4, 298), (150, 4, 305)]) <|
kx (kl "Plan" 510 120 256) <|
kx (kr 258 255 m5) <|
ke (kZ "__init__" "Plan.__init__" (A5 (top 39) 0)) 263 Q <|
kf [(.str "self" 529)] (kZ "steps" "Plan.steps" (A5 (top 39) 1)) 270 Q <|
kf [(.str "self" 536), (.str "step" 537)] (kZ "leads_to" "Plan.leads_to" (A5 (top 39) 2)) 277 Q <|
kf [(.str "self" 544), (.str "place" 545)] (kZ "steps_into" "Plan.steps_into" (A5 (top 39) 3)) 284 Q <|
kf [(.str "self" 552)] (kZ "stops" "Plan.stops" (A5 (top 39) 4)) 291 Q <|
kf [(.str "self" 559)] (kZ "deeds" "Plan.deeds" (A5 (top 39) 5)) 298 Q <|
kf [(.str "self" 566)] (kZ "names" "Plan.names" (A5 (top 39) 6)) 305 Q <|
kx (kS [(.str "entries" 570), (.str "nexts" 571), (.str "rows" 572)] 0) <|
kx (kk 308 Q) <|
kx (kk 309 Q) <|
kx ⟨(.type "getset_descriptor"), none, .fields ([(.str "__dict__" 574), (.ref 309), (.builtin "function.__dict__"), (.builtin "function.__dict__#set")] : List Value).toArray, ([] : List (Option Value)).toArray⟩ <|
kx ⟨(.type "getset_descriptor"), none, .fields ([(.str "__weakref__" 576), (.ref 309), (.builtin "ExceptionGroup.__weakref__"), .none] : List Value).toArray, ([] : List (Option Value)).toArray⟩ <|
kx (ku 309) <|
kx (kb "object.__init_subclass__" (.ref 309)) <|
kf [(.str "plan" 586), (.str "place" 587), (.str "come_by" 588), (.str "order" 589), (.str "at" 590), (.str "target" 591)] (kY "pass_on" 41) 319 Q <|
kf [(.str "plan" 598), (.str "made" 599), (.str "broken" 600), (.str "come_by" 601), (.str "order" 602), (.str "place" 603), (.str "done" 604)] (kY "unready_steps" 42) 326 Q <|
kx (kS [] 0) <|
kx (kb "type.__prepare__" (.type "type")) <|
kx (kD (kQ Q 615 m6 "Ready" 171 [kE Q "__init__" 625 (.ref 339), kE Q "ready_at" 633 (.ref 346), kE Q "ready_behind" 642 (.ref 353), kE Q "ready_on" 650 (.ref 360), kE Q "begins_unready" 658 (.ref 367), kE Q "way_unready" 666 (.ref 374), kE Q "__static_attributes__" 670 (.ref 375)]) 10) <|
kx (kS [] 0) <|
kx (kt [(173, 4, 338), (179, 4, 345), (182, 4, 352), (188, 4, 359), (191, 4, 366), (194, 4, 373)]) <|
kx (kl "Ready" 610 171 331) <|
kx (kr 333 330 m6) <|
ke (kZ "__init__" "Ready.__init__" (A5 (top 43) 0)) 338 Q <|
kf [(.str "self" 629), (.str "place" 630)] (kZ "ready_at" "Ready.ready_at" (A5 (top 43) 1)) 345 Q <|
kf [(.str "self" 637), (.str "place" 638), (.str "row" 639)] (kZ "ready_behind" "Ready.ready_behind" (A5 (top 43) 2)) 352 Q <|
kf [(.str "self" 646), (.str "step" 647)] (kZ "ready_on" "Ready.ready_on" (A5 (top 43) 3)) 359 Q <|
kf [(.str "self" 654), (.str "step" 655)] (kZ "begins_unready" "Ready.begins_unready" (A5 (top 43) 4)) 366 Q <|
kf [(.str "self" 662), (.str "place" 663)] (kZ "way_unready" "Ready.way_unready" (A5 (top 43) 5)) 373 Q <|
kx (kS [(.str "come_by" 667), (.str "deed" 668), (.str "plan" 669)] 0) <|
kx (kk 376 Q) <|
kx (kk 377 Q) <|
kx ⟨(.type "getset_descriptor"), none, .fields ([(.str "__dict__" 671), (.ref 377), (.builtin "function.__dict__"), (.builtin "function.__dict__#set")] : List Value).toArray, ([] : List (Option Value)).toArray⟩ <|
kx ⟨(.type "getset_descriptor"), none, .fields ([(.str "__weakref__" 673), (.ref 377), (.builtin "ExceptionGroup.__weakref__"), .none] : List Value).toArray, ([] : List (Option Value)).toArray⟩ <|
kx (ku 377) <|
kx (kb "object.__init_subclass__" (.ref 377)) <| []
abbrev bd : List Stmt := behindTheImports P
abbrev en : Env := { scope := P.main.scope, locals := mainNs, globals := mainNs, cells := [], code := (.ref 13), frame := some 14 }
abbrev cE : Code := .body bd en
abbrev fB : List Frame := [topFrame ⟨0, 0, 0, 0⟩]
abbrev s0 (w : World) (os : OsState) : Shared := ⟨boot_heap w.params, Array.mk [], boot_drawn, boot_toks, os⟩
def sa (w : World) (os : OsState) : Shared := ((topGo treeTable P w 11 (some (.ref 6)) 12 (s0 w os) (topStub P)).map (·.1)).getD (s0 w os)
abbrev s1 (w : World) (os : OsState) : Shared := ⟨⟨Array.mk (h1 w.params), (boot_heap w.params).life⟩, Array.mk [], boot_drawn, 678, os⟩
abbrev rn (w : World) (os : OsState) : Option Shared := PySem.W.Fast.tw14082659384304107361 PySem.W.Fast.tw14364793385576792824 P w 11 (some (.ref 6)) 7523 (s1 w os) (restOf (bd.drop 44) en cE ⟨171, 0, 195, 16⟩ fB)
end
theorem go_a (w : World) (os : OsState) : topGo treeTable P w 11 (some (.ref 6)) 12 (s0 w os) (topStub P) = some (sa w os, ⟨denote treeTable cE, cE, ⟨0, 0, 0, 0⟩, fB⟩) := by kernel_rfl
theorem go_b (w : World) (os : OsState) : segRun treeTable P w 11 (some (.ref 6)) 1 1 (sa w os) (blockOf bd en cE ⟨0, 0, 0, 0⟩ fB) = some (.next, sa w os, cE, ⟨0, 0, 0, 0⟩) := by kernel_rfl
theorem go_c (w : World) (os : OsState) : segRun treeTable P w 11 (some (.ref 6)) 1 2976 (sa w os) (piecesOf (bd.take 44) en cE ⟨0, 0, 0, 0⟩ fB) = some (.next, s1 w os, cE, ⟨171, 0, 195, 16⟩) := by kernel_rfl
theorem go_d (w : World) (os : OsState) (x : Shared) (h : rn w os = some x) : topRun treeTable P w 11 (some (.ref 6)) 10512 (s0 w os) (topStub P) = some x := by
  have h : topRun treeTable P w 11 (some (.ref 6)) 7523 (s1 w os) (restOf (bd.drop 44) en cE ⟨171, 0, 195, 16⟩ fB) = some x := by rw [PySem.W.Fast.te14082659384304107361, PySem.W.Fast.te14364793385576792824]; exact h
  have h := piece_app (go_c w os) h;rw [List.take_append_drop] at h;exact go_top (go_a w os) (piece_block (go_b w os) h)
theorem left_a (w : World) (os : OsState) : (rn w os).map (fun s₁ => staticsOk (importedModules P.main.body) (boot_heap w.params) s₁.heap && namesBound P s₁.heap && gensDone s₁ && laidKept (boot_heap w.params) s₁.heap) = some true := by kernel_rfl
theorem left_b (w : World) (os : OsState) : (rn w os).map (PySem.W.Fast.tw4187177175401517315 q loose (importedModules P.main.body) (fun s => xlAt q [] s && recOk (RowW.records row.row.toRowW) s) true) = some (openGood q loose) := by kernel_rfl
theorem left_c1 (w : World) (os : OsState) : (rn w os).map (fun s => adr1.map s.heap.get?) = some ((K1 w.params).map fun p => some p.2) := by kernel_rfl
theorem left_c2 (w : World) (os : OsState) : (rn w os).map (fun s => adr2.map s.heap.get?) = some ((K2 w.params).map fun p => some p.2) := by kernel_rfl
theorem left_c3 (w : World) (os : OsState) : (rn w os).map (fun s => adr3.map s.heap.get?) = some ((K3 w.params).map fun p => some p.2) := by kernel_rfl
theorem left_c4 (w : World) (os : OsState) : (rn w os).map (fun s => adr4.map s.heap.get?) = some ((K4 w.params).map fun p => some p.2) := by kernel_rfl
theorem left_e (w : World) (os : OsState) : (rn w os).map (Hook.obs hook) = some (Hook.val hook w) := by
  obtain ⟨s, h1, h2⟩ := Option.map_eq_some_iff.mp (left_c1 w os);have h3 := left_c2 w os;have h4 := left_c3 w os;have h5 := left_c4 w os;rw [h1] at h3 h4 h5 ⊢;have h3 : adr2.map s.heap.get? = _ := Option.some.inj h3;have h4 : adr3.map s.heap.get? = _ := Option.some.inj h4;have h5 : adr4.map s.heap.get? = _ := Option.some.inj h5;show some ((adr1 ++ (adr2 ++ (adr3 ++ adr4))).map s.heap.get?) = some ((K1 w.params ++ (K2 w.params ++ (K3 w.params ++ K4 w.params))).map fun p => some p.2);rw [List.map_append, List.map_append, List.map_append, List.map_append, List.map_append, List.map_append, h2, h3, h4, h5]
theorem left : LeftO P q loose (fun s => xlAt q [] s && recOk (RowW.records row.row.toRowW) s) (Hook.obs hook) (Hook.val hook) 10512 :=
  left_one (m₀ := 11) (ann := (some (.ref 6))) (r := rn) (by kernel_rfl) (by kernel_rfl) (fun s => by kernel_rfl) (fun w => by kernel_rfl) go_d left_a (by rw [PySem.W.Fast.te4187177175401517315]; exact left_b) left_e
theorem said0 : row.wellSaid = true := by
  rw [PySem.W.Fast.te9446332074065402090];kernel_rfl
theorem fin (hc : ∀ d : DefRec, d.name = "law" → d.params.defaults = [] → WalkO q loose (XL q []) (Hook.says hook) row.row.toRowW d [] (fun f vs => PySem.call f vs)) : row.Holds := by
  refine holds_law (l := row) said0 fun said => ?_
  refine holds_open (q := q) (loose := loose) (Xt := fun s => xlAt q [] s && recOk (RowW.records row.row.toRowW) s) (XP := XL q []) (Yf := Hook.obs hook) (Ya := Hook.val hook) (YP := Hook.says hook) (N := 10512) left (Hook.of hook) (Hook.keeps hook) (fun s e => xl_of s (Bool.and_eq_true_iff.mp e).1) XL.keeps (by rfl) (by rfl) (by rfl) (fun s e => recFacts_of (Bool.and_eq_true_iff.mp e).2) (by rfl) said (by decide +kernel) ⟨rfl, rfl, rfl, rfl, rfl, by decide +kernel⟩ ?hw (hc _ rfl rfl)
  case hw => w_witness2
end HD
set_option Elab.async false
set_option linter.all false
set_option maxRecDepth 100000
namespace L2
open PySem PySem.Spec PyProof.Rows
variable{us:List Value}{i t':Nat}{u:Value}{C a dx f:Addr}{w:World}{h h':Heap}{pins:List (Addr×Obj)}{s:j6}{A:R0}{E Q:Value->j6->Prop}{e tg:Expr}{p pos pos':Pos}{es:List Expr}{ps:List Str}{m:Str->Option Value}
abbrev Key:=Sum Int Str
def b4Y:Key->Value->Bool
 |.inl k,v=>Value.isInt k v
 |.inr x,v=>Value.isStrOf x v
def d2Y(w:World):Key->Int
 |.inl k=>hashInt k
 |.inr x=>hashStr w x
def a0h:∀ {k:Key} {v:Value},b4Y k v=true->(∃i t,k=Sum.inl i/\v=Value.int i t)\/(∃x t,k=Sum.inr x/\v=Value.str x t)
 |.inl i,v,h=>by
  obtain⟨t,e⟩:=Value.isInt_shape (k:=i) (v:=v) h;exact .inl ⟨i,t,rfl,e⟩
 |.inr x,v,h=>by
  obtain⟨t,e⟩:=Value.isStrOf_shape (x:=x) (v:=v) h;exact .inr ⟨x,t,rfl,e⟩
def c3J(i:Int)(t:Tok):b4Y (.inl i) (.int i t)=true:=by simp[b4Y,Value.isInt]
def c3I(x:Str)(t:Tok):b4Y (.inr x) (.str x t)=true:=by simp[b4Y,Value.isStrOf]
def d0G(a b:Int):decide ((Sum.inl a:Key)=Sum.inl b)=(a == b):=by
 by_cases e:a=b
 .subst e;simp
 .have h:¬(Sum.inl a:Key)=Sum.inl b:=λq=>e (Sum.inl.inj q)
  rw[d4D h];exact(beq_eq_false_iff_ne.mpr e).symm
def d0D(a b:Str):decide ((Sum.inr a:Key)=Sum.inr b)=decide (a=b):=by
 by_cases e:a=b
 .subst e;simp
 .have h:¬(Sum.inr a:Key)=Sum.inr b:=λq=>e (Sum.inr.inj q)
  rw[d4D h,d4D e]
def d0F(a:Int)(b:Str):decide ((Sum.inl a:Key)=Sum.inr b)=false:=d4D (λq=>nomatch q)
def d0E(a:Str)(b:Int):decide ((Sum.inr a:Key)=Sum.inl b)=false:=d4D (λq=>nomatch q)
def O6(prog:A4)(w:World):PySem.KeyKind prog w Key where
 is:=b4Y
 hash:=d2Y w
 inj:=λv a b ha hb=>by
  rcases a0h ha with ⟨i,t,rfl,rfl⟩ | ⟨x,t,rfl,rfl⟩
  .rcases a0h hb with ⟨j,u,rfl,e⟩ | ⟨y,u,rfl,e⟩
   .injection e with e1 _;rw[e1]
   .exact nomatch e
  .rcases a0h hb with ⟨j,u,rfl,e⟩ | ⟨y,u,rfl,e⟩
   .exact nomatch e
   .injection e with e1 _;rw[e1]
 byValue:=λk v h=>by
  rcases a0h h with ⟨i,t,rfl,rfl⟩ | ⟨x,t,rfl,rfl⟩ <;> rfl
 pyHash:=λhv h=>by
  rcases a0h hv with ⟨i,t,rfl,rfl⟩ | ⟨x,t,rfl,rfl⟩
  .exact wpAny_pyHash_int h
  .exact wpAny_pyHash_str h
 eqBool:=λhu hv h=>by
  rcases a0h hu with ⟨i,t,rfl,rfl⟩ | ⟨x,t,rfl,rfl⟩
  .rcases a0h hv with ⟨j,u,rfl,rfl⟩ | ⟨y,u,rfl,rfl⟩
   .rw[d0G]at h;exact wpAny_eqBool_int h
   .rw[d0F]at h;exact SeqAt.EqAt.int_str i t y u _ _ _ _ h
  .rcases a0h hv with ⟨j,u,rfl,rfl⟩ | ⟨y,u,rfl,rfl⟩
   .rw[d0E]at h;exact SeqAt.EqAt.str_int x t j u _ _ _ _ h
   .rw[d0D]at h;exact wpAny_eqBool_str h
 «strs» := λk x t v h=>by
  rcases a0h h with ⟨i,u,rfl,e⟩ | ⟨y,u,rfl,e⟩
  .exact nomatch e
  .injection e with e1 _
   subst e1;cases v <;> rfl
def b9A(prog:A4)(w:World)(i:Int)(t:Tok):(O6 prog w).is (.inl i) (.int i t)=true:=c3J i t
def b9z(prog:A4)(w:World)(x:Str)(t:Tok):(O6 prog w).is (.inr x) (.str x t)=true:=c3I x t
inductive V where
 | non | bl (b:Bool) | int (i:Int) | str (x:Str) | byt (b:Array UInt8) | flt (b:UInt64) | ref (a:Addr) | ty (n:String)
 deriving DecidableEq
variable{v y:V}{xs:List V}{kvs:List (Key×V)}
def K0:V->Value->Prop
 |.non,u=>u=Value.none
 |.bl b,u=>u=Value.bool b
 |.int i,u=>∃t,u=Value.int i t
 |.str x,u=>∃t,u=Value.str x t
 |.byt b,u=>∃t,u=Value.bytes b t
 |.flt b,u=>∃t,u=Value.float b t
 |.ref a,u=>u=Value.ref a
 |.ty n,u=>u=Value.type n
abbrev L8:List V->List Value->Prop:=Paired K0
def L8.length(r:L8 xs us):xs.length=us.length:=Paired.length r
def L8.get:∀ {xs:List V} {us:List Value} {i:Nat} {x:V},L8 xs us->xs[i]?=some x->∃u,us[i]?=some u/\K0 x u
 |_,_,_,_,.nil,e=>by simp at e
 |_,_,0,_,.cons r _,e=>by simp at e;subst e;exact⟨_,rfl,r⟩
 |_,_,i+1,x,.cons _ t,e=>by
  obtain⟨u,h1,h2⟩:=L8.get (i:=i) (x:=x) t (by simpa using e);exact⟨u,by simpa using h1,h2⟩
def L8.set{x:V}(r:K0 x u):∀ {xs:List V} {us:List Value} (i:Nat),L8 xs us->L8 (xs.set i x) (us.set i u)
 |_,_,_,.nil=>.nil
 |_,_,0,.cons _ t=>.cons r t
 |_,_,i+1,.cons q t=>.cons q (L8.set r i t)
def L8.append:∀ {xs ys:List V} {us ws:List Value},L8 xs us->L8 ys ws->L8 (xs++ys) (us++ws)
 |_,_,_,_,.nil,s=>s
 |_,_,_,_,.cons r t,s=>.cons r (L8.append t s)
def L8.take:∀ {xs:List V} {us:List Value} (n:Nat),L8 xs us->L8 (xs.take n) (us.take n)
 |_,_,0,_=>.nil
 |_,_,_+1,.nil=>.nil
 |_,_,n+1,.cons r t=>.cons r (L8.take n t)
def L8.drop:∀ {xs:List V} {us:List Value} (n:Nat),L8 xs us->L8 (xs.drop n) (us.drop n)
 |_,_,0,r=>r
 |_,_,_+1,.nil=>.nil
 |_,_,n+1,.cons _ t=>L8.drop n t
def a7l:Option V->Option Value->Prop
 |some v,some u=>K0 v u
 |none,none=>True
 |_,_=>False
def KV{κ:Type}:List (κ×V)->List (κ×Value)->Prop:=Paired λ(p:κ×V) (q:κ×Value)=>p.1=q.1/\K0 p.2 q.2
def kV:Key->V
 |.inl i=>.int i
 |.inr x=>.str x
inductive HO where
 /-- a list -/
 | lst (xs:List V)
 /-- a tuple (never changes) -/
 | tup (xs:List V)
 /-- a dict whose keys are ints and texts;one whose keys are tuples of ints and texts (the empty one is both) -/
 | dK (kvs:List (Key×V)) | dT (kvs:List (List Key×V))
 /-- a set of ints: its members,its size -/
 | set (S:Int->Bool) (n:Nat)
 /-- an instance of the class at C,its dict at dx,its attributes -/
 | ins (C dx:Addr) (fs:List (Str×V))
 /-- the dict of the instance at x -/
 | own (x:Addr)
 /-- the dict of an exception -/
 | xd (fs:List (Str×V))
 /-- a bound method,f of x -/
 | met (f x:Addr)
 /-- a range object lo,lo+1,.. below hi -/
 | rng (lo hi:Int)
 /-- a thing that is known to the object (the script;a dict while a loop walks it): read,never written while it is so -/
 | frz (o:Obj) (u:HO)
 /-- a code object's table -/
 | tbl (ps:Array Value)
 /-- any other thing,by what is true of its one object (a def of one's own: SetO a S n:=HO.ext λh=>..) -/
 | ext (φ:Heap->Prop)
variable{o:HO}
abbrev Hp:=Addr->Option HO
variable{H H':Hp}
def upd(H:Hp)(a:Addr)(o:HO):Hp:=λb=>if b=a then some o else H b
def c7:upd H a o a=some o:=by unfold upd;rw[if_pos rfl]
def i9{b:Addr}(h:b≠a):upd H a o b=H b:=by unfold upd;rw[if_neg h]
def b0J{u:HO}:upd (upd H a o) a u=upd H a u:=by
 funext b;unfold upd;split <;> rfl
def O9{b:Addr}{u:HO}(h:H a=some o)(h':H b=some u)(d:o≠u):a≠b:=by
 intro e;subst e;rw[h]at h';exact d (Option.some.inj h')
def f6{b:Addr}(h:H a=some o)(h':H b=none):a≠b:=by
 intro e;subst e;rw[h]at h';cases h'
section
variable (P:A4)(w:World)
def V5(H:Hp)(h:Heap)(a:Addr):HO->Prop
 |.lst xs=>xs.length<=z9/\∃(its:List Value) (n:Nat),L8 xs its/\h.get? a=some { cls:=.type "list",data:=.seq its.toArray n }
 |.tup xs=>xs.length<=z9/\∃its:List Value,L8 xs its/\IsTup h a its.toArray
 |.dK kvs=>kvs.length<=z9/\(a == a2c)=false/\∃vs,KV kvs vs/\h.DictOf (O6 P w) a vs
 |.dT kvs=>kvs.length<=z9/\(a == a2c)=false/\∃xs:List (List Key×Addr×Value),
   Paired (λ(p:List Key×V) (q:List Key×Addr×Value)=>p.1=q.1/\H q.2.1=some (.tup (p.1.map kV))/\K0 p.2 q.2.2) kvs xs /\
   ∃o es ep,h.get? a=some o/\o.ExactDict/\o.data=.dict es ep/\es.toList=xs.map (c8H (a4O (O6 P w)))/\(xs.map (·.1)).Nodup
 |.set S n=>h.SetOf (intKind P w) a S n
 |.ins C dx fs=>H dx=some (.own a)/\fs.length<=1000/\dx≠a/\h.get? a=some (Z5 C dx) /\
   ∃mA,h.Ns1 dx mA/\(∀f,a7l (fs.lookup f) (mA f))/\PySem.Within mA (fs.map (·.1))
 |.own _=>∃o,h.get? a=some o
 |.xd fs=>∃mA,h.Ns1 a mA/\∀f,a7l (fs.lookup f) (mA f)
 |.rng lo hi=>∃t u v,h.get? a=some { cls:=.type "range",data:=.fields #[.int lo t,.int hi u,.int 1 v] }
 |.frz o u=>h.get? a=some o/\V5 H h a u
 |.tbl ps=>h.get? a=some { cls:=.none,data:=.fields ps }
 |.met f x=>h.get? a=some (b2O (.ref f) (.ref x))
 |.ext φ=>φ h/\(∃o,h.get? a=some o)/\∀h1 h2:Heap,φ h1->(∀o,h1.get? a=some o->h2.get? a=some o)->φ h2
def HOk(H:Hp)(h:Heap):Prop:=∀a o,H a=some o->V5 P w H h a o
end
section
variable {P:A4}
def V5.lt(x:V5 P w H h a o):a<h.objs.size:=by
 cases o with
 |lst xs=>obtain⟨_,_,_,_,e⟩:=x;exact l5 e
 |tup xs=>obtain⟨_,_,_,p⟩:=x;exact p.lt
 |dK kvs=>obtain⟨_,_,_,_,o,_,_,e,_⟩:=x;exact l5 e
 |dT kvs=>obtain⟨_,_,_,_,o,_,_,e,_⟩:=x;exact l5 e
 |set S n=>obtain⟨o,_,_,_,e,_⟩:=x;exact l5 e
 |ins C dx fs=>obtain⟨_,_,_,e,_⟩:=x;exact l5 e
 |own y=>obtain⟨_,e⟩:=x;exact l5 e
 |xd fs=>obtain⟨_,⟨_,_,_,e,_⟩,_⟩:=x;exact l5 e
 |rng lo hi=>obtain⟨_,_,_,e⟩:=x;exact l5 e
 |frz ob u=>obtain⟨e,_⟩:=x;exact l5 e
 |tbl ps=>exact l5 (show h.get? a=some _ from x)
 |met f y=>exact l5 (show h.get? a=some _ from x)
 |ext φ=>obtain⟨_,⟨_,e⟩,_⟩:=x;exact l5 e
def Paired.mapP{α β:Type}{F G:α->β->Prop}:∀ {l₁:List α} {l₂:List β},Paired F l₁ l₂->(∀a b,F a b->G a b)->Paired G l₁ l₂
 |_,_,.nil,_=>.nil
 |_,_,.cons r t,f=>.cons (f _ _ r) (Paired.mapP t f)
def V5.stay(x:V5 P w H h a o)(k:∀b u,(b=a\/H b=some (.own a))->h.get? b=some u->h'.get? b=some u)
  (ho:∀b,H b=some (.own a)->H' b=some (.own a)) (ht:∀b xs,H b=some (.tup xs)->H' b=some (.tup xs)):V5 P w H' h' a o:=by
 induction o with
 |lst xs=>obtain⟨z,its,n,r,e⟩:=x;exact⟨z,its,n,r,k _ _ (.inl rfl) e⟩
 |tup xs=>obtain⟨z,its,r,ob,e,c⟩:=x;exact⟨z,its,r,ob,k _ _ (.inl rfl) e,c⟩
 |dK kvs=>obtain⟨z,y,vs,r,ob,es,ep,e,c⟩:=x;exact⟨z,y,vs,r,ob,es,ep,k _ _ (.inl rfl) e,c⟩
 |dT kvs=>
  obtain⟨z,y,xs,r,ob,es,ep,e,c⟩:=x;exact⟨z,y,xs,Paired.mapP r λp q z=>⟨z.1,ht _ _ z.2.1,z.2.2⟩,ob,es,ep,k _ _ (.inl rfl) e,c⟩
 |set S n=>obtain⟨ob,es,ep,t,e,c⟩:=x;exact⟨ob,es,ep,t,k _ _ (.inl rfl) e,c⟩
 |ins C dx fs=>
  obtain⟨d,z,ne,e,mA,⟨od,es,ep,e2,c⟩,r⟩:=x;exact⟨ho _ d,z,ne,k _ _ (.inl rfl) e,mA,⟨od,es,ep,k _ _ (.inr d) e2,c⟩,r⟩
 |own y=>obtain⟨ob,e⟩:=x;exact⟨ob,k _ _ (.inl rfl) e⟩
 |xd fs=>obtain⟨mA,⟨od,es,ep,e,c⟩,r⟩:=x;exact⟨mA,⟨od,es,ep,k _ _ (.inl rfl) e,c⟩,r⟩
 |rng lo hi=>obtain⟨t,u,v,e⟩:=x;exact⟨t,u,v,k _ _ (.inl rfl) e⟩
 |frz ob u ih=>obtain⟨e,q⟩:=x;exact⟨k _ _ (.inl rfl) e,ih q⟩
 |tbl ps=>
  have e:h.get? a=some { cls:=.none,data:=.fields ps }:=x;show h'.get? a=some { cls:=.none,data:=.fields ps };exact k a _ (.inl rfl) e
 |met f y=>
  have e:h.get? a=some (b2O (.ref f) (.ref y)):=x;show h'.get? a=some (b2O (.ref f) (.ref y));exact k a _ (.inl rfl) e
 |ext φ=>obtain⟨p,⟨o,e⟩,st⟩:=x;exact⟨st _ _ p λo q=>k _ _ (.inl rfl) q,⟨o,k _ _ (.inl rfl) e⟩,st⟩
def HOk.lt(x:HOk P w H h)(e:H a=some o):a<h.objs.size:=(x a o e).lt
def HOk.fresh(x:HOk P w H h)(e:h.objs.size<=a):H a=none:=by
 cases q:H a with
 |none=>rfl
 |some u=>exact absurd (A7 (x.lt q) e) (O0 _)
def HOk.kept(x:HOk P w H h)(k:∀b u,h.get? b=some u->h'.get? b=some u):HOk P w H h':=λa o e=>
 (x a o e).stay (λb u _ q=>k b u q) (λ_ q=>q) λ_ _ q=>q
def HOk.laid(x:HOk P w H h)(k:∀b u,h.get? b=some u->h'.get? b=some u)(hp:h.objs.size<=a)(new:V5 P w (upd H a o) h' a o):HOk P w (upd H a o) h':=λb u e=>by
 have hn:=x.fresh hp;by_cases hb:b=a
 .subst hb;rw[c7]at e;cases e;exact new
 .rw[i9 hb]at e;exact(x b u e).stay (λc v _ q=>k c v q) (λc q=>by rw[i9 (f6 q hn)];exact q) λc xs q=>by rw[i9 (f6 q hn)];exact q
end
def Rd(H:Hp)(a:Addr)(u:HO):Prop:=H a=some u\/∃o,H a=some (.frz o u)
def Rd.ok{P:A4}{u:HO}(r:Rd H a u)(x:HOk P w H h):V5 P w H h a u:=by
 rcases r with r | ⟨o,r⟩
 .exact x a u r
 .obtain⟨_,q⟩:=x a _ r;exact q
def Mut:Option HO->Prop
 | some (.lst _)=>True
 | some (.dK _)=>True
 | some (.dT _)=>True
 | some (.set _ _)=>True
 | some (.ins _ _ _)=>True
 | some (.ext _)=>True
 |_=>False
section
variable {P:A4}{x e:Addr}{o':HO}
def HOk.write(ok:HOk P w H h)(mu:Mut (H x))(he:e=x\/H e=some (.own x))(k:∀b u,b≠e->h.get? b=some u->h'.get? b=some u)(heo:∃u,h'.get? e=some u)
  (new:V5 P w (upd H x o') h' x o'):HOk P w (upd H x o') h':=λb u q=>by
 have nown:∀c y,H c=some (.own y)->c≠x:=λc y r z=>by subst z;rw[r]at mu;exact mu
 have ntup:∀c xs,H c=some (.tup xs)->c≠x:=λc xs r z=>by subst z;rw[r]at mu;exact mu
 by_cases hb:b=x
 .subst hb;rw[c7]at q;cases q;exact new
 .rw[i9 hb]at q;by_cases hbe:b=e
  .have q':H b=some (.own x):=by
    rcases he with z | z
    .exact absurd (hbe.trans z) hb
    .rw[hbe];exact z
   rw[q]at q';cases q';obtain⟨v,hv⟩:=heo;exact⟨v,by rw[hbe];exact hv⟩
  .refine(ok b u q).stay (λc v hc r=>k c v ?_ r) (λc r=>by rw[i9 (nown c b r)];exact r) λc xs r=>by rw[i9 (ntup c xs r)];exact r
   rcases hc with rfl | hc
   .exact hbe
   .rintro rfl;rcases he with z | z
    .exact nown c b hc z
    .rw[hc]at z;cases z;exact hb rfl
end
structure Un(fs ex:List Addr)(H H':Hp)(h h':Heap):Prop where
 keep:∀b o,h.get? b=some o->H b=none->b∉fs->b∉ex->h'.get? b=some o
 slot:∀b o,h.get? b=some o->H b=none->b∈fs->b∉ex->∃sl,h'.get? b=some { o with slots:=sl }
 free:∀b o,h.get? b=some o->H b=none->b∉ex->H' b=none
 there:∀b o,h.get? b=some o->b∉ex->∃o',h'.get? b=some o'
 tups:∀b xs,H b=some (.tup xs)->H' b=some (.tup xs)
 frzs:∀b o u,H b=some (.frz o u)->H' b=some (.frz o u)
 tbls:∀b ps,H b=some (.tbl ps)->∃more,H' b=some (.tbl (ps++more))
section
variable {fs fs' ex ex':List Addr}{H1 H2:Hp}{h1 h2:Heap}{x e:Addr}
def Un.any(u:Un fs ex H H1 h h1){b:Addr}{ob:Obj}(q:h.get? b=some ob)(n:H b=none)(hx:b∉ex):∃sl,h1.get? b=some { ob with slots:=sl }:=by
 by_cases hb:b∈fs
 .exact u.slot b ob q n hb hx
 .exact⟨ob.slots,u.keep b ob q n hb hx⟩
def Un.kept(k:∀b u,h.get? b=some u->h'.get? b=some u):Un fs ex H H h h':=
 ⟨λb ob q _ _ _=>k b ob q,λb ob q _ _ _=>⟨ob.slots,k b ob q⟩,λ_ _ _ n _=>n,λb ob q _=>⟨ob,k b ob q⟩,λ_ _ q=>q,λ_ _ _ q=>q,λ_ ps q=>⟨#[],by rw[q];simp⟩⟩
def Un.refl:Un fs ex H H h h:=Un.kept λ_ _ q=>q
def Un.laid(k:∀b u,h.get? b=some u->h'.get? b=some u)(hp:h.objs.size<=a)(hn:H a=none):Un fs ex H (upd H a o) h h' where
 keep:=λb u q _ _ _=>k b u q
 slot:=λb u q _ _ _=>⟨u.slots,k b u q⟩
 free:=λb u q n _=>by rw[i9 (A3 (A7 (l5 q) hp))];exact n
 there:=λb u q _=>⟨u,k b u q⟩
 tups:=λb xs q=>by rw[i9 (f6 q hn)];exact q
 frzs:=λb u xs q=>by rw[i9 (f6 q hn)];exact q
 tbls:=λb ps q=>⟨#[],by rw[i9 (f6 q hn),q];simp⟩
def Un.write(mu:Mut (H x))(he:e=x\/H e=some (.own x))(k:∀b u,b≠e->h.get? b=some u->h'.get? b=some u)(heo:∃u,h'.get? e=some u):Un fs ex H (upd H x o) h h':=by
 have hx:∀b,H b=none->b≠x:=λb n z=>by subst z;rw[n]at mu;exact mu
 have hb:∀b,H b=none->b≠e:=λb n z=>by
  subst z;rcases he with r | r
  .exact hx b n r
  .rw[n]at r;cases r
 have hm:∀b u,H b=some u->¬Mut (some u)->b≠x:=λb u q nm z=>by subst z;rw[q]at mu;exact nm mu
 refine⟨λb u q n _ _=>k b u (hb b n) q,λb u q n _ _=>⟨u.slots,k b u (hb b n) q⟩,λb u q n _=>by rw[i9 (hx b n)];exact n,λb u q _=>?_,
  λb xs q=>by rw[i9 (hm b _ q λz=>z)];exact q,λb u xs q=>by rw[i9 (hm b _ q λz=>z)];exact q,λb ps q=>⟨#[],by rw[i9 (hm b _ q λz=>z),q];simp⟩⟩
 by_cases hbe:b=e
 .subst hbe;exact heo
 .exact⟨u,k b u hbe q⟩
end
def trk(h:Heap)(H:Hp):List Addr:=(A1 h.objs.size).filter λa=>(H a).isSome
def b7R(h:Heap)(H:Hp):Heap:=PySem.W.hideAll h (trk h H)
def c3P(h:Heap)(H:Hp):(b7R h H).objs.size=h.objs.size:=PySem.W.hideAll_size _ _
def c6c{b:Addr}{o:Obj}(e:h.get? b=some o)(n:H b=none):(b7R h H).get? b=some o:=
 PySem.W.hideAll_get _ e λhm=>by
  have q:(H b).isSome=true:=(U4.mp hm).2;rw[n]at q;simp at q
def c7L{b:Addr}{o:Obj}(e:(b7R h H).get? b=some o):h.get? b=some o/\H b=none:=by
 have e':h.get? b=some o:=PySem.W.of_hideAll (trk h H) e;refine⟨e',?_⟩;cases q:H b with
 |none=>rfl
 |some x=>
  have hm:b∈trk h H:=U4.mpr ⟨U0.mpr (l5 e'),by simp[q]⟩;have z:(b7R h H).get? b=none:=PySem.W.hideAll_none (trk h H) hm;rw[z]at e;cases e
def c8n(g h:Heap)(L:Addr):List (Addr×Obj):=(A1 h.objs.size).filterMap λa=>if a=L\/(g.get? a).isSome=true then none else (h.get? a).map λo=>(a,o)
def rest(g h:Heap)(L d:Addr):List (Addr×Obj):=(c8n g h L).filter λp=>decide (p.1≠d)
structure Mod(K:Fg)(mg:Str->Option Value)(base:Heap):Prop where
 kin:K.In base
 glob:base.Ns w6 mg
 blt:∃mb,base.Ns builtinsNs mb/\∀x:Str,x ≠ "__name__" -> mb x=a6V x
 nolimit:base.NoLimit
structure Cx where
 prog:A4
 w:World
 K:Fg
 mg:Str->Option Value
 base:Heap
 A:R0
 N:List Str
 s₀:j6
 H₀:Hp
 env:Env
 outer:List Env
 stack:List Env
 ex:List Addr
 fn:Str->Bool
 calm:Bool
 pn:List (Addr×Obj)
 xe:Value->j6->Prop
variable{X:Cx}
def frs(l:List Env):List Addr:=l.filterMap (·.frame)
abbrev Cx.fs(X:Cx):List Addr:=frs X.outer
def Vis(sc:Scope)(x:Str):Prop:=sc.names.lookup x=some .local\/sc.names.lookup x=some .cell\/sc.names.lookup x=some .free
def Loc(sc:Scope)(x:Str):Prop:=sc.names.lookup x=some .local\/sc.names.lookup x=some .cell
def d3j(env:Env)(h:Heap)(m:Str->Option Value)(x:Str)(u:Value):Prop:=
 (env.kindOf x=some .local/\m x=some u)\/((env.kindOf x=some .cell\/env.kindOf x=some .free)/\∃c,env.cells.lookup x=some c/\h.IsCell c (some u))
structure Cx.Ok(X:Cx):Prop where
 mod:Mod X.K X.mg X.base
 kind:X.env.scope.kind=.function
 glob:X.env.globals=w6
 blt:X.env.builtins=builtinsNs
 above:X.s₀.heap.objs.size<=X.env.locals
 inj:∀x y c,X.env.cells.lookup x=some c->X.env.cells.lookup y=some c->x=y
 has:∀x,(X.env.kindOf x=some .cell\/X.env.kindOf x=some .free)->∃c,X.env.cells.lookup x=some c
 cab:∀x c,X.fn x=true->X.env.cells.lookup x=some c->X.s₀.heap.objs.size<=c
 hd:X.calm=true->X.A.handled=none
 frames:X.A.frames=some X.stack
 stk:X.stack=X.outer\/(X.stack=X.env::X.outer/\X.env.frame=some X.env.locals)
 exf:∀b∈X.ex,b≠X.env.locals/\∀x c,X.env.cells.lookup x=some c->c≠b
 bs:∀b o,X.base.get? b=some o->X.s₀.heap.get? b=some o/\X.H₀ b=none
 bsz:X.base.objs.size<=X.s₀.heap.objs.size
 noex:∀b o,X.base.get? b=some o->b∉X.ex
 exfs:∀b∈X.ex,b∉X.fs
 funs:X.s₀.heap.FunFrames X.base X.outer
 frf:∀b∈X.fs,X.H₀ b=none
structure Inv(X:Cx)(pins:List (Addr×Obj))(σ:List (Option V))(H:Hp)(s:j6):Prop where
 ok:X.Ok
 os:s.os=X.s₀.os
 bare:b3W s.gens
 base:Un X.fs X.ex X.H₀ H X.s₀.heap s.heap
 loc:∃m,s.heap.Ns X.env.locals m/\∀(i:Nat) (x:Str) (v:V),X.N[i]?=some x->σ[i]?=some (some v)->Vis X.env.scope x->∃u,K0 v u/\d3j X.env s.heap m x u
 cell:∀x c,X.env.cells.lookup x=some c->∃v,s.heap.IsCell c v
 free:H X.env.locals=none
 freeC:∀x c,X.env.cells.lookup x=some c->H c=none
 pin:∀p∈X.pn++pins,s.heap.get? p.1=some p.2/\H p.1=none/\p.1≠X.env.locals/\p.1∉X.fs/\∀v,p.2.data≠.cell v
 hok:HOk X.prog X.w H s.heap
 len:σ.length=X.N.length
section
variable {σ:List (Option V)}
def Cx.Ok.nofr(ok:X.Ok){b:Addr}{o:Obj}(e:X.base.get? b=some o):b∉X.fs:=λhb=>by
 have:=(ok.funs.mem hb).1;rw[e]at this;cases this
def Inv.bs(I:Inv X pins σ H s):∀b o,X.base.get? b=some o->s.heap.get? b=some o/\H b=none:=λb o e=>
 ⟨I.base.keep b o (I.ok.bs b o e).1 (I.ok.bs b o e).2 (I.ok.nofr e) (I.ok.noex b o e),I.base.free b o (I.ok.bs b o e).1 (I.ok.bs b o e).2 (I.ok.noex b o e)⟩
def Inv.bk(I:Inv X pins σ H s):∀b o,X.base.get? b=some o->s.heap.get? b=some o:=λb o e=>(I.bs b o e).1
def Inv.mod(I:Inv X pins σ H s):Mod X.K X.mg X.base:=I.ok.mod
def Inv.kIn(I:Inv X pins σ H s):X.K.In s.heap:=I.ok.mod.kin.keeps I.bk
def Inv.lt(I:Inv X pins σ H s):X.env.locals<s.heap.objs.size:=let⟨_,hn,_⟩:=I.loc;hn.lt
def Inv.sz(I:Inv X pins σ H s):X.s₀.heap.objs.size<=s.heap.objs.size:=G5 I.ok.above (b5D I.lt)
def Inv.nofs(I:Inv X pins σ H s)(h:s.heap.objs.size<=a):a∉X.fs:=λhb=>by
 obtain⟨_,o,ho,_⟩:=I.ok.funs.mem hb;exact absurd (A7 (l5 ho) (G5 I.sz h)) (O0 _)
def Inv.cne(I:Inv X pins σ H s):∀x c,X.env.cells.lookup x=some c->c≠X.env.locals:=λx c e z=>by
 obtain⟨v,o,ho,hd⟩:=I.cell x c e;obtain⟨m,⟨o',es,ep,ho',hd',_⟩,_⟩:=I.loc;rw[z,ho']at ho;cases ho;rw[hd']at hd;cases hd
def Inv.funs(I:Inv X pins σ H s):s.heap.FunFrames X.base X.outer:=by
 have all:∀(l:List Env),(∀b∈frs l,b∈X.fs)->X.s₀.heap.FunFrames X.base l->s.heap.FunFrames X.base l:=by
  intro l;induction l with
  |nil=>intro _ _;trivial
  |cons env r ih=>
   intro hs hl;obtain⟨hk,⟨L,o,hf,hn,ho,hd⟩,hr⟩:=hl;have hL:L∈X.fs:=hs L (by unfold frs;rw[b1L,hf];exact Q4);obtain⟨sl,e⟩:=I.base.slot L o ho (I.ok.frf L hL) hL λz=>I.ok.exfs L z hL
   exact⟨hk,⟨L,_,hf,hn,e,hd⟩,ih (λb hb=>hs b (by unfold frs;rw[b1L,hf];exact K6 _ hb)) hr⟩
 exact all X.outer (λ_ hb=>hb) I.ok.funs
def Inv.stack(I:Inv X pins σ H s):s.heap.FunFrames X.base X.stack:=by
 rcases I.ok.stk with e | ⟨e,hf⟩
 .rw[e];exact I.funs
 .rw[e];obtain⟨m,hn,_⟩:=I.loc;refine .cons (by rw[I.ok.kind];decide) hf hn ?_ I.funs;exact Heap.get?_none_of_le (G5 I.ok.bsz I.ok.above)
def Inv.stkSub(I:Inv X pins σ H s):∀b∈frs X.stack,b∈X.env.locals::X.fs:=λb hb=>by
 rcases I.ok.stk with e | ⟨e,hf⟩
 .rw[e]at hb;exact K6 _ hb
 .rw[e]at hb;unfold frs at hb;rw[b1L,hf]at hb;exact hb
def Inv.stkFree(I:Inv X pins σ H s):∀b∈frs X.stack,H b=none:=λb hb=>by
 rcases t8.mp (I.stkSub b hb)with e | hb
 .rw[e];exact I.free
 .obtain⟨_,o,ho,_⟩:=I.ok.funs.mem hb;exact I.base.free b o ho (I.ok.frf b hb) λz=>I.ok.exfs b z hb
def Inv.step{g':Array GenState}{t':Nat}{d':Drawn}{ch:List Addr}(I:Inv X pins σ H s)
  (hch:∀b∈ch,(b∈X.ex\/X.s₀.heap.objs.size<=b)/\b≠X.env.locals/\(∀x c,X.env.cells.lookup x=some c->c≠b)/\∀p∈X.pn++pins,p.1≠b)
  (keep:∀b o,b≠X.env.locals->b∉X.fs->b∉ch->s.heap.get? b=some o->H b=none->h'.get? b=some o)
  (slot:∀b o,b≠X.env.locals->b∈X.fs->b∉ch->s.heap.get? b=some o->H b=none->∃sl,h'.get? b=some { o with slots:=sl }) (free:∀b o,b∉ch->s.heap.get? b=some o->H b=none->H' b=none)
  (there:∀b o,b∉ch->s.heap.get? b=some o->∃o',h'.get? b=some o')
  (tups:∀b xs,H b=some (.tup xs)->H' b=some (.tup xs)) (frzs:∀b o u,H b=some (.frz o u)->H' b=some (.frz o u)) (tbls:∀b ps,H b=some (.tbl ps)->∃more,H' b=some (.tbl (ps++more)))
  (ns:∀m,s.heap.Ns X.env.locals m->h'.Ns X.env.locals m) (hok:HOk X.prog X.w H' h') (hg:b3W g') :
  Inv X pins σ H' { s with heap:=h',gens:=g',drawn:=d',toks:=t' }:=by
 have neL:∀b o,X.s₀.heap.get? b=some o->b≠X.env.locals:=λb o e=>A3 (A7 (l5 e) I.ok.above)
 have neC:∀b o,X.s₀.heap.get? b=some o->b∉X.ex->b∉ch:=λb o e hx hb=>by
  rcases(hch b hb).1 with z | z
  .exact hx z
  .exact absurd (A7 (l5 e) z) (O0 _)
 have cellK:∀x c,X.env.cells.lookup x=some c->∀v,s.heap.IsCell c v->h'.IsCell c v:=λx c e v ⟨o,ho,hd⟩=>by
  have nch:c∉ch:=λz=>(hch c z).2.2.1 x c e rfl
  by_cases hc:c∈X.fs
  .obtain⟨sl,q⟩:=slot c o (I.cne x c e) hc nch ho (I.freeC x c e);exact⟨_,q,hd⟩
  .exact⟨o,keep c o (I.cne x c e) hc nch ho (I.freeC x c e),hd⟩
 refine⟨I.ok,I.os,hg,⟨λb o e n hb hx=>?_,λb o e n hb hx=>?_,λb o e n hx=>?_,λb o e hx=>?_,λb xs e=>tups b xs (I.base.tups b xs e),λb o xs e=>frzs b o xs (I.base.frzs b o xs e),λb ps e=>?_⟩,?_,λx c e=>?_,?_,λx c e=>?_,λp hp=>?_,hok,I.len⟩
 .exact keep b o (neL b o e) hb (neC b o e hx) (I.base.keep b o e n hb hx) (I.base.free b o e n hx)
 .obtain⟨sl,e1⟩:=I.base.slot b o e n hb hx;obtain⟨sl',e2⟩:=slot b _ (neL b o e) hb (neC b o e hx) e1 (I.base.free b o e n hx);exact⟨sl',e2⟩
 .obtain⟨o',e1⟩:=I.base.there b o e hx;exact free b o' (neC b o e hx) e1 (I.base.free b o e n hx)
 .obtain⟨o',e1⟩:=I.base.there b o e hx;exact there b o' (neC b o e hx) e1
 .obtain⟨m1,e1⟩:=I.base.tbls b ps e;obtain⟨m2,e2⟩:=tbls b _ e1;exact⟨m1++m2,by rw[e2,Array.append_assoc]⟩
 .obtain⟨m,hn,hl⟩:=I.loc;refine⟨m,ns m hn,λi x v e1 e2 e3=>?_⟩;obtain⟨u,r,l⟩:=hl i x v e1 e2 e3;refine⟨u,r,?_⟩;rcases l with l | ⟨k,c,e,z⟩
  .exact .inl l
  .exact .inr ⟨k,c,e,cellK x c e _ z⟩
 .obtain⟨v,z⟩:=I.cell x c e;exact⟨v,cellK x c e v z⟩
 .obtain⟨m,⟨o,_,_,ho,_⟩,_⟩:=I.loc;exact free _ o (λz=>(hch _ z).2.1 rfl) ho I.free
 .obtain⟨v,o,ho,hd⟩:=I.cell x c e;exact free c o (λz=>(hch c z).2.2.1 x c e rfl) ho (I.freeC x c e)
 .obtain⟨e,n,ne,nf,d⟩:=I.pin p hp;have nch:p.1∉ch:=λz=>(hch p.1 z).2.2.2 p hp rfl
  exact⟨keep p.1 p.2 ne nf nch e n,free p.1 p.2 nch e n,ne,nf,d⟩
def Inv.un(I:Inv X pins σ H s)(u:Un X.fs [] H H' s.heap h')(hok:HOk X.prog X.w H' h'):Inv X pins σ H' { s with heap:=h',toks:=t' }:=by
 obtain⟨m,⟨o,es,ep,ho,r⟩,_⟩:=id I.loc;obtain⟨sl,hL⟩:=u.any ho I.free (by simp)
 exact I.step (g':=s.gens) (d':=s.drawn) (ch:=[]) (λ_ z=>nomatch z) (λb o _ hb _ e n=>u.keep b o e n hb (by simp)) (λb o _ hb _ e n=>u.slot b o e n hb (by simp)) (λb o _ e n=>u.free b o e n (by simp)) (λb o _ e=>u.there b o e (by simp)) u.tups u.frzs u.tbls (λm' hm=>by
  obtain⟨o',es',ep',ho',r'⟩:=hm;rw[ho]at ho';cases ho';exact⟨_,es',ep',hL,r'⟩) hok I.bare
def Inv.call{g':Array GenState}{d':Drawn}{ch:List Addr}(I:Inv X pins σ H s)(u:Un (frs X.stack) ch H H' s.heap h')(hok:HOk X.prog X.w H' h')(hg:b3W g')
  (hch:∀b∈ch,(b∈X.ex\/X.s₀.heap.objs.size<=b)/\b≠X.env.locals/\(∀x c,X.env.cells.lookup x=some c->c≠b)/\∀p∈X.pn++pins,p.1≠b) :
  Inv X pins σ H' { s with heap:=h',gens:=g',drawn:=d',toks:=t' }:=by
 obtain⟨m,⟨o,es,ep,ho,r⟩,_⟩:=id I.loc;obtain⟨sl,hL⟩:=u.any ho I.free λz=>(hch _ z).2.1 rfl
 exact I.step (ch:=ch) hch (λb o hL hb hc e n=>u.keep b o e n (λz=>(t8.mp (I.stkSub b z)).elim hL hb) hc) (λb o _ _ hc e n=>u.any e n hc) (λb o hc e n=>u.free b o e n hc) (λb o hc e=>u.there b o e hc) u.tups u.frzs u.tbls (λm' hm=>by
  obtain⟨o',es',ep',ho',r'⟩:=hm;rw[ho]at ho';cases ho';exact⟨_,es',ep',hL,r'⟩) hok hg
def Inv.turned{it:Addr}(I:Inv X pins σ H s)(k:∀b o,b≠it->s.heap.get? b=some o->h'.get? b=some o)(hn:H it=none)(hL:it≠X.env.locals)
  (h1:it∈X.ex\/X.s₀.heap.objs.size<=it) (h2:∀x c,X.env.cells.lookup x=some c->c≠it) (h3:∀p∈X.pn++pins,p.1≠it):Inv X pins σ H { s with heap:=h',toks:=t' }:=by
 have nit:∀b u,H b=some u->b≠it:=λb u e z=>by rw[z,hn]at e;cases e
 refine I.step (g':=s.gens) (d':=s.drawn) (ch:=[it]) (λb hb=>?_) (λb o _ _ hc e _=>k b o (λz=>hc (by simp[z])) e) (λb o _ _ hc e _=>⟨o.slots,k b o (λz=>hc (by simp[z])) e⟩) (λ_ _ _ _ n=>n)
  (λb o hc e=>⟨o,k b o (λz=>hc (by simp[z])) e⟩) (λ_ _ e=>e) (λ_ _ _ e=>e) (λb ps e=>⟨#[],by rw[e];simp⟩) (λm hm=>?_) (λb u e=>?_) I.bare
 .have e:b=it:=by simpa using hb
  subst e;exact⟨h1,hL,h2,h3⟩
 .obtain⟨o,es,ep,ho,r⟩:=hm;exact⟨o,es,ep,k _ o (Ne.symm hL) ho,r⟩
 .refine(I.hok b u e).stay (λc v hc q=>k c v ?_ q) (λ_ q=>q) λ_ _ q=>q
  rcases hc with z | z
  .rw[z];exact nit b u e
  .exact nit c _ z
def Inv.tok(I:Inv X pins σ H s)(t:Nat):Inv X pins σ H { s with toks:=t }:=I.un (h':=s.heap) (t':=t) Un.refl I.hok
def Inv.kept(I:Inv X pins σ H s)(k:∀b u,s.heap.get? b=some u->h'.get? b=some u):Inv X pins σ H { s with heap:=h',toks:=t' }:=I.un (Un.kept k) (I.hok.kept k)
def Inv.laid(I:Inv X pins σ H s)(k:∀b u,s.heap.get? b=some u->h'.get? b=some u)(hp:s.heap.objs.size<=a)(new:V5 X.prog X.w (upd H a o) h' a o) :
  Inv X pins σ (upd H a o) { s with heap:=h',toks:=t' }:=I.un (Un.laid k hp (I.hok.fresh hp)) (I.hok.laid k hp new)
def Inv.write{x e:Addr}(I:Inv X pins σ H s)(mu:Mut (H x))(he:e=x\/H e=some (.own x))(k:∀b u,b≠e->s.heap.get? b=some u->h'.get? b=some u)(heo:∃u,h'.get? e=some u)
  (new:V5 X.prog X.w (upd H x o) h' x o):Inv X pins σ (upd H x o) { s with heap:=h',toks:=t' }:=I.un (Un.write mu he k heo) (I.hok.write mu he k heo new)
def Inv.weak{σ':List (Option V)}(I:Inv X pins σ H s)(hl:σ'.length=σ.length)(w:∀(i:Nat) v,σ'[i]?=some (some v)->σ[i]?=some (some v)):Inv X pins σ' H s:=
 ⟨I.ok,I.os,I.bare,I.base,let⟨m,hn,hl'⟩:=I.loc; ⟨m,hn,λi x v e1 e2 e3=>hl' i x v e1 (w i v e2) e3⟩,I.cell,I.free,I.freeC,I.pin,I.hok,hl.trans I.len⟩
def Inv.pins_of{pins':List (Addr×Obj)}(I:Inv X pins σ H s)(h:∀p∈pins',s.heap.get? p.1=some p.2/\H p.1=none/\p.1≠X.env.locals/\p.1∉X.fs/\∀v,p.2.data≠.cell v):Inv X pins' σ H s:=
 ⟨I.ok,I.os,I.bare,I.base,I.loc,I.cell,I.free,I.freeC,λp hp=>(v7.mp hp).elim (λz=>I.pin p (v9 _ z)) (h p),I.hok,I.len⟩
def b4R{N:List Str}(hN:N.Nodup){j:Nat}{x:Str}(a:N[i]?=some x)(b:N[j]?=some x):i=j:=by
 obtain⟨h1,e1⟩:=u0.mp a;obtain⟨h2,e2⟩:=u0.mp b;exact(List.getElem_inj hN).mp (e1.trans e2.symm)
def b6t{M:Model}{x:Str}{Q:Unit->j6->Prop}(I:Inv X pins σ H s)(hN:X.N.Nodup)(hi:X.N[i]?=some x)(hx:Loc X.env.scope x)(r:K0 v u)
  (h:∀s',Inv X pins (σ.set i (some v)) H s'->(∃a,Heap.SameBut a s.heap s'.heap/\(a=X.env.locals\/X.env.cells.lookup x=some a))->Q () s') (hf:X.fn x=true\/X.env.scope.names.lookup x=some .local:=by first | exact .inl rfl | exact .inr rfl | assumption):wpAny M A (storeName X.env x u) Q E s:=by
 obtain⟨m,hn,hl⟩:=id I.loc;have hcls:(X.env.scope.kind == .class||(X.env.scope.kind == .module&&X.env.locals != X.env.globals))=false:=by rw[I.ok.kind];rfl
 have hiσ:i<σ.length:=by rw[I.len];exact(u0.mp hi).1
 have cne:=I.cne
 have tracked:∀ {a:Addr} {h':Heap},(∃o,s.heap.get? a=some o/\H a=none)->Heap.SameBut a s.heap h'->HOk X.prog X.w H h':=fun {a h'} ha hs b ob e=>by
  obtain⟨_,_,hfree⟩:=ha;refine(I.hok b ob e).stay (λc w' hc q=>(hs.2 c ?_).trans q) (λ_ q=>q) λ_ _ q=>q
  rintro rfl;rcases hc with rfl | hc
  .rw[hfree]at e;cases e
  .rw[hfree]at hc;cases hc
 rcases hx with hk | hk
 .refine wpAny_storeName_local hk hn (λh' hn' hs=>?_) hcls;obtain⟨oL,_,_,hoL,_⟩:=id hn;refine h _ ⟨I.ok,I.os,I.bare,⟨λb o e n hb hx=>?_,λb o e n hb hx=>?_,I.base.free,λb o e hx=>?_,I.base.tups,I.base.frzs,I.base.tbls⟩,⟨_,hn',λj y v' e1 e2 e3=>?_⟩,λy c e=>?_,I.free,I.freeC,λp hp=>?_,tracked ⟨oL,hoL,I.free⟩ hs,by simpa using I.len⟩ ⟨_,hs,.inl rfl⟩
  .exact(hs.2 b (A3 (A7 (l5 e) I.ok.above))).trans (I.base.keep b o e n hb hx)
  .obtain⟨sl,e1⟩:=I.base.slot b o e n hb hx;exact⟨sl,(hs.2 b (A3 (A7 (l5 e) I.ok.above))).trans e1⟩
  .obtain⟨o',e1⟩:=I.base.there b o e hx;exact⟨o',(hs.2 b (A3 (A7 (l5 e) I.ok.above))).trans e1⟩
  .by_cases hj:j=i
   .subst hj;rw[hi]at e1;cases e1;rw[M6 hiσ]at e2;cases e2;exact⟨u,r,.inl ⟨hk,by simp⟩⟩
   .rw[O2 (Ne.symm hj)]at e2;obtain⟨u',r',q⟩:=hl j y v' e1 e2 e3;refine⟨u',r',?_⟩;rcases q with ⟨k,e⟩ | ⟨k,c,e,z⟩
    .refine .inl ⟨k,?_⟩;have:y≠x:=λe=>hj (b4R hN e1 (e ▸ hi))
     simp[this,e]
    .exact .inr ⟨k,c,e,z.sameBut hs (cne y c e)⟩
  .obtain⟨w',z⟩:=I.cell y c e;exact⟨w',z.sameBut hs (cne y c e)⟩
  .obtain⟨e,n,ne,nf,d⟩:=I.pin p hp;exact⟨(hs.2 p.1 ne).trans e,n,ne,nf,d⟩
 .have hfn:X.fn x=true:=by
   rcases hf with z | z
   .exact z
   .rw[z]at hk;cases hk
  obtain⟨c,hc⟩:=I.ok.has x (.inl hk);obtain⟨w',z⟩:=I.cell x c hc;refine wpAny_storeName_cell I.ok.kind hk hc z (λh' hc' hs=>?_);obtain⟨oc,hoc,hocd⟩:=id z;refine h { s with heap:=h' } ⟨I.ok,I.os,I.bare,⟨λb o e n hb hx=>?_,λb o e n hb hx=>?_,I.base.free,λb o e hx=>?_,I.base.tups,I.base.frzs,I.base.tbls⟩,⟨m,hn.sameBut hs (Ne.symm (cne x c hc)),λj y v' e1 e2 e3=>?_⟩,λy c' e=>?_,I.free,I.freeC,λp hp=>?_,tracked ⟨oc,hoc,I.freeC x c hc⟩ hs,by simpa using I.len⟩ ⟨c,hs,.inr hc⟩
  .exact(hs.2 b (A3 (A7 (l5 e) (I.ok.cab x c hfn hc)))).trans (I.base.keep b o e n hb hx)
  .obtain⟨sl,e1⟩:=I.base.slot b o e n hb hx;exact⟨sl,(hs.2 b (A3 (A7 (l5 e) (I.ok.cab x c hfn hc)))).trans e1⟩
  .obtain⟨o',e1⟩:=I.base.there b o e hx;exact⟨o',(hs.2 b (A3 (A7 (l5 e) (I.ok.cab x c hfn hc)))).trans e1⟩
  .by_cases hj:j=i
   .subst hj;rw[hi]at e1;cases e1;rw[M6 hiσ]at e2;cases e2;exact⟨u,r,.inr ⟨.inl hk,c,hc,hc'⟩⟩
   .rw[O2 (Ne.symm hj)]at e2;obtain⟨u',r',q⟩:=hl j y v' e1 e2 e3;refine⟨u',r',?_⟩;rcases q with q | ⟨k,c',e,z'⟩
    .exact .inl q
    .refine .inr ⟨k,c',e,z'.sameBut hs ?_⟩;rintro rfl;exact hj (b4R hN e1 (I.ok.inj _ _ _ e hc ▸ hi))
  .by_cases hcc:c'=c
   .subst hcc;exact⟨_,hc'⟩
   .obtain⟨w2,z2⟩:=I.cell y c' e;exact⟨w2,z2.sameBut hs hcc⟩
  .obtain⟨e,n,ne,nf,d⟩:=I.pin p hp;refine⟨(hs.2 p.1 ?_).trans e,n,ne,nf,d⟩;intro q;rw[q,hoc]at e;have q':oc=p.2:=Option.some.inj e;exact d w' (by rw[<-q'];exact hocd)
def a7b{M:Model}{x:Str}{Q:Unit->j6->Prop}(I:Inv X pins σ H s)(hN:X.N.Nodup)(hi:X.N[i]?=some x)(hx:Loc X.env.scope x)(r:K0 v u)
  (h:∀s',Inv X pins (σ.set i (some v)) H s'->Q () s') (hf:X.fn x=true\/X.env.scope.names.lookup x=some .local:=by first | exact .inl rfl | exact .inr rfl | assumption):wpAny M A (storeName X.env x u) Q E s:=
 b6t I hN hi hx r (λs' I' _=>h s' I') hf
def Inv.call'{s':j6}{ch:List Addr}(I:Inv X pins σ H s)(ho:s'.os=s.os)(u:Un (frs X.stack) ch H H' s.heap s'.heap)(hok:HOk X.prog X.w H' s'.heap)(hg:b3W s'.gens)
  (hch:∀b∈ch,(b∈X.ex\/X.s₀.heap.objs.size<=b)/\b≠X.env.locals/\(∀x c,X.env.cells.lookup x=some c->c≠b)/\∀p∈X.pn++pins,p.1≠b):Inv X pins σ H' s':=by
 obtain⟨h',g',d',t',o'⟩:=s';have e:o'=s.os:=ho;subst e;exact I.call (g':=g') (t':=t') (d':=d') u hok hg hch
end
abbrev XK:=Value->Option Addr->Hp->Prop
abbrev St:=List (Option V)
variable{σ:St}
abbrev VK:=V->Hp->Prop
abbrev TE:=St->Hp->VK->Prop
variable{t ta te:TE}
abbrev TT:=St->Hp->(Bool->Hp->Prop)->Prop
abbrev TA:=St->Hp->(List V->Hp->Prop)->Prop
structure b1H where
 nx:St->Hp->Prop
 rt:VK
 bk:St->Hp->Prop:=λ_ _=>False
 ct:St->Hp->Prop:=λ_ _=>False
abbrev TS:=b1H->St->Hp->Prop
variable{tb:TS}
def EP(X:Cx)(pins:List (Addr×Obj))(σ:St)(Q:VK)(u:Value)(s':j6):Prop:=∃v H',Inv X pins σ H' s'/\K0 v u/\Q v H'
def TP(X:Cx)(pins:List (Addr×Obj))(σ:St)(Q:Bool->Hp->Prop)(b:Bool)(s':j6):Prop:=∃H',Inv X pins σ H' s'/\Q b H'
def AP(X:Cx)(pins:List (Addr×Obj))(σ:St)(Q:List V->Hp->Prop)(us:List Value)(s':j6):Prop:=∃vs H',Inv X pins σ H' s'/\L8 vs us/\Q vs H'
def SP(X:Cx)(pins:List (Addr×Obj))(D:b1H)(f:Flow)(s':j6):Prop:=
 match f with
 |.next=>∃σ' H',Inv X pins σ' H' s'/\D.nx σ' H'
 |.brk=>∃σ' H',Inv X pins σ' H' s'/\D.bk σ' H'
 |.cont=>∃σ' H',Inv X pins σ' H' s'/\D.ct σ' H'
 |.ret u=>∃v σ' H',Inv X pins σ' H' s'/\K0 v u/\D.rt v H'
def PEq(X:Cx)(e:Expr)(t:TE):Prop:=
 ∀(pins:List (Addr×Obj)) (s:j6) (σ:St) (H:Hp) (Q:VK),Inv X pins σ H s->t σ H Q->wpAny (model X.prog X.w) X.A (eval e X.env) (EP X pins σ Q) X.xe s
structure PE(X:Cx)(e:Expr)(t:TE):Prop where
 h:PEq X e t
instance {X:Cx}{e:Expr}{t:TE}:CoeFun (PE X e t) λ_=>PEq X e t:=⟨PE.h⟩
def PTq(X:Cx)(e:Expr)(t:TT):Prop:=
 ∀(pins:List (Addr×Obj)) (s:j6) (σ:St) (H:Hp) (Q:Bool->Hp->Prop),Inv X pins σ H s->t σ H Q->wpAny (model X.prog X.w) X.A (isTrue e X.env (eval e X.env)) (TP X pins σ Q) X.xe s
structure PT(X:Cx)(e:Expr)(t:TT):Prop where
 h:PTq X e t
instance {X:Cx}{e:Expr}{t:TT}:CoeFun (PT X e t) λ_=>PTq X e t:=⟨PT.h⟩
def PWq(X:Cx)(e:Expr)(t:TT):Prop:=
 ∀(whole:Sem Value) (pins:List (Addr×Obj)) (s:j6) (σ:St) (H:Hp) (Q:Bool->Hp->Prop),Inv X pins σ H s->t σ H Q->wpAny (model X.prog X.w) X.A (isTrue e X.env whole) (TP X pins σ Q) X.xe s
structure PW(X:Cx)(e:Expr)(t:TT):Prop where
 h:PWq X e t
instance {X:Cx}{e:Expr}{t:TT}:CoeFun (PW X e t) λ_=>PWq X e t:=⟨PW.h⟩
def PW.pt{t:TT}(h:PW X e t):PT X e t:=.mk (h _)
def PAq(X:Cx)(es:List Expr)(t:TA):Prop:=
 ∀(pos:Pos) (pins:List (Addr×Obj)) (s:j6) (σ:St) (H:Hp) (Q:List V->Hp->Prop),Inv X pins σ H s->t σ H Q->wpAny (model X.prog X.w) X.A (spliced (a0v pos (u6 es X.env))) (AP X pins σ Q) X.xe s
structure PA(X:Cx)(es:List Expr)(t:TA):Prop where
 h:PAq X es t
instance {X:Cx}{es:List Expr}{t:TA}:CoeFun (PA X es t) λ_=>PAq X es t:=⟨PA.h⟩
def PSq(X:Cx)(st:Stmt)(t:TS):Prop:=
 ∀(pins:List (Addr×Obj)) (s:j6) (σ:St) (H:Hp) (D:b1H),Inv X pins σ H s->t D σ H->wpAny (model X.prog X.w) X.A (exec st X.env) (SP X pins D) X.xe s
structure PS(X:Cx)(st:Stmt)(t:TS):Prop where
 h:PSq X st t
instance {X:Cx}{st:Stmt}{t:TS}:CoeFun (PS X st t) λ_=>PSq X st t:=⟨PS.h⟩
def d2n(X:Cx)(st:List Stmt)(t:TS):Prop:=
 ∀(pins:List (Addr×Obj)) (s:j6) (σ:St) (H:Hp) (D:b1H),Inv X pins σ H s->t D σ H->wpAny (model X.prog X.w) X.A (execs st X.env) (SP X pins D) X.xe s
structure PSs(X:Cx)(st:List Stmt)(t:TS):Prop where
 h:d2n X st t
instance {X:Cx}{st:List Stmt}{t:TS}:CoeFun (PSs X st t) λ_=>d2n X st t:=⟨PSs.h⟩
def thn{α:Type}{t:Sem α}{Q Q':α->j6->Prop}{M:Model}(h:wpAny M A t Q E s)(hQ:∀a s,Q a s->Q' a s):wpAny M A t Q' E s:=a2b h hQ λ_ _ x=>x
section
def b4(i:Nat):TE:=λσ H Q=>∃v,σ[i]?=some (some v)/\Q v H
def tC(v:V):TE:=λ_ H Q=>Q v H
def c9Y{x:Str}(hN:X.N[i]?=some x)(hv:Vis X.env.scope x)(hd:(x == ("__debug__" : Str))=false:=by decide)(hcd:(x == ("__classdict__" : Str))=false:=by decide):PE X (.Name x pos) (b4 i):=.mk λpins s σ H Q I h=>by
 obtain⟨v,e,h⟩:=h;obtain⟨m,hn,hl⟩:=I.loc;obtain⟨u,r,l⟩:=hl i x v hN e hv;have fin:EP X pins σ Q u s:=⟨v,H,I,r,h⟩;rcases l with ⟨hk,hm⟩ | ⟨hk,c,hc,hcell⟩
 .exact wpAny_Name (d2B I.ok.kind hk hn hm fin) hd
 .rcases hk with hk | hk
  .exact wpAny_Name (d2I I.ok.kind hk hc hcell fin) hd
  .exact wpAny_Name (wpAny_loadName_free I.ok.kind hk hc hcell fin hcd) hd
def c6{i j pos}:PE X (.Constant (.int i) j pos) (tC (.int i)):=.mk λ_ _ _ H _ I h=>wpAny_Constant_int ⟨.int i,H,I.tok _,⟨_,rfl⟩,h⟩
def a1j{b j pos}:PE X (.Constant (.bool b) j pos) (tC (.bl b)):=.mk λ_ _ _ H _ I h=>Constant_bool ⟨.bl b,H,I,rfl,h⟩
def a3V{j pos}:PE X (.Constant .none j pos) (tC .non):=.mk λ_ _ _ H _ I h=>Constant_none ⟨.non,H,I,rfl,h⟩
def F0{x j pos}:PE X (.Constant (.str x) j pos) (tC (.str x)):=.mk λ_ _ _ H _ I h=>Calls.Constant_str ⟨.str x,H,I.tok _,⟨_,rfl⟩,h⟩
def Gl(X:Cx)(x:Str):Prop:=X.env.kindOf x=some .globalImplicit
def a6x{x:Str}(I:Inv X pins σ H s)(hg:Gl X x)(hm:X.mg x=some u)(h:Q u s)
  (hd:(x == ("__debug__" : Str))=false:=by decide):wpAny (model X.prog X.w) X.A (eval (.Name x pos) X.env) Q E s:=
 Calls.Name_function_global I.ok.kind hg (Calls.loadGlobal_global (by rw[I.ok.glob];exact I.mod.glob.keeps I.bk) hm h) hd
def b2w{x:Str}(I:Inv X pins σ H s)(hg:Gl X x)(hm:X.mg x=none)(hv:a6V x=some u)(h:Q u s)
  (hn:x ≠ "__name__" := by decide) (hd:(x == ("__debug__" : Str))=false:=by decide):wpAny (model X.prog X.w) X.A (eval (.Name x pos) X.env) Q E s:=by
 obtain⟨mb,h1,h2⟩:=I.mod.blt;exact Calls.Name_function_global I.ok.kind hg (Calls.loadGlobal_builtin (by rw[I.ok.glob];exact I.mod.glob.keeps I.bk) hm (by rw[I.ok.blt];exact h1.keeps I.bk) ((h2 x hn).trans hv) h) hd
def c7z{x:Str}(hg:Gl X x)(hm:X.mg x=some u)(r:K0 v u)(hd:(x == ("__debug__" : Str))=false:=by decide):PE X (.Name x pos) (tC v):=.mk
 λ_ _ _ H _ I h=>a6x I hg hm ⟨v,H,I,r,h⟩ hd
def a3e{x:Str}(hg:Gl X x)(hm:X.mg x=none)(hv:a6V x=some u)(r:K0 v u)(hn:x ≠ "__name__" := by decide)(hd:(x == ("__debug__" : Str))=false:=by decide):PE X (.Name x pos) (tC v):=.mk
 λ_ _ _ H _ I h=>b2w I hg hm hv ⟨v,H,I,r,h⟩ hn hd
variable {a b:Expr}{tb:TE}
def PC(X:Cx)(op:CmpOp)(a b:Expr)(t:TE):Prop:=
 ∀(pins:List (Addr×Obj)) (s:j6) (σ:St) (H:Hp) (Q:VK),Inv X pins σ H s->t σ H Q ->
  wpAny (model X.prog X.w) X.A (eval a X.env) (λv s₁=>wpAny (model X.prog X.w) X.A (eval b X.env) (λu s₂=>wpAny (model X.prog X.w) X.A (J4 op v u) (EP X pins σ Q) X.xe s₂) X.xe s₁) X.xe s
def tB(t:TE):TT:=λσ H Q=>t σ H λx H1=>∃c,x=.bl c/\Q c H1
def c5z{op:CmpOp}(h:PC X op a b t)(h1:V3 op b=false:=by first | exact nobehind _ (by decide) (by decide) | rfl):PE X (.Compare a [op] [b] pos) t:=.mk λpins s σ H Q I hw=>wpAny_Compare1 (h pins s σ H Q I hw) h1
def b7w{op:CmpOp}(h:PC X op a b t)(h1:V3 op b=false:=by first | exact nobehind _ (by decide) (by decide) | rfl):PT X (.Compare a [op] [b] pos) (tB t):=.mk λpins s σ H Q I hw=>by
 refine d1o (thn (h pins s σ H _ I hw) λv s1 h1=>thn h1 λu s2 h2=>thn h2 λc s3 ⟨x,H1,I1,r1,q1⟩=>?_) h1;obtain⟨d,rfl,q⟩:=q1;cases r1;exact T3 ⟨H1,I1,q⟩
def c9T(h:PE X e t)(he:∀whole,isTrue e X.env whole=(do let v <-whole;b3V e.pos;a7q [v] (truthy v)):=by intro _;rfl):PT X e (tB t):=.mk λpins s σ H Q I hw=>by
 refine isTrue_plain (thn (h pins s σ H _ I hw) λv s1 ⟨x,H1,I1,r1,q1⟩=>?_) (he _);obtain⟨d,rfl,q⟩:=q1;cases r1;exact T3 ⟨H1,I1,q⟩
variable {tA tB':TT}{rest:List Expr}
def b0T(t u:TT):TT:=λσ H Q=>t σ H λc H1=>if c=true then u σ H1 Q else Q false H1
def tOr(t u:TT):TT:=λσ H Q=>t σ H λc H1=>if c=true then Q true H1 else u σ H1 Q
def a5l(t:TT):TT:=λσ H Q=>t σ H λc H1=>Q (!c) H1
def a3d(ha:PT X a tA):PW X (.BoolOp .And [a] pos) tA:=.mk λwh pins s σ H Q I h=>by
 refine isTrue_and (thn (ha pins s σ H Q I h) λc s1 e=>?_);cases c with
 |true=>exact isTrue_and_nil e
 |false=>exact e
def a1v(ha:PT X a tA):PW X (.BoolOp .Or [a] pos) tA:=.mk λwh pins s σ H Q I h=>by
 refine isTrue_or (thn (ha pins s σ H Q I h) λc s1 e=>?_);cases c with
 |false=>exact isTrue_or_nil e
 |true=>exact e
def a3T(ha:PT X a tA)(hb:PW X (.BoolOp .And (b::rest) pos) tB'):PW X (.BoolOp .And (a::b::rest) pos) (b0T tA tB'):=.mk λwh pins s σ H Q I h=>by
 refine isTrue_and (thn (ha pins s σ H _ I h) λc s1 ⟨H1,I1,q1⟩=>?_);cases c with
 |true=>exact hb wh pins s1 σ H1 Q I1 q1
 |false=>exact⟨H1,I1,q1⟩
def a3w(ha:PT X a tA)(hb:PW X (.BoolOp .Or (b::rest) pos) tB'):PW X (.BoolOp .Or (a::b::rest) pos) (tOr tA tB'):=.mk λwh pins s σ H Q I h=>by
 refine isTrue_or (thn (ha pins s σ H _ I h) λc s1 ⟨H1,I1,q1⟩=>?_);cases c with
 |true=>exact⟨H1,I1,q1⟩
 |false=>exact hb wh pins s1 σ H1 Q I1 q1
def a0a(ha:PT X a tA):PT X (.UnaryOp .Not a pos) (a5l tA):=.mk λpins s σ H Q I h=>by
 exact isTrue_not (ha pins s σ H (λc H1=>Q (!c) H1) I h)
def a1D(ta tb:TE):TE:=λσ H Q=>ta σ H λx H1=>∃c,x=.bl c/\if c=true then tb σ H1 Q else Q (.bl false) H1
def b8K(ta tb:TE):TE:=λσ H Q=>ta σ H λx H1=>∃c,x=.bl c/\if c=true then Q (.bl true) H1 else tb σ H1 Q
def b0S(ta:TE):TE:=λσ H Q=>ta σ H λx H1=>∃c,x=.bl c/\Q (.bl (!c)) H1
def a1i{op}(h:PE X a t):PE X (.BoolOp op [a] pos) t:=.mk λpins s σ H Q I hw=>BoolOp_one (h pins s σ H Q I hw)
def a0R(ha:PE X a ta)(hb:PE X (.BoolOp .And (b::rest) pos) tb):PE X (.BoolOp .And (a::b::rest) pos) (a1D ta tb):=.mk λpins s σ H Q I h=>by
 refine BoolOp_and (thn (ha pins s σ H _ I h) λv s1 ⟨x,H1,I1,r1,q1⟩=>?_);obtain⟨c,rfl,q1⟩:=q1;cases r1;refine T3 ?_;cases c with
 |true=>exact hb pins s1 σ H1 Q I1 q1
 |false=>exact⟨.bl false,H1,I1,rfl,q1⟩
def c2p(ha:PE X a ta)(hb:PE X (.BoolOp .Or (b::rest) pos) tb):PE X (.BoolOp .Or (a::b::rest) pos) (b8K ta tb):=.mk λpins s σ H Q I h=>by
 refine BoolOp_or (thn (ha pins s σ H _ I h) λv s1 ⟨x,H1,I1,r1,q1⟩=>?_);obtain⟨c,rfl,q1⟩:=q1;cases r1;refine T3 ?_;cases c with
 |false=>exact hb pins s1 σ H1 Q I1 q1
 |true=>exact⟨.bl true,H1,I1,rfl,q1⟩
def b4A(ha:PE X a ta):PE X (.UnaryOp .Not a pos) (b0S ta):=.mk λpins s σ H Q I h=>by
 refine UnaryOp_ (thn (ha pins s σ H _ I h) λv s1 ⟨x,H1,I1,r1,q1⟩=>?_);obtain⟨c,rfl,q1⟩:=q1;cases r1;exact not_of (T3 ⟨.bl (!c),H1,I1,rfl,q1⟩)
def tIf(t:TT)(ta tb:TE):TE:=λσ H Q=>t σ H λc H1=>if c=true then ta σ H1 Q else tb σ H1 Q
def a8J{c:Expr}(hc:PT X c tA)(ha:PE X a ta)(hb:PE X b tb):PE X (.IfExp c a b pos) (tIf tA ta tb):=.mk λpins s σ H Q I h=>by
 refine wpAny_IfExp (thn (hc pins s σ H _ I h) λd s1 ⟨H1,I1,q1⟩=>?_);cases d with
 |true=>exact ha pins s1 σ H1 Q I1 q1
 |false=>exact hb pins s1 σ H1 Q I1 q1
end
def SqL(K:Fg)(H:Hp)(a:Addr)(xs:List V):Prop:=
 Rd H a (.lst xs) \/
  ∃(o:Obj) (its:Array Value) (n:Nat),K.lookup a=some o/\o.cls=.type "list" /\ o.dict=none/\o.data=.seq its n/\its.size<=z9/\L8 xs its.toList
def SqT(K:Fg)(H:Hp)(a:Addr)(xs:List V):Prop:=
 Rd H a (.tup xs) \/
  ∃(o:Obj) (its:Array Value) (n:Nat),K.lookup a=some o/\o.cls=.type "tuple" /\ o.data=.seq its n/\its.size<=z9/\L8 xs its.toList
def d3h:Value->Option V
 |.none=>some .non
 |.bool b=>some (.bl b)
 |.int i _=>some (.int i)
 |.str x _=>some (.str x)
 |.bytes b _=>some (.byt b)
 |.float b _=>some (.flt b)
 |.ref a=>some (.ref a)
 |.type n=>some (.ty n)
 |_=>none
def K0.abs{x:V}(r:K0 x u):d3h u=some x:=by
 cases x with
 |non=>cases r;rfl
 |bl _=>cases r;rfl
 |int _=>obtain⟨t,rfl⟩:=r;rfl
 |str _=>obtain⟨t,rfl⟩:=r;rfl
 |byt _=>obtain⟨t,rfl⟩:=r;rfl
 |flt _=>obtain⟨t,rfl⟩:=r;rfl
 |ref _=>cases r;rfl
 |ty _=>cases r;rfl
def K0.inj{x:V}(r:K0 x u)(q:K0 y u):x=y:=Option.some.inj (r.abs.symm.trans q.abs)
def L8.inj:∀ {xs ys:List V} {us:List Value},L8 xs us->L8 ys us->xs=ys
 |_,_,_,.nil,.nil=>rfl
 |_,_,_,.cons r t,.cons r' t'=>by rw[r.inj r',L8.inj t t']
section
variable {ys:List V}
def SqL.of{K:Fg}(h:H a=some (.lst xs)):SqL K H a xs:=.inl (.inl h)
def SqT.of{K:Fg}(h:H a=some (.tup xs)):SqT K H a xs:=.inl (.inl h)
def Inv.list(I:Inv X pins σ H s)(h:SqL X.K H a xs):∃its:List Value,L8 xs its/\PlainL s.heap a its.toArray/\xs.length<=z9:=by
 rcases h with h | ⟨o,its,n,hk,hc,hd,hs,hz,r⟩
 .obtain⟨z,its,n,r,e⟩:=h.ok I.hok;exact⟨its,r,⟨_,n,e,rfl,rfl,rfl⟩,z⟩
 .refine⟨its.toList,r,⟨o,n,I.kIn a o hk,hc,hd,by simpa using hs⟩,?_⟩;have e:=r.length;simp only[a6f]at e;omega
def Inv.tuple(I:Inv X pins σ H s)(h:SqT X.K H a xs):∃its:List Value,L8 xs its/\IsTup s.heap a its.toArray/\xs.length<=z9:=by
 rcases h with h | ⟨o,its,n,hk,hc,hs,hz,r⟩
 .obtain⟨z,its,r,p⟩:=h.ok I.hok;exact⟨its,r,p,z⟩
 .refine⟨its.toList,r,⟨o,I.kIn a o hk,hc,n,by simpa using hs⟩,?_⟩;have e:=r.length;simp only[a6f]at e;omega
def Inv.list_inj(I:Inv X pins σ H s)(h:SqL X.K H a xs)(h':SqL X.K H a ys):xs=ys:=by
 obtain⟨its,r,⟨o,n,e,_,_,d⟩,_⟩:=I.list h;obtain⟨its',r',⟨o',n',e',_,_,d'⟩,_⟩:=I.list h';rw[e]at e';cases e';rw[d]at d';injection d' with d1 _
 have:its=its':=by simpa using congrArg Array.toList d1
 subst this;exact r.inj r'
end
abbrev Cx.wish(X:Cx)(E:Value->j6->Prop):Cx:={ X with xe:=E }
abbrev Cx.nox(X:Cx):Cx:=X.wish λ_ _=>False
def Cx.Ok.wish(ok:X.Ok)(E:Value->j6->Prop):(X.wish E).Ok:=
 ⟨ok.mod,ok.kind,ok.glob,ok.blt,ok.above,ok.inj,ok.has,ok.cab,ok.hd,ok.frames,ok.stk,ok.exf,ok.bs,ok.bsz,ok.noex,ok.exfs,ok.funs,ok.frf⟩
def Cx.Ok.unwish(ok:(X.wish E).Ok):X.Ok:=
 ⟨ok.mod,ok.kind,ok.glob,ok.blt,ok.above,ok.inj,ok.has,ok.cab,ok.hd,ok.frames,ok.stk,ok.exf,ok.bs,ok.bsz,ok.noex,ok.exfs,ok.funs,ok.frf⟩
section
def Inv.wish(I:Inv X pins σ H s)(E:Value->j6->Prop):Inv (X.wish E) pins σ H s:=⟨I.ok.wish E,I.os,I.bare,I.base,I.loc,I.cell,I.free,I.freeC,I.pin,I.hok,I.len⟩
def Inv.unwish(I:Inv (X.wish E) pins σ H s):Inv X pins σ H s:=⟨I.ok.unwish,I.os,I.bare,I.base,I.loc,I.cell,I.free,I.freeC,I.pin,I.hok,I.len⟩
def SP.unwish{D:b1H}{f:Flow}{s':j6}(h:SP (X.wish E) pins D f s'):SP X pins D f s':=by
 cases f with
 |next=>obtain⟨σ',H',I,q⟩:=h;exact⟨σ',H',I.unwish,q⟩
 |brk=>obtain⟨σ',H',I,q⟩:=h;exact⟨σ',H',I.unwish,q⟩
 |cont=>obtain⟨σ',H',I,q⟩:=h;exact⟨σ',H',I.unwish,q⟩
 |ret u=>obtain⟨v,σ',H',I,r,q⟩:=h;exact⟨v,σ',H',I.unwish,r,q⟩
def PSs.nox{st:List Stmt}{t:TS}(h:PSs X.nox st t):PSs X st t:=.mk λpins s σ H D I hw=>
 a2b (h pins s σ H D (I.wish _) hw) (λ_ _ q=>q.unwish) λ_ _ z=>False.elim z
end
section
variable {st:Stmt}{rest:List Stmt}{t u:TS}
def E2:TS:=λD σ H=>D.nx σ H
def w4(t u:TS):TS:=λD σ H=>t { D with nx:=u D } σ H
def z5:PSs X [] E2:=.mk λ_ _ σ H _ I h=>a8v ⟨σ,H,I,h⟩
def b9(h1:PS X st t)(h2:PSs X rest u):PSs X (st::rest) (w4 t u):=.mk λpins s σ H D I h=>by
 refine wpAny_execs_cons (thn (h1 pins s σ H { D with nx:=u D } I h) λf s1 q=>?_);cases f with
 |next=>
  obtain⟨σ',H',I',q⟩:=q;exact h2 pins s1 σ' H' D I' q
 |ret v=>exact q
 |brk=>exact q
 |cont=>exact q
def c9(h1:PS X st t):PSs X [st] t:=.mk λpins s σ H D I h=>by
 refine wpAny_execs_cons (thn (h1 pins s σ H D I h) λf s1 q=>?_);cases f with
 |next=>exact a8v q
 |ret v=>exact q
 |brk=>exact q
 |cont=>exact q
def Inv.quiet(I:Inv X pins σ H s):interactive X.env=false:=by simp[interactive,I.ok.kind]
def Y1(te:TE):TS:=λD σ H=>te σ H λ_ H1=>D.nx σ H1
def P8(he:PE X e te)(hs:a6U e none pos.line X.env=pure false:=by rfl):PS X (.Expr e pos) (Y1 te):=.mk λpins s σ H D I h=>by
 exact wpAny_Expr_any (thn (he pins s σ H _ I h) λv s1 ⟨x,H1,I1,r1,q1⟩=>⟨σ,H1,I1,q1⟩) I.quiet hs
def K7(te:TE):TS:=λD σ H=>te σ H D.rt
def A0(he:PE X e te):PS X (.Return (some e) pos) (K7 te):=.mk λpins s σ H D I h=>by
 exact wpAny_Return_some (thn (he pins s σ H _ I h) λv s1 ⟨x,H1,I1,r1,q1⟩=>⟨x,σ,H1,I1,r1,q1⟩)
def M8(c:TT)(t u:TS):TS:=λD σ H=>c σ H λb H1=>if b=true then t D σ H1 else u D σ H1
def E5{c:Expr}{a b:List Stmt}{tc:TT}(hc:PT X c tc)(ha:PSs X a t)(hb:PSs X b u):PS X (.If c a b pos) (M8 tc t u):=.mk λpins s σ H D I h=>by
 refine wpAny_If (thn (hc pins s σ H _ I h) λd s1 ⟨H1,I1,q1⟩=>?_);cases d with
 |true=>exact ha pins s1 σ H1 D I1 q1
 |false=>exact hb pins s1 σ H1 D I1 q1
def c4R:TS:=λ_ _ _=>False
def c3q{sts:List Stmt}:PSs X sts c4R:=.mk λ_ _ _ _ _ _ h=>h.elim
end
abbrev TG:=V->St->Hp->(St->Hp->Prop)->Prop
variable{g:TG}
abbrev TGs:=List V->St->Hp->(St->Hp->Prop)->Prop
def PGq(X:Cx)(target:Expr)(t:TG):Prop:=
 ∀(pins:List (Addr×Obj)) (s:j6) (σ:St) (H:Hp) (v:V) (u:Value) (Q:St->Hp->Prop),Inv X pins σ H s->K0 v u->t v σ H Q ->
  wpAny (model X.prog X.w) X.A (c1Y target X.env u) (λ_ s'=>∃σ' H',Inv X pins σ' H' s'/\Q σ' H') X.xe s
structure PG(X:Cx)(target:Expr)(t:TG):Prop where
 h:PGq X target t
instance {X:Cx}{target:Expr}{t:TG}:CoeFun (PG X target t) λ_=>PGq X target t:=⟨PG.h⟩
def d2q(X:Cx)(ts:List Expr)(t:TGs):Prop:=
 ∀(pins:List (Addr×Obj)) (s:j6) (σ:St) (H:Hp) (vs:List V) (us:List Value) (Q:St->Hp->Prop),Inv X pins σ H s->L8 vs us->t vs σ H Q ->
  wpAny (model X.prog X.w) X.A (assignInOrder ((b5H ts X.env).map (·.2)) us) (λ_ s'=>∃σ' H',Inv X pins σ' H' s'/\Q σ' H') X.xe s
structure PGs(X:Cx)(ts:List Expr)(t:TGs):Prop where
 h:d2q X ts t
instance {X:Cx}{ts:List Expr}{t:TGs}:CoeFun (PGs X ts t) λ_=>d2q X ts t:=⟨PGs.h⟩
abbrev b8k:=V->V->V->Hp->(Hp->Prop)->Prop
def c9l(X:Cx)(t:b8k):Prop:=
 ∀(pins:List (Addr×Obj)) (s:j6) (σ:St) (H:Hp) (o i v:V) (ov iv u:Value) (Q:Hp->Prop),Inv X pins σ H s->K0 o ov->K0 i iv->K0 v u->t o i v H Q ->
  wpAny (model X.prog X.w) X.A (setItem ov iv u) (λ_ s'=>∃H',Inv X pins σ H' s'/\Q H') X.xe s
structure c4g(X:Cx)(t:b8k):Prop where
 h:c9l X t
instance {X:Cx}{t:b8k}:CoeFun (c4g X t) λ_=>c9l X t:=⟨c4g.h⟩
abbrev TIp:=V->V->Hp->VK->Prop
def d2p(X:Cx)(op:c4p)(t:TIp):Prop:=
 ∀(pins:List (Addr×Obj)) (s:j6) (σ:St) (H:Hp) (x y:V) (v u:Value) (Q:VK),Inv X pins σ H s->K0 x v->K0 y u->t x y H Q ->
  wpAny (model X.prog X.w) X.A (inplaceOp op v u) (EP X pins σ Q) X.xe s
structure PIp(X:Cx)(op:c4p)(t:TIp):Prop where
 h:d2p X op t
instance {X:Cx}{op:c4p}{t:TIp}:CoeFun (PIp X op t) λ_=>d2p X op t:=⟨PIp.h⟩
section
def z8(i:Nat):TG:=λv σ H Q=>Q (σ.set i (some v)) H
def b7B{x:Str}(hN:X.N.Nodup)(hi:X.N[i]?=some x)(hx:Loc X.env.scope x)(hf:X.fn x=true\/X.env.scope.names.lookup x=some .local:=by first | exact .inl rfl | exact .inr rfl | assumption):PG X (.Name x pos) (z8 i):=.mk λpins s σ H v u Q I r h=>by
 exact c0r (a7b I hN hi hx r (λs' I'=>⟨_,H,I',h⟩) hf)
def b3x:TGs:=λvs σ H Q=>vs=[]/\Q σ H
def a1T(t:TG)(u:TGs):TGs:=λvs σ H Q=>∃v r,vs=v::r/\t v σ H λσ' H'=>u r σ' H' Q
def a4J:PGs X [] b3x:=.mk λpins s σ H vs us Q I r h=>by
 obtain⟨e,h⟩:=h;subst e;cases r;exact assignInOrder_nil ⟨σ,H,I,h⟩
def S9{t:TG}{u:TGs}(h1:PG X e t)(h2:PGs X es u)
  (hs:(b5H (e::es) X.env).map (·.2)=c1Y e X.env::(b5H es X.env).map (·.2):=by rfl):PGs X (e::es) (a1T t u):=.mk λpins s σ H vs us Q I r h=>by
 obtain⟨v,vr,e1,h⟩:=h;subst e1;cases r with
 |cons r rr=>
  rw[hs];refine assignInOrder_cons (thn (h1 pins s σ H _ _ _ I r h) λ_ s1 ⟨σ1,H1,I1,q1⟩=>?_);exact h2 pins s1 σ1 H1 _ _ Q I1 rr q1
def b3w(K:Fg)(n:Nat)(t:TGs):TG:=λv σ H Q=>∃a xs,v=.ref a/\SqT K H a xs/\xs.length=n/\t xs σ H Q
def a6I{k:Nat}{t:TGs}{n:Nat}(hc:X.calm=true)(h:PGs X es t)
  (hn:(b5H es X.env).length=n:=by rfl) (hst:(b5H es X.env).findIdx? (·.1)=none:=by rfl):PG X (.Tuple es k pos) (b3w X.K n t):=.mk λpins s σ H v u Q I r hw=>by
 obtain⟨a,xs,e1,hq,hl,hw⟩:=hw;subst e1;cases r;obtain⟨its,rv,ht,hz⟩:=I.tuple hq;refine assign_Tuple_tuple (I.ok.hd hc) ht (by simp[hn,<-hl,rv.length]) hst λh' hx=>?_
 have I1:Inv X pins σ H { s with heap:=h' }:=I.kept (t':=s.toks) λb o e=>hx b o (A3 (l5 e)) e
 exact h pins _ σ H xs _ Q I1 (by simpa using rv) hw
def b7S(to ti:TE)(t:b8k):TG:=λv σ H Q=>to σ H λo H1=>ti σ H1 λi H2=>t o i v H2 λH3=>Q σ H3
def b0h{o i:Expr}{to ti:TE}{t:b8k}(ho:PE X o to)(hi:PE X i ti)(hs:c4g X t)
  (ha:∀v,c1Y (.Subscript o i pos) X.env v=(do
   let ov <-a7q [v] (eval o X.env)
   let iv <-a7q [v,ov] (eval i X.env)
   b3V pos
   a7q [v,ov,iv] (setItem ov iv v)
   release [v,ov,iv] []):=by intro _;rfl):PG X (.Subscript o i pos) (b7S to ti t):=.mk λpins s σ H v u Q I r h=>by
 rw[ha];refine c5 (X2 (thn (ho pins s σ H _ I h) λov s1 ⟨x,H1,I1,r1,q1⟩=>?_));refine c5 (X2 (thn (hi pins s1 σ H1 _ I1 q1) λiv s2 ⟨y,H2,I2,r2,q2⟩=>?_));refine c5 (a8p (c5 (X2 (thn (hs pins s2 σ H2 x y v ov iv u _ I2 r1 r2 r q2) λ_ s3 ⟨H3,I3,q3⟩=>?_))));exact wpAny_release ⟨σ,H3,I3,q3⟩
def K8(te:TE)(g:TG):TS:=λD σ H=>te σ H λx H1=>g x σ H1 D.nx
def a7H(he:PE X e te)(hg:PG X tg g)(hs:swapsWithSole [tg] e pos.line X.env=pure false:=by rfl)(hw:swappedStores [tg] e X.env=pure none:=by rfl)
  (h1:(b5H [tg] X.env).map (·.2)=[c1Y tg X.env]:=by rfl):PS X (.Assign [tg] e pos) (K8 te g):=.mk λpins s σ H D I h=>by
 refine wpAny_Assign_stores (thn (he pins s σ H _ I h) λv s1 ⟨x,H1,I1,r1,q1⟩=>?_) hs hw;rw[h1];exact thn (hg pins s1 σ H1 x v _ I1 r1 q1) λ_ s2 q=>q
def c9U{x:Str}(hN:X.N.Nodup)(hi:X.N[i]?=some x)(hx:Loc X.env.scope x)(he:PE X e te)(hs:a6U e (some (.Name x pos')) pos.line X.env=pure false:=by rfl)(hf:X.fn x=true\/X.env.scope.names.lookup x=some .local:=by first | exact .inl rfl | exact .inr rfl | assumption) :
  PS X (.Assign [.Name x pos'] e pos) (K8 te (z8 i)):=.mk λpins s σ H D I h=>by
 refine wpAny_Assign_Name (thn (he pins s σ H _ I h) λv s1 ⟨y,H1,I1,r1,q1⟩=>?_) hs;exact a7b I1 hN hi hx r1 (λs2 I2=>⟨_,H1,I2,q1⟩) hf
def c3a(i:Nat)(te:TE)(ti:TIp):TS:=λD σ H=>∃x,σ[i]?=some (some x)/\te σ H λy H1=>ti x y H1 λz H2=>D.nx (σ.set i (some z)) H2
def b7y{x:Str}{op:c4p}{ti:TIp}(hN:X.N.Nodup)(hi:X.N[i]?=some x)(hx:Loc X.env.scope x)(he:PE X e te)(ho:PIp X op ti)(hf:X.fn x=true\/X.env.scope.names.lookup x=some .local:=by first | exact .inl rfl | exact .inr rfl | assumption) :
  PS X (.AugAssign (.Name x pos') op e pos) (c3a i te ti):=.mk λpins s σ H D I h=>by
 obtain⟨v,e1,h⟩:=h;obtain⟨m,hn,hl⟩:=I.loc;have vis:Vis X.env.scope x:=by rcases hx with k | k;exact .inl k;exact .inr (.inl k)
 obtain⟨u,r,l⟩:=hl i x v hi e1 vis;refine wpAny_AugAssign_Name ?_
 have go:wpAny (model X.prog X.w) X.A (eval e X.env) (λw s₂=>wpAny (model X.prog X.w) X.A (inplaceOp op u w) (λr s₃=>wpAny (model X.prog X.w) X.A (storeName X.env x r) (λ_=>SP X pins D .next) X.xe s₃) X.xe s₂) X.xe s:=by
  refine thn (he pins s σ H _ I h) λw s1 ⟨y,H1,I1,r1,q1⟩=>?_
  refine thn (ho pins s1 σ H1 v y u w _ I1 r r1 q1) λz s2 ⟨zv,H2,I2,r2,q2⟩=>?_
  exact a7b I2 hN hi hx r2 (λs3 I3=>⟨_,H2,I3,q2⟩) hf
 rcases l with ⟨hk,hm⟩ | ⟨hk,c,hc,hcell⟩
 .exact d2B I.ok.kind hk hn hm go
 .rcases hk with hk | hk
  .exact d2I I.ok.kind hk hc hcell go
  .rcases hx with k | k
   .have:X.env.scope.names.lookup x=some .free:=hk;rw[k]at this;cases this
   .have:X.env.scope.names.lookup x=some .free:=hk;rw[k]at this;cases this
def c4S(to ti te:TE)(tget:V->V->Hp->VK->Prop)(tip:TIp)(tset:b8k):TS:=λD σ H=>to σ H λo H1=>ti σ H1 λi H2=>tget o i H2 λx H3=>te σ H3 λy H4=>tip x y H4 λz H5=>tset o i z H5 λH6=>D.nx σ H6
def c9m(X:Cx)(t:V->V->Hp->VK->Prop):Prop:=
 ∀(pins:List (Addr×Obj)) (s:j6) (σ:St) (H:Hp) (o i:V) (ov iv:Value) (Q:VK),Inv X pins σ H s->K0 o ov->K0 i iv->t o i H Q ->
  wpAny (model X.prog X.w) X.A (c9v ov iv) (EP X pins σ Q) X.xe s
structure c8s(X:Cx)(t:V->V->Hp->VK->Prop):Prop where
 h:c9m X t
instance {X:Cx}{t:V->V->Hp->VK->Prop}:CoeFun (c8s X t) λ_=>c9m X t:=⟨c8s.h⟩
def c7u{o i:Expr}{to ti:TE}{tget:V->V->Hp->VK->Prop}{tip:TIp}{tset:b8k}{op:c4p}{tpos:Pos}(ho:PE X o to)(hi:PE X i ti)(hg:c8s X tget)(he:PE X e te)(hp:PIp X op tip)(hs:c4g X tset)
  (ha:∀ov iv new,augStore i ov iv new=(do a7q [new,ov,iv] (setItem ov iv new);release [new,ov,iv] [];pure .next):=by intros;rfl):PS X (.AugAssign (.Subscript o i tpos) op e pos) (c4S to ti te tget tip tset):=.mk λpins s σ H D I h=>by
 refine wpAny_AugAssign_SubscriptAny (thn (ho pins s σ H _ I h) λov s1 ⟨x1,H1,I1,r1,q1⟩=>?_) ha;refine thn (hi pins s1 σ H1 _ I1 q1) λiv s2 ⟨x2,H2,I2,r2,q2⟩=>?_
 refine thn (hg pins s2 σ H2 x1 x2 ov iv _ I2 r1 r2 q2) λold s3 ⟨x3,H3,I3,r3,q3⟩=>?_
 refine thn (he pins s3 σ H3 _ I3 q3) λv s4 ⟨x4,H4,I4,r4,q4⟩=>?_
 refine thn (hp pins s4 σ H4 x3 x4 old v _ I4 r3 r4 q4) λnew s5 ⟨x5,H5,I5,r5,q5⟩=>?_
 exact thn (hs pins s5 σ H5 x1 x2 x5 ov iv new _ I5 r1 r2 r5 q5) λ_ s6 ⟨H6,I6,q6⟩=>⟨σ,H6,I6,q6⟩
def ipI(f:Int->Int->Int):TIp:=λx y H Q=>∃i j,x=.int i/\y=.int j/\Q (.int (f i j)) H
def b4Z:PIp X .Add (ipI λi j=>i+j):=.mk λpins s σ H x y v u Q I r1 r2 h=>by
 obtain⟨i,j,e1,e2,q⟩:=h;subst e1;subst e2;obtain⟨t,rfl⟩:=r1;obtain⟨t',rfl⟩:=r2;exact iadd_int ⟨.int _,H,I.tok _,⟨_,rfl⟩,q⟩
end
section
def a9Q(c:TT)(tb:TS):TS:=λD σ H=>∃W:Nat->St->Hp->Prop,(∃m,W m σ H)/\∀m σ H,W m σ H ->
 c σ H λb H1=>if b=true then ∃N:St->Hp->Prop,(∀σ' H',N σ' H'->∃m',m'<m/\W m' σ' H')/\tb { D with nx:=N,ct:=N,bk:=D.nx } σ H1 else D.nx σ H1
def a8H{c:Expr}{body:List Stmt}{tc:TT}(hp:PassesOwn (model X.prog X.w) X.A X.env X.xe)(hc:PT X c tc)(hb:PSs X body tb):PS X (.While c body [] pos) (a9Q tc tb):=.mk λpins s σ H D I h=>by
 obtain⟨W,⟨m0,w0⟩,turn⟩:=h;refine wpAny_While (codeAny_whileLoop (λn s'=>∃σ' H',Inv X pins σ' H' s'/\W n σ' H') ?_ m0 ⟨σ,H,I,w0⟩);rintro n s1 ⟨σ1,H1,I1,w1⟩;refine a3D hp (thn (hc pins s1 σ1 H1 _ I1 (turn n σ1 H1 w1)) λb s2 ⟨H2,I2,q2⟩=>?_);cases b with
 |true=>
  obtain⟨N,hN,q2⟩:=q2;rw[if_pos rfl];refine a3D hp (thn (hb pins s2 σ1 H2 _ I2 q2) λf s3 q3=>?_);cases f with
  |next=>
   obtain⟨σ3,H3,I3,n3⟩:=q3;obtain⟨m',hm,w3⟩:=hN σ3 H3 n3;exact⟨m',hm,σ3,H3,I3,w3⟩
  |cont=>
   obtain⟨σ3,H3,I3,n3⟩:=q3;obtain⟨m',hm,w3⟩:=hN σ3 H3 n3;exact⟨m',hm,σ3,H3,I3,w3⟩
  |brk=>exact q3
  |ret v=>exact q3
 |false=>
  rw[if_neg z6];exact a8v ⟨σ1,H2,I2,q2⟩
end
structure It where
 go:Nat->Hp->Prop
 yld:Nat->Hp->V->Hp->Prop
 stop:Nat->Hp->Prop
def a4S(X:Cx)(pins:List (Addr×Obj))(H:Hp)(b:Addr):Prop:=
 H b=none/\b≠X.env.locals/\b∉X.fs/\(b∈X.ex\/X.s₀.heap.objs.size<=b)/\(∀x c,X.env.cells.lookup x=some c->c≠b)/\∀p∈X.pn++pins,p.1≠b
def Inv.fpOk{b:Addr}(I:Inv X pins σ H s)(hb:s.heap.objs.size<=b)(hn:H' b=none):a4S X pins H' b:=by
 refine⟨hn,b5C (A7 I.lt hb),I.nofs hb,.inr (G5 I.sz hb),λx c e z=>?_,λp hp z=>?_⟩
 .obtain⟨v,q⟩:=I.cell x c e;exact absurd (A7 q.lt (by rw[z];exact hb)) (O0 _)
 .exact absurd (A7 (l5 (I.pin p hp).1) (by rw[z];exact hb)) (O0 _)
structure b6h(P:A4)(w:World)(K:Fg)(tg:Expr)(J:It)(fp:List Addr)(it:Addr)(tn:Nat->Heap->Prop):Prop where
 mem:it∈fp
 obj:∀i h,tn i h->∀b∈fp,∃o,h.get? b=some o/\∀v,o.data≠.cell v
 keep:∀i h h',tn i h->(∀b∈fp,∀o,h.get? b=some o->h'.get? b=some o)->tn i h'
 item:∀(X:Cx),X.prog=P->X.w=w->X.K=K->X.calm=true->∀(i:Nat) (pins:List (Addr×Obj)) (s:j6) (σ:St) (H:Hp) (E:Value->j6->Prop),Inv X pins σ H s->(∀b∈fp,a4S X pins H b)->tn i s.heap->J.go i H ->
  wpAny (model P w) X.A (b8y (.ref it)) (λr s1=>∃u,r=some u /\
   wpAny (model P w) X.A (a5x tg (.ref it) u) (λ_ s2=>∃x H',Inv X pins σ H' s2/\K0 x u/\J.yld i H x H'/\tn (i+1) s2.heap/\∀b∈fp,H' b=none) E s1) E s
 done:∀(X:Cx),X.prog=P->X.w=w->X.K=K->X.calm=true->∀(i:Nat) (pins:List (Addr×Obj)) (s:j6) (σ:St) (H:Hp) (E:Value->j6->Prop),Inv X pins σ H s->(∀b∈fp,a4S X pins H b)->tn i s.heap->J.stop i H ->
  wpAny (model P w) X.A (b8y (.ref it)) (λr s1=>r=none/\Inv X pins σ H s1) E s
 self:∀(A:R0) (i:Nat) (s:j6) (Q:Value->j6->Prop) (E:Value->j6->Prop),tn i s.heap->Q (.ref it) s->wpAny (model P w) A (pyIter (.ref it)) Q E s
abbrev TI:=St->Hp->(It->Hp->Prop)->Prop
def PIE(X:Cx)(pins:List (Addr×Obj))(σ:St)(tg:Expr)(R:It->Hp->Prop)(itv:Value)(s2:j6):Prop:=
 ∃(it:Addr) (fp:List Addr) (tn:Nat->Heap->Prop) (J:It) (H':Hp),itv=.ref it/\Inv X pins σ H' s2/\b6h X.prog X.w X.K tg J fp it tn/\tn 0 s2.heap/\(∀b∈fp,a4S X pins H' b)/\R J H'
def PIq(X:Cx)(tg iter:Expr)(wi:TI):Prop:=
 ∀(pins:List (Addr×Obj)) (s:j6) (σ:St) (H:Hp) (R:It->Hp->Prop),Inv X pins σ H s->wi σ H R ->
  wpAny (model X.prog X.w) X.A (eval iter X.env) (λv s1=>wpAny (model X.prog X.w) X.A (pyIter v) (PIE X pins σ tg R) X.xe s1) X.xe s
structure PI(X:Cx)(tg iter:Expr)(wi:TI):Prop where
 h:PIq X tg iter wi
instance {X:Cx}{tg iter:Expr}{wi:TI}:CoeFun (PI X tg iter wi) λ_=>PIq X tg iter wi:=⟨PI.h⟩
def c6d{M:Model}{it:Addr}{o:Obj}{n:String}{vs:Array Value}{Q:Unit->j6->Prop}(ho:s.heap.get? it=some o)(hc:o.cls=.type n)(hd:o.data=.fields vs)
  (hn:["enumerate","zip","dict_itemiterator","dict_reverseitemiterator","odict_iterator","itertools.zip_longest","itertools.pairwise"].contains n=false) (hQ:Q () s):wpAny M A (a5x tg (.ref it) u) Q E s:=by
 unfold a5x
 cases tg <;> first
  | exact p9 hQ
  | (cases u <;> first
    | exact p9 hQ
    | (refine c5 (wpAny_load ho ?_)
       rw[hc,hd];show wpAny M A (if(["enumerate","zip","dict_itemiterator","dict_reverseitemiterator","odict_iterator","itertools.zip_longest","itertools.pairwise"].contains n&&vs[0]? == some (rawInt _))=true then _ else _) Q E s;rw[if_neg (by intro h;rw[hn,b8v]at h;cases h)];exact p9 hQ))
def Itl(K:Fg)(a:Addr):It:=
 ⟨λi H=>∃xs x,SqL K H a xs/\xs[i]?=some x,λi H x H'=>H'=H/\∀xs,SqL K H a xs->xs[i]?=some x,λi H=>∃xs,SqL K H a xs/\xs.length<=i⟩
def Itr(lo:Int)(n:Nat):It:=⟨λi _=>i<n,λi H x H'=>H'=H/\x=.int (lo+i),λi _=>n<=i⟩
def c2Y{P:A4}{K:Fg}(a it:Addr):b6h P w K tg (Itl K a) [it] it (λi h=>h.IsListIter it a i) where
 mem:=by simp
 obj:=λi h st b hb=>by
  have e:b=it:=by simpa using hb
  subst e;obtain⟨o,e,c,d⟩:=st;exact⟨o,e,λv z=>by rw[d]at z;cases z⟩
 keep:=λi h h' st k=>st.at λo e=>k it (by simp) o e
 item:=by
  intro X hP hw hK hc i pins s σ H E I hf st hg;subst hP hw hK;obtain⟨xs,x,hq,hx⟩:=hg;obtain⟨its,rv,p,hz⟩:=I.list hq;obtain⟨u,hu,ru⟩:=rv.get hx;obtain⟨f0,f1,f2,f3,f4,f5⟩:=hf it (by simp);refine d1g st p.isList (x:=u) (by simpa using hu) λh' st' sb=>?_
  have I1:Inv X pins σ H { s with heap:=h' }:=I.turned (t':=s.toks) (λb o hb e=>(sb.2 b hb).trans e) f0 f1 f3 f4 f5;obtain⟨o,e,c,d⟩:=id st';exact⟨u,rfl,c6d (s:={ s with heap:=h' }) e c d (by decide) ⟨x,H,I1,ru,⟨rfl,λys hy=>by rw[I.list_inj hy hq];exact hx⟩,st',λb hb=>(hf b hb).1⟩⟩
 done:=by
  intro X hP hw hK hc i pins s σ H E I hf st hg;subst hP hw hK;obtain⟨xs,hq,hx⟩:=hg;obtain⟨its,rv,p,hz⟩:=I.list hq;obtain⟨f0,f1,f2,f3,f4,f5⟩:=hf it (by simp);have hl:=rv.length;exact d1m (I.ok.hd hc) st p.isList (by simp;omega) λh' eb=>⟨rfl,I.turned (t':=s.toks) (λb o hb e=>eb b o hb e) f0 f1 f3 f4 f5⟩
 self:=λ_ _ _ _ _ st h=>wpAny_pyIter_listiter st h
def c0y{P:A4}{K:Fg}(it:Addr)(lo:Int)(n:Nat):b6h P w K tg (Itr lo n) [it] it (λi h=>IsRangeIter h it (lo+(i:Nat) * 1) ((n:Int) - (i:Nat)) 1) where
 mem:=by simp
 obj:=λi h st b hb=>by
  have e:b=it:=by simpa using hb
  subst e
  exact⟨_,st,λv z=>by
   have z':Data.fields _=Data.cell v:=z;cases z'⟩
 keep:=λi h h' st k=>k it (by simp) _ st
 item:=by
  intro X hP hw hK hc i pins s σ H E I hf st hg;subst hP hw hK;obtain⟨f0,f1,f2,f3,f4,f5⟩:=hf it (by simp);have W:=Walks.range (prog:=X.prog) (w:=X.w) (I.ok.hd hc) it lo 1 n;refine W.item i s _ _ hg st λv h' tk hv st' kk=>?_
  obtain⟨t,rfl⟩:=hv;have I1:Inv X pins σ H { s with heap:=h',toks:=tk }:=I.turned (λb o hb e=>kk b o (by simpa using hb) e) f0 f1 f3 f4 f5;refine⟨_,rfl,c6d (s:={ s with heap:=h',toks:=tk }) (n := "range_iterator") st' rfl rfl (by decide) ⟨.int (lo+i),H,I1,⟨t,?_⟩,⟨rfl,rfl⟩,st',λb hb=>(hf b hb).1⟩⟩;rw[Int.mul_one]
 done:=by
  intro X hP hw hK hc i pins s σ H E I hf st hg;subst hP hw hK;obtain⟨f0,f1,f2,f3,f4,f5⟩:=hf it (by simp);exact wpAny_pyNext_range_end (I.ok.hd hc) st (by have:n<=i:=hg;omega) λh' eb=>⟨rfl,I.turned (t':=s.toks) (λb o hb e=>eb b o hb e) f0 f1 f3 f4 f5⟩
 self:=λ_ _ _ _ _ st h=>wpAny_pyIter_rangeiter st h
section
def V7(K:Fg)(tl:TE):TI:=λσ H R=>tl σ H λx H1=>∃a,x=.ref a/\(∃xs,SqL K H1 a xs)/\R (Itl K a) H1
def Q0{l:Expr}{tl:TE}(hl:PE X l tl):PI X tg l (V7 X.K tl):=.mk λpins s σ H R I h=>by
 refine thn (hl pins s σ H _ I h) λv s1 ⟨x,H1,I1,r1,q1⟩=>?_
 obtain⟨a,e,⟨xs,hq⟩,q⟩:=q1;subst e;cases r1;obtain⟨its,rv,p,hz⟩:=I1.list hq;refine b0D p.isList ?_;refine⟨s1.heap.objs.size,[s1.heap.objs.size],_,_,H1,rfl,I1.kept (t':=s1.toks) λb o e=>j7 _ e,c2Y a _,⟨_,C7 _ rfl,rfl,rfl⟩,λb hb=>?_,q⟩;have e:b=s1.heap.objs.size:=by simpa using hb
 subst e;exact I1.fpOk (j8 _) (I1.hok.fresh (j8 _))
def c5j{R:It->Hp->Prop}{lo hi:Int}{t u v:Tok}{tk:Nat}(I:Inv X pins σ H s)(h1 : -(2 ^ 62)<=lo)(h2:lo<2 ^ 62)(h3 : -(2 ^ 62)<=hi)(h4:hi<2 ^ 62)
  (q:R (Itr lo (hi - lo).toNat) H):wpAny (model X.prog X.w) X.A (pyIter (.ref s.heap.objs.size)) (PIE X pins σ tg R) E { s with heap:=s.heap.push { cls:=.type "range",data:=.fields #[.int lo t,.int hi u,.int 1 v] },toks:=tk }:=by
 refine wpAny_pyIter_range (IsRange.new ..) (small_one h1 h2 h3 h4) ?_;have I1:Inv X pins σ H { s with heap:=s.heap.push { cls:=.type "range",data:=.fields #[.int lo t,.int hi u,.int 1 v] },toks:=tk }:=I.kept λb o e=>j7 _ e
 refine⟨(s.heap.push { cls:=.type "range",data:=.fields #[.int lo t,.int hi u,.int 1 v] }).objs.size,[(s.heap.push { cls:=.type "range",data:=.fields #[.int lo t,.int hi u,.int 1 v] }).objs.size],_,_,H,rfl,
  I1.kept (t':=tk) λb o e=>j7 _ e,c0y _ lo (hi - lo).toNat,?_,λb hb=>?_,q⟩
 .have e1:lo+((0:Nat):Int) * 1=lo:=by simp
  have e2:(((hi - lo).toNat:Nat):Int) - ((0:Nat):Int)=Builtin.Range.rangeSize lo hi 1:=by rw[rangeSize_one];split <;> omega
  show IsRangeIter _ _ (lo+((0:Nat):Int) * 1) ((((hi - lo).toNat:Nat):Int) - ((0:Nat):Int)) 1;rw[e1,e2];exact C7 _ rfl
 .have e:b=(s.heap.push { cls:=.type "range",data:=.fields #[.int lo t,.int hi u,.int 1 v] }).objs.size:=by simpa using hb
  subst e;exact I1.fpOk (j8 _) (I1.hok.fresh (j8 _))
def a4o(ta:TA):TI:=λσ H R=>ta σ H λvs H1=>∃j:Int,vs=[.int j] /\ -(2 ^ 62)<=j/\j<2 ^ 62/\R (Itr 0 j.toNat) H1
def V9{a:Expr}{ta:TA}(hg:Gl X "range")(hm:X.mg "range"=none)(ha:PA X [a] ta)(hs:u6 [a] X.env=[(false,eval a X.env)]:=by rfl):PI X tg (.Call (.Name "range" p) [a] [] pos) (a4o ta):=.mk λpins s σ H R I h=>by
 refine Call_ (b2w I hg hm boot_range (a1G (thn (ha pos pins s σ H _ I h) λus s1 ⟨vs,H1,I1,r1,q1⟩=>?_) hs rfl));obtain⟨j,e,q1,q2,q⟩:=q1;subst e;cases r1 with
 |cons r rr=>
  cases rr;obtain⟨t,rfl⟩:=r;exact call_range_1 (c5j I1 (by omega) (by omega) q1 q2 (by simpa using q))
def a4s(wi:TI)(g:TG)(tb:TS):TS:=λD σ H=>wi σ H λJ H1=>∃W:Nat->Nat->St->Hp->Prop,(∃m,W 0 m σ H1)/\∀i m σ H,W i m σ H ->
 (J.stop i H/\D.nx σ H)\/(J.go i H/\∃N:St->Hp->Prop,(∀σ' H',N σ' H'->∃m',m'<m/\W (i+1) m' σ' H')/\∀x H',J.yld i H x H'->g x σ H' λσ2 H2=>tb { D with nx:=N,ct:=N,bk:=D.nx } σ2 H2)
def b4z(fp:List Addr)(h:Heap):List (Addr×Obj):=fp.filterMap λb=>(h.get? b).map λo=>(b,o)
def a7O{fp:List Addr}{b:Addr}{o:Obj}(hb:b∈fp)(e:h.get? b=some o):(b,o)∈b4z fp h:=c6O.mpr ⟨b,hb,by rw[e];rfl⟩
def c3B{fp:List Addr}{p:Addr×Obj}(hp:p∈b4z fp h):p.1∈fp/\h.get? p.1=some p.2:=by
 obtain⟨b,hb,e⟩:=c6O.mp hp;cases q:h.get? b with
 |none=>rw[q]at e;cases e
 |some o=>
  rw[q]at e;have e':(b,o)=p:=Option.some.inj e;subst e';exact⟨hb,q⟩
def Inv.pinned{fp:List Addr}(I:Inv X pins σ H s)(hf:∀b∈fp,a4S X pins H b)(ho:∀b∈fp,∃o,s.heap.get? b=some o/\∀v,o.data≠.cell v):Inv X (pins++b4z fp s.heap) σ H s:=
 I.pins_of λp hp=>(v7.mp hp).elim (λz=>I.pin p (D3 _ z)) λz=>by
  obtain⟨hb,e⟩:=c3B z;obtain⟨f0,f1,f2,_⟩:=hf p.1 hb;obtain⟨o,e',d⟩:=ho p.1 hb;rw[e]at e';cases e';exact⟨e,f0,f1,f2,d⟩
def Inv.unpinned{pl:List (Addr×Obj)}(I:Inv X (pins++pl) σ H s):Inv X pins σ H s:=I.pins_of λp hp=>I.pin p (D3 _ (v9 _ hp))
def a0b{iter:Expr}{body:List Stmt}{wi:TI}(hp:PassesOwn (model X.prog X.w) X.A X.env X.xe)(hc:X.calm=true)(hi:PI X tg iter wi)(hg:PG X tg g)(hb:PSs X body tb)
  (hs:∀x,a2d iter X.env x=pure x:=by intro _;rfl):PS X (.For tg iter body [] pos) (a4s wi g tb):=.mk λpins s σ H D I h=>by
 refine wpAny_For (thn (hi pins s σ H _ I h) λv s1 h1=>thn h1 λitv s2 h2=>?_) hs;obtain⟨it,fp,tn,J,H2,e,I2,T,st2,f2,W,⟨m0,w0⟩,turn⟩:=h2;subst e;have stat:∀ {H':Hp},(∀b∈fp,H' b=none)->∀b∈fp,a4S X pins H' b:=λhn b hb=>⟨hn b hb,(f2 b hb).2⟩
 refine codeAny_forLoop_any (λn s'=>∃i σ' H',Inv X pins σ' H' s'/\tn i s'.heap/\(∀b∈fp,H' b=none)/\W i n σ' H') ?_ m0 ⟨0,σ,H2,I2,st2,λb hb=>(f2 b hb).1,w0⟩;rintro n s3 ⟨i,σ3,H3,I3,st3,fr3,w3⟩;rcases turn i n σ3 H3 w3 with ⟨stop,qn⟩ | ⟨go,N,hN,step⟩
 .refine a3D hp (thn (T.done X rfl rfl rfl hc i pins s3 σ3 H3 X.xe I3 (stat fr3) st3 stop) λr s4 ⟨hr,I4⟩=>?_);subst hr;exact a8v ⟨σ3,H3,I4,qn⟩
 .refine a3D hp (thn (T.item X rfl rfl rfl hc i pins s3 σ3 H3 X.xe I3 (stat fr3) st3 go) λr s4 ⟨u,hr,h4⟩=>?_);subst hr;refine a3D hp (thn h4 λ_ s5 ⟨x,H5,I5,r5,y5,st5,fr5⟩=>?_);have I5':=I5.pinned (stat fr5) (T.obj _ _ st5);refine a3D hp (thn (hg _ s5 σ3 H5 x u _ I5' r5 (step x H5 y5)) λ_ s6 ⟨σ6,H6,I6,q6⟩=>?_);refine a3D hp (thn (hb _ s6 σ6 H6 _ I6 q6) λf s7 q7=>?_)
  have again:∀ {σ7:St} {H7:Hp},Inv X (pins++b4z fp s5.heap) σ7 H7 s7->N σ7 H7->∃m,m<n/\∃i σ' H',Inv X pins σ' H' s7/\tn i s7.heap/\(∀b∈fp,H' b=none)/\W i m σ' H':=fun {σ7 H7} I7 n7=>by
   obtain⟨m',hm,w7⟩:=hN σ7 H7 n7;refine⟨m',hm,i+1,σ7,H7,I7.unpinned,T.keep _ _ _ st5 λb hb o e=>(I7.pin (b,o) (D3 _ (D3 _ (a7O hb e)))).1,λb hb=>?_,w7⟩;obtain⟨o,e,d⟩:=T.obj _ _ st5 b hb;exact(I7.pin (b,o) (D3 _ (D3 _ (a7O hb e)))).2.1
  cases f with
  |next=>obtain⟨σ7,H7,I7,n7⟩:=q7;exact again I7 n7
  |cont=>obtain⟨σ7,H7,I7,n7⟩:=q7;exact again I7 n7
  |brk=>obtain⟨σ7,H7,I7,q7⟩:=q7;exact⟨σ7,H7,I7.unpinned,q7⟩
  |ret v=>obtain⟨x7,σ7,H7,I7,r7,q7⟩:=q7;exact⟨x7,σ7,H7,I7.unpinned,r7,q7⟩
end
def a6a{K:Fg}{D:b1H}(Pv:Nat->St->Hp->Prop)(h0:Pv 0 σ H)(hl:∀i σ H,i<=xs.length->Pv i σ H->SqL K H a xs)
  (hs:∀i x σ H,xs[i]?=some x->Pv i σ H->g x σ H λσ2 H2=>tb { D with nx:=Pv (i+1),ct:=Pv (i+1),bk:=D.nx } σ2 H2) (hd:∀σ H,Pv xs.length σ H->D.nx σ H) :
  ∃W:Nat->Nat->St->Hp->Prop,(∃m,W 0 m σ H)/\∀i m σ H,W i m σ H ->
   ((Itl K a).stop i H/\D.nx σ H)\/((Itl K a).go i H/\∃N:St->Hp->Prop,(∀σ' H',N σ' H'->∃m',m'<m/\W (i+1) m' σ' H')/\∀x H',(Itl K a).yld i H x H'->g x σ H' λσ2 H2=>tb { D with nx:=N,ct:=N,bk:=D.nx } σ2 H2):=by
 refine⟨λi m σ H=>m=xs.length - i/\i<=xs.length/\Pv i σ H,⟨xs.length,by simp,W3 _,h0⟩,?_⟩;rintro i m σ H ⟨rfl,hi,p⟩;have q:=hl i σ H hi p;by_cases hlt:i<xs.length
 .refine .inr ⟨⟨xs,xs[i],q,by simp[hlt]⟩,Pv (i+1),λσ' H' p'=>⟨xs.length - (i+1),by omega,rfl,hlt,p'⟩,λx H' y=>?_⟩;obtain⟨e,y⟩:=y;subst e;exact hs i x σ _ (y xs q) p
 .have e:i=xs.length:=by omega
  subst e;exact .inl ⟨⟨xs,q,j8 _⟩,hd σ H p⟩
def a1K{lo:Int}{n:Nat}{D:b1H}(Pv:Nat->St->Hp->Prop)(h0:Pv 0 σ H)
  (hs:∀i σ H,i<n->Pv i σ H->g (.int (lo+i)) σ H λσ2 H2=>tb { D with nx:=Pv (i+1),ct:=Pv (i+1),bk:=D.nx } σ2 H2) (hd:∀σ H,Pv n σ H->D.nx σ H) :
  ∃W:Nat->Nat->St->Hp->Prop,(∃m,W 0 m σ H)/\∀i m σ H,W i m σ H ->
   ((Itr lo n).stop i H/\D.nx σ H)\/((Itr lo n).go i H/\∃N:St->Hp->Prop,(∀σ' H',N σ' H'->∃m',m'<m/\W (i+1) m' σ' H')/\∀x H',(Itr lo n).yld i H x H'->g x σ H' λσ2 H2=>tb { D with nx:=N,ct:=N,bk:=D.nx } σ2 H2):=by
 refine⟨λi m σ H=>m=n - i/\i<=n/\Pv i σ H,⟨n,by simp,W3 _,h0⟩,?_⟩;rintro i m σ H ⟨rfl,hi,p⟩;by_cases hlt:i<n
 .refine .inr ⟨hlt,Pv (i+1),λσ' H' p'=>⟨n - (i+1),by omega,rfl,hlt,p'⟩,λx H' y=>?_⟩;obtain⟨e,y⟩:=y;subst e y;exact hs i σ _ hlt p
 .have e:i=n:=by omega
  subst e;exact .inl ⟨j8 _,hd σ H p⟩
abbrev R2:=V->V->Hp->VK->Prop
def d2r(X:Cx)(f:Value->Value->Sem Value)(r:R2):Prop:=
 ∀(pins:List (Addr×Obj)) (s:j6) (σ:St) (H:Hp) (x y:V) (v u:Value) (Q:VK),Inv X pins σ H s->K0 x v->K0 y u->r x y H Q ->
  wpAny (model X.prog X.w) X.A (f v u) (EP X pins σ Q) X.xe s
structure OpR(X:Cx)(f:Value->Value->Sem Value)(r:R2):Prop where
 h:d2r X f r
instance {X:Cx}{f:Value->Value->Sem Value}{r:R2}:CoeFun (OpR X f r) λ_=>d2r X f r:=⟨OpR.h⟩
def d2j(X:Cx)(f:Value->Sem Value)(r:V->Hp->VK->Prop):Prop:=
 ∀(pins:List (Addr×Obj)) (s:j6) (σ:St) (H:Hp) (x:V) (v:Value) (Q:VK),Inv X pins σ H s->K0 x v->r x H Q ->
  wpAny (model X.prog X.w) X.A (f v) (EP X pins σ Q) X.xe s
structure UnR(X:Cx)(f:Value->Sem Value)(r:V->Hp->VK->Prop):Prop where
 h:d2j X f r
instance {X:Cx}{f:Value->Sem Value}{r:V->Hp->VK->Prop}:CoeFun (UnR X f r) λ_=>d2j X f r:=⟨UnR.h⟩
def c6E(X:Cx)(f:Value)(r:List V->Hp->VK->Prop):Prop:=
 ∀(pins:List (Addr×Obj)) (s:j6) (σ:St) (H:Hp) (xs:List V) (us:List Value) (Q:VK),Inv X pins σ H s->L8 xs us->r xs H Q ->
  wpAny (model X.prog X.w) X.A (call f us) (EP X pins σ Q) X.xe s
structure W2(X:Cx)(f:Value)(r:List V->Hp->VK->Prop):Prop where
 h:c6E X f r
instance {X:Cx}{f:Value}{r:List V->Hp->VK->Prop}:CoeFun (W2 X f r) λ_=>c6E X f r:=⟨W2.h⟩
def tOp(r:R2)(ta tb:TE):TE:=λσ H Q=>ta σ H λx H1=>tb σ H1 λy H2=>r x y H2 Q
def tUn(r:V->Hp->VK->Prop)(ta:TE):TE:=λσ H Q=>ta σ H λx H1=>r x H1 Q
def rI(C:Int->Int->Prop)(g:Int->Int->V):R2:=λx y H Q=>∃i j,x=.int i/\y=.int j/\C i j/\Q (g i j) H
def rI0(g:Int->Int->V):R2:=λx y H Q=>∃i j,x=.int i/\y=.int j/\Q (g i j) H
def rU(g:Int->V):V->Hp->VK->Prop:=λx H Q=>∃i,x=.int i/\Q (g i) H
section
variable {a b c:Expr}{tb tc:TE}
def d0R(ha:PE X a ta)(hb:PE X b tb){R:V->V->Hp->Prop}(I:Inv X pins σ H s)
  (h:ta σ H λx H1=>tb σ H1 λy H2=>R x y H2) {Q:Value->j6->Prop} {f:Value->Value->Sem Value}
  (hf:∀v u s2 x y H2,Inv X pins σ H2 s2->K0 x v->K0 y u->R x y H2->wpAny (model X.prog X.w) X.A (f v u) Q X.xe s2) :
  wpAny (model X.prog X.w) X.A (eval a X.env) (λv s₁=>wpAny (model X.prog X.w) X.A (eval b X.env) (λu s₂=>wpAny (model X.prog X.w) X.A (f v u) Q X.xe s₂) X.xe s₁) X.xe s:=by
 refine thn (ha pins s σ H _ I h) λv s1 ⟨x,H1,I1,r1,q1⟩=>?_
 refine thn (hb pins s1 σ H1 _ I1 q1) λu s2 ⟨y,H2,I2,r2,q2⟩=>?_
 exact hf v u s2 x y H2 I2 r1 r2 q2
def W1{op:c4p}{r:R2}(ho:OpR X (a5A op) r)(ha:PE X a ta)(hb:PE X b tb):PE X (.BinOp a op b pos) (tOp r ta tb):=.mk λpins s σ H Q I h=>by
 exact wpAny_BinOp (d0R ha hb I h λv u s2 x y H2 I2 rx ry q=>ho pins s2 σ H2 x y v u Q I2 rx ry q)
def c9a{op:UnaryOp}{r:V->Hp->VK->Prop}(ho:UnR X (unaryOp op) r)(ha:PE X a ta):PE X (.UnaryOp op a pos) (tUn r ta):=.mk λpins s σ H Q I h=>by
 exact UnaryOp_ (thn (ha pins s σ H _ I h) λv s1 ⟨x,H1,I1,r1,q1⟩=>ho pins s1 σ H1 x v Q I1 r1 q1)
def opI{f:Value->Value->Sem Value}{C:Int->Int->Prop}{g:Int->Int->Int}
  (rule:∀(i j:Int) (t u:Tok) (s:j6) (Q:Value->j6->Prop) (E:Value->j6->Prop),C i j->Q (.int (g i j) s.toks) { s with toks:=s.toks+1 }->wpAny (model X.prog X.w) X.A (f (.int i t) (.int j u)) Q E s) :
  OpR X f (rI C λi j=>.int (g i j)):=.mk λpins s σ H x y v u Q I rx ry h=>by
 obtain⟨i,j,rfl,rfl,hc,q⟩:=h;obtain⟨t,rfl⟩:=rx;obtain⟨t',rfl⟩:=ry;exact rule i j t t' s _ _ hc ⟨.int (g i j),H,I.tok _,⟨_,rfl⟩,q⟩
def d1V{f:Value->Value->Sem Value}{g:Int->Int->Int}
  (rule:∀(i j:Int) (t u:Tok) (s:j6) (Q:Value->j6->Prop) (E:Value->j6->Prop),Q (.int (g i j) s.toks) { s with toks:=s.toks+1 }->wpAny (model X.prog X.w) X.A (f (.int i t) (.int j u)) Q E s) :
  OpR X f (rI0 λi j=>.int (g i j)):=.mk λpins s σ H x y v u Q I rx ry h=>by
 obtain⟨i,j,rfl,rfl,q⟩:=h;obtain⟨t,rfl⟩:=rx;obtain⟨t',rfl⟩:=ry;exact rule i j t t' s _ _ ⟨.int (g i j),H,I.tok _,⟨_,rfl⟩,q⟩
def c7F{f:Value->Value->Sem Value}{g:Int->Int->Bool}
  (rule:∀(i j:Int) (t u:Tok) (s:j6) (Q:Value->j6->Prop) (E:Value->j6->Prop),Q (.bool (g i j)) s->wpAny (model X.prog X.w) X.A (f (.int i t) (.int j u)) Q E s) :
  OpR X f (rI0 λi j=>.bl (g i j)):=.mk λpins s σ H x y v u Q I rx ry h=>by
 obtain⟨i,j,rfl,rfl,q⟩:=h;obtain⟨t,rfl⟩:=rx;obtain⟨t',rfl⟩:=ry;exact rule i j t t' s _ _ ⟨.bl (g i j),H,I,rfl,q⟩
def c8w(i j:Int):Prop:=(-(2 ^ 64)<i/\i<2 ^ 64)\/(-(2 ^ 64)<j/\j<2 ^ 64)
def c8w.ok{i j:Int}(h:c8w i j):IntMulOk i j:=by
 rcases h with ⟨h1,h2⟩ | ⟨h1,h2⟩
 .exact .of_left (intBits_le_64 h1 h2)
 .exact .of_right (intBits_le_64 h1 h2)
def d0n:OpR X (a5A .Add) (rI0 λi j=>.int (i+j)):=d1V λ_ _ _ _ _ _ _ q=>add_int q
def d0e:OpR X (a5A .Sub) (rI0 λi j=>.int (i - j)):=d1V λ_ _ _ _ _ _ _ q=>sub_int q
def d0j:OpR X (a5A .Mult) (rI c8w λi j=>.int (i * j)):=opI λ_ _ _ _ _ _ _ hc q=>mul_int q hc.ok
def d0k:OpR X (a5A .Mod) (rI (λ_ j=>0<j) λi j=>.int (i % j)):=opI λi j _ _ _ _ _ hc q=>by
 have h1:(0:Int)<j:=hc;exact mod_int' (by omega) (by rw[Int.fmod_eq_emod_of_nonneg i (by omega)];exact q)
def unI{f:Value->Sem Value}{g:Int->Int}
  (rule:∀(i:Int) (t:Tok) (s:j6) (Q:Value->j6->Prop) (E:Value->j6->Prop),Q (.int (g i) s.toks) { s with toks:=s.toks+1 }->wpAny (model X.prog X.w) X.A (f (.int i t)) Q E s) :
  UnR X f (rU λi=>.int (g i)):=.mk λpins s σ H x v Q I rx h=>by
 obtain⟨i,rfl,q⟩:=h;obtain⟨t,rfl⟩:=rx;exact rule i t s _ _ ⟨.int (g i),H,I.tok _,⟨_,rfl⟩,q⟩
def c4E:UnR X (unaryOp .USub) (rU λi=>.int (-i)):=unI λ_ _ _ _ _ q=>neg_int q
end
def b8O:V->V->Bool
 |.non,.non=>true | .non,.int _=>true | .int _,.non=>true | .non,.bl _=>true | .bl _,.non=>true | .non,.str _=>true | .str _,.non=>true
 |.int _,.int _=>true | .bl _,.bl _=>true | .str _,.str _=>true | .byt _,.byt _=>true
 |.int _,.str _=>true | .str _,.int _=>true | .bl _,.str _=>true | .str _,.bl _=>true
 |_,_=>false
def rEq:R2:=λx y H Q=>b8O x y=true/\Q (.bl (decide (x=y))) H
def rNe:R2:=λx y H Q=>b8O x y=true/\Q (.bl (!decide (x=y))) H
def c2B{i j:Int}:decide (V.int i=V.int j)=(i == j):=by
 rw[a2a];simp
def c6p{i j:Bool}:decide (V.bl i=V.bl j)=(i == j):=by
 rw[a2a];simp
def c2A{i j:Str}:decide (V.str i=V.str j)=(i == j):=by
 rw[a2a];simp
def c2C{i j:Array UInt8}:decide (V.byt i=V.byt j)=(i.toList == j.toList):=by
 rw[a2a];cases i;cases j;simp
section
variable {a b c:Expr}{tb tc:TE}
def Q9{Q:VK}{k k':Bool}(I:Inv X pins σ H s)(q:Q (.bl k) H)(e:k=k'):EP X pins σ Q (.bool k') s:=by
 subst e;exact⟨.bl k,H,I,rfl,q⟩
def d1U:OpR X (J4 .Eq) rEq:=.mk λpins s σ H x y v u Q I rx ry h=>by
 obtain⟨hs,q⟩:=h;cases x with
 |non=>
  cases rx;cases y with
  |non=>cases ry;exact PySem.EqNone.eq_none_none (Q9 I q (by simp))
  |bl j=>cases ry;exact PySem.EqNone.eq_none_bool (Q9 I q (by simp))
  |int j=>obtain⟨t',rfl⟩:=ry;exact PySem.EqNone.eq_none_int (Q9 I q (by simp))
  |str j=>obtain⟨t',rfl⟩:=ry;exact PySem.EqNone.eq_none_str (Q9 I q (by simp))
  |_=>exact absurd (show false=true from hs) z6
 |bl i=>
  cases rx;cases y with
  |non=>cases ry;exact PySem.EqNone.eq_bool_none (Q9 I q (by simp))
  |bl j=>cases ry;exact eq_bool (Q9 I q c6p)
  |str j=>obtain⟨t',rfl⟩:=ry;exact PySem.EqMixed.eq_bool_str (Q9 I q (by simp))
  |_=>exact absurd (show false=true from hs) z6
 |int i=>
  obtain⟨t,rfl⟩:=rx;cases y with
  |non=>cases ry;exact PySem.EqNone.eq_int_none (Q9 I q (by simp))
  |int j=>obtain⟨t',rfl⟩:=ry;exact eq_int (Q9 I q c2B)
  |str j=>obtain⟨t',rfl⟩:=ry;exact PySem.EqMixed.eq_int_str (Q9 I q (by simp))
  |_=>exact absurd (show false=true from hs) z6
 |str i=>
  obtain⟨t,rfl⟩:=rx;cases y with
  |non=>cases ry;exact PySem.EqNone.eq_str_none (Q9 I q (by simp))
  |bl j=>cases ry;exact PySem.EqMixed.eq_str_bool (Q9 I q (by simp))
  |int j=>obtain⟨t',rfl⟩:=ry;exact PySem.EqMixed.eq_str_int (Q9 I q (by simp))
  |str j=>obtain⟨t',rfl⟩:=ry;exact eq_str (Q9 I q c2A)
  |_=>exact absurd (show false=true from hs) z6
 |byt i=>
  obtain⟨t,rfl⟩:=rx;cases y with
  |byt j=>obtain⟨t',rfl⟩:=ry;exact PySem.W.eq_bytes (Q9 I q c2C)
  |_=>exact absurd (show false=true from hs) z6
 |_=>cases y <;> exact absurd (show false=true from hs) z6
def d1P:OpR X (J4 .NotEq) rNe:=.mk λpins s σ H x y v u Q I rx ry h=>by
 obtain⟨hs,q⟩:=h;cases x with
 |non=>
  cases rx;cases y with
  |non=>cases ry;exact PySem.EqNone.ne_none_none (Q9 I q (by simp))
  |bl j=>cases ry;exact PySem.EqNone.ne_none_bool (Q9 I q (by simp))
  |int j=>obtain⟨t',rfl⟩:=ry;exact PySem.EqNone.ne_none_int (Q9 I q (by simp))
  |str j=>obtain⟨t',rfl⟩:=ry;exact PySem.EqNone.ne_none_str (Q9 I q (by simp))
  |_=>exact absurd (show false=true from hs) z6
 |bl i=>
  cases rx;cases y with
  |non=>cases ry;exact PySem.EqNone.ne_bool_none (Q9 I q (by simp))
  |bl j=>cases ry;exact ne_bool (Q9 I q (congrArg not c6p))
  |str j=>obtain⟨t',rfl⟩:=ry;exact PySem.EqMixed.ne_bool_str (Q9 I q (by simp))
  |_=>exact absurd (show false=true from hs) z6
 |int i=>
  obtain⟨t,rfl⟩:=rx;cases y with
  |non=>cases ry;exact PySem.EqNone.ne_int_none (Q9 I q (by simp))
  |int j=>obtain⟨t',rfl⟩:=ry;exact ne_int (Q9 I q (congrArg not c2B))
  |str j=>obtain⟨t',rfl⟩:=ry;exact PySem.EqMixed.ne_int_str (Q9 I q (by simp))
  |_=>exact absurd (show false=true from hs) z6
 |str i=>
  obtain⟨t,rfl⟩:=rx;cases y with
  |non=>cases ry;exact PySem.EqNone.ne_str_none (Q9 I q (by simp))
  |bl j=>cases ry;exact PySem.EqMixed.ne_str_bool (Q9 I q (by simp))
  |int j=>obtain⟨t',rfl⟩:=ry;exact PySem.EqMixed.ne_str_int (Q9 I q (by simp))
  |str j=>obtain⟨t',rfl⟩:=ry;exact ne_str (Q9 I q (congrArg not c2A))
  |_=>exact absurd (show false=true from hs) z6
 |byt i=>
  obtain⟨t,rfl⟩:=rx;cases y with
  |byt j=>obtain⟨t',rfl⟩:=ry;exact PySem.W.ne_bytes (Q9 I q (congrArg not c2C))
  |_=>exact absurd (show false=true from hs) z6
 |_=>cases y <;> exact absurd (show false=true from hs) z6
def d1Q:OpR X (J4 .Lt) (rI0 λi j=>.bl (decide (i<j))):=c7F λ_ _ _ _ _ _ _ q=>lt_int q
def d1R:OpR X (J4 .LtE) (rI0 λi j=>.bl (decide (i<=j))):=c7F λ_ _ _ _ _ _ _ q=>le_int q
def d1S:OpR X (J4 .Gt) (rI0 λi j=>.bl (decide (j<i))):=c7F λ_ _ _ _ _ _ _ q=>gt_int q
def d1T:OpR X (J4 .GtE) (rI0 λi j=>.bl (decide (j<=i))):=c7F λ_ _ _ _ _ _ _ q=>ge_int q
def c3t:OpR X (J4 .In) (λx y H Q=>∃i j,x=.str i/\y=.str j/\Q (.bl (!(Builtin.Str.occurrences j i 0 j.length 1).isEmpty)) H):=.mk λpins s σ H x y v u Q I rx ry h=>by
 obtain⟨i,j,rfl,rfl,q⟩:=h;obtain⟨t,rfl⟩:=rx;obtain⟨t',rfl⟩:=ry;exact in_str (Q9 I q rfl)
def d0l:OpR X (J4 .Is) (λx y H Q=>y=.non/\Q (.bl (decide (x=.non))) H):=.mk λpins s σ H x y v u Q I rx ry h=>by
 obtain⟨rfl,q⟩:=h;cases ry;refine is_none_gen (Q9 I q ?_)
 cases x <;> first
  | (cases rx;rfl)
  | (obtain⟨t,rfl⟩:=rx;rfl)
def c7E:OpR X (J4 .IsNot) (λx y H Q=>y=.non/\Q (.bl (!decide (x=.non))) H):=.mk λpins s σ H x y v u Q I rx ry h=>by
 obtain⟨rfl,q⟩:=h;cases ry;refine isnot_none_gen (Q9 I q ?_)
 cases x <;> first
  | (cases rx;rfl)
  | (obtain⟨t,rfl⟩:=rx;rfl)
def OpR.or{f:Value->Value->Sem Value}{r r':R2}(h:OpR X f r)(h':OpR X f r'):OpR X f (λx y H Q=>r x y H Q\/r' x y H Q):=.mk λpins s σ H x y v u Q I rx ry q=>by
 rcases q with q | q
 .exact h pins s σ H x y v u Q I rx ry q
 .exact h' pins s σ H x y v u Q I rx ry q
def a1z(b:Expr){op:CmpOp}(h:op≠.In:=by decide)(h2:op≠.NotIn:=by decide):V3 op b=false:=by
 have e1:(op == CmpOp.In)=false:=by cases op <;> first | rfl | exact absurd rfl h
 have e2:(op == CmpOp.NotIn)=false:=by cases op <;> first | rfl | exact absurd rfl h2
 cases b <;> simp[V3,e1,e2]
def a3W{op:CmpOp}{r:R2}(ho:OpR X (J4 op) r)(ha:PE X a ta)(hb:PE X b tb)(hm:V3 op b=false):PE X (.Compare a [op] [b] pos) (tOp r ta tb):=.mk λpins s σ H Q I h=>by
 exact wpAny_Compare1 (d0R ha hb I h λv u s2 x y H2 I2 rx ry q=>ho pins s2 σ H2 x y v u Q I2 rx ry q) hm
def D9(t:TE):TT:=λσ H Q=>t σ H λx H'=>∃k,x=.bl k/\Q k H'
def a1w{op:CmpOp}{r:R2}(ho:OpR X (J4 op) r)(ha:PE X a ta)(hb:PE X b tb)(hm:V3 op b=false):PT X (.Compare a [op] [b] pos) (D9 (tOp r ta tb)):=.mk λpins s σ H Q I h=>by
 refine d1o (thn (ha pins s σ H _ I h) λv s1 ⟨x,H1,I1,r1,q1⟩=>thn (hb pins s1 σ H1 _ I1 q1) λu s2 ⟨y,H2,I2,r2,q2⟩=>
  thn (ho pins s2 σ H2 x y v u _ I2 r1 r2 q2) λc s3 ⟨z,H3,I3,r3,k,e,q3⟩=>?_) hm
 subst e;cases r3;exact T3 ⟨H3,I3,q3⟩
def a9T(r r':R2)(ta tb tc:TE):TE:=λσ H Q=>ta σ H λx H1=>tb σ H1 λy H2=>r x y H2 λz H3=>∃k,z=.bl k /\
 (if k=true then tc σ H3 λw' H4=>r' y w' H4 Q else Q (.bl false) H3)
def b9k{op op':CmpOp}{r r':R2}(ho:OpR X (J4 op) r)(ho':OpR X (J4 op') r')(ha:PE X a ta)(hb:PE X b tb)(hc:PE X c tc)
  (hm:lastMarks [op,op'] [b,c]=false:=by with_unfolding_all rfl):PE X (.Compare a [op,op'] [b,c] pos) (a9T r r' ta tb tc):=.mk λpins s σ H Q I h=>by
 refine Compare_chain (thn (ha pins s σ H _ I h) λv s1 ⟨x,H1,I1,r1,q1⟩=>chain_link (thn (hb pins s1 σ H1 _ I1 q1) λu s2 ⟨y,H2,I2,r2,q2⟩=>
  thn (ho pins s2 σ H2 x y v u _ I2 r1 r2 q2) λd s3 ⟨z,H3,I3,r3,k,e,q3⟩=>?_)) hm
 subst e;cases r3;refine T3 ?_;cases k with
 |false=>exact ite_ff ⟨.bl false,H3,I3,rfl,q3⟩
 |true=>exact ite_tt (chain_last (thn (hc pins s3 σ H3 _ I3 q3) λw' s4 ⟨z',H4,I4,r4,q4⟩=>ho' pins s4 σ H4 y z' u w' Q I4 r2 r4 q4))
def c5u{op op':CmpOp}{r r':R2}(ho:OpR X (J4 op) r)(ho':OpR X (J4 op') r')(ha:PE X a ta)(hb:PE X b tb)(hc:PE X c tc)
  (hm:lastMarks [op,op'] [b,c]=false:=by with_unfolding_all rfl):PT X (.Compare a [op,op'] [b,c] pos) (D9 (a9T r r' ta tb tc)):=.mk λpins s σ H Q I h=>by
 refine isTrue_chain (thn (ha pins s σ H _ I h) λv s1 ⟨x,H1,I1,r1,q1⟩=>test_link (thn (hb pins s1 σ H1 _ I1 q1) λu s2 ⟨y,H2,I2,r2,q2⟩=>
  thn (ho pins s2 σ H2 x y v u _ I2 r1 r2 q2) λd s3 ⟨z,H3,I3,r3,k,e,q3⟩=>?_)) hm
 subst e;cases r3;refine T3 ?_;cases k with
 |false=>
  obtain⟨k',e',q'⟩:=q3;cases e';exact ite_ff ⟨H3,I3,q'⟩
 |true=>
  refine ite_tt (test_last (thn (hc pins s3 σ H3 _ I3 q3) λw' s4 ⟨z',H4,I4,r4,q4⟩=>thn (ho' pins s4 σ H4 y z' u w' _ I4 r2 r4 q4) λd' s5 ⟨z2,H5,I5,r5,k2,e2,q5⟩=>?_));subst e2;cases r5;exact T3 ⟨H5,I5,q5⟩
def b0u:(z9:Nat)<2 ^ 63:=by rw[sizeLine_eq];decide
def c1h:OpR X (a5A .Add) (λx y H Q=>∃i j,x=.str i/\y=.str j/\i.length+j.length<=z9/\Q (.str (i++j)) H):=.mk λpins s σ H x y v u Q I rx ry h=>by
 obtain⟨i,j,rfl,rfl,hz,q⟩:=h;obtain⟨t,rfl⟩:=rx;obtain⟨t',rfl⟩:=ry;exact add_str (λt' tk=>⟨.str (i++j),H,I.tok _,⟨_,rfl⟩,q⟩) hz
def a6W{x:V}(r:L8 [x] us):∃u,us=[u]/\K0 x u:=by
 cases r with
 |cons r1 r2=>cases r2;exact⟨_,rfl,r1⟩
def b2R{x:V}(r:L8 [x,y] us):∃u w',us=[u,w']/\K0 x u/\K0 y w':=by
 cases r with
 |cons r1 r2=>
  cases r2 with
  |cons r3 r4=>cases r4;exact⟨_,_,rfl,r1,r3⟩
def c6x:W2 X (.builtin "abs") (λxs H Q=>∃i,xs=[.int i]/\Q (.int (if i<0 then -i else i)) H):=.mk λpins s σ H xs us Q I r h=>by
 obtain⟨i,rfl,q⟩:=h;obtain⟨u,rfl,t,rfl⟩:=a6W r;exact call_abs_int λu tk=>⟨.int (if i<0 then -i else i),H,I.tok _,⟨_,rfl⟩,q⟩
def c4b(hc:X.calm=true):W2 X (.builtin "min") (λxs H Q=>∃i j,xs=[.int i,.int j]/\Q (.int (if j<i then j else i)) H):=.mk λpins s σ H xs us Q I r h=>by
 obtain⟨i,j,rfl,q⟩:=h;obtain⟨u,w',rfl,⟨t,rfl⟩,⟨t',rfl⟩⟩:=b2R r;refine min_two_ints (I.ok.hd hc) λh' tk k=>⟨_,H,I.kept k,?_,q⟩
 by_cases hj:j<i
 .rw[if_pos hj,if_pos hj];exact⟨_,rfl⟩
 .rw[if_neg hj,if_neg hj];exact⟨_,rfl⟩
end
structure c1Q(h:Heap)(x dx C:Addr)(mA:Str->Option Value):Prop where
 obj:h.get? x=some (Z5 C dx)
 ns:h.Ns1 dx mA
 ne:dx≠x
def b6H{mA:Str->Option Value}(n:h.Ns1 dx mA):∃od,h.get? dx=some od/\∀name,a9y name od=some (mA name):=by
 obtain⟨o,es,ep,ho,hd,hk,_,hm⟩:=n;refine⟨o,ho,λname=>?_⟩;have e:=hm name;unfold nsFind findBy at e;rw[<-Array.find?_toList]at e;unfold a9y;rw[hd];dsimp only;split
 .rename_i y q
  rw[q]at e;exact congrArg some e
 .rename_i q
  rw[q]at e
  have a:es.toList.any (·.refKey)=false:=by
   rw[List.any_eq_false];intro y hy;obtain⟨z,t,hkey⟩:=hk y (Array.mem_toList_iff.mp hy);simp[DictEntry.refKey,hkey]
  have a':¬es.toList.any (·.refKey)=true:=by rw[a];exact z6
  rw[if_neg a'];exact congrArg some e
def c1Q.look{x:Addr}{mA:Str->Option Value}(I:c1Q h x dx C mA):∃od,PySem.W.InstAt h x (Z5 C dx) C (some od)/\∀name,a9y name od=some (mA name):=
 let⟨od,ho,hl⟩:=b6H I.ns
 ⟨od,⟨I.obj,rfl,rfl,ho⟩,hl⟩
section
variable {prog:A4}{K:Fg}{x:Addr}{mA:Str->Option Value}{name:Str}{v:Value}
def c8c{expr:Bool}(X:K.In s.heap)(I:c1Q s.heap x dx C mA)(hg:a4T K C name=true)(hh:a4k K C=true)
  (ha:o0 K (.ref C) name=some none) (hv:mA name=some v) (hv':c6G v=true) (h:Q v { s with toks:=s.toks+1 }) :
  wpAny (model prog w) A (getAttr (.ref x) name expr) Q E s:=by
 obtain⟨od,J,hl⟩:=I.look;exact PySem.W.get_value X J (b0B hg).1 (PySem.W.findObj_own hh ha rfl (by rw[hl,hv])) hv' h
def c6e{pl:Sem Bool}{Q:Value×List Value->j6->Prop}(X:K.In s.heap)(I:c1Q s.heap x dx C mA)(hg:a4T K C name=true)
  (hf:o0 K (.ref C) name=some (some (.ref f))) (ht:a8t K (.ref f)=true) (hv:mA name=none) (h:Q (.ref f,[.ref x]) s) :
  wpAny (model prog w) A (b0E (.ref x) name pl) Q E s:=by
 obtain⟨od,J,hl⟩:=I.look;exact PySem.W.method_fn X J (b0B hg).1 (b0B hg).2 hf (beq_iff_eq.mp ht) (by show(a9y name od).map (·.isSome)=some false;rw[hl,hv];rfl) h
def c7e{ns:List Str}{Q:Unit->j6->Prop}(X:K.In s.heap)(I:c1Q s.heap x dx C mA)
  (hs:o0 K (.ref C) "__setattr__"=some (some (.builtin "object.__setattr__"))) (hp:b2N K C=true) (ht:b5A K C name=some none) (hh:a4k K C=true)
  (hw:PySem.Within mA ns) (hsz:ns.length<=z9)
  (h:∀h',c1Q h' x dx C (λy=>if y=name then some v else mA y)->Heap.SameBut dx s.heap h'->Q () { s with heap:=h',toks:=s.toks+2 }) :
  wpAny (model prog w) A (setAttr (.ref x) name v) Q E s:=by
 obtain⟨od,J,hl⟩:=I.look;refine PySem.W.set_plain X J hs (PySem.W.osa_open (s:={ s with toks:=s.toks+1 }) (r:=none) X J hp ht λb=>?_);obtain⟨cd,hc,hd'⟩:=PySem.W.any_some hh;have hx:s.heap.get? x=some ⟨.ref C,some dx,.plain,#[]⟩:=I.obj;refine c5 (p9 (c5 (c5 (wpAny_loadPart hx (c5 (PySem.W.Looks.here (s:={ s with toks:=s.toks+1 }) (PySem.W.looks_clsIn X hc) ?_))))));rw[hd'];refine p9 (a:=some dx) (c5 (p9 (c5 ?_)));refine wpAny_nsSet1 (s:={ s with toks:=s.toks+1 }) I.ns λh' hn2 hs2=>?_
 obtain⟨oD,esD,epD,hoD,hdD,hcD⟩:=hn2.count (PySem.Within.cons name v hw);refine c5 (wpAny_lookBehind hoD (by rw[hdD];exact pastItsLine_dict (G5 hcD (by rw[D4];omega))) ?_);exact p9 (h _ ⟨(hs2.2 _ (Ne.symm I.ne)).trans I.obj,hn2,I.ne⟩ hs2)
def b4X{R:b8z->j6->Prop}{vs:List Value}{kw:List (Str×Value)}(X:K.In s.heap)(hm:a1O K C=true)
  (hi:o0 K (.ref C) "__init__"=some (some (.ref f))) (hf:c8x K (.ref f)=some (.type "function"))
  (h:a5z (model prog w) (A.under (.builtin "type.__call__" ⟨.ref C::vs,kw⟩)) (.call (.ref f) ⟨.ref (s.heap.objs.size+1)::vs,kw⟩) (PySem.W.InitBack (s.heap.objs.size+1) R)
   { s with heap:=(s.heap.push R8).push (Z5 C s.heap.objs.size) }) :
  a5z (model prog w) A (.call (.ref C) ⟨vs,kw⟩) R s:=by
 obtain⟨hh,g,d,t,os⟩:=s;exact PySem.W.make_core (PySem.W.makes_of X hm) (PySem.W.looks_findIn X hi) (λself=>PySem.W.bind_fn X self hf) (.inl rfl) h
end
def O4(f:Str)(v:V):List (Str×V)->List (Str×V)
 |[]=>[(f,v)]
 | (g,x)::r=>if g=f then (g,v)::r else (g,x)::O4 f v r
def b2Z(f g:Str)(v:V):∀fs:List (Str×V),(O4 f v fs).lookup g=if g=f then some v else fs.lookup g
 |[]=>by
  show W0 g [(f,v)]=_;by_cases h:g=f
  .have hb:(g == f)=true:=beq_iff_eq.mpr h;simp only[W0,hb,if_pos h]
  .have hb:(g == f)=false:=beq_eq_false_iff_ne.mpr h;simp only[W0,hb,if_neg h]
 | (k,x)::r=>by
  have ih:=b2Z f g v r;rw[show O4 f v ((k,x)::r)=(if k=f then (k,v)::r else (k,x)::O4 f v r)from rfl];by_cases hk:k=f
  .rw[if_pos hk];by_cases h:g=k
   .have hb:(g == k)=true:=beq_iff_eq.mpr h;simp only[W0,hb,if_pos (h.trans hk)]
   .have hb:(g == k)=false:=beq_eq_false_iff_ne.mpr h;simp only[W0,hb,if_neg (λe:g=f=>h (e.trans hk.symm))]
  .rw[if_neg hk];by_cases h:g=k
   .have hb:(g == k)=true:=beq_iff_eq.mpr h;simp only[W0,hb,if_neg (λe:g=f=>hk (h.symm.trans e))]
   .have hb:(g == k)=false:=beq_eq_false_iff_ne.mpr h;simp only[W0,hb];exact ih
def b2x(f:Str)(v:V):∀fs:List (Str×V),f∈(O4 f v fs).map (·.1)/\∀g,g∈fs.map (·.1)->g∈(O4 f v fs).map (·.1)
 |[]=>⟨by simp[O4],λg h=>by simp at h⟩
 | (k,x)::r=>by
  obtain⟨i1,i2⟩:=b2x f v r;rw[show O4 f v ((k,x)::r)=(if k=f then (k,v)::r else (k,x)::O4 f v r)from rfl];by_cases hk:k=f
  .rw[if_pos hk];subst hk;exact⟨by simp,λg h=>by simpa using h⟩
  .rw[if_neg hk];refine⟨?_,λg h=>?_⟩
   .rw[J7];exact K6 _ i1
   .rw[J7]at h ⊢;rcases t8.mp h with e | e
    .exact t8.mpr (.inl e)
    .exact K6 _ (i2 g e)
def b3b(f:Str)(v:V):∀fs:List (Str×V),(O4 f v fs).length<=fs.length+1
 |[]=>by simp[O4]
 | (k,x)::r=>by
  have ih:=b3b f v r;rw[show O4 f v ((k,x)::r)=(if k=f then (k,v)::r else (k,x)::O4 f v r)from rfl];by_cases hk:k=f
  .rw[if_pos hk,D4,D4];omega
  .rw[if_neg hk,D4,D4];omega
def a7l.some_of{o:Option Value}(r:a7l (some v) o):∃u,o=some u/\K0 v u:=by
 cases o with
 |none=>exact(show False from r).elim
 |some u=>exact⟨u,rfl,r⟩
def a7l.none_of{o:Option Value}(r:a7l none o):o=none:=by
 cases o with
 |none=>rfl
 |some u=>exact(show False from r).elim
def b6J(r:K0 v u):c6G u=true:=by
 cases v with
 |non=>cases (show u=Value.none from r);rfl
 |bl b=>cases (show u=Value.bool b from r);rfl
 |int i=>obtain⟨t,e⟩:=(show ∃t,u=Value.int i t from r);cases e;rfl
 |str x=>obtain⟨t,e⟩:=(show ∃t,u=Value.str x t from r);cases e;rfl
 |byt b=>obtain⟨t,e⟩:=(show ∃t,u=Value.bytes b t from r);cases e;rfl
 |flt b=>obtain⟨t,e⟩:=(show ∃t,u=Value.float b t from r);cases e;rfl
 |ref a=>cases (show u=Value.ref a from r);rfl
 |ty n=>cases (show u=Value.type n from r);rfl
section
variable {P:A4}{fs fs':List (Str×V)}
def b3O(hok:HOk P w H h)(e:H a=some (.ins C dx fs)):∃mA,c1Q h a dx C mA/\(∀f,a7l (fs.lookup f) (mA f))/\PySem.Within mA (fs.map (·.1))/\fs.length<=1000/\H dx=some (.own a):=by
 obtain⟨d,z,ne,ob,mA,n,r,q⟩:=(show V5 P w H h a (.ins C dx fs)from hok a _ e);exact⟨mA,⟨ob,n,ne⟩,r,q,z,d⟩
end
structure Cls(K:Fg)(C:Addr):Prop where
 pg:a4T K C Str.empty=true
 hd:a4k K C=true
 po:b2N K C=true
 sa:o0 K (.ref C) "__setattr__"=some (some (.builtin "object.__setattr__"))
def Cls.get{K:Fg}(c:Cls K C)(f:Str):a4T K C f=true:=c.pg
def U9(K:Fg)(C:Addr)(f:Str):Prop:=o0 K (.ref C) f=some none
def U9.taker{K:Fg}{f:Str}(n:U9 K C f):b5A K C f=some none:=by
 unfold b5A;rw[show o0 K (.ref C) f=some none from n];rfl
structure Con(K:Fg)(C:Addr)(f:Str)(v:V)(u:Value):Prop where
 at_:o0 K (.ref C) f=some (some u)
 rel:K0 v u
 get:a4j K u "__get__"=some none
 cp:PySem.W.copiedNames.contains f=false
structure c8u(K:Fg)(C:Addr)(m:Str)(f:Addr):Prop where
 at_:o0 K (.ref C) m=some (some (.ref f))
 fn:a8t K (.ref f)=true
 kp:O8 K (.ref f)=true
section
variable {fs:List (Str×V)}{f:Str}
def c1D{b:Bool}(I:Inv X pins σ H s)(e:H a=some (.ins C dx fs))(c:Cls X.K C)(n:U9 X.K C f)(l:fs.lookup f=some v)
  (h:∀u s',Inv X pins σ H s'->K0 v u->Q u s'):wpAny (model X.prog X.w) A (getAttr (.ref a) f b) Q E s:=by
 obtain⟨mA,O,r,_,_,_⟩:=b3O I.hok e;obtain⟨u,hu,ru⟩:=a7l.some_of (v:=v) (o:=mA f) (by rw[<-l];exact r f);exact c8c I.kIn O (c.get f) c.hd n hu (b6J ru) (h u _ (I.tok _) ru)
def b5d{m:Str}{g:Addr}{pl:Sem Bool}{Q:Value×List Value->j6->Prop}(I:Inv X pins σ H s)(e:H a=some (.ins C dx fs))(c:Cls X.K C)(k:c8u X.K C m g)(l:fs.lookup m=none)
  (h:Q (.ref g,[.ref a]) s):wpAny (model X.prog X.w) A (b0E (.ref a) m pl) Q E s:=by
 obtain⟨mA,O,r,_,_,_⟩:=b3O I.hok e;have hn:mA m=none:=a7l.none_of (by rw[<-l];exact r m);exact c6e I.kIn O (c.get m) k.at_ k.fn hn h
def c0G{Q:Unit->j6->Prop}(I:Inv X pins σ H s)(e:H a=some (.ins C dx fs))(c:Cls X.K C)(n:U9 X.K C f)(hl:fs.length<1000)(ry:K0 y u)
  (h:∀s',Inv X pins σ (upd H a (.ins C dx (O4 f y fs))) s'->Q () s'):wpAny (model X.prog X.w) A (setAttr (.ref a) f u) Q E s:=by
 obtain⟨mA,O,r,wi,_,ho⟩:=b3O I.hok e;have hz:(fs.map (·.1)).length<=z9:=by rw[b8,sizeLine_eq];omega
 refine c7e I.kIn O c.sa c.po n.taker c.hd wi hz λh' O' sb=>h _ ?_
 have hd:∃o,h'.get? dx=some o:=let⟨o,_,_,e',_⟩:=O'.ns; ⟨o,e'⟩
 refine I.write (x:=a) (e:=dx) (by rw[e];exact True.intro) (.inr ho) (λb q hb z=>(sb.2 b hb).trans z) hd ?_;refine⟨by rw[i9 O.ne];exact ho,?_,O.ne,O'.obj,_,O'.ns,λg=>?_,λg hg=>?_⟩
 .have:=b3b f y fs;omega
 .show a7l ((O4 f y fs).lookup g) (if g=f then some u else mA g);rw[b2Z];by_cases q:g=f
  .rw[if_pos q,if_pos q];exact ry
  .rw[if_neg q,if_neg q];exact r g
 .by_cases q:g=f
  .rw[q];exact(b2x f y fs).1
  .refine(b2x f y fs).2 g (wi g λz=>hg ?_);show(if g=f then some u else mA g)=none;rw[if_neg q];exact z
def Inv.made(I:Inv X pins σ H s):Inv X pins σ (upd (upd H s.heap.objs.size (.own (s.heap.objs.size+1))) (s.heap.objs.size+1) (.ins C s.heap.objs.size []))
  { s with heap:=(s.heap.push R8).push (Z5 C s.heap.objs.size) }:=by
 have e1:(s.heap.push R8).get? s.heap.objs.size=some R8:=C7 s.heap rfl
 have e2:((s.heap.push R8).push (Z5 C s.heap.objs.size)).get? (s.heap.objs.size+1)=some (Z5 C s.heap.objs.size):=by
  have:=C7 (s.heap.push R8) (o:=Z5 C s.heap.objs.size) rfl
  rwa [d1k]at this
 have e3:(s.heap.push R8).Ns s.heap.objs.size (λ_=>none):=⟨R8,#[],_,e1,rfl,(λe he=>absurd he (by simp)),λ_=>rfl⟩;have I1:=I.laid (a:=s.heap.objs.size) (o:=.own (s.heap.objs.size+1)) (h':=s.heap.push R8) (t':=s.toks) (λb u q=>j7 _ q) (j8 _) ⟨_,e1⟩;refine I1.laid (a:=s.heap.objs.size+1) (o:=.ins C s.heap.objs.size []) (t':=s.toks) (λb u q=>j7 _ q) (b5E (d1k _ _)) ?_;have ne:s.heap.objs.size≠s.heap.objs.size+1:=A3 (a8X _);refine⟨by rw[i9 ne,c7],W3 _,ne,e2,λ_=>none,(c4k e3).at λo q=>j7 _ q,λ_=>True.intro,λy hy=>absurd rfl hy⟩
def c2J{prog:A4}{env:Env}(hb:a5C e f env (eval e env)=eval e env)
  (h:wpAny (model prog w) A (eval e env) (λo s₁=>wpAny (model prog w) A (getAttr o f true) Q E s₁) E s):wpAny (model prog w) A (eval (.Attribute e f pos) env) Q E s:=
 Attribute_any_ h (by rw[arm_eval_Attribute,hb])
end
def Y5(K:Fg)(ta:TE)(f:Str):TE:=λσ H Q=>ta σ H λx H1=>∃a C dx fs v,x=.ref a/\H1 a=some (.ins C dx fs)/\Cls K C/\U9 K C f/\fs.lookup f=some v/\Q v H1
def a5R(K:Fg)(ta tv:TE)(f:Str):TS:=λD σ H=>tv σ H λy H1=>ta σ H1 λx H2=>∃a C dx fs,x=.ref a/\H2 a=some (.ins C dx fs)/\Cls K C/\U9 K C f/\fs.length<1000 /\
 D.nx σ (upd H2 a (.ins C dx (O4 f y fs)))
section
variable {o value:Expr}{f:Str}{tpos:Pos}{tv:TE}
def L6(he:PE X e ta)(hb:a5C e f X.env (eval e X.env)=eval e X.env:=by rfl):PE X (.Attribute e f pos) (Y5 X.K ta f):=.mk λpins s σ H Q I h=>by
 refine c2J hb (thn (he pins s σ H _ I h) λu s1 ⟨x,H1,I1,rx,a,C,dx,fs,v,ex,ea,c,n,l,q⟩=>?_);subst ex;obtain rfl:u=Value.ref a:=rx;exact c1D I1 ea c n l λu' s2 I2 ru=>⟨v,H1,I2,ru,q⟩
def a0Q(ha:PE X o ta)(hv:PE X value tv)(hs:a6U value (some (.Attribute o f pos')) pos.line X.env=pure false:=by rfl):PS X (.Assign [.Attribute o f pos'] value pos) (a5R X.K ta tv f):=.mk λpins s σ H D I h=>by
 refine plainObj_wpAny_Assign_Attribute (thn (hv pins s σ H _ I h) λu s1 ⟨y,H1,I1,ry,q⟩=>thn (ha pins s1 σ H1 _ I1 q) λov s2 ⟨x,H2,I2,rx,a,C,dx,fs,ex,ea,c,n,l,q2⟩=>?_) hs;subst ex;obtain rfl:ov=Value.ref a:=rx;exact c0G I2 ea c n l ry λs3 I3=>⟨σ,_,I3,q2⟩
end
section
variable {c:Value}{b:Bool}
inductive b2K(K:Fg)(H:Hp):V->Value->Prop where
 | non:b2K K H .non (.type "NoneType")
 | bl (x:Bool):b2K K H (.bl x) (.type "bool")
 | int (i:Int):b2K K H (.int i) (.type "int")
 | str (x:Str):b2K K H (.str x) (.type "str")
 | flt (x:UInt64):b2K K H (.flt x) (.type "float")
 | lst {a:Addr} {xs:List V} (e:H a=some (.lst xs)):b2K K H (.ref a) (.type "list")
 | frz {a:Addr} {o:Obj} {xs:List V} (e:H a=some (.frz o (.lst xs))):b2K K H (.ref a) (.type "list")
 | tup {a:Addr} {xs:List V} (e:H a=some (.tup xs)):b2K K H (.ref a) (.type "tuple")
 | dK {a:Addr} {kvs:List (Key×V)} (e:H a=some (.dK kvs)):b2K K H (.ref a) (.type "dict")
 | dT {a:Addr} {kvs:List (List Key×V)} (e:H a=some (.dT kvs)):b2K K H (.ref a) (.type "dict")
 | ins {a C dx:Addr} {fs:List (Str×V)} (e:H a=some (.ins C dx fs)) (cl:Cls K C) (ha:o0 K (.ref C) "__class__"=some (some (.builtin "object.__class__")))
   (hn:a4j K (.builtin "object.__class__") "__get__"=some (some (.builtin "getset_descriptor.__get__"))) (htk:a8u K (.builtin "object.__class__")=some true)
   (hm:a3s K C (.type "object")=some true):b2K K H (.ref a) (.ref C)
def b2z{x:V}{t:Value}(I:Inv X pins σ H s)(rx:K0 x u)(ty:b2K X.K H x t)(e:Y0 X.K t c=some b)(h:∀tk,Q (.bool b) { s with toks:=tk }) :
  wpAny (model X.prog X.w) A (call (.builtin "isinstance") [u,c]) Q E s:=by
 cases ty with
 |non=>cases (show u=Value.none from rx);exact T7 PySem.W.kitx_none I.kIn True.intro e (λz=>nomatch z) h
 |bl y=>cases (show u=Value.bool y from rx);exact T7 PySem.W.kitx_bool I.kIn True.intro e (λz=>nomatch z) h
 |int i=>obtain⟨t,q⟩:=(show ∃t,u=Value.int i t from rx);cases q;exact T7 PySem.W.kitx_int I.kIn True.intro e (λz=>nomatch z) h
 |str y=>obtain⟨t,q⟩:=(show ∃t,u=Value.str y t from rx);cases q;exact T7 PySem.W.kitx_str I.kIn True.intro e (λz=>nomatch z) h
 |flt y=>obtain⟨t,q⟩:=(show ∃t,u=Value.float y t from rx);cases q;exact T7 PySem.W.kitx_float I.kIn True.intro e (λz=>nomatch z) h
 |@lst a xs ea=>
  cases (show u=Value.ref a from rx);obtain⟨_,_,n,_,h1⟩:=(show V5 X.prog X.w H s.heap a (.lst xs)from I.hok a _ ea);exact T7 c4q I.kIn ⟨_,h1,rfl⟩ e (λz=>nomatch z) h
 |@frz a ob xs ea=>
  cases (show u=Value.ref a from rx);obtain⟨_,_,_,n,_,h1⟩:=(show V5 X.prog X.w H s.heap a (.frz ob (.lst xs))from I.hok a _ ea);exact T7 c4q I.kIn ⟨_,h1,rfl⟩ e (λz=>nomatch z) h
 |@tup a xs ea=>
  cases (show u=Value.ref a from rx);obtain⟨_,_,_,p⟩:=(show V5 X.prog X.w H s.heap a (.tup xs)from I.hok a _ ea);obtain⟨o,h1,h2,_⟩:=p;exact T7 PySem.W.kitx_tuple I.kIn ⟨o,h1,h2⟩ e (λz=>nomatch z) h
 |@dK a kvs ea=>
  cases (show u=Value.ref a from rx);obtain⟨_,_,vs,_,p⟩:=(show V5 X.prog X.w H s.heap a (.dK kvs)from I.hok a _ ea);obtain⟨o,es,ep,h1,h2,_⟩:=p;exact T7 c4r I.kIn ⟨o,h1,h2.1⟩ e (λz=>nomatch z) h
 |@dT a kvs ea=>
  cases (show u=Value.ref a from rx);obtain⟨_,_,xs,_,o,es,ep,h1,h2,_⟩:=(show V5 X.prog X.w H s.heap a (.dT kvs)from I.hok a _ ea);exact T7 c4r I.kIn ⟨o,h1,h2.1⟩ e (λz=>nomatch z) h
 |@ins a C dx fs ea cl ha hn htk hm=>
  cases (show u=Value.ref a from rx);obtain⟨mA,O,_⟩:=b3O I.hok ea;obtain⟨od,J,_⟩:=O.look;exact T7 (PySem.W.kitx_own (cl.get _) cl.hd ha hn htk hm) I.kIn J e (λz=>nomatch z) h
end
structure Q1(k:Nat)(A:R0):Prop where
 hd:A.handled=none
 dp:A.depth+3 * k+5<recursionLimit
 un:A.units+16 * k+200<cLine
 gd:A.guards=some []
def Q1.mono{j k:Nat}(r:Q1 k A)(h:j<=k):Q1 j A:=⟨r.hd,by have:=r.dp;omega,by have:=r.un;omega,r.gd⟩
def Q1.deeper{k:Nat}(r:Q1 (k+1) A)(env:Env):Q1 k (A.deeper env):=
 ⟨r.hd,by have:=r.dp;show A.depth+1+3 * k+5<_;omega,by have:=r.un;show A.units+3+16 * k+200<_;omega,r.gd⟩
def c1v{kw:List (Str×Value)}:(A.under (.builtin "type.__call__" ⟨.ref C::us,kw⟩)).depth=A.depth+1:=by
 first | rfl | simp[Around.under,Code.weight,Code.isCreation,Code.isGuard,Code.isCaller,Code.frames,Code.isFrame,guardIds]
def c1t{kw:List (Str×Value)}:(A.under (.builtin "type.__call__" ⟨.ref C::us,kw⟩)).units=A.units+1:=by
 first | rfl | simp[Around.under,Code.cUnits,Code.frames,Code.isFrame]
def b9D{kw:List (Str×Value)}:(A.under (.builtin "type.__call__" ⟨.ref C::us,kw⟩)).guards=A.guards:=by
 first | rfl | simp[Around.under,Code.isGuard,guardIds,Code.guards]
def Q1.make{k:Nat}(r:Q1 (k+1) A)(C:Addr)(us:List Value)(kw:List (Str×Value)):Q1 k (A.under (.builtin "type.__call__" ⟨.ref C::us,kw⟩)):=
 ⟨r.hd,by have:=r.dp;rw[c1v];omega,by have:=r.un;rw[c1t];omega,by rw[b9D];exact r.gd⟩
def Q1.depth{k:Nat}(r:Q1 k A):A.depth<recursionLimit:=by have:=r.dp;omega
def Q1.units{k:Nat}(r:Q1 k A):A.units+64<cLine:=by have:=r.un;omega
def Q1.units0{k:Nat}(r:Q1 k A):A.units<cLine:=by have:=r.un;omega
def i8:TA:=λ_ H Q=>Q [] H
def a9(ta:TE)(tr:TA):TA:=λσ H Q=>ta σ H λx H1=>tr σ H1 λxs H2=>Q (x::xs) H2
section
variable {t:TA}
def a4z:PA X [] i8:=.mk λ_ _ _ _ H Q I h=>Calls.spliced_nil ⟨[],H,I,.nil,h⟩
def J8(ha:PE X e te)(hr:PA X es t)(hs:u6 (e::es) X.env=(false,eval e X.env)::u6 es X.env:=by rfl):PA X (e::es) (a9 te t):=.mk λpos pins s σ H Q I h=>by
 rw[hs];show wpAny _ _ (spliced ((false,eval e X.env)::a0v pos (u6 es X.env))) _ _ s;refine Calls.spliced_cons (thn (ha pins s σ H _ I h) λu s1 ⟨x,H1,I1,r1,q1⟩=>?_);exact thn (hr pos pins s1 σ H1 _ I1 q1) λus s2 ⟨xs,H2,I2,r2,q2⟩=>⟨x::xs,H2,I2,.cons r1 r2,q2⟩
def W4(t:TA):TE:=λσ H Q=>t σ H λxs H1=>xs.length<=z9/\∀p,H1 p=none->Q (.ref p) (upd H1 p (.tup xs))
def a0x(t:TA):TE:=λσ H Q=>t σ H λxs H1=>xs.length<=z9/\∀p,H1 p=none->Q (.ref p) (upd H1 p (.lst xs))
def J5{x1}(h:PA X es t):PE X (.Tuple es x1 pos) (W4 t):=.mk λpins s σ H Q I hq=>by
 refine wpAny_Tuple_spliced (thn (h pos pins s σ H _ I hq) λus s1 ⟨xs,H1,I1,r,z,q⟩=>⟨by rw[<-r.length];exact z,?_⟩);have hf:H1 s1.heap.objs.size=none:=I1.hok.fresh (j8 _);refine⟨.ref s1.heap.objs.size,upd H1 s1.heap.objs.size (.tup xs),I1.laid (t':=s1.toks) (λb u e=>j7 _ e) (j8 _) ?_,rfl,q _ hf⟩;exact⟨z,us,r,⟨_,C7 _ rfl,rfl,_,rfl⟩⟩
def O5(h:PA X es t):PE X (.List es pos) (a0x t):=.mk λpins s σ H Q I hq=>by
 refine wpAny_List_spliced (thn (h pos pins s σ H _ I hq) λus s1 ⟨xs,H1,I1,r,z,q⟩=>⟨by rw[<-r.length];exact z,?_⟩);have hf:H1 s1.heap.objs.size=none:=I1.hok.fresh (j8 _);refine⟨.ref s1.heap.objs.size,upd H1 s1.heap.objs.size (.lst xs),I1.laid (t':=s1.toks) (λb u e=>j7 _ e) (j8 _) ?_,rfl,q _ hf⟩;exact⟨z,us,0,r,C7 _ rfl⟩
end
abbrev Sp:=List V->Hp->VK->XK->Prop
abbrev CXT:=List Env->Hp->j6->XK->Value->j6->Prop
variable{CX:CXT}
structure c0h(P:A4)(w:World)(K:Fg)(mg:Str->Option Value)(base:Heap)(A:R0)(outer:List Env)(s:j6)(H:Hp):Prop where
 frames:A.frames=some outer
 mod:Mod K mg base
 bs:∀b o,base.get? b=some o->s.heap.get? b=some o/\H b=none
 bsz:base.objs.size<=s.heap.objs.size
 funs:s.heap.FunFrames base outer
 frf:∀b∈frs outer,H b=none
 hok:HOk P w H s.heap
 bare:b3W s.gens
def CE(outer:List Env)(P:A4)(w:World)(H:Hp)(s:j6)(Q:VK)(u:Value)(s':j6):Prop:=
 ∃v H',s'.os=s.os/\b3W s'.gens/\Un (frs outer) [] H H' s.heap s'.heap/\HOk P w H' s'.heap/\K0 v u/\Q v H'
def CR(CX:CXT)(outer:List Env)(P:A4)(w:World)(H:Hp)(s:j6)(Q:VK)(E:XK)(r:b8z)(s':j6):Prop:=
 match r with
 | .ok (.ret u)=>CE outer P w H s Q u s'
 |.ok _=>False
 |.error e=>CX outer H s E e s'
structure E3(P:A4)(w:World)(K:Fg)(mg:Str->Option Value)(base:Heap)(CX:CXT)(k:Nat)(f:Addr)(fd:Q5)(ps:List Str)(sp:Sp):Prop where
 len:∀vs H Q E,sp vs H Q E->vs.length=ps.length
 run:∀(A:R0) (outer:List Env) (s:j6) (H:Hp) (args:Args) (us:List Value) (vs:List V) (Q:VK) (E:XK),Q1 k A->c0h P w K mg base A outer s H->b1O s fd args (ps.zip us)->L8 vs us->sp vs H Q E ->
  a5z (model P w) A (.call (.ref f) args) (CR CX outer P w H s Q E) s
def c0h.make{P:A4}{K:Fg}{mg:Str->Option Value}{base:Heap}{outer:List Env}(e:c0h P w K mg base A outer s H)(C:Addr)(us:List Value)(kw:List (Str×Value)) :
  c0h P w K mg base (A.under (.builtin "type.__call__" ⟨.ref C::us,kw⟩)) outer s H:=⟨by first | exact e.frames | (simpa[Around.under,Code.envs,Code.isFrame,pushEnvs]using e.frames),e.mod,e.bs,e.bsz,e.funs,e.frf,e.hok,e.bare⟩
section
variable {s':j6}
def Inv.env0(I:Inv X pins σ H s):c0h X.prog X.w X.K X.mg X.base X.A X.stack s H:=
 ⟨I.ok.frames,I.ok.mod,I.bs,G5 I.ok.bsz I.sz,I.stack,I.stkFree,I.hok,I.bare⟩
def Inv.after{Q:VK}(I:Inv X pins σ H s)(h:CE X.stack X.prog X.w H s Q u s'):EP X pins σ Q u s':=by
 obtain⟨v,H',os,bare,un,hok,r,q⟩:=h;obtain⟨hh,g,d,t,os'⟩:=s';obtain rfl:os'=s.os:=os;exact⟨v,H',I.call (h':=hh) (g':=g) (d':=d) (t':=t) (ch:=[]) un hok bare (λb z=>absurd z (by simp)),r,q⟩
end
def z7(sp:Sp)(dvs:List V)(E:XK)(t:TA):TE:=λσ H Q=>t σ H λvs H1=>sp (vs++dvs) H1 Q E
def Q6(C:Addr)(m:Str)(sp:Sp)(dvs:List V)(E:XK)(ta:TE)(t:TA):TE:=λσ H Q=>ta σ H λx H1=>∃a dx fs,x=.ref a/\H1 a=some (.ins C dx fs)/\fs.lookup m=none /\
 t σ H1 λvs H2=>sp (x::(vs++dvs)) H2 Q E
def a2e(C:Addr)(sp:Sp)(dvs:List V)(E:XK)(t:TA):TE:=λσ H Q=>t σ H λvs H1=>∀x dx,H1 x=none->H1 dx=none->dx≠x ->
 sp (.ref x::(vs++dvs)) (upd (upd H1 dx (.own x)) x (.ins C dx [])) (λv H2=>v=.non/\Q (.ref x) H2) E
def a2R(K:Fg)(fd:Q5)(ps:List Str)(ds:List Value):Prop:=
 ∀(s:j6) (us:List Value),K.In s.heap->(us++ds).length=ps.length->b1O s fd ⟨us,[]⟩ (ps.zip (us++ds))
def a2R.all{K:Fg}{fd:Q5}(h:∀us:List Value,us.length=ps.length->bindArgs fd ⟨us,[]⟩=pure (ps.zip us)):a2R K fd ps []:=λs us _ hl=>by
 rw[F9]at hl ⊢;exact .of_eq (h us hl)
def b0y(CX:CXT)(X:Cx)(E:XK):Prop:=∀(pins:List (Addr×Obj)) (σ:St) (H:Hp) (s:j6) (e:Value) (s':j6),Inv X pins σ H s->CX X.stack H s E e s'->X.xe e s'
section
variable {k:Nat}{fd:Q5}{sp:Sp}{dvs:List V}{ds:List Value}{E:XK}{x m:Str}{apos:Pos}{o:Expr}{t:TA}
def c0V{Q:VK}{vs:List V}(F:E3 X.prog X.w X.K X.mg X.base CX k f fd ps sp)(hr:Q1 k X.A)(hb:a2R X.K fd ps ds)(hd:L8 dvs ds)(hx:b0y CX X E)
  (I:Inv X pins σ H s) (r:L8 vs us) (h:sp (vs++dvs) H Q E):wpAny (model X.prog X.w) X.A (call (.ref f) us) (EP X pins σ Q) X.xe s:=by
 have r2:L8 (vs++dvs) (us++ds):=r.append hd;have hl:(us++ds).length=ps.length:=by rw[<-r2.length];exact F.len _ _ _ _ h
 refine wpAny_call (a3E (F.run X.A X.stack s H ⟨us,[]⟩ (us++ds) (vs++dvs) Q E hr I.env0 (hb s us I.kIn hl) r2 h) λr s' hq=>?_);cases r with
 |error e=>exact hx pins σ H s e s' I hq
 |ok fl=>
  cases fl with
  |ret u=>exact I.after hq
  |next=>exact False.elim hq
  |brk=>exact False.elim hq
  |cont=>exact False.elim hq
def c7A(F:E3 X.prog X.w X.K X.mg X.base CX k f fd ps sp)(hr:Q1 k X.A)(hg:Gl X x)(hm:X.mg x=some (.ref f))(hk:O8 X.K (.ref f)=true)(hb:a2R X.K fd ps ds)(hd:L8 dvs ds)(hx:b0y CX X E)
  (ha:PA X (e::es) t) (hdb:(x == ("__debug__" : Str))=false:=by decide) (he:u6 (e::es) X.env=(false,eval e X.env)::u6 es X.env:=by rfl) (hpl:(a0v pos (u6 es X.env)).any (·.1)=false:=by rfl) :
  PE X (.Call (.Name x p) (e::es) [] pos) (z7 sp dvs E t):=.mk λpins s σ H Q I h=>by
 refine a0u (a6x I hg hm ?_ hdb);refine a1F (h₀:=X.base) I.ok.mod.kin hk (thn (ha pos pins s σ H _ I h) λus s1 ⟨vs,H1,I1,r,q⟩=>⟨I1.kIn,?_⟩) he hpl;exact c0V F hr hb hd hx I1 r q
def c7y{pl:Sem Bool}(he:PE X o ta)(c:Cls X.K C)(hm:c8u X.K C m f)(F:E3 X.prog X.w X.K X.mg X.base CX k f fd ps sp)(hr:Q1 k X.A)(hb:a2R X.K fd ps ds)(hd:L8 dvs ds)(hx:b0y CX X E)(ha:PA X (e::es) t)
  (hst:u6 (e::es) X.env=(false,eval e X.env)::u6 es X.env:=by rfl) (hpl:(a0v pos (u6 es X.env)).any (·.1)=false:=by rfl)
  (ht:eval (.Call (.Attribute o m apos) (e::es) [] pos) X.env=(do
   let ov <-eval o X.env
   b3V apos.atName
   let(f,first) <-a7q [ov] (b0E ov m pl)
   c4o pos f first (a0v pos (u6 (e::es) X.env)) (a5B pos (a1f [] X.env))):=by rfl) :
  PE X (.Call (.Attribute o m apos) (e::es) [] pos) (Q6 C m sp dvs E ta t):=.mk λpins s σ H Q I h=>by
 refine c0l (pl:=pl) (thn (he pins s σ H _ I h) λu s1 ⟨x,H1,I1,rx,a,dx,fs,ex,ea,l,q⟩=>?_) ht;subst ex;obtain rfl:u=Value.ref a:=rx;refine b5d I1 ea c hm l ?_;refine a1F (first:=[.ref a]) (h₀:=X.base) I.ok.mod.kin hm.kp (thn (ha pos pins s1 σ H1 _ I1 q) λus s2 ⟨vs,H2,I2,r,q2⟩=>⟨I2.kIn,?_⟩) hst hpl;exact c0V (us:=.ref a::us) (vs:=.ref a::vs) F hr hb hd hx I2 (.cons rfl r) q2
def c5w{pl:Sem Bool}(he:PE X o ta)(c:Cls X.K C)(hm:c8u X.K C m f)(F:E3 X.prog X.w X.K X.mg X.base CX k f fd ps sp)(hr:Q1 k X.A)(hb:a2R X.K fd ps ds)(hd:L8 dvs ds)(hx:b0y CX X E)
  (ht:eval (.Call (.Attribute o m apos) [] [] pos) X.env=(do
   let ov <-eval o X.env
   b3V apos.atName
   let(f,first) <-a7q [ov] (b0E ov m pl)
   c4o pos f first (a0v pos (u6 [] X.env)) (a5B pos (a1f [] X.env))):=by rfl) :
  PE X (.Call (.Attribute o m apos) [] [] pos) (Q6 C m sp dvs E ta i8):=.mk λpins s σ H Q I h=>by
 refine c0l (pl:=pl) (thn (he pins s σ H _ I h) λu s1 ⟨x,H1,I1,rx,a,dx,fs,ex,ea,l,q⟩=>?_) ht;subst ex;obtain rfl:u=Value.ref a:=rx;refine b5d I1 ea c hm l ?_;exact PySem.W.callWith_K0 (first:=[.ref a]) I1.kIn hm.kp (c0V (us:=[.ref a]) (vs:=[.ref a]) F hr hb hd hx I1 (.cons rfl .nil) q)
structure Mk(K:Fg)(C f:Addr):Prop where
 makes:a1O K C=true
 init:o0 K (.ref C) "__init__"=some (some (.ref f))
 fn:a8t K (.ref f)=true
 kp:O8 K (.ref C)=true
def c5g{Q:VK}{vs:List V}(M:Mk X.K C f)(F:E3 X.prog X.w X.K X.mg X.base CX k f fd ps sp)(hr:Q1 (k+1) X.A)(hb:a2R X.K fd ps ds)(hd:L8 dvs ds)
  (hx:b0y CX X E) (I:Inv X pins σ H s) (r:L8 vs us)
  (h:∀x dx,H x=none->H dx=none->dx≠x->sp (.ref x::(vs++dvs)) (upd (upd H dx (.own x)) x (.ins C dx [])) (λv H2=>v=.non/\Q (.ref x) H2) E) :
  wpAny (model X.prog X.w) X.A (call (.ref C) us) (EP X pins σ Q) X.xe s:=by
 have hq:=h (s.heap.objs.size+1) s.heap.objs.size (I.hok.fresh (a4q _)) (I.hok.fresh (j8 _)) (A3 (a8X _));have I2:=Inv.made (C:=C) I;have r2:L8 (V.ref (s.heap.objs.size+1)::(vs++dvs)) (Value.ref (s.heap.objs.size+1)::(us++ds)):=.cons rfl (r.append hd)
 have hl:(Value.ref (s.heap.objs.size+1)::us++ds).length=ps.length:=by
  have e:=r2.length;rw[F.len _ _ _ _ hq]at e;exact e.symm
 refine wpAny_call (b4X (f:=f) I.kIn M.makes M.init (beq_iff_eq.mp M.fn) (a3E (F.run _ X.stack _ _ ⟨Value.ref (s.heap.objs.size+1)::us,[]⟩ (Value.ref (s.heap.objs.size+1)::(us++ds)) _ _ E (hr.make C us [])
  (I2.env0.make C us []) (hb _ (Value.ref (s.heap.objs.size+1)::us) I2.kIn hl) r2 hq) λr s' hq'=>?_))
 cases r with
 |error e=>exact hx pins σ _ _ e s' I2 hq'
 |ok fl=>
  cases fl with
  |ret u=>
   obtain⟨v,H',I3,rv,ev,q3⟩:=I2.after hq';subst ev;exact⟨rv,⟨V.ref (s.heap.objs.size+1),H',I3,rfl,q3⟩⟩
  |next=>exact False.elim hq'
  |brk=>exact False.elim hq'
  |cont=>exact False.elim hq'
def c2q(M:Mk X.K C f)(F:E3 X.prog X.w X.K X.mg X.base CX k f fd ps sp)(hr:Q1 (k+1) X.A)(hg:Gl X x)(hm:X.mg x=some (.ref C))(hb:a2R X.K fd ps ds)(hd:L8 dvs ds)(hx:b0y CX X E)
  (ha:PA X (e::es) t) (hdb:(x == ("__debug__" : Str))=false:=by decide) (he:u6 (e::es) X.env=(false,eval e X.env)::u6 es X.env:=by rfl) (hpl:(a0v pos (u6 es X.env)).any (·.1)=false:=by rfl) :
  PE X (.Call (.Name x p) (e::es) [] pos) (a2e C sp dvs E t):=.mk λpins s σ H Q I h=>by
 refine a0u (a6x I hg hm ?_ hdb);refine a1F (h₀:=X.base) I.ok.mod.kin M.kp (thn (ha pos pins s σ H _ I h) λus s1 ⟨vs,H1,I1,r,q⟩=>⟨I1.kIn,?_⟩) he hpl;exact c5g M F hr hb hd hx I1 r q
end
def PK(X:Cx)(kws:List c0s)(t:TA):Prop:=
 ∀(pos:Pos) (pins:List (Addr×Obj)) (s:j6) (σ:St) (H:Hp) (Q:List V->Hp->Prop),Inv X pins σ H s->t σ H Q->wpAny (model X.prog X.w) X.A (evalAll ((a5B pos (a1f kws X.env)).map (·.2))) (AP X pins σ Q) X.xe s
section
variable {k:Nat}{fd:Q5}{ks:List Str}{sp:Sp}{E:XK}{x m:Str}{apos kpos:Pos}{o:Expr}{kws:List c0s}{t tk:TA}{nm:Option Str}
def c9V:PK X [] i8:=λ_ _ _ _ H Q I h=>wpAny_evalAll_nil ⟨[],H,I,.nil,h⟩
def c7w(ha:PE X e te)(hr:PK X kws t):PK X (⟨nm,e,kpos⟩::kws) (a9 te t):=by
 intro pos pins s σ H Q I h;show wpAny _ _ (evalAll ((do let v <-eval e X.env;b3V pos;pure v)::(a5B pos (a1f kws X.env)).map (·.2))) _ _ s;refine wpAny_evalAll_cons (c5 (thn (ha pins s σ H _ I h) λu s1 ⟨x,H1,I1,r1,q1⟩=>c5 (a8p (p9 ?_))));exact thn (hr pos pins s1 σ H1 _ I1 q1) λus s2 ⟨xs,H2,I2,r2,q2⟩=>⟨x::xs,H2,I2,.cons r1 r2,q2⟩
structure d3k(K:Fg)(fd:Q5)(ps ks:List Str)(g:List Value->List Value->List Value)(gV:List V->List V->List V):Prop where
 to:∀(s:j6) (us ws:List Value),K.In s.heap->(g us ws).length=ps.length->b1O s fd ⟨us,ks.zip ws⟩ (ps.zip (g us ws))
 rel:∀ {vs:List V} {us:List Value} {zs:List V} {ws:List Value},L8 vs us->L8 zs ws->L8 (gV vs zs) (g us ws)
variable {g:List Value->List Value->List Value}{gV:List V->List V->List V}
end
structure v8(N P:List Str)(sc:Scope):Prop where
 kind:sc.kind=.function
 co:sc.isCoroutine=false
 gen:sc.isGenerator=false
 nd:N.Nodup
 pre:N.take P.length=P
 par:∀x∈P,sc.names.lookup x=some .local\/sc.names.lookup x=some .cell
 nofree:∀y∈sc.names,y.2≠.free
def b6L{kindOf:Str->Option a9z}{x:Str}:∀ {binds:List (Str×Value)} {m:Str->Option Value},(∀v,(x,v)∉binds)->bindL kindOf binds m x=m x
 |[],_,_=>rfl
 | (n,v)::r,m,h=>by
  unfold bindL;rw[b6L λw hw=>h w (K6 _ hw)];split
  .have:x≠n:=by rintro rfl;exact h v Q4
   simp[this]
  .rfl
def b6N{kindOf:Str->Option a9z}{x:Str}:∀ {binds:List (Str×Value)} {m:Str->Option Value},(∀v,(x,v)∉binds)->bindC kindOf binds m x=m x
 |[],_,_=>rfl
 | (n,v)::r,m,h=>by
  unfold bindC;rw[b6N λw hw=>h w (K6 _ hw)];split
  .rfl
  .have:x≠n:=by rintro rfl;exact h v Q4
   simp[this]
def b6M{kindOf:Str->Option a9z}{x:Str}{v:Value}:∀ {P:List Str} {vs:List Value} {i:Nat} {m:Str->Option Value},P.Nodup->P[i]?=some x->vs[i]?=some v->kindOf x=some .local ->
  bindL kindOf (P.zip vs) m x=some v
 |[],_,_,_,_,h,_,_=>by simp at h
 |_::_,[],_,_,_,_,h,_=>by simp at h
 |p::P,w::vs,0,m,nd,h1,h2,hk=>by
  simp at h1 h2;subst h1;subst h2;show bindL kindOf ((p,w)::P.zip vs) m p=_;unfold bindL;rw[b6L λv hv=>(a0X.mp nd).1 (b6Q hv).1,if_pos hk];simp
 |p::P,w::vs,i+1,m,nd,h1,h2,hk=>by
  show bindL kindOf ((p,w)::P.zip vs) m x=_;unfold bindL;exact b6M (i:=i) (a0X.mp nd).2 (by simpa using h1) (by simpa using h2) hk
def b6O{kindOf:Str->Option a9z}{x:Str}{v:Value}:∀ {P:List Str} {vs:List Value} {i:Nat} {m:Str->Option Value},P.Nodup->P[i]?=some x->vs[i]?=some v->kindOf x≠some .local ->
  bindC kindOf (P.zip vs) m x=some v
 |[],_,_,_,_,h,_,_=>by simp at h
 |_::_,[],_,_,_,_,h,_=>by simp at h
 |p::P,w::vs,0,m,nd,h1,h2,hk=>by
  simp at h1 h2;subst h1;subst h2;show bindC kindOf ((p,w)::P.zip vs) m p=_;unfold bindC;rw[b6N λv hv=>(a0X.mp nd).1 (b6Q hv).1,if_neg hk];simp
 |p::P,w::vs,i+1,m,nd,h1,h2,hk=>by
  show bindC kindOf ((p,w)::P.zip vs) m x=_;unfold bindC;exact b6O (i:=i) (a0X.mp nd).2 (by simpa using h1) (by simpa using h2) hk
def a7d(N:List Str)(vs:List V):St:=vs.map some++p8 (N.length - vs.length) none
def a7U(CX:CXT)(P:A4)(w:World)(K:Fg)(mg:Str->Option Value)(base:Heap)(N:List Str)(qual:Str)(scope:Scope)(f:Addr)(cd:Value)(A:R0)(outer:List Env)(s:j6)(H:Hp)(E:XK):Cx where
 prog:=P
 w:=w
 K:=K
 mg:=mg
 base:=base
 A:=A.deeper (a8e qual scope s.heap.objs.size f cd)
 N:=N
 s₀:=s
 H₀:=H
 env:=a8e qual scope s.heap.objs.size f cd
 outer:=outer
 stack:=a8e qual scope s.heap.objs.size f cd::outer
 ex:=[]
 calm:=true
 fn:=λ_=>true
 pn:=[]
 xe:=λe s'=>wpAny (model P w) (A.deeper (a8e qual scope s.heap.objs.size f cd)) (leaving (a8e qual scope s.heap.objs.size f cd) e) (λ_ s''=>CX outer H s E e s'') (λe' s''=>CX outer H s E e' s'') s'
def b9R{sc:Scope}{n:Nat}{x:Str}(h:sc.names.lookup x=some .cell):∃c,(cellsFrom n sc.names []).lookup x=some c:=by
 have q:=c0j sc.names n [] (.inl h);exact a7p.mp q
def c3O{P:A4}{K:Fg}{mg:Str->Option Value}{base:Heap}{N:List Str}{qual:Str}{scope:Scope}{cd:Value}{outer:List Env}{s1:j6}{E:XK}{vs:List V}
  (S:v8 N ps scope) (hd:A.handled=none) (e0:c0h P w K mg base A outer s H) (hl:vs.length=ps.length) (r:L8 vs us)
  (x:InCallC s s.heap.objs.size (bindL (a8e qual scope s.heap.objs.size f cd).kindOf (ps.zip us) λ_=>none) (cellsFrom (s.heap.objs.size+1) scope.names []) (bindC (a8e qual scope s.heap.objs.size f cd).kindOf (ps.zip us) λ_=>none) s1) :
  Inv (a7U CX P w K mg base N qual scope f cd A outer s H E) [] (a7d N vs) H s1:=by
 have hpl:ps.length<=N.length:=by have:=congrArg b6l S.pre;rw[F7]at this;omega
 obtain⟨h1,tk,rfl,hk⟩:=x.done;have noA:∀b:Addr,b∉(a7U CX P w K mg base N qual scope f cd A outer s H E).ex:=λb z=>absurd (show b∈([]:List Addr)from z) (by simp)
 refine⟨⟨e0.mod,S.kind,rfl,rfl,j8 _,λy z c h1 h2=>?_,λy hy=>?_,λy c _ h=>?_,λ_=>hd,Around.frames_deeper e0.frames,.inr ⟨rfl,rfl⟩,λb z=>absurd z (noA b),e0.bs,e0.bsz,λb _ _=>noA b,λb z=>absurd z (noA b),e0.funs,e0.frf⟩,
  rfl,e0.bare,Un.kept hk,⟨_,x.toInCall.ns,λi y v h1 h2 h3=>?_⟩,λy c h=>⟨_,x.cell y c h⟩,e0.hok.fresh (j8 _),λy c h=>?_,λp hp=>absurd (show p∈([]:List (Addr×Obj))from hp) (by simp),e0.hok.kept hk,?_⟩
 .exact name_of_addr x.apart (P4 h1) (P4 h2)
 .have hy:scope.names.lookup y=some .cell\/scope.names.lookup y=some .free:=hy;rcases hy with hy | hy
  .exact b9R hy
  .exact absurd rfl (S.nofree _ (P4 hy))
 .exact b5D (x.above y c (P4 h))
 .have hi:i<vs.length:=by
   unfold a7d at h2;by_cases hi:i<vs.length
   .exact hi
   .rw[J1 (by simpa using hi)]at h2;rw[N3]at h2;split at h2 <;> cases h2
  have ha:vs[i]?=some v:=by
   unfold a7d at h2;rw[o5 (by simpa using hi),b6]at h2;cases e:vs[i]? with
   |none=>rw[e]at h2;cases h2
   |some a=>rw[e]at h2;cases h2;rfl
  obtain⟨u,hu,rv⟩:=r.get ha
  have hp:ps[i]?=some y:=by
   rw[<-S.pre,c0p (by omega)];exact h1
  have ndP:ps.Nodup:=by rw[<-S.pre];exact S.nd.sublist (List.take_sublist _ _)
  refine⟨u,rv,?_⟩;rcases S.par y (a2U hp)with k | k
  .exact .inl ⟨k,b6M ndP hp hu k⟩
  .obtain⟨c,e⟩:=b9R (n:=s.heap.objs.size+1) k;refine .inr ⟨.inl k,c,e,?_⟩;have q:=x.cell y c e;rw[b6O ndP hp hu (by show scope.names.lookup y≠_;rw[k];decide)]at q;exact q
 .exact e0.hok.fresh (b5D (x.above y c (P4 h)))
 .unfold a7d;show _=N.length;rw[u5,b8,A8];omega
def c2y{P:A4}{K:Fg}{mg:Str->Option Value}{base:Heap}{k:Nat}{name qual:Str}{params:Arguments}{body:List Stmt}{scope:Scope}{dV kV doc pm cdv ct oc:Value}{an od:Option Addr}
  {osl:Array (Option Value)} {N ps:List Str} {sp:Sp} (lk:K.lookup f=some ⟨oc,od,.func (T8 name qual params body scope dV kV doc pm an cdv ct),osl⟩) (hcd:a4l K cdv qual=true) (S:v8 N ps scope)
  (len:∀vs H Q E,sp vs H Q E->vs.length=ps.length)
  (hbody:∀(A:R0) (outer:List Env) (s:j6) (H:Hp) (vs:List V) (Q:VK) (E:XK),Q1 k (A.deeper (a8e qual scope s.heap.objs.size f cdv))->sp vs H Q E ->
   ∃t,PSs (a7U CX P w K mg base N qual scope f cdv A outer s H E) body t/\t { nx:=λ_ H'=>Q .non H',rt:=Q } (a7d N vs) H) :
  E3 P w K mg base CX (k+1) f (T8 name qual params body scope dV kV doc pm an cdv ct) ps sp:=by
 refine⟨len,λA outer s H args us vs Q E hr e0 hb r hsp=>?_⟩;have hl:=len _ _ _ _ hsp;have KX:K.In s.heap:=e0.mod.kin.keeps λb o e=>(e0.bs b o e).1
 have lim:s.heap.NoLimit:=e0.mod.nolimit.keeps λb o e=>(e0.bs b o e).1
 have hkind:∀y∈ps.zip us,scope.names.lookup y.1=some .local\/(scope.names.lookup y.1=some .cell/\((cellsFrom (s.heap.objs.size+1) scope.names []).lookup y.1).isSome=true):=λ⟨n,v⟩ hy=>by
  rcases S.par n (b6Q hy).1 with q | q
  .exact .inl q
  .exact .inr ⟨q,c0j _ _ _ (.inl q)⟩
 refine codeAny_call_function hr.depth (KX _ _ lk) rfl S.co S.gen rfl (PySem.W.codeRec_of KX hcd) (hb _ _ _ _ ?_);refine wpAny_newFunctionEnv_cells S.kind hkind λenv he s1 x=>?_
 subst he;refine⟨lim.keeps x.toInCall.keep,codeAny_func ?_⟩;obtain⟨t,ht,hq⟩:=hbody A outer s H vs Q E (hr.deeper _) hsp;have I:Inv (a7U CX P w K mg base N qual scope f cdv A outer s H E) [] (a7d N vs) H s1:=c3O S hr.hd e0 hl r x;refine a2b (ht [] s1 (a7d N vs) H _ I hq) (λfl s' hs=>?_) λe s' hs=>hs
 have fin:∀ {σ':St} {H':Hp} {v:V} {u:Value},Inv (a7U CX P w K mg base N qual scope f cdv A outer s H E) [] σ' H' s'->K0 v u->Q v H'->CE outer P w H s Q u s':=
  fun {σ' H' v u} J rv q=>⟨v,H',J.os,J.bare,J.base,J.hok,rv,q⟩
 cases fl with
 |ret u=>
  obtain⟨v,σ',H',J,rv,q⟩:=hs;exact fin J rv q
 |next=>
  obtain⟨σ',H',J,q⟩:=hs;exact fin (v:=V.non) (u:=Value.none) J rfl q
 |brk=>
  obtain⟨_,_,_,q⟩:=hs;exact False.elim q
 |cont=>
  obtain⟨_,_,_,q⟩:=hs;exact False.elim q
section
variable {x:Str}{t:TA}{id T:String}{r:List V->Hp->VK->Prop}
def tCB(r:List V->Hp->VK->Prop)(t:TA):TE:=λσ H Q=>t σ H λvs H1=>r vs H1 Q
def u7(hc:W2 X (.builtin id) r)(hg:Gl X x)(hm:X.mg x=none)(hv:a6V x=some (.builtin id))(ha:PA X (e::es) t)(hn:x ≠ "__name__" := by decide)(hdb:(x == ("__debug__" : Str))=false:=by decide)
  (he:u6 (e::es) X.env=(false,eval e X.env)::u6 es X.env:=by rfl) (hpl:(a0v pos (u6 es X.env)).any (·.1)=false:=by rfl):PE X (.Call (.Name x p) (e::es) [] pos) (tCB r t):=.mk λpins s σ H Q I h=>by
 refine a0u (b2w I hg hm hv ?_ hn hdb);exact PyProof.Rows.callWith_builtin1 (thn (ha pos pins s σ H _ I h) λus s1 ⟨vs,H1,I1,r1,q1⟩=>hc pins s1 σ H1 vs us Q I1 r1 q1) he hpl
def O7(hc:W2 X (.type T) r)(hg:Gl X x)(hm:X.mg x=none)(hv:a6V x=some (.type T))(ha:PA X (e::es) t)(hn:x ≠ "__name__" := by decide)(hdb:(x == ("__debug__" : Str))=false:=by decide)
  (he:u6 (e::es) X.env=(false,eval e X.env)::u6 es X.env:=by rfl) (hpl:(a0v pos (u6 es X.env)).any (·.1)=false:=by rfl):PE X (.Call (.Name x p) (e::es) [] pos) (tCB r t):=.mk λpins s σ H Q I h=>by
 refine a0u (b2w I hg hm hv ?_ hn hdb);exact a1G (thn (ha pos pins s σ H _ I h) λus s1 ⟨vs,H1,I1,r1,q1⟩=>hc pins s1 σ H1 vs us Q I1 r1 q1) he hpl
end
section
variable {κ:Type}[DecidableEq κ]
def a7t(kvs:List (κ×V))(k:κ):Option V:=(kvs.find? λkv=>decide (kv.1=k)).map (·.2)
def a2F(kvs:List (κ×V))(k:κ)(v:V):List (κ×V):=
 if(kvs.any λkv=>decide (kv.1=k))=true then kvs.map (λkv=>if kv.1=k then (kv.1,v)else kv)else kvs++[(k,v)]
def b0H{p:κ×V}{r:List (κ×V)}{k:κ}(e:p.1=k):a7t (p::r) k=some p.2:=by simp[a7t,a0k,e]
def b0I{p:κ×V}{r:List (κ×V)}{k:κ}(e:¬p.1=k):a7t (p::r) k=a7t r k:=by simp[a7t,a0k,e]
def a5D(k:κ):∀kvs:List (κ×V),(kvs.any λkv=>decide (kv.1=k))=(a7t kvs k).isSome
 |[]=>rfl
 |p::r=>by
  rw[a3C];by_cases e:p.1=k
  .simp only[b0H e,d4E e,d2G,Option.isSome_some]
  .rw[b0I e,d4D e,b2P];exact a5D k r
def a8R(kvs:List (κ×V))(k:κ)(v:V):(a2F kvs k v).length<=kvs.length+1:=by
 unfold a2F;split
 .rw[b8];omega
 .rw[u5,D4,a4f];omega
def a7l.isSome_eq{o:Option V}{u:Option Value}(r:a7l o u):o.isSome=u.isSome:=by
 cases o with
 |none=>cases u with
  |none=>rfl
  |some _=>exact(show False from r).elim
 |some _=>cases u with
  |none=>exact(show False from r).elim
  |some _=>rfl
def KV.val{kvs:List (κ×V)}{vs:List (κ×Value)}(r:KV kvs vs)(k:κ):a7l (a7t kvs k) (c9u vs k):=by
 unfold KV at r;induction r with
 |nil=>exact True.intro
 |@cons p q ps qs h t ih=>
  obtain⟨h1,h2⟩:=h;by_cases e:p.1=k
  .have e':q.1=k:=h1.symm.trans e;have b:c9u (q::qs) k=some q.2:=by simp[c9u,a0k,e']
   rw[b0H e,b];exact h2
  .have e':¬q.1=k:=λz=>e (h1.trans z)
   have b:c9u (q::qs) k=c9u qs k:=by simp[c9u,a0k,e']
   rw[b0I e,b];exact ih
def KV.any{kvs:List (κ×V)}{vs:List (κ×Value)}(r:KV kvs vs)(k:κ):(kvs.any λkv=>decide (kv.1=k))=vs.any λkv=>decide (kv.1=k):=by
 unfold KV at r;induction r with
 |nil=>rfl
 |cons h t ih=>rw[a3C,a3C,ih,h.1]
def KV.repl{kvs:List (κ×V)}{vs:List (κ×Value)}(r:KV kvs vs)(k:κ)(ry:K0 y u) :
  KV (kvs.map λkv=>if kv.1=k then (kv.1,y)else kv) (vs.map λkv=>if kv.1=k then (kv.1,u)else kv):=by
 unfold KV at r ⊢;induction r with
 |nil=>exact .nil
 |@cons p q ps qs h t ih=>
  rw[J7,J7];refine .cons ?_ ih;obtain⟨h1,h2⟩:=h;by_cases e:p.1=k
  .rw[if_pos e,if_pos (h1.symm.trans e)];exact⟨h1,ry⟩
  .rw[if_neg e,if_neg (λz=>e (h1.trans z))];exact⟨h1,h2⟩
def KV.put{kvs:List (κ×V)}{vs:List (κ×Value)}(r:KV kvs vs)(k:κ)(ry:K0 y u):KV (a2F kvs k y) (c8G vs k u):=by
 unfold a2F c8G;rw[r.any k];by_cases e:(vs.any λkv=>decide (kv.1=k))=true
 .rw[if_pos e,if_pos e];exact r.repl k ry
 .rw[if_neg e,if_neg e];exact Paired.snoc r ⟨rfl,ry⟩
def KV.keys{kvs:List (κ×V)}{vs:List (κ×Value)}(r:KV kvs vs):kvs.map (·.1)=vs.map (·.1):=by
 unfold KV at r;induction r with
 |nil=>rfl
 |cons h t ih=>rw[J7,J7,ih,h.1]
def KV.length{kvs:List (κ×V)}{vs:List (κ×Value)}(r:KV kvs vs):kvs.length=vs.length:=Paired.length r
end
def b6I{P:A4}{k:Key}(r:K0 (kV k) u):(O6 P w).is k u=true:=by
 cases k with
 |inl i=>obtain⟨t,e⟩:=(show ∃t,u=Value.int i t from r);subst e;exact b9A P w i t
 |inr x=>obtain⟨t,e⟩:=(show ∃t,u=Value.str x t from r);subst e;exact b9z P w x t
def b2y{P:A4}:∀ {ks:List Key} {us:List Value},L8 (ks.map kV) us->ItemsAre (O6 P w) ks us
 |[],_,r=>by rw[b3S]at r;cases r;exact .nil
 |k::ks,_,r=>by
  rw[J7]at r;cases r with
  |cons h t=>exact .cons (b6I h) (b2y t)
abbrev KT(H:Hp):List (List Key×V)->List (List Key×Addr×Value)->Prop:=Paired λp q=>p.1=q.1/\H q.2.1=some (.tup (p.1.map kV))/\K0 p.2 q.2.2
def KT.val{kvs:List (List Key×V)}{xs:List (List Key×Addr×Value)}(r:KT H kvs xs)(k:List Key):a7l (a7t kvs k) ((atKey xs k).map (·.2)):=by
 induction r with
 |nil=>exact True.intro
 |@cons p q ps qs h t ih=>
  obtain⟨h1,_,h2⟩:=h;by_cases e:p.1=k
  .have e':q.1=k:=h1.symm.trans e;have b:atKey (q::qs) k=some q.2:=by simp[atKey,a0k,e']
   rw[b0H e,b];exact h2
  .have e':¬q.1=k:=λz=>e (h1.trans z)
   have b:atKey (q::qs) k=atKey qs k:=by simp[atKey,a0k,e']
   rw[b0I e,b];exact ih
def KT.repl{kvs:List (List Key×V)}{xs:List (List Key×Addr×Value)}(r:KT H kvs xs)(k:List Key)(ry:K0 y u) :
  KT H (kvs.map λkv=>if kv.1=k then (kv.1,y)else kv) (xs.map (putAt k u)):=by
 induction r with
 |nil=>exact .nil
 |@cons p q ps qs h t ih=>
  rw[J7,J7];refine .cons ?_ ih;obtain⟨h1,h2,h3⟩:=h;unfold putAt;by_cases e:p.1=k
  .rw[if_pos e,if_pos (h1.symm.trans e)];exact⟨h1,h2,ry⟩
  .rw[if_neg e,if_neg (λz=>e (h1.trans z))];exact⟨h1,h2,h3⟩
def KT.put{kvs:List (List Key×V)}{xs:List (List Key×Addr×Value)}(r:KT H kvs xs)(k:List Key){b:Addr}(hb:H b=some (.tup (k.map kV)))(ry:K0 y u) :
  KT H (a2F kvs k y) (storedH xs k b u):=by
 have e:(kvs.any λkv=>decide (kv.1=k))=(atKey xs k).isSome:=by
  rw[a5D,(r.val k).isSome_eq,a2s]
 unfold a2F storedH;rw[e];by_cases q:(atKey xs k).isSome=true
 .rw[if_pos q,if_pos q];exact r.repl k ry
 .rw[if_neg q,if_neg q];exact Paired.snoc r ⟨rfl,hb,ry⟩
def KT.keeps{kvs:List (List Key×V)}{xs:List (List Key×Addr×Value)}(r:KT H kvs xs)(ht:∀b ys,H b=some (.tup ys)->H' b=some (.tup ys)):KT H' kvs xs:=
 Paired.mapP r λ_ _ z=>⟨z.1,ht _ _ z.2.1,z.2.2⟩
section
variable {P:A4}
def c8R{u:HO}(ok:HOk P w H h)(e:Rd H a u):V5 P w H h a u:=e.ok ok
def c6n(ok:HOk P w H h)(e:Rd H a (.dK kvs)):kvs.length<=z9/\(a == a2c)=false/\∃vs,KV kvs vs/\h.DictOf (O6 P w) a vs:=
 show V5 P w H h a (.dK kvs)from c8R ok e
def c6o(ok:HOk P w H h)(e:H a=some (.dK kvs)):kvs.length<=z9/\(a == a2c)=false/\∃vs,KV kvs vs/\h.DictOf (O6 P w) a vs:=c6n ok (.inl e)
def b7P{ks:List Key}(ok:HOk P w H h)(e:H a=some (.tup (ks.map kV))):(a4O (O6 P w)).is h ks a:=by
 obtain⟨_,its,r,o,h1,h2,n,h3⟩:=(show V5 P w H h a (.tup (ks.map kV))from ok a _ e);exact⟨o,its.toArray,n,h1,h2,h3,by simpa using b2y r⟩
def c6l{kvs:List (List Key×V)}(ok:HOk P w H h)(e:Rd H a (.dT kvs)):kvs.length<=z9/\(a == a2c)=false /\
  ∃xs,KT H kvs xs/\h.DictOfH (a4O (O6 P w)) a xs:=by
 obtain⟨z,y,xs,r,o,es,ep,h1,h2,h3,h4,h5⟩:=(show V5 P w H h a (.dT kvs)from c8R ok e);refine⟨z,y,xs,r,o,es,ep,h1,h2,h3,h4,λx hx=>?_,h5⟩
 have all:∀ {l:List (List Key×V)} {m:List (List Key×Addr×Value)},KT H l m->∀x∈m,(a4O (O6 P w)).is h x.1 x.2.1:=by
  intro l m q;induction q with
  |nil=>intro x hx;exact nomatch hx
  |@cons p q ps qs hq t ih=>
   intro x hx;rcases t8.mp hx with e | hx
   .subst e;exact b7P ok (by rw[<-hq.1];exact hq.2.1)
   .exact ih x hx
 exact all r x hx
def d2e{kvs:List (List Key×V)}(ok:HOk P w H h)(e:H a=some (.dT kvs)):kvs.length<=z9/\(a == a2c)=false /\
  ∃xs,KT H kvs xs/\h.DictOfH (a4O (O6 P w)) a xs:=c6l ok (.inl e)
end
def b1I(H:Hp)(a:Addr)(y:V)(r:Option V):Prop:=
 (∃kvs k,Rd H a (.dK kvs)/\y=kV k/\r=a7t kvs k)\/∃kvs k b,Rd H a (.dT kvs)/\y=.ref b/\H b=some (.tup (k.map kV))/\r=a7t kvs k
def b6j(H:Hp)(a:Addr)(y v:V)(H':Hp):Prop:=
 (∃kvs k,H a=some (.dK kvs)/\y=kV k/\kvs.length<z9/\H'=upd H a (.dK (a2F kvs k v))) \/
 ∃kvs k b,H a=some (.dT kvs)/\y=.ref b/\H b=some (.tup (k.map kV))/\kvs.length<z9/\H'=upd H a (.dT (a2F kvs k v))
def b1I.k{k:Key}(e:H a=some (.dK kvs)):b1I H a (kV k) (a7t kvs k):=.inl ⟨kvs,k,.inl e,rfl,rfl⟩
def b6j.k{k:Key}(e:H a=some (.dK kvs))(hl:kvs.length<z9):b6j H a (kV k) v (upd H a (.dK (a2F kvs k v))):=.inl ⟨kvs,k,e,rfl,hl,rfl⟩
section
variable {r:Value}{o:Option V}
def Inv.big(I:Inv X pins σ H s):a2c<s.heap.objs.size:=by
 have h:w6<s.heap.objs.size:=(I.mod.glob.keeps I.bk).lt;exact Nat.lt_trans (by decide) h
def d3g(hu:A.units+1<cLine)(I:Inv X pins σ H s)(g:b1I H a y o)(ry:K0 y u)(h:∀s',Inv X pins σ H s'->Q (.bool o.isSome) s') :
  wpAny (model X.prog X.w) A (J4 .In u (.ref a)) Q E s:=by
 rcases g with ⟨kvs,k,e,ey,l⟩ | ⟨kvs,k,b,e,ey,eb,l⟩
 .subst ey;obtain⟨z,hd,vs,rel,dd⟩:=c6n I.hok e;refine wpAny_in_of (b6I ry) hd dd.mapOf ?_;rw[<-(rel.val k).isSome_eq,<-l];exact h _ (I.tok _)
 .subst ey;cases (show u=Value.ref b from ry);obtain⟨z,hd,xs,rel,dd⟩:=c6l I.hok e;refine wpAny_in_heap (a5w hu) (b7P I.hok eb) hd dd ?_;have q:=(rel.val k).isSome_eq;rw[a2s]at q;rw[<-q,<-l];exact h _ (I.tok _)
def c8j(hu:A.units+1<cLine)(I:Inv X pins σ H s)(g:b1I H a y o)(ry:K0 y u)(h:∀s',Inv X pins σ H s'->Q (.bool (!o.isSome)) s') :
  wpAny (model X.prog X.w) A (J4 .NotIn u (.ref a)) Q E s:=by
 rcases g with ⟨kvs,k,e,ey,l⟩ | ⟨kvs,k,b,e,ey,eb,l⟩
 .subst ey;obtain⟨z,hd,vs,rel,dd⟩:=c6n I.hok e;refine wpAny_notIn_of (b6I ry) hd dd.mapOf ?_;rw[<-(rel.val k).isSome_eq,<-l];exact h _ (I.tok _)
 .subst ey;cases (show u=Value.ref b from ry);obtain⟨z,hd,xs,rel,dd⟩:=c6l I.hok e;refine wpAny_notIn_heap (a5w hu) (b7P I.hok eb) hd dd ?_;have q:=(rel.val k).isSome_eq;rw[a2s]at q;rw[<-q,<-l];exact h _ (I.tok _)
def b7V{ob:HO}(I:Inv X pins σ H s)(mu:Mut (H a))(hs:Heap.SameBut a s.heap h')(he:∃q,h'.get? a=some q)(new:V5 X.prog X.w (upd H a ob) h' a ob) :
  Inv X pins σ (upd H a ob) { s with heap:=h',toks:=t' }:=
 I.write (x:=a) (e:=a) mu (.inl rfl) (λb q hb z=>(hs.2 b hb).trans z) he new
def b7U{P:A4}{vs:List (Key×Value)}(z:kvs.length<=z9)(hd:(a == a2c)=false)(rel:KV kvs vs)(dd:h'.DictOf (O6 P w) a vs) :
  V5 P w H' h' a (.dK kvs):=⟨z,hd,vs,rel,dd⟩
def c3U{Q:Unit->j6->Prop}(hu:A.units+1<cLine)(I:Inv X pins σ H s)(g:b6j H a y v H')(ry:K0 y u)(rv:K0 v r)(h:∀s',Inv X pins σ H' s'->Q () s') :
  wpAny (model X.prog X.w) A (setItem (.ref a) u r) Q E s:=by
 rcases g with ⟨kvs,k,e,ey,l,eH⟩ | ⟨kvs,k,b,e,ey,eb,l,eH⟩
 .subst ey eH;obtain⟨z,hd,vs,rel,dd⟩:=c6o I.hok e;have hz:vs.length<=z9:=by rw[<-rel.length];exact z
  have hl:(a2F kvs k v).length<=z9:=by have:=a8R kvs k v;omega
  refine wpAny_setItem_pairs (hsz:=hz) (b6I ry) dd λh' dd' hs=>h _ ?_
  have he:∃q,h'.get? a=some q:=let⟨q,_,_,hq,_⟩:=dd'; ⟨q,hq⟩
  exact b7V I (by rw[e];exact True.intro) hs he (b7U hl hd (rel.put k rv) dd')
 .subst ey eH;cases (show u=Value.ref b from ry);obtain⟨z,hd,xs,rel,dd⟩:=d2e I.hok e;have hz:xs.length<=z9:=by rw[<-Paired.length rel];exact z
  have hl:(a2F kvs k v).length<=z9:=by have:=a8R kvs k v;omega
  refine wpAny_setItem_heap (hsz:=hz) (a5w hu) (b7P I.hok eb) dd λh' dd' hs=>h _ ?_
  obtain⟨q,es,ep,hq,h2,h3,h4,_,h5⟩:=dd';refine b7V I (by rw[e];exact True.intro) hs ⟨q,hq⟩ ⟨hl,hd,_,(rel.put k eb rv).keeps λc ys ec=>?_,q,es,ep,hq,h2,h3,h4,h5⟩;rw[i9 (O9 ec e (λz=>nomatch z))];exact ec
end
section
variable {k:Key}
end
def b6Z(ty td:TE):TE:=λσ H Q=>ty σ H λy H1=>td σ H1 λx H2=>∃a o,x=.ref a/\b1I H2 a y o/\Q (.bl o.isSome) H2
def a0Z(ty td:TE):TE:=λσ H Q=>ty σ H λy H1=>td σ H1 λx H2=>∃a o,x=.ref a/\b1I H2 a y o/\Q (.bl (!o.isSome)) H2
def a3S(td ty tv:TE):TS:=λD σ H=>tv σ H λv H1=>td σ H1 λx H2=>ty σ H2 λy H3=>∃a H4,x=.ref a/\b6j H3 a y v H4/\D.nx σ H4
section
variable {o i value:Expr}{tpos:Pos}{td ty tv:TE}
def c5B(hu:X.A.units+1<cLine)(hi:PE X i ty)(ho:PE X o td):PC X .In i o (b6Z ty td):=by
 intro pins s σ H Q I h;refine thn (hi pins s σ H _ I h) λiv s1 ⟨y,H1,I1,ry,q1⟩=>thn (ho pins s1 σ H1 _ I1 q1) λu s2 ⟨x,H2,I2,rx,a,ov,ex,g,q2⟩=>?_
 subst ex;obtain rfl:u=Value.ref a:=rx;exact d3g hu I2 g ry λs3 I3=>⟨.bl ov.isSome,H2,I3,rfl,q2⟩
def b6z(hu:X.A.units+1<cLine)(hi:PE X i ty)(ho:PE X o td):PC X .NotIn i o (a0Z ty td):=by
 intro pins s σ H Q I h;refine thn (hi pins s σ H _ I h) λiv s1 ⟨y,H1,I1,ry,q1⟩=>thn (ho pins s1 σ H1 _ I1 q1) λu s2 ⟨x,H2,I2,rx,a,ov,ex,g,q2⟩=>?_
 subst ex;obtain rfl:u=Value.ref a:=rx;exact c8j hu I2 g ry λs3 I3=>⟨.bl (!ov.isSome),H2,I3,rfl,q2⟩
def c7t(hu:X.A.units+1<cLine)(ho:PE X o td)(hi:PE X i ty)(hv:PE X value tv)(hs:a6U value (some (.Subscript o i pos')) pos.line X.env=pure false:=by rfl) :
  PS X (.Assign [.Subscript o i pos'] value pos) (a3S td ty tv):=.mk λpins s σ H D I h=>by
 refine wpAny_Assign_Subscript (thn (hv pins s σ H _ I h) λr s1 ⟨v,H1,I1,rv,q1⟩=>thn (ho pins s1 σ H1 _ I1 q1) λu s2 ⟨x,H2,I2,rx,q2⟩=>thn (hi pins s2 σ H2 _ I2 q2) λiv s3 ⟨y,H3,I3,ry,a,H4,ex,g,q3⟩=>?_) hs;subst ex;obtain rfl:u=Value.ref a:=rx;exact c3U hu I3 g ry rv λs4 I4=>⟨σ,H4,I4,q3⟩
end
def b9O{P:A4}(h:Heap)(hb:a2c<h.objs.size):V5 P w H (h.push { cls:=.type "dict",data:=.dict #[] }) h.objs.size (.dK []):=
 ⟨W3 _,beq_eq_false_iff_ne.mpr (Ne.symm (A3 hb)),[],.nil,c2O h⟩
def a9R:TE:=λ_ H Q=>∀p,H p=none->Q (.ref p) (upd H p (.dK []))
section
def a8K:PE X (.Dict [] [] pos) a9R:=.mk λpins s σ H Q I h=>
 wpAny_Dict_empty ⟨.ref s.heap.objs.size,_,I.laid (a:=s.heap.objs.size) (o:=.dK []) (t':=s.toks) (λ_ _ q=>j7 _ q) (j8 _) (b9O s.heap I.big),rfl,h _ (I.hok.fresh (j8 _))⟩
end
def c0z:List (TE×TE)->St->Hp->(List (V×V)->Hp->Prop)->Prop
 |[],_,H,Q=>Q [] H
 | (tk,tv)::r,σ,H,Q=>tk σ H λx H1=>tv σ H1 λy H2=>c0z r σ H2 λps H3=>Q ((x,y)::ps) H3
abbrev VV:List (V×V)->List (Value×Value)->Prop:=Paired λp q=>K0 p.1 q.1/\K0 p.2 q.2
def d2o(X:Cx)(pos:Pos)(keys:List (Option Expr))(values:List Expr)(trs:List (TE×TE)):Prop:=
 ∀(pins:List (Addr×Obj)) (s:j6) (σ:St) (H:Hp) (Q:List (V×V)->Hp->Prop),Inv X pins σ H s->c0z trs σ H Q ->
  wpAny (model X.prog X.w) X.A (evalPairs (pairTrees keys values X.env pos)) (λvs s'=>∃ps H',Inv X pins σ H' s'/\VV ps vs/\Q ps H') X.xe s
structure PPs(X:Cx)(pos:Pos)(keys:List (Option Expr))(values:List Expr)(trs:List (TE×TE)):Prop where
 h:d2o X pos keys values trs
instance {X:Cx}{pos:Pos}{keys:List (Option Expr)}{values:List Expr}{trs:List (TE×TE)}:CoeFun (PPs X pos keys values trs) λ_=>d2o X pos keys values trs:=⟨PPs.h⟩
def b7z:PPs X pos [] [] []:=.mk λpins s σ H Q I h=>pairTrees_nil_walk ⟨[],H,I,.nil,h⟩
def b4y{k v:Expr}{ks:List (Option Expr)}{vs:List Expr}{tk tv:TE}{trs:List (TE×TE)}(hk:PE X k tk)(hv:PE X v tv)(hr:PPs X pos ks vs trs) :
  PPs X pos (some k::ks) (v::vs) ((tk,tv)::trs):=.mk λpins s σ H Q I h=>
 pairTrees_cons_walk (thn (hk pins s σ H _ I h) λu s1 ⟨x,H1,I1,rx,q1⟩=>thn (hv pins s1 σ H1 _ I1 q1) λw2 s2 ⟨y,H2,I2,ry,q2⟩=>
  thn (hr pins s2 σ H2 _ I2 q2) λws s3 ⟨ps,H3,I3,rel,q3⟩=>⟨(x,y)::ps,H3,I3,.cons ⟨rx,ry⟩ rel,q3⟩)
def a8O(kvs more:List (Key×V)):List (Key×V):=more.foldl (λacc kv=>a2F acc kv.1 kv.2) kvs
def KV.merge:∀ {more:List (Key×V)} {rs:List (Key×Value)} {kvs:List (Key×V)} {vs:List (Key×Value)},KV more rs->KV kvs vs->KV (a8O kvs more) (merged vs rs):=by
 intro more rs kvs vs r;unfold KV at r;induction r generalizing kvs vs with
 |nil=>intro q;exact q
 |@cons p q ps qs h t ih=>
  intro r0
  have e:KV (a2F kvs p.1 p.2) (c8G vs q.1 q.2):=by
   have:=r0.put p.1 h.2;rw[<-h.1];exact this
  exact ih e
def a9M:∀(more kvs:List (Key×V)),(a8O kvs more).length<=kvs.length+more.length
 |[],kvs=>by show kvs.length<=kvs.length+0;omega
 |p::r,kvs=>by
  have h1:=a9M r (a2F kvs p.1 p.2);have h2:=a8R kvs p.1 p.2;show(a8O (a2F kvs p.1 p.2) r).length<=_;rw[D4];omega
def b5r{P:A4}{w:World}:∀ {kvs:List (Key×V)} {ws:List (Value×Value)},VV (kvs.map λkv=>(kV kv.1,kv.2)) ws->∃rs,Carries (O6 P w) ws rs/\KV kvs rs
 |[],_,r=>by rw[b3S]at r;cases r;exact⟨[],True.intro,.nil⟩
 |p::kvs,_,r=>by
  rw[J7]at r;cases r with
  |@cons a b as bs h t=>
   obtain⟨rs,c,q⟩:=b5r (P:=P) (w:=w) t;obtain⟨b1,b2⟩:=b;exact⟨(p.1,b2)::rs,⟨b6I h.1,rfl,c⟩,.cons ⟨rfl,h.2⟩ q⟩
def b6s(trs:List (TE×TE)):TE:=λσ H Q=>∀p,H p=none->c0z trs σ (upd H p (.dK [])) λps H2=>H2 p=some (.dK [])/\∃kvs:List (Key×V),ps=kvs.map (λkv=>(kV kv.1,kv.2))/\kvs.length<=15/\Q (.ref p) (upd H2 p (.dK (a8O [] kvs)))
def b7D{keys:List (Option Expr)}{values:List Expr}{trs:List (TE×TE)}(h:PPs X pos keys values trs)(hall:keys.all (·.isSome)=true:=by rfl)(hl:keys.length=values.length:=by rfl)(h0:keys≠[]:=by intro z;cases z)
  (h15:keys.length<=15:=by decide):PE X (.Dict keys values pos) (b6s trs):=.mk λpins s σ H Q I q=>by
 have hn:=I.hok.fresh (j8 s.heap.objs.size);have I1:=I.laid (a:=s.heap.objs.size) (o:=.dK []) (h':=s.heap.push { cls:=.type "dict",data:=.dict #[] }) (t':=s.toks) (λ_ _ q=>j7 _ q) (j8 _) (b9O s.heap I.big);refine wpAny_Dict_walk (knd:=O6 X.prog X.w) hall hl h0 h15 (thn (h pins _ σ _ _ I1 (q _ hn)) λws s2 ⟨ps,H2,I2,rel,e,kvs,ep,lk,q2⟩=>?_);subst ep;obtain⟨rs,c,rk⟩:=b5r (P:=X.prog) (w:=X.w) rel;obtain⟨z,hd,vs0,r0,dd⟩:=c6o I2.hok e;cases r0;refine⟨rs,c,dd,λh' dd' hs=>⟨.ref s.heap.objs.size,_,?_,rfl,q2⟩⟩
 have hz:(a8O [] kvs).length<=z9:=by
  have h1:=a9M kvs [];rw[a4f]at h1;rw[sizeLine_eq];omega
 have he:∃q,h'.get? s.heap.objs.size=some q:=let⟨q,_,_,hq,_⟩:=dd'; ⟨q,hq⟩
 exact b7V I2 (by rw[e];exact True.intro) hs he (b7U hz hd (rk.merge .nil) dd')
structure M1(X:Cx)(o:Expr)(m:Str)(apos:Pos)(e:Expr)(cpos:Pos):Prop where
 base:a5C o m X.env (eval o X.env)=eval o X.env
 few:((a0v cpos (u6 [e] X.env)).all (λx => !x.1)&&(a5B cpos (a1f [] X.env)).all (λx=>x.1.isSome)
  && decide (([e]:List Expr).length+([]:List c0s).length+(if([]:List c0s).isEmpty then 0 else 1)<30))=true
 line:(apos.endLine == cpos.line)=true
 trees:a0v cpos (u6 [e] X.env)=[(false,eval e X.env)]
structure M2(X:Cx)(o:Expr)(m:Str)(apos:Pos)(e f:Expr)(cpos:Pos):Prop where
 base:a5C o m X.env (eval o X.env)=eval o X.env
 few:((a0v cpos (u6 [e,f] X.env)).all (λx => !x.1)&&(a5B cpos (a1f [] X.env)).all (λx=>x.1.isSome)
  && decide (([e,f]:List Expr).length+([]:List c0s).length+(if([]:List c0s).isEmpty then 0 else 1)<30))=true
 line:(apos.endLine == cpos.line)=true
 trees:a0v cpos (u6 [e,f] X.env)=[(false,eval e X.env),(false,eval f X.env)]
section
variable {d:V}{r:Value}{o:Option V}
end
section
variable {o f:Expr}{apos cpos:Pos}{td ty tx:TE}
end
section
end
section
end
end L2
namespace HT
open PySem PyProof.Rows
section
open PySem.SeqAt
open PySem.AutoSeq1 (wpAny_loadPart')
open PySem.MeetsSeq PySem.MeetsSeq2 PySem.MeetsSeq3
end
section
variable {prog:A4}{w:World}{A:R0}{E:Value->j6->Prop}{s:j6}
def sIx(n d:Nat):Option Int->Nat
 |none=>d
 |some v=>if v<0 then (v+(n:Int)).toNat else min v.toNat n
def b7o(n d k:Nat):sIx n d (some (k:Int))=min k n:=by
 show(if(k:Int)<0 then ((k:Int)+(n:Int)).toNat else min (k:Int).toNat n)=min k n;rw[if_neg (by omega),C9]
def c9M(n d:Nat)(hd:d<=n)(o:Option Int):sIx n d o<=n:=by
 cases o with
 |none=>exact hd
 |some v=>
  show(if v<0 then (v+(n:Int)).toNat else min v.toNat n)<=n;by_cases hv:v<0
  .rw[if_pos hv];omega
  .rw[if_neg hv];exact Nat.min_le_right _ _
def c2E(v:Int)(n d:Nat):(if v<0 then max (v+(n:Int)) 0 else min v (n:Int))=((sIx n d (some v):Nat):Int):=by
 show(if v<0 then max (v+(n:Int)) 0 else min v (n:Int))=(((if v<0 then (v+(n:Int)).toNat else min v.toNat n):Nat):Int);by_cases hv:v<0
 .simp only[if_pos hv];omega
 .simp only[if_neg hv];omega
def c1O(lo hi:Option Int)(n:Nat):Builtin.Slice.sliceAdjust lo hi 1 (n:Int)=(((sIx n 0 lo:Nat):Int),((sIx n n hi:Nat):Int)):=by
 have h1:¬((1:Int)<0):=by omega
 unfold Builtin.Slice.sliceAdjust;simp only[h1,if_false];refine Prod.ext ?_ ?_
 .cases lo with
  |none=>rfl
  |some v=>exact c2E v n 0
 .cases hi with
  |none=>rfl
  |some v=>exact c2E v n n
def c1b(i j:Nat):Builtin.Slice.slicePlaces (i:Int) (j:Int) 1=j - i:=by
 unfold Builtin.Slice.slicePlaces;have h1:(1:Int) > 0:=by omega
 simp only[h1,if_true,Int.ediv_one];split <;> omega
def b4j{v:Value}{o:Option Int}{Q:Option Int->j6->Prop}(p:c8I v o)(h:Q o s):wpAny (model prog w) A (Builtin.Slice.slicePartIndex v) Q E s:=by
 cases p with
 |none=>exact slicePart_none h
 |int i t=>exact slicePart_int h
def b1V{sl:Addr}{vl vu:Value}{lo hi:Option Int}{n:Nat}{Q:Int×Int×Nat->j6->Prop}(hs:s.heap.IsSliceOf sl vl vu .none)(pl:c8I vl lo)(pu:c8I vu hi)
  (h:Q (((sIx n 0 lo:Nat):Int),1,sIx n n hi - sIx n 0 lo) s):wpAny (model prog w) A (Builtin.Slice.sliceApplied (.ref sl) (pure (n:Int))) Q E s:=by
 obtain⟨os,hos,hcs,hds⟩:=id hs;unfold Builtin.Slice.sliceApplied Builtin.Slice.sliceFields;refine c5 (c5 (b1M hos hds (x:=vl) rfl (c5 (b1M hos hds (x:=vu) rfl (c5 (b1M hos hds (x:=.none) rfl (p9 ?_)))))));refine c5 (slicePart_none ?_);show wpAny _ _ (if((1:Int) == 0)=true then _ else _) _ _ s;rw[if_neg (by decide)];refine c5 (b4j pl (c5 (b4j pu (c5 (p9 ?_)))));show wpAny _ _ (match Builtin.Slice.sliceAdjust lo hi 1 (n:Int)with | (lo,hi)=>pure (lo,(1:Int),Builtin.Slice.slicePlaces lo hi 1)) _ _ s;rw[c1O lo hi n];show wpAny _ _ (pure (((sIx n 0 lo:Nat):Int),(1:Int),Builtin.Slice.slicePlaces ((sIx n 0 lo:Nat):Int) ((sIx n n hi:Nat):Int) 1)) _ _ s;rw[c1b];exact p9 h
def c5v(xs:Array Value)(i k:Nat):((A1 k).filterMap λ(m:Nat)=>xs[((i:Int)+(m:Int) * 1).toNat]?).toArray=((xs.toList.drop i).take k).toArray:=by
 have e:(λ(m:Nat)=>xs[((i:Int)+(m:Int) * 1).toNat]?)=λm=>xs[i+m]?:=by
  funext m;have:((i:Int)+(m:Int) * 1).toNat=i+m:=by omega
  rw[this]
 rw[e];have:=pick_run xs i k;rw[List.filterMap_map]at this;have e2:((λx=>xs[x]?) ∘ λx=>i+x)=λm=>xs[i+m]?:=rfl
 rw[e2]at this;rw[this]
def b1v{t sl:Addr}{items:Array Value}{vl vu:Value}{lo hi:Option Int}{Q:Value->j6->Prop}(ht:IsTup s.heap t items)(hs:s.heap.IsSliceOf sl vl vu .none)(pl:c8I vl lo)(pu:c8I vu hi)
  (hw:¬(sIx items.size 0 lo=0/\sIx items.size items.size hi=items.size))
  (h:Q (.ref s.heap.objs.size) { s with heap:=s.heap.push { cls:=.type "tuple",data:=.seq ((items.toList.drop (sIx items.size 0 lo)).take (sIx items.size items.size hi - sIx items.size 0 lo)).toArray } })
  (hsz:items.size<=z9):wpAny (model prog w) A (c9v (.ref t) (.ref sl)) Q E s:=by
 have htake:sizeOk (.seq ((items.toList.drop (sIx items.size 0 lo)).take (sIx items.size items.size hi - sIx items.size 0 lo)).toArray):=by
  show((items.toList.drop (sIx items.size 0 lo)).take (sIx items.size items.size hi - sIx items.size 0 lo)).toArray.size<=z9;rw[u4,F7,b5K,a6f];omega
 have hj:sIx items.size items.size hi<=items.size:=c9M _ _ (j8 _) hi;obtain⟨os,hos,hcs,hds⟩:=id hs;have hTs:s.TypeIs (.ref sl) "slice" := ⟨os,hos,hcs⟩;unfold c9v
 try with_reducible refine X2 ?_
 first | refine c5 (p9 ?_) | skip
 refine c5 (wpAny_sequenceKey ht.typeIs (by decide) ?_)
 refine c5 (b1N (name:=Str.ofString "__getitem__") ht.typeIs a3B
  (b2Q a3B ht.typeIs entry_tuple_getitem ?_ (args_tuple_getitem _ _)))
 show wpAny _ _ (Builtin.Tuple.tupleItemsOf (.ref t) >>= _) _ _ s;refine c5 (tupleItemsOf_ ht ?_);refine c5 (d1l hTs ?_);rw[if_pos (by decide)];refine c5 (b1V hs pl pu ?_)
 have hno:¬((((sIx items.size 0 lo:Nat):Int) == 0&&(1:Int) == 1&&(sIx items.size items.size hi - sIx items.size 0 lo) == items.size)=true):=by
  intro q;rw[a0w,a0w]at q;have q1:((sIx items.size 0 lo:Nat):Int)=0:=eq_of_beq q.1.1;have q2:sIx items.size items.size hi - sIx items.size 0 lo=items.size:=eq_of_beq q.2;exact hw ⟨by omega,by omega⟩
 show wpAny _ _ (if(((sIx items.size 0 lo:Nat):Int) == 0&&(1:Int) == 1&&(sIx items.size items.size hi - sIx items.size 0 lo) == items.size)=true then _ else _) _ _ s;rw[if_neg hno,c5v]
 first
  | exact c5 (m:=Builtin.Tuple.tupleExact _) (Z6 (p9 ⟨_,rfl,p9 h⟩) htake)
  | exact c5 (m:=Builtin.Tuple.tupleExact _) (Z6 (c5 (p9 (p9 ⟨_,rfl,p9 h⟩))) htake)
  | exact c5 (c5 (m:=Builtin.Tuple.tupleExact _) (Z6 (p9 (p9 ⟨_,rfl,p9 h⟩)) htake))
  | exact c5 (c5 (m:=Builtin.Tuple.tupleExact _) (Z6 (p9 ⟨_,rfl,p9 h⟩) htake))
end
end HT
namespace L2
open PySem PySem.Spec PyProof.Rows
variable{X:Cx}{n:Nat}{pins:List (Addr×Obj)}{σ:St}{H:Hp}{s:j6}{xs:List V}{us:List Value}
abbrev TO:=St->Hp->(Option Int->Hp->Prop)->Prop
def POq(X:Cx)(e:Option Expr)(t:TO):Prop:=
 ∀(pins:List (Addr×Obj)) (s:j6) (σ:St) (H:Hp) (Q:Option Int->Hp->Prop),Inv X pins σ H s->t σ H Q ->
  wpAny (model X.prog X.w) X.A (evalPart e X.env) (λu s'=>∃o H',Inv X pins σ H' s'/\c8I u o/\Q o H') X.xe s
structure PO(X:Cx)(e:Option Expr)(t:TO):Prop where
 h:POq X e t
instance {X:Cx}{e:Option Expr}{t:TO}:CoeFun (PO X e t) λ_=>POq X e t:=⟨PO.h⟩
def a5m:TO:=λ_ H Q=>Q none H
def b0R(t:TE):TO:=λσ H Q=>t σ H λx H1=>∃i,x=.int i/\Q (some i) H1
section
variable {e:Expr}{te:TE}{lo hi:Option Expr}{tl th:TO}{pos p2:Pos}
def b1i:PO X none a5m:=.mk λpins s σ H Q I h=>by
 rw[evalPart_none];exact p9 ⟨none,H,I,.none,h⟩
def b1h(h:PE X e te):PO X (some e) (b0R te):=.mk λpins s σ H Q I hw=>by
 rw[evalPart_some];refine thn (h pins s σ H _ I hw) λu s1 ⟨x,H1,I1,r1,q1⟩=>?_
 obtain⟨i,rfl,q⟩:=q1;obtain⟨t,rfl⟩:=r1;exact⟨some i,H1,I1,.int i t,q⟩
def d2k(X:Cx)(r:V->Option Int->Option Int->Hp->VK->Prop):Prop:=
 ∀(pins:List (Addr×Obj)) (s:j6) (σ:St) (H:Hp) (x:V) (v vl vu:Value) (lo hi:Option Int) (sl:Addr) (Q:VK),Inv X pins σ H s->K0 x v->s.heap.IsSliceOf sl vl vu .none->c8I vl lo->c8I vu hi->r x lo hi H Q ->
  ∃T id,c8F (.type T) "__getitem__"=pure (some (.builtin id))/\s.TypeIs v T/\wpAny (model X.prog X.w) X.A (c9v v (.ref sl)) (EP X pins σ Q) X.xe s
structure SlR(X:Cx)(r:V->Option Int->Option Int->Hp->VK->Prop):Prop where
 h:d2k X r
instance {X:Cx}{r:V->Option Int->Option Int->Hp->VK->Prop}:CoeFun (SlR X r) λ_=>d2k X r:=⟨SlR.h⟩
def SlR.or{r r':V->Option Int->Option Int->Hp->VK->Prop}(h:SlR X r)(h':SlR X r'):SlR X (λx lo hi H Q=>r x lo hi H Q\/r' x lo hi H Q):=.mk λpins s σ H x v vl vu lo hi sl Q I rx hs pl pu q=>by
 rcases q with q | q
 .exact h pins s σ H x v vl vu lo hi sl Q I rx hs pl pu q
 .exact h' pins s σ H x v vl vu lo hi sl Q I rx hs pl pu q
def tSl(r:V->Option Int->Option Int->Hp->VK->Prop)(te:TE)(tl th:TO):TE:=λσ H Q=>te σ H λx H1=>tl σ H1 λl H2=>th σ H2 λu H3=>r x l u H3 Q
def a8I{r:V->Option Int->Option Int->Hp->VK->Prop}(hr:SlR X r)(he:PE X e te)(hl:PO X lo tl)(hu:PO X hi th):PE X (.Subscript e (.Slice lo hi none p2) pos) (tSl r te tl th):=.mk λpins s σ H Q I h=>by
 refine Subscript_ (thn (he pins s σ H _ I h) λv s1 ⟨x,H1,I1,r1,q1⟩=>?_);refine wpAny_Slice (thn (hl pins s1 σ H1 _ I1 q1) λvl s2 ⟨l,H2,I2,pl,q2⟩=>thn (hu pins s2 σ H2 _ I2 q2) λvu s3 ⟨u,H3,I3,pu,q3⟩=>?_);rw[evalPart_none];refine p9 ?_;have I4:Inv X pins σ H3 { s3 with heap:=s3.heap.push { cls:=.type "slice",data:=.fields #[vl,vu,.none] } }:=I3.kept (t':=s3.toks) λb ob q=>j7 _ q
 obtain⟨T,id,hT,ht,hg⟩:=hr pins { s3 with heap:=s3.heap.push { cls:=.type "slice",data:=.fields #[vl,vu,.none] } } σ H3 x v vl vu l u s3.heap.objs.size Q I4 r1 (Heap.IsSliceOf.new ..) pl pu q3;show wpAny (model X.prog X.w) X.A (subscriptTail e (.Slice lo hi none p2) v (.ref s3.heap.objs.size)) (EP X pins σ Q) X.xe { s3 with heap:=s3.heap.push { cls:=.type "slice",data:=.fields #[vl,vu,.none] } };exact tail_any (ops:=[.ref s3.heap.objs.size,v]) ht hT hg (by with_unfolding_all rfl)
def a8U(xs:List V)(lo hi:Option Int):List V:=(xs.drop (HT.sIx xs.length 0 lo)).take (HT.sIx xs.length xs.length hi - HT.sIx xs.length 0 lo)
def b3f(xs:List V)(lo hi:Option Int):(a8U xs lo hi).length<=xs.length:=by
 unfold a8U;rw[F7,b5K];omega
def d2N(K:Fg):V->Option Int->Option Int->Hp->VK->Prop:=λx lo hi H Q=>∃a xs,x=.ref a/\SqT K H a xs /\
 ¬(HT.sIx xs.length 0 lo=0/\HT.sIx xs.length xs.length hi=xs.length)/\∀p,H p=none->Q (.ref p) (upd H p (.tup (a8U xs lo hi)))
def c9z:SlR X (d2N X.K):=.mk λpins s σ H x v vl vu lo hi sl Q I rx hs pl pu h=>by
 obtain⟨a,xs,rfl,hx,hw,q⟩:=h;cases rx;obtain⟨its,r,ht,hz⟩:=I.tuple hx;have hlen:its.toArray.size=xs.length:=by rw[u4];exact r.length.symm
 refine⟨"tuple",_,a3B.lookup,ht.typeIs,?_⟩;refine HT.b1v ht hs pl pu (by rw[hlen];exact hw) ?_ (by rw[hlen];exact hz);rw[hlen];refine⟨.ref s.heap.objs.size,_,I.laid (t':=s.toks) (o:=.tup (a8U xs lo hi)) (λb ob q=>j7 _ q) (j8 _) ?_,rfl,q _ (I.hok.fresh (j8 _))⟩;exact⟨G5 (b3f xs lo hi) hz,_,(r.drop (HT.sIx xs.length 0 lo)).take (HT.sIx xs.length xs.length hi - HT.sIx xs.length 0 lo),IsTup.new _ _⟩
end
def ixN(n:Nat)(i:Int):Option Nat:=if 0<=i then (if i<n then some i.toNat else none)else if -(n:Int)<=i then some (i+n).toNat else none
def atI{α:Type}(xs:List α)(i:Int):Option α:=(ixN xs.length i).bind λj=>xs[j]?
def c2v{i:Int}{j:Nat}(h:ixN n i=some j):seqIndex? i n=some j/\j<n /\ -(n:Int)<=i/\i<n:=by
 unfold ixN at h;by_cases h0:0<=i
 .rw[if_pos h0]at h;by_cases h1:i<n
  .rw[if_pos h1]at h;have e:i.toNat=j:=Option.some.inj h;exact⟨by rw[d2J h0 h1,e],by omega,by omega,h1⟩
  .rw[if_neg h1]at h;cases h
 .rw[if_neg h0]at h;by_cases h1 : -(n:Int)<=i
  .rw[if_pos h1]at h;have e:(i+n).toNat=j:=Option.some.inj h;exact⟨by rw[d1q (by omega) h1,e],by omega,h1,by omega⟩
  .rw[if_neg h1]at h;cases h
def b8h{α:Type}{xs:List α}{i:Int}{v:α}(h:atI xs i=some v):∃j,seqIndex? i xs.length=some j/\xs[j]?=some v/\j<xs.length /\ -(xs.length:Int)<=i/\i<xs.length:=by
 unfold atI at h;cases e:ixN xs.length i with
 |none=>rw[e]at h;cases h
 |some j=>
  rw[e]at h;obtain⟨h1,h2,h3,h4⟩:=c2v e;exact⟨j,h1,h,h2,h3,h4⟩
def a1e{α:Type}{xs:List α}{j:Nat}{v:α}(h:xs[j]?=some v):atI xs (j:Int)=some v:=by
 have hj:j<xs.length:=(u0.mp h).1
 have e:ixN xs.length (j:Int)=some j:=by
  unfold ixN;rw[if_pos (by omega),if_pos (by omega)];simp
 unfold atI;rw[e];exact h
def c2L(b:Expr):Prop:=∀o i,subscripted b false o i=operate [o,i] (c9v o i)
def d2t(X:Cx)(r:R2):Prop:=
 ∀(value slice:Expr) (pins:List (Addr×Obj)) (s:j6) (σ:St) (H:Hp) (x y:V) (v u:Value) (Q:VK),Inv X pins σ H s->K0 x v->K0 y u->r x y H Q ->
  subscripted slice false v u=operate [v,u] (c9v v u)->wpAny (model X.prog X.w) X.A (subscriptTail value slice v u) (EP X pins σ Q) X.xe s
structure IxR(X:Cx)(r:R2):Prop where
 h:d2t X r
instance {X:Cx}{r:R2}:CoeFun (IxR X r) λ_=>d2t X r:=⟨IxR.h⟩
def d2s(X:Cx)(id:String)(r:V->List V->Hp->VK->Prop):Prop:=
 ∀(pins:List (Addr×Obj)) (s:j6) (σ:St) (H:Hp) (x:V) (xs:List V) (v:Value) (us:List Value) (Q:VK),Inv X pins σ H s->K0 x v->L8 xs us->r x xs H Q ->
  wpAny (model X.prog X.w) X.A (call (.builtin id) (v::us)) (EP X pins σ Q) X.xe s
structure MtR(X:Cx)(id:String)(r:V->List V->Hp->VK->Prop):Prop where
 h:d2s X id r
instance {X:Cx}{id:String}{r:V->List V->Hp->VK->Prop}:CoeFun (MtR X id r) λ_=>d2s X id r:=⟨MtR.h⟩
section
variable {a b:Expr}{ta tb:TE}{pos:Pos}
def IxR.or{r r':R2}(h:IxR X r)(h':IxR X r'):IxR X (λx y H Q=>r x y H Q\/r' x y H Q):=.mk λvalue slice pins s σ H x y v u Q I rx ry q hs=>by
 rcases q with q | q
 .exact h value slice pins s σ H x y v u Q I rx ry q hs
 .exact h' value slice pins s σ H x y v u Q I rx ry q hs
def c9b{r:R2}(hr:IxR X r)(ha:PE X a ta)(hb:PE X b tb)(hs:c2L b):PE X (.Subscript a b pos) (tOp r ta tb):=.mk λpins s σ H Q I h=>by
 exact Subscript_ (d0R ha hb I h λv u s2 x y H2 I2 rx ry q=>hr a b pins s2 σ H2 x y v u Q I2 rx ry q (hs _ _))
def d1F(K:Fg):R2:=λx y H Q=>∃p xs i v,x=.ref p/\y=.int i/\SqL K H p xs/\atI xs i=some v/\Q v H
def d1D(K:Fg):R2:=λx y H Q=>∃p xs i v,x=.ref p/\y=.int i/\SqT K H p xs/\atI xs i=some v/\Q v H
def d1E:R2:=λx y H Q=>∃z i c,x=.str z/\y=.int i/\z.length<=z9/\atI z.cps.toList i=some c/\Q (.str ⟨#[c]⟩) H
def c7Z:IxR X (d1F X.K):=.mk λvalue slice pins s σ H x y v u Q I rx ry h hs=>by
 obtain⟨p,xs,i,z,rfl,rfl,hq,he,q⟩:=h;cases rx;obtain⟨t,rfl⟩:=ry;obtain⟨its,r,pl,hz⟩:=I.list hq;obtain⟨j,h1,h2,h3,h4,h5⟩:=b8h he;obtain⟨w,ew,rw'⟩:=r.get h2;have hl:=r.length;have hn:=b0u;have fin:EP X pins σ Q w s:=⟨z,H,I,rw',q⟩;by_cases h0:0<=i
 .have hj:i.toNat=j:=by
   rw[d2J h0 h5]at h1;exact Option.some.inj h1
  exact item_listR pl.isList h0 (by omega) (by rw[hj];simpa using ew) fin hs
 .have hj:(i+(its.toArray.size:Int)).toNat=j:=by
   rw[d1q (by omega) h4]at h1;rw[u4,<-hl];exact Option.some.inj h1
  exact d1h (x:=w) pl.isList.typeIs slot_list_getitem.lookup
   (wpAny_getItem_list_neg (Q:=λr s'=>r=w/\EP X pins σ Q r s') pl.isList (by omega) (by rw[u4] <;> omega) (by omega) (by rw[hj];simpa using ew) ⟨rfl,fin⟩) hs
def d0H:IxR X (d1D X.K):=.mk λvalue slice pins s σ H x y v u Q I rx ry h hs=>by
 obtain⟨p,xs,i,z,rfl,rfl,hq,he,q⟩:=h;cases rx;obtain⟨t,rfl⟩:=ry;obtain⟨its,r,pl,hz⟩:=I.tuple hq;obtain⟨j,h1,h2,h3,h4,h5⟩:=b8h he;obtain⟨w,ew,rw'⟩:=r.get h2;have hl:=r.length;have hn:=b0u;have fin:EP X pins σ Q w s:=⟨z,H,I,rw',q⟩
 exact d1h (x:=w) pl.typeIs slot_tuple_getitem.lookup
  (getItem_tuple (j:=j) (Q:=λr s'=>r=w/\EP X pins σ Q r s') pl (by omega) (by omega) (by rw[u4,<-hl];exact h1) (by simpa using ew) ⟨rfl,fin⟩) hs
def d0I:IxR X d1E:=.mk λvalue slice pins s σ H x y v u Q I rx ry h hs=>by
 obtain⟨z,i,c,rfl,rfl,hz,he,q⟩:=h;obtain⟨t,rfl⟩:=rx;obtain⟨t',rfl⟩:=ry;obtain⟨j,h1,h2,h3,h4,h5⟩:=b8h he;have hl:z.cps.toList.length=z.length:=by simp[Str.length]
 rw[hl]at h1 h4 h5;have hn:=b0u
 exact tail_any (typeIs_str s z t) slot_str_getitem.lookup (getItem_str (c:=c) (by
  have e1:decide (i < -(2 ^ 63:Int))=false:=d4D (by omega);have e2:decide (i ≥ 2 ^ 63)=false:=d4D (by omega);rw[e1,e2,Bool.or_false]) (by rw[h1];simpa using h2) ⟨.str ⟨#[c]⟩,H,I.tok _,⟨_,rfl⟩,q⟩) hs
def rIx(K:Fg):R2:=λx y H Q=>d1F K x y H Q\/d1D K x y H Q\/d1E x y H Q
def c5Y:IxR X (rIx X.K):=c7Z.or (d0H.or d0I)
def c1s(its:List Value)(n j:Nat)(u:Value):Obj.mapSeq (·.setIfInBounds j u) { cls:=.type "list",data:=.seq its.toArray n }={ cls:=.type "list",data:=.seq (its.set j u).toArray n }:=by
 simp[Obj.mapSeq]
def Inv.lst{pins:List (Addr×Obj)}{σ:St}{H:Hp}{s:j6}{p:Addr}{xs:List V}(I:Inv X pins σ H s)(h:H p=some (.lst xs)) :
  ∃(its:List Value) (n:Nat),L8 xs its/\s.heap.get? p=some { cls:=.type "list",data:=.seq its.toArray n }/\xs.length<=z9:=by
 obtain⟨z,its,n,r,e⟩:=I.hok p _ h;exact⟨its,n,r,e,z⟩
def Inv.lstUpd{p:Addr}{ys:List V}{its its':List Value}{n':Nat}{f:Obj->Obj}(I:Inv X pins σ H s)(h:H p=some (.lst xs))
  (ho:s.heap.get? p=some { cls:=.type "list",data:=.seq its.toArray n }) (hf:f { cls:=.type "list",data:=.seq its.toArray n }={ cls:=.type "list",data:=.seq its'.toArray n' }) (r:L8 ys its') (hz:ys.length<=z9) (t:Nat) :
  Inv X pins σ (upd H p (.lst ys)) { s with heap:=s.heap.update p f,toks:=t }:=by
 have e:(s.heap.update p f).get? p=some { cls:=.type "list",data:=.seq its'.toArray n' }:=by
  rw[a0I f ho (by rw[hf] <;> rfl),hf]
 refine I.write (x:=p) (e:=p) (by rw[h];trivial) (.inl rfl) (λb u hb q=>(a0t _ _ (Ne.symm hb)).trans q) ⟨_,e⟩ ?_;exact⟨hz,its',n',r,e⟩
def d1C:V->V->V->Hp->(Hp->Prop)->Prop:=λo i v H Q=>∃p xs k j,o=.ref p/\i=.int k/\H p=some (.lst xs)/\ixN xs.length k=some j/\Q (upd H p (.lst (xs.set j v)))
def c4V:c4g X d1C:=.mk λpins s σ H o i v ov iv u Q I ro ri rv h=>by
 obtain⟨p,xs,k,j,rfl,rfl,hp,hj,q⟩:=h;cases ro;obtain⟨t,rfl⟩:=ri;obtain⟨its,n,r,ho,hz⟩:=I.lst hp;obtain⟨h1,h2,h3,h4⟩:=c2v hj;have hl:=r.length;have hn:=b0u
 have I':Inv X pins σ (upd H p (.lst (xs.set j v))) { s with heap:=s.heap.update p (Obj.mapSeq (·.setIfInBounds j u)) }:=
  I.lstUpd hp ho (c1s its n j u) (r.set rv j) (by rw[a0Y];exact hz) s.toks
 by_cases h0:0<=k
 .have hk:k.toNat=j:=by
   rw[d2J h0 h4]at h1;exact Option.some.inj h1
  exact PySem.W.ki_setAt ho h0 (by omega) (by rw[u4,<-hl];exact h4) (by rw[hk];exact⟨_,I',q⟩)
 .have hk:(k+(its.toArray.size:Int)).toNat=j:=by
   rw[d1q (by omega) h3]at h1;rw[u4,<-hl];exact Option.some.inj h1
  exact PySem.W.ki_setBack ho (by omega) (by rw[u4,<-hl];exact h3) (by omega) (by rw[hk];exact⟨_,I',q⟩)
def b7g(lo hi:Option Int)(n:Nat):(a8w lo hi none n).1=((HT.sIx n 0 lo:Nat):Int)/\(a8w lo hi none n).2.1=((HT.sIx n n hi:Nat):Int)/\(a8w lo hi none n).2.2=1:=by
 refine⟨?_,?_,rfl⟩
 .cases lo with
  |none=>simp[a8w,HT.sIx]
  |some i=>
   simp only[a8w,HT.sIx,c6N,show(1:Int) > 0 by decide,if_true];by_cases h:i<0
   .simp only[h,if_true] <;> omega
   .simp only[h,if_false] <;> omega
 .cases hi with
  |none=>simp[a8w,HT.sIx]
  |some i=>
   simp only[a8w,HT.sIx,c6N,show(1:Int) > 0 by decide,if_true];by_cases h:i<0
   .simp only[h,if_true] <;> omega
   .simp only[h,if_false] <;> omega
def b5P(its:List Value)(lo hi:Option Int):slicePick its.toArray lo hi none=((its.drop (HT.sIx its.length 0 lo)).take (HT.sIx its.length its.length hi - HT.sIx its.length 0 lo)).toArray:=by
 obtain⟨h1,h2,h3⟩:=b7g lo hi its.toArray.size;unfold slicePick;rw[h1,h2,h3];simp only[sliceRange_one,pick_run,u4] <;> rfl
def d1B(K:Fg):V->Option Int->Option Int->Hp->VK->Prop:=λx lo hi H Q=>∃a xs,x=.ref a/\SqL K H a xs/\∀p,H p=none->Q (.ref p) (upd H p (.lst (a8U xs lo hi)))
def c2f:SlR X (d1B X.K):=.mk λpins s σ H x v vl vu lo hi sl Q I rx hs pl pu h=>by
 obtain⟨a,xs,rfl,hx,q⟩:=h;cases rx;obtain⟨its,r,ht,hz⟩:=I.list hx;have hlen:=r.length;refine⟨"list",_,slot_list_getitem.lookup,ht.isList.typeIs,?_⟩;refine wpAny_getItem_list_slice ht.isList hs pl pu .none (by simp) ?_ (by rw[u4] <;> omega);rw[b5P,<-hlen];refine⟨.ref s.heap.objs.size,_,I.laid (t':=s.toks) (o:=.lst (a8U xs lo hi)) (λb ob q=>j7 _ q) (j8 _) ?_,rfl,q _ (I.hok.fresh (j8 _))⟩;exact⟨G5 (b3f xs lo hi) hz,_,0,(r.drop (HT.sIx xs.length 0 lo)).take (HT.sIx xs.length xs.length hi - HT.sIx xs.length 0 lo),C7 _ rfl⟩
def T1:V->Bool
 |.non=>true
 |.bl _=>true
 |.int _=>true
 |.str _=>true
 |_=>false
def eqV:V->V->Bool
 |.non,.non=>true
 |.bl a,.bl b=>a == b
 |.bl a,.int b=>(if a then 1 else 0) == b
 |.int a,.bl b=>a == (if b then 1 else 0)
 |.int a,.int b=>a == b
 |.str a,.str b=>a == b
 |_,_=>false
def c1I{A:R0}{y x:V}{u v:Value}(ry:K0 y u)(rx:K0 x v)(fy:T1 y=true)(fx:T1 x=true):SeqAt.EqAt A s u v (eqV y x):=by
 cases y with
 |non=>
  cases ry;cases x with
  |non=>cases rx;exact SeqAt.EqAt.same _
  |bl b=>cases rx;exact SeqAt.EqAt.none_bool b
  |int b=>obtain⟨t,rfl⟩:=rx;exact SeqAt.EqAt.none_int b t
  |str b=>obtain⟨t,rfl⟩:=rx;exact SeqAt.EqAt.none_str b t
  |_=>exact absurd (show false=true from fx) z6
 |bl a=>
  cases ry;cases x with
  |non=>cases rx;exact SeqAt.EqAt.bool_none a
  |bl b=>cases rx;exact SeqAt.EqAt.bool_bool a b
  |int b=>obtain⟨t,rfl⟩:=rx;exact SeqAt.EqAt.bool_int a b t
  |str b=>obtain⟨t,rfl⟩:=rx;exact SeqAt.EqAt.bool_str a b t
  |_=>exact absurd (show false=true from fx) z6
 |int a=>
  obtain⟨t',rfl⟩:=ry;cases x with
  |non=>cases rx;exact SeqAt.EqAt.int_none a t'
  |bl b=>cases rx;exact SeqAt.EqAt.int_bool a t' b
  |int b=>obtain⟨t,rfl⟩:=rx;exact SeqAt.EqAt.int_int a t' b t
  |str b=>obtain⟨t,rfl⟩:=rx;exact SeqAt.EqAt.int_str a t' b t
  |_=>exact absurd (show false=true from fx) z6
 |str a=>
  obtain⟨t',rfl⟩:=ry;cases x with
  |non=>cases rx;exact SeqAt.EqAt.str_none a t'
  |bl b=>cases rx;exact SeqAt.EqAt.str_bool a t' b
  |int b=>obtain⟨t,rfl⟩:=rx;exact SeqAt.EqAt.str_int a t' b t
  |str b=>obtain⟨t,rfl⟩:=rx;exact SeqAt.EqAt.str_str a t' b t
  |_=>exact absurd (show false=true from fx) z6
 |_=>exact absurd (show false=true from fy) z6
def eqU(x:V)(u:Value):Bool:=match u with
 |.none=>eqV .non x
 |.bool b=>eqV (.bl b) x
 |.int i _=>eqV (.int i) x
 |.str z _=>eqV (.str z) x
 |_=>false
def c6i{x y:V}{u:Value}(r:K0 y u)(f:T1 y=true):eqU x u=eqV y x:=by
 cases y with
 |non=>cases r;rfl
 |bl b=>cases r;rfl
 |int i=>obtain⟨t,rfl⟩:=r;rfl
 |str z=>obtain⟨t,rfl⟩:=r;rfl
 |_=>exact absurd (show false=true from f) z6
def b8j{x:V}:∀ {xs:List V} {us:List Value},L8 xs us->xs.all T1=true->us.any (eqU x)=xs.any λy=>eqV y x
 |_,_,.nil,_=>rfl
 |y::xs,u::us,.cons r t,f=>by
  rw[a1r,a0w]at f;rw[a3C,a3C,c6i r f.1,b8j t f.2]
def b4W{A:R0}{x:V}{v:Value}(rx:K0 x v)(fx:T1 x=true):∀ {xs:List V} {us:List Value},L8 xs us->xs.all T1=true->∀u∈us,SeqAt.EqAt A s u v (eqU x u)
 |_,_,.nil,_=>λu hu=>by cases hu
 |y::xs,u::us,.cons r t,f=>λu' hu=>by
  rw[a1r,a0w]at f;rcases t8.mp hu with rfl | hu
  .rw[c6i r f.1];exact c1I r rx f.1 fx
  .exact b4W rx fx t f.2 u' hu
def inV(x:V)(xs:List V):Bool:=xs.any λy=>eqV y x
def rIn(K:Fg)(neg:Bool):R2:=λx y H Q=>∃p xs,y=.ref p/\(SqL K H p xs\/SqT K H p xs)/\T1 x=true/\xs.all T1=true/\Q (.bl (if neg then !inV x xs else inV x xs)) H
def b6C:OpR X (J4 .In) (rIn X.K false):=.mk λpins s σ H x y v u Q I rx ry h=>by
 obtain⟨p,xs,rfl,hq,fx,fs,q⟩:=h;cases ry;rcases hq with hq | hq
 .obtain⟨its,r,pl,hz⟩:=I.list hq;refine SeqAt.in_listAt (eqU x) pl.isList (λw hw=>b4W rx fx r fs w (by simpa using hw)) ⟨.bl _,H,I,rfl,?_⟩;rw[show its.toArray.any (eqU x)=its.any (eqU x) by simp,b8j r fs];exact q
 .obtain⟨its,r,pl,hz⟩:=I.tuple hq;refine SeqAt.in_tupleAt (eqU x) pl (λw hw=>b4W rx fx r fs w (by simpa using hw)) ⟨.bl _,H,I,rfl,?_⟩;rw[show its.toArray.any (eqU x)=its.any (eqU x) by simp,b8j r fs];exact q
def b8c:W2 X (.builtin "len") (λxs H Q=>∃p ys,xs=[.ref p]/\(SqL X.K H p ys\/SqT X.K H p ys)/\Q (.int ys.length) H):=.mk λpins s σ H xs us Q I r h=>by
 obtain⟨p,ys,rfl,hq,q⟩:=h;obtain⟨u,rfl,rx⟩:=a6W r;cases rx;have hn:=b0u;rcases hq with hq | hq
 .obtain⟨its,r',pl,hz⟩:=I.list hq;have hlen:=r'.length;exact Calls.call_len_list pl.isList (by simp only[u4] <;> omega) ⟨.int ys.length,H,I.tok _,⟨s.toks+1,by rw[u4,hlen]⟩,q⟩
 .obtain⟨its,r',pl,hz⟩:=I.tuple hq;have hlen:=r'.length;exact len_tuple pl (by simp only[u4] <;> omega) ⟨.int ys.length,H,I.tok _,⟨s.toks+1,by rw[u4,hlen]⟩,q⟩
def b8b:W2 X (.builtin "len") (λxs H Q=>∃z,xs=[.str z]/\z.length<=z9/\Q (.int z.length) H):=.mk λpins s σ H xs us Q I r h=>by
 obtain⟨z,rfl,hz,q⟩:=h;obtain⟨u,rfl,t,rfl⟩:=a6W r;have hn:=b0u;exact len_str (by omega) ⟨.int z.length,H,I.tok _,⟨_,rfl⟩,q⟩
def W2.or{f:Value}{r r':List V->Hp->VK->Prop}(h:W2 X f r)(h':W2 X f r'):W2 X f (λxs H Q=>r xs H Q\/r' xs H Q):=.mk λpins s σ H xs us Q I rs q=>by
 rcases q with q | q
 .exact h pins s σ H xs us Q I rs q
 .exact h' pins s σ H xs us Q I rs q
def b8a:W2 X (.type "list") (λxs H Q=>∃p ys,xs=[.ref p]/\(SqL X.K H p ys\/SqT X.K H p ys)/\∀l,H l=none->Q (.ref l) (upd H l (.lst ys))):=.mk λpins s σ H xs us Q I r h=>by
 obtain⟨p,ys,rfl,hq,q⟩:=h;obtain⟨u,rfl,rx⟩:=a6W r;cases rx
 have fin:∀(its:List Value),L8 ys its->ys.length<=z9->∀(h':Heap) (c':Nat),(∀b o',s.heap.get? b=some o'->h'.get? b=some o') ->
   h'.get? s.heap.objs.size=some { cls:=.type "list",dict:=none,data:=.seq its.toArray c',slots := #[] }->EP X pins σ Q (.ref s.heap.objs.size) { s with heap:=h' }:=λits r' hz h' c' kp e=>
  ⟨.ref s.heap.objs.size,_,I.laid (t':=s.toks) kp (j8 _) (show V5 X.prog X.w _ h' _ (.lst ys)from⟨hz,its,c',r',e⟩),rfl,q _ (I.hok.fresh (j8 _))⟩
 rcases hq with hq | hq
 .obtain⟨its,r',pl,hz⟩:=I.list hq;have hlen:=r'.length;obtain⟨o,ho,hc,n,hd⟩:=pl.isList;exact call_list_seq p (.inl rfl) ho hc hd (λh' c' kp e=>fin its r' hz h' c' kp e) (by simp only[u4] <;> omega)
 .obtain⟨its,r',pl,hz⟩:=I.tuple hq;have hlen:=r'.length;obtain⟨o,ho,hc,n,hd⟩:=pl;exact call_list_seq p (.inr rfl) ho hc hd (λh' c' kp e=>fin its r' hz h' c' kp e) (by simp only[u4] <;> omega)
def tyV(K:Fg)(T:String)(x:V)(H:Hp):Prop:=match x with
 |.str _=>T = "str"
 |.int _=>T = "int"
 |.ref p=>(T = "list" /\ ∃xs,SqL K H p xs)\/(T = "tuple" /\ ∃o,K.lookup p=some o/\o.cls=.type "tuple" /\ o.dict=none) \/
   (T = "dict" /\ ((∃kvs,H p=some (.dK kvs))\/∃kvs,H p=some (.dT kvs)))\/(T = "set" /\ ∃S n,H p=some (.set S n))
 |_=>False
def c4F{T:String}{x:V}{v:Value}(I:Inv X pins σ H s)(r:K0 x v)(ty:tyV X.K T x H) :
  s.TypeIs v T/\∀a,v=.ref a->∃ob,s.heap.get? a=some ob/\ob.dict=none:=by
 cases x with
 |str z=>
  obtain⟨t,rfl⟩:=r;cases (show T = "str" from ty);exact⟨typeIs_str s z t,λ_ e=>nomatch e⟩
 |int i=>
  obtain⟨t,rfl⟩:=r;cases (show T = "int" from ty);exact⟨typeIs_int s i t,λ_ e=>nomatch e⟩
 |ref p=>
  cases r;rcases ty with ⟨rfl,xs,hq⟩ | ⟨rfl,o,hk,hc,hd⟩ | ⟨rfl,hk⟩ | ⟨rfl,S,n,hk⟩
  .obtain⟨its,_,pl,_⟩:=I.list hq;refine⟨pl.isList.typeIs,λa e=>?_⟩;cases e;obtain⟨o,n,e,c,hd,_⟩:=pl;exact⟨o,e,hd⟩
  .refine⟨⟨o,I.kIn p o hk,hc⟩,λa e=>?_⟩;cases e;exact⟨o,I.kIn _ o hk,hd⟩
  .have z:∃o,s.heap.get? p=some o/\o.ExactDict:=by
    rcases hk with ⟨kvs,hk⟩ | ⟨kvs,hk⟩
    .obtain⟨_,_,_,_,o,_,_,e,ex,_⟩:=I.hok p _ hk;exact⟨o,e,ex⟩
    .obtain⟨_,_,_,_,o,_,_,e,ex,_⟩:=I.hok p _ hk;exact⟨o,e,ex⟩
   obtain⟨o,e,ex⟩:=z;refine⟨⟨o,e,ex.1⟩,λa e2=>?_⟩;cases e2;exact⟨o,e,ex.2.1⟩
  .obtain⟨o,_,_,_,e,ex,_⟩:=I.hok p _ hk;refine⟨⟨o,e,ex.1⟩,λa e2=>?_⟩;cases e2;exact⟨o,e,ex.2.1⟩
 |_=>exact False.elim ty
def c9y(K:Fg)(T:String)(r:V->List V->Hp->VK->Prop)(to:TE):TE:=λσ H Q=>to σ H λx H1=>tyV K T x H1/\r x [] H1 Q
def tBM(K:Fg)(T:String)(r:V->List V->Hp->VK->Prop)(to:TE)(t:TA):TE:=λσ H Q=>to σ H λx H1=>tyV K T x H1/\t σ H1 λxs H2=>r x xs H2 Q
variable {o e:Expr}{es:List Expr}{to:TE}{t:TA}{name:Str}{apos cpos:Pos}{T id:String}{r:V->List V->Hp->VK->Prop}
def d0c(pa:PlainAttrs T)(slot:Slot T name id)(hty:typeOf (.builtin id)=pure (.type "method_descriptor"))(hm:MtR X id r)(ho:PE X o to)
  (hbase:a5C o name X.env (eval o X.env)=eval o X.env:=by rfl) (hline:(apos.endLine == cpos.line)=true:=by rfl):PE X (.Call (.Attribute o name apos) [] [] cpos) (c9y X.K T r to):=.mk λpins s σ H Q I h=>by
 refine wpAny_Call_method0_late hbase hline (thn (ho pins s σ H _ I h) λv s1 ⟨x,H1,I1,r1,ty,q1⟩=>?_);obtain⟨h1,h2⟩:=c4F I1 r1 ty;exact⟨T,id,pa,slot,hty,h1,h2,Calls.callWith_builtin rfl (PySem.evalArgs_none (hm pins s1 σ H1 x [] v [] Q I1 r1 .nil q1))⟩
def a5j(pa:PlainAttrs T)(slot:Slot T name id)(hty:typeOf (.builtin id)=pure (.type "method_descriptor"))(hm:MtR X id r)(ho:PE X o to)(ha:PA X (e::es) t)
  (hbase:a5C o name X.env (eval o X.env)=eval o X.env:=by rfl)
  (hfew:((a0v cpos (u6 (e::es) X.env)).all (λx => !x.1)&&(a5B cpos (a1f [] X.env)).all (λx=>x.1.isSome)
   && decide ((e::es).length+([]:List c0s).length+(if([]:List c0s).isEmpty then 0 else 1)<30))=true:=by rfl)
  (hline:(apos.endLine == cpos.line)=true:=by rfl) (hs:u6 (e::es) X.env=(false,eval e X.env)::u6 es X.env:=by rfl) (hplain:(a0v cpos (u6 es X.env)).any (·.1)=false:=by rfl) :
  PE X (.Call (.Attribute o name apos) (e::es) [] cpos) (tBM X.K T r to t):=.mk λpins s σ H Q I h=>by
 refine wpAny_Call_method_late hbase hfew hline rfl (thn (ho pins s σ H _ I h) λv s1 ⟨x,H1,I1,r1,ty,q1⟩=>?_);obtain⟨h1,h2⟩:=c4F I1 r1 ty;refine⟨T,id,pa,slot,hty,h1,h2,?_⟩;have hA:=ha cpos pins s1 σ H1 _ I1 q1;rw[hs]at hA ⊢;refine Calls.callWith_builtin (by show(false||(a0v cpos (u6 es X.env)).any (·.1))=false;rw[hplain] <;> rfl) (Calls.evalArgs_plain ?_);exact thn hA λus s2 ⟨vs,H2,I2,r2,q2⟩=>hm pins s2 σ H2 x vs v us Q I2 r1 r2 q2
end
def MtM(X:Cx)(id:String)(r:V->List V->Hp->VK->Prop):Prop:=
 ∀(pins:List (Addr×Obj)) (s:j6) (σ:St) (H:Hp) (x:V) (xs:List V) (v:Value) (us:List Value) (Q:VK),Inv X pins σ H s->K0 x v->L8 xs us->r x xs H Q ->
  wpAny (model X.prog X.w) X.A (call (.builtin id) (v::us)) (EP X pins σ Q) X.xe s
def L8.one:∀ {x:V} {us:List Value},L8 [x] us->∃u,us=[u]/\K0 x u
 |_,_,.cons r .nil=>⟨_,rfl,r⟩
def L8.zero:∀ {us:List Value},L8 [] us->us=[]
 |_,.nil=>rfl
def L8.dropLast(h:L8 xs us):L8 xs.dropLast us.dropLast:=by
 induction h with
 |nil=>exact .nil
 |cons r t ih=>
  cases t with
  |nil=>exact .nil
  |cons q t'=>exact .cons r ih
def L8.rep(h:L8 xs us):∀k:Nat,L8 (p8 k xs).flatten (p8 k us).flatten
 |0=>.nil
 |k+1=>by
  rw[a0l,a0l,a4M,a4M];exact L8.append h (L8.rep h k)
def c1H{α:Type}(l:List α):l.eraseIdx (l.length - 1)=l.dropLast:=by
 induction l with
 |nil=>rfl
 |cons a r ih=>
  cases r with
  |nil=>rfl
  |cons b r=>
   have e:(a::b::r).length - 1=((b::r).length - 1)+1:=by
    have h1:(a::b::r).length=r.length+2:=rfl;have h2:(b::r).length=r.length+1:=rfl;omega
   rw[e,List.eraseIdx_cons_succ,ih];all_goals rfl
def b6K(its:List Value):∀(k:Nat) (acc:List Value),
  c6Q (λx1 x2=>x1++x2) acc.toArray (p8 k its.toArray)=(acc++(p8 k its).flatten).toArray
 |0,acc=>by simp
 |k+1,acc=>by
  have e:acc.toArray++its.toArray=(acc++its).toArray:=by simp
  have e2:(acc++its)++(p8 k its).flatten=acc++(p8 (k+1) its).flatten:=by
   rw[a0l,a4M,a2O]
  rw[<-e2,<-b6K its k (acc++its),<-e,a0l,a0j]
section
variable {l b:Addr}{ys zs:List V}
def Inv.lset{its its':List Value}{f:Array Value->Array Value}{t':Nat}(I:Inv X pins σ H s)(hH:H l=some (.lst xs))
  (e:s.heap.get? l=some { cls:=.type "list",data:=.seq its.toArray n }) (hf:f its.toArray=its'.toArray) (hv:L8 ys its') (hz:ys.length<=z9) :
  Inv X pins σ (upd H l (.lst ys)) { s with heap:=s.heap.update l (Obj.mapSeq f),toks:=t' }:=by
 have q:=PySem.IsL.update e f;rw[hf]at q;refine I.write (x:=l) (e:=l) (by rw[hH];exact trivial) (.inl rfl) (λb' u hb hu=>(a0t s.heap (Obj.mapSeq f) (Ne.symm hb)).trans hu) ⟨_,q⟩ ?_;exact⟨hz,its',_,hv,q⟩
def Inv.lnew{its:List Value}{t':Nat}(I:Inv X pins σ H s)(hv:L8 ys its)(hz:ys.length<=z9) :
  Inv X pins σ (upd H s.heap.objs.size (.lst ys)) { s with heap:=s.heap.push { cls:=.type "list",data:=.seq its.toArray },toks:=t' }:=
 I.laid (λ_ _ q=>j7 _ q) (j8 _) ⟨hz,its,0,hv,C7 _ rfl⟩
def Inv.fresh(I:Inv X pins σ H s):H s.heap.objs.size=none:=I.hok.fresh (j8 _)
def Inv.lstM(I:Inv X pins σ H s)(hH:H l=some (.lst xs)):xs.length<=z9/\∃(its:List Value) (n:Nat),L8 xs its/\xs.length=its.length/\s.heap.get? l=some { cls:=.type "list",data:=.seq its.toArray n }:=by
 obtain⟨z,its,n,r,e⟩:=I.hok l _ hH;exact⟨z,its,n,r,r.length,e⟩
def b9w(h:n<=z9):Builtin.List.listTooLong n=false:=by
 unfold Builtin.List.listTooLong;exact d4D (by omega)
end
section
def c7o:V->List V->Hp->VK->Prop:=λx vs H Q=>∃l xs y,x=.ref l/\vs=[y]/\H l=some (.lst xs)/\xs.length<z9/\Q .non (upd H l (.lst (xs++[y])))
def b6D:MtM X "list.append" c7o:=by
 intro pins s σ H x vs v us Q I rx rv h;obtain⟨l,xs,y,rfl,rfl,hH,hz,q⟩:=h;cases rx;obtain⟨u,rfl,ru⟩:=rv.one;obtain⟨z,its,n,r,hl,e⟩:=I.lstM hH;refine b5G F.slot_list_append ⟨_,e,rfl⟩ F.entry_list_append (F.args_list_append_2 _ _) (PySem.list_append l its.toArray n u (by rw[u4];omega)) ⟨e,?_⟩
 refine⟨.non,_,I.lset (its':=its++[u]) hH e (by simp) (r.append (.cons ru .nil)) ?_,rfl,q⟩;rw[u5,X0];omega
def c7n:V->List V->Hp->VK->Prop:=λx vs H Q=>∃l b xs zs,x=.ref l/\vs=[.ref b]/\H l=some (.lst xs)/\H b=some (.lst zs)/\xs.length+zs.length<=z9/\Q .non (upd H l (.lst (xs++zs)))
def c3D:MtM X "list.extend" c7n:=by
 intro pins s σ H x vs v us Q I rx rv h;obtain⟨l,b,xs,zs,rfl,rfl,hH,hB,hz,q⟩:=h;cases rx;obtain⟨u,rfl,ru⟩:=rv.one;cases ru;obtain⟨z,its,n,r,hl,e⟩:=I.lstM hH;obtain⟨z2,its2,n2,r2,hl2,e2⟩:=I.lstM hB;have hsz:its.toArray.size+its2.toArray.size<=z9:=by rw[u4,u4];omega
 have hlong:¬(!its.toArray.isEmpty&&Builtin.List.listTooLong (its.toArray.size+its2.toArray.size))=true:=by
  rw[b9w hsz,b8w];exact z6
 refine b5G F.slot_list_extend ⟨_,e,rfl⟩ F.entry_list_extend (F.args_list_extend_2 _ _)
  (AutoSeq1.list_extend_list_list_0 l its.toArray n b its2.toArray n2 hlong (by rw[u4];omega) (by omega)) ⟨e,e2,?_⟩
 refine⟨.non,_,I.lset (its':=its++its2) hH e (by simp) (r.append r2) ?_,rfl,q⟩;rw[u5];omega
def d2O:V->List V->Hp->VK->Prop:=λx vs H Q=>∃l xs y,x=.ref l/\vs=[]/\H l=some (.lst xs)/\xs[xs.length - 1]?=some y/\Q y (upd H l (.lst xs.dropLast))
def d0u:MtM X "list.pop" d2O:=by
 intro pins s σ H x vs v us Q I rx rv h;obtain⟨l,xs,y,rfl,rfl,hH,hy,q⟩:=h;cases rx;have hus:=rv.zero;subst hus;obtain⟨z,its,n,r,hl,e⟩:=I.lstM hH;obtain⟨u,hu,ru⟩:=r.get hy
 have hy':its.toArray[its.toArray.size - 1]?=some u:=by
  show its.toArray[its.length - 1]?=some u;rw[<-a0D,<-hl];exact hu
 refine b5G F.slot_list_pop ⟨_,e,rfl⟩ F.entry_list_pop (F.args_list_pop_1 _) (MeetsSeq.list_pop_last l its.toArray n u hy' (by rw[u4];omega)) ⟨e,?_⟩
 refine⟨y,_,I.lset (its':=its.dropLast) hH e ?_ r.dropLast ?_,ru,q⟩
 .show its.toArray.eraseIdxIfInBounds (its.toArray.size - 1)=its.dropLast.toArray;rw[u4,List.eraseIdxIfInBounds_toArray,c1H]
 .rw[List.length_dropLast];omega
def d2P:R2:=λx y H Q=>∃l b xs zs,x=.ref l/\y=.ref b/\H l=some (.lst xs)/\H b=some (.lst zs)/\xs.length+zs.length<=z9/\∀p,H p=none->Q (.ref p) (upd H p (.lst (xs++zs)))
def d0m:OpR X (a5A .Add) d2P:=.mk λpins s σ H x y v u Q I rx ry h=>by
 obtain⟨l,b,xs,zs,rfl,rfl,hH,hB,hz,q⟩:=h;cases rx;cases ry;obtain⟨z,its,n,r,hl,e⟩:=I.lstM hH;obtain⟨z2,its2,n2,r2,hl2,e2⟩:=I.lstM hB;refine PySem.P.add_list e e2 ?_ (by rw[u4,u4];omega);have ea:its.toArray++its2.toArray=(its++its2).toArray:=by simp
 rw[ea];exact⟨.ref _,_,I.lnew (t':=s.toks) (r.append r2) (by rw[u5];omega),rfl,q _ I.fresh⟩
def c7m:R2:=λx y H Q=>∃l k xs,x=.ref l/\y=.int k/\H l=some (.lst xs) /\ -(2 ^ 63)<=k/\k<2 ^ 63/\xs.length * k.toNat<=z9 /\
 ∀p,H p=none->Q (.ref p) (upd H p (.lst (p8 k.toNat xs).flatten))
def c7U{α:Type}(xs:List α)(k:Nat):(p8 k xs).flatten.length=k * xs.length:=by
 induction k with
 |zero=>simp
 |succ k ih=>rw[a0l,a4M,u5,ih,c4i,Nat.add_comm]
def c5H:OpR X (a5A .Mult) c7m:=.mk λpins s σ H x y v u Q I rx ry h=>by
 obtain⟨l,k,xs,rfl,rfl,hH,h1,h2,hz,q⟩:=h;cases rx;obtain⟨t,rfl⟩:=ry;obtain⟨z,its,n,r,hl,e⟩:=I.lstM hH;have hlen:its.toArray.size * k.toNat<=z9:=by rw[u4,<-hl];exact hz
 have hcap:¬its.toArray.size * k.toNat > (2 ^ 63 - 1) / 8:=by
  have:(z9:Nat)<=(2 ^ 63 - 1) / 8:=by decide
  omega
 have hfit:¬(!Builtin.List.listFitsIndex k)=true:=by
  rw[fitsIndex_both h1 h2];exact z6
 have hlong:¬Builtin.List.listTooLong (its.toArray.size * k.toNat)=true:=by
  rw[b9w hlen];exact z6
 have hnew:c6Q (λx1 x2=>x1++x2) #[] (p8 (if its.toArray.isEmpty=true then 0 else k.toNat) its.toArray)=(p8 k.toNat its).flatten.toArray:=by
  have f0:∀m:Nat,c6Q (λx1 x2=>x1++x2) #[] (p8 m its.toArray)=(p8 m its).flatten.toArray:=λm=>by
   have:=b6K its m [];rw[List.nil_append]at this;exact this
  rw[f0];cases its with
  |nil=>simp
  |cons a r'=>rw[if_neg (by simp)]
 refine wpAny_binaryOp_repeat_ref (T := "list") (U := "int") (by decide) ⟨_,e,rfl⟩ (λs'=>typeIs_int s' k t) noFill_list_mul F.fills_int_mul F.slot_int_rmul repeat_list F.slot_int_index.lookup
  (b5G F.slot_int_rmul (typeIs_int s k t) F.entry_int_rmul (F.args_int_rmul_2 _ _) (int___rmul___int_list k t l its.toArray n)
   ⟨e,rfl,⟨_,e,rfl⟩,b5G F.slot_list_mul ⟨_,e,rfl⟩ F.entry_list_mul (F.args_list_mul_2 _ _) (AutoListH.list___mul___list_int_3 l its.toArray n k t hfit hcap hlong) ⟨e,?_⟩⟩)
 rw[hnew];exact⟨.ref _,_,I.lnew (t':=s.toks) (r.rep k.toNat) (by rw[c7U,Nat.mul_comm];exact hz),rfl,q _ I.fresh⟩
end
section
variable {prog:A4}{w:World}{A:R0}{E:Value->j6->Prop}
set_option maxRecDepth 100000 in
end
section
end
end L2
namespace Att
open PySem PySem.W PySem.Calls PyProof.Rows
def b3v{P:Params}{h:Heap}:∀(ns:List Int) (vs:List Value),WellAll P h vs (ns.map WData.int)->c9w vs ns:=by
 intro ns;induction ns with
 |nil=>
  intro vs w;rw[b3S]at w;cases w;exact .nil
 |cons n ns ih=>
  intro vs w;rw[J7]at w;cases w with
  |cons a b=>
   cases a;exact .cons _ _ (ih _ b)
def c3d{l:OpenLaw}{n:Nat}(hn:l.most=some n){P:Params}{h:Heap}{args:List WData}{vals:List Value}
  (hpre:l.row.toRowW.claim.pre args=true) (hwl:WellAll P h vals args) :
  ∃a vs ns,vals=[Value.ref a]/\args=[WData.list (ns.map WData.int)]/\h.get? a=some { cls:=.type "list",data:=.seq vs.toArray }/\c9w vs ns/\ns.length<=n:=by
 have hsh:WShape.hasAll [] args [.list .int]=true:=(pre_splitW hpre).1;have hc:l.pre.holds [] { args:=args }=true:=(pre_splitW hpre).2;obtain⟨d,r,rfl,h1,h2⟩:=hasAllW_cons hsh;obtain rfl:=hasAllW_nil h2;obtain⟨xs,rfl,h3⟩:=hasW_list h1;obtain⟨ns,rfl⟩:=items_int h3
 have hlen:ns.length<=n:=by
  unfold OpenLaw.pre at hc
  have h4:(WTm.not (.lt (.lit (.int (n:Int))) (.len (.arg 0)))).holds [] { args:=[.list (ns.map .int)] }=true:=by
   have h4:=(holds_andW hc).1;rw[hn]at h4;exact h4
  have h5:=condW_of h4 (w_not (w_lt w_lit (w_len_list (w_arg rfl))));rw[b8]at h5;refine Nat.le_of_not_lt λq=>?_
  have q':(n:Int)<((ns.length:Nat):Int):=by omega
  first
   | (rw[d4E q']at h5;exact absurd h5 (by decide))
   | (simp at h5;omega)
 cases hwl with
 |cons w1 w2=>
  cases w2;cases w1 with
  |list ho hall=>exact⟨_,_,ns,rfl,rfl,ho,b3v ns _ hall,hlen⟩
def c3r(l:OpenLaw)(args:List WData):l.row.toRowW.claim.post args (.bool true) args=true:=
 postW_of (r:=l.row.toRowW) (X:=(true == true))
  (show WShape.has [] (.bool true) .bool=true by first | rfl | decide | simp[WShape.has,WShape.arms,WShape.armsAll])
  (show(WTm.eq .res (.lit (.bool true))).value [] { args:=args,res:=some (.bool true),after:=args }=some (.bool (true == true))from w_eq_bool (w_res rfl) w_lit) rfl
def c0d{l:OpenLaw}{n:Nat}{q:A4}{loose:List Str}{XP:(Str->Option Value)->Heap->Prop}{YP:World->Heap->Prop}{d:DefRec}
  (hn:l.most=some n) (hdf:d.params.defaults=[])
  (call:∀(w:World) (s₀ s₁:j6) (mg mb:Str->Option Value) (fa:Addr) (o:Obj) (pm cd doc:Value) (a:Addr) (vs:List Value) (ns:List Int),
   Ground q loose [] XP w s₀ mg mb s₁.heap->YP w s₁.heap ->
   s₁.heap.get? fa=some o->o.data=.func (docDef d.name d.params d.body d.scope pm cd doc)->s₁.heap.CodeRec cd d.name->mg d.name=some (.ref fa) ->
   s₁.heap.get? a=some { cls:=.type "list",data:=.seq vs.toArray }->c9w vs ns->ns.length<=n->s₁.gens = #[] ->
   a5z (model l.prog w) c4x (.call (.ref fa) ⟨[.ref a],[]⟩) (λr s'=>r=.ok (.ret (.bool true))/\OldK s₁.heap s'.heap/\s'.os=s₁.os/\b3W s'.gens) s₁) :
  WalkO q loose XP YP l.row.toRowW d [] (λf vs=>b8o f vs):=by
 intro w s₀ s₁ mg mb G Y fa o pm cd doc dV kV ho hd hcd hD hmg hg args vals as hpre hlay hrd hwl hlo;obtain rfl:dV=.none:=Dflts.none hD hdf;obtain rfl:kV=.none:=Dflts.noKw hD;obtain⟨a,vs,ns,rfl,rfl,hobj,hints,hlen⟩:=c3d hn hpre hwl;refine enter_call (a3E (call w s₀ s₁ mg mb fa o pm cd doc a vs ns G Y ho (fd_plain hd) hcd hmg hobj hints hlen hg) λr s' hq=>?_);obtain⟨rfl,h2,h3,h4⟩:=hq;exact⟨.inl ⟨.bool true,.bool true,[],rfl,λ_=>rfl,.bool true,c3r l _,λ_=>⟨List.Pairwise.nil,λ_ hm=>(nomatch hm)⟩⟩,h2,h3,h4⟩
section
variable {prog:A4}{w:World}{A:R0}{E:Value->j6->Prop}{s:j6}{K:Frag}
end
end Att
namespace L2
open PySem PySem.Spec PyProof.Rows
def b1R:∀ {vs:List Value} {ns:List Int},c9w vs ns->L8 (ns.map V.int) vs
 |_,_,.nil=>.nil
 |_,_,.cons n t h=>.cons ⟨t,rfl⟩ (b1R h)
def c8t(H:Hp):Prop:=∀b,H b=none\/∃o xs,H b=some (.frz o (.lst xs))
def c5W{P:A4}{w:World}{K:Fg}{mg mb:Str->Option Value}{CX:CXT}{k:Nat}{fa a:Addr}{fd:Q5}{x:Str}{sp:Sp}{s₁:j6}{vs:List Value}{ns:List Int}
  (KX:K.In s₁.heap) (hns:s₁.heap.Ns w6 mg) (hb:s₁.heap.Ns builtinsNs mb) (hbb:∀x:Str,x ≠ "__name__" -> mb x=a6V x) (hlim:s₁.heap.NoLimit) (hg:s₁.gens = #[])
  (ha:s₁.heap.get? a=some { cls:=.type "list",data:=.seq vs.toArray }) (hi:c9w vs ns) (hl:ns.length<=z9) (hr:Q1 k c4x)
  (F:∀base:Heap,K.In base->base.Ns w6 mg->E3 P w K mg base CX k fa fd [x] sp) (hbind:∀(s:j6) (u:Value),b1O s fd ⟨[u],[]⟩ [(x,u)])
  (hsp:∀H:Hp,c8t H->SqL K H a (ns.map V.int)->sp [.ref a] H (λv _=>v=.bl true) λ_ _ _=>False)
  (hCX:∀H e s',CX [] H s₁ (λ_ _ _=>False) e s'->False) :
  a5z (model P w) c4x (.call (.ref fa) ⟨[.ref a],[]⟩) (λr s'=>r=.ok (.ret (.bool true))/\OldK s₁.heap s'.heap/\s'.os=s₁.os/\b3W s'.gens) s₁:=by
 have rv:=b1R hi;have lenV:=hi.length
 have core:∀H:Hp,c8t H->SqL K H a (ns.map V.int)->HOk P w H s₁.heap->(∀b,H b≠none->b=a)->(H a≠none->K.lookup a=none) ->
   a5z (model P w) c4x (.call (.ref fa) ⟨[.ref a],[]⟩) (λr s'=>r=.ok (.ret (.bool true))/\OldK s₁.heap s'.heap/\s'.os=s₁.os/\b3W s'.gens) s₁:=by
  intro H hO hS hok hA hK;have base_of:∀ {b:Addr} {o:Obj},s₁.heap.get? b=some o->H b=none->(b7R s₁.heap H).get? b=some o:=λe n=>c6c e n
  have noA:∀ {b:Addr} {o:Obj} {es:Array a1g} {ep:Nat},s₁.heap.get? b=some o->o.data=.dict es ep->H b=none:=fun {b o es ep} e d=>by
   cases q:H b with
   |none=>rfl
   |some u=>
    have e':b=a:=hA b (by rw[q];simp);subst e';rw[ha]at e;cases e;have d':Data.seq vs.toArray _=Data.dict es ep:=d;cases d'
  have nsK:∀ {b:Addr} {m:Str->Option Value},s₁.heap.Ns b m->(b7R s₁.heap H).Ns b m:=fun {b m} ⟨o,es,ep,e,d,r⟩=>⟨o,es,ep,base_of e (noA e d),d,r⟩
  have hKb:K.In (b7R s₁.heap H):=λb o e=>base_of (KX b o e) (by
   cases q:H b with
   |none=>rfl
   |some u=>
    have e':b=a:=hA b (by rw[q];simp);subst e';rw[hK (by rw[q];simp)]at e;cases e)
  have hM:Mod K mg (b7R s₁.heap H):=⟨hKb,nsK hns,⟨mb,nsK hb,hbb⟩,let⟨mc,h1,h2⟩:=hlim; ⟨mc,nsK h1,h2⟩⟩;have e0:c0h P w K mg (b7R s₁.heap H) c4x [] s₁ H:=⟨rfl,hM,λb o e=>c7L e,b5E (c3P _ _),trivial,λb hb=>absurd (show b∈([]:List Addr)from hb) (by simp),hok,.of_eq hg⟩;refine a3E ((F _ hKb (nsK hns)).run c4x [] s₁ H ⟨[.ref a],[]⟩ [.ref a] [.ref a] _ _ hr e0 (hbind s₁ (.ref a)) (.cons rfl .nil) (hsp H hO hS)) λr s' h=>?_
  cases r with
  |error e=>exact(hCX H e s' h).elim
  |ok fl=>
   cases fl with
   |next=>exact False.elim h
   |brk=>exact False.elim h
   |cont=>exact False.elim h
   |ret u=>
    obtain⟨v,H',os,bare,un,hok',r',q⟩:=h;have q':v=.bl true:=q;subst q';obtain rfl:u=Value.bool true:=r';refine⟨rfl,OldK.of_keep λb o e=>?_,os,bare⟩;cases q:H b with
    |none=>exact un.keep b o e q (by intro z;exact absurd (show b∈([]:List Addr)from z) (by simp)) (by simp)
    |some u=>
     rcases hO b with z | ⟨ob,xs,z⟩
     .rw[q]at z;cases z
     .have z2:=un.frzs b ob _ z;obtain⟨e1,_⟩:=hok b _ z;obtain⟨e2,_⟩:=hok' b _ z2;rw[e]at e1;cases e1;exact e2
 cases hk:K.lookup a with
 |some o=>
  have e:=KX a o hk;rw[ha]at e;cases e;refine core (λ_=>none) (λ_=>.inl rfl) (.inr ⟨_,vs.toArray,_,hk,rfl,rfl,rfl,by rw[u4,lenV];exact hl,by simpa using rv⟩) (λb u z=>by have z':(none:Option HO)=some u:=z;cases z') (λb z=>absurd rfl z) λz=>absurd rfl z
 |none=>
  refine core (λb=>if b=a then some (.frz { cls:=.type "list",data:=.seq vs.toArray } (.lst (ns.map V.int)))else none) (λb=>?_) (.inl (.inr ⟨{ cls:=.type "list",data:=.seq vs.toArray },if_pos rfl⟩)) (λb u z=>?_) (λb z=>?_) λ_=>hk
  .by_cases hb:b=a
   .exact .inr ⟨_,_,if_pos hb⟩
   .exact .inl (if_neg hb)
  .by_cases hb:b=a
   .have z':=(if_pos hb).symm.trans z;cases z';subst hb;exact⟨ha,by rw[b8];exact hl,vs,_,rv,ha⟩
   .have z':=(if_neg hb).symm.trans z;cases z'
  .by_cases hb:b=a
   .exact hb
   .exact absurd (if_neg hb) z
def c6Y{l:PySem.W.OpenLaw}{n k:Nat}{q:A4}{loose:List Str}{XP:(Str->Option Value)->Heap->Prop}{YP:World->Heap->Prop}{d:DefRec}{K:Params->Fg}{CX:World->CXT}{sp:World->Sp}{x:Str}
  (hn:l.most=some n) (hn2:n<=z9) (hdf:d.params.defaults=[]) (hr:Q1 k c4x)
  (hY:∀(w:World) (h:Heap),YP w h->(K w.params).In h)
  (F:∀(w:World) (mg:Str->Option Value) (fa:Addr) (h:Heap),(K w.params).In h->h.Ns w6 mg->mg d.name=some (.ref fa) ->
   ∃fd:Q5,(∀(s:j6) (u:Value),b1O s fd ⟨[u],[]⟩ [(x,u)]) /\
    ∀base:Heap,(K w.params).In base->base.Ns w6 mg->E3 l.prog w (K w.params) mg base (CX w) k fa fd [x] (sp w))
  (hsp:∀(w:World) (H:Hp) (a:Addr) (ns:List Int),ns.length<=n->c8t H->SqL (K w.params) H a (ns.map V.int)->sp w [.ref a] H (λv _=>v=.bl true) λ_ _ _=>False)
  (hCX:∀(w:World) (H:Hp) (s:j6) (e:Value) (s':j6),CX w [] H s (λ_ _ _=>False) e s'->False) :
  PySem.W.WalkO q loose XP YP l.row.toRowW d [] (λf vs=>b8o f vs):=by
 refine Att.c0d hn hdf λw s₀ s₁ mg mb fa o pm cd doc a vs ns G Y ho hd hcd hmg hobj hints hlen hg=>?_
 have KX:=hY w _ Y;obtain⟨fd,hb,hF⟩:=F w mg fa _ KX G.T.g hmg;exact c5W KX G.T.g G.T.b G.T.builtins G.T.nolimit hg hobj hints (G5 hlen hn2) hr hF hb (λH hO hS=>hsp w H a ns hlen hO hS) λH e s'=>hCX w H s₁ e s'
abbrev CX0:CXT:=λ_ _ _ _ _ _=>False
abbrev E0:XK:=λ_ _ _=>False
def b6A{X:Cx}:b0y CX0 X E0:=λ_ _ _ _ _ _ _ h=>h.elim
structure Fun(K:Fg)(x qual:Str)(st:Stmt)(f:Addr)(fd:Q5):Prop where
 ex:∃(oc:Value) (od:Option Addr) (kV doc pm:Value) (an:Option Addr) (cdv ct:Value) (osl:Array (Option Value)),
  fd=T8 x qual (a1d st) (R1 st) (g8 st) .none kV doc pm an cdv ct/\K.lookup f=some ⟨oc,od,.func fd,osl⟩/\a4l K cdv qual=true
 kp:O8 K (.ref f)=true
section
variable {P:A4}{w:World}{K:Fg}{mg:Str->Option Value}{base:Heap}
def Fun.ok{x qual:Str}{st:Stmt}{f:Addr}{fd:Q5}{N ps:List Str}{k:Nat}{sp:Sp}(F:Fun K x qual st f fd)(S:v8 N ps (g8 st))(len:∀vs H Q E,sp vs H Q E->vs.length=ps.length)
  (hbody:∀(cdv:Value) (A:R0) (outer:List Env) (s:j6) (H:Hp) (vs:List V) (Q:VK) (E:XK),Q1 k (A.deeper (a8e qual (g8 st) s.heap.objs.size f cdv))->sp vs H Q E ->
   ∃t,PSs (a7U CX0 P w K mg base N qual (g8 st) f cdv A outer s H E).nox (R1 st) t/\t { nx:=λ_ H'=>Q .non H',rt:=Q } (a7d N vs) H):E3 P w K mg base CX0 (k+1) f fd ps sp:=by
 obtain⟨oc,od,kV,doc,pm,an,cdv,ct,osl,rfl,lk,hcd⟩:=F.ex;refine c2y lk hcd S len λA outer s H vs Q E hr hsp=>?_
 obtain⟨t,h,q⟩:=hbody cdv A outer s H vs Q E hr hsp;exact⟨t,h.nox,q⟩
def Fun.binds{x qual:Str}{st:Stmt}{f:Addr}{fd:Q5}{ps:List Str}(F:Fun K x qual st f fd)
  (h:∀(kV doc pm:Value) (an:Option Addr) (cdv ct:Value) (us:List Value),us.length=ps.length->bindArgs (T8 x qual (a1d st) (R1 st) (g8 st) .none kV doc pm an cdv ct) ⟨us,[]⟩=pure (ps.zip us)):a2R K fd ps []:=by
 obtain⟨oc,od,kV,doc,pm,an,cdv,ct,osl,rfl,lk,hcd⟩:=F.ex;exact .all (h kV doc pm an cdv ct)
def d0N{x qual:Str}{st:Stmt}{f:Addr}{oc:Value}{od an:Option Addr}{osl:Array (Option Value)}{kV doc pm cdv ct:Value}(l:K.lookup f=some ⟨oc,od,.func (T8 x qual (a1d st) (R1 st) (g8 st) .none kV doc pm an cdv ct),osl⟩)
  (c:a4l K cdv qual=true) (k:O8 K (.ref f)=true):Fun K x qual st f (T8 x qual (a1d st) (R1 st) (g8 st) .none kV doc pm an cdv ct):=⟨⟨oc,od,kV,doc,pm,an,cdv,ct,osl,rfl,l,c⟩,k⟩
end
def b5b{A:R0}{k:Nat}(hr:Q1 k A):A.units+1<cLine:=c8z (Nat.add_le_add_left (by decide:1<=64) _) hr.units
section
variable {X:Cx}
end
def d0J{A B:Prop}(h:B):if false=true then A else B:=by
 rw[if_neg z6];exact h
def b9G{A B:Prop}(h:A):if true=true then A else B:=by
 rw[if_pos rfl];exact h
def a0y{c A B:Prop}[Decidable c](h1:c->A)(h2:¬c->B):if c then A else B:=by
 by_cases h:c
 .rw[if_pos h];exact h1 h
 .rw[if_neg h];exact h2 h
def j5(H H':Hp):Prop:=∀b o,H b=some o->H' b=some o
def j5.refl(H:Hp):j5 H H:=λ_ _ h=>h
def j5.trans{H H1 H2:Hp}(a:j5 H H1)(b:j5 H1 H2):j5 H H2:=λc o h=>b c o (a c o h)
def j5.free{H H':Hp}(e:j5 H H'){l:Addr}(h:H' l=Option.none):H l=Option.none:=by
 cases q:H l with
 |none=>rfl
 |some o=>
  rw[e l o q]at h;cases h
section
variable {κ:Type}[DecidableEq κ]
def c2b{kvs:List (κ×V)}{k:κ}{v:V}(h:a7t kvs k=some v):k∈kvs.map (·.1):=by
 have q:(kvs.any λkv=>decide (kv.1=k))=true:=by
  rw[a5D,h];all_goals rfl
 obtain⟨p,hp,e⟩:=c9r.mp q;exact F5.mpr ⟨p,hp,of_decide_eq_true e⟩
end
end L2
set_option maxHeartbeats 4000000
namespace L2
open PySem PySem.Spec PyProof.Rows
variable{env:Env}{scope:Scope}{y:Str}{X:Cx}{w:World}{s:j6}{elt iter:Expr}{elts ifs:List Expr}{p pos tp:Pos}{pins:List (Addr×Obj)}{σ:St}{H:Hp}{fp:List Addr}{tt:TT}{te:TE}{C:Addr}{wi:TI}{i j:Nat}{xs:List V}{us:List Value}{u:Value}{ps:List Str}{sp:Sp}
def b7W:∀(names:List (Str×a9z)) (cs:List (Str×Addr)),(∀y∈names,y.2=.free->∃c,env.cells.lookup y.1=some c) ->
  (∀y c,cs.lookup y=some c->env.cells.lookup y=some c) ->
  ∃cl,(forIn names cs (λ(x:Str×a9z) (r:List (Str×Addr))=>(if(x.2 == NameKind.free)=true then (do let c <-cellOf env x.1;pure (ForInStep.yield ((x.1,c)::r)))else pure (ForInStep.yield r):Sem (ForInStep (List (Str×Addr)))))=(pure cl:Sem (List (Str×Addr)))) /\
   (∀y c,cl.lookup y=some c->env.cells.lookup y=some c)/\(∀y,(y,NameKind.free)∈names\/(cs.lookup y).isSome=true->(cl.lookup y).isSome=true)
 |[],cs,_,h=>⟨cs,rfl,h,λy q=>q.elim (λz=>absurd z (by simp)) id⟩
 | (n,k)::r,cs,hc,h=>by
  by_cases e:(k == NameKind.free)=true
  .have ek:k=.free:=by simpa using e
   obtain⟨c,hcc⟩:=hc (n,k) Q4 ek
   have h':∀y d,((n,c)::cs).lookup y=some d->env.cells.lookup y=some d:=by
    intro y d q;rw[M4]at q;cases eq:y == n with
    |true=>
     rw[eq]at q;have e2:y=n:=by simpa using eq
     cases q;rw[e2];exact hcc
    |false=>rw[eq]at q;exact h y d q
   obtain⟨cl,h1,h2,h3⟩:=b7W r ((n,c)::cs) (λy hy=>hc y (K6 _ hy)) h';refine⟨cl,?_,h2,λy q=>h3 y ?_⟩
   .rw[d1f];show((if(k == NameKind.free)=true then (do let c <-cellOf env n;pure (ForInStep.yield ((n,c)::cs)))else pure (ForInStep.yield cs):Sem (ForInStep (List (Str×Addr)))) >>= _)=_;rw[if_pos e];have ec:cellOf env n=pure c:=by unfold cellOf;rw[hcc]
    rw[ec];exact h1
   .rcases q with q | q
    .rcases t8.mp q with q | q
     .cases q;right;simp[M4]
     .exact .inl q
    .right;rw[M4];cases y == n
     .exact q
     .rfl
  .obtain⟨cl,h1,h2,h3⟩:=b7W r cs (λy hy=>hc y (K6 _ hy)) h;refine⟨cl,?_,h2,λy q=>h3 y ?_⟩
   .rw[d1f];show((if(k == NameKind.free)=true then (do let c <-cellOf env n;pure (ForInStep.yield ((n,c)::cs)))else pure (ForInStep.yield cs):Sem (ForInStep (List (Str×Addr)))) >>= _)=_;rw[if_neg e];exact h1
   .rcases q with q | q
    .rcases t8.mp q with q | q
     .cases q;exact absurd rfl e
     .exact .inl q
    .exact .inr q
def b5l(hc:∀y∈scope.names,y.2=.free->∃c,env.cells.lookup y.1=some c) :
  ∃cl,closureFor scope env=pure cl/\(∀y c,cl.lookup y=some c->env.cells.lookup y=some c)/\∀y,(y,NameKind.free)∈scope.names->(cl.lookup y).isSome=true:=by
 obtain⟨cl,h1,h2,h3⟩:=b7W scope.names [] hc (λy c q=>by cases q);refine⟨cl,?_,h2,λy q=>h3 y (.inl q)⟩;unfold closureFor
 first
  | exact h1
  | (show(forIn scope.names [] _ >>= λr=>pure r)=_;rw[h1];rfl)
def a2o{env:Env}:∀ {names:List (Str×a9z)} {y:Str} {k:a9z},
  (names.map λ(n,k)=>if(k == NameKind.free&&env.scope.kind == .function&&env.kindOf n == some .cell)then (n,NameKind.cell)else (n,k)).lookup y=some k ->
  names.lookup y=some k\/(names.lookup y=some .free/\k=.cell)
 |[],_,_,h=>by cases h
 | (n,k0)::r,y,k,h=>by
  have ih := @a2o env r y k;rw[J7]at h;rw[M4];cases hx:y == n with
  |true=>
   by_cases hc:(k0 == NameKind.free&&env.scope.kind == .function&&env.kindOf n == some .cell)=true
   .have e2:k0=.free:=by simp at hc;exact hc.1.1
    dsimp only at h;rw[if_pos hc,M4,hx]at h;cases h;exact .inr ⟨by rw[e2],rfl⟩
   .dsimp only at h;rw[if_neg hc,M4,hx]at h;exact .inl h
  |false=>
   by_cases hc:(k0 == NameKind.free&&env.scope.kind == .function&&env.kindOf n == some .cell)=true
   .dsimp only at h;rw[if_pos hc,M4,hx]at h;exact ih h
   .dsimp only at h;rw[if_neg hc,M4,hx]at h;exact ih h
def hid(xs N:List Str):List Str:=N.map λy=>if y∈xs then ("." : Str)++y else y
def Y3(X:Cx)(scope:Scope)(cl:List (Str×Addr))(C:Addr)(xs:List Str)(fp:List Addr)(s3:j6)(H3:Hp):Cx:=
 { X with N:=xs++hid xs X.N,s₀:=s3,H₀:=H3,env:=compEnvC scope cl C X.env,outer:=X.stack,stack:=X.stack,ex:=fp,fn:=λ_=>false,pn:=[],xe:=λ_ _=>False }
abbrev b5i(X:Cx)(scope:Scope)(cl:List (Str×Addr))(C:Addr)(x:Str):=Y3 X scope cl C [x]
structure a7Z(N:List Str)(osc sc:Scope)(xs:List Str):Prop where
 kind:sc.kind=.function
 cell:∀y∈sc.names,y.2≠.cell
 names:∀y∈sc.names,y.2=.local->sc.names.lookup y.1=some .local
 own:∀x∈xs,sc.names.lookup x=some .local
 fr:∀y∈sc.names,y.2=.free->osc.names.lookup y.1=some .cell\/osc.names.lookup y.1=some .free
 see:∀y∈hid xs N,sc.names.lookup y≠some .local
 dot:∀x∈xs,sc.names.lookup (("." : Str)++x)=none
 nd:(xs++hid xs N).Nodup
abbrev V1(N:List Str)(osc sc:Scope)(x:Str):=a7Z N osc sc [x]
structure c9j(P:A4)(w:World)(fp:List Addr)(it:Addr)(tn:Nat->Heap->Prop):Prop where
 obj:∀i h,tn i h->∀b∈fp,∃o,h.get? b=some o/\∀v,o.data≠.cell v
 keep:∀i h h',tn i h->(∀b∈fp,∀o,h.get? b=some o->h'.get? b=some o)->tn i h'
 self:∀(A:R0) (i:Nat) (s:j6) (Q:Value->j6->Prop) (E:Value->j6->Prop),tn i s.heap->Q (.ref it) s->wpAny (model P w) A (pyIter (.ref it)) Q E s
structure c9i(X:Cx)(tg:Expr)(J:It)(fp:List Addr)(it:Addr)(tn:Nat->Heap->Prop):Prop where
 item:∀(i:Nat) (pins:List (Addr×Obj)) (s:j6) (σ:St) (H:Hp) (E:Value->j6->Prop),Inv X pins σ H s->(∀b∈fp,a4S X pins H b)->tn i s.heap->J.go i H ->
  wpAny (model X.prog X.w) X.A (b8y (.ref it)) (λr s1=>∃u,r=some u /\
   wpAny (model X.prog X.w) X.A (a5x tg (.ref it) u) (λ_ s2=>∃x H',Inv X pins σ H' s2/\K0 x u/\J.yld i H x H'/\tn (i+1) s2.heap/\∀b∈fp,H' b=none) E s1) E s
 done:∀(i:Nat) (pins:List (Addr×Obj)) (s:j6) (σ:St) (H:Hp) (E:Value->j6->Prop),Inv X pins σ H s->(∀b∈fp,a4S X pins H b)->tn i s.heap->J.stop i H ->
  wpAny (model X.prog X.w) X.A (b8y (.ref it)) (λr s1=>r=none/\Inv X pins σ H s1) E s
abbrev TB:=V->Hp->(List (Option V)->Prop)->Prop
def B1:TB:=λx _ P=>P [some x]
abbrev WD(B:TB)(tt:TT)(te:TE)(Q:Hp->Prop)(σ:St)(J:It)(H1:Hp)(D:Addr):Prop:=∃W:Nat->Nat->List V->Hp->Prop,
 (∃m,W 0 m [] (upd H1 D (.lst [])))/\∀i m ys H2,W i m ys H2->H2 D=some (.lst ys) /\
  ((J.stop i H2 /\ Q H2) \/ (J.go i H2 /\ ∀ x H3,J.yld i H2 x H3 -> B x H3 fun τ => tt (τ ++ σ) H3 λok H4 => if ok = true then
    te (τ++σ) H4 (λy H5=>H5 D=some (.lst ys)/\ys.length<z9/\∃m',m'<m/\W (i+1) m' (ys++[y]) (upd H5 D (.lst (ys++[y]))))
    else ∃m',m'<m/\W (i+1) m' ys H4))
def c0f(B:TB)(tt:TT)(te:TE)(Q:VK)(σ:St)(J:It)(H1:Hp):Prop:=∀D,H1 D=none->WD B tt te (Q (.ref D)) σ J H1 D
def V6(wi:TI)(tt:TT)(te:TE):TE:=λσ H Q=>wi σ H λJ H1=>c0f B1 tt te Q σ J H1
def d2m(X:Cx)(ifs:List Expr)(t:TT):Prop:=
 ∀(pins:List (Addr×Obj)) (s:j6) (σ:St) (H:Hp) (Q:Bool->Hp->Prop),Inv X pins σ H s->t σ H Q ->
  wpAny (model X.prog X.w) X.A (forIn ifs true λc r=>if r=true then do let ok <-isTrue c X.env (eval c X.env);pure (ForInStep.yield ok)else pure (ForInStep.yield r)) (TP X pins σ Q) X.xe s
structure PTs(X:Cx)(ifs:List Expr)(t:TT):Prop where
 h:d2m X ifs t
instance {X:Cx}{ifs:List Expr}{t:TT}:CoeFun (PTs X ifs t) λ_=>d2m X ifs t:=⟨PTs.h⟩
def Z2:TT:=λ_ H Q=>Q true H
def U3:PTs X [] Z2:=.mk λ_ _ _ H _ I h=>wpAny_tests_nil ⟨H,I,h⟩
def a9f{c:Expr}{t:TT}(h:PT X c t):PTs X [c] t:=.mk λpins s σ H Q I hq=>wpAny_tests_one (h pins s σ H Q I hq)
def c3V{prog:A4}{A:R0}{R:b8z->j6->Prop}{target:Expr}{it acc:Value}(I:Nat->j6->Prop)
  (turn:∀n s,I n s->wpAny (model prog w) A (b8y it) (λr s₁=>match r with
   |none=>R (.ok .next) s₁
   |some v=>wpAny (model prog w) A (a5x target it v) (λ_ s₂=>wpAny (model prog w) A (c1Y target env v) (λ_ s₃=>
     wpAny (model prog w) A (forIn ifs true λc r=>if r=true then do let ok <-isTrue c env (eval c env);pure (ForInStep.yield ok)else pure (ForInStep.yield r)) (λok s₄=>
      if ok=true then wpAny (model prog w) A (eval elt env) (λx s₅=>
       wpAny (model prog w) A (call (.builtin "list.append") [acc,x]) (λ_ s₆=>∃m,m<n/\I m s₆) (λ_ _=>False) s₅) (λ_ _=>False) s₄
      else ∃m,m<n/\I m s₄) (λ_ _=>False) s₃) (λ_ _=>False) s₂) (λ_ _=>False) s₁) (λ_ _=>False) s)
  (n:Nat) (h:I n s) :
  a5z (model prog w) A (.compLoop (.ListComp elt [⟨target,iter,ifs,0⟩] scope pos) 0 it acc env) R s:=by
 have up:∀ {α:Type} {m:Sem α} {Q:α->j6->Prop} {E:Value->j6->Prop} {s:j6},wpAny (model prog w) A m Q (λ_ _=>False) s->wpAny (model prog w) A m Q E s:=
  λh=>a2b h (λ_ _ q=>q) λ_ _ f=>f.elim
 refine codeAny_loop rfl I (λn s hI=>?_) n h;refine wpAny_noted ?_;rw[compTurn_list];refine c5 (a8p (c5 (up (thn (turn n s hI) λr s₁ h₁=>?_))));cases r with
 |none=>exact p9 h₁
 |some v=>
  refine c5 (up (thn h₁ λ_ s₂ h₂=>c5 (up (thn h₂ λ_ s₃ h₃=>c5 (up (thn h₃ λok s₄ h₄=>?_))))));cases ok with
  |false=>exact p9 ⟨rfl,by simpa using h₄⟩
  |true=>
   rw[if_pos rfl]at h₄;exact c5 (c5 (up (thn h₄ λx s₅ h₅=>c5 (up (thn h₅ λ_ s₆ h₆=>p9 (p9 ⟨rfl,h₆⟩))))))
section
variable {tg:Expr}{x:Str}{xs:List Str}{px:Pos}
def c6s{s3:j6}{cl:List (Str×Addr)}{h4:Heap}{tk:Nat}(hc:a7Z X.N X.env.scope scope xs)(I:Inv X pins σ H s3)
  (hcl:∀y c,cl.lookup y=some c->X.env.cells.lookup y=some c) (hcl2:∀y,(y,NameKind.free)∈scope.names->(cl.lookup y).isSome=true)
  (fpo:∀b∈fp,a4S X pins H b) (fpl:∀b∈fp,b<s3.heap.objs.size)
  (hn:h4.Ns s3.heap.objs.size (λ_=>none)) (k:∀b o,s3.heap.get? b=some o->h4.get? b=some o) :
  Inv (Y3 X scope cl s3.heap.objs.size xs fp s3 H) [] (p8 xs.length none++σ) H { s3 with heap:=h4,toks:=tk }:=by
 have below:∀y c,cl.lookup y=some c->c<s3.heap.objs.size:=λy c e=>by
  obtain⟨v,q⟩:=I.cell y c (hcl y c e);exact q.lt
 have kinds:∀y,((Y3 X scope cl s3.heap.objs.size xs fp s3 H).env.kindOf y=some .cell\/(Y3 X scope cl s3.heap.objs.size xs fp s3 H).env.kindOf y=some .free)->scope.names.lookup y=some .free:=by
  intro y hy;rcases hy with hy | hy
  .rcases a2o hy with q | ⟨q,_⟩
   .exact absurd rfl (hc.cell _ (P4 q))
   .exact q
  .rcases a2o hy with q | ⟨q,z⟩
   .exact q
   .cases z
 refine⟨⟨I.ok.mod,?_,I.ok.glob,I.ok.blt,j8 _,λy z c h1 h2=>?_,λy hy=>?_,λy c h=>?_,I.ok.hd,I.ok.frames,.inl rfl,λb hb=>⟨?_,λy c e z=>?_⟩,λb o e=>I.bs b o e,G5 I.ok.bsz I.sz,λb o e hb=>?_,λb hb hf=>?_,I.stack,I.stkFree⟩,
  rfl,I.bare,Un.kept k,⟨_,hn,λi y v h1 h2 h3=>?_⟩,λy c e=>?_,I.fresh,λy c e=>?_,λp hp=>absurd (show p∈([]:List (Addr×Obj))from hp) (by simp),I.hok.kept k,?_⟩
 .exact hc.kind
 .exact I.ok.inj y z c (hcl _ _ h1) (hcl _ _ h2)
 .have:=hcl2 y (P4 (kinds y hy));exact a7p.mp this
 .cases h
 .exact A3 (fpl b hb)
 .exact(fpo b hb).2.2.2.2.1 y c (hcl y c e) z
 .rcases(fpo b hb).2.2.2.1 with q | q
  .exact I.ok.noex b o e q
  .exact absurd (A7 (l5 (I.ok.bs b o e).1) q) (O0 _)
 .rcases t8.mp (I.stkSub b hf)with e | e
  .exact(fpo b hb).2.1 e
  .exact(fpo b hb).2.2.1 e
 ·-- the names
  have h1:(xs++hid xs X.N)[i]?=some y:=h1;by_cases hi:i<xs.length
  .rw[o5 (by rw[A8];exact hi),N3,if_pos hi]at h2;cases h2
  .rw[J1 (by omega)]at h1;rw[J1 (by rw[A8];omega),A8]at h2;generalize i - xs.length=i at h1 h2;have my:y∈hid xs X.N:=a2U h1;have h3:(c4w scope X.env).names.lookup y=some .local\/(c4w scope X.env).names.lookup y=some .cell\/(c4w scope X.env).names.lookup y=some .free:=h3
   have hf:scope.names.lookup y=some .free:=by
    rcases h3 with q | q
    .rcases a2o q with q | ⟨_,z⟩
     .exact absurd q (hc.see y my)
     .cases z
    .exact kinds y q
   have hy:X.N[i]?=some y:=by
    unfold hid at h1;rw[b6]at h1;cases e:X.N[i]? with
    |none=>rw[e]at h1;cases h1
    |some z=>
     rw[e]at h1;by_cases ez:z∈xs
     .rw[c8y,if_pos ez]at h1;have h1:=Option.some.inj h1;subst h1;rw[hc.dot z ez]at hf;cases hf
     .rw[c8y,if_neg ez]at h1;exact h1
   obtain⟨m,_,hl⟩:=I.loc;obtain⟨c,hcc⟩:=a7p.mp (hcl2 y (P4 hf))
   have vis:Vis X.env.scope y:=by
    rcases hc.fr _ (P4 hf) rfl with q | q
    .exact .inr (.inl q)
    .exact .inr (.inr q)
   obtain⟨u,ru,lk⟩:=hl i y v hy h2 vis;refine⟨u,ru,.inr ⟨?_,c,hcc,?_⟩⟩
   .rcases h3 with q | q
    .rcases a2o q with q | ⟨_,z⟩
     .exact absurd q (hc.see y my)
     .cases z
    .exact q
   .have hce:=hcl y c hcc;rcases lk with ⟨q,_⟩ | ⟨_,c',e',z⟩
    .rcases hc.fr _ (P4 hf) rfl with q' | q'
     .have q:X.env.scope.names.lookup y=some .local:=q;rw[show X.env.scope.names.lookup y=some NameKind.cell from q']at q;cases q
     .have q:X.env.scope.names.lookup y=some .local:=q;rw[show X.env.scope.names.lookup y=some NameKind.free from q']at q;cases q
    .rw[e']at hce;cases hce;obtain⟨o,ho,hd⟩:=z;exact⟨o,k _ _ ho,hd⟩
 .obtain⟨v,o,ho,hd⟩:=I.cell y c (hcl y c e);exact⟨v,o,k _ _ ho,hd⟩
 .exact I.freeC y c (hcl y c e)
 .show(p8 xs.length none++σ).length=(xs++hid xs X.N).length;have:=I.len;simp[hid,this]
def BOk(X:Cx)(scope:Scope)(xs:List Str)(B:TB)(tg:Expr):Prop:=∀cl σ C fp s3 H3 pins s H v u P,Inv (Y3 X scope cl C xs fp s3 H3) pins (p8 xs.length none++σ) H s->K0 v u->B v H P ->
 wpAny (model X.prog X.w) X.A (c1Y tg (compEnvC scope cl C X.env) u) (λ_ s'=>∃τ,τ.length=xs.length/\Inv (Y3 X scope cl C xs fp s3 H3) pins (τ++σ) H s'/\P τ) (λ_ _=>False) s
def b5k{B:TB}{H1:Hp}{s2:j6}{cl:List (Str×Addr)}{it:Addr}{tn:Nat->Heap->Prop}{J:It}{Q:VK}{E:Value->j6->Prop}
  {RR:Value->Addr->b8z->j6->Prop} (hc:a7Z X.N X.env.scope scope xs)
  (hcl:∀y c,cl.lookup y=some c->X.env.cells.lookup y=some c) (hcl2:∀y,(y,NameKind.free)∈scope.names->(cl.lookup y).isSome=true)
  (ht:∀C fp s3 H3,PTs (Y3 X scope cl C xs fp s3 H3) ifs tt) (he:∀C fp s3 H3,PE (Y3 X scope cl C xs fp s3 H3) elt te)
  (I:Inv X pins σ H1 s2) (T:c9j X.prog X.w fp it tn) (TA:∀s3 H3,Inv X pins σ H3 s3->c9i (Y3 X scope cl s3.heap.objs.size xs fp s3 H3) tg J fp it tn) (st:tn 0 s2.heap) (fpo:∀b∈fp,a4S X pins H1 b)
  (hB:BOk X scope xs B tg)
  (h:c0f B tt te Q σ J H1)
  (hRR:∀D C s' H' m,Inv X pins σ H' s'->s'.heap.Ns C m->H' C=none->C≠X.env.locals->X.s₀.heap.objs.size<=C->(∀y c,X.env.cells.lookup y=some c->c≠C)->(∀p∈X.pn++pins,p.1≠C)->Q (.ref D) H'->RR (.ref D) C (.ok .next) s') :
  wpAny (model X.prog X.w) X.A (newList []) (λacc s₃=>wpAny (model X.prog X.w) X.A (newFunctionEnv scope X.env.globals cl [] X.env.qual none .none (some X.env)) (λcenv s₄=>
   a5z (model X.prog X.w) X.A (.compStart (.ListComp elt [⟨tg,iter,ifs,0⟩] scope pos) 0 (.ref it) acc { cenv with scope:=c4w scope X.env }) (RR acc cenv.locals) s₄) E s₃) E s2:=by
 refine Z6 (hd:=by size_fits) ?_;have I3:=I.lnew (ys:=[]) (its:=[]) (t':=s2.toks) .nil (by show 0<=z9;exact W3 _);obtain⟨W,⟨m0,w0⟩,turn⟩:=h _ I.fresh;generalize hD:s2.heap.objs.size=D at I3 w0 turn ⊢;generalize hs3:({ s2 with heap:=s2.heap.push { cls:=.type "list",data:=.seq ([]:List Value).toArray } }:j6)=s3;have hs3':({ s2 with heap:=s2.heap.push { cls:=.type "list",data:=.seq ([]:List Value).toArray },toks:=s2.toks }:j6)=s3:=hs3;rw[hs3']at I3;have keep3:∀b o,s2.heap.get? b=some o->s3.heap.get? b=some o:=λb o e=>by rw[<-hs3];exact j7 _ e
 have fpl:∀b∈fp,b<s3.heap.objs.size:=λb hb=>by
  obtain⟨o,e,_⟩:=T.obj _ _ st b hb;exact l5 (keep3 b o e)
 have fpD:∀b∈fp,b≠D:=λb hb z=>by
  obtain⟨o,e,_⟩:=T.obj _ _ st b hb;exact absurd (l5 e) (by rw[z,hD];exact O0 _)
 have fpo3:∀b∈fp,a4S X pins (upd H1 D (.lst [])) b:=λb hb=>⟨by rw[i9 (fpD b hb)];exact(fpo b hb).1,(fpo b hb).2⟩
 show wpAny _ _ _ _ _ s3;refine wpAny_newFunctionEnv hc.cell (by intro y hy;simp at hy) (λh₁ hns₁ hsb₁=>?_) hc.kind;dsimp only[newEnv]at hns₁ hsb₁ ⊢;have keep4:∀b o,s3.heap.get? b=some o->h₁.get? b=some o:=λb o e=>hsb₁.extBut b o (A3 (l5 e)) (j7 _ e)
 have I4:=c6s (tk:=s3.toks+([]:List (Str×Value)).length) hc I3 hcl hcl2 fpo3 fpl hns₁ keep4;have st4:tn 0 h₁:=T.keep _ _ _ st λb hb o e=>keep4 b o (keep3 b o e)
 have loop:∀s₄:j6,s₄={ s3 with heap:=h₁,toks:=s3.toks+([]:List (Str×Value)).length } ->
   a5z (model X.prog X.w) X.A (.compLoop (.ListComp elt [⟨tg,iter,ifs,0⟩] scope pos) 0 (.ref it) (.ref D) (compEnvC scope cl s3.heap.objs.size X.env)) (RR (.ref D) s3.heap.objs.size) s₄:=by
  rintro s₄ rfl
  have stat:∀ {H':Hp},(∀b∈fp,H' b=none)->∀b∈fp,a4S (Y3 X scope cl s3.heap.objs.size xs fp s3 (upd H1 D (.lst []))) [] H' b:=λhn b hb=>
   ⟨hn b hb,A3 (fpl b hb),λhf=>by
    rcases t8.mp (I3.stkSub b hf)with e | e
    .exact(fpo b hb).2.1 e
    .exact(fpo b hb).2.2.1 e,.inl hb,λy c e=>(fpo b hb).2.2.2.2.1 y c (hcl y c e),λp hp=>absurd (show p∈([]:List (Addr×Obj))from hp) (by simp)⟩
  refine c3V (env:=compEnvC scope cl s3.heap.objs.size X.env) (λn s'=>∃i ys H',Inv (Y3 X scope cl s3.heap.objs.size xs fp s3 (upd H1 D (.lst []))) [] (p8 xs.length none++σ) H' s'/\tn i s'.heap/\(∀b∈fp,H' b=none)/\W i n ys H') ?_ m0
   ⟨0,[],_,I4,st4,λb hb=>(fpo3 b hb).1,w0⟩
  rintro n s5 ⟨i,ys,H5,I5,st5,fr5,w5⟩;obtain⟨hDy,alt⟩:=turn i n ys H5 w5;rcases alt with ⟨stop,q⟩ | ⟨go,step⟩
  .refine a2b ((TA s3 _ I3).done i [] s5 _ H5 (λ_ _=>False) I5 (stat fr5) st5 stop) (λr s6 ⟨hr,I6⟩=>?_) λ_ _ f=>f
   subst hr;obtain⟨m6,n6,_⟩:=I6.loc
   have J6:Inv X pins σ H5 s6:=by
    refine I3.call' (ch:=fp) I6.os I6.base I6.hok I6.bare λb hb=>?_
    obtain⟨_,f1,f2,f3,f4,f5⟩:=fpo3 b hb;exact⟨f3,f1,f4,f5⟩
   refine hRR D _ s6 H5 m6 J6 n6 I6.free (b5C I3.lt) I3.sz (λy c e z=>?_) (λp hp z=>?_) q
   .obtain⟨v,q⟩:=I3.cell y c e;exact absurd q.lt (by rw[z];exact O0 _)
   .exact absurd (l5 (I3.pin p hp).1) (by rw[z];exact O0 _)
  .refine a2b ((TA s3 _ I3).item i [] s5 _ H5 (λ_ _=>False) I5 (stat fr5) st5 go) (λr s6 ⟨u,hr,h6⟩=>?_) λ_ _ f=>f
   subst hr;refine thn h6 λ_ s6 ⟨xv,H6,I6,r6,y6,st6,fr6⟩=>?_
   have I6':=I6.pinned (stat fr6) (T.obj _ _ st6);refine thn (hB cl σ _ fp s3 _ _ s6 H6 xv u _ I6' r6 (step xv H6 y6)) λ_ s7 ⟨τ,lτ,I7,step⟩=>?_
   have again:∀ {s8:j6} {H8:Hp} {ys8:List V},Inv (Y3 X scope cl s3.heap.objs.size xs fp s3 (upd H1 D (.lst []))) ([]++b4z fp s6.heap) (τ++σ) H8 s8->(∃m',m'<n/\W (i+1) m' ys8 H8) ->
     ∃m,m<n/\∃i ys H',Inv (Y3 X scope cl s3.heap.objs.size xs fp s3 (upd H1 D (.lst []))) [] (p8 xs.length none++σ) H' s8/\tn i s8.heap/\(∀b∈fp,H' b=none)/\W i m ys H':=by
    rintro s8 H8 ys8 I8 ⟨m',hm,w8⟩;refine⟨m',hm,i+1,ys8,H8,(I8.unpinned (pins:=[])).weak (by simp[lτ]) (λj v e=>?_),T.keep _ _ _ st6 λb hb o e=>(I8.pin (b,o) (D3 _ (D3 _ (a7O hb e)))).1,λb hb=>?_,w8⟩
    .by_cases hj:j<xs.length
     .rw[o5 (by rw[A8];exact hj),N3,if_pos hj]at e;cases e
     .rw[J1 (by rw[A8];omega),A8]at e;rw[J1 (by omega),lτ];exact e
    .obtain⟨o,e,d⟩:=T.obj _ _ st6 b hb;exact(I8.pin (b,o) (D3 _ (D3 _ (a7O hb e)))).2.1
   refine thn (ht _ fp s3 _ _ s7 _ H6 _ I7 step) (λok s8 ⟨H8,I8,q8⟩=>?_);cases ok with
   |false=>exact again I8 (by simpa using q8)
   |true=>
    rw[if_pos rfl]at q8;rw[if_pos rfl];refine thn (he _ fp s3 _ _ s8 _ H8 _ I8 q8) (λv s9 ⟨y,H9,I9,r9,hD9,hz9,w9⟩=>?_);refine a2b (b6D (X:=Y3 X scope cl s3.heap.objs.size xs fp s3 (upd H1 D (.lst []))) _ s9 _ H9 (.ref D) [y] (.ref D) [v] (λ_ H'=>H'=upd H9 D (.lst (ys++[y]))) I9 rfl (.cons r9 .nil) ⟨D,ys,y,rfl,rfl,hD9,hz9,rfl⟩) (λ_ s10 ⟨_,H10,I10,_,e10⟩=>?_) λ_ _ f=>f
    subst e10;exact again I10 w9
 exact codeAny_compStart_list (loop _ rfl) (T.self X.A 0 _ _ _ st4 (loop _ rfl))
def b6h.b{J:It}{it:Addr}{tn:Nat->Heap->Prop}(T:b6h X.prog X.w X.K tg J fp it tn):c9j X.prog X.w fp it tn:=⟨T.obj,T.keep,T.self⟩
def b6h.c{J:It}{it:Addr}{tn:Nat->Heap->Prop}{cl:List (Str×Addr)}{s3:j6}{H3:Hp}(hcalm:X.calm=true)(T:b6h X.prog X.w X.K tg J fp it tn):c9i (Y3 X scope cl C xs fp s3 H3) tg J fp it tn:=⟨T.item _ rfl rfl rfl hcalm,T.done _ rfl rfl rfl hcalm⟩
def c9h(hc:V1 X.N X.env.scope scope x):BOk X scope [x] B1 (.Name x px):=
 λcl σ C fp s3 H3 pins s H v u P I r q=>c0r (a7b (X:=b5i X scope cl C x fp s3 H3) (i:=0) I hc.nd rfl (.inl (a8d (hc.own x (by simp)))) r (λs7 I7=>⟨[some v],rfl,I7,q⟩) (.inr (a8d (hc.own x (by simp)))))
def b5j(hc:a7Z X.N X.env.scope scope xs)(I:Inv X pins σ H s):∀y∈scope.names,y.2=.free->∃c,X.env.cells.lookup y.1=some c:=by
 intro y hy e;rcases hc.fr y hy e with q | q
 .exact I.ok.has y.1 (.inl q)
 .exact I.ok.has y.1 (.inr q)
def b9j{B:TB}(hc:a7Z X.N X.env.scope scope xs)(hcalm:X.calm=true)(hi:PI X tg iter wi)(hB:BOk X scope xs B tg)
  (ht:∀cl C fp s3 H3,PTs (Y3 X scope cl C xs fp s3 H3) ifs tt) (he:∀cl C fp s3 H3,PE (Y3 X scope cl C xs fp s3 H3) elt te)
  (hs:∀x,a2d iter X.env x=pure x:=by intro _;rfl) :
  PE X (.ListComp elt [⟨tg,iter,ifs,0⟩] scope pos) (λσ H Q=>wi σ H λJ H1=>c0f B tt te Q σ J H1):=.mk λpins s σ H Q I h=>by
 obtain⟨cl,hclos,hcl,hcl2⟩:=b5l (b5j hc I);rw[eval_ListComp];refine c8E (use:=none) rfl hs hclos hc.kind hc.names (thn (hi pins s σ H _ I h) λv s1 h1=>thn h1 λitv s2 ⟨it,fp,tn,J,H2,e,I2,T,st,fpo,R⟩=>?_);subst e;refine b5k (RR:=λacc C=>compPost (model X.prog X.w) X.A X.xe none (EP X pins σ Q) acc C) (Q:=Q) hc hcl hcl2 (ht cl) (he cl) I2 T.b (λ_ _ _=>T.c hcalm) st fpo hB R ?_;intro D C s' H' m I' n f1 f2 f3 f4 f5 q;exact⟨m,n,λh' sb=>⟨.ref D,H',I'.turned (t':=s'.toks) (λb o hb e=>(sb.2 b hb).trans e) f1 f2 (.inr f3) f4 f5,rfl,q⟩⟩
def b2X{B:TB}{py spos:Pos}(hN:X.N.Nodup)(hiy:X.N[i]?=some y)(hy:X.env.scope.names.lookup y=some .local)(hc:a7Z X.N X.env.scope scope xs)(hcalm:X.calm=true)(hi:PI X tg iter wi)(hB:BOk X scope xs B tg)
  (ht:∀cl C fp s3 H3,PTs (Y3 X scope cl C xs fp s3 H3) ifs tt) (he:∀cl C fp s3 H3,PE (Y3 X scope cl C xs fp s3 H3) elt te)
  (hsw:a6U (.ListComp elt [⟨tg,iter,ifs,0⟩] scope pos) (some (.Name y py)) spos.line X.env=pure true:=by rfl)
  (hs:∀x,a2d iter X.env x=pure x:=by intro _;rfl) :
  PS X (.Assign [.Name y py] (.ListComp elt [⟨tg,iter,ifs,0⟩] scope pos) spos) (λD σ H=>wi σ H λJ H1=>c0f B tt te (λv H1=>D.nx (σ.set i (some v)) H1) σ J H1):=.mk λpins s σ H D I h=>by
 obtain⟨cl,hclos,hcl,hcl2⟩:=b5l (b5j hc I);rw[exec_Assign_Name_used _ _ _ _ hsw];refine c5 (a8p (c5 ?_));show wpAny _ X.A (do let _ <-comprehension (.ListComp elt [⟨tg,iter,ifs,0⟩] scope pos) scope X.env _ (newList []) false (eval iter X.env) (some (c1Y (.Name y py) X.env))) _ _ s
 refine c5 (a2b (c8E (use:=some (c1Y (.Name y py) X.env)) (Q:=λ_ s'=>SP X pins D .next s') rfl hs hclos hc.kind hc.names
  (thn (hi pins s σ H _ I h) λv s1 h1=>thn h1 λitv s2 ⟨it,fp,tn,J,H2,e,I2,T,st,fpo,R⟩=>?_)) (λ_ s' hq=>p9 (p9 hq)) λ_ _ e=>e)
 subst e;refine b5k (RR:=λacc C=>compPost (model X.prog X.w) X.A X.xe (some (c1Y (.Name y py) X.env)) (λ_ s'=>SP X pins D .next s') acc C) (Q:=λv H1=>D.nx (σ.set i (some v)) H1) hc hcl hcl2 (ht cl) (he cl) I2 T.b (λ_ _ _=>T.c hcalm) st fpo hB R ?_;intro E C s' H' m I' n f1 f2 f3 f4 f5 q;show wpAny _ _ (c1Y (.Name y py) X.env (.ref E)) _ _ _;refine c0r (b6t (v:=.ref E) I' hN hiy (.inl hy) rfl (λs'' I'' ch=>?_) (.inr hy));obtain⟨a,sb,ha⟩:=ch
 have hCa:C≠a:=by
  rcases ha with e | e
  .rw[e];exact f2
  .exact λz=>f4 y a e z.symm
 exact⟨m,n.sameBut sb hCa,λh' sb'=>⟨_,_,I''.turned (t':=s''.toks) (λb o hb e=>(sb'.2 b hb).trans e) f1 f2 (.inr f3) f4 f5,q⟩⟩
def U7(hc:V1 X.N X.env.scope scope x)(hcalm:X.calm=true)(hi:PI X (.Name x px) iter wi)
  (ht:∀cl C fp s3 H3,PTs (b5i X scope cl C x fp s3 H3) ifs tt) (he:∀cl C fp s3 H3,PE (b5i X scope cl C x fp s3 H3) elt te)
  (hs:∀x,a2d iter X.env x=pure x:=by intro _;rfl) :
  PE X (.ListComp elt [⟨.Name x px,iter,ifs,0⟩] scope pos) (V6 wi tt te):=b9j hc hcalm hi (c9h hc) ht he hs
def a7G{py spos:Pos}(hN:X.N.Nodup)(hiy:X.N[i]?=some y)(hy:X.env.scope.names.lookup y=some .local)(hc:V1 X.N X.env.scope scope x)(hcalm:X.calm=true)(hi:PI X (.Name x px) iter wi)
  (ht:∀cl C fp s3 H3,PTs (b5i X scope cl C x fp s3 H3) ifs tt) (he:∀cl C fp s3 H3,PE (b5i X scope cl C x fp s3 H3) elt te)
  (hsw:a6U (.ListComp elt [⟨.Name x px,iter,ifs,0⟩] scope pos) (some (.Name y py)) spos.line X.env=pure true:=by rfl)
  (hs:∀x,a2d iter X.env x=pure x:=by intro _;rfl) :
  PS X (.Assign [.Name y py] (.ListComp elt [⟨.Name x px,iter,ifs,0⟩] scope pos) spos) (λD σ H=>V6 wi tt te σ H λv H1=>D.nx (σ.set i (some v)) H1):=b2X hN hiy hy hc hcalm hi (c9h hc) ht he hsw hs
end
section
def OpR.imp{f:Value->Value->Sem Value}{r r':R2}(h:OpR X f r)(i:∀x y H Q,r' x y H Q->r x y H Q):OpR X f r':=.mk λpins s σ H x y u v Q I rx ry q=>h pins s σ H x y u v Q I rx ry (i _ _ _ _ q)
def W2.imp{f:Value}{r r':List V->Hp->VK->Prop}(h:W2 X f r)(i:∀xs H Q,r' xs H Q->r xs H Q):W2 X f r':=.mk λpins s σ H xs us Q I rx q=>h pins s σ H xs us Q I rx (i _ _ _ q)
def IxR.imp{r r':R2}(h:IxR X r)(i:∀x y H Q,r' x y H Q->r x y H Q):IxR X r':=.mk λvalue slice pins s σ H x y v u Q I rx ry q hs=>by
 exact h value slice pins s σ H x y v u Q I rx ry (i _ _ _ _ q) hs
def SlR.imp{r r':V->Option Int->Option Int->Hp->VK->Prop}(h:SlR X r)(i:∀x lo hi H Q,r' x lo hi H Q->r x lo hi H Q):SlR X r':=.mk λpins s σ H x v vl vu lo hi sl Q I rx hs pl pu q=>h pins s σ H x v vl vu lo hi sl Q I rx hs pl pu (i _ _ _ _ _ q)
def a6G:R2:=λx y H Q=>match x,y with
 |.int i,.int j=>Q (.int (i+j)) H
 |.str i,.str j=>i.length+j.length<=z9/\Q (.str (i++j)) H
 |.ref a,.ref b=>match H a,H b with
  | some (.lst xs),some (.lst ys)=>xs.length+ys.length<=z9/\∀p,H p=none->Q (.ref p) (upd H p (.lst (xs++ys)))
  |_,_=>False
 |_,_=>False
def a1y:OpR X (a5A .Add) a6G:=by
 refine(d0n.or (c1h.or d0m)).imp λx y H Q h=>?_
 unfold a6G at h;split at h
 .exact .inl ⟨_,_,rfl,rfl,h⟩
 .exact .inr (.inl ⟨_,_,rfl,rfl,h.1,h.2⟩)
 .split at h
  .exact .inr (.inr ⟨_,_,_,_,rfl,rfl,by assumption,by assumption,h.1,h.2⟩)
  .exact h.elim
 .exact h.elim
def q2I(C:Int->Int->Prop)(g:Int->Int->V):R2:=λx y H Q=>match x,y with
 |.int i,.int j=>C i j/\Q (g i j) H
 |_,_=>False
def b9f(g:Int->Int->V):R2:=λx y H Q=>match x,y with
 |.int i,.int j=>Q (g i j) H
 |_,_=>False
def c1a{f:Value->Value->Sem Value}{C:Int->Int->Prop}{g:Int->Int->V}(h:OpR X f (rI C g)):OpR X f (q2I C g):=h.imp λx y H Q q=>by
 unfold q2I at q;split at q
 .exact⟨_,_,rfl,rfl,q.1,q.2⟩
 .exact q.elim
def b1g{f:Value->Value->Sem Value}{g:Int->Int->V}(h:OpR X f (rI0 g)):OpR X f (b9f g):=h.imp λx y H Q q=>by
 unfold b9f at q;split at q
 .exact⟨_,_,rfl,rfl,q⟩
 .exact q.elim
abbrev c5o:R2:=b9f λi j=>.int (i - j)
abbrev c3n:R2:=q2I c8w λi j=>.int (i * j)
abbrev b7r:R2:=q2I (λ_ j=>0<j) λi j=>.int (i % j)
abbrev c9S:R2:=q2I (λ_ j=>0<j/\j<2 ^ 64) λi j=>.int (i / j)
abbrev qLt:R2:=b9f λi j=>.bl (decide (i<j))
abbrev qLe:R2:=b9f λi j=>.bl (decide (i<=j))
abbrev qGt:R2:=b9f λi j=>.bl (decide (j<i))
abbrev qGe:R2:=b9f λi j=>.bl (decide (j<=i))
def b3I:OpR X (a5A .Sub) c5o:=b1g d0e
def b1k:OpR X (a5A .Mult) c3n:=c1a d0j
def a6t:OpR X (a5A .Mod) b7r:=c1a d0k
def c2s:OpR X (a5A .FloorDiv) c9S:=c1a (opI λi j _ _ _ _ _ hc q=>by
 have hl:j.natAbs.log2<9000:=by
  have:j.natAbs<2 ^ 64:=by have:=hc.1;have:=hc.2;omega
  by_cases h0:j.natAbs=0
  .rw[h0];decide +kernel
  .exact Nat.lt_trans ((Nat.log2_lt h0).mpr this) (by decide)
 refine floordiv_int (by omega) ?_ (.inl (PyProof.noPylong_of_log2 hl));rw[Int.fdiv_eq_ediv_of_nonneg _ (by omega)];exact q)
def a4b:OpR X (J4 .Lt) qLt:=b1g d1Q
def b7F:OpR X (J4 .LtE) qLe:=b1g d1R
def a7M:OpR X (J4 .Gt) qGt:=b1g d1S
def d0h:OpR X (J4 .GtE) qGe:=b1g d1T
def qIx:R2:=λx y H Q=>match x,y with
 |.ref p,.int i=>match H p with
  | some (.lst xs)=>∃v,atI xs i=some v/\Q v H
  | some (.tup xs)=>∃v,atI xs i=some v/\Q v H
  |_=>False
 |.str z,.int i=>z.length<=z9/\∃c,atI z.cps.toList i=some c/\Q (.str ⟨#[c]⟩) H
 |_,_=>False
def d2Z:IxR X qIx:=c5Y.imp λx y H Q h=>by
 unfold qIx at h;split at h
 .split at h
  .obtain⟨v,e,q⟩:=h;exact .inl ⟨_,_,_,v,rfl,rfl,SqL.of (by assumption),e,q⟩
  .obtain⟨v,e,q⟩:=h;exact .inr (.inl ⟨_,_,_,v,rfl,rfl,SqT.of (by assumption),e,q⟩)
  .exact h.elim
 .obtain⟨z,c,e,q⟩:=h;exact .inr (.inr ⟨_,_,c,rfl,rfl,z,e,q⟩)
 .exact h.elim
def qSl:V->Option Int->Option Int->Hp->VK->Prop:=λx lo hi H Q=>match x with
 |.ref a=>match H a with
  | some (.lst xs)=>∀p,H p=none->Q (.ref p) (upd H p (.lst (a8U xs lo hi)))
  | some (.tup xs)=>¬(HT.sIx xs.length 0 lo=0/\HT.sIx xs.length xs.length hi=xs.length)/\∀p,H p=none->Q (.ref p) (upd H p (.tup (a8U xs lo hi)))
  |_=>False
 |_=>False
def c7a:SlR X qSl:=(c2f.or c9z).imp λx lo hi H Q h=>by
 unfold qSl at h;split at h
 .split at h
  .exact .inl ⟨_,_,rfl,SqL.of (by assumption),h⟩
  .exact .inr ⟨_,_,rfl,SqT.of (by assumption),h.1,h.2⟩
  .exact h.elim
 .exact h.elim
def Z0:List V->Hp->VK->Prop:=λxs H Q=>match xs with
 |[.ref p]=>match H p with
  | some (.lst ys)=>Q (.int ys.length) H
  | some (.tup ys)=>Q (.int ys.length) H
  |_=>False
 |[.str z]=>z.length<=z9/\Q (.int z.length) H
 |_=>False
def A9:W2 X (.builtin "len") Z0:=(b8c.or b8b).imp λxs H Q h=>by
 unfold Z0 at h;split at h
 .split at h
  .exact .inl ⟨_,_,rfl,.inl (SqL.of (by assumption)),h⟩
  .exact .inl ⟨_,_,rfl,.inr (SqT.of (by assumption)),h⟩
  .exact h.elim
 .exact .inr ⟨_,rfl,h.1,h.2⟩
 .exact h.elim
def c7q:List V->Hp->VK->Prop:=λxs H Q=>match xs with
 |[.int i]=>Q (.int (if i<0 then -i else i)) H
 |_=>False
def c4a:W2 X (.builtin "abs") c7q:=c6x.imp λxs H Q h=>by
 unfold c7q at h;split at h
 .exact⟨_,rfl,h⟩
 .exact h.elim
def b2j:V->V->V->Hp->(Hp->Prop)->Prop:=λo i v H Q=>match o,i with
 |.ref p,.int k=>match H p with
  | some (.lst xs)=>∃j,ixN xs.length k=some j/\Q (upd H p (.lst (xs.set j v)))
  |_=>False
 |_,_=>False
def b2V:c4g X b2j:=.mk λpins s σ H o i v u1 u2 u3 Q I r1 r2 r3 h=>by
 refine c4V pins s σ H o i v u1 u2 u3 Q I r1 r2 r3 ?_;unfold b2j at h;split at h
 .split at h
  .obtain⟨j,e,q⟩:=h;exact⟨_,_,_,j,rfl,rfl,by assumption,e,q⟩
  .exact h.elim
 .exact h.elim
def a2p(xs ys:List V):Bool:=(A1 (min xs.length ys.length)).all (λj=>eqV (xs.getD j .non) (ys.getD j .non))&&xs.length == ys.length
def eqO(x y:V)(H:Hp):Option Bool:=if b8O x y=true then some (decide (x=y))else match x,y with
 |.ref a,.ref b=>match H a,H b with
  | some (.tup xs),some (.tup ys)=>if xs.all T1=true/\ys.all T1=true then some (a2p xs ys)else none
  | some (.lst xs),some (.lst ys)=>if xs.all T1=true/\ys.all T1=true then some (a2p xs ys)else none
  |_,_=>none
 |.non,.ref a=>match H a with
  | some (.tup _)=>some false
  |_=>none
 |.ref a,.non=>match H a with
  | some (.tup _)=>some false
  |_=>none
 |_,_=>none
def qEq:R2:=λx y H Q=>∃b,eqO x y H=some b/\Q (.bl b) H
def qNe:R2:=λx y H Q=>∃b,eqO x y H=some b/\Q (.bl (!b)) H
def a9i{A:R0}{ys:List V}{ws:List Value}(rx:L8 xs us)(ry:L8 ys ws)(fx:xs.all T1=true)(fy:ys.all T1=true) :
  ∀j (h1:j<us.toArray.size) (h2:j<ws.toArray.size),SeqAt.EqAt A s us.toArray[j] ws.toArray[j] (eqV (xs.getD j .non) (ys.getD j .non)):=by
 intro j h1 h2;have l1:=rx.length;have l2:=ry.length;have h1':j<us.length:=by simpa using h1
 have h2':j<ws.length:=by simpa using h2
 have e1:xs[j]?=some (xs[j]'(by omega)):=by simp
 have e2:ys[j]?=some (ys[j]'(by omega)):=by simp
 obtain⟨u,hu,ru⟩:=rx.get e1;obtain⟨w,hw,rw'⟩:=ry.get e2
 have z1:us.toArray[j]=u:=by
  have:us[j]?=some us[j]:=by simp
  rw[this]at hu;simpa using hu
 have z2:ws.toArray[j]=w:=by
  have:ws[j]?=some ws[j]:=by simp
  rw[this]at hw;simpa using hw
 rw[z1,z2];have g1:xs.getD j .non=xs[j]'(by omega):=by simp[Q2,e1]
 have g2:ys.getD j .non=ys[j]'(by omega):=by simp[Q2,e2]
 rw[g1,g2];exact c1I ru rw' (P5.mp fx _ (M9 _)) (P5.mp fy _ (M9 _))
def c8S{x y:V}{v:Value}{k:Bool}(I:Inv X pins σ H s)(hu:X.A.units<cLine)(rx:K0 x v)(ry:K0 y u)(hs:¬b8O x y=true)(e:eqO x y H=some k) :
  SeqAt.RcAt X.A s v u k/\SeqAt.RcNeAt X.A s v u (!k):=by
 unfold eqO at e;rw[if_neg hs]at e;split at e
 .rename_i a b
  cases rx;cases ry;split at e
  .rename_i xs ys ha hb
   split at e
   .rename_i hf
    cases e;obtain⟨us,r1,t1,_⟩:=I.tuple (SqT.of ha);obtain⟨ws,r2,t2,_⟩:=I.tuple (SqT.of hb);have l1:=r1.length;have l2:=r2.length;have q1:=SeqAt.RcAt.tuples (A:=X.A) t1 t2 hu (a9i r1 r2 hf.1 hf.2);have q2:=SeqAt.RcNeAt.tuples (A:=X.A) t1 t2 hu (a9i r1 r2 hf.1 hf.2);simp only[u4,<-l1,<-l2]at q1 q2;exact⟨q1,q2⟩
   .cases e
  .rename_i xs ys ha hb
   split at e
   .rename_i hf
    cases e;obtain⟨us,r1,t1,_⟩:=I.list (SqL.of ha);obtain⟨ws,r2,t2,_⟩:=I.list (SqL.of hb);have l1:=r1.length;have l2:=r2.length;by_cases hl:us.toArray.size=ws.toArray.size
    .have q1:=SeqAt.RcAt.lists (A:=X.A) t1.isList t2.isList hl hu (a9i r1 r2 hf.1 hf.2);have q2:=SeqAt.RcNeAt.lists (A:=X.A) t1.isList t2.isList hl hu (a9i r1 r2 hf.1 hf.2);have hl':xs.length=ys.length:=by simpa[<-l1,<-l2]using hl
     have ef:a2p xs ys=(A1 us.toArray.size).all λj=>eqV (xs.getD j .non) (ys.getD j .non):=by
      unfold a2p;rw[hl',c4j,u4,<-l1,hl'];simp
     rw[ef];exact⟨q1,q2⟩
    .have hl2:(us.toArray.size != ws.toArray.size)=true:=by simpa using hl
     have q1:=SeqAt.RcAt.lists_lengths (A:=X.A) t1.isList t2.isList hl2 hu;have q2:=SeqAt.RcNeAt.lists_lengths (A:=X.A) t1.isList t2.isList hl2 hu
     have ef:a2p xs ys=false:=by
      unfold a2p;have:¬xs.length=ys.length:=by simpa[<-l1,<-l2]using hl
      simp[this]
     rw[ef];exact⟨q1,q2⟩
   .cases e
  .cases e
 .cases rx;cases ry;split at e
  .cases e;obtain⟨us,_,t1,_⟩:=I.tuple (SqT.of (by assumption));exact⟨SeqAt.RcAt.none_tuple t1 hu,SeqAt.RcNeAt.none_tuple t1 hu⟩
  .cases e
 .cases rx;cases ry;split at e
  .cases e;obtain⟨us,_,t1,_⟩:=I.tuple (SqT.of (by assumption));exact⟨SeqAt.RcAt.tuple_none t1 hu,SeqAt.RcNeAt.tuple_none t1 hu⟩
  .cases e
 .cases e
def d0i(hu:X.A.units<cLine):OpR X (J4 .Eq) qEq:=.mk λpins s σ H x y v u Q I rx ry h=>by
 obtain⟨k,e,q⟩:=h;by_cases hs:b8O x y=true
 .unfold eqO at e;rw[if_pos hs]at e;cases e;exact d1U pins s σ H x y v u Q I rx ry ⟨hs,q⟩
 .exact(c8S I hu rx ry hs e).1 _ _ _ _ ⟨.bl k,H,I,rfl,q⟩
def d0f(hu:X.A.units<cLine):OpR X (J4 .NotEq) qNe:=.mk λpins s σ H x y v u Q I rx ry h=>by
 obtain⟨k,e,q⟩:=h;by_cases hs:b8O x y=true
 .unfold eqO at e;rw[if_pos hs]at e;cases e;exact d1P pins s σ H x y v u Q I rx ry ⟨hs,q⟩
 .exact(c8S I hu rx ry hs e).2 _ _ _ _ ⟨.bl (!k),H,I,rfl,q⟩
def qIn(neg:Bool):R2:=λx y H Q=>match x,y with
 |.str i,.str j=>Q (.bl (if neg then !(!(Builtin.Str.occurrences j i 0 j.length 1).isEmpty)else !(Builtin.Str.occurrences j i 0 j.length 1).isEmpty)) H
 |x,.ref p=>match H p with
  | some (.lst xs)=>T1 x=true/\xs.all T1=true/\Q (.bl (if neg then !inV x xs else inV x xs)) H
  | some (.tup xs)=>T1 x=true/\xs.all T1=true/\Q (.bl (if neg then !inV x xs else inV x xs)) H
  |_=>False
 |_,_=>False
def b2q:OpR X (J4 .In) (qIn false):=(c3t.or b6C).imp λx y H Q h=>by
 unfold qIn at h;split at h
 .exact .inl ⟨_,_,rfl,rfl,h⟩
 .split at h
  .exact .inr ⟨_,_,rfl,.inl (SqL.of (by assumption)),h.1,h.2.1,h.2.2⟩
  .exact .inr ⟨_,_,rfl,.inr (SqT.of (by assumption)),h.1,h.2.1,h.2.2⟩
  .exact h.elim
 .exact h.elim
def Z9:V->List V->Hp->VK->Prop:=λx vs H Q=>match x,vs with
 |.ref l,[y]=>match H l with
  | some (.lst xs)=>xs.length<z9/\Q .non (upd H l (.lst (xs++[y])))
  |_=>False
 |_,_=>False
def Z1:MtR X "list.append" Z9:=.mk λpins s σ H x xs v us Q I rx rv h=>by
 refine b6D pins s σ H x xs v us Q I rx rv ?_;unfold Z9 at h;split at h
 .split at h
  .exact⟨_,_,_,rfl,rfl,by assumption,h.1,h.2⟩
  .exact h.elim
 .exact h.elim
def a6B:List V->Option (List Str)
 |[]=>some []
 |.str s::r=>(a6B r).map (s :: ·)
 |_=>none
def c0A(ss:List Str):a6B (ss.map V.str)=some ss:=by
 induction ss with
 |nil=>rfl
 |cons s r ih=>simp[a6B,ih]
def b4g:∀ {xs:List V} {us:List Value} {ss:List Str},L8 xs us->a6B xs=some ss->StrsAre us ss
 |_,_,ss,.nil,e=>by cases e;exact .nil
 |x::xs,_,ss,.cons r t,e=>by
  cases x with
  |str s=>
   obtain⟨k,rfl⟩:=r;cases e2:a6B xs with
   |none=>simp[a6B,e2]at e
   |some ss2=>
    simp[a6B,e2]at e;subst e;exact .cons _ _ (b4g t e2)
  |_=>simp[a6B]at e
def b9e:V->List V->Hp->VK->Prop:=λx vs H Q=>match x,vs with
 |.str x,[.ref l]=>match H l with
  | some (.lst xs)=>∃ss,a6B xs=some ss/\(ss.map (·.length)).sum+ss.length * x.length<=16777216/\Q (.str (Txt.join x ss)) H
  |_=>False
 |_,_=>False
def c5N:MtR X "str.join" b9e:=.mk λpins s σ H x xs v us Q I rx rv h=>by
 unfold b9e at h;split at h
 .split at h
  .obtain⟨ss,e,hk,q⟩:=h;obtain⟨t,rfl⟩:=rx;obtain⟨u,rfl,ru⟩:=rv.one;cases ru;obtain⟨its,r,p,hz⟩:=I.list (SqL.of (by assumption));exact join_list p.isList (b4g r e) hk λt' k=>⟨.str _,H,I.tok _,⟨_,rfl⟩,q⟩
  .exact h.elim
 .exact h.elim
def G9(x:V)(H:Hp):Option String:=match x with
 |.non=>some "NoneType"
 |.bl _=>some "bool"
 |.int _=>some "int"
 |.str _=>some "str"
 |.ref a=>match H a with
  | some (.lst _)=>some "list"
  | some (.tup _)=>some "tuple"
  | some (.dK _)=>some "dict"
  | some (.dT _)=>some "dict"
  |_=>none
 |_=>none
def a5Z(t c:String):Bool:=t == c||(t == "bool" && c == "int")
def a7P:List String:=["int","bool","str","list","tuple","dict"]
def d0C(K:Fg):∀t ∈ "NoneType" :: a7P,∀c∈a7P,Y0 K (.type t) (.type c)=some (a5Z t c):=by
 intro t ht c hc;simp only[a7P,t8,G8,or_false]at ht hc;rcases ht with rfl | rfl | rfl | rfl | rfl | rfl | rfl <;> rcases hc with rfl | rfl | rfl | rfl | rfl | rfl <;> kernel_rfl
def c8K{K:Fg}{x:V}{t:String}(h:G9 x H=some t):b2K K H x (.type t)/\t ∈ "NoneType" :: a7P:=by
 unfold G9 at h;split at h
 .cases h;exact⟨.non,by decide⟩
 .cases h;exact⟨.bl _,by decide⟩
 .cases h;exact⟨.int _,by decide⟩
 .cases h;exact⟨.str _,by decide⟩
 .split at h
  .cases h;exact⟨.lst (by assumption),by decide⟩
  .cases h;exact⟨.tup (by assumption),by decide⟩
  .cases h;exact⟨.dK (by assumption),by decide⟩
  .cases h;exact⟨.dT (by assumption),by decide⟩
  .cases h
 .cases h
def a9t:List V->Hp->VK->Prop:=λxs H Q=>match xs with
 |[x,.ty c]=>∃t,G9 x H=some t/\c∈a7P/\Q (.bl (a5Z t c)) H
 |_=>False
def a1l:W2 X (.builtin "isinstance") a9t:=.mk λpins s σ H xs us Q I r h=>by
 unfold a9t at h;split at h
 .obtain⟨t,e,hc,q⟩:=h;obtain⟨u,u2,rfl,ru,ru2⟩:=b2R r;cases ru2;obtain⟨ty,ht⟩:=c8K (K:=X.K) e;exact b2z I ru ty (d0C X.K t ht _ hc) λtk=>⟨.bl _,H,I.tok _,rfl,q⟩
 .exact h.elim
def c5r:V->V->Hp->VK->Prop:=λx y H Q=>match x,y with
 |.ref p,.int i=>match H p with
  | some (.lst xs)=>0<=i/\∃v,xs[i.toNat]?=some v/\Q v H
  |_=>False
 |_,_=>False
def d2b:c8s X c5r:=.mk λpins s σ H o i ov iv Q I r1 r2 h=>by
 unfold c5r at h;split at h
 .split at h
  .obtain⟨h0,v,e,q⟩:=h;cases r1;obtain⟨t,rfl⟩:=r2;obtain⟨its,r,pl,hz⟩:=I.list (SqL.of (by assumption));obtain⟨u,eu,ru⟩:=r.get e;have hl:=(u0.mp e).1;have hn:=b0u;exact wpAny_getItem_list pl.isList h0 (by omega) (by simpa using eu) ⟨v,H,I,ru,q⟩
  .exact h.elim
 .exact h.elim
def qIs:R2:=λx y H Q=>y=.non/\Q (.bl (decide (x=.non))) H
def c0X:R2:=λx y H Q=>y=.non/\Q (.bl (!decide (x=.non))) H
def d0g:OpR X (J4 .Is) qIs:=d0l
def b6B:OpR X (J4 .IsNot) c0X:=c7E
structure K9(P:A4)(w:World)(K:Fg)(mg:Str->Option Value)(base:Heap)(k:Nat)(x:Str)(ps:List Str)(sp:Sp):Prop where
 ex:∃f fd,E3 P w K mg base CX0 k f fd ps sp/\mg x=some (.ref f)/\O8 K (.ref f)=true/\a2R K fd ps []
def c9Z{k:Nat}{x:Str}{e:Expr}{es:List Expr}{t:TA}{p:Pos}(C:K9 X.prog X.w X.K X.mg X.base k x ps sp)(hr:Q1 j X.A)(hk:k<=j)(hg:Gl X x)(ha:PA X (e::es) t)
  (hdb:(x == ("__debug__" : Str))=false:=by decide) (he:u6 (e::es) X.env=(false,eval e X.env)::u6 es X.env:=by rfl) (hpl:(a0v pos (u6 es X.env)).any (·.1)=false:=by rfl) :
  PE X (.Call (.Name x p) (e::es) [] pos) (z7 sp [] E0 t):=by
 obtain⟨f,fd,F,hm,hkp,hb⟩:=C.ex;exact c7A F (hr.mono hk) hg hm hkp hb .nil b6A ha hdb he hpl
def c3X{P:A4}{K:Fg}{mg:Str->Option Value}{base:Heap}{k:Nat}{x q:Str}{st:Stmt}{f:Addr}{fd:Q5}(F:Fun K x q st f fd)(O:E3 P w K mg base CX0 k f fd ps sp)
  (hm:mg x=some (.ref f)) (hb:a2R K fd ps []):K9 P w K mg base k x ps sp:=⟨f,fd,O,hm,F.kp,hb⟩
def a5T:List V->Hp->VK->Prop:=λxs H Q=>match xs with
 |[.ref p]=>match H p with
  | some (.lst ys)=>∀l,H l=none->Q (.ref l) (upd H l (.lst ys))
  | some (.tup ys)=>∀l,H l=none->Q (.ref l) (upd H l (.lst ys))
  |_=>False
 |_=>False
def a0T:W2 X (.type "list") a5T:=b8a.imp λxs H Q h=>by
 unfold a5T at h;split at h
 .split at h
  .exact⟨_,_,rfl,.inl (SqL.of (by assumption)),h⟩
  .exact⟨_,_,rfl,.inr (SqT.of (by assumption)),h⟩
  .exact h.elim
 .exact h.elim
def b3Z:∀ {kvs:List (Key×V)} {k:Key} {x:V},(kvs.map (·.1)).Nodup->(k,x)∈kvs->a7t kvs k=some x
 |[],_,_,_,h=>by cases h
 | (k0,x0)::r,k,x,nd,h=>by
  have nd':k0∉r.map (·.1)/\(r.map (·.1)).Nodup:=a0X.mp nd;unfold a7t;rw[a0k];by_cases e:k0=k
  .rw[show decide (((k0,x0):Key×V).1=k)=true from d4E e];rcases t8.mp h with z | z
   .cases z;rfl
   .exact absurd (F5.mpr ⟨_,z,e.symm⟩) nd'.1
  .rw[show decide (((k0,x0):Key×V).1=k)=false from d4D e];rcases t8.mp h with z | z
   .cases z;exact absurd rfl e
   .exact b3Z nd'.2 z
end
def Its(x:Str):It:=⟨λi _=>i<x.length,λi H v H'=>H'=H/\∃c,x.cps[i]?=some c/\v=.str ⟨#[c]⟩,λi _=>x.length<=i⟩
def c4H{P:A4}{K:Fg}{tg:Expr}(x:Str)(t:Tok)(it:Addr):b6h P w K tg (Its x) [it] it (λi h=>h.IsStrIter it (a6z x) x t i) where
 mem:=by simp
 obj:=λi h st b hb=>by
  have e:b=it:=by simpa using hb
  subst e;obtain⟨o,e,c,d⟩:=st;exact⟨o,e,λv z=>by rw[d]at z;cases z⟩
 keep:=λi h h' st k=>let⟨o,ho,r⟩:=st; ⟨o,k it (by simp) o ho,r⟩
 item:=by
  intro X hP hw hK hc i pins s σ H E I hf st hg;subst hP hw hK;have hi:i<x.cps.size:=hg;obtain⟨f0,f1,f2,f3,f4,f5⟩:=hf it (by simp);have hx:x.cps[i]?=some x.cps[i]:=by simp[hi]
  have fin:∀h',h'.IsStrIter it (a6z x) x t (i+1)->Heap.SameBut it s.heap h'->∃u,some (Value.str ⟨#[x.cps[i]]⟩ s.toks)=some u /\
    wpAny (model X.prog X.w) X.A (a5x tg (.ref it) u) (λ_ s2=>∃v H',Inv X pins σ H' s2/\K0 v u/\(Its x).yld i H v H'/\s2.heap.IsStrIter it (a6z x) x t (i+1)/\∀b∈[it],H' b=none) E { s with heap:=h',toks:=s.toks+1 }:=by
   intro h' st' sb;have I1:Inv X pins σ H { s with heap:=h',toks:=s.toks+1 }:=I.turned (t':=s.toks+1) (λb o hb e=>(sb.2 b hb).trans e) f0 f1 f3 f4 f5;obtain⟨o,e,c,d⟩:=id st';refine⟨_,rfl,c6d (s:={ s with heap:=h',toks:=s.toks+1 }) e c d ?_ ⟨.str ⟨#[x.cps[i]]⟩,H,I1,⟨_,rfl⟩,⟨rfl,_,hx,rfl⟩,st',λb hb=>(hf b hb).1⟩⟩;unfold a6z;split <;> decide
  unfold a6z at st fin ⊢;split at st
  .rename_i ha
   simp only[ha]at fin ⊢;exact wpAny_pyNext_ascii_item st hx λh' st' sb=>fin h' st' sb
  .rename_i ha
   simp only[ha]at fin ⊢;exact wpAny_pyNext_wide_item st hx λh' st' sb=>fin h' st' sb
 done:=by
  intro X hP hw hK hc i pins s σ H E I hf st hg;subst hP hw hK;have hi:x.cps.size<=i:=hg;obtain⟨f0,f1,f2,f3,f4,f5⟩:=hf it (by simp);have hx:x.cps[i]?=none:=by simp[hi]
  unfold a6z at st;split at st
  .exact wpAny_pyNext_ascii_end (I.ok.hd hc) st hx λh' eb=>⟨rfl,I.turned (t':=s.toks) (λb o hb e=>eb b o hb e) f0 f1 f3 f4 f5⟩
  .exact wpAny_pyNext_wide_end (I.ok.hd hc) st hx λh' eb=>⟨rfl,I.turned (t':=s.toks) (λb o hb e=>eb b o hb e) f0 f1 f3 f4 f5⟩
 self:=λ_ _ _ _ _ st h=>by
  unfold a6z at st;split at st
  .exact wpAny_pyIter_striter_ascii st h
  .exact wpAny_pyIter_striter_wide st h
def d0L(tl:TE):TI:=λσ H R=>tl σ H λv H1=>∃x,v=.str x/\R (Its x) H1
section
variable {tg:Expr}
def c9X{l:Expr}{tl:TE}(hl:PE X l tl):PI X tg l (d0L tl):=.mk λpins s σ H R I h=>by
 refine thn (hl pins s σ H _ I h) λv s1 ⟨y,H1,I1,r1,x,e,q1⟩=>?_
 subst e;obtain⟨t,rfl⟩:=r1;refine wpAny_pyIter_strU ?_;have k:∀b u,s1.heap.get? b=some u->(s1.heap.push { cls:=.type (a6z x),data:=.fields #[.str x t,.int 0 0] }).get? b=some u:=λb u q=>j7 _ q
 refine⟨s1.heap.objs.size,[s1.heap.objs.size],_,Its x,H1,rfl,I1.kept (t':=s1.toks) k,c4H x t _,⟨_,C7 _ rfl,rfl,rfl⟩,λb hb=>?_,q1⟩;have e:b=s1.heap.objs.size:=by simpa using hb
 subst e;exact I1.fpOk (j8 _) I1.fresh
def a0G:List V->Option (List Bool)
 |[]=>some []
 |.bl b::r=>(a0G r).map (b :: ·)
 |_=>none
def b2I:∀ {xs:List V} {bs:List Bool} {i:Nat} {x:V},a0G xs=some bs->xs[i]?=some x->∃b,bs[i]?=some b/\x=.bl b
 |[],_,_,_,_,h=>by simp at h
 |y::r,bs,i,x,e,h=>by
  cases y with
  |bl b=>
   cases e2:a0G r with
   |none=>simp[a0G,e2]at e
   |some bs2=>
    simp[a0G,e2]at e;subst e;cases i with
    |zero=>simp at h;exact⟨b,rfl,h.symm⟩
    |succ i=>
     obtain⟨b',h1,h2⟩:=b2I (i:=i) e2 (by simpa using h);exact⟨b',by simpa using h1,h2⟩
  |_=>simp[a0G]at e
def b2H:∀ {xs:List V} {bs:List Bool},a0G xs=some bs->xs.length=bs.length
 |[],_,e=>by cases e;rfl
 |y::r,bs,e=>by
  cases y with
  |bl b=>
   cases e2:a0G r with
   |none=>simp[a0G,e2]at e
   |some bs2=>
    simp[a0G,e2]at e;subst e;simp[b2H e2]
  |_=>simp[a0G]at e
def c4f(bs:List Bool):((A1 bs.length).all λi=>(bs[i]?).getD true)=bs.all id:=by
 rw[a2a,P5,P5];constructor
 .intro h b hb;obtain⟨i,hi,rfl⟩:=List.mem_iff_getElem.mp hb;have:=h i (by simpa using hi);simpa[hi]using this
 .intro h i hi;have hl:i<bs.length:=by simpa using hi
  have:=h bs[i] (M9 _);simpa[hl]using this
def b7u:List V->Hp->VK->Prop:=λvs H Q=>match vs with
 |[.ref l]=>match H l with
  | some (.lst xs)=>∃bs,a0G xs=some bs/\Q (.bl (bs.all id)) H
  |_=>False
 |_=>False
def b2G(hc:X.calm=true):W2 X (.builtin "all") b7u:=.mk λpins s σ H xs us Q I r h=>by
 unfold b7u at h;split at h
 .split at h
  .rename_i l _ ys hl
   obtain⟨bs,e,q⟩:=h;obtain⟨u,rfl,ru⟩:=a6W r;cases ru;obtain⟨its,rv,pl,hz⟩:=I.list (SqL.of hl);have hlt:l<s.heap.objs.size:=by obtain⟨_,e,_⟩:=pl.isList;exact l5 e
   have hlen:=rv.length;have hbl:=b2H e;refine call_all_walk (b0D pl.isList ?_)
   refine⟨s.heap.objs.size,[s.heap.objs.size,l],[s.heap.objs.size],its.toArray.size,_,_,λi=>(bs[i]?).getD true,rfl,Walks.list (A:=X.A.in1) (I.ok.hd hc) _ l (A3 hlt) its.toArray,
    ⟨⟨_,C7 _ rfl,rfl,rfl⟩,pl.isList.push _⟩,λi v s' Q' E' hP hQ=>?_,λh' tk hk=>?_⟩
   .have hP:its[i]?=some v:=by simpa using hP
    have hi:i<ys.length:=by rw[hlen];exact(u0.mp hP).1
    have ey:ys[i]?=some ys[i]:=by simp[hi]
    obtain⟨b,eb,ez⟩:=b2I e ey;obtain⟨u,eu,ru⟩:=rv.get ey;rw[hP]at eu;cases eu;rw[ez]at ru;cases ru;simp only[eb,a4U]at hQ;exact T3 hQ
   .have e2:((A1 its.toArray.size).all λi=>(bs[i]?).getD true)=bs.all id:=by
     rw[u4,<-hlen,hbl];exact c4f bs
    rw[e2];exact⟨.bl _,H,I.kept (t':=tk) λb x e=>hk b x (λhm=>by rw[l7.mp hm]at e;exact O0 _ (l5 e)) (j7 _ e),rfl,q⟩
  .exact h.elim
 .exact h.elim
end
section
def Inv.turnedL{h':Heap}{t':Nat}(I:Inv X pins σ H s)(k:∀b o,b∉fp->s.heap.get? b=some o->h'.get? b=some o)(hf:∀b∈fp,a4S X pins H b) :
  Inv X pins σ H { s with heap:=h',toks:=t' }:=by
 have nit:∀b u,H b=some u->b∉fp:=λb u e z=>by rw[(hf b z).1]at e;cases e
 refine I.step (g':=s.gens) (d':=s.drawn) (ch:=fp) (λb hb=>?_) (λb o _ _ hc e _=>k b o hc e) (λb o _ _ hc e _=>⟨o.slots,k b o hc e⟩) (λ_ _ _ _ n=>n)
  (λb o hc e=>⟨o,k b o hc e⟩) (λ_ _ e=>e) (λ_ _ _ e=>e) (λb ps e=>⟨#[],by rw[e];simp⟩) (λm hm=>?_) (λb u e=>?_) I.bare
 .obtain⟨_,f1,_,f3,f4,f5⟩:=hf b hb;exact⟨f3,f1,f4,f5⟩
 .obtain⟨o,es,ep,ho,r⟩:=hm;exact⟨o,es,ep,k _ o (λz=>(hf _ z).2.1 rfl) ho,r⟩
 .refine(I.hok b u e).stay (λc v hc q=>k c v ?_ q) (λ_ q=>q) λ_ _ q=>q
  rcases hc with z | z
  .rw[z];exact nit b u e
  .exact nit c _ z
def Inv.pairL{h':Heap}{t':Nat}{x y:V}{v:Value}(I:Inv X pins σ H s)(hf:∀b∈fp,a4S X pins H b)(fl:∀b∈fp,b≠s.heap.objs.size)
  (rx:K0 x u) (ry:K0 y v) (ht:h'.get? s.heap.objs.size=some { cls:=.type "tuple",data:=.seq #[u,v] }) (k:∀b o,b∉fp->s.heap.get? b=some o->h'.get? b=some o) :
  Inv X pins σ (upd H s.heap.objs.size (.tup [x,y])) { s with heap:=h',toks:=t' }:=by
 have I1:Inv X pins σ (upd H s.heap.objs.size (.tup [x,y])) { s with heap:=s.heap.push { cls:=.type "tuple",data:=.seq #[u,v] },toks:=s.toks }:=
  I.laid (λb u e=>j7 _ e) (j8 _) ⟨by show 2<=z9;decide,[u,v],.cons rx (.cons ry .nil),⟨_,C7 _ rfl,rfl,_,rfl⟩⟩
 refine Inv.turnedL (s:={ s with heap:=s.heap.push { cls:=.type "tuple",data:=.seq #[u,v] },toks:=s.toks }) (fp:=fp) I1 (λb o hb e=>?_) λb hb=>⟨by rw[i9 (fl b hb)];exact(hf b hb).1,(hf b hb).2⟩
 by_cases hz:b=s.heap.objs.size
 .subst hz;have e2:=C7 s.heap (o:={ cls:=.type "tuple",data:=.seq #[u,v] }) rfl;rw[show(s.heap.push { cls:=.type "tuple",data:=.seq #[u,v] }).get? s.heap.objs.size=some o from e]at e2;cases e2;exact ht
 .refine k b o hb ?_;have e:(s.heap.push { cls:=.type "tuple",data:=.seq #[u,v] }).get? b=some o:=e
  rwa [Heap.get?_push_ne _ _ _ hz]at e
def Ite(K:Fg)(a:Addr):It:=
 ⟨λi H=>∃xs x,SqL K H a xs/\xs[i]?=some x,λi H v H'=>∃p x,H p=none/\v=.ref p/\H'=upd H p (.tup [.int i,x])/\∀xs,SqL K H a xs->xs[i]?=some x,λi H=>∃xs,SqL K H a xs/\xs.length<=i⟩
def c2Z{P:A4}{K:Fg}{x1}(a e it:Addr)(hne:e≠it):b6h P w K (.Tuple elts x1 tp) (Ite K a) [e,it] e (λi h=>(∃old,IsEnum h e it i old)/\h.IsListIter it a i) where
 mem:=by simp
 obj:=λi h st b hb=>by
  obtain⟨⟨old,he⟩,o,e1,c,d⟩:=st;rcases t8.mp hb with rfl | hb
  .exact⟨_,he,λv z=>by
    have z':Data.fields _=Data.cell v:=z;cases z'⟩
  .have:b=it:=by simpa using hb
   subst this;exact⟨o,e1,λv z=>by rw[d]at z;cases z⟩
 keep:=λi h h' st k=>by
  obtain⟨⟨old,he⟩,hi⟩:=st;exact⟨⟨old,k e (by simp) _ he⟩,hi.at λo q=>k it (by simp) o q⟩
 item:=by
  intro X hP hw hK hc i pins s σ H E I hf st hg;subst hP hw hK;obtain⟨⟨old,he⟩,hit⟩:=st;obtain⟨xs,x,hq,hx⟩:=hg;obtain⟨its,rv,p,hz⟩:=I.list hq;obtain⟨u,hu,ru⟩:=rv.get hx;refine wpAny_pyNext_enum_item he hit p.isList (x:=u) (by simpa using hu) hne λh1 ho hit1 hT hsz hk=>?_
  refine⟨_,rfl,?_⟩;refine wpAny_letOwnedTupleGo_enum (s:={ s with heap:=h1,toks:=s.toks+1 }) ho λh2 he2 hs2=>?_
  have hs2:Heap.SameBut e h1 h2:=hs2;have le:e≠s.heap.objs.size:=A3 (l5 he);have li:it≠s.heap.objs.size:=by obtain⟨_,q,_⟩:=hit;exact A3 (l5 q)
  have fl:∀b∈[e,it],b≠s.heap.objs.size:=λb hb=>by
   rcases t8.mp hb with rfl | hb
   .exact le
   .have:b=it:=by simpa using hb
    subst this;exact li
  have I2:=I.pairL (h':=h2) (t':=s.toks+1) (x:=.int i) (y:=x) (u:=.int i s.toks) (v:=u) hf fl ⟨_,rfl⟩ ru ((hs2.2 _ (Ne.symm le)).trans hT) λb o hb q=>by
   have n1:b≠e:=λz=>hb (by simp[z])
   have n2:b≠it:=λz=>hb (by simp[z])
   exact(hs2.2 b n1).trans (hk b o n1 n2 q)
  refine⟨.ref s.heap.objs.size,_,I2,rfl,⟨_,x,I.fresh,rfl,rfl,λys hy=>by rw[I.list_inj hy hq];exact hx⟩,⟨⟨u,by simpa using he2⟩,hit1.at λo q=>(hs2.2 it (Ne.symm hne)).trans q⟩,λb hb=>?_⟩;rw[i9 (fl b hb)];exact(hf b hb).1
 done:=by
  intro X hP hw hK hc i pins s σ H E I hf st hg;subst hP hw hK;obtain⟨⟨old,he⟩,hit⟩:=st;obtain⟨xs,hq,hx⟩:=hg;obtain⟨its,rv,p,hz⟩:=I.list hq;obtain⟨f0,f1,f2,f3,f4,f5⟩:=hf it (by simp);have hl:=rv.length;exact wpAny_pyNext_enum_end (I.ok.hd hc) he hit p.isList (by simp;omega) λh' eb=>⟨rfl,I.turned (t':=s.toks) (λb o hb e=>eb b o hb e) f0 f1 f3 f4 f5⟩
 self:=λ_ _ _ _ _ st h=>by
  obtain⟨⟨old,he⟩,_⟩:=st;exact wpAny_pyIter_enum he h
def a8l(K:Fg)(ta:TA):TI:=λσ H R=>ta σ H λvs H1=>∃a,vs=[.ref a]/\(∃xs,SqL K H1 a xs)/\R (Ite K a) H1
def a5r{x1}{a:Expr}{ta:TA}(hg:Gl X "enumerate")(hm:X.mg "enumerate"=none)(ha:PA X [a] ta)(hs:u6 [a] X.env=[(false,eval a X.env)]:=by rfl) :
  PI X (.Tuple elts x1 tp) (.Call (.Name "enumerate" p) [a] [] pos) (a8l X.K ta):=.mk λpins s σ H R I h=>by
 refine Call_ (b2w I hg hm boot_enumerate (a1G (thn (ha pos pins s σ H _ I h) λus s1 ⟨vs,H1,I1,r1,q1⟩=>?_) hs rfl));obtain⟨b,e,⟨xs,hq⟩,q⟩:=q1;subst e;cases r1 with
 |cons r rr=>
  cases rr;cases r;obtain⟨its,rv,pl,hz⟩:=I1.list hq;refine call_enumerate_list pl.isList λh' he hit hsz hk=>?_
  have I2:Inv X pins σ H1 { s1 with heap:=h' }:=I1.kept (t':=s1.toks) hk;refine wpAny_pyIter_enum he ⟨_,[s1.heap.objs.size+1,s1.heap.objs.size],_,_,H1,rfl,I2,c2Z b (s1.heap.objs.size+1) s1.heap.objs.size (Nat.succ_ne_self _),⟨⟨_,he⟩,hit⟩,λc hc=>?_,q⟩;rcases t8.mp hc with rfl | hc
  .exact I1.fpOk (by omega) (I1.hok.fresh (by omega))
  .have:c=s1.heap.objs.size:=by simpa using hc
   subst this;exact I1.fpOk (j8 _) (I1.hok.fresh (j8 _))
def Itz(K:Fg)(a b:Addr):It:=
 ⟨λi H=>∃xs ys x y,SqL K H a xs/\SqL K H b ys/\xs[i]?=some x/\ys[i]?=some y,λi H v H'=>∃p x y,H p=none/\v=.ref p/\H'=upd H p (.tup [x,y])/\(∀xs,SqL K H a xs->xs[i]?=some x)/\∀ys,SqL K H b ys->ys[i]?=some y,
  λi H=>∃xs ys,SqL K H a xs/\SqL K H b ys/\(xs.length<=i\/ys.length<=i)⟩
def Z4{h:Heap}{a b:Addr}{o o':Obj}(h1:h.get? a=some o)(h2:h.get? b=some o')(hc:o.cls≠o'.cls):a≠b:=λz=>by
 subst z;rw[h1]at h2;cases h2;exact hc rfl
def c4G{P:A4}{K:Fg}{x1}(a b z TI TO i1 i2:Addr)(n1:TI≠z)(n2:TO≠z)(n3:i1≠z)(n4:i2≠z)(n5:TI≠TO)(n6:TI≠i1)(n7:TI≠i2)(n8:TO≠i1)(n9:TO≠i2)(n10:i1≠i2) :
  b6h P w K (.Tuple elts x1 tp) (Itz K a b) [z,TI,TO,i1,i2] z (λi h=>IsZip h z TI TO .none/\IsPair h TI (.ref i1) (.ref i2)/\(∃u v,IsPair h TO u v)/\h.IsListIter i1 a i/\h.IsListIter i2 b i) where
 mem:=by simp
 obj:=λi h st c hb=>by
  obtain⟨hz,hTI,⟨u,v,hTO⟩,⟨o1,e1,c1,d1⟩,⟨o2,e2,c2,d2⟩⟩:=st;simp only[t8,G8,or_false]at hb;rcases hb with rfl | rfl | rfl | rfl | rfl
  .exact⟨_,hz,λv z=>by
    have z':Data.fields _=Data.cell v:=z;cases z'⟩
  .exact⟨_,hTI,λv z=>by
    have z':Data.seq _ _=Data.cell v:=z;cases z'⟩
  .exact⟨_,hTO,λv z=>by
    have z':Data.seq _ _=Data.cell v:=z;cases z'⟩
  .exact⟨o1,e1,λv z=>by rw[d1]at z;cases z⟩
  .exact⟨o2,e2,λv z=>by rw[d2]at z;cases z⟩
 keep:=λi h h' st k=>by
  obtain⟨hz,hTI,⟨u,v,hTO⟩,h1,h2⟩:=st;exact⟨k z (by simp) _ hz,k TI (by simp) _ hTI,⟨u,v,k TO (by simp) _ hTO⟩,h1.at λo q=>k i1 (by simp) o q,h2.at λo q=>k i2 (by simp) o q⟩
 item:=by
  intro X hP hw hK hc i pins s σ H E I hf st hg;subst hP hw hK;obtain⟨hz,hTI,⟨u,v,hTO⟩,h1,h2⟩:=st;obtain⟨xs,ys,x,y,hqa,hqb,hx,hy⟩:=hg;obtain⟨ia,ra,pa,za⟩:=I.list hqa;obtain⟨ib,rb,pb,zb⟩:=I.list hqb;obtain⟨ux,hux,rux⟩:=ra.get hx;obtain⟨uy,huy,ruy⟩:=rb.get hy;obtain⟨oa,la,ca,_⟩:=id pa.isList;obtain⟨ob,lb,cb,_⟩:=id pb.isList;obtain⟨o1,e1,c1,_⟩:=id h1;obtain⟨o2,e2,c2,_⟩:=id h2
  have D:ZipApart z TI TO i1 i2 a b:=⟨n1,n2,n3,n4,n5,n6,n7,n8,n9,n10,
   Z4 la hz (by rw[ca];intro z;injection z with z;revert z;decide),Z4 la hTO (by rw[ca];intro z;injection z with z;revert z;decide),Z4 la e1 (by rw[ca,c1];intro z;injection z with z;revert z;decide),Z4 la e2 (by rw[ca,c2];intro z;injection z with z;revert z;decide),
   Z4 lb hz (by rw[cb];intro z;injection z with z;revert z;decide),Z4 lb hTO (by rw[cb];intro z;injection z with z;revert z;decide),Z4 lb e1 (by rw[cb,c1];intro z;injection z with z;revert z;decide),Z4 lb e2 (by rw[cb,c2];intro z;injection z with z;revert z;decide)⟩
  refine wpAny_pyNext_zip_item D hz hTI hTO h1 h2 pa.isList pb.isList (x:=ux) (y:=uy) (by simpa using hux) (by simpa using huy) λh3 a1 a2 a3 a4 a5 a6 hk=>?_
  refine⟨_,rfl,?_⟩;refine wpAny_letOwnedTupleGo_zip (s:={ s with heap:=h3 }) a1 λh4 hz4 hs4=>?_
  have hs4:Heap.SameBut z h3 h4:=hs4;have lz:z≠s.heap.objs.size:=A3 (l5 hz)
  have fl:∀c∈[z,TI,TO,i1,i2],c≠s.heap.objs.size:=λc hc=>by
   simp only[t8,G8,or_false]at hc;rcases hc with rfl | rfl | rfl | rfl | rfl
   .exact lz
   .exact A3 (l5 hTI)
   .exact A3 (l5 hTO)
   .exact A3 (l5 e1)
   .exact A3 (l5 e2)
  have I2:=I.pairL (h':=h4) (t':=s.toks) (x:=x) (y:=y) (u:=ux) (v:=uy) hf fl rux ruy ((hs4.2 _ (Ne.symm lz)).trans a5) λc o hc q=>by
   have m1:c≠z:=λz=>hc (by simp[z])
   have m3:c≠TO:=λz=>hc (by simp[z])
   have m4:c≠i1:=λz=>hc (by simp[z])
   have m5:c≠i2:=λz=>hc (by simp[z])
   exact(hs4.2 c m1).trans (hk c o m1 m3 m4 m5 q)
  refine⟨.ref s.heap.objs.size,_,I2,rfl,⟨_,x,y,I.fresh,rfl,rfl,λzs hy=>by rw[I.list_inj hy hqa];exact hx,λzs hy'=>by rw[I.list_inj hy' hqb];exact hy⟩,
   ⟨hz4,hs4.extBut _ _ n1 (hk _ _ n1 n5 n6 n7 hTI),⟨_,_,hs4.extBut _ _ n2 a2⟩,a3.extBut hs4.extBut n3,a4.extBut hs4.extBut n4⟩,λc hc=>?_⟩
  rw[i9 (fl c hc)];exact(hf c hc).1
 done:=by
  intro X hP hw hK hc i pins s σ H E I hf st hg;subst hP hw hK;obtain⟨hz,hTI,⟨u,v,hTO⟩,h1,h2⟩:=st;obtain⟨xs,ys,hqa,hqb,hx⟩:=hg;obtain⟨ia,ra,pa,za⟩:=I.list hqa;obtain⟨ib,rb,pb,zb⟩:=I.list hqb;obtain⟨oa,la,ca,_⟩:=id pa.isList;obtain⟨ob,lb,cb,_⟩:=id pb.isList;obtain⟨o1,e1,c1,_⟩:=id h1;obtain⟨o2,e2,c2,_⟩:=id h2
  have D:ZipApart z TI TO i1 i2 a b:=⟨n1,n2,n3,n4,n5,n6,n7,n8,n9,n10,
   Z4 la hz (by rw[ca];intro z;injection z with z;revert z;decide),Z4 la hTO (by rw[ca];intro z;injection z with z;revert z;decide),Z4 la e1 (by rw[ca,c1];intro z;injection z with z;revert z;decide),Z4 la e2 (by rw[ca,c2];intro z;injection z with z;revert z;decide),
   Z4 lb hz (by rw[cb];intro z;injection z with z;revert z;decide),Z4 lb hTO (by rw[cb];intro z;injection z with z;revert z;decide),Z4 lb e1 (by rw[cb,c1];intro z;injection z with z;revert z;decide),Z4 lb e2 (by rw[cb,c2];intro z;injection z with z;revert z;decide)⟩
  have la':=ra.length;have lb':=rb.length
  have hend:ia.toArray[i]?=none\/ib.toArray[i]?=none:=by
   rcases hx with hx | hx
   .left;simp;omega
   .right;simp;omega
  refine wpAny_pyNext_zip_end (I.ok.hd hc) D hz hTI hTO h1 h2 pa.isList pb.isList hend λh' hk=>⟨rfl,?_⟩
  refine I.turnedL (t':=s.toks) (fp:=[z,TI,TO,i1,i2]) (λc o hc q=>?_) hf;exact hk c o (λz=>hc (by simp[z])) (λz=>hc (by simp[z])) (λz=>hc (by simp[z])) (λz=>hc (by simp[z])) q
 self:=λ_ _ _ _ _ st h=>wpAny_pyIter_zip st.1 h
def d0K(K:Fg)(ta:TA):TI:=λσ H R=>ta σ H λvs H1=>∃a b,vs=[.ref a,.ref b]/\(∃xs,SqL K H1 a xs)/\(∃xs,SqL K H1 b xs)/\R (Itz K a b) H1
def c9W{x1}{a b:Expr}{ta:TA}(hg:Gl X "zip")(hm:X.mg "zip"=none)(ha:PA X [a,b] ta)(hs:u6 [a,b] X.env=[(false,eval a X.env),(false,eval b X.env)]:=by rfl)(hs2:u6 [b] X.env=[(false,eval b X.env)]:=by rfl) :
  PI X (.Tuple elts x1 tp) (.Call (.Name "zip" p) [a,b] [] pos) (d0K X.K ta):=.mk λpins s σ H R I h=>by
 refine Call_ (b2w I hg hm boot_zip (a1G (thn (ha pos pins s σ H _ I h) λus s1 ⟨vs,H1,I1,r1,q1⟩=>?_) (by rw[hs,hs2]) (by rw[hs2];rfl)));obtain⟨c,d,e,⟨xs,hq⟩,⟨ys,hq'⟩,q⟩:=q1;subst e;cases r1 with
 |cons r rr=>
  cases rr with
  |cons r' rr=>
   cases rr;cases r;cases r';obtain⟨ia,ra,pa,za⟩:=I1.list hq;obtain⟨ib,rb,pb,zb⟩:=I1.list hq';refine call_zip_2 pa.isList pb.isList λh' hz hTI hTO h1 h2 hsz hk=>?_
   have I2:Inv X pins σ H1 { s1 with heap:=h' }:=I1.kept (t':=s1.toks) hk;have N:∀n:Nat,n+2≠n+4/\n+3≠n+4/\n≠n+4/\n+1≠n+4/\n+2≠n+3/\n+2≠n/\n+2≠n+1/\n+3≠n/\n+3≠n+1/\n≠n+1:=λn=>by omega
   obtain⟨m1,m2,m3,m4,m5,m6,m7,m8,m9,m10⟩:=N s1.heap.objs.size
   refine wpAny_pyIter_zip hz ⟨_,[s1.heap.objs.size+4,s1.heap.objs.size+2,s1.heap.objs.size+3,s1.heap.objs.size,s1.heap.objs.size+1],_,_,H1,rfl,I2,
    c4G c d (s1.heap.objs.size+4) (s1.heap.objs.size+2) (s1.heap.objs.size+3) s1.heap.objs.size (s1.heap.objs.size+1) m1 m2 m3 m4 m5 m6 m7 m8 m9 m10,⟨hz,hTI,⟨_,_,hTO⟩,h1,h2⟩,λy hy=>?_,q⟩
   have:s1.heap.objs.size<=y:=by
    simp only[t8,G8,or_false]at hy;rcases hy with rfl | rfl | rfl | rfl | rfl
    .exact a8Y _ _
    .exact a8Y _ _
    .exact a8Y _ _
    .exact j8 _
    .exact a8Y _ _
   exact I1.fpOk this (I1.hok.fresh this)
end
abbrev a9k(X:Cx)(scope:Scope)(cl:List (Str×Addr))(C:Addr)(x y:Str):=Y3 X scope cl C [x,y]
abbrev a9n(N:List Str)(osc sc:Scope)(x y:Str):=a7Z N osc sc [x,y]
def B2(K:Fg):TB:=λx H P=>∃a u v,x=.ref a/\SqT K H a [u,v]/\P [some u,some v]
def a9S(K:Fg)(wi:TI)(tt:TT)(te:TE):TE:=λσ H Q=>wi σ H λJ H1=>c0f (B2 K) tt te Q σ J H1
section
variable {x x2:Str}{px py2 pt:Pos}{kt}
def c9g(hc:a9n X.N X.env.scope scope x x2)(hcalm:X.calm=true):BOk X scope [x,x2] (B2 X.K) (.Tuple [.Name x px,.Name x2 py2] kt pt):=by
 intro cl σ C fp s3 H3 pins s H v u P I r q;obtain⟨pa,u1,u2,rfl,hsq,q⟩:=q;have o1:=a8d (env:=X.env) (hc.own x (by simp));have o2:=a8d (env:=X.env) (hc.own x2 (by simp))
 have hpg:PG (a9k X scope cl C x x2 fp s3 H3) (.Tuple [.Name x px,.Name x2 py2] kt pt) (b3w X.K 2 (a1T (z8 0) (a1T (z8 1) b3x))):=
  a6I (X:=a9k X scope cl C x x2 fp s3 H3) hcalm (S9 (b7B (i:=0) hc.nd rfl (.inl o1) (.inr o1)) (S9 (b7B (i:=1) hc.nd rfl (.inl o2) (.inr o2)) a4J))
 refine thn (hpg _ s (none::none::σ) H (.ref pa) u (λσ' H'=>σ'=some u1::some u2::σ/\H'=H) I r ⟨pa,[u1,u2],rfl,hsq,rfl,_,_,rfl,_,_,rfl,rfl,rfl,rfl⟩) λ_ s7 ⟨σ7,H7,I7,e7,e7'⟩=>?_
 subst e7 e7';exact⟨[some u1,some u2],rfl,I7,q⟩
def b9i(hc:a9n X.N X.env.scope scope x x2)(hcalm:X.calm=true)(hi:PI X (.Tuple [.Name x px,.Name x2 py2] kt pt) iter wi)
  (ht:∀cl C fp s3 H3,PTs (a9k X scope cl C x x2 fp s3 H3) ifs tt) (he:∀cl C fp s3 H3,PE (a9k X scope cl C x x2 fp s3 H3) elt te)
  (hs:∀x,a2d iter X.env x=pure x:=by intro _;rfl) :
  PE X (.ListComp elt [⟨.Tuple [.Name x px,.Name x2 py2] kt pt,iter,ifs,0⟩] scope pos) (a9S X.K wi tt te):=b9j hc hcalm hi (c9g hc hcalm) ht he hs
end
section
variable {x x2:Str}{px py2 pt:Pos}{kt:Nat}
def b9g{py spos:Pos}(hN:X.N.Nodup)(hiy:X.N[i]?=some y)(hy:X.env.scope.names.lookup y=some .local)(hc:a9n X.N X.env.scope scope x x2)(hcalm:X.calm=true)(hi:PI X (.Tuple [.Name x px,.Name x2 py2] kt pt) iter wi)
  (ht:∀cl C fp s3 H3,PTs (a9k X scope cl C x x2 fp s3 H3) ifs tt) (he:∀cl C fp s3 H3,PE (a9k X scope cl C x x2 fp s3 H3) elt te)
  (hsw:a6U (.ListComp elt [⟨.Tuple [.Name x px,.Name x2 py2] kt pt,iter,ifs,0⟩] scope pos) (some (.Name y py)) spos.line X.env=pure true:=by rfl)
  (hs:∀x,a2d iter X.env x=pure x:=by intro _;rfl) :
  PS X (.Assign [.Name y py] (.ListComp elt [⟨.Tuple [.Name x px,.Name x2 py2] kt pt,iter,ifs,0⟩] scope pos) spos) (λD σ H=>a9S X.K wi tt te σ H λv H1=>D.nx (σ.set i (some v)) H1):=b2X hN hiy hy hc hcalm hi (c9g hc hcalm) ht he hsw hs
end
section
def c7p:List V->Hp->VK->Prop:=λxs H Q=>match xs with
 |[.int i,.int j]=>Q (.int (if j<i then j else i)) H
 |_=>False
def c3Y(hc:X.calm=true):W2 X (.builtin "min") c7p:=(c4b hc).imp λxs H Q h=>by
 unfold c7p at h;split at h
 .exact⟨_,_,rfl,h⟩
 .exact h.elim
def c4e:∀bs:List Bool,((A1 bs.length).any λi=>(bs[i]?).getD false)=bs.any id:=by
 intro bs;induction bs with
 |nil=>rfl
 |cons b r ih=>
  rw[D4,List.range_succ_eq_map,a3C,d2D,a3C];rw[<-ih];rfl
def c3o:List V->Hp->VK->Prop:=λvs H Q=>match vs with
 |[.ref l]=>match H l with
  | some (.lst xs)=>∃bs,a0G xs=some bs/\Q (.bl (bs.any id)) H
  |_=>False
 |_=>False
def c3Z(hc:X.calm=true):W2 X (.builtin "any") c3o:=.mk λpins s σ H xs us Q I r h=>by
 unfold c3o at h;split at h
 .split at h
  .rename_i l _ ys hl
   obtain⟨bs,e,q⟩:=h;obtain⟨u,rfl,ru⟩:=a6W r;cases ru;obtain⟨its,rv,pl,hz⟩:=I.list (SqL.of hl);have hlt:l<s.heap.objs.size:=by obtain⟨_,e,_⟩:=pl.isList;exact l5 e
   have hlen:=rv.length;have hbl:=b2H e;refine call_any_walk (b0D pl.isList ?_)
   refine⟨s.heap.objs.size,[s.heap.objs.size,l],[s.heap.objs.size],its.toArray.size,_,_,λi=>(bs[i]?).getD false,rfl,Walks.list (A:=X.A.in1) (I.ok.hd hc) _ l (A3 hlt) its.toArray,
    ⟨⟨_,C7 _ rfl,rfl,rfl⟩,pl.isList.push _⟩,λi v s' Q' E' hP hQ=>?_,λh' tk hk=>?_⟩
   .have hP:its[i]?=some v:=by simpa using hP
    have hi:i<ys.length:=by rw[hlen];exact(u0.mp hP).1
    have ey:ys[i]?=some ys[i]:=by simp[hi]
    obtain⟨b,eb,ez⟩:=b2I e ey;obtain⟨u,eu,ru⟩:=rv.get ey;rw[hP]at eu;cases eu;rw[ez]at ru;cases ru;simp only[eb,a4U]at hQ;exact T3 hQ
   .have e2:((A1 its.toArray.size).any λi=>(bs[i]?).getD false)=bs.any id:=by
     rw[u4,<-hlen,hbl];exact c4e bs
    rw[e2];exact⟨.bl _,H,I.kept (t':=tk) λb x e=>hk b x (λhm=>by rw[l7.mp hm]at e;exact O0 _ (l5 e)) (j7 _ e),rfl,q⟩
  .exact h.elim
 .exact h.elim
def a5h:List V->Option (List Int)
 |[]=>some []
 |.int i::r=>(a5h r).map (i :: ·)
 |_=>none
def b5a(ns:List Int):a5h (ns.map V.int)=some ns:=by
 induction ns with
 |nil=>rfl
 |cons s r ih=>simp[a5h,ih]
def a8T:∀ {xs:List V} {us:List Value} {ss:List Int},L8 xs us->a5h xs=some ss->c9w us ss
 |_,_,ss,.nil,e=>by cases e;exact .nil
 |x::xs,_,ss,.cons r t,e=>by
  cases x with
  |int s=>
   obtain⟨k,rfl⟩:=r;cases e2:a5h xs with
   |none=>simp[a5h,e2]at e
   |some ss2=>
    simp[a5h,e2]at e;subst e;exact .cons _ _ (a8T t e2)
  |_=>simp[a5h]at e
def b1f:List V->Hp->VK->Prop:=λvs H Q=>match vs with
 |[.ref l]=>match H l with
  | some (.lst xs)=>∃ns,a5h xs=some ns/\ns.length<64/\∀(p:Addr) (ms:List Int),ms.Perm ns->ms.Pairwise (· <= ·)->H p=none->Q (.ref p) (upd H p (.lst (ms.map V.int)))
  |_=>False
 |_=>False
def b7Z:W2 X (.builtin "sorted") b1f:=.mk λpins s σ H xs us Q I r h=>by
 unfold b1f at h;split at h
 .split at h
  .rename_i l _ ys hl
   obtain⟨ns,e,hn,q⟩:=h;obtain⟨u,rfl,ru⟩:=a6W r;cases ru;obtain⟨its,rv,pl,hz⟩:=I.list (SqL.of hl);have hi:=a8T rv e;have hil:=hi.length;refine sorted_ints pl.isList hi (by omega) λout ns' a1 a2 a3=>?_
   obtain⟨c,he⟩:=sortedAll_at s.heap its out;have hl':=a2.length_eq;refine⟨.ref _,_,I.laid (t':=s.toks) (a:=s.heap.objs.size+1) (o:=.lst (ns'.map V.int)) (λb ob q=>sortedAll_old q) (a4q _) ?_,rfl,q _ ns' a2 a3 (I.hok.fresh (a4q _))⟩;refine⟨by rw[b8,sizeLine_eq];omega,out.toList,c,b1R a1,?_⟩;exact he
  .exact h.elim
 .exact h.elim
def b4w:V->List V->Hp->VK->Prop:=λx vs H Q=>match x,vs with
 |.ref l,[.int k]=>match H l with
  | some (.lst xs)=>∃ns,a5h xs=some ns/\ns.length<10000/\k∈ns/\Q (.int (ns.idxOf k:Nat)) H
  |_=>False
 |_,_=>False
def c3C:MtR X "list.index" b4w:=.mk λpins s σ H x xs v us Q I rx rv h=>by
 unfold b4w at h;split at h
 .split at h
  .rename_i l k _ ys hl
   obtain⟨ns,e,hn,hk,q⟩:=h;cases rx;obtain⟨u,rfl,⟨t,rfl⟩⟩:=rv.one;obtain⟨its,r,pl,hz⟩:=I.list (SqL.of hl);have hi:=a8T r e;obtain⟨⟨cls,dd,data,sl⟩,ho,hc,n,hd⟩:=id pl.isList;simp only at hc hd;subst hc hd;have hlen:=hi.length;have hj:ns.idxOf k<ns.length:=c0o.mpr hk
   refine b5G b8u ⟨_,ho,rfl⟩ PySem.F.entry_list_index (PySem.F.args_list_index_2 _ _)
    (PySem.SeqAt.list_indexAt l its.toArray n dd sl (.int k t) (isInt k) (ns.idxOf k) (by simpa[hlen]using hj) (by omega) ?_ ?_) ⟨ho,λy hy=>(eq_isInt k t hi y (by simpa using hy)).at _ _,⟨.int _,H,I.tok _,⟨_,rfl⟩,q⟩⟩
   .show isInt k its[ns.idxOf k]=true;rw[isInt_at k hi _ (by omega) hj];simpa using List.getElem_idxOf hj
   .intro j hjs hlt;show isInt k its[j]=false;rw[isInt_at k hi j (by simpa using hjs) (by omega)];exact ne_of_lt_idxOf hlt _
  .exact h.elim
 .exact h.elim
def a9e:V->List V->Hp->VK->Prop:=λx vs H Q=>match x,vs with
 |.ref l,[.ref b]=>match H l,H b with
  | some (.lst xs),some (.lst zs)=>xs.length+zs.length<=z9/\Q .non (upd H l (.lst (xs++zs)))
  |_,_=>False
 |_,_=>False
def b4T:MtR X "list.extend" a9e:=.mk λpins s σ H x xs v us Q I rx rv h=>by
 refine c3D pins s σ H x xs v us Q I rx rv ?_;unfold a9e at h;split at h
 .split at h
  .exact⟨_,_,_,_,rfl,rfl,by assumption,by assumption,h.1,h.2⟩
  .exact h.elim
 .exact h.elim
def c5p:V->List V->Hp->VK->Prop:=λx vs H Q=>match x,vs with
 |.ref l,[]=>match H l with
  | some (.lst xs)=>∃y,xs[xs.length - 1]?=some y/\Q y (upd H l (.lst xs.dropLast))
  |_=>False
 |_,_=>False
def c7R:MtR X "list.pop" c5p:=.mk λpins s σ H x xs v us Q I rx rv h=>by
 refine d0u pins s σ H x xs v us Q I rx rv ?_;unfold c5p at h;split at h
 .split at h
  .obtain⟨y,e,q⟩:=h;exact⟨_,_,y,rfl,rfl,by assumption,e,q⟩
  .exact h.elim
 .exact h.elim
def a4y:List V->Hp->VK->Prop:=λxs H Q=>match xs with
 |[.ref p]=>match H p with
  | some (.dK kvs)=>∀l,H l=none->Q (.ref l) (upd H l (.lst (kvs.map λkv=>kV kv.1)))
  |_=>False
 |_=>False
def d1Y{P:A4}{k:Key}(r:(O6 P w).is k u=true):K0 (kV k) u:=by
 rcases a0h (show b4Y k u=true from r)with ⟨i,t,rfl,rfl⟩ | ⟨x,t,rfl,rfl⟩
 .exact⟨t,rfl⟩
 .exact⟨t,rfl⟩
def b6W:∀ {xs:List V} {us:List Value},xs.length=us.length->(∀(i:Nat) x u,xs[i]?=some x->us[i]?=some u->K0 x u)->L8 xs us
 |[],[],_,_=>.nil
 |x::xs,u::us,hl,h=>.cons (h 0 x u rfl rfl) (b6W (by simpa using hl) λi y v a b=>h (i+1) y v (by simpa using a) (by simpa using b))
 |[],u::us,hl,_=>by cases hl
 |x::xs,[],hl,_=>by cases hl
def c9f:∀ {l:List (Key×V)} {la:List (Key×Value)} {i:Nat} {k:Key} {x:Value},KV l la->la[i]?=some (k,x)->∃y,l[i]?=some (k,y)
 |p::l,q::la,0,k,x,h,e=>by
  have h:Paired _ _ _:=h;cases h with
  |cons h t=>
   cases e;exact⟨p.2,by rw[c1U];rw[show k=p.1 from h.1.symm]⟩
 |p::l,q::la,i+1,k,x,h,e=>by
  have h:Paired _ _ _:=h;cases h with
  |cons h t => 
   obtain⟨y,hy⟩:=c9f (i:=i) (show KV l la from t) (by simpa using e);exact⟨y,by simpa using hy⟩
 |[],la,i,k,x,h,e=>by
  have h:Paired _ _ _:=h;cases h;cases e
 |p::l,[],i,k,x,h,e=>by
  have h:Paired _ _ _:=h;cases h
def a3x(hc:X.calm=true):W2 X (.type "list") a4y:=.mk λpins s σ H xs us Q I r h=>by
 unfold a4y at h;split at h
 .split at h
  .rename_i p _ kvs hp
   obtain⟨u,rfl,ru⟩:=a6W r;cases ru;obtain⟨hz,hS,vs,rk,hD⟩:=c6o I.hok hp;obtain⟨ep,hat⟩:=hD.dictAt;have hl:=Paired.length rk;refine c6F (PySem.W.kdl_dict (knd:=O6 X.prog X.w) (kvs:=vs) (ep:=ep) hS) (I.ok.hd hc) hat (by omega) λh' tk acc c hk ha hit=>?_
   refine⟨.ref _,_,I.laid (t':=tk) (a:=s.heap.objs.size) (o:=.lst (kvs.map λkv=>kV kv.1)) hk (j8 _) ?_,rfl,h _ (I.hok.fresh (j8 _))⟩;refine⟨by rw[b8];exact hz,acc.toList,c,?_,by simpa using ha⟩;refine b6W (by have:=hit.1;rw[b8];simp;omega) λi x u a b=>?_
   obtain⟨k,y,e1,e2⟩:=hit.2 i u (by rw[<-a0D];exact b);obtain⟨z,e3⟩:=c9f rk e1;rw[b6,e3]at a;cases a;exact d1Y e2
  .exact h.elim
 .exact h.elim
inductive Dq(K:Fg)(H:Hp):Nat->V->V->Prop
 | flat {n:Nat} {x:V}:T1 x=true->Dq K H n x x
 | tup {n:Nat} {a b:Addr} {xs ys:List V}:SqT K H a xs->SqT K H b ys->xs.length=ys.length->(∀(j:Nat) x y,xs[j]?=some x->ys[j]?=some y->Dq K H n x y)->Dq K H (n+1) (.ref a) (.ref b)
 | lst {n:Nat} {a b:Addr} {xs ys:List V}:SqL K H a xs->SqL K H b ys->xs.length=ys.length->(∀(j:Nat) x y,xs[j]?=some x->ys[j]?=some y->Dq K H n x y)->Dq K H (n+1) (.ref a) (.ref b)
def c6h{x:V}(h:T1 x=true):eqV x x=true:=by
 cases x with
 |non=>rfl
 |bl b=>simp[eqV]
 |int i=>simp[eqV]
 |str s=>simp[eqV]
 |byt b=>cases h
 |flt b=>cases h
 |ref a=>cases h
 |ty n=>cases h
def b1C{n:Nat}:(A1 n).all (λ_=>true)=true:=by simp
def Dq.both(I:Inv X pins σ H s){n:Nat}{x y:V}(d:Dq X.K H n x y):∀ {A:R0} {v u:Value},A.units+n<cLine->K0 x v->K0 y u ->
  SeqAt.EqAt A s v u true/\(∀a b,x=.ref a->y=.ref b->SeqAt.RcAt A s v u true/\SeqAt.RcNeAt A s v u false):=by
 induction d with
 |@flat n x hf=>
  intro A v u hu rv ru;refine⟨?_,λa b e=>by subst e;cases hf⟩;have:=c1I (A:=A) (s:=s) rv ru hf hf
  rwa [c6h hf]at this
 |@tup n a b xs ys ha hb hl hq ih=>
  intro A v u hu rv ru;cases rv;cases ru;obtain⟨us,r1,t1,_⟩:=I.tuple ha;obtain⟨ws,r2,t2,_⟩:=I.tuple hb;have l1:=r1.length;have l2:=r2.length
  have el:∀j (h1:j<us.toArray.size) (h2:j<ws.toArray.size),SeqAt.EqAt A.in1 s us.toArray[j] ws.toArray[j] true:=by
   intro j h1 h2;have h1':j<xs.length:=by simpa[l1]using h1
   have h2':j<ys.length:=by simpa[l2]using h2
   obtain⟨u1,e1,q1⟩:=r1.get (i:=j) (x:=xs[j]) (by simp);obtain⟨u2,e2,q2⟩:=r2.get (i:=j) (x:=ys[j]) (by simp)
   have z1:us.toArray[j]=u1:=by
    have:=(u0.mp e1).2;simpa using this
   have z2:ws.toArray[j]=u2:=by
    have:=(u0.mp e2).2;simpa using this
   rw[z1,z2];exact(ih j _ _ (by simp) (by simp) (A:=A.in1) (by show A.units+1+n<cLine;omega) q1 q2).1
  have c1:SeqAt.RcAt A s (.ref a) (.ref b) true:=by
   have q:=SeqAt.RcAt.tuples (A:=A) (e:=λ_=>true) t1 t2 (by omega) el;have e:us.toArray.size=ws.toArray.size:=by simp[<-l1,<-l2,hl]
   rw[b1C,e,beq_self_eq_true]at q;exact q
  have c2:SeqAt.RcNeAt A s (.ref a) (.ref b) false:=by
   have q:=SeqAt.RcNeAt.tuples (A:=A) (e:=λ_=>true) t1 t2 (by omega) el;have e:us.toArray.size=ws.toArray.size:=by simp[<-l1,<-l2,hl]
   rw[b1C,e,beq_self_eq_true]at q;exact q
  refine⟨?_,λ_ _ _ _=>⟨c1,c2⟩⟩;by_cases e:a=b
  .subst e;exact SeqAt.EqAt.same _
  .exact SeqAt.EqAt.of_refs e c1
 |@lst n a b xs ys ha hb hl hq ih=>
  intro A v u hu rv ru;cases rv;cases ru;obtain⟨us,r1,t1,_⟩:=I.list ha;obtain⟨ws,r2,t2,_⟩:=I.list hb;have l1:=r1.length;have l2:=r2.length
  have el:∀j (h1:j<us.toArray.size) (h2:j<ws.toArray.size),SeqAt.EqAt A.in1 s us.toArray[j] ws.toArray[j] true:=by
   intro j h1 h2;have h1':j<xs.length:=by simpa[l1]using h1
   have h2':j<ys.length:=by simpa[l2]using h2
   obtain⟨u1,e1,q1⟩:=r1.get (i:=j) (x:=xs[j]) (by simp);obtain⟨u2,e2,q2⟩:=r2.get (i:=j) (x:=ys[j]) (by simp)
   have z1:us.toArray[j]=u1:=by
    have:=(u0.mp e1).2;simpa using this
   have z2:ws.toArray[j]=u2:=by
    have:=(u0.mp e2).2;simpa using this
   rw[z1,z2];exact(ih j _ _ (by simp) (by simp) (A:=A.in1) (by show A.units+1+n<cLine;omega) q1 q2).1
  have e:us.toArray.size=ws.toArray.size:=by simp[<-l1,<-l2,hl]
  have c1:SeqAt.RcAt A s (.ref a) (.ref b) true:=by
   have q:=SeqAt.RcAt.lists (A:=A) (e:=λ_=>true) t1.isList t2.isList e (by omega) el;rw[b1C]at q;exact q
  have c2:SeqAt.RcNeAt A s (.ref a) (.ref b) false:=by
   have q:=SeqAt.RcNeAt.lists (A:=A) (e:=λ_=>true) t1.isList t2.isList e (by omega) el;rw[b1C]at q;exact q
  refine⟨?_,λ_ _ _ _=>⟨c1,c2⟩⟩;by_cases e:a=b
  .subst e;exact SeqAt.EqAt.same _
  .exact SeqAt.EqAt.of_refs e c1
def c9R(K:Fg):R2:=λx y H Q=>∃a b n,x=.ref a/\y=.ref b/\n<=20/\Dq K H n x y/\Q (.bl true) H
def b3q(K:Fg):R2:=λx y H Q=>∃a b n,x=.ref a/\y=.ref b/\n<=20/\Dq K H n x y/\Q (.bl false) H
def c2r{k:Nat}(hr:Q1 k X.A):OpR X (J4 .Eq) (c9R X.K):=by
 constructor;intro pins s σ H x y v u Q I rx ry ⟨a,b,n,e1,e2,hn,d,q⟩;have hu:=hr.units;exact((d.both I (A:=X.A) (by omega) rx ry).2 a b e1 e2).1 _ _ _ _ ⟨.bl true,H,I,rfl,q⟩
def a6s{k:Nat}(hr:Q1 k X.A):OpR X (J4 .NotEq) (b3q X.K):=by
 constructor;intro pins s σ H x y v u Q I rx ry ⟨a,b,n,e1,e2,hn,d,q⟩;have hu:=hr.units;exact((d.both I (A:=X.A) (by omega) rx ry).2 a b e1 e2).2 _ _ _ _ ⟨.bl false,H,I,rfl,q⟩
def c5s(K:Fg):R2:=λx y H Q=>∃a b xs ys,x=.ref a/\y=.ref b/\SqT K H a xs/\SqT K H b ys/\xs.all T1=true/\ys.all T1=true/\Q (.bl (a2p xs ys)) H
def b7G{k:Nat}(hr:Q1 k X.A):OpR X (J4 .Eq) (c5s X.K):=by
 constructor;intro pins s σ H x y v u Q I rx ry ⟨a,b,xs,ys,e1,e2,ha,hb,fx,fy,q⟩;have hu:=hr.units;subst e1 e2;cases rx;cases ry;obtain⟨us,r1,t1,_⟩:=I.tuple ha;obtain⟨ws,r2,t2,_⟩:=I.tuple hb;have l1:=r1.length;have l2:=r2.length;have q1:=SeqAt.RcAt.tuples (A:=X.A) t1 t2 (by omega) (a9i r1 r2 fx fy);simp only[u4,<-l1,<-l2]at q1;exact q1 _ _ _ _ ⟨.bl (a2p xs ys),H,I,rfl,q⟩
def c5q(K:Fg):R2:=λx y H Q=>∃a b xs ys,x=.ref a/\y=.ref b/\SqT K H a xs/\SqT K H b ys/\xs.all T1=true/\ys.all T1=true/\Q (.bl (!a2p xs ys)) H
def b3J{k:Nat}(hr:Q1 k X.A):OpR X (J4 .NotEq) (c5q X.K):=by
 constructor;intro pins s σ H x y v u Q I rx ry ⟨a,b,xs,ys,e1,e2,ha,hb,fx,fy,q⟩;have hu:=hr.units;subst e1 e2;cases rx;cases ry;obtain⟨us,r1,t1,_⟩:=I.tuple ha;obtain⟨ws,r2,t2,_⟩:=I.tuple hb;have l1:=r1.length;have l2:=r2.length;have q1:=SeqAt.RcNeAt.tuples (A:=X.A) t1 t2 (by omega) (a9i r1 r2 fx fy);simp only[u4,<-l1,<-l2]at q1;exact q1 _ _ _ _ ⟨.bl (!a2p xs ys),H,I,rfl,q⟩
def d1N(K:Fg):R2:=λx y H Q=>∃p xs,y=.ref p/\SqT K H p xs/\T1 x=true/\xs.all T1=true/\Q (.bl (inV x xs)) H
def c7D:OpR X (J4 .In) (d1N X.K):=b6C.imp λx y H Q ⟨p,xs,e,h1,h2,h3,q⟩=>⟨p,xs,e,.inr h1,h2,h3,q⟩
def d1L(K:Fg):R2:=λx y H Q=>∃p i xs v,x=.ref p/\y=.int i/\SqT K H p xs/\atI xs i=some v/\Q v H
def d1Z:IxR X (d1L X.K):=c5Y.imp λx y H Q ⟨p,i,xs,v,e1,e2,h,e,q⟩=>.inr (.inl ⟨p,xs,i,v,e1,e2,h,e,q⟩)
def a5U{e c:Option Expr}:PS X (.Raise e c pos) (λ_ _ _=>False):=.mk λ_ _ _ _ _ _ h=>h.elim
structure b1G(P:A4)(w:World)(K:Fg)(mg:Str->Option Value)(base:Heap)(k:Nat)(x:Str)(C:Addr)(ps:List Str)(sp:Sp):Prop where
 ex:∃f fd,E3 P w K mg base CX0 k f fd ps sp/\mg x=some (.ref C)/\Mk K C f/\a2R K fd ps []
def d1O{k:Nat}{x:Str}{e:Expr}{es:List Expr}{t:TA}{p:Pos}(M:b1G X.prog X.w X.K X.mg X.base k x C ps sp)(hr:Q1 j X.A)(hk:k+1<=j)(hg:Gl X x)(ha:PA X (e::es) t)
  (hdb:(x == ("__debug__" : Str))=false:=by decide) (he:u6 (e::es) X.env=(false,eval e X.env)::u6 es X.env:=by rfl) (hpl:(a0v pos (u6 es X.env)).any (·.1)=false:=by rfl) :
  PE X (.Call (.Name x p) (e::es) [] pos) (a2e C sp [] E0 t):=by
 obtain⟨f,fd,F,hm,hM,hb⟩:=M.ex;exact c2q hM F (hr.mono hk) hg hm hb .nil b6A ha hdb he hpl
structure V0(P:A4)(w:World)(K:Fg)(mg:Str->Option Value)(base:Heap)(k:Nat)(m:Str)(C:Addr)(ps:List Str)(sp:Sp):Prop where
 ex:∃f fd,E3 P w K mg base CX0 k f fd ps sp/\Cls K C/\c8u K C m f/\a2R K fd ps []
def d0a{pl:Sem Bool}{k:Nat}{m:Str}{o e:Expr}{es:List Expr}{ta:TE}{t:TA}{apos:Pos}(M:V0 X.prog X.w X.K X.mg X.base k m C ps sp)(hr:Q1 j X.A)(hk:k<=j)(ho:PE X o ta)(ha:PA X (e::es) t)
  (hst:u6 (e::es) X.env=(false,eval e X.env)::u6 es X.env:=by rfl) (hpl:(a0v pos (u6 es X.env)).any (·.1)=false:=by rfl)
  (ht:eval (.Call (.Attribute o m apos) (e::es) [] pos) X.env=(do
   let ov <-eval o X.env
   b3V apos.atName
   let(f,first) <-a7q [ov] (b0E ov m pl)
   c4o pos f first (a0v pos (u6 (e::es) X.env)) (a5B pos (a1f [] X.env))):=by rfl) :
  PE X (.Call (.Attribute o m apos) (e::es) [] pos) (Q6 C m sp [] E0 ta t):=by
 obtain⟨f,fd,F,c,hm,hb⟩:=M.ex;exact c7y (pl:=pl) ho c hm F (hr.mono hk) hb .nil b6A ha hst hpl ht
def c7x{pl:Sem Bool}{k:Nat}{m:Str}{o:Expr}{ta:TE}{apos:Pos}(M:V0 X.prog X.w X.K X.mg X.base k m C ps sp)(hr:Q1 j X.A)(hk:k<=j)(ho:PE X o ta)
  (ht:eval (.Call (.Attribute o m apos) [] [] pos) X.env=(do
   let ov <-eval o X.env
   b3V apos.atName
   let(f,first) <-a7q [ov] (b0E ov m pl)
   c4o pos f first (a0v pos (u6 [] X.env)) (a5B pos (a1f [] X.env))):=by rfl) :
  PE X (.Call (.Attribute o m apos) [] [] pos) (Q6 C m sp [] E0 ta i8):=by
 obtain⟨f,fd,F,c,hm,hb⟩:=M.ex;exact c5w (pl:=pl) ho c hm F (hr.mono hk) hb .nil b6A ht
end
def b1d{env:Env}:∀ {names:List (Str×a9z)} {y:Str},names.lookup y=some .free ->
  (names.map λ(n,k)=>if(k == NameKind.free&&env.scope.kind == .function&&env.kindOf n == some .cell)then (n,NameKind.cell)else (n,k)).lookup y=some .cell \/
  (names.map λ(n,k)=>if(k == NameKind.free&&env.scope.kind == .function&&env.kindOf n == some .cell)then (n,NameKind.cell)else (n,k)).lookup y=some .free
 |[],_,h=>by cases h
 | (n,k0)::r,y,h=>by
  have ih := @b1d env r y;rw[M4]at h;rw[J7];dsimp only;cases hx:y == n with
  |true=>
   rw[hx]at h;cases h;by_cases hc:(NameKind.free == NameKind.free&&env.scope.kind == .function&&env.kindOf n == some .cell)=true
   .rw[if_pos hc,M4,hx];exact .inl rfl
   .rw[if_neg hc,M4,hx];exact .inr rfl
  |false=>
   rw[hx]at h;by_cases hc:(k0 == NameKind.free&&env.scope.kind == .function&&env.kindOf n == some .cell)=true
   .rw[if_pos hc,M4,hx];exact ih h
   .rw[if_neg hc,M4,hx];exact ih h
def c2x{sc1 sc:Scope}(h:∀y∈sc.names,y.2=.free->sc1.names.lookup y.1=some .free):∀y∈sc.names,y.2=.free->(c4w sc1 env).names.lookup y.1=some .cell\/(c4w sc1 env).names.lookup y.1=some .free:=
 λy hy e=>b1d (h y hy e)
end L2
namespace PySem
open Sem (wp)
namespace F
def lk_list_keys:c8F (.type "list") "keys"=pure none:=by rw[typeLookup_type,d1r];kernel_rfl
def lk_list_getattr:c8F (.type "list") "__getattr__"=pure none:=by rw[typeLookup_type,d1r];kernel_rfl
end F
section
variable {prog:A4}{w:World}{A:R0}{E:Value->j6->Prop}{h:Heap}{g:Array GenState}{d:Drawn}{t:Nat}{os:OsState}{a:Addr}{xs:Array Value}{n:Nat}{sl:Array (Option Value)}
def keys_entry_list{tk:Tok}{Q:Fin->j6->Prop}(hh:A.handled=none)(hx:h.get? a=some ⟨.type "list",none,.seq xs n,sl⟩)(he:∀h' t' e,Heap.NewAttrErr h h' e (.ref a) "keys" -> E (.ref e) ⟨h',g,d,t',os⟩) :
  wpAny (model prog w) A (d2K.«object.__getattribute__» ⟨[.ref a,.str "keys" tk],[]⟩) Q E ⟨h,g,d,t,os⟩:=by
 have hT:(⟨h,g,d,t,os⟩:j6).TypeIs (.ref a) "list" := ⟨_,hx,rfl⟩;have f4:=F.lk_list_keys;have f5:=F.lk_list_getattr
 repeat (any_goals (first | assumption | wp_step))
 exact wpAny_raiseAttrError hh he (attrMsg_fits (by decide +kernel) (by decide +kernel))
def keys_call_list{tk:Tok}{R:b8z->j6->Prop}(hh:A.handled=none)(hx:h.get? a=some ⟨.type "list",none,.seq xs n,sl⟩)(he:∀h' t' e,Heap.NewAttrErr h h' e (.ref a) "keys" -> R (.error (.ref e)) ⟨h',g,d,t',os⟩) :
  a5z (model prog w) A (.call (.builtin "list.__getattribute__") ⟨[.ref a,.str "keys" tk],[]⟩) R ⟨h,g,d,t,os⟩:=
 codeAny_call_builtin F.slot_list_getattribute.plain F.entry_list_ga (F.slot_list_getattribute.check _ _ _ _ _ _ _ _ (show(⟨h,g,d,t,os⟩:j6).TypeIs (.ref a) "list" from⟨_,hx,rfl⟩) (F.args_list_getattribute_2 _ _) (keys_entry_list hh hx he))
def keys_attr_list{Q:Option Value->j6->Prop}(hh:A.handled=none)(hx:h.get? a=some ⟨.type "list",none,.seq xs n,sl⟩)(hq:∀h' t',(∀b ob,h.get? b=some ob->h'.get? b=some ob)->Q none ⟨h',g,d,t',os⟩) :
  wpAny (model prog w) A (getAttr? (.ref a) "keys") Q E ⟨h,g,d,t,os⟩:=by
 have hT:(⟨h,g,d,t,os⟩:j6).TypeIs (.ref a) "list" := ⟨_,hx,rfl⟩;have f2:=F.slot_list_getattribute.lookup;have f3:=F.slot_list_getattribute.bind (.ref a);unfold getAttr? getAttrBy?
 repeat (any_goals (first | assumption | wp_step))
 refine keys_call_list hh hx λh' t' e ne=>?_
 obtain⟨t'',u',he⟩:=ne.there;have f1:=sub_AttributeError;have f5:=F.lk_list_getattr;show wpAny _ _ (getattributeRaised _ _ _ _ _ _ _) _ _ _;unfold getattributeRaised
 repeat (any_goals (first | assumption | wp_step))
 exact hq _ _ ne.keeps
end
end PySem
namespace PySem
open Sem (wp)
namespace F
def entry_update_loop:entryFor table "dict.update.loop"=some d2K.«dict.update.loop» := entryFor_of_tree (by kernel_rfl)
def plain_update_loop:plainId "dict.update.loop"=true:=by decide +kernel
end F
section
variable {prog:A4}{w:World}{K:Type}[DecidableEq K]{knd:KeyKind prog w K}{A:R0}{s:j6}{R:b8z->j6->Prop}
def prsF(ps:List (K×Value)):List (K×Value):=ps.foldl (λm p=>c8G m p.1 p.2) []
def prsF_snoc(ps:List (K×Value))(p:K×Value):prsF (ps++[p])=c8G (prsF ps) p.1 p.2:=by unfold prsF;rw[List.foldl_append];rfl
def update_loop_g{d I l:Addr}{items:Array Value}{ps:List (Value×Value)}{DD:Nat->Heap->Prop}(hh:A.handled=none)(hdI:d≠I)(hld:l≠d)(hlI:l≠I)(hn:items.size=ps.length)(res:Value){h₁:Heap}(hl:h₁.IsList l items)
  (hp:∀(i:Nat) k v,ps[i]?=some (k,v)->∃p n dd ss,items[i]?=some (.ref p)/\h₁.get? p=some ⟨.type "tuple",dd,.seq #[k,v] n,ss⟩/\p≠d/\p≠I) (mv:∀i h h',DD i h->(∀b o,b≠I->h.get? b=some o->h'.get? b=some o)->DD i h')
  (put:∀(i:Nat) k v h tk (Q:Unit->j6->Prop) (E:Value->j6->Prop),ps[i]?=some (k,v)->DD i h->(∀b o,b≠d->b≠I->h₁.get? b=some o->h.get? b=some o)->(∀h' tk,DD (i+1) h'->Heap.SameBut d h h'->Q () { s with heap:=h',toks:=tk })->wpAny (model prog w) A.in1 (dictSet d k v) Q E { s with heap:=h,toks:=tk })
  (hR:∀h' tk,(∀b o,b≠d->b≠I->h₁.get? b=some o->h'.get? b=some o)->DD ps.length h'->R (.ok (.ret res)) { s with heap:=h',toks:=tk }) :
  ∀(k i:Nat) (h:Heap) (tk:Nat) (u:Tok),ps.length - i=k->i<=ps.length->h.IsListIter I l i->DD i h->(∀b o,b≠d->b≠I->h₁.get? b=some o->h.get? b=some o) ->
   a5z (model prog w) A (.builtin "dict.update.loop" ⟨[.ref d,.ref I,.int (i:Int) u,res],[]⟩) R { s with heap:=h,toks:=tk }:=by
 intro k;induction k with
 |zero=>
  intro i h tk u hk hi hit hD hkeep;have hin:i=ps.length:=by omega
  subst hin;obtain⟨ol,hol,hcl,nl,hdl⟩:=id hl;have hl':h.IsList l items:=⟨ol,hkeep _ _ hld hlI hol,hcl,nl,hdl⟩;refine codeAny_builtin F.entry_update_loop ?_
  rw[Around.under_plainId F.plain_update_loop _];show wpAny _ A.in1 (b8y (.ref I) >>= _) _ _ _;refine c5 (d1m (s:={ s with heap:=h,toks:=tk }) (A:=A.in1) hh hit hl' (by simp[hn]) λh' he=>?_);exact c5 (p9 (p9 (hR h' tk (λb o h1 h2 e=>he b o h2 (hkeep b o h1 h2 e)) (mv _ _ _ hD he))))
 |succ k ih=>
  intro i h tk u hk hi hit hD hkeep;have hlt:i<ps.length:=by omega
  obtain⟨⟨kk,x⟩,hx⟩:∃p,ps[i]?=some p:=⟨ps[i],c8 hlt⟩;obtain⟨p,n,dd,ss,e1,e2,e4,e5⟩:=hp i kk x hx;obtain⟨ol,hol,hcl,nl,hdl⟩:=id hl;have hl':h.IsList l items:=⟨ol,hkeep _ _ hld hlI hol,hcl,nl,hdl⟩;refine codeAny_builtin F.entry_update_loop ?_
  rw[Around.under_plainId F.plain_update_loop _];show wpAny _ A.in1 (b8y (.ref I) >>= _) _ _ _;refine c5 (d1g (s:={ s with heap:=h,toks:=tk }) (A:=A.in1) hit hl' e1 λh' hit' sb=>?_);have e2':h'.get? p=some ⟨.type "tuple",dd,.seq #[kk,x] n,ss⟩:=(sb.2 p e5).trans (hkeep _ _ e4 e5 e2);refine c5 (X2 (c5 (wpAny_tryCatch ?_)));unfold Builtin.Dict.pairItems;refine c5 (d1l (show({ s with heap:=h',toks:=tk }:j6).TypeIs (.ref p) "tuple" from⟨_,e2',rfl⟩) ?_);rw[if_pos (by decide)];refine c5 (wpAny_seqItems e2' rfl (p9 ?_));show wpAny _ _ (a7q [kk,x] (dictSet d kk x)) _ _ _;refine X2 (put i kk x h' tk _ _ hx (mv _ _ _ hD λb o n e=>(sb.2 b n).trans e) (λb o h1 h2 e=>(sb.2 b h2).trans (hkeep b o h1 h2 e)) λh'' tk' hD'' sb2=>?_);refine p9 ⟨plainId_quiet F.plain_update_loop _,?_⟩;refine ih (i+1) h'' _ _ (by omega) hlt ?_ hD'' λb o h1 h2 e=>(sb2.2 b h1).trans ((sb.2 b h2).trans (hkeep b o h1 h2 e))
  obtain⟨oi,g1,g2,g3⟩:=hit';exact⟨oi,(sb2.2 I (Ne.symm hdI)).trans g1,g2,g3⟩
def call_dict_g{E:Value->j6->Prop}{l:Addr}{items:Array Value}{n:Nat}{sl:Array (Option Value)}{ps:List (Value×Value)}{DD:Nat->Heap->Prop}{Q:Value->j6->Prop}(hh:A.handled=none)(hl:s.heap.get? l=some ⟨.type "list",none,.seq items n,sl⟩)(hn:items.size=ps.length)
  (hp:∀(i:Nat) k v,ps[i]?=some (k,v)->∃p n dd ss,items[i]?=some (.ref p)/\s.heap.get? p=some ⟨.type "tuple",dd,.seq #[k,v] n,ss⟩) (d0:∀h',(∀o,(s.heap.push { cls:=.type "dict",data:=.dict #[] }).get? s.heap.objs.size=some o->h'.get? s.heap.objs.size=some o)->DD 0 h')
  (mv:∀i h h' I,DD i h->(∀b o,s.heap.get? b=some o->b≠I)->s.heap.objs.size≠I->(∀b o,b≠I->h.get? b=some o->h'.get? b=some o)->DD i h')
  (put:∀(i:Nat) k v h tk (Q:Unit->j6->Prop) (E:Value->j6->Prop),ps[i]?=some (k,v)->DD i h->(∀b o,s.heap.get? b=some o->h.get? b=some o)->(∀h' tk,DD (i+1) h'->Heap.SameBut s.heap.objs.size h h'->Q () { s with heap:=h',toks:=tk })->wpAny (model prog w) A.in1.in1 (dictSet s.heap.objs.size k v) Q E { s with heap:=h,toks:=tk })
  (h:∀h' tk,(∀b o,s.heap.get? b=some o->h'.get? b=some o)->DD ps.length h'->Q (.ref s.heap.objs.size) { s with heap:=h',toks:=tk }) :
  wpAny (model prog w) A (call (.type "dict") [.ref l]) Q E s:=by
 refine callType_codes (Q₁:=λobj s₁=>obj=.ref s.heap.objs.size/\s₁={ s with heap:=s.heap.push { cls:=.type "dict",data:=.dict #[] } }) F.kt_called_dict (F.kt_typeCall_dict_1 _) F.entry_dict_init (kt_code_dict_new _ ⟨rfl,rfl⟩) ?_
 rintro obj s₁ ⟨rfl,rfl⟩;have ho:(s.heap.push { cls:=.type "dict",data:=.dict #[] }).get? s.heap.objs.size=some { cls:=.type "dict",data:=.dict #[] }:=C7 _ rfl;have hT:({ s with heap:=s.heap.push { cls:=.type "dict",data:=.dict #[] } }:j6).TypeIs (.ref s.heap.objs.size) "dict" := ⟨_,ho,rfl⟩;have hl1:(s.heap.push { cls:=.type "dict",data:=.dict #[] }).get? l=some ⟨.type "list",none,.seq items n,sl⟩:=j7 _ hl;refine⟨hT,F.args_dict_init_2 _ _,?_⟩;unfold d2K.«dict.__init__» Builtin.Dict.selfAndRest;refine c5 (c5 (d1n hT (p9 ?_)));show wpAny _ _ (Builtin.Dict.updateFrom "dict.__init__" s.heap.objs.size (.ref l) [] .none) _ _ _;unfold Builtin.Dict.updateFrom;refine c5 (d1l (show({ s with heap:=s.heap.push { cls:=.type "dict",data:=.dict #[] } }:j6).TypeIs (.ref l) "list" from⟨_,hl1,rfl⟩) ?_);rw[if_pos (by decide)];refine c5 (keys_attr_list (A:=A.in1.in1) hh hl1 λh2 t2 k2=>?_);rw[if_pos (show(none:Option Value).isNone=true from rfl)];refine c5 (wpAny_rule ?_);have hl2:h2.IsList l items:=⟨_,k2 _ _ hl1,rfl,n,rfl⟩;refine c5 (b0D (s:={ s with heap:=h2,toks:=t2 }) hl2 ?_);have hdI:s.heap.objs.size≠h2.objs.size:=A3 (l5 (k2 _ _ ho));have up:∀b o,s.heap.get? b=some o->(h2.push { cls:=.type "list_iterator",data:=.fields #[.ref l,.int 0 0] }).get? b=some o:=λb o e=>j7 _ (k2 _ _ (j7 _ e))
 have ne1:∀b o,s.heap.get? b=some o->b≠s.heap.objs.size/\b≠h2.objs.size:=λb o e=>⟨A3 (l5 e),A3 (l5 (k2 _ _ (j7 _ e)))⟩
 refine p9 ⟨plainId_quiet F.plain_update_loop _,?_⟩;refine update_loop_g (s:=s) (A:=A.in1) (d:=s.heap.objs.size) (I:=h2.objs.size) (ps:=ps) (DD:=DD) hh hdI (ne1 l _ hl).1 (ne1 l _ hl).2 hn .none ⟨_,up _ _ hl,rfl,n,rfl⟩ (λi k v e=>?_) (λi h h' D e=>mv i h h' _ D (λb o e=>(ne1 b o e).2) hdI e) (λi k v h tk Q E e D kp=>put i k v h tk Q E e D λb o q=>kp b o (ne1 b o q).1 (ne1 b o q).2 (up _ _ q)) (λh' tk kp hd=>⟨rfl,h h' tk (λb o e=>kp b o (ne1 b o e).1 (ne1 b o e).2 (up _ _ e)) hd⟩) ps.length 0 _ _ _ (by omega) (W3 _) ⟨_,C7 _ rfl,rfl,rfl⟩ (d0 _ λo e=>j7 _ (k2 _ _ e)) λb o _ _ e=>e
 obtain⟨p,m,dd,ss,a1,a2⟩:=hp i k v e;exact⟨p,m,dd,ss,a1,up _ _ a2,(ne1 p _ a2).1,(ne1 p _ a2).2⟩
end
section
variable {prog:A4}{w:World}{K:Type}[DecidableEq K]{knd:KeyKind prog w K}{A:R0}{E:Value->j6->Prop}{s:j6}
def call_dict_pairs{l:Addr}{items:Array Value}{n:Nat}{sl:Array (Option Value)}{ps:List (K×Value)}{Q:Value->j6->Prop}(hh:A.handled=none)(hl:s.heap.get? l=some ⟨.type "list",none,.seq items n,sl⟩)(hn:items.size=ps.length)(_:ps.length<=z9)
  (hp:∀(i:Nat) k v,ps[i]?=some (k,v)->∃p key n dd ss,items[i]?=some (.ref p)/\s.heap.get? p=some ⟨.type "tuple",dd,.seq #[key,v] n,ss⟩/\knd.is k key=true)
  (hsl:∀qs:List (K×Value),qs.length<=ps.length->(prsF qs).length<=z9)
  (h:∀h' tk,(∀b o,s.heap.get? b=some o->h'.get? b=some o)->h'.DictOf knd s.heap.objs.size (prsF ps)->Q (.ref s.heap.objs.size) { s with heap:=h',toks:=tk }) :
  wpAny (model prog w) A (call (.type "dict") [.ref l]) Q E s:=by
 have hq:∀i:Nat,∃key:Value,∀k v,ps[i]?=some (k,v)->∃p n dd ss,items[i]?=some (.ref p)/\s.heap.get? p=some ⟨.type "tuple",dd,.seq #[key,v] n,ss⟩/\knd.is k key=true:=λi=>by
  cases e:ps[i]? with
  |none=>exact⟨.none,λk v z=>(by cases z)⟩
  |some q=>
   obtain⟨p,key,r⟩:=hp i q.1 q.2 e;exact⟨key,λk v z=>by cases z;exact⟨p,r⟩⟩
 obtain⟨f,kf⟩:∃f:Nat->Value,∀i k v,ps[i]?=some (k,v)->∃p n dd ss,items[i]?=some (.ref p)/\s.heap.get? p=some ⟨.type "tuple",dd,.seq #[f i,v] n,ss⟩/\knd.is k (f i)=true:=⟨λi=>(hq i).choose,λi=>(hq i).choose_spec⟩
 have e3:∀(i:Nat) k v,(ps.mapIdx λi q=>(f i,q.2))[i]?=some (k,v)->∃kk,ps[i]?=some (kk,v)/\f i=k:=λi k v e=>by
  rw[List.getElem?_mapIdx]at e;cases z:ps[i]? with
  |none=>rw[z]at e;cases e
  |some q=>rw[z]at e;cases e;exact⟨_,rfl,rfl⟩
 refine call_dict_g (ps:=ps.mapIdx λi q=>(f i,q.2)) (DD:=λi h=>h.DictOf knd s.heap.objs.size (prsF (ps.take i))) hh hl (by rw[c6P];exact hn) (λi k v e=>?_) (λh' e=>let⟨o,es,ep,ho,r⟩:=c2O s.heap; ⟨o,es,ep,e _ ho,r⟩) (λi h h' I D _ n e=>D.extBut e n) (λi k v h tk Q E e D _ r=>?_) (λh' tk a b=>h h' tk a (by rw[c6P,M3]at b;exact b))
 .obtain⟨kk,z,rfl⟩:=e3 i k v e;obtain⟨p,n,dd,ss,a1,a2,_⟩:=kf i kk v z;exact⟨p,n,dd,ss,a1,a2⟩
 .obtain⟨kk,z,rfl⟩:=e3 i k v e;obtain⟨p,n,dd,ss,_,_,a3⟩:=kf i kk v z;refine wpAny_dictSet_pairs (s:={ s with heap:=h,toks:=tk }) a3 D (λh'' hD sb=>r h'' _ ?_ sb) (hsl _ (by rw[F7];omega));rw[L3,z];show h''.DictOf knd _ (prsF (ps.take i++[(kk,v)]));rw[prsF_snoc];exact hD
end
end PySem
namespace L2
open PySem PySem.Spec PyProof.Rows
variable{X:Cx}
section
def c0Z:List V->Hp->VK->Prop:=λxs H Q=>∃a vs kvs,xs=[.ref a]/\H a=some (.lst vs)/\vs.length=(kvs:List (Key×V)).length /\
 (∀(i:Nat) k x,kvs[i]?=some (k,x)->∃p,vs[i]?=some (.ref p)/\H p=some (.tup [kV k,x]))/\(kvs.map (·.1)).Nodup/\∀p,H p=none->Q (.ref p) (upd H p (.dK kvs))
def b4x{K:Type}[DecidableEq K](ps:List (K×Value)):(prsF ps).length<=ps.length:=by
 have:∀(ps m:List (K×Value)),(ps.foldl (λm p=>c8G m p.1 p.2) m).length<=m.length+ps.length:=by
  intro ps;induction ps with
  |nil=>intro m;simp
  |cons p ps ih=>
   intro m;have h1:=ih (c8G m p.1 p.2);have h2:=stored_length_le m p.1 p.2;simp only[a0j,D4];omega
 have:=this ps [];simpa[prsF]using this
def b4D{P:A4}{w:World}{H:Hp}{h:Heap}(ok:HOk P w H h):∀(kvs:List (Key×V)) (vs:List V) (its:List Value),vs.length=kvs.length->(∀(i:Nat) k x,kvs[i]?=some (k,x)->∃p,vs[i]?=some (.ref p)/\H p=some (.tup [kV k,x]))->L8 vs its ->
  ∃ps:List (Key×Value),KV kvs ps/\∀(i:Nat) k v,ps[i]?=some (k,v)->∃p key n dd ss,its[i]?=some (.ref p)/\h.get? p=some ⟨.type "tuple",dd,.seq #[key,v] n,ss⟩/\(O6 P w).is k key=true
 |[],_,_,_,_,_=>⟨[],.nil,λi k v e=>by simp at e⟩
 | (k,x)::kvs,[],_,l,_,_=>by cases l
 | (k,x)::kvs,v::vs,its,l,hp,rv=>by
  cases rv with
  |cons r0 rv=>
   rename_i u its
   obtain⟨p,e1,e2⟩:=hp 0 k x rfl;cases e1;cases r0;obtain⟨ps,q1,q2⟩:=b4D ok kvs vs its (by simpa using l) (λi k x e=>hp (i+1) k x e) rv;obtain⟨_,js,rj,o,g1,g2,n,g3⟩:=(show V5 P w H h p (.tup [kV k,x])from ok p _ e2);obtain⟨u1,u2,rfl,r1,r2⟩:=b2R rj;refine⟨(k,u2)::ps,.cons ⟨rfl,r2⟩ q1,λi k' v' e=>?_⟩;cases i with
   |zero=>
    cases e;refine⟨p,u1,n,o.dict,o.slots,rfl,?_,b6I r1⟩;rw[g1];cases o;cases g2;cases g3;rfl
   |succ i=>exact q2 i k' v' e
def c0a(hc:X.calm=true):W2 X (.type "dict") c0Z:=.mk λpins s σ H xs us Q I r h=>by
 obtain⟨a,vs,kvs,rfl,hl,hn,hp,nd,q⟩:=h;obtain⟨u,rfl,ru⟩:=a6W r;cases ru;obtain⟨hz,its,n,rv,hg⟩:=(show V5 X.prog X.w H s.heap a (.lst vs)from I.hok a _ hl);have li:=Paired.length rv;obtain⟨ps,rel,hps⟩:=b4D I.hok kvs vs its hn hp rv;have hpl:=rel.length;have hnd:(ps.map (·.1)).Nodup:=by rw[<-rel.keys];exact nd
 refine call_dict_pairs (knd:=O6 X.prog X.w) (ps:=ps) (I.ok.hd hc) hg (by simp;omega) (by omega) (λi k v e=>by
  obtain⟨p,key,m,dd,ss,a1,a2,a3⟩:=hps i k v e;exact⟨p,key,m,dd,ss,by simpa using a1,a2,a3⟩) (λqs hq=>G5 (b4x qs) (by omega)) λh' tk kp dd=>?_
 have e:prsF ps=ps:=merged_nil_of_nodup ps hnd;rw[e]at dd;exact⟨.ref s.heap.objs.size,_,I.laid (a:=s.heap.objs.size) (o:=.dK kvs) (t':=tk) (λb o hb=>kp b o hb) (j8 _) (b7U (by omega) (beq_eq_false_iff_ne.mpr (Ne.symm (A3 I.big))) rel dd),rfl,q _ (I.hok.fresh (j8 _))⟩
end
section
variable {tg:Expr}
end
section
end
section
end
structure IsC(K:Fg)(C:Addr):Prop where
 cl:Cls K C
 ha:o0 K (.ref C) "__class__"=some (some (.builtin "object.__class__"))
 hn:a4j K (.builtin "object.__class__") "__get__"=some (some (.builtin "getset_descriptor.__get__"))
 htk:a8u K (.builtin "object.__class__")=some true
 hm:a3s K C (.type "object")=some true
def c8Y(K:Fg):List V->Hp->VK->Prop:=λvs H Q=>∃a C dx fs,vs=[.ref a,.ref C]/\H a=some (.ins C dx fs)/\IsC K C/\Q (.bl true) H
def b5s:W2 X (.builtin "isinstance") (c8Y X.K):=.mk λpins s σ H vs us Q I r h=>by
 obtain⟨a,C,dx,fs,rfl,ha,ic,q⟩:=h;obtain⟨u,u2,rfl,ru,ru2⟩:=b2R r;cases ru;cases ru2
 have e:Y0 X.K (.ref C) (.ref C)=some true:=by
  unfold Y0;rw[if_pos (by simp)]
 exact b2z (x:=.ref a) I rfl (.ins ha ic.cl ic.ha ic.hn ic.htk ic.hm) e λtk=>⟨.bl true,H,I.tok _,rfl,q⟩
section
variable {P:A4}{w:World}{K:Type}[DecidableEq K]{knd:HeapKind P w K}{A:R0}{E:Value->j6->Prop}{s:j6}
def c6y{xs:List (K×Addr×Value)}(nd:(xs.map (·.1)).Nodup){i j:Nat}{k:K}{p q:Addr×Value}(h1:xs[i]?=some (k,p))(h2:xs[j]?=some (k,q)):i=j/\p=q:=by
 have e1:(xs.map (·.1))[i]?=some k:=by rw[b6,h1];rfl
 have e2:(xs.map (·.1))[j]?=some k:=by rw[b6,h2];rfl
 obtain⟨l1,g1⟩:=u0.mp e1;obtain⟨l2,g2⟩:=u0.mp e2;have z1:=nd.idxOf_getElem i l1;have z2:=nd.idxOf_getElem j l2;rw[g1]at z1;rw[g2]at z2;have e:i=j:=z1.symm.trans z2;subst e;rw[h1]at h2;exact⟨rfl,(Prod.ext_iff.mp (Option.some.inj h2)).2⟩
end
section
end
end L2
namespace PySem
open Sem (wp)
section
variable {prog:A4}{w:World}{A:R0}{E:Value->j6->Prop}{s:j6}
def Raw(h:Heap)(d:Addr)(es:Array a1g)(ep:Nat):Prop:=∃o,h.get? d=some o/\o.ExactDict/\o.data=.dict es ep
def Raw.at{h h':Heap}{d:Addr}{es:Array a1g}{ep:Nat}(x:Raw h d es ep)(e:∀o,h.get? d=some o->h'.get? d=some o):Raw h' d es ep:=let⟨o,h1,r⟩:=x; ⟨o,e _ h1,r⟩
def Raw.typeIs{d:Addr}{es:Array a1g}{ep:Nat}(x:Raw s.heap d es ep):s.TypeIs (.ref d) "dict" := let⟨o,h1,h2,_⟩:=x; ⟨o,h1,h2.1⟩
def iter_raw{d:Addr}{es:Array a1g}{ep:Nat}{Q:Value->j6->Prop}(hd:(d == a2c)=false)(hm:Raw s.heap d es ep)
  (hQ:Q (.ref s.heap.objs.size) { s with heap:=s.heap.push { cls:=.type "dict_keyiterator",data:=.fields #[.ref d,.int 0 0,.int es.size 0,.int ep 0] } }):wpAny (model prog w) A (pyIter (.ref d)) Q E s:=by
 have hT:=hm.typeIs;obtain⟨o,ho,hc,hdat⟩:=id hm;refine wpAny_pyIter_slot hT F.slot_dict_iter (b2Q F.slot_dict_iter hT F.entry_dict_iter ?_ (F.args_dict_iter_1 _));unfold d2K.«dict.__iter__» Builtin.Dict.dictSlotNone;refine c5 (c5 (d1n hT (p9 ?_)));show wpAny _ _ (Builtin.Dict.showsAll d >>= _) _ _ s;unfold Builtin.Dict.showsAll;simp only[hd,b3j,if_false];refine c5 (p9 (c5 (c0q ho hdat (c5 (c4v ho hdat (c5 (Z6 (p9 ⟨_,rfl,"dict_keyiterator",_,⟨_,C7 _ rfl,rfl⟩,F.slot_dict_keyiterator_next.lookup,?_⟩))))))));simpa[rawInt]using hQ
def next_raw{it d:Addr}{i ep:Nat}{es:Array a1g}{Q:Option Value->j6->Prop}(hit:s.heap.IsKeyIter it d i es.size ep)(hm:Raw s.heap d es ep)(hi:i<es.size)
  (hQ:∀h',h'.IsKeyIter it d (i+1) es.size ep->Heap.SameBut it s.heap h'->Q (some es[i].key) { s with heap:=h' }):wpAny (model prog w) A (b8y (.ref it)) Q E s:=by
 have hT:=hit.typeIs;obtain⟨o,ho,hc,hd⟩:=id hit;obtain⟨od,hod,_,hdd⟩:=hm;have own:Builtin.Dict_items.ownsTuple "dict_keyiterator"=false:=by decide
 unfold b8y;refine c5 (wpAny_attempt (b1N (name:=Str.ofString "__next__") hT F.slot_dict_keyiterator_next (b2Q F.slot_dict_keyiterator_next hT F.entry_dict_keyiterator_next ?_ (F.args_dict_keyiterator_next_1 _))));refine c5 (p9 (c5 (c5 (c5 (a2V hT (p9 (c5 (wpAny_fieldsOf ho hd ?_))))))));simp only[own,b3j,if_false];show wpAny _ _ (if(Value.ref d == Value.none)=true then _ else _) _ _ s;have nn:¬(Value.ref d == Value.none)=true:=(z6:¬false=true);rw[if_neg nn];refine c5 (p9 (c5 (c0q hod hdd ?_)));rw[if_neg (by simp)];refine c5 (p9 (c5 (c4v hod hdd ?_)));rw[if_neg (by simp)];refine p9 ?_;simp only[show ¬((i:Int)<0) by omega,if_false,C9,b8x hi];refine c5 (c5 (a2V hT (p9 (c5 (d1p hT ?_)))));show wpAny _ _ (setField (.ref it) 1 (rawInt ((i:Int)+1)) >>= _) _ _ s;refine c5 (wpAny_setField ho hd (by simp) ?_)
 have hit':(s.heap.update it (Obj.mapFields (·.setIfInBounds 1 (rawInt ((i:Int)+1))))).IsKeyIter it d (i+1) es.size ep:=
  ⟨_,a0I _ ho (Obj.isFreed_of_fields (Obj.data_mapFields hd _)),(Obj.cls_mapFields ..).trans hc,by rw[Obj.data_mapFields hd];simp[rawInt]⟩
 refine c5 (X2 (c5 (d1p (s:={ s with heap:=s.heap.update it (Obj.mapFields (·.setIfInBounds 1 (rawInt ((i:Int)+1)))) }) hit'.typeIs ?_)));show wpAny _ _ (pure es[i].key) _ _ _;exact p9 (p9 ⟨_,rfl,p9 (hQ _ hit' (b8r ..))⟩)
def end_raw{it d:Addr}{i ep:Nat}{es:Array a1g}{Q:Option Value->j6->Prop}(hh:A.handled=none)(hit:s.heap.IsKeyIter it d i es.size ep)(hm:Raw s.heap d es ep)(hi:es.size<=i)
  (hQ:∀h',Heap.ExtBut it s.heap h'->Q none { s with heap:=h' }):wpAny (model prog w) A (b8y (.ref it)) Q E s:=by
 have hT:=hit.typeIs;obtain⟨o,ho,hc,hd⟩:=id hit;obtain⟨od,hod,_,hdd⟩:=hm;have own:Builtin.Dict_items.ownsTuple "dict_keyiterator"=false:=by decide
 unfold b8y;refine c5 (wpAny_attempt (b1N (name:=Str.ofString "__next__") hT F.slot_dict_keyiterator_next (b2Q F.slot_dict_keyiterator_next hT F.entry_dict_keyiterator_next ?_ (F.args_dict_keyiterator_next_1 _))));refine c5 (p9 (c5 (c5 (c5 (a2V hT (p9 (c5 (wpAny_fieldsOf ho hd ?_))))))));simp only[own,b3j,if_false];show wpAny _ _ (if(Value.ref d == Value.none)=true then _ else _) _ _ s;have nn:¬(Value.ref d == Value.none)=true:=(z6:¬false=true);rw[if_neg nn];refine c5 (p9 (c5 (c0q hod hdd ?_)));rw[if_neg (by simp)];refine c5 (p9 (c5 (c4v hod hdd ?_)));rw[if_neg (by simp)];refine p9 ?_;simp only[show ¬((i:Int)<0) by omega,if_false,C9,Array.getElem?_eq_none hi];refine c5 (c5 (a2V hT (p9 ?_)));show wpAny _ _ (setField (.ref it) 0 .none >>= _) _ _ s;refine c5 (wpAny_setField ho hd (by simp) ?_);refine c5 ?_;simp only[newExc,newTuple];refine c5 (Z6 ?_ (by size_fits));refine c5 (m:=firstArgMember _ _) (wpAny_of_eq (a:=Value.none) (by simp only[firstArgMember];rfl) (Z6 ?_ (by size_fits)));simp only[raiseNew];refine c5 (wpAny_handled ?_);rw[show A.in1.handled=none from hh];refine c5 (p9 (wpAny_throw ?_));refine c5 (wpAny_isInstance (T := "StopIteration") (b:=true) (show Shared.TypeIs _ (.ref _) _ from⟨_,C7 _ rfl,rfl⟩) isSubtype_stop (p9 (hQ _ ?_)));exact((b8r ..).extBut.push _).push _
def walks_raw(hh:A.handled=none)(I d:Addr)(hne:d≠I)(es:Array a1g)(ep:Nat) :
  Walks prog w A I [I,d] [I] es.size (λi v=>∃e,es[i]?=some e/\v=e.key) (λi h=>h.IsKeyIter I d i es.size ep/\Raw h d es ep) where
 sub:=λb hb=>by simp at hb;simp[hb]
 frame:=λ_ _ _ st hk=>⟨st.1.at λo e=>hk I (by simp) o e,st.2.at λo e=>hk d (by simp) o e⟩
 item:=λi s Q E hi st hQ=>next_raw st.1 st.2 hi λh' hit' hs'=>hQ _ h' s.toks ⟨_,b8x hi,rfl⟩ ⟨hit',st.2.at λo e=>hs'.extBut d o hne e⟩ λb o hb e=>hs'.extBut b o (λh=>hb (by simp[h])) e
 done:=λs Q E st hQ=>end_raw hh st.1 st.2 (j8 _) λh' he'=>hQ h' s.toks λb o hb e=>he' b o (λh=>hb (by simp[h])) e
 self:=λ_ _ _ _ st hQ=>wpAny_pyIter_keyiter st.1 hQ
def list_raw{d:Addr}{es:Array a1g}{ep:Nat}(lo:(d == a2c)=false):PySem.W.KdlSrc prog w "dict" d d es.size (λi v=>∃e,es[i]?=some e/\v=e.key) (λh=>Raw h d es ep) where
 type:=λs hm=>Raw.typeIs (s:=s) hm
 there:=λ_ ⟨_,h1,_⟩=>⟨l5 h1,l5 h1⟩
 keep:=λ_ _ hm hk=>hm.at λo e=>hk d (.inl rfl) o e
 notList:=by decide
 notTuple:=by decide
 hint:=λ_ _ _ _ hm hq=>PySem.W.kdl_hint_dict (Raw.typeIs hm) hq
 iter:=λ_ _ hh hm=>⟨_,_,(λ_ _ hq=>iter_raw lo hm hq),walks_raw hh _ d (A3 (let⟨_,h1,_⟩:=hm;l5 h1)) es ep,⟨⟨_,C7 _ rfl,rfl,rfl⟩,hm.at λ_ e=>j7 _ e⟩⟩
end
end PySem
namespace L2
open PySem PySem.Spec PyProof.Rows
section
variable {X:Cx}
end
end L2
namespace PySem
open Sem (wp)
section
variable {prog:A4}{w:World}{K:Type}[DecidableEq K]{knd:HeapKind prog w K}{A:R0}{s:j6}{R:b8z->j6->Prop}
def Lasts(knd:HeapKind prog w K):Prop:=∀(h h':Heap) k a,knd.is h k a->(∀o,h.get? a=some o->h'.get? a=some o)->knd.is h' k a
def dofh_move{h h':Heap}{d:Addr}{xs:List (K×Addr×Value)}(L:Lasts knd)(hm:h.DictOfH knd d xs)(hd:∀o,h.get? d=some o->h'.get? d=some o)(hk:∀x∈xs,∀o,h.get? x.2.1=some o->h'.get? x.2.1=some o):h'.DictOfH knd d xs:=by
 obtain⟨o,es,ep,h1,h2,h3,h4,h5,h6⟩:=hm;exact⟨o,es,ep,hd _ h1,h2,h3,h4,λx hx=>L _ _ _ _ (h5 x hx) (hk x hx),h6⟩
def take_new{ps:List (K×Addr×Value)}(nd:(ps.map (·.1)).Nodup){i:Nat}{k:K}{p:Addr×Value}(h:ps[i]?=some (k,p)):atKey (ps.take i) k=none:=atKey_none_of_get λj q hj=>by
 have hji:j<i:=by
  have:=(u0.mp hj).1;rw[F7]at this;omega
 rw[c0p hji]at hj;have:=(L2.c6y nd hj h).1;omega
end
section
variable {prog:A4}{w:World}{K:Type}[DecidableEq K]{knd:HeapKind prog w K}{A:R0}{E:Value->j6->Prop}{s:j6}
def call_dict_pairs_h{l:Addr}{items:Array Value}{n:Nat}{sl:Array (Option Value)}{ps:List (K×Addr×Value)}{Q:Value->j6->Prop}(L:Lasts knd)(hu:knd.room A.in1.in1)(hh:A.handled=none)(nd:(ps.map (·.1)).Nodup)(hl:s.heap.get? l=some ⟨.type "list",none,.seq items n,sl⟩)(hn:items.size=ps.length)(hsz:ps.length<=z9)
  (hp:∀(i:Nat) k c v,ps[i]?=some (k,c,v)->∃p n dd ss,items[i]?=some (.ref p)/\s.heap.get? p=some ⟨.type "tuple",dd,.seq #[.ref c,v] n,ss⟩/\knd.is s.heap k c/\∃o,s.heap.get? c=some o)
  (h:∀h' tk,(∀b o,s.heap.get? b=some o->h'.get? b=some o)->h'.DictOfH knd s.heap.objs.size ps->Q (.ref s.heap.objs.size) { s with heap:=h',toks:=tk }) :
  wpAny (model prog w) A (call (.type "dict") [.ref l]) Q E s:=by
 have e3:∀(i:Nat) k v,(ps.map λq=>(Value.ref q.2.1,q.2.2))[i]?=some (k,v)->∃kk c,ps[i]?=some (kk,c,v)/\.ref c=k:=λi k v e=>by
  rw[b6]at e;cases z:ps[i]? with
  |none=>rw[z]at e;cases e
  |some q=>rw[z]at e;cases e;exact⟨_,_,rfl,rfl⟩
 refine call_dict_g (ps:=ps.map λq=>(Value.ref q.2.1,q.2.2)) (DD:=λi h=>h.DictOfH knd s.heap.objs.size (ps.take i)) hh hl (by rw[b8];exact hn) (λi k v e=>?_) (λh' e=>dofh_move L (Heap.DictOfH.new s.heap) e λx hx=>nomatch hx) (λi h h' I D o n e=>dofh_move L D (λo q=>e _ _ n q) λx hx q z=>?_) (λi k v h tk Q E e D kp r=>?_) (λh' tk a b=>h h' tk a (by rw[b8,M3]at b;exact b))
 .obtain⟨kk,c,z,rfl⟩:=e3 i k v e;obtain⟨p,m,dd,ss,a1,a2,_⟩:=hp i kk c v z;exact⟨p,m,dd,ss,a1,a2⟩
 .obtain⟨j,hj⟩:=C8.mp (c4t hx);obtain⟨p,m,dd,ss,_,_,_,q',a4⟩:=hp j x.1 x.2.1 x.2.2 hj;exact e _ _ (o _ _ a4) z
 .obtain⟨kk,c,z,rfl⟩:=e3 i k v e;obtain⟨p,m,dd,ss,_,_,a3,o,a4⟩:=hp i kk c v z;refine wpAny_dictSet_heap (s:={ s with heap:=h,toks:=tk }) (hsz:=by rw[F7];omega) hu (L _ _ _ _ a3 λo e=>kp _ _ e) D λh'' hD sb=>r h'' _ ?_ sb
  rw[storedH_new (take_new nd z)]at hD;rw[L3,z];exact hD
def tuple_lasts{K:Type}[DecidableEq K](kk:KeyKind prog w K):Lasts (a4O kk):=λh h' k a ⟨o,its,n,h1,r⟩ e=>⟨o,its,n,e _ h1,r⟩
end
end PySem
namespace L2
open PySem PySem.Spec PyProof.Rows
variable{X:Cx}{pins:List (Addr×Obj)}{σ:St}{H:Hp}{s:j6}{a:Addr}{w:World}{h:Heap}{ys:List (List Key×Addr×Value)}
section
end
section
end
abbrev XE:=List Key×Addr×V
variable{xs:List XE}
def d0Z(k:List Key):Prop:=∀y∈k,∃i:Int,y=Sum.inl i
def c3S{P P':A4}{w':World}(x:List Key×Addr×Value)(h:d0Z x.1):c8H (a4O (O6 P w)) x=c8H (a4O (O6 P' w')) x:=by
 have e:x.1.map (O6 P w).hash=x.1.map (O6 P' w').hash:=a3z λy hy=>by
  obtain⟨i,rfl⟩:=h y hy;rfl
 show DictEntry.mk (reduceHash (Builtin.Tuple.tupleHashOf (x.1.map (O6 P w).hash))) _ _=DictEntry.mk (reduceHash (Builtin.Tuple.tupleHashOf (x.1.map (O6 P' w').hash))) _ _
 rw[e]
abbrev XR:List XE->List (List Key×Addr×Value)->Prop:=Paired λp q=>p.1=q.1/\p.2.1=q.2.1/\K0 p.2.2 q.2.2
def b8n(h:Heap)(a:Addr)(xs:List XE):Prop:=xs.length<=z9/\(a == a2c)=false/\(xs.map (·.1)).Nodup/\(∀x∈xs,d0Z x.1)/\∃ys,XR xs ys/\∃(P:A4) (w:World) (o:Obj) (es:Array a1g) (ep:Nat),h.get? a=some o/\o.ExactDict/\o.data=.dict es ep/\es.toList=ys.map (c8H (a4O (O6 P w)))
def dX(a:Addr)(xs:List XE):HO:=.ext λh=>b8n h a xs
def b8n.there(x:b8n h a xs):∃o,h.get? a=some o:=by
 obtain⟨_,_,_,_,_,_,_,_,o,_,_,e,_⟩:=x;exact⟨o,e⟩
def b8n.stay{h':Heap}(x:b8n h a xs)(k:∀o,h.get? a=some o->h'.get? a=some o):b8n h' a xs:=by
 obtain⟨z,y,nd,ik,ys,r,P,w,o,es,ep,e,c⟩:=x;exact⟨z,y,nd,ik,ys,r,P,w,o,es,ep,k _ e,c⟩
def b8n.ok{P:A4}(x:b8n h a xs):V5 P w H h a (dX a xs):=⟨x,x.there,λ_ _ q k=>q.stay k⟩
def b5x(K:Fg)(H:Hp)(xs:List XE):Prop:=∀x∈xs,SqT K H x.2.1 (x.1.map kV)
section
variable {b:Addr}{k:List Key}
def b3N(I:Inv X pins σ H s)(h:SqT X.K H b (k.map kV)):(a4O (O6 X.prog X.w)).is s.heap k b:=by
 obtain⟨its,r,⟨o,h1,h2,n,h3⟩,_⟩:=I.tuple h;exact⟨o,its.toArray,n,h1,h2,h3,by simpa using b2y r⟩
def b6T:∀ {xs:List XE} {ys:List (List Key×Addr×Value)},XR xs ys->xs.map (·.1)=ys.map (·.1)
 |[],_,.nil=>rfl
 | p::xs,_,.cons (b:=q) r t=>by rw[J7,J7,r.1,b6T t]
def c4B:∀ {xs:List XE} {ys:List (List Key×Addr×Value)},XR xs ys->∀y∈ys,∃x∈xs,x.1=y.1/\x.2.1=y.2.1/\K0 x.2.2 y.2.2
 |[],_,.nil,y,h=>by cases h
 | p::xs,_,.cons (b:=q) r t,y,h=>by
  rcases t8.mp h with rfl | h
  .exact⟨p,Q4,r⟩
  .obtain⟨x,hx,z⟩:=c4B t y h;exact⟨x,K6 _ hx,z⟩
def c6k(I:Inv X pins σ H s)(e:H a=some (dX a xs))(hk:b5x X.K H xs):xs.length<=z9/\(a == a2c)=false/\∃ys,XR xs ys/\s.heap.DictOfH (a4O (O6 X.prog X.w)) a ys:=by
 obtain⟨⟨z,y,nd,ik,ys,r,P,w,o,es,ep,e1,e2,e3,e4⟩,_⟩:=(show V5 X.prog X.w H s.heap a (dX a xs)from I.hok a _ e);refine⟨z,y,ys,r,o,es,ep,e1,e2,e3,e4.trans (a3z λq hq=>c3S q (by obtain⟨x,hx,z,_⟩:=c4B r q hq;rw[<-z];exact ik x hx)),λy hy=>?_,?_⟩
 .obtain⟨x,hx,q1,q2,_⟩:=c4B r y hy;have:=b3N I (hk x hx);rw[q1,q2]at this;exact this
 .rw[<-b6T r];exact nd
def b3Y(xs:List XE)(k:List Key):Option V:=(xs.find? λx=>decide (x.1=k)).map (·.2.2)
def c0u:∀ {xs:List XE} {ys:List (List Key×Addr×Value)},XR xs ys->∀k,a7l (b3Y xs k) ((atKey ys k).map (·.2))
 |[],_,.nil,k=>trivial
 | p::xs,_,.cons (b:=q) r t,k=>by
  have ih:=c0u t k;unfold b3Y atKey at ih ⊢;rw[a0k,a0k];by_cases e:p.1=k
  .have e':q.1=k:=r.1.symm.trans e;simp only[e,e',decide_true];exact r.2.2
  .have e':¬q.1=k:=λz=>e (r.1.trans z)
   simp only[e,e',decide_false];exact ih
end
def b5O(K:Fg)(neg:Bool)(ti to:TE):TE:=λσ H Q=>ti σ H λy H1=>to σ H1 λx H2=>∃a b xs k,x=.ref a/\y=.ref b/\H2 a=some (dX a xs)/\b5x K H2 xs/\SqT K H2 b (k.map kV)/\Q (.bl (if neg then !(b3Y xs k).isSome else (b3Y xs k).isSome)) H2
def b7s(K:Fg):List V->Hp->VK->Prop:=λvs H Q=>∃a xs,vs=[.ref a]/\H a=some (dX a xs)/\b5x K H xs/\∀l,H l=none->Q (.ref l) (upd H l (.lst (xs.map λx=>V.ref x.2.1)))
def b7t(K:Fg):List V->Hp->VK->Prop:=λvs H Q=>∃a us xs,vs=[.ref a]/\H a=some (.lst us)/\us.length=(xs:List XE).length /\
 (∀(i:Nat) x,xs[i]?=some x->∃p,us[i]?=some (.ref p)/\H p=some (.tup [.ref x.2.1,x.2.2]))/\b5x K H xs/\(xs.map (·.1)).Nodup/\(∀x∈xs,d0Z x.1)/\∀p,H p=none->Q (.ref p) (upd H p (dX p xs))
section
variable {i o:Expr}{ti to:TE}
def b6w{o:Option V}{u:Option Value}(h:a7l o u):o.isSome=u.isSome:=h.isSome_eq
def d0d(hu:X.A.units+1<cLine)(hi:PE X i ti)(ho:PE X o to):PC X .In i o (b5O X.K false ti to):=by
 intro pins s σ H Q I h;refine thn (hi pins s σ H _ I h) λiv s1 ⟨y,H1,I1,ry,q1⟩=>thn (ho pins s1 σ H1 _ I1 q1) λu s2 ⟨x,H2,I2,rx,a,b,xs,k,ex,ey,ea,hk,hb,q2⟩=>?_
 subst ex ey;cases rx;cases ry;obtain⟨_,hd,ys,r,dd⟩:=c6k I2 ea hk;refine wpAny_in_heap (a5w hu) (b3N I2 hb) hd dd ?_;have q:=b6w (c0u r k);rw[a2s]at q;rw[<-q];exact⟨.bl (b3Y xs k).isSome,H2,I2.tok _,rfl,q2⟩
def c3s(hu:X.A.units+1<cLine)(hi:PE X i ti)(ho:PE X o to):PC X .NotIn i o (b5O X.K true ti to):=by
 intro pins s σ H Q I h;refine thn (hi pins s σ H _ I h) λiv s1 ⟨y,H1,I1,ry,q1⟩=>thn (ho pins s1 σ H1 _ I1 q1) λu s2 ⟨x,H2,I2,rx,a,b,xs,k,ex,ey,ea,hk,hb,q2⟩=>?_
 subst ex ey;cases rx;cases ry;obtain⟨_,hd,ys,r,dd⟩:=c6k I2 ea hk;refine wpAny_notIn_heap (a5w hu) (b3N I2 hb) hd dd ?_;have q:=b6w (c0u r k);rw[a2s]at q;rw[<-q];exact⟨.bl (!(b3Y xs k).isSome),H2,I2.tok _,rfl,q2⟩
def c4A(r:XR xs ys):xs.length=ys.length:=Paired.length r
def c0v:∀ {xs:List XE} {ys:List (List Key×Addr×Value)} {i:Nat} {y:List Key×Addr×Value},XR xs ys->ys[i]?=some y->∃x,xs[i]?=some x/\x.1=y.1/\x.2.1=y.2.1/\K0 x.2.2 y.2.2
 |[],_,i,y,.nil,e=>by cases e
 | p::xs,_,0,y,.cons (b:=q) r t,e=>by cases e;exact⟨p,rfl,r⟩
 | p::xs,_,i+1,y,.cons (b:=q) r t,e=>c0v (i:=i) t e
def b3g(hc:X.calm=true):W2 X (.type "list") (b7s X.K):=.mk λpins s σ H vs us Q I r h=>by
 obtain⟨a,xs,rfl,ha,hk,q⟩:=h;obtain⟨u,rfl,ru⟩:=a6W r;cases ru;obtain⟨hz,hd,ys,rk,o,es,ep,e1,e2,e3,e4,_⟩:=c6k I ha hk;have hl:=c4A rk;have hs:es.size=ys.length:=size_of_entries e4;refine c6F (list_raw (es:=es) (ep:=ep) hd) (I.ok.hd hc) ⟨o,e1,e2,e3⟩ (by omega) λh' tk acc c hkp hacc hit=>?_
 refine⟨.ref _,_,I.laid (t':=tk) (a:=s.heap.objs.size) (o:=.lst (xs.map λx=>V.ref x.2.1)) hkp (j8 _) ?_,rfl,q _ (I.hok.fresh (j8 _))⟩;refine⟨by rw[b8];omega,acc.toList,c,?_,by simpa using hacc⟩;refine b6W (by have:=hit.1;rw[b8];simp;omega) λi x u a b=>?_
 obtain⟨en,g1,g2⟩:=hit.2 i u (by rw[<-a0D];exact b);rw[<-a0D,e4,b6]at g1;obtain⟨y,hy,rfl⟩:=E9.mp g1;obtain⟨z,hz1,_,hz3,_⟩:=c0v rk hy;rw[b6,hz1]at a;cases a;rw[g2];show Value.ref y.2.1=Value.ref z.2.1;rw[hz3]
def b4C{P:A4}(ok:HOk P w H h):∀(xs:List XE) (us:List V) (its:List Value),us.length=xs.length->(∀(i:Nat) x,xs[i]?=some x->∃p,us[i]?=some (.ref p)/\H p=some (.tup [.ref x.2.1,x.2.2]))->L8 us its ->
  ∃ps,XR xs ps/\∀(i:Nat) k c v,ps[i]?=some (k,c,v)->∃p n dd ss,its[i]?=some (.ref p)/\h.get? p=some ⟨.type "tuple",dd,.seq #[.ref c,v] n,ss⟩
 |[],_,_,_,_,_=>⟨[],.nil,λi k c v e=>by simp at e⟩
 |x::xs,[],_,l,_,_=>by cases l
 |x::xs,v::vs,its,l,hp,rv=>by
  cases rv with
  |cons r0 rv=>
   rename_i u its
   obtain⟨p,e1,e2⟩:=hp 0 x rfl;cases e1;cases r0;obtain⟨ps,q1,q2⟩:=b4C ok xs vs its (by simpa using l) (λi k e=>hp (i+1) k e) rv;obtain⟨_,js,rj,o,g1,g2,n,g3⟩:=(show V5 P w H h p (.tup [.ref x.2.1,x.2.2])from ok p _ e2);obtain⟨u1,u2,rfl,r1,r2⟩:=b2R rj;cases r1;refine⟨(x.1,x.2.1,u2)::ps,.cons ⟨rfl,rfl,r2⟩ q1,λi k' c' v' e=>?_⟩;cases i with
   |zero=>
    cases e;refine⟨p,n,o.dict,o.slots,rfl,?_⟩;rw[g1];cases o;cases g2;cases g3;rfl
   |succ i=>exact q2 i k' c' v' e
def b3h(hc:X.calm=true)(hr:X.A.units+2<cLine):W2 X (.type "dict") (b7t X.K):=.mk λpins s σ H vs us Q I r h=>by
 obtain⟨a,ws,xs,rfl,hl,hn,hp,hk,nd,ik,q⟩:=h;obtain⟨u,rfl,ru⟩:=a6W r;cases ru;obtain⟨hz,its,n,rv,hg⟩:=(show V5 X.prog X.w H s.heap a (.lst ws)from I.hok a _ hl);have li:=Paired.length rv;obtain⟨ps,rel,hps⟩:=b4C I.hok xs ws its hn hp rv;have hpl:=c4A rel;have hnd:(ps.map (·.1)).Nodup:=by rw[<-b6T rel];exact nd
 refine call_dict_pairs_h (knd:=a4O (O6 X.prog X.w)) (ps:=ps) (tuple_lasts _) (show X.A.units+1+1<cLine by omega) (I.ok.hd hc) hnd hg (by simp;omega) (by omega) (λi k c v e=>by
  obtain⟨p,m,dd,ss,a1,a2⟩:=hps i k c v e;obtain⟨x,hx,z1,z2,_⟩:=c0v rel e;have ky:=b3N I (hk x (a2U hx));rw[z1,z2]at ky;exact⟨p,m,dd,ss,by simpa using a1,a2,ky,let⟨o,_,_,z,_⟩:=ky; ⟨o,z⟩⟩) λh' tk kp dd=>?_
 have hf:=I.hok.fresh (j8 s.heap.objs.size);obtain⟨o,es,ep,d1,d2,d3,d4,_,d6⟩:=dd;have dx:b8n h' s.heap.objs.size xs:=⟨by omega,beq_eq_false_iff_ne.mpr (Ne.symm (A3 I.big)),nd,ik,ps,rel,X.prog,X.w,o,es,ep,d1,d2,d3,d4⟩;exact⟨.ref s.heap.objs.size,_,I.laid (a:=s.heap.objs.size) (o:=dX s.heap.objs.size xs) (t':=tk) (λb o hb=>kp b o hb) (j8 _) dx.ok,rfl,q _ hf⟩
end
section
end
section
end
section
def c7S(kvs:List (Key×V)):List (Key×V):=kvs.foldl (λm p=>a2F m p.1 p.2) []
def d0v:∀ {kvs:List (Key×V)} {ps:List (Key×Value)},KV kvs ps->∀ {m:List (Key×V)} {n:List (Key×Value)},KV m n->KV (kvs.foldl (λm p=>a2F m p.1 p.2) m) (ps.foldl (λm p=>c8G m p.1 p.2) n):=by
 intro kvs ps h;unfold KV at h;induction h with
 |nil=>intro m n r;exact r
 |@cons p q l1 l2 h hr ih=>
  intro m n r;rw[a0j,a0j,<-h.1];exact ih (KV.put r _ h.2)
def c5t:List V->Hp->VK->Prop:=λxs H Q=>∃a vs kvs,xs=[.ref a]/\H a=some (.lst vs)/\vs.length=(kvs:List (Key×V)).length /\
 (∀(i:Nat) k x,kvs[i]?=some (k,x)->∃p,vs[i]?=some (.ref p)/\H p=some (.tup [kV k,x]))/\∀p,H p=none->Q (.ref p) (upd H p (.dK (c7S kvs)))
def b9Z(hc:X.calm=true):W2 X (.type "dict") c5t:=.mk λpins s σ H xs us Q I r h=>by
 obtain⟨a,vs,kvs,rfl,hl,hn,hp,q⟩:=h;obtain⟨u,rfl,ru⟩:=a6W r;cases ru;obtain⟨hz,its,n,rv,hg⟩:=(show V5 X.prog X.w H s.heap a (.lst vs)from I.hok a _ hl);have li:=Paired.length rv;obtain⟨ps,rel,hps⟩:=b4D I.hok kvs vs its hn hp rv;have hpl:=rel.length
 refine call_dict_pairs (knd:=O6 X.prog X.w) (ps:=ps) (I.ok.hd hc) hg (by simp;omega) (by omega) (λi k v e=>by
  obtain⟨p,key,m,dd,ss,a1,a2,a3⟩:=hps i k v e;exact⟨p,key,m,dd,ss,by simpa using a1,a2,a3⟩) (λqs hq=>G5 (b4x qs) (by omega)) λh' tk kp dd=>?_
 have rel2:KV (c7S kvs) (prsF ps):=d0v rel .nil;have ll:=rel2.length;have l2:=b4x ps;exact⟨.ref s.heap.objs.size,_,I.laid (a:=s.heap.objs.size) (o:=.dK (c7S kvs)) (t':=tk) (λb o hb=>kp b o hb) (j8 _) (b7U (by omega) (beq_eq_false_iff_ne.mpr (Ne.symm (A3 I.big))) rel2 dd),rfl,q _ (I.hok.fresh (j8 _))⟩
def c0Y(K:Fg):List V->Hp->VK->Prop:=λxs H Q=>c5t xs H Q\/b7t K xs H Q
def b9Y(hc:X.calm=true)(hr:X.A.units+2<cLine):W2 X (.type "dict") (c0Y X.K):=(b9Z hc).or (b3h hc hr)
end
structure b2M(K:Fg)(x qual:Str)(st:Stmt)(T f:Addr)(fd:Q5):Prop where
 ex:∃(oc:Value) (od:Option Addr) (kV doc pm:Value) (an:Option Addr) (cdv ct:Value) (osl:Array (Option Value)),
  fd=T8 x qual (a1d st) (R1 st) (g8 st) (.ref T) kV doc pm an cdv ct/\K.lookup f=some ⟨oc,od,.func fd,osl⟩/\a4l K cdv qual=true
section
variable {P:A4}{K:Fg}{mg:Str->Option Value}{base:Heap}{x qual:Str}{st:Stmt}{T f:Addr}{fd:Q5}
def b2M.ok{N ps:List Str}{k:Nat}{sp:Sp}(F:b2M K x qual st T f fd)(S:v8 N ps (g8 st))(len:∀vs H Q E,sp vs H Q E->vs.length=ps.length)
  (hbody:∀(cdv:Value) (A:R0) (outer:List Env) (s:j6) (H:Hp) (vs:List V) (Q:VK) (E:XK),Q1 k (A.deeper (a8e qual (g8 st) s.heap.objs.size f cdv))->sp vs H Q E ->
   ∃t,PSs (a7U CX0 P w K mg base N qual (g8 st) f cdv A outer s H E).nox (R1 st) t/\t { nx:=λ_ H'=>Q .non H',rt:=Q } (a7d N vs) H):E3 P w K mg base CX0 (k+1) f fd ps sp:=by
 obtain⟨oc,od,kV,doc,pm,an,cdv,ct,osl,rfl,lk,hcd⟩:=F.ex;refine c2y lk hcd S len λA outer s H vs Q E hr hsp=>?_
 obtain⟨t,h,q⟩:=hbody cdv A outer s H vs Q E hr hsp;exact⟨t,h.nox,q⟩
def b2M.binds{ps:List Str}{ds:List Value}{o:Obj}{items:Array Value}{n:Nat}(F:b2M K x qual st T f fd)(hT:K.lookup T=some o)(ho:o.data=.seq items n)
  (h:∀(kV doc pm:Value) (an:Option Addr) (cdv ct:Value) (us:List Value),(us++ds).length=ps.length->∃k,bindArgs (T8 x qual (a1d st) (R1 st) (g8 st) (.ref T) kV doc pm an cdv ct) ⟨us,[]⟩=(seqItems? (.ref T) >>= k)/\k (some items)=pure (ps.zip (us++ds))):a2R K fd ps ds:=by
 obtain⟨oc,od,kV,doc,pm,an,cdv,ct,osl,rfl,lk,hcd⟩:=F.ex;intro s us KX hl;obtain⟨k,h1,h2⟩:=h kV doc pm an cdv ct us hl;exact .of_defaults (T:=T) rfl (KX _ _ hT) ho h1 h2
structure b8m(P:A4)(w:World)(K:Fg)(mg:Str->Option Value)(base:Heap)(k:Nat)(x:Str)(C:Addr)(ps:List Str)(dvs:List V)(sp:Sp):Prop where
 ex:∃f fd ds,E3 P w K mg base CX0 k f fd ps sp/\mg x=some (.ref C)/\Mk K C f/\a2R K fd ps ds/\L8 dvs ds
def d0b{k j:Nat}{C:Addr}{ps:List Str}{sp:Sp}{dvs:List V}{e:Expr}{es:List Expr}{t:TA}{p pos:Pos}(M:b8m X.prog X.w X.K X.mg X.base k x C ps dvs sp)(hr:Q1 j X.A)(hk:k+1<=j)(hg:Gl X x)(ha:PA X (e::es) t)
  (hdb:(x == ("__debug__" : Str))=false:=by decide) (he:u6 (e::es) X.env=(false,eval e X.env)::u6 es X.env:=by rfl) (hpl:(a0v pos (u6 es X.env)).any (·.1)=false:=by rfl) :
  PE X (.Call (.Name x p) (e::es) [] pos) (a2e C sp dvs E0 t):=by
 obtain⟨f,fd,ds,F,hm,hM,hb,hd⟩:=M.ex;exact c2q hM F (hr.mono hk) hg hm hb hd b6A ha hdb he hpl
end
def Fly(h:Heap)(x T:Addr)(cls:Value)(dx:Option Addr)(fl:Value):Prop:=
 ∃oe vs oT ts,h.get? x=some oe/\(oe.cls=cls/\oe.dict=dx/\vs[2]?=some .none)/\oe.data=.fields vs/\vs[1]?=some (.ref T)/\T≠x/\h.get? T=some oT/\oT.data=.fields ts/\ts[3]?=some fl
def d2v(h:Heap)(x:Addr)(cls:Value)(dx:Option Addr):Prop:=∃oe vs,h.get? x=some oe/\(oe.cls=cls/\oe.dict=dx/\vs[2]?=some .none)/\oe.data=.fields vs/\vs[1]?=some .none
def Chg(fs:List Addr)(x T:Addr)(h h':Heap):Prop:=∀b o,h.get? b=some o->b≠x->b≠T->(b∉fs->h'.get? b=some o)/\∃sl,h'.get? b=some { o with slots:=sl }
section
variable {M:Model}{A:R0}{E:Value->j6->Prop}{base:Heap}{env:Env}{outer:List Env}{L x T:Addr}{cls fl:Value}{dx:Option Addr}
def b9M{oe:Obj}{vs:Array Value}{head:Value}{had:Bool}{Q:Unit->j6->Prop}(hfr:A.frames=some (env::outer))(hl:s.heap.FunFrames base (env::outer))(hf:env.frame=some L)(hx:s.heap.get? x=some oe)(hd:oe.data=.fields vs)(hsz:1<vs.size)(h2:vs[2]?=some .none)
  (nf:x∉frs (env::outer)) (h:∀h' T,s.heap.objs.size<=T->Fly h' x T oe.cls oe.dict (rawInt L)->Chg (frs (env::outer)) x T s.heap h'->Q () { s with heap:=h' }) :
  wpAny M A (do let a <-frameOf env;let pl <-entryPlaceOf L had;let b <-EntryCells.newEntry head a .none (rawInt L) .none pl;setField (.ref x) 1 b) Q E s:=by
 refine c5 (wpAny_frameOf_fun hfr hl hf λh1 k1=>?_);refine c5 (wpAny_entryPlaceOf λpl hpl=>?_);unfold EntryCells.newEntry newFields
 refine c5 (Z6 ?_ (hpl.sizeOk5 _ _ _ _ _));have x1:h1.get? x=some oe:=(k1.2.1 x nf).trans hx;obtain⟨ob,hob⟩:∃ob:Obj,ob={ cls:=.type "traceback",dict:=none,data:=.fields ([head,.ref L,.none,rawInt L,.none]++(if pl.isEmpty then p8 6 Value.none else pl)).toArray }:=⟨_,rfl⟩;rw[<-hob]
 have ho3:∃ts,ob.data=.fields ts/\ts[3]?=some (rawInt L):=by
  subst hob;refine⟨_,rfl,?_⟩
  first | (simp;done) | (rcases hpl with rfl | ⟨_,_,_,_,_,_,_,rfl⟩ <;> simp)
 have hnf:ob.isFreed=false:=by subst hob;rfl
 have x2:=j7 (h:=h1) ob x1;have nT:h1.objs.size≠x:=b5C (l5 x1);refine wpAny_setField x2 hd hsz (h _ h1.objs.size (b5E k1.1.symm) ?_ λb o e n1 n2=>?_)
 .have d3:=Obj.data_mapFields hd (·.setIfInBounds 1 (Value.ref h1.objs.size));obtain⟨ts,t1,t2⟩:=ho3;exact⟨_,_,ob,ts,a0I _ x2 (Obj.isFreed_of_fields d3),⟨Obj.cls_mapFields _ _,by obtain⟨c,d,dt,sl⟩:=oe;cases dt <;> rfl,by rw[Array.getElem?_setIfInBounds_ne (by decide)];exact h2⟩,d3,by simp[hsz],nT,by rw[a0t _ _ nT.symm];exact C7 h1 hnf,t1,t2⟩
 .have go:∀o',h1.get? b=some o'->((h1.push ob).update x (Obj.mapFields (·.setIfInBounds 1 (Value.ref h1.objs.size)))).get? b=some o':=λo' e'=>by
   rw[a0t _ _ (Ne.symm n1)];exact j7 _ e'
  refine⟨λhb=>go o ((k1.2.1 b hb).trans e),?_⟩;obtain⟨sl,e2⟩:=k1.2.2 b o e;exact⟨sl,go _ e2⟩
def c7M{Q:Unit->j6->Prop}(hfr:A.frames=some (env::outer))(hl:s.heap.FunFrames base (env::outer))(hf:env.frame=some L)(nf:x∉frs (env::outer))
  (hx:d2v s.heap x cls dx\/∃T,Fly s.heap x T cls dx .none/\T∉frs (env::outer))
  (h:∀h' T',s.heap.objs.size<=T'->Fly h' x T' cls dx (rawInt L)->(∀b o,s.heap.get? b=some o->b≠x->(∀T,Fly s.heap x T cls dx .none->b≠T)->(b∉frs (env::outer)->h'.get? b=some o)/\∃sl,h'.get? b=some { o with slots:=sl })->(∀b o,s.heap.get? b=some o->∃o',h'.get? b=some o')->Q () { s with heap:=h' }) :
  wpAny M A (noteFrame (.ref x) env) Q E s:=by
 rcases hx with ⟨oe,vs,he,⟨rfl,rfl,h2⟩,hd,h1⟩ | ⟨T,⟨oe,vs,oT,ts,he,⟨rfl,rfl,h2⟩,hd,h1,hTx,hT,hdT,h3⟩,nfT⟩
 .unfold noteFrame;simp only[hf];refine c5 (b1M he hd h1 ?_);rw[if_neg (by decide)];refine b9M hfr hl hf he hd (a2T.mp h1).1 h2 nf λh' T' t1 t2 t3=>h h' T' t1 t2 (λb o e n _=>t3 b o e n λz=>O0 _ (A7 (l5 e) (by rw[z];exact t1))) λb o e=>?_
  by_cases hb:b=x
  .obtain⟨o',_,_,_,q,_⟩:=t2;exact⟨o',by rw[hb];exact q⟩
  .obtain⟨_,sl,q⟩:=t3 b o e hb λz=>O0 _ (A7 (l5 e) (by rw[z];exact t1))
   exact⟨_,q⟩
 .unfold noteFrame;simp only[hf];refine c5 (b1M he hd h1 ?_);rw[if_pos (show(Value.ref T != Value.none)=true from by simp)];refine c5 (b1M hT hdT h3 ?_);rw[if_neg (show ¬((Value.none == rawInt L)=true)from by simp[rawInt])];refine c5 (wpAny_setField hT hdT (a2T.mp h3).1 ?_);have oth:∀b,b≠T->(s.heap.update T (Obj.mapFields (·.setIfInBounds 3 Value.none))).get? b=s.heap.get? b:=λb hb=>a0t _ _ (Ne.symm hb)
  have tT:∃o',(s.heap.update T (Obj.mapFields (·.setIfInBounds 3 Value.none))).get? T=some o':=⟨_,a0I _ hT (Obj.isFreed_of_fields (Obj.data_mapFields hdT _))⟩
  have isT:∀T2,Fly s.heap x T2 oe.cls oe.dict .none->T2=T:=λT2 ⟨oe',vs',_,_,a1,_,a2,a3,_⟩=>by
   rw[he]at a1;cases a1;rw[hd]at a2;cases a2;rw[h1]at a3;cases a3;rfl
  have hsz:(s.heap.update T (Obj.mapFields (·.setIfInBounds 3 Value.none))).objs.size=s.heap.objs.size:=c9s ..;refine b9M hfr (hl.of_keeps λb o hb hnf=>⟨o,(oth b λq=>by rw[q,hT]at hb;cases hb;exact hnf ts hdT).trans hb,rfl⟩) hf ((oth x (Ne.symm hTx)).trans he) hd (a2T.mp h1).1 h2 nf λh' T' t1 t2 t3=>h h' T' (by rw[<-hsz];exact t1) t2 (λb o e n n2=>?_) λb o e=>?_
  .have nb:b≠T:=n2 T ⟨oe,vs,oT,ts,he,⟨rfl,rfl,h2⟩,hd,h1,hTx,hT,hdT,h3⟩;exact t3 b o ((oth b nb).trans e) n λz=>O0 _ (A7 (l5 e) (by rw[z,<-hsz];exact t1))
  .by_cases hb:b=x
   .obtain⟨o',_,_,_,q,_⟩:=t2;exact⟨o',by rw[hb];exact q⟩
   .by_cases hbT:b=T
    .obtain⟨o',q⟩:=tT;rw[hbT];obtain⟨_,sl,q2⟩:=t3 T o' q hTx λz=>O0 _ (A7 (l5 q) (G5 t1 (b5E z.symm)))
     exact⟨_,q2⟩
    .obtain⟨_,sl,q2⟩:=t3 b o ((oth b hbT).trans e) hb λz=>O0 _ (A7 (l5 e) (by rw[z,<-hsz];exact t1))
     exact⟨_,q2⟩
def c3Q{Q:Unit->j6->Prop}(hx:Fly s.heap x T cls dx fl)(h:∀h',Fly h' x T cls dx .none->(∀b,b≠T->h'.get? b=s.heap.get? b)->h'.objs.size=s.heap.objs.size->Q () { s with heap:=h' }):wpAny M A (setFlight (.ref x) none) Q E s:=by
 obtain⟨oe,vs,oT,ts,he,hc,hd,h1,hTx,hT,hdT,h3⟩:=hx;have hsz:3<ts.size:=(a2T.mp h3).1;have oth:∀b,b≠T->(s.heap.update T (Obj.mapFields (·.setIfInBounds 3 Value.none))).get? b=s.heap.get? b:=λb hb=>a0t _ _ (Ne.symm hb)
 refine wpAny_setFlight_none he hd h1 hT hdT hsz (h _ ⟨oe,vs,_,_,(oth x (Ne.symm hTx)).trans he,hc,hd,h1,hTx,a0I _ hT (Obj.isFreed_of_fields (Obj.data_mapFields hdT _)),Obj.data_mapFields hdT _,by simp[hsz]⟩ oth (c9s ..))
end
section
variable {x T:Addr}{cls fl:Value}{dx:Option Addr}
def Inv.flown{h':Heap}{ch:List Addr}(I:Inv X pins σ H s)(hch:∀b∈ch,a4S X pins H b)
  (k:∀b o,s.heap.get? b=some o->b∉ch->(b∉frs X.stack->h'.get? b=some o)/\∃sl,h'.get? b=some { o with slots:=sl }):Inv X pins σ H { s with heap:=h' }:=by
 have nc:∀c u,H c=some u->c∉ch:=λc u e z=>by
  have:=(hch c z).1;rw[e]at this;cases this
 have nf:∀c u,H c=some u->c∉frs X.stack:=λc u e z=>by
  have:=I.stkFree c z;rw[e]at this;cases this
 refine I.call (H':=H) (g':=s.gens) (t':=s.toks) (d':=s.drawn) (ch:=ch) ⟨λb o e n hb hc=>(k b o e hc).1 hb,λb o e n hb hc=>(k b o e hc).2,λb o e n hc=>n,λb o e hc=>let⟨_,q⟩:=(k b o e hc).2; ⟨_,q⟩,λ_ _ e=>e,λ_ _ _ e=>e,λb ps e=>⟨#[],by rw[e];simp⟩⟩ (λb u e=>?_) I.bare λb hb=>?_
 .refine(I.hok b u e).stay (λc v hc q=>?_) (λ_ q=>q) λ_ _ q=>q
  rcases hc with z | z
  .subst z;exact(k c v q (nc c u e)).1 (nf c u e)
  .exact(k c v q (nc c _ z)).1 (nf c _ z)
 .obtain⟨_,n1,_,n3,n4,n5⟩:=hch b hb;exact⟨n3,n1,n4,n5⟩
def a4S.nst(I:Inv X pins σ H s)(f:a4S X pins H x):x∉frs X.stack:=λz=>by
 rcases t8.mp (I.stkSub x z)with e | e
 .exact f.2.1 e
 .exact f.2.2.1 e
structure Out(X:Cx)(pins:List (Addr×Obj))(σ:St)(H:Hp)(s:j6)(x:Addr)(cls:Value)(dx:Option Addr):Prop where
 inv:Inv X pins σ H s
 fx:a4S X pins H x
 fl:d2v s.heap x cls dx\/∃T,a4S X pins H T/\Fly s.heap x T cls dx .none
structure d1b(X:Cx)(pins:List (Addr×Obj))(σ:St)(H:Hp)(s:j6)(x:Addr)(cls:Value)(dx:Option Addr)(fl:Value):Prop where
 inv:Inv X pins σ H s
 fx:a4S X pins H x
 fl:∃T,a4S X pins H T/\Fly s.heap x T cls dx fl
def b9v{M:Model}{E:Value->j6->Prop}{Q:Unit->j6->Prop}(hst:X.stack=X.env::X.outer)(hf:X.env.frame=some X.env.locals)(o:Out X pins σ H s x cls dx)(h:∀s',d1b X pins σ H s' x cls dx (rawInt X.env.locals)->Q () s'):wpAny M X.A (noteFrame (.ref x) X.env) Q E s:=by
 have I:=o.inv;have hl:=I.stack;have hfr:=I.ok.frames;have nx:=o.fx.nst I;rw[hst]at hl hfr nx;refine c7M hfr hl hf nx (o.fl.imp id λ⟨T,f1,f2⟩=>⟨T,f2,by rw[<-hst];exact f1.nst I⟩) λh' T' t1 t2 t3 t4=>?_
 have nT:H T'=none:=I.hok.fresh t1;rcases o.fl with f | ⟨T,f1,f2⟩
 .have J:Inv X pins σ H { s with heap:=h' }:=I.flown (ch:=[x]) (λb hb=>by rw[l7.mp hb];exact o.fx) λb ob e n=>by
   rw[hst];refine t3 b ob e (λz=>n (by simp[z])) λT g z=>?_
   obtain⟨oe,vs,a1,_,a2,a3⟩:=f;obtain⟨oe',vs',_,_,b1,_,b2,b3,_⟩:=g;rw[a1]at b1;cases b1;rw[a2]at b2;cases b2;rw[a3]at b3;cases b3
  exact h _ ⟨J,o.fx,T',I.fpOk t1 nT,t2⟩
 .have J:Inv X pins σ H { s with heap:=h' }:=I.flown (ch:=[x,T]) (λb hb=>by
   simp only[t8,G8,or_false]at hb;rcases hb with rfl | rfl
   .exact o.fx
   .exact f1) λb ob e n=>by
   rw[hst];refine t3 b ob e (λz=>n (by simp[z])) λT2 f z=>n ?_
   obtain⟨oe,vs,_,_,a1,_,a2,a3,_⟩:=f2;obtain⟨oe',vs',_,_,b1,_,b2,b3,_⟩:=f;rw[a1]at b1;cases b1;rw[a2]at b2;cases b2;rw[a3]at b3;cases b3;simp[z]
  exact h _ ⟨J,o.fx,T',I.fpOk t1 nT,t2⟩
def b0w{M:Model}{A:R0}{E:Value->j6->Prop}{Q:Unit->j6->Prop}(o:d1b X pins σ H s x cls dx fl)(h:∀s',d1b X pins σ H s' x cls dx .none->Q () s'):wpAny M A (setFlight (.ref x) none) Q E s:=by
 obtain⟨T,f1,f2⟩:=o.fl;refine c3Q f2 λh' g1 g2 g3=>h _ ⟨o.inv.flown (ch:=[T]) (λb hb=>by rw[l7.mp hb];exact f1) λb ob e n=>?_,o.fx,T,f1,g1⟩
 have q:=(g2 b λz=>n (by simp[z])).trans e;exact⟨λ_=>q,ob.slots,q⟩
end
def CX1(P:A4)(w:World):CXT:=λouter H s E e s'=>∃x T cls dx H',e=.ref x/\s'.os=s.os/\b3W s'.gens/\Un (frs outer) [] H H' s.heap s'.heap/\HOk P w H' s'.heap/\(s.heap.objs.size<=x/\s.heap.objs.size<=T)/\(H' x=none/\H' T=none)/\Fly s'.heap x T cls dx .none/\E cls dx H'
def Wi(X:Cx)(E:St->XK):Prop:=∀(pins:List (Addr×Obj)) (σ:St) (H:Hp) (s:j6) (x:Addr) (cls:Value) (dx:Option Addr),Out X pins σ H s x cls dx->E σ cls dx H->X.xe (.ref x) s
def c5G{s':j6}{E:XK}{e:Value}(I:Inv X pins σ H s)(c:CX1 X.prog X.w X.stack H s E e s'):∃x cls dx H',e=.ref x/\Out X pins σ H' s' x cls dx/\E cls dx H':=by
 obtain⟨x,T,cls,dx,H',rfl,os,bare,un,hok,⟨n1,n2⟩,⟨m1,m2⟩,f,e⟩:=c;have J:Inv X pins σ H' s':=I.call' os un hok bare (ch:=[]) λb z=>absurd z (by simp)
 exact⟨x,cls,dx,H',rfl,⟨J,I.fpOk n1 m1,.inr ⟨T,I.fpOk n2 m2,f⟩⟩,e⟩
def a8A{P:A4}{K:Fg}{mg:Str->Option Value}{base:Heap}{N:List Str}{qual:Str}{scope:Scope}{f:Addr}{cd:Value}{A:R0}{outer:List Env}{s₀:j6}{H₀:Hp}{E:XK} :
  Wi (a7U (CX1 P w) P w K mg base N qual scope f cd A outer s₀ H₀ E) λ_=>E:=by
 intro pins σ H s x cls dx o q;show wpAny _ _ (leaving _ _) _ _ _;unfold leaving;refine c5 (b9v (X:=a7U (CX1 P w) P w K mg base N qual scope f cd A outer s₀ H₀ E) rfl rfl o λs1 h1=>?_);refine b0w h1 λs2 h2=>?_
 obtain⟨T,g1,g2⟩:=h2.fl;have old:∀b,a4S (a7U (CX1 P w) P w K mg base N qual scope f cd A outer s₀ H₀ E) pins H b->s₀.heap.objs.size<=b:=λb h=>h.2.2.2.1.elim (λz=>absurd z (by simp[a7U])) id
 exact⟨x,T,cls,dx,H,rfl,h2.inv.os,h2.inv.bare,h2.inv.base,h2.inv.hok,⟨old _ h2.fx,old _ g1⟩,⟨h2.fx.1,g1.1⟩,g2,q⟩
end L2
namespace L2
open PySem PySem.Spec PyProof.Rows PySem.W
def VEs:List Value:=[.type "ValueError",.type "Exception",.type "BaseException",.type "object"]
def c1i:List Value->Bool
 |.ref _::r=>c1i r
 |l=>l == VEs
def b6x(self:Value):∀ {l:List Value},c1i l=true->refuseLoop self "__setattr__" l=pure ()
 |.ref c::r,e=>by rw[refuseLoop_ref];exact b6x self (l:=r) e
 |[],e=>by cases (beq_iff_eq.mp (show(([]:List Value) == VEs)=true from e))
 |.none::r,e=>by have:=beq_iff_eq.mp (show((Value.none::r) == VEs)=true from e);cases this
 |.type n::r,e=>by
  have:=beq_iff_eq.mp (show((Value.type n::r) == VEs)=true from e);rw[this];exact PySem.F.store_ValueError.passes self
 |.bool n::r,e=>by have:=beq_iff_eq.mp (show((Value.bool n::r) == VEs)=true from e);cases this
 |.int n t::r,e=>by have:=beq_iff_eq.mp (show((Value.int n t::r) == VEs)=true from e);cases this
 |.float n t::r,e=>by have:=beq_iff_eq.mp (show((Value.float n t::r) == VEs)=true from e);cases this
 |.str n t::r,e=>by have:=beq_iff_eq.mp (show((Value.str n t::r) == VEs)=true from e);cases this
 |.bytes n t::r,e=>by have:=beq_iff_eq.mp (show((Value.bytes n t::r) == VEs)=true from e);cases this
 |.builtin n::r,e=>by have:=beq_iff_eq.mp (show((Value.builtin n::r) == VEs)=true from e);cases this
 |.ellipsis::r,e=>by have:=beq_iff_eq.mp (show((Value.ellipsis::r) == VEs)=true from e);cases this
 |.notImplemented::r,e=>by have:=beq_iff_eq.mp (show((Value.notImplemented::r) == VEs)=true from e);cases this
def b6V(K:Frag)(C:Addr):Bool:=(clsIn K C).any λcd=>c1i cd.mro&&cd.mro.contains (.type "object") && !cd.mro.isEmpty
section
variable {prog:A4}{w:World}{A:R0}{E:Value->j6->Prop}{R:b8z->j6->Prop}{s:j6}{K:Frag}{x C:Addr}{name:Str}{v:Value}
def c7C{ox:Obj}{od:Option Obj}{tk:Tok}(X:K.In s.heap)(I:InstAt s.heap x ox C od)(hp:b6V K C=true)(ht:findIn K (.ref C) name=some none)
  (h:wpAny (model prog w) A.in1 (Builtin.ObjectAttr.storeInOwnDict (.ref x) (.ref C) (.str name tk) name v false)
   (λfin s'=>match fin with | .done f=>R (.ok f) s' | .again c'=>c'.quiet=true/\a5z (model prog w) A c' R s') (λe s'=>R (.error e) s') s) :
  a5z (model prog w) A (.call (.builtin "object.__setattr__") ⟨[.ref x,.str name tk,v],[]⟩) R s:=by
 have SF:=PySem.F.store_object;obtain⟨cd,hc,ho⟩:=any_some hp;simp only[a0w,b3U]at ho;obtain⟨⟨ho,hob⟩,ne⟩:=ho;have sub:Looks (model prog w) s.heap (isInstance (.ref x) (.type "object")) true:=I.type.andThen (looks_mroIn X (by unfold mroIn;rw[hc,b3R,if_neg (by rw[ne];decide),hob]));refine codeAny_call_builtin SF.slot.plain SF.entry (@check_slot (model prog w) _ _ s "object.__setattr__" "object" "__setattr__" (.ref x) [.str name tk,v] [] _ SF.kind SF.split sub (SF.args (.ref x) (.str name tk) v) ?_)
 have hm:Looks (model prog w) s.heap (mroOf (.ref C)) cd.mro:=(looks_clsIn X hc).andThen .now;rw[osa_eq,refuse_eq];refine c5 (c5 (I.type.here (c5 (hm.here ?_))));rw[b6x _ ho];refine p9 (c5 (I.type.here (c5 ((looks_findIn X ht).here (c5 (p9 ?_))))));exact h
end
end L2
namespace L2
open PySem PySem.Spec PyProof.Rows PySem.W
section
variable {prog:A4}{w:World}{A:R0}{E:Value->j6->Prop}{R:b8z->j6->Prop}{s:j6}{K:Frag}{x C:Addr}{name:Str}{v:Value}
def c7f{vs:Array Value}{sl:Array (Option Value)}{Q:Unit->j6->Prop}(X:K.In s.heap)(hx:s.heap.get? x=some ⟨.ref C,none,.fields vs,sl⟩)
  (hs:findIn K (.ref C) "__setattr__"=some (some (.builtin "object.__setattr__"))) (hp:b6V K C=true) (ht:findIn K (.ref C) name=some none) (hh:hasDictIn K C=true)
  (h:∀h' tk,h'.get? x=some ⟨.ref C,some s.heap.objs.size,.fields vs,sl⟩->h'.Ns1 s.heap.objs.size (λy=>if y=name then some v else none)->(∀b o,b≠x->s.heap.get? b=some o->h'.get? b=some o)->Q () { s with heap:=h',toks:=tk }) :
  wpAny (model prog w) A (setAttr (.ref x) name v) Q E s:=by
 have J:InstAt s.heap x ⟨.ref C,none,.fields vs,sl⟩ C none:=⟨hx,rfl,rfl,trivial⟩;refine set_plain X J hs (c7C (s:={ s with toks:=s.toks+1 }) X J hp ht ?_);obtain⟨cd,hc,hd'⟩:=any_some hh;refine c5 (p9 (c5 (c5 (wpAny_loadPart hx (c5 (Looks.here (s:={ s with toks:=s.toks+1 }) (looks_clsIn X hc) ?_))))));rw[hd'];have hxs:x≠s.heap.objs.size:=A3 (l5 hx);have hx1:(s.heap.push { cls:=.type "dict",data:=.dict #[] }).get? x=some ⟨.ref C,none,.fields vs,sl⟩:=j7 _ hx;refine c5 (wpAny_alloc ?_);refine c5 (wpAny_update hx1 ?_);refine p9 ?_
 have hgd:((s.heap.push { cls:=.type "dict",data:=.dict #[] }).update x λo=>{ o with dict:=some s.heap.objs.size }).get? s.heap.objs.size=some { cls:=.type "dict",data:=.dict #[] }:=
  (c6H _ _ _ _ hxs.symm).trans (Heap.get?_push_at rfl rfl)
 have hnd:((s.heap.push { cls:=.type "dict",data:=.dict #[] }).update x λo=>{ o with dict:=some s.heap.objs.size }).Ns s.heap.objs.size (λ_=>none):=
  ⟨_,#[],_,hgd,rfl,λe he=>absurd he (by simp),λ_=>rfl⟩
 unfold Builtin.ObjectAttr.storeInDict Builtin.ObjectAttr.newKeyGuard;refine c5 (p9 (c5 (wpAny_nsSet1 (c4k hnd) λh' hn' hs'=>?_)));obtain⟨oD,esD,epD,hoD,hdD,hcD⟩:=hn'.count (Within.cons name v Within.nil);refine c5 (wpAny_lookBehind hoD (by rw[hdD];exact pastItsLine_dict (G5 hcD (by rw[D4,a4f,sizeLine_eq];omega))) ?_);refine p9 ?_;refine h h' _ ((hs'.2 x hxs).trans (a0I _ hx1 rfl)) hn' λb o nb hb=>?_
 exact(hs'.2 b (A3 (l5 hb))).trans ((c6H _ _ _ _ nb).trans (j7 _ hb))
end
end L2
namespace L2
open PySem PySem.Spec PyProof.Rows PySem.W
variable{h:Heap}
def b3k(K:Frag)(C:Addr):Bool:=match K.lookup C with
 |some ⟨.type "type",_,.cls cd,sl⟩=>(match cd.mro,sl.toList with
  | .ref C'::bm,[_,_,_,_,some (.builtin n),_]=>C' == C&&n == "ValueError.__new__" && !cd.hasDel&&tailIn K VEs bm
  |_,_=>false)
 |_=>false
def c1Z{K:Frag}{C:Addr}(X:K.In h)(e:b3k K C=true):∃bm N nm q bs hd sn sub ab col dd k0 k1 k2 k3 k5,h.get? C=some (excClassObj nm q C N bs bm hd sn sub ab col dd k0 k1 k2 k3 k5 "ValueError.__new__")/\OwnTail h VEs bm:=by
 unfold b3k at e;split at e
 .rename_i dd cd sl ho
  split at e
  .rename_i C' bm k0 k1 k2 k3 n k5 hm hs
   simp only[a0w,beq_iff_eq,b3U]at e;obtain⟨⟨⟨rfl,rfl⟩,hdel⟩,ht⟩:=e;obtain⟨nm,bs,mro,ns,qn,hd,sn,sub,ab,col,del⟩:=cd;dsimp only at hm hdel;subst hm hdel
   have hsl:sl = #[k0,k1,k2,k3,some (.builtin "ValueError.__new__"),k5]:=by
    obtain⟨l⟩:=sl;simp only at hs;rw[hs]
   subst hsl;exact⟨bm,ns,nm,qn,bs,hd,sn,sub,ab,col,dd,k0,k1,k2,k3,k5,X _ _ ho,tail_of_in X ht⟩
  .cases e
 .cases e
section
variable {prog:A4}{w:World}{A:R0}{E:Value->j6->Prop}{s:j6}{K:Frag}{C:Addr}
def a3f(h:Heap)(C:Addr)(rest:List Value):Heap:=(h.push { cls:=.type "tuple",data:=.seq rest.toArray }).push { cls:=.ref C,data:=.fields #[.ref h.objs.size,.none,.none,.none,.bool false,.none] }
def a7R{rest:List Value}{b:Addr}{o:Obj}(e:h.get? b=some o):(a3f h C rest).get? b=some o:=j7 _ (j7 _ e)
def b5f{rest:List Value}:(a3f h C rest).get? (h.objs.size+1)=some ⟨.ref C,none,.fields #[.ref h.objs.size,.none,.none,.none,.bool false,.none],#[]⟩:=by
 unfold a3f;heap_get
variable {g:Array GenState}{d:Drawn}{t:Nat}{os:OsState}
def b5N{fI:Addr}{rest:List Value}{Q:Fin->j6->Prop}(X:K.In h)(hx:b3k K C=true)(hi:findIn K (.ref C) "__init__"=some (some (.ref fI)))(hf:typeIn K (.ref fI)=some (.type "function"))(hrest:rest.length<=z9)
  (hq:wpAny (model prog w) A (call (.ref fI) (.ref (h.objs.size+1)::rest)) (λr s'=>r=.none/\Q (.done (.ret (.ref (h.objs.size+1)))) s') E ⟨a3f h C rest,g,d,t,os⟩) :
  wpAny (model prog w) A (d2K.«type.__call__» ⟨.ref C::rest,[]⟩) Q E ⟨h,g,d,t,os⟩:=by
 obtain⟨bm,N,nm,q,bs,hd,sn,sub,ab,col,dd,k0,k1,k2,k3,k5,hC,T⟩:=c1Z X hx;have F:=PySem.F.excBase_ValueError;have hBn:VEs.contains (.type "ValueError")=true:=by decide +kernel
 have X1:K.In (a3f h C rest):=X.keeps λb o e=>a7R e
 repeat (first | with_reducible refine wpAny_loadPart_at hC ?_ | with_reducible refine wpAny_madeBy_exc hC ?_ | wp_step)
 refine codeAny_call_builtin_code (Code.quiet_builtin _ F.quiet) (wpAny_check_new_subU F hBn T hC ?_);refine codeAny_exc_new_subU F hBn F T hC ?_ hrest;show wpAny _ _ _ _ _ ⟨a3f h C rest,g,d,t,os⟩;have hC1:(a3f h C rest).get? C=some (excClassObj nm q C N bs bm hd sn sub ab col dd k0 k1 k2 k3 k5 "ValueError.__new__"):=a7R hC;have hget:(a3f h C rest).get? (h.objs.size+1)=some ⟨.ref C,none,.fields #[.ref h.objs.size,.none,.none,.none,.bool false,.none],#[]⟩:=b5f;have hcC:(Value.ref C::bm).contains (.ref C)=true:=by simp
 unfold isInstance
 repeat (first | with_reducible refine wpAny_loadPart_at hget ?_ | (with_reducible refine wpAny_isSubtype_exc hC1 ?_;rw[hcC]) | wp_step)
 show wpAny _ _ (c8F (.ref C) _) _ _ _;refine(looks_findIn X1 hi).at ?_;refine X2 (c5 ((bind_fn X1 _ hf).at ?_));refine c5 (a2b hq (λr s' hr=>?_) λ_ _ x=>x);obtain⟨rfl,hQ⟩:=hr
 wp_walk
 exact hQ
def b8d{fI:Addr}{rest:List Value}{Q:Value->j6->Prop}(X:K.In h)(hx:b3k K C=true)(hi:findIn K (.ref C) "__init__"=some (some (.ref fI)))(hf:typeIn K (.ref fI)=some (.type "function"))(hrest:rest.length<=z9)
  (hq:wpAny (model prog w) (A.under (.builtin "type.__call__" ⟨.ref C::rest,[]⟩)) (call (.ref fI) (.ref (h.objs.size+1)::rest)) (λr s'=>r=.none/\Q (.ref (h.objs.size+1)) s') E ⟨a3f h C rest,g,d,t,os⟩) :
  wpAny (model prog w) A (call (.ref C) rest) Q E ⟨h,g,d,t,os⟩:=by
 obtain⟨bm,N,nm,q,bs,hd,sn,sub,ab,col,dd,k0,k1,k2,k3,k5,hC,T⟩:=c1Z X hx;have f1:=tc_lookup;have f2:=tc_bind (.ref C);have hT:(⟨h,g,d,t,os⟩:j6).TypeIs (.ref C) "type" := ⟨_,hC,rfl⟩;refine wpAny_call (codeAny_of_tree ?_);show wpAny _ _ (callAny (.ref C) _) _ _ _
 repeat (any_goals (first | assumption | with_reducible refine wpAny_loadPart_at hC ?_ | wp_step))
 refine⟨rfl,?_⟩;exact codeAny_call_builtin_at (Code.quiet_builtin _ (by decide +kernel)) entry_typeCall (wpAny_check_type_call_sub hC (b5N X hx hi hf hrest hq))
end
end L2
namespace L2
open PySem PySem.Spec PyProof.Rows PySem.W
def xo(x C:Addr)(dx:Option Addr):HO:=.ext λh=>∃tu,h.get? x=some ⟨.ref C,dx,.fields #[.ref tu,.none,.none,.none,.bool false,.none],#[]⟩
structure c0e(K:Frag)(C:Addr):Prop where
 xc:b3k K C=true
 sa:findIn K (.ref C) "__setattr__"=some (some (.builtin "object.__setattr__"))
 ve:b6V K C=true
 hd:hasDictIn K C=true
 kp:keepIn K (.ref C)=true
section
variable {P:A4}{w:World}{X:Cx}{pins:List (Addr×Obj)}{σ:St}{H:Hp}{s:j6}{a C:Addr}{f:Str}
def c8J{h:Heap}{dx:Option Addr}(e:∃tu,h.get? a=some ⟨.ref C,dx,.fields #[.ref tu,.none,.none,.none,.bool false,.none],#[]⟩):V5 P w H h a (xo a C dx):=
 ⟨e,let⟨_,q⟩:=e; ⟨_,q⟩,λ_ _ ⟨tu,q⟩ k=>⟨tu,k _ q⟩⟩
def c7d{A:R0}{E:Value->j6->Prop}{y:V}{u:Value}{Q:Unit->j6->Prop}(I:Inv X pins σ H s)(e:H a=some (xo a C none))(c:c0e X.K C)(n:findIn X.K (.ref C) f=some none)(ry:K0 y u)
  (h:∀s' d,H d=none->d≠a->Inv X pins σ (upd (upd H d (.xd [(f,y)])) a (xo a C (some d))) s'->Q () s'):wpAny (model X.prog X.w) A (setAttr (.ref a) f u) Q E s:=by
 obtain⟨⟨tu,hx⟩,_⟩:V5 X.prog X.w H s.heap a (xo a C none):=I.hok a _ e;refine c7f I.kIn hx c.sa c.ve n c.hd λh' tk e1 e2 e3=>?_
 have hd:H s.heap.objs.size=none:=I.hok.fresh (j8 _);have nd:s.heap.objs.size≠a:=b5C (l5 hx)
 have na:∀b u,H b=some u->(∀φ,u≠.ext φ)->b≠a:=λb u q z1 z2=>by
  subst z2;rw[e]at q;cases q;exact z1 _ rfl
 refine h _ s.heap.objs.size hd nd (I.un (h':=h') (t':=tk) ⟨λb o q z _ _=>e3 b o (λz2=>by rw[z2,e]at z;cases z) q,λb o q z _ _=>⟨o.slots,e3 b o (λz2=>by rw[z2,e]at z;cases z) q⟩,λb o q z _=>?_,λb o q _=>?_,λb xs q=>?_,λb o u q=>?_,λb ps q=>⟨#[],?_⟩⟩ λb o q=>?_)
 .rw[i9 (λz2=>by rw[z2,e]at z;cases z),i9 (A3 (l5 q))];exact z
 .by_cases hb:b=a
  .subst hb;exact⟨_,e1⟩
  .exact⟨o,e3 b o hb q⟩
 .rw[i9 (na b _ q fun φ z=>by cases z),i9 (f6 q hd)];exact q
 .rw[i9 (na b _ q fun φ z=>by cases z),i9 (f6 q hd)];exact q
 .rw[i9 (na b _ q fun φ z=>by cases z),i9 (f6 q hd),q];simp
 .by_cases hb:b=a
  .subst hb;rw[c7]at q;cases q;exact c8J ⟨tu,e1⟩
  .rw[i9 hb]at q;by_cases hbd:b=s.heap.objs.size
   .subst hbd;rw[c7]at q;cases q;refine⟨_,e2,λg=>?_⟩;by_cases hg:g=f
    .subst hg;simp only[if_true];show a7l (W0 g [(g,y)]) (some u);simp[W0,a7l];exact ry
    .simp only[hg,if_false];show a7l (W0 g [(f,y)]) none;have:(g == f)=false:=beq_eq_false_iff_ne.mpr hg;simp[W0,this,a7l]
   .rw[i9 hbd]at q;refine(I.hok b o q).stay (λc v hc z=>e3 c v ?_ z) (λc z=>?_) λc xs z=>?_
    .rcases hc with rfl | hc
     .exact hb
     .exact na c _ hc fun φ z=>by cases z
    .rw[i9 (na c _ z fun φ z=>by cases z),i9 (f6 z hd)];exact z
    .rw[i9 (na c _ z fun φ z=>by cases z),i9 (f6 z hd)];exact z
end
end L2
namespace L2
open PySem PySem.Spec PyProof.Rows PySem.W
def del(H:Hp)(a:Addr):Hp:=λb=>if b=a then none else H b
def b5h{H:Hp}{a:Addr}:del H a a=none:=by unfold del;rw[if_pos rfl]
def a7T{H:Hp}{a b:Addr}(h:b≠a):del H a b=H b:=by unfold del;rw[if_neg h]
def c2l(K:Frag)(ta tv:TE)(f:Str):TS:=λD σ H=>tv σ H λy H1=>ta σ H1 λx H2=>∃a C,x=.ref a/\H2 a=some (xo a C none)/\c0e K C/\findIn K (.ref C) f=some none /\
 ∀d,H2 d=none->d≠a->D.nx σ (upd (upd H2 d (.xd [(f,y)])) a (xo a C (some d)))
section
variable {X:Cx}{pins:List (Addr×Obj)}{σ:St}{H:Hp}{s:j6}{a C:Addr}{f:Str}{o value:Expr}{ta tv:TE}{pos pos':Pos}
def b7x(ha:PE X o ta)(hv:PE X value tv)(hs:a6U value (some (.Attribute o f pos')) pos.line X.env=pure false:=by rfl):PS X (.Assign [.Attribute o f pos'] value pos) (c2l X.K ta tv f):=.mk λpins s σ H D I h=>by
 refine plainObj_wpAny_Assign_Attribute (thn (hv pins s σ H _ I h) λu s1 ⟨y,H1,I1,ry,q⟩=>thn (ha pins s1 σ H1 _ I1 q) λov s2 ⟨x,H2,I2,rx,a,C,ex,ea,c,n,q2⟩=>?_) hs;subst ex;obtain rfl:ov=Value.ref a:=rx;exact c7d I2 ea c n ry λs3 d d1 d2 I3=>⟨σ,_,I3,q2 d d1 d2⟩
def Inv.del{dx:Option Addr}(I:Inv X pins σ H s)(e:H a=some (xo a C dx)):Inv X pins σ (del H a) s:=by
 have na:∀b u,H b=some u->(∀φ,u≠.ext φ)->b≠a:=λb u q z1 z2=>by
  subst z2;rw[e]at q;cases q;exact z1 _ rfl
 have no:∀b,H b=none->L2.del H a b=none:=λb q=>by
  by_cases hb:b=a
  .rw[hb];exact b5h
  .rw[a7T hb];exact q
 refine⟨I.ok,I.os,I.bare,⟨I.base.keep,I.base.slot,λb o q z hx=>no b (I.base.free b o q z hx),I.base.there,λb xs q=>?_,λb o u q=>?_,λb ps q=>?_⟩,I.loc,I.cell,no _ I.free,λx c q=>no _ (I.freeC x c q),λp hp=>?_,λb u q=>?_,I.len⟩
 .have:=I.base.tups b xs q;rw[a7T (na b _ this fun φ z=>by cases z)];exact this
 .have:=I.base.frzs b o u q;rw[a7T (na b _ this fun φ z=>by cases z)];exact this
 .obtain⟨m,this⟩:=I.base.tbls b ps q;exact⟨m,by rw[a7T (na b _ this fun φ z=>by cases z)];exact this⟩
 .obtain⟨p1,p2,p3⟩:=I.pin p hp;exact⟨p1,no _ p2,p3⟩
 .have hb:b≠a:=λz=>by rw[z,b5h]at q;cases q
  rw[a7T hb]at q;refine(I.hok b u q).stay (λc v _ z=>z) (λc z=>?_) λc xs z=>?_
  .rw[a7T (na c _ z fun φ z=>by cases z)];exact z
  .rw[a7T (na c _ z fun φ z=>by cases z)];exact z
end
section
variable {M:Model}{A:R0}{E:Value->j6->Prop}{env:Env}{K:Frag}{C:Addr}
def c0W{s:j6}{x:Sem Value}{Q:Flow->j6->Prop}(hh:A.handled=none)(hx:b3k K C=true)
  (h:wpAny M A x (λv s1=>∃e tu dx,v=.ref e/\K.In s1.heap/\s1.heap.get? e=some ⟨.ref C,dx,.fields #[.ref tu,.none,.none,.none,.bool false,.none],#[]⟩/\E (.ref e) s1) E s):wpAny M A (raiseStmt env (some x) none) Q E s:=by
 unfold raiseStmt;refine c5 (a2b h (λv s1 h1=>?_) λ_ _ x=>x);obtain⟨e,tu,dx,rfl,X,he,hE⟩:=h1;obtain⟨hp,g,d,tk,os⟩:=s1;obtain⟨bm,N,nm,q,bs,hd,sn,sub,ab,col,dd,k0,k1,k2,k3,k5,hC,T⟩:=c1Z X hx;have hcB:(Value.ref C::bm).contains (.type "BaseException")=true:=by rw[c6R,T.hasType (b:=true) (by decide +kernel),d2H]
 repeat (first | with_reducible refine wpAny_loadPart_at he ?_ | with_reducible refine wpAny_loadPart_at hC ?_ | (with_reducible refine wpAny_isSubtype_exc hC ?_;rw[hcB]) | wp_step)
 exact wpAny_raiseNew_none hh hE
end
end L2
namespace L2
open PySem PySem.Spec PyProof.Rows PySem.W
def a7w(C:Addr)(sp:Sp)(E:St->XK)(t:TA):TS:=λ_ σ H=>t σ H λvs H1=>vs.length<=z9/\∀a,H1 a=none->sp (.ref a::vs) (upd H1 a (xo a C none)) (λv H2=>v=.non/\∃dx,H2 a=some (xo a C dx)/\E σ (.ref C) dx (del H2 a)) E0
section
variable {X:Cx}{k:Nat}{f C:Addr}{fd:Q5}{ps:List Str}{sp:Sp}{E:St->XK}{x:Str}{np cpos pos:Pos}{e:Expr}{es:List Expr}{t:TA}
def c3p(hc:X.calm=true)(W:Wi X E)(c:c0e X.K C)(hi:findIn X.K (.ref C) "__init__"=some (some (.ref f)))(hf:typeIn X.K (.ref f)=some (.type "function"))(F:E3 X.prog X.w X.K X.mg X.base CX0 k f fd ps sp)(hr:Q1 (k+1) X.A)(hg:Gl X x)
  (hm:X.mg x=some (.ref C)) (hb:a2R X.K fd ps []) (ha:PA X (e::es) t) (hdb:(x == ("__debug__" : Str))=false:=by decide) (he:u6 (e::es) X.env=(false,eval e X.env)::u6 es X.env:=by rfl) (hpl:(a0v cpos (u6 es X.env)).any (·.1)=false:=by rfl) :
  PS X (.Raise (some (.Call (.Name x np) (e::es) [] cpos)) none pos) (a7w C sp E t):=.mk λpins s σ H D I h=>by
 have go:wpAny (model X.prog X.w) X.A (eval (.Call (.Name x np) (e::es) [] cpos) X.env) (λv s1=>∃e tu dx,v=.ref e/\X.K.In s1.heap/\s1.heap.get? e=some ⟨.ref C,dx,.fields #[.ref tu,.none,.none,.none,.bool false,.none],#[]⟩/\X.xe (.ref e) s1) X.xe s:=by
  refine a0u (a6x I hg hm ?_ hdb);refine a1F (h₀:=X.base) I.ok.mod.kin c.kp (thn (ha cpos pins s σ H _ I h) λus s1 ⟨vs,H1,I1,r,hz,q⟩=>⟨I1.kIn,?_⟩) he hpl
  have I2:Inv X pins σ (upd H1 (s1.heap.objs.size+1) (xo (s1.heap.objs.size+1) C none)) { s1 with heap:=a3f s1.heap C us }:=
   I1.laid (a:=s1.heap.objs.size+1) (h':=a3f s1.heap C us) (t':=s1.toks) (λb u q=>a7R q) (a4q _) (c8J ⟨_,b5f⟩)
  have hq:=q (s1.heap.objs.size+1) (I1.hok.fresh (a4q _));have r2:L8 (V.ref (s1.heap.objs.size+1)::vs) (Value.ref (s1.heap.objs.size+1)::us):=.cons rfl r
  have hl:(Value.ref (s1.heap.objs.size+1)::us++[]).length=ps.length:=by
   have e:=r2.length;rw[F.len _ _ _ _ hq]at e;rw[F9];exact e.symm
  have hbi:=hb { s1 with heap:=a3f s1.heap C us } (Value.ref (s1.heap.objs.size+1)::us) I2.kIn hl;rw[F9]at hbi;obtain⟨h1,g1,d1,t1,os1⟩:=s1;refine b8d (rest:=us) I1.kIn c.xc hi hf (by rw[<-r.length];exact hz) ?_;refine wpAny_call (a3E (F.run _ X.stack _ _ ⟨Value.ref (h1.objs.size+1)::us,[]⟩ (Value.ref (h1.objs.size+1)::us) _ _ E0 (hr.make C us []) (I2.env0.make C us []) hbi r2 hq) λr s' hq'=>?_);cases r with
  |error e=>exact False.elim hq'
  |ok fl=>
   cases fl with
   |ret u=>
    obtain⟨v,H',I3,rv,ev,dx,e3,q3⟩:=I2.after hq';subst ev;obtain⟨⟨tu,ho⟩,_⟩:V5 X.prog X.w H' s'.heap _ (xo _ C dx):=I3.hok _ _ e3;refine⟨rv,_,tu,dx,rfl,I3.kIn,ho,W pins σ _ s' _ _ dx ⟨I3.del e3,I1.fpOk (a4q _) b5h,.inl ⟨_,_,ho,⟨rfl,rfl,rfl⟩,rfl,rfl⟩⟩ q3⟩
   |next=>exact False.elim hq'
   |brk=>exact False.elim hq'
   |cont=>exact False.elim hq'
 rw[arm_exec_Raise];exact c5 (a8p (c0W (I.ok.hd hc) c.xc (c5 (a2b go (λv s3 h3=>c5 (a8p (p9 h3))) λ_ _ z=>z))))
end
end L2
namespace L2
open PySem PySem.Spec PyProof.Rows PySem.W
section
variable {X:Cx}{pins:List (Addr×Obj)}{σ:St}{H:Hp}{s:j6}{i:Nat}{n:Str}
def c2W{M:Model}{A:R0}{E:Value->j6->Prop}{v:V}{Q:Unit->j6->Prop}(I:Inv X pins σ H s)(hN:X.N.Nodup)(hi:X.N[i]?=some n)(hl:X.env.scope.names.lookup n=some .local)(hv:σ[i]?=some (some v))
  (k:∀s',Inv X pins (σ.set i none) H s'->Q () s'):wpAny M A (unbindName X.env n) Q E s:=by
 obtain⟨m,hm,hL⟩:=I.loc;have hk:X.env.kindOf n=some .local:=hl;obtain⟨u,_,q⟩:=hL i n v hi hv (.inl hl)
 have hmn:m n=some u:=by
  rcases q with q | ⟨q,_⟩
  .exact q.2
  .rcases q with q | q <;> (rw[hk]at q;cases q)
 refine wpAny_unbindName_local hk hm hmn (by simp[I.ok.kind]) λh' u' hn' hs=>k _ ?_
 have nl:∀b o,X.s₀.heap.get? b=some o->b≠X.env.locals:=λb o e=>A3 (A7 (l5 e) I.ok.above)
 refine⟨I.ok,I.os,I.bare,⟨λb o e z hb hx=>(hs.2 b (nl b o e)).trans (I.base.keep b o e z hb hx),λb o e z hb hx=>?_,I.base.free,λb o e hx=>?_,I.base.tups,I.base.frzs,I.base.tbls⟩,⟨_,hn',λj y v' e1 e2 e3=>?_⟩,λy c e=>?_,I.free,I.freeC,λp hp=>?_,λb o q=>?_,by simpa using I.len⟩
 .obtain⟨sl,q⟩:=I.base.slot b o e z hb hx;exact⟨sl,(hs.2 b (nl b o e)).trans q⟩
 .obtain⟨o',q⟩:=I.base.there b o e hx;exact⟨o',(hs.2 b (nl b o e)).trans q⟩
 .have hj:j≠i:=λz=>by
   subst z;rw[List.getElem?_set]at e2;simp only[if_true]at e2;split at e2 <;> cases e2
  rw[O2 (Ne.symm hj)]at e2;obtain⟨u2,r,q⟩:=hL j y v' e1 e2 e3;refine⟨u2,r,?_⟩;rcases q with ⟨q1,q2⟩ | ⟨q1,c,q2,q3⟩
  .refine .inl ⟨q1,?_⟩
   have:y≠n:=λz=>by
    subst z;exact hj (b4R hN e1 hi)
   simp only[this,if_false];exact q2
  .exact .inr ⟨q1,c,q2,q3.sameBut hs (I.cne y c q2)⟩
 .obtain⟨w',z⟩:=I.cell y c e;exact⟨w',z.sameBut hs (I.cne y c e)⟩
 .obtain⟨e,z,ne,nf,d⟩:=I.pin p hp;exact⟨(hs.2 p.1 ne).trans e,z,ne,nf,d⟩
 .refine(I.hok b o q).stay (λc v' hc z=>(hs.2 c λz2=>?_).trans z) (λ_ z=>z) λ_ _ z=>z
  rcases hc with rfl | hc
  .rw[z2,I.free]at q;cases q
  .rw[z2,I.free]at hc;cases hc
def a9h{M:Model}{A:R0}{E:Value->j6->Prop}{pos:Pos}{Q:Unit->j6->Prop}(I:Inv X pins σ H s)(hN:X.N.Nodup)(hi:X.N[i]?=some n)(hl:X.env.scope.names.lookup n=some .local)
  (k:∀s',Inv X pins (σ.set i none) H s'->Q () s'):wpAny M A (do bindName X.env n .none;unbindBehindTheSuite X.env n pos) Q E s:=by
 have hlt:i<σ.length:=by rw[I.len];exact(u0.mp hi).1
 refine c5 (wpAny_bindName (a7b (v:=.non) I hN hi (.inl hl) rfl (λs1 I1=>?_) (.inr hl)));unfold unbindBehindTheSuite;refine wpAny_onRaise (c2W I1 hN hi hl (M6 hlt) λs2 I2=>?_);rw[List.set_set]at I2;exact k s2 I2
end
end L2
namespace L2
open PySem PySem.Spec PyProof.Rows PySem.W
def c1r{M:Model}{A:R0}{E:Value->j6->Prop}{K:Frag}{h:Heap}{g:Array GenState}{d:Drawn}{t:Nat}{os:OsState}{C C1 e:Addr}{oe:Obj}{Q:Bool->j6->Prop}(X:K.In h)(h1:b3k K C1=true)(hsub:mroIn K C (.ref C1)=some true)
  (he:h.get? e=some oe) (hcls:oe.cls=.ref C) (hq:Q true ⟨h,g,d,t,os⟩):wpAny M A (excMatches (.ref e) (.ref C1)) Q E ⟨h,g,d,t,os⟩:=by
 obtain⟨bm,N,nm,q,bs,hd,sn,sub,ab,col,dd,k0,k1,k2,k3,k5,hC1,T⟩:=c1Z X h1;have hcB:(Value.ref C1::bm).contains (.type "BaseException")=true:=by rw[c6R,T.hasType (b:=true) (by decide +kernel),d2H]
 have L:=looks_mroIn (M:=M) X hsub;have f:=tc_notTuple;unfold excMatches
 repeat (first | (with_reducible refine wpAny_loadPart_at he ?_;rw[hcls]) | with_reducible refine wpAny_loadPart_at hC1 ?_ | (with_reducible refine wpAny_isSubtype_exc hC1 ?_;rw[hcB]) | with_reducible refine L.at ?_ | wp_step)
 exact hq
abbrev Cx.tryB(X:Cx)(pins:List (Addr×Obj))(E:Value->j6->Prop):Cx:={ X with pn:=X.pn++pins,xe:=E }
abbrev Cx.suite(X:Cx)(pins:List (Addr×Obj))(x:Addr)(oe:Obj):Cx:={ X with A:=X.A.mark (some (.ref x)),calm:=false,pn:=X.pn++(pins++[(x,oe)]),xe:=λ_ _=>False }
section
variable {X:Cx}{pins pins':List (Addr×Obj)}{σ:St}{H:Hp}{s:j6}{x:Addr}{oe:Obj}{E:Value->j6->Prop}
def Inv.tryB(I:Inv X pins σ H s)(E:Value->j6->Prop):Inv (X.tryB pins E) [] σ H s:=
 ⟨⟨I.ok.mod,I.ok.kind,I.ok.glob,I.ok.blt,I.ok.above,I.ok.inj,I.ok.has,I.ok.cab,I.ok.hd,I.ok.frames,I.ok.stk,I.ok.exf,I.ok.bs,I.ok.bsz,I.ok.noex,I.ok.exfs,I.ok.funs,I.ok.frf⟩,I.os,I.bare,I.base,I.loc,I.cell,I.free,I.freeC,λp hp=>I.pin p (by simpa using hp),I.hok,I.len⟩
def Inv.untryB(I:Inv (X.tryB pins E) pins' σ H s):Inv X pins σ H s:=
 ⟨⟨I.ok.mod,I.ok.kind,I.ok.glob,I.ok.blt,I.ok.above,I.ok.inj,I.ok.has,I.ok.cab,I.ok.hd,I.ok.frames,I.ok.stk,I.ok.exf,I.ok.bs,I.ok.bsz,I.ok.noex,I.ok.exfs,I.ok.funs,I.ok.frf⟩,I.os,I.bare,I.base,I.loc,I.cell,I.free,I.freeC,λp hp=>I.pin p (v9 _ hp),I.hok,I.len⟩
def a4S.untryB{b:Addr}(f:a4S (X.tryB pins E) pins' H b):a4S X pins H b:=⟨f.1,f.2.1,f.2.2.1,f.2.2.2.1,f.2.2.2.2.1,λp hp=>f.2.2.2.2.2 p (v9 _ hp)⟩
def Out.untryB{cls:Value}{dx:Option Addr}(o:Out (X.tryB pins E) pins' σ H s x cls dx):Out X pins σ H s x cls dx:=⟨o.inv.untryB,o.fx.untryB,o.fl.imp id λ⟨T,f1,f2⟩=>⟨T,f1.untryB,f2⟩⟩
def Inv.suite(I:Inv X pins σ H s)(f:a4S X pins H x)(he:s.heap.get? x=some oe)(hd:∀v,oe.data≠.cell v):Inv (X.suite pins x oe) [] σ H s:=
 ⟨⟨I.ok.mod,I.ok.kind,I.ok.glob,I.ok.blt,I.ok.above,I.ok.inj,I.ok.has,I.ok.cab,(λz=>by cases z),I.ok.frames,I.ok.stk,I.ok.exf,I.ok.bs,I.ok.bsz,I.ok.noex,I.ok.exfs,I.ok.funs,I.ok.frf⟩,I.os,I.bare,I.base,I.loc,I.cell,I.free,I.freeC,λp hp=>by
  have hp:p∈(X.pn++(pins++[(x,oe)]))++[]:=hp;rw[F9,<-a2O]at hp;rcases v7.mp hp with z | z
  .exact I.pin p z
  .rw[l7.mp z];exact⟨he,f.1,f.2.1,f.2.2.1,hd⟩,I.hok,I.len⟩
def Inv.unsuite(hh:X.calm=true->X.A.handled=none)(I:Inv (X.suite pins x oe) pins' σ H s):Inv X pins σ H s:=
 ⟨⟨I.ok.mod,I.ok.kind,I.ok.glob,I.ok.blt,I.ok.above,I.ok.inj,I.ok.has,I.ok.cab,hh,I.ok.frames,I.ok.stk,I.ok.exf,I.ok.bs,I.ok.bsz,I.ok.noex,I.ok.exfs,I.ok.funs,I.ok.frf⟩,I.os,I.bare,I.base,I.loc,I.cell,I.free,I.freeC,λp hp=>I.pin p (by
  show p∈(X.pn++(pins++[(x,oe)]))++pins';rw[<-a2O];exact v9 _ (v9 _ hp)),I.hok,I.len⟩
end
def c2e(K:Frag)(C1:Addr)(i:Nat)(tb:(St->XK)->TS)(th:Addr->Addr->Option Addr->TS):TS:=λD σ H=>tb (λσ' cls dx H'=>∃C,cls=.ref C/\mroIn K C (.ref C1)=some true/\∀x,H' x=none ->
 th x C dx { nx:=λσ2 H2=>D.nx (σ2.set i none) H2,rt:=D.rt,bk:=λσ2 H2=>D.bk (σ2.set i none) H2,ct:=λσ2 H2=>D.ct (σ2.set i none) H2 } (σ'.set i (some (.ref x))) H') D σ H
section
variable {X:Cx}{C1:Addr}{i:Nat}{n c1:Str}{np hpos pos:Pos}{body:List Stmt}{b0:Stmt}{suite:List Stmt}{tb:(St->XK)->TS}{th:Addr->Addr->Option Addr->TS}
def c7s(hc:X.calm=true)(hst:X.stack=X.env::X.outer)(hf:X.env.frame=some X.env.locals)(hN:X.N.Nodup)(hi:X.N[i]?=some n)(hl:X.env.scope.names.lookup n=some .local)(hg:Gl X c1)(hm:X.mg c1=some (.ref C1))(h1:b3k X.K C1=true)
  (hb:∀(E:St->XK) (pins:List (Addr×Obj)) (xe:Value->j6->Prop),Wi (X.tryB pins xe) E->PSs (X.tryB pins xe) body (tb E))
  (hs:∀(pins:List (Addr×Obj)) (x C:Addr) (dx:Option Addr) (oe:Obj) (vs:Array Value),oe.cls=.ref C->oe.dict=dx->oe.data=.fields vs->vs[2]?=some .none->PSs (X.suite pins x oe) (b0::suite) (th x C dx))
  (hdb:(c1 == ("__debug__" : Str))=false:=by decide) :
  PS X (.Try body [.ExceptHandler (some (.Name c1 np)) (some n) (b0::suite) hpos] [] [] pos) (c2e X.K C1 i tb th):=.mk λpins s σ H D I h=>by
 have hh:=I.ok.hd;obtain⟨XE,hXE⟩:∃XE:Value->j6->Prop,XE=λe s1=>wpAny (model X.prog X.w) X.A (noteFrame e X.env) (λ_ s2=>wpAny (model X.prog X.w) X.A (setFlight e none) (λ_ s3=>wpAny (model X.prog X.w) X.A (handleBy e X.env [.ExceptHandler (some (.Name c1 np)) (some n) (b0::suite) hpos]) (SP X pins D) X.xe s3) X.xe s2) X.xe s1:=⟨_,rfl⟩
 refine wpAny_Try_except ?_;rw[<-hXE]
 have W:Wi (X.tryB pins XE) λσ' cls dx H'=>∃C,cls=.ref C/\mroIn X.K C (.ref C1)=some true/\∀x,H' x=none ->
   th x C dx { nx:=λσ2 H2=>D.nx (σ2.set i none) H2,rt:=D.rt,bk:=λσ2 H2=>D.bk (σ2.set i none) H2,ct:=λσ2 H2=>D.ct (σ2.set i none) H2 } (σ'.set i (some (.ref x))) H':=by
  rintro pins' σ' H' s' x cls dx o ⟨C,rfl,hsub,hth⟩;show XE (.ref x) s';rw[hXE];have o:=o.untryB
  refine b9v hst hf o λs2 o2=>b0w o2 λs3 o3=>?_
  refine wpAny_handleBy_cons (codeAny_handlers_test ?_) (by intro q;cases q);obtain⟨T,f1,oe,vs,oT,ts,he,⟨hcls,hdx,h2⟩,hd,hr⟩:=o3.fl;have I3:Inv (X.suite pins x oe) [] σ' H' s3:=o3.inv.suite o3.fx he λv z=>by rw[hd]at z;cases z
  refine a6x (X:=X.suite pins x oe) I3 hg hm ?_ hdb;obtain⟨hp3,g3,d3,t3,os3⟩:=s3;refine c1r I3.kIn h1 hsub he hcls ?_;refine codeAny_handlers_suite_as ?_;refine b0w o3 λs4 o4=>?_
  obtain⟨T4,f4,oe4,vs4,oT4,ts4,he4,⟨hcls4,hdx4,h24⟩,hd4,hr4⟩:=o4.fl;have I4:Inv (X.suite pins x oe4) [] σ' H' s4:=o4.inv.suite o4.fx he4 λv z=>by rw[hd4]at z;cases z
  refine a7b (X:=X.suite pins x oe4) (v:=.ref x) I4 hN hi (.inl hl) rfl (λs5 I5=>?_) (.inr hl);refine a2b (hs pins x C dx oe4 vs4 hcls4 hdx4 hd4 h24 [] s5 _ H' _ I5 (hth x o4.fx.1)) (λf s6 q=>?_) λ_ _ z=>False.elim z
  show wpAny _ _ _ _ _ _;cases f with
  |next=>
   obtain⟨σ2,H2,I6,q⟩:=q;exact a9h (I6.unsuite hh) hN hi hl λs7 I7=>⟨_,_,I7,q⟩
  |brk=>
   obtain⟨σ2,H2,I6,q⟩:=q;exact a9h (I6.unsuite hh) hN hi hl λs7 I7=>⟨_,_,I7,q⟩
  |cont=>
   obtain⟨σ2,H2,I6,q⟩:=q;exact a9h (I6.unsuite hh) hN hi hl λs7 I7=>⟨_,_,I7,q⟩
  |ret u=>
   obtain⟨v,σ2,H2,I6,r,q⟩:=q;exact a9h (I6.unsuite hh) hN hi hl λs7 I7=>⟨v,_,_,I7,r,q⟩
 refine a2b (hb _ pins XE W [] s σ H D (I.tryB XE) h) (λf s1 q=>?_) λ_ _ z=>z
 cases f with
 |next=>
  obtain⟨σ2,H2,I6,q⟩:=q;exact a8v ⟨σ2,H2,I6.untryB,q⟩
 |brk=>
  obtain⟨σ2,H2,I6,q⟩:=q;exact⟨σ2,H2,I6.untryB,q⟩
 |cont=>
  obtain⟨σ2,H2,I6,q⟩:=q;exact⟨σ2,H2,I6.untryB,q⟩
 |ret u=>
  obtain⟨v,σ2,H2,I6,r,q⟩:=q;exact⟨v,σ2,H2,I6.untryB,r,q⟩
end
end L2
namespace L2
open PySem PySem.Spec PyProof.Rows PySem.W
section
variable {prog:A4}{w:World}{A:R0}{E:Value->j6->Prop}{s:j6}{K:Frag}{x C:Addr}{ox:Obj}{od:Option Obj}{name:Str}{v:Value}
variable {h:Heap}{g:Array GenState}{d:Drawn}{t:Nat}{os:OsState}
structure c8r(K:Frag)(C:Addr):Prop where
 ga:findIn K (.ref C) "__getattribute__"=some (some (.builtin "BaseException.__getattribute__"))
 gg:findIn K (.ref C) "__getattr__"=some none
 be:mroIn K C (.type "BaseException")=some true
def c4C{tk:Tok}{R:b8z->j6->Prop}(X:K.In h)(I:InstAt h x ox C od)(c:c8r K C)(hf:findObj K C od name=some (.value v))(hq:R (.ok (.ret v)) ⟨h,g,d,t,os⟩) :
  a5z (model prog w) A (.call (.builtin "BaseException.__getattribute__") ⟨[.ref x,.str name tk],[]⟩) R ⟨h,g,d,t,os⟩:=by
 have hk:builtinKind "BaseException.__getattribute__"=some .slot:=by decide +kernel
 have hs:splitId "BaseException.__getattribute__"=some ("BaseException","__getattribute__"):=by decide +kernel
 have L0:=I.type (M:=model prog w);have L1:=looks_find (M:=model prog w) X I hf;have sub:Looks (model prog w) h (isInstance (.ref x) (.type "BaseException")) true:=L0.andThen (looks_mroIn X c.be);refine codeAny_call_builtin a3A.ga.plain c0m (@check_slot (model prog w) _ _ ⟨h,g,d,t,os⟩ "BaseException.__getattribute__" "BaseException" "__getattribute__" (.ref x) [.str name tk] [] _ hk hs sub (c1S _ _) ?_);refine c5 (p9 (c5 (p9 (c5 (L0.at (c5 (L1.at ?_)))))));exact p9 hq
def c6W{tk:Tok}{fill expr:Bool}{Q:Value->j6->Prop}(X:K.In h)(I:InstAt h x ox C od)(c:c8r K C)(hf:findObj K C od name=some (.value v))(hh:handedIn v=true)(hq:Q v ⟨h,g,d,t,os⟩) :
  wpAny (model prog w) A (getAttrBy (.ref x) (.str name tk) fill expr) Q E ⟨h,g,d,t,os⟩:=by
 have L0:=I.type (M:=model prog w);have L1:=looks_findIn (M:=model prog w) X c.ga;have L2:=looks_findIn (M:=model prog w) X c.gg;have f3:=a3A.ga.bind (.ref x);have hx0:(expr&&onTheHeap (Value.builtin "BaseException.__getattribute__"))=false:=by cases expr <;> rfl
 have hx2:(Value.builtin "BaseException.__getattribute__" == Value.builtin "object.__getattribute__")=false:=by decide +kernel
 have hx1:(onTheHeap (Value.ref C)&&Value.builtin "BaseException.__getattribute__" == Value.builtin "object.__getattribute__")=false:=by rw[hx2];rfl
 unfold getAttrBy;refine X2 (c5 (L0.at (c5 (L1.at ?_))));show wpAny _ _ (if(onTheHeap (Value.ref C)&&Value.builtin "BaseException.__getattribute__" == Value.builtin "object.__getattribute__")=true then _ else _) _ _ _;rw[if_neg (by rw[hx1];decide)];unfold getAttrByItsOwn hookBefore;refine c5 (L2.at ?_);refine c5 (wpAny_attempt (X2 ?_));unfold callGetattribute;rw[hx0,if_neg (by decide)];unfold boundAndCalled;refine c5 (wpAny_of_eq f3 (wpAny_call (c4C X I c hf ?_)));show wpAny _ _ (handedOut v) _ _ _;rw[handedOut_of hh];exact p9 hq
def c8d{expr:Bool}{Q:Value->j6->Prop}(X:K.In s.heap)(I:InstAt s.heap x ox C od)(c:c8r K C)(hf:findObj K C od name=some (.value v))(hh:handedIn v=true)(hq:Q v { s with toks:=s.toks+1 }) :
  wpAny (model prog w) A (getAttr (.ref x) name expr) Q E s:=by
 obtain⟨h,g,d,t,os⟩:=s;unfold getAttr;exact c5 (wpAny_mkText (c6W X I c hf hh hq))
end
end L2
namespace L2
open PySem PySem.Spec PyProof.Rows PySem.W
structure XIs(K:Frag)(C:Addr):Prop extends c8r K C where
 hd:hasDictIn K C=true
 ha:findIn K (.ref C) "__class__"=some (some (.builtin "object.__class__"))
 hn:specialIn K (.builtin "object.__class__") "__get__"=some (some (.builtin "getset_descriptor.__get__"))
 tk:takesIn K (.builtin "object.__class__")=some true
 ob:mroIn K C (.type "object")=some true
section
variable {prog:A4}{w:World}{A:R0}{E:Value->j6->Prop}{s:j6}{K:Frag}{x C:Addr}{ox:Obj}{od:Option Obj}{name:Str}{v:Value}
variable {h:Heap}{g:Array GenState}{d:Drawn}{t:Nat}{os:OsState}
def b8C{tk:Tok}{R:b8z->j6->Prop}(X:K.In h)(I:InstAt h x ox C od)(c:XIs K C)(hq:R (.ok (.ret (.ref C))) ⟨h,g,d,t,os⟩) :
  a5z (model prog w) A (.call (.builtin "BaseException.__getattribute__") ⟨[.ref x,.str "__class__" tk],[]⟩) R ⟨h,g,d,t,os⟩:=by
 have hk:builtinKind "BaseException.__getattribute__"=some .slot:=by decide +kernel
 have hs:splitId "BaseException.__getattribute__"=some ("BaseException","__getattribute__"):=by decide +kernel
 have hf:findObj K C od "__class__"=some (.bind (.builtin "getset_descriptor.__get__") (.builtin "object.__class__")):=by
  obtain⟨cd,hc,_⟩:=any_some c.hd;unfold findObj;rw[hc,b3R,c.ha,b3R];simp[c.hn,c.tk]
 have L0:=I.type (M:=model prog w);have L1:=looks_find (M:=model prog w) X I hf;have sub:Looks (model prog w) h (isInstance (.ref x) (.type "BaseException")) true:=L0.andThen (looks_mroIn X c.be);refine codeAny_call_builtin a3A.ga.plain c0m (@check_slot (model prog w) _ _ ⟨h,g,d,t,os⟩ "BaseException.__getattribute__" "BaseException" "__getattribute__" (.ref x) [.str "__class__" tk] [] _ hk hs sub (c1S _ _) ?_);refine c5 (p9 (c5 (p9 (c5 (L0.at (c5 (L1.at ?_)))))));show wpAny _ _ (a7q [Value.builtin "object.__class__"] (call (.builtin "getset_descriptor.__get__") [.builtin "object.__class__",.ref x,.ref C]) >>= ret) _ _ _;refine c5 (X2 (wpAny_call (class_get (s:=⟨h,g,d,t,os⟩) (ox:=ox) (od:=od) X I c.ob ?_)));exact p9 hq
def c2U{tk:Tok}{fill expr:Bool}{Q:Value->j6->Prop}(X:K.In h)(I:InstAt h x ox C od)(c:XIs K C)(hq:Q (.ref C) ⟨h,g,d,t,os⟩) :
  wpAny (model prog w) A (getAttrBy (.ref x) (.str "__class__" tk) fill expr) Q E ⟨h,g,d,t,os⟩:=by
 have L0:=I.type (M:=model prog w);have L1:=looks_findIn (M:=model prog w) X c.ga;have L2:=looks_findIn (M:=model prog w) X c.gg;have f3:=a3A.ga.bind (.ref x);have hx0:(expr&&onTheHeap (Value.builtin "BaseException.__getattribute__"))=false:=by cases expr <;> rfl
 have hx2:(Value.builtin "BaseException.__getattribute__" == Value.builtin "object.__getattribute__")=false:=by decide +kernel
 have hx1:(onTheHeap (Value.ref C)&&Value.builtin "BaseException.__getattribute__" == Value.builtin "object.__getattribute__")=false:=by rw[hx2];rfl
 unfold getAttrBy;refine X2 (c5 (L0.at (c5 (L1.at ?_))));show wpAny _ _ (if(onTheHeap (Value.ref C)&&Value.builtin "BaseException.__getattribute__" == Value.builtin "object.__getattribute__")=true then _ else _) _ _ _;rw[if_neg (by rw[hx1];decide)];unfold getAttrByItsOwn hookBefore;refine c5 (L2.at ?_);refine c5 (wpAny_attempt (X2 ?_));unfold callGetattribute;rw[hx0,if_neg (by decide)];unfold boundAndCalled;refine c5 (wpAny_of_eq f3 (wpAny_call (b8C X I c ?_)));show wpAny _ _ (handedOut (.ref C)) _ _ _;rw[handedOut_of rfl];exact p9 hq
def b9F(c:XIs K C):KitX K (.ref x) (.ref C) (λh=>InstAt h x ox C od) where
 ty:=λ_ _ _ I=>I.type
 it:=λ_ _ X _=>by
  obtain⟨cdD,hcD,_⟩:=any_some c.hd;unfold clsIn at hcD;split at hcD
  .rename_i c' d' cd' sl' ho
   intro A' Q' E' s' k q;unfold isType loadHead;exact c5 (wpAny_loadPart (k _ _ (X _ _ ho)) (p9 q))
  .cases hcD
 ne:=λh tp dd its n sl X htp=>by
  obtain⟨cdD,hcD,_⟩:=any_some c.hd;refine c8A.mpr λq=>?_
  have e:C=tp:=Value.ref.inj (beq_iff_eq.mp q);subst e;unfold clsIn at hcD;split at hcD
  .rename_i c' d' cd' sl' ho
   have z:=(X _ _ ho).symm.trans htp;cases z
  .cases hcD
 ca:=fun {prog w A E Q s} X I k=>by
  obtain⟨h,g,d,t,os⟩:=s;unfold getAttr? getAttrBy?;exact c5 (wpAny_mkText (c5 (wpAny_attempt (c2U X I c (p9 k)))))
end
structure c4h(X:Cx)(x C:Addr)(dx:Option Addr):Prop where
 ex:∃oe vs,(x,oe)∈X.pn/\oe.cls=.ref C/\oe.dict=dx/\oe.data=.fields vs/\vs[2]?=some .none
def c3b{X:Cx}{pins:List (Addr×Obj)}{x C:Addr}{dx:Option Addr}{oe:Obj}{vs:Array Value}(h1:oe.cls=.ref C)(h2:oe.dict=dx)(h3:oe.data=.fields vs)(h4:vs[2]?=some .none):c4h (X.suite pins x oe) x C dx:=
 ⟨oe,vs,by simp,h1,h2,h3,h4⟩
def d1M(K:Frag)(x C:Addr):List V->Hp->VK->Prop:=λvs H Q=>∃c u b,vs=[.ref x,c]/\K0 c u/\kitOne K (.ref C) u=some b/\(∀u',K0 c u'->u'=u)/\XIs K C/\Q (.bl b) H
section
variable {X:Cx}{x C:Addr}{dx:Option Addr}{f:Str}{pos:Pos}{e:Expr}{ta:TE}
def b5c{pins:List (Addr×Obj)}{σ:St}{H:Hp}{s:j6}(I:Inv X pins σ H s)(hx:c4h X x C dx)(hd:∀d,dx=some d->∃fs,H d=some (.xd fs)):∃oe od,InstAt s.heap x oe C od/\∀d,dx=some d->∃o,od=some o/\s.heap.get? d=some o:=by
 obtain⟨oe,vs,hm,h1,h2,h3,_⟩:=hx.ex;have ho:=(I.pin (x,oe) (v9 _ hm)).1;have hn:notCls oe=true:=by unfold notCls;rw[h3]
 cases hdx:dx with
 |none=>exact⟨oe,none,⟨ho,h1,hn,by rw[h2,hdx];trivial⟩,λd z=>by cases z⟩
 |some d=>
  obtain⟨fs,hf⟩:=hd d hdx;obtain⟨mA,⟨o,es,ep,e1,r⟩,_⟩:V5 X.prog X.w H s.heap d (.xd fs):=I.hok d _ hf;exact⟨oe,some o,⟨ho,h1,hn,by rw[h2,hdx];exact e1⟩,λd' z=>by cases z;exact⟨o,rfl,e1⟩⟩
def b3D(dx:Option Addr)(H:Hp):Prop:=∀d,dx=some d->∃fs,H d=some (.xd fs)
def b1x(hx:c4h X x C dx):W2 X (.builtin "isinstance") (λvs H Q=>b3D dx H/\d1M X.K x C vs H Q):=by
 constructor;rintro pins s σ H vs us Q I r ⟨hd,c,u,b,rfl,rc,e,un,xi,q⟩;obtain⟨u1,u2,rfl,r1,r2⟩:=b2R r;obtain rfl:u1=Value.ref x:=r1;obtain rfl:=un _ r2;obtain⟨oe,od,J,_⟩:=b5c I hx hd;exact kia_one (b9F xi) I.kIn J e (λz=>nomatch z) λtk=>⟨.bl b,H,I.tok tk,rfl,q⟩
def c8O(K:Frag)(x C:Addr)(dx:Option Addr)(ta:TE)(f:Str):TE:=λσ H Q=>ta σ H λy H1=>y=.ref x/\∃d fs v,dx=some d/\H1 d=some (.xd fs)/\fs.lookup f=some v/\XIs K C/\findIn K (.ref C) f=some none/\Q v H1
def b7C(hx:c4h X x C dx)(he:PE X e ta)(hb:a5C e f X.env (eval e X.env)=eval e X.env:=by rfl):PE X (.Attribute e f pos) (c8O X.K x C dx ta f):=.mk λpins s σ H Q I h=>by
 refine c2J hb (thn (he pins s σ H _ I h) λov s1 ⟨y,H1,I1,ry,ey,d,fs,v,edx,ed,l,xi,na,q⟩=>?_);subst ey;obtain rfl:ov=Value.ref x:=ry;obtain⟨oe,od,J,hod⟩:=b5c I1 hx λd' z=>by rw[edx]at z;cases z;exact⟨fs,ed⟩
 obtain⟨o,rfl,ho⟩:=hod d edx;obtain⟨mA,hns,hr⟩:V5 X.prog X.w H1 s1.heap d (.xd fs):=I1.hok d _ ed;obtain⟨o',ho',hlk⟩:=b6H hns;rw[ho]at ho';cases ho';have hf:=hr f;rw[l]at hf
 obtain⟨u,hu,ru⟩:∃u,mA f=some u/\K0 v u:=by
  cases hm:mA f with
  |none=>rw[hm]at hf;exact hf.elim
  |some u=>rw[hm]at hf;exact⟨u,rfl,hf⟩
 exact c8d I1.kIn J ⟨xi.ga,xi.gg,xi.be⟩ (findObj_own xi.hd na rfl (by rw[hlk,hu])) (b6J ru) ⟨v,H1,I1.tok _,ru,q⟩
end
end L2
namespace L2
open PySem PySem.Spec PyProof.Rows PySem.W
section
variable {prog:A4}{w:World}{A:R0}{E:Value->j6->Prop}{s:j6}
end
section
variable {X:Cx}{elt iter:Expr}{x:Str}{px pos:Pos}{ifs:List Expr}{scope:Scope}
end
section
variable {X:Cx}{elt:Expr}{x:Str}{px pos:Pos}{ifs:List Expr}{scope:Scope}{y C:Addr}{dx:Option Addr}
end
section
variable {X:Cx}
end
mutual
inductive RdP(H:Hp):V->PyData->Prop
 | non:RdP H .non .none
 | bl (b:Bool):RdP H (.bl b) (.bool b)
 | int (i:Int):RdP H (.int i) (.int i)
 | str (s:Str):RdP H (.str s) (.str s)
 | lst {a:Addr} {xs:List V} {ds:List PyData}:H a=some (.lst xs)->b5v H xs ds->RdP H (.ref a) (.list ds)
 | tup {a:Addr} {xs:List V} {ds:List PyData}:H a=some (.tup xs)->b5v H xs ds->RdP H (.ref a) (.tuple ds)
 | dct {a:Addr}:H a=some (.dK [])->RdP H (.ref a) (.dict [])
inductive b5v(H:Hp):List V->List PyData->Prop
 | nil:b5v H [] []
 | cons {x:V} {xs:List V} {d:PyData} {ds:List PyData}:RdP H x d->b5v H xs ds->b5v H (x::xs) (d::ds)
end
section
variable {H H':Hp}{P:A4}{w:World}{h:Heap}
mutual
def RdP.same:∀ {x:V} {d:PyData},(∀a o,H a=some o->H' a=some o)->RdP H x d->RdP H' x d
 |_,_,_,.non=>.non
 |_,_,_,.bl b=>.bl b
 |_,_,_,.int i=>.int i
 |_,_,_,.str s=>.str s
 |_,_,k,.lst e r=>.lst (k _ _ e) (b5v.same k r)
 |_,_,k,.tup e r=>.tup (k _ _ e) (b5v.same k r)
 |_,_,k,.dct e=>.dct (k _ _ e)
def b5v.same:∀ {xs:List V} {ds:List PyData},(∀a o,H a=some o->H' a=some o)->b5v H xs ds->b5v H' xs ds
 |_,_,_,.nil=>.nil
 |_,_,k,.cons r rs=>.cons (RdP.same k r) (b5v.same k rs)
end
end
section
variable {X:Cx}{k:Nat}
end
section
variable {A:R0}{s:j6}
end
section
variable {X:Cx}{k:Nat}
end
section
variable {X:Cx}{k:Nat}
end
end L2
namespace L2
open PySem PySem.Spec PyProof.Rows PySem.W
section
variable {prog:A4}{w:World}{A:R0}{E:Value->j6->Prop}{s:j6}
end
section
variable {X:Cx}{elt:Expr}{x:Str}{px pos:Pos}{ifs:List Expr}{scope:Scope}{y C:Addr}{dx:Option Addr}
end
end L2
namespace L2
open PySem PySem.Spec PyProof.Rows PySem.W
def b6Y(C:Addr)(sp:Sp)(E:St->XK)(t:TA):TE:=λσ H Q=>t σ H λvs H1=>∀x dx,H1 x=none->H1 dx=none->dx≠x->sp (.ref x::vs) (upd (upd H1 dx (.own x)) x (.ins C dx [])) (λv H2=>v=.non/\Q (.ref x) H2) (E σ)
structure d2l(k:Nat)(A:R0):Prop where
 dp:A.depth+3 * k+5<recursionLimit
 un:A.units+16 * k+200<cLine
 gd:A.guards=some []
structure d2u(P:A4)(w:World)(K:Frag)(mg:Str->Option Value)(base:Heap)(k:Nat)(f:Addr)(fd:Q5)(ps:List Str)(sp:Sp):Prop where
 len:∀vs H Q E,sp vs H Q E->vs.length=ps.length
 run:∀(A:R0) (outer:List Env) (s:j6) (H:Hp) (args:Args) (us:List Value) (vs:List V) (Q:VK),d2l k A->c0h P w K mg base A outer s H->b1O s fd args (ps.zip us)->L8 vs us->sp vs H Q E0 ->
  a5z (model P w) A (.call (.ref f) args) (CR CX0 outer P w H s Q E0) s
structure d2C(P:A4)(w:World)(K:Frag)(mg:Str->Option Value)(base:Heap)(k:Nat)(x:Str)(ps:List Str)(sp:Sp):Prop where
 ex:∃f fd,d2u P w K mg base k f fd ps sp/\mg x=some (.ref f)/\keepIn K (.ref f)=true/\a2R K fd ps []
section
variable {P:A4}{w:World}{K:Frag}{mg:Str->Option Value}{base:Heap}
end
section
variable {X:Cx}{k j:Nat}{C f:Addr}{fd:Q5}{ps:List Str}{sp:Sp}{E:St->XK}{x:Str}{p pos:Pos}{e:Expr}{es:List Expr}{t:TA}
def c5x(W:Wi X E)(M:Mk X.K C f)(F:E3 X.prog X.w X.K X.mg X.base (CX1 X.prog X.w) k f fd ps sp)(hr:Q1 (k+1) X.A)(hg:Gl X x)(hm:X.mg x=some (.ref C))(hb:a2R X.K fd ps [])(ha:PA X (e::es) t)
  (hdb:(x == ("__debug__" : Str))=false:=by decide) (he:u6 (e::es) X.env=(false,eval e X.env)::u6 es X.env:=by rfl) (hpl:(a0v pos (u6 es X.env)).any (·.1)=false:=by rfl) :
  PE X (.Call (.Name x p) (e::es) [] pos) (b6Y C sp E t):=.mk λpins s σ H Q I h=>by
 refine a0u (a6x I hg hm ?_ hdb);refine a1F (h₀:=X.base) I.ok.mod.kin M.kp (thn (ha pos pins s σ H _ I h) λus s1 ⟨vs,H1,I1,r,q⟩=>⟨I1.kIn,?_⟩) he hpl;have hq:=q (s1.heap.objs.size+1) s1.heap.objs.size (I1.hok.fresh (a4q _)) (I1.hok.fresh (j8 _)) (A3 (a8X _));have I2:=Inv.made (C:=C) I1;have r2:L8 (V.ref (s1.heap.objs.size+1)::vs) (Value.ref (s1.heap.objs.size+1)::us):=.cons rfl r
 have hl:(Value.ref (s1.heap.objs.size+1)::us++[]).length=ps.length:=by
  have e:=r2.length;rw[F.len _ _ _ _ hq]at e;rw[F9];exact e.symm
 have hbi:=hb { s1 with heap:=(s1.heap.push R8).push (Z5 C s1.heap.objs.size) } (Value.ref (s1.heap.objs.size+1)::us) I2.kIn hl;rw[F9]at hbi
 refine wpAny_call (b4X (f:=f) I1.kIn M.makes M.init (beq_iff_eq.mp M.fn) (a3E (F.run _ X.stack _ _ ⟨Value.ref (s1.heap.objs.size+1)::us,[]⟩ (Value.ref (s1.heap.objs.size+1)::us) _ _ (E σ) (hr.make C us [])
  (I2.env0.make C us []) hbi r2 hq) λr s' hq'=>?_))
 cases r with
 |error e=>
  obtain⟨y,cls,dx,H',rfl,o,q'⟩:=c5G I2 hq';exact W pins σ H' s' y cls dx o q'
 |ok fl=>
  cases fl with
  |ret u=>
   obtain⟨v,H',I3,rv,ev,q3⟩:=I2.after hq';subst ev;exact⟨rv,⟨V.ref (s1.heap.objs.size+1),H',I3,rfl,q3⟩⟩
  |next=>exact False.elim hq'
  |brk=>exact False.elim hq'
  |cont=>exact False.elim hq'
end
end L2
namespace L2
open PySem PySem.Spec PyProof.Rows PySem.W
def d1u(t:TA)(te:TE):TA:=λσ H Q=>t σ H λvs H1=>te σ H1 λz H2=>Q (vs++[z]) H2
structure b5w(P:A4)(w:World)(K:Frag)(mg:Str->Option Value)(base:Heap)(k:Nat)(x:Str)(C:Addr)(ps:List Str)(kn:Str)(sp:Sp):Prop where
 ex:∃f fd,E3 P w K mg base CX0 k f fd ps sp/\mg x=some (.ref C)/\Mk K C f/\∀(s:j6) (us:List Value) (z:Value),K.In s.heap->(us++[z]).length=ps.length->b1O s fd ⟨us,[(kn,z)]⟩ (ps.zip (us++[z]))
section
variable {X:Cx}{k j:Nat}{f C:Addr}{fd:Q5}{ps:List Str}{sp:Sp}{x kn:Str}{p pos kpos:Pos}{e ke:Expr}{es:List Expr}{t:TA}{te:TE}
def c3m{pins:List (Addr×Obj)}{σ:St}{H:Hp}{s:j6}{Q:VK}{us:List Value}{vs:List V}{kw:List (Str×Value)}{zs:List Value}(M:Mk X.K C f)(F:E3 X.prog X.w X.K X.mg X.base CX0 k f fd ps sp)(hr:Q1 (k+1) X.A)
  (hb:∀(s:j6) (a:Value),X.K.In s.heap->(a::zs).length=ps.length->b1O s fd ⟨a::us,kw⟩ (ps.zip (a::zs))) (I:Inv X pins σ H s) (r:L8 vs zs)
  (h:∀x dx,H x=none->H dx=none->dx≠x->sp (.ref x::vs) (upd (upd H dx (.own x)) x (.ins C dx [])) (λv H2=>v=.non/\Q (.ref x) H2) E0) :
  wpAny (model X.prog X.w) X.A (call (.ref C) us kw) (EP X pins σ Q) X.xe s:=by
 have hq:=h (s.heap.objs.size+1) s.heap.objs.size (I.hok.fresh (a4q _)) (I.hok.fresh (j8 _)) (A3 (a8X _));have I2:=Inv.made (C:=C) I;have r2:L8 (V.ref (s.heap.objs.size+1)::vs) (Value.ref (s.heap.objs.size+1)::zs):=.cons rfl r
 have hl:(Value.ref (s.heap.objs.size+1)::zs).length=ps.length:=by
  have e:=r2.length;rw[F.len _ _ _ _ hq]at e;exact e.symm
 refine wpAny_call (b4X (f:=f) I.kIn M.makes M.init (beq_iff_eq.mp M.fn) (a3E (F.run _ X.stack _ _ ⟨Value.ref (s.heap.objs.size+1)::us,kw⟩ (Value.ref (s.heap.objs.size+1)::zs) _ _ E0 (hr.make C us kw)
  (I2.env0.make C us kw) (hb _ (Value.ref (s.heap.objs.size+1)) I2.kIn hl) r2 hq) λr s' hq'=>?_))
 cases r with
 |error e=>exact b6A pins σ _ _ e s' I2 hq'
 |ok fl=>
  cases fl with
  |ret u=>
   obtain⟨v,H',I3,rv,ev,q3⟩:=I2.after hq';subst ev;exact⟨rv,⟨V.ref (s.heap.objs.size+1),H',I3,rfl,q3⟩⟩
  |next=>exact False.elim hq'
  |brk=>exact False.elim hq'
  |cont=>exact False.elim hq'
def c5y(M:b5w X.prog X.w X.K X.mg X.base k x C ps kn sp)(hr:Q1 j X.A)(hk:k+1<=j)(hg:Gl X x)(ha:PA X (e::es) t)(hkw:PE X ke te)
  (hdb:(x == ("__debug__" : Str))=false:=by decide) (he:u6 (e::es) X.env=(false,eval e X.env)::u6 es X.env:=by rfl)
  (hpl:((a0v pos (u6 (e::es) X.env)).any (·.1)||(a5B pos (a1f [⟨some kn,ke,kpos⟩] X.env)).any (·.1.isNone))=false:=by rfl) :
  PE X (.Call (.Name x p) (e::es) [⟨some kn,ke,kpos⟩] pos) (a2e C sp [] E0 (d1u t te)):=by
 obtain⟨f,fd,F,hm,hM,hb⟩:=M.ex;constructor;intro pins s σ H Q I h;refine a0u (a6x I hg hm ?_ hdb);refine callWith_KW (h₀:=X.base) I.ok.mod.kin hM.kp rfl (thn (ha pos pins s σ H _ I h) λus s1 ⟨vs,H1,I1,r,q⟩=>?_) hpl he
 refine thn (c7w (nm:=some kn) (kpos:=kpos) hkw c9V pos pins s1 σ H1 (λzs H2=>match zs with
  |[z]=>∀x dx,H2 x=none->H2 dx=none->dx≠x->sp (.ref x::((vs++[z])++[])) (upd (upd H2 dx (.own x)) x (.ins C dx [])) (λv H3=>v=.non/\Q (.ref x) H3) E0
  |_=>False) I1 q) λws s2 ⟨zs,H2,I2,rz,q2⟩=>⟨I2.kIn,?_⟩
 dsimp only at q2;split at q2
 .rename_i z
  obtain⟨u,rfl,ru⟩:=a6W rz;refine c3m (us:=us) (kw:=[(kn,u)]) (zs:=us++[u]) (vs:=vs++[z]) hM F (hr.mono hk) (λs a KX hl=>hb s (a::us) u KX hl) I2 (r.append (.cons ru .nil)) λx dx a b c=>?_
  have:=q2 x dx a b c
  rwa [F9]at this
 .exact q2.elim
end
def b2M.bindsK{K:Frag}{x qual kn:Str}{st:Stmt}{T f:Addr}{fd:Q5}{ps:List Str}{o:Obj}{items:Array Value}{n:Nat}(F:b2M K x qual st T f fd)(hT:K.lookup T=some o)(ho:o.data=.seq items n)
  (h:∀(kV doc pm:Value) (an:Option Addr) (cdv ct:Value) (us:List Value) (z:Value),(us++[z]).length=ps.length->∃k,bindArgs (fnOf x qual (a1d st) (R1 st) (g8 st) (.ref T) kV doc pm an cdv ct) ⟨us,[(kn,z)]⟩=(seqItems? (.ref T) >>= k)/\k (some items)=pure (ps.zip (us++[z]))) :
  ∀(s:j6) (us:List Value) (z:Value),K.In s.heap->(us++[z]).length=ps.length->b1O s fd ⟨us,[(kn,z)]⟩ (ps.zip (us++[z])):=by
 obtain⟨oc,od,kV,doc,pm,an,cdv,ct,osl,rfl,lk,hcd⟩:=F.ex;intro s us z KX hl;obtain⟨k,h1,h2⟩:=h kV doc pm an cdv ct us z hl;exact .of_defaults (T:=T) rfl (KX _ _ hT) ho h1 h2
def c2n(K:Frag):List V->Hp->VK->Prop:=λvs H Q=>∃x C,vs=[x,.ref C]/\IsC K C/\((∃a dx fs,x=.ref a/\H a=some (.ins C dx fs)/\Q (.bl true) H)\/∃t,G9 x H=some t/\(("NoneType" :: a7P).all λt=>kitOne K (.type t) (.ref C) == some false)=true/\Q (.bl false) H)
def c1N{X:Cx}:W2 X (.builtin "isinstance") (c2n X.K):=.mk λpins s σ H vs us Q I r h=>by
 obtain⟨x,C,rfl,ic,⟨a,dx,fs,rfl,ha,q⟩ | ⟨t,ht,hn,q⟩⟩:=h
 .exact b5s pins s σ H _ us Q I r ⟨a,C,dx,fs,rfl,ha,ic,q⟩
 .obtain⟨u,u2,rfl,ru,ru2⟩:=b2R r;cases ru2;obtain⟨ty,hm⟩:=c8K (K:=X.K) ht;exact b2z I ru ty (beq_iff_eq.mp (P5.mp hn t hm)) λtk=>⟨.bl _,H,I.tok _,rfl,q⟩
end L2
namespace Y
open PySem PySem.Spec PyProof.Rows L2
section
variable {X:Cx}{st:Stmt}{rest:List Stmt}{t u:TS}{e a b c o i:Expr}{es more:List Expr}{te ta tb tc to ti:TE}{tt tu:TT}{tr:TA}{pos p pos':Pos}{x:Str}
def b5(n:Nat)(hN:X.N[n]?=some x:=by rfl)(hv:Vis X.env.scope x:=by first | exact Or.inl rfl | exact Or.inr (Or.inl rfl) | exact Or.inr (Or.inr rfl))(hd:(x == ("__debug__" : Str))=false:=by decide)
  (hcd:(x == ("__classdict__" : Str))=false:=by decide):PE X (.Name x pos) (b4 n):=L2.c9Y hN hv hd hcd
def D6{v:V}(hm:∃u,X.mg x=some u/\K0 v u)(hg:Gl X x)(hd:(x == ("__debug__" : Str))=false:=by decide):PE X (.Name x pos) (tC v):=by
 obtain⟨u,h1,h2⟩:=hm;exact(L2.c7z hg h1 h2 hd)
def N6(h:PW X e tt):PT X e tt:=L2.PW.pt h
def F6(h:PE X e te)(he:∀whole,isTrue e X.env whole=(do let v <-whole;b3V e.pos;a7q [v] (truthy v)):=by intro _;rfl):PT X e (tB te):=(L2.c9T h he)
def D1{k:Nat}(hr:Q1 k X.A):OpR X (J4 .Eq) qEq:=L2.d0i hr.units0
def b8B{k:Nat}(hr:Q1 k X.A):OpR X (J4 .NotEq) qNe:=L2.d0f hr.units0
def c4z{k:Nat}(hr:Q1 k X.A)(hi:PE X i ti)(ho:PE X o to)(h1:V3 .In o=false):PE X (.Compare i [.In] [o] pos) (b6Z ti to):=L2.c5z (L2.c5B (b5b hr) hi ho) h1
def b8A{k:Nat}(hr:Q1 k X.A)(hi:PE X i ti)(ho:PE X o to)(h1:V3 .In o=false):PT X (.Compare i [.In] [o] pos) (tB (b6Z ti to)):=L2.b7w (L2.c5B (b5b hr) hi ho) h1
def a2y{k:Nat}(hr:Q1 k X.A)(ho:PE X o to)(hi:PE X i ti)(hv:PE X e te)(hs:a6U e (some (.Subscript o i pos')) pos.line X.env=pure false:=by rfl):PS X (.Assign [.Subscript o i pos'] e pos) (a3S to ti te):=L2.c7t (b5b hr) ho hi hv hs
end
def a8z{P:A4}{w:World}{K:Fg}{mg:Str->Option Value}{base:Heap}{x qual:Str}{st:Stmt}{f:Addr}{fd:Q5}{N ps:List Str}{k:Nat}{sp:Sp}(F:Fun K x qual st f fd)(S:v8 N ps (g8 st))(len:∀vs H Q E,sp vs H Q E->vs.length=ps.length)
  (hbody:∀(cdv:Value) (A:R0) (outer:List Env) (s:j6) (H:Hp) (vs:List V) (Q:VK) (E:XK),Q1 k (A.deeper (a8e qual (g8 st) s.heap.objs.size f cdv))->sp vs H Q E ->
   ∃t,PSs (a7U CX0 P w K mg base N qual (g8 st) f cdv A outer s H E).nox (R1 st) t/\t { nx:=λ_ H'=>Q .non H',rt:=Q } (a7d N vs) H):E3 P w K mg base CX0 (k+1) f fd ps sp:=F.ok S len λcdv A outer s H vs Q E hr h=>let⟨t,a,b⟩:=hbody cdv A outer s H vs Q E hr h; ⟨t,a,b⟩
end Y
namespace Y
open PySem PySem.Spec PyProof.Rows L2
section
variable {X:Cx}{st:Stmt}{rest:List Stmt}{t u:TS}{e a b c o i:Expr}{es more:List Expr}{te ta tb tc to ti:TE}{tt tu:TT}{tr:TA}{pos p pos':Pos}{x y:Str}
def S0{pl:Sem Bool}{k j:Nat}{m:Str}{C:Addr}{ps:List Str}{sp:Sp}{apos:Pos}(M:V0 X.prog X.w X.K X.mg X.base k m C ps sp)(hr:Q1 j X.A)(hk:k<=j)(ho:PE X o to)(ha:PA X (e::es) tr)
  (hst:u6 (e::es) X.env=(false,eval e X.env)::u6 es X.env:=by rfl) (hpl:(a0v pos (u6 es X.env)).any (·.1)=false:=by rfl)
  (ht:eval (.Call (.Attribute o m apos) (e::es) [] pos) X.env=(do
   let ov <-eval o X.env
   b3V apos.atName
   let(f,first) <-a7q [ov] (b0E ov m pl)
   c4o pos f first (a0v pos (u6 (e::es) X.env)) (a5B pos (a1f [] X.env))):=by rfl) :
  PE X (.Call (.Attribute o m apos) (e::es) [] pos) (Q6 C m sp [] E0 to tr):=L2.d0a (pl:=pl) M hr hk ho ha hst hpl ht
def a0B{pl:Sem Bool}{k j:Nat}{m:Str}{C:Addr}{ps:List Str}{sp:Sp}{apos:Pos}(M:V0 X.prog X.w X.K X.mg X.base k m C ps sp)(hr:Q1 j X.A)(hk:k<=j)(ho:PE X o to)
  (ht:eval (.Call (.Attribute o m apos) [] [] pos) X.env=(do
   let ov <-eval o X.env
   b3V apos.atName
   let(f,first) <-a7q [ov] (b0E ov m pl)
   c4o pos f first (a0v pos (u6 [] X.env)) (a5B pos (a1f [] X.env))):=by rfl) :
  PE X (.Call (.Attribute o m apos) [] [] pos) (Q6 C m sp [] E0 to i8):=L2.c7x (pl:=pl) M hr hk ho ht
def a8y{k:Nat}(hr:Q1 k X.A)(hi:PE X i ti)(ho:PE X o to)(h1:V3 .NotIn o=false):PE X (.Compare i [.NotIn] [o] pos) (a0Z ti to):=L2.c5z (L2.b6z (b5b hr) hi ho) h1
def a1s{k:Nat}(hr:Q1 k X.A)(hi:PE X i ti)(ho:PE X o to)(h1:V3 .NotIn o=false):PT X (.Compare i [.NotIn] [o] pos) (tB (a0Z ti to)):=L2.b7w (L2.b6z (b5b hr) hi ho) h1
end
end Y
namespace Y
open PySem PySem.Spec PyProof.Rows L2
end Y
namespace Y
open PySem PySem.Spec PyProof.Rows L2
end Y
namespace Y
open PySem PySem.Spec PyProof.Rows L2
end Y
namespace Y
open PySem PySem.Spec PyProof.Rows L2
end Y
namespace Y
open PySem PySem.Spec PyProof.Rows L2
end Y
namespace Y
open PySem PySem.Spec PyProof.Rows L2
section
variable {X:Cx}{e0 e1 e2 e3 e4:Expr}{t0 t1 t2 t3 t4:TE}
def j9(h0:PE X e0 t0)(s0:u6 [e0] X.env=(false,eval e0 X.env)::u6 [] X.env:=by rfl):PA X [e0] (a9 t0 i8):=(J8 h0 a4z s0)
def u8(h0:PE X e0 t0)(h1:PE X e1 t1)(s0:u6 [e0,e1] X.env=(false,eval e0 X.env)::u6 [e1] X.env:=by rfl)(s1:u6 [e1] X.env=(false,eval e1 X.env)::u6 [] X.env:=by rfl):PA X [e0,e1] (a9 t0 (a9 t1 i8)):=(J8 h0 (J8 h1 a4z s1) s0)
def V4(h0:PE X e0 t0)(h1:PE X e1 t1)(h2:PE X e2 t2)(s0:u6 [e0,e1,e2] X.env=(false,eval e0 X.env)::u6 [e1,e2] X.env:=by rfl)(s1:u6 [e1,e2] X.env=(false,eval e1 X.env)::u6 [e2] X.env:=by rfl)(s2:u6 [e2] X.env=(false,eval e2 X.env)::u6 [] X.env:=by rfl):PA X [e0,e1,e2] (a9 t0 (a9 t1 (a9 t2 i8))):=(J8 h0 (J8 h1 (J8 h2 a4z s2) s1) s0)
end
end Y
local macro_rules | `(tactic| walk_at "sc") => `(tactic| exact ⟨rfl, rfl, rfl, by decide +kernel, rfl, by decide +kernel, by decide +kernel⟩)
namespace Y
open PySem PySem.Spec PyProof.Rows L2
section
variable {X:Cx}{e a b o:Expr}{es:List Expr}{te ta tb to:TE}{tr:TA}{pos p pos':Pos}{x:Str}
def A6(n:Nat)(hN:X.N.Nodup)(he:PE X e te)(hi:X.N[n]?=some x:=by rfl)(hx:Loc X.env.scope x:=by first | exact Or.inl rfl | exact Or.inr rfl)(hs:a6U e (some (.Name x pos')) pos.line X.env=pure false:=by rfl)(hf:X.fn x=true\/X.env.scope.names.lookup x=some .local:=by first | exact .inl rfl | exact .inr rfl) :
  PS X (.Assign [.Name x pos'] e pos) (K8 te (z8 n)):=c9U hN hi hx he hs hf
def P6(n:Nat)(hN:X.N.Nodup)(hi:X.N[n]?=some x:=by rfl)(hx:Loc X.env.scope x:=by first | exact Or.inl rfl | exact Or.inr rfl)(hf:X.fn x=true\/X.env.scope.names.lookup x=some .local:=by first | exact .inl rfl | exact .inr rfl):PG X (.Name x pos) (z8 n):=b7B hN hi hx hf
def t6{k j:Nat}{ps:List Str}{sp:Sp}(C:K9 X.prog X.w X.K X.mg X.base k x ps sp)(hr:Q1 j X.A)(ha:PA X (e::es) tr)(hk:k<=j:=by decide)(hg:Gl X x:=by rfl)
  (hdb:(x == ("__debug__" : Str))=false:=by decide) (he:u6 (e::es) X.env=(false,eval e X.env)::u6 es X.env:=by rfl) (hpl:(a0v pos (u6 es X.env)).any (·.1)=false:=by rfl) :
  PE X (.Call (.Name x p) (e::es) [] pos) (z7 sp [] E0 tr):=c9Z C hr hk hg ha hdb he hpl
def b1P{k j:Nat}{C:Addr}{ps:List Str}{sp:Sp}(M:b1G X.prog X.w X.K X.mg X.base k x C ps sp)(hr:Q1 j X.A)(ha:PA X (e::es) tr)(hk:k+1<=j:=by decide)(hg:Gl X x:=by rfl)
  (hdb:(x == ("__debug__" : Str))=false:=by decide) (he:u6 (e::es) X.env=(false,eval e X.env)::u6 es X.env:=by rfl) (hpl:(a0v pos (u6 es X.env)).any (·.1)=false:=by rfl) :
  PE X (.Call (.Name x p) (e::es) [] pos) (a2e C sp [] E0 tr):=d1O M hr hk hg ha hdb he hpl
def v5(ha:PE X a ta)(hb:PE X b tb)(hs:c2L b:=by exact λ_ _=>rfl):PE X (.Subscript a b pos) (tOp qIx ta tb):=c9b d2Z ha hb hs
def a7r{op:CmpOp}{r:R2}(ho:OpR X (J4 op) r)(ha:PE X a ta)(hb:PE X b tb)(hm:V3 op b=false:=by exact a1z _):PE X (.Compare a [op] [b] pos) (tOp r ta tb):=a3W ho ha hb hm
def D8{op:CmpOp}{r:R2}(ho:OpR X (J4 op) r)(ha:PE X a ta)(hb:PE X b tb)(hm:V3 op b=false:=by exact a1z _):PT X (.Compare a [op] [b] pos) (D9 (tOp r ta tb)):=a1w ho ha hb hm
end
end Y
namespace Y
open PySem PySem.Spec PyProof.Rows L2
section
variable {X:Cx}{e o i:Expr}{te to ti:TE}{t:TS}{pos p:Pos}{k:Nat}
end
end Y
namespace Y
open PySem PySem.Spec PyProof.Rows L2
end Y
namespace Y
open PySem PySem.Spec PyProof.Rows L2
section
variable {X:Cx}{i o:Expr}{ti to:TE}{pos:Pos}{k:Nat}
def c4y(hr:Q1 k X.A)(hi:PE X i ti)(ho:PE X o to)(h1:V3 .In o=false):PT X (.Compare i [.In] [o] pos) (tB (b5O X.K false ti to)):=L2.b7w (L2.d0d (b5b hr) hi ho) h1
def a8x(hr:Q1 k X.A)(hi:PE X i ti)(ho:PE X o to)(h1:V3 .NotIn o=false):PT X (.Compare i [.NotIn] [o] pos) (tB (b5O X.K true ti to)):=L2.b7w (L2.c3s (b5b hr) hi ho) h1
def b5L(hc:X.calm=true)(hr:Q1 k X.A):W2 X (.type "dict") (b7t X.K):=L2.b3h hc (by have:=hr.un;omega)
end
end Y
namespace Y
open PySem PySem.Spec PyProof.Rows L2
end Y
namespace Y
open PySem PySem.Spec PyProof.Rows L2
def b5M{X:Cx}{k:Nat}(hc:X.calm=true)(hr:Q1 k X.A):W2 X (.type "dict") (c0Y X.K):=L2.b9Y hc (by have:=hr.un;omega)
end Y
namespace Y
open PySem PySem.Spec PyProof.Rows L2
def c6V{X:Cx}{k j:Nat}{x:Str}{C:Addr}{ps:List Str}{sp:Sp}{dvs:List V}{e:Expr}{es:List Expr}{tr:TA}{p pos:Pos}(M:b8m X.prog X.w X.K X.mg X.base k x C ps dvs sp)(hr:Q1 j X.A)(ha:PA X (e::es) tr)(hk:k+1<=j:=by decide)(hg:Gl X x:=by rfl)
  (hdb:(x == ("__debug__" : Str))=false:=by decide) (he:u6 (e::es) X.env=(false,eval e X.env)::u6 es X.env:=by rfl) (hpl:(a0v pos (u6 es X.env)).any (·.1)=false:=by rfl) :
  PE X (.Call (.Name x p) (e::es) [] pos) (a2e C sp dvs E0 tr):=L2.d0b M hr hk hg ha hdb he hpl
def c2S{P:A4}{w:World}{K:Fg}{mg:Str->Option Value}{base:Heap}{x qual:Str}{st:Stmt}{T f:Addr}{fd:Q5}{N ps:List Str}{k:Nat}{sp:Sp}(F:b2M K x qual st T f fd)(S:v8 N ps (g8 st))(len:∀vs H Q E,sp vs H Q E->vs.length=ps.length)
  (hbody:∀(cdv:Value) (A:R0) (outer:List Env) (s:j6) (H:Hp) (vs:List V) (Q:VK) (E:XK),Q1 k (A.deeper (a8e qual (g8 st) s.heap.objs.size f cdv))->sp vs H Q E ->
   ∃t,PSs (a7U CX0 P w K mg base N qual (g8 st) f cdv A outer s H E).nox (R1 st) t/\t { nx:=λ_ H'=>Q .non H',rt:=Q } (a7d N vs) H):E3 P w K mg base CX0 (k+1) f fd ps sp:=F.ok S len λcdv A outer s H vs Q E hr h=>let⟨t,a,b⟩:=hbody cdv A outer s H vs Q E hr h; ⟨t,a,b⟩
end Y
namespace L2
open PySem PySem.Spec PyProof.Rows PySem.W
structure a5u(P:A4)(w:World)(K:Frag)(mg:Str->Option Value)(base:Heap)(k:Nat)(x:Str)(ps:List Str)(sp:Sp):Prop where
 ex:∃f fd,E3 P w K mg base (CX1 P w) k f fd ps sp/\mg x=some (.ref f)/\keepIn K (.ref f)=true/\a2R K fd ps []
structure a8W(P:A4)(w:World)(K:Frag)(mg:Str->Option Value)(base:Heap)(k:Nat)(x:Str)(C:Addr)(ps:List Str)(sp:Sp):Prop where
 ex:∃f fd,E3 P w K mg base CX0 k f fd ps sp/\mg x=some (.ref C)/\c0e K C/\findIn K (.ref C) "__init__"=some (some (.ref f))/\typeIn K (.ref f)=some (.type "function")/\a2R K fd ps []
structure d3i(K:Frag)(mg:Str->Option Value)(x:Str)(C:Addr):Prop where
 ex:mg x=some (.ref C)/\c0e K C/\findIn K (.ref C) "__init__"=some (some (.builtin "ValueError.__init__"))
def a9U(sp:Sp)(E:St->XK)(t:TA):TE:=λσ H Q=>t σ H λvs H1=>sp vs H1 Q (E σ)
section
variable {X:Cx}{k j:Nat}{ps:List Str}{sp:Sp}{E:St->XK}{x:Str}{p pos:Pos}{e:Expr}{es:List Expr}{t:TA}
def c5A(W:Wi X E)(C:a5u X.prog X.w X.K X.mg X.base k x ps sp)(hr:Q1 j X.A)(hk:k<=j)(hg:Gl X x)(ha:PA X (e::es) t)
  (hdb:(x == ("__debug__" : Str))=false:=by decide) (he:u6 (e::es) X.env=(false,eval e X.env)::u6 es X.env:=by rfl) (hpl:(a0v pos (u6 es X.env)).any (·.1)=false:=by rfl) :
  PE X (.Call (.Name x p) (e::es) [] pos) (a9U sp E t):=.mk λpins s σ H Q I h=>by
 obtain⟨f,fd,F,hm,hkp,hb⟩:=C.ex;refine a0u (a6x I hg hm ?_ hdb);refine a1F (h₀:=X.base) I.ok.mod.kin hkp (thn (ha pos pins s σ H _ I h) λus s1 ⟨vs,H1,I1,r,q⟩=>⟨I1.kIn,?_⟩) he hpl;have hl:(us++[]).length=ps.length:=by rw[F9,<-r.length];exact F.len _ _ _ _ q
 have hbi:=hb s1 us I1.kIn hl;rw[F9]at hbi;refine wpAny_call (a3E (F.run X.A X.stack s1 H1 ⟨us,[]⟩ us vs Q (E σ) (hr.mono hk) I1.env0 hbi r q) λr s' hq=>?_);cases r with
 |error e=>
  obtain⟨y,cls,dx,H',rfl,o,q'⟩:=c5G I1 hq;exact W pins σ H' s' y cls dx o q'
 |ok fl=>
  cases fl with
  |ret u=>exact I1.after hq
  |next=>exact False.elim hq
  |brk=>exact False.elim hq
  |cont=>exact False.elim hq
end
end L2
namespace Y
open PySem PySem.Spec PyProof.Rows L2
def c2R{P:A4}{w:World}{K:Fg}{mg:Str->Option Value}{base:Heap}{x qual:Str}{st:Stmt}{f:Addr}{fd:Q5}{N ps:List Str}{k:Nat}{sp:Sp}(F:Fun K x qual st f fd)(S:v8 N ps (g8 st))(len:∀vs H Q E,sp vs H Q E->vs.length=ps.length)
  (hbody:∀(cdv:Value) (A:R0) (outer:List Env) (s:j6) (H:Hp) (vs:List V) (Q:VK) (E:XK),Q1 k (A.deeper (a8e qual (g8 st) s.heap.objs.size f cdv))->sp vs H Q E ->
   ∃t,PSs (a7U (CX1 P w) P w K mg base N qual (g8 st) f cdv A outer s H E) (R1 st) t/\t { nx:=λ_ H'=>Q .non H',rt:=Q } (a7d N vs) H):E3 P w K mg base (CX1 P w) (k+1) f fd ps sp:=by
 obtain⟨oc,od,kV,doc,pm,an,cdv,ct,osl,rfl,lk,hcd⟩:=F.ex;refine c2y lk hcd S len λA outer s H vs Q E hr hsp=>?_
 obtain⟨t,h,q⟩:=hbody cdv A outer s H vs Q E hr hsp;exact⟨t,h,q⟩
section
variable {X:Cx}{k j:Nat}{C C1:Addr}{dx:Option Addr}{ps:List Str}{sp:Sp}{EE:L2.St->XK}{x c1 n:Str}{p np cpos hpos pos pos':Pos}{e o value elt:Expr}{es ifs:List Expr}{tr:TA}{ta tv te:TE}{tt:TT}{f:Str}{y:Addr}
def b0F(M:a8W X.prog X.w X.K X.mg X.base k x C ps sp)(W:Wi X EE)(hr:Q1 j X.A)(ha:PA X (e::es) tr)(hk:k+1<=j:=by decide)(hc:X.calm=true:=by rfl)(hg:Gl X x:=by rfl)(hdb:(x == ("__debug__" : Str))=false:=by decide)
  (he:u6 (e::es) X.env=(false,eval e X.env)::u6 es X.env:=by rfl) (hpl:(a0v cpos (u6 es X.env)).any (·.1)=false:=by rfl):PS X (.Raise (some (.Call (.Name x np) (e::es) [] cpos)) none pos) (a7w C sp EE tr):=by
 obtain⟨g,fd,F,hm,c,hi,hf,hb⟩:=M.ex;exact(L2.c3p hc W c hi hf F (hr.mono hk) hg hm hb ha hdb he hpl)
def b6S(W:Wi X EE)(M:a5u X.prog X.w X.K X.mg X.base k x ps sp)(hr:Q1 j X.A)(ha:PA X (e::es) tr)(hk:k<=j:=by decide)(hg:Gl X x:=by rfl)(hdb:(x == ("__debug__" : Str))=false:=by decide)
  (he:u6 (e::es) X.env=(false,eval e X.env)::u6 es X.env:=by rfl) (hpl:(a0v pos (u6 es X.env)).any (·.1)=false:=by rfl):PE X (.Call (.Name x p) (e::es) [] pos) (a9U sp EE tr):=L2.c5A W M hr hk hg ha hdb he hpl
def c2Q{i:Nat}{body suite:List Stmt}{b0:Stmt}{tb:(L2.St->XK)->TS}{th:Addr->Addr->Option Addr->TS}(hc:X.calm=true)(hst:X.stack=X.env::X.outer)(hf:X.env.frame=some X.env.locals)(hN:X.N.Nodup)(hi:X.N[i]?=some n)(hl:X.env.scope.names.lookup n=some .local)(hg:Gl X c1)(hm:X.mg c1=some (.ref C1))(h1:b3k X.K C1=true)
  (hb:∀(EE:L2.St->XK) (pins:List (Addr×Obj)) (xe:Value->j6->Prop),Wi (X.tryB pins xe) EE->PSs (X.tryB pins xe) body (tb EE))
  (hs:∀(pins:List (Addr×Obj)) (x C:Addr) (dx:Option Addr) (oe:Obj),c4h (X.suite pins x oe) x C dx->PSs (X.suite pins x oe) (b0::suite) (th x C dx)) (hdb:(c1 == ("__debug__" : Str))=false:=by decide) :
  PS X (.Try body [.ExceptHandler (some (.Name c1 np)) (some n) (b0::suite) hpos] [] [] pos) (c2e X.K C1 i tb th):=L2.c7s hc hst hf hN hi hl hg hm h1 hb (λpins x C dx oe vs a b c d=>(hs pins x C dx oe (c3b a b c d))) hdb
end
end Y
namespace L2
open PySem PySem.Spec PyProof.Rows PySem.W
structure b2L(P:A4)(w:World)(K:Frag)(mg:Str->Option Value)(base:Heap)(k:Nat)(x:Str)(C:Addr)(ps:List Str)(sp:Sp):Prop where
 ex:∃f fd,E3 P w K mg base (CX1 P w) k f fd ps sp/\mg x=some (.ref C)/\Mk K C f/\a2R K fd ps []
def c0D(a b:Sp):Sp:=λvs H Q E=>a vs H Q E0\/b vs H Q E
def E3.or{P:A4}{w:World}{K:Frag}{mg:Str->Option Value}{base:Heap}{j k n:Nat}{f:Addr}{fd:Q5}{ps:List Str}{a b:Sp}(F:E3 P w K mg base CX0 j f fd ps a)(G:E3 P w K mg base (CX1 P w) k f fd ps b)(hj:j<=n)(hk:k<=n) :
  E3 P w K mg base (CX1 P w) n f fd ps (c0D a b):=by
 refine⟨λvs H Q E h=>h.elim (F.len vs H Q E0) (G.len vs H Q E),λA outer s H args us vs Q E hr e0 hb r h=>?_⟩;rcases h with h | h
 .refine a3E (F.run A outer s H args us vs Q E0 (hr.mono hj) e0 hb r h) λr s' q=>?_
  cases r with
  |error e=>exact False.elim q
  |ok fl=>cases fl <;> exact q
 .exact G.run A outer s H args us vs Q E (hr.mono hk) e0 hb r h
def b2L.or{P:A4}{w:World}{K:Frag}{mg:Str->Option Value}{base:Heap}{j k n:Nat}{x:Str}{C f:Addr}{fd:Q5}{ps:List Str}{a b:Sp}(F:E3 P w K mg base CX0 j f fd ps a)(G:E3 P w K mg base (CX1 P w) k f fd ps b)(hj:j<=n)(hk:k<=n)
  (hm:mg x=some (.ref C)) (m:Mk K C f) (hb:a2R K fd ps []):b2L P w K mg base n x C ps (c0D a b):=⟨f,fd,F.or G hj hk,hm,m,hb⟩
end L2
namespace Y
open PySem PySem.Spec PyProof.Rows L2
section
variable {X:Cx}{k j:Nat}{C:Addr}{dx:Option Addr}{ps:List Str}{sp:Sp}{EE:L2.St->XK}{x:Str}{p pos:Pos}{e elt:Expr}{es ifs:List Expr}{tr:TA}{te tl:TE}{tt:TT}{y:Addr}
def c6T(W:Wi X EE)(M:b2L X.prog X.w X.K X.mg X.base k x C ps sp)(hr:Q1 j X.A)(ha:PA X (e::es) tr)(hk:k+1<=j:=by decide)(hg:Gl X x:=by rfl)(hdb:(x == ("__debug__" : Str))=false:=by decide)
  (he:u6 (e::es) X.env=(false,eval e X.env)::u6 es X.env:=by rfl) (hpl:(a0v pos (u6 es X.env)).any (·.1)=false:=by rfl):PE X (.Call (.Name x p) (e::es) [] pos) (b6Y C sp EE tr):=by
 obtain⟨f,fd,F,hm,m,hb⟩:=M.ex;exact(L2.c5x W m F (hr.mono hk) hg hm hb ha hdb he hpl)
end
end Y
namespace L2
open PySem PySem.Spec PyProof.Rows PySem.W
section
variable {prog:A4}{w:World}{A:R0}{E:Value->j6->Prop}{s:j6}{y:Addr}{oy:Obj}{vy:Array Value}
end
section
variable {X:Cx}{y C:Addr}{dx:Option Addr}
end
end L2
namespace Y
open PySem PySem.Spec PyProof.Rows L2
end Y
namespace L2
open PySem PySem.Spec PyProof.Rows
section
variable {X:Cx}
end
end L2
namespace L2
open PySem PySem.Spec PyProof.Rows PySem.W
section
variable {X:Cx}{C1:Addr}{c1:Str}{np hpos pos:Pos}{body:List Stmt}{b0:Stmt}{suite:List Stmt}{tb:(St->XK)->TS}{th:Addr->Addr->Option Addr->TS}
def c8Z(K:Frag)(x C:Addr):List V->Hp->VK->Prop:=λvs H Q=>∃(tp:Addr) (cs:List Addr) (b:Bool),vs=[.ref x,.ref tp]/\H tp=some (.tup (cs.map V.ref))/\kitAny K (.ref C) (cs.map Value.ref)=some b/\XIs K C/\Q (.bl b) H
def b6m:∀ {cs:List Addr} {its:List Value},L8 (cs.map V.ref) its->its=cs.map Value.ref
 |[],its,r=>by cases r;rfl
 |a::cs,its,r=>by
  cases r with
  |cons h t=>
   cases h;rw[b6m t];rfl
def a9l{x C:Addr}{dx:Option Addr}(hx:c4h X x C dx):W2 X (.builtin "isinstance") (λvs H Q=>b3D dx H/\c8Z X.K x C vs H Q):=by
 constructor;rintro pins s σ H vs us Q I r ⟨hd,tp,cs,b,rfl,htp,e,xi,q⟩;obtain⟨u1,u2,rfl,r1,r2⟩:=b2R r;obtain rfl:u1=Value.ref x:=r1;obtain rfl:u2=Value.ref tp:=r2;obtain⟨oe,od,J,_⟩:=b5c I hx hd;obtain⟨its,rv,⟨o,ho,hcl,n,hdt⟩,_⟩:=I.tuple (SqT.of htp);have:=b6m rv;subst this;obtain⟨cls,dd,data,sl⟩:=o;cases hcl;cases hdt;exact kia_tup (b9F xi) I.kIn J ho e (λz=>nomatch z) λtk=>⟨.bl b,H,I.tok tk,rfl,q⟩
end
end L2
namespace Y
open PySem PySem.Spec PyProof.Rows L2 PySem.W
section
variable {X:Cx}{y C C1:Addr}{dx:Option Addr}{c1:Str}{np hpos pos:Pos}
end
end Y
namespace Y
open PySem PySem.Spec PyProof.Rows L2
def c6U{X:Cx}{k j:Nat}{C:Addr}{ps:List Str}{sp:Sp}{x kn:Str}{p pos kpos:Pos}{e ke:Expr}{es:List Expr}{tr:TA}{te:TE}(M:b5w X.prog X.w X.K X.mg X.base k x C ps kn sp)(hr:Q1 j X.A)(ha:PA X (e::es) tr)(hv:PE X ke te)(hk:k+1<=j:=by decide)(hg:Gl X x:=by rfl)
  (hdb:(x == ("__debug__" : Str))=false:=by decide) (he:u6 (e::es) X.env=(false,eval e X.env)::u6 es X.env:=by rfl)
  (hpl:((a0v pos (u6 (e::es) X.env)).any (·.1)||(a5B pos (a1f [⟨some kn,ke,kpos⟩] X.env)).any (·.1.isNone))=false:=by rfl) :
  PE X (.Call (.Name x p) (e::es) [⟨some kn,ke,kpos⟩] pos) (a2e C sp [] E0 (d1u tr te)):=L2.c5y M hr hk hg ha hv hdb he hpl
def c0t{P:A4}{w:World}{K:Fg}{mg:Str->Option Value}{base:Heap}{x qual:Str}{st:Stmt}{T f:Addr}{fd:Q5}{N ps:List Str}{k:Nat}{sp:Sp}(F:b2M K x qual st T f fd)(S:v8 N ps (g8 st))(len:∀vs H Q E,sp vs H Q E->vs.length=ps.length)
  (hbody:∀(cdv:Value) (A:R0) (outer:List Env) (s:j6) (H:Hp) (vs:List V) (Q:VK) (E:XK),Q1 k (A.deeper (a8e qual (g8 st) s.heap.objs.size f cdv))->sp vs H Q E ->
   ∃t,PSs (a7U (CX1 P w) P w K mg base N qual (g8 st) f cdv A outer s H E) (R1 st) t/\t { nx:=λ_ H'=>Q .non H',rt:=Q } (a7d N vs) H):E3 P w K mg base (CX1 P w) (k+1) f fd ps sp:=by
 obtain⟨oc,od,kV,doc,pm,an,cdv,ct,osl,rfl,lk,hcd⟩:=F.ex;refine c2y lk hcd S len λA outer s H vs Q E hr hsp=>?_
 obtain⟨t,h,q⟩:=hbody cdv A outer s H vs Q E hr hsp;exact⟨t,h,q⟩
end Y
namespace RD
open PySem PySem.Spec L2
variable{H H' H0 H1 H2:Hp}{C a cx d dd dx la na p rx wx:Addr}{o:HO}{ds xs ys:List V}{D:b1H}{σ:St}{ta te ti to:TE}{tt:TT}{tr:TA}{Q:VK}{QB:Bool->Hp->Prop}{v v0 v1 v2:V}{i j n t:Nat}{E:XK}{f z:Str}{G L O S Y ks l:List Nat}{QD:Hp->Prop}{R:It->Hp->Prop}{M N:Nt}{m:Int}{ns:List Int}{as rs:List Addr}{Z:Addr->Prop}{Do:Nat->Bool}{kvs:List (Key×V)}
def D0(b:Addr)(H H':Hp):Prop:=(∀a o,H a=some o->a≠b->H' a=some o)/\∀o,H b=some o->∃o',H' b=some o'
def D0.refl(b:Addr)(H:Hp):D0 b H H:=⟨λ_ _ h _=>h,λo h=>⟨o,h⟩⟩
def D0.trans{b:Addr}(x:D0 b H H1)(y:D0 b H1 H2):D0 b H H2:=
 ⟨λa o h n=>y.1 a o (x.1 a o h n) n,λo h=>let⟨o',h'⟩:=x.2 o h;y.2 o' h'⟩
def D0.upd(b:Addr)(H:Hp)(o:HO):D0 b H (upd H b o):=⟨λa u h n=>by rw[i9 n];exact h,λ_ _=>⟨o,c7⟩⟩
def D0.new{b:Addr}(h:H p=none):D0 b H (L2.upd H p o):=
 ⟨λa u e _=>by rw[i9 (f6 e h)];exact e,λu e=>⟨u,by rw[i9 (f6 e h)];exact e⟩⟩
def D0.of_same{b:Addr}(s:j5 H H'):D0 b H H':=⟨λa o h _=>s a o h,λo h=>⟨o,s _ _ h⟩⟩
def A2(h:H p=none):j5 H (L2.upd H p o):=λa u e=>by rw[i9 (f6 e h)];exact e
def D0.none{b:Addr}(k:D0 b H H')(h:H' p=Option.none):H p=Option.none:=by
 cases e:H p with
 |none=>rfl
 |some o=>
  by_cases z:p=b
  .subst z;obtain⟨o',h'⟩:=k.2 o e;rw[h]at h';cases h'
  .rw[k.1 p o e z]at h;cases h
def D0.tup{b a:Addr}{H H':Hp}{xs ys:List V}(k:D0 b H H')(hb:H b=some (.lst ys))(h:H a=some (.tup xs)):H' a=some (.tup xs):=
 k.1 a _ h (O9 h hb (by intro z;cases z))
structure Bag(H:Hp)(b c:Addr):Prop where
 ex:∃(i0 i1 i2:Int) (ns:List Int),H b=some (.lst [.int i0,.int i1,.int i2,.ref c])/\H c=some (.lst (ns.map V.int))/\0<=i0/\0<=i1/\i1<2147483647/\0<=i2/\∀x∈ns,0<=x
def Bag.lst{H:Hp}{b c:Addr}(h:Bag H b c):∃xs,H b=some (.lst xs):=by
 obtain⟨i0,i1,i2,ns,h,_⟩:=h.ex;exact⟨_,h⟩
def Bag.same{b c:Addr}(h:Bag H b c)(s:j5 H H'):Bag H' b c:=by
 obtain⟨i0,i1,i2,ns,h1,h2,r⟩:=h.ex;exact⟨i0,i1,i2,ns,s _ _ h1,s _ _ h2,r⟩
def Bag.new{b c:Addr}(h:Bag H b c)(n:H p=none):Bag (L2.upd H p o) b c:=h.same (A2 n)
def Bag.put{b c:Addr}(h:Bag H b c)(n1:p≠b)(n2:p≠c):Bag (L2.upd H p o) b c:=by
 obtain⟨i0,i1,i2,ns,h1,h2,r⟩:=h.ex;exact⟨i0,i1,i2,ns,by rw[i9 n1.symm];exact h1,by rw[i9 n2.symm];exact h2,r⟩
def Bag.nb{b c:Addr}(h:Bag H b c)(n:H p=none):p≠b/\p≠c:=by
 obtain⟨i0,i1,i2,ns,h1,h2,r⟩:=h.ex;exact⟨(f6 h1 n).symm,(f6 h2 n).symm⟩
def D0.put{b:Addr}(k:D0 b H H')(n:H p=Option.none):D0 b H (L2.upd H' p o):=
 ⟨λa u e z=>by rw[i9 (f6 e n)];exact k.1 a u e z,λu e=>by
  obtain⟨o',h⟩:=k.2 u e;exact⟨o',by rw[i9 (f6 e n)];exact h⟩⟩
def a2r{α:Type}(a:α)(r:List α):atI (a::r) 0=some a:=by
 have := @a1e α (a::r) 0 a rfl;simpa using this
def a7k{α:Type}(a b:α)(r:List α):atI (a::b::r) 1=some b := @a1e α (a::b::r) 1 b rfl
def b6g{α:Type}(a b c:α)(r:List α):atI (a::b::c::r) 2=some c := @a1e α (a::b::c::r) 2 c rfl
def d2i{α:Type}(a b c d:α)(r:List α):atI (a::b::c::d::r) 3=some d := @a1e α (a::b::c::d::r) 3 d rfl
def a2S{α:Type}{xs:List α}{i:Int}(h0:0<=i)(h1:i<xs.length):∃v,atI xs i=some v/\xs[i.toNat]?=some v:=by
 have hl:i.toNat<xs.length:=by omega
 have e:xs[i.toNat]?=some (xs[i.toNat]'hl):=by simp[hl]
 refine⟨_,?_,e⟩;have:=a1e e
 rwa [c6S h0]at this
section
variable {t u:TS}{tb tc:TE}{tu:TT}{QA:List V->Hp->Prop}{QO:Option Int->Hp->Prop}{x y:V}{i j:Int}{r r':R2}{K:Fg}
def L4(h:t { D with nx:=u D } σ H):w4 t u D σ H:=h
def a4n{P:St->Hp->Prop}(tail:∀σ H,P σ H->u D σ H)(main:∀nx:St->Hp->Prop,(∀σ H,P σ H->nx σ H)->t { D with nx:=nx } σ H):w4 t u D σ H:=main _ tail
def b1c{g:TG}(h:te σ H λx H1=>g x σ H1 D.nx):K8 te g D σ H:=h
def b1b{QS:St->Hp->Prop}(h:QS (σ.set n (some v)) H):z8 n v σ H QS:=h
def c9K{QS:St->Hp->Prop}{ts:b8k}(h:to σ H λo H1=>ti σ H1 λi H2=>ts o i v H2 λH3=>QS σ H3):b7S to ti ts v σ H QS:=h
def b6u(h:te σ H D.rt):K7 te D σ H:=h
def b7m(h:te σ H λ_ H1=>D.nx σ H1):Y1 te D σ H:=h
def b3o(h:tt σ H λb H1=>if b=true then t D σ H1 else u D σ H1):M8 tt t u D σ H:=h
def a4v(h:D.nx σ H):E2 D σ H:=h
def a6C(h:te σ H λx H'=>∃k,x=.bl k/\QB k H'):D9 te σ H QB:=h
def c3l(h:te σ H λx H'=>∃k,x=.bl k/\QB k H'):tB te σ H QB:=h
def c5b(h:tt σ H λc H1=>QB (!c) H1):a5l tt σ H QB:=h
def c2k(h:tt σ H λc H1=>if c=true then tu σ H1 QB else QB false H1):b0T tt tu σ H QB:=h
def b8Z(h:tt σ H λc H1=>if c=true then QB true H1 else tu σ H1 QB):tOr tt tu σ H QB:=h
def c0U(h:ta σ H λx H1=>∃c,x=.bl c/\if c=true then tb σ H1 Q else Q (.bl false) H1):a1D ta tb σ H Q:=h
def d1x(h:ta σ H λx H1=>∃c,x=.bl c/\if c=true then Q (.bl true) H1 else tb σ H1 Q):b8K ta tb σ H Q:=h
def c9G(h:ta σ H λx H1=>∃c,x=.bl c/\Q (.bl (!c)) H1):b0S ta σ H Q:=h
def c8Q(h:tt σ H λc H1=>if c=true then ta σ H1 Q else tb σ H1 Q):tIf tt ta tb σ H Q:=h
def b2f(h:ta σ H λx H1=>tb σ H1 λy H2=>r x y H2 Q):tOp r ta tb σ H Q:=h
def c2h(h:ta σ H λx H1=>tb σ H1 λy H2=>r x y H2 λz H3=>∃k,z=.bl k/\(if k=true then tc σ H3 λw' H4=>r' y w' H4 Q else Q (.bl false) H3)):a9T r r' ta tb tc σ H Q:=h
def M7(e:σ[n]?=some (some v))(h:Q v H):b4 n σ H Q:=⟨v,e,h⟩
def s_c(h:Q v H):tC v σ H Q:=h
def G0(h:te σ H λx H1=>tr σ H1 λxs H2=>QA (x::xs) H2):a9 te tr σ H QA:=h
def X3(h:QA [] H):i8 σ H QA:=h
def a4Z{sp:Sp}(h:tr σ H λvs H1=>sp (vs++[]) H1 Q E):z7 sp [] E tr σ H Q:=h
def c0T{f:List V->Hp->VK->Prop}(h:tr σ H λvs H1=>f vs H1 Q):tCB f tr σ H Q:=h
def New(o:HO)(n:Nat)(H:Hp)(Q:VK):Prop:=n<=z9/\∀p,H p=none->Q (.ref p) (upd H p o)
def E4(hl:n<=100000)(h:∀p H',H p=none->H' p=some o->j5 H H'->Q (.ref p) H'):New o n H Q:=
 ⟨G5 hl (by rw[a7n];decide),λp hp=>h p _ hp c7 (A2 hp)⟩
def b8Y(h:tr σ H λxs H1=>New (.tup xs) xs.length H1 Q):W4 tr σ H Q:=h
def c8P(h:tr σ H λxs H1=>New (.lst xs) xs.length H1 Q):a0x tr σ H Q:=h
def d2M{f:V->Option Int->Option Int->Hp->VK->Prop}{tl th:TO}(h:te σ H λx H1=>tl σ H1 λl H2=>th σ H2 λu H3=>f x l u H3 Q):tSl f te tl th σ H Q:=h
def c9F(h:te σ H λx H1=>∃i,x=.int i/\QO (some i) H1):b0R te σ H QO:=h
def c5c(h:QO none H):a5m σ H QO:=h
def d1A{P:List (Option V)->Prop}(h:P [some x]):B1 x H P:=h
def c0O(h:QB true H):Z2 σ H QB:=h
def a9s{f:V->List V->Hp->VK->Prop}(h:to σ H λx H1=>tyV K "list" x H1/\tr σ H1 λxs H2=>f x xs H2 Q):tBM K "list" f to tr σ H Q:=h
def d1y{s:Str}{f:V->List V->Hp->VK->Prop}(h:tr σ H λxs H2=>f (.str s) xs H2 Q):tBM K "str" f (tC (.str s)) tr σ H Q:=⟨rfl,h⟩
def c9L{tget:V->V->Hp->VK->Prop}{tip:TIp}{tset:b8k}(h:to σ H λo H1=>ti σ H1 λi H2=>tget o i H2 λx H3=>te σ H3 λy H4=>tip x y H4 λz H5=>tset o i z H5 λH6=>D.nx σ H6):c4S to ti te tget tip tset D σ H:=h
def c5n(h:Q (.int (i+j)) H):a6G (.int i) (.int j) H Q:=h
def c5m{a b:Str}(hl:a.length+b.length<=z9)(h:Q (.str (a++b)) H):a6G (.str a) (.str b) H Q:=⟨hl,h⟩
def c9Q{b:Addr}(ha:H a=some (.lst xs))(hb:H b=some (.lst ys))(h:New (.lst (xs++ys)) (xs.length+ys.length) H Q):a6G (.ref a) (.ref b) H Q:=by
 unfold a6G;simp only[ha,hb];exact h
def c9P{g:Int->Int->V}(h:Q (g i j) H):b9f g (.int i) (.int j) H Q:=h
def a7g{C:Int->Int->Prop}{g:Int->Int->V}(hc:C i j)(h:Q (g i j) H):q2I C g (.int i) (.int j) H Q:=⟨hc,h⟩
def d2R{f:Int->Int->Int}(h:Q (.int (f i j)) H):ipI f (.int i) (.int j) H Q:=⟨i,j,rfl,rfl,h⟩
def M0(hp:H p=some (.lst xs))(he:atI xs i=some v)(h:Q v H):qIx (.ref p) (.int i) H Q:=by
 unfold qIx;simp only[hp];exact⟨v,he,h⟩
def P0(hp:H p=some (.tup xs))(he:atI xs i=some v)(h:Q v H):qIx (.ref p) (.int i) H Q:=by
 unfold qIx;simp only[hp];exact⟨v,he,h⟩
def c5l{c:Nat}(hz:z.length<=z9)(he:atI z.cps.toList i=some c)(h:Q (.str ⟨#[c]⟩) H):qIx (.str z) (.int i) H Q:=⟨hz,c,he,h⟩
def b9c{QH:Hp->Prop}{k:Nat}(hp:H p=some (.lst xs))(he:ixN xs.length i=some k)(h:QH (upd H p (.lst (xs.set k v)))):b2j (.ref p) (.int i) v H QH:=by
 unfold b2j;simp only[hp];exact⟨k,he,h⟩
def d1I(hp:H p=some (.lst xs))(h0:0<=i)(he:xs[i.toNat]?=some v)(h:Q v H):c5r (.ref p) (.int i) H Q:=by
 unfold c5r;simp only[hp];exact⟨h0,v,he,h⟩
def O3(hp:H p=some (.lst xs))(h:Q (.int xs.length) H):Z0 [.ref p] H Q:=by
 unfold Z0;simp only[hp];exact h
def a5S(hp:H p=some (.tup xs))(h:Q (.int xs.length) H):Z0 [.ref p] H Q:=by
 unfold Z0;simp only[hp];exact h
def c5k(hz:z.length<=z9)(h:Q (.int z.length) H):Z0 [.str z] H Q:=⟨hz,h⟩
def d1K(h:Q (.int (if i<0 then -i else i)) H):c7q [.int i] H Q:=h
def d2S(hs:b8O x y=true)(h:Q (.bl (decide (x=y))) H):qEq x y H Q:=⟨_,if_pos hs,h⟩
def d2Q(hs:b8O x y=true)(h:Q (.bl (!decide (x=y))) H):qNe x y H Q:=⟨_,if_pos hs,h⟩
def c8g{b:Addr}(ha:H a=some (.tup xs))(hb:H b=some (.tup ys))(fx:xs.all T1=true)(fy:ys.all T1=true):eqO (.ref a) (.ref b) H=some (a2p xs ys):=by
 unfold eqO;rw[if_neg (by intro z;cases z)];simp only[ha,hb];rw[if_pos ⟨fx,fy⟩]
def c8h{b:Addr}(ha:H a=some (.lst xs))(hb:H b=some (.lst ys))(fx:xs.all T1=true)(fy:ys.all T1=true):eqO (.ref a) (.ref b) H=some (a2p xs ys):=by
 unfold eqO;rw[if_neg (by intro z;cases z)];simp only[ha,hb];rw[if_pos ⟨fx,fy⟩]
def d0O{b:Addr}(hb:H b=some (.tup ys)):eqO .non (.ref b) H=some false:=by
 unfold eqO;rw[if_neg (by intro z;cases z)];simp only[hb]
def b6y(hp:H p=some (.tup xs))(hx:T1 x=true)(ha:xs.all T1=true)(h:Q (.bl (inV x xs)) H):qIn false x (.ref p) H Q:=by
 unfold qIn;cases x <;> first | (simp only[hp];exact⟨hx,ha,h⟩) | cases hx
def a1h{l:Addr}(hp:H l=some (.lst xs))(hl:xs.length<z9)(h:Q .non (upd H l (.lst (xs++[y])))):Z9 (.ref l) [y] H Q:=by
 unfold Z9;simp only[hp];exact⟨hl,h⟩
def c8T{lo hi:Option Int}(ha:H a=some (.tup xs))(hw:¬(HT.sIx xs.length 0 lo=0/\HT.sIx xs.length xs.length hi=xs.length))(h:∀p H',H p=none->H' p=some (.tup (a8U xs lo hi))->j5 H H'->Q (.ref p) H'):qSl (.ref a) lo hi H Q:=by
 unfold qSl;simp only[ha];exact⟨hw,λp hp=>h p _ hp c7 (A2 hp)⟩
def c8U{lo hi:Option Int}(ha:H a=some (.lst xs))(h:∀p H',H p=none->H' p=some (.lst (a8U xs lo hi))->j5 H H'->Q (.ref p) H'):qSl (.ref a) lo hi H Q:=by
 unfold qSl;simp only[ha];exact λp hp=>h p _ hp c7 (A2 hp)
def a3v{s c:String}(e:G9 x H=some s)(hc:c∈a7P)(h:Q (.bl (a5Z s c)) H):a9t [x,.ty c] H Q:=⟨s,e,hc,h⟩
def c9O{s:Str}{l:Addr}{ss:List Str}(hp:H l=some (.lst xs))(e:a6B xs=some ss)(hl:(ss.map (·.length)).sum+ss.length * s.length<=16777216)(h:Q (.str (Txt.join s ss)) H):b9e (.str s) [.ref l] H Q:=by
 unfold b9e;simp only[hp];exact⟨ss,e,hl,h⟩
end
section
variable {D:Addr}{K:Fg}
def b1w{lo:Int}(Pv:Nat->List V->Hp->Prop)(h0:Pv 0 [] (upd H1 D (.lst [])))(hP:∀i ys H,Pv i ys H->H D=some (.lst ys))
  (step:∀i ys H2,i<n->Pv i ys H2->∀R:VK,(∀y H5,H5 D=some (.lst ys)->ys.length<z9->Pv (i+1) (ys++[y]) (upd H5 D (.lst (ys++[y])))->R y H5)->te (some (.int (lo+i))::σ) H2 R)
  (done:∀ys H2,Pv n ys H2->QD H2) :
  WD B1 Z2 te QD σ (Itr lo n) H1 D:=by
 refine⟨λi m ys H=>m=n - i/\i<=n/\Pv i ys H,⟨n,rfl,W3 _,h0⟩,?_⟩;rintro i m ys H2 ⟨rfl,hi,p⟩;refine⟨hP i ys H2 p,?_⟩;by_cases hlt:i<n
 .refine .inr ⟨hlt,λx H3 y=>?_⟩;obtain⟨e,y⟩:=y;subst e y;refine d1A (c0O ?_);rw[if_pos rfl];exact step i ys _ hlt p _ λy H5 h1 h2 h3=>⟨h1,h2,n - (i+1),by omega,rfl,hlt,h3⟩
 .have e:i=n:=by omega
  subst e;exact .inl ⟨j8 _,done ys H2 p⟩
def X5(Pv:Nat->List V->Hp->Prop)(h0:Pv 0 [] (upd H1 D (.lst [])))(hP:∀i ys H,Pv i ys H->H D=some (.lst ys))(hl:∀i ys H,i<=xs.length->Pv i ys H->SqL K H a xs)
  (step:∀i x ys H2,xs[i]?=some x->Pv i ys H2->∀R:VK,(∀y H5,H5 D=some (.lst ys)->ys.length<z9->Pv (i+1) (ys++[y]) (upd H5 D (.lst (ys++[y])))->R y H5)->te (some x::σ) H2 R)
  (done:∀ys H2,Pv xs.length ys H2->QD H2) :
  WD B1 Z2 te QD σ (Itl K a) H1 D:=by
 refine⟨λi m ys H=>m=xs.length - i/\i<=xs.length/\Pv i ys H,⟨xs.length,rfl,W3 _,h0⟩,?_⟩;rintro i m ys H2 ⟨rfl,hi,p⟩;refine⟨hP i ys H2 p,?_⟩;have q:=hl i ys H2 hi p;by_cases hlt:i<xs.length
 .refine .inr ⟨⟨xs,xs[i],q,by simp[hlt]⟩,λx H3 y=>?_⟩;obtain⟨e,y⟩:=y;subst e;refine d1A (c0O ?_);rw[if_pos rfl];exact step i x ys _ (y xs q) p _ λy H5 h1 h2 h3=>⟨h1,h2,xs.length - (i+1),by omega,rfl,hlt,h3⟩
 .have e:i=xs.length:=by omega
  subst e;exact .inl ⟨⟨xs,q,j8 _⟩,done ys H2 p⟩
def Y9{wi:TI}(h:wi σ H1 λJ H1=>∀D,H1 D=none->WD B1 tt te (Q (.ref D)) σ J H1 D):V6 wi tt te σ H1 Q:=h
def a3K{ta:TA}(h:ta σ H1 λvs H2=>∃j:Int,vs=[.int j] /\ -(2 ^ 62)<=j/\j<2 ^ 62/\R (Itr 0 j.toNat) H2):a4o ta σ H1 R:=h
def V8(h:ta σ H1 λx H2=>∃a,x=.ref a/\(∃xs,SqL K H2 a xs)/\R (Itl K a) H2):V7 K ta σ H1 R:=h
def a1S{wi:TI}{g:TG}{tb:TS}{D:b1H}(h:wi σ H1 λJ H1=>∃W:Nat->Nat->St->Hp->Prop,(∃m,W 0 m σ H1)/\∀i m σ H,W i m σ H ->
 (J.stop i H/\D.nx σ H)\/(J.go i H/\∃N:St->Hp->Prop,(∀σ' H',N σ' H'->∃m',m'<m/\W (i+1) m' σ' H')/\∀x H',J.yld i H x H'->g x σ H' λσ2 H2=>tb { D with nx:=N,ct:=N,bk:=D.nx } σ2 H2)):a4s wi g tb D σ H1:=h
end
def J2(H H':Hp):Prop:=∀a xs,H a=some (.tup xs)->H' a=some (.tup xs)
def J2.refl(H:Hp):J2 H H:=λ_ _ h=>h
def J2.trans(x:J2 H H1)(y:J2 H1 H2):J2 H H2:=λa xs h=>y a xs (x a xs h)
def J2.new(h:H p=none):J2 H (upd H p o):=λa xs e=>by rw[i9 (f6 e h)];exact e
def J2.put(h:H p=some (.lst ys)):J2 H (upd H p o):=λa xs e=>by
 rw[i9 (O9 e h (by intro z;cases z))];exact e
def j5.ts(s:j5 H H'):J2 H H':=λa xs h=>s a _ h
def D0.ts{b c:Addr}(k:D0 b H H')(hB:Bag H b c):J2 H H':=λa xs h=>by
 obtain⟨ys,hb⟩:=hB.lst;exact k.tup hb h
def OpV(v:V):Prop:=(∃s,v=.str s)\/∃n:Int,v=.int n/\0<=n/\n<1000000000000
def d1c(H:Hp)(p:Addr):Prop:=∃k v1 v2,H p=some (.tup [.str k,v1,v2])/\OpV v1/\OpV v2/\k∈(["plus","minus","times","less","same"]:List Str)
inductive b6P(H:Hp):List V->Prop
 | set (n:Str) (p:Addr):d1c H p->b6P H [.str "set",.str n,.ref p]
 | copy (n:Str) (v:V):OpV v->b6P H [.str "copy",.str n,v]
 | take (n:Str):b6P H [.str "take",.str n]
 | tell (v:V):OpV v->b6P H [.str "tell",v]
 | ask (v:V):OpV v->b6P H [.str "ask",v]
 | skip:b6P H [.str "skip"]
structure d3l(H:Hp)(a:Addr):Prop where
 ex:∃ss:List Str,H a=some (.lst (ss.map V.str))/\ss≠[]/\ss.length<=8
def small(h:n<=100000):n<=z9:=G5 h (by rw[a7n];decide)
def L5(h:n<100000):n<z9:=A7 h (by rw[a7n];decide)
def C6{c:Bool}{A B:Prop}(hc:c=true)(h:A):if c=true then A else B:=by rw[if_pos hc];exact h
def z4{c:Bool}{A B:Prop}(hc:c=false)(h:B):if c=true then A else B:=by rw[hc];exact L2.d0J h
section
variable {t u:TS}{tb tc:TE}{tu:TT}{QA:List V->Hp->Prop}{x y:V}{i j:Int}{K:Fg}
def b4u(h:∀p H',H p=none->H' p=some (.dK [])->j5 H H'->Q (.ref p) H'):a9R σ H Q:=λp hp=>h p _ hp c7 (A2 hp)
def c5f(h:ti σ H λy H1=>to σ H1 λx H2=>∃a o,x=.ref a/\b1I H2 a y o/\Q (.bl o.isSome) H2):b6Z ti to σ H Q:=h
def a2l(h:ti σ H λy H1=>to σ H1 λx H2=>∃a o,x=.ref a/\b1I H2 a y o/\Q (.bl (!o.isSome)) H2):a0Z ti to σ H Q:=h
def a7C(h:te σ H λv H1=>to σ H1 λx H2=>ti σ H2 λy H3=>∃a H4,x=.ref a/\b6j H3 a y v H4/\D.nx σ H4):a3S to ti te D σ H:=h
def Q8(h:ta σ H λx H1=>∃a C dx fs v,x=.ref a/\H1 a=some (.ins C dx fs)/\Cls K C/\U9 K C f/\fs.lookup f=some v/\Q v H1):Y5 K ta f σ H Q:=h
def a0O(h:te σ H λy H1=>ta σ H1 λx H2=>∃a C dx fs,x=.ref a/\H2 a=some (.ins C dx fs)/\Cls K C/\U9 K C f/\fs.length<1000/\D.nx σ (upd H2 a (.ins C dx (O4 f y fs)))):a5R K ta te f D σ H:=h
def U6{m:Str}{sp:Sp}(h:ta σ H λx H1=>∃a dx fs,x=.ref a/\H1 a=some (.ins C dx fs)/\fs.lookup m=none/\tr σ H1 λvs H2=>sp (x::(vs++[])) H2 Q E):Q6 C m sp [] E ta tr σ H Q:=h
def b2g{sp:Sp}(h:tr σ H λvs H1=>∀x dx,H1 x=none->H1 dx=none->dx≠x ->
 sp (.ref x::(vs++[])) (upd (upd H1 dx (.own x)) x (.ins C dx [])) (λv H2=>v=.non/\Q (.ref x) H2) E):a2e C sp [] E tr σ H Q:=h
def d1z{f:V->List V->Hp->VK->Prop}(h:to σ H λx H1=>tyV K "list" x H1/\f x [] H1 Q):c9y K "list" f to σ H Q:=h
def a0E(h:H p=some (.lst xs)):tyV K "list" (.ref p) H:=.inl ⟨rfl,xs,SqL.of h⟩
def a7B{a b:Nat}{QS:St->Hp->Prop}(hp:SqT K H p [x,y])(h:QS ((σ.set a (some x)).set b (some y)) H):b3w K 2 (a1T (z8 a) (a1T (z8 b) b3x)) (.ref p) σ H QS:=
 ⟨p,_,rfl,hp,rfl,_,_,rfl,_,_,rfl,rfl,h⟩
def a5p(h:tr σ H λvs H1=>∃a,vs=[.ref a]/\(∃xs,SqL K H1 a xs)/\R (Ite K a) H1):a8l K tr σ H R:=h
def c9H(h:tr σ H λvs H1=>∃a b,vs=[.ref a,.ref b]/\(∃xs,SqL K H1 a xs)/\(∃xs,SqL K H1 b xs)/\R (Itz K a b) H1):d0K K tr σ H R:=h
def b0Y(h:∃W:Nat->St->Hp->Prop,(∃m,W m σ H)/\∀m σ H,W m σ H ->
 tt σ H λb H1=>if b=true then ∃N:St->Hp->Prop,(∀σ' H',N σ' H'->∃m',m'<m/\W m' σ' H')/\t { D with nx:=N,ct:=N,bk:=D.nx } σ H1 else D.nx σ H1):a9Q tt t D σ H:=h
def c4Z(h:te σ H λv H1=>D.nx (σ.set n (some v)) H1):(λD σ H=>te σ H λv H1=>(D:b1H).nx (σ.set n (some v)) H1:TS) D σ H:=h
def b7n{wi:TI}(h:wi σ H1 λJ H1=>∀D,H1 D=none->WD (B2 K) tt te (Q (.ref D)) σ J H1 D):a9S K wi tt te σ H1 Q:=h
def c1L{J:It}{D:Addr}(n:Nat)(Pv:Nat->List V->Hp->Prop)(h0:Pv 0 [] (upd H1 D (.lst [])))(hP:∀i ys H,Pv i ys H->H D=some (.lst ys))(stop:∀ys H,Pv n ys H->J.stop n H/\QD H)(go:∀i ys H,i<n->Pv i ys H->J.go i H)
  (step:∀i ys H2,i<n->Pv i ys H2->∀x H3,J.yld i H2 x H3->∀(R:VK) (S:Hp->Prop),(∀y H5,H5 D=some (.lst ys)->ys.length<z9->Pv (i+1) (ys++[y]) (upd H5 D (.lst (ys++[y])))->R y H5)->(∀H4,Pv (i+1) ys H4->S H4) ->
   tt (some x::σ) H3 λok H4=>if ok=true then te (some x::σ) H4 R else S H4) :
  WD B1 tt te QD σ J H1 D:=by
 refine⟨λi m ys H=>m=n - i/\i<=n/\Pv i ys H,⟨n,rfl,W3 _,h0⟩,?_⟩;rintro i m ys H2 ⟨rfl,hi,p⟩;refine⟨hP i ys H2 p,?_⟩;by_cases hlt:i<n
 .exact .inr ⟨go i ys H2 hlt p,λx H3 hy=>step i ys H2 hlt p x H3 hy _ _ (λy H5 h1 h2 h3=>⟨h1,h2,n - (i+1),by omega,rfl,hlt,h3⟩) λH4 h4=>⟨n - (i+1),by omega,rfl,hlt,h4⟩⟩
 .have e:i=n:=by omega
  subst e;exact .inl (stop ys H2 p)
def c1J{J:It}{D:Addr}(n:Nat)(Pv:Nat->List V->Hp->Prop)(h0:Pv 0 [] (upd H1 D (.lst [])))(hP:∀i ys H,Pv i ys H->H D=some (.lst ys))(stop:∀ys H,Pv n ys H->J.stop n H/\QD H)(go:∀i ys H,i<n->Pv i ys H->J.go i H)
  (step:∀i ys H2,i<n->Pv i ys H2->∀x H3,J.yld i H2 x H3->∃a u v,x=.ref a/\SqT K H3 a [u,v]/\∀(R:VK) (S:Hp->Prop),(∀y H5,H5 D=some (.lst ys)->ys.length<z9->Pv (i+1) (ys++[y]) (upd H5 D (.lst (ys++[y])))->R y H5)->(∀H4,Pv (i+1) ys H4->S H4) ->
   tt (some u::some v::σ) H3 λok H4=>if ok=true then te (some u::some v::σ) H4 R else S H4) :
  WD (B2 K) tt te QD σ J H1 D:=by
 refine⟨λi m ys H=>m=n - i/\i<=n/\Pv i ys H,⟨n,rfl,W3 _,h0⟩,?_⟩;rintro i m ys H2 ⟨rfl,hi,p⟩;refine⟨hP i ys H2 p,?_⟩;by_cases hlt:i<n
 .refine .inr ⟨go i ys H2 hlt p,λx H3 hy=>?_⟩;obtain⟨a,u,v,e,hs,st⟩:=step i ys H2 hlt p x H3 hy;exact⟨a,u,v,e,hs,st _ _ (λy H5 h1 h2 h3=>⟨h1,h2,n - (i+1),by omega,rfl,hlt,h3⟩) λH4 h4=>⟨n - (i+1),by omega,rfl,hlt,h4⟩⟩
 .have e:i=n:=by omega
  subst e;exact .inl (stop ys H2 p)
def b5e{J:It}{g:TG}{tb:TS}(n:Nat)(Pv:Nat->St->Hp->Prop)(h0:Pv 0 σ H)(stop:∀σ H,Pv n σ H->J.stop n H/\D.nx σ H)(go:∀i σ H,i<n->Pv i σ H->J.go i H)
  (hs:∀i σ H,i<n->Pv i σ H->∀x H',J.yld i H x H'->g x σ H' λσ2 H2=>tb { D with nx:=Pv (i+1),ct:=Pv (i+1),bk:=D.nx } σ2 H2) :
  ∃W:Nat->Nat->St->Hp->Prop,(∃m,W 0 m σ H)/\∀i m σ H,W i m σ H ->
   (J.stop i H/\D.nx σ H)\/(J.go i H/\∃N:St->Hp->Prop,(∀σ' H',N σ' H'->∃m',m'<m/\W (i+1) m' σ' H')/\∀x H',J.yld i H x H'->g x σ H' λσ2 H2=>tb { D with nx:=N,ct:=N,bk:=D.nx } σ2 H2):=by
 refine⟨λi m σ H=>m=n - i/\i<=n/\Pv i σ H,⟨n,rfl,W3 _,h0⟩,?_⟩;rintro i m σ H ⟨rfl,hi,p⟩;by_cases hlt:i<n
 .exact .inr ⟨go i σ H hlt p,Pv (i+1),λσ' H' p'=>⟨n - (i+1),by omega,rfl,hlt,p'⟩,λx H' hy=>hs i σ H hlt p x H' hy⟩
 .have e:i=n:=by omega
  subst e;exact .inl (stop σ H p)
def d1H(h:Q (.int (if j<i then j else i)) H):c7p [.int i,.int j] H Q:=h
def b3i(bs:List Bool):a0G (bs.map V.bl)=some bs:=by
 induction bs with
 |nil=>rfl
 |cons s r ih=>simp[a0G,ih]
def d1J{l:Addr}{bs:List Bool}(hl:H l=some (.lst (bs.map V.bl)))(h:Q (.bl (bs.any id)) H):c3o [.ref l] H Q:=by
 unfold c3o;simp only[hl];exact⟨bs,b3i bs,h⟩
def c8X{l:Addr}{bs:List Bool}(hl:H l=some (.lst (bs.map V.bl)))(h:Q (.bl (bs.all id)) H):b7u [.ref l] H Q:=by
 unfold b7u;simp only[hl];exact⟨bs,b3i bs,h⟩
def b9d{l b:Addr}{zs:List V}(hl:H l=some (.lst xs))(hb:H b=some (.lst zs))(hz:xs.length+zs.length<=z9)(h:Q .non (upd H l (.lst (xs++zs)))):a9e (.ref l) [.ref b] H Q:=by
 unfold a9e;simp only[hl,hb];exact⟨hz,h⟩
def d1G{l:Addr}(hl:H l=some (.lst (xs++[y])))(h:Q y (upd H l (.lst xs))):c5p (.ref l) [] H Q:=by
 unfold c5p;simp only[hl];refine⟨y,by simp,?_⟩;simpa using h
def a4I(hp:H p=some (.lst ys))(h:∀l H',H l=none->H' l=some (.lst ys)->j5 H H'->Q (.ref l) H'):a5T [.ref p] H Q:=by
 unfold a5T;simp only[hp];exact λl hl=>h l _ hl c7 (A2 hl)
end
def IL(l:List Nat):List V:=l.map λ(n:Nat)=>V.int (n:Int)
def J9(l:List Nat):(IL l).length=l.length:=by simp[IL]
def c2M(l:List Nat):(IL l).all T1=true:=by
 rw[P5];intro x hx;obtain⟨s,_,rfl⟩:=F5.mp hx;rfl
def KS(ks:List Nat):List (Key×V):=ks.map λ(k:Nat)=>(Sum.inl (k:Int),V.bl true)
def c6z(ks:List Nat)(k:Nat):(a7t (KS ks) (Sum.inl (k:Int))).isSome=decide (k∈ks):=by
 induction ks with
 |nil=>rfl
 |cons a r ih=>
  by_cases e:a=k
  .subst e;rw[show KS (a::r)=(Sum.inl (a:Int),V.bl true)::KS r from rfl,b0H rfl];simp
  .rw[show KS (a::r)=(Sum.inl (a:Int),V.bl true)::KS r from rfl,b0I (by intro z;have:=Sum.inl.inj z;exact e (by omega)),ih]
   have:(k∈a::r)↔k∈r:=by
    rw[t8];exact⟨λh=>h.elim (λz=>absurd z.symm e) id,.inr⟩
   simp[this]
def a3U(ks:List Nat)(k:Nat):List Nat:=if k∈ks then ks else ks++[k]
def c6A(ks:List Nat)(k:Nat):a2F (KS ks) (Sum.inl (k:Int)) (V.bl true)=KS (a3U ks k):=by
 unfold a2F a3U;rw[a5D,c6z];by_cases h:k∈ks
 .rw[if_pos (d4E h),if_pos h];unfold KS;rw[R3];apply a3z;intro a _;show(if(Sum.inl (a:Int):Key)=Sum.inl (k:Int)then ((Sum.inl (a:Int):Key),V.bl true)else ((Sum.inl (a:Int):Key),V.bl true))=_;split <;> rfl
 .rw[if_neg (by simpa using h),if_neg h];simp[KS]
def X4{k:Nat}:j∈a3U ks k↔j∈ks\/j=k:=by
 unfold a3U;split
 .rename_i h
  exact⟨.inl,λq=>q.elim id λz=>z ▸ h⟩
 .simp
def a6u{k:Nat}(h:ks.Nodup):(a3U ks k).Nodup:=by
 unfold a3U;split
 .exact h
 .rename_i hk
  rw[a2M];exact⟨h,by simp,λa ha b hb=>by rw[l7.mp hb];intro z;exact hk (z ▸ ha)⟩
def c6B(ks:List Nat):(KS ks).length=ks.length:=by simp[KS]
def a4d:∀(n:Nat) (ks:List Nat),ks.Nodup->(∀k∈ks,k<n)->ks.length<=n:=by
 intro n;induction n with
 |zero=>
  intro ks _ h;cases ks with
  |nil=>exact j8 _
  |cons a r=>exact absurd (h a Q4) (Nat.not_lt_zero _)
 |succ n ih=>
  intro ks nd h;by_cases hn:n∈ks
  .have:=ih (ks.erase n) (nd.erase n) λk hk=>by
    have h1:=(List.Nodup.mem_erase_iff nd).mp hk;have:=h k h1.2;have:=h1.1;omega
   rw[c0n hn]at this;omega
  .have:=ih ks nd λk hk=>by
    have:=h k hk;have:k≠n:=λz=>hn (z ▸ hk)
    omega
   omega
def a4K(h:H d=some (.dK (KS ks)))(k:Nat):∃o,b1I H d (.int (k:Int)) o/\o.isSome=decide (k∈ks):=⟨_,b1I.k (k:=Sum.inl (k:Int)) h,c6z ks k⟩
def a9j(h:H d=some (.dK (KS ks)))(hl:ks.length<100000)(k:Nat):b6j H d (.int (k:Int)) (.bl true) (upd H d (.dK (KS (a3U ks k)))):=by
 rw[<-c6A];exact b6j.k (k:=Sum.inl (k:Int)) h (L5 (by rw[c6B];exact hl))
end RD
namespace RD
variable{H H' H0 H1 H2:Hp}{C a cx d dd dx la na p rx wx:Addr}{o:HO}{ds xs ys:List V}{D:b1H}{σ:St}{ta te ti to:TE}{tt:TT}{tr:TA}{Q:VK}{QB:Bool->Hp->Prop}{v v0 v1 v2:V}{i j n t:Nat}{E:XK}{f z:Str}{G L O S Y ks l:List Nat}{QD:Hp->Prop}{R:It->Hp->Prop}{M N:Nt}{m:Int}{ns:List Int}{as rs:List Addr}{Z:Addr->Prop}{Do:Nat->Bool}{kvs:List (Key×V)}
def c5L:∀(l m:List Nat),l.Nodup->(∀x∈l,x∈m)->l.length<=m.length
 |[],_,_,_=>W3 _
 |a::r,m,nd,h=>by
  have ha:=h a Q4;have:=c5L r (m.erase a) (a0X.mp nd).2 λx hx=>(List.mem_erase_of_ne (show x≠a from λz=>(a0X.mp nd).1 (z ▸ hx))).mpr (h x (K6 _ hx))
  rw[c0n ha]at this;have:=a9o ha;rw[D4];omega
inductive Gd(N:Nt):Nat->Prop
 | stop {k:Nat}:N[k]?=some []->Gd N k
 | step {k t:Nat} {l:List Nat}:N[k]?=some l->t∈l->Gd N t->Gd N k
inductive Rc(N:Nt):Nat->Prop
 | zero:Rc N 0
 | step {k t:Nat} {l:List Nat}:Rc N k->N[k]?=some l->t∈l->Rc N t
structure a0i(N:Nt):Prop where
 pos:0<N.length
 le:N.length<=400
 two:∀l∈N,l.length<=2
 lt:∀l∈N,∀t∈l,t<N.length
 rc:∀k,k<N.length->Rc N k
 gd:∀k,k<N.length->Gd N k
def a6v(N:Nt)(G:List Nat):List (List Nat):=(A1 N.length).map λk=>if k∈G then N.getD k [] else (N.length - 1)::(N.getD k []).drop 1
def b6F(N:Nt)(G:List Nat):(a6v N G).length=N.length:=by simp[a6v]
def b4U{k:Nat}(h:k<N.length):(a6v N G)[k]?=some (if k∈G then N.getD k [] else (N.length - 1)::(N.getD k []).drop 1):=by
 unfold a6v;rw[b6,b1K h];rfl
def b1p{k:Nat}(h:N[k]?=some l)(hk:k∈G):(a6v N G)[k]?=some l:=by
 have hl:=(u0.mp h).1;rw[b4U hl,if_pos hk];simp[Q2,h]
def b6E{k:Nat}(h:N[k]?=some l)(hk:¬k∈G):(a6v N G)[k]?=some ((N.length - 1)::l.drop 1):=by
 have hl:=(u0.mp h).1;rw[b4U hl,if_neg hk];simp[Q2,h]
def c8e(hG:∀k∈G,Gd N k)(hl:N[N.length - 1]?=some [])(hm:N.length - 1∈G):∀k,k<N.length->Gd (a6v N G) k:=by
 have last:Gd (a6v N G) (N.length - 1):=.stop (b1p hl hm);have out:∀k,k<N.length->¬k∈G->Gd (a6v N G) k:=λk hk h=>.step (b6E (l:=N[k]) (by simp) h) Q4 last
 have go:∀k,Gd N k->Gd (a6v N G) k:=by
  intro k h;induction h with
  |@stop k h=>
   by_cases hk:k∈G
   .exact .stop (b1p h hk)
   .exact out k (u0.mp h).1 hk
  |@step k t l h ht _ ih=>
   by_cases hk:k∈G
   .exact .step (b1p h hk) ht ih
   .exact out k (u0.mp h).1 hk
 intro k hk;by_cases h:k∈G
 .exact go k (hG k h)
 .exact out k hk h
def b9B(hp:0<N.length)(hs:∀l∈N,l.length<=2/\∀t∈l,t<N.length)(hl:N[N.length - 1]?=some [])(hm:N.length - 1∈G):∀l∈a6v N G,l.length<=2/\∀t∈l,t<N.length:=by
 intro l hl';obtain⟨k,hk⟩:=C8.mp hl';have hkl:k<N.length:=by have:=(u0.mp hk).1;rwa [b6F]at this
 rw[b4U hkl]at hk;have e:N.getD k []=N[k]:=by simp[Q2,hkl]
 rw[e]at hk;obtain⟨h1,h2⟩:=hs N[k] (M9 _);by_cases hg:k∈G
 .rw[if_pos hg]at hk;cases hk;exact⟨h1,h2⟩
 .rw[if_neg hg]at hk;cases hk;refine⟨?_,λt ht=>?_⟩
  .rw[D4,b5K];omega
  .rcases t8.mp ht with z | z
   .omega
   .exact h2 t (List.drop_subset _ _ z)
def a9V(N:Nt)(O:List Nat):List (List Nat):=O.map λk=>(N.getD k []).map λt=>O.idxOf t
def c6a(h:t∈O):O.idxOf t<O.length:=c0o.mpr h
def b7a{k:Nat}(hk:k∈O)(h:N[k]?=some l):(a9V N O)[O.idxOf k]?=some (l.map λt=>O.idxOf t):=by
 unfold a9V
 have:O[O.idxOf k]?=some k:=by
  rw[c8 (c6a hk)];simp
 rw[b6,this];simp[Q2,h]
def c1F(h0:0∈O)(hs:O.Pairwise (· <= ·)):O.idxOf 0=0:=by
 cases O with
 |nil=>cases h0
 |cons a r=>
  have:a=0:=by
   rcases t8.mp h0 with z | z
   .exact z.symm
   .have:=(List.pairwise_cons.mp hs).1 0 z;omega
  subst this;simp
def c2V(h0:0∈O)(hs:O.Pairwise (· <= ·))(hnd:O.Nodup)(hlt:∀k∈O,k<N.length)(hN:N.length<=400)(hcl:∀k∈O,∀l,N[k]?=some l->∀t∈l,t∈O)(hrc:∀k∈O,Rc N k)
  (hsm:∀l∈N,l.length<=2) (hgd:∀k,k<N.length->Gd N k):a0i (a9V N O):=by
 have hlen:(a9V N O).length=O.length:=by simp[a9V]
 have rc:∀k,Rc N k->k∈O/\Rc (a9V N O) (O.idxOf k):=by
  intro k h;induction h with
  |zero=>
   refine⟨h0,?_⟩;rw[c1F h0 hs];exact .zero
  |@step k t l _ hl ht ih=>
   obtain⟨i1,i2⟩:=ih;exact⟨hcl k i1 l hl t ht,.step i2 (b7a i1 hl) (F5.mpr ⟨t,ht,rfl⟩)⟩
 have gd:∀k,Gd N k->k∈O->Gd (a9V N O) (O.idxOf k):=by
  intro k h;induction h with
  |@stop k h=>
   intro hk;exact .stop (by rw[b7a hk h];rfl)
  |@step k t l h ht _ ih=>
   intro hk;exact .step (b7a hk h) (F5.mpr ⟨t,ht,rfl⟩) (ih (hcl k hk l h t ht))
 have at_:∀i,i<O.length->∃k∈O,O.idxOf k=i:=λi hi=>⟨O[i],M9 _,hnd.idxOf_getElem i hi⟩
 have mem:∀l∈a9V N O,∃k∈O,∃l',N[k]?=some l'/\l=l'.map λt=>O.idxOf t:=by
  intro l hl;obtain⟨k,hk,rfl⟩:=F5.mp hl;refine⟨k,hk,N[k]'(hlt k hk),by simp[hlt k hk],?_⟩;simp[Q2,hlt k hk]
 refine⟨?_,?_,λl hl=>?_,λl hl t ht=>?_,λi hi=>?_,λi hi=>?_⟩
 .rw[hlen];exact a9o h0
 .rw[hlen];exact G5 (a4d _ _ hnd hlt) hN
 .obtain⟨k,hk,l',e,rfl⟩:=mem l hl;rw[b8];exact hsm l' (a2U e)
 .obtain⟨k,hk,l',e,rfl⟩:=mem l hl;obtain⟨t',ht',rfl⟩:=F5.mp ht;rw[hlen];exact c6a (hcl k hk l' e t' ht')
 .rw[hlen]at hi;obtain⟨k,hk,rfl⟩:=at_ i hi;exact(rc k (hrc k hk)).2
 .rw[hlen]at hi;obtain⟨k,hk,rfl⟩:=at_ i hi;exact gd k (hgd k (hlt k hk)) hk
end RD
namespace RD
open PySem PySem.Spec PyProof.Rows L2
variable{H H' H0 H1 H2:Hp}{C a cx d dd dx la na p rx wx:Addr}{o:HO}{ds xs ys:List V}{D:b1H}{σ:L2.St}{ta te ti to:TE}{tt:TT}{tr:TA}{Q:VK}{QB:Bool->Hp->Prop}{v v0 v1 v2:V}{i j n t:Nat}{E:XK}{f z:Str}{G L O S Y ks l:List Nat}{QD:Hp->Prop}{R:It->Hp->Prop}{M N:Nt}{m:Int}{ns:List Int}{as rs:List Addr}{Z:Addr->Prop}{Do:Nat->Bool}{kvs:List (Key×V)}
structure Xn where
 C_OnceError:Addr
 C_Wrong:Addr
 C_NoThing:Addr
 C_NoWay:Addr
 C_TooMany:Addr
 C_NoText:Addr
def Xn.at(c:Xn):Nat->Addr
 |0=>c.C_Wrong
 |1=>c.C_NoThing
 |2=>c.C_NoWay
 |3=>c.C_TooMany
 |_=>c.C_NoText
def c3R:Nat->Str
 |3 => "most"
 |_ => "at"
structure b3C(K:Fg)(c:Xn):Prop where
 xc:∀i,i<5->c0e K (c.at i)
 xi:∀i,i<5->XIs K (c.at i)
 na:∀i,i<5->o0 K (.ref (c.at i)) (c3R i)=some none
 up:∀i,i<5->a3s K (c.at i) (.ref c.C_OnceError)=some true
 kit:∀i j,i<5->j<5->Y0 K (.ref (c.at i)) (.ref (c.at j))=some (decide (i=j))
 ve:∀i,i<5->Y0 K (.ref (c.at i)) (.type "ValueError")=some true
def a0m(K:Fg)(f:Str):Sp:=λvs H Q _=>∃a v C,vs=[.ref a,v]/\H a=some (xo a C none)/\c0e K C/\o0 K (.ref C) f=some none/\∀d,H d=none->d≠a->Q .non (upd (upd H d (.xd [(f,v)])) a (xo a C (some d)))
def Rz(e:Xn)(j:Nat)(n:Int)(H:Hp)(E:XK):Prop:=∀d H',H' d=some (.xd [(c3R j,.int n)])->j5 H H'->E (.ref (e.at j)) (some d) H'
def spX(n m:Nat)(t:XK->TS):Sp:=λvs H Q E=>vs.length=n/\t E { nx:=λ_ H'=>Q .non H',rt:=Q } (vs.map some++p8 (m - vs.length) none) H
structure Cn where
 J0:Addr
 v6:Addr
 M5:Addr
 Y4:Addr
 T0:Addr
 a8c:Addr
 N7:Addr
 c0k:Addr
 c8C:Addr
 c4n:Addr
 c8D:Addr
 c4m:Addr
 c6M:Addr
def Cn.x(c:Cn):Xn:=⟨c.c0k,c.c8C,c.c4n,c.c8D,c.c4m,c.c6M⟩
structure X6(K:Fg)(c:Cn):Prop where
 V2:Cls K c.J0
 a4i:U9 K c.J0 "deed"
 a3j:U9 K c.J0 "found"
 a4h:U9 K c.J0 "plan"
 a3i:U9 K c.J0 "ready"
 a1q:U9 K c.J0 "wanted"
 I0:Cls K c.v6
 a1p:U9 K c.v6 "brinks"
 a4g:U9 K c.v6 "deed"
 a2Q:U9 K c.v6 "fallen"
 a0J:U9 K c.v6 "left_in"
 a0q:U9 K c.v6 "left_out"
 a4E:U9 K c.v6 "living"
 a2w:U9 K c.v6 "plan"
 a1o:U9 K c.v6 "put_in"
 N4:Cls K c.M5
 a1H:U9 K c.M5 "entries"
 U5:U9 K c.M5 "nexts"
 P3:U9 K c.M5 "rows"
 a1L:Cls K c.Y4
 a2P:U9 K c.Y4 "come_by"
 a3a:U9 K c.Y4 "deed"
 a4N:U9 K c.Y4 "plan"
 a2x:Cls K c.T0
 a1W:U9 K c.T0 "goes_by"
 a2v:U9 K c.T0 "plan"
 a8b:∀H,SqT K H c.a8c [.str "plus",.str "minus",.str "times",.str "less",.str "same"]
 W9:∀H,SqT K H c.N7 [.int (-1),.int (0)]
 b8s:IsC K c.M5
 nk:(("NoneType" :: a7P).all λt=>Y0 K (.type t) (.ref c.M5) == some false)=true
 xn:b3C K c.x
def spD(n m:Nat)(t:TS):Sp:=λvs H Q _=>vs.length=n/\t { nx:=λ_ H'=>Q .non H',rt:=Q } (vs.map some++p8 (m - vs.length) none) H
def c8N(K:Fg):TS:=K7 (a0x (a9 (tC (.int 0)) (a9 (tC (.int 1234567891)) (a9 (tC (.int 0)) (a9 (V6 (V7 K (tSl (d1B K) (b4 0) a5m (b0R (tC (.int 63))))) Z2 (tCB c7q (a9 (b4 0) i8))) i8)))))
def b7f(K:Fg):Sp:=spD 1 1 (c8N K)
def c4K(K:Fg):TS:=w4 (M8 (D9 (tOp qEq (tOp qIx (b4 0) (tC (.int 0))) (tC (.int 0)))) (w4 (K8 (tC (.int 12345)) (z8 2)) (w4 (M8 (D9 (tOp qLt (tOp qIx (b4 0) (tC (.int 2))) (tCB Z0 (a9 (tOp qIx (b4 0) (tC (.int 3))) i8)))) (w4 (K8 (tOp qIx (tOp qIx (b4 0) (tC (.int 3))) (tOp qIx (b4 0) (tC (.int 2)))) (z8 3)) (w4 (c4S (b4 0) (tC (.int 2)) (tC (.int 1)) c5r (ipI λi j=>i+j) b2j) (w4 (M8 (D9 (tOp qGe (b4 3) (tC (.int 1000000000000000000)))) (K8 (b4 3) (b7S (b4 0) (tC (.int 0)) b2j)) E2) (K8 (tOp a6G (tOp b7r (b4 3) (tC (.int 2147483647))) (tC (.int 1))) (z8 2))))) E2) (K8 (tOp b7r (tOp a6G (tOp c3n (tOp qIx (b4 0) (tC (.int 1))) (tC (.int 48271))) (b4 2)) (tC (.int 2147483647))) (b7S (b4 0) (tC (.int 1)) b2j)))) E2) (w4 (M8 (D9 (tOp qGt (tOp qIx (b4 0) (tC (.int 0))) (tC (.int 0)))) (w4 (K8 (tOp b7r (tOp qIx (b4 0) (tC (.int 0))) (b4 1)) (z8 4)) (w4 (K8 (tOp c9S (tOp qIx (b4 0) (tC (.int 0))) (b4 1)) (b7S (b4 0) (tC (.int 0)) b2j)) (K7 (b4 4)))) E2) (w4 (K8 (tOp b7r (tOp c3n (tOp qIx (b4 0) (tC (.int 1))) (tC (.int 39373))) (tC (.int 1000000007))) (z8 5)) (w4 (K8 (tOp b7r (tOp c3n (b4 5) (tC (.int 30011))) (tC (.int 998244353))) (z8 6)) (w4 (M8 (D9 (tOp qGt (b4 1) (tC (.int 1000000)))) (K7 (tOp b7r (tOp a6G (tOp c3n (b4 6) (tC (.int 1000000000))) (b4 5)) (b4 1))) E2) (K7 (tOp b7r (tOp c9S (b4 6) (tC (.int 3))) (b4 1)))))))
def E1(K:Fg):Sp:=spD 2 7 (c4K K)
def c8M(K:Fg):TS:=w4 (K8 (a0x i8) (z8 2)) (w4 (a4s (a4o (a9 (b4 1) i8)) (z8 3) (w4 (K8 (tCB c7p (a9 (tOp a6G (b4 3) (tC (.int 1))) (a9 (tOp c5o (b4 1) (tC (.int 1))) i8))) (z8 4)) (w4 (K8 (a0x (a9 (b4 4) (a9 (z7 (E1 K) [] E0 (a9 (b4 0) (a9 (b4 1) i8))) i8))) (z8 5)) (w4 (K8 (z7 (E1 K) [] E0 (a9 (b4 0) (a9 (tC (.int 8)) i8))) (z8 6)) (w4 (M8 (D9 (tOp qLt (b4 6) (tC (.int 3)))) (K8 (a0x (a9 (tOp qIx (b4 5) (tC (.int 1))) (a9 (b4 4) i8))) (z8 5)) E2) (w4 (M8 (D9 (tOp qEq (b4 6) (tC (.int 3)))) (K8 (a0x (a9 (tOp qIx (b4 5) (tC (.int 1))) (a9 (z7 (E1 K) [] E0 (a9 (b4 0) (a9 (b4 1) i8))) i8))) (z8 5)) E2) (w4 (M8 (tOr (b0T (D9 (tOp qGt (b4 6) (tC (.int 3)))) (D9 (tOp qLt (b4 6) (tC (.int 7))))) (D9 (tOp qEq (b4 1) (tC (.int 1))))) (K8 (a0x (a9 (b4 4) i8)) (z8 5)) E2) (w4 (M8 (b0T (D9 (tOp qEq (b4 6) (tC (.int 7)))) (D9 (tOp qGt (b4 1) (tC (.int 1))))) (K8 (a0x (a9 (tOp qIx (b4 5) (tC (.int 1))) i8)) (z8 5)) E2) (w4 (M8 (tOr (D9 (tOp qEq (b4 3) (tOp c5o (b4 1) (tC (.int 1))))) (b0T (D9 (tOp qEq (b4 6) (tC (.int 6)))) (D9 (tOp qEq (z7 (E1 K) [] E0 (a9 (b4 0) (a9 (tC (.int 4)) i8))) (tC (.int 0)))))) (K8 (a0x i8) (z8 5)) E2) (Y1 (tBM K "list" Z9 (b4 2) (a9 (b4 5) i8)))))))))))) (K7 (b4 2)))
def b7e(K:Fg):Sp:=spD 2 7 (c8M K)
def b8I(K:Fg):TS:=w4 (K8 a9R (z8 1)) (w4 (a4s (a4o (a9 (tCB Z0 (a9 (b4 0) i8)) i8)) (z8 2) (a4s (a4o (a9 (tCB Z0 (a9 (b4 0) i8)) i8)) (z8 3) (M8 (tOr (D9 (tOp qEq (tOp qIx (b4 0) (b4 3)) (a0x i8))) (tB (tCB c3o (a9 (V6 (V7 K (tOp qIx (b4 0) (b4 3))) Z2 (b6Z (b4 0) (b4 2))) i8)))) (a3S (b4 1) (b4 3) (tC (.bl true))) E2))) (w4 (K8 (V6 (a4o (a9 (tCB Z0 (a9 (b4 0) i8)) i8)) Z2 (tIf (tB (b6Z (b4 0) (b4 2))) (tOp qIx (b4 1) (b4 0)) (tOp a6G (a0x (a9 (tOp c5o (tCB Z0 (a9 (b4 1) i8)) (tC (.int 1))) i8)) (tSl qSl (tOp qIx (b4 1) (b4 0)) (b0R (tC (.int 1))) a5m)))) (z8 0)) (w4 (K8 (b6s ((tC (.int 0),tC (.bl true))::[])) (z8 4)) (w4 (a4s (a4o (a9 (tCB Z0 (a9 (b4 0) i8)) i8)) (z8 2) (a4s (a4o (a9 (tCB Z0 (a9 (b4 0) i8)) i8)) (z8 3) (M8 (tB (b6Z (b4 3) (b4 4))) (a4s (V7 K (tOp qIx (b4 0) (b4 3))) (z8 5) (a3S (b4 4) (b4 5) (tC (.bl true)))) E2))) (w4 (K8 (tCB b1f (a9 (tCB a4y (a9 (b4 4) i8)) i8)) (z8 6)) (K7 (V6 (V7 K (b4 6)) Z2 (V6 (V7 K (tOp qIx (b4 1) (b4 0))) Z2 (tBM K "list" b4w (b4 8) (a9 (b4 0) i8))))))))))
def a9b(K:Fg):Sp:=spD 1 7 (b8I K)
def c4M(K:Fg):TS:=w4 (M8 (D9 (tOp qEq (z7 (E1 K) [] E0 (a9 (b4 0) (a9 (tC (.int 5)) i8))) (tC (.int 0)))) (K7 (tOp qIx (a0x (a9 (tC (.str "k0")) (a9 (tC (.str "set")) (a9 (tC (.str "ask")) (a9 (tC (.str "k1")) (a9 (tC (.str "a")) (a9 (tC (.str "copy")) i8))))))) (z7 (E1 K) [] E0 (a9 (b4 0) (a9 (tC (.int 6)) i8))))) E2) (w4 (K8 (tOp a6G (tOp c3n (z7 (E1 K) [] E0 (a9 (b4 0) (a9 (tC (.int 4)) i8))) (tC (.int 2))) (tOp b7r (b4 1) (tC (.int 2)))) (z8 2)) (w4 (K8 (tC (.str "abcdefghijklmnopqrstuvwxyz0123456789")) (z8 3)) (K7 (tOp a6G (tOp qIx (b4 3) (z7 (E1 K) [] E0 (a9 (b4 0) (a9 (tC (.int 26)) i8)))) (tBM K "str" b9e (tC (.str "")) (a9 (V6 (a4o (a9 (b4 2) i8)) Z2 (tOp qIx (b4 4) (z7 (E1 K) [] E0 (a9 (b4 1) (a9 (tC (.int 36)) i8))))) i8))))))
def b3G(K:Fg):Sp:=spD 2 4 (c4M K)
def c2d(K:Fg):TS:=w4 (K8 a9R (z8 1)) (w4 (a4s (a4o (a9 (tOp a6G (tC (.int 3)) (z7 (E1 K) [] E0 (a9 (b4 0) (a9 (tC (.int 3)) i8)))) i8)) (z8 2) (a3S (b4 1) (z7 (b3G K) [] E0 (a9 (b4 0) (a9 (b4 2) i8))) (tC (.bl true)))) (K7 (tCB a4y (a9 (b4 1) i8))))
def b0U(K:Fg):Sp:=spD 1 3 (c2d K)
def b6q(K:Fg):TS:=w4 (M8 (D9 (tOp qGt (z7 (E1 K) [] E0 (a9 (b4 0) (a9 (tC (.int 4)) i8))) (tC (.int 0)))) (K7 (tOp qIx (b4 1) (z7 (E1 K) [] E0 (a9 (b4 0) (a9 (tCB Z0 (a9 (b4 1) i8)) i8))))) E2) (w4 (K8 (z7 (E1 K) [] E0 (a9 (b4 0) (a9 (tC (.int 4)) i8))) (z8 2)) (w4 (M8 (D9 (tOp qLt (b4 2) (tC (.int 2)))) (K7 (b4 2)) E2) (w4 (M8 (D9 (tOp qEq (b4 2) (tC (.int 2)))) (K7 (tC (.int 999999999999))) E2) (K7 (z7 (E1 K) [] E0 (a9 (b4 0) (a9 (tC (.int 1000000000000)) i8)))))))
def a2f(K:Fg):Sp:=spD 2 3 (b6q K)
def c4P(K:Fg):TS:=w4 (K8 (tOp qIx (a0x (a9 (tC (.str "plus")) (a9 (tC (.str "minus")) (a9 (tC (.str "times")) (a9 (tC (.str "less")) (a9 (tC (.str "same")) i8)))))) (z7 (E1 K) [] E0 (a9 (b4 0) (a9 (tC (.int 5)) i8)))) (z8 2)) (K7 (W4 (a9 (b4 2) (a9 (z7 (a2f K) [] E0 (a9 (b4 0) (a9 (b4 1) i8))) (a9 (z7 (a2f K) [] E0 (a9 (b4 0) (a9 (b4 1) i8))) i8)))))
def b3H(K:Fg):Sp:=spD 2 3 (c4P K)
def c8L(K:Fg):TS:=w4 (K8 (z7 (E1 K) [] E0 (a9 (b4 0) (a9 (tC (.int 8)) i8))) (z8 3)) (w4 (K8 (tOp qIx (b4 1) (z7 (E1 K) [] E0 (a9 (b4 0) (a9 (tCB Z0 (a9 (b4 1) i8)) i8)))) (z8 4)) (w4 (M8 (D9 (tOp qLt (b4 3) (tC (.int 5)))) (K7 (W4 (a9 (tC (.str "set")) (a9 (b4 4) (a9 (tOp qIx (b4 2) (z7 (E1 K) [] E0 (a9 (b4 0) (a9 (tCB Z0 (a9 (b4 2) i8)) i8)))) i8))))) E2) (w4 (M8 (D9 (tOp qEq (b4 3) (tC (.int 5)))) (K7 (W4 (a9 (tC (.str "copy")) (a9 (b4 4) (a9 (z7 (a2f K) [] E0 (a9 (b4 0) (a9 (b4 1) i8))) i8))))) E2) (w4 (M8 (D9 (tOp qEq (b4 3) (tC (.int 6)))) (K7 (W4 (a9 (tC (.str "take")) (a9 (b4 4) i8)))) E2) (K7 (tOp qIx (a0x (a9 (W4 (a9 (tC (.str "tell")) (a9 (z7 (a2f K) [] E0 (a9 (b4 0) (a9 (b4 1) i8))) i8))) (a9 (W4 (a9 (tC (.str "skip")) i8)) i8))) (z7 (E1 K) [] E0 (a9 (b4 0) (a9 (tC (.int 2)) i8)))))))))
def b7d(K:Fg):Sp:=spD 3 5 (c8L K)
def c4L(K:Fg):TS:=w4 (K8 (tOp qEq (z7 (E1 K) [] E0 (a9 (b4 0) (a9 (tC (.int 8)) i8))) (tC (.int 0))) (z8 1)) (w4 (K8 (tOp a6G (tC (.int 1)) (z7 (E1 K) [] E0 (a9 (b4 0) (a9 (tC (.int 9)) i8)))) (z8 2)) (w4 (M8 (tB (b4 1)) (K8 (tOp a6G (tC (.int 15)) (z7 (E1 K) [] E0 (a9 (b4 0) (a9 (tC (.int 10)) i8)))) (z8 2)) E2) (w4 (K8 (z7 (a9b K) [] E0 (a9 (z7 (b7e K) [] E0 (a9 (b4 0) (a9 (b4 2) i8))) i8)) (z8 3)) (w4 (K8 (z7 (b0U K) [] E0 (a9 (b4 0) i8)) (z8 4)) (w4 (K8 (a0x i8) (z8 5)) (w4 (a4s (a4o (a9 (tOp a6G (tC (.int 1)) (z7 (E1 K) [] E0 (a9 (b4 0) (a9 (tC (.int 3)) i8)))) i8)) (z8 6) (Y1 (tBM K "list" Z9 (b4 5) (a9 (z7 (b3H K) [] E0 (a9 (b4 0) (a9 (tSl qSl (b4 4) a5m (b0R (tC (.int 2)))) i8))) i8)))) (w4 (K8 (a0x i8) (z8 7)) (w4 (a4s (V7 K (b4 3)) (z8 8) (M8 (D9 (tOp qEq (tCB Z0 (a9 (b4 8) i8)) (tC (.int 2)))) (Y1 (tBM K "list" Z9 (b4 7) (a9 (W4 (a9 (tC (.str "ask")) (a9 (z7 (a2f K) [] E0 (a9 (b4 0) (a9 (b4 4) i8))) i8))) i8))) (Y1 (tBM K "list" Z9 (b4 7) (a9 (z7 (b7d K) [] E0 (a9 (b4 0) (a9 (b4 4) (a9 (b4 5) i8)))) i8))))) (K7 (W4 (a9 (b4 7) (a9 (b4 3) (a9 (b4 5) i8)))))))))))))
def b3F(K:Fg):Sp:=spD 1 9 (c4L K)
def b4e(K:Fg):TS:=w4 (K8 (z7 (E1 K) [] E0 (a9 (b4 0) (a9 (tC (.int 4)) i8))) (z8 2)) (w4 (M8 (D9 (tOp qEq (b4 2) (tC (.int 0)))) (K7 (W4 (a9 (W4 i8) (a9 (W4 (a9 (tC (.str "wrong")) (a9 (tC (.int 2)) i8))) i8)))) E2) (w4 (M8 (D9 (tOp qEq (b4 2) (tC (.int 1)))) (K7 (W4 (a9 (tOp qIx (a0x (a9 (tC (.int 0)) (a9 (tC (.str "held")) (a9 (tC (.bl true)) (a9 (b6s ((tC (.int 0),tC (.int 1))::[])) i8))))) (z7 (E1 K) [] E0 (a9 (b4 0) (a9 (tC (.int 4)) i8)))) (a9 (W4 (a9 (tC (.str "wrong")) (a9 (tC (.int 2)) i8))) i8)))) E2) (w4 (M8 (D9 (tOp qEq (b4 2) (tC (.int 2)))) (K7 (W4 (a9 (tOp c7m (a0x (a9 (tOp qIx (a0x (a9 (tC (.int 0)) (a9 (tC .non) i8))) (z7 (E1 K) [] E0 (a9 (b4 0) (a9 (tC (.int 2)) i8)))) i8)) (tOp a6G (tC (.int 401)) (z7 (E1 K) [] E0 (a9 (b4 0) (a9 (tC (.int 3)) i8))))) (a9 (W4 (a9 (tC (.str "many")) (a9 (tC (.int 400)) i8))) i8)))) E2) (w4 (λD σ H=>(V6 (a4o (a9 (tOp a6G (tC (.int 1)) (z7 (E1 K) [] E0 (a9 (b4 0) (a9 (tC (.int 8)) i8)))) i8)) Z2 (z7 (E1 K) [] E0 (a9 (b4 1) (a9 (b4 2) i8)))) σ H λv H1=>D.nx (σ.set 3 (some v)) H1) (w4 (K8 (z7 (E1 K) [] E0 (a9 (b4 0) (a9 (tCB Z0 (a9 (b4 3) i8)) i8))) (z8 4)) (w4 (K8 (a0x (a9 (tUn (rU λi=>.int (-i)) (tC (.int 1))) (a9 (b4 1) (a9 (tOp a6G (b4 1) (tC (.int 1))) (a9 (tC .non) (a9 (tC (.bl true)) (a9 (tC (.bl false)) (a9 (tC (.str "0")) (a9 (W4 (a9 (tC (.int 0)) i8)) (a9 (a0x (a9 (tC (.int 0)) i8)) i8)))))))))) (z8 5)) (w4 (K8 (tOp qIx (b4 5) (z7 (E1 K) [] E0 (a9 (b4 0) (a9 (tC (.int 9)) i8)))) (b7S (b4 3) (b4 4) b2j)) (w4 (M8 (D9 (tOp qEq (z7 (E1 K) [] E0 (a9 (b4 0) (a9 (tC (.int 2)) i8))) (tC (.int 0)))) (Y1 (tBM K "list" Z9 (b4 3) (a9 (tOp qIx (b4 5) (z7 (E1 K) [] E0 (a9 (b4 0) (a9 (tC (.int 9)) i8)))) i8))) E2) (K7 (W4 (a9 (b4 3) (a9 (W4 (a9 (tC (.str "nothing")) (a9 (b4 4) i8))) i8))))))))))))
def a6p(K:Fg):Sp:=spD 2 6 (b4e K)
def b4f(K:Fg):TS:=w4 (K8 (z7 (E1 K) [] E0 (a9 (b4 0) (a9 (tC (.int 8)) i8))) (z8 2)) (w4 (M8 (D9 (tOp qEq (b4 2) (tC (.int 0)))) (K7 (tOp qIx (a0x (a9 (tC .non) (a9 (tC (.bl true)) (a9 (tC (.str "plus")) (a9 (tC (.int 5)) (a9 a9R i8)))))) (z7 (E1 K) [] E0 (a9 (b4 0) (a9 (tC (.int 5)) i8))))) E2) (w4 (M8 (D9 (tOp qEq (b4 2) (tC (.int 1)))) (K7 (a0x (a9 (tOp qIx (b4 1) (tC (.int 0))) (a9 (tOp qIx (b4 1) (tC (.int 1))) (a9 (tOp qIx (b4 1) (tC (.int 2))) i8))))) E2) (w4 (M8 (D9 (tOp qEq (b4 2) (tC (.int 2)))) (K7 (W4 (a9 (tOp qIx (a0x (a9 (tC (.str "over")) (a9 (tC (.str "Plus")) (a9 (tC (.str "")) (a9 (tC .non) (a9 (tC (.int 1)) i8)))))) (z7 (E1 K) [] E0 (a9 (b4 0) (a9 (tC (.int 5)) i8)))) (a9 (tOp qIx (b4 1) (tC (.int 1))) (a9 (tOp qIx (b4 1) (tC (.int 2))) i8))))) E2) (w4 (M8 (D9 (tOp qEq (b4 2) (tC (.int 3)))) (K7 (W4 (a9 (tOp qIx (b4 1) (tC (.int 0))) (a9 (tOp qIx (b4 1) (tC (.int 1))) i8)))) E2) (w4 (M8 (D9 (tOp qEq (b4 2) (tC (.int 4)))) (K7 (W4 (a9 (tOp qIx (b4 1) (tC (.int 0))) (a9 (tOp qIx (b4 1) (tC (.int 1))) (a9 (tOp qIx (b4 1) (tC (.int 2))) (a9 (tC (.int 0)) i8)))))) E2) (w4 (K8 (tOp qIx (a0x (a9 (tC (.str "")) (a9 (tC (.str "A")) (a9 (tC (.str "0a")) (a9 (tC (.str "abcdefghi")) (a9 (tC (.str "a b")) (a9 (tUn (rU λi=>.int (-i)) (tC (.int 1))) (a9 (tC (.int 1000000000000)) (a9 (tC (.bl true)) (a9 (tC .non) (a9 (W4 (a9 (tC (.int 1)) i8)) (a9 (a0x (a9 (tC (.str "a")) i8)) i8)))))))))))) (z7 (E1 K) [] E0 (a9 (b4 0) (a9 (tC (.int 11)) i8)))) (z8 3)) (w4 (M8 (D9 (tOp qLt (b4 2) (tC (.int 7)))) (K7 (W4 (a9 (tOp qIx (b4 1) (tC (.int 0))) (a9 (b4 3) (a9 (tOp qIx (b4 1) (tC (.int 2))) i8))))) E2) (K7 (W4 (a9 (tOp qIx (b4 1) (tC (.int 0))) (a9 (tOp qIx (b4 1) (tC (.int 1))) (a9 (b4 3) i8))))))))))))
def a6q(K:Fg):Sp:=spD 2 4 (b4f K)
def d1t(K:Fg):TS:=K7 (a1D (tCB a9t (a9 (b4 0) (a9 (tC (.ty "int")) i8))) (b0S (tCB a9t (a9 (b4 0) (a9 (tC (.ty "bool")) i8)))))
def c0C(K:Fg):Sp:=spD 1 1 (d1t K)
def a6Y(K:Fg):TS:=w4 (M8 (tOr (a5l (tB (tCB a9t (a9 (b4 0) (a9 (tC (.ty "str")) i8))))) (a5l (D9 (a9T qLe qLe (tC (.int 1)) (tCB Z0 (a9 (b4 0) i8)) (tC (.int 8)))))) (K7 (tC (.bl false))) E2) (K7 (a1D (tOp (qIn false) (tOp qIx (b4 0) (tC (.int 0))) (tC (.str "abcdefghijklmnopqrstuvwxyz"))) (tCB b7u (a9 (V6 (d0L (b4 0)) Z2 (tOp (qIn false) (b4 0) (tOp a6G (tC (.str "abcdefghijklmnopqrstuvwxyz")) (tC (.str "0123456789"))))) i8))))
def Y7(K:Fg):Sp:=spD 1 1 (a6Y K)
def b4d(K:Fg):TS:=K7 (a1D (tCB a9t (a9 (b4 0) (a9 (tC (.ty "int")) i8))) (b0S (tCB a9t (a9 (b4 0) (a9 (tC (.ty "bool")) i8)))))
def a2g(K:Fg):Sp:=spD 1 1 (b4d K)
def a9O(K:Fg):TS:=K7 (a1D (z7 (a2g K) [] E0 (a9 (b4 0) i8)) (a9T qLe qLt (tC (.int 0)) (b4 0) (tC (.int 1000000000000))))
def a4R(K:Fg):Sp:=spD 1 1 (a9O K)
def a7u(K:Fg):TS:=K7 (b8K (z7 (Y7 K) [] E0 (a9 (b4 0) i8)) (z7 (a4R K) [] E0 (a9 (b4 0) i8)))
def a0f(K:Fg):Sp:=spD 1 1 (a7u K)
def a5v(K:Fg)(c:Cn):TS:=w4 (M8 (tOr (a5l (tB (tCB a9t (a9 (b4 0) (a9 (tC (.ty "tuple")) i8))))) (D9 (tOp qNe (tCB Z0 (a9 (b4 0) i8)) (tC (.int 3))))) (K7 (tC (.bl false))) E2) (K7 (a1D (tOp (d1N K) (tOp qIx (b4 0) (tC (.int 0))) (tC (.ref c.a8c))) (a1D (z7 (a0f K) [] E0 (a9 (tOp qIx (b4 0) (tC (.int 1))) i8)) (z7 (a0f K) [] E0 (a9 (tOp qIx (b4 0) (tC (.int 2))) i8)))))
def a0L(K:Fg)(c:Cn):Sp:=spD 1 1 (a5v K c)
def a5F(K:Fg):TS:=w4 (M8 (tOr (a5l (tB (tCB a9t (a9 (b4 0) (a9 (tC (.ty "list")) i8))))) (D9 (tOp qLt (tCB Z0 (a9 (b4 0) i8)) (b4 2)))) (λ_ _ _=>False) E2) (M8 (D9 (tOp qGt (tCB Z0 (a9 (b4 0) i8)) (tC (.int 400)))) (λ_ _ _=>False) E2)
def Y8(K:Fg):Sp:=spD 3 3 (a5F K)
def a9P(K:Fg):TS:=K7 (a1D (z7 (a2g K) [] E0 (a9 (b4 0) i8)) (a9T qLe qLt (tC (.int 0)) (b4 0) (b4 1)))
def a2h(K:Fg):Sp:=spD 2 2 (a9P K)
def b0O(K:Fg):TS:=a4s (a8l K (a9 (b4 0) i8)) (b3w K 2 (a1T (z8 1) (a1T (z8 2) (b3x)))) (M8 (a5l (tB (b4 2))) (λ_ _ _=>False) E2)
def a0M(K:Fg):Sp:=spD 1 3 (b0O K)
def a7v(K:Fg):TS:=M8 (D9 (tOp c0X (b4 1) (tC .non))) (w4 (Y1 (z7 (Y8 K) [] E0 (a9 (b4 1) (a9 (b4 2) (a9 (tC (.int 0)) i8))))) (Y1 (z7 (a0M K) [] E0 (a9 (V6 (V7 K (b4 1)) Z2 (z7 (a2h K) [] E0 (a9 (b4 0) (a9 (tCB Z0 (a9 (Y5 K (b4 1) "rows") i8)) i8)))) i8)))) E2
def a1I(K:Fg):Sp:=spD 3 3 (a7v K)
def b4c(K:Fg):TS:=K7 (tCB (c0Y K) (a9 (V6 (V7 K (b4 0)) Z2 (W4 (a9 (b4 0) (a9 (tC (.bl true)) i8)))) i8))
def a2B(K:Fg):Sp:=spD 1 1 (b4c K)
def b6r(K:Fg):TS:=K7 (tIf (D9 (tOp qEq (tOp qIx (b4 0) (tC (.int 0))) (tC (.str "set")))) (tOp qIx (b4 0) (tC (.int 2))) (tC .non))
def a9W(K:Fg):Sp:=spD 1 1 (b6r K)
def c4O(K:Fg):TS:=K7 (tOp qEq (z7 (a9W K) [] E0 (a9 (b4 0) i8)) (b4 1))
def a3I(K:Fg):Sp:=spD 2 2 (c4O K)
def b4b(K:Fg)(c:Cn):TS:=w4 (K8 (a0x (a9 (tC (.ref c.N7)) i8)) (z8 1)) (w4 (a4s (a8l K (a9 (b4 0) i8)) (b3w K 2 (a1T (z8 2) (a1T (z8 3) (b3x)))) (Y1 (tBM K "list" a9e (b4 1) (a9 (V6 (a4o (a9 (tCB Z0 (a9 (b4 3) i8)) i8)) Z2 (W4 (a9 (b4 3) (a9 (b4 0) i8)))) i8)))) (K7 (b4 1)))
def a4Q(K:Fg)(c:Cn):Sp:=spD 1 4 (b4b K c)
def b0Q(K:Fg)(c:Cn):TS:=K7 (z7 (a4Q K c) [] E0 (a9 (Y5 K (b4 0) "nexts") i8))
def a1J(K:Fg)(c:Cn):Sp:=spD 1 1 (b0Q K c)
def a8h(K:Fg)(c:Cn):TS:=w4 (M8 (D9 (tOp (c5s K) (b4 1) (tC (.ref c.N7)))) (K7 (tC (.int 0))) E2) (K7 (tOp qIx (tOp qIx (Y5 K (b4 0) "nexts") (tOp qIx (b4 1) (tC (.int 0)))) (tOp qIx (b4 1) (tC (.int 1)))))
def U2(K:Fg)(c:Cn):Sp:=spD 2 2 (a8h K c)
def a5E(K:Fg)(c:Cn):TS:=w4 (K8 (z7 (a2B K) [] E0 (a9 (b4 3) i8)) (z8 4)) (w4 (a4s (V7 K (Q6 c.M5 "steps" (a1J K c) [] E0 (b4 0) i8)) (z8 5) (M8 (b0T (tB (b5O K true (b4 5) (b4 2))) (tOr (D9 (tOp (c5s K) (b4 5) (tC (.ref c.N7)))) (tB (z7 (a3I K) [] E0 (a9 (tOp qIx (Y5 K (b4 0) "rows") (tOp qIx (b4 5) (tC (.int 0)))) (a9 (b4 1) i8)))))) (a3S (b4 4) (Q6 c.M5 "leads_to" (U2 K c) [] E0 (b4 0) (a9 (b4 5) i8)) (tC (.bl true))) E2)) (w4 (K8 (tCB a4y (a9 (b4 4) i8)) (z8 6)) (w4 (K8 (tC (.int 0)) (z8 7)) (w4 (a9Q (D9 (tOp qLt (b4 7) (tCB Z0 (a9 (b4 6) i8)))) (w4 (K8 (tOp qIx (b4 6) (b4 7)) (z8 8)) (w4 (c3a 7 (tC (.int 1)) (ipI λi j=>i+j)) (a4s (a8l K (a9 (tOp qIx (Y5 K (b4 0) "nexts") (b4 8)) i8)) (b3w K 2 (a1T (z8 9) (a1T (z8 10) (b3x)))) (M8 (b0T (tB (b5O K true (W4 (a9 (b4 8) (a9 (b4 9) i8))) (b4 2))) (tB (a0Z (b4 10) (b4 4)))) (w4 (a3S (b4 4) (b4 10) (tC (.bl true))) (Y1 (tBM K "list" Z9 (b4 6) (a9 (b4 10) i8)))) E2))))) (K7 (b4 4))))))
def a1a(K:Fg)(c:Cn):Sp:=spD 4 11 (a5E K c)
def a6k(K:Fg):TS:=K7 (tCB a5T (a9 (tOp qIx (Y5 K (b4 0) "entries") (b4 1)) i8))
def a0n(K:Fg):Sp:=spD 2 2 (a6k K)
def a4m(K:Fg)(c:Cn):TS:=w4 (K8 a9R (z8 4)) (w4 (K8 (tCB a4y (a9 (b4 2) i8)) (z8 5)) (w4 (K8 (tC (.int 0)) (z8 6)) (w4 (a9Q (D9 (tOp qLt (b4 6) (tCB Z0 (a9 (b4 5) i8)))) (w4 (K8 (tOp qIx (b4 5) (b4 6)) (z8 7)) (w4 (c3a 6 (tC (.int 1)) (ipI λi j=>i+j)) (a4s (V7 K (Q6 c.M5 "steps_into" (a0n K) [] E0 (b4 0) (a9 (b4 7) i8))) (z8 8) (w4 (K8 (tOp (d1L K) (b4 8) (tC (.int 0))) (z8 9)) (M8 (b0T (D9 (tOp (c5q K) (b4 8) (tC (.ref c.N7)))) (b0T (tB (b5O K true (b4 8) (b4 1))) (tB (a0Z (b4 9) (b4 4))))) (w4 (a3S (b4 4) (b4 9) (tC (.bl true))) (M8 (tB (a0Z (b4 9) (b4 3))) (Y1 (tBM K "list" Z9 (b4 5) (a9 (b4 9) i8))) E2)) E2)))))) (K7 (b4 4)))))
def Z7(K:Fg)(c:Cn):Sp:=spD 4 10 (a4m K c)
def a8C(K:Fg):TS:=K7 (tCB (b7s K) (a9 (Y5 K (b4 0) "found") i8))
def a3b(K:Fg):Sp:=spD 1 1 (a8C K)
def a6m(K:Fg):TS:=K7 (a0Z (b4 1) (Y5 K (b4 0) "fallen"))
def T5(K:Fg):Sp:=spD 2 2 (a6m K)
def a6l(K:Fg)(c:Cn):TS:=w4 (M8 (tB (b5O K false (b4 1) (Y5 K (b4 0) "brinks"))) (K7 (tC (.bl true))) E2) (K7 (a1D (tOp (c5q K) (b4 1) (tC (.ref c.N7))) (a1D (Q6 c.v6 "waits_at" (T5 K) [] E0 (b4 0) (a9 (tOp qIx (b4 1) (tC (.int 0))) i8)) (b0S (z7 (a3I K) [] E0 (a9 (tOp qIx (Y5 K (Y5 K (b4 0) "plan") "rows") (tOp qIx (b4 1) (tC (.int 0)))) (a9 (Y5 K (b4 0) "deed") i8)))))))
def a1t(K:Fg)(c:Cn):Sp:=spD 2 2 (a6l K c)
def a8i(K:Fg)(c:Cn):TS:=K7 (a1D (Q6 c.v6 "waits_on" (a1t K c) [] E0 (b4 0) (a9 (b4 1) i8)) (b0S (Q6 c.v6 "waits_at" (T5 K) [] E0 (b4 0) (a9 (Q6 c.M5 "leads_to" (U2 K c) [] E0 (Y5 K (b4 0) "plan") (a9 (b4 1) i8)) i8))))
def a2C(K:Fg)(c:Cn):Sp:=spD 2 2 (a8i K c)
def a5H(K:Fg):TS:=K7 (a0Z (b4 1) (Y5 K (b4 0) "goes_by"))
def Z3(K:Fg):Sp:=spD 2 2 (a5H K)
def a5G(K:Fg)(c:Cn):TS:=K7 (Q6 c.T0 "wanted_at" (Z3 K) [] E0 (b4 0) (a9 (Q6 c.M5 "leads_to" (U2 K c) [] E0 (Y5 K (b4 0) "plan") (a9 (b4 1) i8)) i8))
def a1b(K:Fg)(c:Cn):Sp:=spD 2 2 (a5G K c)
def b8H(K:Fg):TS:=K7 (tIf (D9 (tOp (qIn false) (tOp qIx (b4 0) (tC (.int 0))) (W4 (a9 (tC (.str "set")) (a9 (tC (.str "copy")) (a9 (tC (.str "take")) i8)))))) (tOp qIx (b4 0) (tC (.int 1))) (tC .non))
def b1U(K:Fg):Sp:=spD 1 1 (b8H K)
def b8G(K:Fg):TS:=K7 (tOp (qIn false) (z7 (b1U K) [] E0 (a9 (b4 0) i8)) (tSl qSl (b4 1) (b0R (tC (.int 1))) a5m))
def a4t(K:Fg):Sp:=spD 2 2 (b8G K)
def a7a(K:Fg):TS:=K7 (a0Z (b4 1) (Y5 K (b4 0) "come_by"))
def a1R(K:Fg):Sp:=spD 2 2 (a7a K)
def a4P(K:Fg)(c:Cn):TS:=w4 (K8 (tOp qIx (Y5 K (Y5 K (b4 0) "plan") "rows") (b4 1)) (z8 2)) (w4 (M8 (tB (z7 (a4t K) [] E0 (a9 (b4 2) (a9 (Y5 K (b4 0) "deed") i8)))) (K7 (tC (.bl false))) E2) (K7 (b8K (z7 (a3I K) [] E0 (a9 (b4 2) (a9 (Y5 K (b4 0) "deed") i8))) (Q6 c.Y4 "ready_at" (a1R K) [] E0 (b4 0) (a9 (b4 1) i8)))))
def a0r(K:Fg)(c:Cn):Sp:=spD 2 3 (a4P K c)
def a6Z(K:Fg)(c:Cn):TS:=K7 (a1D (tOp (c5q K) (b4 1) (tC (.ref c.N7))) (Q6 c.Y4 "ready_behind" (a0r K c) [] E0 (b4 0) (a9 (tOp qIx (b4 1) (tC (.int 0))) i8)))
def a1Q(K:Fg)(c:Cn):Sp:=spD 2 2 (a6Z K c)
def a2W(K:Fg):TS:=K7 (z7 (a4t K) [] E0 (a9 (tOp qIx (Y5 K (Y5 K (b4 0) "plan") "rows") (tOp qIx (b4 1) (tC (.int 0)))) (a9 (Y5 K (b4 0) "deed") i8)))
def Q7(K:Fg):Sp:=spD 2 2 (a2W K)
def a3F(K:Fg)(c:Cn):TS:=w4 (K8 (tOp qIx (Y5 K (Y5 K (b4 0) "plan") "nexts") (b4 1)) (z8 2)) (K7 (a1D (tOp qGt (tCB Z0 (a9 (b4 2) i8)) (tC (.int 0))) (tCB b7u (a9 (V6 (V7 K (b4 2)) Z2 (Q6 c.T0 "wanted_at" (Z3 K) [] E0 (b4 1) (a9 (b4 0) i8))) i8))))
def U1(K:Fg)(c:Cn):Sp:=spD 2 3 (a3F K c)
def a6n(K:Fg)(c:Cn):TS:=w4 (M8 (tOr (a5l (tB (Q6 c.T0 "wanted_on" (a1b K c) [] E0 (Y5 K (b4 0) "wanted") (a9 (b4 1) i8)))) (tB (Q6 c.Y4 "ready_on" (a1Q K c) [] E0 (Y5 K (b4 0) "ready") (a9 (b4 1) i8)))) (K7 (tC (.bl false))) E2) (K7 (b8K (tOp (c5s K) (b4 1) (tC (.ref c.N7))) (b8K (Q6 c.J0 "is_spoilt_ahead" (Q7 K) [] E0 (b4 0) (a9 (b4 1) i8)) (b0S (Q6 c.T0 "wanted_behind" (U1 K c) [] E0 (Y5 K (b4 0) "wanted") (a9 (tOp qIx (b4 1) (tC (.int 0))) i8))))))
def a1u(K:Fg)(c:Cn):Sp:=spD 2 2 (a6n K c)
def b6p(K:Fg):TS:=a4s (a8l K (a9 (tOp qIx (Y5 K (b4 0) "nexts") (b4 1)) i8)) (b3w K 2 (a1T (z8 4) (a1T (z8 5) (b3x)))) (M8 (tB (a0Z (b4 5) (b4 2))) (w4 (a3S (b4 2) (b4 5) (W4 (a9 (b4 1) (a9 (b4 4) i8)))) (Y1 (tBM K "list" Z9 (b4 3) (a9 (b4 5) i8)))) E2)
def a5K(K:Fg):Sp:=spD 4 6 (b6p K)
def a8g(K:Fg)(c:Cn):TS:=w4 (K8 (b6s ((tC (.int 0),tC (.ref c.N7))::[])) (z8 3)) (w4 (K8 (a0x (a9 (tC (.int 0)) i8)) (z8 4)) (w4 (a4s (a4o (a9 (tCB Z0 (a9 (Y5 K (b4 0) "rows") i8)) i8)) (z8 5) (M8 (tB (tOp qIx (b4 2) (b4 5))) (Y1 (z7 (a5K K) [] E0 (a9 (b4 0) (a9 (b4 5) (a9 (b4 3) (a9 (b4 4) i8)))))) E2)) (w4 (K8 (tC (.int 0)) (z8 6)) (w4 (a9Q (D9 (tOp qLt (b4 6) (tCB Z0 (a9 (b4 4) i8)))) (w4 (K8 (tOp qIx (b4 4) (b4 6)) (z8 5)) (w4 (c3a 6 (tC (.int 1)) (ipI λi j=>i+j)) (M8 (a5l (tB (tOp qIx (b4 1) (b4 5)))) (Y1 (z7 (a5K K) [] E0 (a9 (b4 0) (a9 (b4 5) (a9 (b4 3) (a9 (b4 4) i8)))))) E2)))) (K7 (b4 3))))))
def a2A(K:Fg)(c:Cn):Sp:=spD 3 7 (a8g K c)
def b0P(K:Fg)(c:Cn):TS:=w4 (a5R K (b4 0) (b4 1) "plan") (w4 (a5R K (b4 0) (b4 2) "deed") (w4 (λD σ H=>(V6 (V7 K (Y5 K (b4 1) "rows")) Z2 (z7 (a3I K) [] E0 (a9 (b4 0) (a9 (b4 3) i8)))) σ H λv H1=>D.nx (σ.set 3 (some v)) H1) (a5R K (b4 0) (z7 (a2A K c) [] E0 (a9 (b4 1) (a9 (b4 3) (a9 (V6 (V7 K (Y5 K (b4 1) "rows")) Z2 (z7 (a4t K) [] E0 (a9 (b4 0) (a9 (b4 3) i8)))) i8)))) "come_by")))
def a2X(K:Fg)(c:Cn):Sp:=spD 3 4 (b0P K c)
def a8f(K:Fg):TS:=w4 (K8 (a0x i8) (z8 2)) (w4 (a4s (a8l K (a9 (Y5 K (b4 0) "rows") i8)) (b3w K 2 (a1T (z8 3) (a1T (z8 4) (b3x)))) (M8 (b0T (a5l (tB (z7 (a3I K) [] E0 (a9 (b4 4) (a9 (b4 1) i8))))) (tOr (tB (z7 (a4t K) [] E0 (a9 (b4 4) (a9 (b4 1) i8)))) (D9 (tOp qEq (tCB Z0 (a9 (tOp qIx (Y5 K (b4 0) "nexts") (b4 3)) i8)) (tC (.int 0)))))) (Y1 (tBM K "list" Z9 (b4 2) (a9 (b4 3) i8))) E2)) (K7 (b4 2)))
def a2z(K:Fg):Sp:=spD 2 5 (a8f K)
def a6X(K:Fg)(c:Cn):TS:=w4 (K8 (z7 (a2z K) [] E0 (a9 (b4 0) (a9 (b4 1) i8))) (z8 2)) (w4 (K8 (tCB c0Z (a9 (V6 (V7 K (b4 2)) Z2 (W4 (a9 (b4 0) (a9 (tC .non) i8)))) i8)) (z8 3)) (w4 (K8 (tC (.int 0)) (z8 4)) (w4 (a9Q (D9 (tOp qLt (b4 4) (tCB Z0 (a9 (b4 2) i8)))) (w4 (K8 (tOp qIx (b4 2) (b4 4)) (z8 5)) (w4 (c3a 4 (tC (.int 1)) (ipI λi j=>i+j)) (a4s (V7 K (Q6 c.M5 "steps_into" (a0n K) [] E0 (b4 0) (a9 (b4 5) i8))) (z8 6) (M8 (b0T (D9 (tOp (c5q K) (b4 6) (tC (.ref c.N7)))) (b0T (tB (a0Z (tOp qIx (b4 6) (tC (.int 0))) (b4 3))) (a5l (tB (z7 (a3I K) [] E0 (a9 (tOp qIx (Y5 K (b4 0) "rows") (tOp qIx (b4 6) (tC (.int 0)))) (a9 (b4 1) i8))))))) (w4 (a3S (b4 3) (tOp qIx (b4 6) (tC (.int 0))) (b4 6)) (Y1 (tBM K "list" Z9 (b4 2) (a9 (tOp qIx (b4 6) (tC (.int 0))) i8)))) E2))))) (K7 (b4 3)))))
def a1P(K:Fg)(c:Cn):Sp:=spD 2 7 (a6X K c)
def a9B(K:Fg)(c:Cn):TS:=w4 (a5R K (b4 0) (b4 1) "plan") (a5R K (b4 0) (z7 (a1P K c) [] E0 (a9 (b4 1) (a9 (b4 2) i8))) "goes_by")
def a2i(K:Fg)(c:Cn):Sp:=spD 3 3 (a9B K c)
def a9F(K:Fg)(c:Cn):TS:=w4 (a5R K (b4 0) (b4 1) "plan") (w4 (a5R K (b4 0) (b4 2) "deed") (w4 (a5R K (b4 0) (a2e c.Y4 (a2X K c) [] E0 (a9 (b4 1) (a9 (b4 2) i8))) "ready") (w4 (a5R K (b4 0) (a2e c.T0 (a2i K c) [] E0 (a9 (b4 1) (a9 (b4 2) i8))) "wanted") (a5R K (b4 0) (tCB (b7t K) (a9 (V6 (V7 K (Q6 c.M5 "steps" (a1J K c) [] E0 (b4 1) i8)) (tB (Q6 c.J0 "is_brink" (a1u K c) [] E0 (b4 1) (a9 (b4 0) i8))) (W4 (a9 (b4 0) (a9 (tC (.bl true)) i8)))) i8)) "found"))))
def a2k(K:Fg)(c:Cn):Sp:=spD 3 3 (a9F K c)
def a9E(K:Fg)(c:Cn):TS:=w4 (M8 (a5l (tB (tCB (c8Y K) (a9 (b4 1) (a9 (tC (.ref c.M5)) i8))))) (λ_ _ _=>False) E2) (w4 (M8 (a5l (tB (z7 (a0L K c) [] E0 (a9 (b4 2) i8)))) (λ_ _ _=>False) E2) (w4 (Y1 (z7 (a1I K) [] E0 (a9 (b4 1) (a9 (b4 3) (a9 (tC (.int 2)) i8))))) (w4 (a5R K (b4 0) (b4 1) "plan") (w4 (a5R K (b4 0) (b4 2) "deed") (w4 (a5R K (b4 0) (z7 (a2B K) [] E0 (a9 (Q6 c.J0 "steps" (a3b K) [] E0 (a2e c.J0 (a2k K c) [] E0 (a9 (b4 1) (a9 (b4 2) i8))) i8) i8)) "brinks") (w4 (a5R K (b4 0) (z7 (a1a K c) [] E0 (a9 (b4 1) (a9 (b4 2) (a9 (Y5 K (b4 0) "brinks") (a9 (tIf (D9 (tOp qIs (b4 3) (tC .non))) (a0x i8) (b4 3)) i8))))) "fallen") (w4 (λD σ H=>(a9S K (a8l K (a9 (Y5 K (b4 1) "rows") i8)) (tB (z7 (a3I K) [] E0 (a9 (b4 1) (a9 (b4 4) i8)))) (b4 0)) σ H λv H1=>D.nx (σ.set 4 (some v)) H1) (w4 (a5R K (b4 0) (z7 (a2B K) [] E0 (a9 (V6 (V7 K (Q6 c.M5 "steps" (a1J K c) [] E0 (b4 1) i8)) (tB (Q6 c.v6 "is_put" (a2C K c) [] E0 (b4 1) (a9 (b4 0) i8))) (b4 0)) i8)) "put_in") (w4 (a5R K (b4 0) (z7 (a2B K) [] E0 (a9 (V6 (V7 K (b4 4)) (a5l (tB (Q6 c.v6 "waits_at" (T5 K) [] E0 (b4 1) (a9 (b4 0) i8)))) (b4 0)) i8)) "left_out") (w4 (a5R K (b4 0) (z7 (a2B K) [] E0 (a9 (V6 (V7 K (b4 4)) (tB (Q6 c.v6 "waits_at" (T5 K) [] E0 (b4 1) (a9 (b4 0) i8))) (b4 0)) i8)) "left_in") (a5R K (b4 0) (z7 (Z7 K c) [] E0 (a9 (b4 1) (a9 (Y5 K (b4 0) "put_in") (a9 (Y5 K (b4 0) "left_out") (a9 (Y5 K (b4 0) "left_in") i8))))) "living")))))))))))
def L9(K:Fg)(c:Cn):Sp:=spD 4 5 (a9E K c)
def a4V(K:Fg)(e:Xn)(E:XK):TS:=w4 (M8 (tOr (a5l (tB (tCB a9t (a9 (b4 0) (a9 (tC (.ty "list")) i8))))) (D9 (tOp qLt (tCB Z0 (a9 (b4 0) i8)) (b4 2)))) (a7w e.C_Wrong (a0m K "at") (λ_=>E) (a9 (b4 1) i8)) E2) (M8 (D9 (tOp qGt (tCB Z0 (a9 (b4 0) i8)) (tC (.int 400)))) (a7w e.C_TooMany (a0m K "most") (λ_=>E) (a9 (tC (.int 400)) i8)) E2)
def a2D(K:Fg)(e:Xn):Sp:=spX 3 3 (a4V K e)
def a4u(K:Fg)(e:Xn):Sp:=c0D (Y8 K) (a2D K e)
def a9H(K:Fg)(e:Xn)(E:XK):TS:=a4s (a8l K (a9 (b4 0) i8)) (b3w K 2 (a1T (z8 1) (a1T (z8 2) (b3x)))) (M8 (a5l (tB (b4 2))) (a7w e.C_NoThing (a0m K "at") (λ_=>E) (a9 (b4 1) i8)) E2)
def a5O(K:Fg)(e:Xn):Sp:=spX 1 3 (a9H K e)
def a5M(K:Fg)(e:Xn):Sp:=c0D (a0M K) (a5O K e)
def a9G(K:Fg)(e:Xn)(E:XK):TS:=M8 (D9 (tOp c0X (b4 1) (tC .non))) (w4 (Y1 (a9U (a4u K e) (λ_=>E) (a9 (b4 1) (a9 (b4 2) (a9 (tC (.int 0)) i8))))) (Y1 (a9U (a5M K e) (λ_=>E) (a9 (V6 (V7 K (b4 1)) Z2 (z7 (a2h K) [] E0 (a9 (b4 0) (a9 (tCB Z0 (a9 (Y5 K (b4 1) "rows") i8)) i8)))) i8)))) E2
def a5N(K:Fg)(e:Xn):Sp:=spX 3 3 (a9G K e)
def a5L(K:Fg)(e:Xn):Sp:=c0D (a1I K) (a5N K e)
def a8D(K:Fg)(c:Cn)(e:Xn)(E:XK):TS:=w4 (M8 (a5l (tB (tCB (c2n K) (a9 (b4 1) (a9 (tC (.ref c.M5)) i8))))) (a7w e.C_Wrong (a0m K "at") (λ_=>E) (a9 (tC (.int 0)) i8)) E2) (w4 (M8 (a5l (tB (z7 (a0L K c) [] E0 (a9 (b4 2) i8)))) (a7w e.C_Wrong (a0m K "at") (λ_=>E) (a9 (tC (.int 1)) i8)) E2) (w4 (Y1 (a9U (a5L K e) (λ_=>E) (a9 (b4 1) (a9 (b4 3) (a9 (tC (.int 2)) i8))))) c4R))
def a4W(K:Fg)(c:Cn)(e:Xn):Sp:=spX 4 5 (a8D K c e)
def a3c(K:Fg)(c:Cn)(e:Xn):Sp:=c0D (L9 K c) (a4W K c e)
def qX(K:Fg)(x C:Addr)(dx:Option Addr):List V->Hp->VK->Prop:=λvs H Q=>b3D dx H/\d1M K x C vs H Q
def qXT(K:Fg)(x C:Addr)(dx:Option Addr):List V->Hp->VK->Prop:=λvs H Q=>b3D dx H/\c8Z K x C vs H Q
def c6Z(K:Fg)(x C:Addr)(dx:Option Addr)(v:V):TT:=tB (tCB (qX K x C dx) (a9 (b4 2) (a9 (tC v) i8)))
def c9x(K:Fg)(x C:Addr)(dx:Option Addr)(v u:Addr):TT:=tB (tCB (qXT K x C dx) (a9 (b4 2) (a9 (W4 (a9 (tC (.ref v)) (a9 (tC (.ref u)) i8))) i8)))
def c4Q(K:Fg)(x C:Addr)(dx:Option Addr)(a b d:Addr)(s f:Str):TS:=M8 (b0T (c6Z K x C dx (.ref a)) (a5l (c9x K x C dx b d))) (K8 (W4 (a9 (tC (.str s)) (a9 (c8O K x C dx (b4 2) f) i8))) (z8 1)) E2
def b0M(K:Fg)(e:Xn)(x C:Addr)(dx:Option Addr):TS:=
 w4 (K8 (W4 (a9 (tC (.str "odd")) (a9 (tC (.int 0)) i8))) (z8 1)) (w4 (M8 (tOr (c9x K x C dx e.C_NoText e.C_NoWay) (a5l (c6Z K x C dx (.ty "ValueError")))) (K7 (b4 1)) E2)
 (w4 (c4Q K x C dx e.C_Wrong e.C_NoThing e.C_TooMany "wrong" "at") (w4 (c4Q K x C dx e.C_NoThing e.C_Wrong e.C_TooMany "nothing" "at") (c4Q K x C dx e.C_TooMany e.C_Wrong e.C_NoThing "many" "most"))))
def b6n(K:Fg)(c:Cn):TS:=w4 (K8 (W4 (a9 (tC (.str "taken")) (a9 (tC (.int 0)) i8))) (z8 1)) (w4 (c2e K c.x.C_OnceError 2 (λEE=>Y1 (b6Y c.v6 (a3c K c c.x) EE (a9 (tOp qIx (b4 0) (tC (.int 0))) (a9 (tOp qIx (b4 0) (tC (.int 1))) (a9 (tOp qIx (b4 0) (tC (.int 2))) i8))))) (b0M K c.x)) (w4 (M8 (a5l (tB (z7 (c0C K) [] E0 (a9 (tOp qIx (b4 1) (tC (.int 1))) i8)))) (K7 (W4 (a9 (tC (.str "odd")) (a9 (tC (.int 1)) i8)))) E2) (K7 (b4 1))))
def Y6(K:Fg)(c:Cn):Sp:=spD 1 3 (b6n K c)
def a9C(K:Fg):TS:=K7 (tCB (b7s K) (a9 (Y5 K (b4 0) "put_in") i8))
def a0o(K:Fg):Sp:=spD 1 1 (a9C K)
def a9D(K:Fg):TS:=K7 (tCB a4y (a9 (Y5 K (b4 0) "left_out") i8))
def a2j(K:Fg):Sp:=spD 1 1 (a9D K)
def a8B(K:Fg):TS:=K7 (tCB a4y (a9 (Y5 K (b4 0) "left_in") i8))
def a1E(K:Fg):Sp:=spD 1 1 (a8B K)
def b8J(K:Fg)(c:Cn):TS:=w4 (M8 (tOr (a5l (tB (tCB a9t (a9 (b4 0) (a9 (tC (.ty "tuple")) i8))))) (D9 (tOp qEq (tCB Z0 (a9 (b4 0) i8)) (tC (.int 0))))) (K7 (tC (.bl false))) E2) (w4 (K8 (tOp qIx (b4 0) (tC (.int 0))) (z8 1)) (w4 (K8 (tSl qSl (b4 0) (b0R (tC (.int 1))) a5m) (z8 2)) (w4 (M8 (D9 (tOp qEq (b4 1) (tC (.str "set")))) (K7 (a1D (tOp qEq (tCB Z0 (a9 (b4 2) i8)) (tC (.int 2))) (a1D (z7 (Y7 K) [] E0 (a9 (tOp qIx (b4 2) (tC (.int 0))) i8)) (z7 (a0L K c) [] E0 (a9 (tOp qIx (b4 2) (tC (.int 1))) i8))))) E2) (w4 (M8 (D9 (tOp qEq (b4 1) (tC (.str "copy")))) (K7 (a1D (tOp qEq (tCB Z0 (a9 (b4 2) i8)) (tC (.int 2))) (a1D (z7 (Y7 K) [] E0 (a9 (tOp qIx (b4 2) (tC (.int 0))) i8)) (z7 (a0f K) [] E0 (a9 (tOp qIx (b4 2) (tC (.int 1))) i8))))) E2) (w4 (M8 (D9 (tOp qEq (b4 1) (tC (.str "take")))) (K7 (a1D (tOp qEq (tCB Z0 (a9 (b4 2) i8)) (tC (.int 1))) (z7 (Y7 K) [] E0 (a9 (tOp qIx (b4 2) (tC (.int 0))) i8)))) E2) (w4 (M8 (D9 (tOp (qIn false) (b4 1) (W4 (a9 (tC (.str "tell")) (a9 (tC (.str "ask")) i8))))) (K7 (a1D (tOp qEq (tCB Z0 (a9 (b4 2) i8)) (tC (.int 1))) (z7 (a0f K) [] E0 (a9 (tOp qIx (b4 2) (tC (.int 0))) i8)))) E2) (K7 (a1D (tOp qEq (b4 1) (tC (.str "skip"))) (tOp qEq (tCB Z0 (a9 (b4 2) i8)) (tC (.int 0)))))))))))
def a9c(K:Fg)(c:Cn):Sp:=spD 1 3 (b8J K c)
def b2S(K:Fg):TS:=w4 (M8 (a5l (tB (tCB a9t (a9 (b4 1) (a9 (tC (.ty "list")) i8))))) (K7 (tC (.bl false))) E2) (w4 (K8 (tIf (D9 (tOp qEq (tOp qIx (b4 0) (tC (.int 0))) (tC (.str "ask")))) (W4 (a9 (tC (.int 2)) i8)) (W4 (a9 (tC (.int 0)) (a9 (tC (.int 1)) i8)))) (z8 3)) (K7 (a1D (tOp (qIn false) (tCB Z0 (a9 (b4 1) i8)) (b4 3)) (tCB b7u (a9 (V6 (V7 K (b4 1)) Z2 (z7 (a2h K) [] E0 (a9 (b4 0) (a9 (b4 3) i8)))) i8)))))
def a5n(K:Fg):Sp:=spD 3 4 (b2S K)
def a9A(K:Fg):TS:=w4 (M8 (tOr (a5l (tB (tCB a9t (a9 (b4 1) (a9 (tC (.ty "list")) i8))))) (D9 (tOp qNe (tCB Z0 (a9 (b4 1) i8)) (tCB Z0 (a9 (b4 0) i8))))) (λ_ _ _=>False) E2) (Y1 (z7 (a0M K) [] E0 (a9 (a9S K (d0K K (a9 (b4 0) (a9 (b4 1) i8))) Z2 (z7 (a5n K) [] E0 (a9 (b4 0) (a9 (b4 1) (a9 (tCB Z0 (a9 (b4 2) i8)) i8))))) i8)))
def a3J(K:Fg):Sp:=spD 2 2 (a9A K)
def b6o(K:Fg):TS:=w4 (K8 a9R (z8 2)) (w4 (K8 (tCB a5T (a9 (b4 0) i8)) (z8 3)) (w4 (a9Q (D9 (tOp qGt (tCB Z0 (a9 (b4 3) i8)) (tC (.int 0)))) (w4 (K8 (c9y K "list" c5p (b4 3)) (z8 4)) (M8 (tB (a0Z (b4 4) (b4 2))) (w4 (a3S (b4 2) (b4 4) (tC (.bl true))) (Y1 (tBM K "list" a9e (b4 3) (a9 (tOp qIx (b4 1) (b4 4)) i8)))) E2))) (K7 (b4 2))))
def a5J(K:Fg):Sp:=spD 2 5 (b6o K)
def b8F(K:Fg):TS:=w4 (λD σ H=>(V6 (V7 K (b4 0)) Z2 (a0x i8)) σ H λv H1=>D.nx (σ.set 1 (some v)) H1) (w4 (a4s (a8l K (a9 (b4 0) i8)) (b3w K 2 (a1T (z8 2) (a1T (z8 3) (b3x)))) (a4s (V7 K (b4 3)) (z8 4) (Y1 (tBM K "list" Z9 (tOp qIx (b4 1) (b4 4)) (a9 (b4 2) i8))))) (K7 (b4 1)))
def a9a(K:Fg):Sp:=spD 1 5 (b8F K)
def b4a(K:Fg):TS:=K7 (a9S K (a8l K (a9 (b4 0) i8)) (D9 (tOp qEq (tCB Z0 (a9 (b4 1) i8)) (tC (.int 0)))) (b4 0))
def a6o(K:Fg):Sp:=spD 1 1 (b4a K)
def b0N(K:Fg):TS:=w4 (K8 (z7 (a5J K) [] E0 (a9 (a0x (a9 (tC (.int 0)) i8)) (a9 (b4 0) i8))) (z8 1)) (w4 (K8 (z7 (a5J K) [] E0 (a9 (z7 (a6o K) [] E0 (a9 (b4 0) i8)) (a9 (z7 (a9a K) [] E0 (a9 (b4 0) i8)) i8))) (z8 2)) (a4s (a4o (a9 (tCB Z0 (a9 (b4 0) i8)) i8)) (z8 3) (M8 (tOr (tB (a0Z (b4 3) (b4 1))) (tB (a0Z (b4 3) (b4 2)))) (λ_ _ _=>False) E2)))
def a4F(K:Fg):Sp:=spD 1 4 (b0N K)
def b2T(K:Fg)(c:Cn):TS:=w4 (Y1 (z7 (Y8 K) [] E0 (a9 (b4 1) (a9 (tC (.int 0)) (a9 (tC (.int 1)) i8))))) (w4 (Y1 (z7 (a0M K) [] E0 (a9 (V6 (V7 K (b4 1)) Z2 (z7 (a9c K c) [] E0 (a9 (b4 0) i8))) i8))) (w4 (Y1 (z7 (a3J K) [] E0 (a9 (b4 1) (a9 (b4 2) i8)))) (w4 (Y1 (z7 (a4F K) [] E0 (a9 (b4 2) i8))) (w4 (a5R K (b4 0) (tCB a5T (a9 (b4 1) i8)) "rows") (w4 (a5R K (b4 0) (V6 (V7 K (b4 2)) Z2 (tCB a5T (a9 (b4 0) i8))) "nexts") (w4 (a5R K (b4 0) (V6 (V7 K (b4 1)) Z2 (a0x i8)) "entries") (a4s (V7 K (z7 (a4Q K c) [] E0 (a9 (Y5 K (b4 0) "nexts") i8))) (z8 3) (Y1 (tBM K "list" Z9 (tOp qIx (Y5 K (b4 0) "entries") (Q6 c.M5 "leads_to" (U2 K c) [] E0 (b4 0) (a9 (b4 3) i8))) (a9 (b4 3) i8))))))))))
def a5o(K:Fg)(c:Cn):Sp:=spD 3 4 (b2T K c)
def c4N(K:Fg)(c:Cn):TS:=w4 (K8 (z7 (b7f K) [] E0 (a9 (b4 0) i8)) (z8 1)) (w4 (K8 (z7 (b3F K) [] E0 (a9 (b4 1) i8)) (b3w K 3 (a1T (z8 2) (a1T (z8 3) (a1T (z8 4) (b3x)))))) (w4 (K8 (tOp qIx (b4 4) (tC (.int 0))) (z8 5)) (w4 (K8 (a2e c.M5 (a5o K c) [] E0 (a9 (tCB a5T (a9 (b4 2) i8)) (a9 (V6 (V7 K (b4 3)) Z2 (tCB a5T (a9 (b4 0) i8))) i8))) (z8 6)) (w4 (λD σ H=>(V6 (a4o (a9 (z7 (E1 K) [] E0 (a9 (b4 1) (a9 (tC (.int 9)) i8))) i8)) Z2 (z7 (E1 K) [] E0 (a9 (b4 2) (a9 (tCB Z0 (a9 (b4 3) i8)) i8)))) σ H λv H1=>D.nx (σ.set 7 (some v)) H1) (w4 (a4s (a4o (a9 (tC (.int 3)) i8)) (z8 8) (w4 (K8 (a0x (a9 (b4 6) (a9 (b4 5) (a9 (b4 7) i8)))) (z8 9)) (w4 (K8 (z7 (E1 K) [] E0 (a9 (b4 1) (a9 (tC (.int 3)) i8))) (z8 10)) (w4 (K8 (tCB a5T (a9 (b4 9) i8)) (z8 11)) (w4 (K8 (z7 (a6p K) [] E0 (a9 (b4 1) (a9 (tCB Z0 (a9 (b4 2) i8)) i8))) (b3w K 2 (a1T (z8 12) (a1T (z8 13) (b3x))))) (w4 (M8 (tOr (D9 (tOp qEq (b4 10) (tC (.int 2)))) (D9 (tOp qEq (z7 (E1 K) [] E0 (a9 (b4 1) (a9 (tC (.int 3)) i8))) (tC (.int 0))))) (K8 (b4 12) (b7S (b4 11) (tC (.int 2)) b2j)) E2) (w4 (M8 (tOr (D9 (tOp qEq (b4 10) (tC (.int 1)))) (b0T (D9 (tOp qEq (b4 10) (tC (.int 0)))) (D9 (tOp qEq (z7 (E1 K) [] E0 (a9 (b4 1) (a9 (tC (.int 3)) i8))) (tC (.int 0)))))) (w4 (K8 (z7 (a6q K) [] E0 (a9 (b4 1) (a9 (b4 5) i8))) (b7S (b4 11) (tC (.int 1)) b2j)) (K8 (W4 (a9 (tC (.str "wrong")) (a9 (tC (.int 1)) i8))) (z8 13))) E2) (w4 (M8 (D9 (tOp qEq (b4 10) (tC (.int 0)))) (w4 (K8 (tOp qIx (a0x (a9 (tC .non) (a9 (b4 2) (a9 (W4 (a9 (b4 2) (a9 (b4 3) i8))) (a9 (tC (.str "plan")) (a9 (tC (.int 0)) (a9 (tC (.bl true)) i8))))))) (z7 (E1 K) [] E0 (a9 (b4 1) (a9 (tC (.int 6)) i8)))) (b7S (b4 11) (tC (.int 0)) b2j)) (K8 (W4 (a9 (tC (.str "wrong")) (a9 (tC (.int 0)) i8))) (z8 13))) E2) (w4 (M8 (tOr (D9 (tOp (b3q K) (z7 (Y6 K c) [] E0 (a9 (b4 11) i8)) (b4 13))) (D9 (tOp (b3q K) (z7 (Y6 K c) [] E0 (a9 (b4 11) i8)) (b4 13)))) (K7 (tC (.bl false))) E2) (w4 (M8 (tOr (D9 (tOp (b3q K) (z7 (Y6 K c) [] E0 (a9 (a0x (a9 (b4 6) (a9 (b4 5) (a9 (tCB a5T (a9 (b4 7) i8)) i8)))) i8)) (W4 (a9 (tC (.str "taken")) (a9 (tC (.int 0)) i8))))) (D9 (tOp (b3q K) (z7 (Y6 K c) [] E0 (a9 (a0x (a9 (b4 6) (a9 (b4 5) (a9 (tC .non) i8)))) i8)) (W4 (a9 (tC (.str "taken")) (a9 (tC (.int 0)) i8)))))) (K7 (tC (.bl false))) E2) (M8 (D9 (tOp (b3q K) (z7 (Y6 K c) [] E0 (a9 (a0x (a9 (b4 6) (a9 (b4 5) (a9 (tOp c7m (a0x (a9 (tOp c5o (tCB Z0 (a9 (b4 2) i8)) (tC (.int 1))) i8)) (tC (.int 400))) i8)))) i8)) (W4 (a9 (tC (.str "taken")) (a9 (tC (.int 0)) i8))))) (K7 (tC (.bl false))) E2))))))))))) (w4 (K8 (tCB a5T (a9 (b4 7) i8)) (z8 14)) (w4 (K8 (a2e c.v6 (L9 K c) [] E0 (a9 (b4 6) (a9 (b4 5) (a9 (b4 14) i8)))) (z8 15)) (w4 (K8 (a2e c.v6 (L9 K c) [] E0 (a9 (b4 6) (a9 (b4 5) (a9 (tC .non) i8)))) (z8 16)) (w4 (K8 (a2e c.v6 (L9 K c) [.non] E0 (a9 (b4 6) (a9 (b4 5) i8))) (z8 17)) (w4 (M8 (tOr (D9 (tOp (b3q K) (Q6 c.v6 "puts" (a0o K) [] E0 (b4 16) i8) (Q6 c.v6 "puts" (a0o K) [] E0 (b4 17) i8))) (tOr (D9 (tOp (b3q K) (Q6 c.v6 "outs" (a2j K) [] E0 (b4 16) i8) (Q6 c.v6 "outs" (a2j K) [] E0 (b4 17) i8))) (D9 (tOp (b3q K) (Q6 c.v6 "stays" (a1E K) [] E0 (b4 16) i8) (Q6 c.v6 "stays" (a1E K) [] E0 (b4 17) i8))))) (K7 (tC (.bl false))) E2) (K7 (a1D (tOp (c9R K) (b4 14) (b4 7)) (tOp (c9R K) (Q6 c.v6 "puts" (a0o K) [] E0 (b4 15) i8) (Q6 c.v6 "puts" (a0o K) [] E0 (a2e c.v6 (L9 K c) [] E0 (a9 (b4 6) (a9 (b4 5) (a9 (tCB a5T (a9 (b4 7) i8)) i8)))) i8))))))))))))))
def b4i(K:Fg):Sp:=λvs H Q _=>vs.length=1/\∀c,X6 K c->c4N K c { nx:=λ_ H'=>Q .non H',rt:=Q } (vs.map some++p8 (18 - vs.length) none) H
end RD
local macro_rules | `(tactic| walk_at "st") => `(tactic| (with_reducible first
 | refine RD.b1c ?_ | refine RD.b1b ?_ | refine RD.c9K ?_ | refine RD.b6u ?_ | refine RD.b7m ?_ | refine RD.b3o ?_ | refine RD.a4v ?_ | refine RD.a6C ?_ | refine RD.c3l ?_ | refine RD.c5b ?_ | refine RD.c2k ?_ | refine RD.b8Z ?_ | refine RD.c0U ?_ | refine RD.d1x ?_ | refine RD.c9G ?_ | refine RD.c8Q ?_ | refine RD.b2f ?_ | refine RD.c2h ?_ | refine RD.s_un ?_ | refine RD.s_neg ?_ | refine RD.s_c ?_ | refine RD.G0 ?_ | refine RD.X3 ?_ | refine RD.a4Z ?_ | refine RD.c0T ?_ | refine RD.b8Y ?_ | refine RD.c8P ?_ | refine RD.d2M ?_ | refine RD.c9F ?_ | refine RD.c5c ?_ | refine RD.s_rev ?_ | refine RD.c0O ?_ | refine RD.c9L ?_ | refine RD.d1y ?_
 | refine RD.M7 (by with_unfolding_all rfl) ?_ | refine Exists.intro _ (And.intro (Eq.refl (L2.V.bl _)) ?_) | refine Exists.intro _ (And.intro (Eq.refl (L2.V.int _)) ?_)
 | refine RD.c5n ?_ | refine RD.c9P ?_ | refine RD.d2R ?_ | refine RD.d1K ?_ | refine RD.d2S rfl ?_ | refine RD.d2Q rfl ?_))
local macro_rules | `(tactic| walk_at "ev") => `(tactic| repeat walk_at "st")
local macro_rules | `(tactic| walk_at "go") => `(tactic| repeat (first | with_reducible refine RD.L4 ?_ | walk_at "st"))
local macro_rules | `(tactic| ext) => `(tactic| walk_at "ev")
local macro_rules | `(tactic| exists $t:term) => `(tactic| (refine $t; walk_at "ev"))
local macro_rules | `(tactic| specialize $t:term) => `(tactic| (with_reducible refine $t; walk_at "ev"))
local macro_rules | `(tactic| exact_mod_cast $t:term) => `(tactic| with_reducible refine $t)
local macro_rules | `(tactic| nofun) => `(tactic| (with_reducible refine RD.L4 ?_; walk_at "ev"))
namespace RD
open PySem PySem.Spec L2
variable{H H' H0 H1 H2:Hp}{C a cx d dd dx la na p rx wx:Addr}{o:HO}{ds xs ys:List V}{D:b1H}{σ:St}{ta te ti to:TE}{tt:TT}{tr:TA}{Q:VK}{QB:Bool->Hp->Prop}{v v0 v1 v2:V}{i j n t:Nat}{E:XK}{f z:Str}{G L O S Y ks l:List Nat}{QD:Hp->Prop}{R:It->Hp->Prop}{M N:Nt}{m:Int}{ns:List Int}{as rs:List Addr}{Z:Addr->Prop}{Do:Nat->Bool}{kvs:List (Key×V)}
section
variable {D:Addr}
def c9I(h:ta σ H λv H2=>∃x,v=.str x/\R (Its x) H2):d0L ta σ H R:=h
def c6q{x:Str}(Pv:Nat->List V->Hp->Prop)(h0:Pv 0 [] (upd H1 D (.lst [])))(hP:∀i ys H,Pv i ys H->H D=some (.lst ys))
  (step:∀i c ys H2,x.cps[i]?=some c->Pv i ys H2->∀(R:VK) (R':Hp->Prop),(∀y H5,H5 D=some (.lst ys)->ys.length<z9->Pv (i+1) (ys++[y]) (upd H5 D (.lst (ys++[y])))->R y H5)->(∀H4,Pv (i+1) ys H4->R' H4) ->
   tt (some (.str ⟨#[c]⟩)::σ) H2 λok H4=>if ok=true then te (some (.str ⟨#[c]⟩)::σ) H4 R else R' H4)
  (done:∀ys H2,Pv x.length ys H2->QD H2) :
  WD B1 tt te QD σ (Its x) H1 D:=by
 refine⟨λi m ys H=>m=x.length - i/\i<=x.length/\Pv i ys H,⟨x.length,rfl,W3 _,h0⟩,?_⟩;rintro i m ys H2 ⟨rfl,hi,p⟩;refine⟨hP i ys H2 p,?_⟩;by_cases hlt:i<x.length
 .refine .inr ⟨hlt,λv H3 y=>?_⟩;obtain⟨e,c,hc,ev⟩:=y;subst e ev;exact step i c ys _ hc p _ _ (λy H5 h1 h2 h3=>⟨h1,h2,x.length - (i+1),by omega,rfl,hlt,h3⟩) λH4 h=>⟨x.length - (i+1),by omega,rfl,hlt,h⟩
 .have e:i=x.length:=by omega
  subst e;exact .inl ⟨j8 _,done ys H2 p⟩
end
def sgn(S:Str)(c:Nat):Bool := !(Builtin.Str.occurrences S ⟨#[c]⟩ 0 S.length 1).isEmpty
def c8W{S:Str}{c:Nat}(h:Q (.bl (sgn S c)) H):qIn false (.str ⟨#[c]⟩) (.str S) H Q:=h
abbrev LET:Str := "abcdefghijklmnopqrstuvwxyz"
abbrev SGN:Str := "abcdefghijklmnopqrstuvwxyz0123456789"
def c9A:LET++("0123456789" : Str)=SGN:=by decide +kernel
def a5Y(z:Str):Bool:=decide (1<=z.length)&&decide (z.length<=8)&&(match z.cps[0]? with | some c=>sgn LET c | none=>false)&&z.cps.toList.all (sgn SGN)
def b3c{K:Fg}(hz:z.length<=400)(k:∀H',j5 H H'->Q (.bl (a5Y z)) H'):Y7 K [.str z] H Q E:=by
 refine⟨rfl,?_⟩;unfold a6Y;have hz':=small (show z.length<=100000 by omega)
 nofun
 exists a3v (s:="str") rfl (by decide) ?_;exists z4 (by decide) ?_;exists c5k hz' ?_;by_cases h1:1<=z.length
 case neg=>
  exists z4 (d4D (by omega)) ?_;exists C6 rfl ?_;have e:a5Y z=false:=by unfold a5Y;rw[d4D h1];simp
  rw[<-e];exact k H (j5.refl _)
 exists C6 (d4E (by omega)) ?_;by_cases h8:z.length<=8
 case neg=>
  rw[d4D (show ¬((z.length:Int)<=8) by omega)];exists C6 rfl ?_;have e:a5Y z=false:=by unfold a5Y;rw[d4D h8];simp
  rw[<-e];exact k H (j5.refl _)
 rw[d4E (show(z.length:Int)<=8 by omega)];exists z4 rfl ?_;have hl:z.cps.toList.length=z.length:=a6f;obtain⟨c0,hc0,hc1⟩:=a2S (xs:=z.cps.toList) (i:=0) (by decide) (by omega);have hc2:z.cps[0]?=some c0:=by rw[<-a0D];exact hc1
 exists c5l hz' hc0 ?_
 have en:a5Y z=(sgn LET c0&&z.cps.toList.all (sgn SGN)):=by
  unfold a5Y;rw[d4E h1,d4E h8,hc2];simp
 refine c8W (S:=LET) ?_;refine⟨_,rfl,?_⟩;cases hs:sgn LET c0 with
 |false=>
  refine d0J ?_;have e:a5Y z=false:=by rw[en,hs];rfl
  rw[<-e];exact k H (j5.refl _)
 |true=>
  exists b9G ?_;specialize Y9 (c9I ?_);refine⟨z,rfl,λD hD=>?_⟩;refine c6q (λi ys H2=>ys=(z.cps.toList.take i).map (λc=>V.bl (sgn SGN c))/\H2=upd H D (.lst ys)) ⟨by simp,rfl⟩ ?_ ?_ ?_
  .rintro i ys _ ⟨_,rfl⟩;exact c7
  .rintro i c ys _ hc ⟨rfl,rfl⟩ R R' hR hR';have hc':z.cps.toList[i]?=some c:=by rw[a0D];exact hc
   ext
   exists b9G ?_;refine c5m (small (by decide +kernel)) ?_;have e:(("abcdefghijklmnopqrstuvwxyz" : Str)++("0123456789" : Str))=SGN:=c9A;rw[e];refine c8W (S:=SGN) ?_;refine hR (.bl (sgn SGN c)) _ c7 (L5 ?_) ⟨?_,?_⟩
   .rw[b8,F7];omega
   .rw[L3,hc'];simp
   .rw[b0J]
  .rintro ys _ ⟨rfl,rfl⟩
   ext
   have eb:a0G ((z.cps.toList.take z.length).map (λc=>V.bl (sgn SGN c)))=some ((z.cps.toList.take z.length).map (sgn SGN)):=by
    generalize z.cps.toList.take z.length=l;induction l with
    |nil=>rfl
    |cons a r ih=>simp[a0G,ih]
   have ea:((z.cps.toList.take z.length).map (sgn SGN)).all id=a5Y z:=by
    rw[en,hs,a2u,a0s (by omega),d2F];rfl
   refine(show b7u [.ref D] _ _ from ?_);unfold b7u;simp only[c7];refine⟨_,eb,?_⟩;rw[ea];exact k _ (A2 hD)
def NmS(s:Str):Prop:=a5Y s=true/\s.length<=8
def OpN(v:V):Prop:=(∃s,v=.str s/\NmS s)\/∃n:Int,v=.int n/\0<=n/\n<1000000000000
def OpN.flat{v:V}(h:OpN v):T1 v=true:=by
 rcases h with ⟨s,rfl,_⟩ | ⟨n,rfl,_⟩ <;> rfl
abbrev c6C:List Str:=["plus","minus","times","less","same"]
def a4p(H:Hp)(p:Addr):Prop:=∃k v1 v2,H p=some (.tup [.str k,v1,v2])/\OpN v1/\OpN v2/\k∈c6C
def a4p.ts(h:a4p H p)(t:J2 H H'):a4p H' p:=by
 obtain⟨k,v1,v2,h,a,b,c⟩:=h;exact⟨k,v1,v2,t _ _ h,a,b,c⟩
inductive b1E(H:Hp):List V->Prop
 | set (n:Str) (p:Addr):NmS n->a4p H p->b1E H [.str "set",.str n,.ref p]
 | copy (n:Str) (v:V):NmS n->OpN v->b1E H [.str "copy",.str n,v]
 | take (n:Str):NmS n->b1E H [.str "take",.str n]
 | tell (v:V):OpN v->b1E H [.str "tell",v]
 | ask (v:V):OpN v->b1E H [.str "ask",v]
 | skip:b1E H [.str "skip"]
def b1E.ts(h:b1E H xs)(t:J2 H H'):b1E H' xs:=by
 cases h with
 |set n p a d=>exact .set n p a (d.ts t)
 |copy n v a o=>exact .copy n v a o
 |take n a=>exact .take n a
 |tell v o=>exact .tell v o
 |ask v o=>exact .ask v o
 |skip=>exact .skip
def b5u(H:Hp)(v:V)(ask:Bool):Prop:=∃p xs,v=.ref p/\H p=some (.tup xs)/\b1E H xs/\(∃k r,xs=.str k::r/\decide ((k:Str) = "ask")=ask)
def b5u.ts{a:Bool}(h:b5u H v a)(t:J2 H H'):b5u H' v a:=by
 obtain⟨p,xs,rfl,h,r,q⟩:=h;exact⟨p,xs,rfl,t _ _ h,r.ts t,q⟩
def c5Z{n:Int}(k:Q (.bl true) H) :
  K7 (a1D (tCB a9t (a9 (b4 0) (a9 (tC (.ty "int")) i8))) (b0S (tCB a9t (a9 (b4 0) (a9 (tC (.ty "bool")) i8))))) { nx:=λ_ H'=>Q .non H',rt:=Q } [some (.int n)] H:=by
 ext
 exists a3v (s:="int") rfl (by decide) ?_;exists C6 (by decide) ?_;exists a3v (s:="int") rfl (by decide) ?_;exact k
def b1s{K:Fg}{n:Int}(k:Q (.bl true) H):a2g K [.int n] H Q E:=⟨rfl,c5Z k⟩
def b7Q{K:Fg}{n:Int}(h0:0<=n)(h1:n<1000000000000)(k:Q (.bl true) H):a4R K [.int n] H Q E:=by
 refine⟨rfl,?_⟩;unfold a9O
 ext
 refine b1s ?_;exists ⟨_,rfl,b9G ?_⟩;exists C6 (d4E h0) ?_;show Q (.bl (decide (n<1000000000000))) H;rw[d4E h1];exact k
def b1u{K:Fg}{n:Int}(h0:0<=n)(h1:n<m)(k:Q (.bl true) H):a2h K [.int n,.int m] H Q E:=by
 refine⟨rfl,?_⟩;unfold a9P
 ext
 refine b1s ?_;exists ⟨_,rfl,b9G ?_⟩;exists C6 (d4E h0) ?_;show Q (.bl (decide (n<m))) H;rw[d4E h1];exact k
def a7Q{K:Fg}(h:NmS z)(k:∀H',j5 H H'->Q (.bl true) H'):Y7 K [.str z] H Q E:=by
 refine b3c (by have:=h.2;omega) λH' s=>?_
 rw[h.1];exact k H' s
def b9H{K:Fg}{n:Int}(k:Q (.bl false) H):Y7 K [.int n] H Q E:=by
 refine⟨rfl,?_⟩;unfold a6Y
 nofun
 exists a3v (s:="int") rfl (by decide) ?_;refine C6 (by decide) ?_;exists C6 rfl ?_;exact k
def a2Y{K:Fg}(h:OpN v)(k:∀H',j5 H H'->Q (.bl true) H'):a0f K [v] H Q E:=by
 refine⟨rfl,?_⟩;unfold a7u
 ext
 rcases h with ⟨s,rfl,hs⟩ | ⟨n,rfl,h0,h1⟩
 .refine a7Q hs λG s=>?_
  exact⟨_,rfl,b9G (k G s)⟩
 .refine b9H ?_;exists ⟨_,rfl,d0J ?_⟩;exact b7Q h0 h1 (k H (j5.refl _))
def c5X{k:Str}(h:k∈c6C):inV (.str k) [.str "plus",.str "minus",.str "times",.str "less",.str "same"]=true:=by
 simp only[c6C,t8,G8,or_false]at h;rcases h with rfl | rfl | rfl | rfl | rfl <;> decide +kernel
def b0v{K:Fg}{c:Cn}(ck:X6 K c)(h:a4p H p)(k:∀H',j5 H H'->Q (.bl true) H'):a0L K c [.ref p] H Q E:=by
 obtain⟨kd,v1,v2,hp,o1,o2,hk⟩:=h;refine⟨rfl,?_⟩;unfold a5v
 nofun
 exists a3v (s:="tuple") (by simp only[G9,hp]) (by decide) ?_;exists z4 (by decide) ?_;exists a5S hp ?_;exists z4 (by simp) ?_;exists P0 hp (a2r _ _) ?_;refine⟨_,_,rfl,ck.a8b H,rfl,rfl,?_⟩;exists ⟨_,rfl,C6 (c5X hk) ?_⟩;exists P0 hp (a7k _ _ _) ?_;refine a2Y o1 λG1 s1=>?_
 exists ⟨_,rfl,b9G ?_⟩;exists P0 (s1 _ _ hp) (b6g _ _ _ _) ?_;exact a2Y o2 λG2 s2=>k G2 (s1.trans s2)
def d0Q(a:V)(r:List V):a8U (a::r) (some 1) none=r:=by
 unfold a8U
 have e:HT.sIx (a::r).length 0 (some 1)=1:=by
  have:=HT.b7o (a::r).length 0 1;rw[show((1:Nat):Int)=1 from rfl]at this;rw[this,D4];omega
 rw[e];show List.take ((a::r).length - 1) r=r;rw[a0s (by simp)]
def b9u(a:V)(r:List V):¬(HT.sIx (a::r).length 0 (some 1)=0/\HT.sIx (a::r).length (a::r).length none=(a::r).length):=by
 intro h
 have e:HT.sIx (a::r).length 0 (some 1)=1:=by
  have:=HT.b7o (a::r).length 0 1;rw[show((1:Nat):Int)=1 from rfl]at this;rw[this,D4];omega
 omega
def c3K{K:Fg}{c:Cn}{a:Bool}(ck:X6 K c)(h:b5u H v a)(k:∀H',j5 H H'->Q (.bl true) H'):a9c K c [v] H Q E:=by
 obtain⟨p,xs,rfl,hp,hr,kd,r,rfl,_⟩:=h;refine⟨rfl,?_⟩;unfold b8J
 nofun
 exists a3v (s:="tuple") (by simp only[G9,hp]) (by decide) ?_;exists z4 (by decide) ?_;exists a5S hp ?_;exists z4 (d4D (by intro z;have:=V.int.inj z;rw[D4]at this;omega)) ?_
 nofun
 exists P0 hp (a2r _ _) ?_
 nofun
 refine c8T hp (b9u _ _) λq G hq e s=>?_
 rw[d0Q]at e
 ext
 have hr:=hr.ts (j5.ts s);cases hr with
 |set n d hn hd=>
  nofun
  exists C6 (by decide) ?_;exists a5S e ?_;exists C6 (by simp) ?_;exists P0 e (a2r _ _) ?_;refine a7Q hn λG1 s1=>?_
  exists ⟨_,rfl,b9G ?_⟩;exists P0 (s1 _ _ e) (a7k _ _ _) ?_;exact b0v ck (hd.ts (j5.ts s1)) λG2 s2=>k G2 ((s.trans s1).trans s2)
 |copy n v hn ho=>
  nofun
  exists z4 (by decide) ?_
  nofun
  exists C6 (by decide) ?_;exists a5S e ?_;exists C6 (by simp) ?_;exists P0 e (a2r _ _) ?_;refine a7Q hn λG1 s1=>?_
  exists ⟨_,rfl,b9G ?_⟩;exists P0 (s1 _ _ e) (a7k _ _ _) ?_;exact a2Y ho λG2 s2=>k G2 ((s.trans s1).trans s2)
 |take n hn=>
  nofun
  exists z4 (by decide) ?_
  nofun
  exists z4 (by decide) ?_
  nofun
  exists C6 (by decide) ?_;exists a5S e ?_;exists C6 (by simp) ?_;exists P0 e (a2r _ _) ?_;exact a7Q hn λG1 s1=>k G1 (s.trans s1)
 |tell v ho=>
  nofun
  exists z4 (by decide) ?_
  nofun
  exists z4 (by decide) ?_
  nofun
  exists z4 (by decide) ?_
  nofun
  refine E4 (by simp) λq2 G2 hq2 e2 s2=>?_
  exists b6y e2 rfl rfl ?_;exists C6 (by decide +kernel) ?_;exists a5S (s2 _ _ e) ?_;exists C6 (by simp) ?_;exists P0 (s2 _ _ e) (a2r _ _) ?_;exact a2Y ho λG1 s1=>k G1 ((s.trans s2).trans s1)
 |ask v ho=>
  nofun
  exists z4 (by decide) ?_
  nofun
  exists z4 (by decide) ?_
  nofun
  exists z4 (by decide) ?_
  nofun
  refine E4 (by simp) λq2 G2 hq2 e2 s2=>?_
  exists b6y e2 rfl rfl ?_;exists C6 (by decide +kernel) ?_;exists a5S (s2 _ _ e) ?_;exists C6 (by simp) ?_;exists P0 (s2 _ _ e) (a2r _ _) ?_;exact a2Y ho λG1 s1=>k G1 ((s.trans s2).trans s1)
 |skip=>
  nofun
  exists z4 (by decide) ?_
  nofun
  exists z4 (by decide) ?_
  nofun
  exists z4 (by decide) ?_
  nofun
  refine E4 (by simp) λq2 G2 hq2 e2 s2=>?_
  exists b6y e2 rfl rfl ?_;exists z4 (by decide +kernel) ?_;exists C6 (by decide) ?_;exists a5S (s2 _ _ e) ?_;have e0:decide (V.int ((([]:List V).length:Nat):Int)=V.int 0)=true:=by decide
  rw[e0];exact k G2 (s.trans s2)
def ix0{α:Type}(a b c d:α):ixN [a,b,c,d].length 0=some 0:=by
 show ixN 4 0=some 0;decide
def ix1{α:Type}(a b c d:α):ixN [a,b,c,d].length 1=some 1:=by
 show ixN 4 1=some 1;decide
def ix2{α:Type}(a b c d:α):ixN [a,b,c,d].length 2=some 2:=by
 show ixN 4 2=some 2;decide
structure b5y(H:Hp)(b:Addr)(i0 i1 i2:Int)(c:Addr)(ns:List Int):Prop where
 hb:H b=some (.lst [.int i0,.int i1,.int i2,.ref c])
 hc:H c=some (.lst (ns.map V.int))
 p0:0<=i0
 p1:0<=i1
 p1':i1<2147483647
 p2:0<=i2
 pn:∀x∈ns,0<=x
def b5y.bag{b:Addr}{i0 i1 i2:Int}{c:Addr}(h:b5y H b i0 i1 i2 c ns):Bag H b c:=⟨i0,i1,i2,ns,h.hb,h.hc,h.p0,h.p1,h.p1',h.p2,h.pn⟩
def Bag.parts{b c:Addr}(h:Bag H b c):∃i0 i1 i2 ns,b5y H b i0 i1 i2 c ns:=by
 obtain⟨i0,i1,i2,ns,h1,h2,h3,h4,h5,h6,h7⟩:=h.ex;exact⟨i0,i1,i2,ns,h1,h2,h3,h4,h5,h6,h7⟩
def b5y.ne{b:Addr}{i0 i1 i2:Int}{c:Addr}(h:b5y H b i0 i1 i2 c ns):c≠b:=O9 h.hc h.hb (by
  intro z;have z:=HO.lst.inj z;cases ns with
  |nil=>cases z
  |cons a r=>cases r with
   |nil=>cases z
   |cons a2 r=>cases r with
    |nil=>cases z
    |cons a3 r=>cases r with
     |nil=>cases z
     |cons a4 r=>simp at z)
def b5y.put{b:Addr}{i0 i1 i2 j0 j1 j2:Int}{c:Addr}(h:b5y H b i0 i1 i2 c ns)(q0:0<=j0)(q1:0<=j1)(q1':j1<2147483647)(q2:0<=j2) :
  b5y (upd H b (.lst [.int j0,.int j1,.int j2,.ref c])) b j0 j1 j2 c ns:=⟨c7,by rw[i9 h.ne];exact h.hc,q0,q1,q1',q2,h.pn⟩
def J3{K:Fg}{b c:Addr}{many:Int}(hB:Bag H b c)(h0:0<many)(h1:many<2 ^ 64)
  (k:∀n H',0<=n->n<many->Bag H' b c->D0 b H H'->Q (.int n) H'):E1 K [.ref b,.int many] H Q E:=by
 obtain⟨i0,i1,i2,ns,B⟩:=hB.parts;refine⟨rfl,?_⟩;unfold c4K;refine a4n (P:=λσ H1=>∃x2 x3 j0 j1 j2,σ=[some (.ref b),some (.int many),x2,x3,none,none,none]/\b5y H1 b j0 j1 j2 c ns/\D0 b H H1) ?_ ?_
 ·-- the second part
  rintro _ H1 ⟨x2,x3,j0,j1,j2,rfl,B1,k1⟩;refine a4n (P:=λσ H2=>H2=H1/\σ=[some (.ref b),some (.int many),x2,x3,none,none,none]) ?_ ?_
  .rintro _ _ ⟨rfl,rfl⟩;walk_at "go";refine M0 B1.hb (a7k _ _ _) ?_;walk_at "go";refine a7g (.inr (by omega)) ?_;walk_at "go";refine a7g (by omega) ?_;walk_at "go";have g1:=a2t (j1 * 39373) (show(1000000007:Int)≠0 by decide);have g2:=a1Y (j1 * 39373) (show(0:Int)<1000000007 by decide);refine a7g (.inr (by omega)) ?_;walk_at "go";refine a7g (by omega) ?_;walk_at "go";have g3:=a2t (j1 * 39373 % 1000000007 * 30011) (show(998244353:Int)≠0 by decide);have g4:=a1Y (j1 * 39373 % 1000000007 * 30011) (show(0:Int)<998244353 by decide);refine a0y (λ_=>?_) (λ_=>?_)
   .walk_at "go";refine a7g (.inr (by omega)) ?_;walk_at "go";refine a7g h0 ?_;exact k _ _ (a2t _ (by omega)) (a1Y _ h0) B1.bag k1
   .walk_at "go";refine a7g (by omega) ?_;walk_at "go";refine a7g h0 ?_;exact k _ _ (a2t _ (by omega)) (a1Y _ h0) B1.bag k1
  .intro nx hnx;walk_at "go";refine M0 B1.hb (a2r _ _) ?_;walk_at "go";refine a0y (λ_=>?_) (λ_=>?_)
   .walk_at "go";refine M0 B1.hb (a2r _ _) ?_;walk_at "go";refine a7g h0 ?_;walk_at "go";refine M0 B1.hb (a2r _ _) ?_;walk_at "go";refine a7g ⟨h0,h1⟩ ?_;walk_at "go";refine b9c B1.hb (ix0 _ _ _ _) ?_;walk_at "go";refine k _ _ (a2t _ (by omega)) (a1Y _ h0) (B1.put (Int.ediv_nonneg B1.p0 (by omega)) B1.p1 B1.p1' B1.p2).bag (k1.trans (D0.upd _ _ _))
   .walk_at "go";exact hnx _ _ ⟨rfl,rfl⟩
 .intro nx hnx;walk_at "go";refine M0 B.hb (a2r _ _) ?_;walk_at "go";refine a0y (λe=>?_) (λ_=>?_)
  .have e:i0=0:=by simpa using e
   subst e
   nofun
   exact_mod_cast a4n (P:=λσ H1=>∃m x3 j0 j2,σ=[some (.ref b),some (.int many),some (.int m),x3,none,none,none]/\b5y H1 b j0 i1 j2 c ns/\D0 b H H1/\0<=m) ?_ ?_
   .rintro _ H1 ⟨m,x3,j0,j2,rfl,B1,k1,hm⟩;walk_at "go";refine M0 B1.hb (a7k _ _ _) ?_;walk_at "go";refine a7g (.inr (by omega)) ?_;walk_at "go";refine a7g (by omega) ?_;walk_at "go";refine b9c B1.hb (ix1 _ _ _ _) ?_;have g1:=a2t (i1 * 48271+m) (show(2147483647:Int)≠0 by decide);have g2:=a1Y (i1 * 48271+m) (show(0:Int)<2147483647 by decide);exact hnx _ _ ⟨_,x3,j0,_,j2,rfl,B1.put B1.p0 g1 g2 B1.p2,k1.trans (D0.upd _ _ _)⟩
   .intro nx2 hnx2;walk_at "go";refine M0 B.hb (b6g _ _ _ _) ?_;walk_at "go";refine M0 B.hb (d2i _ _ _ _ _) ?_;walk_at "go";refine O3 B.hc ?_;walk_at "go";refine a0y (λe=>?_) (λ_=>?_)
    .have e:i2<(ns.length:Int):=by simpa using e
     obtain⟨v,ev,ev2⟩:=a2S (xs:=ns.map V.int) B.p2 (by simpa using e)
     obtain⟨z,ez,rfl⟩:∃z,ns[i2.toNat]?=some z/\v=V.int z:=by
      rw[b6]at ev2;cases q:ns[i2.toNat]? with
      |none=>rw[q]at ev2;cases ev2
      |some z=>rw[q]at ev2;exact⟨z,rfl,(Option.some.inj ev2).symm⟩
     have hz:0<=z:=B.pn z (mI ez);walk_at "go";refine M0 B.hb (d2i _ _ _ _ _) ?_;walk_at "go";refine M0 B.hb (b6g _ _ _ _) ?_;walk_at "go";refine M0 B.hc ev ?_;walk_at "go";exists d1I B.hb (by decide) rfl ?_;refine b9c B.hb (ix2 _ _ _ _) ?_;have B2:=B.put (j0:=0) (j1:=i1) (j2:=i2+1) (Int.le_refl _) B.p1 B.p1' (by have:=B.p2;omega);exact_mod_cast a4n (P:=λσ H1=>∃j0,σ=[some (.ref b),some (.int many),some (.int 12345),some (.int z),none,none,none]/\b5y H1 b j0 i1 (i2+1) c ns/\D0 b H H1) ?_ ?_
     .rintro _ H1 ⟨j0,rfl,B1,k1⟩;walk_at "go";refine a7g (by omega) ?_;walk_at "go";have g1:=a2t z (show(2147483647:Int)≠0 by decide);exact hnx2 _ _ ⟨_,_,j0,_,rfl,B1,k1,by omega⟩
     .intro nx3 hnx3;walk_at "go";refine a0y (λ_=>?_) (λ_=>?_)
      .walk_at "go";refine b9c B2.hb (ix0 _ _ _ _) ?_;refine hnx3 _ _ ⟨z,rfl,?_,(D0.upd _ _ _).trans (D0.upd _ _ _)⟩;exact B2.put hz B.p1 B.p1' (by have:=B.p2;omega)
      .walk_at "go";exact hnx3 _ _ ⟨0,rfl,B2,D0.upd _ _ _⟩
    .walk_at "go";exact hnx2 _ _ ⟨_,_,0,i2,rfl,B,D0.refl _ _,by decide⟩
  .walk_at "go";exact hnx _ _ ⟨_,_,i0,i1,i2,rfl,B,D0.refl _ _⟩
def d0T{K:Fg}(hS:SqL K H a (ns.map V.int))(hl:ns.length<=63)
  (k:∀b c H',Bag H' b c->j5 H H'->H b=none->Q (.ref b) H'):b7f K [.ref a] H Q E:=by
 refine⟨rfl,?_⟩;unfold c8N;walk_at "go";exact_mod_cast Y9 (V8 ?_);walk_at "go";refine⟨a,_,rfl,hS,λp hp=>⟨p,rfl,⟨_,SqL.of c7⟩,λD hD=>?_⟩⟩
 have hcut:a8U (ns.map V.int) none (some 63)=ns.map V.int:=by
  unfold a8U;have e:HT.sIx (ns.map V.int).length 0 none=0:=rfl
  have e2:HT.sIx (ns.map V.int).length (ns.map V.int).length (some 63)=ns.length:=by
   have:=HT.b7o (ns.map V.int).length (ns.map V.int).length 63;rw[b8]at this ⊢;rw[show((63:Nat):Int)=63 from rfl]at this;rw[this];omega
  rw[e,e2,d1j,Nat.sub_zero,a0s (by simp)]
 rw[hcut]at hD ⊢;have s1:j5 H (upd H p (.lst (ns.map V.int))):=A2 hp;refine X5 (xs:=ns.map V.int) (λi ys H2=>ys=(ns.take i).map (λx=>V.int (if x<0 then -x else x))/\H2=upd (upd H p (.lst (ns.map V.int))) D (.lst ys)) ⟨by simp,rfl⟩ ?_ ?_ ?_ ?_
 .rintro i ys _ ⟨_,rfl⟩;exact c7
 .rintro i ys _ _ ⟨_,rfl⟩;refine SqL.of ?_;rw[i9 (f6 c7 hD),c7]
 .rintro i x ys _ hx ⟨rfl,rfl⟩ R hR;rw[b6]at hx;cases e:ns[i]? with
  |none=>rw[e]at hx;cases hx
  |some z=>
   rw[e]at hx;cases hx
   ext
   refine hR _ _ c7 (L5 ?_) ⟨?_,?_⟩
   .rw[b8,F7];omega
   .rw[L3,e];simp
   .rw[b0J]
 .rintro ys _ ⟨rfl,rfl⟩
  ext
  refine E4 (by simp) λb H4 hb hb4 s4=>?_
  rw[b8,a0s (j8 _)]at hb s4;refine k b D _ ⟨0,1234567891,0,ns.map (λx=>if x<0 then -x else x),hb4,?_,by decide,by decide,by decide,by decide,?_⟩ ?_ ?_
  .rw[s4 D _ c7,R3];rfl
  .intro x hx;obtain⟨y,_,rfl⟩:=F5.mp hx;split <;> omega
  .exact(s1.trans (A2 hD)).trans s4
  .exact(s1.trans (A2 hD)).free hb
structure a6R(H:Hp)(a:Addr):Prop where
 ex:∃ss:List Str,H a=some (.lst (ss.map V.str))/\ss≠[]/\ss.length<=8/\∀s∈ss,NmS s
def a6R.kept{b c:Addr}(h:a6R H a)(hB:Bag H b c)(k:D0 b H H'):a6R H' a/\a≠b:=by
 obtain⟨ss,h1,h2,h3,h4⟩:=h.ex;obtain⟨i0,i1,i2,ns,hb,_⟩:=hB.ex
 have ne:a≠b:=O9 h1 hb (by
  intro z;have z:=HO.lst.inj z;cases ss with
  |nil=>exact h2 rfl
  |cons s r=>cases z)
 exact⟨⟨ss,k.1 a _ h1 ne,h2,h3,h4⟩,ne⟩
def c7c:∀c∈LET.cps.toList,sgn LET c=true:=by decide +kernel
def c7b:∀c∈SGN.cps.toList,sgn SGN c=true:=by decide +kernel
def c7T:∀c∈LET.cps.toList,sgn SGN c=true:=by decide +kernel
def c1x(cs:List Nat):Txt.join (Str.ofString "") (cs.map λk=>(⟨#[k]⟩:Str))=⟨cs.toArray⟩:=by
 show Builtin.Str.glued ("") _=_;rw[StrLaws.glued_eq_join];exact PyProof.Rows.join_ones cs
def d1W{ch:Nat}{cs:List Nat}(h1:ch∈LET.cps.toList)(h2:∀c∈cs,c∈SGN.cps.toList)(hl:cs.length<=7):NmS ((⟨#[ch]⟩:Str)++⟨cs.toArray⟩):=by
 have hlen:((⟨#[ch]⟩:Str)++⟨cs.toArray⟩).length=cs.length+1:=by
  rw[Str.length_append];show 1+cs.toArray.size=_;rw[u4];omega
 have hc:((⟨#[ch]⟩:Str)++⟨cs.toArray⟩).cps=(ch::cs).toArray:=by
  rw[Str.cps_append];show #[ch]++cs.toArray=_;simp
 refine⟨?_,by omega⟩;unfold a5Y;rw[hlen,hc];have e0:(ch::cs).toArray[0]?=some ch:=by simp
 rw[e0];simp only[a0w,decide_eq_true_eq,P5];refine⟨⟨⟨by omega,by omega⟩,c7c ch h1⟩,?_⟩;intro c hcc;have hcc:c∈ch::cs:=by simpa using hcc
 rcases t8.mp hcc with q | q
 .subst q;exact c7T _ h1
 .exact c7b c (h2 c q)
structure b1F(H:Hp)(a:Addr):Prop where
 ex:∃ps:List Addr,H a=some (.lst (ps.map V.ref))/\ps≠[]/\ps.length<=8/\∀p∈ps,a4p H p
def a1c{b c:Addr}(hB:Bag H b c)(h:H a=some (.lst (as.map V.ref))):a≠b:=by
 obtain⟨i0,i1,i2,ns,hb,_⟩:=hB.ex;refine O9 h hb ?_;intro z;have z:=HO.lst.inj z;cases as with
 |nil=>cases z
 |cons s r=>cases z
def b4k{b c:Addr}(hB:Bag H b c)(h:H a=some (.lst xs))(hl:xs.length<=3):a≠b:=by
 obtain⟨i0,i1,i2,ns,hb,_⟩:=hB.ex;refine O9 h hb ?_;intro z;have z:=HO.lst.inj z;rw[z]at hl;simp at hl
def b1F.kept{b c:Addr}(h:b1F H a)(hB:Bag H b c)(k:D0 b H H'):b1F H' a:=by
 obtain⟨ps,h1,h2,h3,h4⟩:=h.ex;exact⟨ps,k.1 a _ h1 (a1c hB h1),h2,h3,λp hp=>(h4 p hp).ts (D0.ts k hB)⟩
def b1F.same(h:b1F H a)(k:j5 H H'):b1F H' a:=by
 obtain⟨ps,h1,h2,h3,h4⟩:=h.ex;exact⟨ps,k a _ h1,h2,h3,λp hp=>(h4 p hp).ts (j5.ts k)⟩
structure N8(H:Hp)(a:Addr)(N:Nt):Prop where
 ex:∃as:List Addr,H a=some (.lst (as.map V.ref))/\as.length=N.length/\∀(i:Nat) x l,as[i]?=some x->N[i]?=some l->H x=some (.lst (IL l))
def N8.same(h:N8 H a N)(k:j5 H H'):N8 H' a N:=by
 obtain⟨as,h1,h2,h3⟩:=h.ex;exact⟨as,k a _ h1,h2,λi x l e1 e2=>k _ _ (h3 i x l e1 e2)⟩
def N8.kept{b c:Addr}(h:N8 H a N)(hB:Bag H b c)(hN:∀l∈N,l.length<=2)(k:D0 b H H'):N8 H' a N:=by
 obtain⟨as,h1,h2,h3⟩:=h.ex;refine⟨as,k.1 a _ h1 (a1c hB h1),h2,λi x l e1 e2=>?_⟩;have q:=h3 i x l e1 e2;refine k.1 _ _ q (b4k hB q ?_);rw[J9];have:=hN l (mI e2);omega
def N8.at(h:N8 H a N){k:Nat}(e:N[k]?=some l):∃(xs:List V) (x:Addr),H a=some (.lst xs)/\atI xs (k:Int)=some (.ref x)/\H x=some (.lst (IL l))/\xs.length=N.length:=by
 obtain⟨as,h1,h2,h3⟩:=h.ex;have hk:k<as.length:=by rw[h2];exact(gI e)
 have e1:as[k]?=some as[k]:=by simp
 refine⟨_,as[k],h1,?_,h3 k _ l e1 e,by rw[b8,h2]⟩;exact a1e (by rw[b6,e1];rfl)
def N8.len(h:N8 H a N):∃xs,H a=some (.lst xs)/\xs.length=N.length:=by
 obtain⟨as,h1,h2,h3⟩:=h.ex;exact⟨_,h1,by rw[b8,h2]⟩
def c0g(e:l[j]?=some t):atI (IL l) (j:Int)=some (.int (t:Int)):=a1e (by unfold IL;rw[b6,e];rfl)
def c2o{K:Fg}{b c:Addr}(hB:Bag H b c)(ha:H a=some (.lst xs))(na:a≠b)(h0:xs≠[])(hl:xs.length<=100)
  (k:∀(n:Int) v H',atI xs n=some v->v∈xs->H' a=some (.lst xs)->Bag H' b c->D0 b H H'->Q (.int n) H'):E1 K [.ref b,.int xs.length] H Q E:=by
 have hp:0<xs.length:=b1J.mpr h0;refine J3 hB (by omega) (by omega) λn H1 n0 n1 B1 k1=>?_
 obtain⟨v,hv,hv2⟩:=a2S (xs:=xs) n0 n1;exact k n v H1 hv (mI hv2) (k1.1 _ _ ha na) B1 k1
def c0F{α:Type}(l:List α):l=[]\/∃r a,l=r++[a]:=by
 cases h:l.reverse with
 |nil=>left;simpa using h
 |cons a r=>
  right;refine⟨r.reverse,a,?_⟩;have:=congrArg List.reverse h;simpa using this
structure b6i(H0 H:Hp)(b c D:Addr)(m:Nat)(as:List Addr)(N:Nt):Prop where
 bag:Bag H b c
 kept:D0 b H0 H
 hD:H D=some (.lst (as.map V.ref))
 nb:D≠b
 nc:D≠c
 len:as.length=N.length
 at_:∀(i:Nat) x l,as[i]?=some x->N[i]?=some l->H x=some (.lst (IL l))/\x≠D/\x≠b
 small:∀l∈N,l.length<=2/\∀t∈l,t<m
def b6i.next{b c D:Addr}{m:Nat}(h:b6i H0 H b c D m as N)(B:Bag H' b c)(k:D0 b H H'):b6i H0 H' b c D m as N:=
 ⟨B,h.kept.trans k,k.1 _ _ h.hD h.nb,h.nb,h.nc,h.len,λi x l e1 e2=>let⟨q1,q2,q3⟩:=h.at_ i x l e1 e2; ⟨k.1 _ _ q1 q3,q2,q3⟩,h.small⟩
structure b1D(H:Hp)(b D q:Addr)(m:Nat)(l:List Nat):Prop where
 h:H q=some (.lst (IL l))
 nD:q≠D
 nb:q≠b
 len:l.length<=2
 lt:∀t∈l,t<m
def b1D.next{b D q:Addr}{m:Nat}(h:b1D H b D q m l)(k:D0 b H H'):b1D H' b D q m l:=⟨k.1 _ _ h.h h.nb,h.nD,h.nb,h.len,h.lt⟩
def a0N{α:Type}{xs:List α}{x y:α}(h:(xs++[x])[i]?=some y):(i<xs.length/\xs[i]?=some y)\/(i=xs.length/\y=x):=by
 by_cases hi:i<xs.length
 .left;rw[o5 hi]at h;exact⟨hi,h⟩
 .right;rw[J1 (by omega)]at h
  have:i - xs.length=0:=by
   have:=(gI h);simp at this;omega
  rw[this]at h;simp at h;exact⟨by omega,h.symm⟩
def b9P{a b:Int}:decide (V.int a=V.int b)=decide (a=b):=by
 by_cases h:a=b
 .subst h;simp
 .rw[d4D h,d4D (λz=>h (V.int.inj z))]
def d0t{K:Fg}{b c:Addr}{m:Nat}(hB:Bag H b c)(m0:0<m)(m1:m<=24)
  (k:∀a N H',N8 H' a N->N.length=m->(∀l∈N,l.length<=2/\∀t∈l,t<m)->N[m - 1]?=some []->Bag H' b c->D0 b H H'->Q (.ref a) H'):b7e K [.ref b,.int (m:Int)] H Q E:=by
 refine⟨rfl,?_⟩;unfold c8M
 nofun
 exists E4 (by simp) λD H1 hD e1 s1=>?_
 obtain⟨nb,nc⟩:=hB.nb hD;have B1:=hB.same s1;exact_mod_cast L4 ?_;specialize a1S (a3K ?_);refine⟨m,rfl,by omega,by omega,?_⟩;rw[C9];refine a1K (λi σ H2=>∃x3 x4 x5 x6 as N,σ=[some (.ref b),some (.int (m:Int)),some (.ref D),x3,x4,x5,x6]/\b6i H H2 b c D m as N/\N.length=i/\(i=m->N[m - 1]?=some [])) ?_ ?_ ?_
 .exact⟨_,_,_,_,[],[],rfl,⟨B1,D0.of_same s1,e1,nb,nc,rfl,λi x l e=>by simp at e,λl h=>by simp at h⟩,rfl,λz=>by omega⟩
 .rintro i _ H2 hi ⟨x3,x4,x5,x6,as,N,rfl,I2,hlen,_⟩
  ext
  rw[a1X]
  nofun
  exists d1H ?_
  obtain⟨r,hr,hrm⟩:∃r:Nat,(if(m:Int) - 1<(i:Int)+1 then (m:Int) - 1 else (i:Int)+1)=(r:Int)/\r<m:=by
   by_cases h:(m:Int) - 1<(i:Int)+1
   .exact⟨m - 1,by rw[if_pos h];omega,by omega⟩
   .exact⟨i+1,by rw[if_neg h];omega,by omega⟩
  rw[hr]
  nofun
  refine J3 I2.bag (by omega) (by omega) λj H3 j0 j1 B3 k3=>?_
  obtain⟨j,rfl⟩:=a4r j0
  ext
  exists E4 (by simp) λq H4 hq e4 s4=>?_
  have I3:=I2.next B3 k3;have I4:=I3.next (B3.same s4) (D0.of_same s4)
  have S4:b1D H4 b D q m [r,j]:=⟨e4,(f6 I3.hD hq).symm,(B3.nb hq).1,by simp,λt ht=>by
   simp only[t8,G8,or_false]at ht;rcases ht with rfl | rfl
   .exact hrm
   .omega⟩
  nofun
  exists J3 I4.bag (by decide) (by decide) λw H5 w0 w1 B5 k5=>?_
  have I5:=I4.next B5 k5;have S5:=S4.next k5;exact_mod_cast a4n (P:=λσ H6=>∃q l,σ=[some (.ref b),some (.int (m:Int)),some (.ref D),some (.int (i:Int)),some (.int (r:Int)),some (.ref q),some (.int w)]/\b6i H H6 b c D m as N/\b1D H6 b D q m l/\l.length=2) ?_ ?_
  rotate_left
  .intro nx hnx
   ext
   refine a0y (λ_=>?_) (λ_=>?_)
   .ext
    exists M0 S5.h (a7k _ _ _) ?_;refine E4 (by simp) λq6 H6 hq6 e6 s6=>?_
    exact hnx _ _ ⟨q6,[j,r],rfl,I5.next (B5.same s6) (D0.of_same s6),⟨e6,(f6 I5.hD hq6).symm,(B5.nb hq6).1,by simp,λt ht=>by
     simp only[t8,G8,or_false]at ht;rcases ht with rfl | rfl
     .exact S5.lt _ (by simp)
     .exact S5.lt _ (by simp)⟩,rfl⟩
   .ext
    exact hnx _ _ ⟨q,[r,j],rfl,I5,S5,rfl⟩
  rintro _ H6 ⟨q,l,rfl,I6,S6,hl6⟩
  obtain⟨l0,l1,rfl⟩:∃l0 l1,l=[l0,l1]:=by
   match l,hl6 with
   |[a,b],_=>exact⟨a,b,rfl⟩
  exact_mod_cast a4n (P:=λσ H6=>∃q l,σ=[some (.ref b),some (.int (m:Int)),some (.ref D),some (.int (i:Int)),some (.int (r:Int)),some (.ref q),some (.int w)]/\b6i H H6 b c D m as N/\b1D H6 b D q m l/\l.length=2) ?_ ?_
  rotate_left
  .intro nx hnx
   ext
   refine a0y (λ_=>?_) (λ_=>?_)
   .ext
    exists M0 S6.h (a7k _ _ _) ?_;refine J3 I6.bag (by omega) (by omega) λj2 H7 z0 z1 B7 k7=>?_
    obtain⟨j2,rfl⟩:=a4r z0
    ext
    have I7:=I6.next B7 k7;refine E4 (by simp) λq8 H8 hq8 e8 s8=>?_
    exact hnx _ _ ⟨q8,[l1,j2],rfl,I7.next (B7.same s8) (D0.of_same s8),⟨e8,(f6 I7.hD hq8).symm,(B7.nb hq8).1,by simp,λt ht=>by
     simp only[t8,G8,or_false]at ht;rcases ht with rfl | rfl
     .exact S6.lt _ (by simp)
     .omega⟩,rfl⟩
   .ext
    exact hnx _ _ ⟨q,_,rfl,I6,S6,rfl⟩
  clear S6 I6 l0 l1 hl6 S5 I5 S4 I4 I3 B3 k3 B5 k5 s4 e4 hq;rintro _ H6 ⟨q,l,rfl,I6,S6,hl6⟩
  obtain⟨l0,l1,rfl⟩:∃l0 l1,l=[l0,l1]:=by
   match l,hl6 with
   |[a,b],_=>exact⟨a,b,rfl⟩
  exact_mod_cast a4n (P:=λσ H6=>∃q l,σ=[some (.ref b),some (.int (m:Int)),some (.ref D),some (.int (i:Int)),some (.int (r:Int)),some (.ref q),some (.int w)]/\b6i H H6 b c D m as N/\b1D H6 b D q m l/\(w=7->1<m->l.length=2)) ?_ ?_
  rotate_left
  .intro nx hnx
   have one:∀H7,H7=H6->((w=7/\1<m)->False)->New (.lst [V.int (r:Int)]) 1 H7 λv H1=>nx [some (.ref b),some (.int (m:Int)),some (.ref D),some (.int (i:Int)),some (.int (r:Int)),some v,some (.int w)] H1:=by
    rintro _ rfl hw;refine E4 (by simp) λq8 H8 hq8 e8 s8=>?_
    exact hnx _ _ ⟨q8,[r],rfl,I6.next (I6.bag.same s8) (D0.of_same s8),⟨e8,(f6 I6.hD hq8).symm,(I6.bag.nb hq8).1,by simp,λt ht=>by rw[l7.mp ht];exact hrm⟩,λh1 h2=>(hw ⟨h1,h2⟩).elim⟩
   ext
   refine a0y (λa3=>?_) (λa3=>?_)
   .ext
    refine a0y (λa7=>?_) (λa7=>?_)
    .exists C6 rfl ?_;exact one _ rfl λ⟨z,_⟩=>by have:=of_decide_eq_true a7;omega
    .ext
     refine a0y (λa1=>?_) (λa1=>?_)
     .ext
      rw[b9P]at a1;exact one _ rfl λ⟨_,z⟩=>by have:=of_decide_eq_true a1;omega
     .ext
      exact hnx _ _ ⟨q,_,rfl,I6,S6,λ_ _=>rfl⟩
   .ext
    exists z4 rfl ?_;refine a0y (λa1=>?_) (λa1=>?_)
    .ext
     rw[b9P]at a1;exact one _ rfl λ⟨_,z⟩=>by have:=of_decide_eq_true a1;omega
    .ext
     exact hnx _ _ ⟨q,_,rfl,I6,S6,λ_ _=>rfl⟩
  clear S6 I6 l0 l1 hl6;rintro _ H6 ⟨q,l,rfl,I6,S6,hl6⟩;exact_mod_cast a4n (P:=λσ H6=>∃q l,σ=[some (.ref b),some (.int (m:Int)),some (.ref D),some (.int (i:Int)),some (.int (r:Int)),some (.ref q),some (.int w)]/\b6i H H6 b c D m as N/\b1D H6 b D q m l) ?_ ?_
  rotate_left
  .intro nx hnx
   ext
   refine a0y (λa7=>?_) (λa7=>?_)
   .ext
    refine a0y (λa1=>?_) (λa1=>?_)
    .rw[b9P]at a7;have a7:=of_decide_eq_true a7;have a1:=of_decide_eq_true a1;have hl:=hl6 a7 (by omega)
     obtain⟨l0,l1,rfl⟩:∃l0 l1,l=[l0,l1]:=by
      match l,hl with
      |[a,b],_=>exact⟨a,b,rfl⟩
     ext
     exists M0 S6.h (a7k _ _ _) ?_;refine E4 (by simp) λq8 H8 hq8 e8 s8=>?_
     exact hnx _ _ ⟨q8,[l1],rfl,I6.next (I6.bag.same s8) (D0.of_same s8),⟨e8,(f6 I6.hD hq8).symm,(I6.bag.nb hq8).1,by simp,λt ht=>by rw[l7.mp ht];exact S6.lt _ (by simp)⟩⟩
    .ext
     exact hnx _ _ ⟨q,_,rfl,I6,S6⟩
   .exists z4 rfl ?_;exact hnx _ _ ⟨q,_,rfl,I6,S6⟩
  clear S6 I6 hl6 l;rintro _ H6 ⟨q,l,rfl,I6,S6⟩;exact_mod_cast a4n (P:=λσ H6=>∃q l,σ=[some (.ref b),some (.int (m:Int)),some (.ref D),some (.int (i:Int)),some (.int (r:Int)),some (.ref q),some (.int w)]/\b6i H H6 b c D m as N/\b1D H6 b D q m l/\(i+1=m->l=[])) ?_ ?_
  rotate_left
  .intro nx hnx
   have none:∀H7,b6i H H7 b c D m as N->New (.lst []) 0 H7 λv H1=>nx [some (.ref b),some (.int (m:Int)),some (.ref D),some (.int (i:Int)),some (.int (r:Int)),some v,some (.int w)] H1:=by
    intro H7 I7;refine E4 (by simp) λq8 H8 hq8 e8 s8=>?_
    exact hnx _ _ ⟨q8,[],rfl,I7.next (I7.bag.same s8) (D0.of_same s8),⟨e8,(f6 I7.hD hq8).symm,(I7.bag.nb hq8).1,by simp,λt ht=>by simp at ht⟩,λ_=>rfl⟩
   ext
   refine a0y (λa1=>?_) (λa1=>?_)
   .exists C6 rfl ?_;exact none _ I6
   .rw[b9P]at a1;have a1:¬((i:Int)=(m:Int) - 1):=λz=>a1 (d4E z)
    ext
    refine a0y (λa6=>?_) (λa6=>?_)
    .ext
     exists J3 I6.bag (by decide) (by decide) λz H7 z0 z1 B7 k7=>?_
     refine a0y (λa0=>?_) (λa0=>?_)
     .ext
      exact none _ (I6.next B7 k7)
     .ext
      exact hnx _ _ ⟨q,l,rfl,I6.next B7 k7,S6.next k7,λz=>by omega⟩
    .exists z4 rfl ?_;exact hnx _ _ ⟨q,l,rfl,I6,S6,λz=>by omega⟩
  clear S6 I6 l;rintro _ H6 ⟨q,l,rfl,I6,S6,hlast⟩
  ext
  specialize a9s ?_;exists ⟨a0E I6.hD,?_⟩;refine a1h I6.hD (L5 (by rw[b8,I6.len];omega)) ?_;have nqc:D≠c:=I6.nc;refine⟨_,_,_,_,as++[q],N++[l],rfl,⟨I6.bag.put I6.nb nqc,I6.kept.put hD,by rw[c7];simp,I6.nb,I6.nc,by simp[I6.len],?_,?_⟩,by simp[hlen],?_⟩
  .intro i' x' l' e1' e2';rcases a0N e1' with ⟨hi1,f1⟩ | ⟨hi1,f1⟩
   .rcases a0N e2' with ⟨hi2,f2⟩ | ⟨hi2,f2⟩
    .obtain⟨g1,g2,g3⟩:=I6.at_ i' x' l' f1 f2;exact⟨by rw[i9 g2];exact g1,g2,g3⟩
    .have:=I6.len;omega
   .rcases a0N e2' with ⟨hi2,f2⟩ | ⟨hi2,f2⟩
    .have:=I6.len;omega
    .subst f1 f2;exact⟨by rw[i9 S6.nD];exact S6.h,S6.nD,S6.nb⟩
  .intro l' hl';rcases v7.mp hl' with z | z
   .exact I6.small l' z
   .rw[l7.mp z];exact⟨S6.len,S6.lt⟩
  .intro z;rw[hlast z];have:m - 1=N.length:=by omega
   rw[this];simp
 .rintro _ H2 ⟨x3,x4,x5,x6,as,N,rfl,I2,hlen,hlast⟩
  ext
  exact k D N H2 ⟨as,I2.hD,I2.len,λi x l e1 e2=>(I2.at_ i x l e1 e2).1⟩ hlen I2.small (hlast rfl) I2.bag I2.kept
def d2h(xs:List V):a8U xs (some 1) none=xs.drop 1:=by
 cases xs with
 |nil=>rfl
 |cons a r=>rw[d0Q];rfl
def c8v(l:List Nat)(n:Nat):(IL l).drop n=IL (l.drop n):=by unfold IL;rw[List.map_drop]
def c1E(xs:List V):a2p xs []=decide (xs.length=0):=by
 unfold a2p;rw[show min xs.length ([]:List V).length=0 by simp];simp only[List.range_zero,d2E,a2u,a4f];by_cases h:xs.length=0
 .rw[h];rfl
 .rw[d4D h];simpa using h
def d0U(h:(l.map λt=>decide (t∈G)).any id=true):∃t∈l,t∈G:=by
 obtain⟨x,hx,e⟩:=c9r.mp h;obtain⟨t,ht,rfl⟩:=F5.mp hx;exact⟨t,ht,of_decide_eq_true e⟩
def c2w{α:Type}(l:List Nat)(f:Nat->α)(i:Nat)(e:l[i]?=some t):(l.take (i+1)).map f=(l.take i).map f++[f t]:=by
 rw[L3,e];simp
structure a8n(H0 H:Hp)(d:Addr)(N:Nt)(G:List Nat):Prop where
 same:j5 H0 H
 hd:H d=some (.dK (KS G))
 nd:G.Nodup
 lt:∀k∈G,k<N.length
 gd:∀k∈G,Gd N k
def a8n.next(h:a8n H0 H d N G)(s:j5 H H'):a8n H0 H' d N G:=⟨h.same.trans s,s _ _ h.hd,h.nd,h.lt,h.gd⟩
def a8n.put(h:a8n H0 H d N G)(n:H0 d=none){k:Nat}(hk:k<N.length)(g:Gd N k):a8n H0 (upd H d (.dK (KS (a3U G k)))) d N (a3U G k):=
 ⟨λb o e=>by rw[i9 (f6 e n)];exact h.same b o e,c7,a6u h.nd,λj hj=>(X4.mp hj).elim (h.lt j) λz=>z ▸ hk,λj hj=>(X4.mp hj).elim (h.gd j) λz=>z ▸ g⟩
def c8b{K:Fg}{x2 x4 x5 x6:Option V}(n0:H0 d=none)(hn:N8 H a N)(hN:N.length<=24)(hl:N[i]?=some l)(hl2:l.length<=2)(hG:a8n H0 H d N G)
  (k:∀H' G',a8n H0 H' d N G'->(∀j∈G,j∈G')->(l=[]->i∈G')->N8 H' a N->D.nx [some (.ref a),some (.ref d),x2,some (.int (i:Int)),x4,x5,x6] H') :
  M8 (tOr (D9 (tOp qEq (tOp qIx (b4 0) (b4 3)) (a0x (i8)))) (tB (tCB c3o (a9 (V6 (V7 K (tOp qIx (b4 0) (b4 3))) (Z2) (b6Z (b4 0) (b4 2))) (i8))))) (a3S (b4 1) (b4 3) (tC (.bl true))) (E2) D
   [some (.ref a),some (.ref d),x2,some (.int (i:Int)),x4,x5,x6] H:=by
 have hi:i<N.length:=(gI hl)
 have hGl:G.length<100000:=by
  have:=a4d _ _ hG.nd hG.lt;omega
 have put:∀H1,N8 H1 a N->a8n H0 H1 d N G->a≠d->(∀x,H1 x=some (.dK (KS G))->True)->Gd N i->a3S (b4 1) (b4 3) (tC (.bl true)) D [some (.ref a),some (.ref d),x2,some (.int (i:Int)),x4,x5,x6] H1:=by
  intro H1 n1 g1 nad _ gd;specialize a7C ?_;refine⟨d,_,rfl,a9j g1.hd hGl i,?_⟩;refine k _ (a3U G i) (g1.put n0 hi gd) (λj hj=>X4.mpr (.inl hj)) (λ_=>X4.mpr (.inr rfl)) ?_;obtain⟨as,q1,q2,q3⟩:=n1.ex;refine⟨as,by rw[i9 nad];exact q1,q2,λj x l' e1 e2=>?_⟩;have q:=q3 j x l' e1 e2;rw[i9 (O9 q g1.hd (by intro z;cases z))];exact q
 obtain⟨xs,x,h1,h2,h3,_⟩:=hn.at hl;have nad:a≠d:=O9 h1 hG.hd (by intro z;cases z)
 ext
 exists M0 h1 h2 ?_;refine E4 (by simp) λp H1 hp e1 s1=>?_
 refine⟨_,c8h (s1 _ _ h3) e1 (c2M l) rfl,?_⟩;rw[c1E,J9]
 ext
 by_cases hz:l=[]
 .refine C6 (d4E (by rw[hz];rfl)) ?_;refine C6 rfl ?_;exact put H1 (hn.same s1) (hG.next s1) nad (λ_ _=>trivial) (.stop (hz ▸ hl))
 exists z4 (d4D λz=>hz (c1T.mp z)) ?_;specialize Y9 (V8 ?_);refine M0 (s1 _ _ h1) h2 ?_;refine⟨x,rfl,⟨_,SqL.of (s1 _ _ h3)⟩,λE hE=>?_⟩;have G1:=hG.next s1;refine X5 (xs:=IL l) (λj ys H2=>ys=(l.take j).map (λt=>V.bl (decide (t∈G)))/\H2 E=some (.lst ys)/\j5 H1 H2) ⟨by simp,c7,A2 hE⟩ ?_ ?_ ?_ ?_
 .rintro j ys H2 ⟨_,h,_⟩;exact h
 .rintro j ys H2 _ ⟨_,_,s2⟩;exact SqL.of (s2 _ _ (s1 _ _ h3))
 .rintro j y ys H2 hy ⟨rfl,hE2,s2⟩ R hR;have hy:(l.map λ(n:Nat)=>V.int (n:Int))[j]?=some y:=hy;rw[b6]at hy;cases ht:l[j]? with
  |none=>rw[ht]at hy;cases hy
  |some t=>
   rw[ht]at hy;cases hy;have hj:=(gI ht);specialize c5f ?_;obtain⟨o,g1,g2⟩:=a4K (s2 _ _ G1.hd) t;refine⟨d,o,rfl,g1,?_⟩;rw[g2];refine hR _ _ hE2 (L5 ?_) ⟨?_,c7,λb o e=>?_⟩
   .rw[b8,F7];omega
   .rw[c2w l _ j ht]
   .rw[i9 (f6 e hE)];exact s2 b o e
 .rintro ys H2 ⟨rfl,hE2,s2⟩;rw[J9,M3]at hE2;have he:l.map (λt=>V.bl (decide (t∈G)))=(l.map λt=>decide (t∈G)).map V.bl:=by rw[R3];rfl
  rw[he]at hE2
  ext
  exists d1J hE2 ?_;refine a0y (λc=>?_) (λc=>?_)
  .obtain⟨t,t1,t2⟩:=d0U c;exact put H2 ((hn.same s1).same s2) (G1.next s2) nad (λ_ _=>trivial) (.step hl t1 (hG.gd t t2))
  .ext
   exact k H2 G (G1.next s2) (λj hj=>hj) (λz=>(hz z).elim) ((hn.same s1).same s2)
structure b8l(H0 H:Hp)(d:Addr)(N:Nt)(S:List Nat):Prop where
 same:j5 H0 H
 hd:H d=some (.dK (KS S))
 nd:S.Nodup
 lt:∀k∈S,k<N.length
 rc:∀k∈S,Rc N k
 zero:0∈S
def b8l.put(h:b8l H0 H d N S)(n:H0 d=none){k:Nat}(hk:k<N.length)(g:Rc N k):b8l H0 (upd H d (.dK (KS (a3U S k)))) d N (a3U S k):=
 ⟨λb o e=>by rw[i9 (f6 e n)];exact h.same b o e,c7,a6u h.nd,λj hj=>(X4.mp hj).elim (h.lt j) λz=>z ▸ hk,λj hj=>(X4.mp hj).elim (h.rc j) λz=>z ▸ g,X4.mpr (.inl h.zero)⟩
def b0z(N:Nt)(S:List Nat):Prop:=∀k∈S,∀l,N[k]?=some l->∀t∈l,t∈S
def c7r{k:Nat}(h:k∈S):a3U S k=S:=by unfold a3U;rw[if_pos h]
def N8.dput{ks:List (Key×V)}(h:N8 H a N)(hd:H d=some (.dK ks)):N8 (upd H d o) a N:=by
 obtain⟨as,q1,q2,q3⟩:=h.ex
 exact⟨as,by rw[i9 (O9 q1 hd (by intro z;cases z))];exact q1,q2,λj x l e1 e2=>by
  have q:=q3 j x l e1 e2;rw[i9 (O9 q hd (by intro z;cases z))];exact q⟩
def c5i{K:Fg}{x1 x2 x5 x6:Option V}(n0:H0 d=none)(hn:N8 H a N)(hN:N.length<=24)(hl:N[i]?=some l)(hlt:∀t∈l,t<N.length)(hS:b8l H0 H d N S)
  (k:∀H' S' x5,b8l H0 H' d N S'->(∀j∈S,j∈S')->(i∈S->∀t∈l,t∈S')->(b0z N S->S'=S)->N8 H' a N->D.nx [some (.ref a),x1,x2,some (.int (i:Int)),some (.ref d),x5,x6] H') :
  M8 (tB (b6Z (b4 3) (b4 4))) (a4s (V7 K (tOp qIx (b4 0) (b4 3))) (z8 5) (a3S (b4 4) (b4 5) (tC (.bl true)))) (E2) D [some (.ref a),x1,x2,some (.int (i:Int)),some (.ref d),x5,x6] H:=by
 ext
 specialize c5f ?_;obtain⟨o,g1,g2⟩:=a4K hS.hd i;refine⟨d,o,rfl,g1,?_⟩;rw[g2]
 ext
 refine a0y (λc=>?_) (λc=>?_)
 .have hi:i∈S:=of_decide_eq_true c;obtain⟨xs,x,h1,h2,h3,_⟩:=hn.at hl;specialize a1S (V8 ?_);refine M0 h1 h2 ?_;refine⟨x,rfl,⟨_,SqL.of h3⟩,a6a (xs:=IL l) (λj σ H2=>∃S' x5,σ=[some (.ref a),x1,x2,some (.int (i:Int)),some (.ref d),x5,x6]/\b8l H0 H2 d N S'/\(∀j∈S,j∈S')/\(∀t∈l.take j,t∈S')/\(b0z N S->S'=S)/\N8 H2 a N/\H2 x=some (.lst (IL l))) ?_ ?_ ?_ ?_⟩
  .exact⟨S,x5,rfl,hS,λ_ h=>h,by simp,λ_=>rfl,hn,h3⟩
  .rintro j σ H2 _ ⟨_,_,_,_,_,_,_,_,h⟩;exact SqL.of h
  .rintro j y _ H2 hy ⟨S',x5,rfl,I2,i1,i2,i3,n2,hx2⟩;have hy:(l.map λ(n:Nat)=>V.int (n:Int))[j]?=some y:=hy;rw[b6]at hy;cases ht:l[j]? with
   |none=>rw[ht]at hy;cases hy
   |some t=>
    rw[ht]at hy;cases hy;have tm:=mI ht
    ext
    specialize a7C ?_;refine⟨d,_,rfl,a9j I2.hd (by have:=a4d _ _ I2.nd I2.lt;omega) t,?_⟩;refine⟨a3U S' t,_,rfl,I2.put n0 (hlt t tm) (.step (hS.rc i hi) hl tm),λj hj=>X4.mpr (.inl (i1 j hj)),λz hz=>?_,λhc=>?_,n2.dput I2.hd,?_⟩
    .rw[L3,ht]at hz;rcases v7.mp hz with q | q
     .exact X4.mpr (.inl (i2 z q))
     .exact X4.mpr (.inr (by simpa using q))
    .rw[i3 hc];exact c7r (hc i hi l hl t tm)
    .rw[i9 (O9 hx2 I2.hd (by intro z;cases z))];exact hx2
  .rintro _ H2 ⟨S',x5,rfl,I2,i1,i2,i3,n2,hx2⟩;refine k H2 S' x5 I2 i1 (λ_ t ht=>i2 t ?_) i3 n2;rw[J9,M3];exact ht
 .ext
  exact k H S x5 hS (λ_ h=>h) (λh=>(c (d4E h)).elim) (λ_=>rfl) hn
def b9y{ms:List Int}(h:ms.Perm (S.map λ(n:Nat)=>(n:Int))):∃O:List Nat,O.Perm S/\ms=O.map λ(n:Nat)=>(n:Int):=by
 refine⟨ms.map c2N,?_,?_⟩
 .have:=h.map c2N;rw[R3]at this;have e:(c2N ∘ λ(n:Nat)=>(n:Int))=id:=by funext n;simp
  rw[e,List.map_id]at this;exact this
 .rw[R3]
  have:∀x∈ms,((λ(n:Nat)=>(n:Int)) ∘ c2N) x=id x:=by
   intro x hx;obtain⟨n,_,rfl⟩:=F5.mp (h.subset hx);simp
  rw[a3z this,List.map_id]
def c0E(h:(O.map λ(n:Nat)=>(n:Int)).Pairwise (· <= ·)):O.Pairwise (· <= ·):=by
 rw[List.pairwise_map]at h;exact h.imp λq=>by omega
def c6b(O:List Nat)(t:Nat):(O.map λ(n:Nat)=>(n:Int)).idxOf (t:Int)=O.idxOf t:=by
 induction O with
 |nil=>rfl
 |cons a r ih=>
  rw[J7,d1e,d1e];by_cases e:a=t
  .subst e;simp
  .have:((a:Int) == (t:Int))=false:=by simp;omega
   have e2:(a == t)=false:=by simpa using e
   rw[this,e2,ih]
def P7(h:i<N.length):N[i]?=some N[i]:=by simp
def c3E{K:Fg}(hn:N8 H a N)(hp:0<N.length)(hN:N.length<=24)(hs:∀l∈N,l.length<=2/\∀t∈l,t<N.length)(hl:N[N.length - 1]?=some [])
  (k:∀a' N' H',N8 H' a' N'->a0i N'->N'.length<=24->j5 H H'->Q (.ref a') H'):a9b K [.ref a] H Q E:=by
 refine⟨rfl,?_⟩;unfold b8I
 nofun
 exists b4u λd H1 hd e1 s1=>?_
 have n1:=hn.same s1;obtain⟨xs0,hx0,lx0⟩:=hn.len;exact_mod_cast a4n (P:=λσ H2=>∃x2 x3 G,σ=[some (.ref a),some (.ref d),x2,x3,none,none,none]/\a8n H H2 d N G/\N.length - 1∈G/\N8 H2 a N) ?_ ?_
 rotate_left
 .intro nx hnx;specialize a1S (a3K ?_);refine O3 (s1 _ _ hx0) ?_;refine⟨N.length,by rw[lx0],by omega,by omega,?_⟩;rw[C9];refine a1K (λi σ H2=>∃x2 x3 G,σ=[some (.ref a),some (.ref d),x2,x3,none,none,none]/\a8n H H2 d N G/\(0<i->N.length - 1∈G)/\N8 H2 a N) ?_ ?_ ?_
  .exact⟨_,_,[],rfl,⟨s1,e1,by simp,by simp,by simp⟩,by omega,n1⟩
  .rintro i _ H2 hi ⟨x2,x3,G,rfl,I2,g2,n2⟩
   ext
   obtain⟨xs2,hx2,lx2⟩:=n2.len;specialize a1S (a3K ?_);refine O3 hx2 ?_;refine⟨N.length,by rw[lx2],by omega,by omega,?_⟩;rw[C9];refine a1K (λj σ H3=>∃x3 G,σ=[some (.ref a),some (.ref d),some (.int (0+(i:Int))),x3,none,none,none]/\a8n H H3 d N G/\(j=N.length->N.length - 1∈G)/\N8 H3 a N) ?_ ?_ ?_
   .exact⟨_,G,rfl,I2,by omega,n2⟩
   .rintro j _ H3 hj ⟨x3,G3,rfl,I3,g3,n3⟩;exact_mod_cast b1b ?_;rw[a1X (j:Int)];refine c8b hd n3 hN (P7 hj) (hs _ (M9 _)).1 I3 λH4 G4 I4 sub4 h4 n4=>?_
    refine⟨_,G4,rfl,I4,λz=>?_,n4⟩;have e:N.length - 1=j:=by omega
    rw[e]at hl ⊢;refine h4 ?_;rw[P7 hj]at hl;exact Option.some.inj hl
   .rintro _ H3 ⟨x3,G3,rfl,I3,g3,n3⟩;exact⟨_,_,G3,rfl,I3,λ_=>g3 rfl,n3⟩
  .rintro _ H2 ⟨x2,x3,G,rfl,I2,g2,n2⟩;exact hnx _ _ ⟨x2,x3,G,rfl,I2,g2 hp,n2⟩
 rintro _ H2 ⟨x2,x3,G,rfl,I2,hlast,n2⟩
 nofun
 exact_mod_cast Y9 (a3K ?_);obtain⟨xs2,hx2,lx2⟩:=n2.len
 ext
 refine O3 hx2 ?_;refine⟨N.length,by rw[lx2],by omega,by omega,λA hA=>?_⟩;rw[C9];refine b1w (λi ys H3=>∃as:List Addr,ys=as.map V.ref/\as.length=i/\(∀(j:Nat) x l,as[j]?=some x->(a6v N G)[j]?=some l->H3 x=some (.lst (IL l))/\x≠A)/\H3 A=some (.lst ys)/\j5 H2 H3) ?_ ?_ ?_ ?_
 .exact⟨[],rfl,rfl,by simp,c7,A2 hA⟩
 .rintro i ys H3 ⟨_,_,_,_,h,_⟩;exact h
 .rintro i ys H3 hi ⟨as,rfl,la,at3,hA3,s3⟩ R hR;rw[a1X];obtain⟨ys0,x,f1,f2,f3,f4⟩:=(n2.same s3).at (P7 hi)
  have more:∀q H4,j5 H3 H4->(∀l,(a6v N G)[i]?=some l->H4 q=some (.lst (IL l)))->q≠A->R (.ref q) H4:=by
   intro q H4 s4 hq nq;refine hR _ _ (s4 _ _ hA3) (L5 (by rw[b8];omega)) ⟨as++[q],by simp,by simp[la],?_,c7,λb o e=>?_⟩
   .intro j y l' h1 h2;rcases a0N h1 with ⟨_,g1⟩ | ⟨hj,g1⟩
    .obtain⟨g2,g3⟩:=at3 j y l' g1 h2;exact⟨by rw[i9 g3];exact s4 _ _ g2,g3⟩
    .rw[hj,la]at h2;subst g1;exact⟨by rw[i9 nq];exact hq l' h2,nq⟩
   .rw[i9 (f6 e hA)];exact s4 _ _ (s3 _ _ e)
  ext
  specialize c5f ?_;obtain⟨o,g1,g2⟩:=a4K (s3 _ _ I2.hd) i;refine⟨d,o,rfl,g1,?_⟩;rw[g2]
  ext
  refine a0y (λc=>?_) (λc=>?_)
  .ext
   refine M0 f1 f2 ?_;refine more x H3 (j5.refl _) (λl hl'=>?_) ?_
   .rw[b1p (P7 hi) (of_decide_eq_true c)]at hl';cases hl';exact f3
   .refine(f6 (H:=H2) (a:=x) (b:=A) (o:=.lst (IL N[i])) ?_ hA);obtain⟨ys1,x',f1',f2',f3',_⟩:=n2.at (P7 hi);have e1:=s3 _ _ f1';rw[f1]at e1;cases e1;rw[f2]at f2';cases f2';exact f3'
  .ext
   exists O3 f1 ?_;exists E4 (by simp) λp1 H4 hp1 e4 s4=>?_
   exists M0 (s4 _ _ f1) f2 ?_;refine c8U (s4 _ _ f3) λp2 H5 hp2 e5 s5=>?_
   rw[d2h,c8v]at e5;have hl2:=(hs _ (M9 (l:=N) (h:=hi))).1;refine c9Q (s5 _ _ e4) e5 (E4 (by simp[J9];omega) λp3 H6 hp3 e6 s6=>?_);refine more p3 H6 ((s4.trans s5).trans s6) (λl hl'=>?_) ?_
   .rw[b6E (P7 hi) (λz=>c (d4E z))]at hl';cases hl';rw[e6,f4];have:((N.length:Int) - 1)=((N.length - 1:Nat):Int):=by omega
    rw[this];rfl
   .exact(f6 ((s4.trans s5) _ _ hA3) hp3).symm
 rintro ys H3 ⟨as,rfl,la,at3,hA3,s3⟩;obtain⟨N2,hN2⟩:∃N2,N2=a6v N G:=⟨_,rfl⟩;have len2:N2.length=N.length:=by rw[hN2,b6F]
 have n3:N8 H3 A N2:=⟨as,hA3,by rw[len2,la],λi x l h1 h2=>(at3 i x l h1 (hN2 ▸ h2)).1⟩
 have small2:∀l∈N2,l.length<=2/\∀t∈l,t<N2.length:=by
  rw[len2,hN2];exact b9B hp hs hl hlast
 have gd2:∀k,k<N2.length->Gd N2 k:=by
  rw[len2,hN2];exact c8e I2.gd hl hlast
 have s03:j5 H H3:=I2.same.trans s3;clear at3 hN2 la
 ext
 nofun
 intro r hr;refine⟨c7,[(Sum.inl 0,V.bl true)],rfl,by simp,?_⟩
 have e4:(upd (upd H3 r (.dK [])) r (.dK (a8O [] [(Sum.inl 0,V.bl true)])))=upd H3 r (.dK (KS [0])):=by
  rw[b0J];rfl
 rw[e4]
 ext
 obtain⟨H4,hH4⟩:∃H4,H4=upd H3 r (.dK (KS [0])):=⟨_,rfl⟩;rw[<-hH4];have s4:j5 H3 H4:=hH4 ▸ A2 hr;have er:H4 r=some (.dK (KS [0])):=hH4 ▸ c7;have n4:=n3.same s4;clear hH4 e4;have hp2:0<N2.length:=by omega
 exact_mod_cast a4n (P:=λσ H5=>∃x2 x3 x5 S,σ=[some (.ref A),some (.ref d),x2,x3,some (.ref r),x5,none]/\b8l H3 H5 r N2 S/\b0z N2 S/\N8 H5 A N2) ?_ ?_
 rotate_left
 .intro nx hnx;obtain⟨ys4,hy4,ly4⟩:=n4.len;specialize a1S (a3K ?_);refine O3 hy4 ?_;refine⟨N2.length,by rw[ly4],by omega,by omega,?_⟩;rw[C9];refine a1K (λi σ H5=>∃x2 x3 x5 S,σ=[some (.ref A),some (.ref d),x2,x3,some (.ref r),x5,none]/\b8l H3 H5 r N2 S/\(b0z N2 S\/i+1<=S.length)/\N8 H5 A N2) ?_ ?_ ?_
  .exact⟨_,_,_,[0],rfl,⟨s4,er,by simp,by simpa using hp2,by simpa using Rc.zero,by simp⟩,.inr (by simp),n4⟩
  .rintro i _ H5 hi ⟨x2,x3,x5,S,rfl,I5,g5,n5⟩
   ext
   obtain⟨ys5,hy5,ly5⟩:=n5.len;specialize a1S (a3K ?_);refine O3 hy5 ?_;refine⟨N2.length,by rw[ly5],by omega,by omega,?_⟩;rw[C9];refine a1K (λj σ H6=>∃x3 x5 S',σ=[some (.ref A),some (.ref d),some (.int (0+(i:Int))),x3,some (.ref r),x5,none]/\b8l H3 H6 r N2 S'/\(∀k∈S,k∈S')/\(∀k∈S,k<j->∀l,N2[k]?=some l->∀t∈l,t∈S')/\(b0z N2 S->S'=S)/\N8 H6 A N2) ?_ ?_ ?_
   .exact⟨_,_,S,rfl,I5,λ_ h=>h,by omega,λ_=>rfl,n5⟩
   .rintro j _ H6 hj ⟨x3,x5,S',rfl,I6,b1,b2,b3,n6⟩;exact_mod_cast b1b ?_;rw[a1X (j:Int)];refine c5i hr n6 (by omega) (P7 hj) (small2 _ (M9 _)).2 I6 λH7 S7 x5 I7 c1 c2 c3 n7=>?_
    refine⟨_,x5,S7,rfl,I7,λk hk=>c1 k (b1 k hk),λk hk hkj l hl' t ht=>?_,λhc=>?_,n7⟩
    .by_cases e:k=j
     .subst e;rw[P7 hj]at hl';cases hl';exact c2 (b1 k hk) t ht
     .exact c1 t (b2 k hk (by omega) l hl' t ht)
    .have:=b3 hc;rw[this]at c3;exact c3 hc
   .rintro _ H6 ⟨x3,x5,S',rfl,I6,b1,b2,b3,n6⟩;refine⟨_,x3,x5,S',rfl,I6,?_,n6⟩;rcases g5 with hc | hc
    .exact .inl (by rw[b3 hc];exact hc)
    .by_cases hcl:b0z N2 S
     .exact .inl (by rw[b3 hcl];exact hcl)
     .right
      obtain⟨t,t1,t2⟩:∃t,t∈S'/\¬t∈S:=by
       refine Classical.byContradiction λhno=>hcl λk hk l hl' t ht=>?_
       refine Classical.byContradiction λhts=>hno ⟨t,b2 k hk (I5.lt k hk) l hl' t ht,hts⟩
      have:(t::S).length<=S'.length:=by
       have nd:(t::S).Nodup:=a0X.mpr ⟨t2,I5.nd⟩;have sub:∀k∈t::S,k∈S':=λk hk=>(t8.mp hk).elim (λz=>z ▸ t1) (b1 k)
       exact c5L _ _ nd sub
      rw[D4]at this;omega
  .rintro _ H5 ⟨x2,x3,x5,S,rfl,I5,g5,n5⟩;refine hnx _ _ ⟨x2,x3,x5,S,rfl,I5,g5.elim id λh=>?_,n5⟩;have:=a4d _ _ I5.nd I5.lt;omega
 rintro _ H5 ⟨y2,y3,y5,S,rfl,I5,hcl,n5⟩;have hSl:=a4d _ _ I5.nd I5.lt
 nofun
 have ek:(KS S).map (λkv=>kV kv.1)=(S.map λ(n:Nat)=>(n:Int)).map V.int:=by
  unfold KS;rw[R3,R3];rfl
 have ld:a4y [.ref r] H5=λQ=>∀l,H5 l=none->Q (.ref l) (upd H5 l (.lst ((KS S).map λkv=>kV kv.1))):=by
  unfold a4y;simp only[I5.hd]
 rw[ld];intro p6 hp6;rw[ek];obtain⟨H6,hH6⟩:∃H6,H6=upd H5 p6 (.lst ((S.map λ(n:Nat)=>(n:Int)).map V.int)):=⟨_,rfl⟩;rw[<-hH6];have s6:j5 H5 H6:=hH6 ▸ A2 hp6;have e6:H6 p6=some (.lst ((S.map λ(n:Nat)=>(n:Int)).map V.int)):=hH6 ▸ c7;clear hH6 ld
 ext
 have so:b1f [.ref p6] H6=λQ=>∃ns,a5h ((S.map λ(n:Nat)=>(n:Int)).map V.int)=some ns/\ns.length<64/\∀(p:Addr) (ms:List Int),ms.Perm ns->ms.Pairwise (· <= ·)->H6 p=none->Q (.ref p) (upd H6 p (.lst (ms.map V.int))):=by
  unfold b1f;simp only[e6]
 rw[so];refine⟨_,b5a _,by rw[b8];omega,λp7 ms hperm hsort hp7=>?_⟩;obtain⟨O,hO,rfl⟩:=b9y hperm;have hsO:=c0E hsort;have ndO:O.Nodup:=hO.nodup_iff.mpr I5.nd;have memO:∀k,k∈O↔k∈S:=λk=>hO.mem_iff
 obtain⟨H7,hH7⟩:∃H7,H7=upd H6 p7 (.lst ((O.map λ(n:Nat)=>(n:Int)).map V.int)):=⟨_,rfl⟩;rw[<-hH7];have s7:j5 H6 H7:=hH7 ▸ A2 hp7;have e7:H7 p7=some (.lst ((O.map λ(n:Nat)=>(n:Int)).map V.int)):=hH7 ▸ c7;clear hH7 so;have hOl:O.length<=24:=by rw[hO.length_eq];omega
 ext
 have n7:=(n5.same s6).same s7;have s07:j5 H H7:=((s03.trans I5.same).trans s6).trans s7
 have valid:a0i (a9V N2 O):=c2V ((memO 0).mpr I5.zero) hsO ndO (λk hk=>I5.lt k ((memO k).mp hk)) (by omega) (λk hk l hl' t ht=>(memO t).mpr (hcl k ((memO k).mp hk) l hl' t ht)) (λk hk=>I5.rc k ((memO k).mp hk))
  (λl hl'=>(small2 l hl').1) gd2
 specialize Y9 (V8 ?_);refine⟨p7,rfl,⟨_,SqL.of e7⟩,λB hB=>?_⟩;refine X5 (xs:=(O.map λ(n:Nat)=>(n:Int)).map V.int) (λi ys H8=>∃bs:List Addr,ys=bs.map V.ref/\bs.length=i/\(∀(j:Nat) x l,bs[j]?=some x->(a9V N2 O)[j]?=some l->H8 x=some (.lst (IL l))/\x≠B)/\H8 B=some (.lst ys)/\j5 H7 H8) ?_ ?_ ?_ ?_ ?_
 .exact⟨[],rfl,rfl,by simp,c7,A2 hB⟩
 .rintro i ys H8 ⟨_,_,_,_,h,_⟩;exact h
 .rintro i ys H8 _ ⟨_,_,_,_,_,s8⟩;exact SqL.of (s8 _ _ e7)
 .rintro i x ys H8 hx ⟨bs,rfl,lb,at8,hB8,s8⟩ R hR;rw[b6,b6]at hx;cases ho:O[i]? with
  |none=>rw[ho]at hx;cases hx
  |some kk=>
   rw[ho]at hx;cases hx;have hko:=mI ho;have hks:=(memO kk).mp hko;have hkl:=I5.lt kk hks;obtain⟨ys8,x8,f1,f2,f3,_⟩:=(n7.same s8).at (P7 hkl);obtain⟨l8,hl8⟩:∃l8,l8=N2[kk]:=⟨_,rfl⟩;rw[<-hl8]at f3;have hN8:N2[kk]?=some l8:=by rw[hl8];exact P7 hkl
   specialize Y9 (V8 ?_);refine M0 f1 f2 ?_;refine⟨x8,rfl,⟨_,SqL.of f3⟩,λC hC=>?_⟩;refine X5 (xs:=IL l8) (λj zs H9=>zs=IL ((l8.take j).map λt=>O.idxOf t)/\H9 C=some (.lst zs)/\j5 H8 H9) ⟨rfl,c7,A2 hC⟩ ?_ ?_ ?_ ?_
   .rintro j zs H9 ⟨_,h,_⟩;exact h
   .rintro j zs H9 _ ⟨_,_,s9⟩;exact SqL.of (s9 _ _ f3)
   .rintro j y zs H9 hy ⟨rfl,hC9,s9⟩ R' hR';have hy:(l8.map λ(n:Nat)=>V.int (n:Int))[j]?=some y:=hy;rw[b6]at hy;cases ht:l8[j]? with
    |none=>rw[ht]at hy;cases hy
    |some t=>
     rw[ht]at hy;cases hy;have htO:t∈O:=(memO t).mpr (hcl kk hks l8 hN8 t (mI ht));specialize a9s ?_;have e9:H9 p7=_:=s9 _ _ (s8 _ _ e7);exists ⟨a0E e9,?_⟩
     have ix:b4w (.ref p7) [.int (t:Int)] H9=λQ=>∃ns,a5h ((O.map λ(n:Nat)=>(n:Int)).map V.int)=some ns/\ns.length<10000/\(t:Int)∈ns/\Q (.int (ns.idxOf (t:Int):Nat)) H9:=by
      unfold b4w;simp only[e9]
     rw[ix];refine⟨_,b5a _,by rw[b8];omega,F5.mpr ⟨t,htO,rfl⟩,?_⟩;rw[c6b];have hl2:=(small2 l8 (mI hN8)).1;refine hR' _ _ hC9 (L5 ?_) ⟨?_,c7,λb o e=>?_⟩
     .rw[J9,b8,F7];omega
     .unfold IL;rw[c2w l8 (λt=>O.idxOf t) j ht];simp
     .rw[i9 (f6 e hC)];exact s9 _ _ e
   .rintro zs H9 ⟨rfl,hC9,s9⟩;rw[J9,M3]at hC9;refine hR _ _ (s9 _ _ hB8) (L5 (by rw[b8];have:=(gI ho);omega)) ⟨bs++[C],by simp,by simp[lb],?_,c7,λb o e=>?_⟩
    .have nCB:C≠B:=(f6 hB8 hC).symm;intro j y l' h1 h2;rcases a0N h1 with ⟨_,g1⟩ | ⟨hj,g1⟩
     .obtain⟨g2,g3⟩:=at8 j y l' g1 h2;exact⟨by rw[i9 g3];exact s9 _ _ g2,g3⟩
     .rw[hj,lb]at h2;subst g1;refine⟨?_,nCB⟩;rw[i9 nCB,hC9]
      have h2':(a9V N2 O)[i]?=some (l8.map λt=>O.idxOf t):=by
       unfold a9V;rw[b6,ho];simp[Q2,hN8]
      rw[h2']at h2;cases h2;rfl
    .rw[i9 (f6 e hB)];exact s9 _ _ (s8 _ _ e)
 .rintro ys H8 ⟨bs,rfl,lb,at8,hB8,s8⟩;rw[b8,b8]at lb;have hlen:(a9V N2 O).length=O.length:=by simp[a9V]
  exact k B (a9V N2 O) H8 ⟨bs,hB8,by rw[lb,hlen],λi x l h1 h2=>(at8 i x l h1 h2).1⟩ valid (by rw[hlen];exact hOl) (s07.trans s8)
structure a0V(H:Hp)(a:Addr)(N:Nt):Prop where
 ex:∃rs:List Addr,H a=some (.lst (rs.map V.ref))/\rs.length=N.length/\∀(i:Nat) x l,rs[i]?=some x->N[i]?=some l->b5u H (.ref x) (l.length == 2)
def a0V.same(h:a0V H a N)(k:j5 H H'):a0V H' a N:=by
 obtain⟨rs,h1,h2,h3⟩:=h.ex;exact⟨rs,k a _ h1,h2,λi x l e1 e2=>(h3 i x l e1 e2).ts (j5.ts k)⟩
def a0V.kept{b c:Addr}(h:a0V H a N)(hB:Bag H b c)(k:D0 b H H'):a0V H' a N:=by
 obtain⟨rs,h1,h2,h3⟩:=h.ex;exact⟨rs,k.1 a _ h1 (a1c hB h1),h2,λi x l e1 e2=>(h3 i x l e1 e2).ts (D0.ts k hB)⟩
def c5S:∀s∈(["k0","set","ask","k1","a","copy"]:List Str),NmS s:=by
 intro s hs;simp only[t8,G8,or_false]at hs;rcases hs with rfl | rfl | rfl | rfl | rfl | rfl <;> exact⟨by decide +kernel,by decide +kernel⟩
def d2W:∀i,i<26->∀c,(("abcdefghijklmnopqrstuvwxyz0123456789" : Str).cps.toList)[i]?=some c->c∈LET.cps.toList:=by decide +kernel
def d2L:∀c∈("abcdefghijklmnopqrstuvwxyz0123456789" : Str).cps.toList,c∈SGN.cps.toList:=by decide +kernel
def c7Q{K:Fg}{b c:Addr}(hB:Bag H b c)(k:∀s H',NmS s->Bag H' b c->D0 b H H'->Q (.str s) H'):b3G K [.ref b,.int (n:Int)] H Q E:=by
 refine⟨rfl,?_⟩;unfold c4M
 nofun
 exists J3 hB (by decide) (by decide) λn1 H1 a0 a1 B1 k1=>?_
 refine a0y (λ_=>?_) (λ_=>?_)
 .ext
  exists E4 (by simp) λp G hp e s=>?_
  refine J3 (B1.same s) (by decide) (by decide) λn2 H2 b0 b1 B2 k2=>?_
  have hp2:=k2.1 p _ e (B1.nb hp).1;obtain⟨v,hv,hv2⟩:=a2S (xs:=(["k0","set","ask","k1","a","copy"]:List Str).map V.str) b0 (by simpa using b1);refine M0 hp2 hv ?_;obtain⟨t,ht,rfl⟩:=F5.mp (mI hv2);exact k _ _ (c5S t ht) B2 (k1.trans ((D0.of_same s).trans k2))
 ext
 nofun
 exists J3 B1 (by decide) (by decide) λn2 H2 b0 b1 B2 k2=>?_
 have k02:=k1.trans k2;exists ⟨.inl ⟨by omega,by omega⟩,?_⟩;exists ⟨(show(0:Int)<2 by decide),?_⟩;obtain⟨m,hm⟩:∃m:Nat,n2 * 2+(n:Int) % 2=(m:Int):=⟨(n2 * 2+(n:Int) % 2).toNat,by omega⟩;have hm7:m<=7:=by omega
 rw[hm]
 nofun
 refine J3 B2 (by decide) (by decide) λn3 H3 c0 c1 B3 k3=>?_
 have k03:=k02.trans k3;have l36:(("abcdefghijklmnopqrstuvwxyz0123456789" : Str).cps.toList).length=36:=by decide +kernel
 obtain⟨ch,hc,hc2⟩:=a2S (xs:=("abcdefghijklmnopqrstuvwxyz0123456789" : Str).cps.toList) c0 (by omega);exists c5l (small (by decide +kernel)) hc ?_;specialize Y9 (a3K ?_);refine⟨(m:Int),rfl,by omega,by omega,λD hD=>?_⟩;rw[C9];obtain⟨nb,nc⟩:=B3.nb hD;refine b1w (λi ys H4=>∃cs:List Nat,ys=cs.map (λk=>V.str (⟨#[k]⟩:Str))/\cs.length=i/\(∀c∈cs,c∈SGN.cps.toList)/\H4 D=some (.lst ys)/\Bag H4 b c/\D0 b H3 H4) ?_ ?_ ?_ ?_
 .exact⟨[],rfl,rfl,by simp,c7,B3.new hD,D0.new hD⟩
 .rintro i ys H4 ⟨_,_,_,_,h,_⟩;exact h
 .rintro i ys H4 hi ⟨cs,rfl,rfl,h1,hd,B4,k4⟩ R hR
  ext
  refine J3 B4 (by decide) (by decide) λj H5 j0 j1 B5 k5=>?_
  obtain⟨cj,hcj,hcj2⟩:=a2S (xs:=("abcdefghijklmnopqrstuvwxyz0123456789" : Str).cps.toList) j0 (by omega);refine c5l (small (by decide +kernel)) hcj ?_;refine hR _ _ (k5.1 _ _ hd nb) (L5 (by rw[b8];omega)) ⟨cs++[cj],by simp,by simp,?_,c7,B5.put nb nc,(k4.trans k5).put hD⟩;intro s hs;rcases v7.mp hs with q | q
  .exact h1 s q
  .rw[l7.mp q];exact d2L _ (mI hcj2)
 .rintro ys H4 ⟨cs,rfl,hn,h1,hd,B4,k4⟩
  ext
  have he:cs.map (λk=>V.str (⟨#[k]⟩:Str))=(cs.map λk=>(⟨#[k]⟩:Str)).map V.str:=by rw[R3];rfl
  rw[he]at hd
  have hsum:((cs.map λk=>(⟨#[k]⟩:Str)).map (·.length)).sum=cs.length:=by
   clear hn hd he h1;induction cs with
   |nil=>rfl
   |cons s r ih=>
    rw[J7,J7,List.sum_cons,ih,D4];show 1+_=_;omega
  refine c9O hd (c0A _) ?_ ?_
  .rw[hsum,b8];show cs.length+cs.length * 0<=_;omega
  .have hj:Txt.join (Str.ofString "") (cs.map λk=>(⟨#[k]⟩:Str))=⟨cs.toArray⟩:=c1x cs;rw[hj];have hN:=d1W (d2W n3.toNat (by omega) ch hc2) h1 (by omega);refine c5m (small ?_) ?_
   .have:=hN.2;rw[Str.length_append]at this;omega
   .exact k _ _ hN B4 (k03.trans k4)
def SS(ss:List Str):List (Key×V):=ss.map λs=>(Sum.inr s,V.bl true)
def b5V(ss:List Str)(s:Str):List Str:=if(ss.any λt=>decide (t=s))=true then ss else ss++[s]
def d0Y(ss:List Str)(s:Str):a2F (SS ss) (Sum.inr s) (V.bl true)=SS (b5V ss s):=by
 have e:((SS ss).any λkv=>decide (kv.1=Sum.inr s))=ss.any λt=>decide (t=s):=by
  unfold SS;rw[d2D];congr 1;funext t;show decide ((Sum.inr t:Key)=Sum.inr s)=decide (t=s);by_cases h:t=s
  .subst h;simp
  .rw[d4D h,d4D λz=>h (Sum.inr.inj z)]
 unfold a2F b5V;rw[e];split
 .unfold SS;rw[R3];apply a3z;intro t _;show(if(Sum.inr t:Key)=Sum.inr s then ((Sum.inr t:Key),V.bl true)else (Sum.inr t,V.bl true))=_;split <;> rfl
 .unfold SS;rw[F8];rfl
def c5T{ss:List Str}{s t:Str}(h:t∈b5V ss s):t∈ss\/t=s:=by
 unfold b5V at h;split at h
 .exact .inl h
 .exact(v7.mp h).imp id l7.mp
def c5U(ss:List Str)(s:Str):ss.length<=(b5V ss s).length/\(b5V ss s).length<=ss.length+1:=by
 unfold b5V;split
 .omega
 .simp
def c7N(ss:List Str)(s:Str):b5V ss s≠[]:=by
 unfold b5V;split
 .rename_i h
  intro z;rw[z]at h;cases h
 .simp
def c5M{K:Fg}{b c:Addr}(hB:Bag H b c)(k:∀a H',a6R H' a->Bag H' b c->D0 b H H'->H a=none->Q (.ref a) H'):b0U K [.ref b] H Q E:=by
 refine⟨rfl,?_⟩;unfold c2d
 nofun
 refine b4u λd H1 hd e1 s1=>?_
 obtain⟨nb,nc⟩:=hB.nb hd
 ext
 exact_mod_cast L4 ?_;specialize a1S (a3K ?_);exists J3 (hB.same s1) (by decide) (by decide) λn2 H2 b0 b1 B2 k2=>?_
 refine⟨3+n2,rfl,by omega,by omega,?_⟩;refine a1K (λi σ H3=>∃y2 ss,σ=[some (.ref b),some (.ref d),y2]/\H3 d=some (.dK (SS ss))/\ss.length<=i/\(0<i->ss≠[])/\(∀s∈ss,NmS s)/\Bag H3 b c/\D0 b H H3) ⟨_,[],rfl,k2.1 _ _ e1 nb,by simp,by simp,(λs hs=>by cases hs),B2,(D0.of_same s1).trans k2⟩ ?_ ?_
 .rintro i _ H3 hi ⟨y2,ss,rfl,e3,l3,n3,m3,B3,k3⟩;rw[a1X]
  ext
  specialize a7C ?_;refine c7Q B3 λs H4 hs B4 k4=>?_
  have e4:=k4.1 _ _ e3 nb;refine⟨d,_,rfl,b6j.k (k:=Sum.inr s) e4 (L5 (by unfold SS;rw[b8];omega)),?_⟩;have l4:=c5U ss s;exact⟨_,b5V ss s,rfl,by rw[c7,d0Y],by omega,λ_=>c7N ss s,λt ht=>(c5T ht).elim (m3 t) λz=>z ▸ hs,B4.put nb nc,(k3.trans k4).put hd⟩
 .rintro _ H3 ⟨y2,ss,rfl,e3,l3,n3,m3,B3,k3⟩
  ext
  unfold a4y;simp only[e3];intro l hl;have el:(SS ss).map (λkv=>kV kv.1)=ss.map V.str:=by unfold SS;rw[R3];rfl
  rw[el];have s4:j5 H3 (upd H3 l (.lst (ss.map V.str))):=A2 hl;exact k l _ ⟨ss,c7,n3 (by omega),by omega,m3⟩ (B3.same s4) (k3.trans (D0.of_same s4)) (k3.none hl)
def a5X{K:Fg}{b c:Addr}(hB:Bag H b c)(hN:a6R H a)(k:∀v H',OpN v->Bag H' b c->D0 b H H'->Q v H'):a2f K [.ref b,.ref a] H Q E:=by
 refine⟨rfl,?_⟩;unfold b6q
 nofun
 exists J3 hB (by decide) (by decide) λn1 H1 a0 a1 B1 k1=>?_
 refine a0y (λ_=>?_) (λ_=>?_)
 .ext
  obtain⟨N1,ne⟩:=hN.kept hB k1;obtain⟨ss,h1,h2,h3,h4⟩:=N1.ex;exists O3 h1 ?_;have hl:0<ss.length:=b1J.mpr h2;refine J3 B1 (by rw[b8];omega) (by rw[b8];omega) λn2 H2 b0 b1 B2 k2=>?_
  obtain⟨v,hv,hv2⟩:=a2S (xs:=ss.map V.str) b0 b1;obtain⟨s,hs,rfl⟩:=F5.mp (mI hv2);exact M0 (k2.1 _ _ h1 ne) hv (k _ _ (.inl ⟨s,rfl,h4 s hs⟩) B2 (k1.trans k2))
 ext
 nofun
 exists J3 B1 (by decide) (by decide) λn2 H2 b0 b1 B2 k2=>?_
 have k02:=k1.trans k2
 nofun
 refine a0y (λ_=>?_) (λ_=>?_)
 .ext
  exact k _ _ (.inr ⟨n2,rfl,by omega,by omega⟩) B2 k02
 ext
 nofun
 refine a0y (λ_=>?_) (λ_=>?_)
 .ext
  exact k _ _ (.inr ⟨_,rfl,by decide,by decide⟩) B2 k02
 ext
 refine J3 B2 (by decide) (by decide) λn3 H3 c0 c1 B3 k3=>?_
 exact k _ _ (.inr ⟨n3,rfl,by omega,by omega⟩) B3 (k02.trans k3)
def c8i{K:Fg}{b c:Addr}(hB:Bag H b c)(hN:a6R H a)(k:∀p H',a4p H' p->H p=none->Bag H' b c->D0 b H H'->Q (.ref p) H'):b3H K [.ref b,.ref a] H Q E:=by
 refine⟨rfl,?_⟩;unfold c4P
 nofun
 exists E4 (by decide) λp G hp e s=>?_
 refine J3 (hB.same s) (by decide) (by decide) λn1 H1 a0 a1 B1 k1=>?_
 have hp1:=k1.1 p _ e (hB.nb hp).1;have k01:D0 b H H1:=(D0.of_same s).trans k1;obtain⟨v,hv,hv2⟩:=a2S (xs:=([.str "plus",.str "minus",.str "times",.str "less",.str "same"]:List V)) a0 (by simpa using a1);refine M0 hp1 hv ?_
 have:∃kd:Str,v=.str kd/\kd∈(["plus","minus","times","less","same"]:List Str):=by
  have m:=mI hv2;simp only[t8,G8,or_false]at m;rcases m with rfl | rfl | rfl | rfl | rfl <;> exact⟨_,rfl,by simp⟩
 obtain⟨kd,rfl,hkd⟩:=this
 ext
 obtain⟨N1,_⟩:=hN.kept hB k01;exists a5X B1 N1 λv1 H2 o1 B2 k2=>?_
 obtain⟨N2,_⟩:=N1.kept B1 k2;exists a5X B2 N2 λv2 H3 o2 B3 k3=>?_
 refine E4 (by simp) λq G hq e s=>?_
 exact k q _ ⟨kd,v1,v2,e,o1,o2,hkd⟩ (k01.none (k2.none (k3.none hq))) (B3.same s) (((k01.trans k2).trans k3).trans (D0.of_same s))
def c9N{K:Fg}{b c:Addr}(hB:Bag H b c)(hN:a6R H a)(hP:b1F H p)(k:∀v H',b5u H' v false->Bag H' b c->D0 b H H'->Q v H'):b7d K [.ref b,.ref a,.ref p] H Q E:=by
 refine⟨rfl,?_⟩;unfold c8L
 nofun
 exists J3 hB (by decide) (by decide) λw H1 w0 w1 B1 k1=>?_
 nofun
 obtain⟨N1,na⟩:=hN.kept hB k1;have P1:=hP.kept hB k1;obtain⟨ss,s1,s2,s3,s4⟩:=N1.ex;exists O3 s1 ?_;refine c2o B1 s1 na (by simpa using s2) (by rw[b8];omega) λn v H2 e1 e2 a2 B2 k2=>?_
 refine M0 a2 e1 ?_;obtain⟨s,hs,rfl⟩:=F5.mp e2;have ns:=s4 s hs
 ext
 obtain⟨N2,_⟩:=N1.kept B1 k2;have P2:=P1.kept B1 k2;have k02:=k1.trans k2
 nofun
 refine a0y (λ_=>?_) (λ_=>?_)
 .obtain⟨ps,p1,p2,p3,p4⟩:=P2.ex
  ext
  exists O3 p1 ?_;refine c2o B2 p1 (a1c B2 p1) (by simpa using p2) (by rw[b8];omega) λn v H3 f1 f2 a3 B3 k3=>?_
  refine M0 a3 f1 ?_;obtain⟨d,hd,rfl⟩:=F5.mp f2;have hd3:=(p4 d hd).ts (D0.ts k3 B2)
  ext
  refine E4 (by simp) λq G hq e s=>?_
  exact k _ _ ⟨q,_,rfl,e,.set _ d ns (hd3.ts (j5.ts s)),_,_,rfl,by decide⟩ (B3.same s) ((k02.trans k3).trans (D0.of_same s))
 ext
 nofun
 refine a0y (λ_=>?_) (λ_=>?_)
 .ext
  exists a5X B2 N2 λv H3 o1 B3 k3=>?_
  refine E4 (by simp) λq G hq e s=>?_
  exact k _ _ ⟨q,_,rfl,e,.copy _ v ns o1,_,_,rfl,by decide⟩ (B3.same s) ((k02.trans k3).trans (D0.of_same s))
 ext
 nofun
 refine a0y (λ_=>?_) (λ_=>?_)
 .ext
  refine E4 (by simp) λq G hq e s=>?_
  exact k _ _ ⟨q,_,rfl,e,.take _ ns,_,_,rfl,by decide⟩ (B2.same s) (k02.trans (D0.of_same s))
 ext
 exists a5X B2 N2 λv H3 o1 B3 k3=>?_
 exists E4 (by simp) λq1 G1 hq1 e1 s1=>?_
 exists E4 (by simp) λq2 G2 hq2 e2 s2=>?_
 exists E4 (by simp) λq3 G3 hq3 e3 s3=>?_
 have B1':=B3.same s1;have B2':=B1'.same s2;refine J3 (B2'.same s3) (by decide) (by decide) λj H4 j0 j1 B4 k4=>?_
 obtain⟨x,hx,hx2⟩:=a2S (xs:=[V.ref q1,V.ref q2]) j0 (by simpa using j1);refine M0 (k4.1 _ _ e3 (B2'.nb hq3).1) hx ?_;have kk:D0 b H H4:=((k02.trans k3).trans (D0.of_same ((s1.trans s2).trans s3))).trans k4;have f1:H4 q1=_:=k4.1 _ _ (s3 _ _ (s2 _ _ e1)) (B3.nb hq1).1;have f2:H4 q2=_:=k4.1 _ _ (s3 _ _ e2) (B1'.nb hq2).1;have m:=mI hx2;simp only[t8,G8,or_false]at m;rcases m with rfl | rfl
 .exact k _ _ ⟨q1,_,rfl,f1,.tell v o1,_,_,rfl,by decide⟩ B4 kk
 .exact k _ _ ⟨q2,_,rfl,f2,.skip,_,_,rfl,by decide⟩ B4 kk
def d2g(ss:List Str):a8U (ss.map V.str) none (some 2)=(ss.take 2).map V.str:=by
 unfold a8U;have e1:HT.sIx (ss.map V.str).length 0 none=0:=rfl
 have e2:HT.sIx (ss.map V.str).length (ss.map V.str).length (some 2)=min 2 ss.length:=by
  rw[b8];show(if(2:Int)<0 then ((2:Int)+(ss.length:Int)).toNat else min (2:Int).toNat ss.length)=min 2 ss.length;rw[if_neg (by decide)];rfl
 rw[e1,e2,d1j,Nat.sub_zero];by_cases h:2<=ss.length
 .rw[Nat.min_eq_left h,List.map_take]
 .rw[Nat.min_eq_right (by omega),a0s (by rw[b8];omega),a0s (by omega)]
def a6R.two{H:Hp}{a q:Addr}{ss:List Str}(h1:H' q=some (.lst ((ss.take 2).map V.str)))(h2:ss≠[])(h3:ss.length<=8)(h4:∀s∈ss,NmS s):a6R H' q:=by
 have:=b1J.mpr h2
 exact⟨ss.take 2,h1,by
  intro z;have:=congrArg b6l z;rw[F7,a4f]at this;omega,by rw[F7];omega,λs hs=>h4 s (c4t hs)⟩
def c7v{K:Fg}{b c:Addr}(hB:Bag H b c)
  (k:∀p ra na da N H',H' p=some (.tup [.ref ra,.ref na,.ref da])->a0V H' ra N->N8 H' na N->b1F H' da->a0i N->N.length<=24->ra≠da->na≠da->Bag H' b c->D0 b H H'->Q (.ref p) H'):b3F K [.ref b] H Q E:=by
 refine⟨rfl,?_⟩;unfold c4L
 nofun
 exists J3 hB (by decide) (by decide) λn0 H0 a0 a1 B0 k0=>?_
 obtain⟨lg,hlg⟩:∃lg:Bool,lg=decide (V.int n0=V.int 0):=⟨_,rfl⟩;rw[<-hlg]
 nofun
 refine J3 B0 (by decide) (by decide) λn1 H1 b0 b1 B1 k1=>?_
 obtain⟨n1,rfl⟩:=a4r b0
 ext
 have k01:=k0.trans k1;exact_mod_cast a4n (P:=λσ H2=>∃m:Nat,σ=[some (.ref b),some (.bl lg),some (.int (m:Int)),none,none,none,none,none,none]/\0<m/\m<=24/\Bag H2 b c/\D0 b H H2) ?_ ?_
 rotate_left
 .intro nx hnx
  ext
  refine a0y (λ_=>?_) (λ_=>?_)
  .ext
   refine J3 B1 (by decide) (by decide) λn2 H2 c0 c1 B2 k2=>?_
   obtain⟨n2,rfl⟩:=a4r c0
   ext
   exact hnx _ _ ⟨15+n2,rfl,by omega,by omega,B2,k01.trans k2⟩
  .ext
   exact hnx _ _ ⟨1+n1,rfl,by omega,by omega,B1,k01⟩
 rintro _ H2 ⟨m,rfl,m0,m1,B2,k2⟩
 nofun
 exists d0t B2 m0 m1 λa N0 H3 n3 l3 s3 z3 B3 k3=>?_
 exists c3E n3 (by omega) (by omega) (by rw[l3];exact s3) (by rw[l3];exact z3) λna N H4 n4 v4 lN s4=>?_
 have B4:=B3.same s4;have k4:D0 b H H4:=(k2.trans k3).trans (D0.of_same s4)
 nofun
 exists c5M B4 λsa H5 N5 B5 k5 hsa=>?_
 have k05:=k4.trans k5;have n5:=n4.kept B4 v4.two k5;obtain⟨ss,t1,t2,t3,t4⟩:=id N5.ex
 nofun
 exists E4 (by simp) λD H6 hD e6 s6=>?_
 obtain⟨nb,nc⟩:=B5.nb hD;have nsD:sa≠D:=f6 t1 hD;obtain⟨as5,q5,_,_⟩:=id n5.ex;have nnaD:na≠D:=f6 q5 hD;have hD0:H D=none:=k05.none hD;exact_mod_cast L4 ?_;specialize a1S (a3K ?_);exists J3 (B5.same s6) (by decide) (by decide) λn6 H6' d0 d1 B6' k6'=>?_
 refine⟨1+n6,rfl,by omega,by omega,?_⟩;refine a1K (λi σ H7=>∃y6 ps,σ=[some (.ref b),some (.bl lg),some (.int (m:Int)),some (.ref na),some (.ref sa),some (.ref D),y6,none,none]/\(ps:List Addr).length=i/\(∀p∈ps,a4p H7 p)/\H7 D=some (.lst (ps.map V.ref))/\Bag H7 b c/\D0 b H5 H7) ⟨_,[],rfl,rfl,(λp hp=>by cases hp),k6'.1 _ _ e6 nb,B6',(D0.of_same s6).trans k6'⟩ ?_ ?_
 .rintro i _ H7 hi ⟨y6,ps,rfl,lp,hp,hD7,B7,k7⟩;rw[a1X]
  ext
  specialize a9s ?_;exists ⟨a0E hD7,?_⟩;have t7:H7 sa=some (.lst (ss.map V.str)):=k7.1 _ _ t1 (N5.kept B5 (D0.refl _ _)).2;refine c8U t7 λq H8 hq e8 s8=>?_
  rw[d2g]at e8
  ext
  exists c8i (B7.same s8) (a6R.two (H:=H8) (a:=sa) e8 t2 t3 t4) λp H9 hd9 _ B9 k9=>?_
  have hD9:=k9.1 _ _ (s8 _ _ hD7) nb;refine a1h hD9 (L5 (by rw[b8];omega)) ?_;refine⟨_,ps++[p],rfl,by simp[lp],λq' hq'=>?_,by rw[c7];simp,B9.put nb nc,((k7.trans (D0.of_same s8)).trans k9).put hD⟩;rcases v7.mp hq' with z | z
  .exact(((hp q' z).ts (j5.ts s8)).ts (D0.ts k9 (B7.same s8))).ts (J2.put hD9)
  .rw[l7.mp z];exact hd9.ts (J2.put hD9)
 rintro _ H9 ⟨y6,ps,rfl,lp,hp,hD9,B9,k9⟩;have P9:b1F H9 D:=⟨ps,hD9,by intro z;subst z;simp at lp;omega,by omega,hp⟩;have n9:=n5.kept B5 v4.two k9;obtain⟨N9,nsb⟩:=N5.kept B5 k9;have k09:D0 b H H9:=k05.trans k9
 nofun
 exists E4 (by simp) λR' H10 hR' e10 s10=>?_
 have B10:=B9.same s10;obtain⟨rb,rc⟩:=B9.nb hR';have nRD:R'≠D:=(f6 hD9 hR').symm;exact_mod_cast L4 ?_;specialize a1S (V8 ?_);obtain⟨as,q1,q2,q3⟩:=id n9.ex;refine⟨na,rfl,⟨_,SqL.of (s10 _ _ q1)⟩,a6a (xs:=as.map V.ref) (λi σ H11=>∃y8 rs,σ=[some (.ref b),some (.bl lg),some (.int (m:Int)),some (.ref na),some (.ref sa),some (.ref D),y6,some (.ref R'),y8]/\(rs:List Addr).length=i/\(∀(j:Nat) x l,rs[j]?=some x->N[j]?=some l->b5u H11 (.ref x) (l.length == 2))/\H11 R'=some (.lst (rs.map V.ref))/\Bag H11 b c/\D0 b H9 H11) ?_ ?_ ?_ ?_⟩
 .exact⟨_,[],rfl,rfl,by simp,e10,B10,D0.of_same s10⟩
 .rintro i σ H11 _ ⟨_,_,_,_,_,_,_,k11⟩;exact SqL.of (k11.1 _ _ q1 (a1c B9 q1))
 .rintro i x _ H11 hx ⟨y8,rs,rfl,lr,hr,hR11,B11,k11⟩;rw[b6]at hx;obtain⟨xa,hxa,rfl⟩:=E9.mp hx;have hi:i<N.length:=by rw[<-q2];exact(gI hxa)
  have hx9:=q3 i xa _ hxa (P7 hi);have hx11:=k11.1 _ _ hx9 (b4k B9 hx9 (by rw[J9];have:=v4.two _ (M9 hi);omega));have P11:=P9.kept B9 k11;obtain⟨N11,_⟩:=N9.kept B9 k11
  ext
  exists O3 hx11 ?_;rw[J9];by_cases h2:N[i].length=2
  .exists C6 (d4E (by rw[h2];rfl)) ?_;specialize a9s ?_;exists ⟨a0E hR11,?_⟩;exists a5X B11 N11 λv H12 o12 B12 k12=>?_
   exists E4 (by simp) λq H13 hq e13 s13=>?_
   have hR13:=s13 _ _ (k12.1 _ _ hR11 rb);have r13:b5u H13 (.ref q) (N[i].length == 2):=⟨q,_,rfl,e13,.ask v o12,_,_,rfl,by rw[h2];decide⟩;refine a1h hR13 (L5 (by rw[b8];omega)) ?_;refine⟨_,rs++[q],rfl,by simp[lr],λj y l g1 g2=>?_,by rw[c7];simp,(B12.same s13).put rb rc,((k11.trans k12).trans (D0.of_same s13)).put hR'⟩;rcases a0N g1 with ⟨_,f1⟩ | ⟨hj,f1⟩
   .exact(((hr j y l f1 g2).ts (D0.ts k12 B11)).ts (j5.ts s13)).ts (J2.put hR13)
   .rw[hj,lr,P7 hi]at g2;cases g2;subst f1;exact r13.ts (J2.put hR13)
  .exists z4 (d4D (by intro z;have:=V.int.inj z;omega)) ?_;specialize a9s ?_;exists ⟨a0E hR11,?_⟩;refine c9N B11 N11 P11 λv H12 r12 B12 k12=>?_
   obtain⟨pv,xv,rfl,_⟩:=id r12
   ext
   have hR12:=k12.1 _ _ hR11 rb;have hm2:(N[i].length == 2)=false:=by simpa using h2
   refine a1h hR12 (L5 (by rw[b8];omega)) ?_;refine⟨_,rs++[pv],rfl,by simp[lr],λj y l g1 g2=>?_,by rw[c7];simp,B12.put rb rc,(k11.trans k12).put hR'⟩;rcases a0N g1 with ⟨_,f1⟩ | ⟨hj,f1⟩
   .exact((hr j y l f1 g2).ts (D0.ts k12 B11)).ts (J2.put hR12)
   .rw[hj,lr,P7 hi]at g2;cases g2;subst f1;rw[hm2];exact r12.ts (J2.put hR12)
 .rintro _ H11 ⟨y8,rs,rfl,lr,hr,hR11,B11,k11⟩;rw[b8]at lr
  ext
  refine E4 (by simp) λp H12 hp12 e12 s12=>?_
  exact k p R' na D N H12 e12 ((⟨rs,hR11,by rw[lr,q2],hr⟩:a0V H11 R' N).same s12) ((n9.kept B9 v4.two k11).same s12) ((P9.kept B9 k11).same s12) v4 lN nRD nnaD (B11.same s12) ((k09.trans k11).trans (D0.of_same s12))
def big(h:n<=1000000):n<=z9:=G5 h (by rw[a7n];decide)
def b3z{K:Fg}(ha:H a=some (.lst xs))(h1:1<=xs.length)(h2:xs.length<=400)(k:Q .non H):Y8 K [.ref a,.int 0,.int 1] H Q E:=by
 refine⟨rfl,?_⟩;unfold a5F
 nofun
 exists a3v (s:="list") (by simp only[G9,ha]) (by decide) ?_;exists z4 (by decide) ?_;exists O3 ha ?_;exists z4 (d4D (by omega)) ?_;exists O3 ha ?_;exists z4 (d4D (by omega)) ?_;exact k
def a6Q{K:Fg}(ha:H a=some (.lst (p8 n (V.bl true))))(k:∀H',j5 H H'->Q .non H'):a0M K [.ref a] H Q E:=by
 refine⟨rfl,?_⟩;unfold b0O;specialize a1S (a5p ?_);refine⟨a,rfl,⟨_,SqL.of ha⟩,?_⟩;refine b5e n (λi σ H2=>∃x1 x2,σ=[some (.ref a),x1,x2]/\j5 H H2) ⟨_,_,rfl,j5.refl _⟩ ?_ ?_ ?_
 .rintro _ H2 ⟨x1,x2,rfl,s2⟩;exact⟨⟨_,SqL.of (s2 _ _ ha),by simp⟩,k H2 s2⟩
 .rintro i _ H2 hi ⟨x1,x2,rfl,s2⟩;exact⟨_,V.bl true,SqL.of (s2 _ _ ha),by rw[N3,if_pos hi]⟩
 .rintro i _ H2 hi ⟨x1,x2,rfl,s2⟩ x H3 ⟨p,y,hp,rfl,rfl,hy⟩;have hy:=hy _ (SqL.of (s2 _ _ ha));rw[N3,if_pos hi]at hy;cases hy;exists a7B (SqT.of c7) ?_;exists z4 rfl ?_;exact⟨_,_,rfl,s2.trans (A2 hp)⟩
def b0L(n:Nat):p8 n (V.bl true)++[V.bl true]=p8 (n+1) (V.bl true):=by
 rw[b0C]
def d0y(h:n=0\/n=1):inV (.int (n:Int)) [.int 0,.int 1]=true:=by
 rcases h with rfl | rfl <;> decide
def b8i{K:Fg}{x:Addr}{m:Nat}(hv:b5u H v (l.length == 2))(hx:H x=some (.lst (IL l)))(h2:l.length<=2)(hlt:∀t∈l,t<m)(k:∀H',j5 H H'->Q (.bl true) H') :
  a5n K [v,.ref x,.int (m:Int)] H Q E:=by
 obtain⟨p,xs,rfl,hp,_,kd,r,rfl,hk⟩:=hv;refine⟨rfl,?_⟩;unfold b2S
 nofun
 exists a3v (s:="list") (by simp only[G9,hx]) (by decide) ?_;exists z4 (by decide) ?_;exact_mod_cast a4n (P:=λσ H1=>∃w ws,σ=[some (.ref p),some (.ref x),some (.int (m:Int)),some (.ref w)]/\H1 w=some (.tup ws)/\ws.all T1=true/\inV (.int (l.length:Int)) ws=true/\j5 H H1) ?_ ?_
 rotate_left
 .intro nx hnx
  ext
  exists P0 hp (a2r _ _) ?_;by_cases e:kd = "ask"
  .exists C6 (d4E (by rw[e])) ?_;refine E4 (by simp) λw H1 hw e1 s1=>?_
   rw[d4E e]at hk;have:l.length=2:=by simpa using hk.symm
   exact hnx _ _ ⟨w,_,rfl,e1,rfl,by rw[this];decide,s1⟩
  .exists z4 (d4D (λz=>e (V.str.inj z))) ?_;refine E4 (by simp) λw H1 hw e1 s1=>?_
   rw[d4D e]at hk
   have:¬l.length=2:=by
    intro z;rw[z]at hk;exact absurd hk (by decide)
   exact hnx _ _ ⟨w,_,rfl,e1,rfl,d0y (by omega),s1⟩
 rintro _ H1 ⟨w,ws,rfl,hw,fw,iw,s1⟩
 ext
 exists O3 (s1 _ _ hx) ?_;rw[J9];refine b6y hw rfl fw ?_;exists ⟨_,rfl,C6 iw ?_⟩;specialize Y9 (V8 ?_);refine⟨x,rfl,⟨_,SqL.of (s1 _ _ hx)⟩,λD hD=>?_⟩;refine X5 (xs:=IL l) (λi ys H2=>ys=p8 i (V.bl true)/\H2 D=some (.lst ys)/\j5 H1 H2) ⟨rfl,c7,A2 hD⟩ ?_ ?_ ?_ ?_
 .rintro i ys H2 ⟨_,h,_⟩;exact h
 .rintro i ys H2 _ ⟨_,_,s2⟩;exact SqL.of (s2 _ _ (s1 _ _ hx))
 .rintro i y ys H2 hy ⟨rfl,hD2,s2⟩ R hR;have hy:(l.map λ(n:Nat)=>V.int (n:Int))[i]?=some y:=hy;rw[b6]at hy;cases ht:l[i]? with
  |none=>rw[ht]at hy;cases hy
  |some t=>
   rw[ht]at hy;cases hy;have hi:=(gI ht);have:=hlt t (mI ht)
   ext
   refine b1u (by omega) (by omega) ?_;refine hR _ _ hD2 (L5 (by rw[A8];omega)) ⟨b0L i,c7,λb o e=>?_⟩;rw[i9 (f6 e hD)];exact s2 _ _ e
 .rintro ys H2 ⟨rfl,hD2,s2⟩
  ext
  have e:p8 (IL l).length (V.bl true)=(p8 l.length true).map V.bl:=by rw[J9];simp
  rw[e]at hD2;refine c8X hD2 ?_;have:(p8 l.length true).all id=true:=by simp
  rw[this];exact k H2 (s1.trans s2)
def b5m{K:Fg}{ra:Addr}(hr:a0V H ra N)(hn:N8 H na N)(h400:N.length<=400)(h2:∀l∈N,l.length<=2)(hlt:∀l∈N,∀t∈l,t<N.length)(k:∀H',j5 H H'->Q .non H') :
  a3J K [.ref ra,.ref na] H Q E:=by
 obtain⟨rs,r1,r2,r3⟩:=id hr.ex;obtain⟨as,a1,a2,a3⟩:=id hn.ex;refine⟨rfl,?_⟩;unfold a9A
 nofun
 exists a3v (s:="list") (by simp only[G9,a1]) (by decide) ?_;exists z4 (by decide) ?_;exists O3 a1 ?_;exists O3 r1 ?_;exists z4 (by rw[b8,b8,r2,a2];simp) ?_;specialize b7n (c9H ?_);refine⟨ra,na,rfl,⟨_,SqL.of r1⟩,⟨_,SqL.of a1⟩,λD hD=>?_⟩;refine c1J N.length (λi ys H2=>ys=p8 i (V.bl true)/\H2 D=some (.lst ys)/\j5 H H2) ⟨rfl,c7,A2 hD⟩ ?_ ?_ ?_ ?_
 .rintro i ys H2 ⟨_,h,_⟩;exact h
 .rintro ys H2 ⟨rfl,hD2,s2⟩;exists ⟨⟨_,_,SqL.of (s2 _ _ r1),SqL.of (s2 _ _ a1),.inl (by rw[b8,r2];exact j8 _)⟩,?_⟩;exact a6Q hD2 λH3 s3=>k H3 (s2.trans s3)
 .rintro i ys H2 hi ⟨_,_,s2⟩;have e1:rs[i]?=some (rs[i]'(by omega)):=by simp[r2,hi]
  have e2:as[i]?=some (as[i]'(by omega)):=by simp[a2,hi]
  exact⟨_,_,_,_,SqL.of (s2 _ _ r1),SqL.of (s2 _ _ a1),by rw[b6,e1];rfl,by rw[b6,e2];rfl⟩
 .rintro i ys H2 hi ⟨rfl,hD2,s2⟩ x H3 ⟨p,y1,y2,hp,rfl,rfl,g1,g2⟩;obtain⟨rx,e1⟩:∃rx,rs[i]?=some rx:=⟨_,c8 (by omega)⟩;obtain⟨ax,e2⟩:∃ax,as[i]?=some ax:=⟨_,c8 (by omega)⟩;have g1:=g1 _ (SqL.of (s2 _ _ r1));have g2:=g2 _ (SqL.of (s2 _ _ a1));rw[b6,e1]at g1;rw[b6,e2]at g2;cases g1;cases g2;refine⟨p,_,_,rfl,SqT.of c7,λR S hR hS=>?_⟩;have s3:j5 H2 (upd H2 p (.tup [V.ref rx,V.ref ax])):=A2 hp;obtain⟨H3,hH3⟩:∃H3,H3=upd H2 p (.tup [V.ref rx,V.ref ax]):=⟨_,rfl⟩;rw[<-hH3]at s3 ⊢
  ext
  exists C6 rfl ?_;have s03:=s2.trans s3;exists O3 (s03 _ _ r1) ?_;have hl:=P7 hi;rw[b8,r2];refine b8i ((r3 i _ _ e1 hl).ts (j5.ts s03)) (s03 _ _ (a3 i _ _ e2 hl)) (h2 _ (M9 hi)) (hlt _ (M9 hi)) λH4 s4=>?_
  refine hR _ _ (s4 _ _ (s3 _ _ hD2)) (L5 (by rw[A8];omega)) ⟨b0L i,c7,λb o e=>?_⟩;rw[i9 (f6 e hD)];exact s4 _ _ (s03 _ _ e)
def a8S(N:Nt)(k:Nat):Bool:=(N.getD k []).isEmpty
def b7b(N:Nt):List Nat:=(A1 N.length).filter (a8S N)
def c3F{k:Nat}(h:N[k]?=some []):k∈b7b N:=by
 refine U4.mpr ⟨U0.mpr (gI h),?_⟩;unfold a8S;simp[Q2,h]
def b8L{K:Fg}(hn:N8 H na N)(h400:N.length<=400)(k:∀a H',H a=none->H' a=some (.lst (IL (b7b N)))->j5 H H'->Q (.ref a) H'):a6o K [.ref na] H Q E:=by
 obtain⟨as,a1,a2,a3⟩:=id hn.ex;refine⟨rfl,?_⟩;unfold b4a
 ext
 specialize b7n (a5p ?_);refine⟨na,rfl,⟨_,SqL.of a1⟩,λD hD=>?_⟩;refine c1J N.length (λi ys H2=>ys=IL ((A1 i).filter (a8S N))/\H2 D=some (.lst ys)/\j5 H H2) ⟨rfl,c7,A2 hD⟩ ?_ ?_ ?_ ?_
 .rintro i ys H2 ⟨_,h,_⟩;exact h
 .rintro ys H2 ⟨rfl,hD2,s2⟩;exact⟨⟨_,SqL.of (s2 _ _ a1),by rw[b8,a2];exact j8 _⟩,k D H2 hD hD2 s2⟩
 .rintro i ys H2 hi ⟨_,_,s2⟩;exact⟨_,_,SqL.of (s2 _ _ a1),by rw[b6,c8 (show i<as.length by omega)];rfl⟩
 .rintro i ys H2 hi ⟨rfl,hD2,s2⟩ x H3 ⟨p,y,hp,rfl,rfl,g1⟩;obtain⟨ax,e1⟩:∃ax,as[i]?=some ax:=⟨_,c8 (by omega)⟩;have g1:=g1 _ (SqL.of (s2 _ _ a1));rw[b6,e1]at g1;cases g1;refine⟨p,_,_,rfl,SqT.of c7,λR S hR hS=>?_⟩;have s3:j5 H2 (upd H2 p (.tup [V.int (i:Int),V.ref ax])):=A2 hp;obtain⟨H3,hH3⟩:∃H3,H3=upd H2 p (.tup [V.int (i:Int),V.ref ax]):=⟨_,rfl⟩;rw[<-hH3]at s3 ⊢;have s03:=s2.trans s3;have hl:=P7 hi
  ext
  exists O3 (s03 _ _ (a3 i _ _ e1 hl)) ?_
  have hst:a8S N i=decide (V.int ((IL N[i]).length:Int)=V.int 0):=by
   rw[b9P,J9];unfold a8S;simp only[Q2,hl,a4U];cases N[i] with
   |nil=>rfl
   |cons a r=>
    rw[List.isEmpty_cons,eq_comm,decide_eq_false_iff_not,D4];omega
  rw[<-hst];cases hb:a8S N i with
  |true=>
   exists C6 rfl ?_;refine hR _ _ (s3 _ _ hD2) (L5 ?_) ⟨?_,c7,λb o e=>?_⟩
   .rw[J9];have:=G6 (a8S N) (A1 i);rw[a2N]at this;omega
   .rw[a1Z,X9];unfold IL;rw[F8];congr 1;simp[hb]
   .rw[i9 (f6 e hD)];exact s03 _ _ e
  |false=>
   refine z4 rfl ?_;refine hS _ ⟨?_,s3 _ _ hD2,s03⟩;rw[a1Z,X9];simp[hb]
def c9d{α:Type}{l:List α}(nd:l.Nodup){x:α}(h1:l[i]?=some x)(h2:l[j]?=some x):i=j:=
 (List.getElem?_inj (gI h1) nd).mp (h1.trans h2.symm)
structure a8V(H0 H:Hp)(a:Addr)(as:List Addr)(M:Nt):Prop where
 same:j5 H0 H
 h:H a=some (.lst (as.map V.ref))
 len:as.length=M.length
 nd:as.Nodup
 na:a∉as
 at_:∀(i:Nat) x l,as[i]?=some x->M[i]?=some l->H x=some (.lst (IL l))
 new:H0 a=none/\∀x∈as,H0 x=none
def a8V.next(h:a8V H0 H a as M)(s:j5 H H'):a8V H0 H' a as M:=
 ⟨h.same.trans s,s _ _ h.h,h.len,h.nd,h.na,λi x l e1 e2=>s _ _ (h.at_ i x l e1 e2),h.new⟩
def a8V.add(h:a8V H0 H a as M){p:Nat}{x:Addr}(e1:as[t]?=some x)(e2:M[t]?=some l) :
  a8V H0 (upd H x (.lst (IL (l++[p])))) a as (M.set t (l++[p])):=by
 have hx:=mI e1;have hxa:x≠a:=λz=>h.na (z ▸ hx)
 refine⟨λb o e=>by rw[i9 (f6 e (h.new.2 x hx))];exact h.same b o e,by rw[i9 hxa.symm];exact h.h,by rw[a0Y];exact h.len,h.nd,h.na,λi y l' f1 f2=>?_,h.new⟩;by_cases e:i=t
 .subst e;rw[e1]at f1;cases f1;rw[M6 (gI e2)]at f2;cases f2;exact c7
 .rw[O2 (Ne.symm e)]at f2
  have:y≠x:=by
   rintro rfl;exact e (c9d h.nd f1 e1)
  rw[i9 this];exact h.at_ i y l' f1 f2
def a8V.net(h:a8V H0 H a as M):N8 H a M:=⟨as,h.h,h.len,h.at_⟩
def a8V.nil(n:H0 a=none)(s:j5 H0 H)(e:H a=some (.lst [])):a8V H0 H a [] []:=⟨s,e,rfl,by simp,by simp,by simp,n,by simp⟩
def a8V.snoc(h:a8V H0 H a as M)(hp:H p=none)(ep:H' p=some (.lst (IL [])))(s:j5 H H') :
  a8V H0 (upd H' a (.lst ((as++[p]).map V.ref))) a (as++[p]) (M++[[]]):=by
 have npa:p≠a:=(f6 h.h hp).symm
 have npas:p∉as:=λz=>by
  obtain⟨i,hi⟩:=C8.mp z;have hl:i<M.length:=by rw[<-h.len];exact(gI hi)
  have:=h.at_ i p _ hi (P7 hl);rw[hp]at this;cases this
 have fr0:H0 p=none:=h.same.free hp;refine⟨λb o e=>by rw[i9 (f6 e h.new.1)];exact s _ _ (h.same b o e),c7,by simp[h.len],?_,?_,λi x l f1 f2=>?_,h.new.1,λx hx=>?_⟩
 .rw[a2M];exact⟨h.nd,by simp,λx hx y hy=>by rw[l7.mp hy];intro z;exact npas (z ▸ hx)⟩
 .intro z;rcases v7.mp z with q | q
  .exact h.na q
  .exact npa (l7.mp q).symm
 .rcases a0N f1 with ⟨hi,g1⟩ | ⟨hi,g1⟩
  .rcases a0N f2 with ⟨hj,g2⟩ | ⟨hj,g2⟩
   .have:x≠a:=λz=>h.na (z ▸ mI g1)
    rw[i9 this];exact s _ _ (h.at_ i x l g1 g2)
   .have:=h.len;omega
  .rcases a0N f2 with ⟨hj,g2⟩ | ⟨hj,g2⟩
   .have:=h.len;omega
   .subst g1 g2;rw[i9 npa];exact ep
 .rcases v7.mp hx with q | q
  .exact h.new.2 x q
  .rw[l7.mp q];exact fr0
def c2g{u:Nat}{l':List Nat}(h:(M.set t l)[u]?=some l'):(u=t/\l'=l)\/(u≠t/\M[u]?=some l'):=by
 by_cases e:u=t
 .subst e;have hl:=(gI h);rw[a0Y]at hl;rw[M6 hl]at h;exact .inl ⟨rfl,(Option.some.inj h).symm⟩
 .rw[O2 (Ne.symm e)]at h;exact .inr ⟨e,h⟩
def c2X{K:Fg}(hn:N8 H na N)(h400:N.length<=400)(h2:∀l∈N,l.length<=2)(hlt:∀l∈N,∀t∈l,t<N.length)
  (k:∀a M H',N8 H' a M->M.length=N.length->(∀(p:Nat) (l:List Nat),N[p]?=some l->∀t∈l,∃l',M[t]?=some l'/\p∈l')->(∀l∈M,l.length<=2 * N.length/\∀p∈l,p<N.length)->(∀(t:Nat) (l':List Nat),M[t]?=some l'->∀p∈l',∃l,N[p]?=some l/\t∈l)->j5 H H'->Q (.ref a) H'):a9a K [.ref na] H Q E:=by
 obtain⟨ns,a1,a2,a3⟩:=id hn.ex;refine⟨rfl,?_⟩;unfold b8F;exact_mod_cast L4 ?_;specialize Y9 (V8 ?_);refine⟨na,rfl,⟨_,SqL.of a1⟩,λA hA=>?_⟩;refine X5 (xs:=ns.map V.ref) (λi ys H2=>∃as,ys=as.map V.ref/\a8V H H2 A as (p8 i [])) ?_ ?_ ?_ ?_ ?_
 .exact⟨[],rfl,.nil hA (A2 hA) c7⟩
 .rintro i ys H2 ⟨as,rfl,I⟩;exact I.h
 .rintro i ys H2 _ ⟨as,rfl,I⟩;exact SqL.of (I.same _ _ a1)
 .rintro i x ys H2 hx ⟨as,rfl,I⟩ R hR
  have hi:i<N.length:=by
   have:=(gI hx);rw[b8,a2]at this;exact this
  ext
  refine E4 (by simp) λp H3 hp e3 s3=>?_
  have:=I.len;rw[A8]at this;refine hR _ _ (s3 _ _ I.h) (L5 (by rw[b8];omega)) ⟨as++[p],by simp,?_⟩;have q:=I.snoc hp e3 s3;rw[show p8 i ([]:List Nat)++[[]]=p8 (i+1) [] from by rw[b0C]]at q;rw[show as.map V.ref++[V.ref p]=(as++[p]).map V.ref by simp];exact q
 rintro ys H2 ⟨as,rfl,I2⟩;rw[b8,a2]at I2
 ext
 exact_mod_cast L4 ?_;specialize a1S (a5p ?_);refine⟨na,rfl,⟨_,SqL.of (I2.same _ _ a1)⟩,?_⟩;refine b5e N.length (λi σ H3=>∃x2 x3 x4 M,σ=[some (.ref na),some (.ref A),x2,x3,x4]/\a8V H H3 A as M/\M.length=N.length/\(∀(p:Nat) (l:List Nat),p<i->N[p]?=some l->∀t∈l,∃l',M[t]?=some l'/\p∈l')/\(∀l∈M,l.length<=2 * i/\∀p∈l,p<N.length)/\(∀(t:Nat) (l':List Nat),M[t]?=some l'->∀p∈l',∃l,N[p]?=some l/\t∈l)) ?_ ?_ ?_ ?_
 .exact⟨_,_,_,_,rfl,I2,by simp,by omega,λl hl=>by rw[a8o hl];simp,λt l' e p hp=>by rw[a8o (mI e)]at hp;cases hp⟩
 .rintro _ H3 ⟨x2,x3,x4,M,rfl,I3,lM,g1,g2,g3⟩;exists ⟨⟨_,SqL.of (I3.same _ _ a1),by rw[b8,a2];exact j8 _⟩,?_⟩;exact k A M H3 I3.net lM (λp l hl=>g1 p l (gI hl) hl) g2 g3 I3.same
 .rintro i _ H3 hi ⟨x2,x3,x4,M,rfl,I3,lM,g1,g2,g3⟩;exact⟨_,_,SqL.of (I3.same _ _ a1),by rw[b6,c8 (show i<ns.length by omega)];rfl⟩
 .rintro i _ H3 hi ⟨x2,x3,x4,M,rfl,I3,lM,g1,g2,g3⟩ x H4 ⟨p,y,hp,rfl,rfl,gy⟩;obtain⟨nx,e1⟩:∃nx,ns[i]?=some nx:=⟨_,c8 (by omega)⟩;have gy:=gy _ (SqL.of (I3.same _ _ a1));rw[b6,e1]at gy;cases gy;refine a7B (SqT.of c7) ?_;have s4:j5 H3 (upd H3 p (.tup [V.int (i:Int),V.ref nx])):=A2 hp;obtain⟨H4,hH4⟩:∃H4,H4=upd H3 p (.tup [V.int (i:Int),V.ref nx]):=⟨_,rfl⟩;rw[<-hH4]at s4 ⊢;have I4:=I3.next s4;have hl:=P7 hi;obtain⟨l,hle⟩:∃l,l=N[i]:=⟨_,rfl⟩;rw[<-hle]at hl;have hx:H nx=some (.lst (IL l)):=a3 i nx l e1 hl;have hll:=h2 l (mI hl);specialize a1S (V8 ?_);refine⟨nx,rfl,⟨_,SqL.of (I4.same _ _ hx)⟩,a6a (xs:=IL l) (λj σ H5=>∃x4 M',σ=[some (.ref na),some (.ref A),some (.int (i:Int)),some (.ref nx),x4]/\a8V H H5 A as M'/\M'.length=N.length/\(∀(p:Nat) (l:List Nat),p<i->N[p]?=some l->∀t∈l,∃l',M'[t]?=some l'/\p∈l')/\(∀t∈l.take j,∃l',M'[t]?=some l'/\i∈l')/\(∀l∈M',l.length<=2 * i+j/\∀p∈l,p<N.length)/\(∀(t:Nat) (l':List Nat),M'[t]?=some l'->∀p∈l',∃l,N[p]?=some l/\t∈l)) ?_ ?_ ?_ ?_⟩
  .exact⟨_,M,rfl,I4,lM,g1,by simp,g2,g3⟩
  .rintro j σ H5 _ ⟨_,_,_,I5,_⟩;exact SqL.of (I5.same _ _ hx)
  .rintro j y _ H5 hy ⟨x4,M',rfl,I5,lM',c1,c2,c3,c4⟩;have hy:(l.map λ(n:Nat)=>V.int (n:Int))[j]?=some y:=hy;rw[b6]at hy;cases ht:l[j]? with
   |none=>rw[ht]at hy;cases hy
   |some t=>
    rw[ht]at hy;cases hy;have tm:=mI ht;have hj:=(gI ht);have htn:t<N.length:=hlt l (mI hl) t tm
    ext
    obtain⟨z,hz⟩:∃z,as[t]?=some z:=⟨_,c8 (by have:=I5.len;omega)⟩;have hMt:=P7 (show t<M'.length by omega);have hMz:=I5.at_ t z _ hz hMt;specialize a9s ?_;refine M0 I5.h (a1e (by rw[b6,hz];rfl)) ?_;exists ⟨a0E hMz,?_⟩;have hb:=c3 _ (M9 (show t<M'.length by omega));refine a1h hMz (L5 (by rw[J9];omega)) ?_;refine⟨_,M'.set t (M'[t]++[i]),rfl,?_,by rw[a0Y];exact lM',?_,?_,?_,?_⟩
    .have:=I5.add (p:=i) hz hMt;rw[show IL M'[t]++[V.int (i:Int)]=IL (M'[t]++[i]) by simp[IL]];exact this
    .intro p' l' hp' hl' u hu;obtain⟨l'',q1,q2⟩:=c1 p' l' hp' hl' u hu;by_cases e:u=t
     .subst e;rw[hMt]at q1;cases q1;exact⟨_,M6 (by omega),v9 _ q2⟩
     .exact⟨l'',by rw[O2 (Ne.symm e)];exact q1,q2⟩
    .intro u hu;rw[L3,ht]at hu;by_cases e:u=t
     .subst e;exact⟨_,M6 (by omega),by simp⟩
     .rcases v7.mp hu with q | q
      .obtain⟨l'',q1,q2⟩:=c2 u q;exact⟨l'',by rw[O2 (Ne.symm e)];exact q1,q2⟩
      .exact absurd (by simpa using q) e
    .intro l' hl';obtain⟨u,hu⟩:=C8.mp hl';rcases c2g hu with ⟨_,rfl⟩ | ⟨_,q⟩
     .refine⟨by rw[u5,X0];omega,λp' hp'=>?_⟩;rcases v7.mp hp' with q | q
      .exact hb.2 p' q
      .rw[l7.mp q];exact hi
     .obtain⟨r1,r2⟩:=c3 l' (mI q);exact⟨by omega,r2⟩
    .intro u l' hu q hq;rcases c2g hu with ⟨rfl,rfl⟩ | ⟨_,z⟩
     .rcases v7.mp hq with z | z
      .exact c4 _ _ hMt q z
      .rw[l7.mp z];exact⟨l,hl,tm⟩
     .exact c4 u l' z q hq
  .rintro _ H5 ⟨x4,M',rfl,I5,lM',c1,c2,c3,c4⟩;rw[J9,M3]at c2;refine⟨_,_,x4,M',rfl,I5,lM',λp' l' hp' hl' t ht=>?_,λl' hl'=>?_,λt l' hl' q hq=>?_⟩
   .by_cases e:p'=i
    .subst e;rw[hl]at hl';cases hl';exact c2 t ht
    .exact c1 p' l' (by omega) hl' t ht
   .obtain⟨r1,r2⟩:=c3 l' hl';rw[J9]at r1;exact⟨by omega,r2⟩
   .exact c4 t l' hl' q hq
def b4v{K:Fg}{ba:Addr}{bs:List Nat}{B:Nat}(hb:H ba=some (.lst (IL bs)))(hm:N8 H la M)(h400:M.length<=400)(hB:B<=800)(hl:∀l∈M,l.length<=B/\∀t∈l,t<M.length)(hbs:∀x∈bs,x<M.length)(lb:bs.length<=400)(P:Nat->Prop)(p0:∀x∈bs,P x)(p1:∀k l,P k->M[k]?=some l->∀t∈l,P t)
  (k:∀d S H',H' d=some (.dK (KS S))->S.Nodup->(∀x∈S,x<M.length)->(∀x∈bs,x∈S)->b0z M S->(∀x∈S,P x)->j5 H H'->Q (.ref d) H'):a5J K [.ref ba,.ref la] H Q E:=by
 refine⟨rfl,?_⟩;unfold b6o
 nofun
 exists b4u λd H1 hd e1 s1=>?_
 nofun
 exists a4I (s1 _ _ hb) λw H2 hw e2 s2=>?_
 have s02:=s1.trans s2;have hw0:H w=none:=s1.free hw;have ndw:d≠w:=f6 e1 hw;exact_mod_cast L4 ?_;exact_mod_cast b0Y ?_
 refine⟨λm σ H3=>∃x4 ws S,σ=[some (.ref ba),some (.ref la),some (.ref d),some (.ref w),x4]/\H3 w=some (.lst (IL ws))/\H3 d=some (.dK (KS S))/\j5 H H3/\S.Nodup/\(∀x∈S,x<M.length)/\(∀x∈ws,x<M.length/\P x)/\(∀x∈S,P x) /\
  (∀x∈bs,x∈S\/x∈ws)/\(∀k∈S,∀l,M[k]?=some l->∀t∈l,t∈S\/t∈ws)/\ws.length<=400+S.length * B/\m=(M.length - S.length) * (B+1)+ws.length,?_,?_⟩
 .exact⟨_,_,bs,[],rfl,e2,s2 _ _ e1,s02,by simp,by simp,λx hx=>⟨hbs x hx,p0 x hx⟩,by simp,λx hx=>.inr hx,by simp,by omega,rfl⟩
 rintro m _ H3 ⟨x4,ws,S,rfl,hw3,hd3,s3,nd,hS,hws,hP,c1,c2,c3,rfl⟩
 ext
 exists O3 hw3 ?_;have hSl:=a4d _ _ nd hS;rcases c0F ws with rfl | ⟨r,p,rfl⟩
 .exists z4 (d4D (by rw[J9];simp)) ?_;refine k d S H3 hd3 nd hS (λx hx=>(c1 x hx).elim id λz=>by simp at z) (λa ha l hl' t ht=>(c2 a ha l hl' t ht).elim id λz=>by simp at z) hP s3
 refine C6 (d4E (by rw[J9,u5,X0];omega)) ?_;have hp:p<M.length:=(hws p (by simp)).1;have hPp:P p:=(hws p (by simp)).2;have eIL:IL (r++[p])=IL r++[V.int (p:Int)]:=by simp[IL]
 rw[eIL]at hw3
 refine⟨λσ H4=>∃m' x4 ws S',σ=[some (.ref ba),some (.ref la),some (.ref d),some (.ref w),x4]/\H4 w=some (.lst (IL ws))/\H4 d=some (.dK (KS S'))/\j5 H H4/\S'.Nodup/\(∀x∈S',x<M.length)/\(∀x∈ws,x<M.length/\P x)/\(∀x∈S',P x) /\
  (∀x∈bs,x∈S'\/x∈ws)/\(∀k∈S',∀l,M[k]?=some l->∀t∈l,t∈S'\/t∈ws)/\ws.length<=400+S'.length * B/\m'=(M.length - S'.length) * (B+1)+ws.length/\m'<(M.length - S.length) * (B+1)+(r++[p]).length,?_,?_⟩
 .rintro σ' H4 ⟨m',x4,ws,S',e,r1,r2,r3,r4,r5,r6,r6',r7,r8,r9,r10,r11⟩;exact⟨m',r11,x4,ws,S',e,r1,r2,r3,r4,r5,r6,r6',r7,r8,r9,r10⟩
 nofun
 specialize d1z ?_;exists ⟨a0E hw3,d1G hw3 ?_⟩;have sW:j5 H (upd H3 w (.lst (IL r))):=λb o e=>by rw[i9 (f6 e hw0)];exact s3 b o e
 have hdW:(upd H3 w (.lst (IL r))) d=some (.dK (KS S)):=by rw[i9 ndw];exact hd3
 have hwW:(upd H3 w (.lst (IL r))) w=some (.lst (IL r)):=c7;obtain⟨H4,hH4⟩:∃H4,H4=upd H3 w (.lst (IL r)):=⟨_,rfl⟩;rw[<-hH4]at sW hdW hwW ⊢;rw[u5,X0]at c3 ⊢;specialize a2l ?_;obtain⟨o,g1,g2⟩:=a4K hdW p;refine⟨d,o,rfl,g1,?_⟩;rw[g2]
 ext
 by_cases hps:p∈S
 .exists z4 (by rw[d4E hps];rfl) ?_;refine⟨_,_,r,S,rfl,hwW,hdW,sW,nd,hS,λx hx=>hws x (v9 _ hx),hP,λx hx=>?_,λa ha l hl' t ht=>?_,by omega,rfl,by omega⟩
  .rcases c1 x hx with z | z
   .exact .inl z
   .rcases v7.mp z with q | q
    .exact .inr q
    .exact .inl (l7.mp q ▸ hps)
  .rcases c2 a ha l hl' t ht with z | z
   .exact .inl z
   .rcases v7.mp z with q | q
    .exact .inr q
    .exact .inl (l7.mp q ▸ hps)
 refine C6 (by rw[d4D hps];rfl) ?_;obtain⟨xs,y,f1,f2,f3,_⟩:=(hm.same sW).at (P7 hp);obtain⟨l,hle⟩:∃l,l=M[p]:=⟨_,rfl⟩;have hlp:M[p]?=some l:=by rw[hle];exact P7 hp
 rw[<-hle]at f3;obtain⟨b1,b2⟩:=hl l (mI hlp);have hput:a3U S p=S++[p]:=by unfold a3U;rw[if_neg hps]
 have hS1:S.length<M.length:=by
  have:=a4d _ _ (a6u (k:=p) nd) λx hx=>(X4.mp hx).elim (hS x) λz=>z ▸ hp
  rw[hput,u5,X0]at this;omega
 exact_mod_cast L4 ?_;specialize a7C ?_;refine⟨d,_,rfl,a9j hdW (by omega) p,?_⟩;rw[hput];obtain⟨H5,hH5⟩:∃H5,H5=upd H4 d (.dK (KS (S++[p]))):=⟨_,rfl⟩;have hd5:H5 d=some (.dK (KS (S++[p]))):=hH5 ▸ c7;have oth:∀b o,H4 b=some o->b≠d->H5 b=some o:=λb o e n=>by rw[hH5,i9 n];exact e
 have s5:j5 H H5:=λb o e=>oth b o (sW b o e) (f6 e hd)
 rw[<-hH5];have hw5:=oth w _ hwW (Ne.symm ndw);have fx5:=oth _ _ f1 (O9 f1 hdW (by intro z;cases z));have fy5:=oth _ _ f3 (O9 f3 hdW (by intro z;cases z))
 ext
 specialize a9s ?_;exists ⟨a0E hw5,?_⟩;refine M0 fx5 f2 ?_;have hSB:S.length * B<=400 * 800:=Nat.mul_le_mul (by omega) hB
 ext
 refine b9d hw5 fy5 (big (by rw[J9,J9];omega)) ?_;have e6:IL r++IL l=IL (r++l):=by simp[IL]
 rw[e6]
 ext
 have key:(M.length - (S.length+1)) * (B+1)+(B+1)=(M.length - S.length) * (B+1):=by
  rw[<-c4i];congr 1;omega
 refine⟨_,_,r++l,S++[p],rfl,c7,by rw[i9 ndw];exact hd5,λb o e=>by rw[i9 (f6 e hw0)];exact s5 b o e,hput ▸ a6u nd,λx hx=>?_,λx hx=>?_,λx hx=>(v7.mp hx).elim (hP x) λq=>l7.mp q ▸ hPp,λx hx=>?_,λa ha l' hl' t ht=>?_,?_,rfl,?_⟩
 .rcases v7.mp hx with q | q
  .exact hS x q
  .rw[l7.mp q];exact hp
 .rcases v7.mp hx with q | q
  .exact hws x (v9 _ q)
  .exact⟨b2 x q,p1 p l hPp hlp x q⟩
 .rcases c1 x hx with z | z
  .exact .inl (v9 _ z)
  .rcases v7.mp z with q | q
   .exact .inr (v9 _ q)
   .exact .inl (D3 _ q)
 .rcases v7.mp ha with q | q
  .rcases c2 a q l' hl' t ht with z | z
   .exact .inl (v9 _ z)
   .rcases v7.mp z with u | u
    .exact .inr (v9 _ u)
    .exact .inl (D3 _ u)
  .rw[l7.mp q,hlp]at hl';cases hl';exact .inr (D3 _ ht)
 .rw[u5,u5,X0,c4i];omega
 .rw[u5,u5,X0];omega
def b6b{K:Fg}(hn:N8 H na N)(hv:a0i N)(k:∀H',j5 H H'->Q .non H'):a4F K [.ref na] H Q E:=by
 refine⟨rfl,?_⟩;unfold b0N
 nofun
 exists E4 (by simp) λp1 H1 hp1 e1 s1=>?_
 exists b4v (bs:=[0]) (B:=2) e1 (hn.same s1) hv.le (by decide) (λl hl=>⟨hv.two l hl,hv.lt l hl⟩) (by simpa using hv.pos) (by simp) (λ_=>True) (λ_ _=>trivial) (λ_ _ _ _ _ _=>trivial) λd1 S1 H2 hd1 nd1 hS1 hb1 cl1 _ s2=>?_
 have in1:∀x,Rc N x->x∈S1:=by
  intro x h;induction h with
  |zero=>exact hb1 0 (by simp)
  |@step a t l _ hl ht ih=>exact cl1 a ih l hl t ht
 nofun
 exists b8L ((hn.same s1).same s2) hv.le λsa H3 _ e3 s3=>?_
 exists c2X (((hn.same s1).same s2).same s3) hv.le hv.two hv.lt λta M H4 m4 lM hM1 hM2 _ s4=>?_
 have lst:(b7b N).length<=N.length:=by
  have:=G6 (a8S N) (A1 N.length)
  rwa [a2N]at this
 have hle:=hv.le
 refine b4v (bs:=b7b N) (B:=2 * N.length) (s4 _ _ e3) m4 (by omega) (by omega) (λl hl=>⟨(hM2 l hl).1,by rw[lM];exact(hM2 l hl).2⟩) (λx hx=>by
  rw[lM];exact U0.mp (U4.mp hx).1) (by omega) (λ_=>True) (λ_ _=>trivial) (λ_ _ _ _ _ _=>trivial) λd2 S2 H5 hd2 nd2 hS2 hb2 cl2 _ s5=>?_
 have in2:∀x,Gd N x->x∈S2:=by
  intro x h;induction h with
  |@stop a h=>exact hb2 a (c3F h)
  |@step a t l h ht _ ih=>
   obtain⟨l',q1,q2⟩:=hM1 a l h t ht;exact cl2 t ih l' q1 a q2
 have s05:=(((s1.trans s2).trans s3).trans s4).trans s5;have hd1':H5 d1=_:=s5 _ _ (s4 _ _ (s3 _ _ hd1));obtain⟨ys,hy,ly⟩:=(hn.same s05).len
 ext
 specialize a1S (a3K ?_);refine O3 hy ?_;refine⟨N.length,by rw[ly],by omega,by omega,?_⟩;rw[C9];refine a1K (λi σ H6=>∃x3,σ=[some (.ref na),some (.ref d1),some (.ref d2),x3]/\H6=H5) ⟨_,rfl,rfl⟩ ?_ ?_
 .rintro i _ H6 hi ⟨x3,rfl,rfl⟩
  ext
  rw[a1X];specialize a2l ?_;obtain⟨o,g1,g2⟩:=a4K hd1' i;refine⟨d1,o,rfl,g1,?_⟩;rw[g2,d4E (in1 i (hv.rc i hi))]
  ext
  exists z4 rfl ?_;specialize a2l ?_;obtain⟨o',g1',g2'⟩:=a4K hd2 i;refine⟨d2,o',rfl,g1',?_⟩;rw[g2',d4E (in2 i (hv.gd i hi))]
  ext
  exists z4 rfl ?_;exact⟨_,rfl,rfl⟩
 .rintro _ H6 ⟨x3,rfl,rfl⟩;exact k _ s05
abbrev Stp:=Int×Int
variable{s:Stp}{B:List Stp}
def FST:Stp:=(-1,0)
def a3G(N:Nt)(p:Nat):List Stp:=(A1 (N.getD p []).length).map λ(a:Nat)=>((p:Int),(a:Int))
def a5I(N:Nt)(i:Nat):List Stp:=FST::(A1 i).flatMap (a3G N)
def K5(N:Nt):List Stp:=a5I N N.length
def a0p(N:Nt)(s:Stp):Nat:=if s=FST then 0 else (N.getD s.1.toNat []).getD s.2.toNat 0
def a8E(N:Nt)(i:Nat):a5I N (i+1)=a5I N i++a3G N i:=by
 unfold a5I;rw[a1Z,List.flatMap_append];simp
def a5i(N:Nt)(s:Stp):Prop:=s=FST\/∃(p q:Nat) (l:List Nat) (t:Nat),s=((p:Int),(q:Int))/\N[p]?=some l/\l[q]?=some t
def a4D(h:s∈K5 N):a5i N s:=by
 rcases t8.mp h with z | z
 .exact .inl z
 .obtain⟨p,hp,q⟩:=c9q.mp z;have hp:=U0.mp hp;obtain⟨a,ha,rfl⟩:=F5.mp q;have ha:=U0.mp ha;have e:N.getD p []=N[p]:=by simp[Q2,hp]
  rw[e]at ha;exact .inr ⟨p,a,N[p],N[p][a],rfl,P7 hp,by simp⟩
def b7O(hv:a0i N)(h:a5i N s):a0p N s<N.length:=by
 unfold a0p;rcases h with rfl | ⟨p,q,l,t,rfl,h1,h2⟩
 .rw[if_pos rfl];exact hv.pos
 .split
  .exact hv.pos
  .have:(N.getD ((p:Int),(q:Int)).1.toNat []).getD ((p:Int),(q:Int)).2.toNat 0=t:=by
    show(N.getD (p:Int).toNat []).getD (q:Int).toNat 0=t;rw[C9,C9];simp[Q2,h1,h2]
   rw[this];exact hv.lt l (mI h1) t (mI h2)
def a0W(K:Fg)(H:Hp)(a:Addr)(s:Stp):Prop:=H a=some (.tup [.int s.1,.int s.2])\/(s=FST/\∀H,SqT K H a [.int (-1),.int 0])
def a0W.ts{K:Fg}(h:a0W K H a s)(t:J2 H H'):a0W K H' a s:=by
 rcases h with h | h
 .exact .inl (t _ _ h)
 .exact .inr h
def a0W.sq{K:Fg}(h:a0W K H a s):SqT K H a [.int s.1,.int s.2]:=by
 rcases h with h | ⟨e,h⟩
 .exact SqT.of h
 .subst e;exact h H
structure Q3(K:Fg)(H:Hp)(l:Addr)(S:List Stp):Prop where
 ex:∃vs:List Addr,H l=some (.lst (vs.map V.ref))/\vs.length=S.length/\∀(i:Nat) x s,vs[i]?=some x->S[i]?=some s->a0W K H x s
def Q3.same{K:Fg}{l:Addr}{S:List Stp}(h:Q3 K H l S)(s:j5 H H'):Q3 K H' l S:=by
 obtain⟨vs,h1,h2,h3⟩:=h.ex;exact⟨vs,s _ _ h1,h2,λi x t e1 e2=>(h3 i x t e1 e2).ts (j5.ts s)⟩
def Q3.kept{K:Fg}{b c l:Addr}{S:List Stp}(h:Q3 K H l S)(hB:Bag H b c)(k:D0 b H H'):Q3 K H' l S:=by
 obtain⟨vs,h1,h2,h3⟩:=h.ex;exact⟨vs,k.1 _ _ h1 (a1c hB h1),h2,λi x t e1 e2=>(h3 i x t e1 e2).ts (D0.ts k hB)⟩
def Q3.put{K:Fg}{l y:Addr}{S:List Stp}(h:Q3 K H l S)(hy:H y=some (.lst xs))(n:l≠y):Q3 K (upd H y (.lst ys)) l S:=by
 obtain⟨vs,h1,h2,h3⟩:=h.ex;exact⟨vs,by rw[i9 n];exact h1,h2,λi x t e1 e2=>(h3 i x t e1 e2).ts (J2.put hy)⟩
def b2U{K:Fg}{c:Cn}(ck:X6 K c)(hn:N8 H na N)(h400:N.length<=400)(h2:∀l∈N,l.length<=2)
  (k:∀a H',H a=none->Q3 K H' a (K5 N)->j5 H H'->Q (.ref a) H'):a4Q K c [.ref na] H Q E:=by
 obtain⟨ns,a1,a2,a3⟩:=id hn.ex;refine⟨rfl,?_⟩;unfold b4b
 nofun
 exists E4 (by simp) λD H1 hD e1 s1=>?_
 exact_mod_cast L4 ?_;specialize a1S (a5p ?_);refine⟨na,rfl,⟨_,SqL.of (s1 _ _ a1)⟩,?_⟩;refine b5e N.length (λi σ H2=>∃x2 x3 vs,σ=[some (.ref na),some (.ref D),x2,x3]/\H2 D=some (.lst ((vs:List Addr).map V.ref))/\vs.length=(a5I N i).length/\vs.length<=1+2 * i/\(∀(j:Nat) x s,vs[j]?=some x->(a5I N i)[j]?=some s->a0W K H2 x s)/\j5 H H2) ?_ ?_ ?_ ?_
 .refine⟨_,_,[c.N7],rfl,e1,rfl,by simp,λj x s f1 f2=>?_,s1⟩;cases j with
  |zero=>
   cases f1;cases f2;exact .inr ⟨rfl,ck.W9⟩
  |succ j=>simp at f1
 .rintro _ H2 ⟨x2,x3,vs,rfl,hD2,lv,_,at2,s2⟩;exists ⟨⟨_,SqL.of (s2 _ _ a1),by rw[b8,a2];exact j8 _⟩,?_⟩;exact k D H2 hD ⟨vs,hD2,lv,at2⟩ s2
 .rintro i _ H2 hi ⟨x2,x3,vs,rfl,hD2,lv,_,at2,s2⟩;exact⟨_,_,SqL.of (s2 _ _ a1),by rw[b6,c8 (show i<ns.length by omega)];rfl⟩
 .rintro i _ H2 hi ⟨x2,x3,vs,rfl,hD2,lv,lv2,at2,s2⟩ x H3 ⟨p,y,hp,rfl,rfl,gy⟩;obtain⟨nx,f1⟩:∃nx,ns[i]?=some nx:=⟨_,c8 (by omega)⟩;have gy:=gy _ (SqL.of (s2 _ _ a1));rw[b6,f1]at gy;cases gy;refine a7B (SqT.of c7) ?_;have s3:j5 H2 (upd H2 p (.tup [V.int (i:Int),V.ref nx])):=A2 hp;obtain⟨H3,hH3⟩:∃H3,H3=upd H2 p (.tup [V.int (i:Int),V.ref nx]):=⟨_,rfl⟩;rw[<-hH3]at s3 ⊢;have s03:=s2.trans s3;have hl:=P7 hi;obtain⟨l,hle⟩:∃l,l=N[i]:=⟨_,rfl⟩;rw[<-hle]at hl;have hll:=h2 l (mI hl);have hx:=s03 _ _ (a3 i nx l f1 hl)
  ext
  specialize a9s ?_;exists ⟨a0E (s3 _ _ hD2),?_⟩;specialize Y9 (a3K ?_);refine O3 hx ?_;rw[J9];refine⟨l.length,rfl,by omega,by omega,λA hA=>?_⟩;rw[C9];refine b1w (λj ys H4=>∃ws:List Addr,ys=ws.map V.ref/\ws.length=j/\(∀(q:Nat) x,ws[q]?=some x->H4 x=some (.tup [.int (i:Int),.int (q:Int)]))/\H4 A=some (.lst ys)/\j5 H3 H4) ?_ ?_ ?_ ?_
  .exact⟨[],rfl,rfl,by simp,c7,A2 hA⟩
  .rintro j ys H4 ⟨_,_,_,_,h,_⟩;exact h
  .rintro j ys H4 hj ⟨ws,rfl,lw,at4,hA4,s4⟩ R hR
   ext
   refine E4 (by simp) λz H5 hz e5 s5=>?_
   rw[a1X]at e5;have nzA:z≠A:=(f6 hA4 hz).symm;refine hR _ _ (s5 _ _ hA4) (L5 (by rw[b8];omega)) ⟨ws++[z],by simp,by simp[lw],λq x hq=>?_,c7,λb o e=>?_⟩
   .rcases a0N hq with ⟨_,g⟩ | ⟨hq',g⟩
    .have:=s5 _ _ (at4 q x g);rw[i9 (O9 this (s5 _ _ hA4) (by intro z;cases z))];exact this
    .subst g;rw[i9 nzA,e5,hq',lw]
   .rw[i9 (f6 e hA)];exact s5 _ _ (s4 _ _ e)
  .rintro ys H4 ⟨ws,rfl,lw,at4,hA4,s4⟩
   ext
   have hD4:H4 D=_:=s4 _ _ (s3 _ _ hD2);have s04:=s03.trans s4;refine b9d hD4 hA4 (big (by rw[b8,b8];omega)) ?_;rw[<-F8]
   have hon:a3G N i=(A1 l.length).map λ(a:Nat)=>((i:Int),(a:Int)):=by
    unfold a3G;simp[Q2,hl]
   have hU:=a8E N i;have lon:(a3G N i).length=l.length:=by rw[hon];simp
   refine⟨_,_,vs++ws,rfl,c7,by rw[hU,u5,u5,lv,lw,lon],by rw[u5];omega,λj x s g1 g2=>?_,λb o e=>?_⟩
   .rw[hU]at g2;by_cases hj:j<vs.length
    .rw[o5 hj]at g1;rw[o5 (by omega)]at g2;exact((at2 j x s g1 g2).ts (j5.ts (s3.trans s4))).ts (J2.put hD4)
    .rw[J1 (by omega)]at g1;rw[J1 (by omega),<-lv,hon,b6]at g2
     have hq:j - vs.length<l.length:=by
      have:=(gI g1);omega
     rw[b1K hq]at g2;cases g2;have:=at4 _ _ g1;exact .inl (by rw[i9 (O9 this hD4 (by intro z;cases z))];exact this)
   .rw[i9 (f6 e hD)];exact s04 _ _ e
def c2K(c:Cn)(H:Hp)(x:Addr)(N:Nt):Prop:=∃dx fs n,H x=some (.ins c.M5 dx fs)/\fs.lookup ("nexts" : Str)=some (V.ref n)/\N8 H n N
def eq2(p q:Int):a2p [.int p,.int q] [.int (-1),.int 0]=decide ((p,q)=FST):=by
 unfold a2p;simp only[D4,a4f,Nat.zero_add,Nat.reduceAdd,c4j];rw[show A1 2=[0,1] from rfl];simp only[a1r,d2E,Bool.and_true,Q2,c1U,c1V,a4U,beq_self_eq_true];unfold FST;by_cases h:p = -1
 .by_cases h':q=0
  .subst h h';decide
  .subst h;simp[eqV,h']
 .simp[eqV,h]
def a6w{K:Fg}{c:Cn}{x:Addr}(ck:X6 K c)(hp:c2K c H x N)(ha:a0W K H a s)(hs:a5i N s)(k:Q (.int (a0p N s:Nat)) H):U2 K c [.ref x,.ref a] H Q E:=by
 refine⟨rfl,?_⟩;unfold a8h
 nofun
 refine⟨_,_,_,_,rfl,rfl,ha.sq,ck.W9 H,rfl,rfl,?_⟩;rw[eq2]
 ext
 by_cases e:s=FST
 .exists C6 (d4E e) ?_;unfold a0p at k;rw[if_pos e]at k;exact k
 .exists z4 (d4D e) ?_;rcases hs with z | ⟨p,q,l,t,rfl,h1,h2⟩
  .exact(e z).elim
  rcases ha with ha | ⟨z,_⟩
  rotate_left
  .exact(e z).elim
  obtain⟨dx,fs,n,hx,hf,hn⟩:=hp;specialize Q8 ?_;exists ⟨x,_,dx,fs,_,rfl,hx,ck.N4,ck.U5,hf,?_⟩;refine P0 ha (a2r _ _) ?_;obtain⟨xs,y,f1,f2,f3,_⟩:=hn.at h1;exists M0 f1 f2 ?_;refine P0 ha (a7k _ _ _) ?_;refine M0 f3 (c0g h2) ?_
  have:a0p N ((p:Int),(q:Int))=t:=by
   unfold a0p;rw[if_neg e];show(N.getD (p:Int).toNat []).getD (q:Int).toNat 0=t;rw[C9,C9];simp[Q2,h1,h2]
  rw[this]at k;exact k
structure c6D(K:Fg)(H0 H:Hp)(e:Addr)(es:List Addr)(P:List (List Stp)):Prop where
 same:j5 H0 H
 h:H e=some (.lst (es.map V.ref))
 len:es.length=P.length
 nd:es.Nodup
 na:e∉es
 at_:∀(i:Nat) y S,es[i]?=some y->P[i]?=some S->Q3 K H y S
 new:H0 e=none/\∀y∈es,H0 y=none
def c6D.add{K:Fg}{e:Addr}{es:List Addr}{P:List (List Stp)}(h:c6D K H0 H e es P){y:Addr}{S:List Stp}{vs:List Addr}(e1:es[t]?=some y)(e2:P[t]?=some S)(hy:H y=some (.lst (vs.map V.ref)))
  (lv:vs.length=S.length) (at2:∀(i:Nat) x s,vs[i]?=some x->S[i]?=some s->a0W K H x s) (ha:a0W K H a s):c6D K H0 (upd H y (.lst ((vs++[a]).map V.ref))) e es (P.set t (S++[s])):=by
 have hm:=mI e1;have ye:y≠e:=λz=>h.na (z ▸ hm)
 refine⟨λb o q=>by rw[i9 (f6 q (h.new.2 y hm))];exact h.same b o q,by rw[i9 ye.symm];exact h.h,by rw[a0Y];exact h.len,h.nd,h.na,λi z S' f1 f2=>?_,h.new⟩;by_cases q:i=t
 .subst q;rw[e1]at f1;cases f1;rw[M6 (gI e2)]at f2;cases f2;refine⟨vs++[a],c7,by simp[lv],λj x s' g1 g2=>?_⟩;rcases a0N g1 with ⟨_,k1⟩ | ⟨j1,k1⟩
  .rcases a0N g2 with ⟨_,k2⟩ | ⟨j2,k2⟩
   .exact(at2 j x s' k1 k2).ts (J2.put hy)
   .omega
  .rcases a0N g2 with ⟨_,k2⟩ | ⟨j2,k2⟩
   .omega
   .subst k1 k2;exact ha.ts (J2.put hy)
 .rw[O2 (Ne.symm q)]at f2
  have:z≠y:=by
   rintro rfl;exact q (c9d h.nd f1 e1)
  exact(h.at_ i z S' f1 f2).put hy this
structure a0z(K:Fg)(c:Cn)(H:Hp)(x:Addr)(N:Nt):Prop where
 ex:∃dx r n e es,H x=some (.ins c.M5 dx [("rows",.ref r),("nexts",.ref n),("entries",.ref e)])/\a0V H r N/\N8 H n N/\H e=some (.lst ((es:List Addr).map V.ref))/\es.length=N.length /\
  ∀(t:Nat) y,es[t]?=some y->Q3 K H y ((K5 N).filter λs=>decide (a0p N s=t))
structure a7m(K:Fg)(c:Cn)(Z:Addr->Prop)(rs:List Addr)(H:Hp)(x:Addr)(N:Nt):Prop where
 ex:∃dx r n e es ns,H x=some (.ins c.M5 dx [("rows",.ref r),("nexts",.ref n),("entries",.ref e)])/\(a0V H r N/\H r=some (.lst (rs.map V.ref)))/\H n=some (.lst ((ns:List Addr).map V.ref))/\ns.length=N.length/\(∀(i:Nat) y l,ns[i]?=some y->N[i]?=some l->H y=some (.lst (IL l))) /\
  H e=some (.lst ((es:List Addr).map V.ref))/\es.length=N.length/\(∀(t:Nat) y,es[t]?=some y->Q3 K H y ((K5 N).filter λs=>decide (a0p N s=t)))/\∀z,Z z->z≠r/\z≠n/\z≠e/\z∉ns/\z∉es
def a7m.at{K:Fg}{c:Cn}{x:Addr}(h:a7m K c Z rs H x N):a0z K c H x N:=by
 obtain⟨dx,r,n,e,es,ns,h1,⟨h2,h2r⟩,h3,h4,h5,h6,h7,h8,_⟩:=h.ex;exact⟨dx,r,n,e,es,h1,h2,⟨ns,h3,h4,h5⟩,h6,h7,h8⟩
def a7m.same{K:Fg}{c:Cn}{x:Addr}(h:a7m K c Z rs H x N)(s:j5 H H'):a7m K c Z rs H' x N:=by
 obtain⟨dx,r,n,e,es,ns,h1,⟨h2,h2r⟩,h3,h4,h5,h6,h7,h8,h9⟩:=h.ex;exact⟨dx,r,n,e,es,ns,s _ _ h1,⟨h2.same s,s _ _ h2r⟩,s _ _ h3,h4,λi y l a b=>s _ _ (h5 i y l a b),s _ _ h6,h7,λt y q=>(h8 t y q).same s,h9⟩
def a7m.kept{K:Fg}{c:Cn}{b x:Addr}(h:a7m K c Z rs H x N)(hB:Bag H b d)(h2':∀l∈N,l.length<=2)(k:D0 b H H'):a7m K c Z rs H' x N:=by
 obtain⟨dx,r,n,e,es,ns,h1,⟨h2,h2r⟩,h3,h4,h5,h6,h7,h8,h9⟩:=h.ex;obtain⟨bs,hb⟩:=hB.lst;refine⟨dx,r,n,e,es,ns,k.1 _ _ h1 (O9 h1 hb (by intro z;cases z)),⟨h2.kept hB k,k.1 _ _ h2r (a1c hB h2r)⟩,k.1 _ _ h3 (a1c hB h3),h4,λi y l a b=>?_,k.1 _ _ h6 (a1c hB h6),h7,λt y q=>(h8 t y q).kept hB k,h9⟩;have q:=h5 i y l a b;exact k.1 _ _ q (b4k hB q (by rw[J9];have:=h2' l (mI b);omega))
def a0z.same{K:Fg}{c:Cn}{x:Addr}(h:a0z K c H x N)(s:j5 H H'):a0z K c H' x N:=by
 obtain⟨dx,r,n,e,es,h1,h2,h3,h4,h5,h6⟩:=h.ex;exact⟨dx,r,n,e,es,s _ _ h1,h2.same s,h3.same s,s _ _ h4,h5,λt y q=>(h6 t y q).same s⟩
def a0z.x{K:Fg}{c:Cn}{x:Addr}(h:a0z K c H x N):c2K c H x N:=by
 obtain⟨dx,r,n,e,es,h1,h2,h3,_⟩:=h.ex;exact⟨dx,_,n,h1,rfl,h3⟩
def N8.ins{H:Hp}{a x C dx:Addr}{N:Nt}{fs:List (Str×V)}{o:HO}(h:N8 H a N)(hx:H x=some (.ins C dx fs)):N8 (upd H x o) a N:=by
 obtain⟨as,q1,q2,q3⟩:=h.ex
 exact⟨as,by rw[i9 (O9 q1 hx (by intro z;cases z))];exact q1,q2,λj y l e1 e2=>by
  have q:=q3 j y l e1 e2;rw[i9 (O9 q hx (by intro z;cases z))];exact q⟩
def J2.ins{H:Hp}{x C dx:Addr}{fs:List (Str×V)}{o:HO}(hx:H x=some (.ins C dx fs)):J2 H (upd H x o):=λa xs e=>by
 rw[i9 (O9 e hx (by intro z;cases z))];exact e
def a0V.ins{H:Hp}{a x C dx:Addr}{N:Nt}{fs:List (Str×V)}{o:HO}(h:a0V H a N)(hx:H x=some (.ins C dx fs)):a0V (upd H x o) a N:=by
 obtain⟨as,q1,q2,q3⟩:=h.ex;exact⟨as,by rw[i9 (O9 q1 hx (by intro z;cases z))];exact q1,q2,λj y l e1 e2=>(q3 j y l e1 e2).ts (J2.ins hx)⟩
def a7c(h:∀l∈N,l.length<=2):(K5 N).length<=1+2 * N.length:=by
 have go:∀i,i<=N.length->(a5I N i).length<=1+2 * i:=by
  intro i;induction i with
  |zero=>intro _;show 1<=1;exact j8 _
  |succ i ih=>
   intro hi;rw[a8E,u5];have:=ih (by omega)
   have h2:(a3G N i).length<=2:=by
    unfold a3G;rw[b8,a2N];have e:N.getD i []=N[i]:=by simp[Q2,show i<N.length by omega]
    rw[e];exact h _ (M9 _)
   omega
 exact go _ (j8 _)
def c1G{S:List Stp}{f:Stp->Nat}(h:S[i]?=some s):(S.take (i+1)).filter (λs=>decide (f s=t))=(S.take i).filter (λs=>decide (f s=t))++(if f s=t then [s] else []):=by
 rw[L3,h,X9];congr 1;by_cases e:f s=t
 .rw[if_pos e];simp[e]
 .rw[if_neg e];simp[e]
def b7A{K:Fg}{c:Cn}{x ra:Addr}(ck:X6 K c)(hrs:H ra=some (.lst (rs.map V.ref)))(hr:a0V H ra N)(hn:N8 H na N)(hv:a0i N)(hx:H x=some (.ins c.M5 dx []))
  (k:∀H',a7m K c (λz=>∃o,H z=some o/\z≠x) rs H' x N->(∀b o,H b=some o->b≠x->H' b=some o)->Q .non H'):a5o K c [.ref x,.ref ra,.ref na] H Q E:=by
 obtain⟨rs',r1,r2,r3⟩:=id hr.ex
 obtain rfl:rs'=rs:=by
  rw[hrs]at r1;exact(a6T (f:=V.ref) (λa b h=>V.ref.inj h) |>.mp (HO.lst.inj (Option.some.inj r1))).symm
 obtain⟨ns,n1,n2,n3⟩:=id hn.ex;have hpos:=hv.pos;have h400:=hv.le;refine⟨rfl,?_⟩;unfold b2T
 nofun
 exists b3z r1 (by rw[b8];omega) (by rw[b8];omega) ?_
 nofun
 specialize Y9 (V8 ?_);refine⟨ra,rfl,⟨_,SqL.of r1⟩,λD hD=>?_⟩;refine X5 (xs:=rs'.map V.ref) (λi ys H2=>ys=p8 i (V.bl true)/\H2 D=some (.lst ys)/\j5 H H2) ⟨rfl,c7,A2 hD⟩ ?_ ?_ ?_ ?_
 .rintro i ys H2 ⟨_,h,_⟩;exact h
 .rintro i ys H2 _ ⟨_,_,s2⟩;exact SqL.of (s2 _ _ r1)
 .rintro i y ys H2 hy ⟨rfl,hD2,s2⟩ R hR;rw[b6]at hy;cases hrx:rs'[i]? with
  |none=>rw[hrx]at hy;cases hy
  |some rx=>
   rw[hrx]at hy;cases hy;have hi:i<N.length:=by rw[<-r2];exact(gI hrx)
   ext
   refine c3K ck ((r3 i rx _ hrx (P7 hi)).ts (j5.ts s2)) λH3 s3=>?_
   refine hR _ _ (s3 _ _ hD2) (L5 (by rw[A8];omega)) ⟨b0L i,c7,λb o e=>?_⟩;rw[i9 (f6 e hD)];exact s3 _ _ (s2 _ _ e)
 rintro ys H2 ⟨rfl,hD2,s2⟩
 ext
 refine a6Q hD2 λH3 s3=>?_
 have s03:=s2.trans s3
 ext
 nofun
 refine b5m (hr.same s03) (hn.same s03) h400 hv.two hv.lt λH4 s4=>?_
 have s04:=s03.trans s4
 ext
 nofun
 refine b6b (hn.same s04) hv λH5 s5=>?_
 have s05:=s04.trans s5
 ext
 exact_mod_cast L4 ?_;specialize a0O ?_;refine a4I (s05 _ _ r1) λrp H6 hrp e6 s6=>?_
 have s06:=s05.trans s6
 ext
 refine⟨x,_,dx,[],rfl,s06 _ _ hx,ck.N4,ck.P3,by simp,?_⟩;obtain⟨H7,hH7⟩:∃H7,H7=upd H6 x (.ins c.M5 dx (O4 "rows" (.ref rp) [])):=⟨_,rfl⟩;have x7:H7 x=some (.ins c.M5 dx [("rows",.ref rp)]):=hH7 ▸ c7;have f7:∀b o,H6 b=some o->b≠x->H7 b=some o:=λb o e n=>by rw[hH7,i9 n];exact e
 have rows7:a0V H7 rp N:=by
  have q:a0V H6 rp N:=⟨rs',e6,r2,λi y l a b=>(r3 i y l a b).ts (j5.ts s06)⟩;rw[hH7];exact q.ins (s06 _ _ hx)
 have net7:N8 H7 na N:=by rw[hH7];exact(hn.same s06).ins (s06 _ _ hx)
 have ra7:H7 ra=some (.lst (rs'.map V.ref)):=f7 _ _ (s06 _ _ r1) (O9 r1 hx (by intro z;cases z));rw[<-hH7];clear hH7;exact_mod_cast L4 ?_;exact_mod_cast a0O ?_;exact_mod_cast Y9 (V8 ?_);obtain⟨ns',m1,m2,m3⟩:=id net7.ex
 ext
 refine⟨na,rfl,⟨_,SqL.of m1⟩,λnp hnp=>?_⟩;refine X5 (xs:=ns'.map V.ref) (λi ys H8=>∃as:List Addr,ys=as.map V.ref/\as.length=i/\(∀(j:Nat) y l,as[j]?=some y->N[j]?=some l->H8 y=some (.lst (IL l))/\y≠np)/\H8 np=some (.lst ys)/\j5 H7 H8/\∀y∈as,H7 y=none) ?_ ?_ ?_ ?_ ?_
 .exact⟨[],rfl,rfl,by simp,c7,A2 hnp,by simp⟩
 .rintro i ys H8 ⟨_,_,_,_,h,_⟩;exact h
 .rintro i ys H8 _ ⟨_,_,_,_,_,s8,_⟩;exact SqL.of (s8 _ _ m1)
 .rintro i y ys H8 hy ⟨as,rfl,la,at8,hnp8,s8,fr8⟩ R hR;rw[b6]at hy;cases hnx:ns'[i]? with
  |none=>rw[hnx]at hy;cases hy
  |some nx=>
   rw[hnx]at hy;cases hy;have hi:i<N.length:=by rw[<-m2];exact(gI hnx)
   ext
   refine a4I (s8 _ _ (m3 i nx _ hnx (P7 hi))) λq H9 hq e9 s9=>?_
   have nq:q≠np:=(f6 hnp8 hq).symm;refine hR _ _ (s9 _ _ hnp8) (L5 (by rw[b8];omega)) ⟨as++[q],by simp,by simp[la],λj y l g1 g2=>?_,c7,λb o e=>?_,λy hy=>?_⟩
   .rcases a0N g1 with ⟨_,f1⟩ | ⟨hj,f1⟩
    .obtain⟨f2,f3⟩:=at8 j y l f1 g2;exact⟨by rw[i9 f3];exact s9 _ _ f2,f3⟩
    .rw[hj,la,P7 hi]at g2;cases g2;subst f1;exact⟨by rw[i9 nq];exact e9,nq⟩
   .rw[i9 (f6 e hnp)];exact s9 _ _ (s8 _ _ e)
   .rcases v7.mp hy with z | z
    .exact fr8 y z
    .rw[l7.mp z];exact s8.free hq
 rintro ys H8 ⟨as,rfl,la,at8,hnp8,s8,fr8⟩;rw[b8,m2]at la;have net8:N8 H8 np N:=⟨as,hnp8,la,λi y l a b=>(at8 i y l a b).1⟩
 ext
 refine⟨x,_,dx,_,rfl,s8 _ _ x7,ck.N4,ck.U5,by simp,?_⟩;obtain⟨H9,hH9⟩:∃H9,H9=upd H8 x (.ins c.M5 dx (O4 "nexts" (.ref np) [("rows",.ref rp)])):=⟨_,rfl⟩
 have x9:H9 x=some (.ins c.M5 dx [("rows",.ref rp),("nexts",.ref np)]):=by
  rw[hH9,c7];simp only[O4];rw[if_neg (by decide)]
 have f9:∀b o,H8 b=some o->b≠x->H9 b=some o:=λb o e n=>by rw[hH9,i9 n];exact e
 have rows9:a0V H9 rp N:=by rw[hH9];exact(rows7.same s8).ins (s8 _ _ x7)
 have net9:N8 H9 np N:=by rw[hH9];exact net8.ins (s8 _ _ x7)
 have ra9:H9 ra=some (.lst (rs'.map V.ref)):=f9 _ _ (s8 _ _ ra7) (O9 ra7 x7 (by intro z;cases z));rw[<-hH9];clear hH9;exact_mod_cast L4 ?_;exact_mod_cast a0O ?_;specialize Y9 (V8 ?_);refine⟨ra,rfl,⟨_,SqL.of ra9⟩,λep hep=>?_⟩;refine X5 (xs:=rs'.map V.ref) (λi ys H10=>∃es,ys=es.map V.ref/\a8V H9 H10 ep es (p8 i [])) ?_ ?_ ?_ ?_ ?_
 .exact⟨[],rfl,.nil hep (A2 hep) c7⟩
 .rintro i ys H10 ⟨es,rfl,I⟩;exact I.h
 .rintro i ys H10 _ ⟨es,rfl,I⟩;exact SqL.of (I.same _ _ ra9)
 .rintro i y ys H10 hy ⟨es,rfl,I⟩ R hR
  have hi:i<N.length:=by
   have:=(gI hy);rw[b8,r2]at this;exact this
  ext
  refine E4 (by simp) λp H11 hp e11 s11=>?_
  have:=I.len;rw[A8]at this;refine hR _ _ (s11 _ _ I.h) (L5 (by rw[b8];omega)) ⟨es++[p],by simp,?_⟩;have q:=I.snoc hp e11 s11;rw[show p8 i ([]:List Nat)++[[]]=p8 (i+1) [] from by rw[b0C]]at q;rw[show es.map V.ref++[V.ref p]=(es++[p]).map V.ref by simp];exact q
 rintro ys H10 ⟨es,rfl,I10⟩;rw[b8,r2]at I10
 ext
 have x10:=I10.same _ _ x9;refine⟨x,_,dx,_,rfl,x10,ck.N4,ck.a1H,by simp,?_⟩;obtain⟨F,hF⟩:∃F:List (Str×V),F=([("rows",.ref rp),("nexts",.ref np),("entries",.ref ep)]:List (Str×V)):=⟨_,rfl⟩
 have hput:O4 "entries" (.ref ep) [("rows",.ref rp),("nexts",.ref np)]=F:=by
  rw[hF];simp only[O4];rw[if_neg (by decide),if_neg (by decide)]
 rw[hput];obtain⟨H11,hH11⟩:∃H11,H11=upd H10 x (.ins c.M5 dx F):=⟨_,rfl⟩;obtain⟨H0,hH0⟩:∃H0,H0=upd H9 x (.ins c.M5 dx F):=⟨_,rfl⟩;have x0:H0 x=some (.ins c.M5 dx F):=hH0 ▸ c7;have f0:∀b o,H9 b=some o->b≠x->H0 b=some o:=λb o e n=>by rw[hH0,i9 n];exact e
 have rows0:a0V H0 rp N:=by rw[hH0];exact rows9.ins x9
 have net0:N8 H0 np N:=by rw[hH0];exact net9.ins x9
 have np0:H0 np=some (.lst (as.map V.ref)):=by
  have:=f9 _ _ hnp8 (O9 hnp8 (s8 _ _ x7) (by intro z;cases z));exact f0 _ _ this (O9 this x9 (by intro z;cases z))
 have rp0:H0 rp=some (.lst (rs'.map V.ref)):=by
  have q:=s8 _ _ (f7 _ _ e6 (O9 e6 (s06 _ _ hx) (by intro z;cases z)));have q:=f9 _ _ q (O9 q (s8 _ _ x7) (by intro z;cases z));exact f0 _ _ q (O9 q x9 (by intro z;cases z))
 have at0:∀(i:Nat) y l,as[i]?=some y->N[i]?=some l->H0 y=some (.lst (IL l)):=λi y l a b=>by
  have q:=(at8 i y l a b).1;have q:=f9 _ _ q (O9 q (s8 _ _ x7) (by intro z;cases z));exact f0 _ _ q (O9 q x9 (by intro z;cases z))
 have old9:∀b o,H b=some o->b≠x->H9 b=some o:=λb o e n=>f9 _ _ (s8 _ _ (f7 _ _ (s06 _ _ e) n)) n
 have ent11:c6D K H0 H11 ep es (p8 N.length []):=by
  have nxe:x≠ep:=f6 x9 hep;have nxes:∀y∈es,x≠y:=λy hy=>f6 x9 (I10.new.2 y hy)
  refine⟨λb o e=>?_,by rw[hH11,i9 nxe.symm];exact I10.h,by rw[A8];have:=I10.len;rwa [A8]at this,I10.nd,I10.na,λi y S a b=>?_,by rw[hH0,i9 nxe.symm];exact hep,λy hy=>by rw[hH0,i9 (nxes y hy).symm];exact I10.new.2 y hy⟩
  .rw[hH0]at e;rw[hH11];by_cases q:b=x
   .subst q;rw[c7]at e ⊢;exact e
   .rw[i9 q]at e ⊢;exact I10.same _ _ e
  .have hi:=(gI b);rw[A8]at hi;have q:=I10.at_ i y [] a (by rw[N3,if_pos hi]);rw[N3,if_pos hi]at b;cases b;refine⟨[],?_,rfl,by simp⟩;rw[hH11,i9 (O9 q x10 (by intro z;cases z))];exact q
 have old:∀b o,H b=some o->b≠x->H0 b=some o:=λb o e n=>f0 _ _ (f9 _ _ (s8 _ _ (f7 _ _ (s06 _ _ e) n)) n) n
 rw[<-hH11];clear hH11 hH0 I10 x10 f0 f9 x9 ra9 net9 rows9;specialize a1S (V8 ?_);specialize Q8 ?_;exists ⟨x,_,dx,F,.ref np,rfl,ent11.same _ _ x0,ck.N4,ck.U5,by rw[hF];rfl,?_⟩;refine b2U ck (net0.same ent11.same) h400 hv.two λsl H12 hsl S12 s12=>?_
 obtain⟨vs,v1,v2,v3⟩:=id S12.ex
 have nsl:sl∉es:=λz=>by
  obtain⟨i,hi⟩:=C8.mp z
  have hil:i<N.length:=by
   have:=ent11.len;rw[A8]at this;rw[<-this];exact(gI hi)
  obtain⟨ws,w1,_⟩:=(ent11.at_ i sl [] hi (by rw[N3,if_pos hil])).ex;rw[hsl]at w1;cases w1
 refine⟨sl,rfl,⟨_,SqL.of v1⟩,a6a (xs:=vs.map V.ref) (λi σ H13=>∃x3 P,σ=[some (.ref x),some (.ref ra),some (.ref na),x3]/\c6D K H0 H13 ep es P/\P.length=N.length/\(∀t,t<N.length->P[t]?=some (((K5 N).take i).filter λs=>decide (a0p N s=t)))/\Q3 K H13 sl (K5 N)/\H13 sl=some (.lst (vs.map V.ref))) ?_ ?_ ?_ ?_⟩
 .refine⟨_,p8 N.length [],rfl,⟨ent11.same.trans s12,s12 _ _ ent11.h,ent11.len,ent11.nd,ent11.na,λi y S a b=>(ent11.at_ i y S a b).same s12,ent11.new⟩,by simp,λt ht=>by rw[N3,if_pos ht];simp,S12,v1⟩
 .rintro i σ H13 _ ⟨_,_,_,_,_,_,_,h⟩;exact SqL.of h
 .rintro i y _ H13 hy ⟨x3,P,rfl,I13,lP,hP,S13,hsl13⟩;rw[b6]at hy;cases hvx:vs[i]? with
  |none=>rw[hvx]at hy;cases hy
  |some vx=>
   rw[hvx]at hy;cases hy;obtain⟨ws,w1,w2,w3⟩:=S13.ex
   have ews:ws=vs:=by
    rw[hsl13]at w1;have:=a6T (f:=V.ref) (λa b h=>V.ref.inj h) |>.mp (HO.lst.inj (Option.some.inj w1))
    exact this.symm
   subst ews;have hi:i<(K5 N).length:=by rw[<-w2];exact(gI hvx)
   obtain⟨s,hs⟩:∃s,(K5 N)[i]?=some s:=⟨_,c8 hi⟩;have hst:=w3 i vx s hvx hs;have hm:=mI hs;have his:=a4D hm;have hlt:=b7O hv his;have x13:=I13.same _ _ x0
   ext
   specialize a9s ?_;specialize Q8 ?_;refine⟨x,_,dx,F,.ref ep,rfl,x13,ck.N4,ck.a1H,by rw[hF];rfl,?_⟩;specialize U6 ?_;exists ⟨x,dx,F,rfl,x13,by rw[hF];rfl,?_⟩;refine a6w ck ⟨dx,F,np,x13,by rw[hF];rfl,net0.same I13.same⟩ hst his ?_;obtain⟨z,hz⟩:∃z,es[a0p N s]?=some z:=⟨_,c8 (by have:=I13.len;omega)⟩;refine M0 I13.h (a1e (by rw[b6,hz];rfl)) ?_;have hPt:=hP _ hlt;obtain⟨us,u1,u2,u3⟩:=(I13.at_ _ z _ hz hPt).ex;exists ⟨a0E u1,?_⟩
   have hul:us.length<=i:=by
    rw[u2];refine G5 (G6 _ _) ?_;rw[F7];omega
   have hlen1:(K5 N).length<=1000:=by
    rw[<-w2];have:(K5 N).length<=1+2 * N.length:=a7c hv.two;omega
   refine a1h u1 (L5 (by rw[b8];omega)) ?_;have add:=I13.add (a:=vx) (s:=s) hz hPt u1 u2 u3 hst;rw[show us.map V.ref++[V.ref vx]=(us++[vx]).map V.ref by simp];have nz:sl≠z:=λq=>nsl (q ▸ mI hz)
   refine⟨_,_,rfl,add,by rw[a0Y];exact lP,λt ht=>?_,S13.put u1 nz,by rw[i9 nz];exact hsl13⟩;rw[c1G hs];by_cases q:a0p N s=t
   .subst q;rw[M6 (by omega),if_pos rfl]
   .rw[O2 q,if_neg q,F9];exact hP t ht
 .rintro _ H13 ⟨x3,P,rfl,I13,lP,hP,S13,hsl13⟩;have f8:∀b o,H b=some o->b≠x->H7 b=some o:=λb o e n=>f7 _ _ (s06 _ _ e) n
  refine k H13 ⟨dx,rp,np,ep,es,as,hF ▸ I13.same _ _ x0,⟨rows0.same I13.same,I13.same _ _ rp0⟩,I13.same _ _ np0,la,λi y l a b=>I13.same _ _ (at0 i y l a b),I13.h,by rw[I13.len,lP],λt y hy=>?_,λz ⟨o,ho,hzx⟩=>⟨f6 (s05 _ _ ho) hrp,f6 (f8 _ _ ho hzx) hnp,f6 (old9 _ _ ho hzx) hep,λq=>f6 (f8 _ _ ho hzx) (fr8 z q) rfl,λq=>f6 (old _ _ ho hzx) (I13.new.2 z q) rfl⟩⟩ λb o e n=>I13.same _ _ (old b o e n)
  have ht:t<N.length:=by
   have:=(gI hy);have:=I13.len;omega
  have q:=I13.at_ t y _ hy (hP t ht);rw[b8,v2,M3]at q;exact q
def b3e(H:Hp)(xs ds:List V):Bool:=match xs with
 |[.str k,_,.ref q]=>match H q with
  | some (.tup qs)=>decide (k=("set" : Str))&&a2p qs ds
  |_=>false
 |_=>false
def a3H(xs ds:List V):Bool:=match xs with
 |.str k::n::_=>(decide (k=("set" : Str))||decide (k=("copy" : Str))||decide (k=("take" : Str)))&&inV n (ds.drop 1)
 |_=>false
def b8N(v:V)(ds:List V):a3H [.str "tell",v] ds=false:=by
 show((decide (("tell" : Str) = "set")||decide (("tell" : Str) = "copy")||decide (("tell" : Str) = "take"))&&inV v (ds.drop 1))=false;rw[show(decide (("tell" : Str) = "set")||decide (("tell" : Str) = "copy")||decide (("tell" : Str) = "take"))=false by decide];rfl
def c0B(v:V)(ds:List V):a3H [.str "ask",v] ds=false:=by
 show((decide (("ask" : Str) = "set")||decide (("ask" : Str) = "copy")||decide (("ask" : Str) = "take"))&&inV v (ds.drop 1))=false;rw[show(decide (("ask" : Str) = "set")||decide (("ask" : Str) = "copy")||decide (("ask" : Str) = "take"))=false by decide];rfl
def b5g(h:b1E H xs)(t:J2 H H'):b3e H' xs ds=b3e H xs ds:=by
 cases h with
 |set n p a d=>
  obtain⟨k,v1,v2,h,_⟩:=d;simp only[b3e,h,t _ _ h]
 |copy n v a o=>
  rcases o with ⟨s,rfl,_⟩ | ⟨z,rfl,_⟩ <;> rfl
 |take n a=>rfl
 |tell v o=>rfl
 |ask v o=>rfl
 |skip=>rfl
structure a0H(H:Hp)(d:Addr)(ds:List V):Prop where
 h:H d=some (.tup ds)
 ex:∃k v1 v2,ds=[.str k,v1,v2]/\OpN v1/\OpN v2
def a0H.ts(h:a0H H d ds)(t:J2 H H'):a0H H' d ds:=⟨t _ _ h.h,h.ex⟩
def a4p.q(h:a4p H d):∃ds,a0H H d ds:=by
 obtain⟨k,v1,v2,h,a,b,_⟩:=h;exact⟨_,h,k,v1,v2,rfl,a,b⟩
def a0H.flat{H:Hp}{d:Addr}{ds:List V}(h:a0H H d ds):ds.all T1=true:=by
 obtain⟨k,v1,v2,rfl,a,b⟩:=h.ex;rw[a1r,a1r,a1r,a.flat,b.flat];rfl
def a0H.flat1(h:a0H H d ds):(ds.drop 1).all T1=true:=by
 obtain⟨k,v1,v2,rfl,a,b⟩:=h.ex;simp[a.flat,b.flat]
def c8a(h:a0H H d ds):inV .non (ds.drop 1)=false:=by
 obtain⟨k,v1,v2,rfl,a,b⟩:=h.ex;show inV .non [v1,v2]=false;rcases a with ⟨s,rfl,_⟩ | ⟨n,rfl,_⟩ <;> rcases b with ⟨s',rfl,_⟩ | ⟨n',rfl,_⟩ <;> rfl
def c1P(H:Hp)(p:Addr)(xs:List V):Prop:=H p=some (.tup xs)/\b1E H xs
def c1P.ts(h:c1P H p xs)(t:J2 H H'):c1P H' p xs:=⟨t _ _ h.1,h.2.ts t⟩
def b5u.x{a:Bool}(h:b5u H (.ref p) a):∃xs,c1P H p xs:=by
 obtain⟨q,xs,e,h1,h2,_⟩:=h;cases e;exact⟨xs,h1,h2⟩
def b1E.head(h:b1E H xs):∃k r,xs=.str k::r:=by cases h <;> exact⟨_,_,rfl⟩
def a8Z{K:Fg}(hr:c1P H p xs)(hd:a0H H d ds)(k:∀H',j5 H H'->Q (.bl (a3H xs ds)) H'):a4t K [.ref p,.ref d] H Q E:=by
 refine⟨rfl,?_⟩;unfold b8G
 ext
 have sl:∀(v:V) H1,j5 H H1->T1 v=true->inV v (ds.drop 1)=a3H xs ds->tSl qSl (b4 1) (b0R (tC (.int 1))) a5m [some (.ref p),some (.ref d)] H1 λy H2=>qIn false v y H2 Q:=by
  intro v H1 s1 fv e
  ext
  obtain⟨k0,v1,v2,rfl,_⟩:=hd.ex;refine c8T (s1 _ _ hd.h) (b9u _ _) λq H2 hq e2 s2=>?_
  rw[d0Q]at e2;refine b6y e2 fv hd.flat1 ?_;rw[show inV v [v1,v2]=a3H xs [.str k0,v1,v2] from e];exact k H2 (s1.trans s2)
 have none':∀H1,j5 H H1->a3H xs ds=false->(λ(v:V) H1=>tSl qSl (b4 1) (b0R (tC (.int 1))) a5m [some (.ref p),some (.ref d)] H1 λy H2=>qIn false v y H2 Q) .non H1:=
  λH1 s1 e=>sl .non H1 s1 rfl (by rw[c8a hd,e])
 refine⟨rfl,?_⟩;unfold b8H;obtain⟨hp,hs⟩:=hr;obtain⟨k0,r,rfl⟩:=hs.head
 ext
 exists P0 hp (a2r _ _) ?_;refine E4 (by simp) λq H1 hq e1 s1=>?_
 exists b6y e1 rfl rfl ?_;cases hs with
 |set n p2 a d2=>
  exists C6 (by decide +kernel) ?_;refine P0 (s1 _ _ hp) (a7k _ _ _) ?_;exact sl _ H1 s1 rfl (by simp[a3H])
 |copy n v a o=>
  exists C6 (by decide +kernel) ?_;refine P0 (s1 _ _ hp) (a7k _ _ _) ?_;exact sl _ H1 s1 rfl (by simp[a3H])
 |take n a=>
  exists C6 (by decide +kernel) ?_;refine P0 (s1 _ _ hp) (a7k _ _ _) ?_;exact sl _ H1 s1 rfl (by simp[a3H])
 |tell v o=>
  refine z4 (by decide +kernel) ?_;exact_mod_cast s_c ?_;exact none' H1 s1 (b8N _ _)
 |ask v o=>
  refine z4 (by decide +kernel) ?_;exact_mod_cast s_c ?_;exact none' H1 s1 (c0B _ _)
 |skip=>
  refine z4 (by decide +kernel) ?_;exact_mod_cast s_c ?_;exact none' H1 s1 rfl
def a7S{K:Fg}(hr:c1P H p xs)(hd:a0H H d ds)(k:Q (.bl (b3e H xs ds)) H):a3I K [.ref p,.ref d] H Q E:=by
 obtain⟨hp,hs⟩:=hr;have none':b3e H xs ds=false->qEq .non (.ref d) H Q:=λe=>⟨false,d0O hd.h,by rw[e]at k;exact k⟩
 refine⟨rfl,?_⟩;unfold c4O
 ext
 refine⟨rfl,?_⟩;unfold b6r;obtain⟨k0,r,rfl⟩:=hs.head
 ext
 exists P0 hp (a2r _ _) ?_;cases hs with
 |set n p2 a d2=>
  exists C6 (by decide) ?_;exists P0 hp (b6g _ _ _ _) ?_;obtain⟨k1,w1,w2,h2,o1,o2,_⟩:=d2;refine⟨_,c8g h2 hd.h (by rw[a1r,a1r,a1r,o1.flat,o2.flat];rfl) hd.flat,?_⟩;simp only[b3e,h2]at k;simpa using k
 |copy n v a o=>
  exists z4 (by decide) ?_;refine none' ?_;rcases o with ⟨s,rfl,_⟩ | ⟨z,rfl,_⟩ <;> rfl
 |take n a=>
  exists z4 (by decide) ?_;exact none' rfl
 |tell v o=>
  exists z4 (by decide) ?_;exact none' rfl
 |ask v o=>
  exists z4 (by decide) ?_;exact none' rfl
 |skip=>
  exists z4 (by decide) ?_;exact none' rfl
def c2j{ti:TIp}{x:V}(e:σ[n]?=some (some x))(h:te σ H λy H1=>ti x y H1 λz H2=>D.nx (σ.set n (some z)) H2):c3a n te ti D σ H:=⟨x,e,h⟩
def d2f{K:Fg}(k:∀d H',H d=none->H' d=some (.dK [(Sum.inl 0,.ref a)])->j5 H H'->Q (.ref d) H'):b6s ((tC (.int 0),tC (.ref a))::[]) σ H Q:=by
 intro d hd;refine⟨c7,[(Sum.inl 0,.ref a)],rfl,by simp,?_⟩;have e:(upd (upd H d (.dK [])) d (.dK (a8O [] [(Sum.inl 0,V.ref a)])))=upd H d (.dK [(Sum.inl 0,.ref a)]):=by rw[b0J];rfl
 rw[e];exact k d _ hd c7 (A2 hd)
def a5t(H:Hp)(rs:List Addr)(ds:List V)(Do Sp:Nat->Bool):Prop:=∀(p:Nat) rx,rs[p]?=some rx->∃xs,c1P H rx xs/\b3e H xs ds=Do p/\a3H xs ds=Sp p
def a5t.ts{Sp:Nat->Bool}(h:a5t H rs ds Do Sp)(t:J2 H H'):a5t H' rs ds Do Sp:=λp rx e=>by
 obtain⟨xs,q1,q2,q3⟩:=h p rx e;exact⟨xs,q1.ts t,by rw[b5g q1.2 t];exact q2,q3⟩
def a5t.ex(hr:a0V H a N)(h:H a=some (.lst (rs.map V.ref)))(ds:List V):∃Do Sp,a5t H rs ds Do Sp:=by
 obtain⟨rs',r1,r2,r3⟩:=hr.ex
 obtain rfl:rs'=rs:=by
  rw[h]at r1;exact(a6T (f:=V.ref) (λa b h=>V.ref.inj h) |>.mp (HO.lst.inj (Option.some.inj r1))).symm
 refine⟨λp=>match rs'[p]? with | some rx=>(match H rx with | some (.tup xs)=>b3e H xs ds | _=>false) | none=>false,λp=>match rs'[p]? with | some rx=>(match H rx with | some (.tup xs)=>a3H xs ds | _=>false) | none=>false,λp rx e=>?_⟩;have hp:p<N.length:=by rw[<-r2];exact(gI e)
 obtain⟨xs,q⟩:=(r3 p rx _ e (P7 hp)).x;refine⟨xs,q,?_,?_⟩
 .simp only[e,q.1]
 .simp only[e,q.1]
def Jst(N:Nt)(Do Sp:Nat->Bool)(S:List Nat)(i:Nat)(s:Stp)(t:Nat):Prop:=
 (i=0/\s=FST/\t=0)\/∃(p q:Nat) (l:List Nat),s=((p:Int),(q:Int))/\N[p]?=some l/\l[q]?=some t/\(Sp p=true\/∃j,j<i/\S[j]?=some p/\Do p=false)
def Jst.grow{Sp:Nat->Bool}{ext:List Nat}(h:Jst N Do Sp S i s t):Jst N Do Sp (S++ext) i s t:=by
 rcases h with h | ⟨p,q,l,h1,h2,h3,h4⟩
 .exact .inl h
 .refine .inr ⟨p,q,l,h1,h2,h3,?_⟩;rcases h4 with h4 | ⟨j,j1,j2,j3⟩
  .exact .inl h4
  .exact .inr ⟨j,j1,by rw[o5 (gI j2)];exact j2,j3⟩
structure CbK(K:Fg)(H:Hp)(d:Addr)(N:Nt)(Do Sp:Nat->Bool)(S:List Nat)(kvs:List (Key×V)):Prop where
 hd:H d=some (.dK kvs)
 nd:S.Nodup
 lt:∀t∈S,t<N.length
 len:kvs.length=S.length
 z:S[0]?=some 0
 at_:∀(i:Nat) t,S[i]?=some t->∃a s,kvs[i]?=some (Sum.inl (t:Int),.ref a)/\a0W K H a s/\Jst N Do Sp S i s t
def CbK.keys{K:Fg}{Sp:Nat->Bool}(h:CbK K H d N Do Sp S kvs):kvs.map (·.1)=S.map λ(t:Nat)=>(Sum.inl (t:Int):Key):=by
 apply b3T;intro i;rw[b6,b6];cases e:S[i]? with
 |none=>
  have:kvs[i]?=none:=by
   rw[a3t]at e ⊢;have:=h.len;omega
  rw[this];rfl
 |some t=>
  obtain⟨a,s,q,_⟩:=h.at_ i t e;rw[q];rfl
def CbK.ndk{K:Fg}{Sp:Nat->Bool}(h:CbK K H d N Do Sp S kvs):(kvs.map (·.1)).Nodup:=by
 rw[h.keys];refine a1C _ (λa b hab z=>hab ?_) h.nd;have:=Sum.inl.inj z;omega
def CbK.in_{K:Fg}{Sp:Nat->Bool}(h:CbK K H d N Do Sp S kvs)(t:Nat):(a7t kvs (Sum.inl (t:Int))).isSome=decide (t∈S):=by
 by_cases ht:t∈S
 .rw[d4E ht];obtain⟨i,hi⟩:=C8.mp ht;obtain⟨a,s,q,_⟩:=h.at_ i t hi;rw[b3Z h.ndk (mI q)];rfl
 .rw[d4D ht];cases e:a7t kvs (Sum.inl (t:Int))with
  |none=>rfl
  |some v=>
   have:=c2b e;rw[h.keys]at this;obtain⟨u,hu,z⟩:=F5.mp this;have:=Sum.inl.inj z
   exact absurd (show t ∈ S from (by have : u = t := by omega
                                     exact this ▸ hu)) ht
def CbK.notin{K:Fg}{Sp:Nat->Bool}(h:CbK K H d N Do Sp S kvs)(t:Nat):∃o,b1I H d (.int (t:Int)) o/\o.isSome=decide (t∈S):=⟨_,b1I.k (k:=Sum.inl (t:Int)) h.hd,h.in_ t⟩
def CbK.same{K:Fg}{Sp:Nat->Bool}(h:CbK K H d N Do Sp S kvs)(s:j5 H H'):CbK K H' d N Do Sp S kvs:=
 ⟨s _ _ h.hd,h.nd,h.lt,h.len,h.z,λi t e=>let⟨a,st,q1,q2,q3⟩:=h.at_ i t e; ⟨a,st,q1,q2.ts (j5.ts s),q3⟩⟩
def CbK.add{K:Fg}{Sp:Nat->Bool}(h:CbK K H d N Do Sp S kvs)(ht:¬t∈S)(hlt:t<N.length)(ha:a0W K H a s)(hj:Jst N Do Sp S S.length s t) :
  CbK K (upd H d (.dK (a2F kvs (Sum.inl (t:Int)) (.ref a)))) d N Do Sp (S++[t]) (a2F kvs (Sum.inl (t:Int)) (.ref a)):=by
 have e:a2F kvs (Sum.inl (t:Int)) (.ref a)=kvs++[(Sum.inl (t:Int),.ref a)]:=by
  unfold a2F;rw[a5D,h.in_,d4D ht,if_neg (by decide)]
 rw[e];have ts:J2 H (upd H d (.dK (kvs++[(Sum.inl (t:Int),.ref a)]))):=λb xs q=>by rw[i9 (O9 q h.hd (by intro z;cases z))];exact q
 refine⟨c7,?_,λu hu=>?_,by simp[h.len],?_,λi u hu=>?_⟩
 .rw[a2M];exact⟨h.nd,by simp,λx hx y hy=>by rw[l7.mp hy];intro z;exact ht (z ▸ hx)⟩
 .rcases v7.mp hu with q | q
  .exact h.lt u q
  .rw[l7.mp q];exact hlt
 .rw[o5 (u0.mp h.z).1];exact h.z
 .rcases a0N hu with ⟨hi,g⟩ | ⟨hi,g⟩
  .obtain⟨a',s',q1,q2,q3⟩:=h.at_ i u g;exact⟨a',s',by rw[o5 (gI q1)];exact q1,q2.ts ts,q3.grow⟩
  .subst g;refine⟨a,s,?_,ha.ts ts,?_⟩
   .rw[hi,<-h.len];simp
   .rw[hi];exact hj.grow
structure CbI(K:Fg)(H0 H:Hp)(d o:Addr)(N:Nt)(Do Sp:Nat->Bool)(S:List Nat)(kvs:List (Key×V)):Prop where
 cb:CbK K H d N Do Sp S kvs
 same:j5 H0 H
 ho:H o=some (.lst (IL S))
 fr:H0 d=none/\H0 o=none
def CbI.next{K:Fg}{o:Addr}{Sp:Nat->Bool}(h:CbI K H0 H d o N Do Sp S kvs)(s:j5 H H'):CbI K H0 H' d o N Do Sp S kvs:=⟨h.cb.same s,h.same.trans s,s _ _ h.ho,h.fr⟩
def c8l{K:Fg}{o:Addr}{Sp:Nat->Bool}{a b e f g p q:Nat}(ha:σ[a]?=some (some (.int (t:Int))))(hb:σ[b]?=some (some (.ref d)))(he:σ[e]?=some (some (.int (p:Int))))(hf:σ[f]?=some (some (.int (q:Int))))(hg:σ[g]?=some (some (.ref o)))
  (I:CbI K H0 H d o N Do Sp S kvs) (h400:N.length<=400) (hl:N[p]?=some l) (ht:l[q]?=some t) (htn:t<N.length) (hj:Sp p=true\/∃j:Nat,S[j]?=some p/\Do p=false)
  (k:∀H' S' kvs',CbI K H0 H' d o N Do Sp S' kvs'->(∃ext,S'=S++ext)->t∈S'->D.nx σ H') :
  M8 (tB (a0Z (b4 a) (b4 b))) (w4 (a3S (b4 b) (b4 a) (W4 (a9 (b4 e) (a9 (b4 f) (i8))))) (Y1 (tBM K "list" Z9 (b4 g) (a9 (b4 a) (i8))))) (E2) D σ H:=by
 exact_mod_cast b3o ?_;exact_mod_cast c3l ?_;exact_mod_cast a2l ?_;exact_mod_cast M7 ha ?_;exact_mod_cast M7 hb ?_;obtain⟨o',g1,g2⟩:=I.cb.notin t;refine⟨d,o',rfl,g1,?_⟩;rw[g2];refine⟨_,rfl,?_⟩;by_cases hts:t∈S
 .refine z4 (by rw[d4E hts];rfl) ?_;exact_mod_cast a4v ?_;exact k H S kvs I ⟨[],by simp⟩ hts
 refine C6 (by rw[d4D hts];rfl) ?_;exact_mod_cast L4 ?_;exact_mod_cast a7C ?_;exact_mod_cast b8Y ?_;exact_mod_cast G0 ?_;exact_mod_cast M7 he ?_;exact_mod_cast G0 ?_;exact_mod_cast M7 hf ?_;exact_mod_cast X3 ?_;refine E4 (by simp) λz H1 hz e1 s1=>?_
 have I1:=I.next s1;exact_mod_cast M7 hb ?_;exact_mod_cast M7 ha ?_;have hlen:S.length<=400:=G5 (a4d _ _ I.cb.nd I.cb.lt) h400;refine⟨d,_,rfl,b6j.k (k:=Sum.inl (t:Int)) I1.cb.hd (L5 (by rw[I.cb.len];omega)),?_⟩;have add:=I1.cb.add (a:=z) (s:=((p:Int),(q:Int))) hts htn (.inl e1) (.inr ⟨p,q,l,rfl,hl,ht,hj.imp id λ⟨j,j1,j2⟩=>⟨j,(gI j1),j1,j2⟩⟩);obtain⟨kvs',hk⟩:∃kvs',kvs'=a2F kvs (Sum.inl (t:Int)) (.ref z):=⟨_,rfl⟩;rw[<-hk]at add ⊢;obtain⟨H2,hH2⟩:∃H2,H2=upd H1 d (.dK kvs'):=⟨_,rfl⟩;rw[<-hH2]at add ⊢;have nod:o≠d:=O9 I1.ho I1.cb.hd (by intro z;cases z);have ho2:H2 o=some (.lst (IL S)):=by rw[hH2,i9 nod];exact I1.ho
 have s2:j5 H0 H2:=λb' o'' q'=>by rw[hH2,i9 (f6 q' I.fr.1)];exact I1.same _ _ q'
 exact_mod_cast b7m ?_;exact_mod_cast a9s ?_;exact_mod_cast M7 hg ?_;refine⟨a0E ho2,?_⟩;exact_mod_cast G0 ?_;exact_mod_cast M7 ha ?_;exact_mod_cast X3 ?_;refine a1h ho2 (L5 (by rw[J9];omega)) ?_;have e3:IL S++[V.int (t:Int)]=IL (S++[t]):=by simp[IL]
 rw[e3];have ts:J2 H2 (upd H2 o (.lst (IL (S++[t])))):=J2.put ho2;refine k _ (S++[t]) kvs' ⟨⟨by rw[i9 nod.symm];exact add.hd,add.nd,add.lt,add.len,add.z,λi u hu=>let⟨a',s',q1,q2,q3⟩:=add.at_ i u hu; ⟨a',s',q1,q2.ts ts,q3⟩⟩,λb' o'' q'=>by rw[i9 (f6 q' I.fr.2)];exact s2 _ _ q',c7,I.fr⟩ ⟨[t],rfl⟩ (by simp)
structure a1n(c:Cn)(H:Hp)(x:Addr)(N:Nt)(rs:List Addr):Prop where
 ex:∃dx fs n r,H x=some (.ins c.M5 dx fs)/\fs.lookup ("nexts" : Str)=some (V.ref n)/\N8 H n N/\fs.lookup ("rows" : Str)=some (V.ref r)/\H r=some (.lst (rs.map V.ref))/\rs.length=N.length
def a1n.x{c:Cn}{x:Addr}(h:a1n c H x N rs):c2K c H x N:=by
 obtain⟨dx,fs,n,r,h1,h2,h3,_⟩:=h.ex;exact⟨dx,fs,n,h1,h2,h3⟩
def a1n.same{c:Cn}{x:Addr}(h:a1n c H x N rs)(s:j5 H H'):a1n c H' x N rs:=by
 obtain⟨dx,fs,n,r,h1,h2,h3,h4,h5,h6⟩:=h.ex;exact⟨dx,fs,n,r,s _ _ h1,h2,h3.same s,h4,s _ _ h5,h6⟩
def a7m.r{K:Fg}{c:Cn}{x:Addr}(h:a7m K c Z rs H x N):a1n c H x N rs:=by
 obtain⟨dx,r,n,e,es,ns,h1,⟨h2,h2r⟩,h3,h4,h5,h6,h7,h8,_⟩:=h.ex;refine⟨dx,_,n,r,h1,rfl,⟨ns,h3,h4,h5⟩,rfl,h2r,?_⟩;obtain⟨rs',q1,q2,_⟩:=h2.ex;rw[h2r]at q1;have:=congrArg b6l (HO.lst.inj (Option.some.inj q1));rw[b8,b8]at this;omega
def b4B{K:Fg}{c:Cn}{x o:Addr}{Sp:Nat->Bool}{p:Nat}(ck:X6 K c)(hp:c2K c H0 x N)(hv:a0i N)(I:CbI K H0 H d o N Do Sp S kvs)(hl:N[p]?=some l)(hj:Sp p=true\/∃j:Nat,S[j]?=some p/\Do p=false)
  (k:∀H' S' kvs',CbI K H0 H' d o N Do Sp S' kvs'->(∃ext,S'=S++ext)->(∀t∈l,t∈S')->Q .non H'):a5K K [.ref x,.int (p:Int),.ref d,.ref o] H Q E:=by
 obtain⟨dx,fs,n,hx,hf,hn⟩:=hp;refine⟨rfl,?_⟩;unfold b6p;specialize a1S (a5p ?_);specialize Q8 ?_;exists ⟨x,_,dx,fs,_,rfl,I.same _ _ hx,ck.N4,ck.U5,hf,?_⟩;obtain⟨xs,y,f1,f2,f3,_⟩:=hn.at hl;exists M0 (I.same _ _ f1) f2 ?_;refine⟨y,rfl,⟨_,SqL.of (I.same _ _ f3)⟩,?_⟩;have hlt:=hv.lt l (mI hl);refine b5e l.length (λi σ H'=>∃y4 y5 S' kvs',σ=[some (.ref x),some (.int (p:Int)),some (.ref d),some (.ref o),y4,y5]/\CbI K H0 H' d o N Do Sp S' kvs'/\(∃ext,S'=S++ext)/\∀t∈l.take i,t∈S') ?_ ?_ ?_ ?_
 .exact⟨_,_,S,kvs,rfl,I,⟨[],by simp⟩,by simp⟩
 .rintro _ H' ⟨y4,y5,S',kvs',rfl,I',e',g'⟩;rw[M3]at g';exact⟨⟨_,SqL.of (I'.same _ _ f3),by rw[J9];exact j8 _⟩,k H' S' kvs' I' e' g'⟩
 .rintro i _ H' hi ⟨y4,y5,S',kvs',rfl,I',e',g'⟩;exact⟨_,_,SqL.of (I'.same _ _ f3),by unfold IL;rw[b6,c8 hi];rfl⟩
 .rintro i _ H' hi ⟨y4,y5,S',kvs',rfl,I',⟨ext,e'⟩,g'⟩ v H1 ⟨pp,w,hpp,rfl,rfl,gw⟩;obtain⟨t,ht⟩:∃t,l[i]?=some t:=⟨_,c8 hi⟩;have gw:=gw _ (SqL.of (I'.same _ _ f3));unfold IL at gw;rw[b6,ht]at gw;cases gw;refine a7B (SqT.of c7) ?_;have I1:=I'.next (A2 (o:=.tup [V.int (i:Int),V.int (t:Int)]) hpp);refine c8l (p:=p) (q:=i) (t:=t) (l:=l) rfl rfl rfl rfl rfl I1 hv.le hl ht (hlt t (mI ht)) ?_ λH2 S2 kvs2 I2 ⟨ext2,e2⟩ t2=>?_
  .rcases hj with hj | ⟨j,j1,j2⟩
   .exact .inl hj
   .exact .inr ⟨j,by rw[e',o5 (gI j1)];exact j1,j2⟩
  .refine⟨_,_,S2,kvs2,rfl,I2,⟨ext++ext2,by rw[e2,e',a2O]⟩,λu hu=>?_⟩;rw[L3,ht]at hu;rcases v7.mp hu with q | q
   .rw[e2];exact v9 _ (g' u q)
   .have:u=t:=by simpa using q
    subst this;exact t2
structure d0X(N:Nt)(Do Sp:Nat->Bool)(S:List Nat):Prop where
 sp:∀(p:Nat) l,Sp p=true->N[p]?=some l->∀t∈l,t∈S
 no:∀(p:Nat) l,p∈S->Do p=false->N[p]?=some l->∀t∈l,t∈S
def c6w{K:Fg}{c:Cn}{o:Addr}{Sp:Nat->Bool}(ck:X6 K c)(hv:a0i N)(hd:H d=some (.dK [(Sum.inl 0,.ref c.N7)]))(ho:H o=some (.lst [.int 0]))(s:j5 H0 H)(f1:H0 d=none)(f2:H0 o=none):CbI K H0 H d o N Do Sp [0] [(Sum.inl 0,.ref c.N7)]:=by
 refine⟨⟨hd,by simp,by simpa using hv.pos,rfl,rfl,λi t hi=>?_⟩,s,ho,f1,f2⟩;cases i with
 |zero=>
  cases hi;exact⟨_,FST,rfl,.inr ⟨rfl,ck.W9⟩,.inl ⟨rfl,rfl,rfl⟩⟩
 |succ i=>simp at hi
def BL(n:Nat)(f:Nat->Bool):List V:=(A1 n).map λp=>V.bl (f p)
def d1d(n:Nat)(f:Nat->Bool):(BL n f).length=n:=by simp[BL]
def c9p{p:Nat}{f:Nat->Bool}(h:p<n):atI (BL n f) (p:Int)=some (V.bl (f p)):=a1e (by unfold BL;rw[b6,b1K h];rfl)
def b1T{K:Fg}{c:Cn}{x ma br:Addr}{Sp:Nat->Bool}(ck:X6 K c)(hp:a1n c H x N rs)(hv:a0i N)(hm:H ma=some (.lst (BL N.length Do)))(hb:H br=some (.lst (BL N.length Sp)))
  (k:∀d H' S kvs,CbK K H' d N Do Sp S kvs->d0X N Do Sp S->j5 H H'->Q (.ref d) H'):a2A K c [.ref x,.ref ma,.ref br] H Q E:=by
 have h400:=hv.le;obtain⟨dx,fs,n,r,hx,hfn,hn,hfr,hr,lr⟩:=hp.ex;refine⟨rfl,?_⟩;unfold a8g
 nofun
 exists d2f (K:=K) λd H1 hd1 e1 s1=>?_
 nofun
 exists E4 (by simp) λo H2 ho e2 s2=>?_
 have I2:CbI K H H2 d o N Do Sp [0] _:=c6w ck hv (s2 _ _ e1) e2 (s1.trans s2) hd1 (s1.free ho);exact_mod_cast a4n (P:=λσ H3=>∃y5 S kvs,σ=[some (.ref x),some (.ref ma),some (.ref br),some (.ref d),some (.ref o),y5,none]/\CbI K H H3 d o N Do Sp S kvs/\∀(p:Nat) l,Sp p=true->N[p]?=some l->∀t∈l,t∈S) ?_ ?_
 rotate_left
 .intro nx hnx;specialize a1S (a3K ?_);specialize Q8 ?_;exists ⟨x,_,dx,fs,_,rfl,I2.same _ _ hx,ck.N4,ck.P3,hfr,?_⟩;refine O3 (I2.same _ _ hr) ?_;rw[b8,lr];refine⟨N.length,rfl,by omega,by omega,?_⟩;rw[C9];refine a1K (λi σ H3=>∃y5 S kvs,σ=[some (.ref x),some (.ref ma),some (.ref br),some (.ref d),some (.ref o),y5,none]/\CbI K H H3 d o N Do Sp S kvs/\∀(p:Nat) l,p<i->Sp p=true->N[p]?=some l->∀t∈l,t∈S) ⟨_,[0],_,rfl,I2,by omega⟩ ?_ ?_
  .rintro i _ H3 hi ⟨y5,S,kvs,rfl,I3,g3⟩;rw[a1X]
   ext
   exists M0 (I3.same _ _ hb) (c9p hi) ?_;refine a0y (λe=>?_) (λe=>?_)
   .ext
    refine b4B ck hp.x hv I3 (P7 hi) (.inl e) λH6 S6 kvs6 I6 ⟨ext,e6⟩ g6=>?_
    refine⟨_,S6,kvs6,rfl,I6,λp l hpi hsp hl t ht=>?_⟩;by_cases q:p=i
    .subst q;rw[P7 hi]at hl;cases hl;exact g6 t ht
    .rw[e6];exact v9 _ (g3 p l (by omega) hsp hl t ht)
   .ext
    refine⟨_,S,kvs,rfl,I3,λp l hpi hsp hl t ht=>?_⟩;by_cases q:p=i
    .subst q;exact(e hsp).elim
    .exact g3 p l (by omega) hsp hl t ht
  .rintro _ H3 ⟨y5,S,kvs,rfl,I3,g3⟩;exact hnx _ _ ⟨y5,S,kvs,rfl,I3,λp l a b=>g3 p l (gI b) a b⟩
 rintro _ H3 ⟨y5,S3,kvs3,rfl,I3,g3⟩
 nofun
 exact_mod_cast L4 ?_;exact_mod_cast b0Y ?_
 refine⟨λm σ H4=>∃(y5:Option V) (S:List Nat) (kvs:List (Key×V)) (dn:Nat),σ=[some (.ref x),some (.ref ma),some (.ref br),some (.ref d),some (.ref o),y5,some (.int (dn:Int))]/\CbI K H H4 d o N Do Sp S kvs/\(∀(p:Nat) l,Sp p=true->N[p]?=some l->∀t∈l,t∈S)/\dn<=S.length/\(∀(j p:Nat) l,j<dn->S[j]?=some p->Do p=false->N[p]?=some l->∀t∈l,t∈S)/\m=N.length - dn,
  ⟨_,y5,S3,kvs3,0,rfl,I3,g3,by omega,by omega,rfl⟩,?_⟩
 rintro m _ H4 ⟨y5,S,kvs,dn,rfl,I4,g4,hdn,c4,rfl⟩
 ext
 exists O3 I4.ho ?_;rw[J9];have hSl:S.length<=N.length:=a4d _ _ I4.cb.nd I4.cb.lt;by_cases hlt:dn<S.length
 .refine C6 (d4E (by omega)) ?_;obtain⟨p,hpS⟩:∃p,S[dn]?=some p:=⟨_,c8 hlt⟩;have hpn:=I4.cb.lt p (mI hpS);refine⟨λσ H5=>∃(m':Nat) (y5:Option V) (S:List Nat) (kvs:List (Key×V)) (dn':Nat),σ=[some (.ref x),some (.ref ma),some (.ref br),some (.ref d),some (.ref o),y5,some (.int (dn':Int))]/\CbI K H H5 d o N Do Sp S kvs/\(∀(p:Nat) l,Sp p=true->N[p]?=some l->∀t∈l,t∈S)/\dn'<=S.length/\(∀(j p:Nat) l,j<dn'->S[j]?=some p->Do p=false->N[p]?=some l->∀t∈l,t∈S)/\m'=N.length - dn'/\m'<N.length - dn,?_,?_⟩
  .rintro σ' H5 ⟨m',y4,S,kvs,dn',e,r1,r2,r3,r4,r5,r6⟩;exact⟨m',r6,y4,S,kvs,dn',e,r1,r2,r3,r4,r5⟩
  nofun
  exists M0 I4.ho (c0g hpS) ?_;exact_mod_cast L4 ?_;specialize c2j rfl ?_;exists M0 (I4.same _ _ hm) (c9p hpn) ?_;have e1:(dn:Int)+1=((dn+1:Nat):Int):=by omega
  cases hDo:Do p with
  |true=>
   exists z4 rfl ?_;rw[e1];refine⟨_,_,S,kvs,dn+1,rfl,I4,g4,by omega,λj p' l hj hj2 hD hl t ht=>?_,rfl,by omega⟩;by_cases q:j=dn
   .subst q;rw[hpS]at hj2;cases hj2;rw[hDo]at hD;cases hD
   .exact c4 j p' l (by omega) hj2 hD hl t ht
  |false=>
   exists C6 rfl ?_;rw[e1];refine b4B ck hp.x hv I4 (P7 hpn) (.inr ⟨dn,hpS,hDo⟩) λH6 S6 kvs6 I6 ⟨ext,e6⟩ g6=>?_
   refine⟨_,_,S6,kvs6,dn+1,rfl,I6,λp' l a b t ht=>by rw[e6];exact v9 _ (g4 p' l a b t ht),by rw[e6,u5];omega,λj p' l hj hj2 hD hl t ht=>?_,rfl,by omega⟩;have hj3:S[j]?=some p':=by rw[e6,o5 (by omega)]at hj2;exact hj2
   by_cases q:j=dn
   .subst q;rw[hpS]at hj3;cases hj3;rw[P7 hpn]at hl;cases hl;exact g6 t ht
   .rw[e6];exact v9 _ (c4 j p' l (by omega) hj3 hD hl t ht)
 .exists z4 (d4D (by omega)) ?_;refine k d H4 S kvs I4.cb ⟨g4,λp l hp' hD hl t ht=>?_⟩ I4.same;obtain⟨j,hj⟩:=C8.mp hp';have:=(gI hj);exact c4 j p l (by omega) hj hD hl t ht
inductive Fw(N:Nt):Stp->List Stp->Nat->Prop
 | one {s:Stp}:a5i N s->Fw N s [] (a0p N s)
 | cons {s s':Stp} {r:List Stp} {t:Nat}:a5i N s->s'.1=(a0p N s:Int)->Fw N s' r t->Fw N s (s'::r) t
def a6P{p q:Nat}:¬(((p:Int),(q:Int)):Stp)=FST:=by
 unfold FST;intro z;have:=congrArg Prod.fst z;simp at this
structure Rdy(K:Fg)(c:Cn)(H:Hp)(rx x dd:Addr)(N:Nt)(rs:List Addr)(ds:List V)(Do Sp:Nat->Bool)(S:List Nat):Prop where
 ex:∃dx d kvs,H rx=some (.ins c.Y4 dx [("plan",.ref x),("deed",.ref dd),("come_by",.ref d)])/\CbK K H d N Do Sp S kvs
 plan:a1n c H x N rs
 deed:a0H H dd ds
 sat:a5t H rs ds Do Sp
 shut:d0X N Do Sp S
def Rdy.same{K:Fg}{c:Cn}{x:Addr}{Sp:Nat->Bool}(h:Rdy K c H rx x dd N rs ds Do Sp S)(s:j5 H H'):Rdy K c H' rx x dd N rs ds Do Sp S:=by
 obtain⟨dx,d,kvs,h1,h2⟩:=h.ex;exact⟨⟨dx,d,kvs,s _ _ h1,h2.same s⟩,h.plan.same s,h.deed.ts (j5.ts s),h.sat.ts (j5.ts s),h.shut⟩
def c2D{K:Fg}{c:Cn}{x:Addr}{f:Nat->Bool}(ck:X6 K c)(hp:a1n c H x N rs)(hv:a0i N)(hσ:σ[1]?=some (some (.ref x)))
  (step:∀(p:Nat) rx H',rs[p]?=some rx->j5 H H'->∀R:VK,(∀H'',j5 H' H''->R (.bl (f p)) H'')->te (some (.ref rx)::σ) H' R)
  (k:∀D H',H D=none->H' D=some (.lst (BL N.length f))->j5 H H'->Q (.ref D) H'):V6 (V7 K (Y5 K (b4 1) "rows")) Z2 te σ H Q:=by
 have h400:=hv.le;obtain⟨dx,fs,n,r,hx,hfn,hn,hfr,hr,lr⟩:=hp.ex;exact_mod_cast Y9 (V8 ?_);exact_mod_cast Q8 ?_;exact_mod_cast M7 hσ ?_;refine⟨x,_,dx,fs,_,rfl,hx,ck.N4,ck.P3,hfr,?_⟩;refine⟨r,rfl,⟨_,SqL.of hr⟩,λD hD=>?_⟩;refine X5 (xs:=rs.map V.ref) (λi ys H8=>ys=BL i f/\H8 D=some (.lst ys)/\j5 H H8) ?_ ?_ ?_ ?_ ?_
 .exact⟨rfl,c7,A2 hD⟩
 .rintro i ys H8 ⟨_,h,_⟩;exact h
 .rintro i ys H8 _ ⟨_,_,s8⟩;exact SqL.of (s8 _ _ hr)
 .rintro i y ys H8 hy ⟨rfl,hD8,s8⟩ R hR;rw[b6]at hy;cases hrx:rs[i]? with
  |none=>rw[hrx]at hy;cases hy
  |some rx=>
   rw[hrx]at hy;cases hy;have hi:i<rs.length:=(gI hrx);refine step i rx H8 hrx s8 _ λH9 s9=>?_
   refine hR _ _ (s9 _ _ hD8) (L5 (by rw[d1d];omega)) ⟨?_,c7,λb o e=>?_⟩
   .unfold BL;rw[a1Z,F8];rfl
   .rw[i9 (f6 e hD)];exact s9 _ _ (s8 _ _ e)
 .rintro ys H8 ⟨rfl,hD8,s8⟩;rw[b8,lr]at hD8;exact k D H8 hD hD8 s8
def b5U{K:Fg}{c:Cn}{x:Addr}{Sp:Nat->Bool}(ck:X6 K c)(hp:a1n c H x N rs)(hv:a0i N)(hd:a0H H dd ds)(hs:a5t H rs ds Do Sp)(hrx:H rx=none)(hdx:H dx=none)
  (k:∀H' S,Rdy K c H' rx x dd N rs ds Do Sp S->j5 H H'->Q .non H'):a2X K c [.ref rx,.ref x,.ref dd] (upd (upd H dx (.own rx)) rx (.ins c.Y4 dx [])) Q E:=by
 refine⟨rfl,?_⟩;unfold b0P;exact_mod_cast L4 ?_;specialize a0O ?_;refine⟨rx,_,dx,[],rfl,c7,ck.a1L,ck.a4N,by simp,?_⟩;exact_mod_cast L4 ?_;specialize a0O ?_;refine⟨rx,_,dx,_,rfl,c7,ck.a1L,ck.a3a,by simp[O4],?_⟩;obtain⟨H3,hH3⟩:∃H3,H3=upd (upd (upd (upd H dx (.own rx)) rx (.ins c.Y4 dx [])) rx (.ins c.Y4 dx (O4 "plan" (.ref x) []))) rx (.ins c.Y4 dx (O4 "deed" (.ref dd) (O4 "plan" (.ref x) []))):=⟨_,rfl⟩;rw[<-hH3];have x3:H3 rx=some (.ins c.Y4 dx (O4 "deed" (.ref dd) (O4 "plan" (.ref x) []))):=hH3 ▸ c7
 have s3:j5 H H3:=λb o e=>by
  have n1:=f6 e hrx;rw[hH3,i9 n1,i9 n1,i9 n1,i9 (f6 e hdx)];exact e
 have hs3:=hs.ts (j5.ts s3);have hd3:=hd.ts (j5.ts s3);exact_mod_cast L4 ?_;refine c4Z ?_;refine c2D ck (hp.same s3) hv (f:=Do) rfl (λp ax H4 hax s4 R hR=>?_) λma H4 hma e4 s4=>?_
 .obtain⟨xs,x1,x2,x3⟩:=hs3 p ax hax
  ext
  refine a7S (x1.ts (j5.ts s4)) (hd3.ts (j5.ts s4)) ?_;rw[b5g x1.2 (j5.ts s4),x2];exact hR H4 (j5.refl _)
 have s04:=s3.trans s4;specialize a0O ?_;refine c2D ck (hp.same s04) hv (f:=Sp) rfl (λp ax H5 hax s5 R hR=>?_) λbr H5 hbr e5 s5=>?_
 .obtain⟨xs,x1,x2,x3⟩:=hs3 p ax hax
  ext
  refine a8Z (x1.ts (j5.ts (s4.trans s5))) (hd3.ts (j5.ts (s4.trans s5))) λH6 s6=>?_
  rw[x3];exact hR H6 s6
 ext
 have s35:=s4.trans s5;exists b1T ck (hp.same (s3.trans s35)) hv (s5 _ _ e4) e5 λd H6 S kvs cb sh s6=>?_
 have x4:=s6 _ _ (s35 _ _ x3);refine⟨rx,_,dx,_,rfl,x4,ck.a1L,ck.a2P,(by show(2:Nat)<1000;decide),?_⟩;obtain⟨H5',hH5⟩:∃H5',H5'=upd H6 rx (.ins c.Y4 dx (O4 "come_by" (.ref d) (O4 "deed" (.ref dd) (O4 "plan" (.ref x) [])))):=⟨_,rfl⟩;rw[<-hH5];have s5':j5 H H5':=λb o e=>by rw[hH5,i9 (f6 e hrx)];exact s6 _ _ (s35 _ _ (s3 _ _ e))
 have t5:J2 H6 H5':=hH5 ▸ J2.ins x4;refine k H5' S ⟨⟨dx,d,kvs,?_,?_⟩,hp.same s5',hd.ts (j5.ts s5'),hs.ts (j5.ts s5'),sh⟩ s5'
 .rw[hH5,c7];rfl
 .refine⟨?_,cb.nd,cb.lt,cb.len,cb.z,λi t e=>?_⟩
  .rw[hH5,i9 (O9 cb.hd x4 (by intro z;cases z))];exact cb.hd
  .obtain⟨a,s,q1,q2,q3⟩:=cb.at_ i t e;exact⟨a,s,q1,q2.ts t5,q3⟩
def c1u{K:Fg}{c:Cn}{x:Addr}{Sp:Nat->Bool}{a b:Nat}(ck:X6 K c)(hp:a1n c H x N rs)(hv:a0i N)(hd:a0H H dd ds)(hs:a5t H rs ds Do Sp)(ea:σ[a]?=some (some (.ref x)))(eb:σ[b]?=some (some (.ref dd)))
  (k:∀rx H' S,H rx=none->Rdy K c H' rx x dd N rs ds Do Sp S->j5 H H'->Q (.ref rx) H'):a2e c.Y4 (a2X K c) [] E0 (a9 (b4 a) (a9 (b4 b) i8)) σ H Q:=by
 exact_mod_cast b2g ?_;refine G0 (M7 ea (G0 (M7 eb (X3 ?_))));intro rx dx hrx hdx hne;exact b5U ck hp hv hd hs hrx hdx λH' S h s=>⟨rfl,k rx H' S hrx h s⟩
def b9b{K:Fg}{c:Cn}{x:Addr}{Sp:Nat->Bool}(ck:X6 K c)(h:Rdy K c H rx x dd N rs ds Do Sp S)(k:Q (.bl (!decide (t∈S))) H):a1R K [.ref rx,.int (t:Int)] H Q E:=by
 obtain⟨dx,d,kvs,h1,cb⟩:=h.ex;refine⟨rfl,?_⟩;unfold a7a
 ext
 specialize a2l ?_;specialize Q8 ?_;refine⟨rx,_,dx,_,_,rfl,h1,ck.a1L,ck.a2P,rfl,?_⟩;obtain⟨o',g1,g2⟩:=cb.notin t;refine⟨d,o',rfl,g1,?_⟩;rw[g2];exact k
def beh(Do Sp:Nat->Bool)(S:List Nat)(p:Nat):Bool:=if Sp p=true then false else (Do p || !decide (p∈S))
def b3p{K:Fg}{c:Cn}{x:Addr}{Sp:Nat->Bool}{p:Nat}(ck:X6 K c)(h:Rdy K c H rx x dd N rs ds Do Sp S)(hp:p<N.length)(k:∀H',j5 H H'->Q (.bl (beh Do Sp S p)) H'):a0r K c [.ref rx,.int (p:Int)] H Q E:=by
 obtain⟨dx,d,kvs,h1,cb⟩:=h.ex;obtain⟨dx',fs,n,r,hx,hfn,hn,hfr,hr,lr⟩:=h.plan.ex;obtain⟨ax,hax⟩:∃ax,rs[p]?=some ax:=⟨_,c8 (by omega)⟩;obtain⟨xs,x1,x2,x3⟩:=h.sat p ax hax;refine⟨rfl,?_⟩;unfold a4P
 nofun
 exact_mod_cast Q8 ?_;specialize Q8 ?_;refine⟨rx,_,dx,_,_,rfl,h1,ck.a1L,ck.a4N,rfl,?_⟩;exists ⟨x,_,dx',fs,_,rfl,hx,ck.N4,ck.P3,hfr,?_⟩;exists M0 hr (a1e (by rw[b6,hax];rfl)) ?_
 nofun
 specialize Q8 ?_;exists ⟨rx,_,dx,_,_,rfl,h1,ck.a1L,ck.a3a,rfl,?_⟩;exists a8Z x1 h.deed λH1 s1=>?_
 rw[x3];unfold beh at k;cases hSp:Sp p with
 |true=>
  exists C6 rfl ?_;have:=k H1 s1;rw[if_pos hSp]at this;exact this
 |false=>
  exists z4 rfl ?_;specialize Q8 ?_;exists ⟨rx,_,dx,_,_,rfl,s1 _ _ h1,ck.a1L,ck.a3a,rfl,?_⟩;refine a7S (x1.ts (j5.ts s1)) (h.deed.ts (j5.ts s1)) ?_;rw[b5g x1.2 (j5.ts s1),x2]
  ext
  have kk:=k H1 s1;rw[if_neg (by rw[hSp];intro z;cases z)]at kk;cases hDo:Do p with
  |true=>
   refine C6 rfl ?_;rw[hDo]at kk;exact kk
  |false=>
   exists z4 rfl ?_;specialize U6 ?_;exists ⟨rx,dx,_,rfl,s1 _ _ h1,rfl,?_⟩;refine b9b ck (h.same s1) ?_;rw[hDo]at kk;exact kk
def onF(Do Sp:Nat->Bool)(S:List Nat)(s:Stp):Bool := !decide (s=FST)&&beh Do Sp S s.1.toNat
def b9a{K:Fg}{c:Cn}{x:Addr}{Sp:Nat->Bool}(ck:X6 K c)(h:Rdy K c H rx x dd N rs ds Do Sp S)(ha:a0W K H a s)(hs:a5i N s)(k:∀H',j5 H H'->Q (.bl (onF Do Sp S s)) H'):a1Q K c [.ref rx,.ref a] H Q E:=by
 obtain⟨dx,d,kvs,h1,cb⟩:=h.ex;refine⟨rfl,?_⟩;unfold a6Z
 ext
 refine⟨_,_,_,_,rfl,rfl,ha.sq,ck.W9 H,rfl,rfl,?_⟩;rw[eq2]
 ext
 rcases hs with rfl | ⟨p,q,l,t,rfl,hl,hq⟩
 .refine z4 rfl ?_;exact k H (j5.refl H)
 .refine C6 (by
   have:decide ((((p:Int),(q:Int)).1,((p:Int),(q:Int)).2)=FST)=false:=d4D a6P;rw[this];rfl) ?_
  rcases ha with ha | ⟨z,_⟩
  rotate_left
  .exact(a6P z).elim
  ext
  specialize U6 ?_;exists ⟨rx,dx,_,rfl,h1,rfl,?_⟩;exists P0 ha (a2r _ _) ?_;refine b3p ck h (gI hl) λH' s'=>?_
  have:=k H' s';unfold onF at this;rw[d4D a6P]at this;exact this
def c3G(h:a5i N s):s∈K5 N:=by
 rcases h with rfl | ⟨p,q,l,t,rfl,h1,h2⟩
 .exact Q4 ..
 .refine K6 _ (c9q.mpr ⟨p,U0.mpr (gI h1),?_⟩);unfold a3G;refine F5.mpr ⟨q,U0.mpr ?_,rfl⟩;simp only[Q2,h1,a4U];exact(gI h2)
def a8N(r n e:Addr)(m:Str)(h:m∉(["rows","nexts","entries"]:List Str)):([("rows",.ref r),("nexts",.ref n),("entries",.ref e)]:List (Str×V)).lookup m=none:=by
 rw[List.lookup_eq_none_iff];intro p hp;simp only[t8,G8,or_false]at h hp;rcases hp with rfl | rfl | rfl
 .simp;intro z;exact h (.inl z)
 .simp;intro z;exact h (.inr (.inl z))
 .simp;intro z;exact h (.inr (.inr z))
def b1j{K:Fg}{c:Cn}{x:Addr}(ck:X6 K c)(hp:a0z K c H x N)(ht:t<N.length)
  (k:∀a H',H a=none->Q3 K H' a ((K5 N).filter λs=>decide (a0p N s=t))->j5 H H'->Q (.ref a) H'):a0n K [.ref x,.int (t:Int)] H Q E:=by
 obtain⟨dx,r,n,e,es,h1,_,_,h4,h5,h6⟩:=hp.ex;refine⟨rfl,?_⟩;unfold a6k
 ext
 specialize Q8 ?_;exists ⟨x,_,dx,_,.ref e,rfl,h1,ck.N4,ck.a1H,rfl,?_⟩;obtain⟨y,hy⟩:∃y,es[t]?=some y:=⟨_,c8 (by omega)⟩;exists M0 h4 (a1e (by rw[b6,hy];rfl)) ?_;obtain⟨vs,v1,v2,v3⟩:=(h6 t y hy).ex;refine a4I v1 λl H' hl e' s'=>?_
 exact k l H' hl ⟨vs,e',v2,λi x s a b=>(v3 i x s a b).ts (j5.ts s')⟩ s'
def c1R(N:Nt)(Do Sp:Nat->Bool)(t:Nat):Prop:=Do t=false/\(Sp t=true\/N[t]?=some [])
def Jgb(K:Fg)(H:Hp)(N:Nt)(Do Sp:Nat->Bool)(S:List Nat)(i t:Nat)(v:V):Prop:=
 (v=.non/\c1R N Do Sp t)\/∃(a:Addr) (q:Nat) (l:List Nat) (u j:Nat),v=.ref a/\a0W K H a ((t:Int),(q:Int))/\N[t]?=some l/\l[q]?=some u/\S[j]?=some u/\j<i/\Do t=false
def Jgb.grow{K:Fg}{Sp:Nat->Bool}{ext:List Nat}(h:Jgb K H N Do Sp S i t v)(ts:J2 H H'):Jgb K H' N Do Sp (S++ext) i t v:=by
 rcases h with h | ⟨a,q,l,u,j,h1,h2,h3,h4,h5,h6,h7⟩
 .exact .inl h
 .exact .inr ⟨a,q,l,u,j,h1,h2.ts ts,h3,h4,by rw[o5 (gI h5)];exact h5,h6,h7⟩
structure GbK(K:Fg)(H:Hp)(d:Addr)(N:Nt)(Do Sp:Nat->Bool)(S:List Nat)(kvs:List (Key×V)):Prop where
 hd:H d=some (.dK kvs)
 nd:S.Nodup
 lt:∀t∈S,t<N.length
 len:kvs.length=S.length
 at_:∀(i:Nat) t,S[i]?=some t->∃v,kvs[i]?=some (Sum.inl (t:Int),v)/\Jgb K H N Do Sp S i t v
section
variable {K:Fg}{Sp:Nat->Bool}
def GbK.keys(h:GbK K H d N Do Sp S kvs):kvs.map (·.1)=S.map λ(t:Nat)=>(Sum.inl (t:Int):Key):=by
 apply b3T;intro i;rw[b6,b6];cases e:S[i]? with
 |none=>
  have:kvs[i]?=none:=by
   rw[a3t]at e ⊢;have:=h.len;omega
  rw[this];rfl
 |some t=>
  obtain⟨v,q,_⟩:=h.at_ i t e;rw[q];rfl
def GbK.ndk(h:GbK K H d N Do Sp S kvs):(kvs.map (·.1)).Nodup:=by
 rw[h.keys];refine a1C _ (λa b hab z=>hab ?_) h.nd;have:=Sum.inl.inj z;omega
def GbK.in_(h:GbK K H d N Do Sp S kvs)(t:Nat):(a7t kvs (Sum.inl (t:Int))).isSome=decide (t∈S):=by
 by_cases ht:t∈S
 .rw[d4E ht];obtain⟨i,hi⟩:=C8.mp ht;obtain⟨v,q,_⟩:=h.at_ i t hi;rw[b3Z h.ndk (mI q)];rfl
 .rw[d4D ht];cases e:a7t kvs (Sum.inl (t:Int))with
  |none=>rfl
  |some v=>
   have:=c2b e;rw[h.keys]at this;obtain⟨u,hu,z⟩:=F5.mp this;have:=Sum.inl.inj z;have:u=t:=by omega
   exact absurd (this ▸ hu) ht
def GbK.notin(h:GbK K H d N Do Sp S kvs)(t:Nat):∃o,b1I H d (.int (t:Int)) o/\o.isSome=decide (t∈S):=⟨_,b1I.k (k:=Sum.inl (t:Int)) h.hd,h.in_ t⟩
def GbK.same(h:GbK K H d N Do Sp S kvs)(s:j5 H H'):GbK K H' d N Do Sp S kvs:=
 ⟨s _ _ h.hd,h.nd,h.lt,h.len,λi t e=>by
  obtain⟨v,q1,q2⟩:=h.at_ i t e;have:=q2.grow (ext:=[]) (j5.ts s);rw[F9]at this;exact⟨v,q1,this⟩⟩
def GbK.add(h:GbK K H d N Do Sp S kvs)(ht:¬t∈S)(hlt:t<N.length)(hj:Jgb K H N Do Sp S S.length t v) :
  GbK K (upd H d (.dK (a2F kvs (Sum.inl (t:Int)) v))) d N Do Sp (S++[t]) (a2F kvs (Sum.inl (t:Int)) v):=by
 have e:a2F kvs (Sum.inl (t:Int)) v=kvs++[(Sum.inl (t:Int),v)]:=by
  unfold a2F;rw[a5D,h.in_,d4D ht,if_neg (by decide)]
 rw[e];have ts:J2 H (upd H d (.dK (kvs++[(Sum.inl (t:Int),v)]))):=λb xs q=>by rw[i9 (O9 q h.hd (by intro z;cases z))];exact q
 refine⟨c7,?_,λu hu=>?_,by simp[h.len],λi u hu=>?_⟩
 .rw[a2M];exact⟨h.nd,by simp,λx hx y hy=>by rw[l7.mp hy];intro z;exact ht (z ▸ hx)⟩
 .rcases v7.mp hu with q | q
  .exact h.lt u q
  .rw[l7.mp q];exact hlt
 .rcases a0N hu with ⟨hi,g⟩ | ⟨hi,g⟩
  .obtain⟨v',q1,q2⟩:=h.at_ i u g;exact⟨v',by rw[o5 (gI q1)];exact q1,q2.grow ts⟩
  .subst g;refine⟨v,?_,?_⟩
   .rw[hi,<-h.len];simp
   .rw[hi];exact hj.grow ts
end
structure c9k(N:Nt)(Do Sp:Nat->Bool)(S:List Nat):Prop where
 en:∀t,t<N.length->c1R N Do Sp t->t∈S
 no:∀(p:Nat) l,N[p]?=some l->Do p=false->∀t∈l,t∈S->p∈S
def d0S(N:Nt)(S:List Nat)(p:Nat):Bool:=decide (0<(N.getD p []).length)&&(N.getD p []).all λt => !decide (t∈S)
structure Wnt(K:Fg)(c:Cn)(H:Hp)(wx x:Addr)(N:Nt)(Do Sp:Nat->Bool)(S:List Nat):Prop where
 ex:∃dx d kvs,H wx=some (.ins c.T0 dx [("plan",.ref x),("goes_by",.ref d)])/\GbK K H d N Do Sp S kvs
 plan:a0z K c H x N
 shut:c9k N Do Sp S
section
variable {K:Fg}{c:Cn}{x:Addr}{Sp:Nat->Bool}{p:Nat}
def Wnt.same(h:Wnt K c H wx x N Do Sp S)(s:j5 H H'):Wnt K c H' wx x N Do Sp S:=by
 obtain⟨dx,d,kvs,h1,h2⟩:=h.ex;exact⟨⟨dx,d,kvs,s _ _ h1,h2.same s⟩,h.plan.same s,h.shut⟩
def b3K(a b:V)(m:Str)(h:m∉(["plan","goes_by"]:List Str)):([("plan",a),("goes_by",b)]:List (Str×V)).lookup m=none:=by
 have h1:m≠("plan" : Str):=λe=>h (by rw[e];simp)
 have h2:m≠("goes_by" : Str):=λe=>h (by rw[e];simp)
 simp[W0,beq_eq_false_iff_ne.mpr h1,beq_eq_false_iff_ne.mpr h2]
def b0G(ck:X6 K c)(h:Wnt K c H wx x N Do Sp S)(k:Q (.bl (!decide (t∈S))) H):Z3 K [.ref wx,.int (t:Int)] H Q E:=by
 obtain⟨dx,d,kvs,h1,cb⟩:=h.ex;refine⟨rfl,?_⟩;unfold a5H
 ext
 specialize a2l ?_;specialize Q8 ?_;refine⟨wx,_,dx,_,_,rfl,h1,ck.a2x,ck.a1W,rfl,?_⟩;obtain⟨o',g1,g2⟩:=cb.notin t;refine⟨d,o',rfl,g1,?_⟩;rw[g2];exact k
def b6U(ck:X6 K c)(h:Wnt K c H wx x N Do Sp S)(ha:a0W K H a s)(hs:a5i N s)(k:Q (.bl (!decide (a0p N s∈S))) H):a1b K c [.ref wx,.ref a] H Q E:=by
 obtain⟨dx,d,kvs,h1,cb⟩:=id h.ex;obtain⟨dx',fs,n,hx,hf,hn⟩:=h.plan.x;obtain⟨dx2,r,n2,e,es,p1,_⟩:=h.plan.ex;refine⟨rfl,?_⟩;unfold a5G
 ext
 specialize U6 ?_;exists ⟨wx,dx,_,rfl,h1,b3K _ _ _ (by decide),?_⟩;exact_mod_cast U6 ?_;specialize Q8 ?_;refine⟨wx,_,dx,_,_,rfl,h1,ck.a2x,ck.a2v,rfl,?_⟩;exists ⟨x,dx2,_,rfl,p1,a8N r n2 e _ (by decide),?_⟩;exists a6w ck h.plan.x ha hs ?_;exact b0G ck h k
def b1Q(ck:X6 K c)(h:Wnt K c H wx x N Do Sp S)(hv:a0i N)(hp:p<N.length)(k:∀H',j5 H H'->Q (.bl (d0S N S p)) H'):U1 K c [.ref wx,.int (p:Int)] H Q E:=by
 obtain⟨dx,d,kvs,h1,cb⟩:=id h.ex;obtain⟨dx',fs,n,hx,hf,hn⟩:=h.plan.x;have hl:=P7 hp;obtain⟨l,hle⟩:∃l,l=N[p]:=⟨_,rfl⟩;rw[<-hle]at hl;have hg:N.getD p []=l:=by simp[Q2,hl]
 have l2:=hv.two l (mI hl);obtain⟨us,u,f1,f2,f3,_⟩:=hn.at hl;unfold d0S at k;rw[hg]at k;refine⟨rfl,?_⟩;unfold a3F
 nofun
 exact_mod_cast Q8 ?_;specialize Q8 ?_;refine⟨wx,_,dx,_,_,rfl,h1,ck.a2x,ck.a2v,rfl,?_⟩;exists ⟨x,_,dx',fs,_,rfl,hx,ck.N4,ck.U5,hf,?_⟩;exists M0 f1 f2 ?_;refine O3 f3 ?_;rw[J9]
 ext
 by_cases h0:0<l.length
 .rw[d4E h0]at k;exists C6 (d4E (by omega)) ?_;specialize Y9 (V8 ?_);refine⟨u,rfl,⟨_,SqL.of f3⟩,λT hT=>?_⟩;refine X5 (xs:=IL l) (λi ys H8=>ys=((l.take i).map λt=>V.bl (!decide (t∈S)))/\H8 T=some (.lst ys)/\j5 H H8) ?_ ?_ ?_ ?_ ?_
  .exact⟨rfl,c7,A2 hT⟩
  .rintro i ys H8 ⟨_,h,_⟩;exact h
  .rintro i ys H8 _ ⟨_,_,s8⟩;exact SqL.of (s8 _ _ f3)
  .rintro i y ys H8 hy ⟨rfl,hT8,s8⟩ R hR;unfold IL at hy;rw[b6]at hy;cases hz:l[i]? with
   |none=>rw[hz]at hy;cases hy
   |some z=>
    rw[hz]at hy;cases hy
    ext
    specialize U6 ?_;exists ⟨wx,dx,_,rfl,s8 _ _ h1,b3K _ _ _ (by decide),?_⟩;refine b0G ck (h.same s8) ?_;refine hR _ _ hT8 (L5 (by rw[b8,F7];omega)) ⟨?_,c7,λb o e=>?_⟩
    .rw[L3,hz,F8];rfl
    .rw[i9 (f6 e hT)];exact s8 _ _ e
  .rintro ys H8 ⟨rfl,hT8,s8⟩;rw[J9,M3]at hT8;have eb:(l.map λt=>V.bl (!decide (t∈S)))=(l.map λt => !decide (t∈S)).map V.bl:=by rw[R3];rfl
   rw[eb]at hT8
   ext
   refine c8X hT8 ?_;have:=k H8 s8;rw[a2u]at this;rw[d2F];exact this
 .rw[d4D h0]at k;refine z4 (d4D (by omega)) ?_;exact k H (j5.refl _)
end
def c2u{p q:Nat}(h1:N[p]?=some l)(h2:l[q]?=some t):a0p N ((p:Int),(q:Int))=t:=by
 unfold a0p;rw[if_neg a6P];show(N.getD (p:Int).toNat []).getD (q:Int).toNat 0=t;rw[C9,C9];simp[Q2,h1,h2]
def d1a(a b:List Nat):IL (a++b)=IL a++IL b:=by unfold IL;rw[F8]
def b0x(N:Nt)(Do Sp:Nat->Bool)(p:Nat):Bool := !Do p&&(Sp p||decide ((N.getD p []).length=0))
structure a6d(c:Cn)(H:Hp)(x:Addr)(N:Nt)(rs:List Addr):Prop where
 ex:∃dx fs n r,H x=some (.ins c.M5 dx fs)/\fs.lookup ("nexts" : Str)=some (V.ref n)/\N8 H n N/\fs.lookup ("rows" : Str)=some (V.ref r)/\H r=some (.lst (rs.map V.ref))/\rs.length=N.length
def b1S{K:Fg}{c:Cn}{x:Addr}{Sp:Nat->Bool}(ck:X6 K c)(hp:a6d c H x N rs)(hv:a0i N)(hd:a0H H dd ds)(hs:a5t H rs ds Do Sp)
  (k:∀D H',H D=none->H' D=some (.lst (IL ((A1 N.length).filter (b0x N Do Sp))))->j5 H H'->Q (.ref D) H'):a2z K [.ref x,.ref dd] H Q E:=by
 have h400:=hv.le;obtain⟨dx,fs,n,r,hx,hfn,hn,hfr,hr,lr⟩:=hp.ex;refine⟨rfl,?_⟩;unfold a8f
 nofun
 exists E4 (by simp) λD H1 hD e1 s1=>?_
 exact_mod_cast L4 ?_;specialize a1S (a5p ?_);specialize Q8 ?_;exists ⟨x,_,dx,fs,_,rfl,s1 _ _ hx,ck.N4,ck.P3,hfr,?_⟩;refine⟨r,rfl,⟨_,SqL.of (s1 _ _ hr)⟩,?_⟩;refine b5e N.length (λi σ H2=>∃y3 y4,σ=[some (.ref x),some (.ref dd),some (.ref D),y3,y4]/\H2 D=some (.lst (IL ((A1 i).filter (b0x N Do Sp))))/\j5 H H2) ⟨_,_,rfl,e1,s1⟩ ?_ ?_ ?_
 .rintro _ H2 ⟨y3,y4,rfl,hD2,s2⟩;exists ⟨⟨_,SqL.of (s2 _ _ hr),by rw[b8,lr];exact j8 _⟩,?_⟩;exact k D H2 hD hD2 s2
 .rintro i _ H2 hi ⟨y3,y4,rfl,hD2,s2⟩;exact⟨_,_,SqL.of (s2 _ _ hr),by rw[b6,c8 (show i<rs.length by omega)];rfl⟩
 .rintro i _ H2 hi ⟨y3,y4,rfl,hD2,s2⟩ v H3 ⟨pp,w,hpp,rfl,rfl,gw⟩;obtain⟨rx,hrx⟩:∃rx,rs[i]?=some rx:=⟨_,c8 (by omega)⟩;have gw:=gw _ (SqL.of (s2 _ _ hr));rw[b6,hrx]at gw;cases gw;refine a7B (SqT.of c7) ?_;have s3:j5 H2 (upd H2 pp (.tup [V.int (i:Int),V.ref rx])):=A2 hpp;obtain⟨H3,hH3⟩:∃H3,H3=upd H2 pp (.tup [V.int (i:Int),V.ref rx]):=⟨_,rfl⟩;rw[<-hH3]at s3 ⊢;have s03:=s2.trans s3;obtain⟨xs,x1,x2,x3⟩:=(hs.ts (j5.ts s03)) i rx hrx;have hlp:=P7 hi;obtain⟨lp,hle⟩:∃lp,lp=N[i]:=⟨_,rfl⟩;rw[<-hle]at hlp;have hg:N.getD i []=lp:=by simp[Q2,hlp]
  have hb:b0x N Do Sp i=(!Do i&&(Sp i||decide (lp.length=0))):=by unfold b0x;rw[hg]
  have lf:((A1 i).filter (b0x N Do Sp)).length<=i:=by
   have:=G6 (b0x N Do Sp) (A1 i);rw[a2N]at this;exact this
  have skip:∀H4,j5 H3 H4->b0x N Do Sp i=false->(∃y3 y4,[some (V.ref x),some (.ref dd),some (.ref D),some (.int (i:Int)),some (.ref rx)]=[some (V.ref x),some (.ref dd),some (.ref D),y3,y4]/\H4 D=some (.lst (IL ((A1 (i+1)).filter (b0x N Do Sp))))/\j5 H H4):=λH4 s4 e=>by
   refine⟨_,_,rfl,?_,s03.trans s4⟩;rw[a1Z,X9];simp only[a5k,e,a6e,if_neg (show ¬(false=true) by decide),F9];exact s4 _ _ (s3 _ _ hD2)
  have put:∀H4,j5 H3 H4->b0x N Do Sp i=true->(∃y3 y4,[some (V.ref x),some (.ref dd),some (.ref D),some (.int (i:Int)),some (.ref rx)]=[some (V.ref x),some (.ref dd),some (.ref D),y3,y4]/\(upd H4 D (.lst (IL ((A1 i).filter (b0x N Do Sp))++[.int (i:Int)]))) D=some (.lst (IL ((A1 (i+1)).filter (b0x N Do Sp))))/\j5 H (upd H4 D (.lst (IL ((A1 i).filter (b0x N Do Sp))++[.int (i:Int)])))):=λH4 s4 e=>by
   refine⟨_,_,rfl,?_,λb o q=>?_⟩
   .rw[c7,a1Z,X9];simp only[a5k,e,a6e,if_pos];rw[d1a];rfl
   .rw[i9 (f6 q hD)];exact s4 _ _ (s03 _ _ q)
  ext
  refine a7S x1 (hd.ts (j5.ts s03)) ?_;rw[x2]
  ext
  cases hDo:Do i with
  |true=>
   refine z4 rfl ?_;exists z4 rfl ?_;exact skip H3 (j5.refl _) (by rw[hb,hDo];rfl)
  |false=>
   exists C6 rfl ?_;refine a8Z x1 (hd.ts (j5.ts s03)) λH4 s4=>?_
   rw[x3]
   ext
   cases hSp:Sp i with
   |true=>
    refine C6 rfl ?_;exists C6 rfl ?_;specialize a9s ?_;exists ⟨a0E (s4 _ _ (s3 _ _ hD2)),?_⟩;refine a1h (s4 _ _ (s3 _ _ hD2)) (L5 (by rw[J9];omega)) ?_;exact put H4 s4 (by rw[hb,hDo,hSp];rfl)
   |false=>
    exists z4 rfl ?_;specialize Q8 ?_;refine⟨x,_,dx,fs,_,rfl,(s03.trans s4) _ _ hx,ck.N4,ck.U5,hfn,?_⟩;obtain⟨us,u,f1,f2,f3,_⟩:=(hn.same (s03.trans s4)).at hlp
    ext
    exists M0 f1 f2 ?_;refine O3 f3 ?_;rw[J9]
    ext
    by_cases h0:lp.length=0
    .exists C6 (d4E (by rw[h0];rfl)) ?_;specialize a9s ?_;exists ⟨a0E (s4 _ _ (s3 _ _ hD2)),?_⟩;refine a1h (s4 _ _ (s3 _ _ hD2)) (L5 (by rw[J9];omega)) ?_;exact put H4 s4 (by rw[hb,hDo,hSp,d4E h0];rfl)
    .exists z4 (d4D (λz=>h0 (by have:=V.int.inj z;omega))) ?_;exact skip H4 s4 (by rw[hb,hDo,hSp,d4D h0];rfl)
def b1o(L:List Nat):List (Key×V):=L.map λ(p:Nat)=>(Sum.inl (p:Int),V.non)
def c3T{K:Fg}{tr:TE}(nd:L.Nodup)(l400:L.length<=400)(htr:∀R:VK,(∀a H',H' a=some (.lst (IL L))->j5 H H'->R (.ref a) H')->tr σ H R)
  (k:∀d H',H d=none->H' d=some (.dK (b1o L))->j5 H H'->Q (.ref d) H'):tCB c0Z (a9 (V6 (V7 K tr) Z2 (W4 (a9 (b4 0) (a9 (tC .non) i8)))) i8) σ H Q:=by
 exact_mod_cast c0T ?_;exact_mod_cast G0 ?_;exact_mod_cast Y9 (V8 ?_);refine htr _ λa H1 e1 s1=>?_
 refine⟨a,rfl,⟨_,SqL.of e1⟩,λT hT=>?_⟩;refine X5 (xs:=IL L) (λi ys H8=>ys.length=i/\H8 T=some (.lst ys)/\j5 H1 H8/\∀(j p:Nat),j<i->L[j]?=some p->∃b,ys[j]?=some (V.ref b)/\H8 b=some (.tup [.int (p:Int),.non])) ?_ ?_ ?_ ?_ ?_
 .exact⟨rfl,c7,A2 hT,by omega⟩
 .rintro i ys H8 ⟨_,h,_⟩;exact h
 .rintro i ys H8 _ ⟨_,_,s8,_⟩;exact SqL.of (s8 _ _ e1)
 .rintro i y ys H8 hy ⟨l8,hT8,s8,a8⟩ R hR;unfold IL at hy;rw[b6]at hy;cases hz:L[i]? with
  |none=>rw[hz]at hy;cases hy
  |some z=>
   rw[hz]at hy;cases hy;have hi:=(gI hz)
   ext
   refine E4 (by simp) λb H9 hb e9 s9=>?_
   have bT:b≠T:=λq=>by rw[q,hT8]at hb;cases hb
   refine hR _ _ (s9 _ _ hT8) (L5 (by omega)) ⟨by rw[u5,l8];rfl,c7,λb o e=>?_,λj p hj hp=>?_⟩
   .rw[i9 (f6 e hT)];exact s9 _ _ (s8 _ _ e)
   .by_cases q:j=i
    .subst q;rw[hz]at hp;cases hp;exact⟨b,by rw[<-l8];simp,by rw[i9 bT];exact e9⟩
    .obtain⟨b',q1,q2⟩:=a8 j p (by omega) hp;exact⟨b',by rw[o5 (by omega)];exact q1,by rw[i9 (O9 q2 hT8 (by intro z;cases z))];exact s9 _ _ q2⟩
 .rintro ys H8 ⟨l8,hT8,s8,a8⟩;rw[J9]at l8 a8;exact_mod_cast X3 ?_;refine⟨T,ys,b1o L,rfl,hT8,by rw[l8];simp[b1o],λi kk x e=>?_,?_,λd hd=>?_⟩
  .unfold b1o at e;rw[b6]at e;cases hz:L[i]? with
   |none=>rw[hz]at e;cases e
   |some z=>
    rw[hz]at e;cases e;obtain⟨b,q1,q2⟩:=a8 i z (gI hz) hz;exact⟨b,q1,q2⟩
  .unfold b1o;rw[R3];refine a1C _ (λa b hab z=>hab ?_) nd;have:=Sum.inl.inj z;omega
  .have s08:=s1.trans s8;exact k d _ (s08.free hd) c7 (s08.trans (A2 hd))
def c6f{K:Fg}{Sp:Nat->Bool}(hd:H d=some (.dK (b1o L)))(nd:L.Nodup)(lt:∀t∈L,t<N.length)(en:∀t∈L,c1R N Do Sp t):GbK K H d N Do Sp L (b1o L):=by
 refine⟨hd,nd,lt,by simp[b1o],λi t e=>⟨.non,?_,.inl ⟨rfl,en t (mI e)⟩⟩⟩;unfold b1o;rw[b6,e];rfl
structure GbI(K:Fg)(H0 H:Hp)(d o:Addr)(N:Nt)(Do Sp:Nat->Bool)(S:List Nat)(kvs:List (Key×V)):Prop where
 gb:GbK K H d N Do Sp S kvs
 same:j5 H0 H
 ho:H o=some (.lst (IL S))
 fr:H0 d=none/\H0 o=none
def But(d o:Addr)(H H':Hp):Prop:=∀b ob,b≠d->b≠o->H b=some ob->H' b=some ob
section
variable {K:Fg}{o:Addr}{Sp:Nat->Bool}
def GbI.next(h:GbI K H0 H d o N Do Sp S kvs)(s:j5 H H'):GbI K H0 H' d o N Do Sp S kvs:=⟨h.gb.same s,h.same.trans s,s _ _ h.ho,h.fr⟩
def But.ts(h:But d o H H')(hd:H d=some (.dK kvs))(ho:H o=some (.lst (IL S))):J2 H H':=λb xs q=>h b _ (O9 q hd (by intro z;cases z)) (O9 q ho (by intro z;cases z)) q
def c8f{a b g p q:Nat}{x:Addr}(ha:σ[a]?=some (some (.ref x)))(hb:σ[b]?=some (some (.ref d)))(hg:σ[g]?=some (some (.ref o)))(I:GbI K H0 H d o N Do Sp S kvs)(h400:N.length<=400)(hx:H x=some (.tup [.int (p:Int),.int (q:Int)]))(hl:N[p]?=some l)(ht:l[q]?=some t)(hj:S[j]?=some t)(hD:Do p=false)(hps:¬p∈S)
  (k:∀H' kvs',kvs'=kvs++[(Sum.inl (p:Int),.ref x)]->GbI K H0 H' d o N Do Sp (S++[p]) kvs'->But d o H H'->D.nx σ H'):w4 (a3S (b4 b) (tOp qIx (b4 a) (tC (.int 0))) (b4 a)) (Y1 (tBM K "list" Z9 (b4 g) (a9 (tOp qIx (b4 a) (tC (.int 0))) (i8)))) D σ H:=by
 exact_mod_cast L4 ?_;exact_mod_cast a7C ?_;exact_mod_cast M7 ha ?_;exact_mod_cast M7 hb ?_;exact_mod_cast b2f ?_;exact_mod_cast M7 ha ?_;exact_mod_cast s_c ?_;refine P0 hx (a2r _ _) ?_;have hlen:S.length<=400:=G5 (a4d _ _ I.gb.nd I.gb.lt) h400;refine⟨d,_,rfl,b6j.k (k:=Sum.inl (p:Int)) I.gb.hd (L5 (by rw[I.gb.len];omega)),?_⟩;have add:=I.gb.add (v:=.ref x) hps (gI hl) (.inr ⟨x,q,l,t,j,rfl,.inl hx,hl,ht,hj,(gI hj),hD⟩)
 have ek:a2F kvs (Sum.inl (p:Int)) (.ref x)=kvs++[(Sum.inl (p:Int),.ref x)]:=by
  unfold a2F;rw[a5D,I.gb.in_,d4D hps,if_neg (by decide)]
 obtain⟨kvs',hk⟩:∃kvs',kvs'=a2F kvs (Sum.inl (p:Int)) (.ref x):=⟨_,rfl⟩;rw[<-hk]at add ⊢;obtain⟨H2,hH2⟩:∃H2,H2=upd H d (.dK kvs'):=⟨_,rfl⟩;rw[<-hH2]at add ⊢;have nod:o≠d:=O9 I.ho I.gb.hd (by intro z;cases z);have ho2:H2 o=some (.lst (IL S)):=by rw[hH2,i9 nod];exact I.ho
 have hx2:H2 x=some (.tup [.int (p:Int),.int (q:Int)]):=by rw[hH2,i9 (O9 hx I.gb.hd (by intro z;cases z))];exact hx
 exact_mod_cast b7m ?_;exact_mod_cast a9s ?_;exact_mod_cast M7 hg ?_;refine⟨a0E ho2,?_⟩;exact_mod_cast G0 ?_;exact_mod_cast b2f ?_;exact_mod_cast M7 ha ?_;exact_mod_cast s_c ?_;refine P0 hx2 (a2r _ _) ?_;exact_mod_cast X3 ?_;refine a1h ho2 (L5 (by rw[J9];omega)) ?_;have e3:IL S++[V.int (p:Int)]=IL (S++[p]):=by simp[IL]
 rw[e3];have ts:J2 H2 (upd H2 o (.lst (IL (S++[p])))):=J2.put ho2;refine k _ kvs' (hk.trans ek) ⟨⟨by rw[i9 nod.symm];exact add.hd,add.nd,add.lt,add.len,λi u hu=>?_⟩,λb' o'' q'=>?_,c7,I.fr⟩ λb ob n1 n2 e=>?_
 .obtain⟨v,q1,q2⟩:=add.at_ i u hu;have:=q2.grow (ext:=[]) ts;rw[F9]at this;exact⟨v,q1,this⟩
 .rw[i9 (f6 q' I.fr.2),hH2,i9 (f6 q' I.fr.1)];exact I.same _ _ q'
 .rw[i9 n2,hH2,i9 n1];exact e
def d0M{a b g p q:Nat}{x:Addr}(ha:σ[a]?=some (some (.ref x)))(hb:σ[b]?=some (some (.ref d)))(hg:σ[g]?=some (some (.ref o)))(I:GbI K H0 H d o N Do Sp S kvs)(h400:N.length<=400)(hx:H x=some (.tup [.int (p:Int),.int (q:Int)]))(hl:N[p]?=some l)(ht:l[q]?=some t)(hj:S[j]?=some t)(hD:Do p=false)(hps:¬p∈S)
  (k:∀H' kvs',GbI K H0 H' d o N Do Sp (S++[p]) kvs'->But d o H H'->D.nx σ H'):w4 (a3S (b4 b) (tOp qIx (b4 a) (tC (.int 0))) (b4 a)) (Y1 (tBM K "list" Z9 (b4 g) (a9 (tOp qIx (b4 a) (tC (.int 0))) (i8)))) D σ H:=
 c8f ha hb hg I h400 hx hl ht hj hD hps λH' kvs' _=>k H' kvs'
end
def But.trans{o:Addr}{H'':Hp}(h:But d o H H')(h':But d o H' H''):But d o H H'':=λb ob n1 n2 e=>h' b ob n1 n2 (h b ob n1 n2 e)
def But.refl{o:Addr}:But d o H H:=λ_ _ _ _ e=>e
def c6j{Sp:Nat->Bool}(ht:t<N.length):b0x N Do Sp t=true↔c1R N Do Sp t:=by
 have hg:N.getD t []=N[t]:=by simp[Q2,ht]
 unfold b0x c1R;rw[hg,a0w,Bool.or_eq_true,P7 ht,b3U,decide_eq_true_iff,c1T,Option.some.injEq]
def a6d.same{c:Cn}{x:Addr}(h:a6d c H x N rs)(s:j5 H H'):a6d c H' x N rs:=by
 obtain⟨dx,fs,n,r,h1,h2,h3,h4,h5,h6⟩:=h.ex;exact⟨dx,fs,n,r,s _ _ h1,h2,h3.same s,h4,s _ _ h5,h6⟩
def a7m.q{K:Fg}{c:Cn}{x:Addr}(h:a7m K c Z rs H x N):a6d c H x N rs:=by
 obtain⟨dx,r,n,e,es,ns,h1,⟨h2,h2r⟩,h3,h4,h5,h6,h7,h8,_⟩:=h.ex;refine⟨dx,_,n,r,h1,rfl,⟨ns,h3,h4,h5⟩,rfl,h2r,?_⟩;obtain⟨rs',q1,q2,_⟩:=h2.ex;rw[h2r]at q1;have:=congrArg b6l (HO.lst.inj (Option.some.inj q1));rw[b8,b8]at this;omega
def b0K{K:Fg}{c:Cn}{x:Addr}{Sp:Nat->Bool}(ck:X6 K c)(hp:a6d c H x N rs)(hz:a0z K c H x N)(hv:a0i N)(hd:a0H H dd ds)(hs:a5t H rs ds Do Sp)
  (k:∀d H' S kvs,GbK K H' d N Do Sp S kvs->c9k N Do Sp S->j5 H H'->Q (.ref d) H'):a1P K c [.ref x,.ref dd] H Q E:=by
 have h400:=hv.le;obtain⟨dx,fs,n,r,hx,hfn,hn,hfr,hr,lr⟩:=id hp.ex;obtain⟨dx2,r2,n2,e2',es,p1,_⟩:=id hz.ex;obtain⟨L0,hL0⟩:∃L0,L0=(A1 N.length).filter (b0x N Do Sp):=⟨_,rfl⟩;have nd0:L0.Nodup:=hL0 ▸ b5J.filter _;have lt0:∀t∈L0,t<N.length:=λt ht=>by rw[hL0]at ht;exact U0.mp (U4.mp ht).1
 have en0:∀t,t<N.length->(t∈L0↔c1R N Do Sp t):=λt ht=>by
  rw[hL0,U4,U0,c6j ht];exact⟨λh=>h.2,λh=>⟨ht,h⟩⟩
 have l0:L0.length<=400:=G5 (a4d _ _ nd0 lt0) h400;refine⟨rfl,?_⟩;unfold a6X
 nofun
 refine b1S ck hp hv hd hs λo H1 ho e1 s1=>?_
 rw[<-hL0]at e1
 ext
 exact_mod_cast L4 ?_;exact_mod_cast b1c ?_;exists c3T nd0 l0 (λR hR=>M7 rfl (hR o H1 e1 (j5.refl _))) λd H2 hd2 e2 s2=>?_
 have I2:GbI K H H2 d o N Do Sp L0 _:=⟨c6f e2 nd0 lt0 λt ht=>(en0 t (lt0 t ht)).mp ht,s1.trans s2,s2 _ _ e1,s1.free hd2,ho⟩
 nofun
 exact_mod_cast L4 ?_;exact_mod_cast b0Y ?_
 refine⟨λm σ H4=>∃(y5 y6:Option V) (S:List Nat) (kvs:List (Key×V)) (dn:Nat),σ=[some (.ref x),some (.ref dd),some (.ref o),some (.ref d),some (.int (dn:Int)),y5,y6]/\GbI K H H4 d o N Do Sp S kvs/\(∃ext,S=L0++ext)/\dn<=S.length/\(∀(j t p:Nat) l,j<dn->S[j]?=some t->N[p]?=some l->t∈l->Do p=false->p∈S)/\m=N.length - dn,
  ⟨_,_,_,L0,_,0,rfl,I2,⟨[],by simp⟩,by omega,by omega,rfl⟩,?_⟩
 rintro m _ H4 ⟨y5,y6,S,kvs,dn,rfl,I4,x4,hdn,c4,rfl⟩
 ext
 exists O3 I4.ho ?_;rw[J9];have hSl:S.length<=N.length:=a4d _ _ I4.gb.nd I4.gb.lt;by_cases hlt:dn<S.length
 .refine C6 (d4E (by omega)) ?_;obtain⟨t,htS⟩:∃t,S[dn]?=some t:=⟨_,c8 hlt⟩;have htn:=I4.gb.lt t (mI htS);refine⟨λσ H5=>∃(m':Nat) (y5 y6:Option V) (S:List Nat) (kvs:List (Key×V)) (dn':Nat),σ=[some (.ref x),some (.ref dd),some (.ref o),some (.ref d),some (.int (dn':Int)),y5,y6]/\GbI K H H5 d o N Do Sp S kvs/\(∃ext,S=L0++ext)/\dn'<=S.length/\(∀(j t p:Nat) l,j<dn'->S[j]?=some t->N[p]?=some l->t∈l->Do p=false->p∈S)/\m'=N.length - dn'/\m'<N.length - dn,?_,?_⟩
  .rintro σ' H5 ⟨m',y5,y6,S,kvs,dn',e,r1,r2,r3,r4,r5,r6⟩;exact⟨m',r6,y5,y6,S,kvs,dn',e,r1,r2,r3,r4,r5⟩
  nofun
  exists M0 I4.ho (c0g htS) ?_;exact_mod_cast L4 ?_;specialize c2j rfl ?_;have e1':(dn:Int)+1=((dn+1:Nat):Int):=by omega
  rw[e1'];specialize a1S (V8 ?_);specialize U6 ?_;exists ⟨x,dx2,_,rfl,I4.same _ _ p1,a8N r2 n2 e2' _ (by decide),?_⟩;refine b1j ck (hz.same I4.same) htn λst H5 hst sa s5=>?_
  obtain⟨vs,v1,v2,v3⟩:=sa.ex;have I5:=I4.next s5;have nst:st≠d/\st≠o:=⟨(f6 I4.gb.hd hst).symm,(f6 I4.ho hst).symm⟩;obtain⟨Z,hZ⟩:∃Z,Z=(K5 N).filter λs=>decide (a0p N s=t):=⟨_,rfl⟩
  rw[<-hZ]at v2 v3;refine⟨st,rfl,⟨_,SqL.of v1⟩,a6a (xs:=vs.map V.ref) (λi σ H6=>∃(y6:Option V) (S':List Nat) (kvs':List (Key×V)),σ=[some (.ref x),some (.ref dd),some (.ref o),some (.ref d),some (.int ((dn+1:Nat):Int)),some (.int (t:Int)),y6]/\GbI K H H6 d o N Do Sp S' kvs'/\(∃ext,S'=S++ext)/\But d o H5 H6/\∀(j p q:Nat),j<i->Z[j]?=some ((p:Int),(q:Int))->Do p=false->p∈S') ⟨_,S,kvs,rfl,I5,⟨[],by simp⟩,But.refl,by omega⟩ ?_ ?_ ?_⟩
  .rintro i σ H6 _ ⟨_,_,_,_,_,_,bt,_⟩;exact SqL.of (bt _ _ nst.1 nst.2 v1)
  .rintro i y _ H6 hy ⟨y6,S',kvs',rfl,I6,⟨ext,e6⟩,bt,g6⟩;rw[b6]at hy;cases hw:vs[i]? with
   |none=>rw[hw]at hy;cases hy
   |some w=>
    rw[hw]at hy;cases hy;obtain⟨s,hsi⟩:∃s,Z[i]?=some s:=⟨_,c8 (by have:=(gI hw);omega)⟩;have sm:=mI hsi;rw[hZ,U4]at sm;have iss:=a4D sm.1;have ld:=of_decide_eq_true sm.2;have st6:a0W K H6 w s:=(v3 i w s hw hsi).ts (bt.ts I5.gb.hd I5.ho);have lS':S'.length<=N.length:=a4d _ _ I6.gb.nd I6.gb.lt
    have grow:∀S'',(∃e,S''=S'++e)->(∀p q:Nat,s=((p:Int),(q:Int))->Do p=false->p∈S'')->∀(j p q:Nat),j<i+1->Z[j]?=some ((p:Int),(q:Int))->Do p=false->p∈S'':=by
     rintro S'' ⟨e,rfl⟩ h j p q hj hj2 hD;by_cases z:j=i
     .subst z;rw[hsi]at hj2;exact h p q (Option.some.inj hj2) hD
     .exact v9 _ (g6 j p q (by omega) hj2 hD)
    ext
    refine⟨_,_,_,_,rfl,rfl,st6.sq,ck.W9 H6,rfl,rfl,?_⟩;rw[eq2]
    ext
    rcases iss with rfl | ⟨p,q,l,t',rfl,hl,hq⟩
    .refine z4 rfl ?_;exists z4 rfl ?_;exact⟨_,S',kvs',rfl,I6,⟨ext,e6⟩,bt,grow S' ⟨[],by simp⟩ λp q e _=>(a6P e.symm).elim⟩
    .rw[c2u hl hq]at ld;subst ld
     refine C6 (by
      have:decide ((((p:Int),(q:Int)).1,((p:Int),(q:Int)).2)=FST)=false:=d4D a6P;rw[this];rfl) ?_
     rcases st6 with st6 | ⟨z,_⟩
     rotate_left
     .exact(a6P z).elim
     have eqs:∀p' q':Nat,(((p:Int),(q:Int)):Stp)=((p':Int),(q':Int))->p'=p:=λp' q' e=>by
      have:(p:Int)=(p':Int):=congrArg Prod.fst e;omega
     ext
     specialize a2l ?_;exists P0 st6 (a2r _ _) ?_;obtain⟨o',g1,g2⟩:=I6.gb.notin p;refine⟨d,o',rfl,g1,?_⟩;rw[g2]
     ext
     by_cases hps:p∈S'
     .refine z4 (by rw[d4E hps];rfl) ?_;exists z4 rfl ?_;exact⟨_,S',kvs',rfl,I6,⟨ext,e6⟩,bt,grow S' ⟨[],by simp⟩ λp' q' e _=>by rw[eqs p' q' e];exact hps⟩
     .refine C6 (by rw[d4D hps];rfl) ?_;have hpn:=(gI hl);obtain⟨ax,hax⟩:∃ax,rs[p]?=some ax:=⟨_,c8 (by omega)⟩;obtain⟨xs,x1,x2,x3⟩:=(hs.ts (j5.ts I6.same)) p ax hax
      ext
      specialize Q8 ?_;exists ⟨x,_,dx,fs,_,rfl,I6.same _ _ hx,ck.N4,ck.P3,hfr,?_⟩;exists P0 st6 (a2r _ _) ?_;exists M0 (I6.same _ _ hr) (a1e (by rw[b6,hax];rfl)) ?_;refine a7S x1 (hd.ts (j5.ts I6.same)) ?_;rw[x2]
      ext
      cases hDo:Do p with
      |true=>
       exists z4 rfl ?_;exact⟨_,S',kvs',rfl,I6,⟨ext,e6⟩,bt,grow S' ⟨[],by simp⟩ λp' q' e hD=>by rw[eqs p' q' e,hDo]at hD;cases hD⟩
      |false=>
       refine C6 rfl ?_;refine d0M (a:=6) (b:=3) (g:=2) (j:=dn) rfl rfl rfl I6 h400 st6 hl hq (by rw[e6,o5 hlt];exact htS) hDo hps λH7 kvs7 I7 b7=>?_
       exact⟨_,S'++[p],kvs7,rfl,I7,⟨ext++[p],by rw[e6,a2O]⟩,bt.trans b7,grow _ ⟨[p],rfl⟩ λp' q' e _=>by rw[eqs p' q' e];simp⟩
  .rintro _ H6 ⟨y6,S',kvs',rfl,I6,⟨ext,e6⟩,bt,g6⟩;obtain⟨ext4,hx4⟩:=x4;refine⟨_,_,_,S',kvs',dn+1,rfl,I6,⟨ext4++ext,by rw[e6,hx4,a2O]⟩,by rw[e6,u5];omega,λj t' p l hj hj2 hl ht hD=>?_,rfl,by omega⟩;rw[b8,v2]at g6;have hj3:S[j]?=some t':=by rw[e6,o5 (by omega)]at hj2;exact hj2
   by_cases q:j=dn
   .subst q;rw[htS]at hj3;cases hj3;obtain⟨q,hq⟩:=C8.mp ht
    have m1:(((p:Int),(q:Int)):Stp)∈Z:=by
     rw[hZ,U4];exact⟨c3G (.inr ⟨p,q,l,t,rfl,hl,hq⟩),d4E (c2u hl hq)⟩
    obtain⟨i,hi⟩:=C8.mp m1;exact g6 i p q (gI hi) hi hD
   .rw[e6];exact v9 _ (c4 j t' p l (by omega) hj3 hl ht hD)
 .exists z4 (d4D (by omega)) ?_;obtain⟨ext4,hx4⟩:=x4;refine k d H4 S kvs I4.gb ⟨λt ht he=>by rw[hx4];exact v9 _ ((en0 t ht).mpr he),λp l hl hD t ht htS=>?_⟩ I4.same;obtain⟨j,hj⟩:=C8.mp htS;have:=(gI hj);exact c4 j t p l (by omega) hj hl ht hD
inductive On(N:Nt):Nat->List Stp->Nat->Prop
 | nil {t:Nat}:On N t [] t
 | cons {p q u e:Nat} {l:List Nat} {W:List Stp}:N[p]?=some l->l[q]?=some u->On N u W e->On N p (((p:Int),(q:Int))::W) e
section
variable {e e':Nat}{W W':List Stp}
end
section
end
def GbK.ins{K:Fg}{H:Hp}{d x C dx:Addr}{N:Nt}{Do Sp:Nat->Bool}{S:List Nat}{kvs:List (Key×V)}{fs:List (Str×V)}{o:HO}(h:GbK K H d N Do Sp S kvs)(hx:H x=some (.ins C dx fs)):GbK K (upd H x o) d N Do Sp S kvs:=by
 refine⟨by rw[i9 (O9 h.hd hx (by intro z;cases z))];exact h.hd,h.nd,h.lt,h.len,λi t e=>?_⟩;obtain⟨v,q1,q2⟩:=h.at_ i t e;have:=q2.grow (ext:=[]) (J2.ins (o:=o) hx);rw[F9]at this;exact⟨v,q1,this⟩
def b3X{K:Fg}{c:Cn}{x:Addr}{Sp:Nat->Bool}(ck:X6 K c)(hp:a6d c H x N rs)(hz:a0z K c H x N)(hv:a0i N)(hd:a0H H dd ds)(hs:a5t H rs ds Do Sp)(hwx:H wx=none)(hdx:H dx=none)
  (k:∀H' S,Wnt K c H' wx x N Do Sp S->j5 H H'->Q .non H'):a2i K c [.ref wx,.ref x,.ref dd] (upd (upd H dx (.own wx)) wx (.ins c.T0 dx [])) Q E:=by
 refine⟨rfl,?_⟩;unfold a9B;exact_mod_cast L4 ?_;specialize a0O ?_;refine⟨wx,_,dx,[],rfl,c7,ck.a2x,ck.a2v,by simp,?_⟩;obtain⟨H3,hH3⟩:∃H3,H3=upd (upd (upd H dx (.own wx)) wx (.ins c.T0 dx [])) wx (.ins c.T0 dx (O4 "plan" (.ref x) [])):=⟨_,rfl⟩;rw[<-hH3];have x3:H3 wx=some (.ins c.T0 dx (O4 "plan" (.ref x) [])):=hH3 ▸ c7
 have s3:j5 H H3:=λb o e=>by
  have n1:=f6 e hwx;rw[hH3,i9 n1,i9 n1,i9 (f6 e hdx)];exact e
 specialize a0O ?_;exists b0K ck (hp.same s3) (hz.same s3) hv (hd.ts (j5.ts s3)) (hs.ts (j5.ts s3)) λd H6 S kvs gb sh s6=>?_
 have x4:=s6 _ _ x3;refine⟨wx,_,dx,_,rfl,x4,ck.a2x,ck.a1W,(by show(1:Nat)<1000;decide),?_⟩;have g7:=gb.ins (o:=.ins c.T0 dx (O4 "goes_by" (.ref d) (O4 "plan" (.ref x) []))) x4;obtain⟨H7,hH7⟩:∃H7,H7=upd H6 wx (.ins c.T0 dx (O4 "goes_by" (.ref d) (O4 "plan" (.ref x) []))):=⟨_,rfl⟩;rw[<-hH7]at g7 ⊢;have s7:j5 H H7:=λb o e=>by rw[hH7,i9 (f6 e hwx)];exact s6 _ _ (s3 _ _ e)
 refine k H7 S ⟨⟨dx,d,kvs,?_,g7⟩,hz.same s7,sh⟩ s7;rw[hH7,c7];rfl
def b9C{K:Fg}{c:Cn}{x:Addr}{Sp:Nat->Bool}{a b:Nat}(ck:X6 K c)(hp:a6d c H x N rs)(hz:a0z K c H x N)(hv:a0i N)(hd:a0H H dd ds)(hs:a5t H rs ds Do Sp)(ea:σ[a]?=some (some (.ref x)))(eb:σ[b]?=some (some (.ref dd)))
  (k:∀wx H' S,H wx=none->Wnt K c H' wx x N Do Sp S->j5 H H'->Q (.ref wx) H'):a2e c.T0 (a2i K c) [] E0 (a9 (b4 a) (a9 (b4 b) i8)) σ H Q:=by
 exact_mod_cast b2g ?_;refine G0 (M7 ea (G0 (M7 eb (X3 ?_))));intro wx dx hwx hdx _;exact b3X ck hp hz hv hd hs hwx hdx λH' S h s=>⟨rfl,k wx H' S hwx h s⟩
section
variable {K:Fg}
end
inductive UnR(N:Nt)(Do Sp:Nat->Bool):Nat->Prop
 | zero:UnR N Do Sp 0
 | spoil {p t:Nat} {l:List Nat}:N[p]?=some l->t∈l->Sp p=true->UnR N Do Sp t
 | step {p t:Nat} {l:List Nat}:UnR N Do Sp p->Do p=false->N[p]?=some l->t∈l->UnR N Do Sp t
def c0x{Sp:Nat->Bool}(z:0∈S)(h:d0X N Do Sp S):∀t,UnR N Do Sp t->t∈S:=by
 intro t u;induction u with
 |zero=>exact z
 |spoil h1 h2 h3=>exact h.sp _ _ h3 h1 _ h2
 |step _ h2 h3 h4 ih=>exact h.no _ _ ih h2 h3 _ h4
def c4D{K:Fg}{Sp:Nat->Bool}(h:CbK K H d N Do Sp S kvs):∀(i t:Nat),S[i]?=some t->UnR N Do Sp t:=by
 intro i;induction i using d1i with
 |_ i ih=>
  intro t e;obtain⟨a,s,_,_,j⟩:=h.at_ i t e;rcases j with ⟨_,_,rfl⟩ | ⟨p,q,l,_,h2,h3,h4⟩
  .exact .zero
  .rcases h4 with h4 | ⟨j,j1,j2,j3⟩
   .exact .spoil h2 (mI h3) h4
   .exact .step (ih j j1 p j2) j3 h2 (mI h3)
def Rdy.un{K:Fg}{c:Cn}{x:Addr}{Sp:Nat->Bool}(h:Rdy K c H rx x dd N rs ds Do Sp S)(t:Nat):t∈S↔UnR N Do Sp t:=by
 obtain⟨dx,d,kvs,_,cb⟩:=h.ex;refine⟨λht=>?_,c0x (mI cb.z) h.shut t⟩;obtain⟨i,hi⟩:=C8.mp ht;exact c4D cb i t hi
inductive UnW(N:Nt)(Do Sp:Nat->Bool):Nat->Prop
 | en {t:Nat}:t<N.length->c1R N Do Sp t->UnW N Do Sp t
 | go {p t:Nat} {l:List Nat}:N[p]?=some l->Do p=false->t∈l->UnW N Do Sp t->UnW N Do Sp p
def Wnt.un{K:Fg}{c:Cn}{x:Addr}{Sp:Nat->Bool}(h:Wnt K c H wx x N Do Sp S)(t:Nat):t∈S↔UnW N Do Sp t:=by
 obtain⟨dx,d,kvs,_,gb⟩:=h.ex;constructor
 .intro ht;obtain⟨i,hi⟩:=C8.mp ht;clear ht;induction i using d1i generalizing t with
  |_ i ih=>
   obtain⟨v,_,j⟩:=gb.at_ i t hi;rcases j with ⟨_,e⟩ | ⟨a,q,l,u,j,_,_,h3,h4,h5,h6,h7⟩
   .exact .en (gb.lt t (mI hi)) e
   .exact .go h3 h7 (mI h4) (ih j h6 u h5)
 .intro u;induction u with
  |en h1 h2=>exact h.shut.en _ h1 h2
  |go h1 h2 h3 _ ih=>exact h.shut.no _ _ h1 h2 _ h3 ih
def a8s(N:Nt)(Do Sp fr fw:Nat->Bool)(s:Stp):Bool:=fw (a0p N s)&&(decide (s=FST)||(Sp s.1.toNat||(!fr s.1.toNat&&(!Do s.1.toNat && !(N.getD s.1.toNat []).all fw))))
def c9o{p q:Nat}(h:N[p]?=some l):N.getD p []=l/\p<N.length:=⟨by simp[Q2,h],(gI h)⟩
def c4d{Sp fr fw fr' fw':Nat->Bool}(hv:a0i N)(is:a5i N s)(h1:∀t,t<N.length->fr t=fr' t)(h2:∀t,t<N.length->fw t=fw' t):a8s N Do Sp fr fw s=a8s N Do Sp fr' fw' s:=by
 unfold a8s;rw[h2 _ (b7O hv is)];rcases is with rfl | ⟨p,q,l,t,rfl,e1,e2⟩
 .rw[d4E rfl];simp
 .obtain⟨g1,g2⟩:=c9o (q:=0) e1;have e:((((p:Int),(q:Int)):Stp).1).toNat=p:=rfl;rw[e,h1 p g2,g1]
  have:l.all fw=l.all fw':=by
   rw[a2a,P5,P5];exact⟨λh x hx=>by rw[<-h2 x (hv.lt l (mI e1) x hx)];exact h x hx,λh x hx=>by rw[h2 x (hv.lt l (mI e1) x hx)];exact h x hx⟩
  rw[this]
def a6H{K:Fg}{c:Cn}{x:Addr}(ck:X6 K c)(hp:a0z K c H x N)(hv:a0i N)(k:∀a H',H a=none->Q3 K H' a (K5 N)->j5 H H'->Q (.ref a) H'):a1J K c [.ref x] H Q E:=by
 obtain⟨dx,r,n,e,es,h1,h2,h3,h4⟩:=hp.ex;refine⟨rfl,?_⟩;unfold b0Q
 ext
 specialize Q8 ?_;exists ⟨x,_,dx,_,_,rfl,h1,ck.N4,ck.U5,rfl,?_⟩;exact b2U ck h3 hv.le hv.two k
def b4h(N:Nt):(K5 N).Nodup:=by
 have key:∀i,(a5I N i).Nodup/\∀s∈a5I N i,s.1<(i:Int):=by
  intro i;induction i with
  |zero=>exact⟨by simp[a5I],λs hs=>by simp[a5I]at hs;rw[hs];decide⟩
  |succ i ih=>
   rw[a8E]
   have on:∀s∈a3G N i,s.1=(i:Int):=λs hs=>by
    unfold a3G at hs;obtain⟨q,_,rfl⟩:=F5.mp hs;rfl
   refine⟨a2M.mpr ⟨ih.1,?_,λa ha b hb e=>?_⟩,λs hs=>?_⟩
   .unfold a3G;exact a1C _ (λa b h e=>h (by have:=congrArg Prod.snd e;have:(a:Int)=(b:Int):=this;omega)) b5J
   .have h1:=ih.2 a ha;have h2:=on b hb;rw[e]at h1;omega
   .rcases v7.mp hs with h | h
    .have:=ih.2 s h;omega
    .rw[on s h];omega
 exact(key N.length).1
def CbK.move{K:Fg}{Sp:Nat->Bool}(h:CbK K H d N Do Sp S kvs)(t:J2 H H')(hd:H' d=some (.dK kvs)):CbK K H' d N Do Sp S kvs:=
 ⟨hd,h.nd,h.lt,h.len,h.z,λi u e=>let⟨a,s,q1,q2,q3⟩:=h.at_ i u e; ⟨a,s,q1,q2.ts t,q3⟩⟩
def stK(s:Stp):List Key:=[Sum.inl s.1,Sum.inl s.2]
def b7c{t:Stp}(h:stK s=stK t):s=t:=by
 unfold stK at h;have h1:=Sum.inl.inj (List.cons.inj h).1;have h2:=Sum.inl.inj (List.cons.inj (List.cons.inj h).2).1;exact Prod.ext h1 h2
structure XD(K:Fg)(H:Hp)(d:Addr)(L:List Stp):Prop where
 ex:∃xs:List XE,H d=some (dX d xs)/\xs.length=L.length/\∀(i:Nat) x s,xs[i]?=some x->L[i]?=some s->x.1=stK s/\a0W K H x.2.1 s
section
variable {K:Fg}{b b':Addr}{L:List Stp}{xs:List XE}
def XD.move(h:XD K H d L)(t:J2 H H')(k:∀xs,H d=some (dX d xs)->H' d=some (dX d xs)):XD K H' d L:=by
 obtain⟨xs,h1,h2,h3⟩:=h.ex;exact⟨xs,k _ h1,h2,λi x s e1 e2=>⟨(h3 i x s e1 e2).1,(h3 i x s e1 e2).2.ts t⟩⟩
def XD.same(h:XD K H d L)(s:j5 H H'):XD K H' d L:=h.move (j5.ts s) λ_ e=>s _ _ e
def a7s(hl:xs.length=L.length)(h:∀(i:Nat) x s,xs[i]?=some x->L[i]?=some s->x.1=stK s/\a0W K H x.2.1 s):xs.map (·.1)=L.map stK/\b5x K H xs:=by
 constructor
 .apply b3T;intro i;rw[b6,b6];cases e:xs[i]? with
  |none=>rw[a3t.mpr (by rw[<-hl];exact a3t.mp e)];rfl
  |some x=>
   have hi:=(gI e);have e2:L[i]?=some (L[i]'(by omega)):=by simp
   rw[e2];exact congrArg some (h i x _ e e2).1
 .intro x hx;obtain⟨i,hi⟩:=C8.mp hx;have hi':=(gI hi);have e2:L[i]?=some (L[i]'(by omega)):=by simp
  obtain⟨q1,q2⟩:=h i x _ hi e2;rw[q1];exact q2.sq
def c2a(h:xs.map (·.1)=L.map stK)(s:Stp):(b3Y xs (stK s)).isSome=decide (s∈L):=by
 unfold b3Y;rw[a2s,a2a,List.find?_isSome,decide_eq_true_iff];constructor
 .rintro⟨x,hx,e⟩;have e:=of_decide_eq_true e;have:x.1∈L.map stK:=h ▸ F5.mpr ⟨x,hx,rfl⟩;obtain⟨t,ht,et⟩:=F5.mp this;rw[e]at et;rw[<-b7c et];exact ht
 .intro hs;have:stK s∈xs.map (·.1):=h ▸ F5.mpr ⟨s,hs,rfl⟩;obtain⟨x,hx,e⟩:=F5.mp this;exact⟨x,hx,d4E e⟩
def XD.list(h:XD K H d L)(k:∀l H',H l=none->Q3 K H' l L->j5 H H'->Q (.ref l) H'):b7s K [.ref d] H Q:=by
 obtain⟨xs,h1,h2,h3⟩:=h.ex;refine⟨d,xs,rfl,h1,(a7s h2 h3).2,λl hl=>?_⟩;refine k l _ hl ⟨xs.map (·.2.1),?_,by rw[b8,h2],λi a s e1 e2=>?_⟩ (A2 hl)
 .rw[c7,R3];rfl
 .rw[b6]at e1;obtain⟨x,hx,rfl⟩:=E9.mp e1;exact(h3 i x s hx e2).2.ts (J2.new hl)
def XD.in_{neg:Bool}(h:XD K H d L)(ha:a0W K H a s)(hi:∀R:VK,R (.ref a) H->ti σ H R)(ho:∀R:VK,R (.ref d) H->to σ H R)(k:Q (.bl (if neg then !decide (s∈L)else decide (s∈L))) H):b5O K neg ti to σ H Q:=by
 obtain⟨xs,h1,h2,h3⟩:=h.ex;refine hi _ (ho _ ⟨d,a,xs,stK s,rfl,rfl,h1,(a7s h2 h3).2,ha.sq,?_⟩);rw[c2a (a7s h2 h3).1];exact k
end
abbrev b2J(x dd rx wx:Addr)(t:List (Str×V)):List (Str×V):=("plan",.ref x)::("deed",.ref dd)::("ready",.ref rx)::("wanted",.ref wx)::t
def b7J{x:Addr}{t:List (Str×V)}{m:Str}(ht:t=[]\/t=([("found",.ref d)]:List (Str×V)))(h:m∉(["plan","deed","ready","wanted","found"]:List Str)):(b2J x dd rx wx t).lookup m=none:=by
 have h1:m≠("plan" : Str):=λe=>h (by rw[e];simp)
 have h2:m≠("deed" : Str):=λe=>h (by rw[e];simp)
 have h3:m≠("ready" : Str):=λe=>h (by rw[e];simp)
 have h4:m≠("wanted" : Str):=λe=>h (by rw[e];simp)
 have h5:m≠("found" : Str):=λe=>h (by rw[e];simp)
 rcases ht with rfl | rfl <;> simp[W0,beq_eq_false_iff_ne.mpr h1,beq_eq_false_iff_ne.mpr h2,beq_eq_false_iff_ne.mpr h3,beq_eq_false_iff_ne.mpr h4,beq_eq_false_iff_ne.mpr h5]
section
variable {K:Fg}{c:Cn}{bx x:Addr}{Sp:Nat->Bool}{Sr Sw:List Nat}{p q:Nat}{t:List (Str×V)}
def b3l(ck:X6 K c)(hx:H bx=some (.ins c.J0 dx (b2J x dd rx wx t)))(hp:a1n c H x N rs)(hd:a0H H dd ds)(sat:a5t H rs ds Do Sp)(ha:a0W K H a ((p:Int),(q:Int)))(hl:p<N.length)(k:∀H',j5 H H'->Q (.bl (Sp p)) H'):Q7 K [.ref bx,.ref a] H Q E:=by
 obtain⟨dx',fs,n,r,hx',hfn,hn,hfr,hr,lr⟩:=hp.ex;obtain⟨ax,hax⟩:∃ax,rs[p]?=some ax:=⟨_,c8 (by omega)⟩;obtain⟨xs,x1,x2,x3⟩:=sat p ax hax;have ha:=ha.resolve_right λz=>a6P z.1
 refine⟨rfl,?_⟩;unfold a2W
 ext
 exact_mod_cast Q8 ?_;specialize Q8 ?_;refine⟨bx,_,dx,_,_,rfl,hx,ck.V2,ck.a4h,rfl,?_⟩;exists ⟨x,_,dx',fs,_,rfl,hx',ck.N4,ck.P3,hfr,?_⟩;exists P0 ha (a2r _ _) ?_;exists M0 hr (a1e (by rw[b6,hax];rfl)) ?_;specialize Q8 ?_;exists ⟨bx,_,dx,_,_,rfl,hx,ck.V2,ck.a4i,rfl,?_⟩;refine a8Z x1 hd λH1 s1=>?_
 rw[x3];exact k H1 s1
abbrev frS(S:List Nat):Nat->Bool:=λt => !decide (t∈S)
def b9K(ck:X6 K c)(hx:H bx=some (.ins c.J0 dx (b2J x dd rx wx t)))(ht:t=[]\/t=([("found",.ref d)]:List (Str×V)))(hR:Rdy K c H rx x dd N rs ds Do Sp Sr)(hW:Wnt K c H wx x N Do Sp Sw)(hv:a0i N)(ha:a0W K H a s)(is:a5i N s)(k:∀H',j5 H H'->Q (.bl (a8s N Do Sp (frS Sr) (frS Sw) s)) H'):a1u K c [.ref bx,.ref a] H Q E:=by
 obtain⟨dr,rd,kr,r1,_⟩:=id hR.ex;obtain⟨dw,wd,kw,w1,_⟩:=id hW.ex;refine⟨rfl,?_⟩;unfold a6n
 nofun
 exact_mod_cast U6 ?_;specialize Q8 ?_;refine⟨bx,_,dx,_,_,rfl,hx,ck.V2,ck.a1q,rfl,?_⟩;exists ⟨wx,dw,_,rfl,w1,b3K _ _ _ (by decide),?_⟩;refine b6U ck hW ha is ?_
 ext
 unfold a8s at k;by_cases hlw:a0p N s∈Sw
 .rw[d4E hlw];refine C6 rfl ?_;refine C6 rfl ?_
  ext
  have:=k H (j5.refl _);rw[show frS Sw (a0p N s)=false by show(!decide _)=false;rw[d4E hlw];rfl,b8v]at this;exact this
 rw[show frS Sw (a0p N s)=true by show(!decide _)=true;rw[d4D hlw];rfl]at k;simp only[a2u]at k;rw[d4D hlw];refine z4 rfl ?_
 ext
 exact_mod_cast U6 ?_;specialize Q8 ?_;refine⟨bx,_,dx,_,_,rfl,hx,ck.V2,ck.a3i,rfl,?_⟩;exists ⟨rx,dr,_,rfl,r1,rfl,?_⟩;refine b9a ck hR ha is λH1 s1=>?_
 ext
 rcases is with rfl | ⟨p,q,l,u,rfl,h1,h2⟩
 .have e:onF Do Sp Sr FST=false:=by unfold onF;rw[d4E rfl];rfl
  rw[e];refine z4 rfl ?_
  ext
  refine⟨_,_,_,_,rfl,rfl,(ha.ts (j5.ts s1)).sq,ck.W9 H1,rfl,rfl,?_⟩;rw[eq2];refine⟨_,rfl,C6 (by decide) ?_⟩;exact k H1 s1
 .obtain⟨hg,hpl⟩:=c9o (q:=0) h1;have hf:decide ((((p:Int),(q:Int)):Stp)=FST)=false:=d4D a6P
  have k':∀H',j5 H H'->Q (.bl (Sp p||(!frS Sr p&&(!Do p && !l.all (frS Sw))))) H':=λH' s'=>by
   have:=k H' s';rw[hf,b2P]at this;have e:((((p:Int),(q:Int)):Stp).1).toNat=p:=rfl;rw[e,hg]at this;exact this
  have e:onF Do Sp Sr ((p:Int),(q:Int))=beh Do Sp Sr p:=by unfold onF;rw[hf];rfl
  rw[e]
  have tail:Sp p=true\/(Sp p=false/\frS Sr p=false/\Do p=false)->(b8K (tOp (c5s K) (b4 1) (tC (.ref c.N7))) (b8K (Q6 c.J0 "is_spoilt_ahead" (Q7 K) [] E0 (b4 0) (a9 (b4 1) (i8))) (b0S (Q6 c.T0 "wanted_behind" (U1 K c) [] E0 (Y5 K (b4 0) "wanted") (a9 (tOp qIx (b4 1) (tC (.int 0))) (i8)))))) [some (V.ref bx),some (.ref a)] H1 Q:=by
   intro hcase;have ha1:=ha.ts (j5.ts s1)
   ext
   refine⟨_,_,_,_,rfl,rfl,ha1.sq,ck.W9 H1,rfl,rfl,?_⟩;rw[eq2];refine⟨_,rfl,z4 hf ?_⟩
   ext
   specialize U6 ?_;exists ⟨bx,dx,_,rfl,s1 _ _ hx,b7J ht (by decide),?_⟩;refine b3l ck (s1 _ _ hx) (hR.plan.same s1) (hR.deed.ts (j5.ts s1)) (hR.sat.ts (j5.ts s1)) ha1 hpl λH2 s2=>?_
   have s12:=s1.trans s2;refine⟨_,rfl,?_⟩;rcases hcase with hs | ⟨hs,hr,hdo⟩
   .rw[hs];refine C6 rfl ?_;have:=k' H2 s12;rw[hs,d2G]at this;exact this
   .rw[hs];refine z4 rfl ?_
    ext
    exact_mod_cast U6 ?_;specialize Q8 ?_;refine⟨bx,_,dx,_,_,rfl,s12 _ _ hx,ck.V2,ck.a1q,rfl,?_⟩;exists ⟨wx,dw,_,rfl,s12 _ _ w1,b3K _ _ _ (by decide),?_⟩;exists P0 ((ha1.ts (j5.ts s2)).resolve_right λz=>a6P z.1) (a2r _ _) ?_;refine b1Q ck (hW.same s12) hv hpl λH3 s3=>?_
    refine⟨_,rfl,?_⟩;have:=k' H3 (s12.trans s3);rw[hs,hr,hdo]at this;unfold d0S;rw[hg,d4E (a9o (mI h2)),a2u];exact this
  cases hs:Sp p with
  |true=>
   rw[show beh Do Sp Sr p=false by unfold beh;rw[hs,if_pos rfl]];refine z4 rfl ?_;exact_mod_cast a4v ?_;exact_mod_cast b6u ?_;exact tail (.inl hs)
  |false=>
   have hb:beh Do Sp Sr p=(Do p||frS Sr p):=by unfold beh;rw[hs];rfl
   rw[hb];cases hdo:Do p with
   |true=>
    refine C6 rfl ?_
    ext
    have:=k' H1 s1;rw[hs,hdo]at this;simpa using this
   |false=>
    cases hr:frS Sr p with
    |true=>
     refine C6 rfl ?_
     ext
     have:=k' H1 s1;rw[hs,hr]at this;exact this
    |false=>
     refine z4 rfl ?_;exact_mod_cast a4v ?_;exact_mod_cast b6u ?_;exact tail (.inr ⟨hs,hr,hdo⟩)
end
structure Brx(K:Fg)(c:Cn)(H:Hp)(bx x dd:Addr)(N:Nt)(rs:List Addr)(ds:List V)(Do Sp:Nat->Bool)(Sr Sw:List Nat):Prop where
 ex:∃dx rx wx d,H bx=some (.ins c.J0 dx (b2J x dd rx wx [("found",.ref d)]))/\Rdy K c H rx x dd N rs ds Do Sp Sr/\Wnt K c H wx x N Do Sp Sw/\XD K H d ((K5 N).filter (a8s N Do Sp (frS Sr) (frS Sw)))
section
variable {K:Fg}{c:Cn}{bx x b b':Addr}{Sp:Nat->Bool}{Sr Sw:List Nat}{p q:Nat}
def b5t(ck:X6 K c)(hp:a1n c H x N rs)(hq:a6d c H x N rs)(hz:a0z K c H x N)(hv:a0i N)(hd:a0H H dd ds)(hs:a5t H rs ds Do Sp)(hbx:H bx=none)(hdx:H dx=none)
  (k:∀H' Sr Sw,Brx K c H' bx x dd N rs ds Do Sp Sr Sw->j5 H H'->Q .non H'):a2k K c [.ref bx,.ref x,.ref dd] (upd (upd H dx (.own bx)) bx (.ins c.J0 dx [])) Q E:=by
 refine⟨rfl,?_⟩;unfold a9F;exact_mod_cast L4 ?_;specialize a0O ?_;refine⟨bx,_,dx,[],rfl,c7,ck.V2,ck.a4h,by simp,?_⟩;exact_mod_cast L4 ?_;specialize a0O ?_;refine⟨bx,_,dx,_,rfl,c7,ck.V2,ck.a4i,by simp[O4],?_⟩;obtain⟨H3,hH3⟩:∃H3,H3=upd (upd (upd (upd H dx (.own bx)) bx (.ins c.J0 dx [])) bx (.ins c.J0 dx (O4 "plan" (.ref x) []))) bx (.ins c.J0 dx (O4 "deed" (.ref dd) (O4 "plan" (.ref x) []))):=⟨_,rfl⟩;rw[<-hH3];have x3:H3 bx=some (.ins c.J0 dx (O4 "deed" (.ref dd) (O4 "plan" (.ref x) []))):=hH3 ▸ c7
 have s3:j5 H H3:=λb o e=>by
  have n1:=f6 e hbx;rw[hH3,i9 n1,i9 n1,i9 n1,i9 (f6 e hdx)];exact e
 have put:∀ {H':Hp} {o:HO},j5 H H'->j5 H (upd H' bx o):=λs' b o e=>by rw[i9 (f6 e hbx)];exact s' _ _ e
 exact_mod_cast L4 ?_;exact_mod_cast a0O ?_;refine c1u ck (hp.same s3) hv (hd.ts (j5.ts s3)) (hs.ts (j5.ts s3)) rfl rfl λrx H4 Sr hrx R4 s4=>?_
 have x4:=s4 _ _ x3;have s04:=s3.trans s4;have nrx:rx≠bx:=(f6 x3 hrx).symm
 ext
 exists ⟨bx,_,dx,_,rfl,x4,ck.V2,ck.a3i,(by show(2:Nat)<1000;decide),?_⟩
 have rput:∀ {H':Hp} {fs:List (Str×V)} {o:HO},H' bx=some (.ins c.J0 dx fs)->j5 H H'->Rdy K c H' rx x dd N rs ds Do Sp Sr->Rdy K c (upd H' bx o) rx x dd N rs ds Do Sp Sr:=by
  intro H' fs o e s' R;obtain⟨dr,rd,kr,r1,r2⟩:=R.ex;have t:=J2.ins (o:=o) e;exact⟨⟨dr,rd,kr,by rw[i9 nrx];exact r1,r2.move t (by rw[i9 (O9 r2.hd e (by intro z;cases z))];exact r2.hd)⟩,hp.same (put s'),R.deed.ts t,R.sat.ts t,R.shut⟩
 have R5:=rput (o:=.ins c.J0 dx (O4 "ready" (.ref rx) (O4 "deed" (.ref dd) (O4 "plan" (.ref x) [])))) x4 s04 R4;obtain⟨H5,hH5⟩:∃H5,H5=upd H4 bx (.ins c.J0 dx (O4 "ready" (.ref rx) (O4 "deed" (.ref dd) (O4 "plan" (.ref x) [])))):=⟨_,rfl⟩;have s05:j5 H H5:=hH5 ▸ put s04;have x5:H5 bx=some (.ins c.J0 dx (O4 "ready" (.ref rx) (O4 "deed" (.ref dd) (O4 "plan" (.ref x) [])))):=hH5 ▸ c7;rw[<-hH5]at R5 ⊢;exact_mod_cast L4 ?_;exact_mod_cast a0O ?_;refine b9C ck (hq.same s05) (hz.same s05) hv (hd.ts (j5.ts s05)) (hs.ts (j5.ts s05)) rfl rfl λwx H6 Sw hwx W6 s6=>?_
 have x6:=s6 _ _ x5;have s06:=s05.trans s6;have nwx:wx≠bx:=(f6 x5 hwx).symm
 ext
 exists ⟨bx,_,dx,_,rfl,x6,ck.V2,ck.a1q,(by show(3:Nat)<1000;decide),?_⟩
 have wput:∀ {H':Hp} {fs:List (Str×V)} {o:HO},H' bx=some (.ins c.J0 dx fs)->j5 H H'->Wnt K c H' wx x N Do Sp Sw->Wnt K c (upd H' bx o) wx x N Do Sp Sw:=by
  intro H' fs o e s' W;obtain⟨dw,wd,kw,w1,w2⟩:=W.ex;exact⟨⟨dw,wd,kw,by rw[i9 nwx];exact w1,w2.ins e⟩,hz.same (put s'),W.shut⟩
 have R7:=rput (o:=.ins c.J0 dx (b2J x dd rx wx [])) x6 s06 (R5.same s6);have W7:=wput (o:=.ins c.J0 dx (b2J x dd rx wx [])) x6 s06 W6;have ef:O4 "wanted" (.ref wx) (O4 "ready" (.ref rx) (O4 "deed" (.ref dd) (O4 "plan" (.ref x) [])))=b2J x dd rx wx []:=rfl;rw[ef];obtain⟨H7,hH7⟩:∃H7,H7=upd H6 bx (.ins c.J0 dx (b2J x dd rx wx [])):=⟨_,rfl⟩;have s07:j5 H H7:=hH7 ▸ put s06;have x7:H7 bx=some (.ins c.J0 dx (b2J x dd rx wx [])):=hH7 ▸ c7;rw[<-hH7]at R7 W7 ⊢;obtain⟨dx2,r2,n2,e2,es2,p1,_⟩:=id hz.ex;specialize a0O ?_;exact_mod_cast Y9 (V8 ?_);specialize U6 ?_;exists ⟨x,dx2,_,rfl,s07 _ _ p1,a8N r2 n2 e2 _ (by decide),?_⟩;refine a6H ck (hz.same s07) hv λw H8 hw S8 s8=>?_
 have s08:=s07.trans s8;obtain⟨ps,w1,w2,w3⟩:=id S8.ex;have lst:=a7c hv.two;have h400:=hv.le;refine⟨w,rfl,⟨_,SqL.of w1⟩,λD hD=>?_⟩
 refine c1L (J:=Itl K w) ps.length (λi ys H9=>∃(ts:List Addr) (xs:List XE),ys=ts.map V.ref/\ts.length=xs.length/\(∀(j:Nat) y,xs[j]?=some y->∃p,ts[j]?=some p/\H9 p=some (.tup [.ref y.2.1,y.2.2]))/\xs.length=(((K5 N).take i).filter (a8s N Do Sp (frS Sr) (frS Sw))).length /\
  (∀(j:Nat) y s,xs[j]?=some y->(((K5 N).take i).filter (a8s N Do Sp (frS Sr) (frS Sw)))[j]?=some s->y.1=stK s/\a0W K H9 y.2.1 s)/\H9 D=some (.lst ys)/\j5 H8 H9)
  ⟨[],[],rfl,rfl,(λj y h=>by cases h),rfl,(λj y s h=>by cases h),c7,A2 hD⟩ ?_ ?_ ?_ ?_
 .rintro i ys H9 ⟨_,_,_,_,_,_,_,h,_⟩;exact h
 .rintro ys H9 ⟨ts,xs,rfl,l1,t1,l2,t2,hD9,s9⟩;refine⟨⟨_,SqL.of (s9 _ _ w1),by rw[b8];exact j8 _⟩,?_⟩;rw[w2,M3]at l2 t2;obtain⟨kk1,kk2⟩:=a7s l2 t2
  ext
  refine⟨D,_,xs,rfl,hD9,by rw[b8,l1],λj y e=>?_,kk2,?_,λy hy=>?_,λdd2 hdd=>?_⟩
  .obtain⟨p,q1,q2⟩:=t1 j y e;exact⟨p,by rw[b6,q1];rfl,q2⟩
  .rw[kk1];exact a1C stK (λa b h e=>h (b7c e)) ((b4h N).filter _)
  .obtain⟨j,hj⟩:=C8.mp hy;have hj':=(gI hj);rw[(t2 j y _ hj (c8 (by omega))).1];intro z hz;unfold stK at hz;rcases t8.mp hz with rfl | hz
   .exact⟨_,rfl⟩
   .exact⟨_,l7.mp hz⟩
  .ext
   have s10:j5 H9 (upd H9 dd2 (dX dd2 xs)):=A2 hdd;obtain⟨H10,hH10⟩:∃H10,H10=upd H9 dd2 (dX dd2 xs):=⟨_,rfl⟩;have e10:H10 dd2=some (dX dd2 xs):=hH10 ▸ c7;rw[<-hH10]at s10 ⊢;have s810:=s9.trans s10;have s710:=s8.trans s810;have x10:=s710 _ _ x7;refine⟨bx,_,dx,_,rfl,x10,ck.V2,ck.a3j,(by show(4:Nat)<1000;decide),?_⟩;have ef:O4 "found" (.ref dd2) (b2J x dd rx wx [])=b2J x dd rx wx [("found",.ref dd2)]:=rfl;rw[ef];have s010:=s07.trans s710;have R11:=rput (o:=.ins c.J0 dx (b2J x dd rx wx [("found",.ref dd2)])) x10 s010 (R7.same s710);have W11:=wput (o:=.ins c.J0 dx (b2J x dd rx wx [("found",.ref dd2)])) x10 s010 (W7.same s710);refine k _ Sr Sw ⟨dx,rx,wx,dd2,c7,R11,W11,xs,?_,l2,λj y s e1 e2=>⟨(t2 j y s e1 e2).1,?_⟩⟩ (put s010)
   .rw[i9 (O9 e10 x10 (by intro z;cases z))];exact e10
   .exact((t2 j y s e1 e2).2.ts (j5.ts s10)).ts (J2.ins x10)
 .rintro i ys H9 hi ⟨_,_,_,_,_,_,_,_,s9⟩;exact⟨_,.ref ps[i],SqL.of (s9 _ _ w1),by rw[b6,c8 hi];rfl⟩
 .rintro i ys H9' hi ⟨ts,xs,rfl,l1,t1,l2,t2,hD9,s9⟩ v H9 ⟨rfl,hy⟩ R S hR hS;have hv':=hy _ (SqL.of (s9 _ _ w1));rw[b6]at hv';obtain⟨p,hp',rfl⟩:=E9.mp hv';obtain⟨s,hs'⟩:∃s,(K5 N)[i]?=some s:=⟨_,c8 (by rw[<-w2];exact hi)⟩;have is:=a4D (mI hs');have s79:=s8.trans s9;have st:=(w3 i p s hp' hs').ts (j5.ts s9)
  have tk:((K5 N).take (i+1)).filter (a8s N Do Sp (frS Sr) (frS Sw))=((K5 N).take i).filter (a8s N Do Sp (frS Sr) (frS Sw))++if a8s N Do Sp (frS Sr) (frS Sw) s=true then [s] else []:=by
   rw[L3,hs',X9];congr 1;simp only[c4s,a5k,a6e]
  ext
  specialize U6 ?_;exists ⟨bx,dx,_,rfl,s79 _ _ x7,b7J (d:=0) (.inl rfl) (by decide),?_⟩;refine b9K (d:=0) ck (s79 _ _ x7) (.inl rfl) (R7.same s79) (W7.same s79) hv st is λH11 s11=>?_
  refine⟨_,rfl,?_⟩;cases hb:a8s N Do Sp (frS Sr) (frS Sw) s with
  |false=>
   rw[hb,if_neg (by decide),F9]at tk;refine z4 rfl ?_;refine hS _ ⟨ts,xs,rfl,l1,λj y e=>let⟨p,q1,q2⟩:=t1 j y e; ⟨p,q1,s11 _ _ q2⟩,by rw[tk];exact l2,λj y s e1 e2=>?_,s11 _ _ hD9,s9.trans s11⟩;rw[tk]at e2;exact⟨(t2 j y s e1 e2).1,(t2 j y s e1 e2).2.ts (j5.ts s11)⟩
  |true=>
   rw[hb,if_pos rfl]at tk;refine C6 rfl ?_
   ext
   refine E4 (by simp) λtp H12 htp e12 s12=>?_
   have s912:=s11.trans s12
   have lle:(((K5 N).take i).filter (a8s N Do Sp (frS Sr) (frS Sw))).length<=(K5 N).length:=by
    have h1:=G6 (a8s N Do Sp (frS Sr) (frS Sw)) ((K5 N).take i);rw[F7]at h1;omega
   refine hR _ _ (s912 _ _ hD9) (L5 (by rw[b8];omega)) ⟨ts++[tp],xs++[(stK s,p,.bl true)],by rw[F8];rfl,by simp[l1],λj y e=>?_,?_,λj y u e1 e2=>?_,c7,λb o e=>by rw[i9 (f6 e hD)];exact s912 _ _ (s9 _ _ e)⟩
   .have tt:J2 H12 (upd H12 D (.lst (ts.map V.ref++[.ref tp]))):=J2.put (s912 _ _ hD9);rcases a0N e with ⟨j1,j2⟩ | ⟨j1,j2⟩
    .obtain⟨p',q1,q2⟩:=t1 j y j2;exact⟨p',by rw[o5 (by omega)];exact q1,tt _ _ (s912 _ _ q2)⟩
    .subst j2;exact⟨tp,by rw[j1,<-l1];simp,tt _ _ e12⟩
   .rw[tk,u5,u5,l2];rfl
   .have tt:J2 H9 (upd H12 D (.lst (ts.map V.ref++[.ref tp]))):=λb z h=>J2.put (s912 _ _ hD9) _ _ (s912 _ _ h)
    rw[tk]at e2;rcases a0N e1 with ⟨j1,j2⟩ | ⟨j1,j2⟩
    .rw[o5 (by omega)]at e2;exact⟨(t2 j y u j2 e2).1,(t2 j y u j2 e2).2.ts tt⟩
    .rw[j1,l2,J1 (j8 _),Nat.sub_self]at e2;cases e2;subst j2;exact⟨rfl,st.ts tt⟩
def c4c(ck:X6 K c)(h:Brx K c H bx x dd N rs ds Do Sp Sr Sw)(k:∀l H',H l=none->Q3 K H' l ((K5 N).filter (a8s N Do Sp (frS Sr) (frS Sw)))->j5 H H'->Q (.ref l) H'):a3b K [.ref bx] H Q E:=by
 obtain⟨dx,rx,wx,d,h1,_,_,h5⟩:=h.ex;refine⟨rfl,?_⟩;unfold a8C
 ext
 specialize Q8 ?_;exists ⟨bx,_,dx,_,_,rfl,h1,ck.V2,ck.a3j,rfl,?_⟩;exact h5.list k
end
section
variable {K:Fg}{c:Cn}{bx x:Addr}{Sp fr fw:Nat->Bool}{Sr Sw:List Nat}
def b9E{a b:Nat}(ck:X6 K c)(hp:a1n c H x N rs)(hq:a6d c H x N rs)(hz:a0z K c H x N)(hv:a0i N)(hd:a0H H dd ds)(hs:a5t H rs ds Do Sp)(ea:σ[a]?=some (some (.ref x)))(eb:σ[b]?=some (some (.ref dd)))
  (k:∀bx H' Sr Sw,H bx=none->Brx K c H' bx x dd N rs ds Do Sp Sr Sw->j5 H H'->Q (.ref bx) H'):a2e c.J0 (a2k K c) [] E0 (a9 (b4 a) (a9 (b4 b) i8)) σ H Q:=by
 exact_mod_cast b2g ?_;refine G0 (M7 ea (G0 (M7 eb (X3 ?_))));intro bx dx hbx hdx _;exact b5t ck hp hq hz hv hd hs hbx hdx λH' Sr Sw h s=>⟨rfl,k bx H' Sr Sw hbx h s⟩
end
def uniq(L:List Nat):List Nat:=L.foldl a3U []
def b6G:∀ {L ks:List Nat} {j:Nat},j∈L.foldl a3U ks↔j∈ks\/j∈L
 |[],ks,j=>by simp
 |a::L,ks,j=>by
  rw[a0j,b6G,X4,t8,or_assoc]
def b9x:∀ {L ks:List Nat},ks.Nodup->(L.foldl a3U ks).Nodup
 |[],_,h=>h
 |a::L,_,h=>by rw[a0j];exact b9x (a6u h)
def b9L:∀ {L ks:List Nat},(ks++L).Nodup->L.foldl a3U ks=ks++L
 |[],ks,_=>by simp
 |a::L,ks,h=>by
  have na:a∉ks:=λz=>(a2M.mp h).2.2 a z a (by simp) rfl
  rw[a0j,show a3U ks a=ks++[a] by unfold a3U;rw[if_neg na],b9L (by simpa using h)];simp
def b4V:j∈uniq L↔j∈L:=by unfold uniq;rw[b6G];simp
def c7O(L:List Nat):(uniq L).Nodup:=b9x List.nodup_nil
def c2c(h:L.Nodup):uniq L=L:=b9L (by simpa using h)
def d0w(L:List Nat):c7S (KS L)=KS (uniq L):=by
 have key:∀(L ks:List Nat),(KS L).foldl (λm p=>a2F m p.1 p.2) (KS ks)=KS (L.foldl a3U ks):=by
  intro L;induction L with
  |nil=>intro ks;rfl
  |cons a L ih=>
   intro ks;rw[show KS (a::L)=(Sum.inl (a:Int),V.bl true)::KS L from rfl,a0j,a0j,c6A,ih]
 exact key L []
section
variable {K:Fg}{w:Addr}{S:List Stp}
def a8P(h:H w=some (.lst (IL L)))(l400:L.length<=400)(k:∀d H',H d=none->H' d=some (.dK (KS (uniq L)))->j5 H H'->Q (.ref d) H'):a2B K [.ref w] H Q E:=by
 refine⟨rfl,?_⟩;unfold b4c
 ext
 specialize Y9 (V8 ?_);refine⟨w,rfl,⟨_,SqL.of h⟩,λT hT=>?_⟩;refine X5 (xs:=IL L) (λi ys H8=>ys.length=i/\H8 T=some (.lst ys)/\j5 H H8/\∀(j p:Nat),j<i->L[j]?=some p->∃b,ys[j]?=some (V.ref b)/\H8 b=some (.tup [.int (p:Int),.bl true])) ?_ ?_ ?_ ?_ ?_
 .exact⟨rfl,c7,A2 hT,by omega⟩
 .rintro i ys H8 ⟨_,h,_⟩;exact h
 .rintro i ys H8 _ ⟨_,_,s8,_⟩;exact SqL.of (s8 _ _ h)
 .rintro i y ys H8 hy ⟨l8,hT8,s8,a8⟩ R hR;unfold IL at hy;rw[b6]at hy;cases hz:L[i]? with
  |none=>rw[hz]at hy;cases hy
  |some z=>
   rw[hz]at hy;cases hy;have hi:=(gI hz)
   ext
   refine E4 (by simp) λb H9 hb e9 s9=>?_
   have bT:b≠T:=λq=>by rw[q,hT8]at hb;cases hb
   refine hR _ _ (s9 _ _ hT8) (L5 (by omega)) ⟨by rw[u5,l8];rfl,c7,λb o e=>?_,λj p hj hp=>?_⟩
   .rw[i9 (f6 e hT)];exact s9 _ _ (s8 _ _ e)
   .by_cases q:j=i
    .subst q;rw[hz]at hp;cases hp;exact⟨b,by rw[<-l8];simp,by rw[i9 bT];exact e9⟩
    .obtain⟨b',q1,q2⟩:=a8 j p (by omega) hp;exact⟨b',by rw[o5 (by omega)];exact q1,by rw[i9 (O9 q2 hT8 (by intro z;cases z))];exact s9 _ _ q2⟩
 .rintro ys H8 ⟨l8,hT8,s8,a8⟩;rw[J9]at l8 a8
  ext
  refine .inl ⟨T,ys,KS L,rfl,hT8,by rw[l8,c6B],λi kk x e=>?_,λd hd=>?_⟩
  .unfold KS at e;rw[b6]at e;cases hz:L[i]? with
   |none=>rw[hz]at e;cases e
   |some z=>
    rw[hz]at e;cases e;obtain⟨b,q1,q2⟩:=a8 i z (gI hz) hz;exact⟨b,q1,q2⟩
  .exact k d _ (s8.free hd) (by rw[d0w];exact c7) (s8.trans (A2 hd))
def b1q(h:Q3 K H w S)(nd:S.Nodup)(l2:S.length<=2000)(k:∀d H',H d=none->XD K H' d S->j5 H H'->Q (.ref d) H'):a2B K [.ref w] H Q E:=by
 obtain⟨ps,w1,w2,w3⟩:=h.ex;refine⟨rfl,?_⟩;unfold b4c
 ext
 specialize Y9 (V8 ?_);refine⟨w,rfl,⟨_,SqL.of w1⟩,λD hD=>?_⟩;refine X5 (xs:=ps.map V.ref) (λi ys H9=>∃(ts:List Addr),ys=ts.map V.ref/\ts.length=i/\(∀(j:Nat) p,j<i->ps[j]?=some p->∃q,ts[j]?=some q/\H9 q=some (.tup [.ref p,.bl true]))/\H9 D=some (.lst ys)/\j5 H H9) ?_ ?_ ?_ ?_ ?_
 .exact⟨[],rfl,rfl,by omega,c7,A2 hD⟩
 .rintro i ys H8 ⟨_,_,_,_,h,_⟩;exact h
 .rintro i ys H8 _ ⟨_,_,_,_,_,s8⟩;exact SqL.of (s8 _ _ w1)
 .rintro i y ys H8 hy ⟨ts,rfl,l8,a8,hT8,s8⟩ R hR;rw[b6]at hy;obtain⟨p,hp',rfl⟩:=E9.mp hy;have hi:=(gI hp')
  ext
  refine E4 (by simp) λb H9 hb e9 s9=>?_
  have bT:b≠D:=λq=>by rw[q,hT8]at hb;cases hb
  refine hR _ _ (s9 _ _ hT8) (L5 (by rw[b8];omega)) ⟨ts++[b],by rw[F8];rfl,by simp[l8],λj p' hj hp=>?_,c7,λb o e=>?_⟩
  .by_cases q:j=i
   .subst q;rw[hp']at hp;cases hp;exact⟨b,by rw[<-l8];simp,by rw[i9 bT];exact e9⟩
   .obtain⟨b',q1,q2⟩:=a8 j p' (by omega) hp;exact⟨b',by rw[o5 (by omega)];exact q1,by rw[i9 (O9 q2 hT8 (by intro z;cases z))];exact s9 _ _ q2⟩
  .rw[i9 (f6 e hD)];exact s9 _ _ (s8 _ _ e)
 .rintro ys H8 ⟨ts,rfl,l8,a8,hT8,s8⟩;rw[b8]at l8 a8
  ext
  let xs:List XE:=(S.zip ps).map λz=>(stK z.1,z.2,V.bl true)
  have lx:xs.length=S.length:=by simp only[xs,b8,List.length_zip,w2,c4j]
  have at_:∀(j:Nat) y s,xs[j]?=some y->S[j]?=some s->∃p,ps[j]?=some p/\y=(stK s,p,V.bl true):=by
   intro j y s e1 e2;have hj:=(gI e2);have e3:ps[j]?=some (ps[j]'(by omega)):=by simp
   refine⟨_,e3,?_⟩;simp only[xs,b6]at e1;rw[show(S.zip ps)[j]?=some (s,ps[j]'(by omega))from List.getElem?_zip_eq_some.mpr ⟨e2,e3⟩]at e1;exact(Option.some.inj e1).symm
  have t2:∀(j:Nat) y s,xs[j]?=some y->S[j]?=some s->y.1=stK s/\a0W K H8 y.2.1 s:=by
   intro j y s e1 e2;obtain⟨p,e3,rfl⟩:=at_ j y s e1 e2;exact⟨rfl,(w3 j p s e3 e2).ts (j5.ts s8)⟩
  have ex:∀(j:Nat) y,xs[j]?=some y->∃s,S[j]?=some s:=λj y e=>by
   have hj:=(gI e);exact⟨_,c8 (by omega)⟩
  obtain⟨kk1,kk2⟩:=a7s lx t2;refine .inr ⟨D,_,xs,rfl,hT8,by rw[b8,l8,lx,w2],λj y e=>?_,kk2,?_,λy hy=>?_,λd hd=>?_⟩
  .obtain⟨s,e2⟩:=ex j y e;obtain⟨p,e3,rfl⟩:=at_ j y s e e2;obtain⟨q,q1,q2⟩:=a8 j p (by have:=(gI e3);omega) e3;exact⟨q,by rw[b6,q1];rfl,q2⟩
  .rw[kk1];exact a1C stK (λa b h e=>h (b7c e)) nd
  .obtain⟨j,hj⟩:=C8.mp hy;obtain⟨s,e2⟩:=ex j y hj;rw[(t2 j y s hj e2).1];intro z hz;unfold stK at hz;rcases t8.mp hz with rfl | hz
   .exact⟨_,rfl⟩
   .exact⟨_,l7.mp hz⟩
  .exact k d _ (s8.free hd) ⟨xs,c7,lx,λj y s e1 e2=>⟨(t2 j y s e1 e2).1,(t2 j y s e1 e2).2.ts (J2.new hd)⟩⟩ (s8.trans (A2 hd))
end
section
variable {K:Fg}{c:Cn}{x:Addr}
def a9N(ha:H a=some (.lst xs))(h2:xs.length<=400)(k:Q .non H):Y8 K [.ref a,.int 2,.int 0] H Q E:=by
 refine⟨rfl,?_⟩;unfold a5F
 nofun
 exists a3v (s:="list") (by simp only[G9,ha]) (by decide) ?_;exists z4 (by decide) ?_;exists O3 ha ?_;exists z4 (by simp) ?_;exists O3 ha ?_;refine z4 (by simp;omega) ?_;exact k
def b6c(ck:X6 K c)(hp:a1n c H x N rs)(h400:N.length<=400)(ha:H a=some (.lst (IL L)))(hl:L.length<=400)(hlt:∀t∈L,t<N.length)(k:∀H',j5 H H'->Q .non H'):a1I K [.ref x,.ref a,.int 2] H Q E:=by
 obtain⟨dx,fs,n,r,h1,_,_,h4,h5,h6⟩:=hp.ex;refine⟨rfl,?_⟩;unfold a7v
 ext
 refine⟨rfl,?_⟩;refine⟨_,rfl,C6 rfl ?_⟩
 nofun
 exists a9N ha (by rw[J9];exact hl) ?_;specialize Y9 (V8 ?_);refine⟨a,rfl,⟨_,SqL.of ha⟩,λD hD=>?_⟩;refine X5 (xs:=IL L) (λi ys H2=>ys=p8 i (V.bl true)/\H2 D=some (.lst ys)/\j5 H H2) ⟨rfl,c7,A2 hD⟩ ?_ ?_ ?_ ?_
 .rintro i ys H2 ⟨_,h,_⟩;exact h
 .rintro i ys H2 _ ⟨_,_,s2⟩;exact SqL.of (s2 _ _ ha)
 .rintro i y ys H2 hy ⟨rfl,hD2,s2⟩ R hR;have hy:(L.map λ(n:Nat)=>V.int (n:Int))[i]?=some y:=hy;rw[b6]at hy;cases ht:L[i]? with
  |none=>rw[ht]at hy;cases hy
  |some t=>
   rw[ht]at hy;cases hy;have hi:=(gI ht);have:=hlt t (mI ht)
   ext
   specialize Q8 ?_;exists ⟨x,_,dx,fs,_,rfl,s2 _ _ h1,ck.N4,ck.P3,h4,?_⟩;exists O3 (s2 _ _ h5) ?_;refine b1u (by omega) (by rw[b8];omega) ?_;refine hR _ _ hD2 (L5 (by rw[A8];omega)) ⟨b0L i,c7,λb o e=>?_⟩;rw[i9 (f6 e hD)];exact s2 _ _ e
 .rintro ys H2 ⟨rfl,hD2,s2⟩
  ext
  exact a6Q hD2 λH3 s3=>k H3 (s2.trans s3)
def Hld(H:Hp)(v:V)(L:List Nat):Prop:=(v=.non/\L=[])\/∃a,v=.ref a/\H a=some (.lst (IL L))
def Hld.same(h:Hld H v L)(s:j5 H H'):Hld H' v L:=h.imp id λ⟨a,e,z⟩=>⟨a,e,s _ _ z⟩
def b7X(ck:X6 K c)(hp:a1n c H x N rs)(h400:N.length<=400)(ha:Hld H v L)(hl:L.length<=400)(hlt:∀t∈L,t<N.length)(k:∀H',j5 H H'->Q .non H'):a1I K [.ref x,v,.int 2] H Q E:=by
 rcases ha with ⟨rfl,_⟩ | ⟨a,rfl,ha⟩
 .refine⟨rfl,?_⟩;unfold a7v
  ext
  refine⟨rfl,?_⟩;exists ⟨_,rfl,z4 rfl ?_⟩;exact k H (j5.refl _)
 .exact b6c ck hp h400 ha hl hlt k
def c9J(h:Hld H v L)(hi:σ[i]?=some (some v))(k:∀a H',H' a=some (.lst (IL L))->j5 H H'->Q (.ref a) H'):tIf (D9 (tOp qIs (b4 i) (tC .non))) (a0x i8) (b4 i) σ H Q:=by
 refine c8Q (a6C (b2f (M7 hi (s_c ?_))));refine⟨rfl,?_⟩;rcases h with ⟨rfl,rfl⟩ | ⟨a,rfl,ha⟩
 .exists ⟨_,rfl,C6 rfl ?_⟩;exact E4 (by simp) λp H' _ e s=>k p H' e s
 .refine⟨_,rfl,z4 rfl ?_⟩;exact M7 hi (k a H ha (j5.refl _))
end
inductive Fal(N:Nt)(Do:Nat->Bool)(B:List Stp)(L:List Nat):Nat->Prop
 | held {t:Nat}:t∈L->Fal N Do B L t
 | lead {s:Stp}:s∈K5 N->s∉B->(s=FST\/Do s.1.toNat=true)->Fal N Do B L (a0p N s)
 | on {p q t:Nat} {l:List Nat}:Fal N Do B L p->N[p]?=some l->l[q]?=some t->(((p:Int),(q:Int)):Stp)∉B->Fal N Do B L t
def c9n(S:List Nat):List V:=(KS S).map λkv=>kV kv.1
def d1X(S:List Nat):c9n S=IL S:=by
 unfold c9n KS IL;rw[R3];rfl
def J2.dK{H:Hp}{p:Addr}{kvs:List (Key×V)}{o:HO}(h:H p=some (.dK kvs)):J2 H (upd H p o):=λa xs e=>by rw[i9 (O9 e h (by intro z;cases z))];exact e
section
variable {K:Fg}{c:Cn}{x bd:Addr}{Sp:Nat->Bool}
def b3M(h:H d=some (.dK (KS S)))(k:∀l H',H l=none->H' l=some (.lst (IL S))->j5 H H'->Q (.ref l) H'):a4y [.ref d] H Q:=by
 unfold a4y;simp only[h];intro l hl;exact k l _ hl (by rw[c7];exact congrArg (λz=>some (HO.lst z)) (d1X S)) (A2 hl)
def d1w{neg:Bool}(h:ti σ H λy H1=>to σ H1 λx H2=>∃a b xs k,x=.ref a/\y=.ref b/\H2 a=some (dX a xs)/\b5x K H2 xs/\SqT K H2 b (k.map kV)/\Q (.bl (if neg then !(b3Y xs k).isSome else (b3Y xs k).isSome)) H2):b5O K neg ti to σ H Q:=h
def XD.val(h:XD K H d B)(s:Stp):∃xs,H d=some (dX d xs)/\b5x K H xs/\(b3Y xs (stK s)).isSome=decide (s∈B):=by
 obtain⟨xs,h1,h2,h3⟩:=h.ex;exact⟨xs,h1,(a7s h2 h3).2,c2a (a7s h2 h3).1 s⟩
def b6X(ck:X6 K c)(hp:a1n c H x N rs)(hz:a0z K c H x N)(hv:a0i N)(hd:a0H H dd ds)(hs:a5t H rs ds Do Sp)(hB:XD K H bd B)(ha:H la=some (.lst (IL L)))(lL:L.length<=400)(hL:∀t∈L,t<N.length)
  (k:∀d F H',H d=none->H' d=some (.dK (KS F))->F.Nodup->(∀t∈F,t<N.length)->(∀t,t∈F↔Fal N Do B L t)->j5 H H'->Q (.ref d) H'):a1a K c [.ref x,.ref dd,.ref bd,.ref la] H Q E:=by
 obtain⟨dx,fs,n,r,h1,h2,h3,h4,h5,h6⟩:=hp.ex;obtain⟨dx2,r2,n2,e2,es2,p1,_⟩:=id hz.ex;have h400:=hv.le;have lst:=a7c hv.two;refine⟨rfl,?_⟩;unfold a5E
 nofun
 exists a8P ha lL λd H1 hd0 e1 s1=>?_
 exact_mod_cast L4 ?_;exact_mod_cast a1S (V8 ?_);specialize U6 ?_;exists ⟨x,dx2,_,rfl,s1 _ _ p1,a8N r2 n2 e2 _ (by decide),?_⟩;refine a6H ck (hz.same s1) hv λw H2 hw S2 s2=>?_
 obtain⟨ps,w1,w2,w3⟩:=id S2.ex;have s02:=s1.trans s2;have ndw:d≠w:=f6 e1 hw
 refine⟨w,rfl,⟨_,SqL.of w1⟩,a6a (xs:=ps.map V.ref) (λj σ H5=>∃y5 F,σ=[some (.ref x),some (.ref dd),some (.ref bd),some (.ref la),some (.ref d),y5,none,none,none,none,none]/\H5 d=some (.dK (KS F))/\H5 w=some (.lst (ps.map V.ref))/\J2 H2 H5/\j5 H H5/\F.Nodup/\(∀t∈F,t<N.length)/\(∀t∈F,Fal N Do B L t)/\(∀t∈L,t∈F) /\
  ∀s∈(K5 N).take j,s∉B->(s=FST\/Do s.1.toNat=true)->a0p N s∈F) ?_ ?_ ?_ ?_⟩
 .exact⟨_,uniq L,rfl,s2 _ _ e1,w1,J2.refl _,s02,c7O L,λt ht=>hL t (b4V.mp ht),λt ht=>.held (b4V.mp ht),λt ht=>b4V.mpr ht,λs hs=>by simp at hs⟩
 .rintro j σ H5 _ ⟨_,_,_,_,q,_⟩;exact SqL.of q
 .rintro j v _ H5 hy ⟨y5,F,rfl,d5,w5,t5,s5,nd,flt,fal,fL,cl⟩;rw[b6]at hy;obtain⟨p,hp',rfl⟩:=E9.mp hy;have hj:=(gI hp');obtain⟨s,hs'⟩:∃s,(K5 N)[j]?=some s:=⟨_,c8 (by rw[<-w2];exact hj)⟩;have ms:=mI hs';have is:=a4D ms;have st:=(w3 j p s hp' hs').ts t5;have tk:(K5 N).take (j+1)=(K5 N).take j++[s]:=by rw[L3,hs'];rfl
  have lF:=a4d _ _ nd flt
  ext
  refine(hB.same s5).in_ (neg:=true) st (λR hR'=>⟨_,rfl,hR'⟩) (λR hR'=>⟨_,rfl,hR'⟩) ?_
  have skip:¬(s∉B/\(s=FST\/Do s.1.toNat=true))->∀s'∈(K5 N).take (j+1),s'∉B->(s'=FST\/Do s'.1.toNat=true)->a0p N s'∈F:=λno s' h' b' c'=>by
   rw[tk]at h';rcases v7.mp h' with q | q
   .exact cl s' q b' c'
   .rw[l7.mp q]at b' c';exact(no ⟨b',c'⟩).elim
  have put:s∉B->(s=FST\/Do s.1.toNat=true)->∀ {D':b1H} {H6:Hp} {z:Option V},j5 H5 H6->(∀σ' H',(∃y5 F,σ'=[some (V.ref x),some (.ref dd),some (.ref bd),some (.ref la),some (.ref d),y5,none,none,none,none,none]/\H' d=some (.dK (KS F))/\H' w=some (.lst (ps.map V.ref))/\J2 H2 H'/\j5 H H'/\F.Nodup/\(∀t∈F,t<N.length)/\(∀t∈F,Fal N Do B L t)/\(∀t∈L,t∈F) /\
    ∀s∈(K5 N).take (j+1),s∉B->(s=FST\/Do s.1.toNat=true)->a0p N s∈F)->D'.nx σ' H')->(a3S (b4 4) (Q6 c.M5 "leads_to" (U2 K c) [] E0 (b4 0) (a9 (b4 5) (i8))) (tC (.bl true))) D' [some (V.ref x),some (.ref dd),some (.ref bd),some (.ref la),some (.ref d),some (.ref p),none,none,none,none,none] H6:=by
   intro hb hc D' H6 z s6 hR;have d6:=s6 _ _ d5;specialize a7C ?_;specialize U6 ?_;exists ⟨x,dx2,_,rfl,s6 _ _ (s5 _ _ p1),a8N r2 n2 e2 _ (by decide),?_⟩;refine a6w ck ((hp.same (s5.trans s6)).x) (st.ts (j5.ts s6)) is ?_;refine⟨d,_,rfl,a9j d6 (by omega) (a0p N s),?_⟩;refine hR _ _ ⟨_,a3U F (a0p N s),rfl,c7,by rw[i9 (Ne.symm ndw)];exact s6 _ _ w5,?_,λb o e=>by rw[i9 (f6 e hd0)];exact s6 _ _ (s5 _ _ e),a6u nd,λt ht=>(X4.mp ht).elim (flt t) λz=>z ▸ b7O hv is,λt ht=>(X4.mp ht).elim (fal t) λz=>z ▸ .lead ms hb hc,λt ht=>X4.mpr (.inl (fL t ht)),λs' h' b' c'=>?_⟩
   .exact λb ys h=>J2.dK d6 _ _ (s6 _ _ (t5 _ _ h))
   .rw[tk]at h';rcases v7.mp h' with q | q
    .exact X4.mpr (.inl (cl s' q b' c'))
    .rw[l7.mp q];exact X4.mpr (.inr rfl)
  by_cases hb:s∈B
  .refine⟨_,rfl,z4 (by rw[if_pos rfl,d4E hb];rfl) ?_⟩;exists z4 rfl ?_;exact⟨_,F,rfl,d5,w5,t5,s5,nd,flt,fal,fL,skip λz=>z.1 hb⟩
  exists ⟨_,rfl,C6 (by rw[if_pos rfl,d4D hb];rfl) ?_⟩;refine⟨_,_,_,_,rfl,rfl,st.sq,ck.W9 H5,rfl,rfl,?_⟩;rw[eq2];by_cases hf:s=FST
  .refine⟨_,rfl,C6 (by exact d4E hf) ?_⟩;refine C6 rfl ?_;exact put hb (.inl hf) (z:=none) (j5.refl _) λ_ _ h=>h
  refine⟨_,rfl,z4 (by exact d4D hf) ?_⟩;rcases is with e | ⟨p0,q0,l0,t0,rfl,e1,e2⟩
  .exact(hf e).elim
  rcases id st with st' | ⟨z,_⟩
  rotate_left
  .exact(hf z).elim
  have hp0:=(gI e1)
  ext
  specialize Q8 ?_;exists ⟨x,_,dx,fs,_,rfl,s5 _ _ h1,ck.N4,ck.P3,h4,?_⟩;exists P0 st' (a2r _ _) ?_;obtain⟨rx,hrx⟩:∃rx,rs[p0]?=some rx:=⟨_,c8 (by omega)⟩;exists M0 (s5 _ _ h5) (a1e (by rw[b6,hrx];rfl)) ?_;obtain⟨xs,x1,x2,x3⟩:=(hs.ts (j5.ts s5)) p0 rx hrx;refine a7S x1 (hd.ts (j5.ts s5)) ?_;rw[x2];cases hdo:Do p0 with
  |true=>
   refine⟨_,rfl,C6 rfl ?_⟩;exact put hb (.inr hdo) (z:=none) (j5.refl _) λ_ _ h=>h
  |false=>
   exists ⟨_,rfl,z4 rfl ?_⟩;refine⟨_,F,rfl,d5,w5,t5,s5,nd,flt,fal,fL,skip λz=>?_⟩;rcases z.2 with e | e
   .exact hf e
   .have e:Do p0=true:=e;rw[hdo]at e;cases e
 .rintro _ H5 ⟨y5,F,rfl,d5,w5,t5,s5,nd,flt,fal,fL,cl⟩;rw[b8,w2,M3]at cl
  nofun
  exists b3M d5 λo H6 ho e6 s6=>?_
  nofun
  exact_mod_cast L4 ?_;have s06:=s5.trans s6;have ho0:H o=none:=s5.free ho;have ndo:d≠o:=f6 d5 ho;exact_mod_cast b0Y ?_
  refine⟨λm σ H7=>∃(y8 y9 y10:Option V) (G:List Nat) (dn:Nat),σ=[some (.ref x),some (.ref dd),some (.ref bd),some (.ref la),some (.ref d),y5,some (.ref o),some (.int (dn:Int)),y8,y9,y10]/\H7 d=some (.dK (KS G))/\H7 o=some (.lst (IL G))/\j5 H H7/\G.Nodup/\(∀t∈G,t<N.length)/\(∀t∈G,Fal N Do B L t)/\(∀t∈F,t∈G) /\
   (∀(i p:Nat) l,i<dn->G[i]?=some p->N[p]?=some l->∀(q t:Nat),l[q]?=some t->(((p:Int),(q:Int)):Stp)∉B->t∈G)/\dn<=G.length/\m=N.length - dn,⟨_,_,_,_,F,0,rfl,s6 _ _ d5,e6,s06,nd,flt,fal,λ_ h=>h,by omega,by omega,rfl⟩,?_⟩
  rintro m _ H7 ⟨y8,y9,y10,G,dn,rfl,d7,o7,s7,gnd,glt,gal,gF,gcl,hdn,rfl⟩;have lG:=a4d _ _ gnd glt
  ext
  exists O3 o7 ?_;rw[J9];by_cases hlt:dn<G.length
  rotate_left
  .exists z4 (d4D (by omega)) ?_;refine k d G H7 hd0 d7 gnd glt (λt=>⟨gal t,λh=>?_⟩) s7;induction h with
   |held h=>exact gF _ (fL _ h)
   |lead h1 h2 h3=>exact gF _ (cl _ h1 h2 h3)
   |@on p q t l _ e1 e2 e3 ih=>
    obtain⟨i,hi⟩:=C8.mp ih;have:=(gI hi);exact gcl i p l (by omega) hi e1 q t e2 e3
  .refine C6 (d4E (by omega)) ?_;obtain⟨p,hpG⟩:∃p,G[dn]?=some p:=⟨_,c8 hlt⟩;have hpn:=glt p (mI hpG)
   refine⟨λσ H8=>∃(m':Nat) (y8 y9 y10:Option V) (G:List Nat) (dn':Nat),σ=[some (.ref x),some (.ref dd),some (.ref bd),some (.ref la),some (.ref d),y5,some (.ref o),some (.int (dn':Int)),y8,y9,y10]/\H8 d=some (.dK (KS G))/\H8 o=some (.lst (IL G))/\j5 H H8/\G.Nodup/\(∀t∈G,t<N.length)/\(∀t∈G,Fal N Do B L t)/\(∀t∈F,t∈G) /\
    (∀(i p:Nat) l,i<dn'->G[i]?=some p->N[p]?=some l->∀(q t:Nat),l[q]?=some t->(((p:Int),(q:Int)):Stp)∉B->t∈G)/\dn'<=G.length/\m'=N.length - dn'/\m'<N.length - dn,?_,?_⟩
   .rintro σ' H8 ⟨m',y8,y9,y10,G,dn',e,q1,q2,q3,q4,q5,q6,q7,q8,q9,q10,q11⟩;exact⟨m',q11,y8,y9,y10,G,dn',e,q1,q2,q3,q4,q5,q6,q7,q8,q9,q10⟩
   nofun
   exists M0 o7 (c0g hpG) ?_;exact_mod_cast L4 ?_;specialize c2j rfl ?_;have e1:(dn:Int)+1=((dn+1:Nat):Int):=by omega
   rw[e1];specialize a1S (a5p ?_);specialize Q8 ?_;exists ⟨x,_,dx,fs,_,rfl,s7 _ _ h1,ck.N4,ck.U5,h2,?_⟩;obtain⟨l,hle⟩:∃l,l=N[p]:=⟨_,rfl⟩;have hl:N[p]?=some l:=by rw[hle];exact P7 hpn
   obtain⟨xs,y,f1,f2,f3,_⟩:=h3.at hl;exists M0 (s7 _ _ f1) f2 ?_;refine⟨y,rfl,⟨_,SqL.of (s7 _ _ f3)⟩,?_⟩
   refine b5e l.length (λi σ H8=>∃(y9 y10:Option V) (G':List Nat),σ=[some (.ref x),some (.ref dd),some (.ref bd),some (.ref la),some (.ref d),y5,some (.ref o),some (.int ((dn+1:Nat):Int)),some (.int (p:Int)),y9,y10]/\H8 d=some (.dK (KS G'))/\H8 o=some (.lst (IL G'))/\j5 H H8/\G'.Nodup/\(∀t∈G',t<N.length)/\(∀t∈G',Fal N Do B L t) /\
    (∃ex,G'=G++ex)/\∀(q t:Nat),q<i->l[q]?=some t->(((p:Int),(q:Int)):Stp)∉B->t∈G') ?_ ?_ ?_ ?_
   .exact⟨_,_,G,rfl,d7,o7,s7,gnd,glt,gal,⟨[],by simp⟩,by omega⟩
   .rintro _ H8 ⟨y9,y10,G',rfl,d8,o8,s8,nd8,lt8,al8,⟨ex,rfl⟩,cl8⟩;refine⟨⟨_,SqL.of (s8 _ _ f3),by rw[J9];exact j8 _⟩,_,_,_,_,_,dn+1,rfl,d8,o8,s8,nd8,lt8,al8,λt ht=>v9 _ (gF t ht),λi p' l' hi hpi hl' q t hq hb=>?_,by rw[u5];omega,rfl,by omega⟩;rw[o5 (by omega)]at hpi;by_cases z:i=dn
    .rw[z,hpG]at hpi;cases hpi;rw[hl]at hl';cases hl';exact cl8 q t (gI hq) hq hb
    .exact v9 _ (gcl i p' l' (by omega) hpi hl' q t hq hb)
   .rintro i _ H8 hi ⟨y9,y10,G',rfl,d8,o8,s8,_⟩;exact⟨_,_,SqL.of (s8 _ _ f3),by unfold IL;rw[b6,c8 hi];rfl⟩
   .rintro i _ H8 hi ⟨y9,y10,G',rfl,d8,o8,s8,nd8,lt8,al8,⟨ex,rfl⟩,cl8⟩ v H9 ⟨pp,w,hpp,rfl,rfl,gw⟩;obtain⟨t,ht⟩:∃t,l[i]?=some t:=⟨_,c8 hi⟩;have gw:=gw _ (SqL.of (s8 _ _ f3));unfold IL at gw;rw[b6,ht]at gw;cases gw;refine a7B (SqT.of c7) ?_;have s9:j5 H8 (upd H8 pp (.tup [V.int (i:Int),V.int (t:Int)])):=A2 hpp;obtain⟨H9,hH9⟩:∃H9,H9=upd H8 pp (.tup [V.int (i:Int),V.int (t:Int)]):=⟨_,rfl⟩;rw[<-hH9]at s9 ⊢;have htn:=hv.lt l (mI hl) t (mI ht)
    ext
    specialize d1w ?_;exists E4 (by simp) λtp H10 htp e10 s10=>?_
    have s810:=s9.trans s10;have s010:=s8.trans s810;obtain⟨xs',v1,v2,v3⟩:=(hB.same s010).val ((p:Int),(i:Int));have st:a0W K H10 tp ((p:Int),(i:Int)):=.inl e10;refine⟨bd,tp,xs',stK ((p:Int),(i:Int)),rfl,rfl,v1,v2,st.sq,?_⟩;rw[v3];have d10:=s810 _ _ d8;have o10:=s810 _ _ o8
    have sk:((((p:Int),(i:Int)):Stp)∉B->t∈G++ex)->∀(q u:Nat),q<i+1->l[q]?=some u->(((p:Int),(q:Int)):Stp)∉B->u∈G++ex:=λno q u hq hu hb=>by
     by_cases z:q=i
     .rw[z,ht]at hu;cases hu;rw[z]at hb;exact no hb
     .exact cl8 q u (by omega) hu hb
    by_cases hb:(((p:Int),(i:Int)):Stp)∈B
    .refine⟨_,rfl,z4 (by rw[if_pos rfl,d4E hb];rfl) ?_⟩;exists z4 rfl ?_;exact⟨_,_,G++ex,rfl,d10,o10,s010,nd8,lt8,al8,⟨ex,rfl⟩,sk λz=>(z hb).elim⟩
    exists ⟨_,rfl,C6 (by rw[if_pos rfl,d4D hb];rfl) ?_⟩;specialize a2l ?_;obtain⟨ov,g1,g2⟩:=a4K d10 t;refine⟨d,ov,rfl,g1,?_⟩;rw[g2];by_cases hin:t∈G++ex
    .exists ⟨_,rfl,z4 (by rw[d4E hin];rfl) ?_⟩;exact⟨_,_,G++ex,rfl,d10,o10,s010,nd8,lt8,al8,⟨ex,rfl⟩,sk λ_=>hin⟩
    refine⟨_,rfl,C6 (by rw[d4D hin];rfl) ?_⟩;have lGx:=a4d _ _ nd8 lt8;have hput:a3U (G++ex) t=G++ex++[t]:=by unfold a3U;rw[if_neg hin]
    exact_mod_cast L4 ?_;specialize a7C ?_;refine⟨d,_,rfl,a9j d10 (by omega) t,?_⟩;rw[hput]
    ext
    specialize a9s ?_;have o11:(upd H10 d (.dK (KS (G++ex++[t])))) o=some (.lst (IL (G++ex))):=by rw[i9 (Ne.symm ndo)];exact o10
    exists ⟨a0E o11,?_⟩;exists a1h o11 (L5 (by rw[J9];omega)) ?_;have eIL:IL (G++ex)++[V.int (t:Int)]=IL (G++ex++[t]):=by simp[IL]
    refine⟨_,_,G++ex++[t],rfl,by rw[i9 ndo];exact c7,by rw[c7];exact congrArg (λz=>some (HO.lst z)) eIL,λb ob e=>by rw[i9 (f6 e ho0),i9 (f6 e hd0)];exact s010 _ _ e,hput ▸ a6u nd8,λu hu=>?_,λu hu=>?_,⟨ex++[t],by simp⟩,λq u hq hu hb'=>?_⟩
    .rcases v7.mp hu with z | z
     .exact lt8 u z
     .rw[l7.mp z];exact htn
    .rcases v7.mp hu with z | z
     .exact al8 u z
     .rw[l7.mp z];exact .on (gal p (mI hpG)) hl ht hb
    .by_cases z:q=i
     .rw[z,ht]at hu;cases hu;exact D3 _ (by simp)
     .exact v9 _ (cl8 q u (by omega) hu hb')
end
def wtF(Do:Nat->Bool)(B:List Stp)(F:List Nat)(s:Stp):Bool:=decide (s∈B)||(!decide (s=FST)&&(!decide (s.1.toNat∈F) && !Do s.1.toNat))
def puF(N:Nt)(Do:Nat->Bool)(B:List Stp)(F:List Nat)(s:Stp):Bool:=wtF Do B F s&&decide (a0p N s∈F)
structure ChF(K:Fg)(c:Cn)(H:Hp)(cx dx x dd:Addr)(N:Nt)(rs:List Addr)(ds:List V)(Do Sp:Nat->Bool)(B:List Stp)(F:List Nat)(fs:List (Str×V)):Prop where
 hx:H cx=some (.ins c.v6 dx fs)
 lp:fs.lookup ("plan" : Str)=some (.ref x)
 ld:fs.lookup ("deed" : Str)=some (.ref dd)
 br:∃bd,fs.lookup ("brinks" : Str)=some (.ref bd)/\XD K H bd B
 fl:∃fa,fs.lookup ("fallen" : Str)=some (.ref fa)/\H fa=some (.dK (KS F))
 no:∀m:Str,m∉(["plan","deed","brinks","fallen","put_in","left_out","left_in","living"]:List Str)->fs.lookup m=none
 plan:a1n c H x N rs
 pat:a0z K c H x N
 deed:a0H H dd ds
 sat:a5t H rs ds Do Sp
section
variable {K:Fg}{c:Cn}{x:Addr}{Sp:Nat->Bool}{F:List Nat}{fs:List (Str×V)}
def ChF.same(h:ChF K c H cx dx x dd N rs ds Do Sp B F fs)(s:j5 H H'):ChF K c H' cx dx x dd N rs ds Do Sp B F fs:=
 ⟨s _ _ h.hx,h.lp,h.ld,let⟨bd,a,b⟩:=h.br; ⟨bd,a,b.same s⟩,let⟨fa,a,b⟩:=h.fl; ⟨fa,a,s _ _ b⟩,h.no,h.plan.same s,h.pat.same s,h.deed.ts (j5.ts s),h.sat.ts (j5.ts s)⟩
def a6j(ck:X6 K c)(h:ChF K c H cx dx x dd N rs ds Do Sp B F fs)(k:Q (.bl (!decide (t∈F))) H):T5 K [.ref cx,.int (t:Int)] H Q E:=by
 obtain⟨fa,f1,f2⟩:=h.fl;refine⟨rfl,?_⟩;unfold a6m
 ext
 specialize a2l ?_;specialize Q8 ?_;refine⟨cx,_,dx,fs,_,rfl,h.hx,ck.I0,ck.a2Q,f1,?_⟩;obtain⟨ov,g1,g2⟩:=a4K f2 t;refine⟨fa,ov,rfl,g1,?_⟩;rw[g2];exact k
def b8D(ck:X6 K c)(h:ChF K c H cx dx x dd N rs ds Do Sp B F fs)(ha:a0W K H a s)(is:a5i N s)(k:Q (.bl (wtF Do B F s)) H):a1t K c [.ref cx,.ref a] H Q E:=by
 obtain⟨bd,b1,b2⟩:=h.br;obtain⟨px,pf,n,r,h1,h2,h3,h4,h5,h6⟩:=h.plan.ex;refine⟨rfl,?_⟩;unfold a6l
 nofun
 refine b2.in_ (neg:=false) ha (λR hR'=>⟨_,rfl,hR'⟩) (λR hR'=>?_) ?_
 .specialize Q8 ?_;exact⟨cx,_,dx,fs,_,rfl,h.hx,ck.I0,ck.a1p,b1,hR'⟩
 by_cases hb:s∈B
 .exists ⟨_,rfl,C6 (by rw[if_neg (by decide)];exact d4E hb) ?_⟩;unfold wtF at k;rw[d4E hb]at k;exact k
 refine⟨_,rfl,z4 (by rw[if_neg (by decide)];exact d4D hb) ?_⟩;unfold wtF at k;rw[d4D hb,b2P]at k
 ext
 refine⟨_,_,_,_,rfl,rfl,ha.sq,ck.W9 H,rfl,rfl,?_⟩;rw[eq2];by_cases hf:s=FST
 .rw[d4E hf]at k;refine⟨_,rfl,z4 (by rw[show((s.1,s.2):Stp)=s from rfl,d4E hf];rfl) ?_⟩;exact k
 rw[d4D hf]at k;refine⟨_,rfl,C6 (by rw[show((s.1,s.2):Stp)=s from rfl,d4D hf];rfl) ?_⟩;rcases is with e | ⟨p0,q0,l0,t0,rfl,e1,e2⟩
 .exact(hf e).elim
 rcases id ha with ha' | ⟨z,_⟩
 rotate_left
 .exact(hf z).elim
 have hp0:=(gI e1);have et:((((p0:Int),(q0:Int)):Stp).1).toNat=p0:=rfl;rw[et]at k
 ext
 specialize U6 ?_;exists ⟨cx,dx,_,rfl,h.hx,h.no _ (by decide),?_⟩;exists P0 ha' (a2r _ _) ?_;refine a6j (t:=p0) ck h ?_;by_cases hF:p0∈F
 .rw[d4E hF]at k ⊢;exact⟨_,rfl,z4 rfl k⟩
 rw[d4D hF]at k ⊢;exists ⟨_,rfl,C6 rfl ?_⟩;exact_mod_cast Q8 ?_;specialize Q8 ?_;exists ⟨cx,_,dx,fs,_,rfl,h.hx,ck.I0,ck.a2w,h.lp,?_⟩;exists ⟨x,_,px,pf,_,rfl,h1,ck.N4,ck.P3,h4,?_⟩;exists P0 ha' (a2r _ _) ?_;obtain⟨rx,hrx⟩:∃rx,rs[p0]?=some rx:=⟨_,c8 (by omega)⟩;exists M0 h5 (a1e (by rw[b6,hrx];rfl)) ?_;specialize Q8 ?_;exists ⟨cx,_,dx,fs,_,rfl,h.hx,ck.I0,ck.a4g,h.ld,?_⟩;obtain⟨xs,x1,x2,x3⟩:=h.sat p0 rx hrx;refine a7S x1 h.deed ?_;rw[x2]
 ext
 exact k
def c3L(ck:X6 K c)(h:ChF K c H cx dx x dd N rs ds Do Sp B F fs)(ha:a0W K H a s)(is:a5i N s)(k:Q (.bl (puF N Do B F s)) H):a2C K c [.ref cx,.ref a] H Q E:=by
 obtain⟨px,pf,n,r,h1,h2,h3,h4,h5,h6⟩:=h.plan.ex;refine⟨rfl,?_⟩;unfold a8i
 ext
 specialize U6 ?_;exists ⟨cx,dx,_,rfl,h.hx,h.no _ (by decide),?_⟩;refine b8D ck h ha is ?_;unfold puF at k;cases hw:wtF Do B F s with
 |false=>rw[hw]at k;exact⟨_,rfl,z4 rfl k⟩
 |true=>
  rw[hw]at k;exists ⟨_,rfl,C6 rfl ?_⟩;specialize U6 ?_;exists ⟨cx,dx,_,rfl,h.hx,h.no _ (by decide),?_⟩;exact_mod_cast U6 ?_;specialize Q8 ?_;refine⟨cx,_,dx,fs,_,rfl,h.hx,ck.I0,ck.a2w,h.lp,?_⟩;obtain⟨dx2,r2,n2,e2,es2,p1,_⟩:=id h.pat.ex;exists ⟨x,dx2,_,rfl,p1,a8N r2 n2 e2 _ (by decide),?_⟩;exists a6w ck h.plan.x ha is ?_;refine a6j (t:=a0p N s) ck h ?_;refine⟨_,rfl,?_⟩;rw[Bool.not_not];exact k
end
section
variable {K:Fg}{c:Cn}{x pd od yd:Addr}{P:List Stp}
def c3H(ck:X6 K c)(hz:a0z K c H x N)(hv:a0i N)(hP:XD K H pd P)(hO:H od=some (.dK (KS O)))(hY:H yd=some (.dK (KS Y)))(ndO:O.Nodup)(ltO:∀t∈O,t<N.length)
  (k:∀d G H',H d=none->H' d=some (.dK (KS G))->j5 H H'->Q (.ref d) H'):Z7 K c [.ref x,.ref pd,.ref od,.ref yd] H Q E:=by
 obtain⟨dx2,r2,n2,e2,es2,p1,_⟩:=id hz.ex;have h400:=hv.le;have lO:=a4d _ _ ndO ltO;have lst:=a7c hv.two;refine⟨rfl,?_⟩;unfold a4m
 nofun
 exists b4u λd H1 hd0 e1 s1=>?_
 nofun
 exists b3M (s1 _ _ hO) λo H2 ho e2' s2=>?_
 nofun
 exact_mod_cast L4 ?_;have s02:=s1.trans s2;have ho0:H o=none:=s1.free ho;have ndo:d≠o:=f6 e1 ho;exact_mod_cast b0Y ?_;refine⟨λm σ H7=>∃(y7 y8 y9:Option V) (G R:List Nat) (dn:Nat),σ=[some (.ref x),some (.ref pd),some (.ref od),some (.ref yd),some (.ref d),some (.ref o),some (.int (dn:Int)),y7,y8,y9]/\H7 d=some (.dK (KS G))/\H7 o=some (.lst (IL R))/\j5 H H7/\G.Nodup/\(∀t∈G,t<N.length)/\(∀t∈R,t<N.length)/\R.length<=400+G.length/\m=800 - dn,⟨_,_,_,_,[],O,0,rfl,s2 _ _ e1,e2',s02,by simp,by simp,ltO,by omega,rfl⟩,?_⟩;rintro m _ H7 ⟨y7,y8,y9,G,R,dn,rfl,d7,o7,s7,gnd,glt,rlt,lR,rfl⟩;have lG:=a4d _ _ gnd glt
 ext
 exists O3 o7 ?_;rw[J9];by_cases hlt:dn<R.length
 rotate_left
 .exists z4 (d4D (by omega)) ?_;exact k d G H7 hd0 d7 s7
 refine C6 (d4E (by omega)) ?_;obtain⟨u,hu⟩:∃u,R[dn]?=some u:=⟨_,c8 hlt⟩;have hun:=rlt u (mI hu);refine⟨λσ H8=>∃(y7 y8 y9:Option V) (G R:List Nat),σ=[some (.ref x),some (.ref pd),some (.ref od),some (.ref yd),some (.ref d),some (.ref o),some (.int ((dn+1:Nat):Int)),y7,y8,y9]/\H8 d=some (.dK (KS G))/\H8 o=some (.lst (IL R))/\j5 H H8/\G.Nodup/\(∀t∈G,t<N.length)/\(∀t∈R,t<N.length)/\R.length<=400+G.length,?_,?_⟩
 .rintro σ' H8 ⟨y7,y8,y9,G,R,e,q1,q2,q3,q4,q5,q6,q7⟩;exact⟨800 - (dn+1),by omega,y7,y8,y9,G,R,dn+1,e,q1,q2,q3,q4,q5,q6,q7,rfl⟩
 nofun
 exists M0 o7 (c0g hu) ?_;exact_mod_cast L4 ?_;specialize c2j rfl ?_;have e1':(dn:Int)+1=((dn+1:Nat):Int):=by omega
 rw[e1'];exact_mod_cast a1S (V8 ?_);specialize U6 ?_;exists ⟨x,dx2,_,rfl,s7 _ _ p1,a8N r2 n2 e2 _ (by decide),?_⟩;refine b1j ck (hz.same s7) hun λw H8 hw S8 s8=>?_
 obtain⟨ps,w1,w2,w3⟩:=id S8.ex;have ndw:d≠w:=f6 d7 hw;have now:o≠w:=f6 o7 hw;refine⟨w,rfl,⟨_,SqL.of w1⟩,a6a (xs:=ps.map V.ref) (λj σ H9=>∃(y8 y9:Option V) (G R:List Nat),σ=[some (.ref x),some (.ref pd),some (.ref od),some (.ref yd),some (.ref d),some (.ref o),some (.int ((dn+1:Nat):Int)),some (.int (u:Int)),y8,y9]/\H9 d=some (.dK (KS G))/\H9 o=some (.lst (IL R))/\H9 w=some (.lst (ps.map V.ref))/\J2 H8 H9/\j5 H H9/\G.Nodup/\(∀t∈G,t<N.length)/\(∀t∈R,t<N.length)/\R.length<=400+G.length) ⟨_,_,G,R,rfl,s8 _ _ d7,s8 _ _ o7,w1,J2.refl _,s7.trans s8,gnd,glt,rlt,lR⟩ ?_ ?_ ?_⟩
 .rintro j σ H9 _ ⟨_,_,_,_,_,_,_,q,_⟩;exact SqL.of q
 .rintro j v _ H9 hy ⟨y8,y9,G,R,rfl,d9,o9,w9,t9,s9,nd9,lt9,rt9,lR9⟩;rw[b6]at hy;obtain⟨p,hp',rfl⟩:=E9.mp hy;have hj:=(gI hp');obtain⟨s,hs'⟩:∃s,((K5 N).filter λs=>decide (a0p N s=u))[j]?=some s:=⟨_,c8 (by rw[<-w2];exact hj)⟩;have is:=a4D (U4.mp (mI hs')).1;have st:=(w3 j p s hp' hs').ts t9;have lG9:=a4d _ _ nd9 lt9
  ext
  nofun
  exists ⟨p,0,_,_,rfl,rfl,st.sq,a2r _ _,?_⟩;refine⟨_,_,_,_,rfl,rfl,st.sq,ck.W9 H9,rfl,rfl,?_⟩;rw[eq2];by_cases hf:s=FST
  .refine⟨_,rfl,z4 (by rw[show((s.1,s.2):Stp)=s from rfl,d4E hf];rfl) ?_⟩;exists z4 rfl ?_;exact⟨_,_,G,R,rfl,d9,o9,w9,t9,s9,nd9,lt9,rt9,lR9⟩
  exists ⟨_,rfl,C6 (by rw[show((s.1,s.2):Stp)=s from rfl,d4D hf];rfl) ?_⟩;refine(hP.same s9).in_ (neg:=true) st (λR hR'=>⟨_,rfl,hR'⟩) (λR hR'=>⟨_,rfl,hR'⟩) ?_;refine⟨_,rfl,a0y (λ_=>?_) (λ_=>?_)⟩
  rotate_left
  .exists z4 rfl ?_;exact⟨_,_,G,R,rfl,d9,o9,w9,t9,s9,nd9,lt9,rt9,lR9⟩
  rcases is with e | ⟨p0,q0,l0,t0,rfl,a1,a2⟩
  .exact(hf e).elim
  have hp0:=(gI a1)
  ext
  specialize a2l ?_;obtain⟨ov,g1,g2⟩:=a4K d9 p0;refine⟨d,ov,rfl,g1,?_⟩;rw[g2];by_cases hin:p0∈G
  .exists ⟨_,rfl,z4 (by rw[d4E hin];rfl) ?_⟩;exact⟨_,_,G,R,rfl,d9,o9,w9,t9,s9,nd9,lt9,rt9,lR9⟩
  refine⟨_,rfl,C6 (by rw[d4D hin];rfl) ?_⟩;have hput:a3U G p0=G++[p0]:=by unfold a3U;rw[if_neg hin]
  have nd10:(G++[p0]).Nodup:=hput ▸ a6u nd9;have up:∀ {l:List Nat},(∀t∈l,t<N.length)->∀t∈l++[p0],t<N.length:=λh t ht=>(v7.mp ht).elim (h t) λz=>by rw[l7.mp z];exact hp0
  exact_mod_cast L4 ?_;specialize a7C ?_;refine⟨d,_,rfl,a9j d9 (by omega) p0,?_⟩;rw[hput];obtain⟨H10,hH10⟩:∃H10,H10=upd H9 d (.dK (KS (G++[p0]))):=⟨_,rfl⟩;have d10:H10 d=some (.dK (KS (G++[p0]))):=hH10 ▸ c7;have oth:∀b ob,H9 b=some ob->b≠d->H10 b=some ob:=λb ob e n=>by rw[hH10,i9 n];exact e
  have s10:j5 H H10:=λb ob e=>oth b ob (s9 b ob e) (f6 e hd0)
  have t10:J2 H8 H10:=λb ys h=>hH10 ▸ J2.dK d9 _ _ (t9 _ _ h)
  rw[<-hH10];have o10:=oth o _ o9 (Ne.symm ndo);have w10:=oth w _ w9 (Ne.symm ndw);have l10:R.length+1<=400+(G++[p0]).length:=by rw[u5];simp;omega
  ext
  specialize a2l ?_;obtain⟨ov',g1',g2'⟩:=a4K (s10 _ _ hY) p0;refine⟨yd,ov',rfl,g1',?_⟩;rw[g2'];refine⟨_,rfl,a0y (λ_=>?_) (λ_=>?_)⟩
  rotate_left
  .ext
   exact⟨_,_,G++[p0],R,rfl,d10,o10,w10,t10,s10,nd10,up lt9,rt9,by omega⟩
  ext
  specialize a9s ?_;exists ⟨a0E o10,?_⟩;exists a1h o10 (L5 (by rw[J9];omega)) ?_;exact⟨_,_,G++[p0],R++[p0],rfl,by rw[i9 ndo];exact d10,by rw[c7];simp[IL],by rw[i9 (Ne.symm now)];exact w10,λb ys h=>J2.put o10 _ _ (t10 _ _ h),λb ob e=>by rw[i9 (f6 e ho0)];exact s10 _ _ e,nd10,up lt9,up rt9,by rw[u5];exact l10⟩
 .rintro _ H9 ⟨y8,y9,G,R,rfl,d9,o9,w9,t9,s9,nd9,lt9,rt9,lR9⟩;exact⟨_,_,_,G,R,rfl,d9,o9,s9,nd9,lt9,rt9,lR9⟩
end
section
variable {K:Fg}{S:List Stp}
def b3d{α:Type}{l:List α}{f:α->Bool}{s:α}(h:l[i]?=some s):(l.take (i+1)).filter f=(l.take i).filter f++if f s=true then [s] else []:=by
 rw[L3,h,X9];congr 1;simp only[c4s,a5k,a6e]
def c6r{f:Stp->Bool}(lS:S.length<=2000)(hti:∀R:VK,(∀w H',Q3 K H' w S->j5 H H'->R (.ref w) H')->ti σ H R)
  (htt:∀p s H',a0W K H' p s->s∈S->j5 H H'->∀R:Bool->Hp->Prop,R (f s) H'->tt (some (.ref p)::σ) H' R)
  (k:∀D H',H D=none->Q3 K H' D (S.filter f)->j5 H H'->Q (.ref D) H'):V6 (V7 K ti) tt (b4 0) σ H Q:=by
 exact_mod_cast Y9 (V8 ?_);refine hti _ λw H1 S1 s1=>?_
 obtain⟨ps,w1,w2,w3⟩:=id S1.ex;refine⟨w,rfl,⟨_,SqL.of w1⟩,λD hD=>?_⟩
 refine c1L (J:=Itl K w) ps.length (λi ys H9=>∃(ts:List Addr),ys=ts.map V.ref/\ts.length=((S.take i).filter f).length/\(∀(j:Nat) y s,ts[j]?=some y->((S.take i).filter f)[j]?=some s->a0W K H1 y s)/\H9 D=some (.lst ys)/\j5 H1 H9)
  ⟨[],rfl,rfl,(λj y s h=>by cases h),c7,A2 hD⟩ ?_ ?_ ?_ ?_
 .rintro i ys H9 ⟨_,_,_,_,h,_⟩;exact h
 .rintro ys H9 ⟨ts,rfl,l1,t1,hD9,s9⟩;refine⟨⟨_,SqL.of (s9 _ _ w1),by rw[b8];exact j8 _⟩,?_⟩;rw[w2,M3]at l1 t1;exact k D H9 (s1.free hD) ⟨ts,hD9,l1,λj y s e1 e2=>(t1 j y s e1 e2).ts (j5.ts s9)⟩ (s1.trans s9)
 .rintro i ys H9 hi ⟨_,_,_,_,_,s9⟩;exact⟨_,.ref ps[i],SqL.of (s9 _ _ w1),by rw[b6,c8 hi];rfl⟩
 .rintro i ys H9' hi ⟨ts,rfl,l1,t1,hD9,s9⟩ v H9 ⟨rfl,hy⟩ R S' hR hS;have hv':=hy _ (SqL.of (s9 _ _ w1));rw[b6]at hv';obtain⟨p,hp',rfl⟩:=E9.mp hv';obtain⟨s,hs'⟩:∃s,S[i]?=some s:=⟨_,c8 (by rw[<-w2];exact hi)⟩;have st0:=w3 i p s hp' hs';have tk:=b3d (f:=f) hs';refine htt p s H9 (st0.ts (j5.ts s9)) (mI hs') (s1.trans s9) _ ?_;cases hb:f s with
  |false=>
   rw[hb,if_neg (by decide),F9]at tk;exact z4 rfl (hS _ ⟨ts,rfl,by rw[tk];exact l1,by rw[tk];exact t1,hD9,s9⟩)
  |true=>
   rw[hb,if_pos rfl]at tk;exists C6 rfl ?_
   have lle:((S.take i).filter f).length<=S.length:=by
    have h1:=G6 f (S.take i);rw[F7]at h1;omega
   refine hR _ _ hD9 (L5 (by rw[b8];omega)) ⟨ts++[p],by rw[F8];rfl,by rw[tk,u5,u5,l1];rfl,λj y u e1 e2=>?_,c7,λb o e=>by rw[i9 (f6 e hD)];exact s9 _ _ e⟩;rw[tk]at e2;rcases a0N e1 with ⟨j1,j2⟩ | ⟨j1,j2⟩
   .rw[o5 (by omega)]at e2;exact t1 j y u j2 e2
   .rw[j1,l1,J1 (j8 _),Nat.sub_self]at e2;cases e2;subst j2;exact st0
def b9Q{f:Nat->Bool}(lL:L.length<=2000)(hti:∀R:VK,(∀w H',H' w=some (.lst (IL L))->j5 H H'->R (.ref w) H')->ti σ H R)
  (htt:∀(t:Nat) H',t∈L->j5 H H'->∀R:Bool->Hp->Prop,R (f t) H'->tt (some (.int (t:Int))::σ) H' R)
  (k:∀D H',H D=none->H' D=some (.lst (IL (L.filter f)))->j5 H H'->Q (.ref D) H'):V6 (V7 K ti) tt (b4 0) σ H Q:=by
 exact_mod_cast Y9 (V8 ?_);refine hti _ λw H1 w1 s1=>?_
 refine⟨w,rfl,⟨_,SqL.of w1⟩,λD hD=>?_⟩;refine c1L (J:=Itl K w) L.length (λi ys H9=>ys=IL ((L.take i).filter f)/\H9 D=some (.lst ys)/\j5 H1 H9) ⟨rfl,c7,A2 hD⟩ ?_ ?_ ?_ ?_
 .rintro i ys H9 ⟨_,h,_⟩;exact h
 .rintro ys H9 ⟨rfl,hD9,s9⟩;rw[M3]at hD9;exact⟨⟨_,SqL.of (s9 _ _ w1),by rw[J9];exact j8 _⟩,k D H9 (s1.free hD) hD9 (s1.trans s9)⟩
 .rintro i ys H9 hi ⟨_,_,s9⟩;exact⟨_,_,SqL.of (s9 _ _ w1),by unfold IL;rw[b6,c8 hi];rfl⟩
 .rintro i ys H9' hi ⟨rfl,hD9,s9⟩ v H9 ⟨rfl,hy⟩ R S' hR hS;have hv':=hy _ (SqL.of (s9 _ _ w1));unfold IL at hv';rw[b6]at hv';obtain⟨t,hs',rfl⟩:=E9.mp hv';have tk:=b3d (f:=f) hs';refine htt t H9 (mI hs') (s1.trans s9) _ ?_;cases hb:f t with
  |false=>
   rw[hb,if_neg (by decide),F9]at tk;exact z4 rfl (hS _ ⟨by rw[tk],hD9,s9⟩)
  |true=>
   rw[hb,if_pos rfl]at tk;exists C6 rfl ?_
   have lle:((L.take i).filter f).length<=L.length:=by
    have h1:=G6 f (L.take i);rw[F7]at h1;omega
   refine hR _ _ hD9 (L5 (by rw[J9];omega)) ⟨by rw[tk];simp[IL],c7,λb o e=>by rw[i9 (f6 e hD)];exact s9 _ _ e⟩
end
section
variable {K:Fg}{c:Cn}{x:Addr}{Sp:Nat->Bool}
def c1M(ck:X6 K c)(hp:a1n c H x N rs)(h400:N.length<=400)(hd:a0H H dd ds)(hs:a5t H rs ds Do Sp)(e1:σ[1]?=some (some (.ref x)))(e2:σ[2]?=some (some (.ref dd)))
  (k:∀D H',H D=none->H' D=some (.lst (IL ((A1 N.length).filter Do)))->j5 H H'->Q (.ref D) H'):a9S K (a8l K (a9 (Y5 K (b4 1) "rows") (i8))) (tB (z7 (a3I K) [] E0 (a9 (b4 1) (a9 (b4 4) (i8))))) (b4 0) σ H Q:=by
 obtain⟨dx,fs,n,r,h1,h2,h3,h4,h5,h6⟩:=hp.ex;exact_mod_cast b7n (a5p ?_);refine G0 (Q8 (M7 e1 ?_));refine⟨x,_,dx,fs,_,rfl,h1,ck.N4,ck.P3,h4,?_⟩;refine X3 ?_;refine⟨r,rfl,⟨_,SqL.of h5⟩,λD hD=>?_⟩;refine c1J N.length (λi ys H9=>ys=IL ((A1 i).filter Do)/\H9 D=some (.lst ys)/\j5 H H9) ⟨rfl,c7,A2 hD⟩ ?_ ?_ ?_ ?_
 .rintro i ys H9 ⟨_,h,_⟩;exact h
 .rintro ys H9 ⟨rfl,hD9,s9⟩;exact⟨⟨_,SqL.of (s9 _ _ h5),by rw[b8,h6];exact j8 _⟩,k D H9 hD hD9 s9⟩
 .rintro i ys H9 hi ⟨_,_,s9⟩;exact⟨_,.ref (rs[i]'(by omega)),SqL.of (s9 _ _ h5),by rw[b6,c8 (by omega)];rfl⟩
 .rintro i ys H9 hi ⟨rfl,hD9,s9⟩ v H10 ⟨pp,w,hpp,rfl,rfl,gw⟩;obtain⟨rx,hrx⟩:∃rx,rs[i]?=some rx:=⟨_,c8 (by omega)⟩;have gw:=gw _ (SqL.of (s9 _ _ h5));rw[b6,hrx]at gw;cases gw;refine⟨pp,_,_,rfl,SqT.of c7,λR S hR hS=>?_⟩;have s10:j5 H9 (upd H9 pp (.tup [V.int (i:Int),V.ref rx])):=A2 hpp;have s010:=s9.trans s10;obtain⟨xs,x1,x2,x3⟩:=(hs.ts (j5.ts s010)) i rx hrx;refine c3l (a4Z (G0 (M7 rfl (G0 (M7 (by exact e2) (X3 ?_))))));refine a7S x1 (hd.ts (j5.ts s010)) ?_;rw[x2];refine⟨_,rfl,?_⟩
  have tk:(A1 (i+1)).filter Do=(A1 i).filter Do++if Do i=true then [i] else []:=by
   rw[a1Z,X9];congr 1;simp only[a5k,a6e]
  cases hb:Do i with
  |false=>
   rw[hb,if_neg (by decide),F9]at tk;exact z4 rfl (hS _ ⟨by rw[tk],s10 _ _ hD9,s010⟩)
  |true=>
   rw[hb,if_pos rfl]at tk;exists C6 rfl ?_
   have lle:((A1 i).filter Do).length<=i:=by
    have h1:=G6 Do (A1 i);rw[a2N]at h1;exact h1
   refine hR _ _ (s10 _ _ hD9) (L5 (by rw[J9];omega)) ⟨by rw[tk];simp[IL],c7,λb o e=>by rw[i9 (f6 e hD)];exact s010 _ _ e⟩
end
def BkL(N:Nt)(Do Sp:Nat->Bool)(B:List Stp):Prop:=∃fr fw,(∀t,t<N.length->(fr t=false↔UnR N Do Sp t))/\(∀t,t<N.length->(fw t=false↔UnW N Do Sp t))/\B=(K5 N).filter (a8s N Do Sp fr fw)
def BkL.uniq{Sp:Nat->Bool}{B':List Stp}(hv:a0i N)(h:BkL N Do Sp B)(h':BkL N Do Sp B'):B=B':=by
 obtain⟨fr,fw,h1,h2,rfl⟩:=h;obtain⟨fr',fw',h1',h2',rfl⟩:=h'
 have cg:∀ {a b:Bool} {P:Prop},(a=false↔P)->(b=false↔P)->a=b:=fun {a b P} x y=>by
  cases a <;> cases b <;> simp_all
 exact a8a λs hs=>c4d hv (a4D hs) (λt ht=>cg (h1 t ht) (h1' t ht)) λt ht=>cg (h2 t ht) (h2' t ht)
structure Cho(K:Fg)(c:Cn)(H:Hp)(cx x dd:Addr)(N:Nt)(rs:List Addr)(ds:List V)(Do Sp:Nat->Bool)(B:List Stp)(F:List Nat)(P:List Stp)(O Y G:List Nat):Prop where
 ex:∃dx fs,ChF K c H cx dx x dd N rs ds Do Sp B F fs/\(∃a,fs.lookup ("put_in" : Str)=some (.ref a)/\XD K H a P)/\(∃a,fs.lookup ("left_out" : Str)=some (.ref a)/\H a=some (.dK (KS O)))/\(∃a,fs.lookup ("left_in" : Str)=some (.ref a)/\H a=some (.dK (KS Y)))/\∃a,fs.lookup ("living" : Str)=some (.ref a)/\H a=some (.dK (KS G))
def b3r(N:Nt)(Do:Nat->Bool)(F:List Nat):List Nat:=((A1 N.length).filter Do).filter λt => !(!decide (t∈F))
def inF(N:Nt)(Do:Nat->Bool)(F:List Nat):List Nat:=((A1 N.length).filter Do).filter λt => !decide (t∈F)
section
variable {K:Fg}{c:Cn}{x:Addr}{va:V}{Sp:Nat->Bool}{P:List Stp}{F:List Nat}{fs:List (Str×V)}
def Cho.same(h:Cho K c H cx x dd N rs ds Do Sp B F P O Y G)(s:j5 H H'):Cho K c H' cx x dd N rs ds Do Sp B F P O Y G:=by
 obtain⟨dx,fs,h1,⟨a,a1,a2⟩,⟨b,b1,b2⟩,⟨d,d1,d2⟩,⟨e,e1,e2⟩⟩:=h.ex;exact⟨dx,fs,h1.same s,⟨a,a1,a2.same s⟩,⟨b,b1,s _ _ b2⟩,⟨d,d1,s _ _ d2⟩,⟨e,e1,s _ _ e2⟩⟩
abbrev a6c(x dd bd fa:Addr)(z:List (Str×V)):List (Str×V):=("plan",.ref x)::("deed",.ref dd)::("brinks",.ref bd)::("fallen",.ref fa)::z
def b3a{m:Str}:∀ {z:List (Str×V)},m∉z.map (·.1)->z.lookup m=none
 |[],_=>rfl
 |p::z,h=>by
  have h1:(m == p.1)=false:=beq_eq_false_iff_ne.mpr λe=>h (by rw[e];simp)
  rw[M4,h1];exact b3a λq=>h (K6 _ q)
def c7P{bd fa:Addr}{z:List (Str×V)}(hz:(z.map (·.1)) <+: (["put_in","left_out","left_in","living"]:List Str))(m:Str)(h:m∉(["plan","deed","brinks","fallen","put_in","left_out","left_in","living"]:List Str)):(a6c x dd bd fa z).lookup m=none:=by
 refine b3a λq=>h ?_
 simp only[a6c,J7,t8]at q;rcases q with q | q | q | q | q
 .rw[q];simp
 .rw[q];simp
 .rw[q];simp
 .rw[q];simp
 .exact D3 (["plan","deed","brinks","fallen"]:List Str) (hz.subset q)
def a6A(hx:H cx=some (.ins C dx fs))(h:XD K H a P):XD K (upd H cx o) a P:=h.move (J2.ins hx) λxs e=>by rw[i9 (O9 e hx (by intro z;cases z))];exact e
def a6b(hx:H cx=some (.ins C dx fs))(h:H a=some (.dK kvs)):upd H cx o a=some (.dK kvs):=by rw[i9 (O9 h hx (by intro z;cases z))];exact h
def a4e(ck:X6 K c)(hp:a1n c H x N rs)(hq:a6d c H x N rs)(hz:a0z K c H x N)(hv:a0i N)(hd:a0H H dd ds)(hn:a4p H dd)(hs:a5t H rs ds Do Sp)(ha:Hld H va L)(lL:L.length<=400)(hL:∀t∈L,t<N.length)(hcx:H cx=none)(hdx:H dx=none)
  (k:∀H' B F G,BkL N Do Sp B->(∀t,t∈F↔Fal N Do B L t)->Cho K c H' cx x dd N rs ds Do Sp B F ((K5 N).filter (puF N Do B F)) (b3r N Do F) (inF N Do F) G->j5 H H'->Q .non H') :
  L9 K c [.ref cx,.ref x,.ref dd,va] (upd (upd H dx (.own cx)) cx (.ins c.v6 dx [])) Q E:=by
 have h400:=hv.le;have lst:=a7c hv.two;obtain⟨dx2,r2,n2,e2,es2,p1,_⟩:=id hz.ex;have s0:j5 H (upd (upd H dx (.own cx)) cx (.ins c.v6 dx [])):=λb o e=>by rw[i9 (f6 e hcx),i9 (f6 e hdx)];exact e
 have put:∀ {H':Hp} {o:HO},j5 H H'->j5 H (upd H' cx o):=λs' b o e=>by rw[i9 (f6 e hcx)];exact s' _ _ e
 refine⟨rfl,?_⟩;unfold a9E;obtain⟨H1,hH1⟩:∃H1,H1=upd (upd H dx (.own cx)) cx (.ins c.v6 dx []):=⟨_,rfl⟩;have x1:H1 cx=some (.ins c.v6 dx []):=hH1 ▸ c7;rw[<-hH1]at s0 ⊢
 nofun
 refine⟨x,c.M5,dx2,_,rfl,s0 _ _ p1,ck.b8s,?_⟩;refine⟨_,rfl,?_⟩;exists z4 rfl ?_
 nofun
 refine b0v ck (hn.ts (j5.ts s0)) λH2 s2=>?_
 refine⟨_,rfl,?_⟩;exists z4 rfl ?_
 nofun
 have s02:=s0.trans s2;refine b7X ck (hp.same s02) h400 (ha.same s02) lL hL λH3 s3=>?_
 have s03:=s02.trans s3;have x3:=s3 _ _ (s2 _ _ x1)
 ext
 exact_mod_cast L4 ?_;specialize a0O ?_;refine⟨cx,_,dx,[],rfl,x3,ck.I0,ck.a2w,by simp,?_⟩;exact_mod_cast L4 ?_;specialize a0O ?_;refine⟨cx,_,dx,_,rfl,c7,ck.I0,ck.a4g,by simp[O4],?_⟩;obtain⟨H4,hH4⟩:∃H4,H4=upd (upd H3 cx (.ins c.v6 dx (O4 "plan" (.ref x) []))) cx (.ins c.v6 dx (O4 "deed" (.ref dd) (O4 "plan" (.ref x) []))):=⟨_,rfl⟩;have x4:H4 cx=some (.ins c.v6 dx (O4 "deed" (.ref dd) (O4 "plan" (.ref x) []))):=hH4 ▸ c7;have s04:j5 H H4:=hH4 ▸ put (put s03);rw[<-hH4];exact_mod_cast L4 ?_;specialize a0O ?_;exact_mod_cast U6 ?_;refine b9E ck (hp.same s04) (hq.same s04) (hz.same s04) hv (hd.ts (j5.ts s04)) (hs.ts (j5.ts s04)) rfl rfl λbx H5 Sr Sw hbx B5 s5=>?_
 obtain⟨bdx,brx,bwx,bfd,b1,bR,bW,bX⟩:=id B5.ex;exists ⟨bx,bdx,_,rfl,b1,b7J (d:=bfd) (.inr rfl) (by decide),?_⟩;refine c4c ck B5 λw H6 hw S6 s6=>?_
 obtain⟨B,hB⟩:∃B,B=(K5 N).filter (a8s N Do Sp (frS Sr) (frS Sw)):=⟨_,rfl⟩;rw[<-hB]at S6;have bk:BkL N Do Sp B:=⟨frS Sr,frS Sw,λt _=>by rw[<-bR.un t];simp[frS],λt _=>by rw[<-bW.un t];simp[frS],hB⟩
 have lB:B.length<=2000:=by
  have:=G6 (a8s N Do Sp (frS Sr) (frS Sw)) (K5 N);rw[hB];omega
 ext
 refine b1q S6 (hB ▸ (b4h N).filter _) lB λbd H7 hbd X7 s7=>?_
 have s07:=((s04.trans s5).trans s6).trans s7;have x7:=s7 _ _ (s6 _ _ (s5 _ _ x4))
 ext
 refine⟨cx,_,dx,_,rfl,x7,ck.I0,ck.a1p,(by show(2:Nat)<1000;decide),?_⟩;obtain⟨H8,hH8⟩:∃H8,H8=upd H7 cx (.ins c.v6 dx (O4 "brinks" (.ref bd) (O4 "deed" (.ref dd) (O4 "plan" (.ref x) [])))):=⟨_,rfl⟩;have x8:H8 cx=some (.ins c.v6 dx (O4 "brinks" (.ref bd) (O4 "deed" (.ref dd) (O4 "plan" (.ref x) [])))):=hH8 ▸ c7;have s08:j5 H H8:=hH8 ▸ put s07;have X8:XD K H8 bd B:=hH8 ▸ a6A x7 X7;rw[<-hH8];exact_mod_cast L4 ?_;specialize a0O ?_;specialize Q8 ?_;refine⟨cx,_,dx,_,_,rfl,x8,ck.I0,ck.a1p,rfl,?_⟩;exact_mod_cast G0 ?_;refine c9J (ha.same s08) rfl λla Hz hla sz=>?_
 have s08:=s08.trans sz;have X8:=X8.same sz;have x8:=sz _ _ x8
 ext
 refine b6X ck (hp.same s08) (hz.same s08) hv (hd.ts (j5.ts s08)) (hs.ts (j5.ts s08)) X8 hla lL hL λfa F H9 hfa f9 nF ltF alF s9=>?_
 have x9:=s9 _ _ x8;have s09:=s08.trans s9
 ext
 refine⟨cx,_,dx,_,rfl,x9,ck.I0,ck.a2Q,(by show(3:Nat)<1000;decide),?_⟩;obtain⟨H10,hH10⟩:∃H10,H10=upd H9 cx (.ins c.v6 dx (a6c x dd bd fa [])):=⟨_,rfl⟩;have x10:H10 cx=some (.ins c.v6 dx (a6c x dd bd fa [])):=hH10 ▸ c7;have s010:j5 H H10:=hH10 ▸ put s09;have X10:XD K H10 bd B:=hH10 ▸ a6A x9 (X8.same s9);have f10:H10 fa=some (.dK (KS F)):=hH10 ▸ a6b x9 f9;show(_:Prop);rw[show O4 "fallen" (.ref fa) (O4 "brinks" (.ref bd) (O4 "deed" (.ref dd) (O4 "plan" (.ref x) [])))=a6c x dd bd fa [] from rfl,<-hH10]
 have chf:∀ {H':Hp} {z:List (Str×V)},(z.map (·.1)) <+: (["put_in","left_out","left_in","living"]:List Str)->H' cx=some (.ins c.v6 dx (a6c x dd bd fa z))->j5 H H'->XD K H' bd B->H' fa=some (.dK (KS F))->ChF K c H' cx dx x dd N rs ds Do Sp B F (a6c x dd bd fa z):=fun {H' z} hz' hx s' X' f'=>
  ⟨hx,rfl,rfl,⟨bd,rfl,X'⟩,⟨fa,rfl,f'⟩,c7P hz',hp.same s',hz.same s',hd.ts (j5.ts s'),hs.ts (j5.ts s')⟩
 exact_mod_cast L4 ?_;refine c4Z ?_;refine c1M ck (hp.same s010) h400 (hd.ts (j5.ts s010)) (hs.ts (j5.ts s010)) rfl rfl λdg H11 hdg e11 s11=>?_
 have s011:=s010.trans s11;have x11:=s11 _ _ x10;have C11:=chf (z:=[]) (by simp) x11 s011 (X10.same s11) (s11 _ _ f10)
 have lD:((A1 N.length).filter Do).length<=400:=by
  have:=G6 Do (A1 N.length);rw[a2N]at this;omega
 have ndD:((A1 N.length).filter Do).Nodup:=b5J.filter _;exact_mod_cast L4 ?_;exact_mod_cast a0O ?_;exact_mod_cast a4Z ?_;exact_mod_cast G0 ?_;refine c6r (S:=K5 N) (f:=puF N Do B F) (by omega) (λR hR=>?_) (λp s H' st ms s' R hR=>?_) λw12 H12 hw12 S12 s12=>?_
 .specialize U6 ?_;exists ⟨x,dx2,_,rfl,s011 _ _ p1,a8N r2 n2 e2 _ (by decide),?_⟩;exact a6H ck (hz.same s011) hv λw H' _ S' s'=>hR w H' S' s'
 .ext
  specialize U6 ?_;exists ⟨cx,dx,_,rfl,s' _ _ x11,C11.no _ (by decide),?_⟩;exact c3L ck (C11.same s') st (a4D ms) ⟨_,rfl,hR⟩
 ext
 have lP:((K5 N).filter (puF N Do B F)).length<=2000:=by
  have:=G6 (puF N Do B F) (K5 N);omega
 exists b1q S12 ((b4h N).filter _) lP λpd H13 hpd X13 s13=>?_
 have s113:=s12.trans s13;have x13:=s113 _ _ x11;have s013:=s011.trans s113;refine⟨cx,_,dx,_,rfl,x13,ck.I0,ck.a1o,(by show(4:Nat)<1000;decide),?_⟩;obtain⟨H14,hH14⟩:∃H14,H14=upd H13 cx (.ins c.v6 dx (a6c x dd bd fa [("put_in",.ref pd)])):=⟨_,rfl⟩;have x14:H14 cx=some (.ins c.v6 dx (a6c x dd bd fa [("put_in",.ref pd)])):=hH14 ▸ c7;have s014:j5 H H14:=hH14 ▸ put s013;have C14:=chf (z:=[("put_in",.ref pd)]) (by exact⟨["left_out","left_in","living"],rfl⟩) x14 s014 (hH14 ▸ a6A x13 ((X10.same s11).same s113)) (hH14 ▸ a6b x13 (s113 _ _ (s11 _ _ f10)));have X14:XD K H14 pd _:=hH14 ▸ a6A x13 X13;have g14:H14 dg=some (.lst (IL ((A1 N.length).filter Do))):=by rw[hH14,i9 (O9 e11 x11 (by intro z;cases z))];exact s113 _ _ e11
 rw[show O4 "put_in" (.ref pd) (a6c x dd bd fa [])=a6c x dd bd fa [("put_in",.ref pd)] from rfl,<-hH14];exact_mod_cast L4 ?_;exact_mod_cast a0O ?_;exact_mod_cast a4Z ?_;exact_mod_cast G0 ?_;refine b9Q (L:=(A1 N.length).filter Do) (f:=λt => !(!decide (t∈F))) (by omega) (λR hR=>⟨_,rfl,hR dg H14 g14 (j5.refl _)⟩) (λt H' mt s' R hR=>?_) λw15 H15 hw15 e15 s15=>?_
 .ext
  specialize U6 ?_;exists ⟨cx,dx,_,rfl,s' _ _ x14,C14.no _ (by decide),?_⟩;exact a6j (t:=t) ck (C14.same s') ⟨_,rfl,hR⟩
 ext
 have e15:H15 w15=some (.lst (IL (b3r N Do F))):=e15;have lO:(b3r N Do F).length<=400:=G5 (G6 _ _) lD;have ndO:(b3r N Do F).Nodup:=ndD.filter _;refine a8P e15 lO λod H16 hod o16 s16=>?_
 rw[c2c ndO]at o16
 ext
 have s116:=s15.trans s16;have x16:=s116 _ _ x14;have s016:=s014.trans s116;refine⟨cx,_,dx,_,rfl,x16,ck.I0,ck.a0q,(by show(5:Nat)<1000;decide),?_⟩;obtain⟨H17,hH17⟩:∃H17,H17=upd H16 cx (.ins c.v6 dx (a6c x dd bd fa [("put_in",.ref pd),("left_out",.ref od)])):=⟨_,rfl⟩;have x17:H17 cx=some (.ins c.v6 dx (a6c x dd bd fa [("put_in",.ref pd),("left_out",.ref od)])):=hH17 ▸ c7;have s017:j5 H H17:=hH17 ▸ put s016;obtain⟨_,b1',X14b⟩:=C14.br;cases b1';obtain⟨_,b1',f14⟩:=C14.fl;cases b1';have C17:=chf (z:=[("put_in",.ref pd),("left_out",.ref od)]) (by exact⟨["left_in","living"],rfl⟩) x17 s017 (hH17 ▸ a6A x16 (X14b.same s116)) (hH17 ▸ a6b x16 (s116 _ _ f14));have X17:XD K H17 pd _:=hH17 ▸ a6A x16 (X14.same s116);have o17:H17 od=_:=hH17 ▸ a6b x16 o16;have g17:H17 dg=some (.lst (IL ((A1 N.length).filter Do))):=by rw[hH17,i9 (O9 e11 x11 (by intro z;cases z))];exact s116 _ _ g14
 rw[show O4 "left_out" (.ref od) (a6c x dd bd fa [("put_in",.ref pd)])=a6c x dd bd fa [("put_in",.ref pd),("left_out",.ref od)] from rfl,<-hH17];exact_mod_cast L4 ?_;exact_mod_cast a0O ?_;exact_mod_cast a4Z ?_;exact_mod_cast G0 ?_;refine b9Q (L:=(A1 N.length).filter Do) (f:=λt => !decide (t∈F)) (by omega) (λR hR=>⟨_,rfl,hR dg H17 g17 (j5.refl _)⟩) (λt H' mt s' R hR=>?_) λw18 H18 hw18 e18 s18=>?_
 .ext
  specialize U6 ?_;exists ⟨cx,dx,_,rfl,s' _ _ x17,C17.no _ (by decide),?_⟩;exact a6j (t:=t) ck (C17.same s') ⟨_,rfl,hR⟩
 ext
 have e18:H18 w18=some (.lst (IL (inF N Do F))):=e18;have lY:(inF N Do F).length<=400:=G5 (G6 _ _) lD;have ndY:(inF N Do F).Nodup:=ndD.filter _;refine a8P e18 lY λyd H19 hyd y19 s19=>?_
 rw[c2c ndY]at y19
 ext
 have s119:=s18.trans s19;have x19:=s119 _ _ x17;have s019:=s017.trans s119;refine⟨cx,_,dx,_,rfl,x19,ck.I0,ck.a0J,(by show(6:Nat)<1000;decide),?_⟩;obtain⟨H20,hH20⟩:∃H20,H20=upd H19 cx (.ins c.v6 dx (a6c x dd bd fa [("put_in",.ref pd),("left_out",.ref od),("left_in",.ref yd)])):=⟨_,rfl⟩;have x20:H20 cx=some (.ins c.v6 dx (a6c x dd bd fa [("put_in",.ref pd),("left_out",.ref od),("left_in",.ref yd)])):=hH20 ▸ c7;have s020:j5 H H20:=hH20 ▸ put s019;obtain⟨_,b1',X17b⟩:=C17.br;cases b1';obtain⟨_,b1',f17⟩:=C17.fl;cases b1';have X20b:XD K H20 bd B:=hH20 ▸ a6A x19 (X17b.same s119);have f20:H20 fa=some (.dK (KS F)):=hH20 ▸ a6b x19 (s119 _ _ f17);have X20:XD K H20 pd _:=hH20 ▸ a6A x19 (X17.same s119);have o20:H20 od=some (.dK (KS (b3r N Do F))):=hH20 ▸ a6b x19 (s119 _ _ o17);have y20:H20 yd=some (.dK (KS (inF N Do F))):=hH20 ▸ a6b x19 y19;rw[show O4 "left_in" (.ref yd) (a6c x dd bd fa [("put_in",.ref pd),("left_out",.ref od)])=a6c x dd bd fa [("put_in",.ref pd),("left_out",.ref od),("left_in",.ref yd)] from rfl,<-hH20];specialize a0O ?_;specialize Q8 ?_;exists ⟨cx,_,dx,_,_,rfl,x20,ck.I0,ck.a1o,rfl,?_⟩;specialize Q8 ?_;exists ⟨cx,_,dx,_,_,rfl,x20,ck.I0,ck.a0q,rfl,?_⟩;specialize Q8 ?_;exists ⟨cx,_,dx,_,_,rfl,x20,ck.I0,ck.a0J,rfl,?_⟩;exists c3H ck (hz.same s020) hv X20 o20 y20 ndO (λt ht=>U0.mp (U4.mp (U4.mp ht).1).1) λld G H21 hld g21 s21=>?_
 have x21:=s21 _ _ x20;have s021:=s020.trans s21;refine⟨cx,_,dx,_,rfl,x21,ck.I0,ck.a4E,(by show(7:Nat)<1000;decide),?_⟩;obtain⟨H22,hH22⟩:∃H22,H22=upd H21 cx (.ins c.v6 dx (a6c x dd bd fa [("put_in",.ref pd),("left_out",.ref od),("left_in",.ref yd),("living",.ref ld)])):=⟨_,rfl⟩;have x22:H22 cx=some (.ins c.v6 dx (a6c x dd bd fa [("put_in",.ref pd),("left_out",.ref od),("left_in",.ref yd),("living",.ref ld)])):=hH22 ▸ c7;have s022:j5 H H22:=hH22 ▸ put s021;rw[show O4 "living" (.ref ld) (a6c x dd bd fa [("put_in",.ref pd),("left_out",.ref od),("left_in",.ref yd)])=a6c x dd bd fa [("put_in",.ref pd),("left_out",.ref od),("left_in",.ref yd),("living",.ref ld)] from rfl,<-hH22];have C22:=chf (z:=[("put_in",.ref pd),("left_out",.ref od),("left_in",.ref yd),("living",.ref ld)]) (by exact⟨[],rfl⟩) x22 s022 (hH22 ▸ a6A x21 (X20b.same s21)) (hH22 ▸ a6b x21 (s21 _ _ f20));exact k H22 B F G bk alF ⟨dx,_,C22,⟨pd,rfl,hH22 ▸ a6A x21 (X20.same s21)⟩,⟨od,rfl,hH22 ▸ a6b x21 (s21 _ _ o20)⟩,⟨yd,rfl,hH22 ▸ a6b x21 (s21 _ _ y20)⟩,⟨ld,rfl,hH22 ▸ a6b x21 g21⟩⟩ s022
end
section
variable {K:Fg}{c:Cn}{x:Addr}{Sp:Nat->Bool}{P:List Stp}{F:List Nat}
def b2Y{a b:Nat}{tr:TE}(ck:X6 K c)(hp:a1n c H x N rs)(hq:a6d c H x N rs)(hz:a0z K c H x N)(hv:a0i N)(hd:a0H H dd ds)(hn:a4p H dd)(hs:a5t H rs ds Do Sp)(hL:∀t∈L,t<N.length)(lL:L.length<=400)(ea:σ[a]?=some (some (.ref x)))(eb:σ[b]?=some (some (.ref dd)))
  (htr:∀R:VK,(∀la H',H' la=some (.lst (IL L))->j5 H H'->R (.ref la) H')->tr σ H R)
  (k:∀cx H' B F G,H cx=none->BkL N Do Sp B->(∀t,t∈F↔Fal N Do B L t)->Cho K c H' cx x dd N rs ds Do Sp B F ((K5 N).filter (puF N Do B F)) (b3r N Do F) (inF N Do F) G->j5 H H'->Q (.ref cx) H') :
  a2e c.v6 (L9 K c) [] E0 (a9 (b4 a) (a9 (b4 b) (a9 tr i8))) σ H Q:=by
 exact_mod_cast b2g ?_;refine G0 (M7 ea (G0 (M7 eb (G0 ?_))));refine htr _ λla H1 h1 s1=>?_
 refine X3 ?_;intro cx dx hcx hdx _;exact a4e ck (hp.same s1) (hq.same s1) (hz.same s1) hv (hd.ts (j5.ts s1)) (hn.ts (j5.ts s1)) (hs.ts (j5.ts s1)) (.inr ⟨la,rfl,h1⟩) lL hL hcx hdx λH' B F G h2 h3 h5 h6=>⟨rfl,k cx H' B F G (s1.free hcx) h2 h3 h5 (s1.trans h6)⟩
def c7l{dvs:List V}{sp:L2.Sp}(h:tr σ H λvs H1=>∀x dx,H1 x=none->H1 dx=none->dx≠x ->
 sp (.ref x::(vs++dvs)) (upd (upd H1 dx (.own x)) x (.ins C dx [])) (λv H2=>v=.non/\Q (.ref x) H2) E):a2e C sp dvs E tr σ H Q:=h
def b7L{a b:Nat}(ck:X6 K c)(hp:a1n c H x N rs)(hq:a6d c H x N rs)(hz:a0z K c H x N)(hv:a0i N)(hd:a0H H dd ds)(hn:a4p H dd)(hs:a5t H rs ds Do Sp)(ea:σ[a]?=some (some (.ref x)))(eb:σ[b]?=some (some (.ref dd)))
  (k:∀cx H' B F G,H cx=none->BkL N Do Sp B->(∀t,t∈F↔Fal N Do B [] t)->Cho K c H' cx x dd N rs ds Do Sp B F ((K5 N).filter (puF N Do B F)) (b3r N Do F) (inF N Do F) G->j5 H H'->Q (.ref cx) H') :
  a2e c.v6 (L9 K c) [.non] E0 (a9 (b4 a) (a9 (b4 b) i8)) σ H Q:=by
 refine c7l ?_;refine G0 (M7 ea (G0 (M7 eb (X3 ?_))));intro cx dx hcx hdx _;exact a4e ck hp hq hz hv hd hn hs (.inl ⟨rfl,rfl⟩) (by simp) (by simp) hcx hdx λH' B F G h2 h3 h5 h6=>⟨rfl,k cx H' B F G hcx h2 h3 h5 h6⟩
def b7v(ck:X6 K c)(h:Cho K c H cx x dd N rs ds Do Sp B F P O Y G)(k:∀l H',H l=none->Q3 K H' l P->j5 H H'->Q (.ref l) H'):a0o K [.ref cx] H Q E:=by
 obtain⟨dx,fs,h1,⟨a,a1,a2⟩,_⟩:=h.ex;refine⟨rfl,?_⟩;unfold a9C
 ext
 specialize Q8 ?_;exists ⟨cx,_,dx,_,_,rfl,h1.hx,ck.I0,ck.a1o,a1,?_⟩;exact a2.list k
end
section
variable {K:Fg}{c:Cn}{x:Addr}{Sp:Nat->Bool}{P:List Stp}{F:List Nat}
def c7B(ck:X6 K c)(h:Cho K c H cx x dd N rs ds Do Sp B F P O Y G)(k:∀l H',H l=none->H' l=some (.lst (IL O))->j5 H H'->Q (.ref l) H'):a2j K [.ref cx] H Q E:=by
 obtain⟨dx,fs,h1,_,⟨a,a1,a2⟩,_⟩:=h.ex;refine⟨rfl,?_⟩;unfold a9D
 ext
 specialize Q8 ?_;exists ⟨cx,_,dx,_,_,rfl,h1.hx,ck.I0,ck.a0q,a1,?_⟩;exact b3M a2 k
end
section
variable {K:Fg}{c:Cn}{x:Addr}{Sp:Nat->Bool}{P:List Stp}{F:List Nat}
def c4U(ck:X6 K c)(h:Cho K c H cx x dd N rs ds Do Sp B F P O Y G)(k:∀l H',H l=none->H' l=some (.lst (IL Y))->j5 H H'->Q (.ref l) H'):a1E K [.ref cx] H Q E:=by
 obtain⟨dx,fs,h1,_,_,⟨a,a1,a2⟩,_⟩:=h.ex;refine⟨rfl,?_⟩;unfold a8B
 ext
 specialize Q8 ?_;exists ⟨cx,_,dx,_,_,rfl,h1.hx,ck.I0,ck.a0J,a1,?_⟩;exact b3M a2 k
end
def c1K{K:Fg}(hn:N8 H a N)(h400:N.length<=400)(hi:σ[i]?=some (some (.ref a)))(k:∀a' H',N8 H' a' N->j5 H H'->Q (.ref a') H'):V6 (V7 K (b4 i)) Z2 (tCB a5T (a9 (b4 0) i8)) σ H Q:=by
 obtain⟨ns,m1,m2,m3⟩:=id hn.ex;exact_mod_cast Y9 (V8 ?_);refine⟨_,hi,a,rfl,⟨_,SqL.of m1⟩,λnp hnp=>?_⟩;refine X5 (xs:=ns.map V.ref) (λi ys H8=>∃as:List Addr,ys=as.map V.ref/\as.length=i/\(∀(j:Nat) y l,as[j]?=some y->N[j]?=some l->H8 y=some (.lst (IL l))/\y≠np)/\H8 np=some (.lst ys)/\j5 H H8) ⟨[],rfl,rfl,by simp,c7,A2 hnp⟩ ?_ ?_ ?_ ?_
 .rintro i ys H8 ⟨_,_,_,_,h,_⟩;exact h
 .rintro i ys H8 _ ⟨_,_,_,_,_,s8⟩;exact SqL.of (s8 _ _ m1)
 .rintro i y ys H8 hy ⟨as,rfl,la,at8,hnp8,s8⟩ R hR;rw[b6]at hy;obtain⟨nx,hnx,rfl⟩:=E9.mp hy;have hi:i<N.length:=by rw[<-m2];exact(gI hnx)
  ext
  refine a4I (s8 _ _ (m3 i nx _ hnx (P7 hi))) λq H9 hq e9 s9=>?_
  have nq:q≠np:=(f6 hnp8 hq).symm;refine hR _ _ (s9 _ _ hnp8) (L5 (by rw[b8];omega)) ⟨as++[q],by simp,by simp[la],λj y l g1 g2=>?_,c7,λb o e=>by rw[i9 (f6 e hnp)];exact s9 _ _ (s8 _ _ e)⟩;rcases a0N g1 with ⟨_,f1⟩ | ⟨hj,f1⟩
  .obtain⟨f2,f3⟩:=at8 j y l f1 g2;exact⟨by rw[i9 f3];exact s9 _ _ f2,f3⟩
  .rw[hj,la,P7 hi]at g2;cases g2;subst f1;exact⟨by rw[i9 nq];exact e9,nq⟩
 .rintro ys H8 ⟨as,rfl,la,at8,hnp8,s8⟩;rw[b8,m2]at la;exact k np H8 ⟨as,hnp8,la,λi y l a b=>(at8 i y l a b).1⟩ s8
def c3c(n:Nat){K:Fg}{b:Addr}{S:List Stp}(ha:Q3 K H a S)(hb:Q3 K H b S):Dq K H (n+2) (.ref a) (.ref b):=by
 obtain⟨vs,v1,v2,v3⟩:=ha.ex;obtain⟨us,u1,u2,u3⟩:=hb.ex;refine .lst (SqL.of v1) (SqL.of u1) (by simp[v2,u2]) λj x y f1 f2=>?_
 rw[b6]at f1 f2;cases e1:vs[j]? with
 |none=>rw[e1]at f1;cases f1
 |some v=>
  cases e2:us[j]? with
  |none=>rw[e2]at f2;cases f2
  |some u=>
   rw[e1]at f1;rw[e2]at f2;cases f1;cases f2;obtain⟨s,hs⟩:∃s,S[j]?=some s:=⟨_,c8 (by have:=(gI e1);omega)⟩;refine .tup (v3 j v s e1 hs).sq (u3 j u s e2 hs).sq rfl λi x y g1 g2=>?_
   rw[g1]at g2;cases g2;rcases i with _ | _ | i
   .cases g1;exact .flat rfl
   .cases g1;exact .flat rfl
   .simp at g1
def b8M{K:Fg}{b:Addr}{S:List Stp}(ha:Q3 K H a S)(hb:Q3 K H b S):Dq K H 2 (.ref a) (.ref b):=c3c 0 ha hb
section
variable {K:Fg}{c:Cn}{b x ra z:Addr}{Sp:Nat->Bool}{P:List Stp}{F:List Nat}{fs:List (Str×V)}
end
section
variable {K:Fg}{e:Xn}{n:Int}
def a8G(ck:b3C K e)(hj:j<4)(ha:∀R:VK,R (.int n) H->ta σ H R)(k:Rz e j n H E):a7w (e.at j) (a0m K (c3R j)) (λ_=>E) (a9 ta i8) D σ H:=by
 unfold a7w;exact_mod_cast G0 ?_;refine ha _ ?_;exact_mod_cast X3 ?_;refine⟨L5 (by simp) |> b5D,λa ha=>⟨a,.int n,e.at j,rfl,c7,ck.xc j (by omega),ck.na j (by omega),λd d1 d2=>⟨rfl,some d,c7,k d _ ?_ λb o q=>?_⟩⟩⟩
 .rw[a7T d2,i9 d2,c7]
 .have hb:b≠a:=f6 q ha;rw[i9 d2]at d1;rw[a7T hb,i9 hb,i9 (f6 q d1),i9 hb];exact q
def c1w{s:String}(ck:b3C K e)(hv:G9 v H=some s)(hs:a5Z s "list"=false)(k:Rz e 0 n H E):a2D K e [v,.int n,.int m] H Q E:=by
 refine⟨rfl,?_⟩;unfold a4V
 nofun
 exists a3v hv (by decide) ?_;refine C6 (by rw[hs];rfl) ?_;refine C6 rfl ?_;exact a8G (j:=0) ck (by decide) (λR h=>⟨_,rfl,h⟩) k
def d2d{bs:List Bool}{k:Nat}(ck:b3C K e)(ha:H a=some (.lst (bs.map V.bl)))(hk:bs[k]?=some false)(hb:∀i,i<k->bs[i]?=some true)(r:∀H',j5 H H'->Rz e 1 (k:Int) H' E):a5O K e [.ref a] H Q E:=by
 refine⟨rfl,?_⟩;unfold a9H;specialize a1S (a5p ?_);refine⟨a,rfl,⟨_,SqL.of ha⟩,?_⟩;refine b5e (k+1) (λi σ H2=>i<=k/\∃x1 x2,σ=[some (.ref a),x1,x2]/\j5 H H2) ⟨W3 _,_,_,rfl,j5.refl _⟩ ?_ ?_ ?_
 .rintro _ H2 ⟨h,_⟩;omega
 .rintro i _ H2 hi ⟨h,x1,x2,rfl,s2⟩;have hlt:i<bs.length:=c8z h (gI hk);exact⟨_,V.bl bs[i],SqL.of (s2 _ _ ha),by rw[b6,c8 hlt];rfl⟩
 .rintro i _ H2 hi ⟨h,x1,x2,rfl,s2⟩ x H3 ⟨p,y,hp,rfl,rfl,hy⟩;have hy:=hy _ (SqL.of (s2 _ _ ha));rw[b6]at hy;refine a7B (SqT.of c7) ?_;by_cases hik:i=k
  .subst hik;rw[hk]at hy;cases hy
   ext
   refine C6 rfl ?_;exact a8G (j:=1) ck (by decide) (λR h=>⟨_,rfl,h⟩) (r _ (s2.trans (A2 hp)))
  .rw[hb i (by omega)]at hy;cases hy
   ext
   exists z4 rfl ?_;exact⟨by omega,_,_,rfl,s2.trans (A2 hp)⟩
def b7N(ck:b3C K e)(ha:H a=some (.lst xs))(hl:¬(xs.length:Int)<m)(h4:400<xs.length)(k:Rz e 3 400 H E):a2D K e [.ref a,.int n,.int m] H Q E:=by
 refine⟨rfl,?_⟩;unfold a4V
 nofun
 exists a3v (s:="list") (by simp only[G9,ha]) (by decide) ?_;exists z4 (by decide) ?_;exists O3 ha ?_;exists z4 (d4D hl) ?_;exists O3 ha ?_;refine C6 (d4E (by omega)) ?_;exact a8G (j:=3) ck (by decide) (λR h=>h) k
end
section
variable {K:Fg}{c:Cn}{s:String}
def Ty(H:Hp)(v:V):Prop:=(∃s,G9 v H=some s)/\∀z,v=.str z->z.length<=100000
def wB:V->Bool
 |.int _=>true
 |_=>false
def nmB:V->Bool
 |.str z=>a5Y z
 |_=>false
def blB(m:Int):V->Bool
 |.int n=>decide (0<=n)&&decide (n<m)
 |_=>false
def opB(v:V):Bool:=nmB v||blB 1000000000000 v
def c5h(h:G9 (.ref a) H=some s):s = "list" \/ s = "tuple" \/ s = "dict" := by
 unfold G9 at h;dsimp only at h;split at h <;> first | (cases h;simp) | cases h
def c0w(hv:G9 v H=some s):(a5Z s "int" && !a5Z s "bool")=wB v:=by
 cases v with
 |ref a=>rcases c5h hv with rfl | rfl | rfl <;> (show _=false;decide)
 |_=>first | (cases hv;rfl) | cases hv
def c4T(hv:G9 v H=some s)(hn:∀z,v≠.str z):a5Z s "str"=false:=by
 cases v with
 |ref a=>rcases c5h hv with rfl | rfl | rfl <;> decide
 |str z=>exact absurd rfl (hn z)
 |_=>first | (cases hv;rfl) | cases hv
def c1y(hv:G9 v H=some s)(k:Q (.bl (wB v)) H):a2g K [v] H Q E:=by
 refine⟨rfl,?_⟩;unfold b4d;rw[<-c0w hv]at k
 ext
 exists a3v hv (by decide) ?_;refine a0y (λe=>?_) (λe=>?_)
 .ext
  exists a3v hv (by decide) ?_;rw[e]at k;exact k
 .rw[c8A.mpr e]at k;exact k
def c2I{tm:TE}(hv:G9 v H=some s)(σ:St)(hs:σ[0]?=some (some v))(hm:∀R:VK,R (.int m) H->tm σ H R)(k:Q (.bl (blB m v)) H):a1D (z7 (a2g K) [] E0 (a9 (b4 0) i8)) (a9T qLe qLt (tC (.int 0)) (b4 0) tm) σ H Q:=by
 exact_mod_cast c0U (a4Z (G0 (M7 hs (X3 ?_))));refine c1y hv ⟨_,rfl,?_⟩;cases v with
 |int n=>
  refine C6 rfl ?_;specialize c2h (s_c (M7 hs ?_));by_cases h0:0<=n
  .refine C6 (d4E h0) ?_;exists hm _ ?_;have:blB m (.int n)=decide (n<m):=by show(decide (0<=n)&&decide (n<m))=_;rw[d4E h0,a2u]
   rw[this]at k;exact k
  .refine z4 (d4D h0) ?_;have:blB m (.int n)=false:=by show(decide (0<=n)&&decide (n<m))=_;rw[d4D h0,b8v]
   rw[this]at k;exact k
 |_=>exact z4 rfl k
def c1z(hv:G9 v H=some s)(k:Q (.bl (blB 1000000000000 v)) H):a4R K [v] H Q E:=by
 refine⟨rfl,?_⟩;unfold a9O;exact_mod_cast b6u ?_;exact c2I hv _ rfl (λR h=>h) k
def c1C(hv:G9 v H=some s)(k:Q (.bl (blB m v)) H):a2h K [v,.int m] H Q E:=by
 refine⟨rfl,?_⟩;unfold a9P;exact_mod_cast b6u ?_;exact c2I hv _ rfl (λR h=>⟨_,rfl,h⟩) k
def c1A(hv:G9 v H=some s)(hn:∀z,v≠.str z)(k:Q (.bl false) H):Y7 K [v] H Q E:=by
 refine⟨rfl,?_⟩;unfold a6Y
 nofun
 exists a3v hv (by decide) ?_;refine C6 (by rw[c4T hv hn];rfl) ?_;exists C6 rfl ?_;exact k
def b9I(hz:z.length<=100000)(k:∀H',j5 H H'->Q (.bl (a5Y z)) H'):Y7 K [.str z] H Q E:=by
 by_cases h4:z.length<=400
 .exact b3c h4 k
 have h8:¬z.length<=8:=by omega
 have e:a5Y z=false:=by unfold a5Y;rw[d4D h8];simp
 rw[e]at k;refine⟨rfl,?_⟩;unfold a6Y
 nofun
 exists a3v (s:="str") rfl (by decide) ?_;exists z4 (by decide) ?_;exists c5k (small hz) ?_;exists C6 (d4E (by omega)) ?_;rw[d4D (show ¬((z.length:Int)<=8) by omega)];exists C6 rfl ?_;exact k H (j5.refl _)
def c3M(h:Ty H v)(k:∀H',j5 H H'->Q (.bl (nmB v)) H'):Y7 K [v] H Q E:=by
 obtain⟨⟨s,hv⟩,hl⟩:=h;cases v with
 |str z=>exact b9I (hl z rfl) k
 |_=>exact c1A hv (λz q=>by cases q) (k H (j5.refl _))
def Ty.same(h:Ty H v)(t:j5 H H'):Ty H' v:=by
 obtain⟨⟨s,hv⟩,hl⟩:=h;refine⟨?_,hl⟩;cases v with
 |ref a=>
  unfold G9 at hv ⊢;dsimp only at hv ⊢;cases e:H a with
  |none=>rw[e]at hv;cases hv
  |some o=>rw[t a o e];rw[e]at hv;exact⟨s,hv⟩
 |_=>exact⟨s,hv⟩
def b1t(h:Ty H v)(k:∀H',j5 H H'->Q (.bl (opB v)) H'):a0f K [v] H Q E:=by
 refine⟨rfl,?_⟩;unfold a7u
 ext
 refine c3M h λH1 s1=>⟨_,rfl,?_⟩
 unfold opB at k;cases e:nmB v with
 |true=>
  rw[e]at k;exact C6 rfl (k H1 s1)
 |false=>
  rw[e,b2P]at k;exists z4 rfl ?_;obtain⟨⟨s,hv⟩,_⟩:=h.same s1;exact c1z hv (k H1 s1)
def c1B(hv:G9 v H=some s)(hs:a5Z s "tuple"=false)(k:Q (.bl false) H):a0L K c [v] H Q E:=by
 refine⟨rfl,?_⟩;unfold a5v
 nofun
 exists a3v hv (by decide) ?_;refine C6 (by rw[hs];rfl) ?_;exists C6 rfl ?_;exact k
def b9J(hp:H p=some (.tup xs))(hl:xs.length≠3)(k:Q (.bl false) H):a0L K c [.ref p] H Q E:=by
 refine⟨rfl,?_⟩;unfold a5v
 nofun
 exists a3v (s:="tuple") (by simp only[G9,hp]) (by decide) ?_;exists z4 (by decide) ?_;exists a5S hp ?_;exists C6 (by rw[d4D (λz=>hl (by have:=V.int.inj z;omega))];rfl) ?_;exact k
def kdB(k:Str):Bool:=inV (.str k) [.str "plus",.str "minus",.str "times",.str "less",.str "same"]
def c3N{kd:Str}{a b:V}(ck:X6 K c)(hp:H p=some (.tup [.str kd,a,b]))(ha:Ty H a)(hb:Ty H b)(k:∀H',j5 H H'->Q (.bl (kdB kd&&(opB a&&opB b))) H'):a0L K c [.ref p] H Q E:=by
 refine⟨rfl,?_⟩;unfold a5v
 nofun
 exists a3v (s:="tuple") (by simp only[G9,hp]) (by decide) ?_;exists z4 (by decide) ?_;exists a5S hp ?_;exists z4 (by simp) ?_;exists P0 hp (a2r _ _) ?_;refine⟨_,_,rfl,ck.a8b H,rfl,rfl,?_⟩;refine⟨_,rfl,?_⟩;rw[show inV (V.str kd) _=kdB kd from rfl];cases e:kdB kd with
 |false=>
  refine z4 rfl ?_;rw[e]at k;exact k H (j5.refl _)
 |true=>
  refine C6 rfl ?_;rw[e,a2u]at k
  ext
  exists P0 hp (a7k _ _ _) ?_;refine b1t ha λG1 s1=>⟨_,rfl,?_⟩
  cases e2:opB a with
  |false=>
   rw[e2]at k;exact z4 rfl (k G1 s1)
  |true=>
   rw[e2,a2u]at k;exists C6 rfl ?_;exists P0 (s1 _ _ hp) (b6g _ _ _ _) ?_;exact b1t (hb.same s1) λG2 s2=>k G2 (s1.trans s2)
end
section
variable {K:Fg}{c:Cn}{x:Addr}{s:String}{n:Int}
def Kd(H H':Hp):Prop:=J2 H H'/\∀v s,G9 v H=some s->G9 v H'=some s
def b8E(h:G9 v H=some s)(t:j5 H H'):G9 v H'=some s:=by
 cases v with
 |ref a=>
  simp only[G9]at h ⊢;cases e:H a with
  |none=>rw[e]at h;cases h
  |some o=>rw[e]at h;rw[t _ _ e];exact h
 |_=>exact h
def Kd.same(t:j5 H H'):Kd H H':=⟨j5.ts t,λ_ _ h=>b8E h t⟩
def Kd.trans(p:Kd H H')(q:Kd H' H2):Kd H H2:=⟨p.1.trans q.1,λv s h=>q.2 v s (p.2 v s h)⟩
def Kd.put(h:H a=some (.lst xs)):Kd H (upd H a (.lst ys)):=⟨J2.put h,λv s e=>by
 cases v with
 |ref b=>
  simp only[G9]at e ⊢;by_cases z:b=a
  .subst z;rw[h]at e;rw[c7];exact e
  .rw[i9 z];exact e
 |_=>exact e⟩
def Kd.kept{b:Addr}(hB:Bag H b d)(hB':Bag H' b d)(k:D0 b H H'):Kd H H':=⟨k.ts hB,λv s e=>by
 cases v with
 |ref a=>
  simp only[G9]at e ⊢;by_cases z:a=b
  .subst z;obtain⟨xs,h1⟩:=hB.lst;obtain⟨ys,h2⟩:=hB'.lst;rw[h1]at e;rw[h2];exact e
  .cases f:H a with
   |none=>rw[f]at e;cases e
   |some o=>rw[f]at e;rw[k.1 _ _ f z];exact e
 |_=>exact e⟩
def Ty.kd(h:Ty H v)(k:Kd H H'):Ty H' v:=⟨let⟨s,q⟩:=h.1; ⟨s,k.2 _ _ q⟩,h.2⟩
inductive b0A(N:Nt)(H:Hp):V->Nat->Int->Prop
 | no {v:V} {s:String}:G9 v H=some s->a5Z s "list"=false->v≠.non->b0A N H v 0 2
 | many {a:Addr} {xs:List V}:H a=some (.lst xs)->400<xs.length->b0A N H (.ref a) 3 400
 | at {a:Addr} {xs:List V} {k:Nat}:H a=some (.lst xs)->xs.length<=400->(∀y∈xs,∃s,G9 y H=some s)->(xs.map (blB N.length))[k]?=some false->(∀i,i<k->(xs.map (blB N.length))[i]?=some true)->b0A N H (.ref a) 1 (k:Int)
def d2a(ck:X6 K c)(hp:a1n c H x N rs)(hb:b0A N H v j n)(k:∀H',j5 H H'->Rz c.x j n H' E):a5N K c.x [.ref x,v,.int 2] H Q E:=by
 obtain⟨dx,fs,nn,r,h1,_,_,h4,h5,h6⟩:=hp.ex;refine⟨rfl,?_⟩;unfold a9G a9U
 ext
 refine⟨rfl,?_⟩
 have nv:v≠.non:=by
  cases hb with
  |no _ _ h=>exact h
  |many _ _=>exact λz=>by cases z
  |«at» _ _ _ _ _=>exact λz=>by cases z
 refine⟨_,rfl,C6 (by rw[d4D nv];rfl) ?_⟩
 nofun
 cases hb with
 |no h1 h2 _=>exact .inr (c1w (m:=0) ck.xn h1 h2 (k H (j5.refl _)))
 |many h1 h2=>exact .inr (b7N (m:=0) ck.xn h1 (by omega) h2 (k H (j5.refl _)))
 |@«at» a xs q ha hl ht hk hb=>
  refine .inl (a9N ha hl ?_)
  ext
  specialize Y9 (V8 ?_);refine⟨a,rfl,⟨_,SqL.of ha⟩,λD hD=>?_⟩;refine X5 (xs:=xs) (λi ys H2=>ys=((xs.take i).map λy=>V.bl (blB N.length y))/\H2 D=some (.lst ys)/\j5 H H2) ⟨rfl,c7,A2 hD⟩ ?_ ?_ ?_ ?_
  .rintro i ys H2 ⟨_,h,_⟩;exact h
  .rintro i ys H2 _ ⟨_,_,s2⟩;exact SqL.of (s2 _ _ ha)
  .rintro i y ys H2 hy ⟨rfl,hD2,s2⟩ R hR;obtain⟨st,hst⟩:=ht y (mI hy)
   ext
   specialize Q8 ?_;exists ⟨x,_,dx,fs,_,rfl,s2 _ _ h1,ck.N4,ck.P3,h4,?_⟩;exists O3 (s2 _ _ h5) ?_;rw[b8,h6];refine c1C (b8E hst s2) ?_;refine hR _ _ hD2 (L5 (by rw[b8,F7];omega)) ⟨?_,c7,λb o e=>?_⟩
   .rw[L3,hy,F8];rfl
   .rw[i9 (f6 e hD)];exact s2 _ _ e
  .rintro ys H2 ⟨rfl,hD2,s2⟩
   ext
   rw[M3]at hD2;refine .inr (d2d (bs:=xs.map (blB N.length)) ck.xn (by rw[R3];exact hD2) hk hb λH3 s3=>k H3 (s2.trans s3))
inductive OdD(H:Hp):V->Prop
 | no {v:V} {s:String}:G9 v H=some s->a5Z s "tuple"=false->OdD H v
 | len {p:Addr} {xs:List V}:H p=some (.tup xs)->xs.length≠3->OdD H (.ref p)
 | kd {p:Addr} {k a b:V}:H p=some (.tup [k,a,b])->T1 k=true->inV k [.str "plus",.str "minus",.str "times",.str "less",.str "same"]=false->OdD H (.ref p)
 | op {p:Addr} {k:Str} {a b:V}:H p=some (.tup [.str k,a,b])->Ty H a->Ty H b->(opB a&&opB b)=false->OdD H (.ref p)
def OdD.mv(h:OdD H v)(k:Kd H H'):OdD H' v:=by
 cases h with
 |no a b=>exact .no (k.2 _ _ a) b
 |len a b=>exact .len (k.1 _ _ a) b
 |kd a b d=>exact .kd (k.1 _ _ a) b d
 |op a b d e=>exact .op (k.1 _ _ a) (b.kd k) (d.kd k) e
def OdD.tells(ck:X6 K c)(h:OdD H v)(k:∀H',j5 H H'->Q (.bl false) H'):a0L K c [v] H Q E:=by
 cases h with
 |no a b=>exact c1B a b (k H (j5.refl _))
 |len a b=>exact b9J a b (k H (j5.refl _))
 |@kd p kk a b hp hf hk=>
  refine⟨rfl,?_⟩;unfold a5v
  nofun
  exists a3v (s:="tuple") (by simp only[G9,hp]) (by decide) ?_;exists z4 (by decide) ?_;exists a5S hp ?_;exists z4 (by simp) ?_;exists P0 hp (a2r _ _) ?_;refine⟨_,_,rfl,ck.a8b H,hf,by decide,?_⟩;rw[hk];refine⟨false,rfl,z4 rfl ?_⟩;exact k H (j5.refl _)
 |@op p kk a b hp ha hb ho=>exact c3N ck hp ha hb λH' s=>(by rw[ho,b8w];exact k H' s)
inductive b3E(N:Nt)(x dd:Addr)(H:Hp):V->V->V->Nat->Int->Prop
 | plan {v0 v1 v2:V} {s:String}:G9 v0 H=some s->b3E N x dd H v0 v1 v2 0 0
 | deed {v1 v2:V}:OdD H v1->b3E N x dd H (.ref x) v1 v2 0 1
 | held {v2:V} {j:Nat} {n:Int}:b0A N H v2 j n->j<4->b3E N x dd H (.ref x) (.ref dd) v2 j n
def b0A.same(h:b0A N H v j n)(t:j5 H H'):b0A N H' v j n:=by
 cases h with
 |no a b d=>exact .no (b8E a t) b d
 |many a b=>exact .many (t _ _ a) b
 |«at» a b d e f=>exact .at (t _ _ a) b (λy hy=>let⟨s,q⟩:=d y hy; ⟨s,b8E q t⟩) e f
def b3E.same(h:b3E N x dd H v0 v1 v2 j n)(t:j5 H H'):b3E N x dd H' v0 v1 v2 j n:=by
 cases h with
 |plan a=>exact .plan (b8E a t)
 |deed a=>exact .deed (a.mv (.same t))
 |held a b=>exact .held (a.same t) b
def c8k(ck:X6 K c)(hp:a1n c H x N rs)(hd:a4p H dd)(h:b3E N x dd H v0 v1 v2 j n)(k:∀H',j5 H H'->Rz c.x j n H' E):a4W K c c.x [.ref cx,v0,v1,v2] H Q E:=by
 obtain⟨dx,fs,nn,r,h1,_⟩:=hp.ex;have isP:∀R:VK,R (.bl true) H->c2n K [.ref x,.ref c.M5] H R:=λR h=>⟨.ref x,_,rfl,ck.b8s,.inl ⟨x,dx,fs,rfl,h1,h⟩⟩
 refine⟨rfl,?_⟩;unfold a8D a9U
 nofun
 cases h with
 |@plan _ _ _ s e=>
  exists (show c2n K [v0,.ref c.M5] H _ from⟨v0,_,rfl,ck.b8s,.inr ⟨s,e,ck.nk,?_⟩⟩);refine C6 rfl ?_;exact a8G (j:=0) ck.xn (by decide) (λR h=>h) (k H (j5.refl _))
 |deed hb=>
  exists isP _ ?_;exists z4 rfl ?_
  nofun
  exists hb.tells ck λH2 s2=>?_
  refine C6 rfl ?_;exact a8G (j:=0) ck.xn (by decide) (λR h=>h) (k H2 s2)
 |held hb _=>
  exists isP _ ?_;exists z4 rfl ?_
  nofun
  exists b0v ck hd λH2 s2=>?_
  exists z4 rfl ?_
  nofun
  exact .inr (d2a ck (hp.same s2) (hb.same s2) λH3 s3=>k H3 (s2.trans s3))
end
section
variable {K:Fg}{c:Cn}{e:Xn}{i1 i2:Nat}{n:Int}{x tp:Addr}{dx:Option Addr}{w:Str}
def c6X(h:b3D dx H)(s:j5 H H'):b3D dx H':=λd e=>let⟨fs,q⟩:=h d e; ⟨fs,s _ _ q⟩
def c4J(ck:b3C K e)(hj:j<5)(hi:i<5)(hx:b3D dx H)(hs:σ[2]?=some (some (.ref x)))(k:QB (decide (j=i)) H):c6Z K x (e.at j) dx (.ref (e.at i)) σ H QB:=
 c3l (c0T (G0 (M7 hs (G0 (s_c (X3 (show qX K x (e.at j) dx [.ref x,.ref (e.at i)] H _ from⟨hx,.ref (e.at i),.ref (e.at i),_,rfl,rfl,ck.kit j i hj hi,λu r=>r,ck.xi j hj,_,rfl,k⟩)))))))
def d1s(ck:b3C K e)(hj:j<5)(hx:b3D dx H)(hs:σ[2]?=some (some (.ref x)))(k:QB true H):c6Z K x (e.at j) dx (.ty "ValueError") σ H QB:=
 c3l (c0T (G0 (M7 hs (G0 (s_c (X3 (show qX K x (e.at j) dx [.ref x,.ty "ValueError"] H _ from⟨hx,.ty "ValueError",.type "ValueError",_,rfl,rfl,ck.ve j hj,λu r=>r,ck.xi j hj,_,rfl,k⟩)))))))
def c4I(ck:b3C K e)(hj:j<5)(h1:i1<5)(h2:i2<5)(hx:b3D dx H)(hs:σ[2]?=some (some (.ref x)))(k:∀H',j5 H H'->QB (decide (j=i1)||decide (j=i2)) H'):c9x K x (e.at j) dx (e.at i1) (e.at i2) σ H QB:=by
 refine c3l (c0T (G0 (M7 hs (G0 (b8Y (G0 (s_c (G0 (s_c (X3 (E4 (by simp) λtp H1 htp t1 q1=>?_)))))))))));refine X3 (show qXT K x (e.at j) dx [.ref x,.ref tp] H1 _ from⟨c6X hx q1,tp,[e.at i1,e.at i2],decide (j=i1)||decide (j=i2),rfl,t1,?_,ck.xi j hj,_,rfl,k H1 q1⟩);have e1:=ck.kit j i1 hj h1;have e2:=ck.kit j i2 hj h2;simp only[J7,b3S,PySem.W.kitAny,e1,e2];cases decide (j=i1) <;> cases decide (j=i2) <;> rfl
def b2a(ck:b3C K e)(hj:j<5)(hi:i<5)(hx:b3D dx H)(hs:σ[2]?=some (some (.ref x)))(ne:j≠i)(k:D.nx σ H):c4Q K x (e.at j) dx (e.at i) (e.at i1) (e.at i2) w f D σ H:=
 b3o (c2k (c4J ck hj hi hx hs (z4 (d4D ne) (z4 rfl (a4v k)))))
def b7j(ck:b3C K e)(hj:j<5)(h1:i1<5)(h2:i2<5)(n1:j≠i1)(n2:j≠i2)(hd:H d=some (.xd [(c3R j,.int n)]))(hs:σ[2]?=some (some (.ref x)))
  (k:∀p H',j5 H H'->H' p=some (.tup [.str w,.int n])->D.nx (σ.set 1 (some (.ref p))) H'):c4Q K x (e.at j) (some d) (e.at j) (e.at i1) (e.at i2) w (c3R j) D σ H:=by
 have hx:b3D (some d) H:=λd' q=>by cases q;exact⟨_,hd⟩
 refine b3o (c2k (c4J ck hj hj hx hs (C6 (d4E rfl) (c5b (c4I ck hj h1 h2 hx hs λH1 s1=>?_)))));refine C6 (by rw[d4D n1,d4D n2];rfl) ?_;refine b1c (b8Y (G0 (s_c (G0 ?_))));refine⟨.ref x,hs,rfl,d,_,.int n,rfl,s1 _ _ hd,by simp[W0],ck.xi j hj,ck.na j hj,X3 ?_⟩;exact E4 (by simp) λp H2 _ e2 s2=>b1b (k p H2 (s1.trans s2) e2)
def wdJ:Nat->Str
 |0 => "wrong"
 |1 => "nothing"
 |_ => "many"
def c2T{y0 y1:Option V}(ck:b3C K e)(hj:j=0\/j=1\/j=3)(hd:H d=some (.xd [(c3R j,.int n)]))
  (k:∀p H',j5 H H'->H' p=some (.tup [.str (wdJ j),.int n])->D.nx [y0,some (.ref p),some (.ref x)] H'):b0M K e x (e.at j) (some d) D [y0,y1,some (.ref x)] H:=by
 have hx:∀ {H'},j5 H H'->b3D (some d) H':=λs d' q=>by cases q;exact⟨_,s _ _ hd⟩
 have h5:j<5:=by omega
 unfold b0M
 nofun
 exists E4 (by simp) λp1 H1 _ e1 s1=>?_
 exact_mod_cast L4 ?_;exact_mod_cast b3o (b8Z ?_);refine c4I (i1:=4) (i2:=2) ck h5 (by decide) (by decide) (hx s1) rfl λH2 s2=>?_
 have s02:=s1.trans s2;refine z4 (by rcases hj with rfl | rfl | rfl <;> rfl) ?_;refine c5b (d1s ck h5 (hx s02) rfl ?_);refine z4 rfl (a4v ?_);exact_mod_cast L4 ?_;rcases hj with rfl | rfl | rfl
 .refine b7j (j:=0) (i1:=1) (i2:=3) ck h5 (by decide) (by decide) (by decide) (by decide) (s02 _ _ hd) rfl λp H3 s3 e3=>?_
  exact_mod_cast L4 ?_;refine b2a (j:=0) (i:=1) (i1:=0) (i2:=3) ck h5 (by decide) (hx (s02.trans s3)) rfl (by decide) ?_;exact b2a (j:=0) (i:=3) (i1:=0) (i2:=1) ck h5 (by decide) (hx (s02.trans s3)) rfl (by decide) (k p H3 (s02.trans s3) e3)
 .refine b2a (j:=1) (i:=0) (i1:=1) (i2:=3) ck h5 (by decide) (hx s02) rfl (by decide) ?_;exact_mod_cast L4 ?_;refine b7j (j:=1) (i1:=0) (i2:=3) ck h5 (by decide) (by decide) (by decide) (by decide) (s02 _ _ hd) rfl λp H3 s3 e3=>?_
  exact b2a (j:=1) (i:=3) (i1:=0) (i2:=1) ck h5 (by decide) (hx (s02.trans s3)) rfl (by decide) (k p H3 (s02.trans s3) e3)
 .refine b2a (j:=3) (i:=0) (i1:=1) (i2:=3) ck h5 (by decide) (hx s02) rfl (by decide) ?_;exact_mod_cast L4 ?_;refine b2a (j:=3) (i:=1) (i1:=0) (i2:=3) ck h5 (by decide) (hx s02) rfl (by decide) ?_;exact b7j (j:=3) (i1:=0) (i2:=1) ck h5 (by decide) (by decide) (by decide) (by decide) (s02 _ _ hd) rfl λp H3 s3 e3=>k p H3 (s02.trans s3) e3
def b3E.js(h:b3E N x dd H v0 v1 v2 j n):j=0\/j=1\/j=3:=by
 cases h with
 |plan _=>exact .inl rfl
 |deed _=>exact .inl rfl
 |held h=>cases h with
  |no _ _ _=>exact .inl rfl
  |many _ _=>exact .inr (.inr rfl)
  |«at» _ _ _ _ _=>exact .inr (.inl rfl)
def b1e(ha:H a=some (.lst [v0,v1,v2]))
  (hm:∀(H1:Hp) (Q:VK) (E:XK) (cx dx:Addr),j5 H H1->H1 cx=none->H1 dx=none->(∀H2,j5 H1 H2->(j=9->Q .non H2))->(j≠9->∀H2,j5 H1 H2->Rz c.x j n H2 E)->a3c K c c.x [.ref cx,v0,v1,v2] (upd (upd H1 dx (.own cx)) cx (.ins c.v6 dx [])) Q E) (ck:X6 K c) (hj:j=9\/j=0\/j=1\/j=3) (h9:j=9->n=0)
  (k:∀p H',H' p=some (.tup [.str (if j=9 then "taken" else wdJ j),.int n])->j5 H H'->Q (.ref p) H'):Y6 K c [.ref a] H Q E:=by
 refine⟨rfl,?_⟩;unfold b6n
 nofun
 exists E4 (by simp) λp1 H1 _ e1 s1=>?_
 exact_mod_cast a4n (P:=λσ H2=>∃p x2,σ=[some (.ref a),some (.ref p),x2]/\H2 p=some (.tup [.str (if j=9 then "taken" else wdJ j),.int n])/\j5 H H2) ?_ ?_
 rotate_left
 .intro nx hnx;unfold c2e Y1 b6Y;have ha1:=s1 _ _ ha
  ext
  exists M0 ha1 (a2r _ _) ?_;exists M0 ha1 (a7k _ _ _) ?_;exists M0 ha1 (b6g _ _ _ _) ?_;intro cx dx hcx hdx hne;refine hm H1 _ _ cx dx s1 hcx hdx (λH2 s2 z=>⟨rfl,?_⟩) (λz H2 s2 d H3 hd s3=>?_)
  .subst z;cases h9 rfl;exact hnx _ _ ⟨p1,_,rfl,s2 _ _ e1,s1.trans s2⟩
  .have h3:j=0\/j=1\/j=3:=hj.resolve_left z;have s03:=(s1.trans s2).trans s3;refine⟨_,rfl,ck.xn.up j (by omega),λy hy=>?_⟩;refine c2T ck.xn h3 hd λp H4 s4 e4=>?_
   rw[if_neg z]at hnx;exact hnx _ _ ⟨p,_,rfl,e4,s03.trans s4⟩
 rintro _ H2 ⟨p,x2,rfl,e2,s2⟩
 nofun
 exists P0 e2 (a7k _ _ _) ?_;exists ⟨rfl,c5Z ?_⟩;exists z4 rfl ?_;exact k p H2 e2 s2
end
section
variable {K:Fg}{c:Cn}{P:Hp->V->Prop}
def FlE(σ:St)(te:TE)(v:V):Prop:=∀(H:Hp) (Q:VK),Q v H->te σ H Q
def FlA(σ:St)(tr:TA)(xs:List V):Prop:=∀(H:Hp) (QA:List V->Hp->Prop),QA xs H->tr σ H QA
def b3y:FlE σ (tC v) v:=λ_ _ h=>h
def d3e(h:σ[n]?=some (some v)):FlE σ (b4 n) v:=λ_ _ q=>⟨v,h,q⟩
def d2c:FlE σ (tUn (rU λi=>.int (-i)) (tC (.int 1))) (.int (-1)):=λ_ _ h=>⟨1,rfl,h⟩
def b7T:FlA σ i8 []:=λ_ _ h=>h
def b3P(a:FlE σ te v)(b:FlA σ tr xs):FlA σ (a9 te tr) (v::xs):=λ_ _ h=>a _ _ (b _ _ h)
def MkE(H0:Hp)(P:Hp->V->Prop)(σ:St)(te:TE):Prop:=∀(H:Hp) (Q:VK),j5 H0 H->(∀v H',j5 H H'->P H' v->Q v H')->te σ H Q
def MkA(H0:Hp)(P:Hp->V->Prop)(σ:St)(tr:TA)(n:Nat):Prop:=∀(H:Hp) (QA:List V->Hp->Prop),j5 H0 H->(∀vs H',vs.length=n->j5 H H'->(∀v∈vs,P H' v)->QA vs H')->tr σ H QA
def Stb(P:Hp->V->Prop):Prop:=∀H H' v,j5 H H'->P H v->P H' v
def c5P:MkA H0 P σ i8 0:=λH QA _ k=>k [] H rfl (j5.refl _) (by simp)
def Y2(st:Stb P)(a:MkE H0 P σ te)(b:MkA H0 P σ tr n):MkA H0 P σ (a9 te tr) (n+1):=λH QA s k=>
 a H _ s λv H1 s1 p1=>b H1 _ (s.trans s1) λvs H2 l s2 p2=>k _ H2 (by rw[D4,l]) (s1.trans s2) λx hx=>(t8.mp hx).elim (λz=>z ▸ st _ _ _ s2 p1) (p2 x)
def c9e(a:FlE σ te v)(h:∀H,P H v):MkE H0 P σ te:=λH Q _ k=>a H Q (k v H (j5.refl _) (h H))
def c5Q{t:TA->TE}{o:List V->HO}(ht:∀(ta:TA) (H:Hp) (Q:VK),(ta σ H λys H1=>New (o ys) ys.length H1 Q)->t ta σ H Q)(a:FlA σ tr xs)(hl:xs.length<=100)(h:∀H p H',j5 H0 H->H p=none->H' p=some (o xs)->P H' (.ref p)):MkE H0 P σ (t tr):=λH Q s k=>
 ht tr H Q (a H _ (E4 (by omega) λp H' hp e s'=>k _ H' s' (h H p H' s hp e)))
def c5O(a:FlA σ tr xs)(hl:xs.length<=100)(h:∀H p H',j5 H0 H->H p=none->H' p=some (.tup xs)->P H' (.ref p)):MkE H0 P σ (W4 tr):=c5Q (t:=W4) (o:=.tup) (λ_ _ _ h=>h) a hl h
def c5R(a:FlA σ tr xs)(hl:xs.length<=100)(h:∀H p H',j5 H0 H->H p=none->H' p=some (.lst xs)->P H' (.ref p)):MkE H0 P σ (a0x tr):=c5Q (t:=a0x) (o:=.lst) (λ_ _ _ h=>h) a hl h
def c2t(st:Stb P)(a:MkA H0 P σ tr n)(hn:n<=100)(s:j5 H0 H)(k:∀l vs H',H l=none->H' l=some (.lst vs)->vs.length=n->(∀v∈vs,P H' v)->j5 H H'->Q (.ref l) H'):a0x tr σ H Q:=by
 exact_mod_cast c8P ?_;refine a H _ s λvs H1 l s1 p1=>E4 (by omega) λp H2 hp e s2=>?_
 exact k p vs H2 (s1.free hp) e l (λv hv=>st _ _ _ s2 (p1 v hv)) (s1.trans s2)
end
section
variable {K:Fg}{c:Cn}{m:Nat}{n:Int}{x b:Addr}{Sp:Nat->Bool}{TN TM:TE}
def b2W(ck:X6 K c)(hp:a1n c H x N rs)(hd:a4p H dd)(ha:H a=some (.lst [v0,v1,v2]))(h:b3E N x dd H v0 v1 v2 j n)(k:∀p H',H' p=some (.tup [.str (wdJ j),.int n])->j5 H H'->Q (.ref p) H'):Y6 K c [.ref a] H Q E:=by
 have hj:=h.js;have n9:j≠9:=by omega
 refine b1e (j:=j) (n:=n) ha (λH1 Q E cx dx s1 hcx hdx _ r=>?_) ck (.inr hj) (λz=>absurd z n9) (by rw[if_neg n9];exact k);have sm:j5 H1 (upd (upd H1 dx (.own cx)) cx (.ins c.v6 dx [])):=λb o e=>by rw[i9 (f6 e hcx),i9 (f6 e hdx)];exact e
 have s:=s1.trans sm;exact .inr (c8k ck (hp.same s) (hd.ts (j5.ts s)) (h.same s) λH2 s2=>r n9 H2 (sm.trans s2))
def b7p(ck:X6 K c)(hp:a1n c H x N rs)(hq:a6d c H x N rs)(hz:a0z K c H x N)(hv:a0i N)(hd:a0H H dd ds)(hn:a4p H dd)(hs:a5t H rs ds Do Sp)(hl:Hld H v2 L)(lL:L.length<=400)(hL:∀t∈L,t<N.length)(ha:H a=some (.lst [.ref x,.ref dd,v2]))
  (k:∀p H',H' p=some (.tup [.str "taken",.int 0])->j5 H H'->Q (.ref p) H'):Y6 K c [.ref a] H Q E:=by
 refine b1e (j:=9) (n:=0) ha (λH1 Q E cx dx s1 hcx hdx r _=>.inl ?_) ck (.inl rfl) (λ_=>rfl) (by rw[if_pos rfl];exact k);have t1:=j5.ts s1;exact a4e ck (hp.same s1) (hq.same s1) (hz.same s1) hv (hd.ts t1) (hn.ts t1) (hs.ts t1) (hl.same s1) lL hL hcx hdx λH2 B F G _ _ _ s2=>r H2 s2 rfl
def b9N{ib lo:Nat}(m0:0<m)(hm:m<=400)(hB:Bag H b d)(hb:σ[ib]?=some (some (.ref b)))
  (hN:∀R:VK,(∀(q:Nat) H',lo<=q->q<=9->Bag H' b d->D0 b H H'->R (.int (q:Int)) H')->TN σ H R) (hM:∀(y:Option V) (H':Hp) (R:VK),D0 b H H'->R (.int (m:Int)) H'->TM (y::σ) H' R)
  (k:∀D L H',H D=none->H' D=some (.lst (IL L))->lo<=L.length->L.length<=9->(∀t∈L,t<m)->Bag H' b d->D0 b H H'->Q (.ref D) H') :
  V6 (a4o (a9 TN i8)) Z2 (z7 (E1 K) [] E0 (a9 (b4 (ib+1)) (a9 TM i8))) σ H Q:=by
 exact_mod_cast Y9 (a3K (G0 ?_));refine hN _ λq H1 lq q9 B1 k1=>X3 ⟨(q:Int),rfl,by omega,by omega,λD hD=>?_⟩
 obtain⟨nb,nd⟩:=B1.nb hD;rw[C9];have hD0:=k1.none hD;refine b1w (λi ys H2=>∃L:List Nat,ys=IL L/\L.length=i/\(∀t∈L,t<m)/\H2 D=some (.lst ys)/\Bag H2 b d/\D0 b H H2) ⟨[],rfl,rfl,by simp,c7,B1.new hD,k1.put hD0⟩ ?_ ?_ ?_
 .rintro i ys H2 ⟨_,_,_,_,h,_⟩;exact h
 .rintro i _ H2 hi ⟨L,rfl,lL,hL,hD2,B2,k2⟩ R hR;refine a4Z (G0 (M7 (by rw[c1V];exact hb) (G0 (hM _ _ _ k2 (X3 ?_)))));refine J3 B2 (by omega) (by omega) λt H3 a0 a1 B3 k3=>?_
  refine hR _ _ (k3.1 _ _ hD2 nb) (L5 (by rw[J9];omega)) ⟨L++[t.toNat],?_,by simp[lL],λu hu=>?_,c7,B3.put nb nd,(k2.trans k3).put hD0⟩
  .unfold IL;rw[F8];simp[c6S a0]
  .rcases v7.mp hu with h | h
   .exact hL u h
   .rw[l7.mp h];omega
 .rintro _ H2 ⟨L,rfl,lL,hL,hD2,B2,k2⟩;exact k D L H2 hD0 hD2 (by omega) (by omega) hL B2 k2
def OdE(m:Int)(H:Hp)(v:V):Prop:=(∃s,G9 v H=some s)/\blB m v=false
def OdO(H:Hp)(v:V):Prop:=Ty H v/\opB v=false
def OdE.kd{m:Int}(h:OdE m H v)(k:Kd H H'):OdE m H' v:=⟨let⟨s,q⟩:=h.1; ⟨s,k.2 _ _ q⟩,h.2⟩
def OdO.kd(h:OdO H v)(k:Kd H H'):OdO H' v:=⟨h.1.kd k,h.2⟩
def a6O{m:Int}:Stb (OdE m):=λ_ _ _ s h=>h.kd (.same s)
def a5g:Stb OdO:=λ_ _ _ s h=>h.kd (.same s)
def b0t{m:Int}(a:FlE σ te v)(h:blB m v=false)(hf:T1 v=true):MkE H0 (OdE m) σ te:=c9e a λ_=>⟨(by cases v <;> first | exact⟨_,rfl⟩ | cases hf),h⟩
def c5J(a:FlE σ te v)(h:opB v=false)(hf:T1 v=true)(hl:∀z,v=.str z->z.length<=100000):MkE H0 OdO σ te:=c9e a λ_=>⟨⟨(by cases v <;> first | exact⟨_,rfl⟩ | cases hf),hl⟩,h⟩
def b9h{P:Hp->V->Prop}{l:Addr}{vs:List V}{q:Nat}{ib:Nat}{tl:TE}(hB:Bag H b d)(hl:H l=some (.lst vs))(nl:l≠b)(lv:vs.length=q)(q0:0<q)(q9:q<=400)(hp:∀v∈vs,P H v)(hk:∀(H':Hp) v,Bag H' b d->D0 b H H'->P H v->P H' v)(hb:σ[ib]?=some (some (.ref b)))(htl:∀R:VK,R (.ref l) H->tl σ H R)
  (k:∀v H',P H' v->Bag H' b d->D0 b H H'->Q v H'):tOp qIx tl (z7 (E1 K) [] E0 (a9 (b4 ib) (a9 (tC (.int (q:Int))) i8))) σ H Q:=by
 refine b2f (htl _ (a4Z (G0 (M7 hb (G0 (s_c (X3 ?_)))))));refine J3 hB (by omega) (by omega) λt H1 a0 a1 B1 k1=>?_
 obtain⟨w,w1,w2⟩:=a2S (xs:=vs) a0 (by omega);exact M0 (k1.1 _ _ hl nl) w1 (k w H1 (hk H1 w B1 k1 (hp w (mI w2))) B1 k1)
end
section
variable {K:Fg}{c:Cn}{q:Nat}{n:Int}{x b:Addr}{w:V}{R:Hp->Prop}
def b7q(h:H p=some (.lst xs))(hn:q<xs.length)(k:R (upd H p (.lst (xs.set q v)))):b2j (.ref p) (.int (q:Int)) v H R:=by
 exact b9c h (by unfold ixN;rw[if_pos (by omega),if_pos (by omega)];simp) k
def c8V{k:Int}(hp:H p=some (.lst xs))(h0:0<=k)(h1:k<100000)(hl:xs.length * k.toNat<=100000)(h:∀l H',H l=none->H' l=some (.lst (p8 k.toNat xs).flatten)->j5 H H'->Q (.ref l) H'):c7m (.ref p) (.int k) H Q:=
 ⟨p,k,xs,rfl,rfl,hp,by omega,by omega,small hl,λl hl=>h l _ hl c7 (A2 hl)⟩
def c2m(k:Nat)(x:V):(p8 k [x]).flatten=p8 k x:=by
 induction k with
 |zero=>rfl
 |succ k ih=>rw[a0l,a0l,a4M,ih];rfl
def d0P(k:∀d H',H d=none->H' d=some (.dK [(Sum.inl 0,.int 1)])->j5 H H'->Q (.ref d) H'):b6s ((tC (.int 0),tC (.int 1))::[]) σ H Q:=by
 intro d hd;refine⟨c7,[(Sum.inl 0,.int 1)],rfl,by simp,?_⟩;have e:(upd (upd H d (.dK [])) d (.dK (a8O [] [(Sum.inl 0,V.int 1)])))=upd H d (.dK [(Sum.inl 0,.int 1)]):=by rw[b0J];rfl
 rw[e];exact k d _ hd c7 (A2 hd)
def b5z(m:Int)(q:Nat)(xs:List V)(H:Hp):Prop:=xs.length<=10/\(∀y∈xs,∃s,G9 y H=some s)/\(xs.map (blB m))[q]?=some false/\∀i,i<q->(xs.map (blB m))[i]?=some true
def b5z.kd(h:b5z m q xs H)(k:Kd H H'):b5z m q xs H':=⟨h.1,λy hy=>let⟨s,e⟩:=h.2.1 y hy; ⟨s,k.2 _ _ e⟩,h.2.2⟩
def b5z.set(hL:∀t∈L,(t:Int)<m)(l9:L.length<=9)(hq:q<L.length)(hw:OdE m H w):b5z m q ((IL L).set q w) H:=by
 have hl:q<(IL L).length:=by rw[J9];exact hq
 refine⟨by rw[a0Y,J9];omega,λy hy=>?_,?_,λi hi=>?_⟩
 .rcases List.mem_or_eq_of_mem_set hy with h | h
  .obtain⟨t,_,rfl⟩:=F5.mp h;exact⟨_,rfl⟩
  .rw[h];exact hw.1
 .rw[b6,M6 hl];exact congrArg some hw.2
 .rw[b6,O2 (by omega)];have e:L[i]?=some L[i]:=c8 (by omega);unfold IL;rw[b6,e];have:=hL _ (mI e);simp[blB,this]
def b5z.app(h:b5z m q xs H)(l9:xs.length<=9)(hw:OdE m H w):b5z m q (xs++[w]) H:=by
 obtain⟨h1,h2,h3,h4⟩:=h;have hq:q<(xs.map (blB m)).length:=(gI h3);refine⟨by simp;omega,λy hy=>?_,?_,λi hi=>?_⟩
 .rcases v7.mp hy with h | h
  .exact h2 y h
  .rw[l7.mp h];exact hw.1
 .rw[F8,o5 hq];exact h3
 .rw[F8,o5 (by omega)];exact h4 i hi
def c0b(hB:Bag H b d)(pos:0<N.length)(h400:N.length<=400)
  (k:∀r v u H' j n,H' r=some (.tup [v,.ref u])->H' u=some (.tup [.str (wdJ j),.int n])->b0A N H' v j n->j<4->(∀p,H p≠none->v≠.ref p)->Bag H' b d->D0 b H H'->Q (.ref r) H'):a6p K [.ref b,.int (N.length:Int)] H Q E:=by
 refine⟨rfl,?_⟩;unfold b4e
 nofun
 exists J3 hB (by decide) (by decide) λw H1 w0 w1 B1 k1=>?_
 nofun
 refine a0y (λ_=>?_) (λn0=>?_)
 .ext
  exists E4 (by simp) λp1 H2 hp1 e1 s1=>?_
  exists E4 (by simp) λp2 H3 hp2 e2 s2=>?_
  refine E4 (by simp) λp3 H4 hp3 e3 s3=>?_
  have s24:=s2.trans s3;exact k p3 (.ref p1) p2 H4 0 2 e3 (s3 _ _ e2) (.no (s:="tuple") (by simp only[G9,s24 _ _ e1]) (by decide) (by intro z;cases z)) (by decide) (λp hp z=>by cases z;exact hp (k1.none hp1)) (B1.same (s1.trans s24)) (k1.trans (D0.of_same (s1.trans s24)))
 ext
 nofun
 refine a0y (λ_=>?_) (λn1=>?_)
 .ext
  exists d0P λp1 H2 hp1 e1 s1=>?_
  exists E4 (by simp) λp2 H3 hp2 e2 s2=>?_
  have B3:=B1.same (s1.trans s2);refine J3 B3 (by decide) (by decide) λt H4 a0 a1 B4 k4=>?_
  obtain⟨y,y1,y2⟩:=a2S (xs:=[V.int 0,.str "held",.bl true,.ref p1]) a0 (by simpa using a1)
  ext
  exists M0 (k4.1 _ _ e2 ((B1.same s1).nb hp2).1) y1 ?_;exists E4 (by simp) λp3 H5 hp3 e3 s3=>?_
  refine E4 (by simp) λp4 H6 hp4 e4 s4=>?_
  have s46:=s3.trans s4;have np1:p1≠b:=(B1.nb hp1).1
  have hy:(∃s,G9 y H6=some s/\a5Z s "list"=false)/\y≠.non/\∀p,H p≠none->y≠.ref p:=by
   have my:=mI y2;simp only[t8,G8,or_false]at my;rcases my with rfl | rfl | rfl | rfl
   .exact⟨⟨"int",rfl,by decide⟩,(by intro z;cases z),λp _ z=>by cases z⟩
   .exact⟨⟨"str",rfl,by decide⟩,(by intro z;cases z),λp _ z=>by cases z⟩
   .exact⟨⟨"bool",rfl,by decide⟩,(by intro z;cases z),λp _ z=>by cases z⟩
   .exact⟨⟨"dict",by simp only[G9,s46 _ _ (k4.1 _ _ (s2 _ _ e1) np1)],by decide⟩,(by intro z;cases z),λp hp z=>by cases z;exact hp (k1.none hp1)⟩
  obtain⟨⟨st,g1,g2⟩,g3,g4⟩:=hy;exact k p4 y p3 H6 0 2 e4 (s4 _ _ e3) (.no g1 g2 g3) (by decide) g4 (B4.same s46) (((k1.trans (D0.of_same (s1.trans s2))).trans k4).trans (D0.of_same s46))
 ext
 nofun
 refine a0y (λ_=>?_) (λn2=>?_)
 .ext
  exists E4 (by simp) λp1 H2 hp1 e1 s1=>?_
  have B2:=B1.same s1;refine J3 B2 (by decide) (by decide) λt H3 a0 a1 B3 k3=>?_
  obtain⟨y,y1,y2⟩:=a2S (xs:=[V.int 0,.non]) a0 (by simpa using a1)
  ext
  exists M0 (k3.1 _ _ e1 (B1.nb hp1).1) y1 ?_;exists E4 (by simp) λp2 H4 hp2 e2 s2=>?_
  have B4:=B3.same s2;exists J3 B4 (by decide) (by decide) λu H5 b0 b1 B5 k5=>?_
  exists c8V (k5.1 _ _ e2 (B3.nb hp2).1) (by omega) (by omega) (by simp;omega) λl H6 hl el s6=>?_
  exists E4 (by simp) λp3 H7 hp3 e3 s7=>?_
  refine E4 (by simp) λp4 H8 hp4 e4 s8=>?_
  have s78:=s7.trans s8;have k6:=(((k1.trans (D0.of_same s1)).trans k3).trans (D0.of_same s2)).trans k5;rw[c2m]at el;exact k p4 (.ref l) p3 H8 3 400 e4 (s8 _ _ e3) (.many (s78 _ _ el) (by rw[A8];omega)) (by decide) (λp hp z=>by cases z;exact hp (k6.none hl)) (B5.same (s6.trans s78)) (k6.trans (D0.of_same (s6.trans s78)))
 ext
 exact_mod_cast L4 ?_;refine b9N (ib:=0) (lo:=1) (m:=N.length) pos h400 B1 rfl (λR h=>?_) (λy H' R _ h=>M7 rfl h) λD L H2 hD e2 l1 l9 hL B2 k2=>?_
 .refine b2f (s_c (a4Z (G0 (M7 rfl (G0 (s_c (X3 ?_)))))));refine J3 B1 (by decide) (by decide) λt H' a0 a1 B k=>c5n ?_
  have e:(1:Int)+t=((1+t.toNat:Nat):Int):=by omega
  rw[e];exact h _ _ (by omega) (by omega) B k
 obtain⟨nDb,nDd⟩:=B1.nb hD
 nofun
 exists O3 e2 ?_;rw[J9];refine J3 B2 (by omega) (by omega) λt1 H3 a0 a1 B3 k3=>?_
 obtain⟨t,rfl⟩:∃t:Nat,t1=(t:Int):=⟨t1.toNat,by omega⟩
 ext
 have e3:=k3.1 _ _ e2 nDb;exact_mod_cast L4 ?_;exact_mod_cast b1c ?_
 refine c2t (H0:=H3) (P:=OdE N.length) a6O (Y2 a6O (b0t d2c rfl rfl) (Y2 a6O (b0t (v:=.int (N.length:Int)) (d3e rfl) (by simp[blB]) rfl) (Y2 a6O (b0t (v:=.int ((N.length:Int)+1)) (λH Q h=>b2f (M7 rfl (s_c (c5n h)))) (by simp[blB];omega) rfl) (Y2 a6O (b0t b3y rfl rfl) (Y2 a6O (b0t b3y rfl rfl) (Y2 a6O (b0t b3y rfl rfl) (Y2 a6O (b0t b3y rfl rfl)
  (Y2 a6O (c5O (b3P b3y b7T) (by simp) λH p H' _ _ e=>⟨⟨"tuple",by simp only[G9,e]⟩,rfl⟩) (Y2 a6O (c5R (b3P b3y b7T) (by simp) λH p H' _ _ e=>⟨⟨"list",by simp only[G9,e]⟩,rfl⟩) c5P))))))))) (by decide) (j5.refl _) λod vs H4 hod e4 lv pv s4=>?_
 ext
 have B4:=B3.same s4;have nob:=(B3.nb hod).1;have hk:∀ {G:Hp},Bag G b d->∀(H':Hp) v,Bag H' b d->D0 b G H'->OdE N.length G v->OdE N.length H' v:=λBG H' v B' k' h=>h.kd (.kept BG B' k')
 exact_mod_cast L4 ?_;exact_mod_cast b1c ?_;exists b9h (ib:=0) (q:=9) B4 e4 nob lv (by decide) (by decide) pv (hk B4) rfl (λR h=>M7 rfl h) λy H5 py B5 k5=>?_
 have e5:=k5.1 _ _ (s4 _ _ e3) nDb;have k15:=((k2.trans k3).trans (D0.of_same s4)).trans k5;refine b7q e5 (by rw[J9];omega) ?_;have bl:b5z N.length t ((IL L).set t y) (upd H5 D (.lst ((IL L).set t y))):=(b5z.set (λt ht=>by have:=hL t ht;omega) l9 (by omega) py).kd (.put e5);have k16:D0 b H1 (upd H5 D (.lst ((IL L).set t y))):=k15.put hD
 have od6:upd H5 D (.lst ((IL L).set t y)) od=some (.lst vs):=by
  rw[i9 (f6 (k3.1 _ _ e2 nDb) hod).symm];exact k5.1 _ _ e4 nob
 have pv6:∀v∈vs,OdE N.length (upd H5 D (.lst ((IL L).set t y))) v:=λv hv=>((pv v hv).kd (.kept B4 B5 k5)).kd (.put e5)
 have B6:Bag (upd H5 D (.lst ((IL L).set t y))) b d:=B5.put nDb nDd;have e6:upd H5 D (.lst ((IL L).set t y)) D=some (.lst ((IL L).set t y)):=c7;have l6:((IL L).set t y).length<=9:=by rw[a0Y,J9];exact l9
 generalize upd H5 D (.lst ((IL L).set t y))=H6 at bl k16 od6 pv6 B6 e6;generalize (IL L).set t y=xs at bl e6 l6
 have fin:∀(ys:List V) (H7:Hp),b5z N.length t ys H7->H7 D=some (.lst ys)->Bag H7 b d->D0 b H1 H7->K7 (W4 (a9 (b4 3) (a9 (W4 (a9 (tC (.str "nothing")) (a9 (b4 4) i8))) i8))) { nx:=λ_ H'=>Q .non H',rt:=Q } [some (.ref b),some (.int (N.length:Int)),some (.int w),some (.ref D),some (.int (t:Int)),some (.ref od)] H7:=λys H7 bl7 e7 B7 k7=>by
  ext
  exists E4 (by simp) λp1 H8 hp1 g1 s8=>?_
  refine E4 (by simp) λp2 H9 hp2 g2 s9=>?_
  have s79:=s8.trans s9;obtain⟨c1,c2,c3,c4⟩:=bl7.kd (.same s79);exact k p2 (.ref D) p1 H9 1 t g2 (s9 _ _ g1) (.at (s79 _ _ e7) (by omega) c2 c3 c4) (by decide) (λp hp z=>by cases z;exact hp (k1.none hD)) (B7.same s79) ((k1.trans k7).trans (D0.of_same s79))
 nofun
 exists J3 B6 (by decide) (by decide) λz H7 _ _ B7 k7=>?_
 have e7:=k7.1 _ _ e6 nDb;have bl7:=bl.kd (.kept B6 B7 k7);refine a0y (λ_=>?_) (λ_=>?_)
 .exact_mod_cast b7m ?_;specialize a9s ?_;refine⟨a0E e7,?_⟩;exact_mod_cast G0 ?_;exists b9h (ib:=0) (q:=9) B7 (k7.1 _ _ od6 nob) nob lv (by decide) (by decide) (λv hv=>(pv6 v hv).kd (.kept B6 B7 k7)) (hk B7) rfl (λR h=>M7 rfl h) λy H8 py B8 k8=>?_
  have e8:=k8.1 _ _ e7 nDb;refine a1h e8 (L5 (by omega)) ?_;exact fin _ _ (((bl7.kd (.kept B7 B8 k8)).app l6 py).kd (.put e8)) c7 (B8.put nDb nDd) (((k16.trans k7).trans k8).put hD)
 .exact_mod_cast a4v ?_;exact fin _ _ bl7 e7 B7 (k16.trans k7)
end
section
variable {K:Fg}{c:Cn}{b:Addr}
def OpN.ty(h:OpN v):Ty H v:=by
 rcases h with ⟨s,rfl,hs⟩ | ⟨n,rfl,_⟩
 .refine⟨⟨_,rfl⟩,λz e=>?_⟩;cases e;have:=hs.2;omega
 .exact⟨⟨_,rfl⟩,λz e=>(by cases e)⟩
def c0c(hB:Bag H b d)(hd:a4p H dd)(k:∀v H',OdD H' v->Bag H' b d->D0 b H H'->Q v H'):a6q K [.ref b,.ref dd] H Q E:=by
 obtain⟨kk,v1,v2,hdd,o1,o2,_⟩:=hd;refine⟨rfl,?_⟩;unfold b4f
 nofun
 refine J3 hB (by decide) (by decide) λw H1 w0 w1 B1 k1=>?_
 have e1:=k1.ts hB _ _ hdd
 ext
 nofun
 refine a0y (λ_=>?_) (λn0=>?_)
 .ext
  exists b4u λp1 H2 hp1 g1 s1=>?_
  exists E4 (by simp) λp2 H3 hp2 g2 s2=>?_
  have s12:=s1.trans s2;refine J3 (B1.same s12) (by decide) (by decide) λt H4 a0 a1 B4 k4=>?_
  obtain⟨y,y1,y2⟩:=a2S (xs:=[V.non,.bl true,.str "plus",.int 5,.ref p1]) a0 (by simpa using a1)
  ext
  refine M0 (k4.1 _ _ g2 ((B1.same s1).nb hp2).1) y1 (k y H4 ?_ B4 ((k1.trans (D0.of_same s12)).trans k4));have my:=mI y2;simp only[t8,G8,or_false]at my;rcases my with rfl | rfl | rfl | rfl | rfl
  .exact .no (s:="NoneType") rfl (by decide)
  .exact .no (s:="bool") rfl (by decide)
  .exact .no (s:="str") rfl (by decide)
  .exact .no (s:="int") rfl (by decide)
  .exact .no (s:="dict") (by simp only[G9,k4.1 _ _ (s2 _ _ g1) (B1.nb hp1).1]) (by decide)
 ext
 nofun
 refine a0y (λ_=>?_) (λn1=>?_)
 .ext
  exists P0 e1 (a2r _ _) ?_;exists P0 e1 (a7k _ _ _) ?_;exists P0 e1 (b6g _ _ _ _) ?_;exact E4 (by simp) λp H2 hp g s=>k _ H2 (.no (s:="list") (by simp only[G9,g]) (by decide)) (B1.same s) (k1.trans (D0.of_same s))
 ext
 nofun
 refine a0y (λ_=>?_) (λn2=>?_)
 .ext
  exists E4 (by simp) λp2 H3 hp2 g2 s2=>?_
  refine J3 (B1.same s2) (by decide) (by decide) λt H4 a0 a1 B4 k4=>?_
  obtain⟨y,y1,y2⟩:=a2S (xs:=[V.str "over",.str "Plus",.str "",.non,.int 1]) a0 (by simpa using a1)
  ext
  refine M0 (k4.1 _ _ g2 (B1.nb hp2).1) y1 ?_;have e4:=k4.ts (B1.same s2) _ _ (s2 _ _ e1)
  ext
  exists P0 e4 (a7k _ _ _) ?_;exists P0 e4 (b6g _ _ _ _) ?_;refine E4 (by simp) λp H5 hp g s=>k _ H5 ?_ (B4.same s) (((k1.trans (D0.of_same s2)).trans k4).trans (D0.of_same s))
  have my:=mI y2;simp only[t8,G8,or_false]at my;rcases my with rfl | rfl | rfl | rfl | rfl <;> exact .kd g rfl (by decide +kernel)
 ext
 nofun
 refine a0y (λ_=>?_) (λn3=>?_)
 .ext
  exists P0 e1 (a2r _ _) ?_;exists P0 e1 (a7k _ _ _) ?_;exact E4 (by simp) λp H2 hp g s=>k _ H2 (.len g (by simp)) (B1.same s) (k1.trans (D0.of_same s))
 ext
 nofun
 refine a0y (λ_=>?_) (λn4=>?_)
 .ext
  exists P0 e1 (a2r _ _) ?_;exists P0 e1 (a7k _ _ _) ?_;exists P0 e1 (b6g _ _ _ _) ?_;exact E4 (by simp) λp H2 hp g s=>k _ H2 (.len g (by simp)) (B1.same s) (k1.trans (D0.of_same s))
 ext
 exact_mod_cast L4 ?_;exact_mod_cast b1c ?_;exact_mod_cast b2f ?_;have fz:∀ {z:Str},opB (.str z)=false->z.length<=100000->MkE H1 OdO [some (.ref b),some (.ref dd),some (.int w),none] (tC (.str z)):=λh1 h2=>c5J b3y h1 rfl λz e=>(by cases e;exact h2)
 have fs:∀ {te:TE} {v:V},FlE [some (.ref b),some (.ref dd),some (.int w),none] te v->opB v=false->T1 v=true->(∀z,v≠.str z)->MkE H1 OdO [some (.ref b),some (.ref dd),some (.int w),none] te:=λa h1 h2 h3=>c5J a h1 h2 λz e=>absurd e (h3 z)
 refine c2t (H0:=H1) (P:=OdO) a5g (Y2 a5g (fz (by decide +kernel) (by decide +kernel)) (Y2 a5g (fz (by decide +kernel) (by decide +kernel)) (Y2 a5g (fz (by decide +kernel) (by decide +kernel)) (Y2 a5g (fz (by decide +kernel) (by decide +kernel)) (Y2 a5g (fz (by decide +kernel) (by decide +kernel)) (Y2 a5g (fs d2c rfl rfl (by intro z e;cases e)) (Y2 a5g (fs b3y rfl rfl (by intro z e;cases e)) (Y2 a5g (fs b3y rfl rfl (by intro z e;cases e)) (Y2 a5g (fs b3y rfl rfl (by intro z e;cases e))
  (Y2 a5g (c5O (b3P b3y b7T) (by simp) λH p H' _ _ e=>⟨⟨⟨"tuple",by simp only[G9,e]⟩,λz e=>(by cases e)⟩,rfl⟩) (Y2 a5g (c5R (b3P b3y b7T) (by simp) λH p H' _ _ e=>⟨⟨⟨"list",by simp only[G9,e]⟩,λz e=>(by cases e)⟩,rfl⟩) c5P))))))))))) (by decide) (j5.refl _) λod vs H2 hod e2 lv pv s2=>?_
 ext
 have B2:=B1.same s2;refine J3 B2 (by decide) (by decide) λt H3 a0 a1 B3 k3=>?_
 obtain⟨y,y1,y2⟩:=a2S (xs:=vs) a0 (by omega);refine M0 (k3.1 _ _ e2 (B1.nb hod).1) y1 ?_;have py:=(pv y (mI y2)).kd (.kept B2 B3 k3);have e3:=k3.ts B2 _ _ (s2 _ _ e1);have k13:=(k1.trans (D0.of_same s2)).trans k3
 ext
 nofun
 refine a0y (λ_=>?_) (λn4=>?_)
 .ext
  exists P0 e3 (a2r _ _) ?_;exists P0 e3 (b6g _ _ _ _) ?_;exact E4 (by simp) λp H4 hp g s=>k _ H4 (.op g (py.kd (.same s)).1 o2.ty (by rw[py.2];rfl)) (B3.same s) (k13.trans (D0.of_same s))
 .ext
  exists P0 e3 (a2r _ _) ?_;exists P0 e3 (a7k _ _ _) ?_;exact E4 (by simp) λp H4 hp g s=>k _ H4 (.op g o1.ty (py.kd (.same s)).1 (by rw[py.2,b8w])) (B3.same s) (k13.trans (D0.of_same s))
end
section
variable {K:Fg}{c:Cn}{q:Nat}{n:Int}{x b sp c1 c2:Addr}{Sp:Nat->Bool}{X:List Nat}{B' P P':List Stp}{F F' O' Y' G':List Nat}{w:Str}
def Ex2(b sp:Addr)(H H':Hp):Prop:=(∀p o,H p=some o->p≠b->p≠sp->H' p=some o)/\Kd H H'
def Ex2.trans(x:Ex2 b sp H H')(y:Ex2 b sp H' H2):Ex2 b sp H H2:=⟨λp o h n1 n2=>y.1 p o (x.1 p o h n1 n2) n1 n2,x.2.trans y.2⟩
def Ex2.kept(hB:Bag H b d)(hB':Bag H' b d)(k:D0 b H H'):Ex2 b sp H H':=⟨λp o h n1 _=>k.1 p o h n1,.kept hB hB' k⟩
def Ex2.put(h:H sp=some (.lst xs)):Ex2 b sp H (upd H sp (.lst ys)):=⟨λp o e _ n=>by rw[i9 n];exact e,.put h⟩
def b0A.mv(h:b0A N H v j n)(k:Ex2 b sp H H')(n1:v≠.ref b)(n2:v≠.ref sp):b0A N H' v j n:=by
 cases h with
 |no a b d=>exact .no (k.2.2 _ _ a) b d
 |many a b=>exact .many (k.1 _ _ a (λz=>n1 (congrArg _ z)) (λz=>n2 (congrArg _ z))) b
 |«at» a b d e f=>exact .at (k.1 _ _ a (λz=>n1 (congrArg _ z)) (λz=>n2 (congrArg _ z))) b (λy hy=>let⟨s,q⟩:=d y hy; ⟨s,k.2.2 _ _ q⟩) e f
def b0A.cast(h:b0A N H v j n)(e:v2=v):b0A N H v2 j n:=e ▸ h
def c2z{e:Addr}(h1:H a=some (.tup [.str w,.int n]))(h2:H e=some (.tup [.str w,.int n])):Dq K H 1 (.ref a) (.ref e):=by
 refine .tup (SqT.of h1) (SqT.of h2) rfl λj x y hx hy=>?_
 rw[hx]at hy;cases hy
 match j,hx with
 |0,hx=>cases hx;exact .flat rfl
 |1,hx=>cases hx;exact .flat rfl
 |j+2,hx=>cases hx
def c6m{e:Addr}{n:Nat}(h1:H a=some (.lst (IL X)))(h2:H e=some (.lst (IL X))):Dq K H (n+1) (.ref a) (.ref e):=by
 refine .lst (SqL.of h1) (SqL.of h2) rfl λj x y hx hy=>?_
 rw[hx]at hy;cases hy;exact .flat (P5.mp (c2M X) x (mI hx))
def c4Y{PB:Bool->Hp->Prop}(main:∀QB:Bool->Hp->Prop,(∀c H,PB c H->QB c H)->tt σ H QB)(tail:∀c H,PB c H->QB c H):tt σ H QB:=main QB tail
def c1q{sf:L2.Sp}{W:Hp->Addr->Prop}(hf:∀ {G cx B F P O Y G'} {Q:VK},Cho K c G cx x dd N rs ds Do Sp B F P O Y G'->(P=P'/\O=O'/\Y=Y')->(∀l H',W H' l->j5 G H'->Q (.ref l) H')->sf [.ref cx] G Q E0)(mono:∀ {G G' l},j5 G G'->W G l->W G' l)(dq:∀ {G a e},W G a->W G e->Dq K G 2 (.ref a) (.ref e))(nf:f∉(["plan","deed","brinks","fallen","put_in","left_out","left_in","living"]:List Str))
  (h1:Cho K c H c1 x dd N rs ds Do Sp B F P' O' Y' G) (h2:Cho K c H c2 x dd N rs ds Do Sp B' F' P' O' Y' G') (hi:σ[i]?=some (some (.ref c1))) (hj:σ[j]?=some (some (.ref c2))) (k:∀H',j5 H H'->Q (.bl false) H'):tOp (b3q K) (Q6 c.v6 f sf [] E0 (b4 i) i8) (Q6 c.v6 f sf [] E0 (b4 j) i8) σ H Q:=by
 obtain⟨dx1,fs1,f1,_⟩:=id h1.ex;obtain⟨dx2,fs2,f2,_⟩:=id h2.ex;refine b2f (U6 (M7 hi ⟨c1,dx1,_,rfl,f1.hx,f1.no _ nf,X3 ?_⟩));refine hf h1 ⟨rfl,rfl,rfl⟩ λa H3 e3 s3=>?_
 refine U6 (M7 hj ⟨c2,dx2,_,rfl,s3 _ _ f2.hx,f2.no _ nf,X3 ?_⟩);exact hf (h2.same s3) ⟨rfl,rfl,rfl⟩ λe H4 e4 s4=>⟨a,e,2,rfl,rfl,by decide,dq (mono s4 e3) e4,k H4 (s3.trans s4)⟩
def b7K{a b:Nat}(ck:X6 K c)(hp:a1n c H x N rs)(hq:a6d c H x N rs)(hz:a0z K c H x N)(hv:a0i N)(hd:a0H H dd ds)(hn:a4p H dd)(hs:a5t H rs ds Do Sp)(ea:σ[a]?=some (some (.ref x)))(eb:σ[b]?=some (some (.ref dd)))
  (k:∀cx H' B F G,H cx=none->BkL N Do Sp B->(∀t,t∈F↔Fal N Do B [] t)->Cho K c H' cx x dd N rs ds Do Sp B F ((K5 N).filter (puF N Do B F)) (b3r N Do F) (inF N Do F) G->j5 H H'->Q (.ref cx) H') :
  a2e c.v6 (L9 K c) [] E0 (a9 (b4 a) (a9 (b4 b) (a9 (tC .non) i8))) σ H Q:=by
 refine b2g (G0 (M7 ea (G0 (M7 eb (G0 (s_c (X3 ?_)))))));intro cx dx hcx hdx _;exact a4e ck hp hq hz hv hd hn hs (.inl ⟨rfl,rfl⟩) (by simp) (by simp) hcx hdx λH' B F G h2 h3 h5 h6=>⟨rfl,k cx H' B F G hcx h2 h3 h5 h6⟩
def Cho.alike(hv:a0i N)(b1:BkL N Do Sp B)(b2:BkL N Do Sp B')(a1:∀t,t∈F↔Fal N Do B L t)(a2:∀t,t∈F'↔Fal N Do B' L t)(h:Cho K c H cx x dd N rs ds Do Sp B' F' ((K5 N).filter (puF N Do B' F')) (b3r N Do F') (inF N Do F') G) :
  Cho K c H cx x dd N rs ds Do Sp B' F' ((K5 N).filter (puF N Do B F)) (b3r N Do F) (inF N Do F) G:=by
 obtain rfl:=b1.uniq hv b2;have eF:∀t,decide (t∈F')=decide (t∈F):=λt=>decide_eq_decide.mpr ((a2 t).trans (a1 t).symm)
 have eP:(K5 N).filter (puF N Do B F')=(K5 N).filter (puF N Do B F):=a8a λs _=>by unfold puF wtF;rw[eF,eF]
 have eO:b3r N Do F'=b3r N Do F:=a8a λt _=>by rw[eF]
 have eY:inF N Do F'=inF N Do F:=a8a λt _=>by rw[eF]
 rw[eP,eO,eY]at h;exact h
def c5K{tr:TE}{u:Nat}(hu:σ[u]?=some (some (.ref a)))(hr:∀R:VK,(∀p H',H' p=some (.tup [.str w,.int n])->j5 H H'->R (.ref p) H')->tr σ H R)(ha:H a=some (.tup [.str w,.int n]))(k:∀H',j5 H H'->Q (.bl false) H'):tOp (b3q K) tr (b4 u) σ H Q:=
 b2f (hr _ λp H' e s=>M7 hu ⟨p,a,1,rfl,rfl,by decide,c2z e (s _ _ ha),k H' s⟩)
def b4S{tr:TE}(hr:∀R:VK,(∀p H',H' p=some (.tup [.str "taken",.int 0])->j5 H H'->R (.ref p) H')->tr σ H R)(k:∀H',j5 H H'->Q (.bl false) H'):tOp (b3q K) tr (W4 (a9 (tC (.str "taken")) (a9 (tC (.int 0)) i8))) σ H Q:=
 b2f (hr _ λp H' e s=>b8Y (G0 (s_c (G0 (s_c (X3 (E4 (by simp) λu H2 _ e2 s2=>⟨p,u,1,rfl,rfl,by decide,c2z (s2 _ _ e) e2,k H2 (s.trans s2)⟩)))))))
end
abbrev SL(a b ra na da dd x la:Addr)(i:Int)(g9:Addr)(f1:Int)(sp:Addr)(bd:V)(du:Addr):St:=[some (.ref a),some (.ref b),some (.ref ra),some (.ref na),some (.ref da),some (.ref dd),some (.ref x),some (.ref la),some (.int i),some (.ref g9),some (.int f1),some (.ref sp),some bd,some (.ref du),none,none,none,none]
def law_reading(K:Fg)(hl:ns.length<=63)(hO:c8t H)(hS:SqL K H a (ns.map V.int)):b4i K [.ref a] H (λv _=>v=.bl true) (λ_ _ _=>False):=by
 refine⟨rfl,λc ck=>?_⟩;unfold c4N
 nofun
 refine d0T hS hl λb d H1 B1 s1 _=>?_
 ext
 nofun
 refine c7v B1 λp1 ra na da N H2 e2 R2 T2 P2 hv l24 nra nna B2 k2=>?_
 refine⟨p1,_,rfl,SqT.of e2,rfl,_,_,rfl,_,_,rfl,_,_,rfl,rfl,?_⟩;obtain⟨ps,hps,nps,lps,dps⟩:=id P2.ex;obtain⟨rs,hrs,lrs,_⟩:=id R2.ex;have pos:=hv.pos;have h400:=hv.le
 obtain⟨dd,pr,rfl⟩:∃dd pr,ps=dd::pr:=by
  cases ps with
  |nil=>exact absurd rfl nps
  |cons a r=>exact⟨a,r,rfl⟩
 have D2:=dps dd (Q4 ..)
 nofun
 exists M0 hps (a2r _ _) ?_
 nofun
 specialize b2g ?_;refine a4I hrs λra' H8 hra' e8 s8=>?_
 ext
 refine c1K (T2.same s8) hv.le rfl λna' H9 T9 s9=>?_
 ext
 intro x dx hx hdx hne
 have sm:j5 H9 (upd (upd H9 dx (.own x)) x (.ins c.M5 dx [])):=λb o e=>by
  rw[i9 (f6 e hx),i9 (f6 e hdx)];exact e
 obtain⟨H10,hH10⟩:∃H10,H10=upd (upd H9 dx (.own x)) x (.ins c.M5 dx []):=⟨_,rfl⟩;have x10:H10 x=some (.ins c.M5 dx []):=hH10 ▸ c7;rw[<-hH10]at sm ⊢;have s79:=s8.trans s9;have s710:=s79.trans sm
 have R9:a0V H9 ra' N:=by
  obtain⟨rs',q1,q2,q3⟩:=id (R2.same s79).ex;rw[s79 _ _ hrs]at q1;obtain rfl:rs'=rs:=(a6T (f:=V.ref) (λa b h=>V.ref.inj h) |>.mp (HO.lst.inj (Option.some.inj q1))).symm;exact⟨rs',s9 _ _ e8,q2,q3⟩
 refine b7A (E:=E0) ck (sm _ _ (s9 _ _ e8)) (R9.same sm) (T9.same sm) hv x10 λH11 pz old=>⟨rfl,?_⟩
 have s711:j5 H2 H11:=λb o e=>old b o (s710 _ _ e) (f6 (s79 _ _ e) hx)
 have B11:=B2.same s711;have R11:=R2.same s711;have hra11:=s711 _ _ hrs;have hna11:=(T2.same s711);have D11:=D2.ts (j5.ts s711)
 ext
 exact_mod_cast L4 ?_;refine b9N (ib:=1) (lo:=0) (m:=N.length) pos h400 B11 rfl (λR h=>?_) (λy H' R k' h=>?_) λla L H12 hla e12 _ l9 hL B12 k12=>?_
 .refine a4Z (G0 (M7 rfl (G0 (s_c (X3 ?_)))));refine J3 B11 (by decide) (by decide) λt H' a0 a1 B k=>?_
  obtain⟨t,rfl⟩:∃t':Nat,t=(t':Int):=⟨t.toNat,by omega⟩;exact h _ _ (by omega) (by omega) B k
 .refine c0T (G0 (M7 rfl (X3 (O3 (k'.1 _ _ hra11 (a1c B11 hra11)) ?_))));rw[b8,lrs];exact h
 have nla:=(B11.nb hla).1;have t12:=k12.ts B11;have pz12:=pz.kept B11 hv.two k12;have hra12:=k12.1 _ _ hra11 (a1c B11 hra11);have T12:=hna11.kept B11 hv.two k12;have R12:=R11.kept B11 k12;have D12:=D11.ts t12;obtain⟨ds,dq12⟩:=D12.q;obtain⟨Do,Sp,sat12⟩:=a5t.ex R12 hra12 ds;exact_mod_cast L4 ?_;exact_mod_cast a1S (a3K (G0 (s_c (X3 ?_))));refine⟨3,rfl,by decide,by decide,a1K (n:=3) (λi σ H'=>∃y8 y9 y10 y11 y12 y13,σ=[some (.ref a),some (.ref b),some (.ref ra),some (.ref na),some (.ref da),some (.ref dd),some (.ref x),some (.ref la),y8,y9,y10,y11,y12,y13,none,none,none,none]/\Bag H' b d/\D0 b H12 H') ⟨_,_,_,_,_,_,rfl,B12,D0.refl _ _⟩ ?_ ?_⟩
 .rintro i _ H13 hi ⟨y8,y9,y10,y11,y12,y13,rfl,B13,k13⟩;refine b1b ?_;have t13:=k13.ts B12;have pz13:=pz12.kept B12 hv.two k13;have hra13:=k13.1 _ _ hra12 (a1c B12 hra12);have T13:=T12.kept B12 hv.two k13;have e13:=k13.1 _ _ e12 nla;have D13:=D12.ts t13;have dq13:=dq12.ts t13;have sat13:=sat12.ts t13
  nofun
  refine E4 (by simp) λg9 H14 hg9 e14 s14=>?_
  ext
  nofun
  refine J3 (E:=E0) (B13.same s14) (by decide) (by decide) λf1 H15 f0 f3 B15 k15=>?_
  ext
  nofun
  refine a4I (k15.1 _ _ e14 (B13.nb hg9).1) λsp H16 hsp e16 s16=>?_
  ext
  have B16:=B15.same s16;have k16:=((D0.of_same s14).trans k15).trans (D0.of_same (b:=b) s16);have hsp13:=((D0.of_same s14).trans k15).none hsp;have nspb:=(B13.nb hsp13).1;have nspd:=(B13.nb hsp13).2
  nofun
  refine O3 (k16.1 _ _ hra13 (a1c B13 hra13)) ?_
  ext
  rw[b8,lrs];refine c0b (E:=E0) B16 pos h400 λr bd du H17 j n e17 u17 bh j4 fr B17 k17=>?_
  refine⟨r,_,rfl,SqT.of e17,rfl,_,_,rfl,_,_,rfl,rfl,?_⟩;have k137:=k16.trans k17;have e17s:=k17.1 _ _ e16 nspb;have nb:bd≠.ref b:=fr b (by obtain⟨xs,h⟩:=B16.lst;rw[h];exact λz=>by cases z);have ns:bd≠.ref sp:=fr sp (by rw[e16];exact λz=>by cases z);exact_mod_cast a4n (P:=λσ H'=>∃v2,σ=SL a b ra na da dd x la (0+(i:Int)) g9 f1 sp bd du/\H' sp=some (.lst [.ref x,.ref dd,v2])/\(f1=2->v2=bd)/\Bag H' b d/\D0 b H13 H'/\Ex2 b sp H17 H') ?_ ?_
  rotate_left
  .intro nx hnx;refine b3o (c4Y (PB:=λq H'=>(f1=2->q=true)/\Bag H' b d/\D0 b H17 H') (λQB hQ=>b8Z ?_) ?_)
   .ext
    exists a0y (λf=>hQ _ _ ⟨λ_=>rfl,B17,D0.refl _ _⟩) (λf=>?_);exists J3 (E:=E0) B17 (by decide) (by decide) λt H18 _ _ B18 k18=>?_
    exact hQ _ _ ⟨λz=>absurd (by rw[z];rfl) f,B18,k18⟩
   .rintro q H' ⟨hq,B',k'⟩;have e':=k'.1 _ _ e17s nspb;have x':Ex2 b sp H17 H':=.kept B17 B' k';have k':=k137.trans k';cases q with
    |true=>
     exists C6 rfl ?_;refine b7q (q:=2) e' (by simp) ?_;exact hnx _ _ ⟨bd,rfl,c7,λ_=>rfl,B'.put nspb nspd,k'.put hsp13,x'.trans (.put e')⟩
    |false=>
     refine z4 rfl (a4v (hnx _ _ ⟨_,rfl,e',λz=>(by cases hq z),B',k',x'⟩))
  rintro _ H18 ⟨v2,rfl,e18,hv2,B18,k18,x18⟩;have u18:=x18.2.1 _ _ u17;exact_mod_cast a4n (P:=λσ H'=>∃v1 du j n,σ=SL a b ra na da dd x la (0+(i:Int)) g9 f1 sp bd du/\H' sp=some (.lst [.ref x,v1,v2])/\H' du=some (.tup [.str (wdJ j),.int n])/\(f1≠0->b3E N x dd H' (.ref x) v1 v2 j n)/\Bag H' b d/\D0 b H13 H') ?_ ?_
  rotate_left
  .intro nx hnx;have D18:=D13.ts (k18.ts B13);refine b3o (c4Y (PB:=λq H'=>(q=false->f1≠0->f1=2)/\Bag H' b d/\D0 b H18 H') (λQB hQ=>b8Z ?_) ?_)
   .ext
    refine a0y (λf=>hQ _ _ ⟨λz=>(by cases z),B18,D0.refl _ _⟩) (λf=>?_);have g1:f1≠1:=by simpa using f
    specialize c2k ?_;refine a0y (λg=>?_) (λg=>hQ _ _ ⟨λ_ _=>by omega,B18,D0.refl _ _⟩);have g0:f1=0:=by simpa using g
    ext
    exists J3 (E:=E0) B18 (by decide) (by decide) λt H19 _ _ B19 k19=>?_
    exact hQ _ _ ⟨λ_ z=>absurd g0 z,B19,k19⟩
   .rintro q H' ⟨hq,B',k'⟩;have e':=k'.1 _ _ e18 nspb;cases q with
    |true=>
     refine C6 rfl ?_
     nofun
     exists c0c (E:=E0) B' (D18.ts (k'.ts B18)) λv1 H19 o19 B19 k19=>?_
     have e19:=k19.1 _ _ e' nspb;exists b7q (q:=1) e19 (by simp) ?_;exists E4 (by simp) λd2 H20 hd2 e20 s20=>?_
     exact hnx _ _ ⟨v1,d2,0,1,rfl,s20 _ _ c7,e20,λ_=>.deed (o19.mv ((Kd.put e19).trans (.same s20))),(B19.put nspb nspd).same s20,(((k18.trans k').trans k19).put hsp13).trans (D0.of_same s20)⟩
    |false=>
     refine z4 rfl (a4v (hnx _ _ ⟨_,du,j,n,rfl,e',k'.ts B18 _ _ u18,λz=>.held ((bh.mv (x18.trans (.kept B18 B' k')) nb ns).cast (hv2 (hq rfl z))) j4,B',k18.trans k'⟩))
  rintro _ H19 ⟨v1,du2,j2,n2,rfl,e19,u19,bad19,B19,k19⟩;exact_mod_cast a4n (P:=λσ H'=>∃v0 du j n,σ=SL a b ra na da dd x la (0+(i:Int)) g9 f1 sp bd du/\H' sp=some (.lst [v0,v1,v2])/\H' du=some (.tup [.str (wdJ j),.int n])/\b3E N x dd H' v0 v1 v2 j n/\Bag H' b d/\D0 b H13 H') ?_ ?_
  rotate_left
  .intro nx hnx;specialize b3o ?_;refine a0y (λg=>?_) (λg=>?_)
   .have hra19:=k19.1 _ _ hra13 (a1c B13 hra13)
    nofun
    exists E4 (by simp) λtp H20 htp e20 s20=>?_
    exists E4 (by simp) λol H21 hol e21 s21=>?_
    have s1921:=s20.trans s21;have B21:=B19.same s1921;refine J3 (E:=E0) B21 (by decide) (by decide) λt H22 a0 a1 B22 k22=>?_
    obtain⟨y,y1,y2⟩:=a2S (xs:=[V.non,.ref ra,.ref tp,.str "plan",.int 0,.bl true]) a0 (by simpa using a1);exists M0 (k22.1 _ _ e21 ((B19.same s20).nb hol).1) y1 ?_;have e22:=k22.1 _ _ (s1921 _ _ e19) nspb;exists b7q (q:=0) e22 (by simp) ?_;exists E4 (by simp) λd2 H23 hd2 e23 s23=>?_
    have ty:∃s,G9 y H22=some s:=by
     have my:=mI y2;simp only[t8,G8,or_false]at my;rcases my with rfl | rfl | rfl | rfl | rfl | rfl
     .exact⟨_,rfl⟩
     .exact⟨"list",by simp only[G9,k22.1 _ _ (s1921 _ _ hra19) (a1c B21 (s1921 _ _ hra19))]⟩
     .exact⟨"tuple",by simp only[G9,k22.ts B21 _ _ (s21 _ _ e20)]⟩
     .exact⟨_,rfl⟩
     .exact⟨_,rfl⟩
     .exact⟨_,rfl⟩
    obtain⟨st,hst⟩:=ty;exact hnx _ _ ⟨y,d2,0,0,rfl,s23 _ _ c7,e23,.plan (((Kd.put e22).trans (.same s23)).2 _ _ hst),(B22.put nspb nspd).same s23,((((k19.trans (D0.of_same s1921)).trans k22).put hsp13).trans (D0.of_same s23))⟩
   .ext
    have g0:f1≠0:=by simpa using g
    exact hnx _ _ ⟨_,du2,j2,n2,rfl,e19,u19,bad19 g0,B19,k19⟩
  rintro _ H20 ⟨v0,du3,j3,n3,rfl,e20,u20,bad20,B20,k20⟩;have t20:=k20.ts B13;have pz20:=pz13.kept B13 hv.two k20;have D20:=D13.ts t20;have dq20:=dq13.ts t20;have sat20:=sat13.ts t20;have hra20:=k20.1 _ _ hra13 (a1c B13 hra13);have e20l:=k20.1 _ _ e13 nla;exact_mod_cast L4 ?_;exact_mod_cast b3o (b8Z (a6C ?_));refine c5K rfl (λR h=>a4Z (G0 (M7 rfl (X3 (b2W ck pz20.r D20 e20 bad20 h))))) u20 λH21 s21=>⟨_,rfl,z4 rfl (a6C ?_)⟩
  have D21:=D20.ts (j5.ts s21);refine c5K rfl (λR h=>a4Z (G0 (M7 rfl (X3 (b2W ck (pz20.same s21).r D21 (s21 _ _ e20) (bad20.same s21) h))))) (s21 _ _ u20) λH22 s22=>⟨_,rfl,z4 rfl (a4v ?_)⟩
  have s2022:=s21.trans s22
  have good:∀ {G v2 L' l} {Q:VK},j5 H20 G->Hld G v2 L'->L'.length<=400->(∀t∈L',t<N.length)->G l=some (.lst [.ref x,.ref dd,v2])->(∀p H',H' p=some (.tup [.str "taken",.int 0])->j5 G H'->Q (.ref p) H')->Y6 K c [.ref l] G Q E0:=λs h1 h2 h3 h4 h5=>
   b7p ck (pz20.same s).r (pz20.same s).q (pz20.same s).at hv (dq20.ts (j5.ts s)) (D20.ts (j5.ts s)) (sat20.ts (j5.ts s)) h1 h2 h3 h4 h5
  exact_mod_cast L4 ?_;exact_mod_cast b3o (b8Z (a6C ?_));refine b4S (λR h=>?_) λH25 s25=>⟨_,rfl,z4 rfl (a6C ?_)⟩
  .ext
   exists a4I (s2022 _ _ e20l) λl2 H23 _ e23 s23=>?_
   exists E4 (by simp) λl3 H24 _ e24 s24=>?_
   exact good ((s2022.trans s23).trans s24) (.inr ⟨l2,rfl,s24 _ _ e23⟩) (by omega) hL e24 λp H' e s=>h p H' e ((s23.trans s24).trans s)
  have s2025:=s2022.trans s25;refine b4S (λR h=>?_) λH27 s27=>⟨_,rfl,z4 rfl (a4v ?_)⟩
  .ext
   exists E4 (by simp) λl3 H26 _ e26 s26=>?_
   exact good (L':=[]) (s2025.trans s26) (.inl ⟨rfl,rfl⟩) (by simp) (by simp) e26 λp H' e s=>h p H' e (s26.trans s)
  have s2027:=s2025.trans s27;exact_mod_cast b3o (a6C ?_);refine b4S (λR h=>?_) λH30 s30=>⟨_,rfl,z4 rfl (a4v ?_)⟩
  .ext
   exists O3 (s2027 _ _ hra20) ?_;exists E4 (by simp) λl2 H28 _ e28 s28=>?_
   exists c8V e28 (by decide) (by decide) (by simp) λl3 H29 _ e29 s29=>?_
   exists E4 (by simp) λl4 H31 _ e31 s31=>?_
   rw[c2m,b8,lrs]at e29
   have e29:H29 l3=some (.lst (IL (p8 400 (N.length - 1)))):=by
    rw[e29];unfold IL;rw[List.map_replicate];have:((N.length:Int) - 1)=((N.length - 1:Nat):Int):=by omega
    rw[this];rfl
   have s2831:=(s28.trans s29).trans s31;exact good (s2027.trans s2831) (.inr ⟨l3,rfl,s31 _ _ e29⟩) (by simp) (λt ht=>by rw[a8o ht];omega) e31 λp H' e s=>h p H' e (s2831.trans s)
  .exact⟨_,_,_,_,_,_,rfl,B20.same (s2027.trans s30),(k13.trans k20).trans (D0.of_same (s2027.trans s30))⟩
 rintro _ H13 ⟨y8,y9,y10,y11,y12,y13,rfl,B13,k13⟩;have t13:=k13.ts B12;have pz13:=pz12.kept B12 hv.two k13;have e13:=k13.1 _ _ e12 nla;have D13:=D12.ts t13;have dq13:=dq12.ts t13;have sat13:=sat12.ts t13
 nofun
 refine a4I e13 λhd H14 hhd e14 s14=>?_
 ext
 exact_mod_cast L4 ?_;exact_mod_cast b1c ?_;have pz14:=pz13.same s14;refine b2Y (L:=L) ck pz14.r pz14.q pz14.at hv (dq13.ts (j5.ts s14)) (D13.ts (j5.ts s14)) (sat13.ts (j5.ts s14)) hL (by omega) rfl rfl (λR h=>M7 rfl (h _ _ e14 (j5.refl _))) λc1 H15 Ba F1 G1 hc1 bk1 al1 C1 s15=>?_
 ext
 have s1315:=s14.trans s15;have pz15:=pz13.same s1315;exact_mod_cast L4 ?_;exact_mod_cast b1c ?_;refine b7K ck pz15.r pz15.q pz15.at hv (dq13.ts (j5.ts s1315)) (D13.ts (j5.ts s1315)) (sat13.ts (j5.ts s1315)) rfl rfl λc2 H16 Bb F2 G2 hc2 bk2 al2 C2 s16=>?_
 ext
 have s1316:=s1315.trans s16;have pz16:=pz13.same s1316;exact_mod_cast L4 ?_;exact_mod_cast b1c ?_;refine b7L ck pz16.r pz16.q pz16.at hv (dq13.ts (j5.ts s1316)) (D13.ts (j5.ts s1316)) (sat13.ts (j5.ts s1316)) rfl rfl λc3 H17 Bc F3 G3 hc3 bk3 al3 C3 s17=>?_
 ext
 have s1317:=s1316.trans s17;have C2:=C2.same s17;have C3:=Cho.alike hv bk2 bk3 al2 al3 C3;have C1:=C1.same (s16.trans s17);exact_mod_cast L4 ?_;exact_mod_cast b3o (b8Z (a6C ?_));refine c1q (W:=λG l=>Q3 K G l _) (λh e k=>b7v ck h λl H' _ q=>k l H' (e.1 ▸ q)) (λs h=>h.same s) b8M (by decide) C2 C3 rfl rfl λH18 s18=>⟨_,rfl,z4 rfl (b8Z (a6C ?_))⟩
 refine c1q (W:=λG l=>G l=some (.lst (IL _))) (λh e k=>c7B ck h λl H' _ q=>k l H' (e.2.1 ▸ q)) (λs h=>s _ _ h) c6m (by decide) (C2.same s18) (C3.same s18) rfl rfl λH19 s19=>⟨_,rfl,z4 rfl (a6C ?_)⟩
 have s1719:=s18.trans s19;refine c1q (W:=λG l=>G l=some (.lst (IL _))) (λh e k=>c4U ck h λl H' _ q=>k l H' (e.2.2 ▸ q)) (λs h=>s _ _ h) c6m (by decide) (C2.same s1719) (C3.same s1719) rfl rfl λH20 s20=>⟨_,rfl,z4 rfl (a4v ?_)⟩
 have s1720:=s1719.trans s20;have s1320:=s1317.trans s1720;have pz20:=pz13.same s1320;have C1:=C1.same s1720;obtain⟨dx1,fs1,f1,_⟩:=id C1.ex;exact_mod_cast b6u (c0U (b2f (M7 rfl (M7 rfl ?_))));refine⟨hd,la,1,rfl,rfl,by decide,c6m ((s15.trans (s16.trans (s17.trans s1720))) _ _ e14) (s1320 _ _ e13),_,rfl,C6 rfl ?_⟩;refine b2f (U6 (M7 rfl ⟨c1,dx1,_,rfl,f1.hx,f1.no _ (by decide),X3 ?_⟩));refine b7v ck C1 λl1 H21 _ e21 s21=>?_
 have s1321:=s1320.trans s21;have pz21:=pz13.same s1321;refine U6 ?_;refine b2Y (L:=L) ck pz21.r pz21.q pz21.at hv (dq13.ts (j5.ts s1321)) (D13.ts (j5.ts s1321)) (sat13.ts (j5.ts s1321)) hL (by omega) rfl rfl (λR h=>c0T (G0 (M7 rfl (X3 (a4I (s1321 _ _ e13) λl H' _ e s=>h l H' e s))))) λc4 H22 Bd F4 G4 hc4 bk4 al4 C4 s22=>?_
 have C4:=Cho.alike hv bk1 bk4 al1 al4 C4;obtain⟨dx4,fs4,f4,_⟩:=id C4.ex;refine⟨c4,dx4,_,rfl,f4.hx,f4.no _ (by decide),X3 ?_⟩;exact b7v ck C4 λl4 H23 _ e23 s23=>⟨l1,l4,2,rfl,rfl,by decide,b8M ((e21.same s22).same s23) e23,rfl⟩
end RD
set_option maxHeartbeats 0
namespace PR
open PySem L2 RD Y
abbrev d3m:Str:="__init__"
abbrev d3n:Str:="_law_script"
abbrev d3o:Str:="_law_bag"
abbrev d3p:Str:="_law_bag_here"
abbrev d3q:Str:="_law_many"
abbrev d3r:Str:="_law_first"
abbrev d3s:Str:="_law_take"
abbrev d3t:Str:="_law_nexts"
abbrev d3u:Str:="_law_k"
abbrev d3v:Str:="_law_some"
abbrev d3w:Str:="_law_way"
abbrev d3x:Str:="_law_net"
abbrev d3y:Str:="_law_good"
abbrev d3z:Str:="_law_turn"
abbrev d3A:Str:="_law_reached"
abbrev d3B:Str:="_law_one"
abbrev d3C:Str:="_law_order"
abbrev d3D:Str:="_law_mended"
abbrev d3E:Str:="_law_name"
abbrev d3F:Str:="_law_names"
abbrev d3G:Str:="_law_names_here"
abbrev d3H:Str:="_law_operand"
abbrev d3I:Str:="_law_deed"
abbrev d3J:Str:="_law_deeds"
abbrev d3K:Str:="_law_row"
abbrev d3L:Str:="_law_rows"
abbrev d3M:Str:="_law_plan"
abbrev d3N:Str:="_law_bad_held"
abbrev d3O:Str:="_law_deed_here"
abbrev d3P:Str:="_law_bad_deed"
abbrev d3Q:Str:="_law_int"
abbrev d3R:Str:="thing"
abbrev d3S:Str:="is_whole"
abbrev d3T:Str:="is_value"
abbrev d3U:Str:="is_operand"
abbrev d3V:Str:="check_length"
abbrev d3W:Str:="is_below"
abbrev d3X:Str:="check_each"
abbrev d3Y:Str:="plan"
abbrev d3Z:Str:="held"
abbrev d4a:Str:="place"
abbrev d4b:Str:="check_held"
abbrev d4c:Str:="deed"
abbrev d4d:Str:="nexts"
abbrev d4e:Str:="steps"
abbrev d4f:Str:="following"
abbrev d4g:Str:="steps_of"
abbrev d4h:Str:="self"
abbrev d4i:Str:="step"
abbrev d4j:Str:="order"
abbrev d4k:Str:="target"
abbrev d4l:Str:="unwaiting_places"
abbrev d4m:Str:="places_alive_behind"
abbrev d4n:Str:="ready_behind"
abbrev d4o:Str:="is_spoilt_ahead"
abbrev d4p:Str:="wanted_behind"
abbrev d4q:Str:="unready_steps"
abbrev d4r:Str:="unwanted_ends"
abbrev d4s:Str:="unwanted_steps"
abbrev d4t:Str:="Choice"
abbrev d4u:Str:="most"
abbrev d4v:Str:="ValueError"
abbrev d4w:Str:="_law_refused"
abbrev d4x:Str:="are_nexts"
abbrev d4y:Str:="rows"
abbrev d4z:Str:="check_nexts"
abbrev d4A:Str:="stops_of"
abbrev d4B:Str:="check_ways"
abbrev d4C:Str:="_law_plan_here"
section
def top(i:Nat):Stmt:=PySem.Challenge.pw_oncedone_k59_choices_refused.main.body.getD i (.Pass ⟨0,0,0,0⟩)
abbrev c2i:Stmt:=top 57
abbrev c0P:Stmt:=top 58
abbrev c5d:Stmt:=top 59
abbrev a7f:Stmt:=top 60
abbrev b7l:Stmt:=top 61
abbrev b7k:Stmt:=top 62
abbrev b2e:Stmt:=top 63
abbrev c0S:Stmt:=top 64
abbrev c5a:Stmt:=top 65
abbrev c0Q:Stmt:=top 66
abbrev a7E:Stmt:=top 70
abbrev b0g:Stmt:=top 69
abbrev c5e:Stmt:=top 67
abbrev a9d:Stmt:=top 9
abbrev b0b:Stmt:=top 7
abbrev b0c:Stmt:=top 8
abbrev a7A:Stmt:=top 10
abbrev b2h:Stmt:=top 11
abbrev a3L:Stmt:=top 28
abbrev b0d:Stmt:=top 27
abbrev a5q:Stmt:=top 29
abbrev a3M:Stmt:=top 52
abbrev b1a:Stmt:=top 51
abbrev b2i:Stmt:=top 14
abbrev c0R:Stmt:=top 16
abbrev a7z:Stmt:=top 38
abbrev a7F:Stmt:=A5 (top 39) 1
abbrev a5a:Stmt:=A5 (top 39) 2
abbrev a3k:Stmt:=top 53
abbrev a3O:Stmt:=A5 (top 39) 3
abbrev a1M:Stmt:=top 54
abbrev a5Q:Stmt:=A5 (top 49) 3
abbrev a3Q:Stmt:=A5 (top 55) 1
abbrev a3P:Stmt:=A5 (top 55) 2
abbrev a5b:Stmt:=A5 (top 55) 3
abbrev a3m:Stmt:=A5 (top 47) 1
abbrev a3l:Stmt:=A5 (top 47) 3
abbrev b4r:Stmt:=top 15
abbrev b4q:Stmt:=top 17
abbrev a4x:Stmt:=A5 (top 43) 1
abbrev a2m:Stmt:=A5 (top 43) 2
abbrev a4w:Stmt:=A5 (top 43) 3
abbrev a0P:Stmt:=A5 (top 49) 2
abbrev Z8:Stmt:=A5 (top 47) 2
abbrev a3R:Stmt:=A5 (top 49) 1
abbrev b2d:Stmt:=top 41
abbrev a4Y:Stmt:=top 42
abbrev a3N:Stmt:=A5 (top 43) 0
abbrev a4X:Stmt:=top 45
abbrev a2E:Stmt:=top 46
abbrev a6D:Stmt:=A5 (top 47) 0
abbrev a4H:Stmt:=A5 (top 49) 0
abbrev a0g:Stmt:=A5 (top 55) 0
abbrev b4t:Stmt:=A5 (top 20) 0
abbrev b0f:Stmt:=A5 (top 21) 0
abbrev b0e:Stmt:=A5 (top 22) 0
abbrev b2b:Stmt:=top 68
abbrev a6E:Stmt:=A5 (top 55) 6
abbrev a6F:Stmt:=A5 (top 55) 7
abbrev a5P:Stmt:=A5 (top 55) 8
abbrev b4s:Stmt:=top 12
abbrev a6r:Stmt:=top 32
abbrev a4G:Stmt:=top 33
abbrev b2c:Stmt:=top 36
abbrev b0Z:Stmt:=top 35
abbrev a7y:Stmt:=top 34
abbrev a7D:Stmt:=top 37
abbrev a3u:Stmt:=A5 (top 39) 0
abbrev b6v:Stmt:=top 71
structure Txt(K:Fg)(mg:Str->Option Value)(c:Cn):Prop where
 d2A:mg "abs"=none
 c6L:mg "all"=none
 d2z:mg "any"=none
 c6K:mg "bool"=none
 c1X:mg "dict"=none
 a0K:mg "enumerate"=none
 c9t:mg "int"=none
 G7:mg "isinstance"=none
 R6:mg "len"=none
 a0A:mg "list"=none
 d2y:mg "min"=none
 a1B:mg "range"=none
 c6J:mg "sorted"=none
 d2x:mg "str"=none
 c2P:mg "tuple"=none
 d2w:mg "zip"=none
 c8B:∃u,mg "BOUND"=some u/\K0 (.int 1000000000000) u
 b8t:∃u,mg "DEED_KINDS"=some u/\K0 (.ref c.a8c) u
 c4l:∃u,mg "FIGURES"=some u/\K0 (.str "0123456789") u
 a0e:∃u,mg "FIRST_STEP"=some u/\K0 (.ref c.N7) u
 b6R:∃u,mg "LETTERS"=some u/\K0 (.str "abcdefghijklmnopqrstuvwxyz") u
 b5F:∃u,mg "LONGEST_NAME"=some u/\K0 (.int 8) u
 c1W:∃u,mg "MOST"=some u/\K0 (.int 400) u
 c6I:∃u,mg "Plan"=some u/\K0 (.ref c.M5) u
abbrev scF(ns:List (Str×a9z)):Scope:={ kind:=.function,names:=ns,isGenerator:=false,isCoroutine:=false,more:=[] }
local macro_rules | `(tactic| walk_at "c0") => `(tactic| exact ⟨rfl, by decide +kernel, by decide +kernel, by decide +kernel, by decide +kernel, by decide +kernel, by decide +kernel, by decide +kernel⟩)
local macro_rules | `(tactic| walk_at "c1") => `(tactic| exact ⟨rfl, by decide +kernel, by decide +kernel, by decide +kernel, c2x (by decide +kernel), by decide +kernel, by decide +kernel, by decide +kernel⟩)
local macro_rules | `(tactic| walk_at "c2") => `(tactic| exact ⟨rfl, by decide +kernel, by decide +kernel, by decide +kernel, by decide +kernel, by decide +kernel, by decide +kernel, by decide +kernel⟩)
local macro_rules | `(tactic| walk_at "c3") => `(tactic| exact ⟨rfl, by decide +kernel, by decide +kernel, by decide +kernel, c2x (by decide +kernel), by decide +kernel, by decide +kernel, by decide +kernel⟩)
def c0i(f:List Value->Prop):List Str->Prop
 |[]=>f []
 |_::r=>∀u,c0i (λus=>f (u::us)) r
theorem c0i.mp:∀ {ps:List Str} {f:List Value->Prop},c0i f ps->∀us,us.length=ps.length->f us
 |[],_,h,[],_=>h
 |_::_,_,h,u::us,e=>c0i.mp (h u) us (Nat.succ.inj e)
section
variable {P:A4}{w:World}{K:Fg}{mg:Str->Option Value}{base h:Heap}{c:Cn}{f C:Addr}{fd:Q5}{x q:Str}{st:Stmt}{N ps:List Str}{k:Nat}{t:TS}{pm cd:Value}{sp:Sp}
open PySem.Spec PyProof.Rows in
theorem fk(F:Fun K x q st f fd)(S:v8 N ps (g8 st))(b:∀cdv A outer s H E,Q1 k (A.deeper (a8e q (g8 st) s.heap.objs.size f cdv))->N.Nodup->PSs (a7U CX0 P w K mg base N q (g8 st) f cdv A outer s H E).nox (R1 st) t):E3 P w K mg base CX0 (k+1) f fd ps (spD ps.length N.length t):=
 a8z F S (λ_ _ _ _ h=>h.1) λcdv A outer s H _ _ E hr h=>⟨t,b cdv A outer s H E hr S.nd,h.2⟩
open PySem.Spec PyProof.Rows in
theorem fkX{t:XK->TS}(F:Fun K x q st f fd)(S:v8 N ps (g8 st))(b:∀cdv A outer s H E,Q1 k (A.deeper (a8e q (g8 st) s.heap.objs.size f cdv))->N.Nodup->PSs (a7U (CX1 P w) P w K mg base N q (g8 st) f cdv A outer s H E) (R1 st) (t E)):E3 P w K mg base (CX1 P w) (k+1) f fd ps (spX ps.length N.length t):=
 c2R F S (λ_ _ _ _ h=>h.1) λcdv A outer s H _ _ E hr h=>⟨t E,b cdv A outer s H E hr S.nd,h.2⟩
abbrev fdM(x q:Str)(st:Stmt)(pm cd:Value):Q5:=T8 x q (a1d st) (R1 st) (g8 st) .none .none .none pm none cd .none
structure FnI(K:Fg)(x q:Str)(st:Stmt)(f:Addr)(pm cd:Value):Prop where
 l:K.lookup f=some ⟨.type "function",none,.func (fdM x q st pm cd),#[]⟩
 c:a4l K cd q=true
 k:O8 K (.ref f)=true
structure FnG(K:Fg)(x:Str)(st:Stmt)(f:Addr)(pm cd:Value):Prop where
 i:FnI K x x st f pm cd
 a:C5 K w6 x=some (some (.ref f))
structure FnM(K:Fg)(C:Addr)(x q:Str)(st:Stmt)(f:Addr)(pm cd:Value):Prop where
 i:FnI K x q st f pm cd
 a:o0 K (.ref C) x=some (some (.ref f))
 n:a8t K (.ref f)=true
theorem FnI.F(h:FnI K x q st f pm cd):Fun K x q st f (fdM x q st pm cd):=d0N h.l h.c h.k
abbrev BdA(x q:Str)(st:Stmt)(ps:List Str):Prop:=∀(kV doc pm:Value) (an:Option Addr) (cdv ct:Value),c0i (λus=>bindArgs (T8 x q (a1d st) (R1 st) (g8 st) .none kV doc pm an cdv ct) ⟨us,[]⟩=pure (ps.zip us)) ps
theorem mkC(X:K.In h)(G:h.Ns w6 mg)(g:FnG K x st f pm cd)(O:E3 P w K mg base CX0 k f (fdM x x st pm cd) ps sp)(B:BdA x x st ps):K9 P w K mg base k x ps sp:=c3X g.i.F O (E6 X G g.a) (g.i.F.binds λ_ _ _ _ _ _ us hl=>(B _ _ _ _ _ _).mp us hl)
theorem mkM(g:FnM K C x q st f pm cd)(cl:Cls K C)(O:E3 P w K mg base CX0 k f (fdM x q st pm cd) ps sp)(B:BdA x q st ps):V0 P w K mg base k x C ps sp:=⟨_,_,O,cl,⟨g.a,g.n,g.i.k⟩,g.i.F.binds λ_ _ _ _ _ _ us hl=>(B _ _ _ _ _ _).mp us hl⟩
theorem mkK{y:Str}(X:K.In h)(G:h.Ns w6 mg)(g:FnM K C d3m q st f pm cd)(y1:C5 K w6 y=some (some (.ref C)))(m:a1O K C=true)(kc:O8 K (.ref C)=true)(O:E3 P w K mg base CX0 k f (fdM d3m q st pm cd) ps sp)(B:BdA d3m q st ps):b1G P w K mg base k y C ps sp:=⟨_,_,O,E6 X G y1,⟨m,g.a,g.n,kc⟩,g.i.F.binds λ_ _ _ _ _ _ us hl=>(B _ _ _ _ _ _).mp us hl⟩
variable {D:Addr}{its:Array Value}{n:Nat}
abbrev fdD(x q:Str)(st:Stmt)(D:Addr)(pm cd:Value):Q5:=T8 x q (a1d st) (R1 st) (g8 st) (.ref D) .none .none pm none cd .none
structure FnD(K:Fg)(C:Addr)(x q:Str)(st:Stmt)(D f:Addr)(pm cd:Value)(its:Array Value)(n:Nat):Prop where
 l:K.lookup f=some ⟨.type "function",none,.func (fdD x q st D pm cd),#[]⟩
 c:a4l K cd q=true
 k:O8 K (.ref f)=true
 a:o0 K (.ref C) x=some (some (.ref f))
 fn:a8t K (.ref f)=true
 t:K.lookup D=some ⟨.type "tuple",none,.seq its n,#[]⟩
theorem FnD.F(h:FnD K C x q st D f pm cd its n):b2M K x q st D f (fdD x q st D pm cd):=⟨⟨_,_,_,_,_,_,_,_,_,rfl,h.l,h.c⟩⟩
open PySem.Spec PyProof.Rows in
theorem fkD(F:b2M K x q st D f fd)(S:v8 N ps (g8 st))(b:∀cdv A outer s H E,Q1 k (A.deeper (a8e q (g8 st) s.heap.objs.size f cdv))->N.Nodup->PSs (a7U CX0 P w K mg base N q (g8 st) f cdv A outer s H E).nox (R1 st) t):E3 P w K mg base CX0 (k+1) f fd ps (spD ps.length N.length t):=
 c2S F S (λ_ _ _ _ h=>h.1) λcdv A outer s H _ _ E hr h=>⟨t,b cdv A outer s H E hr S.nd,h.2⟩
abbrev BdD(x q:Str)(st:Stmt)(D:Addr)(its:Array Value)(ps:List Str):Prop:=∀(kV doc pm:Value) (an:Option Addr) (cdv ct:Value),c0i (λus=>∃k,bindArgs (T8 x q (a1d st) (R1 st) (g8 st) (.ref D) kV doc pm an cdv ct) ⟨us,[]⟩=(seqItems? (.ref D) >>= k)/\k (some its)=pure (ps.zip us)) ps
theorem d2V{y:Str}(X:K.In h)(G:h.Ns w6 mg)(g:FnD K C d3m q st D f pm cd its n)(y1:C5 K w6 y=some (some (.ref C)))(m:a1O K C=true)(kc:O8 K (.ref C)=true)(O:E3 P w K mg base CX0 k f (fdD d3m q st D pm cd) ps sp)(B:BdD d3m q st D its ps):b1G P w K mg base k y C ps sp:=⟨_,_,O,E6 X G y1,⟨m,g.a,g.fn,kc⟩,g.F.binds (ds:=[]) g.t rfl λ_ _ _ _ _ _ us hl=>by rw[F9]at hl ⊢;exact(B _ _ _ _ _ _).mp us hl⟩
open PySem.Spec PyProof.Rows in
theorem d3f{t:XK->TS}(F:b2M K x q st D f fd)(S:v8 N ps (g8 st))(b:∀cdv A outer s H E,Q1 k (A.deeper (a8e q (g8 st) s.heap.objs.size f cdv))->N.Nodup->PSs (a7U (CX1 P w) P w K mg base N q (g8 st) f cdv A outer s H E) (R1 st) (t E)):E3 P w K mg base (CX1 P w) (k+1) f fd ps (spX ps.length N.length t):=
 c0t F S (λ_ _ _ _ h=>h.1) λcdv A outer s H _ _ E hr h=>⟨t E,b cdv A outer s H E hr S.nd,h.2⟩
abbrev BdK(x q:Str)(st:Stmt)(D:Addr)(its:Array Value)(kn:Str)(qs ps:List Str):Prop:=∀(kV doc pm:Value) (an:Option Addr) (cdv ct:Value),c0i (λus=>∀z,∃k,bindArgs (T8 x q (a1d st) (R1 st) (g8 st) (.ref D) kV doc pm an cdv ct) ⟨us,[(kn,z)]⟩=(seqItems? (.ref D) >>= k)/\k (some its)=pure (ps.zip (us++[z]))) qs
theorem d2T{y kn:Str}{qs:List Str}(X:K.In h)(G:h.Ns w6 mg)(g:FnD K C d3m q st D f pm cd its n)(y1:C5 K w6 y=some (some (.ref C)))(m:a1O K C=true)(kc:O8 K (.ref C)=true)(O:E3 P w K mg base CX0 k f (fdD d3m q st D pm cd) ps sp)(e:qs.length+1=ps.length)(B:BdK d3m q st D its kn qs ps):b5w P w K mg base k y C ps kn sp:=⟨_,_,O,E6 X G y1,⟨m,g.a,g.fn,kc⟩,g.F.bindsK g.t rfl λ_ _ _ _ _ _ us z hl=>(B _ _ _ _ _ _).mp us (by rw[u5,<-e]at hl;exact Nat.succ.inj hl) z⟩
abbrev BdE(x q:Str)(st:Stmt)(D:Addr)(its:Array Value)(qs ps:List Str):Prop:=∀(kV doc pm:Value) (an:Option Addr) (cdv ct:Value),c0i (λus=>∃k,bindArgs (T8 x q (a1d st) (R1 st) (g8 st) (.ref D) kV doc pm an cdv ct) ⟨us,[]⟩=(seqItems? (.ref D) >>= k)/\k (some its)=pure (ps.zip (us++[.none]))) qs
theorem d2U{y:Str}{qs:List Str}(X:K.In h)(G:h.Ns w6 mg)(g:FnD K C d3m q st D f pm cd its n)(y1:C5 K w6 y=some (some (.ref C)))(m:a1O K C=true)(kc:O8 K (.ref C)=true)(O:E3 P w K mg base CX0 k f (fdD d3m q st D pm cd) ps sp)(e:qs.length+1=ps.length)(B:BdE d3m q st D its qs ps):b8m P w K mg base k y C ps [.non] sp:=⟨_,_,[.none],O,E6 X G y1,⟨m,g.a,g.fn,kc⟩,g.F.binds (ds:=[.none]) g.t rfl λ_ _ _ _ _ _ us hl=>(B _ _ _ _ _ _).mp us (by rw[u5,<-e]at hl;exact Nat.succ.inj hl),.cons rfl .nil⟩
end
section
variable {P:A4}{w:World}{K:Fg}{mg:Str->Option Value}{base:Heap}{c:Cn}{D:Addr}{f:Addr}{fd:Q5}(T:Txt K mg c)
abbrev c5F:List Str:=[d3n]
theorem c9E:v8 [d3n] c5F (g8 c2i):=by walk_at "sc"
theorem c6v:V1 [d3n] (g8 c2i) (scF [ (".0",.local),("_law_cell",.local),("abs",.globalImplicit)]) "_law_cell" := by walk_at "c0"
include T in
theorem d0s(F:Fun K d3o d3o c2i f fd):E3 P w K mg base CX0 1 f fd c5F (b7f K):=fk F c9E λ_ _ _ _ _ _ hr nd=>c9 (A0 (O5 (J8 c6 (V4 c6 c6 (U7 c6v rfl (Q0 (a8I c2f (b5 0) b1i (b1h c6))) (λ_ _ _ _ _=>U3) (λ_ _ _ _ _=>u7 c4a rfl T.d2A PyProof.Rows.boot_abs (j9 (b5 0))))))))
variable(c2H:K9 P w K mg base 1 d3o c5F (b7f K))
abbrev c1c:List Str:=[d3p,d3q]
theorem c7g:v8 [d3p,d3q,"_law_more","_law_cell","_law_value",d3r,"_law_second"] c1c (g8 c0P):=by walk_at "sc"
include T in
theorem c7G(F:Fun K d3s d3s c0P f fd):E3 P w K mg base CX0 1 f fd c1c (E1 K):=fk F c7g λ_ _ _ _ _ _ hr nd=>b9 (E5 (D8 (D1 hr) (v5 (b5 0) c6) c6) (b9 (A6 2 nd c6) (b9 (E5 (D8 a4b (v5 (b5 0) c6) (u7 A9 rfl T.R6 p5 (j9 (v5 (b5 0) c6)))) (b9 (A6 3 nd (v5 (v5 (b5 0) c6) (v5 (b5 0) c6))) (b9 (c7u (b5 0) c6 d2b c6 b4Z b2V) (b9 (E5 (D8 d0h (b5 3) c6) (c9 (a7H (b5 3) (b0h (b5 0) c6 b2V))) z5) (c9 (A6 2 nd (W1 a1y (W1 a6t (b5 3) c6) c6)))))) z5) (c9 (a7H (W1 a6t (W1 a1y (W1 b1k (v5 (b5 0) c6) c6) (b5 2)) c6) (b0h (b5 0) c6 b2V))))) z5) (b9 (E5 (D8 a7M (v5 (b5 0) c6) c6) (b9 (A6 4 nd (W1 a6t (v5 (b5 0) c6) (b5 1))) (b9 (a7H (W1 c2s (v5 (b5 0) c6) (b5 1)) (b0h (b5 0) c6 b2V)) (c9 (A0 (b5 4))))) z5) (b9 (A6 5 nd (W1 a6t (W1 b1k (v5 (b5 0) c6) c6) c6)) (b9 (A6 6 nd (W1 a6t (W1 b1k (b5 5) c6) c6)) (b9 (E5 (D8 a7M (b5 1) c6) (c9 (A0 (W1 a6t (W1 a1y (W1 b1k (b5 6) c6) (b5 5)) (b5 1)))) z5) (c9 (A0 (W1 a6t (W1 c2s (b5 6) c6) (b5 1))))))))
variable(D5:K9 P w K mg base 1 d3s c1c (E1 K))
abbrev c5D:List Str:=[d3p,d3q]
theorem c9C:v8 [d3p,d3q,d3t,d3u,"_law_near",d3v,d3w] c5D (g8 c5d):=by walk_at "sc"
include T D5 in
theorem d0p(F:Fun K d3x d3x c5d f fd):E3 P w K mg base CX0 2 f fd c5D (b7e K):=fk F c9C λ_ _ _ _ _ _ hr nd=>b9 (A6 2 nd (O5 a4z)) (b9 (a0b PassesOwn.never rfl (V9 rfl T.a1B (j9 (b5 1))) (P6 3 nd) (b9 (A6 4 nd (u7 (c3Y rfl) rfl T.d2y PyProof.Rows.boot_min (u8 (W1 a1y (b5 3) c6) (W1 b3I (b5 1) c6)))) (b9 (A6 5 nd (O5 (u8 (b5 4) (t6 D5 hr (u8 (b5 0) (b5 1)))))) (b9 (A6 6 nd (t6 D5 hr (u8 (b5 0) c6))) (b9 (E5 (D8 a4b (b5 6) c6) (c9 (A6 5 nd (O5 (u8 (v5 (b5 5) c6) (b5 4))))) z5) (b9 (E5 (D8 (D1 hr) (b5 6) c6) (c9 (A6 5 nd (O5 (u8 (v5 (b5 5) c6) (t6 D5 hr (u8 (b5 0) (b5 1))))))) z5) (b9 (E5 (N6 (a3w (N6 (a3T (D8 a7M (b5 6) c6) (a3d (D8 a4b (b5 6) c6)))) (a1v (D8 (D1 hr) (b5 1) c6)))) (c9 (A6 5 nd (O5 (j9 (b5 4))))) z5) (b9 (E5 (N6 (a3T (D8 (D1 hr) (b5 6) c6) (a3d (D8 a7M (b5 1) c6)))) (c9 (A6 5 nd (O5 (j9 (v5 (b5 5) c6))))) z5) (b9 (E5 (N6 (a3w (D8 (D1 hr) (b5 3) (W1 b3I (b5 1) c6)) (a1v (N6 (a3T (D8 (D1 hr) (b5 6) c6) (a3d (D8 (D1 hr) (t6 D5 hr (u8 (b5 0) c6)) c6))))))) (c9 (A6 5 nd (O5 a4z))) z5) (c9 (P8 (a5j C0 E8 E7 Z1 (b5 2) (j9 (b5 5)))))))))))))) (c9 (A0 (b5 2))))
variable(c2G:K9 P w K mg base 2 d3x c5D (b7e K))
abbrev b4H:List Str:=[d3t]
theorem c3h:v8 [d3t,d3y,d3z,d3u,d3A,d3B,d3C] b4H (g8 a7f):=by walk_at "sc"
theorem b9W:V1 [d3t,d3y,d3z,d3u,d3A,d3B,d3C] (g8 a7f) (scF [ (".0",.local),(d3B,.local),(d3y,.free)]) d3B := by walk_at "c0"
theorem b9V:V1 [d3t,d3y,d3z,d3u,d3A,d3B,d3C] (g8 a7f) (scF [ (".0",.local),(d3u,.local),("len",.globalImplicit),(d3y,.free),(d3t,.free)]) d3u := by walk_at "c0"
theorem b9U:V1 [d3t,d3y,d3z,d3u,d3A,d3B,d3C] (g8 a7f) (scF [ (".0",.local),(d3u,.local),(d3t,.free),(d3C,.free)]) d3u := by walk_at "c0"
theorem b9T(env:Env):V1 [d3u,d3t,d3y,d3z,"._law_k",d3A,d3B,d3C] (c4w (scF [ (".0",.local),(d3u,.local),(d3t,.free),(d3C,.free)]) env) (scF [ (".0",.local),(d3B,.local),(d3C,.free)]) d3B := by walk_at "c1"
include T in
theorem c3x(F:Fun K d3D d3D a7f f fd):E3 P w K mg base CX0 1 f fd b4H (a9b K):=fk F c3h λ_ _ _ _ _ _ hr nd=>b9 (A6 1 nd a8K) (b9 (a0b PassesOwn.never rfl (V9 rfl T.a1B (j9 (u7 A9 rfl T.R6 p5 (j9 (b5 0))))) (P6 2 nd) (c9 (a0b PassesOwn.never rfl (V9 rfl T.a1B (j9 (u7 A9 rfl T.R6 p5 (j9 (b5 0))))) (P6 3 nd) (c9 (E5 (N6 (a3w (D8 (D1 hr) (v5 (b5 0) (b5 3)) (O5 a4z)) (a1v (F6 (u7 (c3Z rfl) rfl T.d2z PyProof.Rows.boot_any (j9 (U7 b9W rfl (Q0 (v5 (b5 0) (b5 3))) (λ_ _ _ _ _=>U3) (λ_ _ _ _ _=>c4z hr (b5 0) (b5 2) rfl)))))))) (c9 (a2y hr (b5 1) (b5 3) a1j)) z5))))) (b9 (A6 0 nd (U7 b9V rfl (V9 rfl T.a1B (j9 (u7 A9 rfl T.R6 p5 (j9 (b5 0))))) (λ_ _ _ _ _=>U3) (λ_ _ _ _ _=>a8J (b8A hr (b5 0) (b5 2) rfl) (v5 (b5 1) (b5 0)) (W1 a1y (O5 (j9 (W1 b3I (u7 A9 rfl T.R6 p5 (j9 (b5 1))) c6))) (a8I c7a (v5 (b5 1) (b5 0)) (b1h c6) b1i))))) (b9 (A6 4 nd (b7D (b4y c6 a1j b7z))) (b9 (a0b PassesOwn.never rfl (V9 rfl T.a1B (j9 (u7 A9 rfl T.R6 p5 (j9 (b5 0))))) (P6 2 nd) (c9 (a0b PassesOwn.never rfl (V9 rfl T.a1B (j9 (u7 A9 rfl T.R6 p5 (j9 (b5 0))))) (P6 3 nd) (c9 (E5 (b8A hr (b5 3) (b5 4) rfl) (c9 (a0b PassesOwn.never rfl (Q0 (v5 (b5 0) (b5 3))) (P6 5 nd) (c9 (a2y hr (b5 4) (b5 5) a1j)))) z5))))) (b9 (A6 6 nd (u7 b7Z rfl T.c6J PyProof.Rows.boot_sorted (j9 (O7 (a3x rfl) rfl T.a0A u9 (j9 (b5 4)))))) (c9 (A0 (U7 b9U rfl (Q0 (b5 6)) (λ_ _ _ _ _=>U3) (λ_ _ _ _ _=>U7 (b9T _) rfl (Q0 (v5 (b5 1) (b5 0))) (λ_ _ _ _ _=>U3) (λ_ _ _ _ _=>a5j C0 b8u PySem.F.type_list_index c3C (b5 8) (j9 (b5 0))))))))))))
variable(b1A:K9 P w K mg base 1 d3D b4H (a9b K))
abbrev c1e:List Str:=[d3p,d3u]
theorem c7i:v8 [d3p,d3u,"_law_size","_law_signs"] c1e (g8 b7l):=by walk_at "sc"
theorem c3W:V1 [d3p,d3u,"_law_size","_law_signs"] (g8 b7l) (scF [ (".0",.local),(d3z,.local),(d3s,.globalImplicit),(d3p,.free),("_law_signs",.free)]) d3z := by walk_at "c0"
include T D5 in
theorem c7I(F:Fun K d3E d3E b7l f fd):E3 P w K mg base CX0 2 f fd c1e (b3G K):=fk F c7i λ_ _ _ _ _ _ hr nd=>b9 (E5 (D8 (D1 hr) (t6 D5 hr (u8 (b5 0) c6)) c6) (c9 (A0 (v5 (O5 (J8 F0 (J8 F0 (J8 F0 (V4 F0 F0 F0))))) (t6 D5 hr (u8 (b5 0) c6))))) z5) (b9 (A6 2 nd (W1 a1y (W1 b1k (t6 D5 hr (u8 (b5 0) c6)) c6) (W1 a6t (b5 1) c6))) (b9 (A6 3 nd F0) (c9 (A0 (W1 a1y (v5 (b5 3) (t6 D5 hr (u8 (b5 0) c6))) (a5j PySem.F.plainAttrs_str PySem.F.slot_str_join PySem.F.type_str_join c5N F0 (j9 (U7 c3W rfl (V9 rfl T.a1B (j9 (b5 2))) (λ_ _ _ _ _=>U3) (λ_ _ _ _ _=>v5 (b5 4) (t6 D5 hr (u8 (b5 1) c6)))))))))))
variable(b8f:K9 P w K mg base 2 d3E c1e (b3G K))
abbrev b7E:List Str:=[d3p]
theorem c4W:v8 [d3p,"_law_found",d3u] b7E (g8 b7k):=by walk_at "sc"
include T D5 b8f in
theorem c5I(F:Fun K d3F d3F b7k f fd):E3 P w K mg base CX0 3 f fd b7E (b0U K):=fk F c4W λ_ _ _ _ _ _ hr nd=>b9 (A6 1 nd a8K) (b9 (a0b PassesOwn.never rfl (V9 rfl T.a1B (j9 (W1 a1y c6 (t6 D5 hr (u8 (b5 0) c6))))) (P6 2 nd) (c9 (a2y hr (b5 1) (t6 b8f hr (u8 (b5 0) (b5 2))) a1j))) (c9 (A0 (O7 (a3x rfl) rfl T.a0A u9 (j9 (b5 1))))))
variable(b3Q:K9 P w K mg base 3 d3F b7E (b0U K))
abbrev b2m:List Str:=[d3p,d3G]
theorem c0K:v8 [d3p,d3G,d3w] b2m (g8 b2e):=by walk_at "sc"
include T D5 in
theorem c1m(F:Fun K d3H d3H b2e f fd):E3 P w K mg base CX0 2 f fd b2m (a2f K):=fk F c0K λ_ _ _ _ _ _ hr nd=>b9 (E5 (D8 a7M (t6 D5 hr (u8 (b5 0) c6)) c6) (c9 (A0 (v5 (b5 1) (t6 D5 hr (u8 (b5 0) (u7 A9 rfl T.R6 p5 (j9 (b5 1)))))))) z5) (b9 (A6 2 nd (t6 D5 hr (u8 (b5 0) c6))) (b9 (E5 (D8 a4b (b5 2) c6) (c9 (A0 (b5 2))) z5) (b9 (E5 (D8 (D1 hr) (b5 2) c6) (c9 (A0 c6)) z5) (c9 (A0 (t6 D5 hr (u8 (b5 0) c6)))))))
variable(a0C:K9 P w K mg base 2 d3H b2m (a2f K))
abbrev c1g:List Str:=[d3p,d3G]
theorem c7k:v8 [d3p,d3G,"_law_kind"] c1g (g8 c0S):=by walk_at "sc"
include T D5 a0C in
theorem c7K(F:Fun K d3I d3I c0S f fd):E3 P w K mg base CX0 3 f fd c1g (b3H K):=fk F c7k λ_ _ _ _ _ _ hr nd=>b9 (A6 2 nd (v5 (O5 (J8 F0 (J8 F0 (V4 F0 F0 F0)))) (t6 D5 hr (u8 (b5 0) c6)))) (c9 (A0 (J5 (V4 (b5 2) (t6 a0C hr (u8 (b5 0) (b5 1))) (t6 a0C hr (u8 (b5 0) (b5 1)))))))
variable(b8g:K9 P w K mg base 3 d3I c1g (b3H K))
abbrev c5C:List Str:=[d3p,d3G,d3J]
theorem c9B:v8 [d3p,d3G,d3J,d3w,"_law_name_here"] c5C (g8 c5a):=by walk_at "sc"
include T D5 a0C in
theorem d0o(F:Fun K d3K d3K c5a f fd):E3 P w K mg base CX0 3 f fd c5C (b7d K):=fk F c9B λ_ _ _ _ _ _ hr nd=>b9 (A6 3 nd (t6 D5 hr (u8 (b5 0) c6))) (b9 (A6 4 nd (v5 (b5 1) (t6 D5 hr (u8 (b5 0) (u7 A9 rfl T.R6 p5 (j9 (b5 1))))))) (b9 (E5 (D8 a4b (b5 3) c6) (c9 (A0 (J5 (V4 F0 (b5 4) (v5 (b5 2) (t6 D5 hr (u8 (b5 0) (u7 A9 rfl T.R6 p5 (j9 (b5 2)))))))))) z5) (b9 (E5 (D8 (D1 hr) (b5 3) c6) (c9 (A0 (J5 (V4 F0 (b5 4) (t6 a0C hr (u8 (b5 0) (b5 1))))))) z5) (b9 (E5 (D8 (D1 hr) (b5 3) c6) (c9 (A0 (J5 (u8 F0 (b5 4))))) z5) (c9 (A0 (v5 (O5 (u8 (J5 (u8 F0 (t6 a0C hr (u8 (b5 0) (b5 1))))) (J5 (j9 F0)))) (t6 D5 hr (u8 (b5 0) c6)))))))))
variable(c2F:K9 P w K mg base 3 d3K c5C (b7d K))
abbrev c1d:List Str:=[d3p]
theorem c7h:v8 [d3p,"_law_large",d3q,d3t,d3G,d3J,d3u,d3L,d3v] c1d (g8 c0Q):=by walk_at "sc"
include T D5 c2G b1A b3Q a0C b8g c2F in
theorem c7H(F:Fun K d3M d3M c0Q f fd):E3 P w K mg base CX0 4 f fd c1d (b3F K):=fk F c7h λ_ _ _ _ _ _ hr nd=>b9 (A6 1 nd (a7r (D1 hr) (t6 D5 hr (u8 (b5 0) c6)) c6)) (b9 (A6 2 nd (W1 a1y c6 (t6 D5 hr (u8 (b5 0) c6)))) (b9 (E5 (F6 (b5 1)) (c9 (A6 2 nd (W1 a1y c6 (t6 D5 hr (u8 (b5 0) c6))))) z5) (b9 (A6 3 nd (t6 b1A hr (j9 (t6 c2G hr (u8 (b5 0) (b5 2)))))) (b9 (A6 4 nd (t6 b3Q hr (j9 (b5 0)))) (b9 (A6 5 nd (O5 a4z)) (b9 (a0b PassesOwn.never rfl (V9 rfl T.a1B (j9 (W1 a1y c6 (t6 D5 hr (u8 (b5 0) c6))))) (P6 6 nd) (c9 (P8 (a5j C0 E8 E7 Z1 (b5 5) (j9 (t6 b8g hr (u8 (b5 0) (a8I c7a (b5 4) b1i (b1h c6))))))))) (b9 (A6 7 nd (O5 a4z)) (b9 (a0b PassesOwn.never rfl (Q0 (b5 3)) (P6 8 nd) (c9 (E5 (D8 (D1 hr) (u7 A9 rfl T.R6 p5 (j9 (b5 8))) c6) (c9 (P8 (a5j C0 E8 E7 Z1 (b5 7) (j9 (J5 (u8 F0 (t6 a0C hr (u8 (b5 0) (b5 4))))))))) (c9 (P8 (a5j C0 E8 E7 Z1 (b5 7) (j9 (t6 c2F hr (V4 (b5 0) (b5 4) (b5 5)))))))))) (c9 (A0 (J5 (V4 (b5 7) (b5 3) (b5 5)))))))))))))
variable(b8e:K9 P w K mg base 4 d3M c1d (b3F K))
abbrev b0n:List Str:=[d3p,d3q]
theorem b8W:v8 [d3p,d3q,d3w,d3v,"_law_at","_law_odd"] b0n (g8 a7E):=by walk_at "sc"
theorem b6f:V1 [d3p,d3q,d3w,d3v,"_law_at","_law_odd"] (g8 a7E) (scF [ (".0",.local),(d3u,.local),(d3s,.globalImplicit),(d3p,.free),(d3q,.free)]) d3u := by walk_at "c0"
include T D5 in
theorem b9s(F:Fun K d3N d3N a7E f fd):E3 P w K mg base CX0 2 f fd b0n (a6p K):=fk F b8W λ_ _ _ _ _ _ hr nd=>b9 (A6 2 nd (t6 D5 hr (u8 (b5 0) c6))) (b9 (E5 (D8 (D1 hr) (b5 2) c6) (c9 (A0 (J5 (u8 (J5 a4z) (J5 (u8 F0 c6)))))) z5) (b9 (E5 (D8 (D1 hr) (b5 2) c6) (c9 (A0 (J5 (u8 (v5 (O5 (J8 c6 (V4 F0 a1j (b7D (b4y c6 c6 b7z))))) (t6 D5 hr (u8 (b5 0) c6))) (J5 (u8 F0 c6)))))) z5) (b9 (E5 (D8 (D1 hr) (b5 2) c6) (c9 (A0 (J5 (u8 (W1 c5H (O5 (j9 (v5 (O5 (u8 c6 a3V)) (t6 D5 hr (u8 (b5 0) c6))))) (W1 a1y c6 (t6 D5 hr (u8 (b5 0) c6)))) (J5 (u8 F0 c6)))))) z5) (b9 (a7G (i:=3) nd rfl rfl b6f rfl (V9 rfl T.a1B (j9 (W1 a1y c6 (t6 D5 hr (u8 (b5 0) c6))))) (λ_ _ _ _ _=>U3) (λ_ _ _ _ _=>t6 D5 hr (u8 (b5 1) (b5 2)))) (b9 (A6 4 nd (t6 D5 hr (u8 (b5 0) (u7 A9 rfl T.R6 p5 (j9 (b5 3)))))) (b9 (A6 5 nd (O5 (J8 (c9a c4E c6) (J8 (b5 1) (J8 (W1 a1y (b5 1) c6) (J8 a3V (J8 a1j (J8 a1j (V4 F0 (J5 (j9 c6)) (O5 (j9 c6))))))))))) (b9 (a7H (v5 (b5 5) (t6 D5 hr (u8 (b5 0) c6))) (b0h (b5 3) (b5 4) b2V)) (b9 (E5 (D8 (D1 hr) (t6 D5 hr (u8 (b5 0) c6)) c6) (c9 (P8 (a5j C0 E8 E7 Z1 (b5 3) (j9 (v5 (b5 5) (t6 D5 hr (u8 (b5 0) c6))))))) z5) (c9 (A0 (J5 (u8 (b5 3) (J5 (u8 F0 (b5 4)))))))))))))))
variable(a7X:K9 P w K mg base 2 d3N b0n (a6p K))
abbrev b0o:List Str:=[d3p,d3O]
theorem b8X:v8 [d3p,d3O,d3w,"_law_odd"] b0o (g8 b0g):=by walk_at "sc"
include T D5 in
theorem b9t(F:Fun K d3P d3P b0g f fd):E3 P w K mg base CX0 2 f fd b0o (a6q K):=fk F b8X λ_ _ _ _ _ _ hr nd=>b9 (A6 2 nd (t6 D5 hr (u8 (b5 0) c6))) (b9 (E5 (D8 (D1 hr) (b5 2) c6) (c9 (A0 (v5 (O5 (J8 a3V (J8 a1j (V4 F0 c6 a8K)))) (t6 D5 hr (u8 (b5 0) c6))))) z5) (b9 (E5 (D8 (D1 hr) (b5 2) c6) (c9 (A0 (O5 (V4 (v5 (b5 1) c6) (v5 (b5 1) c6) (v5 (b5 1) c6))))) z5) (b9 (E5 (D8 (D1 hr) (b5 2) c6) (c9 (A0 (J5 (V4 (v5 (O5 (J8 F0 (J8 F0 (V4 F0 a3V c6)))) (t6 D5 hr (u8 (b5 0) c6))) (v5 (b5 1) c6) (v5 (b5 1) c6))))) z5) (b9 (E5 (D8 (D1 hr) (b5 2) c6) (c9 (A0 (J5 (u8 (v5 (b5 1) c6) (v5 (b5 1) c6))))) z5) (b9 (E5 (D8 (D1 hr) (b5 2) c6) (c9 (A0 (J5 (J8 (v5 (b5 1) c6) (V4 (v5 (b5 1) c6) (v5 (b5 1) c6) c6))))) z5) (b9 (A6 3 nd (v5 (O5 (J8 F0 (J8 F0 (J8 F0 (J8 F0 (J8 F0 (J8 (c9a c4E c6) (J8 c6 (J8 a1j (V4 a3V (J5 (j9 c6)) (O5 (j9 F0)))))))))))) (t6 D5 hr (u8 (b5 0) c6)))) (b9 (E5 (D8 a4b (b5 2) c6) (c9 (A0 (J5 (V4 (v5 (b5 1) c6) (b5 3) (v5 (b5 1) c6))))) z5) (c9 (A0 (J5 (V4 (v5 (b5 1) c6) (v5 (b5 1) c6) (b5 3))))))))))))
variable(a7Y:K9 P w K mg base 2 d3P b0o (a6q K))
abbrev c5E:List Str:=["_law_found"]
theorem c9D:v8 ["_law_found"] c5E (g8 c5e):=by walk_at "sc"
include T in
theorem d0r(F:Fun K d3Q d3Q c5e f fd):E3 P w K mg base CX0 1 f fd c5E (c0C K):=fk F c9D λ_ _ _ _ _ _ hr nd=>c9 (A0 (a0R (u7 a1l rfl T.G7 o6 (u8 (b5 0) (a3e rfl T.c9t b6k rfl))) (a1i (b4A (u7 a1l rfl T.G7 o6 (u8 (b5 0) (a3e rfl T.c6K b5I rfl)))))))
variable(c_int:K9 P w K mg base 1 d3Q c5E (c0C K))
abbrev b2n:List Str:=[d3R]
theorem c0L:v8 [d3R] b2n (g8 a9d):=by walk_at "sc"
theorem b7Y:V1 [d3R] (g8 a9d) (scF [ (".0",.local),("sign",.local),("LETTERS",.globalImplicit),("FIGURES",.globalImplicit)]) "sign" := by walk_at "c0"
include T in
theorem c1n(F:Fun K "is_name" "is_name" a9d f fd):E3 P w K mg base CX0 1 f fd b2n (Y7 K):=fk F c0L λ_ _ _ _ _ _ hr nd=>b9 (E5 (N6 (a3w (a0a (F6 (u7 a1l rfl T.G7 o6 (u8 (b5 0) (a3e rfl T.d2x PyProof.Rows.boot_str rfl))))) (a1v (a0a (c5u b7F b7F c6 (u7 A9 rfl T.R6 p5 (j9 (b5 0))) (D6 T.b5F rfl)))))) (c9 (A0 a1j)) z5) (c9 (A0 (a0R (a3W b2q (v5 (b5 0) c6) (D6 T.b6R rfl) rfl) (a1i (u7 (b2G rfl) rfl T.c6L a7o (j9 (U7 b7Y rfl (c9X (b5 0)) (λ_ _ _ _ _=>U3) (λ_ _ _ _ _=>a3W b2q (b5 0) (W1 a1y (D6 T.b6R rfl) (D6 T.c4l rfl)) rfl))))))))
variable(a2J:K9 P w K mg base 1 "is_name" b2n (Y7 K))
abbrev b0k:List Str:=[d3R]
theorem b8R:v8 [d3R] b0k (g8 b0b):=by walk_at "sc"
include T in
theorem b9n(F:Fun K d3S d3S b0b f fd):E3 P w K mg base CX0 1 f fd b0k (a2g K):=fk F b8R λ_ _ _ _ _ _ hr nd=>c9 (A0 (a0R (u7 a1l rfl T.G7 o6 (u8 (b5 0) (a3e rfl T.c9t b6k rfl))) (a1i (b4A (u7 a1l rfl T.G7 o6 (u8 (b5 0) (a3e rfl T.c6K b5I rfl)))))))
variable(a3r:K9 P w K mg base 1 d3S b0k (a2g K))
abbrev b0l:List Str:=[d3R]
theorem b8S:v8 [d3R] b0l (g8 b0c):=by walk_at "sc"
include T a3r in
theorem b9o(F:Fun K d3T d3T b0c f fd):E3 P w K mg base CX0 2 f fd b0l (a4R K):=fk F b8S λ_ _ _ _ _ _ hr nd=>c9 (A0 (a0R (t6 a3r hr (j9 (b5 0))) (a1i (b9k b7F a4b c6 (b5 0) (D6 T.c8B rfl)))))
variable(a7W:K9 P w K mg base 2 d3T b0l (a4R K))
abbrev a7I:List Str:=[d3R]
theorem b5Q:v8 [d3R] a7I (g8 a7A):=by walk_at "sc"
include T a2J a7W in
theorem b5W(F:Fun K d3U d3U a7A f fd):E3 P w K mg base CX0 3 f fd a7I (a0f K):=fk F b5Q λ_ _ _ _ _ _ hr nd=>c9 (A0 (c2p (t6 a2J hr (j9 (b5 0))) (a1i (t6 a7W hr (j9 (b5 0))))))
variable(a0c:K9 P w K mg base 3 d3U a7I (a0f K))
abbrev b2o:List Str:=[d3R]
theorem c0M:v8 [d3R] b2o (g8 b2h):=by walk_at "sc"
include T a0c in
theorem c1o(F:Fun K "is_deed" "is_deed" b2h f fd):E3 P w K mg base CX0 4 f fd b2o (a0L K c):=fk F c0M λ_ _ _ _ _ _ hr nd=>b9 (E5 (N6 (a3w (a0a (F6 (u7 a1l rfl T.G7 o6 (u8 (b5 0) (a3e rfl T.c2P b5B rfl))))) (a1v (D8 (b8B hr) (u7 A9 rfl T.R6 p5 (j9 (b5 0))) c6)))) (c9 (A0 a1j)) z5) (c9 (A0 (a0R (a3W c7D (v5 (b5 0) c6) (D6 T.b8t rfl) rfl) (a0R (t6 a0c hr (j9 (v5 (b5 0) c6))) (a1i (t6 a0c hr (j9 (v5 (b5 0) c6))))))))
variable(c_is_deed:K9 P w K mg base 4 "is_deed" b2o (a0L K c))
abbrev a1k:List Str:=["things","at","least"]
theorem a8j:v8 ["things","at","least"] a1k (g8 a3L):=by walk_at "sc"
include T in
theorem a8k(F:Fun K d3V d3V a3L f fd):E3 P w K mg base CX0 1 f fd a1k (Y8 K):=fk F a8j λ_ _ _ _ _ _ hr nd=>b9 (E5 (N6 (a3w (a0a (F6 (u7 a1l rfl T.G7 o6 (u8 (b5 0) (a3e rfl T.a0A u9 rfl))))) (a1v (D8 a4b (u7 A9 rfl T.R6 p5 (j9 (b5 0))) (b5 2))))) (c9 a5U) z5) (c9 (E5 (D8 a7M (u7 A9 rfl T.R6 p5 (j9 (b5 0))) (D6 T.c1W rfl)) (c9 a5U) z5))
variable(c_check_length:K9 P w K mg base 1 d3V a1k (Y8 K))
abbrev b0m:List Str:=[d3R,"many"]
theorem b8T:v8 [d3R,"many"] b0m (g8 b0d):=by walk_at "sc"
include T a3r in
theorem b9p(F:Fun K d3W d3W b0d f fd):E3 P w K mg base CX0 2 f fd b0m (a2h K):=fk F b8T λ_ _ _ _ _ _ hr nd=>c9 (A0 (a0R (t6 a3r hr (j9 (b5 0))) (a1i (b9k b7F a4b c6 (b5 0) (b5 1)))))
variable(c_is_below:K9 P w K mg base 2 d3W b0m (a2h K))
abbrev a2H:List Str:=["rights"]
theorem a9J:v8 ["rights","k","right"] a2H (g8 a5q):=by walk_at "sc"
include T in
theorem a9L(F:Fun K d3X d3X a5q f fd):E3 P w K mg base CX0 1 f fd a2H (a0M K):=fk F a9J λ_ _ _ _ _ _ hr nd=>c9 (a0b PassesOwn.never rfl (a5r rfl T.a0K (j9 (b5 0))) (a6I rfl (S9 (P6 1 nd) (S9 (P6 2 nd) a4J))) (c9 (E5 (a0a (F6 (b5 2))) (c9 a5U) z5)))
variable(c_check_each:K9 P w K mg base 1 d3X a2H (a0M K))
abbrev a2G:List Str:=[d3Y,d3Z,"at"]
theorem a9I:v8 [d3Y,d3Z,"at"] a2G (g8 a3M):=by walk_at "sc"
theorem a8m:V1 [d3Y,d3Z,"at"] (g8 a3M) (scF [ (".0",.local),(d4a,.local),(d3W,.globalImplicit),("len",.globalImplicit),(d3Y,.free)]) d4a := by walk_at "c0"
include T c_check_length c_is_below c_check_each in
theorem a9K(F:Fun K d4b d4b a3M f fd):E3 P w K mg base CX0 3 f fd a2G (a1I K):=fk F a9I λ_ _ _ _ _ _ hr nd=>c9 (E5 (D8 b6B (b5 1) a3V) (b9 (P8 (t6 c_check_length hr (V4 (b5 1) (b5 2) c6))) (c9 (P8 (t6 c_check_each hr (j9 (U7 a8m rfl (Q0 (b5 1)) (λ_ _ _ _ _=>U3) (λ_ _ _ _ _=>t6 c_is_below hr (u8 (b5 0) (u7 A9 rfl T.R6 p5 (j9 (L6 (b5 1)))))))))))) z5)
variable(c_check_held:K9 P w K mg base 3 d4b a2G (a1I K))
abbrev b4I:List Str:=["things"]
theorem c3i:v8 ["things"] b4I (g8 b1a):=by walk_at "sc"
theorem b9X:V1 ["things"] (g8 b1a) (scF [(".0",.local),(d3R,.local)]) d3R := by walk_at "c0"
include T in
theorem c3y(F:Fun K "marked" "marked" b1a f fd):E3 P w K mg base CX0 1 f fd b4I (a2B K):=fk F c3i λ_ _ _ _ _ _ hr nd=>c9 (A0 (O7 (b5M rfl hr) rfl T.c1X a6S (j9 (U7 b9X rfl (Q0 (b5 0)) (λ_ _ _ _ _=>U3) (λ_ _ _ _ _=>J5 (u8 (b5 0) a1j))))))
variable(c_marked:K9 P w K mg base 1 "marked" b4I (a2B K))
abbrev b2p:List Str:=["row"]
theorem c0N:v8 ["row"] b2p (g8 b2i):=by walk_at "sc"
include T in
theorem c1p(F:Fun K "deed_of" "deed_of" b2i f fd):E3 P w K mg base CX0 1 f fd b2p (a9W K):=fk F c0N λ_ _ _ _ _ _ hr nd=>c9 (A0 (a8J (D8 (D1 hr) (v5 (b5 0) c6) F0) (v5 (b5 0) c6) a3V))
variable(a9m:K9 P w K mg base 1 "deed_of" b2p (a9W K))
abbrev c1f:List Str:=["row",d4c]
theorem c7j:v8 ["row",d4c] c1f (g8 c0R):=by walk_at "sc"
include T a9m in
theorem c7J(F:Fun K "does" "does" c0R f fd):E3 P w K mg base CX0 2 f fd c1f (a3I K):=fk F c7j λ_ _ _ _ _ _ hr nd=>c9 (A0 (a7r (D1 hr) (t6 a9m hr (j9 (b5 0))) (b5 1)))
variable(c_does:K9 P w K mg base 2 "does" c1f (a3I K))
abbrev b0j:List Str:=[d4d]
theorem b8Q:v8 [d4d,d4e,d4a,d4f] b0j (g8 a7z):=by walk_at "sc"
theorem b6e:V1 [d4d,d4e,d4a,d4f] (g8 a7z) (scF [ (".0",.local),("at",.local),(d4a,.free)]) "at" := by walk_at "c0"
include T in
theorem b9m(F:Fun K d4g d4g a7z f fd):E3 P w K mg base CX0 1 f fd b0j (a4Q K c):=fk F b8Q λ_ _ _ _ _ _ hr nd=>b9 (A6 1 nd (O5 (j9 (D6 T.a0e rfl)))) (b9 (a0b PassesOwn.never rfl (a5r rfl T.a0K (j9 (b5 0))) (a6I rfl (S9 (P6 2 nd) (S9 (P6 3 nd) a4J))) (c9 (P8 (a5j C0 b8q b8p b4T (b5 1) (j9 (U7 b6e rfl (V9 rfl T.a1B (j9 (u7 A9 rfl T.R6 p5 (j9 (b5 3))))) (λ_ _ _ _ _=>U3) (λ_ _ _ _ _=>J5 (u8 (b5 3) (b5 0))))))))) (c9 (A0 (b5 1))))
variable(a3q:K9 P w K mg base 1 d4g b0j (a4Q K c))
abbrev a7L:List Str:=[d4h]
theorem b5T:v8 [d4h] a7L (g8 a7F):=by walk_at "sc"
include T a3q in
theorem b5Z(F:Fun K d4e "Plan.steps" a7F f fd):E3 P w K mg base CX0 2 f fd a7L (a1J K c):=fk F b5T λ_ _ _ _ _ _ hr nd=>c9 (A0 (t6 a3q hr (j9 (L6 (b5 0)))))
variable(c_Plan_steps:V0 P w K mg base 2 d4e c.M5 a7L (a1J K c))
abbrev a5e:List Str:=[d4h,d4i]
theorem b1Y:v8 [d4h,d4i] a5e (g8 a5a):=by walk_at "sc"
include T in
theorem b2t(F:Fun K "leads_to" "Plan.leads_to" a5a f fd):E3 P w K mg base CX0 1 f fd a5e (U2 K c):=fk F b1Y λ_ _ _ _ _ _ hr nd=>b9 (E5 (a1w (b7G hr) (b5 1) (D6 T.a0e rfl) (a1z _)) (c9 (A0 c6)) z5) (c9 (A0 (v5 (v5 (L6 (b5 0)) (v5 (b5 1) c6)) (v5 (b5 1) c6))))
variable(L7:V0 P w K mg base 1 "leads_to" c.M5 a5e (U2 K c))
abbrev a3n:List Str:=[d3Y,d4c,"brinks",d3Z]
theorem a9p:v8 [d3Y,d4c,"brinks",d3Z,"fallen",d4i,d4j,"done",d4a,"at",d4k] a3n (g8 a3k):=by walk_at "sc"
include T c_marked c_does c_Plan_steps L7 in
theorem a9u(F:Fun K d4l d4l a3k f fd):E3 P w K mg base CX0 3 f fd a3n (a1a K c):=fk F a9p λ_ _ _ _ _ _ hr nd=>b9 (A6 4 nd (t6 c_marked hr (j9 (b5 3)))) (b9 (a0b PassesOwn.never rfl (Q0 (a0B c_Plan_steps hr (by decide) (b5 0))) (P6 5 nd) (c9 (E5 (N6 (a3T (a8x hr (b5 5) (b5 2) rfl) (a3d (N6 (a3w (a1w (b7G hr) (b5 5) (D6 T.a0e rfl) (a1z _)) (a1v (F6 (t6 c_does hr (u8 (v5 (L6 (b5 0)) (v5 (b5 5) c6)) (b5 1)))))))))) (c9 (a2y hr (b5 4) (S0 L7 hr (by decide) (b5 0) (j9 (b5 5))) a1j)) z5))) (b9 (A6 6 nd (O7 (a3x rfl) rfl T.a0A u9 (j9 (b5 4)))) (b9 (A6 7 nd c6) (b9 (a8H PassesOwn.never (D8 a4b (b5 7) (u7 A9 rfl T.R6 p5 (j9 (b5 6)))) (b9 (A6 8 nd (v5 (b5 6) (b5 7))) (b9 (b7y (i:=7) nd rfl (Or.inl rfl) c6 b4Z) (c9 (a0b PassesOwn.never rfl (a5r rfl T.a0K (j9 (v5 (L6 (b5 0)) (b5 8)))) (a6I rfl (S9 (P6 9 nd) (S9 (P6 10 nd) a4J))) (c9 (E5 (N6 (a3T (a8x hr (J5 (u8 (b5 8) (b5 9))) (b5 2) rfl) (a3d (a1s hr (b5 10) (b5 4) rfl)))) (b9 (a2y hr (b5 4) (b5 10) a1j) (c9 (P8 (a5j C0 E8 E7 Z1 (b5 6) (j9 (b5 10)))))) z5))))))) (c9 (A0 (b5 4)))))))
variable(c_unwaiting_places:K9 P w K mg base 3 d4l a3n (a1a K c))
abbrev a3X:List Str:=[d4h,d4a]
theorem a9X:v8 [d4h,d4a] a3X (g8 a3O):=by walk_at "sc"
include T in
theorem b0p(F:Fun K "steps_into" "Plan.steps_into" a3O f fd):E3 P w K mg base CX0 1 f fd a3X (a0n K):=fk F a9X λ_ _ _ _ _ _ hr nd=>c9 (A0 (O7 a0T rfl T.a0A u9 (j9 (v5 (L6 (b5 0)) (b5 1)))))
variable(U8:V0 P w K mg base 1 "steps_into" c.M5 a3X (a0n K))
abbrev a1N:List Str:=[d3Y,"puts","outs","stays"]
theorem a7x:v8 [d3Y,"puts","outs","stays","found",d4j,"done","here",d4i,d4a] a1N (g8 a1M):=by walk_at "sc"
include T U8 in
theorem a7N(F:Fun K d4m d4m a1M f fd):E3 P w K mg base CX0 2 f fd a1N (Z7 K c):=fk F a7x λ_ _ _ _ _ _ hr nd=>b9 (A6 4 nd a8K) (b9 (A6 5 nd (O7 (a3x rfl) rfl T.a0A u9 (j9 (b5 2)))) (b9 (A6 6 nd c6) (b9 (a8H PassesOwn.never (D8 a4b (b5 6) (u7 A9 rfl T.R6 p5 (j9 (b5 5)))) (b9 (A6 7 nd (v5 (b5 5) (b5 6))) (b9 (b7y (i:=6) nd rfl (Or.inl rfl) c6 b4Z) (c9 (a0b PassesOwn.never rfl (Q0 (S0 U8 hr (by decide) (b5 0) (j9 (b5 7)))) (P6 8 nd) (b9 (A6 9 nd (c9b d1Z (b5 8) c6 (λ_ _=>rfl))) (c9 (E5 (N6 (a3T (a1w (b3J hr) (b5 8) (D6 T.a0e rfl) (a1z _)) (a3T (a8x hr (b5 8) (b5 1) rfl) (a3d (a1s hr (b5 9) (b5 4) rfl))))) (b9 (a2y hr (b5 4) (b5 9) a1j) (c9 (E5 (a1s hr (b5 9) (b5 3) rfl) (c9 (P8 (a5j C0 E8 E7 Z1 (b5 5) (j9 (b5 9))))) z5))) z5)))))))) (c9 (A0 (b5 4))))))
variable(c_places_alive_behind:K9 P w K mg base 2 d4m a1N (Z7 K c))
abbrev a5W:List Str:=[d4h]
theorem b3n:v8 [d4h] a5W (g8 a5Q):=by walk_at "sc"
include T in
theorem b3t(F:Fun K d4e "Brinks.steps" a5Q f fd):E3 P w K mg base CX0 1 f fd a5W (a3b K):=fk F b3n λ_ _ _ _ _ _ hr nd=>c9 (A0 (O7 (b3g rfl) rfl T.a0A u9 (j9 (L6 (b5 0)))))
variable(c_Brinks_steps:V0 P w K mg base 1 d4e c.J0 a5W (a3b K))
abbrev a3Z:List Str:=[d4h,d4a]
theorem a9Z:v8 [d4h,d4a] a3Z (g8 a3Q):=by walk_at "sc"
include T in
theorem b0r(F:Fun K "waits_at" "Choice.waits_at" a3Q f fd):E3 P w K mg base CX0 1 f fd a3Z (T5 K):=fk F a9Z λ_ _ _ _ _ _ hr nd=>c9 (A0 (a8y hr (b5 1) (L6 (b5 0)) rfl))
variable(c_Choice_waits_at:V0 P w K mg base 1 "waits_at" c.v6 a3Z (T5 K))
abbrev a3Y:List Str:=[d4h,d4i]
theorem a9Y:v8 [d4h,d4i] a3Y (g8 a3P):=by walk_at "sc"
include T c_does c_Choice_waits_at in
theorem b0q(F:Fun K "waits_on" "Choice.waits_on" a3P f fd):E3 P w K mg base CX0 3 f fd a3Y (a1t K c):=fk F a9Y λ_ _ _ _ _ _ hr nd=>b9 (E5 (c4y hr (b5 1) (L6 (b5 0)) rfl) (c9 (A0 a1j)) z5) (c9 (A0 (a0R (a3W (b3J hr) (b5 1) (D6 T.a0e rfl) (a1z _)) (a0R (S0 c_Choice_waits_at hr (by decide) (b5 0) (j9 (v5 (b5 1) c6))) (a1i (b4A (t6 c_does hr (u8 (v5 (L6 (L6 (b5 0))) (v5 (b5 1) c6)) (L6 (b5 0))))))))))
variable(a1U:V0 P w K mg base 3 "waits_on" c.v6 a3Y (a1t K c))
abbrev a5f:List Str:=[d4h,d4i]
theorem b1Z:v8 [d4h,d4i] a5f (g8 a5b):=by walk_at "sc"
include T L7 c_Choice_waits_at a1U in
theorem b2u(F:Fun K "is_put" "Choice.is_put" a5b f fd):E3 P w K mg base CX0 4 f fd a5f (a2C K c):=fk F b1Z λ_ _ _ _ _ _ hr nd=>c9 (A0 (a0R (S0 a1U hr (by decide) (b5 0) (j9 (b5 1))) (a1i (b4A (S0 c_Choice_waits_at hr (by decide) (b5 0) (j9 (S0 L7 hr (by decide) (L6 (b5 0)) (j9 (b5 1)))))))))
variable(c_Choice_is_put:V0 P w K mg base 4 "is_put" c.v6 a5f (a2C K c))
abbrev a3p:List Str:=[d4h,d4a]
theorem a9r:v8 [d4h,d4a] a3p (g8 a3m):=by walk_at "sc"
include T in
theorem a9w(F:Fun K "wanted_at" "Wanted.wanted_at" a3m f fd):E3 P w K mg base CX0 1 f fd a3p (Z3 K):=fk F a9r λ_ _ _ _ _ _ hr nd=>c9 (A0 (a8y hr (b5 1) (L6 (b5 0)) rfl))
variable(T6:V0 P w K mg base 1 "wanted_at" c.T0 a3p (Z3 K))
abbrev a3o:List Str:=[d4h,d4i]
theorem a9q:v8 [d4h,d4i] a3o (g8 a3l):=by walk_at "sc"
include T L7 T6 in
theorem a9v(F:Fun K "wanted_on" "Wanted.wanted_on" a3l f fd):E3 P w K mg base CX0 2 f fd a3o (a1b K c):=fk F a9q λ_ _ _ _ _ _ hr nd=>c9 (A0 (S0 T6 hr (by decide) (b5 0) (j9 (S0 L7 hr (by decide) (L6 (b5 0)) (j9 (b5 1))))))
variable(a1A:V0 P w K mg base 2 "wanted_on" c.T0 a3o (a1b K c))
abbrev b4G:List Str:=["row"]
theorem c3g:v8 ["row"] b4G (g8 b4r):=by walk_at "sc"
include T in
theorem c3w(F:Fun K "set_by" "set_by" b4r f fd):E3 P w K mg base CX0 1 f fd b4G (b1U K):=fk F c3g λ_ _ _ _ _ _ hr nd=>c9 (A0 (a8J (a1w b2q (v5 (b5 0) c6) (J5 (V4 F0 F0 F0)) rfl) (v5 (b5 0) c6) a3V))
variable(b1z:K9 P w K mg base 1 "set_by" b4G (b1U K))
abbrev b4F:List Str:=["row",d4c]
theorem c3f:v8 ["row",d4c] b4F (g8 b4q):=by walk_at "sc"
include T b1z in
theorem c3v(F:Fun K "spoils" "spoils" b4q f fd):E3 P w K mg base CX0 2 f fd b4F (a4t K):=fk F c3f λ_ _ _ _ _ _ hr nd=>c9 (A0 (a3W b2q (t6 b1z hr (j9 (b5 0))) (a8I c7a (b5 1) (b1h c6) b1i) rfl))
variable(a1m:K9 P w K mg base 2 "spoils" b4F (a4t K))
abbrev a4C:List Str:=[d4h,d4a]
theorem b0X:v8 [d4h,d4a] a4C (g8 a4x):=by walk_at "sc"
include T in
theorem b1n(F:Fun K "ready_at" "Ready.ready_at" a4x f fd):E3 P w K mg base CX0 1 f fd a4C (a1R K):=fk F b0X λ_ _ _ _ _ _ hr nd=>c9 (A0 (a8y hr (b5 1) (L6 (b5 0)) rfl))
variable(a2L:V0 P w K mg base 1 "ready_at" c.Y4 a4C (a1R K))
abbrev a2n:List Str:=[d4h,d4a]
theorem a8q:v8 [d4h,d4a,"row"] a2n (g8 a2m):=by walk_at "sc"
include T c_does a1m a2L in
theorem a8r(F:Fun K d4n "Ready.ready_behind" a2m f fd):E3 P w K mg base CX0 3 f fd a2n (a0r K c):=fk F a8q λ_ _ _ _ _ _ hr nd=>b9 (A6 2 nd (v5 (L6 (L6 (b5 0))) (b5 1))) (b9 (E5 (F6 (t6 a1m hr (u8 (b5 2) (L6 (b5 0))))) (c9 (A0 a1j)) z5) (c9 (A0 (c2p (t6 c_does hr (u8 (b5 2) (L6 (b5 0)))) (a1i (S0 a2L hr (by decide) (b5 0) (j9 (b5 1))))))))
variable(a0F:V0 P w K mg base 3 d4n c.Y4 a2n (a0r K c))
abbrev a4B:List Str:=[d4h,d4i]
theorem b0W:v8 [d4h,d4i] a4B (g8 a4w):=by walk_at "sc"
include T a0F in
theorem b1m(F:Fun K "ready_on" "Ready.ready_on" a4w f fd):E3 P w K mg base CX0 4 f fd a4B (a1Q K c):=fk F b0W λ_ _ _ _ _ _ hr nd=>c9 (A0 (a0R (a3W (b3J hr) (b5 1) (D6 T.a0e rfl) (a1z _)) (a1i (S0 a0F hr (by decide) (b5 0) (j9 (v5 (b5 1) c6))))))
variable(a2K:V0 P w K mg base 4 "ready_on" c.Y4 a4B (a1Q K c))
abbrev a0S:List Str:=[d4h,d4i]
theorem a6g:v8 [d4h,d4i] a0S (g8 a0P):=by walk_at "sc"
include T a1m in
theorem a6h(F:Fun K d4o "Brinks.is_spoilt_ahead" a0P f fd):E3 P w K mg base CX0 3 f fd a0S (Q7 K):=fk F a6g λ_ _ _ _ _ _ hr nd=>c9 (A0 (t6 a1m hr (u8 (v5 (L6 (L6 (b5 0))) (v5 (b5 1) c6)) (L6 (b5 0)))))
variable(W8:V0 P w K mg base 3 d4o c.J0 a0S (Q7 K))
abbrev a1x:List Str:=[d4h,d4a]
theorem a7e:v8 [d4h,d4a,d4f] a1x (g8 Z8):=by walk_at "sc"
theorem a6i:V1 [d4h,d4a,d4f] (g8 Z8) (scF [ (".0",.local),(d4k,.local),(d4h,.free)]) d4k := by walk_at "c0"
include T T6 in
theorem a7h(F:Fun K d4p "Wanted.wanted_behind" Z8 f fd):E3 P w K mg base CX0 2 f fd a1x (U1 K c):=fk F a7e λ_ _ _ _ _ _ hr nd=>b9 (A6 2 nd (v5 (L6 (L6 (b5 0))) (b5 1))) (c9 (A0 (a0R (a7r a7M (u7 A9 rfl T.R6 p5 (j9 (b5 2))) c6) (a1i (u7 (b2G rfl) rfl T.c6L a7o (j9 (U7 a6i rfl (Q0 (b5 2)) (λ_ _ _ _ _=>U3) (λ_ _ _ _ _=>S0 T6 hr (by decide) (b5 1) (j9 (b5 0))))))))))
variable(a0d:V0 P w K mg base 2 d4p c.T0 a1x (U1 K c))
abbrev a4a:List Str:=[d4h,d4i]
theorem b0a:v8 [d4h,d4i] a4a (g8 a3R):=by walk_at "sc"
include T a1A a2K W8 a0d in
theorem b0s(F:Fun K "is_brink" "Brinks.is_brink" a3R f fd):E3 P w K mg base CX0 5 f fd a4a (a1u K c):=fk F b0a λ_ _ _ _ _ _ hr nd=>b9 (E5 (N6 (a3w (a0a (F6 (S0 a1A hr (by decide) (L6 (b5 0)) (j9 (b5 1))))) (a1v (F6 (S0 a2K hr (by decide) (L6 (b5 0)) (j9 (b5 1))))))) (c9 (A0 a1j)) z5) (c9 (A0 (c2p (a3W (b7G hr) (b5 1) (D6 T.a0e rfl) (a1z _)) (c2p (S0 W8 hr (by decide) (b5 0) (j9 (b5 1))) (a1i (b4A (S0 a0d hr (by decide) (L6 (b5 0)) (j9 (v5 (b5 1) c6)))))))))
variable(a1V:V0 P w K mg base 5 "is_brink" c.J0 a4a (a1u K c))
abbrev b2l:List Str:=[d3Y,d4a,"come_by",d4j]
theorem c0J:v8 [d3Y,d4a,"come_by",d4j,"at",d4k] b2l (g8 b2d):=by walk_at "sc"
include T in
theorem c1l(F:Fun K "pass_on" "pass_on" b2d f fd):E3 P w K mg base CX0 1 f fd b2l (a5K K):=fk F c0J λ_ _ _ _ _ _ hr nd=>c9 (a0b PassesOwn.never rfl (a5r rfl T.a0K (j9 (v5 (L6 (b5 0)) (b5 1)))) (a6I rfl (S9 (P6 4 nd) (S9 (P6 5 nd) a4J))) (c9 (E5 (a1s hr (b5 5) (b5 2) rfl) (b9 (a2y hr (b5 2) (b5 5) (J5 (u8 (b5 1) (b5 4)))) (c9 (P8 (a5j C0 E8 E7 Z1 (b5 3) (j9 (b5 5)))))) z5)))
variable(a7j:K9 P w K mg base 1 "pass_on" b2l (a5K K))
abbrev a5d:List Str:=[d3Y,"made","broken"]
theorem b1X:v8 [d3Y,"made","broken","come_by",d4j,d4a,"done"] a5d (g8 a4Y):=by walk_at "sc"
include T a7j in
theorem b2s(F:Fun K d4q d4q a4Y f fd):E3 P w K mg base CX0 2 f fd a5d (a2A K c):=fk F b1X λ_ _ _ _ _ _ hr nd=>b9 (A6 3 nd (b7D (b4y c6 (D6 T.a0e rfl) b7z))) (b9 (A6 4 nd (O5 (j9 c6))) (b9 (a0b PassesOwn.never rfl (V9 rfl T.a1B (j9 (u7 A9 rfl T.R6 p5 (j9 (L6 (b5 0)))))) (P6 5 nd) (c9 (E5 (F6 (v5 (b5 2) (b5 5))) (c9 (P8 (t6 a7j hr (J8 (b5 0) (V4 (b5 5) (b5 3) (b5 4)))))) z5))) (b9 (A6 6 nd c6) (b9 (a8H PassesOwn.never (D8 a4b (b5 6) (u7 A9 rfl T.R6 p5 (j9 (b5 4)))) (b9 (A6 5 nd (v5 (b5 4) (b5 6))) (b9 (b7y (i:=6) nd rfl (Or.inl rfl) c6 b4Z) (c9 (E5 (a0a (F6 (v5 (b5 1) (b5 5)))) (c9 (P8 (t6 a7j hr (J8 (b5 0) (V4 (b5 5) (b5 3) (b5 4)))))) z5))))) (c9 (A0 (b5 3)))))))
variable(a3h:K9 P w K mg base 2 d4q a5d (a2A K c))
abbrev a7K:List Str:=[d4h,d3Y,d4c]
theorem b5S:v8 [d4h,d3Y,d4c,"made"] a7K (g8 a3N):=by walk_at "sc"
theorem b3B:V1 [d4h,d3Y,d4c,"made"] (g8 a3N) (scF [ (".0",.local),("row",.local),("does",.globalImplicit),(d4c,.free)]) "row" := by walk_at "c0"
theorem b3A:V1 [d4h,d3Y,d4c,"made"] (g8 a3N) (scF [ (".0",.local),("row",.local),("spoils",.globalImplicit),(d4c,.free)]) "row" := by walk_at "c0"
include T c_does a1m a3h in
theorem b5Y(F:Fun K d3m "Ready.__init__" a3N f fd):E3 P w K mg base CX0 3 f fd a7K (a2X K c):=fk F b5S λ_ _ _ _ _ _ hr nd=>b9 (a0Q (b5 0) (b5 1)) (b9 (a0Q (b5 0) (b5 2)) (b9 (a7G (i:=3) nd rfl rfl b3B rfl (Q0 (L6 (b5 1))) (λ_ _ _ _ _=>U3) (λ_ _ _ _ _=>t6 c_does hr (u8 (b5 0) (b5 3)))) (c9 (a0Q (b5 0) (t6 a3h hr (V4 (b5 1) (b5 3) (U7 b3A rfl (Q0 (L6 (b5 1))) (λ_ _ _ _ _=>U3) (λ_ _ _ _ _=>t6 a1m hr (u8 (b5 0) (b5 3))))))))))
variable(b3L:b1G P w K mg base 3 "Ready" c.Y4 a7K (a2X K c))
abbrev a5c:List Str:=[d3Y,d4c]
theorem b1W:v8 [d3Y,d4c,"ends",d4a,"row"] a5c (g8 a4X):=by walk_at "sc"
include T c_does a1m in
theorem b2r(F:Fun K d4r d4r a4X f fd):E3 P w K mg base CX0 3 f fd a5c (a2z K):=fk F b1W λ_ _ _ _ _ _ hr nd=>b9 (A6 2 nd (O5 a4z)) (b9 (a0b PassesOwn.never rfl (a5r rfl T.a0K (j9 (L6 (b5 0)))) (a6I rfl (S9 (P6 3 nd) (S9 (P6 4 nd) a4J))) (c9 (E5 (N6 (a3T (a0a (F6 (t6 c_does hr (u8 (b5 4) (b5 1))))) (a3d (N6 (a3w (F6 (t6 a1m hr (u8 (b5 4) (b5 1)))) (a1v (D8 (D1 hr) (u7 A9 rfl T.R6 p5 (j9 (v5 (L6 (b5 0)) (b5 3)))) c6))))))) (c9 (P8 (a5j C0 E8 E7 Z1 (b5 2) (j9 (b5 3))))) z5))) (c9 (A0 (b5 2))))
variable(a3g:K9 P w K mg base 3 d4r a5c (a2z K))
abbrev a4A:List Str:=[d3Y,d4c]
theorem b0V:v8 [d3Y,d4c,d4j,"goes_by","done","here",d4i] a4A (g8 a2E):=by walk_at "sc"
theorem a9x:V1 [d3Y,d4c,d4j,"goes_by","done","here",d4i] (g8 a2E) (scF [(".0",.local),(d4a,.local)]) d4a := by walk_at "c0"
include T c_does U8 a3g in
theorem b1l(F:Fun K d4s d4s a2E f fd):E3 P w K mg base CX0 4 f fd a4A (a1P K c):=fk F b0V λ_ _ _ _ _ _ hr nd=>b9 (A6 2 nd (t6 a3g hr (u8 (b5 0) (b5 1)))) (b9 (A6 3 nd (O7 (c0a rfl) rfl T.c1X a6S (j9 (U7 a9x rfl (Q0 (b5 2)) (λ_ _ _ _ _=>U3) (λ_ _ _ _ _=>J5 (u8 (b5 0) a3V)))))) (b9 (A6 4 nd c6) (b9 (a8H PassesOwn.never (D8 a4b (b5 4) (u7 A9 rfl T.R6 p5 (j9 (b5 2)))) (b9 (A6 5 nd (v5 (b5 2) (b5 4))) (b9 (b7y (i:=4) nd rfl (Or.inl rfl) c6 b4Z) (c9 (a0b PassesOwn.never rfl (Q0 (S0 U8 hr (by decide) (b5 0) (j9 (b5 5)))) (P6 6 nd) (c9 (E5 (N6 (a3T (a1w (b3J hr) (b5 6) (D6 T.a0e rfl) (a1z _)) (a3T (a1s hr (v5 (b5 6) c6) (b5 3) rfl) (a3d (a0a (F6 (t6 c_does hr (u8 (v5 (L6 (b5 0)) (v5 (b5 6) c6)) (b5 1))))))))) (b9 (a2y hr (b5 3) (v5 (b5 6) c6) (b5 6)) (c9 (P8 (a5j C0 E8 E7 Z1 (b5 2) (j9 (v5 (b5 6) c6)))))) z5))))))) (c9 (A0 (b5 3))))))
variable(a2I:K9 P w K mg base 4 d4s a4A (a1P K c))
abbrev a6K:List Str:=[d4h,d3Y,d4c]
theorem b4m:v8 [d4h,d3Y,d4c] a6K (g8 a6D):=by walk_at "sc"
include T a2I in
theorem b4L(F:Fun K d3m "Wanted.__init__" a6D f fd):E3 P w K mg base CX0 5 f fd a6K (a2i K c):=fk F b4m λ_ _ _ _ _ _ hr nd=>b9 (a0Q (b5 0) (b5 1)) (c9 (a0Q (b5 0) (t6 a2I hr (u8 (b5 1) (b5 2)))))
variable(b1r:b1G P w K mg base 5 "Wanted" c.T0 a6K (a2i K c))
abbrev a6N:List Str:=[d4h,d3Y,d4c]
theorem b4p:v8 [d4h,d3Y,d4c] a6N (g8 a4H):=by walk_at "sc"
theorem b2F:V1 [d4h,d3Y,d4c] (g8 a4H) (scF [ (".0",.local),(d4i,.local),(d4h,.free)]) d4i := by walk_at "c0"
include T c_Plan_steps a1V b3L b1r in
theorem b4O(F:Fun K d3m "Brinks.__init__" a4H f fd):E3 P w K mg base CX0 7 f fd a6N (a2k K c):=fk F b4p λ_ _ _ _ _ _ hr nd=>b9 (a0Q (b5 0) (b5 1)) (b9 (a0Q (b5 0) (b5 2)) (b9 (a0Q (b5 0) (b1P b3L hr (u8 (b5 1) (b5 2)))) (b9 (a0Q (b5 0) (b1P b1r hr (u8 (b5 1) (b5 2)))) (c9 (a0Q (b5 0) (O7 (b5L rfl hr) rfl T.c1X a6S (j9 (U7 b2F rfl (Q0 (a0B c_Plan_steps hr (by decide) (b5 1))) (λ_ _ _ _ _=>a9f (F6 (S0 a1V hr (by decide) (b5 1) (j9 (b5 0))))) (λ_ _ _ _ _=>J5 (u8 (b5 0) a1j))))))))))
variable(m_Brinks:b1G P w K mg base 7 "Brinks" c.J0 a6N (a2k K c))
abbrev W5:List Str:=[d4h,d3Y,d4c,d3Z]
theorem a8F:v8 [d4h,d3Y,d4c,d3Z,"doing"] W5 (g8 a0g):=by walk_at "sc"
theorem b2E:a9n [d4h,d3Y,d4c,d3Z,"doing"] (g8 a0g) (scF [ (".0",.local),(d4a,.local),("row",.local),("does",.globalImplicit),(d4c,.free)]) d4a "row" := by walk_at "c2"
theorem b2D:V1 [d4h,d3Y,d4c,d3Z,"doing"] (g8 a0g) (scF [ (".0",.local),(d4i,.local),(d4h,.free)]) d4i := by walk_at "c0"
theorem b2C:V1 [d4h,d3Y,d4c,d3Z,"doing"] (g8 a0g) (scF [ (".0",.local),(d4a,.local),(d4h,.free)]) d4a := by walk_at "c0"
theorem b2B:V1 [d4h,d3Y,d4c,d3Z,"doing"] (g8 a0g) (scF [ (".0",.local),(d4a,.local),(d4h,.free)]) d4a := by walk_at "c0"
include T c_is_deed c_check_held c_marked c_does c_Plan_steps c_unwaiting_places c_places_alive_behind c_Brinks_steps c_Choice_waits_at c_Choice_is_put m_Brinks in
theorem a4c(F:b2M K d3m "Choice.__init__" a0g D f fd):E3 P w K mg base CX0 9 f fd W5 (L9 K c):=fkD F a8F λ_ _ _ _ _ _ hr nd=>b9 (E5 (a0a (F6 (u7 b5s rfl T.G7 o6 (u8 (b5 1) (D6 T.c6I rfl))))) (c9 a5U) z5) (b9 (E5 (a0a (F6 (t6 c_is_deed hr (j9 (b5 2))))) (c9 a5U) z5) (b9 (P8 (t6 c_check_held hr (V4 (b5 1) (b5 3) c6))) (b9 (a0Q (b5 0) (b5 1)) (b9 (a0Q (b5 0) (b5 2)) (b9 (a0Q (b5 0) (t6 c_marked hr (j9 (a0B c_Brinks_steps hr (by decide) (b1P m_Brinks hr (u8 (b5 1) (b5 2))))))) (b9 (a0Q (b5 0) (t6 c_unwaiting_places hr (J8 (b5 1) (V4 (b5 2) (L6 (b5 0)) (a8J (D8 d0g (b5 3) a3V) (O5 a4z) (b5 3)))))) (b9 (b9g (i:=4) nd rfl rfl b2E rfl (a5r rfl T.a0K (j9 (L6 (b5 1)))) (λ_ _ _ _ _=>a9f (F6 (t6 c_does hr (u8 (b5 1) (b5 4))))) (λ_ _ _ _ _=>b5 0)) (b9 (a0Q (b5 0) (t6 c_marked hr (j9 (U7 b2D rfl (Q0 (a0B c_Plan_steps hr (by decide) (b5 1))) (λ_ _ _ _ _=>a9f (F6 (S0 c_Choice_is_put hr (by decide) (b5 1) (j9 (b5 0))))) (λ_ _ _ _ _=>b5 0))))) (b9 (a0Q (b5 0) (t6 c_marked hr (j9 (U7 b2C rfl (Q0 (b5 4)) (λ_ _ _ _ _=>a9f (a0a (F6 (S0 c_Choice_waits_at hr (by decide) (b5 1) (j9 (b5 0)))))) (λ_ _ _ _ _=>b5 0))))) (b9 (a0Q (b5 0) (t6 c_marked hr (j9 (U7 b2B rfl (Q0 (b5 4)) (λ_ _ _ _ _=>a9f (F6 (S0 c_Choice_waits_at hr (by decide) (b5 1) (j9 (b5 0))))) (λ_ _ _ _ _=>b5 0))))) (c9 (a0Q (b5 0) (t6 c_places_alive_behind hr (J8 (b5 1) (V4 (L6 (b5 0)) (L6 (b5 0)) (L6 (b5 0)))))))))))))))))
variable(a8Q:b1G P w K mg base 9 d4t c.v6 W5 (L9 K c))
variable(mk_Choice:b5w P w K mg base 9 d4t c.v6 W5 d3Z (L9 K c))
variable(md_Choice:b8m P w K mg base 9 d4t c.v6 W5 [.non] (L9 K c))
abbrev a9g:List Str:=["_law_args"]
theorem c0H:v8 ["_law_args","_law_told","e"] a9g (g8 b2b):=by walk_at "sc"
theorem c3k:v8 [d4h,"at"] [d4h,"at"] (g8 b4t):=by walk_at "sc"
theorem c3A(F:Fun K d3m "Wrong.__init__" b4t f fd):E3 P w K mg base CX0 1 f fd [d4h,"at"] (a0m K "at"):=
 a8z F c3k (λvs H Q E h=>by obtain⟨a,v,C,rfl,_⟩:=h;rfl) λcdv A outer s H vs Q E hr h=>⟨c2l K (b4 0) (b4 1) "at",c9 (b7x (b5 0) (b5 1)),by
  obtain⟨a,v,C,rfl,h1,h2,h3,q⟩:=h;exact⟨v,rfl,.ref a,rfl,a,C,rfl,h1,h2,h3,q⟩⟩
theorem b8V:v8 [d4h,"at"] [d4h,"at"] (g8 b0f):=by walk_at "sc"
theorem b9r(F:Fun K d3m "NoThing.__init__" b0f f fd):E3 P w K mg base CX0 1 f fd [d4h,"at"] (a0m K "at"):=
 a8z F b8V (λvs H Q E h=>by obtain⟨a,v,C,rfl,_⟩:=h;rfl) λcdv A outer s H vs Q E hr h=>⟨c2l K (b4 0) (b4 1) "at",c9 (b7x (b5 0) (b5 1)),by
  obtain⟨a,v,C,rfl,h1,h2,h3,q⟩:=h;exact⟨v,rfl,.ref a,rfl,a,C,rfl,h1,h2,h3,q⟩⟩
theorem b8U:v8 [d4h,d4u] [d4h,d4u] (g8 b0e):=by walk_at "sc"
theorem b9q(F:Fun K d3m "TooMany.__init__" b0e f fd):E3 P w K mg base CX0 1 f fd [d4h,d4u] (a0m K d4u):=
 a8z F b8U (λvs H Q E h=>by obtain⟨a,v,C,rfl,_⟩:=h;rfl) λcdv A outer s H vs Q E hr h=>⟨c2l K (b4 0) (b4 1) d4u,c9 (b7x (b5 0) (b5 1)),by
  obtain⟨a,v,C,rfl,h1,h2,h3,q⟩:=h;exact⟨v,rfl,.ref a,rfl,a,C,rfl,h1,h2,h3,q⟩⟩
section
variable (mx_Wrong:a8W P w K mg base 1 "Wrong" c.x.C_Wrong [d4h,"at"] (a0m K "at"))
variable (mx_NoThing:a8W P w K mg base 1 "NoThing" c.x.C_NoThing [d4h,"at"] (a0m K "at"))
variable (mx_TooMany:a8W P w K mg base 1 "TooMany" c.x.C_TooMany [d4h,d4u] (a0m K d4u))
include T mx_TooMany mx_Wrong in
theorem b2v(F:Fun K d3V d3V a3L f fd):E3 P w K mg base (CX1 P w) 3 f fd a1k (a2D K c.x):=fkX F a8j λ_ _ _ _ _ E hr nd=>b9 (E5 (N6 (a3w (a0a (F6 (u7 a1l rfl T.G7 o6 (u8 (b5 0) (a3e rfl T.a0A u9 rfl))))) (a1v (D8 a4b (u7 A9 rfl T.R6 p5 (j9 (b5 0))) (b5 2))))) (c9 (b0F mx_Wrong a8A hr (j9 (b5 1)))) z5) (c9 (E5 (D8 a7M (u7 A9 rfl T.R6 p5 (j9 (b5 0))) (D6 T.c1W rfl)) (c9 (b0F mx_TooMany a8A hr (j9 (D6 T.c1W rfl)))) z5))
variable (d_check_length:a5u P w K mg base 3 d3V a1k (a4u K c.x))
include T mx_NoThing in
theorem b4Q(F:Fun K d3X d3X a5q f fd):E3 P w K mg base (CX1 P w) 3 f fd a2H (a5O K c.x):=fkX F a9J λ_ _ _ _ _ E hr nd=>c9 (a0b PassesOwn.leaving rfl (a5r rfl T.a0K (j9 (b5 0))) (a6I rfl (S9 (P6 1 nd) (S9 (P6 2 nd) a4J))) (c9 (E5 (a0a (F6 (b5 2))) (c9 (b0F mx_NoThing a8A hr (j9 (b5 1)))) z5)))
variable (d_check_each:a5u P w K mg base 3 d3X a2H (a5M K c.x))
include T d_check_length d_check_each c_is_below in
theorem b4P(F:Fun K d4b d4b a3M f fd):E3 P w K mg base (CX1 P w) 4 f fd a2G (a5N K c.x):=fkX F a9I λ_ _ _ _ _ E hr nd=>c9 (E5 (D8 b6B (b5 1) a3V) (b9 (P8 (b6S a8A d_check_length hr (V4 (b5 1) (b5 2) c6))) (c9 (P8 (b6S a8A d_check_each hr (j9 (U7 a8m rfl (Q0 (b5 1)) (λ_ _ _ _ _=>U3) (λ_ _ _ _ _=>t6 c_is_below hr (u8 (b5 0) (u7 A9 rfl T.R6 p5 (j9 (L6 (b5 1)))))))))))) z5)
variable (d_check_held:a5u P w K mg base 4 d4b a2G (a5L K c.x))
include T mx_Wrong d_check_held c_is_deed in
theorem b3u(F:b2M K d3m "Choice.__init__" a0g D f fd):E3 P w K mg base (CX1 P w) 6 f fd W5 (a4W K c c.x):=d3f F a8F λ_ _ _ _ _ E hr nd=>b9 (E5 (a0a (F6 (u7 c1N rfl T.G7 o6 (u8 (b5 1) (D6 T.c6I rfl))))) (c9 (b0F mx_Wrong a8A hr (j9 c6))) z5) (b9 (E5 (a0a (F6 (t6 c_is_deed hr (j9 (b5 2))))) (c9 (b0F mx_Wrong a8A hr (j9 c6))) z5) (b9 (P8 (b6S a8A d_check_held hr (V4 (b5 1) (b5 3) c6))) c3q))
end
theorem c8m:a6V d4v = some (.type "ValueError"):=by decide +kernel
section
variable (mr_Choice:b2L P w K mg base 9 d4t c.v6 W5 (a3c K c c.x))(bVE:mg d4v = none)(gO:mg "OnceError"=some (.ref c.x.C_OnceError))(xO:b3k K c.x.C_OnceError=true)(g0:∃u,mg "Wrong"=some u/\K0 (.ref c.x.C_Wrong) u)(g1:∃u,mg "NoThing"=some u/\K0 (.ref c.x.C_NoThing) u)(g2:∃u,mg "NoWay"=some u/\K0 (.ref c.x.C_NoWay) u)(g3:∃u,mg "TooMany"=some u/\K0 (.ref c.x.C_TooMany) u)(g4:∃u,mg "NoText"=some u/\K0 (.ref c.x.C_NoText) u)
include T c_int mr_Choice bVE gO xO g0 g1 g2 g3 g4 in
theorem c1j(F:Fun K d4w d4w b2b f fd):E3 P w K mg base CX0 11 f fd a9g (Y6 K c):=
 fk F c0H λ_ _ _ _ _ _ hr nd=>b9 (A6 1 nd (J5 (u8 F0 c6))) (b9 (c2Q (i:=2) (th:=b0M K c.x) rfl rfl rfl nd rfl rfl rfl gO xO (λEE pins xe W=>c9 (P8 (c6T W mr_Choice hr (V4 (v5 (b5 0) c6) (v5 (b5 0) c6) (v5 (b5 0) c6))))) (λpins x C dx oe hx=>b9 (A6 1 nd (J5 (u8 F0 c6))) (b9 (E5 (N6 (a3w (F6 (u7 (a9l hx) rfl T.G7 o6 (u8 (b5 2) (J5 (u8 (D6 g4 rfl) (D6 g2 rfl)))))) (a1v (a0a (F6 (u7 (b1x hx) rfl T.G7 o6 (u8 (b5 2) (a3e rfl bVE c8m rfl)))))))) (c9 (A0 (b5 1))) z5)
 (b9 (E5 (N6 (a3T (F6 (u7 (b1x hx) rfl T.G7 o6 (u8 (b5 2) (D6 g0 rfl)))) (a3d (a0a (F6 (u7 (a9l hx) rfl T.G7 o6 (u8 (b5 2) (J5 (u8 (D6 g1 rfl) (D6 g3 rfl)))))))))) (c9 (A6 1 nd (J5 (u8 F0 (b7C hx (b5 2)))))) z5)
 (b9 (E5 (N6 (a3T (F6 (u7 (b1x hx) rfl T.G7 o6 (u8 (b5 2) (D6 g1 rfl)))) (a3d (a0a (F6 (u7 (a9l hx) rfl T.G7 o6 (u8 (b5 2) (J5 (u8 (D6 g0 rfl) (D6 g3 rfl)))))))))) (c9 (A6 1 nd (J5 (u8 F0 (b7C hx (b5 2)))))) z5)
 (c9 (E5 (N6 (a3T (F6 (u7 (b1x hx) rfl T.G7 o6 (u8 (b5 2) (D6 g3 rfl)))) (a3d (a0a (F6 (u7 (a9l hx) rfl T.G7 o6 (u8 (b5 2) (J5 (u8 (D6 g0 rfl) (D6 g1 rfl)))))))))) (c9 (A6 1 nd (J5 (u8 F0 (b7C hx (b5 2)))))) z5))))))) (b9 (E5 (a0a (F6 (t6 c_int hr (j9 (v5 (b5 1) c6))))) (c9 (A0 (J5 (u8 F0 c6)))) z5) (c9 (A0 (b5 1)))))
end
variable(a3y:K9 P w K mg base 11 d4w a9g (Y6 K c))
abbrev a6L:List Str:=[d4h]
theorem b4n:v8 [d4h] a6L (g8 a6E):=by walk_at "sc"
include T in
theorem b4M(F:Fun K "puts" "Choice.puts" a6E f fd):E3 P w K mg base CX0 1 f fd a6L (a0o K):=fk F b4n λ_ _ _ _ _ _ hr nd=>c9 (A0 (O7 (b3g rfl) rfl T.a0A u9 (j9 (L6 (b5 0)))))
variable(a0U:V0 P w K mg base 1 "puts" c.v6 a6L (a0o K))
abbrev a6M:List Str:=[d4h]
theorem b4o:v8 [d4h] a6M (g8 a6F):=by walk_at "sc"
include T in
theorem b4N(F:Fun K "outs" "Choice.outs" a6F f fd):E3 P w K mg base CX0 1 f fd a6M (a2j K):=fk F b4o λ_ _ _ _ _ _ hr nd=>c9 (A0 (O7 (a3x rfl) rfl T.a0A u9 (j9 (L6 (b5 0)))))
variable(a2Z:V0 P w K mg base 1 "outs" c.v6 a6M (a2j K))
abbrev a5V:List Str:=[d4h]
theorem b3m:v8 [d4h] a5V (g8 a5P):=by walk_at "sc"
include T in
theorem b3s(F:Fun K "stays" "Choice.stays" a5P f fd):E3 P w K mg base CX0 1 f fd a5V (a1E K):=fk F b3m λ_ _ _ _ _ _ hr nd=>c9 (A0 (O7 (a3x rfl) rfl T.a0A u9 (j9 (L6 (b5 0)))))
variable(a2q:V0 P w K mg base 1 "stays" c.v6 a5V (a1E K))
abbrev b4J:List Str:=[d3R]
theorem c3j:v8 [d3R,"kind","rest"] b4J (g8 b4s):=by walk_at "sc"
include T a2J a0c c_is_deed in
theorem c3z(F:Fun K "is_row" "is_row" b4s f fd):E3 P w K mg base CX0 5 f fd b4J (a9c K c):=fk F c3j λ_ _ _ _ _ _ hr nd=>b9 (E5 (N6 (a3w (a0a (F6 (u7 a1l rfl T.G7 o6 (u8 (b5 0) (a3e rfl T.c2P b5B rfl))))) (a1v (D8 (D1 hr) (u7 A9 rfl T.R6 p5 (j9 (b5 0))) c6)))) (c9 (A0 a1j)) z5) (b9 (A6 1 nd (v5 (b5 0) c6)) (b9 (A6 2 nd (a8I c7a (b5 0) (b1h c6) b1i)) (b9 (E5 (D8 (D1 hr) (b5 1) F0) (c9 (A0 (a0R (a7r (D1 hr) (u7 A9 rfl T.R6 p5 (j9 (b5 2))) c6) (a0R (t6 a2J hr (j9 (v5 (b5 2) c6))) (a1i (t6 c_is_deed hr (j9 (v5 (b5 2) c6)))))))) z5) (b9 (E5 (D8 (D1 hr) (b5 1) F0) (c9 (A0 (a0R (a7r (D1 hr) (u7 A9 rfl T.R6 p5 (j9 (b5 2))) c6) (a0R (t6 a2J hr (j9 (v5 (b5 2) c6))) (a1i (t6 a0c hr (j9 (v5 (b5 2) c6)))))))) z5) (b9 (E5 (D8 (D1 hr) (b5 1) F0) (c9 (A0 (a0R (a7r (D1 hr) (u7 A9 rfl T.R6 p5 (j9 (b5 2))) c6) (a1i (t6 a2J hr (j9 (v5 (b5 2) c6))))))) z5) (b9 (E5 (a1w b2q (b5 1) (J5 (u8 F0 F0)) rfl) (c9 (A0 (a0R (a7r (D1 hr) (u7 A9 rfl T.R6 p5 (j9 (b5 2))) c6) (a1i (t6 a0c hr (j9 (v5 (b5 2) c6))))))) z5) (c9 (A0 (a0R (a7r (D1 hr) (b5 1) F0) (a1i (a7r (D1 hr) (u7 A9 rfl T.R6 p5 (j9 (b5 2))) c6)))))))))))
variable(b1B:K9 P w K mg base 5 "is_row" b4J (a9c K c))
abbrev a8L:List Str:=["row",d4f,"many"]
theorem b7h:v8 ["row",d4f,"many","wanted"] a8L (g8 a6r):=by walk_at "sc"
theorem b5n:V1 ["row",d4f,"many","wanted"] (g8 a6r) (scF [ (".0",.local),(d4a,.local),(d3W,.globalImplicit),("many",.free)]) d4a := by walk_at "c0"
include T c_is_below in
theorem b7H(F:Fun K d4x d4x a6r f fd):E3 P w K mg base CX0 3 f fd a8L (a5n K):=fk F b7h λ_ _ _ _ _ _ hr nd=>b9 (E5 (a0a (F6 (u7 a1l rfl T.G7 o6 (u8 (b5 1) (a3e rfl T.a0A u9 rfl))))) (c9 (A0 a1j)) z5) (b9 (A6 3 nd (a8J (D8 (D1 hr) (v5 (b5 0) c6) F0) (J5 (j9 c6)) (J5 (u8 c6 c6)))) (c9 (A0 (a0R (a3W b2q (u7 A9 rfl T.R6 p5 (j9 (b5 1))) (b5 3) rfl) (a1i (u7 (b2G rfl) rfl T.c6L a7o (j9 (U7 b5n rfl (Q0 (b5 1)) (λ_ _ _ _ _=>U3) (λ_ _ _ _ _=>t6 c_is_below hr (u8 (b5 0) (b5 3)))))))))))
variable(a6y:K9 P w K mg base 3 d4x a8L (a5n K))
abbrev a6J:List Str:=[d4y,d4d]
theorem b4l:v8 [d4y,d4d] a6J (g8 a4G):=by walk_at "sc"
theorem b2A:a9n [d4y,d4d] (g8 a4G) (scF [ (".0",.local),("row",.local),(d4f,.local),(d4x,.globalImplicit),("len",.globalImplicit),(d4y,.free)]) "row" d4f := by walk_at "c2"
include T c_check_each a6y in
theorem b4K(F:Fun K d4z d4z a4G f fd):E3 P w K mg base CX0 4 f fd a6J (a3J K):=fk F b4l λ_ _ _ _ _ _ hr nd=>b9 (E5 (N6 (a3w (a0a (F6 (u7 a1l rfl T.G7 o6 (u8 (b5 1) (a3e rfl T.a0A u9 rfl))))) (a1v (D8 (b8B hr) (u7 A9 rfl T.R6 p5 (j9 (b5 1))) (u7 A9 rfl T.R6 p5 (j9 (b5 0))))))) (c9 a5U) z5) (c9 (P8 (t6 c_check_each hr (j9 (b9i b2A rfl (c9W rfl T.d2w (u8 (b5 0) (b5 1))) (λ_ _ _ _ _=>U3) (λ_ _ _ _ _=>t6 a6y hr (V4 (b5 0) (b5 1) (u7 A9 rfl T.R6 p5 (j9 (b5 2))))))))))
variable(a4L:K9 P w K mg base 4 d4z a6J (a3J K))
abbrev b2k:List Str:=["begins","leads"]
theorem c0I:v8 ["begins","leads","seen","waiting",d4a] b2k (g8 b2c):=by walk_at "sc"
include T in
theorem c1k(F:Fun K "reached" "reached" b2c f fd):E3 P w K mg base CX0 1 f fd b2k (a5J K):=fk F c0I λ_ _ _ _ _ _ hr nd=>b9 (A6 2 nd a8K) (b9 (A6 3 nd (O7 a0T rfl T.a0A u9 (j9 (b5 0)))) (b9 (a8H PassesOwn.never (D8 a7M (u7 A9 rfl T.R6 p5 (j9 (b5 3))) c6) (b9 (A6 4 nd (d0c C0 PySem.F.slot_list_pop PySem.F.type_list_pop c7R (b5 3))) (c9 (E5 (a1s hr (b5 4) (b5 2) rfl) (b9 (a2y hr (b5 2) (b5 4) a1j) (c9 (P8 (a5j C0 b8q b8p b4T (b5 3) (j9 (v5 (b5 1) (b5 4))))))) z5)))) (c9 (A0 (b5 2)))))
variable(a7i:K9 P w K mg base 1 "reached" b2k (a5J K))
abbrev b4E:List Str:=[d4d]
theorem c3e:v8 [d4d,"sources",d4a,d4f,d4k] b4E (g8 b0Z):=by walk_at "sc"
theorem b9S:V1 [d4d,"sources",d4a,d4f,d4k] (g8 b0Z) (scF [(".0",.local),(d4f,.local)]) d4f := by walk_at "c0"
include T in
theorem c3u(F:Fun K "turned" "turned" b0Z f fd):E3 P w K mg base CX0 1 f fd b4E (a9a K):=fk F c3e λ_ _ _ _ _ _ hr nd=>b9 (a7G (i:=1) nd rfl rfl b9S rfl (Q0 (b5 0)) (λ_ _ _ _ _=>U3) (λ_ _ _ _ _=>O5 a4z)) (b9 (a0b PassesOwn.never rfl (a5r rfl T.a0K (j9 (b5 0))) (a6I rfl (S9 (P6 2 nd) (S9 (P6 3 nd) a4J))) (c9 (a0b PassesOwn.never rfl (Q0 (b5 3)) (P6 4 nd) (c9 (P8 (a5j C0 E8 E7 Z1 (v5 (b5 1) (b5 4)) (j9 (b5 2)))))))) (c9 (A0 (b5 1))))
variable(b1y:K9 P w K mg base 1 "turned" b4E (a9a K))
abbrev b0i:List Str:=[d4d]
theorem b8P:v8 [d4d] b0i (g8 a7y):=by walk_at "sc"
theorem b6d:a9n [d4d] (g8 a7y) (scF [ (".0",.local),(d4a,.local),(d4f,.local),("len",.globalImplicit)]) d4a d4f := by walk_at "c2"
include T in
theorem b9l(F:Fun K d4A d4A a7y f fd):E3 P w K mg base CX0 1 f fd b0i (a6o K):=fk F b8P λ_ _ _ _ _ _ hr nd=>c9 (A0 (b9i b6d rfl (a5r rfl T.a0K (j9 (b5 0))) (λ_ _ _ _ _=>a9f (D8 (D1 hr) (u7 A9 rfl T.R6 p5 (j9 (b5 1))) c6)) (λ_ _ _ _ _=>b5 0)))
variable(a7V:K9 P w K mg base 1 d4A b0i (a6o K))
abbrev a7J:List Str:=[d4d]
theorem b5R:v8 [d4d,"begun","ending",d4a] a7J (g8 a7D):=by walk_at "sc"
include T a7i b1y a7V in
theorem b5X(F:Fun K d4B d4B a7D f fd):E3 P w K mg base CX0 2 f fd a7J (a4F K):=fk F b5R λ_ _ _ _ _ _ hr nd=>b9 (A6 1 nd (t6 a7i hr (u8 (O5 (j9 c6)) (b5 0)))) (b9 (A6 2 nd (t6 a7i hr (u8 (t6 a7V hr (j9 (b5 0))) (t6 b1y hr (j9 (b5 0)))))) (c9 (a0b PassesOwn.never rfl (V9 rfl T.a1B (j9 (u7 A9 rfl T.R6 p5 (j9 (b5 0))))) (P6 3 nd) (c9 (E5 (N6 (a3w (a1s hr (b5 3) (b5 1) rfl) (a1v (a1s hr (b5 3) (b5 2) rfl)))) (c9 a5U) z5)))))
variable(a5s:K9 P w K mg base 2 d4B a7J (a4F K))
abbrev a8M:List Str:=[d4h,d4y,d4d]
theorem b7i:v8 [d4h,d4y,d4d,d4i] a8M (g8 a3u):=by walk_at "sc"
theorem b5q:V1 [d4h,d4y,d4d,d4i] (g8 a3u) (scF [ (".0",.local),("row",.local),("is_row",.globalImplicit)]) "row" := by walk_at "c0"
theorem b5p:V1 [d4h,d4y,d4d,d4i] (g8 a3u) (scF [ (".0",.local),(d4f,.local),("list",.globalImplicit)]) d4f := by walk_at "c0"
theorem b5o:V1 [d4h,d4y,d4d,d4i] (g8 a3u) (scF [(".0",.local),("row",.local)]) "row" := by walk_at "c0"
include T c_check_length c_check_each a3q L7 b1B a4L a5s in
theorem b7I(F:Fun K d3m "Plan.__init__" a3u f fd):E3 P w K mg base CX0 6 f fd a8M (a5o K c):=fk F b7i λ_ _ _ _ _ _ hr nd=>b9 (P8 (t6 c_check_length hr (V4 (b5 1) c6 c6))) (b9 (P8 (t6 c_check_each hr (j9 (U7 b5q rfl (Q0 (b5 1)) (λ_ _ _ _ _=>U3) (λ_ _ _ _ _=>t6 b1B hr (j9 (b5 0))))))) (b9 (P8 (t6 a4L hr (u8 (b5 1) (b5 2)))) (b9 (P8 (t6 a5s hr (j9 (b5 2)))) (b9 (a0Q (b5 0) (O7 a0T rfl T.a0A u9 (j9 (b5 1)))) (b9 (a0Q (b5 0) (U7 b5p rfl (Q0 (b5 2)) (λ_ _ _ _ _=>U3) (λ_ _ _ _ _=>O7 a0T rfl T.a0A u9 (j9 (b5 0))))) (b9 (a0Q (b5 0) (U7 b5o rfl (Q0 (b5 1)) (λ_ _ _ _ _=>U3) (λ_ _ _ _ _=>O5 a4z))) (c9 (a0b PassesOwn.never rfl (Q0 (t6 a3q hr (j9 (L6 (b5 0))))) (P6 3 nd) (c9 (P8 (a5j C0 E8 E7 Z1 (v5 (L6 (b5 0)) (S0 L7 hr (by decide) (b5 0) (j9 (b5 3)))) (j9 (b5 3)))))))))))))
variable(b7M:b1G P w K mg base 6 "Plan" c.M5 a8M (a5o K c))
abbrev c9c:List Str:=[d3n]
theorem c4X:v8 [d3n,d3p,d3L,d3t,d3J,d3O,d4C,"_law_spots",d3z,d3y,d3r,"_law_spoilt","_law_bad","_law_due","_law_handed","_law_choice","_law_none","_law_free"] c9c (g8 b6v):=by walk_at "sc"
theorem c6u:V1 [d3n,d3p,d3L,d3t,d3J,d3O,d4C,"_law_spots",d3z,d3y,d3r,"_law_spoilt","_law_bad","_law_due","_law_handed","_law_choice","_law_none","_law_free"] (g8 b6v) (scF [ (".0",.local),(d3v,.local),("list",.globalImplicit)]) d3v := by walk_at "c0"
theorem c6t:V1 [d3n,d3p,d3L,d3t,d3J,d3O,d4C,"_law_spots",d3z,d3y,d3r,"_law_spoilt","_law_bad","_law_due","_law_handed","_law_choice","_law_none","_law_free"] (g8 b6v) (scF [ (".0",.local),(d3u,.local),(d3s,.globalImplicit),("len",.globalImplicit),(d3p,.free),(d3L,.free)]) d3u := by walk_at "c0"
include T c2H D5 b8e a7X a7Y a8Q mk_Choice md_Choice a3y a0U a2Z a2q b7M in
theorem d0q(ck:X6 K c)(F:Fun K "law" "law" b6v f fd):E3 P w K mg base CX0 12 f fd c9c (b4i K):=by
 refine a8z F c4X (λvs H Q E h=>h.1) (λcdv A outer s H vs Q E hr h=>⟨c4N K c,?_,h.2 c ck⟩);have nd:=c4X.nd;exact b9 (A6 1 nd (t6 c2H hr (j9 (b5 0)))) (b9 (a7H (t6 b8e hr (j9 (b5 1))) (a6I rfl (S9 (P6 2 nd) (S9 (P6 3 nd) (S9 (P6 4 nd) a4J))))) (b9 (A6 5 nd (v5 (b5 4) c6)) (b9 (A6 6 nd (b1P b7M hr (u8 (O7 a0T rfl T.a0A u9 (j9 (b5 2))) (U7 c6u rfl (Q0 (b5 3)) (λ_ _ _ _ _=>U3) (λ_ _ _ _ _=>O7 a0T rfl T.a0A u9 (j9 (b5 0))))))) (b9 (a7G (i:=7) nd rfl rfl c6t rfl (V9 rfl T.a1B (j9 (t6 D5 hr (u8 (b5 1) c6)))) (λ_ _ _ _ _=>U3) (λ_ _ _ _ _=>t6 D5 hr (u8 (b5 2) (u7 A9 rfl T.R6 p5 (j9 (b5 3)))))) (b9 (a0b PassesOwn.never rfl (V9 rfl T.a1B (j9 c6)) (P6 8 nd) (b9 (A6 9 nd (O5 (V4 (b5 6) (b5 5) (b5 7)))) (b9 (A6 10 nd (t6 D5 hr (u8 (b5 1) c6))) (b9 (A6 11 nd (O7 a0T rfl T.a0A u9 (j9 (b5 9)))) (b9 (a7H (t6 a7X hr (u8 (b5 1) (u7 A9 rfl T.R6 p5 (j9 (b5 2))))) (a6I rfl (S9 (P6 12 nd) (S9 (P6 13 nd) a4J)))) (b9 (E5 (N6 (a3w (D8 (D1 hr) (b5 10) c6) (a1v (D8 (D1 hr) (t6 D5 hr (u8 (b5 1) c6)) c6)))) (c9 (a7H (b5 12) (b0h (b5 11) c6 b2V))) z5) (b9 (E5 (N6 (a3w (D8 (D1 hr) (b5 10) c6) (a1v (N6 (a3T (D8 (D1 hr) (b5 10) c6) (a3d (D8 (D1 hr) (t6 D5 hr (u8 (b5 1) c6)) c6))))))) (b9 (a7H (t6 a7Y hr (u8 (b5 1) (b5 5))) (b0h (b5 11) c6 b2V)) (c9 (A6 13 nd (J5 (u8 F0 c6))))) z5) (b9 (E5 (D8 (D1 hr) (b5 10) c6) (b9 (a7H (v5 (O5 (J8 a3V (J8 (b5 2) (J8 (J5 (u8 (b5 2) (b5 3))) (V4 F0 c6 a1j))))) (t6 D5 hr (u8 (b5 1) c6))) (b0h (b5 11) c6 b2V)) (c9 (A6 13 nd (J5 (u8 F0 c6))))) z5) (b9 (E5 (N6 (a3w (a1w (a6s hr) (t6 a3y hr (j9 (b5 11))) (b5 13) (a1z _)) (a1v (a1w (a6s hr) (t6 a3y hr (j9 (b5 11))) (b5 13) (a1z _))))) (c9 (A0 a1j)) z5) (b9 (E5 (N6 (a3w (a1w (a6s hr) (t6 a3y hr (j9 (O5 (V4 (b5 6) (b5 5) (O7 a0T rfl T.a0A u9 (j9 (b5 7))))))) (J5 (u8 F0 c6)) (a1z _)) (a1v (a1w (a6s hr) (t6 a3y hr (j9 (O5 (V4 (b5 6) (b5 5) a3V)))) (J5 (u8 F0 c6)) (a1z _))))) (c9 (A0 a1j)) z5) (c9 (E5 (a1w (a6s hr) (t6 a3y hr (j9 (O5 (V4 (b5 6) (b5 5) (W1 c5H (O5 (j9 (W1 b3I (u7 A9 rfl T.R6 p5 (j9 (b5 2))) c6))) c6))))) (J5 (u8 F0 c6)) (a1z _)) (c9 (A0 a1j)) z5)))))))))))) (b9 (A6 14 nd (O7 a0T rfl T.a0A u9 (j9 (b5 7)))) (b9 (A6 15 nd (b1P a8Q hr (V4 (b5 6) (b5 5) (b5 14)))) (b9 (A6 16 nd (b1P a8Q hr (V4 (b5 6) (b5 5) a3V))) (b9 (A6 17 nd (c6V md_Choice hr (u8 (b5 6) (b5 5)))) (b9 (E5 (N6 (a3w (a1w (a6s hr) (a0B a0U hr (by decide) (b5 16)) (a0B a0U hr (by decide) (b5 17)) (a1z _)) (a3w (a1w (a6s hr) (a0B a2Z hr (by decide) (b5 16)) (a0B a2Z hr (by decide) (b5 17)) (a1z _)) (a1v (a1w (a6s hr) (a0B a2q hr (by decide) (b5 16)) (a0B a2q hr (by decide) (b5 17)) (a1z _)))))) (c9 (A0 a1j)) z5) (c9 (A0 (a0R (a3W (c2r hr) (b5 14) (b5 7) (a1z _)) (a1i (a3W (c2r hr) (a0B a0U hr (by decide) (b5 15)) (a0B a0U hr (by decide) (c6U mk_Choice hr (u8 (b5 6) (b5 5)) (O7 a0T rfl T.a0A u9 (j9 (b5 7))))) (a1z _))))))))))))))))
end
end
structure XcF(K:Fg)(y:Str)(C:Addr)(f:Str):Prop where
 y:C5 K w6 y=some (some (.ref C))
 xc:b3k K C=true
 sa:o0 K (.ref C) "__setattr__"=some (some (.builtin "object.__setattr__"))
 ve:b6V K C=true
 hd:a4k K C=true
 kp:O8 K (.ref C)=true
 ga:o0 K (.ref C) "__getattribute__"=some (some (.builtin "BaseException.__getattribute__"))
 gg:o0 K (.ref C) "__getattr__"=some none
 be:a3s K C (.type "BaseException")=some true
 ha:o0 K (.ref C) "__class__"=some (some (.builtin "object.__class__"))
 hn:a4j K (.builtin "object.__class__") "__get__"=some (some (.builtin "getset_descriptor.__get__"))
 tk:a8u K (.builtin "object.__class__")=some true
 ob:a3s K C (.type "object")=some true
 up:a3s K C (.ref 100)=some true
 vk:Y0 K (.ref C) (.type "ValueError")=some true
 na:o0 K (.ref C) f=some none
theorem XcF.cl{K:Fg}{y f:Str}{C:Addr}(h:XcF K y C f):c0e K C:=⟨h.xc,h.sa,h.ve,h.hd,h.kp⟩
theorem XcF.is{K:Fg}{y f:Str}{C:Addr}(h:XcF K y C f):XIs K C:=⟨⟨h.ga,h.gg,h.be⟩,h.hd,h.ha,h.hn,h.tk,h.ob⟩
structure XiF(K:Fg)(q:Str)(st:Stmt)(C f:Addr)(pm cd:Value):Prop where
 i:FnI K d3m q st f pm cd
 a:o0 K (.ref C) d3m = some (some (.ref f))
 t:c8x K (.ref f)=some (.type "function")
theorem mkX{P:A4}{w:World}{K:Fg}{mg:Str->Option Value}{base h:Heap}{f C:Addr}{y q g:Str}{st:Stmt}{ps:List Str}{k:Nat}{pm cd:Value}{sp:Sp}(X:K.In h)(G:h.Ns w6 mg)(c:XcF K y C g)(i:XiF K q st C f pm cd)(O:E3 P w K mg base CX0 k f (fdM d3m q st pm cd) ps sp)(B:BdA d3m q st ps):a8W P w K mg base k y C ps sp:=
 ⟨_,_,O,E6 X G c.y,c.cl,i.a,i.t,i.i.F.binds λ_ _ _ _ _ _ us hl=>(B _ _ _ _ _ _).mp us hl⟩
def d2X(K:Fg)(e:Xn):Bool:=(A1 5).all λi=>(A1 5).all λj=>Y0 K (.ref (e.at i)) (.ref (e.at j)) == some (decide (i=j))
theorem c6g{P:Nat->Prop}(a:P 0)(b:P 1)(c:P 2)(d:P 3)(e:P 4):∀i,i<5->P i
 |0,_=>a
 |1,_=>b
 |2,_=>c
 |3,_=>d
 |4,_=>e
 |n+5,h=>absurd h (by omega)
theorem d0x{P:A4}{w:World}{K:Fg}{mg:Str->Option Value}{base h:Heap}{f:Addr}{x:Str}{st:Stmt}{ps:List Str}{j k n:Nat}{pm cd:Value}{a b:Sp}(X:K.In h)(G:h.Ns w6 mg)(g:FnG K x st f pm cd)(O:E3 P w K mg base CX0 j f (fdM x x st pm cd) ps a)(O1:E3 P w K mg base (CX1 P w) k f (fdM x x st pm cd) ps b)(hj:j<=n)(hk:k<=n)(B:BdA x x st ps):a5u P w K mg base n x ps (c0D a b):=
 ⟨_,_,O.or O1 hj hk,E6 X G g.a,g.i.k,g.i.F.binds λ_ _ _ _ _ _ us hl=>(B _ _ _ _ _ _).mp us hl⟩
structure ClF(K:Fg)(y:Str)(C:Addr):Prop where
 y:C5 K w6 y=some (some (.ref C))
 pg:a4T K C Str.empty=true
 hd:a4k K C=true
 po:b2N K C=true
 sa:o0 K (.ref C) "__setattr__"=some (some (.builtin "object.__setattr__"))
 mm:a1O K C=true
 kc:O8 K (.ref C)=true
abbrev pm0:Value:=(.str "law_oncedone_k59_choices_refused" 979)
abbrev pm1:Value:=(.str "oncedone.words" 194)
abbrev pm2:Value:=(.str "oncedone.checks" 421)
abbrev pm3:Value:=(.str "oncedone.choices" 830)
abbrev pm4:Value:=(.str "oncedone.deeds" 253)
abbrev pm5:Value:=(.str "oncedone.plans" 451)
abbrev pm6:Value:=(.str "oncedone.brinks" 758)
abbrev pm7:Value:=(.str "oncedone.wanted" 678)
abbrev pm8:Value:=(.str "oncedone.ready" 581)
theorem d0V{l:PySem.W.OpenLaw}{w:World}{K:Fg}{h:Heap}{mg:Str->Option Value}{fa:Addr}(X:K.In h)(G:h.Ns w6 mg)(hfa:mg "law"=some (.ref fa))
  (y_Brinks:ClF K "Brinks" 490)
  (a4i:o0 K (.ref 490) d4c = some none)
  (a3j:o0 K (.ref 490) "found"=some none)
  (a4h:o0 K (.ref 490) d3Y = some none)
  (a3i:o0 K (.ref 490) "ready"=some none)
  (a1q:o0 K (.ref 490) "wanted"=some none)
  (y_Choice:ClF K d4t 597)
  (a1p:o0 K (.ref 597) "brinks"=some none)
  (a4g:o0 K (.ref 597) d4c = some none)
  (a2Q:o0 K (.ref 597) "fallen"=some none)
  (a0J:o0 K (.ref 597) "left_in"=some none)
  (a0q:o0 K (.ref 597) "left_out"=some none)
  (a4E:o0 K (.ref 597) "living"=some none)
  (a2w:o0 K (.ref 597) d3Y = some none)
  (a1o:o0 K (.ref 597) "put_in"=some none)
  (y_Plan:ClF K "Plan" 309)
  (a1H:o0 K (.ref 309) "entries"=some none)
  (U5:o0 K (.ref 309) d4d = some none)
  (P3:o0 K (.ref 309) d4y = some none)
  (y_Ready:ClF K "Ready" 377)
  (a2P:o0 K (.ref 377) "come_by"=some none)
  (a3a:o0 K (.ref 377) d4c = some none)
  (a4N:o0 K (.ref 377) d3Y = some none)
  (y_Wanted:ClF K "Wanted" 436)
  (a1W:o0 K (.ref 436) "goes_by"=some none)
  (a2v:o0 K (.ref 436) d3Y = some none)
  (ha_Plan:o0 K (.ref 309) "__class__"=some (some (.builtin "object.__class__"))) (hn_Plan:a4j K (.builtin "object.__class__") "__get__"=some (some (.builtin "getset_descriptor.__get__"))) (tk_Plan:a8u K (.builtin "object.__class__")=some true) (hm_Plan:a3s K 309 (.type "object")=some true)
  (y_DEED_KINDS:C5 K w6 "DEED_KINDS"=some (some (.ref 22))) (l_DEED_KINDS:K.lookup 22=some ⟨.type "tuple",none,.seq (([(.str "plus" 204),(.str "minus" 205),(.str "times" 206),(.str "less" 207),(.str "same" 208)]:List Value).toArray) 0,#[]⟩)
  (y_FIRST_STEP:C5 K w6 "FIRST_STEP"=some (some (.ref 213))) (l_FIRST_STEP:K.lookup 213=some ⟨.type "tuple",none,.seq (([(.int (-1) 454),(.int (0) 455)]:List Value).toArray) 0,#[]⟩)
  (x0:FnG K d3o c2i 606 pm0 (.ref 605))
  (x1:FnG K d3s c0P 613 pm0 (.ref 612))
  (x2:FnG K d3x c5d 620 pm0 (.ref 619))
  (x3:FnG K d3D a7f 625 pm0 (.ref 624))
  (x4:FnG K d3E b7l 630 pm0 (.ref 629))
  (x5:FnG K d3F b7k 637 pm0 (.ref 636))
  (x6:FnG K d3H b2e 644 pm0 (.ref 643))
  (x7:FnG K d3I c0S 651 pm0 (.ref 650))
  (x8:FnG K d3K c5a 658 pm0 (.ref 657))
  (x9:FnG K d3M c0Q 665 pm0 (.ref 664))
  (x10:FnG K d3N a7E 691 pm0 (.ref 690))
  (x11:FnG K d3P b0g 686 pm0 (.ref 685))
  (x12:FnG K d3Q c5e 672 pm0 (.ref 671))
  (x13:FnG K "is_name" a9d 41 pm1 (.ref 40))
  (x14:FnG K d3S b0b 29 pm1 (.ref 28))
  (x15:FnG K d3T b0c 36 pm1 (.ref 35))
  (x16:FnG K d3U a7A 48 pm1 (.ref 47))
  (x17:FnG K "is_deed" b2h 55 pm1 (.ref 54))
  (x18:FnG K d3V a3L 205 pm2 (.ref 204))
  (x19:FnG K d3W b0d 198 pm2 (.ref 197))
  (x20:FnG K d3X a5q 212 pm2 (.ref 211))
  (x21:FnG K d4b a3M 504 pm3 (.ref 503))
  (x22:FnG K "marked" b1a 499 pm3 (.ref 498))
  (x23:FnG K "deed_of" b2i 69 pm4 (.ref 68))
  (x24:FnG K "does" c0R 83 pm4 (.ref 82))
  (x25:FnG K d4g a7z 252 pm5 (.ref 251))
  (x26:FnM K 309 d4e "Plan.steps" a7F 271 pm5 (.ref 270))
  (x27:FnM K 309 "leads_to" "Plan.leads_to" a5a 278 pm5 (.ref 277))
  (x28:FnG K d4l a3k 511 pm3 (.ref 510))
  (x29:FnM K 309 "steps_into" "Plan.steps_into" a3O 285 pm5 (.ref 284))
  (x30:FnG K d4m a1M 518 pm3 (.ref 517))
  (x31:FnM K 490 d4e "Brinks.steps" a5Q 473 pm6 (.ref 472))
  (x32:FnM K 597 "waits_at" "Choice.waits_at" a3Q 538 pm3 (.ref 537))
  (x33:FnM K 597 "waits_on" "Choice.waits_on" a3P 545 pm3 (.ref 544))
  (x34:FnM K 597 "is_put" "Choice.is_put" a5b 552 pm3 (.ref 551))
  (x35:FnM K 436 "wanted_at" "Wanted.wanted_at" a3m 414 pm7 (.ref 413))
  (x36:FnM K 436 "wanted_on" "Wanted.wanted_on" a3l 426 pm7 (.ref 425))
  (x37:FnG K "set_by" b4r 76 pm4 (.ref 75))
  (x38:FnG K "spoils" b4q 90 pm4 (.ref 89))
  (x39:FnM K 377 "ready_at" "Ready.ready_at" a4x 346 pm8 (.ref 345))
  (x40:FnM K 377 d4n "Ready.ready_behind" a2m 353 pm8 (.ref 352))
  (x41:FnM K 377 "ready_on" "Ready.ready_on" a4w 360 pm8 (.ref 359))
  (x42:FnM K 490 d4o "Brinks.is_spoilt_ahead" a0P 466 pm6 (.ref 465))
  (x43:FnM K 436 d4p "Wanted.wanted_behind" Z8 419 pm7 (.ref 418))
  (x44:FnM K 490 "is_brink" "Brinks.is_brink" a3R 459 pm6 (.ref 458))
  (x45:FnG K "pass_on" b2d 320 pm8 (.ref 319))
  (x46:FnG K d4q a4Y 327 pm8 (.ref 326))
  (x47:FnM K 377 d3m "Ready.__init__" a3N 339 pm8 (.ref 338))
  (x48:FnG K d4r a4X 388 pm7 (.ref 387))
  (x49:FnG K d4s a2E 393 pm7 (.ref 392))
  (x50:FnM K 436 d3m "Wanted.__init__" a6D 407 pm7 (.ref 406))
  (x51:FnM K 490 d3m "Brinks.__init__" a4H 452 pm6 (.ref 451))
  (x52:FnD K 597 d3m "Choice.__init__" a0g 526 531 pm3 (.ref 530) (([.none]:List Value).toArray) 0)
  (x53:FnG K d4w b2b 679 pm0 (.ref 678))
  (x54:FnM K 597 "puts" "Choice.puts" a6E 573 pm3 (.ref 572))
  (x55:FnM K 597 "outs" "Choice.outs" a6F 580 pm3 (.ref 579))
  (x56:FnM K 597 "stays" "Choice.stays" a5P 587 pm3 (.ref 586))
  (x57:FnG K "is_row" b4s 62 pm1 (.ref 61))
  (x58:FnG K d4x a6r 218 pm5 (.ref 217))
  (x59:FnG K d4z a4G 223 pm5 (.ref 222))
  (x60:FnG K "reached" b2c 240 pm5 (.ref 239))
  (x61:FnG K "turned" b0Z 233 pm5 (.ref 232))
  (x62:FnG K d4A a7y 228 pm5 (.ref 227))
  (x63:FnG K d4B a7D 247 pm5 (.ref 246))
  (x64:FnM K 309 d3m "Plan.__init__" a3u 264 pm5 (.ref 263))
  (x65:FnG K "law" b6v 696 pm0 (.ref 695))
  (z_abs:C5 K w6 "abs"=some none)
  (z_all:C5 K w6 "all"=some none)
  (z_any:C5 K w6 "any"=some none)
  (z_bool:C5 K w6 "bool"=some none)
  (z_dict:C5 K w6 "dict"=some none)
  (z_enumerate:C5 K w6 "enumerate"=some none)
  (z_int:C5 K w6 "int"=some none)
  (z_isinstance:C5 K w6 "isinstance"=some none)
  (z_len:C5 K w6 "len"=some none)
  (z_list:C5 K w6 "list"=some none)
  (z_min:C5 K w6 "min"=some none)
  (z_range:C5 K w6 "range"=some none)
  (z_sorted:C5 K w6 "sorted"=some none)
  (z_str:C5 K w6 "str"=some none)
  (z_tuple:C5 K w6 "tuple"=some none)
  (z_zip:C5 K w6 "zip"=some none)
  (y_BOUND:C5 K w6 "BOUND"=some (some (.int (1000000000000) 196)))
  (y_FIGURES:C5 K w6 "FIGURES"=some (some (.str "0123456789" 200)))
  (y_LETTERS:C5 K w6 "LETTERS"=some (some (.str "abcdefghijklmnopqrstuvwxyz" 198)))
  (y_LONGEST_NAME:C5 K w6 "LONGEST_NAME"=some (some (.int (8) 202)))
  (y_MOST:C5 K w6 "MOST"=some (some (.int (400) 423)))
  (z_ValueError:C5 K w6 d4v = some none)
  (yO:C5 K w6 "OnceError"=some (some (.ref 100))) (xO:b3k K 100=true)
  (k0:XcF K "Wrong" 120 "at")
  (i0:XiF K "Wrong.__init__" b4t 120 117 (.str "oncedone.errors" 285) (.ref 116))
  (k1:XcF K "NoThing" 139 "at")
  (i1:XiF K "NoThing.__init__" b0f 139 136 (.str "oncedone.errors" 285) (.ref 135))
  (k2:XcF K "NoWay" 177 "at")
  (k3:XcF K "TooMany" 158 d4u)
  (i3:XiF K "TooMany.__init__" b0e 158 155 (.str "oncedone.errors" 285) (.ref 154))
  (k4:XcF K "NoText" 189 "at") (kt:d2X K ⟨100,120,139,177,158,189⟩=true) (nk:(("NoneType" :: a7P).all λt=>Y0 K (.type t) (.ref 309) == some false)=true)
  : ∃fd:Q5,(∀(s:j6) (v:Value),b1O s fd ⟨[v],[]⟩ [(d3n,v)])/\∀base:Heap,K.In base->base.Ns w6 mg->E3 l.prog w K mg base CX0 12 fa fd [d3n] (b4i K):=by
 have e:=hfa.symm.trans (E6 X G x65.a);cases e
 let c:Cn:=⟨490,597,309,377,436,22,213,100,120,139,177,158,189⟩
 have xn:b3C K c.x:=⟨c6g k0.cl k1.cl k2.cl k3.cl k4.cl,c6g k0.is k1.is k2.is k3.is k4.is,c6g k0.na k1.na k2.na k3.na k4.na,c6g k0.up k1.up k2.up k3.up k4.up,λi j h1 h2=>beq_iff_eq.mp (P5.mp (P5.mp kt i (U0.mpr h1)) j (U0.mpr h2)),c6g k0.vk k1.vk k2.vk k3.vk k4.vk⟩;have ck:X6 K c:=⟨⟨y_Brinks.pg,y_Brinks.hd,y_Brinks.po,y_Brinks.sa⟩,a4i,a3j,a4h,a3i,a1q,⟨y_Choice.pg,y_Choice.hd,y_Choice.po,y_Choice.sa⟩,a1p,a4g,a2Q,a0J,a0q,a4E,a2w,a1o,⟨y_Plan.pg,y_Plan.hd,y_Plan.po,y_Plan.sa⟩,a1H,U5,P3,⟨y_Ready.pg,y_Ready.hd,y_Ready.po,y_Ready.sa⟩,a2P,a3a,a4N,⟨y_Wanted.pg,y_Wanted.hd,y_Wanted.po,y_Wanted.sa⟩,a1W,a2v,λH=>.inr ⟨_,([(.str "plus" 204),(.str "minus" 205),(.str "times" 206),(.str "less" 207),(.str "same" 208)]:List Value).toArray,0,l_DEED_KINDS,rfl,rfl,by decide,.cons ⟨_,rfl⟩ ( .cons ⟨_,rfl⟩ ( .cons ⟨_,rfl⟩ ( .cons ⟨_,rfl⟩ ( .cons ⟨_,rfl⟩ ( .nil)))))⟩,λH=>.inr ⟨_,([(.int (-1) 454),(.int (0) 455)]:List Value).toArray,0,l_FIRST_STEP,rfl,rfl,by decide,.cons ⟨_,rfl⟩ ( .cons ⟨_,rfl⟩ ( .nil))⟩,⟨⟨y_Plan.pg,y_Plan.hd,y_Plan.po,y_Plan.sa⟩,ha_Plan,hn_Plan,tk_Plan,hm_Plan⟩,nk,xn⟩;have T:Txt K mg c:=⟨D7 X G z_abs,D7 X G z_all,D7 X G z_any,D7 X G z_bool,D7 X G z_dict,D7 X G z_enumerate,D7 X G z_int,D7 X G z_isinstance,D7 X G z_len,D7 X G z_list,D7 X G z_min,D7 X G z_range,D7 X G z_sorted,D7 X G z_str,D7 X G z_tuple,D7 X G z_zip,⟨_,E6 X G y_BOUND,⟨_,rfl⟩⟩,⟨_,E6 X G y_DEED_KINDS,rfl⟩,⟨_,E6 X G y_FIGURES,⟨_,rfl⟩⟩,⟨_,E6 X G y_FIRST_STEP,rfl⟩,⟨_,E6 X G y_LETTERS,⟨_,rfl⟩⟩,⟨_,E6 X G y_LONGEST_NAME,⟨_,rfl⟩⟩,⟨_,E6 X G y_MOST,⟨_,rfl⟩⟩,⟨_,E6 X G y_Plan.y,rfl⟩⟩;refine⟨fdM "law" "law" b6v pm0 (.ref 695),λs v=>.of_eq rfl,λbase _ _=>?_⟩;have c2H:=mkC X G x0 (d0s (P:=l.prog) (w:=w) (base:=base) T x0.i.F) λ_ _ _ _ _ _ _=>rfl
 have D5:=mkC X G x1 (c7G (P:=l.prog) (w:=w) (base:=base) T x1.i.F) λ_ _ _ _ _ _ _ _=>rfl
 have c2G:=mkC X G x2 (d0p T D5 x2.i.F) λ_ _ _ _ _ _ _ _=>rfl
 have b1A:=mkC X G x3 (c3x (P:=l.prog) (w:=w) (base:=base) T x3.i.F) λ_ _ _ _ _ _ _=>rfl
 have b8f:=mkC X G x4 (c7I T D5 x4.i.F) λ_ _ _ _ _ _ _ _=>rfl
 have b3Q:=mkC X G x5 (c5I T D5 b8f x5.i.F) λ_ _ _ _ _ _ _=>rfl
 have a0C:=mkC X G x6 (c1m T D5 x6.i.F) λ_ _ _ _ _ _ _ _=>rfl
 have b8g:=mkC X G x7 (c7K T D5 a0C x7.i.F) λ_ _ _ _ _ _ _ _=>rfl
 have c2F:=mkC X G x8 (d0o T D5 a0C x8.i.F) λ_ _ _ _ _ _ _ _ _=>rfl
 have b8e:=mkC X G x9 (c7H T D5 c2G b1A b3Q a0C b8g c2F x9.i.F) λ_ _ _ _ _ _ _=>rfl
 have a7X:=mkC X G x10 (b9s T D5 x10.i.F) λ_ _ _ _ _ _ _ _=>rfl
 have a7Y:=mkC X G x11 (b9t T D5 x11.i.F) λ_ _ _ _ _ _ _ _=>rfl
 have c_int:=mkC X G x12 (d0r (P:=l.prog) (w:=w) (base:=base) T x12.i.F) λ_ _ _ _ _ _ _=>rfl
 have a2J:=mkC X G x13 (c1n (P:=l.prog) (w:=w) (base:=base) T x13.i.F) λ_ _ _ _ _ _ _=>rfl
 have a3r:=mkC X G x14 (b9n (P:=l.prog) (w:=w) (base:=base) T x14.i.F) λ_ _ _ _ _ _ _=>rfl
 have a7W:=mkC X G x15 (b9o T a3r x15.i.F) λ_ _ _ _ _ _ _=>rfl
 have a0c:=mkC X G x16 (b5W T a2J a7W x16.i.F) λ_ _ _ _ _ _ _=>rfl
 have c_is_deed:=mkC X G x17 (c1o T a0c x17.i.F) λ_ _ _ _ _ _ _=>rfl
 have c_check_length:=mkC X G x18 (a8k (P:=l.prog) (w:=w) (base:=base) T x18.i.F) λ_ _ _ _ _ _ _ _ _=>rfl
 have c_is_below:=mkC X G x19 (b9p T a3r x19.i.F) λ_ _ _ _ _ _ _ _=>rfl
 have c_check_each:=mkC X G x20 (a9L (P:=l.prog) (w:=w) (base:=base) T x20.i.F) λ_ _ _ _ _ _ _=>rfl
 have c_check_held:=mkC X G x21 (a9K T c_check_length c_is_below c_check_each x21.i.F) λ_ _ _ _ _ _ _ _ _=>rfl
 have c_marked:=mkC X G x22 (c3y (P:=l.prog) (w:=w) (base:=base) T x22.i.F) λ_ _ _ _ _ _ _=>rfl
 have a9m:=mkC X G x23 (c1p (P:=l.prog) (w:=w) (base:=base) T x23.i.F) λ_ _ _ _ _ _ _=>rfl
 have c_does:=mkC X G x24 (c7J T a9m x24.i.F) λ_ _ _ _ _ _ _ _=>rfl
 have a3q:=mkC X G x25 (b9m (P:=l.prog) (w:=w) (base:=base) T x25.i.F) λ_ _ _ _ _ _ _=>rfl
 have c_Plan_steps:=mkM x26 ck.N4 (b5Z T a3q x26.i.F) λ_ _ _ _ _ _ _=>rfl
 have L7:=mkM x27 ck.N4 (b2t (P:=l.prog) (w:=w) (base:=base) T x27.i.F) λ_ _ _ _ _ _ _ _=>rfl
 have c_unwaiting_places:=mkC X G x28 (a9u T c_marked c_does c_Plan_steps L7 x28.i.F) λ_ _ _ _ _ _ _ _ _ _=>rfl
 have U8:=mkM x29 ck.N4 (b0p (P:=l.prog) (w:=w) (base:=base) T x29.i.F) λ_ _ _ _ _ _ _ _=>rfl
 have c_places_alive_behind:=mkC X G x30 (a7N T U8 x30.i.F) λ_ _ _ _ _ _ _ _ _ _=>rfl
 have c_Brinks_steps:=mkM x31 ck.V2 (b3t (P:=l.prog) (w:=w) (base:=base) T x31.i.F) λ_ _ _ _ _ _ _=>rfl
 have c_Choice_waits_at:=mkM x32 ck.I0 (b0r (P:=l.prog) (w:=w) (base:=base) T x32.i.F) λ_ _ _ _ _ _ _ _=>rfl
 have a1U:=mkM x33 ck.I0 (b0q T c_does c_Choice_waits_at x33.i.F) λ_ _ _ _ _ _ _ _=>rfl
 have c_Choice_is_put:=mkM x34 ck.I0 (b2u T L7 c_Choice_waits_at a1U x34.i.F) λ_ _ _ _ _ _ _ _=>rfl
 have T6:=mkM x35 ck.a2x (a9w (P:=l.prog) (w:=w) (base:=base) T x35.i.F) λ_ _ _ _ _ _ _ _=>rfl
 have a1A:=mkM x36 ck.a2x (a9v T L7 T6 x36.i.F) λ_ _ _ _ _ _ _ _=>rfl
 have b1z:=mkC X G x37 (c3w (P:=l.prog) (w:=w) (base:=base) T x37.i.F) λ_ _ _ _ _ _ _=>rfl
 have a1m:=mkC X G x38 (c3v T b1z x38.i.F) λ_ _ _ _ _ _ _ _=>rfl
 have a2L:=mkM x39 ck.a1L (b1n (P:=l.prog) (w:=w) (base:=base) T x39.i.F) λ_ _ _ _ _ _ _ _=>rfl
 have a0F:=mkM x40 ck.a1L (a8r T c_does a1m a2L x40.i.F) λ_ _ _ _ _ _ _ _=>rfl
 have a2K:=mkM x41 ck.a1L (b1m T a0F x41.i.F) λ_ _ _ _ _ _ _ _=>rfl
 have W8:=mkM x42 ck.V2 (a6h T a1m x42.i.F) λ_ _ _ _ _ _ _ _=>rfl
 have a0d:=mkM x43 ck.a2x (a7h T T6 x43.i.F) λ_ _ _ _ _ _ _ _=>rfl
 have a1V:=mkM x44 ck.V2 (b0s T a1A a2K W8 a0d x44.i.F) λ_ _ _ _ _ _ _ _=>rfl
 have a7j:=mkC X G x45 (c1l (P:=l.prog) (w:=w) (base:=base) T x45.i.F) λ_ _ _ _ _ _ _ _ _ _=>rfl
 have a3h:=mkC X G x46 (b2s T a7j x46.i.F) λ_ _ _ _ _ _ _ _ _=>rfl
 have b3L:=mkK X G x47 y_Ready.y y_Ready.mm y_Ready.kc (b5Y T c_does a1m a3h x47.i.F) λ_ _ _ _ _ _ _ _ _=>rfl
 have a3g:=mkC X G x48 (b2r T c_does a1m x48.i.F) λ_ _ _ _ _ _ _ _=>rfl
 have a2I:=mkC X G x49 (b1l T c_does U8 a3g x49.i.F) λ_ _ _ _ _ _ _ _=>rfl
 have b1r:=mkK X G x50 y_Wanted.y y_Wanted.mm y_Wanted.kc (b4L T a2I x50.i.F) λ_ _ _ _ _ _ _ _ _=>rfl
 have m_Brinks:=mkK X G x51 y_Brinks.y y_Brinks.mm y_Brinks.kc (b4O T c_Plan_steps a1V b3L b1r x51.i.F) λ_ _ _ _ _ _ _ _ _=>rfl
 have a8Q:=d2V X G x52 y_Choice.y y_Choice.mm y_Choice.kc (a4c T c_is_deed c_check_held c_marked c_does c_Plan_steps c_unwaiting_places c_places_alive_behind c_Brinks_steps c_Choice_waits_at c_Choice_is_put m_Brinks x52.F) λ_ _ _ _ _ _ _ _ _ _=>⟨_,rfl,rfl⟩
 have md_Choice:=d2U (qs:=[d4h,d3Y,d4c]) X G x52 y_Choice.y y_Choice.mm y_Choice.kc (a4c T c_is_deed c_check_held c_marked c_does c_Plan_steps c_unwaiting_places c_places_alive_behind c_Brinks_steps c_Choice_waits_at c_Choice_is_put m_Brinks x52.F) rfl λ_ _ _ _ _ _ _ _ _=>⟨_,rfl,rfl⟩
 have mx_Wrong:a8W l.prog w K mg base 1 "Wrong" c.x.C_Wrong [d4h,"at"] (a0m K "at"):=mkX X G k0 i0 (c3A (P:=l.prog) (w:=w) (mg:=mg) (base:=base) i0.i.F) λ_ _ _ _ _ _ _ _=>rfl
 have mx_NoThing:a8W l.prog w K mg base 1 "NoThing" c.x.C_NoThing [d4h,"at"] (a0m K "at"):=mkX X G k1 i1 (b9r (P:=l.prog) (w:=w) (mg:=mg) (base:=base) i1.i.F) λ_ _ _ _ _ _ _ _=>rfl
 have mx_TooMany:a8W l.prog w K mg base 1 "TooMany" c.x.C_TooMany [d4h,d4u] (a0m K d4u):=mkX X G k3 i3 (b9q (P:=l.prog) (w:=w) (mg:=mg) (base:=base) i3.i.F) λ_ _ _ _ _ _ _ _=>rfl
 have d_check_length:a5u l.prog w K mg base 3 d3V a1k (a4u K c.x):=d0x X G x18 (a8k (P:=l.prog) (w:=w) (base:=base) (T:=T) x18.i.F) (b2v (P:=l.prog) (w:=w) (base:=base) (c:=c) (T:=T) (mx_TooMany:=mx_TooMany) (mx_Wrong:=mx_Wrong) x18.i.F) (by decide) (by decide) λ_ _ _ _ _ _ _ _ _=>rfl
 have d_check_each:a5u l.prog w K mg base 3 d3X a2H (a5M K c.x):=d0x X G x20 (a9L (P:=l.prog) (w:=w) (base:=base) (T:=T) x20.i.F) (b4Q (P:=l.prog) (w:=w) (base:=base) (c:=c) (T:=T) (mx_NoThing:=mx_NoThing) x20.i.F) (by decide) (by decide) λ_ _ _ _ _ _ _=>rfl
 have d_check_held:a5u l.prog w K mg base 4 d4b a2G (a5L K c.x):=d0x X G x21 (a9K (P:=l.prog) (w:=w) (base:=base) (T:=T) (c_check_each:=c_check_each) (c_check_length:=c_check_length) (c_is_below:=c_is_below) x21.i.F) (b4P (P:=l.prog) (w:=w) (base:=base) (c:=c) (T:=T) (d_check_each:=d_check_each) (d_check_length:=d_check_length) (c_is_below:=c_is_below) x21.i.F) (by decide) (by decide) λ_ _ _ _ _ _ _ _ _=>rfl
 have mr_Choice:b2L l.prog w K mg base 9 d4t c.v6 W5 (a3c K c c.x):=b2L.or (a4c (P:=l.prog) (w:=w) (base:=base) (T:=T) (c_Brinks_steps:=c_Brinks_steps) (c_Choice_is_put:=c_Choice_is_put) (c_Choice_waits_at:=c_Choice_waits_at) (c_Plan_steps:=c_Plan_steps) (c_check_held:=c_check_held) (c_does:=c_does) (c_is_deed:=c_is_deed) (c_marked:=c_marked) (c_places_alive_behind:=c_places_alive_behind) (c_unwaiting_places:=c_unwaiting_places) (m_Brinks:=m_Brinks) x52.F) (b3u (P:=l.prog) (w:=w) (base:=base) (T:=T) (mx_Wrong:=mx_Wrong) (d_check_held:=d_check_held) (c_is_deed:=c_is_deed) x52.F) (by decide) (by decide) (E6 X G y_Choice.y) ⟨y_Choice.mm,x52.a,x52.fn,y_Choice.kc⟩ (x52.F.binds (ds:=[]) x52.t rfl λ_ _ _ _ _ _ us hl=>match us,hl with | [_,_,_,_],_=>⟨_,rfl,rfl⟩);have mk_Choice:b5w l.prog w K mg base 9 d4t c.v6 W5 d3Z (L9 K c):=d2T (qs:=[d4h,d3Y,d4c]) X G x52 y_Choice.y y_Choice.mm y_Choice.kc (a4c (P:=l.prog) (w:=w) (base:=base) (T:=T) (c_Brinks_steps:=c_Brinks_steps) (c_Choice_is_put:=c_Choice_is_put) (c_Choice_waits_at:=c_Choice_waits_at) (c_Plan_steps:=c_Plan_steps) (c_check_held:=c_check_held) (c_does:=c_does) (c_is_deed:=c_is_deed) (c_marked:=c_marked) (c_places_alive_behind:=c_places_alive_behind) (c_unwaiting_places:=c_unwaiting_places) (m_Brinks:=m_Brinks) x52.F) rfl λ_ _ _ _ _ _ _ _ _ _=>⟨_,rfl,rfl⟩
 have a3y:K9 l.prog w K mg base 11 d4w a9g (Y6 K c):=mkC X G x53 (c1j (T:=T) (c_int:=c_int) (mr_Choice:=mr_Choice) (bVE:=D7 X G z_ValueError) (gO:=E6 X G yO) (xO:=xO) (g0:=⟨_,E6 X G k0.y,rfl⟩) (g1:=⟨_,E6 X G k1.y,rfl⟩) (g2:=⟨_,E6 X G k2.y,rfl⟩) (g3:=⟨_,E6 X G k3.y,rfl⟩) (g4:=⟨_,E6 X G k4.y,rfl⟩) x53.i.F) λ_ _ _ _ _ _ _=>rfl
 have a0U:=mkM x54 ck.I0 (b4M (P:=l.prog) (w:=w) (base:=base) T x54.i.F) λ_ _ _ _ _ _ _=>rfl
 have a2Z:=mkM x55 ck.I0 (b4N (P:=l.prog) (w:=w) (base:=base) T x55.i.F) λ_ _ _ _ _ _ _=>rfl
 have a2q:=mkM x56 ck.I0 (b3s (P:=l.prog) (w:=w) (base:=base) T x56.i.F) λ_ _ _ _ _ _ _=>rfl
 have b1B:=mkC X G x57 (c3z T a2J a0c c_is_deed x57.i.F) λ_ _ _ _ _ _ _=>rfl
 have a6y:=mkC X G x58 (b7H T c_is_below x58.i.F) λ_ _ _ _ _ _ _ _ _=>rfl
 have a4L:=mkC X G x59 (b4K T c_check_each a6y x59.i.F) λ_ _ _ _ _ _ _ _=>rfl
 have a7i:=mkC X G x60 (c1k (P:=l.prog) (w:=w) (base:=base) T x60.i.F) λ_ _ _ _ _ _ _ _=>rfl
 have b1y:=mkC X G x61 (c3u (P:=l.prog) (w:=w) (base:=base) T x61.i.F) λ_ _ _ _ _ _ _=>rfl
 have a7V:=mkC X G x62 (b9l (P:=l.prog) (w:=w) (base:=base) T x62.i.F) λ_ _ _ _ _ _ _=>rfl
 have a5s:=mkC X G x63 (b5X T a7i b1y a7V x63.i.F) λ_ _ _ _ _ _ _=>rfl
 have b7M:=mkK X G x64 y_Plan.y y_Plan.mm y_Plan.kc (b7I T c_check_length c_check_each a3q L7 b1B a4L a5s x64.i.F) λ_ _ _ _ _ _ _ _ _=>rfl
 exact d0q T c2H D5 b8e a7X a7Y a8Q mk_Choice md_Choice a3y a0U a2Z a2q b7M ck x65.i.F
theorem walk{l:PySem.W.OpenLaw}{q:A4}{loose:List Str}{XP:(Str->Option Value)->Heap->Prop}{YP:World->Heap->Prop}{d:DefRec}{K:Params->Fg}(hn:l.most=some 63)(hdf:d.params.defaults=[])
  (hY:∀(w:World) (h:Heap),YP w h->(K w.params).In h)
  (F:∀(w:World) (mg:Str->Option Value) (fa:Addr) (h:Heap),(K w.params).In h->h.Ns w6 mg->mg d.name=some (.ref fa) ->
   ∃fd:Q5,(∀(s:j6) (u:Value),b1O s fd ⟨[u],[]⟩ [(d3n,u)])/\∀base:Heap,(K w.params).In base->base.Ns w6 mg->E3 l.prog w (K w.params) mg base CX0 12 fa fd [d3n] (b4i (K w.params))) :
  PySem.W.WalkO q loose XP YP l.row.toRowW d [] (λf vs=>b8o f vs):=
 L2.c6Y (n:=63) (k:=12) (x := d3n) (CX:=λ_=>CX0) (sp:=λw=>b4i (K w.params)) hn (by decide) hdf ⟨rfl,by decide,by decide,rfl⟩ hY F (λ_ _ a ns hl hO hS=>RD.law_reading _ hl hO hS) λ_ _ _ _ _ z=>z
end PR
open PySem PySem.W PyProof.Rows
set_option maxRecDepth 100000 in
set_option maxHeartbeats 0 in
theorem PySem.Challenge.cw_oncedone_k59_choices_refused_holds : PySem.Challenge.rw_oncedone_k59_choices_refused.Holds := by
 refine HD.fin λd hd hdf=>PR.walk (l:=HD.row) (K:=HD.K) rfl hdf (λw h Y=>PySem.W.kIn_of Y) ?F
 intro w mg fa h KX G hmg;rw[hd]at hmg;apply PR.d0V KX G hmg <;> first | kernel_rfl | (constructor <;> first | kernel_rfl | (constructor <;> kernel_rfl))
