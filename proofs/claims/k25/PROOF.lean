import PyProof.Rows.All
import Wide.All
import OpenK.AllK
import Wide.FinOn
import PyProof.EqAt
import PyProof.EqKinds
import PyProof.TupleCall
import PyProof.NeKinds
import PyProof.EnumMake
import PyProof.ConsumeWalk
import KE.LcSums
import PyProof.ReprLen
import PyProof.StrLawsRepr
import PyProof.Rows.StrNews2
import PyProof.Rows.SetFrom
import PyProof.WalksMore
import PyProof.StrLawsChain
import PyProof.StrLawsTight
import PyProof.StrLawsIdx
import PyProof.ZipIter
import PyProof.Draws
import PyProof.Rows.FactsT2
import PyProof.ListStr
import PyProof.Rows.StrPartPair
import KE.KSortTup
import KE.KDictSum
import KE.KRevIter
import PyProof.DictItems
import KE.KPairComp
import PyProof.AutoSeq1
import PyProof.SetNew
import KE.KSortKey
import KE.KLam
import KE.KNestM
import PyProof.AttrMissHeap
import KE.KDictOf
import PyProof.ListRange
import PyProof.SumWalk
import Lean
import PySem.Challenge.RW_touchboats_k25_touches_of_a_made_day
set_option Elab.async false
set_option linter.all false
set_option maxRecDepth 100000
set_option maxHeartbeats 4000000
namespace PySem.W.Fast
def tw14715166494203709731:=0
def tw4828058663997959085:=0
def tw8643656353418871262:=0
def tw12148614689422354950:=0
def tw38415049108242113:=0
def tw13407813755185892820:=0
def tw16938613410868098424:=0
def tw15019343210307027155:=0
def tw17542858464330502202:=0
def tw1896474802067636115:=0
def tw8341704259977743167:=0
def tw10160127934938499706:=0
def tw8320530655914198422:=0
def tw11876539751471175703:=0
def tw1483837577351023129:=0
def tw7915066624523602601:=0
def tw9000730673222308153:=0
def tw823040041788703596:=0
def tw10615423811949987978:=0
def tw7281153851270393116:=0
def tw16699241027920829710:=0
def tw17984699217009974048:=0
def tw322006457885179694:=0
def tw7839957912057780567:=0
def tw2028469965302498031:=0
def tw13036163162819907045:=0
def tw3160078255998699451:=0
def tw1882563394223737357:=0
def tw12163878530867919431:=0
def tw16202608497176792575:=0
def tw5565113628520794000:=0
def tw11523772235410460702:=0
def tw17868304528268270649:=0
def tw2578449445772822442:=0
end PySem.W.Fast
open PySem renaming wpAny_bind->A0,wpAny_pure->A4,sizeLine->B0,Program->B2,wpAny_newObj_type->J8,wpAny_callSpecial?_slot->T8,wpAny_call_entry->M6,wpAny_holding->J5,wpAny_mono->F9,assignEach->G0,starEach->E4,wpAny_setState_of->T9,bootBuiltins->N0,foldedSetIterable->V6,wpAny_field->L8,sizeLine_eq->M7,sysModules->L9,SetTable->G6,wpAny_of_eq->O7,codeAny_builtin->X4,wpAny_seqItems->V7,mem_of_lookup->y7,wpAny_setField->Z3,wpAny_typeNameOfWhole_keyiter->Dr,wpAny_standAt->Z4,plainId_quiet->Z5,mainGlobals->V8,letOwnedTupleGo->o9,codeAny->K3,compareOp->Q1,wpAny_setField_rec->AN,isSubtype_type->p5,wpAny_rule->V9,wpAny_passesOwn->y8,Builtin->M1,wpAny_typeNameOf_keyiter->Ds,wpAny_getItem_str_slice->Dt,wpAny_attempt->p6,wpAny_setEntries_of->BR,codeAny_mono->p7,wpAny_typeOf->p8,wpAny_pyIter_list->BS,binaryOp->R0,behindInMarks->y9,attributeBase->z0,firstArgMember->AO,wpAny_fieldsOf->AQ,wpAny_comprehension_free->FR,FuncData->W0,wpAny_specialOf->BU,wpAny_pyNext_list_item->FS,wpAny_pyIter_rangeiter->FT,codeAny_compStart_list->FU,holding->R1,sliceBounds->z9,wpAny_storeSet_of->Du,swapsWith->i4,wpAny_pyNext_list_end->FV,wpAny_askSetting->Dv,wpAny_isInstance->Dw,wpAny_forIn_list->Dx,wpAny_execs_nil->Dz,keywordEach->AR,getItem->W3,post_val_or_str->DA,codeAny_of_tree->DB,Keyword->X5,DictEntry->Aa,standAt->Z6
open PySem.W renaming Frag->A5,fnOf->X6,kas_place->U1,kas_rev->N8,kas_sort->P4,kas_asc->R3,keepIn->BV,kas_desc->Z7,kas_item->i5,codeIn->DC,methodObj->FW
open PySem.Heap renaming get?_push_of_some->B6,get?_push_size->E1,lt_size->B9,SameBut->Q2,size_push->W4,get?_update_self->Ab,get?_update_other->AS
open List renaming length_map->A7,mem_cons_of_mem->B5,getElem?_eq_getElem->C4,mem_cons_self->B8,getElem?_eq_some_iff->E6,mem_cons->B7,getElem?_map->D5,length_cons->D3,length_append->E2,size_toArray->D8,mem_singleton->F2,mem_map->C8,mem_of_getElem?->G8,getD_eq_getElem?_getD->M8,getElem?_set_self->K9,getElem?_set_ne->K4,getElem?_append_right->P5,getElem?_eq_none->N1,map_cons->F3,range->D1,length_set->J6,mem_append_right->P6,length_take->L0,getElem?_append_left->U2,mem_filter->K5,mem_append->K6,pairwise_iff_getElem->X7,length_drop->N9,map_append->N3,mem_range->M9,flatMap_cons->Q3,take_of_length_le->X8,drop_of_length_le->X9,nodup_cons->O8,Nodup->G7,pairwise_map->R4,all_eq_true->Q4,not_mem_nil->Q5,length_singleton->Z8,drop_eq_getElem_cons->p9,mem_append_left->Z9,mem_flatMap->U3,append_assoc->W5,length_filter_le->i6,map_map->O9,append_nil->W6,reverse_cons->b0,foldl_cons->Y0,length_range->i7,mem_of_mem_take->Ac,cons_append->i8,filterMap_cons->Ad,length_reverse->Ae,nil_append->i9,zip_cons_cons->Af,eq_nil_of_length_eq_zero->DE,getElem_mem->q8,getElem?_cons_succ->BW,mem_iff_getElem?->BX,map_nil->j3,drop_zero->Ag,find?_cons->AT,take_append_drop->DF,length_zip->AU,ext_getElem?->BY,nodup_append->BZ,perm_ext_iff_of_nodup->FX,mem_of_mem_drop->DG,take_length->B_,drop_succ_cons->DH,toList_toArray->DI,getElem?_replicate->FY,getElem?_cons_zero->FZ,getElem_range->DJ,sum_cons->AV,getElem?_drop->DK,take_succ->Ca,map_set->AX,any_eq_true->DM,drop_length->DN,mem_iff_getElem->F_,getElem_of_mem->Ga,getElem?_range->Gb
open PySem.Str renaming ofString->A6
open Nat renaming le_refl->A9,ne_of_lt->D0,lt_of_lt_of_le->L3,zero_le->G4,zero_add->K7,le_trans->L4,lt_succ_of_lt->W7,testBit_mod_two_pow->t0,lt_irrefl->R5,lt_of_le_of_lt->j6,testBit->P7,lt_trichotomy->t7,sub_self->Y1,not_lt_zero->u3,le_of_not_lt->Ah,lt_succ_self->Ai,le_of_lt->b8,sub_succ_lt_self->Cb,lt_trans->j7,ne_of_gt->u4,min_eq_left->AY,testBit_shiftLeft->DO,le_of_lt_succ->Cc,min_eq_right->Cd,lt_or_ge->AZ,pow_le_pow_right->Gc,le_succ->A_,le_total->Ce,testBit_or->DP
open Array renaming length_toList->F4,getElem?_toList->O0,getElem?_eq_getElem->b9,getD_eq_getD_getElem?->Aj,getElem?_eq_some_iff->DQ,getElem?_eq_none->DR,perm_iff_toList_perm->Gd,replicate->DS
open Bool renaming false_ne_true->J3,false_eq_true->J7,and_eq_true->u5,beq_eq_decide_eq->Cf,eq_iff_iff->Ak,not_true->Am,false_and->Ba,and_false->DT
open Option.some renaming inj->J9
open PySem.Heap.SameBut renaming update->P8,refl->Ge
open PySem.Builtin.SmallTypes renaming nextOf->c0,ownedTupleIsFree->DV,ownedTupleHandOut->IP
open Int renaming toNat_natCast->Q6,emod_lt_of_pos->An,emod_nonneg->Ao,eq_ofNat_of_zero_le->DW
open Sum renaming inr->C9,inl->L5
open PySem.Builtin.Slice renaming slicePlaces->u6,sliceAdjust->Cg,sliceApplied->DX,sliceFields->IQ
open PySem.Around renaming under_plainId->c6
open PyProof.Rows renaming slot_tuple_getitem->Bb,callWith_type1->Ch
open PySem.Builtin.Tuple renaming tupleExact->u7,tupleItemsOf->Gf
open PySem.Builtin.Range renaming rangeFitsLong->Ap,rangeSize->Gg
open PyProof.Rows.F renaming plain_set_update_loop->u8,entry_set_update_loop->DY
open PySem.Value renaming ref->K0,none->N4,type->O1
open Classical renaming byContradiction->Bc
open PySem.SetTable renaming grown->W8
open PySem.Builtin.Str renaming occurrences->Bd
open PySem.PyData renaming showable->c7,showableAll->Be,shownAll->Aq,depth->j8,shown->j9,shownKv->Bf,depthAll->Ci,showableKv->DZ,depthKv->D_
open PySem.Obj renaming mapSeq->P9,data_mapFields->Bg,mapFields->Bh,isFreed_of_fields->Gi,putSet->Ar
open PySem.Builtin.List renaming listTooLong->Cj,listLengthHint->IR,listExtendWith->IT,listFitsIndex->IU
open PySem.F renaming slot_dict_keyiterator_next->Ea,slot_tuple_iterator_next->Eb,plainAttrs_list->Ec,plain_list_iadd->Ed,args_tuple_add_2->Gj,entry_tuple_add->Gk,slot_tuple_add->Gm,slot_zip_next->Ee
open ForInStep renaming yield->u9
open Option renaming isSome_iff_exists->Ef
open PySem.Txt renaming slice->U4,slice_le->Bi
open False renaming elim->c8
open PySem.Paired renaming length->Bj
open Array.Perm renaming refl->Ck
open PySem.StrLaws renaming sliceText->Eg
open PySem.SeqAt renaming RcNeAt->Bk,EqAt->As,RcAt->Bm
open PySem.Builtin.Dict_items renaming ownsTuple->IV
open PySem.Data renaming fields->Bn
open PySem.Heap.IsSliceOf renaming new->Gn
open List.Pairwise renaming nil->Go
open True renaming intro->Bo
open Prod.mk renaming inj->Cm
local macro_rules|`(tactic|omega)=>`(tactic|lia)
section
namespace L2
open PySem PySem.Spec PyProof.Rows
abbrev Key:=Sum Int Str
def Bp:Key->Value->Bool
 | .inl k,v=>Value.isInt k v
 | .inr x,v=>Value.isStrOf x v
def keyH (w:World):Key->Int
 | .inl k=>hashInt k
 | .inr x=>hashStr w x
theorem Y2:∀{k:Key} {v:Value},Bp k v=true->(∃i t,k=L5 i/\v=Value.int i t)\/(∃x t,k=C9 x/\v=Value.str x t)
 | .inl i, v, h => by
   obtain⟨t,e⟩:=Value.isInt_shape (k:=i) (v:=v) h;exact .inl ⟨i,t,rfl,e⟩
 | .inr x, v, h => by
   obtain⟨t,e⟩:=Value.isStrOf_shape (x:=x) (v:=v) h;exact .inr ⟨x,t,rfl,e⟩
theorem Me (i:Int)(t:Tok):Bp (.inl i) (.int i t)=true:=by simp [Bp,Value.isInt]
theorem Mf (x:Str)(t:Tok):Bp (.inr x) (.str x t)=true:=by simp [Bp,Value.isStrOf]
theorem key_ll (a b:Int):decide ((L5 a:Key)=L5 b)=(a == b):=by
 by_cases e:a=b
 · subst e;simp
 · have h:¬(L5 a:Key)=L5 b:=fun q=>e (Sum.inl.inj q);rw [decide_eq_false h];exact(beq_eq_false_iff_ne.mpr e).symm
theorem key_rr (a b:Str):decide ((C9 a:Key)=C9 b)=decide (a=b):=by
 by_cases e:a=b
 · subst e;simp
 · have h:¬(C9 a:Key)=C9 b:=fun q=>e (Sum.inr.inj q);rw [decide_eq_false h,decide_eq_false e]
theorem key_lr (a:Int)(b:Str):decide ((L5 a:Key)=C9 b)=false:=decide_eq_false (fun q=>nomatch q)
theorem key_rl (a:Str)(b:Int):decide ((C9 a:Key)=L5 b)=false:=decide_eq_false (fun q=>nomatch q)
def E8 (prog:B2)(w:World):PySem.KeyKind prog w Key where
 is:=Bp
 hash:=keyH w
 inj:=fun v a b ha hb=>by
   rcases Y2 ha with⟨i,t,rfl,rfl⟩ | ⟨x,t,rfl,rfl⟩
   · rcases Y2 hb with⟨j,u,rfl,e⟩ | ⟨y,u,rfl,e⟩
     · injection e with e1 _;rw [e1]
     · exact nomatch e
   · rcases Y2 hb with⟨j,u,rfl,e⟩ | ⟨y,u,rfl,e⟩
     · exact nomatch e
     · injection e with e1 _;rw [e1]
 byValue:=fun k v h=>by
   rcases Y2 h with⟨i,t,rfl,rfl⟩ | ⟨x,t,rfl,rfl⟩ <;> rfl
 pyHash:=fun hv h=>by
   rcases Y2 hv with⟨i,t,rfl,rfl⟩ | ⟨x,t,rfl,rfl⟩
   · exact wpAny_pyHash_int h
   · exact wpAny_pyHash_str h
 eqBool:=fun hu hv h=>by
   rcases Y2 hu with⟨i,t,rfl,rfl⟩ | ⟨x,t,rfl,rfl⟩
   · rcases Y2 hv with⟨j,u,rfl,rfl⟩ | ⟨y,u,rfl,rfl⟩
     · rw [key_ll] at h;exact wpAny_eqBool_int h
     · rw [key_lr] at h;exact SeqAt.EqAt.int_str i t y u _ _ _ _ h
   · rcases Y2 hv with⟨j,u,rfl,rfl⟩ | ⟨y,u,rfl,rfl⟩
     · rw [key_rl] at h;exact SeqAt.EqAt.str_int x t j u _ _ _ _ h
     · rw [key_rr] at h;exact wpAny_eqBool_str h
 «strs»:=fun k x t v h=>by
   rcases Y2 h with⟨i,u,rfl,e⟩ | ⟨y,u,rfl,e⟩
   · exact nomatch e
   · injection e with e1 _;subst e1;cases v <;> rfl
theorem IW (prog:B2)(w:World)(i:Int)(t:Tok):(E8 prog w).is (.inl i) (.int i t)=true:=Me i t
theorem At (prog:B2)(w:World)(x:Str)(t:Tok):(E8 prog w).is (.inr x) (.str x t)=true:=Mf x t
inductive V where
 | non | bl (b:Bool) | int (i:Int) | str (x:Str) | byt (b:Array UInt8) | flt (b:UInt64) | ref (a:Addr) | ty (n:String)
 deriving DecidableEq
def RelV:V->Value->Prop
 | .non,u=>u=N4
 | .bl b,u=>u=Value.bool b
 | .int i,u=>∃t,u=Value.int i t
 | .str x,u=>∃t,u=Value.str x t
 | .byt b,u=>∃t,u=Value.bytes b t
 | .flt b,u=>∃t,u=Value.float b t
 | .ref a,u=>u=K0 a
 | .ty n,u=>u=O1 n
abbrev Vals:List V->List Value->Prop:=Paired RelV
theorem Vals.length {xs:List V}{us:List Value}(r:Vals xs us):xs.length=us.length:=Bj r
theorem Vals.get:∀{xs:List V} {us:List Value} {i:Nat} {x:V},Vals xs us->xs[i]?=some x->∃u,us[i]?=some u/\RelV x u
 | _,_,_,_,.nil,e=>by simp at e
 | _,_,0,_,.cons r _,e=>by simp at e;subst e;exact⟨_,rfl,r⟩
 | _, _, i + 1, x, .cons _ t, e => by
   obtain⟨u,h1,h2⟩:=Vals.get (i:=i) (x:=x) t (by simpa using e);exact⟨u,by simpa using h1,h2⟩
theorem Vals.set {x:V}{u:Value}(r:RelV x u):∀{xs:List V} {us:List Value} (i:Nat),Vals xs us->Vals (xs.set i x) (us.set i u)
 | _,_,_,.nil=>.nil
 | _,_,0,.cons _ t=>.cons r t
 | _,_,i + 1,.cons q t=>.cons q (Vals.set r i t)
theorem Vals.append {xs ys:List V}{us ws:List Value}(h:Vals xs us)(s:Vals ys ws):Vals (xs++ys) (us++ws):=by
 induction h with
 | nil=>exact s
 | cons r _ ih=>exact .cons r ih
theorem Vals.take:∀{xs:List V} {us:List Value} (n:Nat),Vals xs us->Vals (xs.take n) (us.take n)
 | _,_,0,_=>.nil
 | _,_,_ + 1,.nil=>.nil
 | _,_,n + 1,.cons r t=>.cons r (Vals.take n t)
theorem Vals.drop:∀{xs:List V} {us:List Value} (n:Nat),Vals xs us->Vals (xs.drop n) (us.drop n)
 | _,_,0,r=>r
 | _,_,_ + 1,.nil=>.nil
 | _,_,n + 1,.cons _ t=>Vals.drop n t
def RelO:Option V->Option Value->Prop
 | some v,some u=>RelV v u
 | none,none=>True
 | _,_=>False
def KV {κ:Type}:List (κ×V)->List (κ×Value)->Prop:=Paired fun(p:κ×V) (q:κ×Value)=>p.1=q.1/\RelV p.2 q.2
def kV:Key->V
 | .inl i=>.int i
 | .inr x=>.str x
inductive HO where
 /-- a list -/
 | lst (xs:List V)
 /-- a tuple (never changes) -/
 | tup (xs:List V)
 /-- a dict whose keys are ints and W9; one whose keys are tuples of ints and W9 (the empty one is both) -/
 | dK (kvs:List (Key×V)) | dT (kvs:List (List Key×V))
 /-- a set of ints: its members, its size -/
 | set (S:Key->Bool) (n:Nat)
 /-- an instance of the class at C, its dict at dx, its attributes -/
 | ins (C dx:Addr) (fs:List (Str×V))
 /-- the dict of the instance at x -/
 | own (x:Addr)
 /-- the dict of an exception -/
 | xd (fs:List (Str×V))
 /-- a bound method, f of x -/
 | met (f x:Addr)
 /-- a range object lo, lo + 1, .. below hi -/
 | rng (lo hi:Int)
 /-- a thing that is known to the object (the script; a dict while a loop walks it): read, never written while it is so -/
 | frz (o:Obj) (u:HO)
 /-- a code object's table -/
 | tbl (ps:Array Value)
 /-- any other thing, by what is true of its one object (a def of one's own: SetO a S n := HO.ext fun h => ..) -/
 | ext (φ:Heap->Prop)
abbrev Hp:=Addr->Option HO
def upd (H:Hp)(a:Addr)(o:HO):Hp:=fun b=>if b=a then some o else H b
theorem D9 {H:Hp}{a:Addr}{o:HO}:upd H a o a=some o:=by unfold upd;rw [if_pos rfl]
theorem C7 {H:Hp}{a b:Addr}{o:HO}(h:b≠a):upd H a o b=H b:=by unfold upd;rw [if_neg h]
theorem Eh {H:Hp}{a:Addr}{o u:HO}:upd (upd H a o) a u=upd H a u:=by
 funext b;unfold upd;split <;> rfl
theorem ne_of {H:Hp}{a b:Addr}{o u:HO}(h:H a=some o)(h':H b=some u)(d:o≠u):a≠b:=by
 intro e;subst e;rw [h] at h';exact d (J9 h')
theorem Y3 {H:Hp}{a b:Addr}{o:HO}(h:H a=some o)(h':H b=none):a≠b:=by
 intro e;subst e;rw [h] at h';cases h'
def Y4 (h:Heap)(a:Addr)(items:Array Value):Prop:=∃o,h.get? a=some o/\(o.cls,o.dict)=(O1 "tuple",none)/\∃n,o.data=.seq items n
theorem Y4.is {h:Heap}{a:Addr}{items:Array Value}(x:Y4 h a items):IsTup h a items:=let ⟨o,e,c,r⟩:=x;⟨o,e,(Cm c).1,r⟩
theorem Y4.lt {h:Heap}{a:Addr}{items:Array Value}(x:Y4 h a items):a < h.objs.size:=let ⟨_,e,_⟩:=x;B9 e
theorem Y4.new (h:Heap)(items:Array Value):Y4 (h.push { cls:=.type "tuple",data:=.seq items }) h.objs.size items:=⟨_,E1 _ rfl,rfl,_,rfl⟩
section
variable (P:B2)(w:World)
def G5 (H:Hp)(h:Heap)(a:Addr):HO->Prop
 | .lst xs=>xs.length<=B0/\∃(its:List Value) (n:Nat),Vals xs its/\h.get? a=some { cls:=.type "list",data:=.seq its.toArray n }
 | .tup xs=>xs.length<=B0/\∃its:List Value,Vals xs its/\Y4 h a its.toArray
 | .dK kvs=>kvs.length<=B0/\(a == L9)=false/\∃vs,KV kvs vs/\h.DictOf (E8 P w) a vs
 | .dT kvs=>kvs.length<=B0/\(a == L9)=false/\∃xs:List (List Key×Addr×Value),
     Paired (fun(p:List Key×V) (q:List Key×Addr×Value)=>p.1=q.1/\H q.2.1=some (.tup (p.1.map kV))/\RelV p.2 q.2.2) kvs xs/\
     ∃o es ep,h.get? a=some o/\o.ExactDict/\o.data=.dict es ep/\es.toList=xs.map (entryOfKey (tupleKind (E8 P w)))/\(xs.map (·.1)).Nodup
 | .set S n=>h.SetOf (E8 P w) a S n
 | .ins C dx fs=>H dx=some (.own a)/\fs.length<=1000/\dx≠a/\h.get? a=some (PySem.W.instObj C dx)/\
     ∃mA,h.Ns1 dx mA/\(∀f,RelO (fs.lookup f) (mA f))/\PySem.Within mA (fs.map (·.1))
 | .own _=>∃o,h.get? a=some o
 | .xd fs=>∃mA,h.Ns1 a mA/\∀f,RelO (fs.lookup f) (mA f)
 | .rng lo hi=>∃t u v,h.get? a=some { cls:=.type "range",data:=.fields #[.int lo t,.int hi u,.int 1 v] }
 | .frz o u=>h.get? a=some o/\G5 H h a u
 | .tbl ps=>h.get? a=some { cls:=.none,data:=.fields ps }
 | .met f x=>h.get? a=some (FW (.ref f) (.ref x))
 | .ext φ=>φ h/\(∃o,h.get? a=some o)/\∀h1 h2:Heap,φ h1->(∀o,h1.get? a=some o->h2.get? a=some o)->φ h2
def HOk (H:Hp)(h:Heap):Prop:=∀a o,H a=some o->G5 P w H h a o
end
section
variable {P:B2}{w:World}{H H':Hp}{h h':Heap}{a:Addr}{o:HO}
theorem G5.lt (x:G5 P w H h a o):a < h.objs.size:=by
 cases o with
 | lst xs=>obtain⟨_,_,_,_,e⟩:=x;exact B9 e
 | tup xs=>obtain⟨_,_,_,p⟩:=x;exact p.lt
 | dK kvs=>obtain⟨_,_,_,_,o,_,_,e,_⟩:=x;exact B9 e
 | dT kvs=>obtain⟨_,_,_,_,o,_,_,e,_⟩:=x;exact B9 e
 | set S n=>obtain⟨o,_,_,_,e,_⟩:=x;exact B9 e
 | ins C dx fs=>obtain⟨_,_,_,e,_⟩:=x;exact B9 e
 | own y=>obtain⟨_,e⟩:=x;exact B9 e
 | xd fs=>obtain⟨_,⟨_,_,_,e,_⟩,_⟩:=x;exact B9 e
 | rng lo hi=>obtain⟨_,_,_,e⟩:=x;exact B9 e
 | frz ob u=>obtain⟨e,_⟩:=x;exact B9 e
 | tbl ps=>exact B9 (show h.get? a=some _ from x)
 | met f y=>exact B9 (show h.get? a=some _ from x)
 | ext φ=>obtain⟨_,⟨_,e⟩,_⟩:=x;exact B9 e
theorem Paired.mapP {α β:Type}{F G:α->β->Prop}{l₁:List α}{l₂:List β}(h:Paired F l₁ l₂)(f:∀a b,F a b->G a b):Paired G l₁ l₂:=by
 induction h with
 | nil=>exact .nil
 | cons r _ ih=>exact .cons (f _ _ r) ih
theorem Paired.imp' {α β:Type}{F G:α->β->Prop}(f:∀a b,F a b->G a b){l₁:List α}{l₂:List β}(r:Paired F l₁ l₂):Paired G l₁ l₂:=Paired.mapP r f
theorem G5.stay (x:G5 P w H h a o)(k:∀b u,(b=a\/H b=some (.own a))->h.get? b=some u->h'.get? b=some u)
   (ho:∀b,H b=some (.own a)->H' b=some (.own a)) (ht:∀b xs,H b=some (.tup xs)->H' b=some (.tup xs)):G5 P w H' h' a o:=by
 induction o with
 | lst xs=>obtain⟨z,its,n,r,e⟩:=x;exact⟨z,its,n,r,k _ _ (.inl rfl) e⟩
 | tup xs=>obtain⟨z,its,r,ob,e,c⟩:=x;exact⟨z,its,r,ob,k _ _ (.inl rfl) e,c⟩
 | dK kvs=>obtain⟨z,y,vs,r,ob,es,ep,e,c⟩:=x;exact⟨z,y,vs,r,ob,es,ep,k _ _ (.inl rfl) e,c⟩
 | dT kvs =>
   obtain⟨z,y,xs,r,ob,es,ep,e,c⟩:=x;exact⟨z,y,xs,Paired.mapP r fun p q z=>⟨z.1,ht _ _ z.2.1,z.2.2⟩,ob,es,ep,k _ _ (.inl rfl) e,c⟩
 | set S n=>obtain⟨ob,es,ep,t,e,c⟩:=x;exact⟨ob,es,ep,t,k _ _ (.inl rfl) e,c⟩
 | ins C dx fs =>
   obtain⟨d,z,ne,e,mA,⟨od,es,ep,e2,c⟩,r⟩:=x;exact⟨ho _ d,z,ne,k _ _ (.inl rfl) e,mA,⟨od,es,ep,k _ _ (.inr d) e2,c⟩,r⟩
 | own y=>obtain⟨ob,e⟩:=x;exact⟨ob,k _ _ (.inl rfl) e⟩
 | xd fs=>obtain⟨mA,⟨od,es,ep,e,c⟩,r⟩:=x;exact⟨mA,⟨od,es,ep,k _ _ (.inl rfl) e,c⟩,r⟩
 | rng lo hi=>obtain⟨t,u,v,e⟩:=x;exact⟨t,u,v,k _ _ (.inl rfl) e⟩
 | frz ob u ih=>obtain⟨e,q⟩:=x;exact⟨k _ _ (.inl rfl) e,ih q⟩
 | tbl ps =>
   have e:h.get? a=some { cls:=.none,data:=.fields ps }:=x;show h'.get? a=some { cls:=.none,data:=.fields ps };exact k a _ (.inl rfl) e
 | met f y =>
   have e:h.get? a=some (FW (.ref f) (.ref y)):=x;show h'.get? a=some (FW (.ref f) (.ref y));exact k a _ (.inl rfl) e
 | ext φ=>obtain⟨p,⟨o,e⟩,st⟩:=x;exact⟨st _ _ p fun o q=>k _ _ (.inl rfl) q,⟨o,k _ _ (.inl rfl) e⟩,st⟩
theorem HOk.lt (x:HOk P w H h)(e:H a=some o):a < h.objs.size:=(x a o e).lt
theorem HOk.fresh (x:HOk P w H h)(e:h.objs.size<=a):H a=none:=by
 cases q:H a with
 | none=>rfl
 | some u=>exact absurd (L3 (x.lt q) e) (R5 _)
theorem HOk.kept (x:HOk P w H h)(k:∀b u,h.get? b=some u->h'.get? b=some u):HOk P w H h':=fun a o e=>
 (x a o e).stay (fun b u _ q=>k b u q) (fun _ q=>q) fun _ _ q=>q
theorem HOk.laid (x:HOk P w H h)(k:∀b u,h.get? b=some u->h'.get? b=some u)(hp:h.objs.size<=a)(new:G5 P w (upd H a o) h' a o):HOk P w (upd H a o) h':=fun b u e=>by
 have hn:=x.fresh hp
 by_cases hb:b=a
 · subst hb;rw [D9] at e;cases e;exact new
 · rw [C7 hb] at e;exact(x b u e).stay (fun c v _ q=>k c v q) (fun c q=>by rw [C7 (Y3 q hn)];exact q) fun c xs q=>by rw [C7 (Y3 q hn)];exact q
end
def Rd (H:Hp)(a:Addr)(u:HO):Prop:=H a=some u\/∃o,H a=some (.frz o u)
theorem Rd.ok {P:B2}{w:World}{H:Hp}{h:Heap}{a:Addr}{u:HO}(r:Rd H a u)(x:HOk P w H h):G5 P w H h a u:=by
 rcases r with r | ⟨o,r⟩
 · exact x a u r
 · obtain⟨_,q⟩:=x a _ r;exact q
def Mut:Option HO->Prop
 | some (.lst _)=>True
 | some (.dK _)=>True
 | some (.dT _)=>True
 | some (.set _ _)=>True
 | some (.ins _ _ _)=>True
 | some (.ext _)=>True
 | _=>False
section
variable {P:B2}{w:World}{H:Hp}{h h':Heap}{x e:Addr}{o':HO}
theorem HOk.write (ok:HOk P w H h)(mu:Mut (H x))(he:e=x\/H e=some (.own x))(k:∀b u,b≠e->h.get? b=some u->h'.get? b=some u)(heo:∃u,h'.get? e=some u)
   (new:G5 P w (upd H x o') h' x o'):HOk P w (upd H x o') h':=fun b u q=>by
 have nown:∀c y,H c=some (.own y)->c≠x:=fun c y r z=>by subst z;rw [r] at mu;exact mu
 have ntup:∀c xs,H c=some (.tup xs)->c≠x:=fun c xs r z=>by subst z;rw [r] at mu;exact mu
 by_cases hb:b=x
 · subst hb;rw [D9] at q;cases q;exact new
 · rw [C7 hb] at q
   by_cases hbe:b=e
   · have q':H b=some (.own x):=by
       rcases he with z | z
       · exact absurd (hbe.trans z) hb
       · rw [hbe];exact z
     rw [q] at q';cases q';obtain⟨v,hv⟩:=heo;exact⟨v,by rw [hbe];exact hv⟩
   · refine(ok b u q).stay (fun c v hc r=>k c v ?_ r) (fun c r=>by rw [C7 (nown c b r)];exact r) fun c xs r=>by rw [C7 (ntup c xs r)];exact r
     rcases hc with rfl | hc
     · exact hbe
     · rintro rfl;rcases he with z | z
       · exact nown c b hc z
       · rw [hc] at z;cases z;exact hb rfl
end
def NS (H:Hp):Prop:=H L9=none\/∃o u,H L9=some (.frz o u)
structure Un (fs ex:List Addr)(H H':Hp)(h h':Heap):Prop where
 keep:∀b o,h.get? b=some o->H b=none->b∉fs->b∉ex->h'.get? b=some o
 slot:∀b o,h.get? b=some o->H b=none->b∈fs->b∉ex->∃sl,h'.get? b=some { o with slots:=sl }
 free:∀b o,h.get? b=some o->H b=none->b∉ex->H' b=none
 there:∀b o,h.get? b=some o->b∉ex->∃o',h'.get? b=some o'
 tups:∀b xs,H b=some (.tup xs)->H' b=some (.tup xs)
 frzs:∀b o u,H b=some (.frz o u)->H' b=some (.frz o u)
 tbls:∀b ps,H b=some (.tbl ps)->∃more,H' b=some (.tbl (ps++more))
 sys:NS H->NS H'
section
variable {fs fs' ex ex':List Addr}{H H1 H2:Hp}{h h1 h2 h':Heap}{a x e:Addr}{o:HO}
theorem Un.any (u:Un fs ex H H1 h h1){b:Addr}{ob:Obj}(q:h.get? b=some ob)(n:H b=none)(hx:b∉ex):∃sl,h1.get? b=some { ob with slots:=sl }:=by
 by_cases hb:b∈fs
 · exact u.slot b ob q n hb hx
 · exact⟨ob.slots,u.keep b ob q n hb hx⟩
theorem Un.kept (k:∀b u,h.get? b=some u->h'.get? b=some u):Un fs ex H H h h':=
 ⟨fun b ob q _ _ _=>k b ob q,fun b ob q _ _ _=>⟨ob.slots,k b ob q⟩,fun _ _ _ n _=>n,fun b ob q _=>⟨ob,k b ob q⟩,fun _ _ q=>q,fun _ _ _ q=>q,fun _ ps q=>⟨#[],by rw [q];simp⟩,fun z=>z⟩
theorem Un.refl:Un fs ex H H h h:=Un.kept fun _ _ q=>q
theorem Un.laid (k:∀b u,h.get? b=some u->h'.get? b=some u)(hp:h.objs.size<=a)(hn:H a=none)(hy:L9 < h.objs.size):Un fs ex H (upd H a o) h h' where
 keep:=fun b u q _ _ _=>k b u q
 slot:=fun b u q _ _ _=>⟨u.slots,k b u q⟩
 free:=fun b u q n _=>by rw [C7 (D0 (L3 (B9 q) hp))];exact n
 there:=fun b u q _=>⟨u,k b u q⟩
 tups:=fun b xs q=>by rw [C7 (Y3 q hn)];exact q
 frzs:=fun b u xs q=>by rw [C7 (Y3 q hn)];exact q
 tbls:=fun b ps q=>⟨#[],by rw [C7 (Y3 q hn),q];simp⟩
 sys:=fun z=>by unfold NS;rw [C7 (D0 (L3 hy hp))];exact z
theorem Un.write (mu:Mut (H x))(he:e=x\/H e=some (.own x))(k:∀b u,b≠e->h.get? b=some u->h'.get? b=some u)(heo:∃u,h'.get? e=some u):Un fs ex H (upd H x o) h h':=by
 have hx:∀b,H b=none->b≠x:=fun b n z=>by subst z;rw [n] at mu;exact mu
 have hb:∀b,H b=none->b≠e:=fun b n z=>by
   subst z;rcases he with r | r
   · exact hx b n r
   · rw [n] at r;cases r
 have hm:∀b u,H b=some u->¬Mut (some u)->b≠x:=fun b u q nm z=>by subst z;rw [q] at mu;exact nm mu
 refine⟨fun b u q n _ _=>k b u (hb b n) q,fun b u q n _ _=>⟨u.slots,k b u (hb b n) q⟩,fun b u q n _=>by rw [C7 (hx b n)];exact n,fun b u q _=>?_,
   fun b xs q=>by rw [C7 (hm b _ q fun z=>z)];exact q,fun b u xs q=>by rw [C7 (hm b _ q fun z=>z)];exact q,fun b ps q=>⟨#[],by rw [C7 (hm b _ q fun z=>z),q];simp⟩,fun z=>by
     rcases z with z | ⟨ob,u,z⟩
     · exact .inl (by rw [C7 (hx _ z)];exact z)
     · exact .inr ⟨ob,u,by rw [C7 (hm _ _ z fun z=>z)];exact z⟩⟩
 by_cases hbe:b=e
 · subst hbe;exact heo
 · exact⟨u,k b u hbe q⟩
end
def trk (h:Heap)(H:Hp):List Addr:=(D1 h.objs.size).filter fun a=>(H a).isSome
def hidT (h:Heap)(H:Hp):Heap:=PySem.W.hideAll h (trk h H)
theorem Mg (h:Heap)(H:Hp):(hidT h H).objs.size=h.objs.size:=PySem.W.hideAll_size _ _
theorem Mh {h:Heap}{H:Hp}{b:Addr}{o:Obj}(e:h.get? b=some o)(n:H b=none):(hidT h H).get? b=some o:=
 PySem.W.hideAll_get _ e fun hm=>by
   have q:(H b).isSome=true:=(K5.mp hm).2;rw [n] at q;simp at q
theorem Mi {h:Heap}{H:Hp}{b:Addr}{o:Obj}(e:(hidT h H).get? b=some o):h.get? b=some o/\H b=none:=by
 have e':h.get? b=some o:=PySem.W.of_hideAll (trk h H) e;refine⟨e',?_⟩;cases q:H b with
 | none=>rfl
 | some x =>
   have hm:b∈trk h H:=K5.mpr ⟨M9.mpr (B9 e'),by simp [q]⟩;have z:(hidT h H).get? b=none:=PySem.W.hideAll_none (trk h H) hm;rw [z] at e;cases e
def Mj (g h:Heap)(L:Addr):List (Addr×Obj):=(D1 h.objs.size).filterMap fun a=>if a=L\/(g.get? a).isSome=true then none else(h.get? a).map fun o=>(a,o)
def rest (g h:Heap)(L d:Addr):List (Addr×Obj):=(Mj g h L).filter fun p=>decide (p.1≠d)
structure Mod (K:A5)(mg:Str->Option Value)(base:Heap):Prop where
 kin:K.In base
 glob:base.Ns V8 mg
 blt:∃mb,base.Ns builtinsNs mb/\∀x:Str,x≠"__name__"->mb x=N0 x
 nolimit:base.NoLimit
structure Cx where
 prog:B2
 w:World
 K:A5
 mg:Str->Option Value
 base:Heap
 A:Around
 N:List Str
 s₀:Shared
 H₀:Hp
 env:Env
 outer:List Env
 stack:List Env
 ex:List Addr
 fn:Str->Bool
 calm:Bool
 pn:List (Addr×Obj)
 xe:Value->Shared->Prop
def frs (l:List Env):List Addr:=l.filterMap (·.frame)
abbrev Cx.fs (X:Cx):List Addr:=frs X.outer
def Vis (sc:Scope)(x:Str):Prop:=sc.names.lookup x=some .local\/sc.names.lookup x=some .cell\/sc.names.lookup x=some .free
def Loc (sc:Scope)(x:Str):Prop:=sc.names.lookup x=some .local\/sc.names.lookup x=some .cell
def Look (env:Env)(h:Heap)(m:Str->Option Value)(x:Str)(u:Value):Prop:=
 (env.kindOf x=some .local/\m x=some u)\/((env.kindOf x=some .cell\/env.kindOf x=some .free)/\∃c,env.cells.lookup x=some c/\h.IsCell c (some u))
structure Cx.Ok (X:Cx):Prop where
 mod:Mod X.K X.mg X.base
 kind:X.env.scope.kind=.function
 glob:X.env.globals=V8
 blt:X.env.builtins=builtinsNs
 above:X.s₀.heap.objs.size<=X.env.locals
 inj:∀x y c,X.env.cells.lookup x=some c->X.env.cells.lookup y=some c->x=y
 has:∀x,(X.env.kindOf x=some .cell\/X.env.kindOf x=some .free)->∃c,X.env.cells.lookup x=some c
 cab:∀x c,X.fn x=true->X.env.cells.lookup x=some c->X.s₀.heap.objs.size<=c
 hd:X.calm=true->X.A.handled=none
 frames:X.A.frames=some X.stack
 stk:X.stack=X.outer\/(X.stack=X.env::X.outer/\X.env.frame=some X.env.locals)
 exf:∀b∈X.ex,b≠X.env.locals/\∀x c,X.env.cells.lookup x=some c->c≠b
 bs:∀b o,X.base.get? b=some o->X.s₀.heap.get? b=some o/\X.H₀ b=none
 bsz:X.base.objs.size<=X.s₀.heap.objs.size
 noex:∀b o,X.base.get? b=some o->b∉X.ex
 exfs:∀b∈X.ex,b∉X.fs
 funs:X.s₀.heap.FunFrames X.base X.outer
 frf:∀b∈X.fs,X.H₀ b=none
 nos:NS X.H₀
structure Inv (X:Cx)(pins:List (Addr×Obj))(σ:List (Option V))(H:Hp)(s:Shared):Prop where
 ok:X.Ok
 os:s.os=X.s₀.os
 bare:AllBare s.gens
 base:Un X.fs X.ex X.H₀ H X.s₀.heap s.heap
 loc:∃m,s.heap.Ns X.env.locals m/\∀(i:Nat) (x:Str) (v:V),X.N[i]?=some x->σ[i]?=some (some v)->Vis X.env.scope x->∃u,RelV v u/\Look X.env s.heap m x u
 cell:∀x c,X.env.cells.lookup x=some c->∃v,s.heap.IsCell c v
 free:H X.env.locals=none
 freeC:∀x c,X.env.cells.lookup x=some c->H c=none
 pin:∀p∈X.pn++pins,s.heap.get? p.1=some p.2/\H p.1=none/\p.1≠X.env.locals/\p.1∉X.fs/\∀v,p.2.data≠.cell v
 hok:HOk X.prog X.w H s.heap
 len:σ.length=X.N.length
section
variable {X:Cx}{pins:List (Addr×Obj)}{σ:List (Option V)}{H H':Hp}{s:Shared}{h':Heap}
variable {g':Array GenState}{t':Nat}{d':Drawn}{ch:List Addr}{M:Model}{Q:Unit->Shared->Prop}
theorem Cx.Ok.nofr (ok:X.Ok){b:Addr}{o:Obj}(e:X.base.get? b=some o):b∉X.fs:=fun hb=>by
 have:=(ok.funs.mem hb).1;rw [e] at this;cases this
theorem Inv.bs (I:Inv X pins σ H s):∀b o,X.base.get? b=some o->s.heap.get? b=some o/\H b=none:=fun b o e=>
 ⟨I.base.keep b o (I.ok.bs b o e).1 (I.ok.bs b o e).2 (I.ok.nofr e) (I.ok.noex b o e),I.base.free b o (I.ok.bs b o e).1 (I.ok.bs b o e).2 (I.ok.noex b o e)⟩
theorem Inv.bk (I:Inv X pins σ H s):∀b o,X.base.get? b=some o->s.heap.get? b=some o:=fun b o e=>(I.bs b o e).1
theorem Inv.mod (I:Inv X pins σ H s):Mod X.K X.mg X.base:=I.ok.mod
theorem Inv.nos (I:Inv X pins σ H s):NS H:=I.base.sys I.ok.nos
theorem Inv.bigS (I:Inv X pins σ H s):L9 < s.heap.objs.size:=j7 (by decide) (I.mod.glob.keeps I.bk).lt
theorem Inv.kIn (I:Inv X pins σ H s):X.K.In s.heap:=I.ok.mod.kin.keeps I.bk
theorem Inv.lt (I:Inv X pins σ H s):X.env.locals < s.heap.objs.size:=let ⟨_,hn,_⟩:=I.loc;hn.lt
theorem Inv.sz (I:Inv X pins σ H s):X.s₀.heap.objs.size<=s.heap.objs.size:=L4 I.ok.above (b8 I.lt)
theorem Inv.nofs (I:Inv X pins σ H s){a:Addr}(h:s.heap.objs.size<=a):a∉X.fs:=fun hb=>by
 obtain⟨_,o,ho,_⟩:=I.ok.funs.mem hb;exact absurd (L3 (B9 ho) (L4 I.sz h)) (R5 _)
theorem Inv.cne (I:Inv X pins σ H s):∀x c,X.env.cells.lookup x=some c->c≠X.env.locals:=fun x c e z=>by
 obtain⟨v,o,ho,hd⟩:=I.cell x c e;obtain⟨m,⟨o',es,ep,ho',hd',_⟩,_⟩:=I.loc;rw [z,ho'] at ho;cases ho;rw [hd'] at hd;cases hd
theorem Inv.funs (I:Inv X pins σ H s):s.heap.FunFrames X.base X.outer:=by
 have all:∀(l:List Env),(∀b∈frs l,b∈X.fs)->X.s₀.heap.FunFrames X.base l->s.heap.FunFrames X.base l:=by
   intro l
   induction l with
   | nil=>intro _ _;trivial
   | cons env r ih =>
     intro hs hl;obtain⟨hk,⟨L,o,hf,hn,ho,hd⟩,hr⟩:=hl;have hL:L∈X.fs:=hs L (by unfold frs;rw [Ad,hf];exact B8);obtain⟨sl,e⟩:=I.base.slot L o ho (I.ok.frf L hL) hL fun z=>I.ok.exfs L z hL;exact⟨hk,⟨L,_,hf,hn,e,hd⟩,ih (fun b hb=>hs b (by unfold frs;rw [Ad,hf];exact B5 _ hb)) hr⟩
 exact all X.outer (fun _ hb=>hb) I.ok.funs
theorem Inv.stack (I:Inv X pins σ H s):s.heap.FunFrames X.base X.stack:=by
 rcases I.ok.stk with e | ⟨e,hf⟩
 · rw [e];exact I.funs
 · rw [e];obtain⟨m,hn,_⟩:=I.loc;refine .cons (by rw [I.ok.kind];decide) hf hn ?_ I.funs;exact Heap.get?_none_of_le (L4 I.ok.bsz I.ok.above)
theorem Inv.stkSub (I:Inv X pins σ H s):∀b∈frs X.stack,b∈X.env.locals::X.fs:=fun b hb=>by
 rcases I.ok.stk with e | ⟨e,hf⟩
 · rw [e] at hb;exact B5 _ hb
 · rw [e] at hb;unfold frs at hb;rw [Ad,hf] at hb;exact hb
theorem Inv.stkFree (I:Inv X pins σ H s):∀b∈frs X.stack,H b=none:=fun b hb=>by
 rcases B7.mp (I.stkSub b hb) with e | hb
 · rw [e];exact I.free
 · obtain⟨_,o,ho,_⟩:=I.ok.funs.mem hb;exact I.base.free b o ho (I.ok.frf b hb) fun z=>I.ok.exfs b z hb
theorem Inv.step (I:Inv X pins σ H s)
   (hch:∀b∈ch,(b∈X.ex\/X.s₀.heap.objs.size<=b)/\b≠X.env.locals/\(∀x c,X.env.cells.lookup x=some c->c≠b)/\∀p∈X.pn++pins,p.1≠b)
   (keep:∀b o,b≠X.env.locals->b∉X.fs->b∉ch->s.heap.get? b=some o->H b=none->h'.get? b=some o)
   (slot:∀b o,b≠X.env.locals->b∈X.fs->b∉ch->s.heap.get? b=some o->H b=none->∃sl,h'.get? b=some { o with slots:=sl }) (free:∀b o,b∉ch->s.heap.get? b=some o->H b=none->H' b=none)
   (there:∀b o,b∉ch->s.heap.get? b=some o->∃o',h'.get? b=some o')
   (tups:∀b xs,H b=some (.tup xs)->H' b=some (.tup xs)) (frzs:∀b o u,H b=some (.frz o u)->H' b=some (.frz o u)) (tbls:∀b ps,H b=some (.tbl ps)->∃more,H' b=some (.tbl (ps++more))) (sys:NS H->NS H')
   (ns:∀m,s.heap.Ns X.env.locals m->h'.Ns X.env.locals m) (hok:HOk X.prog X.w H' h') (hg:AllBare g') :
   Inv X pins σ H' { s with heap:=h',gens:=g',drawn:=d',toks:=t' }:=by
 have neL:∀b o,X.s₀.heap.get? b=some o->b≠X.env.locals:=fun b o e=>D0 (L3 (B9 e) I.ok.above)
 have neC:∀b o,X.s₀.heap.get? b=some o->b∉X.ex->b∉ch:=fun b o e hx hb=>by
   rcases(hch b hb).1 with z | z
   · exact hx z
   · exact absurd (L3 (B9 e) z) (R5 _)
 have cellK:∀x c,X.env.cells.lookup x=some c->∀v,s.heap.IsCell c v->h'.IsCell c v:=fun x c e v ⟨o,ho,hd⟩=>by
   have nch:c∉ch:=fun z=>(hch c z).2.2.1 x c e rfl
   by_cases hc:c∈X.fs
   · obtain⟨sl,q⟩:=slot c o (I.cne x c e) hc nch ho (I.freeC x c e);exact⟨_,q,hd⟩
   · exact⟨o,keep c o (I.cne x c e) hc nch ho (I.freeC x c e),hd⟩
 refine⟨I.ok,I.os,hg,⟨fun b o e n hb hx=>?_,fun b o e n hb hx=>?_,fun b o e n hx=>?_,fun b o e hx=>?_,fun b xs e=>tups b xs (I.base.tups b xs e),fun b o xs e=>frzs b o xs (I.base.frzs b o xs e),fun b ps e=>?_,fun z=>sys (I.base.sys z)⟩,?_,fun x c e=>?_,?_,fun x c e=>?_,fun p hp=>?_,hok,I.len⟩
 · exact keep b o (neL b o e) hb (neC b o e hx) (I.base.keep b o e n hb hx) (I.base.free b o e n hx)
 · obtain⟨sl,e1⟩:=I.base.slot b o e n hb hx;obtain⟨sl',e2⟩:=slot b _ (neL b o e) hb (neC b o e hx) e1 (I.base.free b o e n hx);exact⟨sl',e2⟩
 · obtain⟨o',e1⟩:=I.base.there b o e hx;exact free b o' (neC b o e hx) e1 (I.base.free b o e n hx)
 · obtain⟨o',e1⟩:=I.base.there b o e hx;exact there b o' (neC b o e hx) e1
 · obtain⟨m1,e1⟩:=I.base.tbls b ps e;obtain⟨m2,e2⟩:=tbls b _ e1;exact⟨m1++m2,by rw [e2,Array.append_assoc]⟩
 · obtain⟨m,hn,hl⟩:=I.loc;refine⟨m,ns m hn,fun i x v e1 e2 e3=>?_⟩;obtain⟨u,r,l⟩:=hl i x v e1 e2 e3;refine⟨u,r,?_⟩;rcases l with l | ⟨k,c,e,z⟩
   · exact .inl l
   · exact .inr ⟨k,c,e,cellK x c e _ z⟩
 · obtain⟨v,z⟩:=I.cell x c e;exact⟨v,cellK x c e v z⟩
 · obtain⟨m,⟨o,_,_,ho,_⟩,_⟩:=I.loc;exact free _ o (fun z=>(hch _ z).2.1 rfl) ho I.free
 · obtain⟨v,o,ho,hd⟩:=I.cell x c e;exact free c o (fun z=>(hch c z).2.2.1 x c e rfl) ho (I.freeC x c e)
 · obtain⟨e,n,ne,nf,d⟩:=I.pin p hp;have nch:p.1∉ch:=fun z=>(hch p.1 z).2.2.2 p hp rfl;exact⟨keep p.1 p.2 ne nf nch e n,free p.1 p.2 nch e n,ne,nf,d⟩
theorem Inv.un (I:Inv X pins σ H s)(u:Un X.fs [] H H' s.heap h')(hok:HOk X.prog X.w H' h'):Inv X pins σ H' { s with heap:=h',toks:=t' }:=by
 obtain⟨m,⟨o,es,ep,ho,r⟩,_⟩:=id I.loc;obtain⟨sl,hL⟩:=u.any ho I.free (by simp)
 exact I.step (g':=s.gens) (d':=s.drawn) (ch:=[]) (fun _ z=>nomatch z) (fun b o _ hb _ e n=>u.keep b o e n hb (by simp)) (fun b o _ hb _ e n=>u.slot b o e n hb (by simp)) (fun b o _ e n=>u.free b o e n (by simp)) (fun b o _ e=>u.there b o e (by simp)) u.tups u.frzs u.tbls u.sys (fun m' hm=>by
   obtain⟨o',es',ep',ho',r'⟩:=hm;rw [ho] at ho';cases ho'
   exact⟨_,es',ep',hL,r'⟩) hok I.bare
theorem Inv.call (I:Inv X pins σ H s)(u:Un (frs X.stack) ch H H' s.heap h')(hok:HOk X.prog X.w H' h')(hg:AllBare g')
   (hch:∀b∈ch,(b∈X.ex\/X.s₀.heap.objs.size<=b)/\b≠X.env.locals/\(∀x c,X.env.cells.lookup x=some c->c≠b)/\∀p∈X.pn++pins,p.1≠b) :
   Inv X pins σ H' { s with heap:=h',gens:=g',drawn:=d',toks:=t' }:=by
 obtain⟨m,⟨o,es,ep,ho,r⟩,_⟩:=id I.loc;obtain⟨sl,hL⟩:=u.any ho I.free fun z=>(hch _ z).2.1 rfl
 exact I.step (ch:=ch) hch (fun b o hL hb hc e n=>u.keep b o e n (fun z=>(B7.mp (I.stkSub b z)).elim hL hb) hc) (fun b o _ _ hc e n=>u.any e n hc) (fun b o hc e n=>u.free b o e n hc) (fun b o hc e=>u.there b o e hc) u.tups u.frzs u.tbls u.sys (fun m' hm=>by
   obtain⟨o',es',ep',ho',r'⟩:=hm;rw [ho] at ho';cases ho'
   exact⟨_,es',ep',hL,r'⟩) hok hg
theorem Inv.turned {it:Addr}(I:Inv X pins σ H s)(k:∀b o,b≠it->s.heap.get? b=some o->h'.get? b=some o)(hn:H it=none)(hL:it≠X.env.locals)
   (h1:it∈X.ex\/X.s₀.heap.objs.size<=it) (h2:∀x c,X.env.cells.lookup x=some c->c≠it) (h3:∀p∈X.pn++pins,p.1≠it):Inv X pins σ H { s with heap:=h',toks:=t' }:=by
 have nit:∀b u,H b=some u->b≠it:=fun b u e z=>by rw [z,hn] at e;cases e
 refine I.step (g':=s.gens) (d':=s.drawn) (ch:=[it]) (fun b hb=>?_) (fun b o _ _ hc e _=>k b o (fun z=>hc (by simp [z])) e) (fun b o _ _ hc e _=>⟨o.slots,k b o (fun z=>hc (by simp [z])) e⟩) (fun _ _ _ _ n=>n)
   (fun b o hc e=>⟨o,k b o (fun z=>hc (by simp [z])) e⟩) (fun _ _ e=>e) (fun _ _ _ e=>e) (fun b ps e=>⟨#[],by rw [e];simp⟩) (fun z=>z) (fun m hm=>?_) (fun b u e=>?_) I.bare
 · have e:b=it:=by simpa using hb
   subst e;exact⟨h1,hL,h2,h3⟩
 · obtain⟨o,es,ep,ho,r⟩:=hm;exact⟨o,es,ep,k _ o (Ne.symm hL) ho,r⟩
 · refine(I.hok b u e).stay (fun c v hc q=>k c v ?_ q) (fun _ q=>q) fun _ _ q=>q;rcases hc with z | z
   · rw [z];exact nit b u e
   · exact nit c _ z
theorem Inv.tok (I:Inv X pins σ H s)(t:Nat):Inv X pins σ H { s with toks:=t }:=I.un (h':=s.heap) (t':=t) Un.refl I.hok
theorem Inv.kept (I:Inv X pins σ H s)(k:∀b u,s.heap.get? b=some u->h'.get? b=some u):Inv X pins σ H { s with heap:=h',toks:=t' }:=I.un (Un.kept k) (I.hok.kept k)
theorem Inv.laid {a:Addr}{o:HO}(I:Inv X pins σ H s)(k:∀b u,s.heap.get? b=some u->h'.get? b=some u)(hp:s.heap.objs.size<=a)(new:G5 X.prog X.w (upd H a o) h' a o) :
   Inv X pins σ (upd H a o) { s with heap:=h',toks:=t' }:=I.un (Un.laid k hp (I.hok.fresh hp) I.bigS) (I.hok.laid k hp new)
theorem Inv.write {x e:Addr}{o:HO}(I:Inv X pins σ H s)(mu:Mut (H x))(he:e=x\/H e=some (.own x))(k:∀b u,b≠e->s.heap.get? b=some u->h'.get? b=some u)(heo:∃u,h'.get? e=some u)
   (new:G5 X.prog X.w (upd H x o) h' x o):Inv X pins σ (upd H x o) { s with heap:=h',toks:=t' }:=I.un (Un.write mu he k heo) (I.hok.write mu he k heo new)
theorem Inv.pins_of {pins':List (Addr×Obj)}(I:Inv X pins σ H s)(h:∀p∈pins',s.heap.get? p.1=some p.2/\H p.1=none/\p.1≠X.env.locals/\p.1∉X.fs/\∀v,p.2.data≠.cell v):Inv X pins' σ H s:=
 ⟨I.ok,I.os,I.bare,I.base,I.loc,I.cell,I.free,I.freeC,fun p hp=>(K6.mp hp).elim (fun z=>I.pin p (Z9 _ z)) (h p),I.hok,I.len⟩
theorem nodup_ix {N:List Str}(hN:N.Nodup){i j:Nat}{x:Str}(a:N[i]?=some x)(b:N[j]?=some x):i=j:=by
 obtain⟨h1,e1⟩:=E6.mp a;obtain⟨h2,e2⟩:=E6.mp b;exact(List.getElem_inj hN).mp (e1.trans e2.symm)
theorem IX {A:Around}{E:Value->Shared->Prop}{i:Nat}{x:Str}{v:V}{u:Value}(I:Inv X pins σ H s)(hN:X.N.Nodup)(hi:X.N[i]?=some x)(hx:Loc X.env.scope x)(r:RelV v u)
   (h:∀s',Inv X pins (σ.set i (some v)) H s'->(∃a,Q2 a s.heap s'.heap/\(a=X.env.locals\/X.env.cells.lookup x=some a))->Q () s') (hf:X.fn x=true\/X.env.scope.names.lookup x=some .local:=by first | exact .inl rfl | exact .inr rfl | assumption):wpAny M A (storeName X.env x u) Q E s:=by
 obtain⟨m,hn,hl⟩:=id I.loc;have hcls:(X.env.scope.kind == .class || (X.env.scope.kind == .module && X.env.locals != X.env.globals))=false:=by rw [I.ok.kind];rfl
 have hiσ:i < σ.length:=by rw [I.len];exact(E6.mp hi).1
 have cne:=I.cne
 have tracked:∀{a:Addr} {h':Heap},(∃o,s.heap.get? a=some o/\H a=none)->Q2 a s.heap h'->HOk X.prog X.w H h':=fun {a h'} ha hs b ob e=>by
   obtain⟨_,_,hfree⟩:=ha;refine(I.hok b ob e).stay (fun c w' hc q=>(hs.2 c ?_).trans q) (fun _ q=>q) fun _ _ q=>q;rintro rfl;rcases hc with rfl | hc
   · rw [hfree] at e;cases e
   · rw [hfree] at hc;cases hc
 rcases hx with hk | hk
 · refine wpAny_storeName_local hk hn (fun h' hn' hs=>?_) hcls;obtain⟨oL,_,_,hoL,_⟩:=id hn;refine h _ ⟨I.ok,I.os,I.bare,⟨fun b o e n hb hx=>?_,fun b o e n hb hx=>?_,I.base.free,fun b o e hx=>?_,I.base.tups,I.base.frzs,I.base.tbls,I.base.sys⟩,⟨_,hn',fun j y v' e1 e2 e3=>?_⟩,fun y c e=>?_,I.free,I.freeC,fun p hp=>?_,tracked ⟨oL,hoL,I.free⟩ hs,by simpa using I.len⟩ ⟨_,hs,.inl rfl⟩
   · exact(hs.2 b (D0 (L3 (B9 e) I.ok.above))).trans (I.base.keep b o e n hb hx)
   · obtain⟨sl,e1⟩:=I.base.slot b o e n hb hx;exact⟨sl,(hs.2 b (D0 (L3 (B9 e) I.ok.above))).trans e1⟩
   · obtain⟨o',e1⟩:=I.base.there b o e hx;exact⟨o',(hs.2 b (D0 (L3 (B9 e) I.ok.above))).trans e1⟩
   · by_cases hj:j=i
     · subst hj;rw [hi] at e1;cases e1;rw [K9 hiσ] at e2;cases e2;exact⟨u,r,.inl ⟨hk,by simp⟩⟩
     · rw [K4 (Ne.symm hj)] at e2;obtain⟨u',r',q⟩:=hl j y v' e1 e2 e3;refine⟨u',r',?_⟩;rcases q with⟨k,e⟩ | ⟨k,c,e,z⟩
       · refine .inl ⟨k,?_⟩;have:y≠x:=fun e=>hj (nodup_ix hN e1 (e▸hi));simp [this,e]
       · exact .inr ⟨k,c,e,z.sameBut hs (cne y c e)⟩
   · obtain⟨w',z⟩:=I.cell y c e;exact⟨w',z.sameBut hs (cne y c e)⟩
   · obtain⟨e,n,ne,nf,d⟩:=I.pin p hp;exact⟨(hs.2 p.1 ne).trans e,n,ne,nf,d⟩
 · have hfn:X.fn x=true:=by
     rcases hf with z | z
     · exact z
     · rw [z] at hk;cases hk
   obtain⟨c,hc⟩:=I.ok.has x (.inl hk);obtain⟨w',z⟩:=I.cell x c hc;refine wpAny_storeName_cell I.ok.kind hk hc z (fun h' hc' hs=>?_);obtain⟨oc,hoc,hocd⟩:=id z;refine h { s with heap:=h' } ⟨I.ok,I.os,I.bare,⟨fun b o e n hb hx=>?_,fun b o e n hb hx=>?_,I.base.free,fun b o e hx=>?_,I.base.tups,I.base.frzs,I.base.tbls,I.base.sys⟩,⟨m,hn.sameBut hs (Ne.symm (cne x c hc)),fun j y v' e1 e2 e3=>?_⟩,fun y c' e=>?_,I.free,I.freeC,fun p hp=>?_,tracked ⟨oc,hoc,I.freeC x c hc⟩ hs,by simpa using I.len⟩ ⟨c,hs,.inr hc⟩
   · exact(hs.2 b (D0 (L3 (B9 e) (I.ok.cab x c hfn hc)))).trans (I.base.keep b o e n hb hx)
   · obtain⟨sl,e1⟩:=I.base.slot b o e n hb hx;exact⟨sl,(hs.2 b (D0 (L3 (B9 e) (I.ok.cab x c hfn hc)))).trans e1⟩
   · obtain⟨o',e1⟩:=I.base.there b o e hx;exact⟨o',(hs.2 b (D0 (L3 (B9 e) (I.ok.cab x c hfn hc)))).trans e1⟩
   · by_cases hj:j=i
     · subst hj;rw [hi] at e1;cases e1;rw [K9 hiσ] at e2;cases e2;exact⟨u,r,.inr ⟨.inl hk,c,hc,hc'⟩⟩
     · rw [K4 (Ne.symm hj)] at e2;obtain⟨u',r',q⟩:=hl j y v' e1 e2 e3;refine⟨u',r',?_⟩;rcases q with q | ⟨k,c',e,z'⟩
       · exact .inl q
       · refine .inr ⟨k,c',e,z'.sameBut hs ?_⟩;rintro rfl;exact hj (nodup_ix hN e1 (I.ok.inj _ _ _ e hc▸hi))
   · by_cases hcc:c'=c
     · subst hcc;exact⟨_,hc'⟩
     · obtain⟨w2,z2⟩:=I.cell y c' e;exact⟨w2,z2.sameBut hs hcc⟩
   · obtain⟨e,n,ne,nf,d⟩:=I.pin p hp;refine⟨(hs.2 p.1 ?_).trans e,n,ne,nf,d⟩;intro q;rw [q,hoc] at e;have q':oc=p.2:=J9 e;exact d w' (by rw [<- q'];exact hocd)
theorem Cn {A:Around}{E:Value->Shared->Prop}{i:Nat}{x:Str}{v:V}{u:Value}(I:Inv X pins σ H s)(hN:X.N.Nodup)(hi:X.N[i]?=some x)(hx:Loc X.env.scope x)(r:RelV v u)
   (h:∀s',Inv X pins (σ.set i (some v)) H s'->Q () s') (hf:X.fn x=true\/X.env.scope.names.lookup x=some .local:=by first | exact .inl rfl | exact .inr rfl | assumption):wpAny M A (storeName X.env x u) Q E s:=
 IX I hN hi hx r (fun s' I' _=>h s' I') hf
end
abbrev XK:=Value->Option Addr->Hp->Prop
abbrev St:=List (Option V)
abbrev VK:=V->Hp->Prop
abbrev TE:=St->Hp->VK->Prop
abbrev TT:=St->Hp->(Bool->Hp->Prop)->Prop
abbrev TA:=St->Hp->(List V->Hp->Prop)->Prop
structure Ends where
 nx:St->Hp->Prop
 rt:VK
 bk:St->Hp->Prop:=fun _ _=>False
 ct:St->Hp->Prop:=fun _ _=>False
abbrev TS:=Ends->St->Hp->Prop
def EP (X:Cx)(pins:List (Addr×Obj))(σ:St)(Q:VK)(u:Value)(s':Shared):Prop:=∃v H',Inv X pins σ H' s'/\RelV v u/\Q v H'
def TP (X:Cx)(pins:List (Addr×Obj))(σ:St)(Q:Bool->Hp->Prop)(b:Bool)(s':Shared):Prop:=∃H',Inv X pins σ H' s'/\Q b H'
def AP (X:Cx)(pins:List (Addr×Obj))(σ:St)(Q:List V->Hp->Prop)(us:List Value)(s':Shared):Prop:=∃vs H',Inv X pins σ H' s'/\Vals vs us/\Q vs H'
def SP (X:Cx)(pins:List (Addr×Obj))(D:Ends)(f:Flow)(s':Shared):Prop:=
 match f with
 | .next=>∃σ' H',Inv X pins σ' H' s'/\D.nx σ' H'
 | .brk=>∃σ' H',Inv X pins σ' H' s'/\D.bk σ' H'
 | .cont=>∃σ' H',Inv X pins σ' H' s'/\D.ct σ' H'
 | .ret u=>∃v σ' H',Inv X pins σ' H' s'/\RelV v u/\D.rt v H'
def PE (X:Cx)(e:Expr)(t:TE):Prop:=
 ∀(pins:List (Addr×Obj)) (s:Shared) (σ:St) (H:Hp) (Q:VK),Inv X pins σ H s->t σ H Q->wpAny (model X.prog X.w) X.A (eval e X.env) (EP X pins σ Q) X.xe s
def PT (X:Cx)(e:Expr)(t:TT):Prop:=
 ∀(pins:List (Addr×Obj)) (s:Shared) (σ:St) (H:Hp) (Q:Bool->Hp->Prop),Inv X pins σ H s->t σ H Q->wpAny (model X.prog X.w) X.A (isTrue e X.env (eval e X.env)) (TP X pins σ Q) X.xe s
def PW (X:Cx)(e:Expr)(t:TT):Prop:=
 ∀(whole:Sem Value) (pins:List (Addr×Obj)) (s:Shared) (σ:St) (H:Hp) (Q:Bool->Hp->Prop),Inv X pins σ H s->t σ H Q->wpAny (model X.prog X.w) X.A (isTrue e X.env whole) (TP X pins σ Q) X.xe s
theorem PW.pt {X:Cx}{e:Expr}{t:TT}(h:PW X e t):PT X e t:=h _
def PA (X:Cx)(es:List Expr)(t:TA):Prop:=
 ∀(pos:Pos) (pins:List (Addr×Obj)) (s:Shared) (σ:St) (H:Hp) (Q:List V->Hp->Prop),Inv X pins σ H s->t σ H Q->wpAny (model X.prog X.w) X.A (spliced (backTo pos (E4 es X.env))) (AP X pins σ Q) X.xe s
def PS (X:Cx)(st:Stmt)(t:TS):Prop:=
 ∀(pins:List (Addr×Obj)) (s:Shared) (σ:St) (H:Hp) (D:Ends),Inv X pins σ H s->t D σ H->wpAny (model X.prog X.w) X.A (exec st X.env) (SP X pins D) X.xe s
def PSs (X:Cx)(st:List Stmt)(t:TS):Prop:=
 ∀(pins:List (Addr×Obj)) (s:Shared) (σ:St) (H:Hp) (D:Ends),Inv X pins σ H s->t D σ H->wpAny (model X.prog X.w) X.A (execs st X.env) (SP X pins D) X.xe s
theorem thn {α:Type}{t:Sem α}{Q Q':α->Shared->Prop}{M:Model}{A:Around}{E:Value->Shared->Prop}{s:Shared}(h:wpAny M A t Q E s)(hQ:∀a s,Q a s->Q' a s):wpAny M A t Q' E s:=F9 h hQ fun _ _ x=>x
section
variable {X:Cx}
def tVar (i:Nat):TE:=fun σ H Q=>∃v,σ[i]?=some (some v)/\Q v H
def tC (v:V):TE:=fun _ H Q=>Q v H
theorem IY {i:Nat}{x:Str}{pos:Pos}(hN:X.N[i]?=some x)(hv:Vis X.env.scope x)(hd:(x == ("__debug__":Str))=false:=by decide)(hcd:(x == ("__classdict__":Str))=false:=by decide):PE X (.Name x pos) (tVar i):=by
 intro pins s σ H Q I h;obtain⟨v,e,h⟩:=h;obtain⟨m,hn,hl⟩:=I.loc;obtain⟨u,r,l⟩:=hl i x v hN e hv;have fin:EP X pins σ Q u s:=⟨v,H,I,r,h⟩;rcases l with⟨hk,hm⟩ | ⟨hk,c,hc,hcell⟩
 · exact wpAny_Name (wpAny_loadName_local I.ok.kind hk hn hm fin) hd
 · rcases hk with hk | hk
   · exact wpAny_Name (wpAny_loadName_cell I.ok.kind hk hc hcell fin) hd
   · exact wpAny_Name (wpAny_loadName_free I.ok.kind hk hc hcell fin hcd) hd
theorem L6 {i j pos}:PE X (.Constant (.int i) j pos) (tC (.int i)):=fun _ _ _ H _ I h=>wpAny_Constant_int ⟨.int i,H,I.tok _,⟨_,rfl⟩,h⟩
theorem pe_bl {b j pos}:PE X (.Constant (.bool b) j pos) (tC (.bl b)):=fun _ _ _ H _ I h=>Constant_bool ⟨.bl b,H,I,rfl,h⟩
theorem K8 {x j pos}:PE X (.Constant (.str x) j pos) (tC (.str x)):=fun _ _ _ H _ I h=>Calls.Constant_str ⟨.str x,H,I.tok _,⟨_,rfl⟩,h⟩
def Gl (X:Cx)(x:Str):Prop:=X.env.kindOf x=some .globalImplicit
theorem Ml {E:Value->Shared->Prop}{pins:List (Addr×Obj)}{s:Shared}{σ:St}{H:Hp}{x:Str}{u:Value}{pos:Pos}{Q:Value->Shared->Prop}(I:Inv X pins σ H s)(hg:Gl X x)(hm:X.mg x=some u)(h:Q u s)
   (hd:(x == ("__debug__":Str))=false:=by decide):wpAny (model X.prog X.w) X.A (eval (.Name x pos) X.env) Q E s:=
 Calls.Name_function_global I.ok.kind hg (Calls.loadGlobal_global (by rw [I.ok.glob];exact I.mod.glob.keeps I.bk) hm h) hd
theorem Bq {E:Value->Shared->Prop}{pins:List (Addr×Obj)}{s:Shared}{σ:St}{H:Hp}{x:Str}{u:Value}{pos:Pos}{Q:Value->Shared->Prop}(I:Inv X pins σ H s)(hg:Gl X x)(hm:X.mg x=none)(hv:N0 x=some u)(h:Q u s)
   (hn:x≠"__name__":=by decide) (hd:(x == ("__debug__":Str))=false:=by decide):wpAny (model X.prog X.w) X.A (eval (.Name x pos) X.env) Q E s:=by
 obtain⟨mb,h1,h2⟩:=I.mod.blt;exact Calls.Name_function_global I.ok.kind hg (Calls.loadGlobal_builtin (by rw [I.ok.glob];exact I.mod.glob.keeps I.bk) hm (by rw [I.ok.blt];exact h1.keeps I.bk) ((h2 x hn).trans hv) h) hd
variable {a b:Expr}{ta tb:TE}{pos:Pos}
def tB (t:TE):TT:=fun σ H Q=>t σ H fun x H1=>∃c,x=.bl c/\Q c H1
theorem pt_val {e:Expr}{t:TE}(h:PE X e t)(he:∀whole,isTrue e X.env whole=(do let v ← whole;Z6 e.pos;R1 [v] (truthy v)):=by intro _;rfl):PT X e (tB t):=by
 intro pins s σ H Q I hw;refine isTrue_plain (thn (h pins s σ H _ I hw) fun v s1 ⟨x,H1,I1,r1,q1⟩=>?_) (he _);obtain⟨d,rfl,q⟩:=q1;cases r1;exact wpAny_truthy_bool ⟨H1,I1,q⟩
variable {tA tB':TT}{rest:List Expr}
def tAnd (t u:TT):TT:=fun σ H Q=>t σ H fun c H1=>if c=true then u σ H1 Q else Q false H1
def tOr (t u:TT):TT:=fun σ H Q=>t σ H fun c H1=>if c=true then Q true H1 else u σ H1 Q
theorem IZ (ha:PT X a tA):PW X (.BoolOp .And [a] pos) tA:=by
 intro wh pins s σ H Q I h;refine isTrue_and (thn (ha pins s σ H Q I h) fun c s1 e=>?_);cases c with
 | true=>exact isTrue_and_nil e
 | false=>exact e
theorem pw_or1 (ha:PT X a tA):PW X (.BoolOp .Or [a] pos) tA:=by
 intro wh pins s σ H Q I h;refine isTrue_or (thn (ha pins s σ H Q I h) fun c s1 e=>?_);cases c with
 | false=>exact isTrue_or_nil e
 | true=>exact e
theorem I_ (ha:PT X a tA)(hb:PW X (.BoolOp .And (b::rest) pos) tB'):PW X (.BoolOp .And (a::b::rest) pos) (tAnd tA tB'):=by
 intro wh pins s σ H Q I h;refine isTrue_and (thn (ha pins s σ H _ I h) fun c s1 ⟨H1,I1,q1⟩=>?_);cases c with
 | true=>exact hb wh pins s1 σ H1 Q I1 q1
 | false=>exact⟨H1,I1,q1⟩
theorem pw_or (ha:PT X a tA)(hb:PW X (.BoolOp .Or (b::rest) pos) tB'):PW X (.BoolOp .Or (a::b::rest) pos) (tOr tA tB'):=by
 intro wh pins s σ H Q I h;refine isTrue_or (thn (ha pins s σ H _ I h) fun c s1 ⟨H1,I1,q1⟩=>?_);cases c with
 | true=>exact⟨H1,I1,q1⟩
 | false=>exact hb wh pins s1 σ H1 Q I1 q1
theorem pe_one {op}{t:TE}(h:PE X a t):PE X (.BoolOp op [a] pos) t:=fun pins s σ H Q I hw=>BoolOp_one (h pins s σ H Q I hw)
def tIf (t:TT)(ta tb:TE):TE:=fun σ H Q=>t σ H fun c H1=>if c=true then ta σ H1 Q else tb σ H1 Q
theorem Mm {c:Expr}(hc:PT X c tA)(ha:PE X a ta)(hb:PE X b tb):PE X (.IfExp c a b pos) (tIf tA ta tb):=by
 intro pins s σ H Q I h;refine wpAny_IfExp (thn (hc pins s σ H _ I h) fun d s1 ⟨H1,I1,q1⟩=>?_);cases d with
 | true=>exact ha pins s1 σ H1 Q I1 q1
 | false=>exact hb pins s1 σ H1 Q I1 q1
end
def SqL (K:A5)(H:Hp)(a:Addr)(xs:List V):Prop:=
 Rd H a (.lst xs)\/
   ∃(o:Obj) (its:Array Value) (n:Nat),K.lookup a=some o/\o.cls=.type "list"/\o.dict=none/\o.data=.seq its n/\its.size<=B0/\Vals xs its.toList
def SqT (K:A5)(H:Hp)(a:Addr)(xs:List V):Prop:=
 Rd H a (.tup xs)\/
   ∃(o:Obj) (its:Array Value) (n:Nat),K.lookup a=some o/\o.cls=.type "tuple"/\o.data=.seq its n/\its.size<=B0/\Vals xs its.toList
def absV:Value->Option V
 | .none=>some .non
 | .bool b=>some (.bl b)
 | .int i _=>some (.int i)
 | .str x _=>some (.str x)
 | .bytes b _=>some (.byt b)
 | .float b _=>some (.flt b)
 | .ref a=>some (.ref a)
 | .type n=>some (.ty n)
 | _=>none
theorem RelV.abs {x:V}{u:Value}(r:RelV x u):absV u=some x:=by
 cases x with
 | non=>cases r;rfl
 | bl _=>cases r;rfl
 | int _=>obtain⟨t,rfl⟩:=r;rfl
 | str _=>obtain⟨t,rfl⟩:=r;rfl
 | byt _=>obtain⟨t,rfl⟩:=r;rfl
 | flt _=>obtain⟨t,rfl⟩:=r;rfl
 | ref _=>cases r;rfl
 | ty _=>cases r;rfl
theorem RelV.inj {x y:V}{u:Value}(r:RelV x u)(q:RelV y u):x=y:=J9 (r.abs.symm.trans q.abs)
theorem Vals.inj {xs ys:List V}{us:List Value}(h:Vals xs us)(h':Vals ys us):xs=ys:=by
 induction h generalizing ys with
 | nil=>cases h';rfl
 | cons r t ih=>cases h' with | cons r' t'=>rw [r.inj r',ih t']
section
variable {X:Cx}{pins:List (Addr×Obj)}{σ:St}{H:Hp}{s:Shared}{a:Addr}{xs ys:List V}
theorem SqL.of {K:A5}(h:H a=some (.lst xs)):SqL K H a xs:=.inl (.inl h)
theorem SqT.of {K:A5}(h:H a=some (.tup xs)):SqT K H a xs:=.inl (.inl h)
theorem Inv.list (I:Inv X pins σ H s)(h:SqL X.K H a xs):∃its:List Value,Vals xs its/\PlainL s.heap a its.toArray/\xs.length<=B0:=by
 rcases h with h | ⟨o,its,n,hk,hc,hd,hs,hz,r⟩
 · obtain⟨z,its,n,r,e⟩:=h.ok I.hok;exact⟨its,r,⟨_,n,e,rfl,rfl,rfl⟩,z⟩
 · refine⟨its.toList,r,⟨o,n,I.kIn a o hk,hc,hd,by simpa using hs⟩,?_⟩;have e:=r.length;simp only [F4] at e;omega
theorem Inv.tuple (I:Inv X pins σ H s)(h:SqT X.K H a xs):∃its:List Value,Vals xs its/\IsTup s.heap a its.toArray/\xs.length<=B0:=by
 rcases h with h | ⟨o,its,n,hk,hc,hs,hz,r⟩
 · obtain⟨z,its,r,p⟩:=h.ok I.hok;exact⟨its,r,p.is,z⟩
 · refine⟨its.toList,r,⟨o,I.kIn a o hk,hc,n,by simpa using hs⟩,?_⟩;have e:=r.length;simp only [F4] at e;omega
theorem Inv.list_inj (I:Inv X pins σ H s)(h:SqL X.K H a xs)(h':SqL X.K H a ys):xs=ys:=by
 obtain⟨its,r,⟨o,n,e,_,_,d⟩,_⟩:=I.list h;obtain⟨its',r',⟨o',n',e',_,_,d'⟩,_⟩:=I.list h';rw [e] at e';cases e';rw [d] at d';injection d' with d1 _;have:its=its':=by simpa using congrArg Array.toList d1
 subst this;exact r.inj r'
theorem Inv.tuple_inj (I:Inv X pins σ H s)(h:SqT X.K H a xs)(h':SqT X.K H a ys):xs=ys:=by
 obtain⟨its,r,⟨o,e,_,n,d⟩,_⟩:=I.tuple h;obtain⟨its',r',⟨o',e',_,n',d'⟩,_⟩:=I.tuple h';rw [e] at e';cases e';rw [d] at d';injection d' with d1 _;have:its=its':=by simpa using congrArg Array.toList d1
 subst this;exact r.inj r'
end
abbrev Cx.wish (X:Cx)(E:Value->Shared->Prop):Cx:={ X with xe:=E }
abbrev Cx.nox (X:Cx):Cx:=X.wish fun _ _=>False
theorem Cx.Ok.wish {X:Cx}(ok:X.Ok)(E:Value->Shared->Prop):(X.wish E).Ok:=
 ⟨ok.mod,ok.kind,ok.glob,ok.blt,ok.above,ok.inj,ok.has,ok.cab,ok.hd,ok.frames,ok.stk,ok.exf,ok.bs,ok.bsz,ok.noex,ok.exfs,ok.funs,ok.frf,ok.nos⟩
theorem Cx.Ok.unwish {X:Cx}{E:Value->Shared->Prop}(ok:(X.wish E).Ok):X.Ok:=
 ⟨ok.mod,ok.kind,ok.glob,ok.blt,ok.above,ok.inj,ok.has,ok.cab,ok.hd,ok.frames,ok.stk,ok.exf,ok.bs,ok.bsz,ok.noex,ok.exfs,ok.funs,ok.frf,ok.nos⟩
section
variable {X:Cx}{pins:List (Addr×Obj)}{σ:St}{H:Hp}{s:Shared}{E:Value->Shared->Prop}
theorem Inv.wish (I:Inv X pins σ H s)(E:Value->Shared->Prop):Inv (X.wish E) pins σ H s:=⟨I.ok.wish E,I.os,I.bare,I.base,I.loc,I.cell,I.free,I.freeC,I.pin,I.hok,I.len⟩
theorem Inv.unwish (I:Inv (X.wish E) pins σ H s):Inv X pins σ H s:=⟨I.ok.unwish,I.os,I.bare,I.base,I.loc,I.cell,I.free,I.freeC,I.pin,I.hok,I.len⟩
theorem SP.unwish {D:Ends}{f:Flow}{s':Shared}(h:SP (X.wish E) pins D f s'):SP X pins D f s':=by
 cases f with
 | next=>obtain⟨σ',H',I,q⟩:=h;exact⟨σ',H',I.unwish,q⟩
 | brk=>obtain⟨σ',H',I,q⟩:=h;exact⟨σ',H',I.unwish,q⟩
 | cont=>obtain⟨σ',H',I,q⟩:=h;exact⟨σ',H',I.unwish,q⟩
 | ret u=>obtain⟨v,σ',H',I,r,q⟩:=h;exact⟨v,σ',H',I.unwish,r,q⟩
theorem PSs.nox {st:List Stmt}{t:TS}(h:PSs X.nox st t):PSs X st t:=fun pins s σ H D I hw=>
 F9 (h pins s σ H D (I.wish _) hw) (fun _ _ q=>q.unwish) fun _ _ z=>c8 z
end
section
variable {X:Cx}{st:Stmt}{rest:List Stmt}{t u:TS}{e:Expr}{te:TE}{pos:Pos}
def tNext:TS:=fun D σ H=>D.nx σ H
def tSeq (t u:TS):TS:=fun D σ H=>t { D with nx:=u D } σ H
theorem Gp:PSs X [] tNext:=fun _ _ σ H _ I h=>Dz ⟨σ,H,I,h⟩
theorem k5 (h1:PS X st t)(h2:PSs X rest u):PSs X (st::rest) (tSeq t u):=by
 intro pins s σ H D I h;refine wpAny_execs_cons (thn (h1 pins s σ H { D with nx:=u D } I h) fun f s1 q=>?_);cases f with
 | next =>
   obtain⟨σ',H',I',q⟩:=q;exact h2 pins s1 σ' H' D I' q
 | ret v=>exact q
 | brk=>exact q
 | cont=>exact q
theorem Co (h1:PS X st t):PSs X [st] t:=by
 intro pins s σ H D I h;refine wpAny_execs_cons (thn (h1 pins s σ H D I h) fun f s1 q=>?_);cases f with
 | next=>exact Dz q
 | ret v=>exact q
 | brk=>exact q
 | cont=>exact q
theorem Inv.quiet {pins:List (Addr×Obj)}{σ:St}{H:Hp}{s:Shared}(I:Inv X pins σ H s):interactive X.env=false:=by simp [interactive,I.ok.kind]
def Gq (te:TE):TS:=fun D σ H=>te σ H fun _ H1=>D.nx σ H1
theorem Mn (he:PE X e te)(hs:i4 e none pos.line X.env=pure false:=by rfl):PS X (.Expr e pos) (Gq te):=by
 intro pins s σ H D I h;exact wpAny_Expr_any (thn (he pins s σ H _ I h) fun v s1 ⟨x,H1,I1,r1,q1⟩=>⟨σ,H1,I1,q1⟩) I.quiet hs
def tRet (te:TE):TS:=fun D σ H=>te σ H D.rt
theorem Cp (he:PE X e te):PS X (.Return (some e) pos) (tRet te):=by
 intro pins s σ H D I h;exact wpAny_Return_some (thn (he pins s σ H _ I h) fun v s1 ⟨x,H1,I1,r1,q1⟩=>⟨x,σ,H1,I1,r1,q1⟩)
def tIfS (c:TT)(t u:TS):TS:=fun D σ H=>c σ H fun b H1=>if b=true then t D σ H1 else u D σ H1
theorem Gr {c:Expr}{a b:List Stmt}{tc:TT}(hc:PT X c tc)(ha:PSs X a t)(hb:PSs X b u):PS X (.If c a b pos) (tIfS tc t u):=by
 intro pins s σ H D I h;refine wpAny_If (thn (hc pins s σ H _ I h) fun d s1 ⟨H1,I1,q1⟩=>?_);cases d with
 | true=>exact ha pins s1 σ H1 D I1 q1
 | false=>exact hb pins s1 σ H1 D I1 q1
end
abbrev TG:=V->St->Hp->(St->Hp->Prop)->Prop
abbrev TGs:=List V->St->Hp->(St->Hp->Prop)->Prop
def PG (X:Cx)(target:Expr)(t:TG):Prop:=
 ∀ (pins : List (Addr × Obj)) (s : Shared) (σ : St) (H : Hp) (v : V) (u : Value) (Q : St -> Hp -> Prop), Inv X pins σ H s -> RelV v u -> t v σ H Q ->
   wpAny (model X.prog X.w) X.A (assign target X.env u) (fun _ s'=>∃σ' H',Inv X pins σ' H' s'/\Q σ' H') X.xe s
def PGs (X:Cx)(ts:List Expr)(t:TGs):Prop:=
 ∀ (pins : List (Addr × Obj)) (s : Shared) (σ : St) (H : Hp) (vs : List V) (us : List Value) (Q : St -> Hp -> Prop), Inv X pins σ H s -> Vals vs us -> t vs σ H Q ->
   wpAny (model X.prog X.w) X.A (assignInOrder ((G0 ts X.env).map (·.2)) us) (fun _ s'=>∃σ' H',Inv X pins σ' H' s'/\Q σ' H') X.xe s
abbrev TSet:=V->V->V->Hp->(Hp->Prop)->Prop
def PSet (X:Cx)(t:TSet):Prop:=
 ∀ (pins : List (Addr × Obj)) (s : Shared) (σ : St) (H : Hp) (o i v : V) (ov iv u : Value) (Q : Hp -> Prop), Inv X pins σ H s -> RelV o ov -> RelV i iv -> RelV v u -> t o i v H Q ->
   wpAny (model X.prog X.w) X.A (setItem ov iv u) (fun _ s'=>∃H',Inv X pins σ H' s'/\Q H') X.xe s
abbrev TIp:=V->V->Hp->VK->Prop
def PIp (X:Cx)(op:Operator)(t:TIp):Prop:=
 ∀ (pins : List (Addr × Obj)) (s : Shared) (σ : St) (H : Hp) (x y : V) (v u : Value) (Q : VK), Inv X pins σ H s -> RelV x v -> RelV y u -> t x y H Q ->
   wpAny (model X.prog X.w) X.A (inplaceOp op v u) (EP X pins σ Q) X.xe s
section
variable {X:Cx}{pos:Pos}
def N5 (i:Nat):TG:=fun v σ H Q=>Q (σ.set i (some v)) H
theorem Mo {i:Nat}{x:Str}(hN:X.N.Nodup)(hi:X.N[i]?=some x)(hx:Loc X.env.scope x)(hf:X.fn x=true\/X.env.scope.names.lookup x=some .local:=by first | exact .inl rfl | exact .inr rfl | assumption):PG X (.Name x pos) (N5 i):=by
 intro pins s σ H v u Q I r h;exact wpAny_assign_Name (Cn I hN hi hx r (fun s' I'=>⟨_,H,I',h⟩) hf)
def gNil:TGs:=fun vs σ H Q=>vs=[]/\Q σ H
def Y5 (t:TG)(u:TGs):TGs:=fun vs σ H Q=>∃v r,vs=v::r/\t v σ H fun σ' H'=>u r σ' H' Q
theorem Gs:PGs X [] gNil:=by
 intro pins s σ H vs us Q I r h;obtain⟨e,h⟩:=h;subst e;cases r;exact assignInOrder_nil ⟨σ,H,I,h⟩
theorem Cq {e:Expr}{es:List Expr}{t:TG}{u:TGs}(h1:PG X e t)(h2:PGs X es u)
   (hs:(G0 (e::es) X.env).map (·.2)=assign e X.env::(G0 es X.env).map (·.2):=by rfl):PGs X (e::es) (Y5 t u):=by
 intro pins s σ H vs us Q I r h;obtain⟨v,vr,e1,h⟩:=h;subst e1;cases r with
 | cons r rr =>
   rw [hs];refine assignInOrder_cons (thn (h1 pins s σ H _ _ _ I r h) fun _ s1 ⟨σ1,H1,I1,q1⟩=>?_);exact h2 pins s1 σ1 H1 _ _ Q I1 rr q1
def gTup (K:A5)(n:Nat)(t:TGs):TG:=fun v σ H Q=>∃a xs,v=.ref a/\SqT K H a xs/\xs.length=n/\t xs σ H Q
theorem Gu {es:List Expr}{k:Nat}{t:TGs}{n:Nat}(hc:X.calm=true)(h:PGs X es t)
   (hn:(G0 es X.env).length=n:=by rfl) (hst:(G0 es X.env).findIdx? (·.1)=none:=by rfl):PG X (.Tuple es k pos) (gTup X.K n t):=by
 intro pins s σ H v u Q I r hw;obtain⟨a,xs,e1,hq,hl,hw⟩:=hw;subst e1;cases r;obtain⟨its,rv,ht,hz⟩:=I.tuple hq;refine assign_Tuple_tuple (I.ok.hd hc) ht (by simp [hn,<- hl,rv.length]) hst fun h' hx=>?_;have I1:Inv X pins σ H { s with heap:=h' }:=I.kept (t':=s.toks) fun b o e=>hx b o (D0 (B9 e)) e;exact h pins _ σ H xs _ Q I1 (by simpa using rv) hw
def gSub (to ti:TE)(t:TSet):TG:=fun v σ H Q=>to σ H fun o H1=>ti σ H1 fun i H2=>t o i v H2 fun H3=>Q σ H3
theorem pg_sub {o i:Expr}{to ti:TE}{t:TSet}(ho:PE X o to)(hi:PE X i ti)(hs:PSet X t)
   (ha:∀v,assign (.Subscript o i pos) X.env v=(do
     let ov ← R1 [v] (eval o X.env)
     let iv ← R1 [v,ov] (eval i X.env)
     Z6 pos
     R1 [v,ov,iv] (setItem ov iv v)
     release [v,ov,iv] []):=by intro _;rfl):PG X (.Subscript o i pos) (gSub to ti t):=by
 intro pins s σ H v u Q I r h;rw [ha];refine A0 (J5 (thn (ho pins s σ H _ I h) fun ov s1 ⟨x,H1,I1,r1,q1⟩=>?_));refine A0 (J5 (thn (hi pins s1 σ H1 _ I1 q1) fun iv s2 ⟨y,H2,I2,r2,q2⟩=>?_));refine A0 (Z4 (A0 (J5 (thn (hs pins s2 σ H2 x y v ov iv u _ I2 r1 r2 r q2) fun _ s3 ⟨H3,I3,q3⟩=>?_))));exact wpAny_release ⟨σ,H3,I3,q3⟩
def tAsg (te:TE)(g:TG):TS:=fun D σ H=>te σ H fun x H1=>g x σ H1 D.nx
theorem ps_asg {tg e:Expr}{te:TE}{g:TG}(he:PE X e te)(hg:PG X tg g)(hs:swapsWithSole [tg] e pos.line X.env=pure false:=by rfl)(hw:swappedStores [tg] e X.env=pure none:=by rfl)
   (h1:(G0 [tg] X.env).map (·.2)=[assign tg X.env]:=by rfl):PS X (.Assign [tg] e pos) (tAsg te g):=by
 intro pins s σ H D I h;refine wpAny_Assign_stores (thn (he pins s σ H _ I h) fun v s1 ⟨x,H1,I1,r1,q1⟩=>?_) hs hw;rw [h1];exact thn (hg pins s1 σ H1 x v _ I1 r1 q1) fun _ s2 q=>q
theorem Gv {i:Nat}{x:Str}{e:Expr}{te:TE}{pos':Pos}(hN:X.N.Nodup)(hi:X.N[i]?=some x)(hx:Loc X.env.scope x)(he:PE X e te)(hs:i4 e (some (.Name x pos')) pos.line X.env=pure false:=by rfl)(hf:X.fn x=true\/X.env.scope.names.lookup x=some .local:=by first | exact .inl rfl | exact .inr rfl | assumption) :
   PS X (.Assign [.Name x pos'] e pos) (tAsg te (N5 i)):=by
 intro pins s σ H D I h;refine wpAny_Assign_Name (thn (he pins s σ H _ I h) fun v s1 ⟨y,H1,I1,r1,q1⟩=>?_) hs;exact Cn I1 hN hi hx r1 (fun s2 I2=>⟨_,H1,I2,q1⟩) hf
def tPar (i j:Nat)(ta:TA):TS:=fun D σ H=>ta σ H fun vs H1=>∃v w,vs=[v,w]/\D.nx ((σ.set i (some v)).set j (some w)) H1
theorem ps_par {i j:Nat}{x y:Str}{a b:Expr}{ta:TA}{px py pt:Pos}{kt k2 pt2}(hc:X.calm=true)(hN:X.N.Nodup)(hi:X.N[i]?=some x)(hj:X.N[j]?=some y)(hij:i≠j)
   (hx:X.env.scope.names.lookup x=some .local) (hy:X.env.scope.names.lookup y=some .local) (ha:PA X [a,b] ta)
   (hw:swappedStores [.Tuple [.Name x px,.Name y py] kt pt] (.Tuple [a,b] k2 pt2) X.env=pure (some [x,y]))
   (hs:swapsWithSole [.Tuple [.Name x px,.Name y py] kt pt] (.Tuple [a,b] k2 pt2) pos.line X.env=pure false:=by rfl) :
   PS X (.Assign [.Tuple [.Name x px,.Name y py] kt pt] (.Tuple [a,b] k2 pt2) pos) (tPar i j ta):=by
 intro pins s σ H D I h;rw [exec_Assign_arm];refine A0 (Z4 ?_);rw [hs];refine A0 (A4 ?_);rw [if_neg (by decide)];refine A0 (Tuple_ (thn (ha _ pins s σ H _ I h) fun us s1 ⟨vs,H1,I1,r1,q1⟩=>?_));obtain⟨v,w,e1,q1⟩:=q1;subst e1
 obtain⟨u1,u2,rfl,rv,rw'⟩:∃u1 u2,us=[u1,u2]/\RelV v u1/\RelV w u2:=by
   cases r1 with
   | cons p q =>
     cases q with
     | cons p' q' =>
       cases q';exact⟨_,_,rfl,p,p'⟩
 refine J8 ?_ (by show 2<=B0;decide);have I2:Inv X pins σ H1 { s1 with heap:=s1.heap.push { cls:=.type "tuple",data:=.seq [u1,u2].toArray } }:=I1.kept (t':=s1.toks) fun b o e=>B6 _ e;rw [hw];refine A0 (A4 ?_);show wpAny (model X.prog X.w) X.A (do rule "assign.swapped-stores";let items ← unpackItems (.ref s1.heap.objs.size) 2 none;assignInOrder [fun v=>bindName X.env y v,fun v=>bindName X.env x v] items.reverse;pure Flow.next) _ _ _;refine A0 (V9 (A0 (unpackItems_tuple (items:=#[u1,u2]) (I.ok.hd hc) (IsTup.new s1.heap _) fun h' hx'=>?_)));have I3:=I2.kept (h':=h') (t':=s1.toks) fun b o e=>hx' b o (D0 (B9 e)) e;show wpAny _ _ (assignInOrder [fun v=>bindName X.env y v,fun v=>bindName X.env x v] [u2,u1]>>=fun _=>pure Flow.next) _ _ _;refine A0 (assignInOrder_cons (wpAny_bindName (Cn I3 hN hj (.inl hy) rw' (fun s2 I4=>?_) (.inr hy))));refine assignInOrder_cons (wpAny_bindName (Cn I4 hN hi (.inl hx) rv (fun s3 I5=>assignInOrder_nil (A4 ?_)) (.inr hx)));rw [List.set_comm _ _ (Ne.symm hij)] at I5;exact⟨_,H1,I5,q1⟩
def tAug (i:Nat)(te:TE)(ti:TIp):TS:=fun D σ H=>∃x,σ[i]?=some (some x)/\te σ H fun y H1=>ti x y H1 fun z H2=>D.nx (σ.set i (some z)) H2
theorem ps_aug {i:Nat}{x:Str}{e:Expr}{te:TE}{op:Operator}{ti:TIp}{pos':Pos}(hN:X.N.Nodup)(hi:X.N[i]?=some x)(hx:Loc X.env.scope x)(he:PE X e te)(ho:PIp X op ti)(hf:X.fn x=true\/X.env.scope.names.lookup x=some .local:=by first | exact .inl rfl | exact .inr rfl | assumption) :
   PS X (.AugAssign (.Name x pos') op e pos) (tAug i te ti):=by
 intro pins s σ H D I h;obtain⟨v,e1,h⟩:=h;obtain⟨m,hn,hl⟩:=I.loc;have vis:Vis X.env.scope x:=by rcases hx with k | k;exact .inl k;exact .inr (.inl k)
 obtain⟨u,r,l⟩:=hl i x v hi e1 vis;refine wpAny_AugAssign_Name ?_
 have go:wpAny (model X.prog X.w) X.A (eval e X.env) (fun w s₂=>wpAny (model X.prog X.w) X.A (inplaceOp op u w) (fun r s₃=>wpAny (model X.prog X.w) X.A (storeName X.env x r) (fun _=>SP X pins D .next) X.xe s₃) X.xe s₂) X.xe s:=by
   refine thn (he pins s σ H _ I h) fun w s1 ⟨y,H1,I1,r1,q1⟩=>?_;refine thn (ho pins s1 σ H1 v y u w _ I1 r r1 q1) fun z s2 ⟨zv,H2,I2,r2,q2⟩=>?_;exact Cn I2 hN hi hx r2 (fun s3 I3=>⟨_,H2,I3,q2⟩) hf
 rcases l with⟨hk,hm⟩ | ⟨hk,c,hc,hcell⟩
 · exact wpAny_loadName_local I.ok.kind hk hn hm go
 · rcases hk with hk | hk
   · exact wpAny_loadName_cell I.ok.kind hk hc hcell go
   · rcases hx with k | k
     · have:X.env.scope.names.lookup x=some .free:=hk;rw [k] at this;cases this
     · have:X.env.scope.names.lookup x=some .free:=hk;rw [k] at this;cases this
end
section
variable {X:Cx}{pos:Pos}
def tWhile (c:TT)(tb:TS):TS:=fun D σ H=>∃W:Nat->St->Hp->Prop,(∃m,W m σ H)/\∀m σ H,W m σ H->
 c σ H fun b H1=>if b=true then ∃N:St->Hp->Prop,(∀σ' H',N σ' H'->∃m',m' < m/\W m' σ' H')/\tb { D with nx:=N,ct:=N,bk:=D.nx } σ H1 else D.nx σ H1
theorem Mp {c:Expr}{body:List Stmt}{tc:TT}{tb:TS}(hp:PassesOwn (model X.prog X.w) X.A X.env X.xe)(hc:PT X c tc)(hb:PSs X body tb):PS X (.While c body [] pos) (tWhile tc tb):=by
 intro pins s σ H D I h;obtain⟨W,⟨m0,w0⟩,turn⟩:=h;refine wpAny_While (codeAny_whileLoop (fun n s'=>∃σ' H',Inv X pins σ' H' s'/\W n σ' H') ?_ m0 ⟨σ,H,I,w0⟩);rintro n s1 ⟨σ1,H1,I1,w1⟩;refine y8 hp (thn (hc pins s1 σ1 H1 _ I1 (turn n σ1 H1 w1)) fun b s2 ⟨H2,I2,q2⟩=>?_);cases b with
 | true =>
   obtain⟨N,hN,q2⟩:=q2;rw [if_pos rfl];refine y8 hp (thn (hb pins s2 σ1 H2 _ I2 q2) fun f s3 q3=>?_);cases f with
   | next =>
     obtain⟨σ3,H3,I3,n3⟩:=q3;obtain⟨m',hm,w3⟩:=hN σ3 H3 n3;exact⟨m',hm,σ3,H3,I3,w3⟩
   | cont =>
     obtain⟨σ3,H3,I3,n3⟩:=q3;obtain⟨m',hm,w3⟩:=hN σ3 H3 n3;exact⟨m',hm,σ3,H3,I3,w3⟩
   | brk=>exact q3
   | ret v=>exact q3
 | false =>
   rw [if_neg J3];exact Dz ⟨σ1,H2,I2,q2⟩
end
structure It where
 go:Nat->Hp->Prop
 yld:Nat->Hp->V->Hp->Prop
 stop:Nat->Hp->Prop
def FpOk (X:Cx)(pins:List (Addr×Obj))(H:Hp)(b:Addr):Prop:=
 H b=none/\b≠X.env.locals/\b∉X.fs/\(b∈X.ex\/X.s₀.heap.objs.size<=b)/\(∀x c,X.env.cells.lookup x=some c->c≠b)/\∀p∈X.pn++pins,p.1≠b
theorem Inv.fpOk {X:Cx}{pins:List (Addr×Obj)}{σ:St}{H H':Hp}{s:Shared}{b:Addr}(I:Inv X pins σ H s)(hb:s.heap.objs.size<=b)(hn:H' b=none):FpOk X pins H' b:=by
 refine⟨hn,u4 (L3 I.lt hb),I.nofs hb,.inr (L4 I.sz hb),fun x c e z=>?_,fun p hp z=>?_⟩
 · obtain⟨v,q⟩:=I.cell x c e;exact absurd (L3 q.lt (by rw [z];exact hb)) (R5 _)
 · exact absurd (L3 (B9 (I.pin p hp).1) (by rw [z];exact hb)) (R5 _)
structure Turn (P:B2)(w:World)(K:A5)(tg:Expr)(J:It)(fp:List Addr)(it:Addr)(tn:Nat->Heap->Prop):Prop where
 mem:it∈fp
 obj:∀i h,tn i h->∀b∈fp,∃o,h.get? b=some o/\∀v,o.data≠.cell v
 keep:∀i h h',tn i h->(∀b∈fp,∀o,h.get? b=some o->h'.get? b=some o)->tn i h'
 item:∀(X:Cx),X.prog=P->X.w=w->X.K=K->X.calm=true->∀(i:Nat) (pins:List (Addr×Obj)) (s:Shared) (σ:St) (H:Hp) (E:Value->Shared->Prop),Inv X pins σ H s->(∀b∈fp,FpOk X pins H b)->tn i s.heap->J.go i H->
   wpAny (model P w) X.A (pyNext (.ref it)) (fun r s1=>∃u,r=some u/\
     wpAny (model P w) X.A (o9 tg (.ref it) u) (fun _ s2=>∃x H',Inv X pins σ H' s2/\RelV x u/\J.yld i H x H'/\tn (i + 1) s2.heap/\∀b∈fp,H' b=none) E s1) E s
 done:∀(X:Cx),X.prog=P->X.w=w->X.K=K->X.calm=true->∀(i:Nat) (pins:List (Addr×Obj)) (s:Shared) (σ:St) (H:Hp) (E:Value->Shared->Prop),Inv X pins σ H s->(∀b∈fp,FpOk X pins H b)->tn i s.heap->J.stop i H->
   wpAny (model P w) X.A (pyNext (.ref it)) (fun r s1=>r=none/\Inv X pins σ H s1) E s
 self:∀(A:Around) (i:Nat) (s:Shared) (Q:Value->Shared->Prop) (E:Value->Shared->Prop),tn i s.heap->Q (.ref it) s->wpAny (model P w) A (pyIter (.ref it)) Q E s
abbrev TI:=St->Hp->(It->Hp->Prop)->Prop
def PIE (X:Cx)(pins:List (Addr×Obj))(σ:St)(tg:Expr)(R:It->Hp->Prop)(itv:Value)(s2:Shared):Prop:=
 ∃(it:Addr) (fp:List Addr) (tn:Nat->Heap->Prop) (J:It) (H':Hp),itv=.ref it/\Inv X pins σ H' s2/\Turn X.prog X.w X.K tg J fp it tn/\tn 0 s2.heap/\(∀b∈fp,FpOk X pins H' b)/\R J H'
def PI (X:Cx)(tg iter:Expr)(wi:TI):Prop:=
 ∀ (pins : List (Addr × Obj)) (s : Shared) (σ : St) (H : Hp) (R : It -> Hp -> Prop), Inv X pins σ H s -> wi σ H R ->
   wpAny (model X.prog X.w) X.A (eval iter X.env) (fun v s1=>wpAny (model X.prog X.w) X.A (pyIter v) (PIE X pins σ tg R) X.xe s1) X.xe s
theorem Ei {M:Model}{A:Around}{E:Value->Shared->Prop}{s:Shared}{tg:Expr}{it:Addr}{u:Value}{o:Obj}{n:String}{vs:Array Value}{Q:Unit->Shared->Prop}(ho:s.heap.get? it=some o)(hc:o.cls=.type n)(hd:o.data=.fields vs)
   (hn:["enumerate","zip","dict_itemiterator","dict_reverseitemiterator","odict_iterator","itertools.zip_longest","itertools.pairwise"].contains n=false) (hQ:Q () s):wpAny M A (o9 tg (.ref it) u) Q E s:=by
 unfold o9
 cases tg <;> first
   | exact A4 hQ
   | (cases u <;> first
       | exact A4 hQ
       | (refine A0 (wpAny_load ho ?_)
          rw [hc,hd];show wpAny M A (if(["enumerate","zip","dict_itemiterator","dict_reverseitemiterator","odict_iterator","itertools.zip_longest","itertools.pairwise"].contains n && vs[0]? == some (rawInt _))=true then _ else _) Q E s;rw [if_neg (by intro h;rw [hn,Ba] at h;cases h)]
          exact A4 hQ))
def Itl (K:A5)(a:Addr):It:=
 ⟨fun i H=>∃xs x,SqL K H a xs/\xs[i]?=some x,fun i H x H'=>H'=H/\∀xs,SqL K H a xs->xs[i]?=some x,fun i H=>∃xs,SqL K H a xs/\xs.length<=i⟩
def Itt (K:A5)(a:Addr):It:=
 ⟨fun i H=>∃xs x,SqT K H a xs/\xs[i]?=some x,fun i H x H'=>H'=H/\∀xs,SqT K H a xs->xs[i]?=some x,fun i H=>∃xs,SqT K H a xs/\xs.length<=i⟩
def Itr (lo:Int)(n:Nat):It:=⟨fun i _=>i < n,fun i H x H'=>H'=H/\x=.int (lo + i),fun i _=>n<=i⟩
theorem Mq {P:B2}{w:World}{K:A5}{tg:Expr}(a it:Addr):Turn P w K tg (Itl K a) [it] it (fun i h=>h.IsListIter it a i) where
 mem:=by simp
 obj:=fun i h st b hb=>by
   have e:b=it:=by simpa using hb
   subst e;obtain⟨o,e,c,d⟩:=st;exact⟨o,e,fun v z=>by rw [d] at z;cases z⟩
 keep:=fun i h h' st k=>st.at fun o e=>k it (by simp) o e
 item:=by
   intro X hP hw hK hc i pins s σ H E I hf st hg;subst hP hw hK;obtain⟨xs,x,hq,hx⟩:=hg;obtain⟨its,rv,p,hz⟩:=I.list hq;obtain⟨u,hu,ru⟩:=rv.get hx;obtain⟨f0,f1,f2,f3,f4,f5⟩:=hf it (by simp);refine FS st p.isList (x:=u) (by simpa using hu) fun h' st' sb=>?_;have I1:Inv X pins σ H { s with heap:=h' }:=I.turned (t':=s.toks) (fun b o hb e=>(sb.2 b hb).trans e) f0 f1 f3 f4 f5;obtain⟨o,e,c,d⟩:=id st';exact⟨u,rfl,Ei (s:={ s with heap:=h' }) e c d (by decide) ⟨x,H,I1,ru,⟨rfl,fun ys hy=>by rw [I.list_inj hy hq];exact hx⟩,st',fun b hb=>(hf b hb).1⟩⟩
 done:=by
   intro X hP hw hK hc i pins s σ H E I hf st hg;subst hP hw hK;obtain⟨xs,hq,hx⟩:=hg;obtain⟨its,rv,p,hz⟩:=I.list hq;obtain⟨f0,f1,f2,f3,f4,f5⟩:=hf it (by simp);have hl:=rv.length;exact FV (I.ok.hd hc) st p.isList (by simp;omega) fun h' eb=>⟨rfl,I.turned (t':=s.toks) (fun b o hb e=>eb b o hb e) f0 f1 f3 f4 f5⟩
 self:=fun _ _ _ _ _ st h=>wpAny_pyIter_listiter st h
theorem Mr {P:B2}{w:World}{K:A5}{tg:Expr}(a it:Addr):Turn P w K tg (Itt K a) [it] it (fun i h=>h.IsTupleIter it a i) where
 mem:=by simp
 obj:=fun i h st b hb=>by
   have e:b=it:=by simpa using hb
   subst e;obtain⟨o,e,c,d⟩:=st;exact⟨o,e,fun v z=>by rw [d] at z;cases z⟩
 keep:=fun i h h' st k=>st.at fun o e=>k it (by simp) o e
 item:=by
   intro X hP hw hK hc i pins s σ H E I hf st hg;subst hP hw hK;obtain⟨xs,x,hq,hx⟩:=hg;obtain⟨its,rv,p,hz⟩:=I.tuple hq;obtain⟨u,hu,ru⟩:=rv.get hx;obtain⟨f0,f1,f2,f3,f4,f5⟩:=hf it (by simp);refine wpAny_pyNext_tuple_item st (show s.heap.IsTuple a its.toArray from p) (x:=u) (by simpa using hu) fun h' st' sb=>?_;have I1:Inv X pins σ H { s with heap:=h' }:=I.turned (t':=s.toks) (fun b o hb e=>(sb.2 b hb).trans e) f0 f1 f3 f4 f5;obtain⟨o,e,c,d⟩:=id st';exact⟨u,rfl,Ei (s:={ s with heap:=h' }) e c d (by decide) ⟨x,H,I1,ru,⟨rfl,fun ys hy=>by rw [I.tuple_inj hy hq];exact hx⟩,st',fun b hb=>(hf b hb).1⟩⟩
 done:=by
   intro X hP hw hK hc i pins s σ H E I hf st hg;subst hP hw hK;obtain⟨xs,hq,hx⟩:=hg;obtain⟨its,rv,p,hz⟩:=I.tuple hq;obtain⟨f0,f1,f2,f3,f4,f5⟩:=hf it (by simp);have hl:=rv.length;exact wpAny_pyNext_tuple_end (I.ok.hd hc) st (show s.heap.IsTuple a its.toArray from p) (by simp;omega) fun h' eb=>⟨rfl,I.turned (t':=s.toks) (fun b o hb e=>eb b o hb e) f0 f1 f3 f4 f5⟩
 self:=fun _ _ _ _ _ st h=>wpAny_pyIter_tupleiter st h
theorem Ms {P:B2}{w:World}{K:A5}{tg:Expr}(it:Addr)(lo:Int)(n:Nat):Turn P w K tg (Itr lo n) [it] it (fun i h=>IsRangeIter h it (lo + (i:Nat) * 1) ((n:Int) - (i:Nat)) 1) where
 mem:=by simp
 obj:=fun i h st b hb=>by
   have e:b=it:=by simpa using hb
   subst e
   exact⟨_,st,fun v z=>by
     have z':Bn _=Data.cell v:=z
     cases z'⟩
 keep:=fun i h h' st k=>k it (by simp) _ st
 item:=by
   intro X hP hw hK hc i pins s σ H E I hf st hg;subst hP hw hK;obtain⟨f0,f1,f2,f3,f4,f5⟩:=hf it (by simp);have W:=Walks.range (prog:=X.prog) (w:=X.w) (I.ok.hd hc) it lo 1 n;refine W.item i s _ _ hg st fun v h' tk hv st' kk=>?_;obtain⟨t,rfl⟩:=hv;have I1:Inv X pins σ H { s with heap:=h',toks:=tk }:=I.turned (fun b o hb e=>kk b o (by simpa using hb) e) f0 f1 f3 f4 f5;refine⟨_,rfl,Ei (s:={ s with heap:=h',toks:=tk }) (n:="range_iterator") st' rfl rfl (by decide) ⟨.int (lo + i),H,I1,⟨t,?_⟩,⟨rfl,rfl⟩,st',fun b hb=>(hf b hb).1⟩⟩;rw [Int.mul_one]
 done:=by
   intro X hP hw hK hc i pins s σ H E I hf st hg;subst hP hw hK;obtain⟨f0,f1,f2,f3,f4,f5⟩:=hf it (by simp);exact wpAny_pyNext_range_end (I.ok.hd hc) st (by have:n<=i:=hg;omega) fun h' eb=>⟨rfl,I.turned (t':=s.toks) (fun b o hb e=>eb b o hb e) f0 f1 f3 f4 f5⟩
 self:=fun _ _ _ _ _ st h=>FT st h
section
variable {X:Cx}{tg:Expr}
def iList (K:A5)(tl:TE):TI:=fun σ H R=>tl σ H fun x H1=>∃a,x=.ref a/\(∃xs,SqL K H1 a xs)/\R (Itl K a) H1
def iTup (K:A5)(tl:TE):TI:=fun σ H R=>tl σ H fun x H1=>∃a,x=.ref a/\(∃xs,SqT K H1 a xs)/\R (Itt K a) H1
theorem Mt {l:Expr}{tl:TE}(hl:PE X l tl):PI X tg l (iList X.K tl):=by
 intro pins s σ H R I h;refine thn (hl pins s σ H _ I h) fun v s1 ⟨x,H1,I1,r1,q1⟩=>?_;obtain⟨a,e,⟨xs,hq⟩,q⟩:=q1;subst e;cases r1;obtain⟨its,rv,p,hz⟩:=I1.list hq;refine BS p.isList ?_;refine⟨s1.heap.objs.size,[s1.heap.objs.size],_,_,H1,rfl,I1.kept (t':=s1.toks) fun b o e=>B6 _ e,Mq a _,⟨_,E1 _ rfl,rfl,rfl⟩,fun b hb=>?_,q⟩;have e:b=s1.heap.objs.size:=by simpa using hb
 subst e;exact I1.fpOk (A9 _) (I1.hok.fresh (A9 _))
theorem pi_tup {l:Expr}{tl:TE}(hl:PE X l tl):PI X tg l (iTup X.K tl):=by
 intro pins s σ H R I h;refine thn (hl pins s σ H _ I h) fun v s1 ⟨x,H1,I1,r1,q1⟩=>?_;obtain⟨a,e,⟨xs,hq⟩,q⟩:=q1;subst e;cases r1;obtain⟨its,rv,p,hz⟩:=I1.tuple hq;refine wpAny_pyIter_tuple (show s1.heap.IsTuple a its.toArray from p) ?_;refine⟨s1.heap.objs.size,[s1.heap.objs.size],_,_,H1,rfl,I1.kept (t':=s1.toks) fun b o e=>B6 _ e,Mr a _,⟨_,E1 _ rfl,rfl,rfl⟩,fun b hb=>?_,q⟩;have e:b=s1.heap.objs.size:=by simpa using hb
 subst e;exact I1.fpOk (A9 _) (I1.hok.fresh (A9 _))
theorem Mu {pins:List (Addr×Obj)}{σ:St}{H:Hp}{s:Shared}{R:It->Hp->Prop}{E:Value->Shared->Prop}{lo hi:Int}{t u v:Tok}{tk:Nat}(I:Inv X pins σ H s)(h1:-(2 ^ 62)<=lo)(h2:lo < 2 ^ 62)(h3:-(2 ^ 62)<=hi)(h4:hi < 2 ^ 62)
   (q:R (Itr lo (hi - lo).toNat) H):wpAny (model X.prog X.w) X.A (pyIter (.ref s.heap.objs.size)) (PIE X pins σ tg R) E { s with heap:=s.heap.push { cls:=.type "range",data:=.fields #[.int lo t,.int hi u,.int 1 v] },toks:=tk }:=by
 refine wpAny_pyIter_range (IsRange.new ..) (small_one h1 h2 h3 h4) ?_;have I1:Inv X pins σ H { s with heap:=s.heap.push { cls:=.type "range",data:=.fields #[.int lo t,.int hi u,.int 1 v] },toks:=tk }:=I.kept fun b o e=>B6 _ e
 refine⟨(s.heap.push { cls:=.type "range",data:=.fields #[.int lo t,.int hi u,.int 1 v] }).objs.size,[(s.heap.push { cls:=.type "range",data:=.fields #[.int lo t,.int hi u,.int 1 v] }).objs.size],_,_,H,rfl,
   I1.kept (t':=tk) fun b o e=>B6 _ e,Ms _ lo (hi - lo).toNat,?_,fun b hb=>?_,q⟩
 · have e1:lo + ((0:Nat):Int) * 1=lo:=by simp
   have e2:(((hi - lo).toNat:Nat):Int) - ((0:Nat):Int)=Gg lo hi 1:=by rw [rangeSize_one];split <;> omega
   show IsRangeIter _ _ (lo + ((0:Nat):Int) * 1) ((((hi - lo).toNat:Nat):Int) - ((0:Nat):Int)) 1;rw [e1,e2];exact E1 _ rfl
 · have e:b=(s.heap.push { cls:=.type "range",data:=.fields #[.int lo t,.int hi u,.int 1 v] }).objs.size:=by simpa using hb
   subst e;exact I1.fpOk (A9 _) (I1.hok.fresh (A9 _))
def iRng1 (ta:TA):TI:=fun σ H R=>ta σ H fun vs H1=>∃j:Int,vs=[.int j]/\-(2 ^ 62)<=j/\j < 2 ^ 62/\R (Itr 0 j.toNat) H1
theorem Mv {a:Expr}{ta:TA}{p pos:Pos}(hg:Gl X "range")(hm:X.mg "range"=none)(ha:PA X [a] ta)(hs:E4 [a] X.env=[(false,eval a X.env)]:=by rfl):PI X tg (.Call (.Name "range" p) [a] [] pos) (iRng1 ta):=by
 intro pins s σ H R I h;refine Call_ (Bq I hg hm boot_range (Ch (thn (ha pos pins s σ H _ I h) fun us s1 ⟨vs,H1,I1,r1,q1⟩=>?_) hs rfl));obtain⟨j,e,q1,q2,q⟩:=q1;subst e;cases r1 with
 | cons r rr =>
   cases rr;obtain⟨t,rfl⟩:=r;exact call_range_1 (Mu I1 (by omega) (by omega) q1 q2 (by simpa using q))
def tFor (wi:TI)(g:TG)(tb:TS):TS:=fun D σ H=>wi σ H fun J H1=>∃W:Nat->Nat->St->Hp->Prop,(∃m,W 0 m σ H1)/\∀i m σ H,W i m σ H->
 (J.stop i H/\D.nx σ H)\/(J.go i H/\∃N:St->Hp->Prop,(∀σ' H',N σ' H'->∃m',m' < m/\W (i + 1) m' σ' H')/\∀x H',J.yld i H x H'->g x σ H' fun σ2 H2=>tb { D with nx:=N,ct:=N,bk:=D.nx } σ2 H2)
def Br (fp:List Addr)(h:Heap):List (Addr×Obj):=fp.filterMap fun b=>(h.get? b).map fun o=>(b,o)
theorem Gw {fp:List Addr}{h:Heap}{b:Addr}{o:Obj}(hb:b∈fp)(e:h.get? b=some o):(b,o)∈Br fp h:=List.mem_filterMap.mpr ⟨b,hb,by rw [e];rfl⟩
theorem Mw {fp:List Addr}{h:Heap}{p:Addr×Obj}(hp:p∈Br fp h):p.1∈fp/\h.get? p.1=some p.2:=by
 obtain⟨b,hb,e⟩:=List.mem_filterMap.mp hp;cases q:h.get? b with
 | none=>rw [q] at e;cases e
 | some o =>
   rw [q] at e;have e':(b,o)=p:=J9 e;subst e';exact⟨hb,q⟩
theorem Inv.pinned {pins:List (Addr×Obj)}{σ:St}{H:Hp}{s:Shared}{fp:List Addr}(I:Inv X pins σ H s)(hf:∀b∈fp,FpOk X pins H b)(ho:∀b∈fp,∃o,s.heap.get? b=some o/\∀v,o.data≠.cell v):Inv X (pins++Br fp s.heap) σ H s:=
 I.pins_of fun p hp=>(K6.mp hp).elim (fun z=>I.pin p (P6 _ z)) fun z=>by
   obtain⟨hb,e⟩:=Mw z;obtain⟨f0,f1,f2,_⟩:=hf p.1 hb;obtain⟨o,e',d⟩:=ho p.1 hb;rw [e] at e';cases e';exact⟨e,f0,f1,f2,d⟩
theorem Inv.unpinned {pins pl:List (Addr×Obj)}{σ:St}{H:Hp}{s:Shared}(I:Inv X (pins++pl) σ H s):Inv X pins σ H s:=I.pins_of fun p hp=>I.pin p (P6 _ (Z9 _ hp))
theorem ps_for {iter:Expr}{body:List Stmt}{wi:TI}{g:TG}{tb:TS}{pos:Pos}(hp:PassesOwn (model X.prog X.w) X.A X.env X.xe)(hc:X.calm=true)(hi:PI X tg iter wi)(hg:PG X tg g)(hb:PSs X body tb)
   (hs:∀x,V6 iter X.env x=pure x:=by intro _;rfl):PS X (.For tg iter body [] pos) (tFor wi g tb):=by
 intro pins s σ H D I h;refine wpAny_For (thn (hi pins s σ H _ I h) fun v s1 h1=>thn h1 fun itv s2 h2=>?_) hs;obtain⟨it,fp,tn,J,H2,e,I2,T,st2,f2,W,⟨m0,w0⟩,turn⟩:=h2;subst e
 -- what stays true of the iterator's objects through the loop
 have stat:∀{H':Hp},(∀b∈fp,H' b=none)->∀b∈fp,FpOk X pins H' b:=fun hn b hb=>⟨hn b hb,(f2 b hb).2⟩;refine codeAny_forLoop_any (fun n s'=>∃i σ' H',Inv X pins σ' H' s'/\tn i s'.heap/\(∀b∈fp,H' b=none)/\W i n σ' H') ?_ m0 ⟨0,σ,H2,I2,st2,fun b hb=>(f2 b hb).1,w0⟩;rintro n s3 ⟨i,σ3,H3,I3,st3,fr3,w3⟩;rcases turn i n σ3 H3 w3 with⟨stop,qn⟩ | ⟨go,N,hN,step⟩
 · refine y8 hp (thn (T.done X rfl rfl rfl hc i pins s3 σ3 H3 X.xe I3 (stat fr3) st3 stop) fun r s4 ⟨hr,I4⟩=>?_);subst hr;exact Dz ⟨σ3,H3,I4,qn⟩
 · refine y8 hp (thn (T.item X rfl rfl rfl hc i pins s3 σ3 H3 X.xe I3 (stat fr3) st3 go) fun r s4 ⟨u,hr,h4⟩=>?_);subst hr;refine y8 hp (thn h4 fun _ s5 ⟨x,H5,I5,r5,y5,st5,fr5⟩=>?_);have I5':=I5.pinned (stat fr5) (T.obj _ _ st5);refine y8 hp (thn (hg _ s5 σ3 H5 x u _ I5' r5 (step x H5 y5)) fun _ s6 ⟨σ6,H6,I6,q6⟩=>?_);refine y8 hp (thn (hb _ s6 σ6 H6 _ I6 q6) fun f s7 q7=>?_)
   have again:∀{σ7:St} {H7:Hp},Inv X (pins++Br fp s5.heap) σ7 H7 s7->N σ7 H7->∃m,m < n/\∃i σ' H',Inv X pins σ' H' s7/\tn i s7.heap/\(∀b∈fp,H' b=none)/\W i m σ' H':=fun {σ7 H7} I7 n7=>by
     obtain⟨m',hm,w7⟩:=hN σ7 H7 n7;refine⟨m',hm,i + 1,σ7,H7,I7.unpinned,T.keep _ _ _ st5 fun b hb o e=>(I7.pin (b,o) (P6 _ (P6 _ (Gw hb e)))).1,fun b hb=>?_,w7⟩;obtain⟨o,e,d⟩:=T.obj _ _ st5 b hb;exact(I7.pin (b,o) (P6 _ (P6 _ (Gw hb e)))).2.1
   cases f with
   | next=>obtain⟨σ7,H7,I7,n7⟩:=q7;exact again I7 n7
   | cont=>obtain⟨σ7,H7,I7,n7⟩:=q7;exact again I7 n7
   | brk=>obtain⟨σ7,H7,I7,q7⟩:=q7;exact⟨σ7,H7,I7.unpinned,q7⟩
   | ret v=>obtain⟨x7,σ7,H7,I7,r7,q7⟩:=q7;exact⟨x7,σ7,H7,I7.unpinned,r7,q7⟩
end
abbrev R2:=V->V->Hp->VK->Prop
def OpR (X:Cx)(f:Value->Value->Sem Value)(r:R2):Prop:=
 ∀ (pins : List (Addr × Obj)) (s : Shared) (σ : St) (H : Hp) (x y : V) (v u : Value) (Q : VK), Inv X pins σ H s -> RelV x v -> RelV y u -> r x y H Q ->
   wpAny (model X.prog X.w) X.A (f v u) (EP X pins σ Q) X.xe s
def UnR (X:Cx)(f:Value->Sem Value)(r:V->Hp->VK->Prop):Prop:=
 ∀ (pins : List (Addr × Obj)) (s : Shared) (σ : St) (H : Hp) (x : V) (v : Value) (Q : VK), Inv X pins σ H s -> RelV x v -> r x H Q ->
   wpAny (model X.prog X.w) X.A (f v) (EP X pins σ Q) X.xe s
def K1 (X:Cx)(f:Value)(r:List V->Hp->VK->Prop):Prop:=
 ∀ (pins : List (Addr × Obj)) (s : Shared) (σ : St) (H : Hp) (xs : List V) (us : List Value) (Q : VK), Inv X pins σ H s -> Vals xs us -> r xs H Q ->
   wpAny (model X.prog X.w) X.A (call f us) (EP X pins σ Q) X.xe s
def TruR (X:Cx)(r:V->Hp->(Bool->Hp->Prop)->Prop):Prop:=
 ∀ (pins : List (Addr × Obj)) (s : Shared) (σ : St) (H : Hp) (x : V) (v : Value) (Q : Bool -> Hp -> Prop), Inv X pins σ H s -> RelV x v -> r x H Q ->
   wpAny (model X.prog X.w) X.A (truthy v) (TP X pins σ Q) X.xe s
def tOp (r:R2)(ta tb:TE):TE:=fun σ H Q=>ta σ H fun x H1=>tb σ H1 fun y H2=>r x y H2 Q
def tUn (r:V->Hp->VK->Prop)(ta:TE):TE:=fun σ H Q=>ta σ H fun x H1=>r x H1 Q
def rI (C:Int->Int->Prop)(g:Int->Int->V):R2:=fun x y H Q=>∃i j,x=.int i/\y=.int j/\C i j/\Q (g i j) H
def rI0 (g:Int->Int->V):R2:=fun x y H Q=>∃i j,x=.int i/\y=.int j/\Q (g i j) H
def rU (g:Int->V):V->Hp->VK->Prop:=fun x H Q=>∃i,x=.int i/\Q (g i) H
section
variable {X:Cx}{a b c:Expr}{ta tb tc:TE}{pos:Pos}
theorem binT (ha:PE X a ta)(hb:PE X b tb){pins:List (Addr×Obj)}{s:Shared}{σ:St}{H:Hp}{R:V->V->Hp->Prop}(I:Inv X pins σ H s)
   (h:ta σ H fun x H1=>tb σ H1 fun y H2=>R x y H2) {Q:Value->Shared->Prop} {f:Value->Value->Sem Value}
   (hf:∀v u s2 x y H2,Inv X pins σ H2 s2->RelV x v->RelV y u->R x y H2->wpAny (model X.prog X.w) X.A (f v u) Q X.xe s2) :
   wpAny (model X.prog X.w) X.A (eval a X.env) (fun v s₁=>wpAny (model X.prog X.w) X.A (eval b X.env) (fun u s₂=>wpAny (model X.prog X.w) X.A (f v u) Q X.xe s₂) X.xe s₁) X.xe s:=by
 refine thn (ha pins s σ H _ I h) fun v s1 ⟨x,H1,I1,r1,q1⟩=>?_;refine thn (hb pins s1 σ H1 _ I1 q1) fun u s2 ⟨y,H2,I2,r2,q2⟩=>?_;exact hf v u s2 x y H2 I2 r1 r2 q2
theorem M2 {op:Operator}{r:R2}(ho:OpR X (R0 op) r)(ha:PE X a ta)(hb:PE X b tb):PE X (.BinOp a op b pos) (tOp r ta tb):=by
 intro pins s σ H Q I h;exact wpAny_BinOp (binT ha hb I h fun v u s2 x y H2 I2 rx ry q=>ho pins s2 σ H2 x y v u Q I2 rx ry q)
theorem pe_un {op:UnaryOp}{r:V->Hp->VK->Prop}(ho:UnR X (unaryOp op) r)(ha:PE X a ta):PE X (.UnaryOp op a pos) (tUn r ta):=by
 intro pins s σ H Q I h;exact UnaryOp_ (thn (ha pins s σ H _ I h) fun v s1 ⟨x,H1,I1,r1,q1⟩=>ho pins s1 σ H1 x v Q I1 r1 q1)
theorem opI {f:Value->Value->Sem Value}{C:Int->Int->Prop}{g:Int->Int->Int}
   (rule:∀(i j:Int) (t u:Tok) (s:Shared) (Q:Value->Shared->Prop) (E:Value->Shared->Prop),C i j->Q (.int (g i j) s.toks) { s with toks:=s.toks + 1 }->wpAny (model X.prog X.w) X.A (f (.int i t) (.int j u)) Q E s) :
   OpR X f (rI C fun i j=>.int (g i j)):=by
 intro pins s σ H x y v u Q I rx ry h;obtain⟨i,j,rfl,rfl,hc,q⟩:=h;obtain⟨t,rfl⟩:=rx;obtain⟨t',rfl⟩:=ry;exact rule i j t t' s _ _ hc ⟨.int (g i j),H,I.tok _,⟨_,rfl⟩,q⟩
theorem opI0 {f:Value->Value->Sem Value}{g:Int->Int->Int}
   (rule:∀(i j:Int) (t u:Tok) (s:Shared) (Q:Value->Shared->Prop) (E:Value->Shared->Prop),Q (.int (g i j) s.toks) { s with toks:=s.toks + 1 }->wpAny (model X.prog X.w) X.A (f (.int i t) (.int j u)) Q E s) :
   OpR X f (rI0 fun i j=>.int (g i j)):=by
 intro pins s σ H x y v u Q I rx ry h;obtain⟨i,j,rfl,rfl,q⟩:=h;obtain⟨t,rfl⟩:=rx;obtain⟨t',rfl⟩:=ry;exact rule i j t t' s _ _ ⟨.int (g i j),H,I.tok _,⟨_,rfl⟩,q⟩
theorem opB0 {f:Value->Value->Sem Value}{g:Int->Int->Bool}
   (rule:∀(i j:Int) (t u:Tok) (s:Shared) (Q:Value->Shared->Prop) (E:Value->Shared->Prop),Q (.bool (g i j)) s->wpAny (model X.prog X.w) X.A (f (.int i t) (.int j u)) Q E s) :
   OpR X f (rI0 fun i j=>.bl (g i j)):=by
 intro pins s σ H x y v u Q I rx ry h;obtain⟨i,j,rfl,rfl,q⟩:=h;obtain⟨t,rfl⟩:=rx;obtain⟨t',rfl⟩:=ry;exact rule i j t t' s _ _ ⟨.bl (g i j),H,I,rfl,q⟩
def CDiv (i j:Int):Prop:=0 < j/\j < 1073741824
def CPow (i j:Int):Prop:=0<=j/\j<=1000000/\i.natAbs < 2 ^ 64
def CMul (i j:Int):Prop:=(-(2 ^ 64) < i/\i < 2 ^ 64)\/(-(2 ^ 64) < j/\j < 2 ^ 64)
theorem CMul.ok {i j:Int}(h:CMul i j):IntMulOk i j:=by
 rcases h with⟨h1,h2⟩ | ⟨h1,h2⟩
 · exact .of_left (intBits_le_64 h1 h2)
 · exact .of_right (intBits_le_64 h1 h2)
theorem Bs:OpR X (R0 .Add) (rI0 fun i j=>.int (i + j)):=opI0 fun _ _ _ _ _ _ _ q=>add_int q
theorem op_sub:OpR X (R0 .Sub) (rI0 fun i j=>.int (i - j)):=opI0 fun _ _ _ _ _ _ _ q=>sub_int q
theorem Cr:OpR X (R0 .Mult) (rI CMul fun i j=>.int (i * j)):=opI fun _ _ _ _ _ _ _ hc q=>mul_int q hc.ok
theorem Gx:OpR X (R0 .FloorDiv) (rI CDiv fun i j=>.int (i / j)):=opI fun i j _ _ _ _ _ hc q=>by
 have h1:(0:Int) < j:=hc.1;have h2:j < 1073741824:=hc.2;exact floordiv_int (by omega) (by rw [Int.fdiv_eq_ediv_of_nonneg i (by omega)];exact q) (.inl (PyProof.noPylong_small (by omega)))
theorem Au:OpR X (R0 .Mod) (rI (fun _ j=>0 < j) fun i j=>.int (i % j)):=opI fun i j _ _ _ _ _ hc q=>by
 have h1:(0:Int) < j:=hc;exact mod_int' (by omega) (by rw [Int.fmod_eq_emod_of_nonneg i (by omega)];exact q)
theorem Ja:OpR X (R0 .Pow) (rI CPow fun i j=>.int (i ^ j.toNat)):=opI fun _ _ _ _ _ _ _ hc q=>pow_int_small hc.1 hc.2.1 hc.2.2 q
theorem op_shl:OpR X (R0 .LShift) (rI CPow fun i j=>.int (i * 2 ^ j.toNat)):=opI fun _ _ _ _ _ _ _ hc q=>lshift_int_small hc.1 hc.2.1 hc.2.2 q
theorem Mx:OpR X (inplaceOp .Mult) (rI CMul fun i j=>.int (i * j)):=opI fun _ _ _ _ _ _ _ hc q=>imul_int q hc.ok
theorem unI {f:Value->Sem Value}{g:Int->Int}
   (rule:∀(i:Int) (t:Tok) (s:Shared) (Q:Value->Shared->Prop) (E:Value->Shared->Prop),Q (.int (g i) s.toks) { s with toks:=s.toks + 1 }->wpAny (model X.prog X.w) X.A (f (.int i t)) Q E s) :
   UnR X f (rU fun i=>.int (g i)):=by
 intro pins s σ H x v Q I rx h;obtain⟨i,rfl,q⟩:=h;obtain⟨t,rfl⟩:=rx;exact rule i t s _ _ ⟨.int (g i),H,I.tok _,⟨_,rfl⟩,q⟩
theorem Jb:UnR X (unaryOp .USub) (rU fun i=>.int (-i)):=unI fun _ _ _ _ _ q=>neg_int q
end
def scal:V->V->Bool
 | .non,.non=>true | .non,.int _=>true | .int _,.non=>true | .non,.bl _=>true | .bl _,.non=>true | .non,.str _=>true | .str _,.non=>true
 | .int _,.int _=>true | .bl _,.bl _=>true | .str _,.str _=>true | .byt _,.byt _=>true
 | .int _,.str _=>true | .str _,.int _=>true | .bl _,.str _=>true | .str _,.bl _=>true
 | _,_=>false
def rEq:R2:=fun x y H Q=>scal x y=true/\Q (.bl (decide (x=y))) H
theorem My {i j:Int}:decide (V.int i=V.int j)=(i == j):=by
 rw [Ak];simp
theorem dec_bl {i j:Bool}:decide (V.bl i=V.bl j)=(i == j):=by
 rw [Ak];simp
theorem Mz {i j:Str}:decide (V.str i=V.str j)=(i == j):=by
 rw [Ak];simp
theorem MA {i j:Array UInt8}:decide (V.byt i=V.byt j)=(i.toList == j.toList):=by
 rw [Ak];cases i;cases j;simp
section
variable {X:Cx}{a b c:Expr}{ta tb tc:TE}{pos:Pos}
variable {op:CmpOp}{us:List Value}
theorem P0 {pins:List (Addr×Obj)}{σ:St}{H:Hp}{s:Shared}{Q:VK}{k k':Bool}(I:Inv X pins σ H s)(q:Q (.bl k) H)(e:k=k'):EP X pins σ Q (.bool k') s:=by
 subst e;exact⟨.bl k,H,I,rfl,q⟩
theorem op_eq:OpR X (Q1 .Eq) rEq:=by
 intro pins s σ H x y v u Q I rx ry h;obtain⟨hs,q⟩:=h;cases x with
 | non =>
   cases rx;cases y with
   | non=>cases ry;exact PySem.EqNone.eq_none_none (P0 I q (by simp))
   | bl j=>cases ry;exact PySem.EqNone.eq_none_bool (P0 I q (by simp))
   | int j=>obtain⟨t',rfl⟩:=ry;exact PySem.EqNone.eq_none_int (P0 I q (by simp))
   | str j=>obtain⟨t',rfl⟩:=ry;exact PySem.EqNone.eq_none_str (P0 I q (by simp))
   | _=>exact absurd (show false=true from hs) J3
 | bl i =>
   cases rx;cases y with
   | non=>cases ry;exact PySem.EqNone.eq_bool_none (P0 I q (by simp))
   | bl j=>cases ry;exact eq_bool (P0 I q dec_bl)
   | str j=>obtain⟨t',rfl⟩:=ry;exact PySem.EqMixed.eq_bool_str (P0 I q (by simp))
   | _=>exact absurd (show false=true from hs) J3
 | int i =>
   obtain⟨t,rfl⟩:=rx;cases y with
   | non=>cases ry;exact PySem.EqNone.eq_int_none (P0 I q (by simp))
   | int j=>obtain⟨t',rfl⟩:=ry;exact eq_int (P0 I q My)
   | str j=>obtain⟨t',rfl⟩:=ry;exact PySem.EqMixed.eq_int_str (P0 I q (by simp))
   | _=>exact absurd (show false=true from hs) J3
 | str i =>
   obtain⟨t,rfl⟩:=rx;cases y with
   | non=>cases ry;exact PySem.EqNone.eq_str_none (P0 I q (by simp))
   | bl j=>cases ry;exact PySem.EqMixed.eq_str_bool (P0 I q (by simp))
   | int j=>obtain⟨t',rfl⟩:=ry;exact PySem.EqMixed.eq_str_int (P0 I q (by simp))
   | str j=>obtain⟨t',rfl⟩:=ry;exact eq_str (P0 I q Mz)
   | _=>exact absurd (show false=true from hs) J3
 | byt i =>
   obtain⟨t,rfl⟩:=rx;cases y with
   | byt j=>obtain⟨t',rfl⟩:=ry;exact PySem.W.eq_bytes (P0 I q MA)
   | _=>exact absurd (show false=true from hs) J3
 | _=>cases y <;> exact absurd (show false=true from hs) J3
theorem op_lt:OpR X (Q1 .Lt) (rI0 fun i j=>.bl (decide (i < j))):=opB0 fun _ _ _ _ _ _ _ q=>lt_int q
theorem op_gt:OpR X (Q1 .Gt) (rI0 fun i j=>.bl (decide (j < i))):=opB0 fun _ _ _ _ _ _ _ q=>gt_int q
theorem op_ge:OpR X (Q1 .GtE) (rI0 fun i j=>.bl (decide (j<=i))):=opB0 fun _ _ _ _ _ _ _ q=>ge_int q
theorem MB:OpR X (Q1 .Lt) (fun x y H Q=>∃i j,x=.str i/\y=.str j/\Q (.bl (decide (i.cps.toList < j.cps.toList))) H):=by
 intro pins s σ H x y v u Q I rx ry h;obtain⟨i,j,rfl,rfl,q⟩:=h;obtain⟨t,rfl⟩:=rx;obtain⟨t',rfl⟩:=ry;exact lt_str (P0 I q rfl)
theorem MC:OpR X (Q1 .In) (fun x y H Q=>∃i j,x=.str i/\y=.str j/\Q (.bl (!(Bd j i 0 j.length 1).isEmpty)) H):=by
 intro pins s σ H x y v u Q I rx ry h;obtain⟨i,j,rfl,rfl,q⟩:=h;obtain⟨t,rfl⟩:=rx;obtain⟨t',rfl⟩:=ry;exact in_str (P0 I q rfl)
theorem OpR.or {f:Value->Value->Sem Value}{r r':R2}(h:OpR X f r)(h':OpR X f r'):OpR X f (fun x y H Q=>r x y H Q\/r' x y H Q):=by
 intro pins s σ H x y v u Q I rx ry q;rcases q with q | q
 · exact h pins s σ H x y v u Q I rx ry q
 · exact h' pins s σ H x y v u Q I rx ry q
theorem G9 (b:Expr)(h:op≠.In:=by decide)(h2:op≠.NotIn:=by decide):y9 op b=false:=by
 have e1:(op == CmpOp.In)=false:=by cases op <;> first | rfl | exact absurd rfl h
 have e2:(op == CmpOp.NotIn)=false:=by cases op <;> first | rfl | exact absurd rfl h2
 cases b <;> simp [y9,e1,e2]
theorem Jc {r:R2}(ho:OpR X (Q1 op) r)(ha:PE X a ta)(hb:PE X b tb)(hm:y9 op b=false):PE X (.Compare a [op] [b] pos) (tOp r ta tb):=by
 intro pins s σ H Q I h;exact wpAny_Compare1 (binT ha hb I h fun v u s2 x y H2 I2 rx ry q=>ho pins s2 σ H2 x y v u Q I2 rx ry q) hm
def tTest (t:TE):TT:=fun σ H Q=>t σ H fun x H'=>∃k,x=.bl k/\Q k H'
theorem Cs {r:R2}(ho:OpR X (Q1 op) r)(ha:PE X a ta)(hb:PE X b tb)(hm:y9 op b=false):PT X (.Compare a [op] [b] pos) (tTest (tOp r ta tb)):=by
 intro pins s σ H Q I h
 refine wpAny_isTrue_Compare1 (thn (ha pins s σ H _ I h) fun v s1 ⟨x,H1,I1,r1,q1⟩=>thn (hb pins s1 σ H1 _ I1 q1) fun u s2 ⟨y,H2,I2,r2,q2⟩=>
   thn (ho pins s2 σ H2 x y v u _ I2 r1 r2 q2) fun c s3 ⟨z,H3,I3,r3,k,e,q3⟩=>?_) hm
 subst e;cases r3;exact wpAny_truthy_bool ⟨H3,I3,q3⟩
def TruV (K:A5)(x:V)(H:Hp)(k:Bool):Prop:=
 match x with
 | .non=>k=false
 | .bl b=>k=b
 | .int i=>k=(i != 0)
 | .str y=>y.length<=B0/\k=((y.length:Int) != 0)
 | .byt y=>y.size<=B0/\k=((y.size:Int) != 0)
 | .ref p=>(∃xs,SqL K H p xs/\k=!xs.isEmpty)\/(∃xs,SqT K H p xs/\k=!xs.isEmpty)\/∃kvs,H p=some (.dK kvs)/\k=!kvs.isEmpty
 | _=>False
theorem MD {κ:Type}{kvs:List (κ×V)}{vs:List (κ×Value)}(r:KV kvs vs):(!vs.isEmpty)=!kvs.isEmpty:=by
 cases r <;> rfl
theorem Jd {xs:List V}{its:List Value}(r:Vals xs its):(!its.toArray.isEmpty)=!xs.isEmpty:=by
 cases r <;> simp
theorem Av:(B0:Nat) < 2 ^ 63:=by rw [M7];decide
theorem Je:TruR X (fun x H Q=>∃k,TruV X.K x H k/\Q k H):=by
 intro pins s σ H x v Q I rx h;obtain⟨k,e,q⟩:=h;have hl:=Av;have hs:B0=16777216:=M7;cases x with
 | non =>
   cases rx;have e':k=false:=e;subst e';exact truthy_none ⟨H,I,q⟩
 | bl b =>
   cases rx;have e':k=b:=e;subst e';exact wpAny_truthy_bool ⟨H,I,q⟩
 | int i =>
   obtain⟨t,rfl⟩:=rx;have e':k=(i != 0):=e;subst e';exact PySem.P.truthy_int ⟨H,I,q⟩
 | str y =>
   obtain⟨t,rfl⟩:=rx;obtain⟨hy,e'⟩:y.length<=B0/\k=((y.length:Int) != 0):=e;subst e';exact PySem.P.truthy_str (by omega) ⟨H,I.tok _,q⟩
 | byt y =>
   obtain⟨t,rfl⟩:=rx;obtain⟨hy,e'⟩:y.size<=B0/\k=((y.size:Int) != 0):=e;subst e';exact PySem.W.truthy_bytes (by omega) ⟨H,I.tok _,q⟩
 | ref p =>
   cases rx;have e':(∃xs,SqL X.K H p xs/\k=!xs.isEmpty)\/(∃xs,SqT X.K H p xs/\k=!xs.isEmpty)\/∃kvs,H p=some (.dK kvs)/\k=!kvs.isEmpty:=e;rcases e' with⟨xs,hx,e'⟩ | ⟨xs,hx,e'⟩ | ⟨kvs,hx,e'⟩
   · subst e';obtain⟨its,r,pl,hz⟩:=I.list hx;have hlen:=r.length;exact wpAny_truthy_list pl.isList (by simp only [D8];omega) ⟨H,I.tok _,by rw [Jd r];exact q⟩
   · subst e';obtain⟨its,r,pl,hz⟩:=I.tuple hx;have hlen:=r.length;exact truthy_tuple pl (by simp only [D8];omega) ⟨H,I.tok _,by rw [Jd r];exact q⟩
   · subst e';obtain⟨hz,hS,vs,r,m⟩:kvs.length<=B0/\(p == L9)=false/\∃vs,KV kvs vs/\s.heap.DictOf (E8 X.prog X.w) p vs:=I.hok p _ hx;have hlen:kvs.length=vs.length:=Bj r;exact wpAny_truthy_dict hS m (by omega) ⟨H,I.tok _,by rw [MD r];exact q⟩
 | _=>exact(show False from e).elim
theorem ME (ha:PE X a ta)(he:∀whole,isTrue a X.env whole=(do let v ← whole;Z6 a.pos;R1 [v] (truthy v))) :
   PT X a (fun σ H Q=>ta σ H fun x H'=>∃k,TruV X.K x H' k/\Q k H'):=by
 intro pins s σ H Q I h;exact isTrue_plain (thn (ha pins s σ H _ I h) fun v s1 ⟨x,H1,I1,r1,q1⟩=>Je pins s1 σ H1 x v Q I1 r1 q1) (he _)
theorem MF:OpR X (R0 .Add) (fun x y H Q=>∃i j,x=.str i/\y=.str j/\i.length + j.length<=B0/\Q (.str (i++j)) H):=by
 intro pins s σ H x y v u Q I rx ry h;obtain⟨i,j,rfl,rfl,hz,q⟩:=h;obtain⟨t,rfl⟩:=rx;obtain⟨t',rfl⟩:=ry;exact add_str (fun t' tk=>⟨.str (i++j),H,I.tok _,⟨_,rfl⟩,q⟩) hz
theorem k6 {x:V}(r:Vals [x] us):∃u,us=[u]/\RelV x u:=by
 cases r with
 | cons r1 r2=>cases r2;exact⟨_,rfl,r1⟩
theorem vals2 {x y:V}(r:Vals [x,y] us):∃u w',us=[u,w']/\RelV x u/\RelV y w':=by
 cases r with
 | cons r1 r2 =>
   cases r2 with
   | cons r3 r4=>cases r4;exact⟨_,_,rfl,r1,r3⟩
theorem MG (hc:X.calm=true):K1 X (.builtin "min") (fun xs H Q=>∃i j,xs=[.int i,.int j]/\Q (.int (if j < i then j else i)) H):=by
 intro pins s σ H xs us Q I r h;obtain⟨i,j,rfl,q⟩:=h;obtain⟨u,w',rfl,⟨t,rfl⟩,⟨t',rfl⟩⟩:=vals2 r;refine min_two_ints (I.ok.hd hc) fun h' tk k=>⟨_,H,I.kept k,?_,q⟩
 by_cases hj:j < i
 · rw [if_pos hj,if_pos hj];exact⟨_,rfl⟩
 · rw [if_neg hj,if_neg hj];exact⟨_,rfl⟩
theorem MH:K1 X (.type "int") (fun xs H Q=>(∃i,xs=[.int i]/\Q (.int i) H)\/∃k,xs=[.bl k]/\Q (.int (if k then 1 else 0)) H):=by
 intro pins s σ H xs us Q I r h;rcases h with⟨i,rfl,q⟩ | ⟨k,rfl,q⟩
 · obtain⟨u,rfl,t,rfl⟩:=k6 r;exact call_int_int ⟨.int i,H,I,⟨_,rfl⟩,q⟩
 · obtain⟨u,rfl,r1⟩:=k6 r;cases r1;exact call_int_bool ⟨.int (if k then 1 else 0),H,I.tok _,⟨_,rfl⟩,q⟩
end
theorem RelO.some_of {v:V}{o:Option Value}(r:RelO (some v) o):∃u,o=some u/\RelV v u:=by
 cases o with
 | none=>exact(show False from r).elim
 | some u=>exact⟨u,rfl,r⟩
structure Room (k:Nat)(A:Around):Prop where
 hd:A.handled=none
 dp:A.depth + 3 * k + 5 < recursionLimit
 un:A.units + 16 * k + 200 < cLine
 gd:A.guards=some []
theorem Room.mono {j k:Nat}{A:Around}(r:Room k A)(h:j<=k):Room j A:=⟨r.hd,by have:=r.dp;omega,by have:=r.un;omega,r.gd⟩
theorem Room.deeper {k:Nat}{A:Around}(r:Room (k + 1) A)(env:Env):Room k (A.deeper env):=
 ⟨r.hd,by have:=r.dp;show A.depth + 1 + 3 * k + 5 < _;omega,by have:=r.un;show A.units + 3 + 16 * k + 200 < _;omega,r.gd⟩
theorem Room.depth {k:Nat}{A:Around}(r:Room k A):A.depth < recursionLimit:=by have:=r.dp;omega
theorem Room.units {k:Nat}{A:Around}(r:Room k A):A.units + 64 < cLine:=by have:=r.un;omega
def tNil:TA:=fun _ H Q=>Q [] H
def Y6 (ta:TE)(tr:TA):TA:=fun σ H Q=>ta σ H fun x H1=>tr σ H1 fun xs H2=>Q (x::xs) H2
section
variable {X:Cx}{e:Expr}{es:List Expr}{te:TE}{t:TA}{pos:Pos}
theorem J1:PA X [] tNil:=fun _ _ _ _ H Q I h=>Calls.spliced_nil ⟨[],H,I,.nil,h⟩
theorem F6 (ha:PE X e te)(hr:PA X es t)(hs:E4 (e::es) X.env=(false,eval e X.env)::E4 es X.env:=by rfl):PA X (e::es) (Y6 te t):=by
 intro pos pins s σ H Q I h;rw [hs];show wpAny _ _ (spliced ((false,eval e X.env)::backTo pos (E4 es X.env))) _ _ s;refine Calls.spliced_cons (thn (ha pins s σ H _ I h) fun u s1 ⟨x,H1,I1,r1,q1⟩=>?_);exact thn (hr pos pins s1 σ H1 _ I1 q1) fun us s2 ⟨xs,H2,I2,r2,q2⟩=>⟨x::xs,H2,I2,.cons r1 r2,q2⟩
def tTup (t:TA):TE:=fun σ H Q=>t σ H fun xs H1=>xs.length<=B0/\∀p,H1 p=none->Q (.ref p) (upd H1 p (.tup xs))
def tLst (t:TA):TE:=fun σ H Q=>t σ H fun xs H1=>xs.length<=B0/\∀p,H1 p=none->Q (.ref p) (upd H1 p (.lst xs))
theorem Gy {x1}(h:PA X es t):PE X (.Tuple es x1 pos) (tTup t):=by
 intro pins s σ H Q I hq;refine wpAny_Tuple_spliced (thn (h pos pins s σ H _ I hq) fun us s1 ⟨xs,H1,I1,r,z,q⟩=>⟨by rw [<- r.length];exact z,?_⟩);have hf:H1 s1.heap.objs.size=none:=I1.hok.fresh (A9 _);refine⟨.ref s1.heap.objs.size,upd H1 s1.heap.objs.size (.tup xs),I1.laid (t':=s1.toks) (fun b u e=>B6 _ e) (A9 _) ?_,rfl,q _ hf⟩;exact⟨z,us,r,⟨_,E1 _ rfl,rfl,_,rfl⟩⟩
theorem pe_lst (h:PA X es t):PE X (.List es pos) (tLst t):=by
 intro pins s σ H Q I hq;refine wpAny_List_spliced (thn (h pos pins s σ H _ I hq) fun us s1 ⟨xs,H1,I1,r,z,q⟩=>⟨by rw [<- r.length];exact z,?_⟩);have hf:H1 s1.heap.objs.size=none:=I1.hok.fresh (A9 _);refine⟨.ref s1.heap.objs.size,upd H1 s1.heap.objs.size (.lst xs),I1.laid (t':=s1.toks) (fun b u e=>B6 _ e) (A9 _) ?_,rfl,q _ hf⟩;exact⟨z,us,0,r,E1 _ rfl⟩
end
abbrev Sp:=List V->Hp->VK->XK->Prop
abbrev CXT:=List Env->Hp->Shared->XK->Value->Shared->Prop
structure Env0 (P:B2)(w:World)(K:A5)(mg:Str->Option Value)(base:Heap)(A:Around)(outer:List Env)(s:Shared)(H:Hp):Prop where
 frames:A.frames=some outer
 mod:Mod K mg base
 bs:∀b o,base.get? b=some o->s.heap.get? b=some o/\H b=none
 bsz:base.objs.size<=s.heap.objs.size
 funs:s.heap.FunFrames base outer
 frf:∀b∈frs outer,H b=none
 hok:HOk P w H s.heap
 bare:AllBare s.gens
 nos:NS H
def CE (outer:List Env)(P:B2)(w:World)(H:Hp)(s:Shared)(Q:VK)(u:Value)(s':Shared):Prop:=
 ∃v H',s'.os=s.os/\AllBare s'.gens/\Un (frs outer) [] H H' s.heap s'.heap/\HOk P w H' s'.heap/\RelV v u/\Q v H'
def CR (CX:CXT)(outer:List Env)(P:B2)(w:World)(H:Hp)(s:Shared)(Q:VK)(E:XK)(r:Result)(s':Shared):Prop:=
 match r with
 | .ok (.ret u)=>CE outer P w H s Q u s'
 | .ok _=>False
 | .error e=>CX outer H s E e s'
structure FnOk (P:B2)(w:World)(K:A5)(mg:Str->Option Value)(base:Heap)(CX:CXT)(k:Nat)(f:Addr)(fd:W0)(ps:List Str)(sp:Sp):Prop where
 len:∀vs H Q E,sp vs H Q E->vs.length=ps.length
 run:∀(A:Around) (outer:List Env) (s:Shared) (H:Hp) (args:Args) (us:List Value) (vs:List V) (Q:VK) (E:XK),Room k A->Env0 P w K mg base A outer s H->BindsTo s fd args (ps.zip us)->Vals vs us->sp vs H Q E->
   K3 (model P w) A (.call (.ref f) args) (CR CX outer P w H s Q E) s
theorem FnOk.imp {P:B2}{w:World}{K:A5}{mg:Str->Option Value}{base:Heap}{CX:CXT}{k:Nat}{f:Addr}{fd:W0}{ps:List Str}{sp sp':Sp}(F:FnOk P w K mg base CX k f fd ps sp)
   (h:∀vs H Q E,sp' vs H Q E->sp vs H Q E):FnOk P w K mg base CX k f fd ps sp':=
 ⟨fun vs H Q E q=>F.len vs H Q E (h _ _ _ _ q),fun A outer s H args us vs Q E hr he hb hv hs=>F.run A outer s H args us vs Q E hr he hb hv (h _ _ _ _ hs)⟩
section
variable {X:Cx}{pins:List (Addr×Obj)}{σ:St}{H:Hp}{s s':Shared}
theorem Inv.env0 (I:Inv X pins σ H s):Env0 X.prog X.w X.K X.mg X.base X.A X.stack s H:=
 ⟨I.ok.frames,I.ok.mod,I.bs,L4 I.ok.bsz I.sz,I.stack,I.stkFree,I.hok,I.bare,I.nos⟩
theorem Inv.after {Q:VK}{u:Value}(I:Inv X pins σ H s)(h:CE X.stack X.prog X.w H s Q u s'):EP X pins σ Q u s':=by
 obtain⟨v,H',os,bare,un,hok,r,q⟩:=h;obtain⟨hh,g,d,t,os'⟩:=s';obtain rfl:os'=s.os:=os;exact⟨v,H',I.call (h':=hh) (g':=g) (d':=d) (t':=t) (ch:=[]) un hok bare (fun b z=>absurd z (by simp)),r,q⟩
end
def tCall (sp:Sp)(dvs:List V)(E:XK)(t:TA):TE:=fun σ H Q=>t σ H fun vs H1=>sp (vs++dvs) H1 Q E
def Bt (K:A5)(fd:W0)(ps:List Str)(ds:List Value):Prop:=
 ∀(s:Shared) (us:List Value),K.In s.heap->(us++ds).length=ps.length->BindsTo s fd ⟨us,[]⟩ (ps.zip (us++ds))
theorem Bt.all {K:A5}{fd:W0}{ps:List Str}(h:∀us:List Value,us.length=ps.length->bindArgs fd ⟨us,[]⟩=pure (ps.zip us)):Bt K fd ps []:=fun s us _ hl=>by
 rw [W6] at hl ⊢;exact .of_eq (h us hl)
def Gz (CX:CXT)(X:Cx)(E:XK):Prop:=∀(pins:List (Addr×Obj)) (σ:St) (H:Hp) (s:Shared) (e:Value) (s':Shared),Inv X pins σ H s->CX X.stack H s E e s'->X.xe e s'
section
variable {X:Cx}{CX:CXT}{k:Nat}{f C:Addr}{fd:W0}{ps:List Str}{sp:Sp}{dvs:List V}{ds:List Value}{E:XK}{x m:Str}{p pos apos:Pos}{e o:Expr}{es:List Expr}{ta:TE}{t:TA}
theorem run_fn {pins:List (Addr×Obj)}{σ:St}{H:Hp}{s:Shared}{Q:VK}{us:List Value}{vs:List V}(F:FnOk X.prog X.w X.K X.mg X.base CX k f fd ps sp)(hr:Room k X.A)(hb:Bt X.K fd ps ds)(hd:Vals dvs ds)(hx:Gz CX X E)
   (I:Inv X pins σ H s) (r:Vals vs us) (h:sp (vs++dvs) H Q E):wpAny (model X.prog X.w) X.A (call (.ref f) us) (EP X pins σ Q) X.xe s:=by
 have r2:Vals (vs++dvs) (us++ds):=r.append hd;have hl:(us++ds).length=ps.length:=by rw [<- r2.length];exact F.len _ _ _ _ h
 refine wpAny_call (p7 (F.run X.A X.stack s H ⟨us,[]⟩ (us++ds) (vs++dvs) Q E hr I.env0 (hb s us I.kIn hl) r2 h) fun r s' hq=>?_);cases r with
 | error e=>exact hx pins σ H s e s' I hq
 | ok fl =>
   cases fl with
   | ret u=>exact I.after hq
   | next=>exact c8 hq
   | brk=>exact c8 hq
   | cont=>exact c8 hq
theorem MI (F:FnOk X.prog X.w X.K X.mg X.base CX k f fd ps sp)(hr:Room k X.A)(hg:Gl X x)(hm:X.mg x=some (.ref f))(hk:BV X.K (.ref f)=true)(hb:Bt X.K fd ps ds)(hd:Vals dvs ds)(hx:Gz CX X E)
   (ha:PA X (e::es) t) (hdb:(x == ("__debug__":Str))=false:=by decide) (he:E4 (e::es) X.env=(false,eval e X.env)::E4 es X.env:=by rfl) (hpl:(backTo pos (E4 es X.env)).any (·.1)=false:=by rfl) :
   PE X (.Call (.Name x p) (e::es) [] pos) (tCall sp dvs E t):=by
 intro pins s σ H Q I h;refine wpAny_Call_Name_kw (Ml I hg hm ?_ hdb);refine PySem.W.callWith_K (h₀:=X.base) I.ok.mod.kin hk (thn (ha pos pins s σ H _ I h) fun us s1 ⟨vs,H1,I1,r,q⟩=>⟨I1.kIn,?_⟩) he hpl;exact run_fn F hr hb hd hx I1 r q
end
def PK (X:Cx)(kws:List X5)(t:TA):Prop:=
 ∀(pos:Pos) (pins:List (Addr×Obj)) (s:Shared) (σ:St) (H:Hp) (Q:List V->Hp->Prop),Inv X pins σ H s->t σ H Q->wpAny (model X.prog X.w) X.A (evalAll ((backToKw pos (AR kws X.env)).map (·.2))) (AP X pins σ Q) X.xe s
structure D6 (N P:List Str)(sc:Scope):Prop where
 kind:sc.kind=.function
 co:sc.isCoroutine=false
 gen:sc.isGenerator=false
 nd:N.Nodup
 pre:N.take P.length=P
 par:∀x∈P,sc.names.lookup x=some .local\/sc.names.lookup x=some .cell
 nofree:∀y∈sc.names,y.2≠.free
theorem Jf {kindOf:Str->Option NameKind}{x:Str}:∀{binds:List (Str×Value)} {m:Str->Option Value},(∀v,(x,v)∉binds)->bindL kindOf binds m x=m x
 | [],_,_=>rfl
 | (n, v) :: r, m, h => by
   unfold bindL;rw [Jf fun w hw=>h w (B5 _ hw)]
   split
   · have:x≠n:=by rintro rfl;exact h v B8
     simp [this]
   · rfl
theorem Jg {kindOf:Str->Option NameKind}{x:Str}:∀{binds:List (Str×Value)} {m:Str->Option Value},(∀v,(x,v)∉binds)->bindC kindOf binds m x=m x
 | [],_,_=>rfl
 | (n, v) :: r, m, h => by
   unfold bindC;rw [Jg fun w hw=>h w (B5 _ hw)]
   split
   · rfl
   · have:x≠n:=by rintro rfl;exact h v B8
     simp [this]
theorem Jh {kindOf:Str->Option NameKind}{x:Str}{v:Value}:∀{P:List Str} {vs:List Value} {i:Nat} {m:Str->Option Value},P.Nodup->P[i]?=some x->vs[i]?=some v->kindOf x=some .local->
   bindL kindOf (P.zip vs) m x=some v
 | [],_,_,_,_,h,_,_=>by simp at h
 | _::_,[],_,_,_,_,h,_=>by simp at h
 | p :: P, w :: vs, 0, m, nd, h1, h2, hk => by
   simp at h1 h2;subst h1;subst h2;show bindL kindOf ((p,w)::P.zip vs) m p=_;unfold bindL;rw [Jf fun v hv=>(O8.mp nd).1 (List.of_mem_zip hv).1,if_pos hk];simp
 | p :: P, w :: vs, i + 1, m, nd, h1, h2, hk => by
   show bindL kindOf ((p,w)::P.zip vs) m x=_;unfold bindL;exact Jh (i:=i) (O8.mp nd).2 (by simpa using h1) (by simpa using h2) hk
theorem Ji {kindOf:Str->Option NameKind}{x:Str}{v:Value}:∀{P:List Str} {vs:List Value} {i:Nat} {m:Str->Option Value},P.Nodup->P[i]?=some x->vs[i]?=some v->kindOf x≠some .local->
   bindC kindOf (P.zip vs) m x=some v
 | [],_,_,_,_,h,_,_=>by simp at h
 | _::_,[],_,_,_,_,h,_=>by simp at h
 | p :: P, w :: vs, 0, m, nd, h1, h2, hk => by
   simp at h1 h2;subst h1;subst h2;show bindC kindOf ((p,w)::P.zip vs) m p=_;unfold bindC;rw [Jg fun v hv=>(O8.mp nd).1 (List.of_mem_zip hv).1,if_neg hk];simp
 | p :: P, w :: vs, i + 1, m, nd, h1, h2, hk => by
   show bindC kindOf ((p,w)::P.zip vs) m x=_;unfold bindC;exact Ji (i:=i) (O8.mp nd).2 (by simpa using h1) (by simpa using h2) hk
def start (N:List Str)(vs:List V):St:=vs.map some++List.replicate (N.length - vs.length) none
def cxOf (CX:CXT)(P:B2)(w:World)(K:A5)(mg:Str->Option Value)(base:Heap)(N:List Str)(qual:Str)(scope:Scope)(f:Addr)(cd:Value)(A:Around)(outer:List Env)(s:Shared)(H:Hp)(E:XK):Cx where
 prog:=P
 w:=w
 K:=K
 mg:=mg
 base:=base
 A:=A.deeper (envOfC qual scope s.heap.objs.size f cd)
 N:=N
 s₀:=s
 H₀:=H
 env:=envOfC qual scope s.heap.objs.size f cd
 outer:=outer
 stack:=envOfC qual scope s.heap.objs.size f cd::outer
 ex:=[]
 calm:=true
 fn:=fun _=>true
 pn:=[]
 xe:=fun e s'=>wpAny (model P w) (A.deeper (envOfC qual scope s.heap.objs.size f cd)) (leaving (envOfC qual scope s.heap.objs.size f cd) e) (fun _ s''=>CX outer H s E e s'') (fun e' s''=>CX outer H s E e' s'') s'
theorem Jj {sc:Scope}{n:Nat}{x:Str}(h:sc.names.lookup x=some .cell):∃c,(cellsFrom n sc.names []).lookup x=some c:=by
 have q:=PySem.W.cellsFrom_some sc.names n [] (.inl h);exact Ef.mp q
theorem MJ {CX:CXT}{P:B2}{w:World}{K:A5}{mg:Str->Option Value}{base:Heap}{N ps:List Str}{qual:Str}{scope:Scope}{f:Addr}{cd:Value}{A:Around}{outer:List Env}{s s1:Shared}{H:Hp}{E:XK}{us:List Value}{vs:List V}
   (S:D6 N ps scope) (hd:A.handled=none) (e0:Env0 P w K mg base A outer s H) (hl:vs.length=ps.length) (r:Vals vs us)
   (x:InCallC s s.heap.objs.size (bindL (envOfC qual scope s.heap.objs.size f cd).kindOf (ps.zip us) fun _=>none) (cellsFrom (s.heap.objs.size + 1) scope.names []) (bindC (envOfC qual scope s.heap.objs.size f cd).kindOf (ps.zip us) fun _=>none) s1) :
   Inv (cxOf CX P w K mg base N qual scope f cd A outer s H E) [] (start N vs) H s1:=by
 have hpl:ps.length<=N.length:=by have:=congrArg List.length S.pre;rw [L0] at this;omega
 obtain⟨h1,tk,rfl,hk⟩:=x.done;have noA:∀b:Addr,b∉(cxOf CX P w K mg base N qual scope f cd A outer s H E).ex:=fun b z=>absurd (show b∈([]:List Addr) from z) (by simp)
 refine⟨⟨e0.mod,S.kind,rfl,rfl,A9 _,fun y z c h1 h2=>?_,fun y hy=>?_,fun y c _ h=>?_,fun _=>hd,Around.frames_deeper e0.frames,.inr ⟨rfl,rfl⟩,fun b z=>absurd z (noA b),e0.bs,e0.bsz,fun b _ _=>noA b,fun b z=>absurd z (noA b),e0.funs,e0.frf,e0.nos⟩,
   rfl,e0.bare,Un.kept hk,⟨_,x.toInCall.ns,fun i y v h1 h2 h3=>?_⟩,fun y c h=>⟨_,x.cell y c h⟩,e0.hok.fresh (A9 _),fun y c h=>?_,fun p hp=>absurd (show p∈([]:List (Addr×Obj)) from hp) (by simp),e0.hok.kept hk,?_⟩
 · exact name_of_addr x.apart (y7 h1) (y7 h2)
 · have hy:scope.names.lookup y=some .cell\/scope.names.lookup y=some .free:=hy;rcases hy with hy | hy
   · exact Jj hy
   · exact absurd rfl (S.nofree _ (y7 hy))
 · exact b8 (x.above y c (y7 h))
 · have hi:i < vs.length:=by
     unfold start at h2
     by_cases hi:i < vs.length
     · exact hi
     · rw [P5 (by simpa using hi)] at h2;rw [FY] at h2
       split at h2 <;> cases h2
   have ha:vs[i]?=some v:=by
     unfold start at h2;rw [U2 (by simpa using hi),D5] at h2;cases e:vs[i]? with
     | none=>rw [e] at h2;cases h2
     | some a=>rw [e] at h2;cases h2;rfl
   obtain⟨u,hu,rv⟩:=r.get ha
   have hp:ps[i]?=some y:=by
     rw [<- S.pre,List.getElem?_take_of_lt (by omega)];exact h1
   have ndP:ps.Nodup:=by rw [<- S.pre];exact S.nd.sublist (List.take_sublist _ _)
   refine⟨u,rv,?_⟩;rcases S.par y (G8 hp) with k | k
   · exact .inl ⟨k,Jh ndP hp hu k⟩
   · obtain⟨c,e⟩:=Jj (n:=s.heap.objs.size + 1) k;refine .inr ⟨.inl k,c,e,?_⟩;have q:=x.cell y c e;rw [Ji ndP hp hu (by show scope.names.lookup y≠_;rw [k];decide)] at q;exact q
 · exact e0.hok.fresh (b8 (x.above y c (y7 h)))
 · unfold start;show _=N.length;rw [E2,A7,List.length_replicate];omega
theorem fn_of {CX:CXT}{P:B2}{w:World}{K:A5}{mg:Str->Option Value}{base:Heap}{k:Nat}{f:Addr}{name qual:Str}{params:Arguments}{body:List Stmt}{scope:Scope}{dV kV doc pm cdv ct oc:Value}{an od:Option Addr}
   {osl:Array (Option Value)} {N ps:List Str} {sp:Sp} (lk:K.lookup f=some ⟨oc,od,.func (X6 name qual params body scope dV kV doc pm an cdv ct),osl⟩) (hcd:DC K cdv qual=true) (S:D6 N ps scope)
   (len:∀vs H Q E,sp vs H Q E->vs.length=ps.length)
   (hbody:∀(A:Around) (outer:List Env) (s:Shared) (H:Hp) (vs:List V) (Q:VK) (E:XK),Room k (A.deeper (envOfC qual scope s.heap.objs.size f cdv))->sp vs H Q E->
     ∃t,PSs (cxOf CX P w K mg base N qual scope f cdv A outer s H E) body t/\t { nx:=fun _ H'=>Q .non H',rt:=Q } (start N vs) H) :
   FnOk P w K mg base CX (k + 1) f (X6 name qual params body scope dV kV doc pm an cdv ct) ps sp:=by
 refine⟨len,fun A outer s H args us vs Q E hr e0 hb r hsp=>?_⟩;have hl:=len _ _ _ _ hsp;have KX:K.In s.heap:=e0.mod.kin.keeps fun b o e=>(e0.bs b o e).1;have lim:s.heap.NoLimit:=e0.mod.nolimit.keeps fun b o e=>(e0.bs b o e).1
 have hkind:∀y∈ps.zip us,scope.names.lookup y.1=some .local\/(scope.names.lookup y.1=some .cell/\((cellsFrom (s.heap.objs.size + 1) scope.names []).lookup y.1).isSome=true):=fun⟨n,v⟩ hy=>by
   rcases S.par n (List.of_mem_zip hy).1 with q | q
   · exact .inl q
   · exact .inr ⟨q,PySem.W.cellsFrom_some _ _ _ (.inl q)⟩
 refine codeAny_call_function hr.depth (KX _ _ lk) rfl S.co S.gen rfl (PySem.W.codeRec_of KX hcd) (hb _ _ _ _ ?_);refine wpAny_newFunctionEnv_cells S.kind hkind fun env he s1 x=>?_;subst he;refine⟨lim.keeps x.toInCall.keep,codeAny_func ?_⟩;obtain⟨t,ht,hq⟩:=hbody A outer s H vs Q E (hr.deeper _) hsp;have I:Inv (cxOf CX P w K mg base N qual scope f cdv A outer s H E) [] (start N vs) H s1:=MJ S hr.hd e0 hl r x;refine F9 (ht [] s1 (start N vs) H _ I hq) (fun fl s' hs=>?_) fun e s' hs=>hs
 have fin:∀{σ':St} {H':Hp} {v:V} {u:Value},Inv (cxOf CX P w K mg base N qual scope f cdv A outer s H E) [] σ' H' s'->RelV v u->Q v H'->CE outer P w H s Q u s':=
   fun {σ' H' v u} J rv q=>⟨v,H',J.os,J.bare,J.base,J.hok,rv,q⟩
 cases fl with
 | ret u =>
   obtain⟨v,σ',H',J,rv,q⟩:=hs;exact fin J rv q
 | next =>
   obtain⟨σ',H',J,q⟩:=hs;exact fin (v:=V.non) (u:=N4) J rfl q
 | brk =>
   obtain⟨_,_,_,q⟩:=hs;exact c8 q
 | cont =>
   obtain⟨_,_,_,q⟩:=hs;exact c8 q
section
variable {X:Cx}{x:Str}{p pos:Pos}{e:Expr}{es:List Expr}{t:TA}{id T:String}{r:List V->Hp->VK->Prop}
def tCB (r:List V->Hp->VK->Prop)(t:TA):TE:=fun σ H Q=>t σ H fun vs H1=>r vs H1 Q
theorem v3 (hc:K1 X (.builtin id) r)(hg:Gl X x)(hm:X.mg x=none)(hv:N0 x=some (.builtin id))(ha:PA X (e::es) t)(hn:x≠"__name__":=by decide)(hdb:(x == ("__debug__":Str))=false:=by decide)
   (he:E4 (e::es) X.env=(false,eval e X.env)::E4 es X.env:=by rfl) (hpl:(backTo pos (E4 es X.env)).any (·.1)=false:=by rfl):PE X (.Call (.Name x p) (e::es) [] pos) (tCB r t):=by
 intro pins s σ H Q I h;refine wpAny_Call_Name_kw (Bq I hg hm hv ?_ hn hdb);exact PyProof.Rows.callWith_builtin1 (thn (ha pos pins s σ H _ I h) fun us s1 ⟨vs,H1,I1,r1,q1⟩=>hc pins s1 σ H1 vs us Q I1 r1 q1) he hpl
theorem Bu (hc:K1 X (.type T) r)(hg:Gl X x)(hm:X.mg x=none)(hv:N0 x=some (.type T))(ha:PA X (e::es) t)(hn:x≠"__name__":=by decide)(hdb:(x == ("__debug__":Str))=false:=by decide)
   (he:E4 (e::es) X.env=(false,eval e X.env)::E4 es X.env:=by rfl) (hpl:(backTo pos (E4 es X.env)).any (·.1)=false:=by rfl):PE X (.Call (.Name x p) (e::es) [] pos) (tCB r t):=by
 intro pins s σ H Q I h;refine wpAny_Call_Name_kw (Bq I hg hm hv ?_ hn hdb);exact Ch (thn (ha pos pins s σ H _ I h) fun us s1 ⟨vs,H1,I1,r1,q1⟩=>hc pins s1 σ H1 vs us Q I1 r1 q1) he hpl
end
end L2
namespace HT
open PySem PyProof.Rows
section
variable {prog:B2}{w:World}{A:Around}{E:Value->Shared->Prop}{s:Shared}
theorem cat_tup {t b:Addr}{vs ws:List Value}{Q:Value->Shared->Prop}(ht:IsTup s.heap t vs.toArray)(hb:IsTup s.heap b ws.toArray)(hv:vs≠[])
   (h1:ws=[]->Q (.ref t) s) (h2:ws≠[]->Q (.ref s.heap.objs.size) { s with heap:=s.heap.push { cls:=.type "tuple",data:=.seq (vs++ws).toArray } })
   (hsz:vs.length + ws.length<=B0):wpAny (model prog w) A (R0 .Add (.ref t) (.ref b)) Q E s:=by
 obtain⟨⟨cls,dd,data,sl⟩,ho,hc,n,hd⟩:=id ht;obtain⟨⟨cls2,dd2,data2,sl2⟩,ho2,hc2,n2,hd2⟩:=id hb;simp only at hc hd hc2 hd2;subst hc hd hc2 hd2;have e:vs.toArray++ws.toArray=(vs++ws).toArray:=by simp
 by_cases hw:ws=[]
 · exact concat_meets ⟨_,ho,rfl⟩ ⟨_,ho2,rfl⟩ noFill_tuple_add seq_tuple_add Gm Gk (Gj _ _)
     (tuple_addW1 t b vs.toArray ws.toArray n n2 dd dd2 sl sl2 (by simpa using hv) (by simp [hw])) ⟨ho,ho2,h1 hw⟩
 · refine concat_meets ⟨_,ho,rfl⟩ ⟨_,ho2,rfl⟩ noFill_tuple_add seq_tuple_add Gm Gk (Gj _ _)
     (tuple_addW2 t b vs.toArray ws.toArray n n2 dd dd2 sl sl2 (by simpa using hv) (by simpa using hw) (by rw [D8,D8];exact hsz)) ⟨ho,ho2,?_⟩
   rw [e];exact h2 hw
def sIx (n d:Nat):Option Int->Nat
 | none=>d
 | some v=>if v < 0 then(v + (n:Int)).toNat else min v.toNat n
theorem sIx_none (n d:Nat):sIx n d none=d:=rfl
theorem sIx_nat (n d k:Nat):sIx n d (some (k:Int))=min k n:=by
 show(if(k:Int) < 0 then((k:Int) + (n:Int)).toNat else min (k:Int).toNat n)=min k n;rw [if_neg (by omega),Q6]
theorem sIx_le (n d:Nat)(hd:d<=n)(o:Option Int):sIx n d o<=n:=by
 cases o with
 | none=>exact hd
 | some v =>
   show(if v < 0 then(v + (n:Int)).toNat else min v.toNat n)<=n
   by_cases hv:v < 0
   · rw [if_pos hv];omega
   · rw [if_neg hv];exact Nat.min_le_right _ _
theorem Jk (v:Int)(n d:Nat):(if v < 0 then max (v + (n:Int)) 0 else min v (n:Int))=((sIx n d (some v):Nat):Int):=by
 show(if v < 0 then max (v + (n:Int)) 0 else min v (n:Int))=(((if v < 0 then(v + (n:Int)).toNat else min v.toNat n):Nat):Int)
 by_cases hv:v < 0
 · simp only [if_pos hv];omega
 · simp only [if_neg hv];omega
theorem MK (lo hi:Option Int)(n:Nat):Cg lo hi 1 (n:Int)=(((sIx n 0 lo:Nat):Int),((sIx n n hi:Nat):Int)):=by
 have h1:¬((1:Int) < 0):=by omega
 unfold Cg;simp only [h1,if_false];refine Prod.ext ?_ ?_
 · cases lo with
   | none=>rfl
   | some v=>exact Jk v n 0
 · cases hi with
   | none=>rfl
   | some v=>exact Jk v n n
theorem MM (i j:Nat):u6 (i:Int) (j:Int) 1=j - i:=by
 unfold u6;have h1:(1:Int) > 0:=by omega
 simp only [h1,if_true,Int.ediv_one]
 split <;> omega
theorem Cu {v:Value}{o:Option Int}{Q:Option Int->Shared->Prop}(p:IsPart v o)(h:Q o s):wpAny (model prog w) A (Builtin.Slice.slicePartIndex v) Q E s:=by
 cases p with
 | none=>exact slicePart_none h
 | int i t=>exact slicePart_int h
theorem Jl {sl:Addr}{vl vu:Value}{lo hi:Option Int}{n:Nat}{Q:Int×Int×Nat->Shared->Prop}(hs:s.heap.IsSliceOf sl vl vu .none)(pl:IsPart vl lo)(pu:IsPart vu hi)
   (h:Q (((sIx n 0 lo:Nat):Int),1,sIx n n hi - sIx n 0 lo) s):wpAny (model prog w) A (DX (.ref sl) (pure (n:Int))) Q E s:=by
 obtain⟨os,hos,hcs,hds⟩:=id hs;unfold DX IQ;refine A0 (A0 (L8 hos hds (x:=vl) rfl (A0 (L8 hos hds (x:=vu) rfl (A0 (L8 hos hds (x:=.none) rfl (A4 ?_)))))));refine A0 (slicePart_none ?_);show wpAny _ _ (if((1:Int) == 0)=true then _ else _) _ _ s;rw [if_neg (by decide)];refine A0 (Cu pl (A0 (Cu pu (A0 (A4 ?_)))));show wpAny _ _ (match Cg lo hi 1 (n:Int) with | (lo,hi)=>pure (lo,(1:Int),u6 lo hi 1)) _ _ s;rw [MK lo hi n];show wpAny _ _ (pure (((sIx n 0 lo:Nat):Int),(1:Int),u6 ((sIx n 0 lo:Nat):Int) ((sIx n n hi:Nat):Int) 1)) _ _ s;rw [MM];exact A4 h
theorem MN (xs:Array Value)(i k:Nat):((D1 k).filterMap fun(m:Nat)=>xs[((i:Int) + (m:Int) * 1).toNat]?).toArray=((xs.toList.drop i).take k).toArray:=by
 have e:(fun(m:Nat)=>xs[((i:Int) + (m:Int) * 1).toNat]?)=fun m=>xs[i + m]?:=by
   funext m
   have:((i:Int) + (m:Int) * 1).toNat=i + m:=by omega
   rw [this]
 rw [e];have:=pick_run xs i k;rw [List.filterMap_map] at this;have e2:((fun x=>xs[x]?)∘fun x=>i + x)=fun m=>xs[i + m]?:=rfl;rw [e2] at this;rw [this]
theorem getItem_tuple_cut {t sl:Addr}{items:Array Value}{vl vu:Value}{lo hi:Option Int}{Q:Value->Shared->Prop}(ht:IsTup s.heap t items)(hs:s.heap.IsSliceOf sl vl vu .none)(pl:IsPart vl lo)(pu:IsPart vu hi)
   (hw:¬(sIx items.size 0 lo=0/\sIx items.size items.size hi=items.size))
   (h:Q (.ref s.heap.objs.size) { s with heap:=s.heap.push { cls:=.type "tuple",data:=.seq ((items.toList.drop (sIx items.size 0 lo)).take (sIx items.size items.size hi - sIx items.size 0 lo)).toArray } })
   (hsz:items.size<=B0):wpAny (model prog w) A (W3 (.ref t) (.ref sl)) Q E s:=by
 have htake:sizeOk (.seq ((items.toList.drop (sIx items.size 0 lo)).take (sIx items.size items.size hi - sIx items.size 0 lo)).toArray):=by
   show((items.toList.drop (sIx items.size 0 lo)).take (sIx items.size items.size hi - sIx items.size 0 lo)).toArray.size<=B0;rw [D8,L0,N9,F4];omega
 have hj:sIx items.size items.size hi<=items.size:=sIx_le _ _ (A9 _) hi;obtain⟨os,hos,hcs,hds⟩:=id hs;have hTs:s.TypeIs (.ref sl) "slice":=⟨os,hos,hcs⟩;unfold W3
 try with_reducible refine J5 ?_
 first | refine A0 (A4 ?_) | skip
 refine A0 (wpAny_sequenceKey ht.typeIs (by decide) ?_)
 refine A0 (T8 (name:=A6 "__getitem__") ht.typeIs Bb
   (M6 Bb ht.typeIs entry_tuple_getitem ?_ (args_tuple_getitem _ _)))
 show wpAny _ _ (Gf (.ref t)>>=_) _ _ s;refine A0 (tupleItemsOf_ ht ?_);refine A0 (p8 hTs ?_);rw [if_pos (by decide)];refine A0 (Jl hs pl pu ?_)
 have hno:¬((((sIx items.size 0 lo:Nat):Int) == 0 && (1:Int) == 1 && (sIx items.size items.size hi - sIx items.size 0 lo) == items.size)=true):=by
   intro q;rw [u5,u5] at q;have q1:((sIx items.size 0 lo:Nat):Int)=0:=eq_of_beq q.1.1;have q2:sIx items.size items.size hi - sIx items.size 0 lo=items.size:=eq_of_beq q.2;exact hw ⟨by omega,by omega⟩
 show wpAny _ _ (if(((sIx items.size 0 lo:Nat):Int) == 0 && (1:Int) == 1 && (sIx items.size items.size hi - sIx items.size 0 lo) == items.size)=true then _ else _) _ _ s;rw [if_neg hno,MN]
 first
   | exact A0 (m:=u7 _) (J8 (A4 ⟨_,rfl,A4 h⟩) htake)
   | exact A0 (m:=u7 _) (J8 (A0 (A4 (A4 ⟨_,rfl,A4 h⟩))) htake)
   | exact A0 (A0 (m:=u7 _) (J8 (A4 (A4 ⟨_,rfl,A4 h⟩)) htake))
   | exact A0 (A0 (m:=u7 _) (J8 (A4 ⟨_,rfl,A4 h⟩) htake))
end
end HT
namespace L2
open PySem PySem.Spec PyProof.Rows
abbrev TO:=St->Hp->(Option Int->Hp->Prop)->Prop
def PO (X:Cx)(e:Option Expr)(t:TO):Prop:=
 ∀ (pins : List (Addr × Obj)) (s : Shared) (σ : St) (H : Hp) (Q : Option Int -> Hp -> Prop), Inv X pins σ H s -> t σ H Q ->
   wpAny (model X.prog X.w) X.A (evalPart e X.env) (fun u s'=>∃o H',Inv X pins σ H' s'/\IsPart u o/\Q o H') X.xe s
def MO:TO:=fun _ H Q=>Q none H
def tPart (t:TE):TO:=fun σ H Q=>t σ H fun x H1=>∃i,x=.int i/\Q (some i) H1
section
variable {X:Cx}{e:Expr}{te:TE}{lo hi:Option Expr}{tl th:TO}{pos p2:Pos}
theorem GA:PO X none MO:=by
 intro pins s σ H Q I h;rw [evalPart_none];exact A4 ⟨none,H,I,.none,h⟩
theorem GB (h:PE X e te):PO X (some e) (tPart te):=by
 intro pins s σ H Q I hw;rw [evalPart_some];refine thn (h pins s σ H _ I hw) fun u s1 ⟨x,H1,I1,r1,q1⟩=>?_;obtain⟨i,rfl,q⟩:=q1;obtain⟨t,rfl⟩:=r1;exact⟨some i,H1,I1,.int i t,q⟩
def SlR (X:Cx)(r:V->Option Int->Option Int->Hp->VK->Prop):Prop:=
 ∀ (pins : List (Addr × Obj)) (s : Shared) (σ : St) (H : Hp) (x : V) (v vl vu : Value) (lo hi : Option Int) (sl : Addr) (Q : VK), Inv X pins σ H s -> RelV x v -> s.heap.IsSliceOf sl vl vu .none -> IsPart vl lo -> IsPart vu hi -> r x lo hi H Q ->
   ∃T id,typeLookup (.type T) "__getitem__"=pure (some (.builtin id))/\s.TypeIs v T/\wpAny (model X.prog X.w) X.A (W3 v (.ref sl)) (EP X pins σ Q) X.xe s
theorem SlR.or {r r':V->Option Int->Option Int->Hp->VK->Prop}(h:SlR X r)(h':SlR X r'):SlR X (fun x lo hi H Q=>r x lo hi H Q\/r' x lo hi H Q):=by
 intro pins s σ H x v vl vu lo hi sl Q I rx hs pl pu q;rcases q with q | q
 · exact h pins s σ H x v vl vu lo hi sl Q I rx hs pl pu q
 · exact h' pins s σ H x v vl vu lo hi sl Q I rx hs pl pu q
def tSl (r:V->Option Int->Option Int->Hp->VK->Prop)(te:TE)(tl th:TO):TE:=fun σ H Q=>te σ H fun x H1=>tl σ H1 fun l H2=>th σ H2 fun u H3=>r x l u H3 Q
theorem GC {r:V->Option Int->Option Int->Hp->VK->Prop}(hr:SlR X r)(he:PE X e te)(hl:PO X lo tl)(hu:PO X hi th):PE X (.Subscript e (.Slice lo hi none p2) pos) (tSl r te tl th):=by
 intro pins s σ H Q I h;refine Subscript_ (thn (he pins s σ H _ I h) fun v s1 ⟨x,H1,I1,r1,q1⟩=>?_);refine wpAny_Slice (thn (hl pins s1 σ H1 _ I1 q1) fun vl s2 ⟨l,H2,I2,pl,q2⟩=>thn (hu pins s2 σ H2 _ I2 q2) fun vu s3 ⟨u,H3,I3,pu,q3⟩=>?_);rw [evalPart_none];refine A4 ?_;have I4:Inv X pins σ H3 { s3 with heap:=s3.heap.push { cls:=.type "slice",data:=.fields #[vl,vu,.none] } }:=I3.kept (t':=s3.toks) fun b ob q=>B6 _ q;obtain⟨T,id,hT,ht,hg⟩:=hr pins { s3 with heap:=s3.heap.push { cls:=.type "slice",data:=.fields #[vl,vu,.none] } } σ H3 x v vl vu l u s3.heap.objs.size Q I4 r1 (Gn ..) pl pu q3;show wpAny (model X.prog X.w) X.A (subscriptTail e (.Slice lo hi none p2) v (.ref s3.heap.objs.size)) (EP X pins σ Q) X.xe { s3 with heap:=s3.heap.push { cls:=.type "slice",data:=.fields #[vl,vu,.none] } };exact tail_any (ops:=[.ref s3.heap.objs.size,v]) ht hT hg (by with_unfolding_all rfl)
def cutV (xs:List V)(lo hi:Option Int):List V:=(xs.drop (HT.sIx xs.length 0 lo)).take (HT.sIx xs.length xs.length hi - HT.sIx xs.length 0 lo)
theorem Jm (xs:List V)(lo hi:Option Int):(cutV xs lo hi).length<=xs.length:=by
 unfold cutV;rw [L0,N9];omega
def rSlT (K:A5):V->Option Int->Option Int->Hp->VK->Prop:=fun x lo hi H Q=>∃a xs,x=.ref a/\SqT K H a xs/\
 ¬(HT.sIx xs.length 0 lo=0/\HT.sIx xs.length xs.length hi=xs.length)/\∀p,H p=none->Q (.ref p) (upd H p (.tup (cutV xs lo hi)))
theorem sl_tup:SlR X (rSlT X.K):=by
 intro pins s σ H x v vl vu lo hi sl Q I rx hs pl pu h;obtain⟨a,xs,rfl,hx,hw,q⟩:=h;cases rx;obtain⟨its,r,ht,hz⟩:=I.tuple hx;have hlen:its.toArray.size=xs.length:=by rw [D8];exact r.length.symm
 refine⟨"tuple",_,PyProof.Rows.slot_tuple_getitem.lookup,ht.typeIs,?_⟩;refine HT.getItem_tuple_cut ht hs pl pu (by rw [hlen];exact hw) ?_ (by rw [hlen];exact hz);rw [hlen];refine⟨.ref s.heap.objs.size,_,I.laid (t':=s.toks) (o:=.tup (cutV xs lo hi)) (fun b ob q=>B6 _ q) (A9 _) ?_,rfl,q _ (I.hok.fresh (A9 _))⟩;exact⟨L4 (Jm xs lo hi) hz,_,(r.drop (HT.sIx xs.length 0 lo)).take (HT.sIx xs.length xs.length hi - HT.sIx xs.length 0 lo),Y4.new _ _⟩
def rCatT (K:A5):R2:=fun x y H Q=>∃a b xs ys,x=.ref a/\y=.ref b/\SqT K H a xs/\SqT K H b ys/\xs≠[]/\xs.length + ys.length<=B0/\
 (ys=[]->Q (.ref a) H)/\(ys≠[]->∀p,H p=none->Q (.ref p) (upd H p (.tup (xs++ys))))
theorem Vals.nil_iff {xs:List V}{us:List Value}(r:Vals xs us):us=[]↔xs=[]:=by
 cases r with
 | nil=>simp
 | cons _ _=>simp
theorem MP:OpR X (R0 .Add) (rCatT X.K):=by
 intro pins s σ H x y v u Q I rx ry h;obtain⟨a,b,xs,ys,rfl,rfl,ha,hb,hx,hz,q1,q2⟩:=h;cases rx;cases ry;obtain⟨its,r1,p1,_⟩:=I.tuple ha;obtain⟨its2,r2,p2,_⟩:=I.tuple hb;refine HT.cat_tup p1 p2 (fun z=>hx (r1.nil_iff.mp z)) (fun z=>⟨.ref a,H,I,rfl,q1 (r2.nil_iff.mp z)⟩) (fun z=>?_) (by rw [<- r1.length,<- r2.length];exact hz);refine⟨.ref s.heap.objs.size,_,I.laid (t':=s.toks) (o:=.tup (xs++ys)) (fun b ob q=>B6 _ q) (A9 _) ?_,rfl,q2 (fun w=>z (r2.nil_iff.mpr w)) _ (I.hok.fresh (A9 _))⟩;exact⟨by rw [E2];exact hz,_,r1.append r2,Y4.new _ _⟩
end
def ixN (n:Nat)(i:Int):Option Nat:=if 0<=i then(if i < n then some i.toNat else none) else if -(n:Int)<=i then some (i + n).toNat else none
def atI {α:Type}(xs:List α)(i:Int):Option α:=(ixN xs.length i).bind fun j=>xs[j]?
theorem Jn {n:Nat}{i:Int}{j:Nat}(h:ixN n i=some j):seqIndex? i n=some j/\j < n/\-(n:Int)<=i/\i < n:=by
 unfold ixN at h
 by_cases h0:0<=i
 · rw [if_pos h0] at h
   by_cases h1:i < n
   · rw [if_pos h1] at h;have e:i.toNat=j:=J9 h;exact⟨by rw [seqIndex_of h0 h1,e],by omega,by omega,h1⟩
   · rw [if_neg h1] at h;cases h
 · rw [if_neg h0] at h
   by_cases h1:-(n:Int)<=i
   · rw [if_pos h1] at h;have e:(i + n).toNat=j:=J9 h;exact⟨by rw [seqIndex_neg (by omega) h1,e],by omega,h1,by omega⟩
   · rw [if_neg h1] at h;cases h
theorem GD {α:Type}{xs:List α}{i:Int}{v:α}(h:atI xs i=some v):∃j,seqIndex? i xs.length=some j/\xs[j]?=some v/\j < xs.length/\-(xs.length:Int)<=i/\i < xs.length:=by
 unfold atI at h;cases e:ixN xs.length i with
 | none=>rw [e] at h;cases h
 | some j =>
   rw [e] at h;obtain⟨h1,h2,h3,h4⟩:=Jn e;exact⟨j,h1,h,h2,h3,h4⟩
theorem GE {α:Type}{xs:List α}{j:Nat}{v:α}(h:xs[j]?=some v):atI xs (j:Int)=some v:=by
 have hj:j < xs.length:=(E6.mp h).1
 have e:ixN xs.length (j:Int)=some j:=by
   unfold ixN;rw [if_pos (by omega),if_pos (by omega)];simp
 unfold atI;rw [e];exact h
theorem MQ {α:Type}(xs:List α)(v:α):atI (xs++[v]) (-1)=some v:=by
 have hl:(xs++[v]).length=xs.length + 1:=by simp
 have e:ixN (xs++[v]).length (-1)=some xs.length:=by
   unfold ixN;rw [hl,if_neg (by decide),if_pos (by omega)]
   congr 1
   omega
 unfold atI;rw [e];show(xs++[v])[xs.length]?=some v;simp
def GF (b:Expr):Prop:=∀o i,subscripted b false o i=operate [o,i] (W3 o i)
def IxR (X:Cx)(r:R2):Prop:=
 ∀ (value slice : Expr) (pins : List (Addr × Obj)) (s : Shared) (σ : St) (H : Hp) (x y : V) (v u : Value) (Q : VK), Inv X pins σ H s -> RelV x v -> RelV y u -> r x y H Q ->
   subscripted slice false v u=operate [v,u] (W3 v u)->wpAny (model X.prog X.w) X.A (subscriptTail value slice v u) (EP X pins σ Q) X.xe s
def MtR (X:Cx)(id:String)(r:V->List V->Hp->VK->Prop):Prop:=
 ∀ (pins : List (Addr × Obj)) (s : Shared) (σ : St) (H : Hp) (x : V) (xs : List V) (v : Value) (us : List Value) (Q : VK), Inv X pins σ H s -> RelV x v -> Vals xs us -> r x xs H Q ->
   wpAny (model X.prog X.w) X.A (call (.builtin id) (v::us)) (EP X pins σ Q) X.xe s
section
variable {X:Cx}{a b:Expr}{ta tb:TE}{pos:Pos}
theorem IxR.or {r r':R2}(h:IxR X r)(h':IxR X r'):IxR X (fun x y H Q=>r x y H Q\/r' x y H Q):=by
 intro value slice pins s σ H x y v u Q I rx ry q hs;rcases q with q | q
 · exact h value slice pins s σ H x y v u Q I rx ry q hs
 · exact h' value slice pins s σ H x y v u Q I rx ry q hs
theorem GG {r:R2}(hr:IxR X r)(ha:PE X a ta)(hb:PE X b tb)(hs:GF b):PE X (.Subscript a b pos) (tOp r ta tb):=by
 intro pins s σ H Q I h;exact Subscript_ (binT ha hb I h fun v u s2 x y H2 I2 rx ry q=>hr a b pins s2 σ H2 x y v u Q I2 rx ry q (hs _ _))
def rIxL (K:A5):R2:=fun x y H Q=>∃p xs i v,x=.ref p/\y=.int i/\SqL K H p xs/\atI xs i=some v/\Q v H
def rIxT (K:A5):R2:=fun x y H Q=>∃p xs i v,x=.ref p/\y=.int i/\SqT K H p xs/\atI xs i=some v/\Q v H
def rIxS:R2:=fun x y H Q=>∃z i c,x=.str z/\y=.int i/\z.length<=B0/\atI z.cps.toList i=some c/\Q (.str ⟨#[c]⟩) H
theorem Jo:IxR X (rIxL X.K):=by
 intro value slice pins s σ H x y v u Q I rx ry h hs;obtain⟨p,xs,i,z,rfl,rfl,hq,he,q⟩:=h;cases rx;obtain⟨t,rfl⟩:=ry;obtain⟨its,r,pl,hz⟩:=I.list hq;obtain⟨j,h1,h2,h3,h4,h5⟩:=GD he;obtain⟨w,ew,rw'⟩:=r.get h2;have hl:=r.length;have hn:=Av;have fin:EP X pins σ Q w s:=⟨z,H,I,rw',q⟩
 by_cases h0:0<=i
 · have hj:i.toNat=j:=by
     rw [seqIndex_of h0 h5] at h1;exact J9 h1
   exact item_listR pl.isList h0 (by omega) (by rw [hj];simpa using ew) fin hs
 · have hj:(i + (its.toArray.size:Int)).toNat=j:=by
     rw [seqIndex_neg (by omega) h4] at h1;rw [D8,<- hl];exact J9 h1
   exact subscriptTail_builtinR (x:=w) pl.isList.typeIs slot_list_getitem.lookup
     (wpAny_getItem_list_neg (Q:=fun r s'=>r=w/\EP X pins σ Q r s') pl.isList (by omega) (by rw [D8] <;> omega) (by omega) (by rw [hj];simpa using ew) ⟨rfl,fin⟩) hs
theorem ix_tup:IxR X (rIxT X.K):=by
 intro value slice pins s σ H x y v u Q I rx ry h hs;obtain⟨p,xs,i,z,rfl,rfl,hq,he,q⟩:=h;cases rx;obtain⟨t,rfl⟩:=ry;obtain⟨its,r,pl,hz⟩:=I.tuple hq;obtain⟨j,h1,h2,h3,h4,h5⟩:=GD he;obtain⟨w,ew,rw'⟩:=r.get h2;have hl:=r.length;have hn:=Av;have fin:EP X pins σ Q w s:=⟨z,H,I,rw',q⟩
 exact subscriptTail_builtinR (x:=w) pl.typeIs slot_tuple_getitem.lookup
   (getItem_tuple (j:=j) (Q:=fun r s'=>r=w/\EP X pins σ Q r s') pl (by omega) (by omega) (by rw [D8,<- hl];exact h1) (by simpa using ew) ⟨rfl,fin⟩) hs
theorem ix_str:IxR X rIxS:=by
 intro value slice pins s σ H x y v u Q I rx ry h hs;obtain⟨z,i,c,rfl,rfl,hz,he,q⟩:=h;obtain⟨t,rfl⟩:=rx;obtain⟨t',rfl⟩:=ry;obtain⟨j,h1,h2,h3,h4,h5⟩:=GD he;have hl:z.cps.toList.length=z.length:=by simp [Str.length]
 rw [hl] at h1 h4 h5;have hn:=Av
 exact tail_any (typeIs_str s z t) slot_str_getitem.lookup (getItem_str (c:=c) (by
   have e1:decide (i < -(2 ^ 63:Int))=false:=decide_eq_false (by omega);have e2:decide (i>=2 ^ 63)=false:=decide_eq_false (by omega)
   rw [e1,e2,Bool.or_false]) (by rw [h1];simpa using h2) ⟨.str ⟨#[c]⟩,H,I.tok _,⟨_,rfl⟩,q⟩) hs
def rIx (K:A5):R2:=fun x y H Q=>rIxL K x y H Q\/rIxT K x y H Q\/rIxS x y H Q
theorem Jp:IxR X (rIx X.K):=Jo.or (ix_tup.or ix_str)
theorem MR (its:List Value)(n j:Nat)(u:Value):P9 (·.setIfInBounds j u) { cls:=.type "list",data:=.seq its.toArray n }={ cls:=.type "list",data:=.seq (its.set j u).toArray n }:=by
 simp [P9]
theorem Inv.lst {pins:List (Addr×Obj)}{σ:St}{H:Hp}{s:Shared}{p:Addr}{xs:List V}(I:Inv X pins σ H s)(h:H p=some (.lst xs)) :
   ∃(its:List Value) (n:Nat),Vals xs its/\s.heap.get? p=some { cls:=.type "list",data:=.seq its.toArray n }/\xs.length<=B0:=by
 obtain⟨z,its,n,r,e⟩:=I.hok p _ h;exact⟨its,n,r,e,z⟩
theorem Inv.lstUpd {pins:List (Addr×Obj)}{σ:St}{H:Hp}{s:Shared}{p:Addr}{xs ys:List V}{its its':List Value}{n n':Nat}{f:Obj->Obj}(I:Inv X pins σ H s)(h:H p=some (.lst xs))
   (ho:s.heap.get? p=some { cls:=.type "list",data:=.seq its.toArray n }) (hf:f { cls:=.type "list",data:=.seq its.toArray n }={ cls:=.type "list",data:=.seq its'.toArray n' }) (r:Vals ys its') (hz:ys.length<=B0) (t:Nat) :
   Inv X pins σ (upd H p (.lst ys)) { s with heap:=s.heap.update p f,toks:=t }:=by
 have e:(s.heap.update p f).get? p=some { cls:=.type "list",data:=.seq its'.toArray n' }:=by
   rw [Ab f ho (by rw [hf] <;> rfl),hf]
 refine I.write (x:=p) (e:=p) (by rw [h];trivial) (.inl rfl) (fun b u hb q=>(AS _ _ (Ne.symm hb)).trans q) ⟨_,e⟩ ?_;exact⟨hz,its',n',r,e⟩
def Cv:V->V->V->Hp->(Hp->Prop)->Prop:=fun o i v H Q=>∃p xs k j,o=.ref p/\i=.int k/\H p=some (.lst xs)/\ixN xs.length k=some j/\Q (upd H p (.lst (xs.set j v)))
theorem MS:PSet X Cv:=by
 intro pins s σ H o i v ov iv u Q I ro ri rv h;obtain⟨p,xs,k,j,rfl,rfl,hp,hj,q⟩:=h;cases ro;obtain⟨t,rfl⟩:=ri;obtain⟨its,n,r,ho,hz⟩:=I.lst hp;obtain⟨h1,h2,h3,h4⟩:=Jn hj;have hl:=r.length;have hn:=Av
 have I':Inv X pins σ (upd H p (.lst (xs.set j v))) { s with heap:=s.heap.update p (P9 (·.setIfInBounds j u)) }:=
   I.lstUpd hp ho (MR its n j u) (r.set rv j) (by rw [J6];exact hz) s.toks
 by_cases h0:0<=k
 · have hk:k.toNat=j:=by
     rw [seqIndex_of h0 h4] at h1;exact J9 h1
   exact PySem.W.ki_setAt ho h0 (by omega) (by rw [D8,<- hl];exact h4) (by rw [hk];exact⟨_,I',q⟩)
 · have hk:(k + (its.toArray.size:Int)).toNat=j:=by
     rw [seqIndex_neg (by omega) h3] at h1;rw [D8,<- hl];exact J9 h1
   exact PySem.W.ki_setBack ho (by omega) (by rw [D8,<- hl];exact h3) (by omega) (by rw [hk];exact⟨_,I',q⟩)
theorem MT (lo hi:Option Int)(n:Nat):(z9 lo hi none n).1=((HT.sIx n 0 lo:Nat):Int)/\(z9 lo hi none n).2.1=((HT.sIx n n hi:Nat):Int)/\(z9 lo hi none n).2.2=1:=by
 refine⟨?_,?_,rfl⟩
 · cases lo with
   | none=>simp [z9,HT.sIx]
   | some i =>
     simp only [z9,HT.sIx,Option.getD_none,show(1:Int) > 0 by decide,if_true]
     by_cases h:i < 0
     · simp only [h,if_true] <;> omega
     · simp only [h,if_false] <;> omega
 · cases hi with
   | none=>simp [z9,HT.sIx]
   | some i =>
     simp only [z9,HT.sIx,Option.getD_none,show(1:Int) > 0 by decide,if_true]
     by_cases h:i < 0
     · simp only [h,if_true] <;> omega
     · simp only [h,if_false] <;> omega
theorem MU (its:List Value)(lo hi:Option Int):slicePick its.toArray lo hi none=((its.drop (HT.sIx its.length 0 lo)).take (HT.sIx its.length its.length hi - HT.sIx its.length 0 lo)).toArray:=by
 obtain⟨h1,h2,h3⟩:=MT lo hi its.toArray.size;unfold slicePick;rw [h1,h2,h3];simp only [sliceRange_one,pick_run,D8] <;> rfl
def rSlL (K:A5):V->Option Int->Option Int->Hp->VK->Prop:=fun x lo hi H Q=>∃a xs,x=.ref a/\SqL K H a xs/\∀p,H p=none->Q (.ref p) (upd H p (.lst (cutV xs lo hi)))
theorem GH:SlR X (rSlL X.K):=by
 intro pins s σ H x v vl vu lo hi sl Q I rx hs pl pu h;obtain⟨a,xs,rfl,hx,q⟩:=h;cases rx;obtain⟨its,r,ht,hz⟩:=I.list hx;have hlen:=r.length;refine⟨"list",_,slot_list_getitem.lookup,ht.isList.typeIs,?_⟩;refine wpAny_getItem_list_slice ht.isList hs pl pu .none (by simp) ?_ (by rw [D8] <;> omega)
 rw [MU,<- hlen];refine⟨.ref s.heap.objs.size,_,I.laid (t':=s.toks) (o:=.lst (cutV xs lo hi)) (fun b ob q=>B6 _ q) (A9 _) ?_,rfl,q _ (I.hok.fresh (A9 _))⟩;exact⟨L4 (Jm xs lo hi) hz,_,0,(r.drop (HT.sIx xs.length 0 lo)).take (HT.sIx xs.length xs.length hi - HT.sIx xs.length 0 lo),E1 _ rfl⟩
def Q7:V->Bool
 | .non=>true
 | .bl _=>true
 | .int _=>true
 | .str _=>true
 | _=>false
def eqV:V->V->Bool
 | .non,.non=>true
 | .bl a,.bl b=>a == b
 | .bl a,.int b=>(if a then 1 else 0) == b
 | .int a,.bl b=>a == (if b then 1 else 0)
 | .int a,.int b=>a == b
 | .str a,.str b=>a == b
 | _,_=>false
theorem Jq {A:Around}{s:Shared}{y x:V}{u v:Value}(ry:RelV y u)(rx:RelV x v)(fy:Q7 y=true)(fx:Q7 x=true):As A s u v (eqV y x):=by
 cases y with
 | non =>
   cases ry;cases x with
   | non=>cases rx;exact SeqAt.EqAt.same _
   | bl b=>cases rx;exact SeqAt.EqAt.none_bool b
   | int b=>obtain⟨t,rfl⟩:=rx;exact SeqAt.EqAt.none_int b t
   | str b=>obtain⟨t,rfl⟩:=rx;exact SeqAt.EqAt.none_str b t
   | _=>exact absurd (show false=true from fx) J3
 | bl a =>
   cases ry;cases x with
   | non=>cases rx;exact SeqAt.EqAt.bool_none a
   | bl b=>cases rx;exact SeqAt.EqAt.bool_bool a b
   | int b=>obtain⟨t,rfl⟩:=rx;exact SeqAt.EqAt.bool_int a b t
   | str b=>obtain⟨t,rfl⟩:=rx;exact SeqAt.EqAt.bool_str a b t
   | _=>exact absurd (show false=true from fx) J3
 | int a =>
   obtain⟨t',rfl⟩:=ry;cases x with
   | non=>cases rx;exact SeqAt.EqAt.int_none a t'
   | bl b=>cases rx;exact SeqAt.EqAt.int_bool a t' b
   | int b=>obtain⟨t,rfl⟩:=rx;exact SeqAt.EqAt.int_int a t' b t
   | str b=>obtain⟨t,rfl⟩:=rx;exact SeqAt.EqAt.int_str a t' b t
   | _=>exact absurd (show false=true from fx) J3
 | str a =>
   obtain⟨t',rfl⟩:=ry;cases x with
   | non=>cases rx;exact SeqAt.EqAt.str_none a t'
   | bl b=>cases rx;exact SeqAt.EqAt.str_bool a t' b
   | int b=>obtain⟨t,rfl⟩:=rx;exact SeqAt.EqAt.str_int a t' b t
   | str b=>obtain⟨t,rfl⟩:=rx;exact SeqAt.EqAt.str_str a t' b t
   | _=>exact absurd (show false=true from fx) J3
 | _=>exact absurd (show false=true from fy) J3
theorem MV:OpR X (Q1 .NotIn) (fun x y H Q=>∃i j,x=.str i/\y=.str j/\Q (.bl (!(!(Bd j i 0 j.length 1).isEmpty))) H):=by
 intro pins s σ H x y v u Q I rx ry h;obtain⟨i,j,rfl,rfl,q⟩:=h;obtain⟨t,rfl⟩:=rx;obtain⟨t',rfl⟩:=ry;exact notIn_str ⟨.bl _,H,I,rfl,q⟩
theorem GI:K1 X (.builtin "len") (fun xs H Q=>∃p ys,xs=[.ref p]/\(SqL X.K H p ys\/SqT X.K H p ys)/\Q (.int ys.length) H):=by
 intro pins s σ H xs us Q I r h;obtain⟨p,ys,rfl,hq,q⟩:=h;obtain⟨u,rfl,rx⟩:=k6 r;cases rx;have hn:=Av;rcases hq with hq | hq
 · obtain⟨its,r',pl,hz⟩:=I.list hq;have hlen:=r'.length;exact Calls.call_len_list pl.isList (by simp only [D8] <;> omega) ⟨.int ys.length,H,I.tok _,⟨s.toks + 1,by rw [D8,hlen]⟩,q⟩
 · obtain⟨its,r',pl,hz⟩:=I.tuple hq;have hlen:=r'.length;exact len_tuple pl (by simp only [D8] <;> omega) ⟨.int ys.length,H,I.tok _,⟨s.toks + 1,by rw [D8,hlen]⟩,q⟩
theorem MW:K1 X (.builtin "len") (fun xs H Q=>∃z,xs=[.str z]/\z.length<=B0/\Q (.int z.length) H):=by
 intro pins s σ H xs us Q I r h;obtain⟨z,rfl,hz,q⟩:=h;obtain⟨u,rfl,t,rfl⟩:=k6 r;have hn:=Av;exact len_str (by omega) ⟨.int z.length,H,I.tok _,⟨_,rfl⟩,q⟩
theorem K1.or {f:Value}{r r':List V->Hp->VK->Prop}(h:K1 X f r)(h':K1 X f r'):K1 X f (fun xs H Q=>r xs H Q\/r' xs H Q):=by
 intro pins s σ H xs us Q I rs q;rcases q with q | q
 · exact h pins s σ H xs us Q I rs q
 · exact h' pins s σ H xs us Q I rs q
theorem Jr:K1 X (.type "list") (fun xs H Q=>∃p ys,xs=[.ref p]/\(SqL X.K H p ys\/SqT X.K H p ys)/\∀l,H l=none->Q (.ref l) (upd H l (.lst ys))):=by
 intro pins s σ H xs us Q I r h;obtain⟨p,ys,rfl,hq,q⟩:=h;obtain⟨u,rfl,rx⟩:=k6 r;cases rx
 have fin:∀(its:List Value),Vals ys its->ys.length<=B0->∀(h':Heap) (c':Nat),(∀b o',s.heap.get? b=some o'->h'.get? b=some o')->
     h'.get? s.heap.objs.size=some { cls:=.type "list",dict:=none,data:=.seq its.toArray c',slots:=#[] }->EP X pins σ Q (.ref s.heap.objs.size) { s with heap:=h' }:=fun its r' hz h' c' kp e=>
   ⟨.ref s.heap.objs.size,_,I.laid (t':=s.toks) kp (A9 _) (show G5 X.prog X.w _ h' _ (.lst ys) from⟨hz,its,c',r',e⟩),rfl,q _ (I.hok.fresh (A9 _))⟩
 rcases hq with hq | hq
 · obtain⟨its,r',pl,hz⟩:=I.list hq;have hlen:=r'.length;obtain⟨o,ho,hc,n,hd⟩:=pl.isList;exact call_list_seq p (.inl rfl) ho hc hd (fun h' c' kp e=>fin its r' hz h' c' kp e) (by simp only [D8] <;> omega)
 · obtain⟨its,r',pl,hz⟩:=I.tuple hq;have hlen:=r'.length;obtain⟨o,ho,hc,n,hd⟩:=pl;exact call_list_seq p (.inr rfl) ho hc hd (fun h' c' kp e=>fin its r' hz h' c' kp e) (by simp only [D8] <;> omega)
theorem MX:K1 X (.type "tuple") (fun xs H Q=>∃p ys,xs=[.ref p]/\((SqL X.K H p ys/\∀l,H l=none->Q (.ref l) (upd H l (.tup ys)))\/(SqT X.K H p ys/\Q (.ref p) H))):=by
 intro pins s σ H xs us Q I r h;obtain⟨p,ys,rfl,h⟩:=h;obtain⟨u,rfl,rx⟩:=k6 r;cases rx;rcases h with⟨hq,q⟩ | ⟨hq,q⟩
 · obtain⟨its,r',pl,hz⟩:=I.list hq;have hlen:=r'.length;refine call_tuple_list pl.isList (fun h' kp=>?_) (by simp only [D8] <;> omega)
   have I1:Inv X pins σ H { s with heap:=h' }:=I.kept (t':=s.toks) kp
   have I2:Inv X pins σ (upd H h'.objs.size (.tup ys)) { s with heap:=h'.push { cls:=.type "tuple",data:=.seq its.toArray } }:=
     I1.laid (t':=s.toks) (fun b o e=>B6 _ e) (A9 _) (show G5 X.prog X.w _ _ _ (.tup ys) from⟨hz,its,r',Y4.new _ _⟩)
   exact⟨.ref h'.objs.size,_,I2,rfl,q _ (I1.hok.fresh (A9 _))⟩
 · obtain⟨its,r',pl,hz⟩:=I.tuple hq;exact call_tuple_same pl ⟨.ref p,H,I,rfl,q⟩
def tyV (K:A5)(T:String)(x:V)(H:Hp):Prop:=match x with
 | .str _=>T="str"
 | .int _=>T="int"
 | .ref p=>(T="list"/\∃xs,SqL K H p xs)\/(T="tuple"/\((∃o,K.lookup p=some o/\o.cls=.type "tuple"/\o.dict=none)\/∃xs,H p=some (.tup xs)))\/
     (T="dict"/\((∃kvs,H p=some (.dK kvs))\/∃kvs,H p=some (.dT kvs)))\/(T="set"/\∃S n,H p=some (.set S n))
 | _=>False
theorem Js {pins:List (Addr×Obj)}{σ:St}{H:Hp}{s:Shared}{T:String}{x:V}{v:Value}(I:Inv X pins σ H s)(r:RelV x v)(ty:tyV X.K T x H) :
   s.TypeIs v T/\∀a,v=.ref a->∃ob,s.heap.get? a=some ob/\ob.dict=none:=by
 cases x with
 | str z =>
   obtain⟨t,rfl⟩:=r;cases(show T="str" from ty);exact⟨typeIs_str s z t,fun _ e=>nomatch e⟩
 | int i =>
   obtain⟨t,rfl⟩:=r;cases(show T="int" from ty);exact⟨typeIs_int s i t,fun _ e=>nomatch e⟩
 | ref p =>
   cases r;rcases ty with⟨rfl,xs,hq⟩ | ⟨rfl,hk⟩ | ⟨rfl,hk⟩ | ⟨rfl,S,n,hk⟩
   · obtain⟨its,_,pl,_⟩:=I.list hq;refine⟨pl.isList.typeIs,fun a e=>?_⟩;cases e;obtain⟨o,n,e,c,hd,_⟩:=pl;exact⟨o,e,hd⟩
   · rcases hk with⟨o,hk,hc,hd⟩ | ⟨xs,hk⟩
     · refine⟨⟨o,I.kIn p o hk,hc⟩,fun a e=>?_⟩;cases e;exact⟨o,I.kIn _ o hk,hd⟩
     · obtain⟨_,_,_,o,e,c,_⟩:=(show G5 X.prog X.w H s.heap p (.tup xs) from I.hok p _ hk);refine⟨⟨o,e,(Cm c).1⟩,fun a e2=>?_⟩;cases e2;exact⟨o,e,(Cm c).2⟩
   · have z:∃o,s.heap.get? p=some o/\o.ExactDict:=by
       rcases hk with⟨kvs,hk⟩ | ⟨kvs,hk⟩
       · obtain⟨_,_,_,_,o,_,_,e,ex,_⟩:=I.hok p _ hk;exact⟨o,e,ex⟩
       · obtain⟨_,_,_,_,o,_,_,e,ex,_⟩:=I.hok p _ hk;exact⟨o,e,ex⟩
     obtain⟨o,e,ex⟩:=z;refine⟨⟨o,e,ex.1⟩,fun a e2=>?_⟩;cases e2;exact⟨o,e,ex.2.1⟩
   · obtain⟨o,_,_,_,e,ex,_⟩:=I.hok p _ hk;refine⟨⟨o,e,ex.1⟩,fun a e2=>?_⟩;cases e2;exact⟨o,e,ex.2.1⟩
 | _=>exact c8 ty
def tBM0 (K:A5)(T:String)(r:V->List V->Hp->VK->Prop)(to:TE):TE:=fun σ H Q=>to σ H fun x H1=>tyV K T x H1/\r x [] H1 Q
def tBM (K:A5)(T:String)(r:V->List V->Hp->VK->Prop)(to:TE)(t:TA):TE:=fun σ H Q=>to σ H fun x H1=>tyV K T x H1/\t σ H1 fun xs H2=>r x xs H2 Q
variable {o e:Expr}{es:List Expr}{to:TE}{t:TA}{name:Str}{apos cpos:Pos}{T id:String}{r:V->List V->Hp->VK->Prop}
theorem pe_bm0 (pa:PlainAttrs T)(slot:Slot T name id)(hty:typeOf (.builtin id)=pure (.type "method_descriptor"))(hm:MtR X id r)(ho:PE X o to)
   (hbase:z0 o name X.env (eval o X.env)=eval o X.env:=by rfl) (hline:(apos.endLine == cpos.line)=true:=by rfl):PE X (.Call (.Attribute o name apos) [] [] cpos) (tBM0 X.K T r to):=by
 intro pins s σ H Q I h;refine wpAny_Call_method0_late hbase hline (thn (ho pins s σ H _ I h) fun v s1 ⟨x,H1,I1,r1,ty,q1⟩=>?_);obtain⟨h1,h2⟩:=Js I1 r1 ty;exact⟨T,id,pa,slot,hty,h1,h2,Calls.callWith_builtin rfl (PySem.evalArgs_none (hm pins s1 σ H1 x [] v [] Q I1 r1 .nil q1))⟩
theorem Ej (pa:PlainAttrs T)(slot:Slot T name id)(hty:typeOf (.builtin id)=pure (.type "method_descriptor"))(hm:MtR X id r)(ho:PE X o to)(ha:PA X (e::es) t)
   (hbase:z0 o name X.env (eval o X.env)=eval o X.env:=by rfl)
   (hfew:((backTo cpos (E4 (e::es) X.env)).all (fun x=>!x.1) && (backToKw cpos (AR [] X.env)).all (fun x=>x.1.isSome)
     && decide ((e::es).length + ([]:List X5).length + (if([]:List X5).isEmpty then 0 else 1) < 30))=true:=by rfl)
   (hline:(apos.endLine == cpos.line)=true:=by rfl) (hs:E4 (e::es) X.env=(false,eval e X.env)::E4 es X.env:=by rfl) (hplain:(backTo cpos (E4 es X.env)).any (·.1)=false:=by rfl) :
   PE X (.Call (.Attribute o name apos) (e::es) [] cpos) (tBM X.K T r to t):=by
 intro pins s σ H Q I h;refine wpAny_Call_method_late hbase hfew hline rfl (thn (ho pins s σ H _ I h) fun v s1 ⟨x,H1,I1,r1,ty,q1⟩=>?_);obtain⟨h1,h2⟩:=Js I1 r1 ty;refine⟨T,id,pa,slot,hty,h1,h2,?_⟩;have hA:=ha cpos pins s1 σ H1 _ I1 q1;rw [hs] at hA ⊢;refine Calls.callWith_builtin (by show(false || (backTo cpos (E4 es X.env)).any (·.1))=false;rw [hplain] <;> rfl) (Calls.evalArgs_plain ?_)
 exact thn hA fun us s2 ⟨vs,H2,I2,r2,q2⟩=>hm pins s2 σ H2 x vs v us Q I2 r1 r2 q2
end
def MtM (X:Cx)(id:String)(r:V->List V->Hp->VK->Prop):Prop:=
 ∀ (pins : List (Addr × Obj)) (s : Shared) (σ : St) (H : Hp) (x : V) (xs : List V) (v : Value) (us : List Value) (Q : VK), Inv X pins σ H s -> RelV x v -> Vals xs us -> r x xs H Q ->
   wpAny (model X.prog X.w) X.A (call (.builtin id) (v::us)) (EP X pins σ Q) X.xe s
theorem Vals.one {x:V}{us:List Value}(h:Vals [x] us):∃u,us=[u]/\RelV x u:=by
 cases h with | cons r h=>cases h;exact⟨_,rfl,r⟩
theorem Vals.zero:∀{us:List Value},Vals [] us->us=[]
 | _,.nil=>rfl
theorem Vals.dropLast {xs:List V}{us:List Value}(h:Vals xs us):Vals xs.dropLast us.dropLast:=by
 induction h with
 | nil=>exact .nil
 | cons r t ih =>
   cases t with
   | nil=>exact .nil
   | cons q t'=>exact .cons r ih
theorem MY {α:Type}(l:List α):l.eraseIdx (l.length - 1)=l.dropLast:=by
 induction l with
 | nil=>rfl
 | cons a r ih =>
   cases r with
   | nil=>rfl
   | cons b r =>
     have e:(a::b::r).length - 1=((b::r).length - 1) + 1:=by
       have h1:(a::b::r).length=r.length + 2:=rfl;have h2:(b::r).length=r.length + 1:=rfl;omega
     rw [e,List.eraseIdx_cons_succ,ih]
     all_goals rfl
section
variable {X:Cx}{pins:List (Addr×Obj)}{σ:St}{H:Hp}{s:Shared}{l b:Addr}{xs ys zs:List V}
theorem Inv.lset {its its':List Value}{n:Nat}{f:Array Value->Array Value}{t':Nat}(I:Inv X pins σ H s)(hH:H l=some (.lst xs))
   (e:s.heap.get? l=some { cls:=.type "list",data:=.seq its.toArray n }) (hf:f its.toArray=its'.toArray) (hv:Vals ys its') (hz:ys.length<=B0) :
   Inv X pins σ (upd H l (.lst ys)) { s with heap:=s.heap.update l (P9 f),toks:=t' }:=by
 have q:=PySem.IsL.update e f;rw [hf] at q;refine I.write (x:=l) (e:=l) (by rw [hH];exact trivial) (.inl rfl) (fun b' u hb hu=>(AS s.heap (P9 f) (Ne.symm hb)).trans hu) ⟨_,q⟩ ?_;exact⟨hz,its',_,hv,q⟩
theorem Inv.fresh (I:Inv X pins σ H s):H s.heap.objs.size=none:=I.hok.fresh (A9 _)
theorem Inv.lstM (I:Inv X pins σ H s)(hH:H l=some (.lst xs)):xs.length<=B0/\∃(its:List Value) (n:Nat),Vals xs its/\xs.length=its.length/\s.heap.get? l=some { cls:=.type "list",data:=.seq its.toArray n }:=by
 obtain⟨z,its,n,r,e⟩:=I.hok l _ hH;exact⟨z,its,n,r,r.length,e⟩
theorem Jt {n:Nat}(h:n<=B0):Cj n=false:=by
 unfold Cj;exact decide_eq_false (by omega)
end
section
variable {X:Cx}
def Ju:V->List V->Hp->VK->Prop:=fun x vs H Q=>∃l xs y,x=.ref l/\vs=[y]/\H l=some (.lst xs)/\xs.length < B0/\Q .non (upd H l (.lst (xs++[y])))
theorem Jv:MtM X "list.append" Ju:=by
 intro pins s σ H x vs v us Q I rx rv h;obtain⟨l,xs,y,rfl,rfl,hH,hz,q⟩:=h;cases rx;obtain⟨u,rfl,ru⟩:=rv.one;obtain⟨z,its,n,r,hl,e⟩:=I.lstM hH;refine call_meets F.slot_list_append ⟨_,e,rfl⟩ F.entry_list_append (F.args_list_append_2 _ _) (PySem.list_append l its.toArray n u (by rw [D8];omega)) ⟨e,?_⟩;refine⟨.non,_,I.lset (its':=its++[u]) hH e (by simp) (r.append (.cons ru .nil)) ?_,rfl,q⟩;rw [E2,Z8];omega
def rPop:V->List V->Hp->VK->Prop:=fun x vs H Q=>∃l xs y,x=.ref l/\vs=[]/\H l=some (.lst xs)/\xs[xs.length - 1]?=some y/\Q y (upd H l (.lst xs.dropLast))
theorem mt_pop:MtM X "list.pop" rPop:=by
 intro pins s σ H x vs v us Q I rx rv h;obtain⟨l,xs,y,rfl,rfl,hH,hy,q⟩:=h;cases rx;have hus:=rv.zero;subst hus;obtain⟨z,its,n,r,hl,e⟩:=I.lstM hH;obtain⟨u,hu,ru⟩:=r.get hy
 have hy':its.toArray[its.toArray.size - 1]?=some u:=by
   show its.toArray[its.length - 1]?=some u;rw [<- O0,<- hl];exact hu
 refine call_meets F.slot_list_pop ⟨_,e,rfl⟩ F.entry_list_pop (F.args_list_pop_1 _) (MeetsSeq.list_pop_last l its.toArray n u hy' (by rw [D8];omega)) ⟨e,?_⟩;refine⟨y,_,I.lset (its':=its.dropLast) hH e ?_ r.dropLast ?_,ru,q⟩
 · show its.toArray.eraseIdxIfInBounds (its.toArray.size - 1)=its.dropLast.toArray;rw [D8,List.eraseIdxIfInBounds_toArray,MY]
 · rw [List.length_dropLast];omega
end
end L2
namespace Att
open PySem PySem.W PySem.Calls PyProof.Rows
theorem MZ {P:Params}{h:Heap}:∀(ns:List Int) (vs:List Value),WellAll P h vs (ns.map WData.int)->IntsAre vs ns:=by
 intro ns
 induction ns with
 | nil =>
   intro vs w;rw [j3] at w;cases w;exact .nil
 | cons n ns ih =>
   intro vs w;rw [F3] at w;cases w with
   | cons a b =>
     cases a;exact .cons _ _ (ih _ b)
theorem M_ {l:OpenLaw}{n:Nat}(hn:l.most=some n){P:Params}{h:Heap}{args:List WData}{vals:List Value}
   (hpre:l.row.toRowW.claim.pre args=true) (hwl:WellAll P h vals args) :
   ∃a vs ns,vals=[K0 a]/\args=[WData.list (ns.map WData.int)]/\h.get? a=some { cls:=.type "list",data:=.seq vs.toArray }/\IntsAre vs ns/\ns.length<=n:=by
 have hsh:WShape.hasAll [] args [.list .int]=true:=(pre_splitW hpre).1;have hc:l.pre.holds [] { args:=args }=true:=(pre_splitW hpre).2;obtain⟨d,r,rfl,h1,h2⟩:=hasAllW_cons hsh;obtain rfl:=hasAllW_nil h2;obtain⟨xs,rfl,h3⟩:=hasW_list h1;obtain⟨ns,rfl⟩:=items_int h3
 have hlen:ns.length<=n:=by
   unfold OpenLaw.pre at hc
   have h4:(WTm.not (.lt (.lit (.int (n:Int))) (.len (.arg 0)))).holds [] { args:=[.list (ns.map .int)] }=true:=by
     have h4:=(holds_andW hc).1;rw [hn] at h4;exact h4
   have h5:=condW_of h4 (w_not (w_lt w_lit (w_len_list (w_arg rfl))));rw [A7] at h5;refine Ah fun q=>?_;have q':(n:Int) < ((ns.length:Nat):Int):=by omega
   first
     | (rw [decide_eq_true q'] at h5;exact absurd h5 (by decide))
     | (simp at h5;omega)
 cases hwl with
 | cons w1 w2 =>
   cases w2;cases w1 with
   | list ho hall=>exact⟨_,_,ns,rfl,rfl,ho,MZ ns _ hall,hlen⟩
theorem Na (l:OpenLaw)(args:List WData):l.row.toRowW.claim.post args (.bool true) args=true:=
 postW_of (r:=l.row.toRowW) (X:=(true == true))
   (show WShape.has [] (.bool true) .bool=true by first | rfl | decide | simp [WShape.has,WShape.arms,WShape.armsAll])
   (show(WTm.eq .res (.lit (.bool true))).value [] { args:=args,res:=some (.bool true),after:=args }=some (.bool (true == true)) from w_eq_bool (w_res rfl) w_lit) rfl
theorem attach_call {l:OpenLaw}{n:Nat}{q:B2}{loose:List Str}{XP:(Str->Option Value)->Heap->Prop}{YP:World->Heap->Prop}{d:DefRec}
   (hn:l.most=some n) (hdf:d.params.defaults=[])
   (call:∀(w:World) (s₀ s₁:Shared) (mg mb:Str->Option Value) (fa:Addr) (o:Obj) (pm cd doc:Value) (a:Addr) (vs:List Value) (ns:List Int),
     Ground q loose [] XP w s₀ mg mb s₁.heap->YP w s₁.heap->
     s₁.heap.get? fa=some o->o.data=.func (docDef d.name d.params d.body d.scope pm cd doc)->s₁.heap.CodeRec cd d.name->mg d.name=some (.ref fa)->
     s₁.heap.get? a=some { cls:=.type "list",data:=.seq vs.toArray }->IntsAre vs ns->ns.length<=n->s₁.gens=#[]->
     K3 (model l.prog w) callerA (.call (.ref fa) ⟨[.ref a],[]⟩) (fun r s'=>r=.ok (.ret (.bool true))/\OldK s₁.heap s'.heap/\s'.os=s₁.os/\AllBare s'.gens) s₁) :
   WalkO q loose XP YP l.row.toRowW d [] (fun f vs=>PySem.call f vs):=by
 intro w s₀ s₁ mg mb G Y fa o pm cd doc dV kV ho hd hcd hD hmg hg args vals as hpre hlay hrd hwl hlo;obtain rfl:dV=.none:=Dflts.none hD hdf;obtain rfl:kV=.none:=Dflts.noKw hD;obtain⟨a,vs,ns,rfl,rfl,hobj,hints,hlen⟩:=M_ hn hpre hwl;refine enter_call (p7 (call w s₀ s₁ mg mb fa o pm cd doc a vs ns G Y ho (fd_plain hd) hcd hmg hobj hints hlen hg) fun r s' hq=>?_);obtain⟨rfl,h2,h3,h4⟩:=hq;exact⟨.inl ⟨.bool true,.bool true,[],rfl,fun _=>rfl,.bool true,Na l _,fun _=>⟨Go,fun _ hm=>(nomatch hm)⟩⟩,h2,h3,h4⟩
end Att
namespace L2
open PySem PySem.Spec PyProof.Rows
theorem Nb {vs:List Value}{ns:List Int}(h:IntsAre vs ns):Vals (ns.map V.int) vs:=by
 induction h with
 | nil=>exact .nil
 | cons n t _ ih=>exact .cons ⟨t,rfl⟩ ih
def Only (H:Hp):Prop:=∀b,H b=none\/∃o xs,H b=some (.frz o (.lst xs))
theorem Nc {P:B2}{w:World}{K:A5}{mg mb:Str->Option Value}{CX:CXT}{k:Nat}{fa a:Addr}{fd:W0}{x:Str}{sp:Sp}{s₁:Shared}{vs:List Value}{ns:List Int}
   (KX:K.In s₁.heap) (hns:s₁.heap.Ns V8 mg) (hb:s₁.heap.Ns builtinsNs mb) (hbb:∀x:Str,x≠"__name__"->mb x=N0 x) (hlim:s₁.heap.NoLimit) (hg:s₁.gens=#[])
   (ha:s₁.heap.get? a=some { cls:=.type "list",data:=.seq vs.toArray }) (hi:IntsAre vs ns) (hl:ns.length<=B0) (hr:Room k callerA)
   (F:∀base:Heap,K.In base->base.Ns V8 mg->FnOk P w K mg base CX k fa fd [x] sp) (hbind:∀(s:Shared) (u:Value),BindsTo s fd ⟨[u],[]⟩ [(x,u)])
   (hsp:∀H:Hp,Only H->SqL K H a (ns.map V.int)->sp [.ref a] H (fun v _=>v=.bl true) fun _ _ _=>False)
   (hCX:∀H e s',CX [] H s₁ (fun _ _ _=>False) e s'->False) :
   K3 (model P w) callerA (.call (.ref fa) ⟨[.ref a],[]⟩) (fun r s'=>r=.ok (.ret (.bool true))/\OldK s₁.heap s'.heap/\s'.os=s₁.os/\AllBare s'.gens) s₁:=by
 have rv:=Nb hi;have lenV:=hi.length
 -- from an abstract heap in which nothing but the script may be tracked
 have core:∀H:Hp,Only H->SqL K H a (ns.map V.int)->HOk P w H s₁.heap->(∀b,H b≠none->b=a)->(H a≠none->K.lookup a=none)->
     K3 (model P w) callerA (.call (.ref fa) ⟨[.ref a],[]⟩) (fun r s'=>r=.ok (.ret (.bool true))/\OldK s₁.heap s'.heap/\s'.os=s₁.os/\AllBare s'.gens) s₁:=by
   intro H hO hS hok hA hK;have base_of:∀{b:Addr} {o:Obj},s₁.heap.get? b=some o->H b=none->(hidT s₁.heap H).get? b=some o:=fun e n=>Mh e n
   have noA:∀{b:Addr} {o:Obj} {es:Array Aa} {ep:Nat},s₁.heap.get? b=some o->o.data=.dict es ep->H b=none:=fun {b o es ep} e d=>by
     cases q:H b with
     | none=>rfl
     | some u =>
       have e':b=a:=hA b (by rw [q];simp);subst e';rw [ha] at e;cases e;have d':Data.seq vs.toArray _=Data.dict es ep:=d;cases d'
   have nsK:∀{b:Addr} {m:Str->Option Value},s₁.heap.Ns b m->(hidT s₁.heap H).Ns b m:=fun {b m} ⟨o,es,ep,e,d,r⟩=>⟨o,es,ep,base_of e (noA e d),d,r⟩
   have hKb:K.In (hidT s₁.heap H):=fun b o e=>base_of (KX b o e) (by
     cases q:H b with
     | none=>rfl
     | some u =>
       have e':b=a:=hA b (by rw [q];simp);subst e'
       rw [hK (by rw [q];simp)] at e;cases e)
   have hM:Mod K mg (hidT s₁.heap H):=⟨hKb,nsK hns,⟨mb,nsK hb,hbb⟩,let ⟨mc,h1,h2⟩:=hlim;⟨mc,nsK h1,h2⟩⟩;have e0:Env0 P w K mg (hidT s₁.heap H) callerA [] s₁ H:=⟨rfl,hM,fun b o e=>Mi e,Nat.le_of_eq (Mg _ _),trivial,fun b hb=>absurd (show b∈([]:List Addr) from hb) (by simp),hok,.of_eq hg,(hO L9).imp id fun⟨o,xs,e⟩=>⟨o,_,e⟩⟩;refine p7 ((F _ hKb (nsK hns)).run callerA [] s₁ H ⟨[.ref a],[]⟩ [.ref a] [.ref a] _ _ hr e0 (hbind s₁ (.ref a)) (.cons rfl .nil) (hsp H hO hS)) fun r s' h=>?_;cases r with
   | error e=>exact(hCX H e s' h).elim
   | ok fl =>
     cases fl with
     | next=>exact c8 h
     | brk=>exact c8 h
     | cont=>exact c8 h
     | ret u =>
       obtain⟨v,H',os,bare,un,hok',r',q⟩:=h;have q':v=.bl true:=q;subst q';obtain rfl:u=Value.bool true:=r';refine⟨rfl,OldK.of_keep fun b o e=>?_,os,bare⟩;cases q:H b with
       | none=>exact un.keep b o e q (by intro z;exact absurd (show b∈([]:List Addr) from z) (by simp)) (by simp)
       | some u =>
         rcases hO b with z | ⟨ob,xs,z⟩
         · rw [q] at z;cases z
         · have z2:=un.frzs b ob _ z;obtain⟨e1,_⟩:=hok b _ z;obtain⟨e2,_⟩:=hok' b _ z2;rw [e] at e1;cases e1;exact e2
 cases hk:K.lookup a with
 | some o =>
   -- the script is one of the module's own objects
   have e:=KX a o hk;rw [ha] at e;cases e;refine core (fun _=>none) (fun _=>.inl rfl) (.inr ⟨_,vs.toArray,_,hk,rfl,rfl,rfl,by rw [D8,lenV];exact hl,by simpa using rv⟩) (fun b u z=>by have z':(none:Option HO)=some u:=z;cases z') (fun b z=>absurd rfl z) fun z=>absurd rfl z
 | none =>
   refine core (fun b=>if b=a then some (.frz { cls:=.type "list",data:=.seq vs.toArray } (.lst (ns.map V.int))) else none) (fun b=>?_) (.inl (.inr ⟨{ cls:=.type "list",data:=.seq vs.toArray },if_pos rfl⟩)) (fun b u z=>?_) (fun b z=>?_) fun _=>hk
   · by_cases hb:b=a
     · exact .inr ⟨_,_,if_pos hb⟩
     · exact .inl (if_neg hb)
   · by_cases hb:b=a
     · have z':=(if_pos hb).symm.trans z;cases z';subst hb;exact⟨ha,by rw [A7];exact hl,vs,_,rv,ha⟩
     · have z':=(if_neg hb).symm.trans z;cases z'
   · by_cases hb:b=a
     · exact hb
     · exact absurd (if_neg hb) z
abbrev KOf {K:A5}{h:Heap}(_:K.In h):A5:=K
theorem Nd {l:PySem.W.OpenLaw}{n k:Nat}{q:B2}{loose:List Str}{XP:(Str->Option Value)->Heap->Prop}{YP:World->Heap->Prop}{d:DefRec}{K:Params->A5}{CX:World->CXT}{sp:World->Sp}{x:Str}
   (hn:l.most=some n) (hn2:n<=B0) (hdf:d.params.defaults=[]) (hr:Room k callerA)
   (hY:∀(w:World) (h:Heap),YP w h->(K w.params).In h)
   (F:∀(w:World) (mg:Str->Option Value) (fa:Addr) (h:Heap),(K w.params).In h->h.Ns V8 mg->mg d.name=some (.ref fa)->
     ∃ fd : W0, (∀ (s : Shared) (u : Value), BindsTo s fd ⟨[u], []⟩ [(x, u)]) /\
       ∀base:Heap,(K w.params).In base->base.Ns V8 mg->FnOk l.prog w (K w.params) mg base (CX w) k fa fd [x] (sp w))
   (hsp:∀(w:World) (H:Hp) (a:Addr) (ns:List Int),ns.length<=n->Only H->SqL (K w.params) H a (ns.map V.int)->sp w [.ref a] H (fun v _=>v=.bl true) fun _ _ _=>False)
   (hCX:∀(w:World) (H:Hp) (s:Shared) (e:Value) (s':Shared),CX w [] H s (fun _ _ _=>False) e s'->False) :
   PySem.W.WalkO q loose XP YP l.row.toRowW d [] (fun f vs=>PySem.call f vs):=by
 refine Att.attach_call hn hdf fun w s₀ s₁ mg mb fa o pm cd doc a vs ns G Y ho hd hcd hmg hobj hints hlen hg=>?_;have KX:=hY w _ Y;obtain⟨fd,hb,hF⟩:=F w mg fa _ KX G.T.g hmg;exact Nc KX G.T.g G.T.b G.T.builtins G.T.nolimit hg hobj hints (L4 hlen hn2) hr hF hb (fun H hO hS=>hsp w H a ns hlen hO hS) fun H e s'=>hCX w H s₁ e s'
def k7 (s:Stmt):Arguments:=match s with
 | .FunctionDef _ a _ _ _ _ _ _ _ _=>a
 | _=>{ posonlyargs:=[],args:=[],vararg:=none,kwonlyargs:=[],kw_defaults:=[],kwarg:=none,defaults:=[] }
def U5 (s:Stmt):List Stmt:=match s with
 | .FunctionDef _ _ b _ _ _ _ _ _ _=>b
 | _=>[]
def C5 (s:Stmt):Scope:=match s with
 | .FunctionDef _ _ _ _ _ _ sc _ _ _=>sc
 | _=>{ kind:=.function,names:=[],isGenerator:=false,isCoroutine:=false }
abbrev CX0:CXT:=fun _ _ _ _ _ _=>False
abbrev E0:XK:=fun _ _ _=>False
theorem pass0 {X:Cx}:Gz CX0 X E0:=fun _ _ _ _ _ _ _ h=>h.elim
structure Fun (K:A5)(x qual:Str)(st:Stmt)(f:Addr)(fd:W0):Prop where
 ex:∃(oc:Value) (od:Option Addr) (kV doc pm:Value) (an:Option Addr) (cdv ct:Value) (osl:Array (Option Value)),
   fd=X6 x qual (k7 st) (U5 st) (C5 st) .none kV doc pm an cdv ct/\K.lookup f=some ⟨oc,od,.func fd,osl⟩/\DC K cdv qual=true
 kp:BV K (.ref f)=true
section
variable {P:B2}{w:World}{K:A5}{mg:Str->Option Value}{base:Heap}
variable {qual:Str}
theorem Fun.ok {x:Str}{st:Stmt}{f:Addr}{fd:W0}{N ps:List Str}{k:Nat}{sp:Sp}(F:Fun K x qual st f fd)(S:D6 N ps (C5 st))(len:∀vs H Q E,sp vs H Q E->vs.length=ps.length)
   (hbody:∀(cdv:Value) (A:Around) (outer:List Env) (s:Shared) (H:Hp) (vs:List V) (Q:VK) (E:XK),Room k (A.deeper (envOfC qual (C5 st) s.heap.objs.size f cdv))->sp vs H Q E->
     ∃t,PSs (cxOf CX0 P w K mg base N qual (C5 st) f cdv A outer s H E).nox (U5 st) t/\t { nx:=fun _ H'=>Q .non H',rt:=Q } (start N vs) H):FnOk P w K mg base CX0 (k + 1) f fd ps sp:=by
 obtain⟨oc,od,kV,doc,pm,an,cdv,ct,osl,rfl,lk,hcd⟩:=F.ex;refine fn_of lk hcd S len fun A outer s H vs Q E hr hsp=>?_;obtain⟨t,h,q⟩:=hbody cdv A outer s H vs Q E hr hsp;exact⟨t,h.nox,q⟩
theorem Fun.binds {x:Str}{st:Stmt}{f:Addr}{fd:W0}{ps:List Str}(F:Fun K x qual st f fd)
   (h:∀(kV doc pm:Value) (an:Option Addr) (cdv ct:Value) (us:List Value),us.length=ps.length->bindArgs (X6 x qual (k7 st) (U5 st) (C5 st) .none kV doc pm an cdv ct) ⟨us,[]⟩=pure (ps.zip us)):Bt K fd ps []:=by
 obtain⟨oc,od,kV,doc,pm,an,cdv,ct,osl,rfl,lk,hcd⟩:=F.ex;exact .all (h kV doc pm an cdv ct)
theorem fun_mk {x:Str}{st:Stmt}{f:Addr}{oc:Value}{od an:Option Addr}{osl:Array (Option Value)}{kV doc pm cdv ct:Value}(l:K.lookup f=some ⟨oc,od,.func (X6 x qual (k7 st) (U5 st) (C5 st) .none kV doc pm an cdv ct),osl⟩)
   (c:DC K cdv qual=true) (k:BV K (.ref f)=true):Fun K x qual st f (X6 x qual (k7 st) (U5 st) (C5 st) .none kV doc pm an cdv ct):=⟨⟨oc,od,kV,doc,pm,an,cdv,ct,osl,rfl,l,c⟩,k⟩
end
theorem hu_of {A:Around}{k:Nat}(hr:Room k A):A.units + 1 < cLine:=j6 (Nat.add_le_add_left (by decide:1<=64) _) hr.units
section
variable {X:Cx}
theorem pv (i:Nat){x:Str}{pos:Pos}(hN:X.N[i]?=some x:=by rfl)(hv:Vis X.env.scope x:=by first | exact Or.inl rfl | exact Or.inr (Or.inl rfl) | exact Or.inr (Or.inr rfl))(hd:(x == ("__debug__":Str))=false:=by decide)
   (hcd:(x == ("__classdict__":Str))=false:=by decide):PE X (.Name x pos) (tVar i):=IY hN hv hd hcd
end
theorem iteF {A B:Prop}(h:B):if false=true then A else B:=by
 rw [if_neg J3];exact h
theorem iteT {A B:Prop}(h:A):if true=true then A else B:=by
 rw [if_pos rfl];exact h
theorem ite2 {c A B:Prop}[Decidable c](h1:c->A)(h2:¬c->B):if c then A else B:=by
 by_cases h:c
 · rw [if_pos h];exact h1 h
 · rw [if_neg h];exact h2 h
def Same (H H':Hp):Prop:=∀b o,H b=some o->H' b=some o
theorem Same.refl (H:Hp):Same H H:=fun _ _ h=>h
theorem Same.trans {H H1 H2:Hp}(a:Same H H1)(b:Same H1 H2):Same H H2:=fun c o h=>b c o (a c o h)
end L2
end
section
namespace L2
open PySem PySem.Spec PyProof.Rows
variable {iter:Expr}{cl:List (Str×Addr)}{cs:List (Option Nat)}{J:It}{tn:Nat->Heap->Prop}{Y:Cx}{W:Nat->Nat->St->Hp->Prop}{tt:TT}
theorem Jw {prog:B2}{w:World}{A:Around}{R:Result->Shared->Prop}{s:Shared}{elt target:Expr}{ifs:List Expr}{scope:Scope}{pos:Pos}{it acc:Value}{env:Env}(I:Nat->Shared->Prop)
   (turn:∀n s,I n s->wpAny (model prog w) A (pyNext it) (fun r s₁=>match r with
     | none=>R (.ok .next) s₁
     | some v=>wpAny (model prog w) A (o9 target it v) (fun _ s₁'=>wpAny (model prog w) A (assign target env v) (fun _ s₂=>
         wpAny (model prog w) A (forIn ifs true fun c r=>if r=true then do let ok ← isTrue c env (eval c env);pure (u9 ok) else pure (u9 r)) (fun ok s₃=>
           if ok=true then wpAny (model prog w) A (eval elt env) (fun x s₄=>
             wpAny (model prog w) A (call (.builtin "list.append") [acc,x]) (fun _ s₅=>∃m,m < n/\I m s₅) (fun _ _=>False) s₄) (fun _ _=>False) s₃
           else ∃m,m < n/\I m s₃) (fun _ _=>False) s₂) (fun _ _=>False) s₁') (fun _ _=>False) s₁) (fun _ _=>False) s)
   (n:Nat) (h:I n s) :
   K3 (model prog w) A (.compLoop (.ListComp elt [⟨target,iter,ifs,0⟩] scope pos) 0 it acc env) R s:=by
 refine codeAny_loop rfl I (fun n s hI=>?_) n h;show wpAny _ A ((compTurn (.ListComp elt [⟨target,iter,ifs,0⟩] scope pos) 0 it acc env).onRaise (fun x=>do noteFrame x env;theTreesLotGoes x)) _ _ s;refine wpAny_noted ?_;rw [compTurn_list];refine A0 (Z4 (A0 (F9 (turn n s hI) (fun r s₁ h₁=>?_) fun _ _ h'=>h'.elim)));cases r with
 | none=>exact A4 h₁
 | some v =>
   refine A0 (F9 h₁ (fun _ s₁' h₁'=>?_) fun _ _ h'=>h'.elim);refine A0 (F9 h₁' (fun _ s₂ h₂=>A0 (F9 h₂ (fun ok s₃ h₃=>?_) fun _ _ h'=>h'.elim)) fun _ _ h'=>h'.elim);cases ok with
   | false=>exact A4 ⟨rfl,h₃⟩
   | true =>
     exact A0 (A0 (F9 h₃ (fun x s₄ h₄=>A0 (F9 h₄ (fun _ s₅ h₅=>A4 (A4 ⟨rfl,h₅⟩)) fun _ _ h'=>h'.elim)) fun _ _ h'=>h'.elim))
def E7 (X:Cx)(scope:Scope)(cl:List (Str×Addr))(N:List Str)(fp:List Addr)(C:Addr)(s:Shared)(H:Hp):Cx where
 prog:=X.prog
 w:=X.w
 K:=X.K
 mg:=X.mg
 base:=X.base
 A:=X.A
 N:=N
 s₀:=s
 H₀:=H
 env:=compEnvC scope cl C X.env
 outer:=X.stack
 stack:=X.stack
 ex:=fp
 fn:=fun _=>false
 calm:=X.calm
 pn:=X.pn
 xe:=fun _ _=>False
structure v4 (X:Cx)(scope:Scope)(cl:List (Str×Addr))(N:List Str)(cs:List (Option Nat)):Prop where
 clos:closureFor scope X.env=pure cl
 kind:scope.kind=.function
 nocell:∀y∈scope.names,y.2≠.cell
 names:∀y∈scope.names,y.2=.local->scope.names.lookup y.1=some .local
 sub:∀x c,cl.lookup x=some c->X.env.cells.lookup x=some c
 has:∀x,((relabel scope X.env).names.lookup x=some .cell\/(relabel scope X.env).names.lookup x=some .free)->∃c,cl.lookup x=some c
 len:cs.length=N.length
 cap:∀(k j:Nat) (x:Str),cs[k]?=some (some j)->N[k]?=some x->X.N[j]?=some x/\Vis X.env.scope x/\X.env.kindOf x≠some .local/\(∃c,cl.lookup x=some c)/\((relabel scope X.env).names.lookup x=some .cell\/(relabel scope X.env).names.lookup x=some .free)
def Cw:List (Str×Addr)->List (Str×Addr)->Prop
 | [],_=>True
 | y::r,cells=>cells.lookup y.1=some y.2/\Cw r cells
theorem Cw.get:∀{cl cells:List (Str×Addr)},Cw cl cells->∀x c,cl.lookup x=some c->cells.lookup x=some c
 | [],_,_,_,_,h=>by cases h
 | (y, d) :: r, cells, ⟨h1, h2⟩, x, c, h => by
   rw [List.lookup_cons] at h;cases e:x == y with
   | true =>
     rw [e] at h;have ey:x=y:=by simpa using e
     cases h;rw [ey];exact h1
   | false=>rw [e] at h;exact Cw.get h2 x c h
theorem O2 {X:Cx}{scope:Scope}{N:List Str}(clos:closureFor scope X.env=pure cl)(kind:scope.kind=.function)(nocell:(scope.names.all fun y=>!(y.2 == .cell))=true)
   (names:(scope.names.all fun y=>!(y.2 == .local) || scope.names.lookup y.1 == some .local)=true) (sub:Cw cl X.env.cells)
   (has:((relabel scope X.env).names.all fun y=>!(y.2 == .cell || y.2 == .free) || (cl.lookup y.1).isSome)=true) (len:cs.length=N.length)
   (cap:((cs.zip N).all fun y=>match y.1 with | none=>true | some j=>X.N[j]? == some y.2 && (X.env.scope.names.lookup y.2 == some .cell || X.env.scope.names.lookup y.2 == some .free) && (cl.lookup y.2).isSome &&
     ((relabel scope X.env).names.lookup y.2 == some .cell || (relabel scope X.env).names.lookup y.2 == some .free))=true):v4 X scope cl N cs:=by
 refine⟨clos,kind,fun y hy=>?_,fun y hy e=>?_,sub.get,fun x hx=>?_,len,fun k j x hk hN=>?_⟩
 · have:=Q4.mp nocell y hy;intro z;rw [z] at this;cases this
 · have:=Q4.mp names y hy;rw [e] at this
   simpa using this
 · rcases hx with hx | hx
   · have:=Q4.mp has _ (y7 hx);exact Ef.mp (by simpa using this)
   · have:=Q4.mp has _ (y7 hx);exact Ef.mp (by simpa using this)
 · have hz:(cs.zip N)[k]?=some (some j,x):=by rw [List.getElem?_zip_eq_some];exact⟨hk,hN⟩
   have:=Q4.mp cap _ (G8 hz);simp only [u5,Bool.or_eq_true,beq_iff_eq] at this;obtain⟨⟨⟨h1,h2⟩,h3⟩,h4⟩:=this;refine⟨h1,?_,?_,Ef.mp h3,h4⟩
   · rcases h2 with h2 | h2
     · exact .inr (.inl h2)
     · exact .inr (.inr h2)
   · intro z;have z':X.env.scope.names.lookup x=some .local:=z;rw [z'] at h2;rcases h2 with h2 | h2 <;> cases h2
def Bv (cs:List (Option Nat))(σ:St):St:=cs.map fun o=>o.bind fun j=>(σ[j]?).bind id
def PIf (X:Cx)(ifs:List Expr)(t:TT):Prop:=
 ∀ (pins : List (Addr × Obj)) (s : Shared) (σ : St) (H : Hp) (Q : Bool -> Hp -> Prop), Inv X pins σ H s -> t σ H Q ->
   wpAny (model X.prog X.w) X.A (forIn ifs true fun c r=>if r=true then do let ok ← isTrue c X.env (eval c X.env);pure (u9 ok) else pure (u9 r)) (TP X pins σ Q) X.xe s
def tTru:TT:=fun _ H Q=>Q true H
theorem Nf {X:Cx}:PIf X [] tTru:=fun pins s σ H Q I h=>wpAny_tests_nil ⟨H,I,h⟩
theorem Ng {X:Cx}{c:Expr}{t:TT}(h:PT X c t):PIf X [c] t:=fun pins s σ H Q I hq=>wpAny_tests_one (h pins s σ H Q I hq)
def CompW (J:It)(g:TG)(tt:TT)(te:TE)(Q:VK)(D:Addr)(σc:St)(H1:Hp):Prop:=∃W:Nat->Nat->St->Hp->Prop,(∃m,W 0 m σc H1)/\
 ∀i m σ' H',W i m σ' H'->(J.stop i H'/\Q (.ref D) H')\/(J.go i H'/\∀x H2,J.yld i H' x H2->g x σ' H2 fun σ3 H3=>tt σ3 H3 fun b H4=>
    if b=true then te σ3 H4 fun v H5=>∃ys,H5 D=some (.lst ys)/\ys.length < B0/\∃m',m' < m/\W (i + 1) m' σ3 (upd H5 D (.lst (ys++[v])))
    else ∃m',m' < m/\W (i + 1) m' σ3 H4)
def tComp (cs:List (Option Nat))(wi:TI)(g:TG)(tt:TT)(te:TE):TE:=fun σ H Q=>wi σ H fun J H1=>∀D,H1 D=none->CompW J g tt te Q D (Bv cs σ) (upd H1 D (.lst []))
theorem GJ {X:Cx}{scope:Scope}{N:List Str}(S:v4 X scope cl N cs){pins:List (Addr×Obj)}{σ:St}{H:Hp}{s:Shared}{fp:List Addr}{h₁:Heap}{tk:Nat}
   (I:Inv X pins σ H s) (f2:∀b∈fp,FpOk X pins H b) (ho:∀b∈fp,∃o,s.heap.get? b=some o)
   (old:∀b o,s.heap.get? b=some o->h₁.get? b=some o) (hns:h₁.Ns (s.heap.objs.size + 1) (fun x=>([]:List (Str×Value)).reverse.lookup x))
   (hD:h₁.get? s.heap.objs.size=some { cls:=.type "list",data:=.seq ([]:List Value).toArray }) :
   Inv (E7 X scope cl N fp (s.heap.objs.size + 1) s H) pins (Bv cs σ) (upd H s.heap.objs.size (.lst [])) { s with heap:=h₁,toks:=tk }:=by
 have lt:∀b o,s.heap.get? b=some o->b < s.heap.objs.size:=fun b o e=>B9 e;have neC:∀b o,s.heap.get? b=some o->b≠s.heap.objs.size + 1:=fun b o e=>D0 (W7 (lt b o e));have neD:∀b o,s.heap.get? b=some o->b≠s.heap.objs.size:=fun b o e=>D0 (lt b o e);have nstk:∀b,b≠X.env.locals->b∉X.fs->b∉frs X.stack:=fun b h1 h2 hb=>(B7.mp (I.stkSub b hb)).elim h1 h2
 have cellO:∀x c,cl.lookup x=some c->∃v o,s.heap.get? c=some o/\s.heap.IsCell c v:=fun x c e=>by
   obtain⟨v,q⟩:=I.cell x c (S.sub x c e);obtain⟨o,h1,_⟩:=id q;exact⟨v,o,h1,q⟩
 refine⟨⟨I.ok.mod,S.kind,I.ok.glob,I.ok.blt,A_ _,fun x y c h1 h2=>I.ok.inj x y c (S.sub x c h1) (S.sub y c h2),fun x hx=>S.has x hx,fun x c hx=>(by cases hx),I.ok.hd,I.ok.frames,.inl rfl,fun b hb=>?_,I.bs,L4 I.ok.bsz I.sz,fun b o e hb=>?_,fun b hb=>?_,I.stack,I.stkFree,I.nos⟩,
   rfl,I.bare,Un.laid old (A9 _) I.fresh I.bigS,⟨_,hns,fun i x v e1 e2 e3=>?_⟩,fun x c e=>?_,?_,fun x c e=>?_,fun p hp=>?_,I.hok.laid old (A9 _) ⟨G4 _,[],0,.nil,hD⟩,?_⟩
 · obtain⟨o,e⟩:=ho b hb;exact⟨neC b o e,fun x c ec=>(f2 b hb).2.2.2.2.1 x c (S.sub x c ec)⟩
 · rcases(f2 b hb).2.2.2.1 with z | z
   · exact I.ok.noex b o e z
   · exact absurd (L3 (B9 e) (L4 I.ok.bsz z)) (R5 _)
 · exact nstk b (f2 b hb).2.1 (f2 b hb).2.2.1
 · have e2':(cs.map fun o=>o.bind fun j=>(σ[j]?).bind id)[i]?=some (some v):=e2;rw [D5] at e2';cases ec:cs[i]? with
   | none=>rw [ec] at e2';cases e2'
   | some o =>
     rw [ec] at e2';cases o with
     | none=>cases e2'
     | some j =>
       have e2'':(σ[j]?).bind id=some v:=by simpa using e2'
       cases es:σ[j]? with
       | none=>rw [es] at e2'';cases e2''
       | some ov =>
         rw [es] at e2'';have e4:ov=some v:=by simpa using e2''
         subst e4;obtain⟨hN,hv,hnl,⟨c,hc⟩,hk⟩:=S.cap i j x ec e1;obtain⟨m,hn,hl⟩:=I.loc;obtain⟨u,r,l⟩:=hl j x v hN es hv;refine⟨u,r,?_⟩;rcases l with⟨hk',_⟩ | ⟨_,c',hc',z⟩
         · exact absurd hk' hnl
         · have ecc:c'=c:=by
             have:=S.sub x c hc;rw [hc'] at this;exact J9 this
           subst ecc;obtain⟨o,h1,h2⟩:=z;exact .inr ⟨hk,c',hc,⟨o,old _ o h1,h2⟩⟩
 · obtain⟨v,o,h1,o',h2,h3⟩:=cellO x c e;exact⟨v,o',old _ o' h2,h3⟩
 · show upd H s.heap.objs.size (.lst []) (s.heap.objs.size + 1)=none;rw [C7 (Nat.succ_ne_self _)];exact I.hok.fresh (A_ _)
 · obtain⟨v,o,h1,_⟩:=cellO x c e;rw [C7 (neD c o h1)];exact I.freeC x c (S.sub x c e)
 · obtain⟨e,n,ne,nf,d⟩:=I.pin p hp;exact⟨old _ _ e,by rw [C7 (neD _ _ e)];exact n,neC _ _ e,nstk _ ne nf,d⟩
 · show(cs.map _).length=N.length;rw [A7];exact S.len
theorem Inv.uncomp {X:Cx}{scope:Scope}{N:List Str}{pins:List (Addr×Obj)}{σ σ':St}{H H':Hp}{s s':Shared}{fp:List Addr}{h':Heap}
   (I:Inv X pins σ H s) (f2:∀b∈fp,FpOk X pins H b)
   (J:Inv (E7 X scope cl N fp (s.heap.objs.size + 1) s H) pins σ' H' s') (hs:∀b,b≠s.heap.objs.size + 1->h'.get? b=s'.heap.get? b) :
   Inv X pins σ H' { s' with heap:=h' }:=by
 obtain⟨hh,g,d,t,os'⟩:=s';obtain rfl:os'=s.os:=J.os;have U:Un (frs X.stack) fp H H' s.heap hh:=J.base;have old:∀b o,s.heap.get? b=some o->b≠s.heap.objs.size + 1:=fun b o e=>D0 (W7 (B9 e));have hs':∀b,b≠s.heap.objs.size + 1->h'.get? b=hh.get? b:=hs
 have trC:∀b u,H' b=some u->b≠s.heap.objs.size + 1:=fun b u e z=>by
   have q:H' (s.heap.objs.size + 1)=none:=J.free;rw [z,q] at e;cases e
 show Inv X pins σ H' { s with heap:=h',gens:=g,drawn:=d,toks:=t };refine I.call (h':=h') (g':=g) (d':=d) (t':=t) (ch:=fp) ⟨fun b o e n hb hx=>?_,fun b o e n hb hx=>?_,U.free,fun b o e hx=>?_,U.tups,U.frzs,U.tbls,U.sys⟩ (fun b u e=>?_) J.bare fun b hb=>?_
 · rw [hs' b (old b o e)];exact U.keep b o e n hb hx
 · rw [hs' b (old b o e)];exact U.slot b o e n hb hx
 · rw [hs' b (old b o e)];exact U.there b o e hx
 · refine(J.hok b u e).stay (fun c v hc q=>?_) (fun _ q=>q) fun _ _ q=>q
   have ne:c≠s.heap.objs.size + 1:=by
     rcases hc with z | z
     · rw [z];exact trC b u e
     · exact trC c _ z
   rw [hs' c ne];exact q
 · exact⟨(f2 b hb).2.2.2.1,(f2 b hb).2.1,(f2 b hb).2.2.2.2.1,(f2 b hb).2.2.2.2.2⟩
theorem GK {P:B2}{w:World}{K:A5}{tg:Expr}{fp:List Addr}{it:Addr}{pins:List (Addr×Obj)}{i n:Nat}{s5 s7:Shared}{σ7:St}{H7:Hp}(T:Turn P w K tg J fp it tn)(st5:tn (i + 1) s5.heap)(I7:Inv Y (pins++Br fp s5.heap) σ7 H7 s7)(n7:∃m',m' < n/\W (i + 1) m' σ7 H7):∃m,m < n/\∃i σ' H',Inv Y pins σ' H' s7/\tn i s7.heap/\(∀b∈fp,H' b=none)/\W i m σ' H':=by
 obtain⟨m',hm,w7⟩:=n7;have pn:∀b∈fp,∀o,s5.heap.get? b=some o->_:=fun b hb o e=>I7.pin (b,o) (P6 _ (P6 _ (Gw hb e)));refine⟨m',hm,i + 1,σ7,H7,I7.unpinned,T.keep _ _ _ st5 fun b hb o e=>(pn b hb o e).1,fun b hb=>?_,w7⟩;obtain⟨o,e,d⟩:=T.obj _ _ st5 b hb;exact(pn b hb o e).2.1
theorem GM {pins:List (Addr×Obj)}{tg elt:Expr}{ifs:List Expr}{g:TG}{te:TE}{fp:List Addr}{it D:Addr}{N:St->Hp->Prop}{Rn:Shared->Prop}(T:Turn Y.prog Y.w Y.K tg J fp it tn)(hc:Y.calm=true)(stat:∀{H':Hp},(∀b∈fp,H' b=none)->∀b∈fp,FpOk Y pins H' b)(hg:PG Y tg g)(hf:PIf Y ifs tt)(he:PE Y elt te)(fin:∀s σ H,Inv Y pins σ H s->N σ H->Rn s)
   (turn:∀i m σ' H',W i m σ' H'->(J.stop i H'/\N σ' H')\/(J.go i H'/\∀x H2,J.yld i H' x H2->g x σ' H2 fun σ3 H3=>tt σ3 H3 fun b H4=>
    if b=true then te σ3 H4 fun v H5=>∃ys,H5 D=some (.lst ys)/\ys.length < B0/\∃m',m' < m/\W (i + 1) m' σ3 (upd H5 D (.lst (ys++[v])))
    else ∃m',m' < m/\W (i + 1) m' σ3 H4)) (n:Nat) (s:Shared) (hI:∃i σ' H',Inv Y pins σ' H' s/\tn i s.heap/\(∀b∈fp,H' b=none)/\W i n σ' H') :
   wpAny (model Y.prog Y.w) Y.A (pyNext (.ref it)) (fun r s₁=>match r with
     | none=>Rn s₁
     | some v=>wpAny (model Y.prog Y.w) Y.A (o9 tg (.ref it) v) (fun _ s₁'=>wpAny (model Y.prog Y.w) Y.A (assign tg Y.env v) (fun _ s₂=>
         wpAny (model Y.prog Y.w) Y.A (forIn ifs true fun c r=>if r=true then do let ok ← isTrue c Y.env (eval c Y.env);pure (u9 ok) else pure (u9 r)) (fun ok s₃=>
           if ok=true then wpAny (model Y.prog Y.w) Y.A (eval elt Y.env) (fun x s₄=>
             wpAny (model Y.prog Y.w) Y.A (call (.builtin "list.append") [.ref D,x]) (fun _ s₅=>∃m,m < n/\∃i σ' H',Inv Y pins σ' H' s₅/\tn i s₅.heap/\(∀b∈fp,H' b=none)/\W i m σ' H') Y.xe s₄) Y.xe s₃
           else ∃m,m < n/\∃i σ' H',Inv Y pins σ' H' s₃/\tn i s₃.heap/\(∀b∈fp,H' b=none)/\W i m σ' H') Y.xe s₂) Y.xe s₁') Y.xe s₁) Y.xe s:=by
 obtain⟨i,σ3,H3,I3,st3,fr3,w3⟩:=hI;rcases turn i n σ3 H3 w3 with⟨stop,qn⟩ | ⟨go,step⟩
 · refine thn (T.done Y rfl rfl rfl hc i pins s σ3 H3 Y.xe I3 (stat fr3) st3 stop) fun r s4 ⟨hr,I4⟩=>?_;subst hr;exact fin s4 σ3 H3 I4 qn
 · refine thn (T.item Y rfl rfl rfl hc i pins s σ3 H3 Y.xe I3 (stat fr3) st3 go) fun r s4 ⟨u,hr,h4⟩=>?_;subst hr;refine thn h4 fun _ s5 ⟨x,H5,I5,r5,y5,st5,fr5⟩=>?_;refine thn (hg _ s5 σ3 H5 x u _ (I5.pinned (stat fr5) (T.obj _ _ st5)) r5 (step x H5 y5)) fun _ s6 ⟨σ6,H6,I6,q6⟩=>?_;refine thn (hf _ s6 σ6 H6 _ I6 q6) fun ok s7 ⟨H7,I7,q7⟩=>?_;cases ok with
   | false=>exact GK T st5 I7 q7
   | true =>
     refine thn (he _ s7 σ6 H7 _ I7 q7) fun y s8 ⟨v8,H8,I8,r8,ys,e8,z8,n8⟩=>?_;have ma:=Jv (X:=Y) _ s8 σ6 H8 (.ref D) [v8] (.ref D) [y] (fun v H9=>∃m',m' < n/\W (i + 1) m' σ6 H9) I8 rfl (.cons r8 .nil) ⟨_,ys,v8,rfl,rfl,e8,z8,n8⟩;exact thn ma fun _ s9 ⟨v9,H9,I9,_,q9⟩=>GK T st5 I9 q9
theorem Jx {X:Cx}{scope:Scope}{N:List Str}{elt tg:Expr}{ifs:List Expr}{pos:Pos}{wi:TI}{g:TG}{te:TE}(S:v4 X scope cl N cs)(hc:X.calm=true)(hi:PI X tg iter wi)
   (hb:∀(fp:List Addr) (C:Addr) (s:Shared) (H:Hp),PG (E7 X scope cl N fp C s H) tg g/\PIf (E7 X scope cl N fp C s H) ifs tt/\PE (E7 X scope cl N fp C s H) elt te)
   (hs:∀x,V6 iter X.env x=pure x:=by intro _;rfl) :
   PE X (.ListComp elt [⟨tg,iter,ifs,0⟩] scope pos) (tComp cs wi g tt te):=by
 intro pins s σ H Q I h;rw [eval_ListComp];refine FR (use:=none) rfl hs S.clos S.kind S.names (thn (hi pins s σ H _ I h) fun v s1 h1=>thn h1 fun itv s2 h2=>?_);obtain⟨it,fp,tn,J,H2,rfl,I2,T,st2,f2,q⟩:=h2
 have ho:∀b∈fp,∃o,s2.heap.get? b=some o:=fun b hb=>by
   obtain⟨o,e,_⟩:=T.obj 0 _ st2 b hb;exact⟨o,e⟩
 refine J8 (wpAny_newFunctionEnv S.nocell (by intro y hy;simp at hy) (fun h₁ hns₁ hsb₁=>?_) S.kind);dsimp only at hns₁ hsb₁ ⊢;have hC:(s2.heap.push { cls:=.type "list",dict:=none,data:=.seq ([]:List Value).toArray }).objs.size=s2.heap.objs.size + 1:=by rw [W4]
 generalize hH2:s2.heap.push { cls:=.type "list",dict:=none,data:=.seq ([]:List Value).toArray }=hp2 at hns₁ hsb₁ hC ⊢;have old:∀b o,s2.heap.get? b=some o->h₁.get? b=some o:=fun b o e=>hsb₁.extBut b o (by rw [hC];exact D0 (W7 (B9 e))) (B6 _ (hH2▸B6 _ e));have hD:h₁.get? s2.heap.objs.size=some { cls:=.type "list",data:=.seq ([]:List Value).toArray }:=hsb₁.extBut _ _ (by rw [hC];exact D0 (Ai _)) (B6 _ (hH2▸E1 _ rfl));rw [hC] at hns₁ ⊢;obtain⟨W,⟨m0,w0⟩,turn⟩:=q s2.heap.objs.size I2.fresh;have Ic:=GJ S (tk:=s2.toks + ([]:List (Str×Value)).length) I2 f2 ho old hns₁ hD;have nstk:∀b,b≠X.env.locals->b∉X.fs->b∉frs X.stack:=fun b h1 h2 hb=>(B7.mp (I2.stkSub b hb)).elim h1 h2
 have stat:∀{H':Hp},(∀b∈fp,H' b=none)->∀b∈fp,FpOk (E7 X scope cl N fp (s2.heap.objs.size + 1) s2 H2) pins H' b:=fun hn b hb=>by
   obtain⟨o,e⟩:=ho b hb;exact⟨hn b hb,D0 (W7 (B9 e)),nstk b (f2 b hb).2.1 (f2 b hb).2.2.1,.inl hb,fun x c ec=>(f2 b hb).2.2.2.2.1 x c (S.sub x c ec),(f2 b hb).2.2.2.2.2⟩
 obtain⟨hg,hf,he⟩:=hb fp (s2.heap.objs.size + 1) s2 H2;have st1:tn 0 h₁:=T.keep _ _ _ st2 fun b hb o e=>old b o e
 have fr1:∀b∈fp,upd H2 s2.heap.objs.size (.lst []) b=none:=fun b hb=>by
   obtain⟨o,e⟩:=ho b hb;rw [C7 (D0 (B9 e))];exact(f2 b hb).1
 have loop:∀s₃:Shared,s₃={ s2 with heap:=h₁,toks:=s2.toks + ([]:List (Str×Value)).length }->
     K3 (model X.prog X.w) X.A (.compLoop (.ListComp elt [⟨tg,iter,ifs,0⟩] scope pos) 0 (.ref it) (.ref s2.heap.objs.size) (compEnvC scope cl (s2.heap.objs.size + 1) X.env))
       (compPost (model X.prog X.w) X.A X.xe none (EP X pins σ Q) (.ref s2.heap.objs.size) (s2.heap.objs.size + 1)) s₃:=by
   rintro s₃ rfl;refine Jw _ (GM (Y:=E7 X scope cl N fp (s2.heap.objs.size + 1) s2 H2) T hc stat hg hf he (fun s4 σ3 H3 I4 qn=>?_) turn) m0 ⟨0,_,_,Ic,st1,fr1,w0⟩;obtain⟨m4,hn4,_⟩:=I4.loc;exact⟨m4,hn4,fun h' hs'=>⟨.ref s2.heap.objs.size,H3,Inv.uncomp I2 f2 I4 fun b hb=>hs'.2 b hb,rfl,qn⟩⟩
 exact FU (loop _ rfl) (T.self _ 0 _ _ _ st1 (loop _ rfl))
end L2
end
section
namespace L2
open PySem PySem.Spec PyProof.Rows
section
variable {X:Cx}
theorem Vals.getE {xs:List V}{us:List Value}(r:Vals xs us){j:Nat}(h:j < us.length):∃x,xs[j]?=some x/\RelV x us[j]:=by
 have hl:=r.length;have h':j < xs.length:=by omega
 obtain⟨u,e,q⟩:=r.get (i:=j) (x:=xs[j]) (by simp [h']);refine⟨xs[j],by simp [h'],?_⟩;have e':us[j]?=some us[j]:=by simp [h]
 rw [e'] at e;cases e;exact q
theorem Jy {x:V}(h:Q7 x=true):eqV x x=true:=by
 cases x <;> simp_all [Q7,eqV]
theorem Inv.turnedNew {pins:List (Addr×Obj)}{σ:St}{H:Hp}{s:Shared}{h':Heap}{t':Nat}{ch:List Addr}{xs:List V}(I:Inv X pins σ H s)(k:∀b o,b∉ch->s.heap.get? b=some o->h'.get? b=some o)
   (hf:∀b∈ch,FpOk X pins H b) (new:G5 X.prog X.w (upd H s.heap.objs.size (.tup xs)) h' s.heap.objs.size (.tup xs)):Inv X pins σ (upd H s.heap.objs.size (.tup xs)) { s with heap:=h',toks:=t' }:=by
 have nch:∀b u,H b=some u->b∉ch:=fun b u e z=>by rw [(hf b z).1] at e;cases e
 have nD:∀b o,s.heap.get? b=some o->b≠s.heap.objs.size:=fun b o e=>D0 (B9 e)
 refine I.step (g':=s.gens) (d':=s.drawn) (ch:=ch) (fun b hb=>⟨(hf b hb).2.2.2.1,(hf b hb).2.1,(hf b hb).2.2.2.2.1,(hf b hb).2.2.2.2.2⟩) (fun b o _ _ hc e _=>k b o hc e) (fun b o _ _ hc e _=>⟨o.slots,k b o hc e⟩) (fun b o _ e n=>by rw [C7 (nD b o e)];exact n)
   (fun b o hc e=>⟨o,k b o hc e⟩) (fun b ys e=>by rw [C7 (Y3 e I.fresh)];exact e) (fun b o u e=>by rw [C7 (Y3 e I.fresh)];exact e) (fun b ps e=>⟨#[],by rw [C7 (Y3 e I.fresh),e];simp⟩) (fun z=>by unfold NS;rw [C7 (D0 I.bigS)];exact z) (fun m hm=>?_) (fun b u e=>?_) I.bare
 · obtain⟨o,es,ep,ho,r⟩:=hm;exact⟨o,es,ep,k _ o (fun z=>(hf _ z).2.1 rfl) ho,r⟩
 · by_cases hb:b=s.heap.objs.size
   · subst hb;rw [D9] at e;cases e;exact new
   · rw [C7 hb] at e;refine(I.hok b u e).stay (fun c v hc q=>k c v ?_ q) (fun c q=>by rw [C7 (Y3 q I.fresh)];exact q) fun c ys q=>by rw [C7 (Y3 q I.fresh)];exact q
     rcases hc with z | z
     · rw [z];exact nch b u e
     · exact nch c _ z
end
end L2
end
section
namespace L2
open PySem PySem.Spec PyProof.Rows
theorem Ek:N0 "len"=some (.builtin "len"):=by decide +kernel
theorem bt_min:N0 "min"=some (.builtin "min"):=by decide +kernel
theorem GN:N0 "sorted"=some (.builtin "sorted"):=by decide +kernel
theorem bt_sum:N0 "sum"=some (.builtin "sum"):=by decide +kernel
theorem bt_repr:N0 "repr"=some (.builtin "repr"):=by decide +kernel
theorem bt_int:N0 "int"=some (.type "int"):=by decide +kernel
theorem Jz:N0 "list"=some (.type "list"):=by decide +kernel
theorem Nh:N0 "tuple"=some (.type "tuple"):=by decide +kernel
theorem JA:N0 "set"=some (.type "set"):=by decide +kernel
theorem at_map {ns:List Int}{k:Int}(h0:0<=k)(h:k < (ns.length:Int)):∃v,atI (ns.map V.int) k=some (.int v):=by
 have hk:k.toNat < ns.length:=by omega
 have q:atI (ns.map V.int) ((k.toNat:Nat):Int)=some (.int ns[k.toNat]):=GE (by rw [D5,C4 hk] <;> rfl)
 rw [show((k.toNat:Nat):Int)=k by omega] at q;exact⟨_,q⟩
structure Kn (P:B2)(w:World)(K:A5)(mg:Str->Option Value)(base:Heap)(x:Str)(k:Nat)(ps:List Str)(sp:Sp):Prop where
 ex:∃(f:Addr) (fd:W0),FnOk P w K mg base CX0 k f fd ps sp/\Bt K fd ps []/\BV K (.ref f)=true/\mg x=some (.ref f)/\∃oc od osl,K.lookup f=some ⟨oc,od,.func fd,osl⟩
structure Fn0 (K:A5)(mg:Str->Option Value)(x:Str)(st:Stmt):Prop where
 ex:∃(f:Addr) (fd:W0),Fun K x x st f fd/\mg x=some (.ref f)
theorem fn0_mk {K:A5}{h:Heap}{mg:Str->Option Value}{x:Str}{st:Stmt}(X:K.In h)(G:h.Ns V8 mg){f:Addr}{oc:Value}{od an:Option Addr}{osl:Array (Option Value)}{kV doc pm cdv ct:Value}
   (a:PySem.W.nsIn K V8 x=some (some (.ref f))) (l:K.lookup f=some ⟨oc,od,.func (X6 x x (k7 st) (U5 st) (C5 st) .none kV doc pm an cdv ct),osl⟩)
   (c:DC K cdv x=true) (k:BV K (.ref f)=true):Fn0 K mg x st:=⟨f,_,fun_mk l c k,PySem.W.mg_of X G a⟩
section
variable {P:B2}{w:World}{K:A5}{mg:Str->Option Value}{base:Heap}
theorem Fn0.ok {x:Str}{st:Stmt}{N ps:List Str}{k:Nat}{sp:Sp}(F:Fn0 K mg x st)(S:D6 N ps (C5 st))(len:∀vs H Q E,sp vs H Q E->vs.length=ps.length)
   (bd:∀(kV doc pm:Value) (an:Option Addr) (cdv ct:Value) (us:List Value),us.length=ps.length->bindArgs (X6 x x (k7 st) (U5 st) (C5 st) .none kV doc pm an cdv ct) ⟨us,[]⟩=pure (ps.zip us))
   (hbody:∀(f:Addr) (cdv:Value) (A:Around) (outer:List Env) (s:Shared) (H:Hp) (vs:List V) (Q:VK) (E:XK),Room k (A.deeper (envOfC x (C5 st) s.heap.objs.size f cdv))->sp vs H Q E->
     ∃t,PSs (cxOf CX0 P w K mg base N x (C5 st) f cdv A outer s H E).nox (U5 st) t/\t { nx:=fun _ H'=>Q .non H',rt:=Q } (start N vs) H):Kn P w K mg base x (k + 1) ps sp:=by
 obtain⟨f,fd,F1,m⟩:=F.ex
 have lk:∃oc od osl,K.lookup f=some ⟨oc,od,.func fd,osl⟩:=by
   obtain⟨oc,od,kV,doc,pm,an,cdv,ct,osl,_,lk,hcd⟩:=F1.ex;exact⟨oc,od,osl,lk⟩
 exact⟨f,fd,F1.ok S len fun cdv A outer s H vs Q E hr h=>hbody f cdv A outer s H vs Q E hr h,F1.binds bd,F1.kp,m,lk⟩
theorem Kn.imp {x:Str}{k:Nat}{ps:List Str}{sp sp':Sp}(G:Kn P w K mg base x k ps sp)(h:∀vs H Q E,sp' vs H Q E->sp vs H Q E):Kn P w K mg base x k ps sp':=by
 obtain⟨f,fd,a,b,c,d⟩:=G.ex;exact⟨f,fd,a.imp h,b,c,d⟩
end
section
variable {X:Cx}{x:Str}{p pos:Pos}{e:Expr}{es:List Expr}{t:TA}{ps:List Str}{sp:Sp}{j k:Nat}
theorem pe_fn (G:Kn X.prog X.w X.K X.mg X.base x k ps sp)(hr:Room j X.A)(hk:k<=j)(hg:Gl X x)(ha:PA X (e::es) t)(hdb:(x == ("__debug__":Str))=false:=by decide)
   (he:E4 (e::es) X.env=(false,eval e X.env)::E4 es X.env:=by rfl) (hpl:(backTo pos (E4 es X.env)).any (·.1)=false:=by rfl) :
   PE X (.Call (.Name x p) (e::es) [] pos) (tCall sp [] E0 t):=by
 intro pins s σ H Q I h;obtain⟨f,fd,F,hb,hkp,hm,_⟩:=G.ex;exact MI F (hr.mono hk) hg hm hkp hb .nil pass0 ha hdb he hpl pins s σ H Q I h
end
def Em (K:A5):Sp:=fun vs H Q _=>∃(a:Addr) (ns:List Int),vs=[.ref a]/\SqL K H a (ns.map V.int)/\ns.length<=63/\Only H/\∀H',Q (.bl true) H'
theorem Ni {l:PySem.W.OpenLaw}{q:B2}{loose:List Str}{XP:(Str->Option Value)->Heap->Prop}{YP:World->Heap->Prop}{d:DefRec}{K:Params->A5}{x:Str}{k:Nat}(hn:l.most=some 63)(hdf:d.params.defaults=[])(hk:Room k callerA)
   (hY:∀(w:World) (h:Heap),YP w h->(K w.params).In h)
   (F:∀(w:World) (mg:Str->Option Value) (h:Heap),(K w.params).In h->h.Ns V8 mg->∃st,Fn0 (K w.params) mg d.name st/\
     (∀(kV doc pm:Value) (an:Option Addr) (cdv ct:Value) (s:Shared) (u:Value),BindsTo s (X6 d.name d.name (k7 st) (U5 st) (C5 st) .none kV doc pm an cdv ct) ⟨[u],[]⟩ [(x,u)])/\
     ∀base:Heap,(K w.params).In base->base.Ns V8 mg->Kn l.prog w (K w.params) mg base d.name k [x] (Em (K w.params))) :
   PySem.W.WalkO q loose XP YP l.row.toRowW d [] (fun f vs=>PySem.call f vs):=by
 refine L2.Nd (n:=63) (k:=k) (x:=x) (CX:=fun _=>CX0) (sp:=fun w=>Em (K w.params)) hn (by decide) hdf hk hY (fun w mg fa h KX G hmg=>?_) (fun _ _ a ns hl hO hS=>⟨a,ns,rfl,hS,hl,hO,fun _=>rfl⟩) fun _ _ _ _ _ z=>z;obtain⟨st,F0,hb,hF⟩:=F w mg h KX G;obtain⟨f,fd,F1,m⟩:=F0.ex;have e:=hmg.symm.trans m;cases e;refine⟨fd,fun s u=>?_,fun base kb nb=>?_⟩
 · obtain⟨oc,od,kV,doc,pm,an,cdv,ct,osl,rfl,lk,hcd⟩:=F1.ex;exact hb kV doc pm an cdv ct s u
 · obtain⟨f',fd',a,b,c,m',oc',od',osl',lk'⟩:=(hF base kb nb).ex;have e:=m.symm.trans m';cases e;obtain⟨oc,od,kV,doc,pm,an,cdv,ct,osl,_,lk,hcd⟩:=F1.ex;have e2:=lk.symm.trans lk';cases e2;exact a
end L2
end
section
namespace L2
open PySem PySem.Spec PyProof.Rows
section
variable {X:Cx}
theorem Nj:OpR X (R0 .Mult) (fun x y H Q=>∃i n,x=.str i/\y=.int n/\i.length<=100/\0<=n/\n<=1000/\Q (.str (Txt.mul i n)) H):=by
 intro pins s σ H x y v u Q I rx ry h;obtain⟨i,n,rfl,rfl,h1,h2,h3,q⟩:=h;obtain⟨t,rfl⟩:=rx;obtain⟨t',rfl⟩:=ry;exact SB.mul (mulOk_of 100 1000 h1 h3 (by omega) (by decide) (by decide)) fun t' tk=>⟨.str _,H,I.tok _,⟨_,rfl⟩,q⟩
theorem Cy (x y:Str):(x++y).cps.toList=x.cps.toList++y.cps.toList:=by
 show(x.cps++y.cps).toList=_;simp
theorem Aw (x:Str):x.length=x.cps.toList.length:=by
 show x.cps.size=_;simp
def Low (l:List Nat):Prop:=∀c∈l,97<=c/\c<=122
theorem Low.app {a b:List Nat}(h:Low a)(h':Low b):Low (a++b):=fun c hc=>(K6.mp hc).elim (h c) (h' c)
end
theorem Same.lay {H H':Hp}{p:Addr}{o:HO}(s:Same H H')(h:H' p=none):Same H (upd H' p o):=fun b u e=>by
 rw [C7 (Y3 (s b u e) h)];exact s b u e
theorem Nk {c:TT}{t u:TS}{D:Ends}{σ:St}{H:Hp}(p:St->Hp->Prop)(h:(∀σ' H',p σ' H'->D.nx σ' H')->tIfS c t u D σ H)(hp:∀σ' H',p σ' H'->D.nx σ' H'):tIfS c t u D σ H:=h hp
theorem v5 {n:Nat}{d:Int}(h0:0<=d)(h1:d < n):ixN n d=some d.toNat:=by
 unfold ixN;rw [if_pos h0,if_pos h1]
theorem JB {α:Type}{xs:List α}{d:Int}(h0:0<=d)(h1:d < xs.length):∃x,xs[d.toNat]?=some x/\atI xs d=some x:=by
 have hk:d.toNat < xs.length:=by omega
 refine⟨xs[d.toNat],C4 hk,?_⟩;unfold atI;rw [v5 h0 h1];exact C4 hk
end L2
end
section
namespace L2
open PySem PySem.Spec PyProof.Rows
section
variable {X:Cx}
def rSlS:V->Option Int->Option Int->Hp->VK->Prop:=fun x lo hi H Q=>∃z,x=.str z/\z.length<=B0/\Q (.str (U4 z lo hi)) H
theorem sl_str:SlR X rSlS:=by
 intro pins s σ H x v vl vu lo hi sl Q I rx hs pl pu h;obtain⟨z,rfl,hz,q⟩:=h;obtain⟨t,rfl⟩:=rx;refine⟨"str",_,F.slot_str_getitem.lookup,typeIs_str _ _ _,?_⟩;cases pl with
 | none =>
   cases pu with
   | none=>exact Dt (l:=none) (u:=none) (st:=none) hs rfl (DA ⟨L4 (Bi z _ _) hz,fun t' k=>⟨.str _,H,I.tok _,⟨_,rfl⟩,q⟩⟩)
   | int j tj=>exact Dt (l:=none) (u:=some (j,tj)) (st:=none) hs rfl (DA ⟨L4 (Bi z _ _) hz,fun t' k=>⟨.str _,H,I.tok _,⟨_,rfl⟩,q⟩⟩)
 | int i ti =>
   cases pu with
   | none=>exact Dt (l:=some (i,ti)) (u:=none) (st:=none) hs rfl (DA ⟨L4 (Bi z _ _) hz,fun t' k=>⟨.str _,H,I.tok _,⟨_,rfl⟩,q⟩⟩)
   | int j tj=>exact Dt (l:=some (i,ti)) (u:=some (j,tj)) (st:=none) hs rfl (DA ⟨L4 (Bi z _ _) hz,fun t' k=>⟨.str _,H,I.tok _,⟨_,rfl⟩,q⟩⟩)
def rCatA (K:A5):R2:=fun x y H Q=>∃a b xs ys,x=.ref a/\y=.ref b/\SqT K H a xs/\SqT K H b ys/\xs.length + ys.length<=B0/\
 (xs=[]->Q (.ref b) H)/\(xs≠[]->ys=[]->Q (.ref a) H)/\(xs≠[]->ys≠[]->∀p,H p=none->Q (.ref p) (upd H p (.tup (xs++ys))))
theorem Nl:OpR X (R0 .Add) (rCatA X.K):=by
 intro pins s σ H x y v u Q I rx ry h;obtain⟨a,b,xs,ys,rfl,rfl,ha,hb,hz,q0,q1,q2⟩:=h
 by_cases hx:xs=[]
 · cases rx;cases ry;obtain⟨its,r1,p1,_⟩:=I.tuple ha;obtain⟨its2,r2,p2,_⟩:=I.tuple hb;obtain⟨⟨cls,dd,data,sl⟩,ho,hc,n,hd⟩:=id p1;obtain⟨⟨cls2,dd2,data2,sl2⟩,ho2,hc2,n2,hd2⟩:=id p2;simp only at hc hd hc2 hd2;subst hc hd hc2 hd2;have he:its=[]:=r1.nil_iff.mpr hx
   exact concat_meets ⟨_,ho,rfl⟩ ⟨_,ho2,rfl⟩ noFill_tuple_add seq_tuple_add Gm Gk (Gj _ _)
     (tuple_addW0 a b its.toArray its2.toArray n n2 dd dd2 sl sl2 (by simp [he])) ⟨ho,ho2,⟨.ref b,H,I,rfl,q0 hx⟩⟩
 · exact MP pins s σ H _ _ v u Q I rx ry ⟨a,b,xs,ys,rfl,rfl,ha,hb,hx,hz,q1 hx,q2 hx⟩
theorem Inv.big {pins:List (Addr×Obj)}{σ:St}{H:Hp}{s:Shared}(I:Inv X pins σ H s):L9 < s.heap.objs.size:=by
 have h:V8 < s.heap.objs.size:=(I.mod.glob.keeps I.bk).lt;exact j7 (by decide) h
theorem Nm {P:B2}{w:World}{H:Hp}(h:Heap)(hb:L9 < h.objs.size):G5 P w H (h.push { cls:=.type "dict",data:=.dict #[] }) h.objs.size (.dK []):=
 ⟨G4 _,beq_eq_false_iff_ne.mpr (Ne.symm (D0 hb)),[],.nil,Heap.DictOf.new h⟩
end
end L2
end
section
namespace Pu
open PySem PySem.Spec L2
inductive PV where
 | non | bl (b:Bool) | int (i:Int) | str (x:Str) | ty (n:String) | pot (k:Nat)
 | tup (xs:List PV) | lst (xs:List PV) | dct (ks:List Key) (xs:List PV)
 /-- the script -/
 | scr (ns:List Int)
 /-- a dict by tuples that nothing changes any more -/
 | fdt (ks:List (List Key)) (xs:List PV)
structure Gh where
 M:List Addr
 pots:List Addr
def KLst (K:A5)(a:Addr)(xs:List V):Prop:=∃(o:Obj) (its:Array Value) (n:Nat),K.lookup a=some o/\o.cls=.type "list"/\o.dict=none/\o.data=.seq its n/\its.size<=B0/\Vals xs its.toList
def AtL (M:List Addr)(H:Hp)(a:Addr)(xs:List V):Prop:=a∉M/\H a=some (.lst xs)
def AtT (M:List Addr)(H:Hp)(a:Addr)(xs:List V):Prop:=a∉M/\H a=some (.tup xs)
theorem AtL.sq {K:A5}{M:List Addr}{H:Hp}{a:Addr}{xs:List V}(h:AtL M H a xs):SqL K H a xs:=SqL.of h.2
theorem AtT.sq {K:A5}{M:List Addr}{H:Hp}{a:Addr}{xs:List V}(h:AtT M H a xs):SqT K H a xs:=SqT.of h.2
mutual
def Rep (K:A5)(G:Gh)(H:Hp):PV->V->Prop
 | .non,v=>v=.non
 | .bl b,v=>v=.bl b
 | .int i,v=>v=.int i
 | .str x,v=>v=.str x
 | .ty n,v=>v=.ty n
 | .pot k,v=>∃p,G.pots[k]?=some p/\v=.ref p
 | .tup xs,v=>∃a vs,v=.ref a/\AtT G.M H a vs/\Reps K G H xs vs
 | .lst xs,v=>∃a vs,v=.ref a/\AtL G.M H a vs/\Reps K G H xs vs
 | .scr ns,v=>∃a,v=.ref a/\((a∉G.M/\∃o,H a=some (.frz o (.lst (ns.map V.int))))\/KLst K a (ns.map V.int))
 | .dct ks xs,v=>∃a kvs,v=.ref a/\a∉G.M/\H a=some (.dK kvs)/\kvs.map (·.1)=ks/\Reps K G H xs (kvs.map (·.2))
 | .fdt ks xs,v=>∃a kvs,v=.ref a/\a∉G.M/\Rd H a (.dT kvs)/\kvs.map (·.1)=ks/\Reps K G H xs (kvs.map (·.2))
def Reps (K:A5)(G:Gh)(H:Hp):List PV->List V->Prop
 | [],vs=>vs=[]
 | x::xs,vs=>∃v r,vs=v::r/\Rep K G H x v/\Reps K G H xs r
end
section
variable {K:A5}{G G':Gh}{H H':Hp}
theorem Rd.keep {a:Addr}{u:HO}(h:Rd H a u)(k:∀o,H a=some o->H' a=some o):Rd H' a u:=h.elim (fun e=>.inl (k _ e)) fun⟨o,e⟩=>.inr ⟨o,k _ e⟩
theorem Rd.ne {a:Addr}{u:HO}(h:Rd H a u):H a≠none:=fun z=>h.elim (fun e=>by rw [z] at e;cases e) fun⟨o,e⟩=>by rw [z] at e;cases e
mutual
theorem Rep.mono (hk:∀b o,b∉G.M->H b=some o->H' b=some o)(hM:∀a∈G'.M,a∈G.M\/H a=none)(hp:∀(k:Nat) (p:Addr),G.pots[k]?=some p->G'.pots[k]?=some p):∀(x:PV) (v:V),Rep K G H x v->Rep K G' H' x v
 | .non,v,h=>h
 | .bl b,v,h=>h
 | .int i,v,h=>h
 | .str x,v,h=>h
 | .ty n,v,h=>h
 | .pot k, v, h => by
   obtain⟨p,e,r⟩:=h;exact⟨p,hp k p e,r⟩
 | .tup xs, v, h => by
   obtain⟨a,vs,e,t,r⟩:=h;refine⟨a,vs,e,?_,Reps.mono hk hM hp xs vs r⟩;obtain⟨n,t⟩:=t;exact⟨fun z=>(hM a z).elim n (fun z=>by rw [z] at t;cases t),hk a _ n t⟩
 | .lst xs, v, h => by
   obtain⟨a,vs,e,t,r⟩:=h;refine⟨a,vs,e,?_,Reps.mono hk hM hp xs vs r⟩;obtain⟨n,t⟩:=t;exact⟨fun z=>(hM a z).elim n (fun z=>by rw [z] at t;cases t),hk a _ n t⟩
 | .scr ns, v, h => by
   obtain⟨a,e,h⟩:=h;refine⟨a,e,?_⟩;rcases h with⟨n,o,t⟩ | h
   · exact .inl ⟨fun z=>(hM a z).elim n (fun z=>by rw [z] at t;cases t),o,hk a _ n t⟩
   · exact .inr h
 | .dct ks xs, v, h => by
   obtain⟨a,kvs,e,n,t,ek,r⟩:=h;exact⟨a,kvs,e,fun z=>(hM a z).elim n (fun z=>by rw [z] at t;cases t),hk a _ n t,ek,Reps.mono hk hM hp xs _ r⟩
 | .fdt ks xs, v, h => by
   obtain⟨a,kvs,e,n,t,ek,r⟩:=h;exact⟨a,kvs,e,fun z=>(hM a z).elim n (fun z=>Rd.ne (u:=.dT kvs) t z),Rd.keep (u:=.dT kvs) t (fun o e=>hk a o n e),ek,Reps.mono hk hM hp xs _ r⟩
theorem Reps.mono (hk:∀b o,b∉G.M->H b=some o->H' b=some o)(hM:∀a∈G'.M,a∈G.M\/H a=none)(hp:∀(k:Nat) (p:Addr),G.pots[k]?=some p->G'.pots[k]?=some p):∀(xs:List PV) (vs:List V),Reps K G H xs vs->Reps K G' H' xs vs
 | [],vs,h=>h
 | x :: xs, vs, h => by
   obtain⟨v,r,e,hx,hr⟩:=h;exact⟨v,r,e,Rep.mono hk hM hp x v hx,Reps.mono hk hM hp xs r hr⟩
end
theorem Rep.same {x:PV}{v:V}(h:Rep K G H x v)(s:Same H H'):Rep K G H' x v:=Rep.mono (fun b o _ e=>s b o e) (fun a z=>.inl z) (fun _ _ e=>e) x v h
theorem Reps.same {x:List PV}{v:List V}(h:Reps K G H x v)(s:Same H H'):Reps K G H' x v:=Reps.mono (fun b o _ e=>s b o e) (fun a z=>.inl z) (fun _ _ e=>e) x v h
def Fr (G:Gh)(H H':Hp):Prop:=∀b o,b∉G.M->H b=some o->H' b=some o
theorem Fr.refl:Fr G H H:=fun _ _ _ e=>e
theorem Fr.trans {H2:Hp}(a:Fr G H H')(b:Fr G H' H2):Fr G H H2:=fun c o n e=>b c o n (a c o n e)
theorem Fr.of (s:Same H H'):Fr G H H':=fun b o _ e=>s b o e
theorem Rep.fr {x:PV}{v:V}(h:Rep K G H x v)(s:Fr G H H'):Rep K G H' x v:=Rep.mono s (fun a z=>.inl z) (fun _ _ e=>e) x v h
theorem Reps.fr {x:List PV}{v:List V}(h:Reps K G H x v)(s:Fr G H H'):Reps K G H' x v:=Reps.mono s (fun a z=>.inl z) (fun _ _ e=>e) x v h
theorem Reps.length:∀{xs:List PV} {vs:List V},Reps K G H xs vs->xs.length=vs.length
 | [],vs,h=>by cases(show vs=[] from h);rfl
 | x :: xs, vs, h => by
   obtain⟨v,r,e,hx,hr⟩:=h;subst e;simp [Reps.length hr]
theorem Reps.get:∀{xs:List PV} {vs:List V} {i:Nat} {v:V},Reps K G H xs vs->vs[i]?=some v->∃x,xs[i]?=some x/\Rep K G H x v
 | [],vs,i,v,h,e=>by cases(show vs=[] from h);simp at e
 | x :: xs, vs, i, v, h, e => by
   obtain⟨w,r,e1,hx,hr⟩:=h;subst e1;cases i with
   | zero=>simp at e;subst e;exact⟨x,rfl,hx⟩
   | succ i=>simpa using Reps.get (i:=i) hr (by simpa using e)
theorem Reps.get':∀{xs:List PV} {vs:List V} {i:Nat} {x:PV},Reps K G H xs vs->xs[i]?=some x->∃v,vs[i]?=some v/\Rep K G H x v:=fun {xs vs i x} h e=>by
 obtain⟨hi,_⟩:=E6.mp e;have hl:=h.length;have e2:vs[i]?=some (vs[i]'(by omega)):=C4 (by omega);obtain⟨y,ey,r⟩:=h.get e2;rw [e] at ey;cases ey;exact⟨_,e2,r⟩
theorem Reps.append:∀{xs ys:List PV} {vs us:List V},Reps K G H xs vs->Reps K G H ys us->Reps K G H (xs++ys) (vs++us)
 | [],ys,vs,us,h,h'=>by cases(show vs=[] from h);exact h'
 | x :: xs, ys, vs, us, h, h' => by
   obtain⟨w,r,e1,hx,hr⟩:=h;subst e1;exact⟨w,r++us,rfl,hx,Reps.append hr h'⟩
theorem Reps.take:∀{xs:List PV} {vs:List V} (n:Nat),Reps K G H xs vs->Reps K G H (xs.take n) (vs.take n)
 | xs,vs,0,h=>by simp [Reps]
 | [],vs,n + 1,h=>by cases(show vs=[] from h);exact rfl
 | x :: xs, vs, n + 1, h => by
   obtain⟨w,r,e1,hx,hr⟩:=h;subst e1;exact⟨w,r.take n,rfl,hx,Reps.take n hr⟩
theorem Reps.drop:∀{xs:List PV} {vs:List V} (n:Nat),Reps K G H xs vs->Reps K G H (xs.drop n) (vs.drop n)
 | xs,vs,0,h=>by simpa using h
 | [],vs,n + 1,h=>by cases(show vs=[] from h);exact rfl
 | x :: xs, vs, n + 1, h => by
   obtain⟨w,r,e1,hx,hr⟩:=h;subst e1;exact Reps.drop n hr
theorem Reps.one {x:PV}{v:V}(h:Rep K G H x v):Reps K G H [x] [v]:=⟨v,[],rfl,h,rfl⟩
theorem Reps.set:∀{xs:List PV} {vs:List V} (n:Nat) {x:PV} {v:V},Reps K G H xs vs->Rep K G H x v->Reps K G H (xs.set n x) (vs.set n v)
 | [],vs,n,x,v,h,_=>by cases(show vs=[] from h);exact rfl
 | y :: xs, vs, 0, x, v, h, h' => by
   obtain⟨w,r,e1,hx,hr⟩:=h;subst e1;exact⟨v,r,rfl,h',hr⟩
 | y :: xs, vs, n + 1, x, v, h, h' => by
   obtain⟨w,r,e1,hx,hr⟩:=h;subst e1;exact⟨w,r.set n v,rfl,hx,Reps.set n hr h'⟩
def MutO:HO->Prop
 | .lst _=>True
 | .dK _=>True
 | .dT _=>True
 | .set _ _=>True
 | .tbl _=>True
 | _=>False
end
inductive OK where
 | lst | dk (ks:List Key) | dt (ks:List (List Key)) | st (zs:List Key)
def memS (zs:List Key)(k:Key):Bool:=zs.any fun z=>decide (z=k)
def mkO:OK->List V->HO
 | .lst,vs=>.lst vs
 | .dk ks,vs=>.dK (ks.zip vs)
 | .dt ks,vs=>.dT (ks.zip vs)
 | .st zs,_=>.set (memS zs) zs.length
theorem JC (k:OK)(vs:List V):MutO (mkO k vs):=by cases k <;> trivial
inductive Slot where
 | v (x:PV)
 | ow (k:OK) (xs:List PV)
abbrev Slot.own (xs:List PV):Slot:=.ow .lst xs
abbrev Env:=List (Option Slot)
structure PotK where
 at_:List Addr->Hp->Addr->Nat->Prop
 mono:∀{M H p n m},at_ M H p n->n<=m->at_ M H p m
 keep:∀{M H H' p n},at_ M H p n->H' p=H p->(∀b o,b∉M->H b=some o->H' b=some o)->at_ M H' p n
 more:∀{M M' H p n},at_ M H p n->(∀a∈M',a∈M\/H a=none)->at_ M' H p n
 mu:∀{M H p n},at_ M H p n->∃o,H p=some o/\MutO o
 /-- what is known of all pots together -/
 has:List Addr->Prop:=fun _=>True
 hasM:∀{l:List Addr} {p:Addr},has l->p∉l->has (l++[p]):=by intro _ _ _ _;trivial
structure Ct where
 K:A5
 T:PotK
 M0:List Addr
 pots0:List Addr
 H0:Hp
 np:Bool
def Cz (C:Ct)(G:Gh)(H:Hp)(o:Option (Option V)):Slot->Prop
 | .v x=>∃v,o=some (some v)/\Rep C.K G H x v
 | .ow k xs=>∃a vs,o=some (some (.ref a))/\a∈G.M/\a∉C.M0/\a∉G.pots/\H a=some (mkO k vs)/\Reps C.K G H xs vs
structure SR (C:Ct)(G:Gh)(σ:St)(H:Hp)(env:Env)(n:Nat):Prop where
 frame:∀b o,b∉C.pots0->C.H0 b=some o->H b=some o
 sub:∀a∈G.M,a∈C.M0\/C.H0 a=none
 sup:∀a∈C.M0,a∈G.M
 pots:∀p∈G.pots,p∈G.M/\C.T.at_ G.M H p n
 pre:∃l,G.pots=C.pots0++l/\(l=[]\/C.np=true)
 mu:∀a∈G.M,∃o,H a=some o/\MutO o
 slots:∀(i:Nat) (s:Slot),env[i]?=some (some s)->Cz C G H (σ[i]?) s
 inj:∀(i j:Nat) (xs ys:OK×List PV) (a:Addr),env[i]?=some (some (.ow xs.1 xs.2))->env[j]?=some (some (.ow ys.1 ys.2))->σ[i]?=some (some (.ref a))->σ[j]?=some (some (.ref a))->i=j
 p0:(∀p∈C.pots0,p∈C.M0)/\C.T.has G.pots
 len:env.length=σ.length
 newp:∀p∈G.pots,p∉C.pots0->p∈C.M0->False
section
variable {C:Ct}{G G':Gh}{σ:St}{H H':Hp}{env:Env}{n:Nat}
theorem SR.hasG (S:SR C G σ H env n):C.T.has G.pots:=S.p0.2
theorem SR.fresh (S:SR C G σ H env n){p:Addr}(h:H p=none):p∉G.M:=fun z=>by
 obtain⟨o,e,_⟩:=S.mu p z;rw [h] at e;cases e
theorem SR.same (S:SR C G σ H env n)(s:Same H H'):SR C G σ H' env n where
 frame b o hb e:=s b o (S.frame b o hb e)
 sub:=S.sub
 sup:=S.sup
 pots p hp:=⟨(S.pots p hp).1,C.T.keep (S.pots p hp).2 (by
   obtain⟨o,e,_⟩:=C.T.mu (S.pots p hp).2
   rw [e,s p o e]) fun b o _ e=>s b o e⟩
 pre:=S.pre
 mu a ha:=by
   obtain⟨o,e,m⟩:=S.mu a ha;exact⟨o,s a o e,m⟩
 slots i x e:=by
   have:=S.slots i x e;cases x with
   | v x =>
     obtain⟨v,e1,r⟩:=this;exact⟨v,e1,r.same s⟩
   | ow kk xs =>
     obtain⟨a,vs,e1,h1,h2,h3,h4,r⟩:=this;exact⟨a,vs,e1,h1,h2,h3,s _ _ h4,r.same s⟩
 inj:=S.inj
 p0:=S.p0
 len:=S.len
 newp:=S.newp
theorem Same.lay1 {p:Addr}{o:HO}(h:H p=none):Same H (upd H p o):=(Same.refl H).lay h
end
end Pu
end
section
namespace Pu
open PySem PySem.Spec L2
abbrev PK:=PV->Env->Nat->Prop
abbrev pE:=Env->Nat->PK->Prop
abbrev pT:=Env->Nat->(Bool->Env->Nat->Prop)->Prop
abbrev pA:=Env->Nat->(List PV->Env->Nat->Prop)->Prop
abbrev pF:=List PV->Nat->(PV->Nat->Prop)->Prop
def RdV (K:A5)(G:Gh)(H:Hp)(x:PV)(v:V):Prop:=Rep K G H x v\/∃a vs xs,x=.lst xs/\v=.ref a/\H a=some (.lst vs)/\Reps K G H xs vs
def RdS (C:Ct)(G:Gh)(σ:St)(H:Hp)(env:Env)(x:PV)(v:V):Prop:=Rep C.K G H x v\/∃(i:Nat) (a:Addr) (xs:List PV),env[i]?=some (some (.ow .lst xs))/\σ[i]?=some (some (.ref a))/\x=.lst xs/\v=.ref a
def EOk (K:A5)(T:PotK)(t:TE)(pe:pE):Prop:=∀(C:Ct) (G:Gh) (σ:St) (H:Hp) (env:Env) (n:Nat) (R:PK) (Q:VK),C.K=K->C.T=T->SR C G σ H env n->pe env n R->
 (∀x env' n' v H',R x env' n'->SR C G σ H' env' n'->Rep K G H' x v->Fr G H H'->Q v H')->t σ H Q
def ROk (K:A5)(T:PotK)(t:TE)(pe:pE):Prop:=∀(C:Ct) (G:Gh) (σ:St) (H:Hp) (env:Env) (n:Nat) (R:PK) (Q:VK),C.K=K->C.T=T->SR C G σ H env n->pe env n R->
 (∀x env' n' v H',R x env' n'->SR C G σ H' env' n'->RdS C G σ H' env' x v->Fr G H H'->Q v H')->t σ H Q
def NOk (K:A5)(T:PotK)(t:TE)(pn:pA):Prop:=∀(C:Ct) (G:Gh) (σ:St) (H:Hp) (env:Env) (n:Nat) (R:List PV->Env->Nat->Prop) (Q:VK),C.K=K->C.T=T->SR C G σ H env n->pn env n R->
 (∀xs env' n' a vs Hb,R xs env' n'->SR C G σ Hb env' n'->Fr G H Hb->Hb a=none->Reps K G Hb xs vs->Q (.ref a) (upd Hb a (.lst vs)))->t σ H Q
def TOk (K:A5)(T:PotK)(t:TT)(pt:pT):Prop:=∀(C:Ct) (G:Gh) (σ:St) (H:Hp) (env:Env) (n:Nat) (R:Bool->Env->Nat->Prop) (Q:Bool->Hp->Prop),C.K=K->C.T=T->SR C G σ H env n->pt env n R->
 (∀b env' n' H',R b env' n'->SR C G σ H' env' n'->Fr G H H'->Q b H')->t σ H Q
def AOk (K:A5)(T:PotK)(t:TA)(pa:pA):Prop:=∀(C:Ct) (G:Gh) (σ:St) (H:Hp) (env:Env) (n:Nat) (R:List PV->Env->Nat->Prop) (Q:List V->Hp->Prop),C.K=K->C.T=T->SR C G σ H env n->pa env n R->
 (∀xs env' n' vs H',R xs env' n'->SR C G σ H' env' n'->Reps K G H' xs vs->Fr G H H'->Q vs H')->t σ H Q
structure EW (X:Cx)(e:Expr)(t:TE):Prop where
 h:PE X e t
structure SW (X:Cx)(st:Stmt)(t:TS):Prop where
 h:PS X st t
structure GW (X:Cx)(e:Expr)(g:TG):Prop where
 h:PG X e g
theorem vw {X:Cx}(i:Nat){x:Str}{pos:Pos}(hN:X.N[i]?=some x:=by rfl)(hv:Vis X.env.scope x:=by first | exact Or.inl rfl | exact Or.inr (Or.inl rfl) | exact Or.inr (Or.inr rfl))(hd:(x == ("__debug__":Str))=false:=by decide)(hcd:(x == ("__classdict__":Str))=false:=by decide):EW X (.Name x pos) (tVar i):=⟨IY hN hv hd hcd⟩
def QE {ι:Type}(T:PotK)(K:A5)(F:ι->Cx)(e:Expr)(pe:pE):Prop:=∃t,(∀z,PE (F z) e t)/\EOk K T t pe
def QR {ι:Type}(T:PotK)(K:A5)(F:ι->Cx)(e:Expr)(pe:pE):Prop:=∃t,(∀z,PE (F z) e t)/\ROk K T t pe
def QN {ι:Type}(T:PotK)(K:A5)(F:ι->Cx)(e:Expr)(pn:pA):Prop:=∃t,(∀z,PE (F z) e t)/\NOk K T t pn
def QT {ι:Type}(T:PotK)(K:A5)(F:ι->Cx)(e:Expr)(pt:pT):Prop:=∃t,(∀z,PT (F z) e t)/\TOk K T t pt
def QW {ι:Type}(T:PotK)(K:A5)(F:ι->Cx)(e:Expr)(pt:pT):Prop:=∃t,(∀z,PW (F z) e t)/\TOk K T t pt
def QA {ι:Type}(T:PotK)(K:A5)(F:ι->Cx)(es:List Expr)(pa:pA):Prop:=∃t,(∀z,PA (F z) es t)/\AOk K T t pa
section
variable {T:PotK}{ι:Type}{K:A5}{F:ι->Cx}{e a b:Expr}{es:List Expr}{pe pa pb:pE}
theorem Reps.nil {K:A5}{G:Gh}{H:Hp}:Reps K G H [] []:=rfl
theorem Reps.cons {K:A5}{G:Gh}{H:Hp}{x:PV}{xs:List PV}{v:V}{vs:List V}(h:Rep K G H x v)(h':Reps K G H xs vs):Reps K G H (x::xs) (v::vs):=⟨v,vs,rfl,h,h'⟩
theorem RdS.rd {C:Ct}{G:Gh}{σ:St}{H:Hp}{env:Env}{n:Nat}{x:PV}{v:V}(S:SR C G σ H env n)(h:RdS C G σ H env x v):RdV C.K G H x v:=by
 rcases h with h | ⟨i,a,xs,e1,e2,ex,ev⟩
 · exact .inl h
 · obtain⟨a',vs,e3,_,_,_,h4,r⟩:=S.slots i _ e1;rw [e2] at e3;cases e3;exact .inr ⟨a,vs,xs,ex,ev,h4,r⟩
theorem RdS.fr {C:Ct}{G:Gh}{σ:St}{H H':Hp}{env:Env}{x:PV}{v:V}(h:RdS C G σ H env x v)(f:Fr G H H'):RdS C G σ H' env x v:=by
 rcases h with h | h
 · exact .inl (h.fr f)
 · exact .inr h
theorem RdV.lst {K:A5}{G:Gh}{H:Hp}{xs:List PV}{v:V}(h:RdV K G H (.lst xs) v):∃a vs,v=.ref a/\SqL K H a vs/\Reps K G H xs vs:=by
 rcases h with⟨a,vs,e,t,r⟩ | ⟨a,vs,ys,ex,ev,h4,r⟩
 · exact⟨a,vs,e,t.sq,r⟩
 · cases ex;exact⟨a,vs,ev,SqL.of h4,r⟩
theorem RdV.rep {K:A5}{G:Gh}{H:Hp}{x:PV}{v:V}(h:RdV K G H x v)(hx:∀xs,x≠.lst xs):Rep K G H x v:=by
 rcases h with h | ⟨a,vs,ys,ex,ev,h4,r⟩
 · exact h
 · exact absurd ex (hx ys)
theorem RdV.tup {K:A5}{G:Gh}{H:Hp}{xs:List PV}{v:V}(h:RdV K G H (.tup xs) v):∃a vs,v=.ref a/\SqT K H a vs/\Reps K G H xs vs:=by
 obtain⟨a,vs,e,t,r⟩:=h.rep (fun _ z=>nomatch z);exact⟨a,vs,e,t.sq,r⟩
theorem RdV.int {K:A5}{G:Gh}{H:Hp}{i:Int}{v:V}(h:RdV K G H (.int i) v):v=.int i:=h.rep (fun _ z=>nomatch z)
theorem RdV.str {K:A5}{G:Gh}{H:Hp}{i:Str}{v:V}(h:RdV K G H (.str i) v):v=.str i:=h.rep (fun _ z=>nomatch z)
theorem RdV.bl {K:A5}{G:Gh}{H:Hp}{i:Bool}{v:V}(h:RdV K G H (.bl i) v):v=.bl i:=h.rep (fun _ z=>nomatch z)
theorem RdV.non {K:A5}{G:Gh}{H:Hp}{v:V}(h:RdV K G H .non v):v=.non:=h.rep (fun _ z=>nomatch z)
def qV (i:Nat):pE:=fun env n R=>match env[i]? with | some (some (.v x))=>R x env n | _=>False
def qO (i:Nat):pE:=fun env n R=>match env[i]? with | some (some (.ow .lst xs))=>R (.lst xs) env n | _=>False
def qC (c:PV):pE:=fun env n R=>R c env n
theorem qV_ex {i:Nat}{env:Env}{n:Nat}{R:PK}(h:qV i env n R):∃x,env[i]?=some (some (.v x))/\R x env n:=by
 unfold qV at h
 split at h
 · exact⟨_,by assumption,h⟩
 · exact h.elim
theorem qO_ex {i:Nat}{env:Env}{n:Nat}{R:PK}(h:qO i env n R):∃xs,env[i]?=some (some (.ow .lst xs))/\R (.lst xs) env n:=by
 unfold qO at h
 split at h
 · exact⟨_,by assumption,h⟩
 · exact h.elim
theorem A1 (i:Nat){x:Str}{pos:Pos}(h:∀z,EW (F z) (.Name x pos) (tVar i)):QE T K F (.Name x pos) (qV i):=by
 refine⟨_,fun z=>(h z).h,fun C G σ H env n R Q hK hT S hp k=>?_⟩;obtain⟨x,e,r⟩:=qV_ex hp;obtain⟨v,ev,rv⟩:=S.slots i _ e;exact⟨v,ev,k _ _ _ _ _ r S (hK▸rv) Fr.refl⟩
theorem X0 (i:Nat){x:Str}{pos:Pos}(h:∀z,EW (F z) (.Name x pos) (tVar i)):QR T K F (.Name x pos) (qO i):=by
 refine⟨_,fun z=>(h z).h,fun C G σ H env n R Q hK hT S hp k=>?_⟩;obtain⟨xs,e,r⟩:=qO_ex hp;obtain⟨a,vs,ev,_,_,_,_,rv⟩:=S.slots i _ e;exact⟨.ref a,ev,k _ _ _ _ _ r S (.inr ⟨i,a,xs,e,ev,rfl,rfl⟩) Fr.refl⟩
theorem QE.r (h:QE T K F e pe):QR T K F e pe:=by
 obtain⟨t,h1,h2⟩:=h;exact⟨t,h1,fun C G σ H env n R Q hK hT S hp k=>h2 C G σ H env n R Q hK hT S hp fun x env' n' v H' r S' rp f=>k x env' n' v H' r S' (.inl (by rw [hK];exact rp)) f⟩
theorem ok_c {K:A5}{c:PV}{v:V}(h:∀G H,Rep K G H c v):EOk K T (tC v) (qC c):=fun C G σ H env n R Q hK hT S hp k=>k _ _ _ _ _ hp S (h G H) Fr.refl
theorem B1 {i j pos}:QE T K F (.Constant (.int i) j pos) (qC (.int i)):=⟨_,fun z=>L6,ok_c fun _ _=>rfl⟩
theorem GO {i j pos}:QE T K F (.Constant (.bool i) j pos) (qC (.bl i)):=⟨_,fun z=>pe_bl,ok_c fun _ _=>rfl⟩
theorem F5 {i j pos}:QE T K F (.Constant (.str i) j pos) (qC (.str i)):=⟨_,fun z=>K8,ok_c fun _ _=>rfl⟩
abbrev w1:=PV->(PV->Prop)->Prop
abbrev w2:=PV->PV->(PV->Prop)->Prop
def W2 (K:A5)(r:R2)(w:w2):Prop:=∀(G:Gh) (H:Hp) (x y:PV) (v u:V) (R:PV->Prop) (Q:VK),(∀p,H p=none->p∉G.M)->RdV K G H x v->RdV K G H y u->w x y R->
 (∀z v' H',R z->Same H H'->Rep K G H' z v'->Q v' H')->r v u H Q
def W1 (K:A5)(r:V->Hp->VK->Prop)(w:w1):Prop:=∀(G:Gh) (H:Hp) (x:PV) (v:V) (R:PV->Prop) (Q:VK),(∀p,H p=none->p∉G.M)->RdV K G H x v->w x R->
 (∀z v' H',R z->Same H H'->Rep K G H' z v'->Q v' H')->r v H Q
def qOp (w:w2)(pa pb:pE):pE:=fun env n R=>pa env n fun x env1 n1=>pb env1 n1 fun y env2 n2=>w x y fun z=>R z env2 n2
def qOpR (w:w2)(pa pb:pE):pE:=fun env n R=>pa env n fun x env1 n1=>pb env1 n1 fun y env2 n2=>env2=env1/\w x y fun z=>R z env2 n2
def qUn (w:w1)(pa:pE):pE:=fun env n R=>pa env n fun x env1 n1=>w x fun z=>R z env1 n1
theorem CA {K:A5}{r:R2}{w:w2}{ta tb:TE}(hw:W2 K r w)(ha:EOk K T ta pa)(hb:ROk K T tb pb):EOk K T (tOp r ta tb) (qOp w pa pb):=fun C G σ H env n R Q hK hT S hp k=>by
 refine ha C G σ H env n _ _ hK hT S hp fun x env1 n1 v H1 p1 S1 r1 f1=>?_;refine hb C G σ H1 env1 n1 _ _ hK hT S1 p1 fun y env2 n2 u H2 p2 S2 r2 f2=>?_;subst hK;exact hw G H2 x y v u _ _ (fun p hp=>S2.fresh hp) (.inl (r1.fr f2)) (r2.rd S2) p2 fun z v' H' rz s rv=>k _ _ _ _ _ rz (S2.same s) rv ((f1.trans f2).trans (Fr.of s))
theorem JD {K:A5}{r:R2}{w:w2}{ta tb:TE}(hw:W2 K r w)(ha:ROk K T ta pa)(hb:ROk K T tb pb):EOk K T (tOp r ta tb) (qOpR w pa pb):=fun C G σ H env n R Q hK hT S hp k=>by
 refine ha C G σ H env n _ _ hK hT S hp fun x env1 n1 v H1 p1 S1 r1 f1=>?_;refine hb C G σ H1 env1 n1 _ _ hK hT S1 p1 fun y env2 n2 u H2 p2 S2 r2 f2=>?_;subst hK;obtain⟨e,p2⟩:=p2;subst e;exact hw G H2 x y v u _ _ (fun p hp=>S2.fresh hp) ((r1.fr f2).rd S2) (r2.rd S2) p2 fun z v' H' rz s rv=>k _ _ _ _ _ rz (S2.same s) rv ((f1.trans f2).trans (Fr.of s))
theorem ok_un {K:A5}{r:V->Hp->VK->Prop}{w:w1}{ta:TE}(hw:W1 K r w)(ha:ROk K T ta pa):EOk K T (tUn r ta) (qUn w pa):=fun C G σ H env n R Q hK hT S hp k=>by
 refine ha C G σ H env n _ _ hK hT S hp fun x env1 n1 v H1 p1 S1 r1 f1=>?_;subst hK;exact hw G H1 x v _ _ (fun p hp=>S1.fresh hp) (r1.rd S1) p1 fun z v' H' rz s rv=>k _ _ _ _ _ rz (S1.same s) rv (f1.trans (Fr.of s))
def wI (C:Int->Int->Prop)(g:Int->Int->PV):w2:=fun x y R=>match x,y with | .int i,.int j=>C i j/\R (g i j) | _,_=>False
theorem W2.I {K:A5}{C:Int->Int->Prop}{g:Int->Int->V}{g':Int->Int->PV}(hg:∀i j G H,Rep K G H (g' i j) (g i j)):W2 K (rI C g) (wI C g'):=by
 intro G H x y v u R Q hf rx ry hw k;unfold wI at hw
 split at hw
 · exact⟨_,_,rx.int,ry.int,hw.1,k _ _ _ hw.2 (Same.refl _) (hg _ _ _ _)⟩
 · exact hw.elim
def wI0 (g:Int->Int->PV):w2:=fun x y R=>match x,y with | .int i,.int j=>R (g i j) | _,_=>False
theorem W2.I0 {K:A5}{g:Int->Int->V}{g':Int->Int->PV}(hg:∀i j G H,Rep K G H (g' i j) (g i j)):W2 K (rI0 g) (wI0 g'):=by
 intro G H x y v u R Q hf rx ry hw k;unfold wI0 at hw
 split at hw
 · exact⟨_,_,rx.int,ry.int,k _ _ _ hw (Same.refl _) (hg _ _ _ _)⟩
 · exact hw.elim
def wAdd:w2:=fun x y R=>match x,y with
 | .int i,.int j=>R (.int (i + j))
 | .str i,.str j=>i.length + j.length<=1000000/\R (.str (i++j))
 | .tup xs,.tup ys=>xs.length + ys.length<=1000000/\R (.tup (xs++ys))
 | _,_=>False
theorem mil {n:Nat}(h:n<=1000000):n<=B0:=L4 h (by rw [M7];decide)
theorem mil' {n:Nat}(h:n<=1000000):n < B0:=j6 h (by rw [M7];decide)
theorem Bw {K:A5}{G:Gh}{H:Hp}{p:Addr}{xs:List PV}{vs:List V}(hf:p∉G.M)(hn:H p=none)(r:Reps K G H xs vs):Rep K G (upd H p (.tup vs)) (.tup xs) (.ref p):=
 ⟨p,vs,rfl,⟨hf,D9⟩,r.same (Same.lay1 hn)⟩
theorem CB {K:A5}{G:Gh}{H:Hp}{p:Addr}{xs:List PV}{vs:List V}(hf:p∉G.M)(hn:H p=none)(r:Reps K G H xs vs):Rep K G (upd H p (.lst vs)) (.lst xs) (.ref p):=
 ⟨p,vs,rfl,⟨hf,D9⟩,r.same (Same.lay1 hn)⟩
theorem W2.add {K:A5}:W2 K (fun x y H Q=>(rI0 fun i j=>.int (i + j)) x y H Q\/(∃i j,x=.str i/\y=.str j/\i.length + j.length<=B0/\Q (.str (i++j)) H)\/rCatA K x y H Q) wAdd:=by
 intro G H x y v u R Q hf rx ry hw k;unfold wAdd at hw
 split at hw
 · exact .inl ⟨_,_,rx.int,ry.int,k _ _ _ hw (Same.refl _) rfl⟩
 · exact .inr (.inl ⟨_,_,rx.str,ry.str,mil hw.1,k _ _ _ hw.2 (Same.refl _) rfl⟩)
 · rename_i xs ys;obtain⟨a,vs,ea,ta,ra⟩:=rx.rep (fun _ z=>nomatch z);obtain⟨b,us,eb,tb,rb⟩:=ry.rep (fun _ z=>nomatch z);refine .inr (.inr ⟨a,b,vs,us,ea,eb,ta.sq,tb.sq,?_,fun z=>?_,fun z1 z2=>?_,fun z1 z2 p hp=>?_⟩)
   · rw [<- ra.length,<- rb.length];exact mil hw.1
   · subst z;have:xs=[]:=DE ra.length;subst this;exact k _ _ _ hw.2 (Same.refl _) ⟨b,us,rfl,tb,rb⟩
   · subst z2;have:ys=[]:=DE rb.length;subst this;exact k _ _ _ hw.2 (Same.refl _) (by rw [W6];exact⟨a,vs,rfl,ta,ra⟩)
   · exact k _ _ _ hw.2 (Same.lay1 hp) (Bw (hf p hp) hp (ra.append rb))
 · exact hw.elim
theorem K2 {pos:Pos}(ha:QE T K F a pa)(hb:QE T K F b pb)(hK:∀z,(F z).K=K:=by intro _;rfl):QE T K F (.BinOp a .Add b pos) (qOp wAdd pa pb):=by
 obtain⟨ta,h1,h2⟩:=ha;obtain⟨tb,h3,h4⟩:=hb.r;exact⟨_,fun z=>M2 (Bs.or (MF.or (hK z▸Nl))) (h1 z) (h3 z),CA W2.add h2 h4⟩
theorem CC {op:Operator}{r:R2}{w:w2}{pos:Pos}(ho:∀z,OpR (F z) (R0 op) r)(hw:W2 K r w)(ha:QE T K F a pa)(hb:QE T K F b pb):QE T K F (.BinOp a op b pos) (qOp w pa pb):=by
 obtain⟨ta,h1,h2⟩:=ha;obtain⟨tb,h3,h4⟩:=hb.r;exact⟨_,fun z=>M2 (ho z) (h1 z) (h3 z),CA hw h2 h4⟩
def wSub:w2:=wI0 fun i j=>.int (i - j)
def wMul:w2:=fun x y R=>match x,y with
 | .int i,.int j=>CMul i j/\R (.int (i * j))
 | .str i,.int n=>i.length<=100/\0<=n/\n<=1000/\R (.str (Txt.mul i n))
 | _,_=>False
def Eo:w2:=wI CDiv fun i j=>.int (i / j)
def wMod:w2:=wI (fun _ j=>0 < j) fun i j=>.int (i % j)
theorem W2.mul {K:A5}:W2 K (fun x y H Q=>(rI CMul fun i j=>.int (i * j)) x y H Q\/(∃i n,x=.str i/\y=.int n/\i.length<=100/\0<=n/\n<=1000/\Q (.str (Txt.mul i n)) H)) wMul:=by
 intro G H x y v u R Q hf rx ry hw k;unfold wMul at hw
 split at hw
 · exact .inl ⟨_,_,rx.int,ry.int,hw.1,k _ _ _ hw.2 (Same.refl _) rfl⟩
 · exact .inr ⟨_,_,rx.str,ry.int,hw.1,hw.2.1,hw.2.2.1,k _ _ _ hw.2.2.2 (Same.refl _) rfl⟩
 · exact hw.elim
theorem Ax {pos:Pos}(ha:QE T K F a pa)(hb:QE T K F b pb):QE T K F (.BinOp a .Sub b pos) (qOp wSub pa pb):=CC (fun _=>op_sub) (W2.I0 fun _ _ _ _=>rfl) ha hb
theorem GP {pos:Pos}(ha:QE T K F a pa)(hb:QE T K F b pb):QE T K F (.BinOp a .Mult b pos) (qOp wMul pa pb):=CC (fun _=>Cr.or Nj) W2.mul ha hb
theorem JE {pos:Pos}(ha:QE T K F a pa)(hb:QE T K F b pb):QE T K F (.BinOp a .FloorDiv b pos) (qOp Eo pa pb):=CC (fun _=>Gx) (W2.I fun _ _ _ _=>rfl) ha hb
theorem qe_mod {pos:Pos}(ha:QE T K F a pa)(hb:QE T K F b pb):QE T K F (.BinOp a .Mod b pos) (qOp wMod pa pb):=CC (fun _=>Au) (W2.I fun _ _ _ _=>rfl) ha hb
end
end Pu
end
section
namespace L2
open PySem PySem.Spec PyProof.Rows
def EqD (K:A5)(H:Hp):Nat->V->V->Bool->Prop
 | 0,x,y,b=>Q7 x=true/\Q7 y=true/\b=eqV x y
 | d + 1, x, y, b => (Q7 x = true /\ Q7 y = true /\ b = eqV x y) \/
   (∃p q xs ys,∃f:Nat->Bool,x=.ref p/\y=.ref q/\SqT K H p xs/\SqT K H q ys/\(∀(j:Nat) x' y',xs[j]?=some x'->ys[j]?=some y'->EqD K H d x' y' (f j))/\b=((D1 (min xs.length ys.length)).all f && xs.length == ys.length))\/
   (∃p q xs ys,∃f:Nat->Bool,x=.ref p/\y=.ref q/\SqL K H p xs/\SqL K H q ys/\(∀(j:Nat) x' y',xs[j]?=some x'->ys[j]?=some y'->EqD K H d x' y' (f j))/\b=((D1 (min xs.length ys.length)).all f && xs.length == ys.length))\/
   (b=false/\((∃p xs,x=.ref p/\(SqT K H p xs\/SqL K H p xs)/\Q7 y=true)\/(∃p xs,y=.ref p/\(SqT K H p xs\/SqL K H p xs)/\Q7 x=true)\/
     (∃p q xs ys,x=.ref p/\y=.ref q/\SqT K H p xs/\SqL K H q ys)\/(∃p q xs ys,x=.ref p/\y=.ref q/\SqL K H p xs/\SqT K H q ys)))
section
variable {X:Cx}{pins:List (Addr×Obj)}{σ:St}{H:Hp}{s:Shared}
theorem X1 (I:Inv X pins σ H s){p:Addr}{xs ys:List V}(h:SqT X.K H p xs)(h':SqL X.K H p ys):False:=by
 obtain⟨its,r,⟨o,e,c,n,d⟩,_⟩:=I.tuple h;obtain⟨its',r',⟨o',n',e',c',_,d'⟩,_⟩:=I.list h';rw [e] at e';cases e';rw [c] at c';injection c' with c';exact absurd c' (by decide)
theorem EqD.refl (I:Inv X pins σ H s):∀(d:Nat) (x:V) (b:Bool),EqD X.K H d x x b->b=true:=by
 intro d
 induction d with
 | zero =>
   intro x b h;obtain⟨h1,_,rfl⟩:=h;exact Jy h1
 | succ d ih =>
   intro x b h;rcases h with⟨h1,_,rfl⟩ | ⟨p,q,xs,ys,f,e1,e2,s1,s2,hf,rfl⟩ | ⟨p,q,xs,ys,f,e1,e2,s1,s2,hf,rfl⟩ | ⟨rfl,h⟩
   · exact Jy h1
   · subst e1;cases e2;have:=I.tuple_inj s1 s2;subst this;simp only [Nat.min_self,beq_self_eq_true,Bool.and_true,Q4,M9];intro j hj;exact ih _ _ (hf j xs[j] xs[j] (by simp [hj]) (by simp [hj]))
   · subst e1;cases e2;have:=I.list_inj s1 s2;subst this;simp only [Nat.min_self,beq_self_eq_true,Bool.and_true,Q4,M9];intro j hj;exact ih _ _ (hf j xs[j] xs[j] (by simp [hj]) (by simp [hj]))
   · rcases h with⟨p,xs,rfl,_,h⟩ | ⟨p,xs,rfl,_,h⟩ | ⟨p,q,xs,ys,e1,e2,s1,s2⟩ | ⟨p,q,xs,ys,e1,e2,s1,s2⟩
     · cases h
     · cases h
     · subst e1;cases e2;exact(X1 I s1 s2).elim
     · subst e1;cases e2;exact(X1 I s2 s1).elim
theorem Inv.sqL (I:Inv X pins σ H s){p:Addr}{xs:List V}(h:SqL X.K H p xs):∃its:List Value,Vals xs its/\s.heap.IsList p its.toArray:=by
 obtain⟨its,r,pl,_⟩:=I.list h;exact⟨its,r,pl.isList⟩
theorem Inv.sqT (I:Inv X pins σ H s){p:Addr}{xs:List V}(h:SqT X.K H p xs):∃its:List Value,Vals xs its/\s.heap.IsTuple p its.toArray:=by
 obtain⟨its,r,pl,_⟩:=I.tuple h;exact⟨its,r,pl⟩
theorem JF (I:Inv X pins σ H s){A:Around}(hu:A.units < cLine){p:Addr}{xs:List V}(hq:SqT X.K H p xs\/SqL X.K H p xs){y:V}{w:Value}(ry:RelV y w)(fy:Q7 y=true) :
   Bm A s (.ref p) w false/\Bk A s (.ref p) w true/\Bm A s w (.ref p) false/\Bk A s w (.ref p) true/\As A s (.ref p) w false/\As A s w (.ref p) false:=by
 rcases hq with hq | hq
 · obtain⟨its,r,il⟩:=I.sqT hq;cases y with
   | non=>cases ry;exact⟨.tuple_none il hu,.tuple_none il hu,.none_tuple il hu,.none_tuple il hu,.tuple_none il hu,.none_tuple il hu⟩
   | bl b=>cases ry;exact⟨.tuple_bool b il hu,.tuple_bool b il hu,.bool_tuple b il hu,.bool_tuple b il hu,.tuple_bool b il hu,.bool_tuple b il hu⟩
   | int i=>obtain⟨t,rfl⟩:=ry;exact⟨.tuple_int i t il hu,.tuple_int i t il hu,.int_tuple i t il hu,.int_tuple i t il hu,.tuple_int i t il hu,.int_tuple i t il hu⟩
   | str i=>obtain⟨t,rfl⟩:=ry;exact⟨.tuple_str i t il hu,.tuple_str i t il hu,.str_tuple i t il hu,.str_tuple i t il hu,.tuple_str i t il hu,.str_tuple i t il hu⟩
   | _=>cases fy
 · obtain⟨its,r,il⟩:=I.sqL hq;cases y with
   | non=>cases ry;exact⟨.list_none il hu,.list_none il hu,.none_list il hu,.none_list il hu,.list_none il hu,.none_list il hu⟩
   | bl b=>cases ry;exact⟨.list_bool b il hu,.list_bool b il hu,.bool_list b il hu,.bool_list b il hu,.list_bool b il hu,.bool_list b il hu⟩
   | int i=>obtain⟨t,rfl⟩:=ry;exact⟨.list_int i t il hu,.list_int i t il hu,.int_list i t il hu,.int_list i t il hu,.list_int i t il hu,.int_list i t il hu⟩
   | str i=>obtain⟨t,rfl⟩:=ry;exact⟨.list_str i t il hu,.list_str i t il hu,.str_list i t il hu,.str_list i t il hu,.list_str i t il hu,.str_list i t il hu⟩
   | _=>cases fy
theorem JG {A:Around}{x y:V}{u w:Value}(rx:RelV x u)(ry:RelV y w)(fx:Q7 x=true)(fy:Q7 y=true):Bm A s u w (eqV x y)/\Bk A s u w (!eqV x y):=by
 cases x with
 | non =>
   cases rx;cases y with
   | non=>cases ry;exact⟨.none_none,.none_none⟩
   | bl j=>cases ry;exact⟨.none_bool j,.none_bool j⟩
   | int j=>obtain⟨t,rfl⟩:=ry;exact⟨.none_int j t,.none_int j t⟩
   | str j=>obtain⟨t,rfl⟩:=ry;exact⟨.none_str j t,.none_str j t⟩
   | _=>cases fy
 | bl i =>
   cases rx;cases y with
   | non=>cases ry;exact⟨.bool_none i,.bool_none i⟩
   | bl j=>cases ry;exact⟨.bool_bool i j,.bool_bool i j⟩
   | int j=>obtain⟨t,rfl⟩:=ry;exact⟨.bool_int i j t,.bool_int i j t⟩
   | str j=>obtain⟨t,rfl⟩:=ry;exact⟨.bool_str i j t,.bool_str i j t⟩
   | _=>cases fy
 | int i =>
   obtain⟨ti,rfl⟩:=rx;cases y with
   | non=>cases ry;exact⟨.int_none i ti,.int_none i ti⟩
   | bl j=>cases ry;exact⟨.int_bool i ti j,.int_bool i ti j⟩
   | int j=>obtain⟨t,rfl⟩:=ry;exact⟨.int_int i ti j t,.int_int i ti j t⟩
   | str j=>obtain⟨t,rfl⟩:=ry;exact⟨.int_str i ti j t,.int_str i ti j t⟩
   | _=>cases fy
 | str i =>
   obtain⟨ti,rfl⟩:=rx;cases y with
   | non=>cases ry;exact⟨.str_none i ti,.str_none i ti⟩
   | bl j=>cases ry;exact⟨.str_bool i ti j,.str_bool i ti j⟩
   | int j=>obtain⟨t,rfl⟩:=ry;exact⟨.str_int i ti j t,.str_int i ti j t⟩
   | str j=>obtain⟨t,rfl⟩:=ry;exact⟨.str_str i ti j t,.str_str i ti j t⟩
   | _=>cases fy
 | _=>cases fx
theorem in1_units (A:Around):A.in1.units=A.units + 1:=rfl
theorem EqD.at (I:Inv X pins σ H s):∀(d:Nat) (A:Around) (x y:V) (u w:Value) (b:Bool),A.units + d < cLine->RelV x u->RelV y w->EqD X.K H d x y b->As A s u w b/\Bm A s u w b/\Bk A s u w (!b):=by
 intro d
 induction d with
 | zero =>
   intro A x y u w b hu rx ry h;obtain⟨h1,h2,rfl⟩:=h;exact⟨Jq rx ry h1 h2,JG rx ry h1 h2⟩
 | succ d ih =>
   intro A x y u w b hu rx ry h;have hu0:A.units < cLine:=by omega
   have hu1:A.in1.units + d < cLine:=by rw [in1_units];omega
   have hrefl:=EqD.refl I (d + 1) x b;rcases h with⟨h1,h2,rfl⟩ | ⟨p,q,xs,ys,f,e1,e2,s1,s2,hf,eb⟩ | ⟨p,q,xs,ys,f,e1,e2,s1,s2,hf,eb⟩ | ⟨rfl,h⟩
   · exact⟨Jq rx ry h1 h2,JG rx ry h1 h2⟩
   · subst e1 e2;cases rx;cases ry;obtain⟨its,r1,t1⟩:=I.sqT s1;obtain⟨its2,r2,t2⟩:=I.sqT s2;have z1:its.toArray.size=xs.length:=by simpa using r1.length.symm
     have z2:its2.toArray.size=ys.length:=by simpa using r2.length.symm
     have he:∀j (h1:j < its.toArray.size) (h2:j < its2.toArray.size),As A.in1 s its.toArray[j] its2.toArray[j] (f j):=by
       intro j h1 h2;obtain⟨x',e1,q1⟩:=r1.getE (j:=j) (by simpa using h1);obtain⟨y',e2,q2⟩:=r2.getE (j:=j) (by simpa using h2);exact(ih A.in1 x' y' _ _ (f j) hu1 (by simpa using q1) (by simpa using q2) (hf j x' y' e1 e2)).1
     have rc:Bm A s (.ref p) (.ref q) b:=by
       rw [eb,<- z1,<- z2];exact SeqAt.RcAt.tuples t1 t2 hu0 he
     have rn:Bk A s (.ref p) (.ref q) (!b):=by
       rw [eb,<- z1,<- z2];exact SeqAt.RcNeAt.tuples t1 t2 hu0 he
     refine⟨?_,rc,rn⟩
     by_cases hpq:p=q
     · subst hpq;rw [hrefl (.inr (.inl ⟨p,p,xs,ys,f,rfl,rfl,s1,s2,hf,eb⟩))];exact .same _
     · exact .of_refs hpq rc
   · subst e1 e2;cases rx;cases ry;obtain⟨its,r1,t1⟩:=I.sqL s1;obtain⟨its2,r2,t2⟩:=I.sqL s2;have z1:its.toArray.size=xs.length:=by simpa using r1.length.symm
     have z2:its2.toArray.size=ys.length:=by simpa using r2.length.symm
     have he:∀j (h1:j < its.toArray.size) (h2:j < its2.toArray.size),As A.in1 s its.toArray[j] its2.toArray[j] (f j):=by
       intro j h1 h2;obtain⟨x',e1,q1⟩:=r1.getE (j:=j) (by simpa using h1);obtain⟨y',e2,q2⟩:=r2.getE (j:=j) (by simpa using h2);exact(ih A.in1 x' y' _ _ (f j) hu1 (by simpa using q1) (by simpa using q2) (hf j x' y' e1 e2)).1
     have rr:Bm A s (.ref p) (.ref q) b/\Bk A s (.ref p) (.ref q) (!b):=by
       by_cases hl:xs.length=ys.length
       · have e3:b=(D1 its.toArray.size).all f:=by rw [eb,hl,Nat.min_self,beq_self_eq_true,Bool.and_true,z1,hl]
         rw [e3];exact⟨SeqAt.RcAt.lists t1 t2 (by rw [z1,z2,hl]) hu0 he,SeqAt.RcNeAt.lists t1 t2 (by rw [z1,z2,hl]) hu0 he⟩
       · have e3:b=false:=by
           rw [eb];have:(xs.length == ys.length)=false:=by simpa using hl
           rw [this,DT]
         rw [e3];have e4:(its.toArray.size != its2.toArray.size)=true:=by rw [z1,z2];simpa using hl
         exact⟨SeqAt.RcAt.lists_lengths t1 t2 e4 hu0,SeqAt.RcNeAt.lists_lengths t1 t2 e4 hu0⟩
     refine⟨?_,rr⟩
     by_cases hpq:p=q
     · subst hpq;rw [hrefl (.inr (.inr (.inl ⟨p,p,xs,ys,f,rfl,rfl,s1,s2,hf,eb⟩)))];exact .same _
     · exact .of_refs hpq rr.1
   · rcases h with⟨p,xs,rfl,hq,fy⟩ | ⟨p,xs,rfl,hq,fx⟩ | ⟨p,q,xs,ys,e1,e2,s1,s2⟩ | ⟨p,q,xs,ys,e1,e2,s1,s2⟩
     · cases rx;obtain⟨a1,a2,a3,a4,a5,a6⟩:=JF I hu0 hq ry fy;exact⟨a5,a1,a2⟩
     · cases ry;obtain⟨a1,a2,a3,a4,a5,a6⟩:=JF I hu0 hq rx fx;exact⟨a6,a3,a4⟩
     · subst e1 e2;cases rx;cases ry;obtain⟨its,r1,t1⟩:=I.sqT s1;obtain⟨its2,r2,t2⟩:=I.sqL s2;exact⟨.tuple_list t1 t2 hu0,.tuple_list t1 t2 hu0,.tuple_list t1 t2 hu0⟩
     · subst e1 e2;cases rx;cases ry;obtain⟨its,r1,t1⟩:=I.sqL s1;obtain⟨its2,r2,t2⟩:=I.sqT s2;exact⟨.list_tuple t1 t2 hu0,.list_tuple t1 t2 hu0,.list_tuple t1 t2 hu0⟩
end
section
variable {X:Cx}
def rEqD (K:A5)(d:Nat)(neg:Bool):R2:=fun x y H Q=>∃b,EqD K H d x y b/\Q (.bl (if neg then !b else b)) H
theorem op_eqD (d:Nat)(hu:X.A.units + d < cLine):OpR X (Q1 .Eq) (rEqD X.K d false):=by
 intro pins s σ H x y v u Q I rx ry h;obtain⟨b,hb,q⟩:=h;exact(hb.at I d X.A x y v u b hu rx ry).2.1 X.prog X.w X.xe _ ⟨.bl _,H,I,rfl,q⟩
theorem op_neD (d:Nat)(hu:X.A.units + d < cLine):OpR X (Q1 .NotEq) (rEqD X.K d true):=by
 intro pins s σ H x y v u Q I rx ry h;obtain⟨b,hb,q⟩:=h;exact(hb.at I d X.A x y v u b hu rx ry).2.2 X.prog X.w X.xe _ ⟨.bl _,H,I,rfl,q⟩
def rInD (K:A5)(d:Nat)(neg:Bool):R2:=fun x y H Q=>∃p ys,∃f:Nat->Bool,y=.ref p/\(SqL K H p ys\/SqT K H p ys)/\(∀(j:Nat) z,ys[j]?=some z->EqD K H d z x (f j))/\Q (.bl (if neg then !((D1 ys.length).any f) else(D1 ys.length).any f)) H
theorem JH {n:Nat}{f g:Nat->Bool}(h:∀j,j < n->f j=g j):(D1 n).all f=(D1 n).all g:=by
 rw [Ak,Q4,Q4];constructor
 · intro k j hj;rw [<- h j (M9.mp hj)];exact k j hj
 · intro k j hj;rw [h j (M9.mp hj)];exact k j hj
theorem EqD.det {pins:List (Addr×Obj)}{σ:St}{H:Hp}{s:Shared}(I:Inv X pins σ H s):∀(d:Nat) (x y:V) (b b':Bool),EqD X.K H d x y b->EqD X.K H d x y b'->b=b':=by
 intro d
 induction d with
 | zero =>
   intro x y b b' h h';rw [h.2.2,h'.2.2]
 | succ d ih =>
   intro x y b b' h h';rcases h with⟨h1,h2,rfl⟩ | ⟨p,q,xs,ys,f,rfl,rfl,s1,s2,hf,rfl⟩ | ⟨p,q,xs,ys,f,rfl,rfl,s1,s2,hf,rfl⟩ | ⟨rfl,h⟩
   · rcases h' with⟨h1',h2',rfl⟩ | ⟨p,q,xs,ys,f,rfl,rfl,s1,s2,hf,rfl⟩ | ⟨p,q,xs,ys,f,rfl,rfl,s1,s2,hf,rfl⟩ | ⟨rfl,h⟩
     · rfl
     · cases h1
     · cases h1
     · rcases h with⟨p,xs,rfl,_,h⟩ | ⟨p,xs,rfl,_,h⟩ | ⟨p,q,xs,ys,rfl,rfl,s1,s2⟩ | ⟨p,q,xs,ys,rfl,rfl,s1,s2⟩
       · cases h1
       · cases h2
       · cases h1
       · cases h1
   · rcases h' with⟨h1',h2',rfl⟩ | ⟨p',q',xs',ys',f',e1,e2,s1',s2',hf',rfl⟩ | ⟨p',q',xs',ys',f',e1,e2,s1',s2',hf',rfl⟩ | ⟨rfl,h⟩
     · cases h1'
     · cases e1;cases e2;have:=I.tuple_inj s1 s1';subst this;have:=I.tuple_inj s2 s2';subst this;rw [JH fun j hj=>ih _ _ _ _ (hf j (xs[j]'(by omega)) (ys[j]'(by omega)) (C4 _) (C4 _)) (hf' j (xs[j]'(by omega)) (ys[j]'(by omega)) (C4 _) (C4 _))]
     · cases e1;exact(X1 I s1 s1').elim
     · rcases h with⟨p',xs',e1,_,h⟩ | ⟨p',xs',e1,_,h⟩ | ⟨p',q',xs',ys',e1,e2,s1',s2'⟩ | ⟨p',q',xs',ys',e1,e2,s1',s2'⟩
       · cases h
       · cases h
       · cases e2;exact(X1 I s2 s2').elim
       · cases e1;exact(X1 I s1 s1').elim
   · rcases h' with⟨h1',h2',rfl⟩ | ⟨p',q',xs',ys',f',e1,e2,s1',s2',hf',rfl⟩ | ⟨p',q',xs',ys',f',e1,e2,s1',s2',hf',rfl⟩ | ⟨rfl,h⟩
     · cases h1'
     · cases e1;exact(X1 I s1' s1).elim
     · cases e1;cases e2;have:=I.list_inj s1 s1';subst this;have:=I.list_inj s2 s2';subst this;rw [JH fun j hj=>ih _ _ _ _ (hf j (xs[j]'(by omega)) (ys[j]'(by omega)) (C4 _) (C4 _)) (hf' j (xs[j]'(by omega)) (ys[j]'(by omega)) (C4 _) (C4 _))]
     · rcases h with⟨p',xs',e1,_,h⟩ | ⟨p',xs',e1,_,h⟩ | ⟨p',q',xs',ys',e1,e2,s1',s2'⟩ | ⟨p',q',xs',ys',e1,e2,s1',s2'⟩
       · cases h
       · cases h
       · cases e1;exact(X1 I s1' s1).elim
       · cases e2;exact(X1 I s2' s2).elim
   · rcases h' with⟨h1',h2',rfl⟩ | ⟨p',q',xs',ys',f',rfl,rfl,s1',s2',hf',rfl⟩ | ⟨p',q',xs',ys',f',rfl,rfl,s1',s2',hf',rfl⟩ | ⟨rfl,h'⟩
     · rcases h with⟨p,xs,rfl,_,h⟩ | ⟨p,xs,rfl,_,h⟩ | ⟨p,q,xs,ys,rfl,rfl,s1,s2⟩ | ⟨p,q,xs,ys,rfl,rfl,s1,s2⟩
       · cases h1'
       · cases h2'
       · cases h1'
       · cases h1'
     · rcases h with⟨p,xs,e1,_,h⟩ | ⟨p,xs,e1,_,h⟩ | ⟨p,q,xs,ys,e1,e2,s1,s2⟩ | ⟨p,q,xs,ys,e1,e2,s1,s2⟩
       · cases h
       · cases h
       · cases e2;exact(X1 I s2' s2).elim
       · cases e1;exact(X1 I s1' s1).elim
     · rcases h with⟨p,xs,e1,_,h⟩ | ⟨p,xs,e1,_,h⟩ | ⟨p,q,xs,ys,e1,e2,s1,s2⟩ | ⟨p,q,xs,ys,e1,e2,s1,s2⟩
       · cases h
       · cases h
       · cases e1;exact(X1 I s1 s1').elim
       · cases e2;exact(X1 I s2 s2').elim
     · rfl
open Classical in
theorem Ep {pins:List (Addr×Obj)}{σ:St}{H:Hp}{s:Shared}(I:Inv X pins σ H s){d:Nat}{A:Around}(hu:A.units + d < cLine){ys:List V}{its:List Value}(r:Vals ys its){x:V}{v:Value}(rx:RelV x v){f:Nat->Bool}(hf:∀(j:Nat) z,ys[j]?=some z->EqD X.K H d z x (f j)) :
   ∃e:Value->Bool,(∀y,y∈its->As A s y v (e y))/\its.any e=(D1 ys.length).any f:=by
 have key:∀(j j':Nat) (z:Value),its[j]?=some z->its[j']?=some z->f j=f j':=by
   intro j j' z h h';obtain⟨hj,_⟩:=E6.mp h;obtain⟨hj',_⟩:=E6.mp h';obtain⟨w1,a1,b1⟩:=r.getE hj;obtain⟨w2,a2,b2⟩:=r.getE hj';rw [C4 hj] at h;rw [C4 hj'] at h';cases h;rw [J9 h'] at b2;have:=b1.inj b2;subst this;exact EqD.det I d _ _ _ _ (hf j _ a1) (hf j' _ a2)
 let e:Value->Bool:=fun y=>decide (∃j,its[j]?=some y/\f j=true)
 have he:∀(j:Nat) (y:Value),its[j]?=some y->e y=f j:=by
   intro j y h;show decide _=_;cases hb:f j with
   | true=>exact decide_eq_true ⟨j,h,hb⟩
   | false=>exact decide_eq_false fun⟨j',h1,h2⟩=>by rw [key j j' y h h1,h2] at hb;cases hb
 refine⟨e,fun y hy=>?_,?_⟩
 · obtain⟨j,hj,rfl⟩:=Ga hy;obtain⟨w1,a1,b1⟩:=r.getE hj;rw [he j _ (C4 hj)];exact((hf j w1 a1).at I d A w1 x _ v (f j) hu b1 rx).1
 · have hl:=r.length;rw [Ak,DM,DM];constructor
   · rintro⟨y,hy,h⟩;obtain⟨j,hj,rfl⟩:=Ga hy;exact⟨j,M9.mpr (by omega),by rw [<- he j _ (C4 hj)];exact h⟩
   · rintro⟨j,hj,h⟩;have hj':j < its.length:=by have:=M9.mp hj;omega
     exact⟨its[j],q8 hj',by rw [he j _ (C4 hj')];exact h⟩
theorem op_inD (d:Nat)(hu:X.A.units + (d + 1) < cLine):OpR X (Q1 .In) (rInD X.K d false):=by
 intro pins s σ H x y v u Q I rx ry h;obtain⟨p,ys,f,rfl,hq,hf,q⟩:=h;cases ry;rcases hq with hq | hq
 · obtain⟨its,r,il⟩:=I.sqL hq;obtain⟨e,h1,h2⟩:=Ep I (A:=X.A.in1) (by rw [in1_units];omega) r rx hf;refine SeqAt.in_listAt e il (fun y hy=>h1 y (by simpa using hy)) ⟨.bl _,H,I,rfl,?_⟩;rw [show its.toArray.any e=its.any e by simp,h2];exact q
 · obtain⟨its,r,il⟩:=I.sqT hq;obtain⟨e,h1,h2⟩:=Ep I (A:=X.A.in1) (by rw [in1_units];omega) r rx hf;refine SeqAt.in_tupleAt e il (fun y hy=>h1 y (by simpa using hy)) ⟨.bl _,H,I,rfl,?_⟩;rw [show its.toArray.any e=its.any e by simp,h2];exact q
theorem Nn (d:Nat)(hu:X.A.units + (d + 1) < cLine):OpR X (Q1 .NotIn) (rInD X.K d true):=by
 intro pins s σ H x y v u Q I rx ry h;obtain⟨p,ys,f,rfl,hq,hf,q⟩:=h;cases ry;rcases hq with hq | hq
 · obtain⟨its,r,il⟩:=I.sqL hq;obtain⟨e,h1,h2⟩:=Ep I (A:=X.A.in1) (by rw [in1_units];omega) r rx hf;refine SeqAt.notIn_listAt e il (fun y hy=>h1 y (by simpa using hy)) ⟨.bl _,H,I,rfl,?_⟩;rw [show its.toArray.any e=its.any e by simp,h2];exact q
 · obtain⟨its,r,il⟩:=I.sqT hq;obtain⟨e,h1,h2⟩:=Ep I (A:=X.A.in1) (by rw [in1_units];omega) r rx hf;refine SeqAt.notIn_tupleAt e il (fun y hy=>h1 y (by simpa using hy)) ⟨.bl _,H,I,rfl,?_⟩;rw [show its.toArray.any e=its.any e by simp,h2];exact q
end
end L2
namespace Pu
open PySem PySem.Spec L2
def w4:PV->Bool
 | .non=>true
 | .bl _=>true
 | .int _=>true
 | .str _=>true
 | _=>false
def cmpb:Nat->PV->Bool
 | 0,x=>w4 x
 | d + 1,.tup xs=>xs.all (cmpb d)
 | d + 1,.lst xs=>xs.all (cmpb d)
 | _ + 1,x=>w4 x
mutual
def eqP:PV->PV->Bool
 | .non,.non=>true
 | .bl a,.bl b=>a == b
 | .bl a,.int b=>(if a then 1 else 0) == b
 | .int a,.bl b=>a == (if b then 1 else 0)
 | .int a,.int b=>a == b
 | .str a,.str b=>a == b
 | .tup xs,.tup ys=>eqPs xs ys
 | .lst xs,.lst ys=>eqPs xs ys
 | _,_=>false
def eqPs:List PV->List PV->Bool
 | [],[]=>true
 | x::xs,y::ys=>eqP x y && eqPs xs ys
 | _,_=>false
end
theorem GQ:∀(xs ys:List PV),((D1 (min xs.length ys.length)).all (fun j=>match xs[j]?,ys[j]? with | some x,some y=>eqP x y | _,_=>false) && xs.length == ys.length)=eqPs xs ys
 | [],[]=>rfl
 | [],_::_=>rfl
 | _::_,[]=>rfl
 | x :: xs, y :: ys => by
   have ih:=GQ xs ys;show _=(eqP x y && eqPs xs ys);rw [<- ih];simp only [D3,Nat.succ_min_succ,List.range_succ_eq_map,List.all_cons,List.all_map,Function.comp_def,FZ,BW];rw [Bool.and_assoc]
   congr 1
   simp
end Pu
end
section
namespace Pu
open PySem PySem.Spec L2
section
variable {K:A5}{G:Gh}{H:Hp}
inductive Sort3 (K:A5)(G:Gh)(H:Hp)(d:Nat)(x:PV)(v:V):Prop where
 | fl (h:Q7 v=true) (s:w4 x=true)
 | tp (p:Addr) (xs:List PV) (vs:List V) (e:x=.tup xs) (ev:v=.ref p) (h:SqT K H p vs) (r:Reps K G H xs vs) (c:xs.all (cmpb d)=true)
 | ls (p:Addr) (xs:List PV) (vs:List V) (e:x=.lst xs) (ev:v=.ref p) (h:SqL K H p vs) (r:Reps K G H xs vs) (c:xs.all (cmpb d)=true)
theorem Bx {x:PV}{v:V}(s:w4 x=true)(h:RdV K G H x v):Q7 v=true:=by
 cases x with
 | non=>rw [h.non];rfl
 | bl b=>rw [h.bl];rfl
 | int b=>rw [h.int];rfl
 | str b=>rw [h.str];rfl
 | _=>cases s
theorem Er {d:Nat}{x:PV}{v:V}(c:cmpb (d + 1) x=true)(h:RdV K G H x v):Sort3 K G H d x v:=by
 cases x with
 | tup xs =>
   obtain⟨a,vs,e,t,r⟩:=h.tup;exact .tp a xs vs rfl e t r c
 | lst xs =>
   obtain⟨a,vs,e,t,r⟩:=h.lst;exact .ls a xs vs rfl e t r c
 | non=>exact .fl (Bx c h) c
 | bl _=>exact .fl (Bx c h) c
 | int _=>exact .fl (Bx c h) c
 | str _=>exact .fl (Bx c h) c
 | ty _=>cases c
 | pot _=>cases c
 | scr _=>cases c
 | dct _ _=>cases c
 | fdt _ _=>cases c
theorem JI {x y:PV}{v u:V}(sx:w4 x=true)(sy:w4 y=true)(hx:RdV K G H x v)(hy:RdV K G H y u):eqP x y=eqV v u:=by
 cases x with
 | non =>
   cases hx.non;cases y with
   | non=>cases hy.non;rfl
   | bl j=>cases hy.bl;rfl
   | int j=>cases hy.int;rfl
   | str j=>cases hy.str;rfl
   | _=>cases sy
 | bl i =>
   cases hx.bl;cases y with
   | non=>cases hy.non;rfl
   | bl j=>cases hy.bl;rfl
   | int j=>cases hy.int;rfl
   | str j=>cases hy.str;rfl
   | _=>cases sy
 | int i =>
   cases hx.int;cases y with
   | non=>cases hy.non;rfl
   | bl j=>cases hy.bl;rfl
   | int j=>cases hy.int;rfl
   | str j=>cases hy.str;rfl
   | _=>cases sy
 | str i =>
   cases hx.str;cases y with
   | non=>cases hy.non;rfl
   | bl j=>cases hy.bl;rfl
   | int j=>cases hy.int;rfl
   | str j=>cases hy.str;rfl
   | _=>cases sy
 | _=>cases sx
theorem Es {xs:List PV}{y:PV}(sy:w4 y=true):eqP (.tup xs) y=false/\eqP (.lst xs) y=false/\eqP y (.tup xs)=false/\eqP y (.lst xs)=false:=by
 cases y <;> first | exact⟨rfl,rfl,rfl,rfl⟩ | cases sy
theorem GR:∀(d:Nat) (x y:PV) (v u:V),cmpb d x=true->cmpb d y=true->RdV K G H x v->RdV K G H y u->EqD K H d v u (eqP x y):=by
 intro d
 induction d with
 | zero=>intro x y v u cx cy hx hy;exact⟨Bx cx hx,Bx cy hy,JI cx cy hx hy⟩
 | succ d ih =>
   intro x y v u cx cy hx hy
   have el:∀(xs ys:List PV) (vs us:List V),Reps K G H xs vs->Reps K G H ys us->xs.all (cmpb d)=true->ys.all (cmpb d)=true->∀(j:Nat) x' y',vs[j]?=some x'->us[j]?=some y'->EqD K H d x' y' (match xs[j]?,ys[j]? with | some x,some y=>eqP x y | _,_=>false):=by
     intro xs ys vs us r1 r2 c1 c2 j x' y' e1 e2;obtain⟨x1,ex,rx⟩:=r1.get e1;obtain⟨y1,ey,ry⟩:=r2.get e2;rw [ex,ey];exact ih x1 y1 x' y' (Q4.mp c1 x1 (G8 ex)) (Q4.mp c2 y1 (G8 ey)) (.inl rx) (.inl ry)
   cases Er cx hx with
   | fl fx sx =>
     cases Er cy hy with
     | fl fy sy=>exact .inl ⟨fx,fy,JI sx sy hx hy⟩
     | tp q ys us e ev h r c=>subst e;exact .inr (.inr (.inr ⟨(Es sx).2.2.1,.inr (.inl ⟨q,us,ev,.inl h,fx⟩)⟩))
     | ls q ys us e ev h r c=>subst e;exact .inr (.inr (.inr ⟨(Es sx).2.2.2,.inr (.inl ⟨q,us,ev,.inr h,fx⟩)⟩))
   | tp p xs vs e ev h r c =>
     subst e;cases Er cy hy with
     | fl fy sy=>exact .inr (.inr (.inr ⟨(Es sy).1,.inl ⟨p,vs,ev,.inl h,fy⟩⟩))
     | tp q ys us e2 ev2 h2 r2 c2 =>
       subst e2;refine .inr (.inl ⟨p,q,vs,us,_,ev,ev2,h,h2,el xs ys vs us r r2 c c2,?_⟩);rw [<- r.length,<- r2.length];exact(GQ xs ys).symm
     | ls q ys us e2 ev2 h2 r2 c2=>subst e2;exact .inr (.inr (.inr ⟨rfl,.inr (.inr (.inl ⟨p,q,vs,us,ev,ev2,h,h2⟩))⟩))
   | ls p xs vs e ev h r c =>
     subst e;cases Er cy hy with
     | fl fy sy=>exact .inr (.inr (.inr ⟨(Es sy).2.1,.inl ⟨p,vs,ev,.inr h,fy⟩⟩))
     | tp q ys us e2 ev2 h2 r2 c2=>subst e2;exact .inr (.inr (.inr ⟨rfl,.inr (.inr (.inr ⟨p,q,vs,us,ev,ev2,h,h2⟩))⟩))
     | ls q ys us e2 ev2 h2 r2 c2 =>
       subst e2;refine .inr (.inr (.inl ⟨p,q,vs,us,_,ev,ev2,h,h2,el xs ys vs us r r2 c c2,?_⟩));rw [<- r.length,<- r2.length];exact(GQ xs ys).symm
end
section
variable {T:PotK}{ι:Type}{K:A5}{F:ι->Cx}{e a b c:Expr}{es rest:List Expr}{pe pa pb pc:pE}{pos:Pos}
variable {op:CmpOp}
def grd (b:Bool)(P:Prop):Prop:=match b with | true=>P | false=>False
theorem grd_t {P:Prop}:grd true P=P:=rfl
theorem grd_i {b:Bool}{P:Prop}(h:b=true)(p:P):grd b P:=by subst h;exact p
theorem Et {b:Bool}{P:Prop}(h:grd b P):b=true:=by cases b;exact h.elim;rfl
theorem By {b:Bool}{P:Prop}(h:grd b P):P:=by cases b;exact h.elim;exact h
theorem gd2 {a b:Bool}{P:Prop}(h1:a=true)(h2:b=true)(p:P):grd a (grd b P):=grd_i h1 (grd_i h2 p)
def wEq (d:Nat):w2:=fun x y R=>grd (cmpb d x) (grd (cmpb d y) (R (.bl (eqP x y))))
def wNe (d:Nat):w2:=fun x y R=>grd (cmpb d x) (grd (cmpb d y) (R (.bl (!eqP x y))))
theorem W2.eq {K:A5}(d:Nat):W2 K (rEqD K d false) (wEq d):=fun G H x y v u R Q hf rx ry hw k=>⟨_,GR d x y v u (Et hw) (Et (By hw)) rx ry,k _ _ _ (By (By hw)) (Same.refl _) rfl⟩
theorem W2.ne {K:A5}(d:Nat):W2 K (rEqD K d true) (wNe d):=fun G H x y v u R Q hf rx ry hw k=>⟨_,GR d x y v u (Et hw) (Et (By hw)) rx ry,k _ _ _ (By (By hw)) (Same.refl _) rfl⟩
def memP (x:PV)(ys:List PV):Bool:=ys.any fun y=>eqP y x
def wIn (d:Nat)(neg:Bool):w2:=fun x y R=>match x,y with
 | .str i,.str j=>R (.bl (if neg then !(!(Bd j i 0 j.length 1).isEmpty) else !(Bd j i 0 j.length 1).isEmpty))
 | x,.lst ys=>cmpb d x=true/\ys.all (cmpb d)=true/\R (.bl (if neg then !memP x ys else memP x ys))
 | x,.tup ys=>cmpb d x=true/\ys.all (cmpb d)=true/\R (.bl (if neg then !memP x ys else memP x ys))
 | _,_=>False
theorem JJ {x:PV}:∀ys:List PV,((D1 ys.length).any fun j=>match ys[j]? with | some y=>eqP y x | none=>false)=memP x ys
 | []=>rfl
 | y :: ys => by
   have ih:=JJ (x:=x) ys;show _=(eqP y x || memP x ys);rw [<- ih];simp only [D3,List.range_succ_eq_map,List.any_cons,List.any_map,Function.comp_def,FZ,BW]
theorem W2.in_ {K:A5}(d:Nat)(neg:Bool){r:R2}(hr:∀x y H Q,(∃i j,x=.str i/\y=.str j/\Q (.bl (if neg then !(!(Bd j i 0 j.length 1).isEmpty) else !(Bd j i 0 j.length 1).isEmpty)) H)\/rInD K d neg x y H Q->r x y H Q):W2 K r (wIn d neg):=by
 intro G H x y v u R Q hf rx ry hw k;refine hr _ _ _ _ ?_
 have seq:∀(ys:List PV) (p:Addr) (us:List V),u=.ref p->(SqL K H p us\/SqT K H p us)->Reps K G H ys us->cmpb d x=true/\ys.all (cmpb d)=true/\R (.bl (if neg then !memP x ys else memP x ys))->rInD K d neg v u H Q:=by
   intro ys p us eu hq r h;refine⟨p,us,fun j=>match ys[j]? with | some y=>eqP y x | none=>false,eu,hq,fun j z ez=>?_,?_⟩
   · obtain⟨y1,ey,ry⟩:=r.get ez;dsimp only;rw [ey];exact GR d y1 x z v (Q4.mp h.2.1 y1 (G8 ey)) h.1 (.inl ry) rx
   · rw [<- r.length,JJ];exact k _ _ _ h.2.2 (Same.refl _) rfl
 unfold wIn at hw
 split at hw
 · exact .inl ⟨_,_,rx.str,ry.str,k _ _ _ hw (Same.refl _) rfl⟩
 · obtain⟨p,us,eu,hq,r⟩:=ry.lst;exact .inr (seq _ p us eu (.inl hq) r hw)
 · obtain⟨p,us,eu,hq,r⟩:=ry.tup;exact .inr (seq _ p us eu (.inr hq) r hw)
 · exact hw.elim
def wLt:w2:=fun x y R=>match x,y with | .int i,.int j=>R (.bl (decide (i < j))) | .str i,.str j=>R (.bl (decide (i.cps.toList < j.cps.toList))) | _,_=>False
def wGt:w2:=wI0 fun i j=>.bl (decide (j < i))
theorem W2.lt {K:A5}:W2 K (fun x y H Q=>(rI0 fun i j=>.bl (decide (i < j))) x y H Q\/∃i j,x=.str i/\y=.str j/\Q (.bl (decide (i.cps.toList < j.cps.toList))) H) wLt:=by
 intro G H x y v u R Q hf rx ry hw k;unfold wLt at hw
 split at hw
 · exact .inl ⟨_,_,rx.int,ry.int,k _ _ _ hw (Same.refl _) rfl⟩
 · exact .inr ⟨_,_,rx.str,ry.str,k _ _ _ hw (Same.refl _) rfl⟩
 · exact hw.elim
structure Cmp {ι:Type}(K:A5)(F:ι->Cx)(op:CmpOp)(w:w2):Prop where
 ex:∃r,(∀z,OpR (F z) (Q1 op) r)/\W2 K r w
theorem cEq (d:Nat){k:Nat}(hr:∀z,Room k (F z).A)(hd:d<=30:=by decide)(hK:∀z,(F z).K=K:=by intro _;rfl):Cmp K F .Eq (wEq d):=⟨_,fun z=>hK z▸op_eqD d (by have:=(hr z).units;omega),W2.eq d⟩
theorem cNe (d:Nat){k:Nat}(hr:∀z,Room k (F z).A)(hd:d<=30:=by decide)(hK:∀z,(F z).K=K:=by intro _;rfl):Cmp K F .NotEq (wNe d):=⟨_,fun z=>hK z▸op_neD d (by have:=(hr z).units;omega),W2.ne d⟩
theorem cIn (d:Nat){k:Nat}(hr:∀z,Room k (F z).A)(hd:d<=30:=by decide)(hK:∀z,(F z).K=K:=by intro _;rfl):Cmp K F .In (wIn d false):=⟨_,fun z=>MC.or (hK z▸op_inD d (by have:=(hr z).units;omega)),W2.in_ d false fun _ _ _ _ h=>h⟩
theorem w5 (d:Nat){k:Nat}(hr:∀z,Room k (F z).A)(hd:d<=30:=by decide)(hK:∀z,(F z).K=K:=by intro _;rfl):Cmp K F .NotIn (wIn d true):=⟨_,fun z=>MV.or (hK z▸Nn d (by have:=(hr z).units;omega)),W2.in_ d true fun _ _ _ _ h=>h⟩
theorem cLt:Cmp K F .Lt wLt:=⟨_,fun _=>op_lt.or MB,W2.lt⟩
theorem cGt:Cmp K F .Gt wGt:=⟨_,fun _=>op_gt,W2.I0 fun _ _ _ _=>rfl⟩
theorem Bz {w:w2}(hc:Cmp K F op w)(ha:QE T K F a pa)(hb:QR T K F b pb)(hm:y9 op b=false):QE T K F (.Compare a [op] [b] pos) (qOp w pa pb):=by
 obtain⟨r,ho,hw⟩:=hc.ex;obtain⟨ta,h1,h2⟩:=ha;obtain⟨tb,h3,h4⟩:=hb;exact⟨_,fun z=>Jc (ho z) (h1 z) (h3 z) hm,CA hw h2 h4⟩
def qB (pe:pE):pT:=fun env n R=>pe env n fun x env' n'=>match x with | .bl b=>R b env' n' | _=>False
theorem ok_b {K:A5}{t:TE}(h:EOk K T t pe):TOk K T (tB t) (qB pe):=fun C G σ H env n R Q hK hT S hp k=>by
 refine h C G σ H env n _ _ hK hT S hp fun x env' n' v H' r S' rp f=>?_;cases x with
 | bl b=>exact⟨b,rp,k _ _ _ _ r S' f⟩
 | _=>exact r.elim
theorem JK {K:A5}{t:TE}(h:EOk K T t pe):TOk K T (tTest t) (qB pe):=fun C G σ H env n R Q hK hT S hp k=>by
 refine h C G σ H env n _ _ hK hT S hp fun x env' n' v H' r S' rp f=>?_;cases x with
 | bl b=>exact⟨b,rp,k _ _ _ _ r S' f⟩
 | _=>exact r.elim
theorem GS (h:QE T K F e pe)(he:∀z whole,isTrue e (F z).env whole=(do let v ← whole;Z6 e.pos;R1 [v] (truthy v)):=by intro _ _;rfl):QT T K F e (qB pe):=by
 obtain⟨t,h1,h2⟩:=h;exact⟨_,fun z=>pt_val (h1 z) (he z),ok_b h2⟩
theorem J4 {w:w2}(hc:Cmp K F op w)(ha:QE T K F a pa)(hb:QR T K F b pb)(hm:y9 op b=false):QT T K F (.Compare a [op] [b] pos) (qB (qOp w pa pb)):=by
 obtain⟨r,ho,hw⟩:=hc.ex;obtain⟨ta,h1,h2⟩:=ha;obtain⟨tb,h3,h4⟩:=hb;exact⟨_,fun z=>Cs (ho z) (h1 z) (h3 z) hm,JK (CA hw h2 h4)⟩
theorem GT {w:w2}(hc:Cmp K F op w)(ha:QR T K F a pa)(hb:QR T K F b pb)(hm:y9 op b=false):QT T K F (.Compare a [op] [b] pos) (qB (qOpR w pa pb)):=by
 obtain⟨r,ho,hw⟩:=hc.ex;obtain⟨ta,h1,h2⟩:=ha;obtain⟨tb,h3,h4⟩:=hb;exact⟨_,fun z=>Cs (ho z) (h1 z) (h3 z) hm,JK (JD hw h2 h4)⟩
variable {pt pu:pT}
def qAnd (t u:pT):pT:=fun env n R=>t env n fun b env1 n1=>if b=true then u env1 n1 R else R false env1 n1
def qOr (t u:pT):pT:=fun env n R=>t env n fun b env1 n1=>if b=true then R true env1 n1 else u env1 n1 R
theorem ok_and {K:A5}{t u:TT}(h:TOk K T t pt)(h':TOk K T u pu):TOk K T (tAnd t u) (qAnd pt pu):=fun C G σ H env n R Q hK hT S hp k=>by
 refine h C G σ H env n _ _ hK hT S hp fun b env1 n1 H1 p1 S1 f1=>?_;cases b with
 | true=>exact h' C G σ H1 env1 n1 _ _ hK hT S1 p1 fun b env2 n2 H2 p2 S2 f2=>k _ _ _ _ p2 S2 (f1.trans f2)
 | false=>exact k _ _ _ _ p1 S1 f1
theorem ok_or {K:A5}{t u:TT}(h:TOk K T t pt)(h':TOk K T u pu):TOk K T (tOr t u) (qOr pt pu):=fun C G σ H env n R Q hK hT S hp k=>by
 refine h C G σ H env n _ _ hK hT S hp fun b env1 n1 H1 p1 S1 f1=>?_;cases b with
 | false=>exact h' C G σ H1 env1 n1 _ _ hK hT S1 p1 fun b env2 n2 H2 p2 S2 f2=>k _ _ _ _ p2 S2 (f1.trans f2)
 | true=>exact k _ _ _ _ p1 S1 f1
theorem Eu (ha:QT T K F a pt):QW T K F (.BoolOp .And [a] pos) pt:=let ⟨t,h1,h2⟩:=ha;⟨t,fun z=>IZ (h1 z),h2⟩
theorem qw_or1 (ha:QT T K F a pt):QW T K F (.BoolOp .Or [a] pos) pt:=let ⟨t,h1,h2⟩:=ha;⟨t,fun z=>pw_or1 (h1 z),h2⟩
theorem Ew (ha:QT T K F a pt)(hb:QW T K F (.BoolOp .And (b::rest) pos) pu):QW T K F (.BoolOp .And (a::b::rest) pos) (qAnd pt pu):=let ⟨t,h1,h2⟩:=ha;let ⟨u,h3,h4⟩:=hb;⟨_,fun z=>I_ (h1 z) (h3 z),ok_and h2 h4⟩
theorem qw_or (ha:QT T K F a pt)(hb:QW T K F (.BoolOp .Or (b::rest) pos) pu):QW T K F (.BoolOp .Or (a::b::rest) pos) (qOr pt pu):=let ⟨t,h1,h2⟩:=ha;let ⟨u,h3,h4⟩:=hb;⟨_,fun z=>pw_or (h1 z) (h3 z),ok_or h2 h4⟩
theorem QW.qt (h:QW T K F e pt):QT T K F e pt:=let ⟨t,h1,h2⟩:=h;⟨t,fun z=>(h1 z).pt,h2⟩
theorem qe_one {op}(h:QE T K F a pa):QE T K F (.BoolOp op [a] pos) pa:=let ⟨t,h1,h2⟩:=h;⟨t,fun z=>pe_one (h1 z),h2⟩
def qIf (t:pT)(pa pb:pE):pE:=fun env n R=>t env n fun b env1 n1=>if b=true then pa env1 n1 R else pb env1 n1 R
theorem qe_if (hc:QT T K F c pt)(ha:QE T K F a pa)(hb:QE T K F b pb):QE T K F (.IfExp c a b pos) (qIf pt pa pb):=by
 obtain⟨tc,c1,c2⟩:=hc;obtain⟨t,h1,h2⟩:=ha;obtain⟨u,h3,h4⟩:=hb;refine⟨_,fun z=>Mm (c1 z) (h1 z) (h3 z),fun C G σ H env n R Q hK hT S hp k=>?_⟩;refine c2 C G σ H env n _ _ hK hT S hp fun d env1 n1 H1 p1 S1 f1=>?_;cases d with
 | true=>exact h2 C G σ H1 env1 n1 _ _ hK hT S1 p1 fun x env2 n2 v H2 p2 S2 r2 f2=>k _ _ _ _ _ p2 S2 r2 (f1.trans f2)
 | false=>exact h4 C G σ H1 env1 n1 _ _ hK hT S1 p1 fun x env2 n2 v H2 p2 S2 r2 f2=>k _ _ _ _ _ p2 S2 r2 (f1.trans f2)
variable {pl pr:pA}
def qNil:pA:=fun env n R=>R [] env n
def A2 (pe:pE)(pr:pA):pA:=fun env n R=>pe env n fun x env1 n1=>pr env1 n1 fun xs env2 n2=>R (x::xs) env2 n2
theorem A8:QA T K F [] qNil:=⟨_,fun _=>J1,fun C G σ H env n R Q hK hT S hp k=>k _ _ _ _ _ hp S Reps.nil Fr.refl⟩
theorem No {K:A5}{t:TE}{u:TA}(h:EOk K T t pe)(h':AOk K T u pr):AOk K T (Y6 t u) (A2 pe pr):=fun C G σ H env n R Q hK hT S hp k=>by
 refine h C G σ H env n _ _ hK hT S hp fun x env1 n1 v H1 p1 S1 r1 f1=>?_;exact h' C G σ H1 env1 n1 _ _ hK hT S1 p1 fun xs env2 n2 vs H2 p2 S2 r2 f2=>k _ _ _ _ _ p2 S2 (.cons (r1.fr f2) r2) (f1.trans f2)
def F8:Expr->Bool
 | .Starred ..=>false
 | _=>true
theorem D2 {e:Expr}{es:List Expr}{env:PySem.Env}(h:F8 e=true):E4 (e::es) env=(false,eval e env)::E4 es env:=by
 cases e <;> first | rfl | cases h
theorem A3 (ha:QE T K F e pe)(hr:QA T K F es pr)(h:F8 e=true:=by rfl):QA T K F (e::es) (A2 pe pr):=by
 obtain⟨t,h1,h2⟩:=ha;obtain⟨u,h3,h4⟩:=hr;exact⟨_,fun z=>F6 (h1 z) (h3 z) (D2 h),No h2 h4⟩
def qTup (pa:pA):pE:=fun env n R=>pa env n fun xs env1 n1=>xs.length<=1000000/\R (.tup xs) env1 n1
def qLst (pa:pA):pA:=fun env n R=>pa env n fun xs env1 n1=>xs.length<=1000000/\R xs env1 n1
def qL (pn:pA):pE:=fun env n R=>pn env n fun xs env1 n1=>R (.lst xs) env1 n1
theorem M3 {x1}(h:QA T K F es pl):QE T K F (.Tuple es x1 pos) (qTup pl):=by
 obtain⟨t,h1,h2⟩:=h;refine⟨_,fun z=>Gy (h1 z),fun C G σ H env n R Q hK hT S hp k=>?_⟩;refine h2 C G σ H env n _ _ hK hT S hp fun xs env1 n1 vs H1 p1 S1 r1 f1=>⟨by rw [<- r1.length];exact mil p1.1,fun p hp=>?_⟩;exact k _ _ _ _ _ p1.2 (S1.same (Same.lay1 hp)) (Bw (S1.fresh hp) hp r1) (f1.trans (Fr.of (Same.lay1 hp)))
theorem M4 (h:QA T K F es pl):QN T K F (.List es pos) (qLst pl):=by
 obtain⟨t,h1,h2⟩:=h;refine⟨_,fun z=>pe_lst (h1 z),fun C G σ H env n R Q hK hT S hp k=>?_⟩;exact h2 C G σ H env n _ _ hK hT S hp fun xs env1 n1 vs H1 p1 S1 r1 f1=>⟨by rw [<- r1.length];exact mil p1.1,fun p hp=>k _ _ _ _ _ _ p1.2 S1 f1 hp r1⟩
theorem QN.ee (h:QN T K F e pl):QE T K F e (qL pl):=by
 obtain⟨t,h1,h2⟩:=h;refine⟨t,h1,fun C G σ H env n R Q hK hT S hp k=>?_⟩;refine h2 C G σ H env n _ _ hK hT S hp fun xs env1 n1 a vs Hb p1 S1 f1 hn r1=>?_;exact k _ _ _ _ _ p1 (S1.same (Same.lay1 hn)) (CB (S1.fresh hn) hn r1) (f1.trans (Fr.of (Same.lay1 hn)))
theorem Ex {K:A5}{t:TE}(h:ROk K T t pe){C:Ct}{G:Gh}{σ:St}{H:Hp}{env:Env}{n:Nat}{R:PK}{Q:List V->Hp->Prop}(hK:C.K=K)(hT:C.T=T)(S:SR C G σ H env n)(hp:pe env n R)
   (k:∀x env' n' v H',R x env' n'->SR C G σ H' env' n'->RdS C G σ H' env' x v->Fr G H H'->Q [v] H'):Y6 t tNil σ H Q:=
 h C G σ H env n _ _ hK hT S hp fun x env1 n1 v H1 p1 S1 r1 f1=>k _ _ _ _ _ p1 S1 r1 f1
end
end Pu
end
section
namespace HT
open PySem PySem.Spec PyProof.Rows
section
variable {prog:B2}{w:World}{A:Around}{E:Value->Shared->Prop}{s:Shared}
theorem getItem_tuple_whole {t sl:Addr}{items:Array Value}{vl vu:Value}{lo hi:Option Int}{Q:Value->Shared->Prop}(ht:IsTup s.heap t items)(hs:s.heap.IsSliceOf sl vl vu .none)(pl:IsPart vl lo)(pu:IsPart vu hi)
   (hw:sIx items.size 0 lo=0/\sIx items.size items.size hi=items.size) (h:Q (.ref t) s):wpAny (model prog w) A (W3 (.ref t) (.ref sl)) Q E s:=by
 obtain⟨os,hos,hcs,hds⟩:=id hs;have hTs:s.TypeIs (.ref sl) "slice":=⟨os,hos,hcs⟩;have hTt:s.TypeIs (.ref t) "tuple":=ht.typeIs;unfold W3
 try with_reducible refine J5 ?_
 first | refine A0 (A4 ?_) | skip
 refine A0 (wpAny_sequenceKey ht.typeIs (by decide) ?_)
 refine A0 (T8 (name:=A6 "__getitem__") ht.typeIs Bb
   (M6 Bb ht.typeIs entry_tuple_getitem ?_ (args_tuple_getitem _ _)))
 show wpAny _ _ (Gf (.ref t)>>=_) _ _ s;refine A0 (tupleItemsOf_ ht ?_);refine A0 (p8 hTs ?_);rw [if_pos (by decide)];refine A0 (Jl hs pl pu ?_)
 have hyes:(((sIx items.size 0 lo:Nat):Int) == 0 && (1:Int) == 1 && (sIx items.size items.size hi - sIx items.size 0 lo) == items.size)=true:=by
   rw [hw.1,hw.2];simp
 show wpAny _ _ (if(((sIx items.size 0 lo:Nat):Int) == 0 && (1:Int) == 1 && (sIx items.size items.size hi - sIx items.size 0 lo) == items.size)=true then _ else _) _ _ s;rw [if_pos hyes];unfold Builtin.Tuple.tupleIsExact;refine A0 (A0 (p8 hTt (A4 ?_)));rw [if_pos (by rfl)];exact A0 (V9 (A4 ⟨_,rfl,A4 h⟩))
end
end HT
namespace L2
open PySem PySem.Spec PyProof.Rows
section
variable {X:Cx}
def rSlTA (K:A5):V->Option Int->Option Int->Hp->VK->Prop:=fun x lo hi H Q=>∃a xs,x=.ref a/\SqT K H a xs/\
 (cutV xs lo hi=xs->Q (.ref a) H)/\∀p,H p=none->Q (.ref p) (upd H p (.tup (cutV xs lo hi)))
theorem Np:SlR X (rSlTA X.K):=by
 intro pins s σ H x v vl vu lo hi sl Q I rx hs pl pu h;obtain⟨a,xs,rfl,hx,h1,h2⟩:=h
 by_cases hw:HT.sIx xs.length 0 lo=0/\HT.sIx xs.length xs.length hi=xs.length
 · cases rx;obtain⟨its,r,ht,hz⟩:=I.tuple hx;have hlen:its.toArray.size=xs.length:=by rw [D8];exact r.length.symm
   refine⟨"tuple",_,PyProof.Rows.slot_tuple_getitem.lookup,ht.typeIs,?_⟩;refine HT.getItem_tuple_whole ht hs pl pu (by rw [hlen];exact hw) ⟨.ref a,H,I,rfl,h1 ?_⟩;unfold cutV;rw [hw.1,hw.2];simp
 · exact sl_tup pins s σ H (.ref a) v vl vu lo hi sl Q I rx hs pl pu ⟨a,xs,rfl,hx,hw,h2⟩
end
end L2
namespace Pu
open PySem PySem.Spec L2
section
variable {T:PotK}{ι:Type}{K:A5}{F:ι->Cx}{e a b c:Expr}{es rest:List Expr}{pe pa pb pc:pE}{pos:Pos}{pl pr:pA}
def wIx:w2:=fun x y R=>match x,y with
 | .lst xs,.int i=>match atI xs i with | some z=>R z | none=>False
 | .tup xs,.int i=>match atI xs i with | some z=>R z | none=>False
 | .scr ns,.int i=>match atI ns i with | some z=>R (.int z) | none=>False
 | .str z,.int i=>z.length<=1000000/\match atI z.cps.toList i with | some c=>R (.str ⟨#[c]⟩) | none=>False
 | _,_=>False
theorem JL {K:A5}{G:Gh}{H:Hp}{xs:List PV}{vs:List V}(r:Reps K G H xs vs){i:Int}{z:PV}(h:atI xs i=some z):∃v,atI vs i=some v/\Rep K G H z v:=by
 unfold atI at h ⊢;rw [<- r.length];cases e:ixN xs.length i with
 | none=>rw [e] at h;cases h
 | some j =>
   rw [e] at h;exact r.get' h
theorem CD {K:A5}{G:Gh}{H:Hp}{ns:List Int}{v:V}(h:RdV K G H (.scr ns) v):∃a,v=.ref a/\SqL K H a (ns.map V.int):=by
 obtain⟨a,e,h⟩:=h.rep (fun _ z=>nomatch z);refine⟨a,e,?_⟩;rcases h with⟨_,o,h⟩ | h
 · exact .inl (.inr ⟨o,h⟩)
 · exact .inr h
theorem W2.ix {K:A5}:W2 K (rIx K) wIx:=by
 intro G H x y v u R Q hf rx ry hw k;unfold wIx at hw
 split at hw
 · rename_i xs i;obtain⟨a,vs,ev,hq,r⟩:=rx.lst;cases ez:atI xs i with
   | none=>rw [ez] at hw;exact hw.elim
   | some z =>
     rw [ez] at hw;obtain⟨v',e1,r1⟩:=JL r ez;exact .inl ⟨a,vs,i,v',ev,ry.int,hq,e1,k _ _ _ hw (Same.refl _) r1⟩
 · rename_i xs i;obtain⟨a,vs,ev,hq,r⟩:=rx.tup;cases ez:atI xs i with
   | none=>rw [ez] at hw;exact hw.elim
   | some z =>
     rw [ez] at hw;obtain⟨v',e1,r1⟩:=JL r ez;exact .inr (.inl ⟨a,vs,i,v',ev,ry.int,hq,e1,k _ _ _ hw (Same.refl _) r1⟩)
 · rename_i ns i;obtain⟨a,ev,hq⟩:=CD rx;cases ez:atI ns i with
   | none=>rw [ez] at hw;exact hw.elim
   | some z =>
     rw [ez] at hw;refine .inl ⟨a,_,i,.int z,ev,ry.int,hq,?_,k _ _ _ hw (Same.refl _) rfl⟩;unfold atI at ez ⊢;rw [A7];cases e:ixN ns.length i with
     | none=>rw [e] at ez;cases ez
     | some j =>
       rw [e] at ez;show(ns.map V.int)[j]?=_;rw [D5,show ns[j]?=some z from ez]
       rfl
 · rename_i z i;obtain⟨hz,hw⟩:=hw;cases ez:atI z.cps.toList i with
   | none=>rw [ez] at hw;exact hw.elim
   | some c =>
     rw [ez] at hw;exact .inr (.inr ⟨z,i,c,rx.str,ry.int,mil hz,ez,k _ _ _ hw (Same.refl _) rfl⟩)
 · exact hw.elim
theorem E9 (ha:QE T K F a pa)(hb:QE T K F b pb)(hs:GF b:=by exact fun _ _=>rfl)(hK:∀z,(F z).K=K:=by intro _;rfl):QE T K F (.Subscript a b pos) (qOp wIx pa pb):=by
 obtain⟨ta,h1,h2⟩:=ha;obtain⟨tb,h3,h4⟩:=hb.r;exact⟨_,fun z=>GG (hK z▸Jp) (h1 z) (h3 z) hs,CA W2.ix h2 h4⟩
theorem qe_ixR (ha:QR T K F a pa)(hb:QE T K F b pb)(hs:GF b:=by exact fun _ _=>rfl)(hK:∀z,(F z).K=K:=by intro _;rfl):QE T K F (.Subscript a b pos) (qOpR wIx pa pb):=by
 obtain⟨ta,h1,h2⟩:=ha;obtain⟨tb,h3,h4⟩:=hb.r;exact⟨_,fun z=>GG (hK z▸Jp) (h1 z) (h3 z) hs,JD W2.ix h2 h4⟩
abbrev pO:=Env->Nat->(Option Int->Env->Nat->Prop)->Prop
def qNo:pO:=fun env n R=>R none env n
def M5 (pe:pE):pO:=fun env n R=>pe env n fun x env1 n1=>match x with | .int i=>R (some i) env1 n1 | _=>False
def OOk (K:A5)(T:PotK)(t:TO)(po:pO):Prop:=∀(C:Ct) (G:Gh) (σ:St) (H:Hp) (env:Env) (n:Nat) (R:Option Int->Env->Nat->Prop) (Q:Option Int->Hp->Prop),C.K=K->C.T=T->SR C G σ H env n->po env n R->
 (∀x env' n' H',R x env' n'->SR C G σ H' env' n'->Fr G H H'->Q x H')->t σ H Q
def QO {ι:Type}(T:PotK)(K:A5)(F:ι->Cx)(e:Option Expr)(po:pO):Prop:=∃t,(∀z,PO (F z) e t)/\OOk K T t po
theorem k8:QO T K F none qNo:=⟨_,fun _=>GA,fun C G σ H env n R Q hK hT S hp k=>k _ _ _ _ hp S Fr.refl⟩
theorem N6 (h:QE T K F e pe):QO T K F (some e) (M5 pe):=by
 obtain⟨t,h1,h2⟩:=h;refine⟨_,fun z=>GB (h1 z),fun C G σ H env n R Q hK hT S hp k=>?_⟩;refine h2 C G σ H env n _ _ hK hT S hp fun x env1 n1 v H1 p1 S1 r1 f1=>?_;cases x with
 | int i=>exact⟨i,r1,k _ _ _ _ p1 S1 f1⟩
 | _=>exact p1.elim
def cutP {α:Type}(xs:List α)(lo hi:Option Int):List α:=(xs.drop (HT.sIx xs.length 0 lo)).take (HT.sIx xs.length xs.length hi - HT.sIx xs.length 0 lo)
theorem Reps.cut {K:A5}{G:Gh}{H:Hp}{xs:List PV}{vs:List V}(r:Reps K G H xs vs)(lo hi:Option Int):Reps K G H (cutP xs lo hi) (cutV vs lo hi):=by
 unfold cutP cutV;rw [<- r.length];exact(r.drop _).take _
def wSl (x:PV)(lo hi:Option Int)(R:PV->Prop):Prop:=match x with
 | .lst xs=>R (.lst (cutP xs lo hi))
 | .scr ns=>R (.lst ((cutP ns lo hi).map PV.int))
 | .tup xs=>R (.tup (cutP xs lo hi))
 | .str z=>z.length<=1000000/\R (.str (U4 z lo hi))
 | _=>False
def qSl (pe:pE)(pl ph:pO):pE:=fun env n R=>pe env n fun x env1 n1=>pl env1 n1 fun lo env2 n2=>ph env2 n2 fun hi env3 n3=>wSl x lo hi fun z=>R z env3 n3
theorem JM {K:A5}{G:Gh}{H:Hp}:∀ns:List Int,Reps K G H (ns.map PV.int) (ns.map V.int):=by
 intro xq
 induction xq with
 | nil =>
   exact rfl
 | cons i ns ih =>
   exact⟨.int i,ns.map V.int,rfl,rfl,ih⟩
theorem k9 {α β:Type}(f:α->β)(xs:List α)(lo hi:Option Int):cutP (xs.map f) lo hi=(cutP xs lo hi).map f:=by
 unfold cutP;rw [A7,List.map_take,List.map_drop]
theorem sl_ok {K:A5}{G:Gh}{H:Hp}{x:PV}{v:V}{lo hi:Option Int}{R:PV->Prop}{Q:VK}(hf:∀p,H p=none->p∉G.M)(rx:RdV K G H x v)(hw:wSl x lo hi R)(k:∀z v' H',R z->Same H H'->Rep K G H' z v'->Q v' H') :
   rSlL K v lo hi H Q\/rSlTA K v lo hi H Q\/rSlS v lo hi H Q:=by
 unfold wSl at hw
 split at hw
 · obtain⟨a,vs,ev,hq,r⟩:=rx.lst;exact .inl ⟨a,vs,ev,hq,fun p hp=>k _ _ _ hw (Same.lay1 hp) (CB (hf p hp) hp (r.cut lo hi))⟩
 · rename_i ns;obtain⟨a,ev,hq⟩:=CD rx;refine .inl ⟨a,_,ev,hq,fun p hp=>k _ _ _ hw (Same.lay1 hp) (CB (hf p hp) hp ?_)⟩;have:=(JM (K:=K) (G:=G) (H:=H) ns).cut lo hi;rw [k9] at this;exact this
 · obtain⟨a,vs,ev,t,r⟩:=rx.rep (fun _ z=>nomatch z);refine .inr (.inl ⟨a,vs,ev,t.sq,fun z=>k _ _ _ hw (Same.refl _) ?_,fun p hp=>k _ _ _ hw (Same.lay1 hp) (Bw (hf p hp) hp (r.cut lo hi))⟩);have rc:=r.cut lo hi;rw [z] at rc;exact⟨a,vs,rfl,t,rc⟩
 · exact .inr (.inr ⟨_,rx.str,mil hw.1,k _ _ _ hw.2 (Same.refl _) rfl⟩)
 · exact hw.elim
theorem R6 {lo hi:Option Expr}{p2:Pos}{ql qh:pO}(he:QE T K F e pe)(hl:QO T K F lo ql)(hh:QO T K F hi qh)(hK:∀z,(F z).K=K:=by intro _;rfl):QE T K F (.Subscript e (.Slice lo hi none p2) pos) (qSl pe ql qh):=by
 obtain⟨t,h1,h2⟩:=he;obtain⟨tl,l1,l2⟩:=hl;obtain⟨th,u1,u2⟩:=hh;refine⟨_,fun z=>GC ((hK z▸GH).or ((hK z▸Np).or sl_str)) (h1 z) (l1 z) (u1 z),fun C G σ H env n R Q hK hT S hp k=>?_⟩;refine h2 C G σ H env n _ _ hK hT S hp fun x env1 n1 v H1 p1 S1 r1 f1=>?_;refine l2 C G σ H1 env1 n1 _ _ hK hT S1 p1 fun lo env2 n2 H2 p2 S2 f2=>?_;refine u2 C G σ H2 env2 n2 _ _ hK hT S2 p2 fun hi env3 n3 H3 p3 S3 f3=>?_;exact sl_ok (fun p hp=>S3.fresh hp) (.inl ((r1.fr f2).fr f3)) p3 fun z v' H' rz s rv=>k _ _ _ _ _ rz (S3.same s) rv (((f1.trans f2).trans f3).trans (Fr.of s))
def WA1 (K:A5)(r:List V->Hp->VK->Prop)(w:w1):Prop:=∀(G:Gh) (H:Hp) (x:PV) (v:V) (R:PV->Prop) (Q:VK),(∀p,H p=none->p∉G.M)->RdV K G H x v->w x R->
 (∀z v' H',R z->Same H H'->Rep K G H' z v'->Q v' H')->r [v] H Q
theorem JN {K:A5}{r:List V->Hp->VK->Prop}{w:w1}{t:TE}(hw:WA1 K r w)(h:ROk K T t pe):EOk K T (tCB r (Y6 t tNil)) (qUn w pe):=fun C G σ H env n R Q hK hT S hp k=>by
 refine Ex h hK hT S hp fun x env1 n1 v H1 p1 S1 r1 f1=>?_;subst hK;exact hw G H1 x v _ _ (fun p hp=>S1.fresh hp) (r1.rd S1) p1 fun z v' H' rz s rv=>k _ _ _ _ _ rz (S1.same s) rv (f1.trans (Fr.of s))
theorem JO {x:Str}{id:String}{r:List V->Hp->VK->Prop}{w:w1}{p:Pos}(hc:∀z,K1 (F z) (.builtin id) r)(hw:WA1 K r w)(hg:∀z,Gl (F z) x)(hm:∀z,(F z).mg x=none)(hv:N0 x=some (.builtin id))(ha:QR T K F e pe)(hs:F8 e=true:=by rfl)(hn:x≠"__name__":=by decide)(hdb:(x == ("__debug__":Str))=false:=by decide) :
   QE T K F (.Call (.Name x p) [e] [] pos) (qUn w pe):=by
 obtain⟨t,h1,h2⟩:=ha;exact⟨_,fun z=>v3 (hc z) (hg z) (hm z) hv (F6 (h1 z) J1 (D2 hs)) hn hdb (D2 hs),JN hw h2⟩
theorem qe_ct1 {x:Str}{id:String}{r:List V->Hp->VK->Prop}{w:w1}{p:Pos}(hc:∀z,K1 (F z) (.type id) r)(hw:WA1 K r w)(hg:∀z,Gl (F z) x)(hm:∀z,(F z).mg x=none)(hv:N0 x=some (.type id))(ha:QR T K F e pe)(hs:F8 e=true:=by rfl)(hn:x≠"__name__":=by decide)(hdb:(x == ("__debug__":Str))=false:=by decide) :
   QE T K F (.Call (.Name x p) [e] [] pos) (qUn w pe):=by
 obtain⟨t,h1,h2⟩:=ha;exact⟨_,fun z=>Bu (hc z) (hg z) (hm z) hv (F6 (h1 z) J1 (D2 hs)) hn hdb (D2 hs),JN hw h2⟩
def wLen:w1:=fun x R=>match x with
 | .lst xs=>R (.int xs.length)
 | .tup xs=>R (.int xs.length)
 | .scr xs=>R (.int xs.length)
 | .str z=>z.length<=1000000/\R (.int z.length)
 | _=>False
theorem WA1.len {K:A5}:WA1 K (fun xs H Q=>(∃p ys,xs=[.ref p]/\(SqL K H p ys\/SqT K H p ys)/\Q (.int ys.length) H)\/∃z,xs=[.str z]/\z.length<=B0/\Q (.int z.length) H) wLen:=by
 intro G H x v R Q hf rx hw k;unfold wLen at hw
 split at hw
 · obtain⟨a,vs,ev,hq,r⟩:=rx.lst;exact .inl ⟨a,vs,by rw [ev],.inl hq,k _ _ _ hw (Same.refl _) (by rw [r.length];rfl)⟩
 · obtain⟨a,vs,ev,hq,r⟩:=rx.tup;exact .inl ⟨a,vs,by rw [ev],.inr hq,k _ _ _ hw (Same.refl _) (by rw [r.length];rfl)⟩
 · obtain⟨a,ev,hq⟩:=CD rx;exact .inl ⟨a,_,by rw [ev],.inl hq,k _ _ _ hw (Same.refl _) (by rw [A7];rfl)⟩
 · exact .inr ⟨_,by rw [rx.str],mil hw.1,k _ _ _ hw.2 (Same.refl _) rfl⟩
 · exact hw.elim
theorem w6 {p:Pos}(hg:∀z,Gl (F z) "len")(hm:∀z,(F z).mg "len"=none)(ha:QR T K F e pe)(hs:F8 e=true:=by rfl)(hK:∀z,(F z).K=K:=by intro _;rfl):QE T K F (.Call (.Name "len" p) [e] [] pos) (qUn wLen pe):=JO (fun z=>(hK z▸GI).or MW) WA1.len hg hm Ek ha hs
def O3:w1:=fun x R=>match x with | .lst xs=>R (.tup xs) | .tup xs=>R (.tup xs) | _=>False
theorem Q8 {p:Pos}(hg:∀z,Gl (F z) "tuple")(hm:∀z,(F z).mg "tuple"=none)(ha:QR T K F e pe)(hs:F8 e=true:=by rfl)(hK:∀z,(F z).K=K:=by intro _;rfl):QE T K F (.Call (.Name "tuple" p) [e] [] pos) (qUn O3 pe):=qe_ct1 (fun z=>hK z▸MX) (fun G H x v R Q hf rx hw k=>by
 unfold O3 at hw
 split at hw
 · obtain⟨a,vs,ev,hq,r⟩:=rx.lst;exact⟨a,vs,by rw [ev],.inl ⟨hq,fun l hl=>k _ _ _ hw (Same.lay1 hl) (Bw (hf l hl) hl r)⟩⟩
 · obtain⟨a,vs,ev,t,r⟩:=rx.rep (fun _ z=>nomatch z);exact⟨a,vs,by rw [ev],.inr ⟨t.sq,k _ _ _ hw (Same.refl _) ⟨a,vs,rfl,t,r⟩⟩⟩
 · exact hw.elim) hg hm Nh ha hs
def Ey (pe:pE):pA:=fun env n R=>pe env n fun x env1 n1=>match x with | .lst xs=>R xs env1 n1 | .tup xs=>R xs env1 n1 | .scr ns=>R (ns.map PV.int) env1 n1 | _=>False
theorem JP {p:Pos}(hg:∀z,Gl (F z) "list")(hm:∀z,(F z).mg "list"=none)(ha:QR T K F e pe)(hs:F8 e=true:=by rfl)(hK:∀z,(F z).K=K:=by intro _;rfl):QN T K F (.Call (.Name "list" p) [e] [] pos) (Ey pe):=by
 obtain⟨t,h1,h2⟩:=ha;refine⟨_,fun z=>Bu (hK z▸Jr) (hg z) (hm z) Jz (F6 (h1 z) J1 (D2 hs)) (by decide) (by decide) (D2 hs),fun C G σ H env n R Q hK hT S hp k=>?_⟩;refine Ex h2 hK hT S hp fun x env1 n1 v H1 p1 S1 r1 f1=>?_;have rd:RdV K G H1 x v:=hK▸r1.rd S1;cases x with
 | lst xs =>
   obtain⟨a,vs,ev,hq,r⟩:=rd.lst;exact⟨a,vs,by rw [ev],.inl hq,fun l hl=>k _ _ _ _ _ _ p1 S1 f1 hl r⟩
 | tup xs =>
   obtain⟨a,vs,ev,hq,r⟩:=rd.tup;exact⟨a,vs,by rw [ev],.inr hq,fun l hl=>k _ _ _ _ _ _ p1 S1 f1 hl r⟩
 | scr ns =>
   obtain⟨a,ev,hq⟩:=CD rd;exact⟨a,_,by rw [ev],.inl hq,fun l hl=>k _ _ _ _ _ _ p1 S1 f1 hl (JM ns)⟩
 | _=>exact p1.elim
def wMin:w2:=fun x y R=>match x,y with | .int i,.int j=>R (.int (if j < i then j else i)) | _,_=>False
theorem ok_cb2 {K:A5}{r:List V->Hp->VK->Prop}{w:w2}{t u:TE}(hw:W2 K (fun x y H Q=>r [x,y] H Q) w)(h:EOk K T t pa)(h':EOk K T u pb):EOk K T (tCB r (Y6 t (Y6 u tNil))) (qOp w pa pb):=fun C G σ H env n R Q hK hT S hp k=>by
 refine h C G σ H env n _ _ hK hT S hp fun x env1 n1 v H1 p1 S1 r1 f1=>?_;refine h' C G σ H1 env1 n1 _ _ hK hT S1 p1 fun y env2 n2 u H2 p2 S2 r2 f2=>?_;exact hw G H2 x y v u _ _ (fun p hp=>S2.fresh hp) (.inl (r1.fr f2)) (.inl r2) p2 fun z v' H' rz s rv=>k _ _ _ _ _ rz (S2.same s) rv ((f1.trans f2).trans (Fr.of s))
theorem JQ {p:Pos}(hc:∀z,(F z).calm=true)(hg:∀z,Gl (F z) "min")(hm:∀z,(F z).mg "min"=none)(ha:QE T K F a pa)(hb:QE T K F b pb)(hs:F8 a=true:=by rfl)(hs2:F8 b=true:=by rfl):QE T K F (.Call (.Name "min" p) [a,b] [] pos) (qOp wMin pa pb):=by
 obtain⟨t,h1,h2⟩:=ha;obtain⟨u,h3,h4⟩:=hb;refine⟨_,fun z=>v3 (MG (hc z)) (hg z) (hm z) bt_min (F6 (h1 z) (F6 (h3 z) J1 (D2 hs2)) (D2 hs)) (by decide) (by decide) (D2 hs) (by rw [D2 hs2];rfl),ok_cb2 (fun G H x y v u R Q hf rx ry hw k=>?_) h2 h4⟩;unfold wMin at hw
 split at hw
 · exact⟨_,_,by rw [rx.int,ry.int],k _ _ _ hw (Same.refl _) rfl⟩
 · exact hw.elim
def B4 (K:A5)(T:PotK)(f:pF):Sp:=fun vs H Q _=>∃(G:Gh) (xs:List PV) (n:Nat) (R:PV->Nat->Prop),(∀p∈G.pots,p∈G.M/\T.at_ G.M H p n)/\(∀a∈G.M,∃o,H a=some o/\MutO o)/\T.has G.pots/\Reps K G H xs vs/\f xs n R/\
 ∀r n' v H',R r n'->Rep K G H' r v->(∀p∈G.pots,T.at_ G.M H' p n')->(∀b o,b∉G.pots->H b=some o->H' b=some o)->Q v H'
def C1 (f:pF)(pa:pA):pE:=fun env n R=>pa env n fun xs env1 n1=>f xs n1 fun r n2=>R r env1 n2
theorem SR.call {C:Ct}{G:Gh}{σ:St}{H H':Hp}{env:Env}{n n':Nat}(S:SR C G σ H env n)(hk:∀b o,b∉G.pots->H b=some o->H' b=some o)(hp:∀p∈G.pots,C.T.at_ G.M H' p n'):SR C G σ H' env n' where
 frame b o hb e:=by
   by_cases hp:b∈G.pots
   · -- a pot that is new since the entry has no old object
     obtain⟨l,el,_⟩:=S.pre;rw [el] at hp;rcases K6.mp hp with z | z
     · exact absurd z hb
     · have hM:=(S.pots b (by rw [el];exact hp)).1;rcases S.sub b hM with z2 | z2
       · exact(S.newp b (by rw [el];exact hp) hb z2).elim
       · rw [z2] at e;cases e
   · exact hk b o hp (S.frame b o hb e)
 sub:=S.sub
 sup:=S.sup
 pots p h:=⟨(S.pots p h).1,hp p h⟩
 pre:=S.pre
 mu a ha:=by
   by_cases h:a∈G.pots
   · exact C.T.mu (hp a h)
   · obtain⟨o,e,m⟩:=S.mu a ha;exact⟨o,hk a o h e,m⟩
 slots i x e:=by
   have f:Fr G H H':=fun b o hb he=>hk b o (fun z=>hb (S.pots b z).1) he;have:=S.slots i x e;cases x with
   | v x =>
     obtain⟨v,e1,r⟩:=this;exact⟨v,e1,r.fr f⟩
   | ow kk xs =>
     obtain⟨a,vs,e1,h1,h2,h3,h4,r⟩:=this;exact⟨a,vs,e1,h1,h2,h3,hk _ _ h3 h4,r.fr f⟩
 inj:=S.inj
 p0:=S.p0
 len:=S.len
 newp:=S.newp
theorem C3 {x:Str}{p:Pos}{f:pF}{ps:List Str}{k j:Nat}(hG:∀z,Kn (F z).prog (F z).w (F z).K (F z).mg (F z).base x k ps (B4 K T f))(hr:∀z,Room j (F z).A)(hk:k<=j)(hg:∀z,Gl (F z) x)(ha:QA T K F (e::es) pl)(hdb:(x == ("__debug__":Str))=false:=by decide)
   (hs:F8 e=true:=by rfl) (hpl:∀z,(backTo pos (E4 es (F z).env)).any (·.1)=false:=by intro _;rfl):QE T K F (.Call (.Name x p) (e::es) [] pos) (C1 f pl):=by
 obtain⟨t,h1,h2⟩:=ha;refine⟨_,fun z=>pe_fn (hG z) (hr z) hk (hg z) (h1 z) hdb (D2 hs) (hpl z),fun C G σ H env n R Q hK hT S hp k=>?_⟩;refine h2 C G σ H env n _ _ hK hT S hp fun xs env1 n1 vs H1 p1 S1 r1 f1=>?_;subst hT;rw [W6];refine⟨G,xs,n1,_,fun p hp=>S1.pots p hp,S1.mu,S1.hasG,r1,p1,fun r n' v H' rr rv hp hk'=>?_⟩;exact k _ _ _ _ _ rr (S1.call hk' hp) rv (f1.trans fun b o hb e=>hk' b o (fun z=>hb (S1.pots b z).1) e)
end
end Pu
end
section
namespace Pu
open PySem PySem.Spec L2
abbrev pG:=PV->Env->(Env->Prop)->Prop
abbrev pGs:=List PV->Env->(Env->Prop)->Prop
def GOk (K:A5)(g:TG)(pg:pG):Prop:=∀(C:Ct) (G:Gh) (σ:St) (H:Hp) (env:Env) (n:Nat) (x:PV) (v:V) (R:Env->Prop) (Q:St->Hp->Prop),C.K=K->SR C G σ H env n->Rep K G H x v->pg x env R->
 (∀env' σ',R env'->SR C G σ' H env' n->Q σ' H)->g v σ H Q
def GsOk (K:A5)(g:TGs)(pg:pGs):Prop:=∀(C:Ct) (G:Gh) (σ:St) (H:Hp) (env:Env) (n:Nat) (x:List PV) (v:List V) (R:Env->Prop) (Q:St->Hp->Prop),C.K=K->SR C G σ H env n->Reps K G H x v->pg x env R->
 (∀env' σ',R env'->SR C G σ' H env' n->Q σ' H)->g v σ H Q
def QG {ι:Type}(K:A5)(F:ι->Cx)(e:Expr)(pg:pG):Prop:=∃g,(∀z,PG (F z) e g)/\GOk K g pg
def QGs {ι:Type}(K:A5)(F:ι->Cx)(e:List Expr)(pg:pGs):Prop:=∃g,(∀z,PGs (F z) e g)/\GsOk K g pg
def gN (i:Nat):pG:=fun x env R=>R (env.set i (some (.v x)))
def gNl:pGs:=fun xs env R=>match xs with | []=>R env | _=>False
def gCn (g:pG)(r:pGs):pGs:=fun xs env R=>match xs with | x::xs=>g x env fun env1=>r xs env1 R | []=>False
def gTp (k:Nat)(g:pGs):pG:=fun x env R=>match x with | .tup xs=>xs.length=k/\g xs env R | _=>False
theorem SR.set {C:Ct}{G:Gh}{σ:St}{H:Hp}{env:Env}{n:Nat}(S:SR C G σ H env n)(i:Nat){x:PV}{v:V}(r:Rep C.K G H x v):SR C G (σ.set i (some v)) H (env.set i (some (.v x))) n where
 frame:=S.frame
 sub:=S.sub
 sup:=S.sup
 pots:=S.pots
 pre:=S.pre
 mu:=S.mu
 slots j s e:=by
   by_cases h:i=j
   · subst h
     by_cases hl:i < env.length
     · rw [K9 hl] at e;cases e;exact⟨v,by rw [K9 (by rw [<- S.len];exact hl)],r⟩
     · rw [N1 (by rw [J6];omega)] at e;cases e
   · rw [K4 h] at e ⊢;exact S.slots j s e
 inj j k xs ys a e1 e2 e3 e4:=by
   have nj:∀(j:Nat) (xs:OK×List PV),(env.set i (some (.v x)))[j]?=some (some (Slot.ow xs.1 xs.2))->i≠j:=by
     intro j xs e h;subst h
     by_cases hl:i < env.length
     · rw [K9 hl] at e;cases e
     · rw [N1 (by rw [J6];omega)] at e;cases e
   have n1:=nj j xs e1;have n2:=nj k ys e2;rw [K4 n1] at e1 e3;rw [K4 n2] at e2 e4;exact S.inj j k xs ys a e1 e2 e3 e4
 p0:=S.p0
 len:=by rw [J6,J6];exact S.len
 newp:=S.newp
section
variable {T:PotK}{ι:Type}{K:A5}{F:ι->Cx}{e a b c:Expr}{es rest:List Expr}{pe pa pb pc:pE}{pos:Pos}{pl pr:pA}{pg:pG}{pgs:pGs}{pt:pT}
theorem C2 {X:Cx}(i:Nat){x:Str}{pos:Pos}(hN:X.N.Nodup)(hi:X.N[i]?=some x)(hx:Loc X.env.scope x)(hf:X.fn x=true\/X.env.scope.names.lookup x=some .local:=by first | exact .inl rfl | exact .inr rfl | assumption):GW X (.Name x pos) (N5 i):=⟨Mo hN hi hx hf⟩
theorem C6 {i:Nat}{x:Str}(h:∀z,GW (F z) (.Name x pos) (N5 i)):QG K F (.Name x pos) (gN i):=⟨_,fun z=>(h z).h,fun C G σ H env n x v R Q hK S r hp k=>k _ _ hp (S.set i (hK▸r))⟩
theorem X2:QGs K F [] gNl:=⟨_,fun _=>Gs,fun C G σ H env n x v R Q hK S r hp k=>by
 cases x with
 | nil=>exact⟨r,k _ _ hp S⟩
 | cons _ _=>exact hp.elim⟩
theorem J0 (h1:QG K F e pg)(h2:QGs K F es pgs)(hs:∀z,(G0 (e::es) (F z).env).map (·.2)=assign e (F z).env::(G0 es (F z).env).map (·.2):=by intro _;rfl):QGs K F (e::es) (gCn pg pgs):=by
 obtain⟨g,a1,a2⟩:=h1;obtain⟨gs,b1,b2⟩:=h2;refine⟨_,fun z=>Cq (a1 z) (b1 z) (hs z),fun C G σ H env n x v R Q hK S r hp k=>?_⟩;cases x with
 | nil=>exact hp.elim
 | cons x xs =>
   obtain⟨u,us,rfl,ru,rs⟩:=r;exact⟨u,us,rfl,a2 C G σ H env n x u _ _ hK S ru hp fun env' σ' re S'=>b2 C G σ' H env' n xs us _ _ hK S' rs re k⟩
theorem Y7 {m:Nat}{k:Nat}(hc:∀z,(F z).calm=true)(h:QGs K F es pgs)(hn:∀z,(G0 es (F z).env).length=m:=by intro _;rfl)(hst:∀z,(G0 es (F z).env).findIdx? (·.1)=none:=by intro _;rfl)(hK:∀z,(F z).K=K:=by intro _;rfl):QG K F (.Tuple es k pos) (gTp m pgs):=by
 obtain⟨g,a1,a2⟩:=h;refine⟨_,fun z=>hK z▸Gu (hc z) (a1 z) (hn z) (hst z),fun C G σ H env n x v R Q hK S r hp k=>?_⟩;cases x with
 | tup xs =>
   obtain⟨a,vs,rfl,t,rs⟩:=r;exact⟨a,vs,rfl,t.sq,by rw [<- rs.length];exact hp.1,a2 C G σ H env n xs vs _ _ hK S rs hp.2 k⟩
 | _=>exact hp.elim
def ItR (K:A5)(G:Gh)(H:Hp)(J:It)(xs:List PV):Prop:=∀(G2:Gh) (H2:Hp),(∀b o,b∉G.M->H b=some o->H2 b=some o)->(∀a∈G2.M,a∈G.M\/H a=none)->(∀(k:Nat) (p:Addr),G.pots[k]?=some p->G2.pots[k]?=some p)->(∀p,H2 p=none->p∉G2.M)->
 (∀(i:Nat) x,xs[i]?=some x->J.go i H2/\∀v H3,J.yld i H2 v H3->Same H2 H3/\Rep K G2 H3 x v)/\∀i,xs.length<=i->J.stop i H2
def IOk (K:A5)(T:PotK)(wi:TI)(pi:pA):Prop:=∀(C:Ct) (G:Gh) (σ:St) (H:Hp) (env:Env) (n:Nat) (R:List PV->Env->Nat->Prop) (Q:It->Hp->Prop),C.K=K->C.T=T->SR C G σ H env n->pi env n R->
 (∀xs env' n' J H',R xs env' n'->SR C G σ H' env' n'->Fr G H H'->ItR K G H' J xs->Q J H')->wi σ H Q
def QI {ι:Type}(T:PotK)(K:A5)(F:ι->Cx)(tg iter:Expr)(pi:pA):Prop:=∃wi,(∀z,PI (F z) tg iter wi)/\IOk K T wi pi
variable {tg:Expr}
variable {us:List V}{J:It}
theorem Nq {K:A5}{G:Gh}{H:Hp}{a:Addr}{xs:List PV}{vs:List V}(t:AtL G.M H a vs)(r:Reps K G H xs vs):ItR K G H (Itl K a) xs:=by
 intro G2 H2 hk hM hp hf;have hq:SqL K H2 a vs:=SqL.of (hk a _ t.1 t.2);have r2:Reps K G2 H2 xs vs:=Reps.mono hk hM hp _ _ r;refine⟨fun i x e=>?_,fun i hi=>⟨vs,hq,by rw [<- r.length];exact hi⟩⟩;obtain⟨v,ev,rv⟩:=r2.get' e;refine⟨⟨vs,v,hq,ev⟩,fun v' H3 y=>?_⟩;obtain⟨e3,y⟩:=y;subst e3;have:=y vs hq;rw [ev] at this;cases this;exact⟨Same.refl _,rv⟩
theorem Nr {K:A5}{G:Gh}{H:Hp}{a:Addr}{xs:List PV}{vs:List V}(t:AtT G.M H a vs)(r:Reps K G H xs vs):ItR K G H (Itt K a) xs:=by
 intro G2 H2 hk hM hp hf;have hq:SqT K H2 a vs:=SqT.of (hk a _ t.1 t.2);have r2:Reps K G2 H2 xs vs:=Reps.mono hk hM hp _ _ r;refine⟨fun i x e=>?_,fun i hi=>⟨vs,hq,by rw [<- r.length];exact hi⟩⟩;obtain⟨v,ev,rv⟩:=r2.get' e;refine⟨⟨vs,v,hq,ev⟩,fun v' H3 y=>?_⟩;obtain⟨e3,y⟩:=y;subst e3;have:=y vs hq;rw [ev] at this;cases this;exact⟨Same.refl _,rv⟩
def qIl (pe:pE):pA:=fun env n R=>pe env n fun x env1 n1=>match x with | .lst xs=>R xs env1 n1 | _=>False
def qIt (pe:pE):pA:=fun env n R=>pe env n fun x env1 n1=>match x with | .tup xs=>R xs env1 n1 | _=>False
theorem Ay (h:QE T K F e pe)(hK:∀z,(F z).K=K:=by intro _;rfl):QI T K F tg e (qIl pe):=by
 obtain⟨t,h1,h2⟩:=h;refine⟨_,fun z=>hK z▸Mt (h1 z),fun C G σ H env n R Q hK hT S hp k=>?_⟩;refine h2 C G σ H env n _ _ hK hT S hp fun x env1 n1 v H1 p1 S1 r1 f1=>?_;cases x with
 | lst xs =>
   obtain⟨a,vs,rfl,t,r⟩:=r1;exact⟨a,rfl,⟨vs,t.sq⟩,k _ _ _ _ _ p1 S1 f1 (Nq t r)⟩
 | _=>exact p1.elim
theorem O4 (h:QE T K F e pe)(hK:∀z,(F z).K=K:=by intro _;rfl):QI T K F tg e (qIt pe):=by
 obtain⟨t,h1,h2⟩:=h;refine⟨_,fun z=>hK z▸pi_tup (h1 z),fun C G σ H env n R Q hK hT S hp k=>?_⟩;refine h2 C G σ H env n _ _ hK hT S hp fun x env1 n1 v H1 p1 S1 r1 f1=>?_;cases x with
 | tup xs =>
   obtain⟨a,vs,rfl,t,r⟩:=r1;exact⟨a,rfl,⟨vs,t.sq⟩,k _ _ _ _ _ p1 S1 f1 (Nr t r)⟩
 | _=>exact p1.elim
theorem Nt {K:A5}{G:Gh}{H:Hp}(lo:Int)(m:Nat):ItR K G H (Itr lo m) ((D1 m).map fun(k:Nat)=>PV.int (lo + k)):=by
 intro G2 H2 hk hM hp hf;refine⟨fun i x e=>?_,fun i hi=>(show m<=i by simpa using hi)⟩;rw [D5] at e;cases e1:(D1 m)[i]? with
 | none=>rw [e1] at e;cases e
 | some j =>
   rw [e1] at e;cases e;obtain⟨hi,e2⟩:=E6.mp e1;rw [DJ] at e2;subst e2;refine⟨(show i < m by simpa using hi),fun v H3 y=>?_⟩;obtain⟨e3,y⟩:=y;subst e3 y;exact⟨Same.refl _,rfl⟩
def BA (pe:pE):pA:=fun env n R=>pe env n fun x env1 n1=>match x with | .int j=>(-1000000<=j/\j<=1000000)/\R ((D1 j.toNat).map fun(k:Nat)=>PV.int (0 + k)) env1 n1 | _=>False
theorem Ez {p:Pos}(hg:∀z,Gl (F z) "range")(hm:∀z,(F z).mg "range"=none)(h:QE T K F e pe)(hs:F8 e=true:=by rfl):QI T K F tg (.Call (.Name "range" p) [e] [] pos) (BA pe):=by
 obtain⟨t,h1,h2⟩:=h;refine⟨_,fun z=>Mv (hg z) (hm z) (F6 (h1 z) J1 (D2 hs)) (by rw [D2 hs];rfl),fun C G σ H env n R Q hK hT S hp k=>?_⟩;refine Ex (pe:=pe) (fun C G σ H env n R Q hK hT S hp k=>h2 C G σ H env n R Q hK hT S hp fun x env' n' v H' r S' rp f=>k x env' n' v H' r S' (.inl (hK▸rp)) f) hK hT S hp fun x env1 n1 v H1 p1 S1 r1 f1=>?_;cases x with
 | int j=>exact⟨j,by rw [(r1.rd S1).int],by omega,by omega,k _ _ _ _ _ p1.2 S1 f1 (Nt 0 _)⟩
 | _=>exact p1.elim
def capS:Option (Option Slot)->Option Slot
 | some (some (.v x))=>some (.v x)
 | _=>none
def capV (cs:List (Option Nat))(env:Env):Env:=cs.map fun o=>o.bind fun j=>capS (env[j]?)
def R7 (g:pG)(tt:pT)(te:pE):List PV->Env->Nat->(List PV->Nat->Prop)->Prop
 | [],_,n,R=>R [] n
 | x::xs,env,n,R=>g x env fun env1=>tt env1 n fun b env2 n2=>if b=true then te env2 n2 fun y env3 n3=>R7 g tt te xs env3 n3 fun ys n4=>R (y::ys) n4 else R7 g tt te xs env2 n2 R
def qTru:pT:=fun env n R=>R true env n
def O5 (cs:List (Option Nat))(pi:pA)(g:pG)(tt:pT)(te:pE):pA:=fun env n R=>pi env n fun xs env1 n1=>xs.length<=1000000/\R7 g tt te xs (capV cs env1) n1 fun ys n2=>R ys env1 n2
structure Inn (K:A5)(T:PotK)(G:Gh)(σ:St)(H:Hp)(env:Env)(n:Nat):Prop where
 pots:∀p∈G.pots,p∈G.M/\T.at_ G.M H p n
 has:T.has G.pots
 mu:∀a∈G.M,∃o,H a=some o/\MutO o
 slots:∀(i:Nat) (s:Slot),env[i]?=some (some s)->∃x v,s=.v x/\σ[i]?=some (some v)/\Rep K G H x v
 len:env.length=σ.length
theorem Inn.sr {K:A5}{T:PotK}{G:Gh}{σ:St}{H:Hp}{env:Env}{n:Nat}(I:Inn K T G σ H env n):SR ⟨K,T,G.M,G.pots,H,false⟩ G σ H env n where
 frame b o _ e:=e
 sub a ha:=.inl ha
 sup a ha:=ha
 pots:=I.pots
 pre:=⟨[],by simp,.inl rfl⟩
 mu:=I.mu
 slots i s e:=by
   obtain⟨x,v,rfl,ev,r⟩:=I.slots i s e;exact⟨v,ev,r⟩
 inj i j xs ys a e1:=by
   obtain⟨x,v,z,_⟩:=I.slots i _ e1;cases z
 p0:=⟨fun p hp=>(I.pots p hp).1,I.has⟩
 len:=I.len
 newp p hp hn:=absurd hp hn
theorem SR.inn {K:A5}{T:PotK}{G:Gh}{σ:St}{H H0:Hp}{env:Env}{n:Nat}(S:SR ⟨K,T,G.M,G.pots,H0,false⟩ G σ H env n):Inn K T G σ H env n where
 pots:=S.pots
 has:=S.hasG
 mu:=S.mu
 slots i s e:=by
   cases s with
   | v x =>
     obtain⟨v,ev,r⟩:=S.slots i _ e;exact⟨x,v,rfl,ev,r⟩
   | ow kk xs =>
     obtain⟨a,vs,ev,h1,h2,_⟩:=S.slots i _ e;exact absurd h1 h2
 len:=S.len
theorem Nu {K:A5}:TOk K T tTru qTru:=fun C G σ H env n R Q hK hT S hp k=>k _ _ _ _ hp S Fr.refl
structure CI (K:A5)(T:PotK)(G:Gh)(H1:Hp)(D:Addr)(σ:St)(H:Hp)(env:Env)(n:Nat)(acc:List PV)(us:List V):Prop where
 inn:Inn K T ⟨D::G.M,G.pots⟩ σ H env n
 kp:∀b o,b∉G.pots->H1 b=some o->H b=some o
 eD:H D=some (.lst us)
 ra:Reps K ⟨D::G.M,G.pots⟩ H acc us
theorem CI.start {K:A5}{T:PotK}{G:Gh}{H1:Hp}{D:Addr}{σ:St}{env:Env}{n:Nat}(hD:H1 D=none)(I0:Inn K T G σ H1 env n):CI K T G H1 D σ (upd H1 D (.lst [])) env n [] []:=by
 have lay:∀b o,H1 b=some o->upd H1 D (.lst []) b=some o:=fun b o e=>Same.lay1 hD b o e;have new:∀a,a∈D::G.M->a∈G.M\/H1 a=none:=fun a ha=>(B7.mp ha).elim (fun z=>.inr (z▸hD)) .inl;refine⟨⟨fun p hp=>⟨B5 _ (I0.pots p hp).1,?_⟩,I0.has,fun a ha=>?_,fun i s e=>?_,I0.len⟩,fun b o _ e=>lay b o e,D9,rfl⟩
 · have h1:=T.more (M':=D::G.M) (I0.pots p hp).2 new;obtain⟨o,e,_⟩:=T.mu h1;exact T.keep h1 (by rw [e,lay p o e]) fun b o _ e=>lay b o e
 · rcases B7.mp ha with rfl | ha
   · exact⟨_,D9,trivial⟩
   · obtain⟨o,e,m⟩:=I0.mu a ha;exact⟨o,lay a o e,m⟩
 · obtain⟨x,v,rfl,ev,r⟩:=I0.slots i s e;exact⟨x,v,rfl,ev,Rep.mono (G':=⟨D::G.M,G.pots⟩) (fun b o _ e=>lay b o e) new (fun _ _ e=>e) _ _ r⟩
theorem CI.go {K:A5}{T:PotK}{G:Gh}{H1:Hp}{D:Addr}{σ σ':St}{H H':Hp}{env env':Env}{n n':Nat}{acc:List PV}(c:CI K T G H1 D σ H env n acc us)(nD:D∉G.pots)(S:SR ⟨K,T,D::G.M,G.pots,H,false⟩ ⟨D::G.M,G.pots⟩ σ' H' env' n'):CI K T G H1 D σ' H' env' n' acc us:=
 ⟨S.inn,fun b o hb e=>S.frame b o hb (c.kp b o hb e),S.frame D _ nD c.eD,Reps.mono (fun b o hb e=>S.frame b o (fun z=>hb (c.inn.pots b z).1) e) (fun a ha=>.inl ha) (fun _ _ e=>e) _ _ c.ra⟩
theorem CI.fD {G:Gh}{D:Addr}{H:Hp}(o:HO):Fr ⟨D::G.M,G.pots⟩ H (upd H D o):=fun b u hb e=>by
 rw [C7 (fun z=>hb (by rw [z];exact B8))];exact e
theorem CI.add {K:A5}{T:PotK}{G:Gh}{H1:Hp}{D:Addr}{σ:St}{H:Hp}{env:Env}{n:Nat}{acc:List PV}{y:PV}{u:V}(c:CI K T G H1 D σ H env n acc us)(nD:D∉G.pots)(hD:H1 D=none)(r:Rep K ⟨D::G.M,G.pots⟩ H y u):CI K T G H1 D σ (upd H D (.lst (us++[u]))) env n (acc++[y]) (us++[u]):=by
 refine⟨⟨fun p hp=>⟨(c.inn.pots p hp).1,T.keep (c.inn.pots p hp).2 (C7 fun z=>nD (by rw [<- z];exact hp)) (CI.fD _)⟩,c.inn.has,fun a ha=>?_,fun q s e=>?_,c.inn.len⟩,fun b o hb e=>?_,D9,(c.ra.append (.one r)).fr (CI.fD _)⟩
 · by_cases haD:a=D
   · subst haD;exact⟨_,D9,trivial⟩
   · rw [C7 haD];exact c.inn.mu a ha
 · obtain⟨x,v,rfl,ev,r⟩:=c.inn.slots q s e;exact⟨x,v,rfl,ev,r.fr (CI.fD _)⟩
 · rw [C7 (fun z=>by rw [z,hD] at e;cases e)];exact c.kp b o hb e
theorem CI.it {K:A5}{T:PotK}{G:Gh}{H1:Hp}{D:Addr}{σ:St}{H:Hp}{env:Env}{n:Nat}{acc:List PV}{xs:List PV}(c:CI K T G H1 D σ H env n acc us)(hD:H1 D=none)(hJ:ItR K G H1 J xs):(∀(i:Nat) x,xs[i]?=some x->J.go i H/\∀v H3,J.yld i H v H3->Same H H3/\Rep K ⟨D::G.M,G.pots⟩ H3 x v)/\∀i,xs.length<=i->J.stop i H:=
 hJ ⟨D::G.M,G.pots⟩ H (fun b o hb e=>by
   by_cases z:b∈G.pots
   · obtain⟨h1,_⟩:=c.inn.pots b z;rcases B7.mp h1 with rfl | h1
     · rw [hD] at e;cases e
     · exact absurd h1 hb
   · exact c.kp b o z e) (fun a ha=>(B7.mp (show a∈D::G.M from ha)).elim (fun z=>.inr (z▸hD)) .inl) (fun _ _ e=>e) fun p hp=>c.inn.sr.fresh hp
theorem JR {K:A5}{T:PotK}{g:TG}{tt:TT}{te:TE}{pg:pG}{ptt:pT}{pte:pE}(hg:GOk K g pg)(ht:TOk K T tt ptt)(he:EOk K T te pte){G:Gh}{H1:Hp}{xs:List PV}(hJ:ItR K G H1 J xs)(hl:xs.length<=1000000)
   {σc:St} {env:Env} {n:Nat} {R:List PV->Nat->Prop} {Q:VK} {D:Addr} (hD:H1 D=none) (I0:Inn K T G σc H1 env n) (hp:R7 pg ptt pte xs env n R)
   (hQ:∀ys n' us H',R ys n'->(∀p∈G.pots,T.at_ (D::G.M) H' p n')->(∀b o,b∉G.pots->H1 b=some o->H' b=some o)->H' D=some (.lst us)->Reps K ⟨D::G.M,G.pots⟩ H' ys us->Q (.ref D) H') :
   CompW J g tt te Q D σc (upd H1 D (.lst [])):=by
 have nD:D∉G.pots:=fun z=>I0.sr.fresh hD (I0.pots D z).1;refine⟨fun i m σ H=>m=xs.length - i/\i<=xs.length/\∃env n acc us,CI K T G H1 D σ H env n acc us/\acc.length<=i/\R7 pg ptt pte (xs.drop i) env n fun ys n'=>R (acc++ys) n',⟨xs.length,rfl,G4 _,env,n,[],[],.start hD I0,A9 _,hp⟩,?_⟩;rintro i m σ H ⟨rfl,hi,env,n,acc,us,c,la,hc⟩;obtain⟨hgo,hstop⟩:=c.it hD hJ
 by_cases hlt:i < xs.length
 · obtain⟨g1,g2⟩:=hgo i _ (C4 hlt);refine .inr ⟨g1,fun v H2 y=>?_⟩;obtain⟨s2,rv⟩:=g2 v H2 y;rw [p9 hlt] at hc;refine hg _ _ σ H2 env n xs[i] v _ _ rfl (c.inn.sr.same s2) rv hc fun env1 σ1 hc1 S2=>?_;refine ht _ _ σ1 H2 env1 n _ _ rfl rfl S2 hc1 fun b env2 n2 H4 hc2 S4 f4=>?_;cases b with
   | false=>exact⟨xs.length - (i + 1),Cb _ _ hlt,rfl,hlt,env2,n2,acc,us,c.go nD S4,Nat.le_succ_of_le la,hc2⟩
   | true =>
     refine he _ _ σ1 H4 env2 n2 _ _ rfl rfl S4 hc2 fun y env3 n3 u H5 hc3 S5 r5 f5=>?_;have c5:=c.go nD S5;refine⟨us,c5.eD,by rw [<- c.ra.length];exact mil' (by omega),xs.length - (i + 1),Cb _ _ hlt,rfl,hlt,env3,n3,acc++[y],us++[u],c5.add nD hD r5,by rw [E2,Z8];omega,?_⟩;simp only [W5];exact hc3
 · obtain rfl:i=xs.length:=Nat.le_antisymm hi (Ah hlt);refine .inl ⟨hstop _ (A9 _),?_⟩;rw [DN] at hc;have hc':R (acc++[]) n:=hc;rw [W6] at hc';exact hQ _ n us H hc' (fun p hp=>(c.inn.pots p hp).2) c.kp c.eD c.ra
end
end Pu
end
section
namespace Pu
open PySem PySem.Spec L2
section
variable {T:PotK}{ι:Type}{K:A5}{F:ι->Cx}{e a b c:Expr}{es rest:List Expr}{pe pa pb pc:pE}{pos:Pos}{pl pr:pA}{pg:pG}{pgs:pGs}{pt:pT}
def QIf {ι:Type}(T:PotK)(K:A5)(F:ι->Cx)(ifs:List Expr)(pt:pT):Prop:=∃t,(∀z,PIf (F z) ifs t)/\TOk K T t pt
theorem CF:QIf T K F [] qTru:=⟨_,fun _=>Nf,Nu⟩
theorem U6 (h:QT T K F c pt):QIf T K F [c] pt:=let ⟨t,h1,h2⟩:=h;⟨t,fun z=>Ng (h1 z),h2⟩
theorem GU {C:Ct}{G:Gh}{σ:St}{H:Hp}{env:Env}{n:Nat}(S:SR C G σ H env n)(cs:List (Option Nat)):Inn C.K C.T G (Bv cs σ) H (capV cs env) n where
 pots:=S.pots
 has:=S.hasG
 mu:=S.mu
 len:=by simp [capV,Bv]
 slots i s e:=by
   unfold capV at e;rw [D5] at e;cases ec:cs[i]? with
   | none=>rw [ec] at e;cases e
   | some o =>
     rw [ec] at e;cases o with
     | none=>cases e
     | some j =>
       have e':capS (env[j]?)=some s:=by simpa using e
       unfold capS at e'
       split at e'
       · rename_i x ex;cases e';obtain⟨v,ev,r⟩:=S.slots j _ ex;refine⟨x,v,rfl,?_,r⟩;unfold Bv;rw [D5,ec];simp [ev]
       · cases e'
def cutH (H:Hp)(D:Addr):Hp:=fun b=>if b=D then none else H b
theorem U7 {H:Hp}{D b:Addr}(h:b≠D):cutH H D b=H b:=if_neg h
theorem GV {H:Hp}{D:Addr}{o:HO}(h:H D=some o):upd (cutH H D) D o=H:=by
 funext b
 by_cases hb:b=D
 · subst hb;rw [D9,h]
 · rw [C7 hb,U7 hb]
theorem Y8 {scope:Scope}{cl:ι->List (Str×Addr)}{N:List Str}{cs:List (Option Nat)}{elt tg iter:Expr}{ifs:List Expr}{pi:pA}{ptt:pT}{pte:pE}(S:∀z,v4 (F z) scope (cl z) N cs)(hc:∀z,(F z).calm=true)(hi:QI T K F tg iter pi)
   (hg:QG K (fun y:ι×List Addr×Addr×Shared×Hp=>E7 (F y.1) scope (cl y.1) N y.2.1 y.2.2.1 y.2.2.2.1 y.2.2.2.2) tg pg) (ht:QIf T K (fun y:ι×List Addr×Addr×Shared×Hp=>E7 (F y.1) scope (cl y.1) N y.2.1 y.2.2.1 y.2.2.2.1 y.2.2.2.2) ifs ptt)
   (he:QE T K (fun y:ι×List Addr×Addr×Shared×Hp=>E7 (F y.1) scope (cl y.1) N y.2.1 y.2.2.1 y.2.2.2.1 y.2.2.2.2) elt pte)
   (hs:∀z x,V6 iter (F z).env x=pure x:=by intro _ _;rfl):QN T K F (.ListComp elt [⟨tg,iter,ifs,0⟩] scope pos) (O5 cs pi pg ptt pte):=by
 obtain⟨wi,i1,i2⟩:=hi;obtain⟨g,hg0,hg⟩:=hg;obtain⟨tt,ht0,ht⟩:=ht;obtain⟨te,he0,he⟩:=he;refine⟨_,fun z=>Jx (S z) (hc z) (i1 z) (fun fp C s H=>⟨hg0 (z,fp,C,s,H),ht0 (z,fp,C,s,H),he0 (z,fp,C,s,H)⟩) (hs z),fun C G σ H env n R Q hK hT S hp k=>?_⟩;refine i2 C G σ H env n _ _ hK hT S hp fun xs env1 n1 J H1 p1 S1 f1 hJ=>?_;intro D hD;have hDM:=S1.fresh hD;refine JR (G:=G) hg ht he hJ p1.1 hD (hT▸hK▸GU S1 cs) p1.2 fun ys n2 us H' rr hpots hk eD ry=>?_
 -- the heap without D
 have nD:∀b o,H1 b=some o->b≠D:=fun b o e z=>by rw [z,hD] at e;cases e
 have hD0:C.H0 D=none:=by
   cases z:C.H0 D with
   | none=>rfl
   | some o =>
     by_cases hp:D∈C.pots0
     · exact absurd (S1.sup D (S1.p0.1 D hp)) hDM
     · have:=S1.frame D o hp z;rw [hD] at this;cases this
 have hk2:∀b o,b∉G.pots->H1 b=some o->cutH H' D b=some o:=fun b o hb e=>by rw [U7 (nD b o e)];exact hk b o hb e
 have nc:∀b,b∉D::G.M->b≠D:=fun b hb z=>hb (by rw [z];exact B8);have np:∀p∈G.pots,p≠D:=fun p hp z=>hDM (z▸(S1.pots p hp).1)
 have Sb:SR C G σ (cutH H' D) env1 n2:=S1.call hk2 fun p hp=>by
   subst hT;have h2:=C.T.keep (hpots p hp) (H':=cutH H' D) (U7 (np p hp)) fun b o hb e=>by rw [U7 (nc b hb)];exact e
   exact C.T.more h2 fun a ha=>.inl (B5 _ ha)
 have:=k ys env1 n2 D us (cutH H' D) rr Sb (f1.trans fun b o hb e=>hk2 b o (fun z=>hb (S1.pots b z).1) e) (by unfold cutH;rw [if_pos rfl]) ?_
 · rw [GV eD] at this;exact this
 · exact Reps.mono (G:=⟨D::G.M,G.pots⟩) (fun b o hb e=>by rw [U7 (nc b hb)];exact e) (fun a ha=>.inl (B5 _ ha)) (fun _ _ e=>e) _ _ ry
end
end Pu
end
section
namespace Pu
open PySem PySem.Spec L2
structure Y9 where
 nx:Env->Nat->Prop
 rt:PV->Nat->Prop
 bk:Env->Nat->Prop:=fun _ _=>False
 ct:Env->Nat->Prop:=fun _ _=>False
abbrev pS:=Y9->Env->Nat->Prop
structure Ext (G:Gh)(H:Hp)(G':Gh)(H':Hp):Prop where
 keep:∀b o,b∉G.M->H b=some o->H' b=some o
 new:∀a∈G'.M,a∈G.M\/H a=none
 pot:∀(k:Nat) (p:Addr),G.pots[k]?=some p->G'.pots[k]?=some p
theorem Ext.refl {G:Gh}{H:Hp}:Ext G H G H:=⟨fun _ _ _ e=>e,fun _ h=>.inl h,fun _ _ e=>e⟩
theorem Ext.fr {G:Gh}{H H':Hp}(f:Fr G H H'):Ext G H G H':=⟨f,fun _ h=>.inl h,fun _ _ e=>e⟩
theorem Ext.trans {G G1 G2:Gh}{H H1 H2:Hp}(a:Ext G H G1 H1)(b:Ext G1 H1 G2 H2):Ext G H G2 H2 where
 keep c o hc e:=b.keep c o (fun z=>(a.new c z).elim hc fun z=>by rw [z] at e;cases e) (a.keep c o hc e)
 new c hc:=(b.new c hc).elim (fun z=>a.new c z) fun z=>by
   by_cases hM:c∈G.M
   · exact .inl hM
   · refine .inr ?_;cases e:H c with
     | none=>rfl
     | some o=>rw [a.keep c o hM e] at z;cases z
 pot k p e:=b.pot k p (a.pot k p e)
structure Link (C:Ct)(G:Gh)(H:Hp)(PD:Y9)(D:Ends):Prop where
 nx:∀env n G' σ H',PD.nx env n->SR C G' σ H' env n->Ext G H G' H'->D.nx σ H'
 rt:∀x n v G' σ H' env,PD.rt x n->SR C G' σ H' env n->Rep C.K ⟨C.M0,G'.pots⟩ H' x v->Ext G H G' H'->D.rt v H'
 bk:∀env n G' σ H',PD.bk env n->SR C G' σ H' env n->Ext G H G' H'->D.bk σ H'
 ct:∀env n G' σ H',PD.ct env n->SR C G' σ H' env n->Ext G H G' H'->D.ct σ H'
theorem Link.ext {C:Ct}{G G':Gh}{H H':Hp}{PD:Y9}{D:Ends}(L:Link C G H PD D)(x:Ext G H G' H'):Link C G' H' PD D:=
 ⟨fun env n G2 σ H2 p S e=>L.nx env n G2 σ H2 p S (x.trans e),fun y n v G2 σ H2 env p S r e=>L.rt y n v G2 σ H2 env p S r (x.trans e),fun env n G2 σ H2 p S e=>L.bk env n G2 σ H2 p S (x.trans e),fun env n G2 σ H2 p S e=>L.ct env n G2 σ H2 p S (x.trans e)⟩
def SOk (K:A5)(T:PotK)(np:Bool)(t:TS)(ps:pS):Prop:=∀(C:Ct) (G:Gh) (σ:St) (H:Hp) (env:Env) (n:Nat) (PD:Y9) (D:Ends),C.K=K->C.T=T->C.np=np->SR C G σ H env n->ps PD env n->Link C G H PD D->t D σ H
def QS {ι:Type}(T:PotK)(np:Bool)(K:A5)(F:ι->Cx)(st:Stmt)(ps:pS):Prop:=∃t,(∀z,PS (F z) st t)/\SOk K T np t ps
def QSs {ι:Type}(T:PotK)(np:Bool)(K:A5)(F:ι->Cx)(st:List Stmt)(ps:pS):Prop:=∃t,(∀z,PSs (F z) st t)/\SOk K T np t ps
theorem SR.out {C:Ct}{G:Gh}{σ:St}{H:Hp}{env:Env}{n:Nat}(S:SR C G σ H env n){x:PV}{v:V}(r:Rep C.K G H x v):Rep C.K ⟨C.M0,G.pots⟩ H x v:=
 Rep.mono (G':=⟨C.M0,G.pots⟩) (fun _ _ _ e=>e) (fun a ha=>.inl (S.sup a ha)) (fun _ _ e=>e) _ _ r
theorem SR.old {C:Ct}{G:Gh}{σ:St}{H:Hp}{env:Env}{n:Nat}(S:SR C G σ H env n){a:Addr}(h:H a=none):C.H0 a=none:=by
 cases z:C.H0 a with
 | none=>rfl
 | some o =>
   by_cases hp:a∈C.pots0
   · exact absurd (S.sup a (S.p0.1 a hp)) (S.fresh h)
   · have:=S.frame a o hp z;rw [h] at this;cases this
theorem SR.moreO {C:Ct}{G:Gh}{σ:St}{H:Hp}{env:Env}{n:Nat}(S:SR C G σ H env n){a:Addr}{ob:HO}(mo:MutO ob)(h:H a=none):SR C ⟨a::G.M,G.pots⟩ σ (upd H a ob) env n where
 frame b o hb e:=Same.lay1 h b o (S.frame b o hb e)
 sub b hb:=(B7.mp hb).elim (fun z=>.inr (z▸S.old h)) (S.sub b)
 sup b hb:=B5 _ (S.sup b hb)
 pots p hp:=⟨B5 _ (S.pots p hp).1,by
   have h1:=C.T.more (M':=a::G.M) (S.pots p hp).2 (fun c hc=>(B7.mp hc).elim (fun z=>.inr (z▸h)) .inl);obtain⟨o,e,_⟩:=C.T.mu h1
   exact C.T.keep h1 (by rw [e,Same.lay1 h p o e]) fun b o _ e=>Same.lay1 h b o e⟩
 pre:=S.pre
 mu b hb:=by
   rcases B7.mp hb with rfl | hb
   · exact⟨_,D9,mo⟩
   · obtain⟨o,e,m⟩:=S.mu b hb;exact⟨o,Same.lay1 h b o e,m⟩
 slots i s e:=by
   have mm:∀{x:PV} {v:V},Rep C.K G H x v->Rep C.K ⟨a::G.M,G.pots⟩ (upd H a ob) x v:=fun r=>Rep.mono (G':=⟨a::G.M,G.pots⟩) (H':=upd H a ob) (fun b o _ e=>Same.lay1 h b o e) (fun c hc=>(B7.mp (show c∈a::G.M from hc)).elim (fun z=>.inr (z▸h)) .inl) (fun _ _ e=>e) _ _ r;have:=S.slots i s e;cases s with
   | v x =>
     obtain⟨v,e1,r⟩:=this;exact⟨v,e1,mm r⟩
   | ow kk xs =>
     obtain⟨b,us,e1,h1,h2,h3,h4,r⟩:=this;exact⟨b,us,e1,B5 _ h1,h2,h3,Same.lay1 h _ _ h4,Reps.mono (G':=⟨a::G.M,G.pots⟩) (H':=upd H a ob) (fun b o _ e=>Same.lay1 h b o e) (fun c hc=>(B7.mp (show c∈a::G.M from hc)).elim (fun z=>.inr (z▸h)) .inl) (fun _ _ e=>e) _ _ r⟩
 inj:=S.inj
 p0:=S.p0
 len:=S.len
 newp:=S.newp
theorem SR.more {C:Ct}{G:Gh}{σ:St}{H:Hp}{env:Env}{n:Nat}(S:SR C G σ H env n){a:Addr}{vs:List V}(h:H a=none):SR C ⟨a::G.M,G.pots⟩ σ (upd H a (.lst vs)) env n:=S.moreO (ob:=.lst vs) trivial h
theorem SR.ow {C:Ct}{G:Gh}{σ:St}{H:Hp}{env:Env}{n:Nat}(S:SR C G σ H env n)(i:Nat)(kk:OK){a:Addr}{xs:List PV}{vs:List V}(h:H a=none)(r:Reps C.K G H xs vs) :
   SR C ⟨a::G.M,G.pots⟩ (σ.set i (some (.ref a))) (upd H a (mkO kk vs)) (env.set i (some (.ow kk xs))) n:=by
 have S1:=S.moreO (JC kk vs) h;have aM:a∉G.M:=S.fresh h;have r1:Reps C.K ⟨a::G.M,G.pots⟩ (upd H a (mkO kk vs)) xs vs:=Reps.mono (G':=⟨a::G.M,G.pots⟩) (H':=upd H a (mkO kk vs)) (fun b o _ e=>Same.lay1 h b o e) (fun c hc=>(B7.mp (show c∈a::G.M from hc)).elim (fun z=>.inr (z▸h)) .inl) (fun _ _ e=>e) _ _ r
 have other:∀(j:Nat) (ys:OK×List PV),env[j]?=some (some (Slot.ow ys.1 ys.2))->σ[j]?≠some (some (.ref a)):=by
   intro j ys e z;obtain⟨b,us,e1,h1,_⟩:=S.slots j _ e;rw [z] at e1;cases e1;exact aM h1
 exact {
   frame:=S1.frame
   sub:=S1.sub
   sup:=S1.sup
   pots:=S1.pots
   pre:=S1.pre
   mu:=S1.mu
   slots:=fun j s e=>by
     by_cases hj:i=j
     · subst hj
       by_cases hl:i < env.length
       · rw [K9 hl] at e;cases e;exact⟨a,vs,by rw [K9 (by rw [<- S.len];exact hl)],B8,fun z=>aM (S.sup a z),fun z=>aM (S.pots a z).1,D9,r1⟩
       · rw [N1 (by rw [J6];omega)] at e;cases e
     · rw [K4 hj] at e ⊢;exact S1.slots j s e
   inj:=fun j k xs' ys b e1 e2 e3 e4=>by
     by_cases hj:i=j
     · by_cases hk:i=k
       · omega
       · subst hj;rw [K4 hk] at e2 e4
         by_cases hl:i < σ.length
         · rw [K9 hl] at e3;cases e3;exact absurd e4 (other k ys e2)
         · rw [N1 (by rw [J6];omega)] at e3;cases e3
     · rw [K4 hj] at e1 e3
       by_cases hk:i=k
       · subst hk
         by_cases hl:i < σ.length
         · rw [K9 hl] at e4;cases e4;exact absurd e3 (other j xs' e1)
         · rw [N1 (by rw [J6];omega)] at e4;cases e4
       · rw [K4 hk] at e2 e4;exact S.inj j k xs' ys b e1 e2 e3 e4
   p0:=S.p0
   len:=by rw [J6,J6];exact S.len
   newp:=S.newp }
theorem SR.own {C:Ct}{G:Gh}{σ:St}{H:Hp}{env:Env}{n:Nat}(S:SR C G σ H env n)(i:Nat){a:Addr}{xs:List PV}{vs:List V}(h:H a=none)(r:Reps C.K G H xs vs) :
   SR C ⟨a::G.M,G.pots⟩ (σ.set i (some (.ref a))) (upd H a (.lst vs)) (env.set i (some (.ow .lst xs))) n:=S.ow i .lst h r
theorem SR.putO {C:Ct}{G:Gh}{σ:St}{H:Hp}{env:Env}{n:Nat}(S:SR C G σ H env n){i:Nat}{kk:OK}(k':OK){a:Addr}{xs ys:List PV}{vs:List V}(e:env[i]?=some (some (.ow kk xs)))(ea:σ[i]?=some (some (.ref a)))(r:Reps C.K G H ys vs) :
   SR C G σ (upd H a (mkO k' vs)) (env.set i (some (.ow k' ys))) n/\Fr G H (upd H a (mkO k' vs)):=by
 obtain⟨a',us,ea',aM,a0,ap,eH,_⟩:=S.slots i _ e;rw [ea] at ea';cases ea';have f:Fr G H (upd H a (mkO k' vs)):=fun b o hb he=>by rw [C7 (fun z=>hb (by rw [z];exact aM))];exact he
 refine⟨{
   frame:=fun b o hb he=>?_
   sub:=S.sub
   sup:=S.sup
   pots:=fun p hp=>⟨(S.pots p hp).1,C.T.keep (S.pots p hp).2 (C7 fun z=>ap (by rw [<- z];exact hp)) f⟩
   pre:=S.pre
   mu:=fun b hb=>?_
   slots:=fun j s es=>?_
   inj:=fun j k xs' ys' b e1 e2 e3 e4=>?_
   p0:=S.p0
   len:=by rw [J6];exact S.len
   newp:=S.newp },f⟩
 · have hb2:b≠a:=fun z=>by
     rcases S.sub a aM with z2 | z2
     · exact a0 z2
     · rw [z,z2] at he;cases he
   rw [C7 hb2];exact S.frame b o hb he
 · by_cases hba:b=a
   · subst hba;exact⟨_,D9,JC k' vs⟩
   · obtain⟨o,he,m⟩:=S.mu b hb;exact⟨o,by rw [C7 hba];exact he,m⟩
 · by_cases hj:i=j
   · subst hj;have hl:i < env.length:=(E6.mp e).1;rw [K9 hl] at es;cases es;exact⟨a,vs,ea,aM,a0,ap,D9,r.fr f⟩
   · rw [K4 hj] at es;have:=S.slots j s es;cases s with
     | v x =>
       obtain⟨v,e1,r⟩:=this;exact⟨v,e1,r.fr f⟩
     | ow kz zs =>
       obtain⟨b,us',e1,h1,h2,h3,h4,r⟩:=this;have hba:b≠a:=fun z=>hj (S.inj i j (kk,xs) (kz,zs) a e es ea (by rw [e1,z]));exact⟨b,us',e1,h1,h2,h3,by rw [C7 hba];exact h4,r.fr f⟩
 · have back:∀(j:Nat) (zs:OK×List PV),(env.set i (some (.ow k' ys)))[j]?=some (some (Slot.ow zs.1 zs.2))->∃zs':OK×List PV,env[j]?=some (some (.ow zs'.1 zs'.2)):=by
     intro j zs h
     by_cases hj:i=j
     · subst hj;exact⟨(kk,xs),e⟩
     · rw [K4 hj] at h;exact⟨zs,h⟩
   obtain⟨z1,e1'⟩:=back j xs' e1;obtain⟨z2,e2'⟩:=back k ys' e2;exact S.inj j k z1 z2 b e1' e2' e3 e4
theorem SR.put {C:Ct}{G:Gh}{σ:St}{H:Hp}{env:Env}{n:Nat}(S:SR C G σ H env n){i:Nat}{a:Addr}{xs ys:List PV}{vs:List V}(e:env[i]?=some (some (.ow .lst xs)))(ea:σ[i]?=some (some (.ref a)))(r:Reps C.K G H ys vs) :
   SR C G σ (upd H a (.lst vs)) (env.set i (some (.ow .lst ys))) n/\Fr G H (upd H a (.lst vs)):=S.putO .lst e ea r
section
variable {T:PotK}{np:Bool}{ι:Type}{K:A5}{F:ι->Cx}{e a b c:Expr}{es:List Expr}{st:Stmt}{rest:List Stmt}{pe pa pb pc:pE}{pos:Pos}{pl pr:pA}{pg:pG}{pt:pT}{p1 p2:pS}
def qNx:pS:=fun D env n=>D.nx env n
def qSeq (p q:pS):pS:=fun D env n=>p { D with nx:=fun e m=>q D e m } env n
theorem d7:QSs T np K F [] qNx:=⟨_,fun _=>Gp,fun C G σ H env n PD D hK hT hn S hp L=>L.nx _ _ _ _ _ hp S Ext.refl⟩
theorem C0 (h:QS T np K F st p1):QSs T np K F [st] p1:=let ⟨t,h1,h2⟩:=h;⟨t,fun z=>Co (h1 z),h2⟩
theorem B3 (h:QS T np K F st p1)(h':QSs T np K F rest p2):QSs T np K F (st::rest) (qSeq p1 p2):=by
 obtain⟨t,a1,a2⟩:=h;obtain⟨u,b1,b2⟩:=h';refine⟨_,fun z=>k5 (a1 z) (b1 z),fun C G σ H env n PD D hK hT hn S hp L=>?_⟩;refine a2 C G σ H env n _ _ hK hT hn S hp ⟨fun env1 n1 G1 σ1 H1 q1 S1 x1=>?_,L.rt,L.bk,L.ct⟩;exact b2 C G1 σ1 H1 env1 n1 PD D hK hT hn S1 q1 (L.ext x1)
theorem D4 {X:Cx}{i:Nat}{x:Str}{e:Expr}{pos' pos:Pos}(hN:X.N.Nodup)(hi:X.N[i]?=some x)(hx:Loc X.env.scope x)(hs:i4 e (some (.Name x pos')) pos.line X.env=pure false:=by rfl)(hf:X.fn x=true\/X.env.scope.names.lookup x=some .local:=by first | exact .inl rfl | exact .inr rfl | assumption)(te:TE)(h:EW X e te):SW X (.Assign [.Name x pos'] e pos) (tAsg te (N5 i)):=⟨Gv hN hi hx h.h hs hf⟩
theorem Q9 {X:Cx}{tg e:Expr}{pos:Pos}(hs:swapsWithSole [tg] e pos.line X.env=pure false:=by rfl)(hw:swappedStores [tg] e X.env=pure none:=by rfl)(h1:(G0 [tg] X.env).map (·.2)=[assign tg X.env]:=by rfl)(te:TE)(g:TG)(h:EW X e te)(hg:GW X tg g):SW X (.Assign [tg] e pos) (tAsg te g):=⟨ps_asg h.h hg.h hs hw h1⟩
theorem R8 {X:Cx}{e:Expr}{pos:Pos}(hs:i4 e none pos.line X.env=pure false:=by rfl)(te:TE)(h:EW X e te):SW X (.Expr e pos) (Gq te):=⟨Mn h.h hs⟩
def qSet (i:Nat)(pe:pE):pS:=fun D env n=>pe env n fun x env1 n1=>D.nx (env1.set i (some (.v x))) n1
theorem E5 (i:Nat)(h:∀z te,EW (F z) e te->SW (F z) st (tAsg te (N5 i)))(he:QE T K F e pe):QS T np K F st (qSet i pe):=by
 obtain⟨t,a1,a2⟩:=he;refine⟨_,fun z=>(h z _ ⟨a1 z⟩).h,fun C G σ H env n PD D hK hT hn S hp L=>?_⟩;refine a2 C G σ H env n _ _ hK hT S hp fun x env1 n1 v H1 q1 S1 r1 f1=>?_;exact L.nx _ _ _ _ _ q1 (S1.set i (hK▸r1)) (Ext.fr f1)
def qOwn (i:Nat)(pn:pA):pS:=fun D env n=>pn env n fun xs env1 n1=>D.nx (env1.set i (some (.ow .lst xs))) n1
theorem EA {G:Gh}{H:Hp}{a:Addr}{o:HO}(h:H a=none):Ext G H ⟨a::G.M,G.pots⟩ (upd H a o):=⟨fun b u _ e=>Same.lay1 h b u e,fun c hc=>(B7.mp (show c∈a::G.M from hc)).elim (fun z=>.inr (z▸h)) .inl,fun _ _ e=>e⟩
theorem CG (i:Nat)(h:∀z te,EW (F z) e te->SW (F z) st (tAsg te (N5 i)))(he:QN T K F e pl):QS T np K F st (qOwn i pl):=by
 obtain⟨t,a1,a2⟩:=he;refine⟨_,fun z=>(h z _ ⟨a1 z⟩).h,fun C G σ H env n PD D hK hT hn S hp L=>?_⟩;refine a2 C G σ H env n _ _ hK hT S hp fun xs env1 n1 a vs Hb q1 S1 f1 hn1 r1=>?_;exact L.nx _ _ _ _ _ q1 (S1.own i hn1 (hK▸r1)) ((Ext.fr f1).trans (EA hn1))
def qAsg (pe:pE)(g:pG):pS:=fun D env n=>pe env n fun x env1 n1=>g x env1 fun env2=>D.nx env2 n1
theorem Az {tg:Expr}(h:∀z te g,EW (F z) e te->GW (F z) tg g->SW (F z) st (tAsg te g))(he:QE T K F e pe)(hg:QG K F tg pg):QS T np K F st (qAsg pe pg):=by
 obtain⟨t,a1,a2⟩:=he;obtain⟨g,b1,b2⟩:=hg;refine⟨_,fun z=>(h z _ _ ⟨a1 z⟩ ⟨b1 z⟩).h,fun C G σ H env n PD D hK hT hn S hp L=>?_⟩;refine a2 C G σ H env n _ _ hK hT S hp fun x env1 n1 v H1 q1 S1 r1 f1=>?_;exact b2 C G σ H1 env1 n1 x v _ _ hK S1 r1 q1 fun env' σ' re S'=>L.nx _ _ _ _ _ re S' (Ext.fr f1)
def N7 (pe:pE):pS:=fun D env n=>pe env n fun _ env1 n1=>D.nx env1 n1
theorem R9 (h:∀z te,EW (F z) e te->SW (F z) st (Gq te))(he:QE T K F e pe):QS T np K F st (N7 pe):=by
 obtain⟨t,a1,a2⟩:=he;refine⟨_,fun z=>(h z _ ⟨a1 z⟩).h,fun C G σ H env n PD D hK hT hn S hp L=>?_⟩;exact a2 C G σ H env n _ _ hK hT S hp fun x env1 n1 v H1 q1 S1 r1 f1=>L.nx _ _ _ _ _ q1 S1 (Ext.fr f1)
def qRet (pe:pE):pS:=fun D env n=>pe env n fun x _ n1=>D.rt x n1
theorem E3 (he:QE T K F e pe):QS T np K F (.Return (some e) pos) (qRet pe):=by
 obtain⟨t,a1,a2⟩:=he;refine⟨_,fun z=>Cp (a1 z),fun C G σ H env n PD D hK hT hn S hp L=>?_⟩;exact a2 C G σ H env n _ _ hK hT S hp fun x env1 n1 v H1 q1 S1 r1 f1=>L.rt _ _ _ _ _ _ _ q1 S1 (S1.out (hK▸r1)) (Ext.fr f1)
def CH (i:Nat):pS:=fun D env n=>match env[i]? with | some (some (.ow .lst xs))=>D.rt (.lst xs) n | _=>False
theorem JS (i:Nat){x:Str}{p:Pos}(h:∀z,EW (F z) (.Name x p) (tVar i)):QS T np K F (.Return (some (.Name x p)) pos) (CH i):=by
 refine⟨_,fun z=>Cp (h z).h,fun C G σ H env n PD D hK hT hn S hp L=>?_⟩;unfold CH at hp
 split at hp
 · rename_i xs ex;obtain⟨a,vs,ev,h1,h2,h3,h4,r⟩:=S.slots i _ ex;refine⟨.ref a,ev,L.rt _ _ _ _ _ _ _ hp S ⟨a,vs,rfl,⟨h2,h4⟩,?_⟩ Ext.refl⟩;exact Reps.mono (G':=⟨C.M0,G.pots⟩) (fun _ _ _ e=>e) (fun a ha=>.inl (S.sup a ha)) (fun _ _ e=>e) _ _ r
 · exact hp.elim
def qIfS (t:pT)(p q:pS):pS:=fun D env n=>t env n fun b env1 n1=>if b=true then p D env1 n1 else q D env1 n1
theorem T0 {x y:List Stmt}(hc:QT T K F c pt)(h1:QSs T np K F x p1)(h2:QSs T np K F y p2):QS T np K F (.If c x y pos) (qIfS pt p1 p2):=by
 obtain⟨tc,c1,c2⟩:=hc;obtain⟨t,a1,a2⟩:=h1;obtain⟨u,b1,b2⟩:=h2;refine⟨_,fun z=>Gr (c1 z) (a1 z) (b1 z),fun C G σ H env n PD D hK hT hn S hp L=>?_⟩;refine c2 C G σ H env n _ _ hK hT S hp fun d env1 n1 H1 q1 S1 f1=>?_;cases d with
 | true=>exact a2 C G σ H1 env1 n1 PD D hK hT hn S1 q1 (L.ext (Ext.fr f1))
 | false=>exact b2 C G σ H1 env1 n1 PD D hK hT hn S1 q1 (L.ext (Ext.fr f1))
def forL (g:pG)(b:pS)(D:Y9):List PV->Env->Nat->Prop
 | [],env,n=>D.nx env n
 | x::xs,env,n=>g x env fun env1=>b { D with nx:=fun e m=>forL g b D xs e m,ct:=fun e m=>forL g b D xs e m,bk:=D.nx } env1 n
def qFor (pi:pA)(g:pG)(b:pS):pS:=fun D env n=>pi env n fun xs env1 n1=>forL g b D xs env1 n1
theorem U8 {tg iter:Expr}{body:List Stmt}(hc:∀z,(F z).calm=true)(hi:QI T K F tg iter pl)(hg:QG K F tg pg)(hb:QSs T np K F body p1)(hp:∀z,PassesOwn (model (F z).prog (F z).w) (F z).A (F z).env (F z).xe:=by intro _;exact PassesOwn.never)(hs:∀z x,V6 iter (F z).env x=pure x:=by intro _ _;rfl):QS T np K F (.For tg iter body [] pos) (qFor pl pg p1):=by
 obtain⟨wi,i1,i2⟩:=hi;obtain⟨g,g1,g2⟩:=hg;obtain⟨t,b1,b2⟩:=hb;refine⟨_,fun z=>ps_for (hp z) (hc z) (i1 z) (g1 z) (b1 z) (hs z),fun C G σ H env n PD D hK hT hn S hp L=>?_⟩;refine i2 C G σ H env n _ _ hK hT S hp fun xs env1 n1 J H1 q1 S1 f1 hJ=>?_;have L1:=L.ext (Ext.fr f1);refine⟨fun i m σ H=>m=xs.length - i/\i<=xs.length/\∃G' env n,SR C G' σ H env n/\Ext G H1 G' H/\forL pg p1 PD (xs.drop i) env n,⟨xs.length,by simp,G4 _,G,env1,n1,S1,Ext.refl,by simpa using q1⟩,?_⟩;rintro i m σ' H' ⟨rfl,hi,G',env',n',S',x',q'⟩;have hf:∀p,H' p=none->p∉G'.M:=fun p hp=>S'.fresh hp;obtain⟨hgo,hstop⟩:=hJ G' H' x'.keep x'.new x'.pot hf
 by_cases hlt:i < xs.length
 · obtain⟨go1,go2⟩:=hgo i _ (C4 hlt);rw [p9 hlt] at q';refine .inr ⟨go1,fun σ H=>∃G' env n,SR C G' σ H env n/\Ext G H1 G' H/\forL pg p1 PD (xs.drop (i + 1)) env n,fun σ2 H2 h2=>⟨xs.length - (i + 1),by omega,rfl,hlt,h2⟩,fun v H2 y=>?_⟩;obtain⟨s2,rv⟩:=go2 v H2 y;have x2:Ext G' H' G' H2:=Ext.fr (Fr.of s2);refine g2 C G' σ' H2 env' n' _ v _ _ hK (S'.same s2) rv q' fun env2 σ2 q2 S2=>?_;refine b2 C G' σ2 H2 env2 n' _ _ hK hT hn S2 q2 ⟨fun e3 n3 G3 σ3 H3 q3 S3 x3=>?_,fun y n3 v G3 σ3 H3 e3 q3 S3 r3 x3=>?_,fun e3 n3 G3 σ3 H3 q3 S3 x3=>?_,fun e3 n3 G3 σ3 H3 q3 S3 x3=>?_⟩
   · exact⟨G3,e3,n3,S3,(x'.trans x2).trans x3,q3⟩
   · exact L1.rt _ _ _ _ _ _ _ q3 S3 r3 ((x'.trans x2).trans x3)
   · exact L1.nx _ _ _ _ _ q3 S3 ((x'.trans x2).trans x3)
   · exact⟨G3,e3,n3,S3,(x'.trans x2).trans x3,q3⟩
 · have ei:i=xs.length:=by omega
   subst ei;rw [DN] at q';exact .inl ⟨hstop _ (A9 _),L1.nx _ _ _ _ _ q' S' x'⟩
def l4 (t:pT)(b:pS)(D:Y9):Nat->Env->Nat->Prop
 | 0,_,_=>False
 | k + 1,env,n=>t env n fun c env1 n1=>if c=true then b { D with nx:=fun e m=>l4 t b D k e m,ct:=fun e m=>l4 t b D k e m,bk:=D.nx } env1 n1 else D.nx env1 n1
def JT (t:pT)(b:pS):pS:=fun D env n=>∃k,l4 t b D k env n
theorem Nv {body:List Stmt}(hc:QT T K F c pt)(hb:QSs T np K F body p1)(hp:∀z,PassesOwn (model (F z).prog (F z).w) (F z).A (F z).env (F z).xe:=by intro _;exact PassesOwn.never):QS T np K F (.While c body [] pos) (JT pt p1):=by
 obtain⟨tc,c1,c2⟩:=hc;obtain⟨t,b1,b2⟩:=hb;refine⟨_,fun z=>Mp (hp z) (c1 z) (b1 z),fun C G σ H env n PD D hK hT hn S hp L=>?_⟩;obtain⟨k,hp⟩:=hp;refine⟨fun m σ H'=>∃G' env n,SR C G' σ H' env n/\Ext G H G' H'/\l4 pt p1 PD m env n,⟨k,G,env,n,S,Ext.refl,hp⟩,?_⟩;rintro m σ1 H1 ⟨G1,env1,n1,S1,x1,q1⟩;cases m with
 | zero=>exact q1.elim
 | succ m =>
   refine c2 C G1 σ1 H1 env1 n1 _ _ hK hT S1 q1 fun d env2 n2 H2 q2 S2 f2=>?_;have x2:=x1.trans (Ext.fr f2);cases d with
   | false=>exact iteF (L.nx _ _ _ _ _ q2 S2 x2)
   | true =>
     refine iteT ⟨fun σ H'=>∃G' env n,SR C G' σ H' env n/\Ext G H G' H'/\l4 pt p1 PD m env n,fun σ' H' h=>⟨m,by omega,h⟩,?_⟩;exact b2 C G1 σ1 H2 env2 n2 _ _ hK hT hn S2 q2 ⟨fun e3 n3 G3 σ3 H3 q3 S3 x3=>⟨G3,e3,n3,S3,x2.trans x3,q3⟩,fun y n3 v G3 σ3 H3 e3 q3 S3 r3 x3=>L.rt _ _ _ _ _ _ _ q3 S3 r3 (x2.trans x3),fun e3 n3 G3 σ3 H3 q3 S3 x3=>L.nx _ _ _ _ _ q3 S3 (x2.trans x3),fun e3 n3 G3 σ3 H3 q3 S3 x3=>⟨G3,e3,n3,S3,x2.trans x3,q3⟩⟩
def GX (i:Nat)(pe:pE):pE:=fun env n R=>pe env n fun y env1 n1=>match env1[i]? with | some (some (.ow .lst xs))=>xs.length < 1000000/\R .non (env1.set i (some (.ow .lst (xs++[y])))) n1 | _=>False
theorem d8 (i:Nat){x:Str}{p ap:Pos}(hv:∀z,EW (F z) (.Name x p) (tVar i))(he:QE T K F e pe)(hs:F8 e=true:=by rfl)(hbase:∀z,z0 (.Name x p) "append" (F z).env (eval (.Name x p) (F z).env)=eval (.Name x p) (F z).env:=by intro _;rfl)(hline:(ap.endLine == pos.line)=true:=by rfl)
   (hfew:∀z,((backTo pos (E4 [e] (F z).env)).all (fun x=>!x.1) && (backToKw pos (AR [] (F z).env)).all (fun x=>x.1.isSome) && decide (([e]:List Expr).length + ([]:List X5).length + (if([]:List X5).isEmpty then 0 else 1) < 30))=true:=by intro _;rfl) (hK:∀z,(F z).K=K:=by intro _;rfl):QE T K F (.Call (.Attribute (.Name x p) "append" ap) [e] [] pos) (fun env n R=>(∃xs,env[i]?=some (some (.ow .lst xs)))/\GX i pe env n R):=by
 obtain⟨t,a1,a2⟩:=he;refine⟨tBM K "list" Ju (tVar i) (Y6 t tNil),fun z=>hK z▸Ej Ec PySem.F.slot_list_append PySem.F.type_list_append Jv (hv z).h (F6 (a1 z) J1 (D2 hs)) (hbase z) (hfew z) hline (D2 hs),fun C G σ H env n R Q hK hT S hp k=>?_⟩;obtain⟨⟨xs0,e0⟩,hp⟩:=hp;obtain⟨a,vs,ev,h1,h2,h3,h4,r⟩:=S.slots i _ e0;refine⟨.ref a,ev,.inl ⟨rfl,vs,SqL.of h4⟩,?_⟩;refine a2 C G σ H env n _ _ hK hT S hp fun y env1 n1 v H1 q1 S1 r1 f1=>?_
 split at q1
 · rename_i xs ex;obtain⟨a',us,ev',g1,g2,g3,g4,r'⟩:=S1.slots i _ ex;rw [ev] at ev';cases ev';subst hK;obtain⟨S2,f2⟩:=S1.put ex ev (r'.append (.one r1));exact⟨a,us,v,rfl,rfl,g4,by rw [<- r'.length];exact mil' (by omega),k _ _ _ _ _ q1.2 S2 rfl (f1.trans f2)⟩
 · exact q1.elim
def qPop (i:Nat):pE:=fun env n R=>match env[i]? with | some (some (.ow .lst xs))=>(match xs[xs.length - 1]? with | some y=>R y (env.set i (some (.ow .lst xs.dropLast))) n | none=>False) | _=>False
theorem Nw {K:A5}{G:Gh}{H:Hp}{xs:List PV}{vs:List V}(r:Reps K G H xs vs):Reps K G H xs.dropLast vs.dropLast:=by
 rw [List.dropLast_eq_take,List.dropLast_eq_take,<- r.length];exact r.take _
theorem GY (i:Nat){x:Str}{p ap:Pos}(hv:∀z,EW (F z) (.Name x p) (tVar i))(hbase:∀z,z0 (.Name x p) "pop" (F z).env (eval (.Name x p) (F z).env)=eval (.Name x p) (F z).env:=by intro _;rfl)(hline:(ap.endLine == pos.line)=true:=by rfl)(hK:∀z,(F z).K=K:=by intro _;rfl):QE T K F (.Call (.Attribute (.Name x p) "pop" ap) [] [] pos) (qPop i):=by
 refine⟨tBM0 K "list" rPop (tVar i),fun z=>hK z▸pe_bm0 Ec PySem.F.slot_list_pop PySem.F.type_list_pop mt_pop (hv z).h (hbase z) hline,fun C G σ H env n R Q hK hT S hp k=>?_⟩;unfold qPop at hp
 split at hp
 · rename_i xs ex
   split at hp
   · rename_i y ey;obtain⟨a,vs,ev,h1,h2,h3,h4,r⟩:=S.slots i _ ex;obtain⟨v,e1,rv⟩:=r.get' ey;obtain⟨S2,f2⟩:=S.put ex ev (Nw r);subst hK;exact⟨.ref a,ev,.inl ⟨rfl,vs,SqL.of h4⟩,a,vs,v,rfl,rfl,h4,by rw [<- r.length];exact e1,k _ _ _ _ _ hp S2 (rv.fr f2) f2⟩
   · exact hp.elim
 · exact hp.elim
end
end Pu
end
section
namespace Pu
open PySem PySem.Spec L2
abbrev pSl:=Env->Nat->(Slot->Env->Nat->Prop)->Prop
def CJ (σ:St)(env:Env)(a:Addr):Prop:=∃(j:Nat) (ys:OK×List PV),env[j]?=some (some (.ow ys.1 ys.2))/\σ[j]?=some (some (.ref a))
theorem SR.slot {C:Ct}{G:Gh}{σ:St}{H:Hp}{env:Env}{n:Nat}(S:SR C G σ H env n)(i:Nat){s:Slot}{v:V}(r:Cz C G H (some (some v)) s)(h:∀(xs:OK×List PV) a,s=.ow xs.1 xs.2->v=.ref a->¬CJ σ env a):SR C G (σ.set i (some v)) H (env.set i (some s)) n where
 frame:=S.frame
 sub:=S.sub
 sup:=S.sup
 pots:=S.pots
 pre:=S.pre
 mu:=S.mu
 slots j t e:=by
   by_cases hj:i=j
   · subst hj
     by_cases hl:i < env.length
     · rw [K9 hl] at e;cases e;rw [K9 (by rw [<- S.len];exact hl)];exact r
     · rw [N1 (by rw [J6];omega)] at e;cases e
   · rw [K4 hj] at e ⊢;exact S.slots j t e
 inj j k xs ys b e1 e2 e3 e4:=by
   by_cases hj:i=j
   · by_cases hk:i=k
     · omega
     · subst hj;rw [K4 hk] at e2 e4
       by_cases hl:i < env.length
       · rw [K9 hl] at e1;rw [K9 (by rw [<- S.len];exact hl)] at e3;cases e1;cases e3;exact absurd ⟨k,ys,e2,e4⟩ (h xs b rfl rfl)
       · rw [N1 (by rw [J6];omega)] at e1;cases e1
   · rw [K4 hj] at e1 e3
     by_cases hk:i=k
     · subst hk
       by_cases hl:i < env.length
       · rw [K9 hl] at e2;rw [K9 (by rw [<- S.len];exact hl)] at e4;cases e2;cases e4;exact absurd ⟨j,xs,e1,e3⟩ (h ys b rfl rfl)
       · rw [N1 (by rw [J6];omega)] at e2;cases e2
     · rw [K4 hk] at e2 e4;exact S.inj j k xs ys b e1 e2 e3 e4
 p0:=S.p0
 len:=by rw [J6,J6];exact S.len
 newp:=S.newp
def Ct.guard (C:Ct)(a:Addr)(vs:List V):Ct:={ C with M0:=a::C.M0,H0:=upd C.H0 a (.lst vs) }
theorem SR.guard {C:Ct}{G:Gh}{σ:St}{H:Hp}{env:Env}{n:Nat}(S:SR C G σ H env n){a:Addr}(vs:List V)(h:H a=none):SR (C.guard a vs) ⟨a::G.M,G.pots⟩ σ (upd H a (.lst vs)) env n:=by
 have S1:=S.more (vs:=vs) h;have aM:=S.fresh h
 exact {
   frame:=fun b o hb e=>by
     by_cases hba:b=a
     · subst hba;have e':upd C.H0 b (.lst vs) b=some o:=e;rw [D9] at e' ⊢;exact e'
     · have e':upd C.H0 a (.lst vs) b=some o:=e;rw [C7 hba] at e';exact S1.frame b o hb e'
   sub:=fun b hb=>by
     by_cases hba:b=a
     · exact .inl (by rw [hba];exact B8)
     · rcases S1.sub b hb with z | z
       · exact .inl (B5 _ z)
       · refine .inr ?_;show upd C.H0 a (.lst vs) b=none;rw [C7 hba];exact z
   sup:=fun b hb=>by
     rcases B7.mp (show b∈a::C.M0 from hb) with rfl | z
     · exact B8
     · exact S1.sup b z
   pots:=S1.pots
   pre:=S1.pre
   mu:=S1.mu
   slots:=fun i s e=>by
     cases s with
     | v x =>
       obtain⟨v,ev,r⟩:=S1.slots i _ e;exact⟨v,ev,r⟩
     | ow kk xs =>
       obtain⟨b,us,ev,h1,h2,h3,h4,r⟩:=S1.slots i _ e;obtain⟨b',us',ev',g1,_⟩:=S.slots i _ e;rw [ev] at ev';cases ev';refine⟨b,us,ev,h1,fun z=>?_,h3,h4,r⟩;rcases B7.mp (show b∈a::C.M0 from z) with rfl | z
       · exact aM g1
       · exact h2 z
   inj:=S1.inj
   p0:=⟨fun p hp=>B5 _ (S1.p0.1 p hp),S1.p0.2⟩
   len:=S1.len
   newp:=fun p hp hn hM=>by
     rcases B7.mp (show p∈a::C.M0 from hM) with rfl | z
     · exact aM (S.pots p hp).1
     · exact S1.newp p hp hn z }
theorem SR.unguard {C:Ct}{G:Gh}{σ:St}{H:Hp}{env:Env}{n:Nat}{a:Addr}{vs:List V}(S:SR (C.guard a vs) G σ H env n)(ha:a∉C.M0)(hp0:∀p∈C.pots0,p∈C.M0)(h0:C.H0 a=none):SR C G σ H env n/\H a=some (.lst vs)/\¬CJ σ env a:=by
 have hap:a∉C.pots0:=fun z=>ha (hp0 a z)
 refine⟨{
   frame:=fun b o hb e=>S.frame b o hb (by
     show upd C.H0 a (.lst vs) b=some o
     rw [C7 (fun z=>by rw [z,h0] at e;cases e)];exact e)
   sub:=fun b hb=>by
     by_cases hba:b=a
     · exact .inr (hba▸h0)
     · rcases S.sub b hb with z | z
       · rcases B7.mp (show b∈a::C.M0 from z) with z | z
         · exact absurd z hba
         · exact .inl z
       · have z':upd C.H0 a (.lst vs) b=none:=z;rw [C7 hba] at z';exact .inr z'
   sup:=fun b hb=>S.sup b (B5 _ hb)
   pots:=S.pots
   pre:=S.pre
   mu:=S.mu
   slots:=fun i s e=>by
     cases s with
     | v x =>
       obtain⟨v,ev,r⟩:=S.slots i _ e;exact⟨v,ev,r⟩
     | ow kk xs =>
       obtain⟨b,us,ev,h1,h2,h3,h4,r⟩:=S.slots i _ e;exact⟨b,us,ev,h1,fun z=>h2 (B5 _ z),h3,h4,r⟩
   inj:=S.inj
   p0:=⟨hp0,S.p0.2⟩
   len:=S.len
   newp:=fun p hp hn hM=>S.newp p hp hn (B5 _ hM) },S.frame a _ hap D9,?_⟩
 rintro⟨j,ys,e1,e2⟩;obtain⟨b,us,ev,h1,h2,_⟩:=S.slots j _ e1;rw [e2] at ev;cases ev;exact h2 B8
def LOk (K:A5)(T:PotK)(t:TE)(pl:pSl):Prop:=∀(C:Ct) (G:Gh) (σ:St) (H:Hp) (env:Env) (n:Nat) (R:Slot->Env->Nat->Prop) (Q:VK),C.K=K->C.T=T->SR C G σ H env n->pl env n R->
 (∀x env' n' v H',R (.v x) env' n'->SR C G σ H' env' n'->Rep K G H' x v->Fr G H H'->Q v H')->
 (∀xs env' n' a vs Hb,R (.ow .lst xs) env' n'->SR C G σ Hb env' n'->Fr G H Hb->Hb a=none->Reps K G Hb xs vs->Q (.ref a) (upd Hb a (.lst vs)))->t σ H Q
def QL {ι:Type}(T:PotK)(K:A5)(F:ι->Cx)(e:Expr)(pl:pSl):Prop:=∃t,(∀z,PE (F z) e t)/\LOk K T t pl
def sV (pe:pE):pSl:=fun env n R=>pe env n fun x env1 n1=>R (.v x) env1 n1
def sO (pn:pA):pSl:=fun env n R=>pn env n fun xs env1 n1=>R (.ow .lst xs) env1 n1
section
variable {T:PotK}{np:Bool}{ι:Type}{K:A5}{F:ι->Cx}{e a b c:Expr}{es:List Expr}{st:Stmt}{rest:List Stmt}{pe pa pb pc:pE}{pos:Pos}{pl pr:pA}{pg:pG}{pt:pT}{p1 p2:pS}{s1 s2 s3:pSl}
theorem ql_v (h:QE T K F e pe):QL T K F e (sV pe):=let ⟨t,h1,h2⟩:=h;⟨t,h1,fun C G σ H env n R Q hK hT S hp k _=>h2 C G σ H env n _ _ hK hT S hp fun x env' n' v H' r S' rp f=>k x env' n' v H' r S' rp f⟩
theorem ql_o (h:QN T K F e pl):QL T K F e (sO pl):=let ⟨t,h1,h2⟩:=h;⟨t,h1,fun C G σ H env n R Q hK hT S hp _ k=>h2 C G σ H env n _ _ hK hT S hp fun xs env' n' a vs Hb r S' f hn rs=>k xs env' n' a vs Hb r S' f hn rs⟩
def Got (C:Ct)(G:Gh)(H:Hp)(σ:St)(env:Env)(s:Slot)(v:V):Prop:=Cz C G H (some (some v)) s/\∀(xs:OK×List PV) a,s=.ow xs.1 xs.2->v=.ref a->¬CJ σ env a
theorem JU {t:TE}{C:Ct}{G:Gh}{σ:St}{H:Hp}{env:Env}{n:Nat}{R:Slot->Env->Nat->Prop}{Q:VK}(h:LOk K T t s1)(hK:C.K=K)(hT:C.T=T)(S:SR C G σ H env n)(hp:s1 env n R)
   (k:∀s env' n' v G' H',R s env' n'->SR C G' σ H' env' n'->Ext G H G' H'->Got C G' H' σ env' s v->Q v H'):t σ H Q:=by
 refine h C G σ H env n _ _ hK hT S hp (fun x env' n' v H' r S' rp f=>?_) fun xs env' n' a vs Hb r S' f hn rs=>?_
 · exact k _ _ _ _ _ _ r S' (Ext.fr f) ⟨⟨v,rfl,hK▸rp⟩,fun _ _ z=>nomatch z⟩
 · have aM:=S'.fresh hn;have S1:=S'.more (vs:=vs) hn;refine k _ _ _ _ _ _ r S1 ((Ext.fr f).trans (EA hn)) ⟨⟨a,vs,rfl,B8,fun z=>aM (S'.sup a z),fun z=>aM (S'.pots a z).1,D9,?_⟩,fun ys b e1 e2=>?_⟩
   · exact Reps.mono (G':=⟨a::G.M,G.pots⟩) (H':=upd Hb a (.lst vs)) (fun b o _ e=>Same.lay1 hn b o e) (fun c hc=>(B7.mp (show c∈a::G.M from hc)).elim (fun z=>.inr (z▸hn)) .inl) (fun _ _ e=>e) _ _ (hK▸rs)
   · cases e2;rintro⟨j,zs,z1,z2⟩;obtain⟨b,us,ev,g1,_⟩:=S'.slots j _ z1;rw [z2] at ev;cases ev;exact aM g1
theorem JV {t u:TE}{C:Ct}{G:Gh}{σ:St}{H:Hp}{env:Env}{n:Nat}{R:Slot->Slot->Env->Nat->Prop}{Q:V->V->Hp->Prop}(h:LOk K T t s1)(h':LOk K T u s2)(hK:C.K=K)(hT:C.T=T)(S:SR C G σ H env n)(hp:s1 env n fun x env1 n1=>s2 env1 n1 fun y env2 n2=>R x y env2 n2)
   (k:∀x y env' n' v w G' H',R x y env' n'->SR C G' σ H' env' n'->Ext G H G' H'->Got C G' H' σ env' x v->Got C G' H' σ env' y w->(∀(xs ys:OK×List PV) a,x=.ow xs.1 xs.2->y=.ow ys.1 ys.2->v=.ref a->w≠.ref a)->Q v w H'):t σ H fun v H1=>u σ H1 fun w H2=>Q v w H2:=by
 refine h C G σ H env n _ _ hK hT S hp (fun x env1 n1 v H1 q1 S1 r1 f1=>?_) fun xs env1 n1 a vs Hb q1 S1 f1 hn rs=>?_
 · refine JU h' hK hT S1 q1 fun y env2 n2 w G2 H2 q2 S2 x2 g2=>?_;exact k _ _ _ _ _ _ _ _ q2 S2 ((Ext.fr f1).trans x2) ⟨⟨v,rfl,Rep.mono x2.keep x2.new x2.pot _ _ (hK▸r1)⟩,fun _ _ z=>nomatch z⟩ g2 (fun _ _ _ z=>nomatch z)
 · have aM:=S1.fresh hn;have Nx:=S1.guard vs hn;have a0:a∉C.M0:=fun z=>aM (S1.sup a z);have aH:=S1.old hn;have x1:Ext G H ⟨a::G.M,G.pots⟩ (upd Hb a (.lst vs)):=(Ext.fr f1).trans (EA hn);have r1:Reps C.K ⟨a::G.M,G.pots⟩ (upd Hb a (.lst vs)) xs vs:=Reps.mono (G':=⟨a::G.M,G.pots⟩) (H':=upd Hb a (.lst vs)) (fun b o _ e=>Same.lay1 hn b o e) (fun c hc=>(B7.mp (show c∈a::G.M from hc)).elim (fun z=>.inr (z▸hn)) .inl) (fun _ _ e=>e) _ _ (hK▸rs);refine JU (C:=C.guard a vs) h' hK hT Nx q1 fun y env2 n2 w G2 H2 q2 S2 x2 g2=>?_;obtain⟨S3,e3,no⟩:=S2.unguard a0 S1.p0.1 aH;have aM2:a∈G2.M:=S2.sup a B8
   have ap2:a∉G2.pots:=fun z=>by
     by_cases hz:a∈C.pots0
     · exact a0 (S1.p0.1 a hz)
     · exact S2.newp a z hz B8
   have gy:Got C G2 H2 σ env2 y w:=by
     refine⟨?_,g2.2⟩;cases y with
     | v x=>exact g2.1
     | ow kk ys =>
       obtain⟨b,us,ev,h1,h2,h3,h4,r⟩:=g2.1;exact⟨b,us,ev,h1,fun z=>h2 (B5 _ z),h3,h4,r⟩
   refine k _ _ _ _ _ _ _ _ q2 S3 (x1.trans x2) ⟨⟨a,vs,rfl,aM2,a0,ap2,e3,Reps.mono x2.keep x2.new x2.pot _ _ r1⟩,fun _ _ _ e=>by cases e;exact no⟩ gy fun xs' ys b ex ey ev ew=>?_;subst ey;cases ev;obtain⟨b,us,ev,h1,h2,_⟩:=g2.1;rw [ew] at ev;cases ev;exact h2 B8
structure AW (X:Cx)(es:List Expr)(t:TA):Prop where
 h:PA X es t
theorem EB {X:Cx}{i j:Nat}{x y:Str}{a b:Expr}{px py pt:Pos}{kt k2 pt2}{pos:Pos}(hc:X.calm=true)(hN:X.N.Nodup)(hi:X.N[i]?=some x)(hj:X.N[j]?=some y)(hij:i≠j)
   (hx:X.env.scope.names.lookup x=some .local) (hy:X.env.scope.names.lookup y=some .local) (hw:swappedStores [.Tuple [.Name x px,.Name y py] kt pt] (.Tuple [a,b] k2 pt2) X.env=pure (some [x,y]))
   (hs:swapsWithSole [.Tuple [.Name x px,.Name y py] kt pt] (.Tuple [a,b] k2 pt2) pos.line X.env=pure false:=by rfl) (ta:TA) (h:AW X [a,b] ta) :
   SW X (.Assign [.Tuple [.Name x px,.Name y py] kt pt] (.Tuple [a,b] k2 pt2) pos) (tPar i j ta):=⟨ps_par hc hN hi hj hij hx hy h.h hw hs⟩
def qPar (i j:Nat)(s1 s2:pSl):pS:=fun D env n=>s1 env n fun a env1 n1=>s2 env1 n1 fun b env2 n2=>D.nx ((env2.set i (some a)).set j (some b)) n2
theorem GZ {σ:St}{env:Env}{i:Nat}{s:Slot}{v:V}{a:Addr}(hl:env.length=σ.length)(h:CJ (σ.set i (some v)) (env.set i (some s)) a):CJ σ env a\/((∃xs:OK×List PV,s=.ow xs.1 xs.2)/\v=.ref a):=by
 obtain⟨j,ys,e1,e2⟩:=h
 by_cases hj:i=j
 · subst hj
   by_cases hl':i < env.length
   · rw [K9 hl'] at e1;rw [K9 (by omega)] at e2;cases e1;cases e2;exact .inr ⟨⟨_,rfl⟩,rfl⟩
   · rw [N1 (by rw [J6];omega)] at e1;cases e1
 · rw [K4 hj] at e1 e2;exact .inl ⟨j,ys,e1,e2⟩
theorem EC (i j:Nat)(h:∀z ta,AW (F z) [a,b] ta->SW (F z) st (tPar i j ta))(h1:QL T K F a s1)(h2:QL T K F b s2)(n1:F8 a=true:=by rfl)(n2:F8 b=true:=by rfl):QS T np K F st (qPar i j s1 s2):=by
 obtain⟨t,a1,a2⟩:=h1;obtain⟨u,b1,b2⟩:=h2;refine⟨_,fun z=>(h z _ ⟨F6 (a1 z) (F6 (b1 z) J1 (D2 n2)) (D2 n1)⟩).h,fun C G σ H env n PD D hK hT hn S hp L=>?_⟩;refine JV (Q:=fun v w H2=>∃v' w',[v,w]=[v',w']/\D.nx ((σ.set i (some v')).set j (some w')) H2) a2 b2 hK hT S hp fun x y env2 n2 v w G2 H2 q S2 x2 gx gy ne=>?_;refine⟨v,w,rfl,L.nx _ _ _ _ _ q ((S2.slot i gx.1 gx.2).slot j gy.1 fun ys b e1 e2 z=>?_) x2⟩;rcases GZ S2.len z with z | ⟨⟨xs,ex⟩,ev⟩
 · exact gy.2 ys b e1 e2 z
 · exact ne xs ys b ex e1 ev e2
theorem AA {X:Cx}{i:Nat}{o ix:Expr}{pos:Pos}(ho:EW X o (tVar i))(ha:∀v,assign (.Subscript o ix pos) X.env v=(do
     let ov ← R1 [v] (eval o X.env)
     let iv ← R1 [v,ov] (eval ix X.env)
     Z6 pos
     R1 [v,ov,iv] (setItem ov iv v)
     release [v,ov,iv] []):=by intro _;rfl) (ti:TE) (hi:EW X ix ti):GW X (.Subscript o ix pos) (gSub (tVar i) ti Cv):=⟨pg_sub ho.h hi.h MS ha⟩
def gAt (i:Nat)(pe:pE):PV->Env->Nat->(Env->Nat->Prop)->Prop:=fun x env n R=>pe env n fun y env1 n1=>match env1[i]?,y with | some (some (.ow .lst xs)),.int d=>(match ixN xs.length d with | some j=>R (env1.set i (some (.ow .lst (xs.set j x)))) n1 | none=>False) | _,_=>False
def qPut (i:Nat)(pv:pE)(pe:pE):pS:=fun D env n=>pv env n fun x env1 n1=>(∃xs,env1[i]?=some (some (.ow .lst xs)))/\gAt i pe x env1 n1 D.nx
theorem CK (i:Nat){v o ix:Expr}{pv:pE}(h:∀z te g,EW (F z) v te->GW (F z) (.Subscript o ix pos) g->SW (F z) st (tAsg te g))(hv:QE T K F v pv)(hg:∀z ti,EW (F z) ix ti->GW (F z) (.Subscript o ix pos) (gSub (tVar i) ti Cv))(he:QE T K F ix pe):QS T np K F st (qPut i pv pe):=by
 obtain⟨tv,v1,v2⟩:=hv;obtain⟨ti,i1,i2⟩:=he;refine⟨_,fun z=>(h z _ _ ⟨v1 z⟩ (hg z _ ⟨i1 z⟩)).h,fun C G σ H env n PD D hK hT hn S hp L=>?_⟩;refine v2 C G σ H env n _ _ hK hT S hp fun x env1 n1 v H1 q1 S1 r1 f1=>?_;obtain⟨⟨xs0,e0⟩,q1⟩:=q1;obtain⟨a,vs,ev,h1,h2,h3,h4,r⟩:=S1.slots i _ e0;refine⟨.ref a,ev,?_⟩;refine i2 C G σ H1 env1 n1 _ _ hK hT S1 q1 fun y env2 n2 w H2 q2 S2 r2 f2=>?_
 split at q2
 · rename_i xs d ex
   split at q2
   · rename_i j ej;obtain⟨a',us,ev',g1,g2,g3,g4,r'⟩:=S2.slots i _ ex;rw [ev] at ev';cases ev';subst hK;obtain⟨S3,f3⟩:=S2.put ex ev (r'.set j (r1.fr f2));exact⟨a,us,d,j,rfl,r2,g4,by rw [<- r'.length];exact ej,L.nx _ _ _ _ _ q2 S3 (Ext.fr ((f1.trans f2).trans f3))⟩
   · exact q2.elim
 · exact q2.elim
def ED (i:Nat)(env:Env):Env:=match env[i]? with | some (some (.ow .lst xs))=>env.set i (some (.v (.lst xs))) | _=>env
theorem SR.freeze {C:Ct}{G:Gh}{σ:St}{H:Hp}{env:Env}{n:Nat}(S:SR C G σ H env n)(i:Nat):∃G',SR C G' σ H (ED i env) n/\Ext G H G' H:=by
 unfold ED
 split
 · rename_i xs ex;obtain⟨a,vs,ev,h1,h2,h3,h4,r⟩:=S.slots i _ ex
   let G':Gh:=⟨G.M.filter (·≠a),G.pots⟩
   have sub:∀b∈G'.M,b∈G.M:=fun b hb=>(K5.mp hb).1;have mm:∀{x:PV} {v:V},Rep C.K G H x v->Rep C.K G' H x v:=fun r=>Rep.mono (G':=G') (fun _ _ _ e=>e) (fun b hb=>.inl (sub b hb)) (fun _ _ e=>e) _ _ r;have mms:∀{x:List PV} {v:List V},Reps C.K G H x v->Reps C.K G' H x v:=fun r=>Reps.mono (G':=G') (fun _ _ _ e=>e) (fun b hb=>.inl (sub b hb)) (fun _ _ e=>e) _ _ r
   refine⟨G',{
     frame:=S.frame
     sub:=fun b hb=>S.sub b (sub b hb)
     sup:=fun b hb=>K5.mpr ⟨S.sup b hb,decide_eq_true (show b≠a from fun z=>h2 (by rw [<- z];exact hb))⟩
     pots:=fun p hp=>⟨K5.mpr ⟨(S.pots p hp).1,decide_eq_true (show p≠a from fun z=>h3 (by rw [<- z];exact hp))⟩,C.T.more (S.pots p hp).2 fun b hb=>.inl (sub b hb)⟩
     pre:=S.pre
     mu:=fun b hb=>S.mu b (sub b hb)
     slots:=fun j s es=>?_
     inj:=fun j k xs' ys b e1 e2 e3 e4=>?_
     p0:=S.p0
     len:=by rw [J6];exact S.len
     newp:=S.newp },⟨fun _ _ _ e=>e,fun b hb=>.inl (sub b hb),fun _ _ e=>e⟩⟩
   · by_cases hj:i=j
     · subst hj;rw [K9 (E6.mp ex).1] at es;cases es;exact⟨.ref a,ev,a,vs,rfl,⟨fun z=>by simpa using(K5.mp z).2,h4⟩,mms r⟩
     · rw [K4 hj] at es;have:=S.slots j s es;cases s with
       | v x =>
         obtain⟨v,e1,r⟩:=this;exact⟨v,e1,mm r⟩
       | ow kz zs =>
         obtain⟨b,us,e1,g1,g2,g3,g4,r⟩:=this;have hba:b≠a:=fun z=>hj (S.inj i j (.lst,xs) (kz,zs) a ex es ev (by rw [e1,z]));exact⟨b,us,e1,K5.mpr ⟨g1,by simpa using hba⟩,g2,g3,g4,mms r⟩
   · have back:∀(j:Nat) (zs:OK×List PV),(env.set i (some (.v (.lst xs))))[j]?=some (some (Slot.ow zs.1 zs.2))->env[j]?=some (some (.ow zs.1 zs.2)):=by
       intro j zs h
       by_cases hj:i=j
       · subst hj;rw [K9 (E6.mp ex).1] at h;cases h
       · rw [K4 hj] at h;exact h
     exact S.inj j k xs' ys b (back j _ e1) (back k _ e2) e3 e4
 · exact⟨G,S,Ext.refl⟩
def AB (i:Nat)(p:pS):pS:=fun D env n=>p D (ED i env) n
theorem CL (i:Nat)(h:QS T np K F st p1):QS T np K F st (AB i p1):=by
 obtain⟨t,a1,a2⟩:=h;refine⟨t,a1,fun C G σ H env n PD D hK hT hn S hp L=>?_⟩;obtain⟨G',S',x'⟩:=S.freeze i;exact a2 C G' σ H _ n PD D hK hT hn S' hp (L.ext x')
end
end Pu
end
section
namespace Pu
open PySem PySem.Spec L2
def l5 (N:List Str)(xs:List PV):Env:=xs.map (fun x=>some (.v x))++List.replicate (N.length - xs.length) none
def fnP (N ps:List Str)(body:pS):pF:=fun xs n R=>xs.length=ps.length/\body ⟨fun _ m=>R .non m,R,fun _ _=>False,fun _ _=>False⟩ (l5 N xs) n
theorem JW {K:A5}{T:PotK}{G:Gh}{H:Hp}{n:Nat}{np:Bool}{N:List Str}{xs:List PV}{vs:List V}(hp:∀p∈G.pots,p∈G.M/\T.at_ G.M H p n)(hm:∀a∈G.M,∃o,H a=some o/\MutO o)(hh:T.has G.pots)(r:Reps K G H xs vs) :
   SR ⟨K,T,G.M,G.pots,H,np⟩ G (L2.start N vs) H (l5 N xs) n where
 frame b o _ e:=e
 sub a ha:=.inl ha
 sup a ha:=ha
 pots:=hp
 pre:=⟨[],by simp,.inl rfl⟩
 mu:=hm
 slots i s e:=by
   unfold l5 at e
   by_cases hi:i < xs.length
   · rw [U2 (by simpa using hi),D5] at e;cases ex:xs[i]? with
     | none=>rw [ex] at e;cases e
     | some x =>
       rw [ex] at e;cases e;obtain⟨v,ev,rv⟩:=r.get' ex;refine⟨v,?_,rv⟩;unfold L2.start;rw [U2 (by rw [A7,<- r.length];exact hi),D5,ev]
       rfl
   · rw [P5 (by simpa using hi),FY] at e
     split at e <;> cases e
 inj i j xs' ys a e1:=by
   exfalso
   unfold l5 at e1
   by_cases hi:i < xs.length
   · rw [U2 (by simpa using hi),D5] at e1;cases ex:xs[i]? with
     | none=>rw [ex] at e1;cases e1
     | some x=>rw [ex] at e1;cases e1
   · rw [P5 (by simpa using hi),FY] at e1
     split at e1 <;> cases e1
 p0:=⟨fun p h=>(hp p h).1,hh⟩
 len:=by unfold l5 L2.start;simp [r.length]
 newp p h hn:=absurd h hn
section
variable {P:B2}{w:World}{K:A5}{mg:Str->Option Value}{base:Heap}{T:PotK}
theorem bd1 {P:List Value->Prop}(h:∀a,P [a])(us:List Value)(e:us.length=1):P us:=by
 obtain⟨a,rfl⟩:=List.length_eq_one_iff.mp e;exact h a
theorem bdS {n:Nat}{P:List Value->Prop}(h:∀a us,us.length=n->P (a::us))(us:List Value)(e:us.length=n + 1):P us:=by
 obtain⟨a,us,rfl⟩:=List.exists_cons_of_length_eq_add_one e;exact h a us (Nat.succ.inj e)
theorem bd2 {P:List Value->Prop}(h:∀a b,P [a,b])(us:List Value)(e:us.length=2):P us:=bdS (fun a us e=>bd1 (P:=fun us=>P (a::us)) (h a) us e) us e
theorem bd3 {P:List Value->Prop}(h:∀a b c,P [a,b,c])(us:List Value)(e:us.length=3):P us:=bdS (fun a us e=>bd2 (P:=fun us=>P (a::us)) (h a) us e) us e
theorem bd4 {P:List Value->Prop}(h:∀a b c d,P [a,b,c,d])(us:List Value)(e:us.length=4):P us:=bdS (fun a us e=>bd3 (P:=fun us=>P (a::us)) (h a) us e) us e
theorem F7 {x:Str}{st:Stmt}{N ps:List Str}{k:Nat}{body:pS}(F0:Fn0 K mg x st)(sc:D6 N ps (C5 st))
   (bd:∀(kV doc pm:Value) (an:Option Addr) (cdv ct:Value) (us:List Value),us.length=ps.length->bindArgs (X6 x x (k7 st) (U5 st) (C5 st) .none kV doc pm an cdv ct) ⟨us,[]⟩=pure (ps.zip us))
   (h:∀(f:Addr) (cdv:Value) (A:Around) (outer:List PySem.Env) (s:Shared) (H:Hp) (E:XK),Room k (A.deeper (PyProof.Rows.envOfC x (C5 st) s.heap.objs.size f cdv))->
     QSs T false K (fun _:Unit=>(cxOf CX0 P w K mg base N x (C5 st) f cdv A outer s H E).nox) (U5 st) body) :
   Kn P w K mg base x (k + 1) ps (B4 K T (fnP N ps body)):=by
 refine F0.ok sc (fun vs H Q E h=>?_) bd (fun f cdv A outer s H vs Q E hr hsp=>?_)
 · obtain⟨G,xs,n,R,_,_,_,r,hf,_⟩:=h;rw [<- r.length];exact hf.1
 · obtain⟨t,h1,h2⟩:=h f cdv A outer s H E hr;obtain⟨G,xs,n,R,hp,hm,hh,r,hf,k'⟩:=hsp;refine⟨t,h1 (),?_⟩;have S0:=JW (N:=N) (np:=false) hp hm hh r
   have fin:∀(x:PV) (n':Nat) (v:V) (G':Gh) (σ:St) (H':Hp) (env:Env),R x n'->SR ⟨K,T,G.M,G.pots,H,false⟩ G' σ H' env n'->Rep K ⟨G.M,G'.pots⟩ H' x v->Q v H':=by
     intro x n' v G' σ H' env rr S' rv
     have ep:G'.pots=G.pots:=by
       obtain⟨l,el,hl⟩:=S'.pre;rcases hl with hl | hl
       · rw [el,hl,W6]
       · cases hl
     rw [ep] at rv;exact k' _ _ _ _ rr rv (fun p hp'=>T.more (S'.pots p (by rw [ep];exact hp')).2 fun a ha=>.inl (S'.sup a ha)) S'.frame
   refine h2 _ G _ H _ n _ _ rfl rfl rfl S0 hf.2 ⟨fun env n' G' σ H' q S' _=>?_,fun x n' v G' σ H' env q S' rv _=>fin x n' v G' σ H' env q S' rv,fun _ _ _ _ _ q=>q.elim,fun _ _ _ _ _ q=>q.elim⟩;exact fin .non n' .non G' σ H' env q S' rfl
theorem law_ok {x:Str}{st:Stmt}{N:List Str}{y:Str}{k:Nat}{body:pS}(F0:Fn0 K mg x st)(sc:D6 N [y] (C5 st))
   (bd:∀(kV doc pm:Value) (an:Option Addr) (cdv ct:Value) (us:List Value),us.length=[y].length->bindArgs (X6 x x (k7 st) (U5 st) (C5 st) .none kV doc pm an cdv ct) ⟨us,[]⟩=pure ([y].zip us))
   (h:∀(f:Addr) (cdv:Value) (A:Around) (outer:List PySem.Env) (s:Shared) (H:Hp) (E:XK),Room k (A.deeper (PyProof.Rows.envOfC x (C5 st) s.heap.objs.size f cdv))->
     QSs T true K (fun _:Unit=>(cxOf CX0 P w K mg base N x (C5 st) f cdv A outer s H E).nox) (U5 st) body)
   (hlaw:∀ns:List Int,ns.length<=63->body ⟨fun _ _=>False,fun r _=>r=.bl true,fun _ _=>False,fun _ _=>False⟩ (l5 N [.scr ns]) 0) (h0:T.has []:=by trivial) :
   Kn P w K mg base x (k + 1) [y] (Em K):=by
 refine F0.ok sc (fun vs H Q E h=>?_) bd (fun f cdv A outer s H vs Q E hr hsp=>?_)
 · obtain⟨a,ns,rfl,_⟩:=h
   rfl
 · obtain⟨t,h1,h2⟩:=h f cdv A outer s H E hr;obtain⟨a,ns,rfl,hS,hl,hO,q⟩:=hsp;refine⟨t,h1 (),?_⟩
   let G:Gh:=⟨[],[]⟩
   have r:Reps K G H [.scr ns] [.ref a]:=by
     refine .one ⟨a,rfl,?_⟩;rcases hS with(hS | ⟨o,hS⟩) | hS
     · rcases hO a with z | ⟨o,xs,z⟩
       · rw [z] at hS;cases hS
       · rw [z] at hS;cases hS
     · exact .inl ⟨by simp [G],o,hS⟩
     · exact .inr hS
   have S0:=JW (T:=T) (N:=N) (np:=true) (n:=0) (G:=G) (fun p hp=>nomatch hp) (fun a ha=>nomatch ha) h0 r;refine h2 _ G _ H _ 0 _ _ rfl rfl rfl S0 (hlaw ns hl) ⟨fun _ _ _ _ _ q=>q.elim,fun x n' v G' σ H' env qq S' rv _=>?_,fun _ _ _ _ _ q=>q.elim,fun _ _ _ _ _ q=>q.elim⟩;subst qq;obtain rfl:v=.bl true:=rv;exact q H'
end
def w8:pF:=fun xs n R=>match xs with | [.pot _,.int m]=>(0 < m/\m < 1000000/\n < 1000000000)/\∀d:Int,0<=d->d < m->R (.int d) (n + 1) | _=>False
end Pu
end
section
namespace Pu
open PySem PySem.Spec L2
section
variable {T:PotK}{np:Bool}{ι:Type}{K:A5}{F:ι->Cx}{e a b c:Expr}{es:List Expr}{pe pa pb pc:pE}{pos:Pos}{pl pr:pA}
def W9:List PV->Option (List Str)
 | []=>some []
 | .str b::xs=>(W9 xs).map (b::·)
 | _=>none
theorem EE {G:Gh}{H:Hp}:∀{xs:List PV} {vs:List V} {bs:List Str},W9 xs=some bs->Reps K G H xs vs->vs=bs.map V.str
 | [],vs,bs,h,r=>by cases h;exact r
 | .str b :: xs, vs, bs, h, r => by
   obtain⟨v,t,e,rv,rt⟩:=r;cases e1:W9 xs with
   | none=>simp [W9,e1] at h
   | some cs =>
     have:b::cs=bs:=by simpa [W9,e1] using h
     subst this;rw [e,show v=.str b from rv,EE e1 rt]
     rfl
 | .non::_,_,_,h,_=>by cases h
 | .int _::_,_,_,h,_=>by cases h
 | .bl _::_,_,_,h,_=>by cases h
 | .ty _::_,_,_,h,_=>by cases h
 | .pot _::_,_,_,h,_=>by cases h
 | .tup _::_,_,_,h,_=>by cases h
 | .lst _::_,_,_,h,_=>by cases h
 | .dct _ _::_,_,_,h,_=>by cases h
 | .fdt _ _::_,_,_,h,_=>by cases h
 | .scr _::_,_,_,h,_=>by cases h
theorem JX:∀bs:List Str,W9 (bs.map PV.str)=some bs:=by
 intro xq
 induction xq with
 | nil =>
   exact rfl
 | cons b bs ih =>
   simp [W9,ih]
def EF:PV->Option Bool
 | .non=>some false
 | .bl b=>some b
 | .int i=>some (i != 0)
 | .str z=>if z.length<=1000000 then some ((z.length:Int) != 0) else none
 | .lst xs=>some (!xs.isEmpty)
 | .tup xs=>some (!xs.isEmpty)
 | _=>none
def CM (pe:pE):pT:=fun env n R=>pe env n fun x env1 n1=>match EF x with | some b=>R b env1 n1 | none=>False
theorem JY {G:Gh}{H:Hp}{xs:List PV}{vs:List V}(r:Reps K G H xs vs):(!vs.isEmpty)=!xs.isEmpty:=by
 have:=r.length;cases xs <;> cases vs <;> simp_all
theorem JZ {G:Gh}{H:Hp}{x:PV}{v:V}{b:Bool}(h:EF x=some b)(r:RdV K G H x v):TruV K v H b:=by
 cases x with
 | non=>rw [r.non];cases h;rfl
 | bl c=>rw [r.bl];cases h;rfl
 | int i=>rw [r.int];cases h;rfl
 | str z =>
   rw [r.str]
   by_cases hz:z.length<=1000000
   · have h':(if z.length<=1000000 then some ((z.length:Int) != 0) else none)=some b:=h;rw [if_pos hz] at h';cases h';exact⟨mil hz,rfl⟩
   · have h':(if z.length<=1000000 then some ((z.length:Int) != 0) else none)=some b:=h;rw [if_neg hz] at h';cases h'
 | lst xs=>obtain⟨a,vs,ev,hq,rs⟩:=r.lst;rw [ev];cases h;exact .inl ⟨vs,hq,(JY rs).symm⟩
 | tup xs=>obtain⟨a,vs,ev,hq,rs⟩:=r.tup;rw [ev];cases h;exact .inr (.inl ⟨vs,hq,(JY rs).symm⟩)
 | _=>cases h
theorem G_ (h:QR T K F e pe)(he:∀z whole,isTrue e (F z).env whole=(do let v ← whole;Z6 e.pos;R1 [v] (truthy v)):=by intro _ _;rfl)(hK:∀z,(F z).K=K:=by intro _;rfl):QT T K F e (CM pe):=by
 obtain⟨t,a1,a2⟩:=h;refine⟨_,fun z=>hK z▸ME (a1 z) (he z),fun C G σ H env n R Q hK hT S hp k=>?_⟩;refine a2 C G σ H env n _ _ hK hT S hp fun x env1 n1 v H1 q1 S1 r1 f1=>?_
 split at q1
 · rename_i b eb;exact⟨b,hK▸JZ eb (r1.rd S1),k _ _ _ _ q1 S1 f1⟩
 · exact q1.elim
def wNeg:w1:=fun x R=>match x with | .int i=>R (.int (-i)) | _=>False
theorem qe_neg (h:QE T K F a pa):QE T K F (.UnaryOp .USub a pos) (qUn wNeg pa):=by
 obtain⟨t,a1,a2⟩:=h.r;refine⟨_,fun z=>pe_un Jb (a1 z),ok_un (fun G H x v R Q hf rx hw k=>?_) a2⟩;unfold wNeg at hw
 split at hw
 · exact⟨_,rx.int,k _ _ _ hw (Same.refl _) rfl⟩
 · exact hw.elim
end
def T3 (i:Nat)(pe:pE):pE:=fun env n R=>(∃xs,env[i]?=some (some (.ow .lst xs)))/\GX i pe env n R
end Pu
end
section
namespace Pu
open PySem PySem.Spec L2
theorem X3 {g:pG}{b:pS}{D:Y9}(I:Nat->Env->Nat->Prop):∀(xs:List PV) (k:Nat) (env:Env) (n:Nat),I k env n->
   (∀(i:Nat) x env n (N:Env->Nat->Prop),xs[i]?=some x->I (k + i) env n->(∀e m,I (k + i + 1) e m->N e m)->g x env fun env1=>b { D with nx:=N,ct:=N,bk:=D.nx } env1 n)->(∀env n,I (k + xs.length) env n->D.nx env n)->forL g b D xs env n:=by
 intro xq
 induction xq with
 | nil =>
   intro k env n h0 _ hd;exact hd env n h0
 | cons x xs ih =>
   intro k env n h0 hs hd;show g x env fun env1=>b { D with nx:=fun e m=>forL g b D xs e m,ct:=fun e m=>forL g b D xs e m,bk:=D.nx } env1 n;refine hs 0 x env n _ rfl h0 fun e m h1=>?_;refine ih (k + 1) e m h1 (fun i y env n N e1 h2 h3=>?_) fun env n h2=>hd env n (by rw [D3,show k + (xs.length + 1)=k + 1 + xs.length by omega];exact h2);refine hs (i + 1) y env n N (by simpa using e1) (by rw [show k + (i + 1)=k + 1 + i by omega];exact h2) fun e m h4=>h3 e m (by rw [show k + 1 + i + 1=k + (i + 1) + 1 by omega];exact h4)
theorem EG {j i:Nat}{lo:Int}{x:PV}(h:((D1 j).map fun(k:Nat)=>PV.int (lo + k))[i]?=some x):i < j/\x=.int (lo + i):=by
 rw [D5] at h;cases e:(D1 j)[i]? with
 | none=>rw [e] at h;cases h
 | some y =>
   rw [e] at h;obtain⟨h1,h2⟩:=E6.mp e;rw [DJ] at h2;cases h;subst h2;exact⟨by simpa using h1,rfl⟩
theorem Ha {j:Nat}{lo:Int}:((D1 j).map fun(k:Nat)=>PV.int (lo + k)).length=j:=by simp
theorem CN {α:Type}{xs:List α}{d:Int}(h0:0<=d)(h1:d < xs.length):∃x,x∈xs/\atI xs d=some x:=by
 obtain⟨x,e1,e2⟩:=JB h0 h1;exact⟨x,G8 e1,e2⟩
theorem CO (a b:Str):eqP (.str a) (.str b)=decide (a=b):=rfl
theorem eqP_bb (a b:Bool):eqP (.bl a) (.bl b)=decide (a=b):=rfl
theorem eqP_ll (xs ys:List PV):eqP (.lst xs) (.lst ys)=eqPs xs ys:=rfl
theorem eqP_tt (xs ys:List PV):eqP (.tup xs) (.tup ys)=eqPs xs ys:=rfl
theorem Ny (x y:PV)(xs ys:List PV):eqPs (x::xs) (y::ys)=(eqP x y && eqPs xs ys):=rfl
theorem Nz:eqPs [] []=true:=rfl
theorem if_t {A B:Prop}{b:Bool}(h:b=true)(q:A):if b=true then A else B:=by rw [if_pos h];exact q
theorem if_f {A B:Prop}{b:Bool}(h:b=false)(q:B):if b=true then A else B:=by rw [if_neg (by rw [h];exact J3)];exact q
end Pu
end
section
namespace Pu
open PySem PySem.Spec L2
section
variable {T:PotK}{np:Bool}{ι:Type}{K:A5}{F:ι->Cx}{a b:Expr}{st:Stmt}{pos:Pos}{s1 s2:pSl}
theorem J_ {X:Cx}(K:A5)(i j:Nat){x y:Str}{px py pos:Pos}{k:Nat}(hc:X.calm=true)(h1:GW X (.Name x px) (N5 i))(h2:GW X (.Name y py) (N5 j))(hn:(G0 [.Name x px,.Name y py] X.env).length=2:=by rfl)(hst:(G0 [.Name x px,.Name y py] X.env).findIdx? (·.1)=none:=by rfl)
   (hs:(G0 [.Name x px,.Name y py] X.env).map (·.2)=assign (.Name x px) X.env::(G0 [.Name y py] X.env).map (·.2):=by rfl) (hs2:(G0 [.Name y py] X.env).map (·.2)=assign (.Name y py) X.env::(G0 [] X.env).map (·.2):=by rfl) (hK:X.K=K:=by rfl) :
   GW X (.Tuple [.Name x px,.Name y py] k pos) (gTup K 2 (Y5 (N5 i) (Y5 (N5 j) gNil))):=⟨hK▸Gu hc (Cq h1.h (Cq h2.h Gs hs2) hs) hn hst⟩
theorem Ka (i j:Nat){tg:Expr}{k:Nat}{p:Pos}(h:∀z te g,EW (F z) (.Tuple [a,b] k p) te->GW (F z) tg g->SW (F z) st (tAsg te g))(hg:∀z,GW (F z) tg (gTup K 2 (Y5 (N5 i) (Y5 (N5 j) gNil))))(h1:QL T K F a s1)(h2:QL T K F b s2)(n1:F8 a=true:=by rfl)(n2:F8 b=true:=by rfl):QS T np K F st (qPar i j s1 s2):=by
 obtain⟨t,a1,a2⟩:=h1;obtain⟨u,b1,b2⟩:=h2;refine⟨_,fun z=>(h z _ _ ⟨Gy (F6 (a1 z) (F6 (b1 z) J1 (D2 n2)) (D2 n1))⟩ (hg z)).h,fun C G σ H env n PD D hK hT hn S hp L=>?_⟩;refine JV (Q:=fun v w H2=>[v,w].length<=B0/\∀p,H2 p=none->gTup K 2 (Y5 (N5 i) (Y5 (N5 j) gNil)) (.ref p) σ (upd H2 p (.tup [v,w])) D.nx) a2 b2 hK hT S hp fun x y env2 n2 v w G2 H2 q S2 x2 gx gy ne=>?_;refine⟨by show 2<=B0;decide,fun p hn'=>⟨p,[v,w],rfl,SqT.of D9,rfl,v,[w],rfl,w,[],rfl,rfl,?_⟩⟩;have sm:Same H2 (upd H2 p (.tup [v,w])):=Same.lay1 hn';have S3:=S2.same sm
 have keep:∀{s:Slot} {u:V},Cz C G2 H2 (some (some u)) s->Cz C G2 (upd H2 p (.tup [v,w])) (some (some u)) s:=fun {s u} r=>by
   cases s with
   | v x=>obtain⟨v',e,r⟩:=r;exact⟨v',e,r.same sm⟩
   | ow kk xs=>obtain⟨b,us,e,h1,h2,h3,h4,r⟩:=r;exact⟨b,us,e,h1,h2,h3,sm _ _ h4,r.same sm⟩
 refine L.nx _ _ _ _ _ q ((S3.slot i (keep gx.1) gx.2).slot j (keep gy.1) fun ys b e1 e2 z=>?_) (x2.trans (Ext.fr (Fr.of sm)));rcases GZ S3.len z with z | ⟨⟨xs,ex⟩,ev⟩
 · exact gy.2 ys b e1 e2 z
 · exact ne xs ys b ex e1 ev e2
end
end Pu
end
section
namespace L2
open PySem PySem.Spec PyProof.Rows
def keyD:Key->PyData
 | .inl i=>.int i
 | .inr x=>.str x
mutual
def RdD (H:Hp):PyData->V->Prop
 | .none,v=>v=.non
 | .bool b,v=>v=.bl b
 | .int i,v=>v=.int i
 | .str x,v=>v=.str x
 | .list xs,v=>∃a vs,v=.ref a/\H a=some (.lst vs)/\RdDs H xs vs
 | .tuple xs,v=>∃a vs,v=.ref a/\H a=some (.tup vs)/\RdDs H xs vs
 | .dict kvs,v=>∃a ws,v=.ref a/\H a=some (.dK ws)/\RdKv H kvs ws
def RdDs (H:Hp):List PyData->List V->Prop
 | [],vs=>vs=[]
 | d::ds,vs=>∃v r,vs=v::r/\RdD H d v/\RdDs H ds r
def RdKv (H:Hp):List (PyData×PyData)->List (Key×V)->Prop
 | [],ws=>ws=[]
 | (k,d)::r,ws=>∃q w ws',ws=(q,w)::ws'/\k=keyD q/\RdD H d w/\RdKv H r ws'
end
section
variable {P:B2}{w:World}{H:Hp}{h:Heap}
mutual
theorem Hc (hok:HOk P w H h)(sy:NS H):∀(d:PyData) (v:V) (u:Value),RdD H d v->RelV v u->∃as,Reads h u d as/\L9∉as
 | .none, v, u, r, e => by
   obtain rfl:v=.non:=r;obtain rfl:u=.none:=e;exact⟨[],.none,nofun⟩
 | .bool b, v, u, r, e => by
   obtain rfl:v=.bl b:=r;obtain rfl:u=.bool b:=e;exact⟨[],.bool b,nofun⟩
 | .int i, v, u, r, e => by
   obtain rfl:v=.int i:=r;obtain⟨t,rfl⟩:=e;exact⟨[],.int i t,nofun⟩
 | .str x, v, u, r, e => by
   obtain rfl:v=.str x:=r;obtain⟨t,rfl⟩:=e;exact⟨[],.str x t,nofun⟩
 | .list xs, v, u, r, e => by
   obtain⟨a,vs,rfl,ha,rs⟩:=r;obtain rfl:u=.ref a:=e;obtain⟨_,its,n,rv,ho⟩:=hok a _ ha;obtain⟨as,rr,ns⟩:=Hd hok sy xs vs its rs rv;refine⟨a::as,.list ho rfl rfl rr,fun z=>?_⟩;rcases B7.mp z with z | z
   · rw [<- z] at ha;rcases sy with sy | ⟨o,u,sy⟩ <;> rw [sy] at ha <;> cases ha
   · exact ns z
 | .tuple xs, v, u, r, e => by
   obtain⟨a,vs,rfl,ha,rs⟩:=r;obtain rfl:u=.ref a:=e;obtain⟨_,its,rv,ho⟩:=hok a _ ha;obtain⟨as,rr,ns⟩:=Hd hok sy xs vs its rs rv;obtain⟨o,e1,e2,n,e3⟩:=ho;exact⟨as,.tuple e1 (Cm e2).1 e3 rr,ns⟩
 | .dict kvs, v, u, r, e => by
   obtain⟨a,ws,rfl,ha,rs⟩:=r;obtain rfl:u=.ref a:=e;obtain⟨_,hs,us,rv,o,es,ep,e1,e2,e3,_,e5,_⟩:=hok a _ ha;obtain⟨as,bs,r1,r2,n1,n2⟩:=Kb hok sy kvs ws us es.toList rs rv e5;refine⟨a::as++bs,.dict e1 e2.1 e3 r1 r2,fun z=>?_⟩;rcases K6.mp z with z | z
   · rcases B7.mp z with z | z
     · rw [<- z] at hs;exact absurd hs (by decide)
     · exact n1 z
   · exact n2 z
theorem Hd (hok:HOk P w H h)(sy:NS H):∀(ds:List PyData) (vs:List V) (us:List Value),RdDs H ds vs->Vals vs us->∃as,ReadsAll h us ds as/\L9∉as
 | [], vs, us, r, e => by
   obtain rfl:vs=[]:=r;cases e;exact⟨[],.nil,nofun⟩
 | d :: ds, vs, us, r, e => by
   obtain⟨v,r',rfl,r1,r2⟩:=r;cases e with
   | cons e1 e2 =>
     obtain⟨as,a1,a2⟩:=Hc hok sy d v _ r1 e1;obtain⟨bs,b1,b2⟩:=Hd hok sy ds r' _ r2 e2;exact⟨as++bs,.cons a1 b1,fun z=>(K6.mp z).elim a2 b2⟩
theorem Kb (hok:HOk P w H h)(sy:NS H):∀(kvs:List (PyData×PyData)) (ws:List (Key×V)) (us:List (Key×Value)) (es:List Aa),RdKv H kvs ws->KV ws us->Pairs (E8 P w) es us->
   ∃as bs,ReadsAll h (es.map (·.key)) (kvs.map (·.1)) as/\ReadsAll h (es.map (·.val)) (kvs.map (·.2)) bs/\L9∉as/\L9∉bs
 | [], ws, us, es, r, e, p => by
   obtain rfl:ws=[]:=r;cases e;cases p;exact⟨[],[],.nil,.nil,nofun,nofun⟩
 | (k, d) :: kvs, ws, us, es, r, e, p => by
   obtain⟨q,w1,ws',rfl,rfl,r1,r2⟩:=r;cases e with
   | cons e1 e2 =>
     cases p with
     | cons p1 p2 p3 =>
       obtain⟨as,bs,a1,a2,a3,a4⟩:=Kb hok sy kvs ws' _ _ r2 e2 p3;obtain⟨e1,e1'⟩:=e1;dsimp only at e1 e1';obtain⟨cs,c1,c2⟩:=Hc hok sy d w1 _ r1 e1';rw [<- e1] at p1;refine⟨[]++as,cs++bs,.cons ?_ a1,.cons (by dsimp only;rw [p2];exact c1) a2,a3,fun z=>(K6.mp z).elim c2 a4⟩;rcases Y2 p1 with⟨i,t,rfl,e⟩ | ⟨x,t,rfl,e⟩
       · dsimp only;rw [e];exact .int i t
       · dsimp only;rw [e];exact .str x t
end
end
section
variable {X:Cx}{pins:List (Addr×Obj)}{σ:St}{H:Hp}{s:Shared}
theorem NA {k:Nat}(hr:Room k X.A):K1 X (.builtin "repr") (fun vs H Q=>∃v d,vs=[v]/\RdD H d v/\d.showable=true/\d.depth<=40/\d.shown.length<=B0/\Q (.str d.shown) H):=by
 intro pins s σ H vs us Q I rv h;obtain⟨v,d,rfl,r,h1,h2,h3,q⟩:=h;obtain⟨u,rfl,ru⟩:=rv.one;obtain⟨as,rr,ns⟩:=Hc I.hok I.nos d v u r ru;have fin:∀(h':Heap) (t:Tok) (tk:Tok),(∀b o,s.heap.get? b=some o->h'.get? b=some o)->∃v' H',Inv X pins σ H' { s with heap:=h',toks:=tk }/\RelV v' (.str d.shown t)/\Q v' H':=fun h' t tk kp=>⟨.str d.shown,H,I.kept kp,⟨t,rfl⟩,q⟩;cases rr with
 | none=>exact P.repr_of_none (fin s.heap _ _ fun _ _ z=>z)
 | bool b=>exact P.repr_of_bool (by cases b <;> exact fin s.heap _ _ fun _ _ z=>z)
 | int i t=>exact P.repr_of_int (by simpa [c7] using h1) (fin s.heap _ _ fun _ _ z=>z)
 | str x t=>exact P.repr_of_str (fin s.heap _ _ fun _ _ z=>z) h3
 | list e1 e2 e3 e4=>exact repr_of_reads' (.list e1 e2 e3 e4) h1 (fun _=>ns) hr.gd (by have:=hr.units;omega) (fun _ _ z=>z) (fun h' u tk kp=>fin h' u tk kp) h3
 | tuple e1 e2 e3 e4=>exact repr_of_reads' (.tuple e1 e2 e3 e4) h1 (fun _=>ns) hr.gd (by have:=hr.units;omega) (fun _ _ z=>z) (fun h' u tk kp=>fin h' u tk kp) h3
 | dict e1 e2 e3 e4 e5=>exact repr_of_reads' (.dict e1 e2 e3 e4 e5) h1 (fun _=>ns) hr.gd (by have:=hr.units;omega) (fun _ _ z=>z) (fun h' u tk kp=>fin h' u tk kp) h3
end
end L2
namespace Pu
open PySem PySem.Spec L2
mutual
/-- what a thing holds, for repr -/
def dat:PV->Option PyData
 | .non=>some .none
 | .bl b=>some (.bool b)
 | .int i=>some (.int i)
 | .str x=>some (.str x)
 | .tup xs=>match dats xs with | some ds=>some (.tuple ds) | none=>none
 | .lst xs=>match dats xs with | some ds=>some (.list ds) | none=>none
 | .dct ks xs=>match dats xs with | some ds=>some (.dict ((ks.map keyD).zip ds)) | none=>none
 | _=>none
def dats:List PV->Option (List PyData)
 | []=>some []
 | x::xs=>match dat x,dats xs with | some d,some ds=>some (d::ds) | _,_=>none
end
theorem kv_rd {H:Hp}:∀(kvs:List (Key×V)) (ds:List PyData),RdDs H ds (kvs.map (·.2))->RdKv H (((kvs.map (·.1)).map keyD).zip ds) kvs
 | [], ds, r => by
   cases ds with
   | nil=>exact rfl
   | cons d ds=>obtain⟨v,r',e,_⟩:=r;cases e
 | (q, w) :: kvs, ds, r => by
   cases ds with
   | nil=>exact(List.cons_ne_nil _ _ r).elim
   | cons d ds =>
     obtain⟨v,r',e,r1,r2⟩:=r;cases e;exact⟨q,w,kvs,rfl,rfl,r1,kv_rd kvs ds r2⟩
section
variable {K:A5}{G:Gh}{H:Hp}
mutual
theorem Kc:∀(x:PV) (v:V) (d:PyData),Rep K G H x v->dat x=some d->RdD H d v
 | .non,v,d,r,e=>by cases e;exact r
 | .bl b,v,d,r,e=>by cases e;exact r
 | .int i,v,d,r,e=>by cases e;exact r
 | .str x,v,d,r,e=>by cases e;exact r
 | .tup xs, v, d, r, e => by
   obtain⟨a,vs,rfl,t,rs⟩:=r;rw [dat] at e;cases ed:dats xs with
   | none=>rw [ed] at e;cases e
   | some ds=>rw [ed] at e;cases e;exact⟨a,vs,rfl,t.2,CP xs vs ds rs ed⟩
 | .lst xs, v, d, r, e => by
   obtain⟨a,vs,rfl,t,rs⟩:=r;rw [dat] at e;cases ed:dats xs with
   | none=>rw [ed] at e;cases e
   | some ds=>rw [ed] at e;cases e;exact⟨a,vs,rfl,t.2,CP xs vs ds rs ed⟩
 | .ty _,v,d,r,e=>by cases e
 | .pot _,v,d,r,e=>by cases e
 | .scr _,v,d,r,e=>by cases e
 | .fdt _ _,v,d,r,e=>by cases e
 | .dct ks xs, v, d, r, e => by
   obtain⟨a,kvs,rfl,_,ha,hk,rs⟩:=r;rw [dat] at e;cases ed:dats xs with
   | none=>rw [ed] at e;cases e
   | some ds=>rw [ed] at e;cases e;exact⟨a,kvs,rfl,ha,hk▸kv_rd kvs ds (CP xs _ ds rs ed)⟩
theorem CP:∀(xs:List PV) (vs:List V) (ds:List PyData),Reps K G H xs vs->dats xs=some ds->RdDs H ds vs
 | [],vs,ds,r,e=>by cases e;exact r
 | x :: xs, vs, ds, r, e => by
   obtain⟨v,r',rfl,r1,r2⟩:=r;rw [dats] at e;cases e1:dat x with
   | none=>rw [e1] at e;cases e
   | some d =>
     cases e2:dats xs with
     | none=>rw [e1,e2] at e;cases e
     | some ds'=>rw [e1,e2] at e;cases e;exact⟨v,r',rfl,Kc x v d r1 e1,CP xs r' ds' r2 e2⟩
end
end
def d9:w1:=fun x R=>match dat x with | some d=>d.showable=true/\d.depth<=40/\d.shown.length<=B0/\R (.str d.shown) | none=>False
theorem bt_repr:N0 "repr"=some (.builtin "repr"):=by decide +kernel
section
variable {T:PotK}{ι:Type}{K:A5}{F:ι->Cx}{e:Expr}{pe:pE}{pos:Pos}
theorem BB {p:Pos}{k:Nat}(hr:∀z,Room k (F z).A)(hg:∀z,Gl (F z) "repr")(hm:∀z,(F z).mg "repr"=none)(ha:QR T K F e pe)(hs:F8 e=true:=by rfl):QE T K F (.Call (.Name "repr" p) [e] [] pos) (qUn d9 pe):=JO (fun z=>NA (hr z)) (fun G H x v R Q hf rx hw k=>by
 unfold d9 at hw;cases ed:dat x with
 | none=>rw [ed] at hw;exact hw.elim
 | some d =>
   rw [ed] at hw;obtain⟨h1,h2,h3,q⟩:=hw;refine⟨v,d,rfl,?_,h1,h2,h3,k _ _ _ q (Same.refl _) rfl⟩;rcases rx with rx | ⟨a,vs,xs,rfl,rfl,hv,rs⟩
   · exact Kc x v d rx ed
   · rw [dat] at ed;cases es:dats xs with
     | none=>rw [es] at ed;cases ed
     | some ds=>rw [es] at ed;cases ed;exact⟨a,vs,rfl,hv,CP xs vs ds rs es⟩) hg hm bt_repr ha hs
end
end Pu
end
section
namespace HT
open PySem PySem.Spec PyProof.Rows
section
variable {prog:B2}{w:World}{A:Around}{E:Value->Shared->Prop}{s:Shared}
theorem NB (n:Nat):Cg none none (-1) (n:Int)=((n:Int) - 1,-1):=rfl
theorem NC (n:Nat):u6 ((n:Int) - 1) (-1) (-1)=n:=by
 unfold u6;rw [if_neg (by decide)];have h1:(- -1:Int)=1:=by decide
 rw [h1]
 by_cases h:(n:Int) - 1 > -1
 · rw [if_pos h,Int.ediv_one];omega
 · rw [if_neg h];omega
theorem ND {sl:Addr}{vk:Value}{n:Nat}{Q:Int×Int×Nat->Shared->Prop}(hs:s.heap.IsSliceOf sl .none .none vk)(pk:IsPart vk (some (-1)))
   (h:Q ((n:Int) - 1,-1,n) s):wpAny (model prog w) A (DX (.ref sl) (pure (n:Int))) Q E s:=by
 obtain⟨os,hos,hcs,hds⟩:=id hs;unfold DX IQ;refine A0 (A0 (L8 hos hds (x:=.none) rfl (A0 (L8 hos hds (x:=.none) rfl (A0 (L8 hos hds (x:=vk) rfl (A4 ?_)))))));refine A0 (Cu pk ?_);show wpAny _ _ (if((-1:Int) == 0)=true then _ else _) _ _ s;rw [if_neg (by decide)];refine A0 (Cu .none (A0 (Cu .none (A0 (A4 ?_)))));show wpAny _ _ (match Cg none none (-1) (n:Int) with | (lo,hi)=>pure (lo,(-1:Int),u6 lo hi (-1))) _ _ s;rw [NB];show wpAny _ _ (pure ((n:Int) - 1,(-1:Int),u6 ((n:Int) - 1) (-1) (-1))) _ _ s;rw [NC];exact A4 h
theorem NE {α β:Type}{f g:α->Option β}:∀l:List α,(∀m∈l,f m=g m)->l.filterMap f=l.filterMap g:=by
 intro xq
 induction xq with
 | nil =>
   intro _;exact rfl
 | cons x l ih =>
   intro h;rw [Ad,Ad,h x B8,ih fun m hm=>h m (B5 _ hm)]
theorem NF (xs:Array Value):((D1 xs.size).filterMap fun(m:Nat)=>xs[((xs.size:Int) - 1 + (m:Int) * -1).toNat]?).toArray=xs.toList.reverse.toArray:=by
 congr 1
 have e:(D1 xs.size).filterMap (fun(m:Nat)=>xs[((xs.size:Int) - 1 + (m:Int) * -1).toNat]?)=((D1 xs.size).map fun k=>xs.size - 1 - k).filterMap (xs[·]?):=by
   rw [List.filterMap_map];refine NE _ fun m hm=>?_;have:=M9.mp hm;show _=xs[xs.size - 1 - m]?
   congr 1
   omega
 rw [e,PySem.W.krv_range,List.filterMap_reverse,PySem.W.krv_all]
theorem getItem_tuple_rev {t sl:Addr}{items:Array Value}{vk:Value}{Q:Value->Shared->Prop}(ht:IsTup s.heap t items)(hs:s.heap.IsSliceOf sl .none .none vk)(pk:IsPart vk (some (-1)))
   (h:Q (.ref s.heap.objs.size) { s with heap:=s.heap.push { cls:=.type "tuple",data:=.seq items.toList.reverse.toArray } })
   (hsz:items.size<=B0):wpAny (model prog w) A (W3 (.ref t) (.ref sl)) Q E s:=by
 have htake:sizeOk (.seq items.toList.reverse.toArray):=by
   show items.toList.reverse.toArray.size<=B0;rw [D8,Ae,F4];omega
 obtain⟨os,hos,hcs,hds⟩:=id hs;have hTs:s.TypeIs (.ref sl) "slice":=⟨os,hos,hcs⟩;unfold W3
 try with_reducible refine J5 ?_
 first | refine A0 (A4 ?_) | skip
 refine A0 (wpAny_sequenceKey ht.typeIs (by decide) ?_)
 refine A0 (T8 (name:=A6 "__getitem__") ht.typeIs Bb
   (M6 Bb ht.typeIs entry_tuple_getitem ?_ (args_tuple_getitem _ _)))
 show wpAny _ _ (Gf (.ref t)>>=_) _ _ s;refine A0 (tupleItemsOf_ ht ?_);refine A0 (p8 hTs ?_);rw [if_pos (by decide)];refine A0 (ND hs pk ?_)
 have hno:¬((((items.size:Int) - 1) == 0 && (-1:Int) == 1 && items.size == items.size)=true):=by
   intro q;rw [u5,u5] at q;exact absurd (eq_of_beq q.1.2) (by decide)
 show wpAny _ _ (if(((items.size:Int) - 1) == 0 && (-1:Int) == 1 && items.size == items.size)=true then _ else _) _ _ s;rw [if_neg hno,NF]
 first
   | exact A0 (m:=u7 _) (J8 (A4 ⟨_,rfl,A4 h⟩) htake)
   | exact A0 (m:=u7 _) (J8 (A0 (A4 (A4 ⟨_,rfl,A4 h⟩))) htake)
   | exact A0 (A0 (m:=u7 _) (J8 (A4 (A4 ⟨_,rfl,A4 h⟩)) htake))
   | exact A0 (A0 (m:=u7 _) (J8 (A4 ⟨_,rfl,A4 h⟩) htake))
end
end HT
namespace L2
open PySem PySem.Spec PyProof.Rows
section
variable {X:Cx}{e st:Expr}{te:TE}{ts:TE}{pos p2:Pos}
def rRev (K:A5):V->Hp->VK->Prop:=fun x H Q=>∃a xs,x=.ref a/\((SqL K H a xs/\∀p,H p=none->Q (.ref p) (upd H p (.lst xs.reverse)))\/(SqT K H a xs/\∀p,H p=none->Q (.ref p) (upd H p (.tup xs.reverse))))
def tRev (K:A5)(te ts:TE):TE:=fun σ H Q=>te σ H fun x H1=>ts σ H1 fun y H2=>y=.int (-1)/\rRev K x H2 Q
theorem Vals.rev {xs:List V}{us:List Value}(r:Vals xs us):Vals xs.reverse us.reverse:=by
 induction r with
 | nil=>exact .nil
 | cons r1 _ ih =>
   rw [b0,b0];exact ih.append (.cons r1 .nil)
theorem pe_rev (he:PE X e te)(hs:PE X st ts):PE X (.Subscript e (.Slice none none (some st) p2) pos) (tRev X.K te ts):=by
 intro pins s σ H Q I h;refine Subscript_ (thn (he pins s σ H _ I h) fun v s1 ⟨x,H1,I1,r1,q1⟩=>?_);refine wpAny_Slice ?_;rw [evalPart_none];refine A4 (A4 ?_);rw [evalPart_some];refine thn (hs pins s1 σ H1 _ I1 q1) fun vk s3 ⟨y,H3,I3,ry,q3⟩=>?_;obtain⟨rfl,a,xs,rfl,q⟩:=q3;obtain⟨t,rfl⟩:=ry;obtain rfl:v=.ref a:=r1;have I4:Inv X pins σ H3 { s3 with heap:=s3.heap.push { cls:=.type "slice",data:=.fields #[.none,.none,.int (-1) t] } }:=I3.kept (t':=s3.toks) fun b ob q=>B6 _ q;show wpAny (model X.prog X.w) X.A (subscriptTail e (.Slice none none (some st) p2) (.ref a) (.ref s3.heap.objs.size)) (EP X pins σ Q) X.xe { s3 with heap:=s3.heap.push { cls:=.type "slice",data:=.fields #[.none,.none,.int (-1) t] } };rcases q with⟨hq,q⟩ | ⟨hq,q⟩
 · obtain⟨its,r,ht,hz⟩:=I4.list hq;refine tail_any (ops:=[.ref a,.ref s3.heap.objs.size]) ht.isList.typeIs slot_list_getitem.lookup ?_ (by with_unfolding_all rfl);refine wpAny_getItem_list_slice ht.isList (Gn ..) .none .none (.int (-1) t) (by decide) ?_ (by rw [D8];have:=r.length;omega);rw [PySem.W.krv_pick];refine⟨.ref _,_,I4.laid (t':=s3.toks) (o:=.lst xs.reverse) (fun b ob q=>B6 _ q) (A9 _) ?_,rfl,q _ (I4.hok.fresh (A9 _))⟩;exact⟨by rw [Ae];exact hz,its.reverse,0,r.rev,E1 _ rfl⟩
 · obtain⟨its,r,ht,hz⟩:=I4.tuple hq;refine tail_any (ops:=[.ref a,.ref s3.heap.objs.size]) ht.typeIs PyProof.Rows.slot_tuple_getitem.lookup ?_ (by with_unfolding_all rfl);refine HT.getItem_tuple_rev ht (Gn ..) (.int (-1) t) ?_ (by rw [D8];have:=r.length;omega);refine⟨.ref _,_,I4.laid (t':=s3.toks) (o:=.tup xs.reverse) (fun b ob q=>B6 _ q) (A9 _) ?_,rfl,q _ (I4.hok.fresh (A9 _))⟩;exact⟨by rw [Ae];exact hz,its.reverse,r.rev,Y4.new _ _⟩
end
end L2
namespace Pu
open PySem PySem.Spec L2
section
variable {T:PotK}{ι:Type}{K:A5}{F:ι->Cx}{e:Expr}{pe:pE}{pos p2 p3 p4:Pos}
theorem Reps.rev {K:A5}{G:Gh}{H:Hp}:∀{xs:List PV} {vs:List V},Reps K G H xs vs->Reps K G H xs.reverse vs.reverse
 | [],vs,r=>by obtain rfl:vs=[]:=r;exact rfl
 | x :: xs, vs, r => by
   obtain⟨v,r',rfl,r1,r2⟩:=r;rw [b0,b0];exact(Reps.rev r2).append ⟨v,[],rfl,r1,rfl⟩
def wRev:w1:=fun x R=>match x with | .lst xs=>R (.lst xs.reverse) | .tup xs=>R (.tup xs.reverse) | _=>False
theorem qe_rev {i:Nat}(he:QR T K F e pe)(hK:∀z,(F z).K=K:=by intro _;rfl):QE T K F (.Subscript e (.Slice none none (some (.UnaryOp .USub (.Constant (.int 1) i p3) p4)) p2) pos) (qUn wRev pe):=by
 obtain⟨t,h1,h2⟩:=he;refine⟨_,fun z=>hK z▸pe_rev (h1 z) (pe_un Jb L6),fun C G σ H env n R Q hK hT S hp k=>?_⟩;refine h2 C G σ H env n _ _ hK hT S hp fun x env1 n1 v H1 p1 S1 r1 f1=>?_;subst hK;have rx:=r1.rd S1;refine⟨1,rfl,rfl,?_⟩;unfold wRev at p1
 split at p1
 · obtain⟨a,vs,ev,hq,r⟩:=rx.lst;exact⟨a,vs,ev,.inl ⟨hq,fun p hn=>k _ _ _ _ _ p1 (S1.same (Same.lay1 hn)) (CB (S1.fresh hn) hn r.rev) (f1.trans (Fr.of (Same.lay1 hn)))⟩⟩
 · obtain⟨a,vs,ev,hq,r⟩:=rx.tup;exact⟨a,vs,ev,.inr ⟨hq,fun p hn=>k _ _ _ _ _ p1 (S1.same (Same.lay1 hn)) (Bw (S1.fresh hn) hn r.rev) (f1.trans (Fr.of (Same.lay1 hn)))⟩⟩
 · exact p1.elim
end
end Pu
end
section
namespace L2
open PySem PySem.Spec PyProof.Rows
def Itd (a:Int)(n:Nat):It:=⟨fun i _=>i < n,fun i H x H'=>H'=H/\x=.int (a - i),fun i _=>n<=i⟩
theorem NG {P:B2}{w:World}{K:A5}{tg:Expr}(it:Addr)(lo:Int)(n:Nat):Turn P w K tg (Itd lo n) [it] it (fun i h=>IsRangeIter h it (lo + (i:Nat) * -1) ((n:Int) - (i:Nat)) (-1)) where
 mem:=by simp
 obj:=fun i h st b hb=>by
   have e:b=it:=by simpa using hb
   subst e
   exact⟨_,st,fun v z=>by
     have z':Bn _=Data.cell v:=z
     cases z'⟩
 keep:=fun i h h' st k=>k it (by simp) _ st
 item:=by
   intro X hP hw hK hc i pins s σ H E I hf st hg;subst hP hw hK;obtain⟨f0,f1,f2,f3,f4,f5⟩:=hf it (by simp);have W:=Walks.range (prog:=X.prog) (w:=X.w) (I.ok.hd hc) it lo (-1) n;refine W.item i s _ _ hg st fun v h' tk hv st' kk=>?_;obtain⟨t,rfl⟩:=hv;have I1:Inv X pins σ H { s with heap:=h',toks:=tk }:=I.turned (fun b o hb e=>kk b o (by simpa using hb) e) f0 f1 f3 f4 f5;refine⟨_,rfl,Ei (s:={ s with heap:=h',toks:=tk }) (n:="range_iterator") st' rfl rfl (by decide) ⟨.int (lo - i),H,I1,⟨t,?_⟩,⟨rfl,rfl⟩,st',fun b hb=>(hf b hb).1⟩⟩;have e:lo + (i:Int) * -1=lo - i:=by omega
   rw [e]
 done:=by
   intro X hP hw hK hc i pins s σ H E I hf st hg;subst hP hw hK;obtain⟨f0,f1,f2,f3,f4,f5⟩:=hf it (by simp);exact wpAny_pyNext_range_end (I.ok.hd hc) st (by have:n<=i:=hg;omega) fun h' eb=>⟨rfl,I.turned (t':=s.toks) (fun b o hb e=>eb b o hb e) f0 f1 f3 f4 f5⟩
 self:=fun _ _ _ _ _ st h=>FT st h
end L2
namespace Pu
open PySem PySem.Spec L2
section
variable {T:PotK}{ι:Type}{K:A5}{F:ι->Cx}{tg a b c:Expr}{pa pb pc:pE}{pos:Pos}
theorem NH {K:A5}{G:Gh}{H:Hp}(lo:Int)(m:Nat):ItR K G H (Itd lo m) ((D1 m).map fun(k:Nat)=>PV.int (lo - k)):=by
 intro G2 H2 hk hM hp hf;refine⟨fun i x e=>?_,fun i hi=>(show m<=i by simpa using hi)⟩;rw [D5] at e;cases e1:(D1 m)[i]? with
 | none=>rw [e1] at e;cases e
 | some j =>
   rw [e1] at e;cases e;obtain⟨hi,e2⟩:=E6.mp e1;rw [DJ] at e2;subst e2;refine⟨(show i < m by simpa using hi),fun v H3 y=>?_⟩;obtain⟨e3,y⟩:=y;subst e3 y;exact⟨Same.refl _,rfl⟩
end
end Pu
end
section
namespace L2
open PySem PySem.Spec PyProof.Rows
theorem Kd:∀{ys:List Str} {us:List Value},Vals (ys.map V.str) us->StrsAre us ys
 | [],us,r=>by rw [j3] at r;cases r;exact .nil
 | y :: ys, us, r => by
   rw [F3] at r;cases r with
   | cons r1 r2 =>
     obtain⟨t,e⟩:=r1;subst e;exact .cons y t (Kd r2)
end L2
end
section
namespace L2
open PySem PySem.Spec PyProof.Rows
section
variable {X:Cx}{pos:Pos}
theorem NI:seqSlot? (.type "list") (dunderI "add")=pure (some (.builtin "list.__iadd__")):=PySem.seqSlot_of F.slot_list_iadd.lookup (by decide +kernel)
theorem NJ:fillsInplaceSlot (.type "list") "add" (Operator.Add == .Add)=pure false:=by
 unfold fillsInplaceSlot;show(typeLookup (.type "list") (dunderI "add")>>=fun fi=>pure (fi.isSome && !isSeqSlot fi))=pure false;rw [F.slot_list_iadd.lookup];show pure (true && !isSeqSlot (some (.builtin "list.__iadd__")))=(pure false:Sem Bool);rw [show isSeqSlot (some (.builtin "list.__iadd__"))=true by decide +kernel]
 rfl
def Ke:R2:=fun x y H Q=>∃l b xs zs,x=.ref l/\y=.ref b/\H l=some (.lst xs)/\H b=some (.lst zs)/\xs.length + zs.length<=B0/\Q (.ref l) (upd H l (.lst (xs++zs)))
theorem NK:OpR X (inplaceOp .Add) Ke:=by
 intro pins s σ H x y v u Q I rx ry h;obtain⟨l,b,xs,zs,rfl,rfl,hH,hB,hz,q⟩:=h;cases rx;cases ry;obtain⟨z,its,n,r,hl,e⟩:=I.lstM hH;obtain⟨z2,its2,n2,r2,hl2,e2⟩:=I.lstM hB;have hsz:its.toArray.size + its2.toArray.size<=B0:=by rw [D8,D8];omega
 have hlong:¬(!its.toArray.isEmpty && Cj (its.toArray.size + its2.toArray.size))=true:=by
   rw [Jt hsz,DT];exact J3
 have ha:s.TypeIs (.ref l) "list":=⟨_,e,rfl⟩;have hb:s.TypeIs (.ref b) "list":=⟨_,e2,rfl⟩;unfold inplaceOp;refine J5 ?_;refine A0 (p8 ha (A0 (O7 NJ ?_)));show wpAny _ _ (if false=true then _ else _) _ _ s;rw [if_neg J3];refine A0 (binaryOp1_none (nm:="add") ha hb noFill_list_add ?_);refine A0 (O7 NI ?_);refine A0 (V9 ?_)
 refine call_meets F.slot_list_iadd ha F.entry_list_iadd (F.args_list_iadd_2 _ _)
   (AutoSeq1.list___iadd___list_list_0 l its.toArray n b its2.toArray n2 hlong (by rw [D8];omega) (by omega)) ⟨e,e2,?_⟩
 refine⟨.ref l,_,I.lset (its':=its++its2) hH e (by simp) (r.append r2) ?_,rfl,q⟩;rw [E2];omega
end
end L2
namespace Pu
open PySem PySem.Spec L2
section
variable {T:PotK}{np:Bool}{ι:Type}{K:A5}{F:ι->Cx}{e:Expr}{st:Stmt}{pe:pE}{pos:Pos}
theorem Kf {X:Cx}{i:Nat}{x:Str}{e:Expr}{op:Operator}{ti:TIp}{pos' pos:Pos}(hN:X.N.Nodup)(hi:X.N[i]?=some x)(hx:Loc X.env.scope x)(ho:OpR X (inplaceOp op) ti)(hf:X.fn x=true\/X.env.scope.names.lookup x=some .local:=by first | exact .inl rfl | exact .inr rfl | assumption)(te:TE)(h:EW X e te):SW X (.AugAssign (.Name x pos') op e pos) (tAug i te ti):=⟨ps_aug hN hi hx h.h ho hf⟩
def He (i:Nat)(pe:pE):pS:=fun D env n=>(∃xs,env[i]?=some (some (.ow .lst xs)))/\pe env n fun y env1 n1=>match env1[i]?,y with | some (some (.ow .lst xs)),.lst ys=>xs.length + ys.length<=1000000/\D.nx (env1.set i (some (.ow .lst (xs++ys)))) n1 | _,_=>False
theorem NL (i:Nat)(h:∀z te,EW (F z) e te->SW (F z) st (tAug i te Ke))(he:QE T K F e pe):QS T np K F st (He i pe):=by
 obtain⟨t,a1,a2⟩:=he;refine⟨_,fun z=>(h z _ ⟨a1 z⟩).h,fun C G σ H env n PD D hK hT hn S hp L=>?_⟩;obtain⟨⟨xs0,e0⟩,hp⟩:=hp;obtain⟨a,vs,ev,h1,h2,h3,h4,r⟩:=S.slots i _ e0;refine⟨.ref a,ev,?_⟩;refine a2 C G σ H env n _ _ hK hT S hp fun y env1 n1 v H1 q1 S1 r1 f1=>?_
 split at q1
 · rename_i xs ys ex;obtain⟨a',us,ev',g1,g2,g3,g4,r'⟩:=S1.slots i _ ex;rw [ev] at ev';cases ev';subst hK;obtain⟨b,ws,rfl,tb,rb⟩:=r1;obtain⟨S2,f2⟩:=S1.put ex ev (r'.append rb);refine⟨a,b,us,ws,rfl,rfl,g4,tb.2,by rw [<- r'.length,<- rb.length];exact mil q1.1,?_⟩
   have es:σ.set i (some (.ref a))=σ:=by
     obtain⟨hi,e⟩:=E6.mp ev;rw [<- e];exact List.set_getElem_self hi
   show D.nx (σ.set i (some (.ref a))) _;rw [es];exact L.nx _ _ _ _ _ q1.2 S2 (Ext.fr (f1.trans f2))
 · exact q1.elim
def qAug (i:Nat)(w:w2)(pe:pE):pS:=fun D env n=>match env[i]? with | some (some (.v x))=>(pe env n fun y env1 n1=>w x y fun z=>D.nx (env1.set i (some (.v z))) n1) | _=>False
theorem qs_aug (i:Nat){ti:TIp}{w:w2}(hw:W2 K ti w)(h:∀z te,EW (F z) e te->SW (F z) st (tAug i te ti))(he:QE T K F e pe):QS T np K F st (qAug i w pe):=by
 obtain⟨t,a1,a2⟩:=he;refine⟨_,fun z=>(h z _ ⟨a1 z⟩).h,fun C G σ H env n PD D hK hT hn S hp L=>?_⟩;unfold qAug at hp
 split at hp
 · rename_i x ex;obtain⟨v,ev,rv⟩:=S.slots i _ ex;refine⟨v,ev,?_⟩;refine a2 C G σ H env n _ _ hK hT S hp fun y env1 n1 u H1 q1 S1 r1 f1=>?_;subst hK;refine hw G H1 x y v u _ _ (fun p hp=>S1.fresh hp) (.inl (rv.fr f1)) (.inl r1) q1 fun z v' H' rz s rv'=>?_;exact L.nx _ _ _ _ _ rz ((S1.same s).set i rv') (Ext.fr (f1.trans (Fr.of s)))
 · exact hp.elim
end
end Pu
end
section
namespace L2
open PySem PySem.Spec PyProof.Rows
theorem NM {X:Cx}{scope:Scope}{cl:List (Str×Addr)}{N:List Str}{cs:List (Option Nat)}{elt tg iter:Expr}{ifs:List Expr}{pos spos py:Pos}{wi:TI}{g:TG}{tt:TT}{te:TE}{i:Nat}{y:Str}(hN:X.N.Nodup)(hiy:X.N[i]?=some y)(hy:Loc X.env.scope y)(S:v4 X scope cl N cs)(hc:X.calm=true)(hi:PI X tg iter wi)
   (hb:∀(fp:List Addr) (C:Addr) (s:Shared) (H:Hp),PG (E7 X scope cl N fp C s H) tg g/\PIf (E7 X scope cl N fp C s H) ifs tt/\PE (E7 X scope cl N fp C s H) elt te)
   (hsw:i4 (.ListComp elt [⟨tg,iter,ifs,0⟩] scope pos) (some (.Name y py)) spos.line X.env=pure true:=by rfl)
   (hs:∀x,V6 iter X.env x=pure x:=by intro _;rfl) (hff:X.fn y=true\/X.env.scope.names.lookup y=some .local:=by first | exact .inl rfl | exact .inr rfl | assumption) :
   PS X (.Assign [.Name y py] (.ListComp elt [⟨tg,iter,ifs,0⟩] scope pos) spos) (tAsg (tComp cs wi g tt te) (N5 i)):=by
 have bn:∀(M:Model) (A:Around) (v:Value) (Q:Unit->Shared->Prop) (E:Value->Shared->Prop) (s:Shared),wpAny M A (storeName X.env y v) Q E s->wpAny M A (assign (.Name y py) X.env v) Q E s:=fun M A v Q E s h=>wpAny_assign_Name h;intro pins s σ H DD I h;rw [exec_Assign_Name_used _ _ _ _ hsw];refine A0 (Z4 (A0 ?_));show wpAny _ _ (do let _ ← comprehension (.ListComp elt [⟨tg,iter,ifs,0⟩] scope pos) scope X.env _ (newList []) false (eval iter X.env) (some (assign (.Name y py) X.env))) _ _ s;refine A0 (F9 (Q:=fun _ s'=>SP X pins DD .next s') ?_ (fun _ s' hq=>A4 (A4 hq)) fun _ _ e=>e);refine FR (use:=some (assign (.Name y py) X.env)) rfl hs S.clos S.kind S.names (thn (hi pins s σ H _ I h) fun v s1 h1=>thn h1 fun itv s2 h2=>?_);obtain⟨it,fp,tn,J,H2,rfl,I2,T,st2,f2,q⟩:=h2
 have ho:∀b∈fp,∃o,s2.heap.get? b=some o:=fun b hb=>by
   obtain⟨o,e,_⟩:=T.obj 0 _ st2 b hb;exact⟨o,e⟩
 refine J8 (wpAny_newFunctionEnv S.nocell (by intro y hy;simp at hy) (fun h₁ hns₁ hsb₁=>?_) S.kind);dsimp only at hns₁ hsb₁ ⊢;have hC:(s2.heap.push { cls:=.type "list",dict:=none,data:=.seq ([]:List Value).toArray }).objs.size=s2.heap.objs.size + 1:=by rw [W4]
 generalize hH2:s2.heap.push { cls:=.type "list",dict:=none,data:=.seq ([]:List Value).toArray }=hp2 at hns₁ hsb₁ hC ⊢;have old:∀b o,s2.heap.get? b=some o->h₁.get? b=some o:=fun b o e=>hsb₁.extBut b o (by rw [hC];exact D0 (W7 (B9 e))) (B6 _ (hH2▸B6 _ e));have hD:h₁.get? s2.heap.objs.size=some { cls:=.type "list",data:=.seq ([]:List Value).toArray }:=hsb₁.extBut _ _ (by rw [hC];exact D0 (Ai _)) (B6 _ (hH2▸E1 _ rfl));rw [hC] at hns₁ ⊢;obtain⟨W,⟨m0,w0⟩,turn⟩:=q s2.heap.objs.size I2.fresh;have Ic:=GJ S (tk:=s2.toks + ([]:List (Str×Value)).length) I2 f2 ho old hns₁ hD;have nstk:∀b,b≠X.env.locals->b∉X.fs->b∉frs X.stack:=fun b h1 h2 hb=>(B7.mp (I2.stkSub b hb)).elim h1 h2
 have stat:∀{H':Hp},(∀b∈fp,H' b=none)->∀b∈fp,FpOk (E7 X scope cl N fp (s2.heap.objs.size + 1) s2 H2) pins H' b:=fun hn b hb=>by
   obtain⟨o,e⟩:=ho b hb;exact⟨hn b hb,D0 (W7 (B9 e)),nstk b (f2 b hb).2.1 (f2 b hb).2.2.1,.inl hb,fun x c ec=>(f2 b hb).2.2.2.2.1 x c (S.sub x c ec),(f2 b hb).2.2.2.2.2⟩
 obtain⟨hg,hf,he⟩:=hb fp (s2.heap.objs.size + 1) s2 H2;have st1:tn 0 h₁:=T.keep _ _ _ st2 fun b hb o e=>old b o e
 have fr1:∀b∈fp,upd H2 s2.heap.objs.size (.lst []) b=none:=fun b hb=>by
   obtain⟨o,e⟩:=ho b hb;rw [C7 (D0 (B9 e))];exact(f2 b hb).1
 have loop:∀s₃:Shared,s₃={ s2 with heap:=h₁,toks:=s2.toks + ([]:List (Str×Value)).length }->
     K3 (model X.prog X.w) X.A (.compLoop (.ListComp elt [⟨tg,iter,ifs,0⟩] scope pos) 0 (.ref it) (.ref s2.heap.objs.size) (compEnvC scope cl (s2.heap.objs.size + 1) X.env))
       (compPost (model X.prog X.w) X.A X.xe (some (assign (.Name y py) X.env)) (fun _ s'=>SP X pins DD .next s') (.ref s2.heap.objs.size) (s2.heap.objs.size + 1)) s₃:=by
   rintro s₃ rfl;refine Jw _ (GM (Y:=E7 X scope cl N fp (s2.heap.objs.size + 1) s2 H2) T hc stat hg hf he (fun s4 σ3 H3 I4 qn=>?_) turn) m0 ⟨0,_,_,Ic,st1,fr1,w0⟩;obtain⟨m4,hn4,_⟩:=I4.loc;have I5:Inv X pins σ H3 s4:=Inv.uncomp (h':=s4.heap) I2 f2 I4 fun b hb=>rfl;have oldne:∀b o,s2.heap.get? b=some o->b≠s2.heap.objs.size + 1:=fun b o e=>D0 (W7 (B9 e));have locne:X.env.locals≠s2.heap.objs.size + 1:=D0 (W7 I2.lt)
   have cellne:∀x c,X.env.cells.lookup x=some c->c≠s2.heap.objs.size + 1:=fun x c e=>by
     obtain⟨v,o,h1,_⟩:=I2.cell x c e;exact oldne c o h1
   refine bn _ _ _ _ _ _ (IX I5 hN hiy hy (v:=.ref s2.heap.objs.size) rfl (fun s6 I6 ⟨a6,sb6,ha6⟩=>?_) hff)
   have ane:s2.heap.objs.size + 1≠a6:=by
     rcases ha6 with rfl | ha6
     · exact Ne.symm locne
     · exact Ne.symm (cellne _ _ ha6)
   refine⟨m4,hn4.sameBut sb6 ane,fun h' hs'=>⟨_,H3,?_,qn⟩⟩;have hs7:∀b,b≠s2.heap.objs.size + 1->h'.get? b=s6.heap.get? b:=fun b hb=>hs'.2 b hb;have U0:Un (frs X.stack) [s2.heap.objs.size + 1] H3 H3 s6.heap s6.heap:=Un.refl
   have trC:∀b u,H3 b=some u->b≠s2.heap.objs.size + 1:=fun b u e z=>by
     have q:H3 (s2.heap.objs.size + 1)=none:=I4.free;rw [z,q] at e;cases e
   obtain⟨hh6,g6,d6,t6,os6⟩:=s6;refine I6.call (h':=h') (g':=g6) (d':=d6) (t':=t6) (ch:=[s2.heap.objs.size + 1]) ⟨fun b o e n hb hx=>?_,fun b o e n hb hx=>?_,U0.free,fun b o e hx=>?_,U0.tups,U0.frzs,U0.tbls,U0.sys⟩ (fun b u e=>?_) I6.bare fun b hb=>?_
   · have hb':b≠s2.heap.objs.size + 1:=fun z=>hx (by rw [z];exact F2.mpr rfl);rw [hs7 b hb'];exact U0.keep b o e n hb hx
   · have hb':b≠s2.heap.objs.size + 1:=fun z=>hx (by rw [z];exact F2.mpr rfl);rw [hs7 b hb'];exact U0.slot b o e n hb hx
   · have hb':b≠s2.heap.objs.size + 1:=fun z=>hx (by rw [z];exact F2.mpr rfl);rw [hs7 b hb'];exact U0.there b o e hx
   · refine(I6.hok b u e).stay (fun c v hc q=>?_) (fun _ q=>q) fun _ _ q=>q
     have ne:c≠s2.heap.objs.size + 1:=by
       rcases hc with z | z
       · rw [z];exact trC b u e
       · exact trC c _ z
     rw [hs7 c ne];exact q
   · rw [F2.mp hb];refine⟨.inr (Nat.le_succ_of_le I2.sz),Ne.symm locne,cellne,fun p hp=>?_⟩;exact oldne _ _ (I2.pin p hp).1
 exact FU (loop _ rfl) (T.self _ 0 _ _ _ st1 (loop _ rfl))
end L2
namespace Pu
open PySem PySem.Spec L2
def SwOk (X:Cx)(e:Expr)(t:TE):Prop:=∀(i:Nat) (y:Str) (py spos:Pos),X.N.Nodup->X.N[i]?=some y->Loc X.env.scope y->i4 e (some (.Name y py)) spos.line X.env=pure true->(X.fn y=true\/X.env.scope.names.lookup y=some .local)->PS X (.Assign [.Name y py] e spos) (tAsg t (N5 i))
def QNC {ι:Type}(T:PotK)(K:A5)(F:ι->Cx)(e:Expr)(pn:pA):Prop:=∃t,(∀z,PE (F z) e t)/\(∀z,SwOk (F z) e t)/\NOk K T t pn
section
variable {T:PotK}{np:Bool}{ι:Type}{K:A5}{F:ι->Cx}{e:Expr}{pl:pA}{pg:pG}{pos:Pos}
theorem EH {scope:Scope}{cl:ι->List (Str×Addr)}{N:List Str}{cs:List (Option Nat)}{elt tg iter:Expr}{ifs:List Expr}{pi:pA}{ptt:pT}{pte:pE}(S:∀z,v4 (F z) scope (cl z) N cs)(hc:∀z,(F z).calm=true)(hi:QI T K F tg iter pi)
   (hg:QG K (fun y:ι×List Addr×Addr×Shared×Hp=>E7 (F y.1) scope (cl y.1) N y.2.1 y.2.2.1 y.2.2.2.1 y.2.2.2.2) tg pg) (ht:QIf T K (fun y:ι×List Addr×Addr×Shared×Hp=>E7 (F y.1) scope (cl y.1) N y.2.1 y.2.2.1 y.2.2.2.1 y.2.2.2.2) ifs ptt)
   (he:QE T K (fun y:ι×List Addr×Addr×Shared×Hp=>E7 (F y.1) scope (cl y.1) N y.2.1 y.2.2.1 y.2.2.2.1 y.2.2.2.2) elt pte)
   (hs:∀z x,V6 iter (F z).env x=pure x:=by intro _ _;rfl):QNC T K F (.ListComp elt [⟨tg,iter,ifs,0⟩] scope pos) (O5 cs pi pg ptt pte):=by
 obtain⟨wi,i1,i2⟩:=hi;obtain⟨g,hg0,hg⟩:=hg;obtain⟨tt,ht0,ht⟩:=ht;obtain⟨te,he0,he⟩:=he;refine⟨_,fun z=>Jx (S z) (hc z) (i1 z) (fun fp C s H=>⟨hg0 (z,fp,C,s,H),ht0 (z,fp,C,s,H),he0 (z,fp,C,s,H)⟩) (hs z),fun z i y py spos hN hi hy hsw hf=>NM hN hi hy (S z) (hc z) (i1 z) (fun fp C s H=>⟨hg0 (z,fp,C,s,H),ht0 (z,fp,C,s,H),he0 (z,fp,C,s,H)⟩) hsw (hs z) hf,fun C G σ H env n R Q hK hT S hp k=>?_⟩;refine i2 C G σ H env n _ _ hK hT S hp fun xs env1 n1 J H1 p1 S1 f1 hJ=>?_;intro D hD;have hDM:=S1.fresh hD;refine JR (G:=G) hg ht he hJ p1.1 hD (hT▸hK▸GU S1 cs) p1.2 fun ys n2 us H' rr hpots hk eD ry=>?_
 -- the heap without D
 have nD:∀b o,H1 b=some o->b≠D:=fun b o e z=>by rw [z,hD] at e;cases e
 have hD0:C.H0 D=none:=by
   cases z:C.H0 D with
   | none=>rfl
   | some o =>
     by_cases hp:D∈C.pots0
     · exact absurd (S1.sup D (S1.p0.1 D hp)) hDM
     · have:=S1.frame D o hp z;rw [hD] at this;cases this
 have hk2:∀b o,b∉G.pots->H1 b=some o->cutH H' D b=some o:=fun b o hb e=>by rw [U7 (nD b o e)];exact hk b o hb e
 have nc:∀b,b∉D::G.M->b≠D:=fun b hb z=>hb (by rw [z];exact B8);have np:∀p∈G.pots,p≠D:=fun p hp z=>hDM (z▸(S1.pots p hp).1)
 have Sb:SR C G σ (cutH H' D) env1 n2:=S1.call hk2 fun p hp=>by
   subst hT;have h2:=C.T.keep (hpots p hp) (H':=cutH H' D) (U7 (np p hp)) fun b o hb e=>by rw [U7 (nc b hb)];exact e
   exact C.T.more h2 fun a ha=>.inl (B5 _ ha)
 have:=k ys env1 n2 D us (cutH H' D) rr Sb (f1.trans fun b o hb e=>hk2 b o (fun z=>hb (S1.pots b z).1) e) (by unfold cutH;rw [if_pos rfl]) ?_
 · rw [GV eD] at this;exact this
 · exact Reps.mono (G:=⟨D::G.M,G.pots⟩) (fun b o hb e=>by rw [U7 (nc b hb)];exact e) (fun a ha=>.inl (B5 _ ha)) (fun _ _ e=>e) _ _ ry
theorem NN (i:Nat){y:Str}{py spos:Pos}(h:QNC T K F e pl)(hN:∀z,(F z).N.Nodup)(hi:∀z,(F z).N[i]?=some y)(hy:∀z,Loc (F z).env.scope y)(hsw:∀z,i4 e (some (.Name y py)) spos.line (F z).env=pure true:=by intro _;rfl)(hf:∀z,(F z).fn y=true\/(F z).env.scope.names.lookup y=some .local:=by intro _;first | exact .inl rfl | exact .inr rfl):QS T np K F (.Assign [.Name y py] e spos) (qOwn i pl):=by
 obtain⟨t,a1,a3,a2⟩:=h;refine⟨_,fun z=>a3 z i y py spos (hN z) (hi z) (hy z) (hsw z) (hf z),fun C G σ H env n PD D hK hT hn S hp L=>?_⟩;refine a2 C G σ H env n _ _ hK hT S hp fun xs env1 n1 a vs Hb q1 S1 f1 hn1 r1=>?_;exact L.nx _ _ _ _ _ q1 (S1.own i hn1 (hK▸r1)) ((Ext.fr f1).trans (EA hn1))
theorem Hf (i:Nat){y:Str}{py spos:Pos}(h:QNC T K F e pl)(hN:∀z,(F z).N.Nodup)(hi:∀z,(F z).N[i]?=some y)(hy:∀z,Loc (F z).env.scope y)(hsw:∀z,i4 e (some (.Name y py)) spos.line (F z).env=pure true:=by intro _;rfl)(hf:∀z,(F z).fn y=true\/(F z).env.scope.names.lookup y=some .local:=by intro _;first | exact .inl rfl | exact .inr rfl):QS T np K F (.Assign [.Name y py] e spos) (qSet i (qL pl)):=by
 obtain⟨t,a1,a3,a2⟩:=h
 have he:EOk K T t (qL pl):=fun C G σ H env n R Q hK hT S hp k=>by
   refine a2 C G σ H env n _ _ hK hT S hp fun xs env1 n1 a vs Hb p1 S1 f1 hn r1=>?_;exact k _ _ _ _ _ p1 (S1.same (Same.lay1 hn)) (CB (S1.fresh hn) hn r1) (f1.trans (Fr.of (Same.lay1 hn)))
 refine⟨_,fun z=>a3 z i y py spos (hN z) (hi z) (hy z) (hsw z) (hf z),fun C G σ H env n PD D hK hT hn S hp L=>?_⟩;refine he C G σ H env n _ _ hK hT S hp fun x env1 n1 v H1 q1 S1 r1 f1=>?_;exact L.nx _ _ _ _ _ q1 (S1.set i (hK▸r1)) (Ext.fr f1)
end
end Pu
end
section
namespace Pu
open PySem PySem.Spec L2
def shK:Key->Prop
 | .inl i=>i.natAbs < 10 ^ 60
 | .inr x=>∀c∈x.cps.toList,c < 16 ^ 8
def CQ:Key->Nat
 | .inl _=>61
 | .inr x=>10 * x.length + 2
mutual
def shw:PV->Prop
 | .non=>True
 | .bl _=>True
 | .int i=>i.natAbs < 10 ^ 60
 | .str x=>∀c∈x.cps.toList,c < 16 ^ 8
 | .tup xs=>shws xs
 | .lst xs=>shws xs
 | .dct ks xs=>(∀k∈ks,shK k)/\shws xs
 | _=>False
def shws:List PV->Prop
 | []=>True
 | x::xs=>shw x/\shws xs
end
mutual
def cost:PV->Nat
 | .non=>4
 | .bl _=>5
 | .int _=>61
 | .str x=>10 * x.length + 2
 | .tup xs=>e6 xs + 3
 | .lst xs=>e6 xs + 3
 | .dct ks xs=>(ks.map fun k=>CQ k + 4).sum + e6 xs + 3
 | _=>0
def e6:List PV->Nat
 | []=>0
 | x::xs=>cost x + 2 + e6 xs
end
mutual
def dep:PV->Nat
 | .tup xs=>deps xs + 1
 | .lst xs=>deps xs + 1
 | .dct _ xs=>deps xs + 1
 | _=>0
def deps:List PV->Nat
 | []=>0
 | x::xs=>max (dep x) (deps xs)
end
theorem Kg {i:Int}(h:i.natAbs < 10 ^ 60):(A6 (toString i)).length<=61:=by
 have e:=int_text_length_le10 (k:=60) (by decide) h;rw [ofString_length];omega
theorem Kh {i:Int}(h:i.natAbs < 10 ^ 60):i.natAbs.log2 < 1920:=by
 by_cases h0:i.natAbs=0
 · rw [h0];decide
 · exact(Nat.log2_lt h0).mpr (j7 h (by decide +kernel))
theorem key_ok {k:Key}(h:shK k):(keyD k).showable=true/\(keyD k).depth=0/\(keyD k).shown.length<=CQ k:=by
 cases k with
 | inl i=>exact⟨by simpa [keyD,c7] using Kh h,by simp [keyD,j8],by simpa [keyD,j9,CQ] using Kg h⟩
 | inr x=>exact⟨by simp [keyD,c7],by simp [keyD,j8],by simpa [keyD,j9,CQ] using StrLaws.reprText_len x h⟩
theorem kv_ok:∀(ks:List Key) (ds:List PyData),(∀k∈ks,shK k)->Be ds=true->DZ ((ks.map keyD).zip ds)=true/\D_ ((ks.map keyD).zip ds)<=Ci ds/\((Bf ((ks.map keyD).zip ds)).map (·.length)).sum + 2 * (Bf ((ks.map keyD).zip ds)).length<=(ks.map fun k=>CQ k + 4).sum + ((Aq ds).map (·.length)).sum + 2 * ds.length
 | [],ds,_,_=>by simp [DZ,D_,Bf]
 | k::ks,[],_,_=>by simp [DZ,D_,Bf]
 | k :: ks, d :: ds, hk, hd => by
   have hd':d.showable=true/\Be ds=true:=by simpa [Be] using hd
   obtain⟨h1,h2,h3⟩:=kv_ok ks ds (fun x hx=>hk x (B5 _ hx)) hd'.2;obtain⟨g1,g2,g3⟩:=key_ok (hk k B8);refine⟨?_,?_,?_⟩
   · simp [DZ,g1,hd'.1,h1]
   · simp only [F3,Af,D_,Ci,g2];omega
   · simp only [F3,Af,Bf,Aq,AV,D3];rw [strLen_append,strLen_append];have:(A6 ": ").length=2:=rfl;omega
theorem NO (ps:List Str):(dictText ps).length<=(ps.map (·.length)).sum + 2 * ps.length + 3:=by
 have h:(Str.join ", " ps).length<=(ps.map (·.length)).sum + ps.length * 2:=StrLaws.join_length_le ", " ps
 have e:(dictText ps).length=1 + (Str.join ", " ps).length + 1:=by
   unfold dictText;rw [strLen_append,strLen_append];rfl
 omega
mutual
theorem Ki:∀(x:PV),shw x->∃d,dat x=some d/\d.showable=true/\d.depth<=dep x/\d.shown.length<=cost x
 | .non,_=>⟨_,rfl,by simp [c7],by simp [j8],by simp only [j9,cost];decide⟩
 | .bl b,_=>⟨_,rfl,by simp [c7],by simp [j8],by simp only [j9,cost];cases b <;> decide⟩
 | .int i,h=>⟨_,rfl,by simpa [c7] using Kh h,by simp [j8],by simpa [j9,cost] using Kg h⟩
 | .str x,h=>⟨_,rfl,by simp [c7],by simp [j8],by simpa [j9,cost] using StrLaws.reprText_len x h⟩
 | .tup xs, h => by
   obtain⟨ds,e,h1,h2,h3,h4⟩:=EI xs h;refine⟨.tuple ds,by rw [dat,e],by simpa [c7] using h1,by simp only [j8,dep];omega,?_⟩;have:=tupleText_len_le (Aq ds);have e2:=PyData.shownAll_length ds;simp only [j9,cost];omega
 | .lst xs, h => by
   obtain⟨ds,e,h1,h2,h3,h4⟩:=EI xs h;refine⟨.list ds,by rw [dat,e],by simpa [c7] using h1,by simp only [j8,dep];omega,?_⟩;have:=listText_len_le (Aq ds);have e2:=PyData.shownAll_length ds;simp only [j9,cost];omega
 | .dct ks xs, h => by
   have h':(∀k∈ks,shK k)/\shws xs:=h;obtain⟨ds,e,h1,h2,h3,h4⟩:=EI xs h'.2;obtain⟨g1,g2,g3⟩:=kv_ok ks ds h'.1 h1;refine⟨.dict ((ks.map keyD).zip ds),by rw [dat,e],by simpa [c7] using g1,by simp only [j8,dep];omega,?_⟩;have:=NO (Bf ((ks.map keyD).zip ds));simp only [j9,cost];omega
 | .ty _,h=>h.elim
 | .pot _,h=>h.elim
 | .scr _,h=>h.elim
 | .fdt _ _,h=>h.elim
theorem EI:∀(xs:List PV),shws xs->∃ds,dats xs=some ds/\Be ds=true/\Ci ds<=deps xs/\ds.length=xs.length/\((Aq ds).map (·.length)).sum + 2 * ds.length<=e6 xs
 | [],_=>⟨[],rfl,by simp [Be],by simp [Ci],rfl,by simp [Aq,e6]⟩
 | x :: xs, h => by
   have h':shw x/\shws xs:=h;obtain⟨d,e,a1,a2,a3⟩:=Ki x h'.1;obtain⟨ds,e2,b1,b2,b3,b4⟩:=EI xs h'.2;refine⟨d::ds,by rw [dats,e,e2],by simp [Be,a1,b1],by simp only [Ci,deps];omega,by simp [b3],?_⟩;simp only [Aq,e6,F3,AV,D3];omega
end
def Hg (x:PV):Str:=match dat x with | some d=>d.shown | none=>A6 ""
theorem U9 {x:PV}{R:PV->Prop}(h:shw x)(h1:dep x<=40)(h2:cost x<=10000000)(q:R (.str (Hg x))):d9 x R:=by
 obtain⟨d,e,a1,a2,a3⟩:=Ki x h;unfold d9 Hg at *;rw [e] at q ⊢;exact⟨a1,by omega,by unfold B0;omega,q⟩
theorem NP:∀(xs:List PV),(∀x∈xs,shw x)->shws xs:=by
 intro xq
 induction xq with
 | nil =>
   intro _;exact trivial
 | cons x xs ih =>
   intro h;exact⟨h x B8,ih fun y hy=>h y (B5 _ hy)⟩
theorem NQ (k:Nat):∀(xs:List PV),(∀x∈xs,dep x<=k)->deps xs<=k:=by
 intro xq
 induction xq with
 | nil =>
   intro _;exact G4 _
 | cons x xs ih =>
   intro h;have:=h x B8;have:=ih fun y hy=>h y (B5 _ hy);simp only [deps];omega
theorem NR (k:Nat):∀(xs:List PV),(∀x∈xs,cost x<=k)->e6 xs<=(k + 2) * xs.length:=by
 intro xq
 induction xq with
 | nil =>
   intro _;exact G4 _
 | cons x xs ih =>
   intro h;have h1:=h x B8;have h2:=ih fun y hy=>h y (B5 _ hy);simp only [e6,D3,Nat.mul_succ];omega
end Pu
end
section
namespace L2
open PySem PySem.Spec PyProof.Rows
def met (val:Nat->Key):Nat->List Key
 | 0=>[]
 | i + 1=>if(met val i).any (fun y=>decide (y=val i)) then met val i else met val i++[val i]
section
variable {prog:B2}{w:World}{A:Around}{E:Value->Shared->Prop}{s:Shared}
theorem NT:isSubtype (.type "tuple") (.type "set")=pure false:=by rw [p5] <;> kernel_rfl
theorem NU:isSubtype (.type "tuple") (.type "frozenset")=pure false:=by rw [p5] <;> kernel_rfl
theorem NV:isSubtype (.type "list") (.type "set")=pure false:=by rw [p5] <;> kernel_rfl
theorem NW:isSubtype (.type "list") (.type "frozenset")=pure false:=by rw [p5] <;> kernel_rfl
theorem NX (x:Value){Q₁:Value->Shared->Prop}
   (h:∀led:Bool,led=(!(w.params.followText "set-order"))->Q₁ (.ref s.heap.objs.size) { s with heap:=s.heap.push { cls:=.type "set",dict:=none,data:=.set #[] 0 (.fresh 0 0 led) } }) :
   K3 (model prog w) A (.call (.builtin "set.__new__") ⟨[.type "set",x],[]⟩) (wants Q₁ E) s:=by
 refine DB (show wpAny (model prog w) A.in1 (checkBuiltinCall "set.__new__" ⟨[.type "set",x],[]⟩>>=fun _=>again (.builtin "set.__new__" ⟨[.type "set",x],[]⟩)) _ _ s from ?_);refine A0 (O7 (F.newCall_set_1 x) (A4 ⟨Z5 F.plain_set_new _,X4 F.entry_set_new ?_⟩));rw [c6 F.plain_set_new _];unfold M1.«set.__new__» Builtin.Frozenset.newClass;have ss:=sub_set_self;obtain⟨hp,gs,dr,tk,sy⟩:=s;dsimp only
 wp_walk
 refine Dv (A4 ?_);dsimp only;unfold newObj;refine A0 (wpAny_alloc (A4 (A4 (h _ ?_))))
 first | rfl | simp
abbrev soN (led:Bool):Obj:={ cls:=.type "set",dict:=none,data:=.set #[] 0 (.fresh 0 0 led) }
theorem Kj {a:Addr}{its:Array Value}{Z:Heap->Prop}{Q:Value->Shared->Prop}(hd:A.handled=none)(ht:s.heap.IsList a its\/s.heap.IsTuple a its)
   (lp:∀(I:Addr) (St:Nat->Shared->Prop) (fp:List Addr) (G:Array GenState->Array GenState->Prop) (s1:Shared) (R:Result->Shared->Prop) (led:Bool),led=(!(w.params.followText "set-order"))->s.heap.objs.size < I->
     WalksS prog w A.in1.in1.in1 I fp [I] G its.size (fun i v=>its[i]?=some v) St->s.heap.objs.size∉fp->St 0 s1->s1.heap.get? s.heap.objs.size=some (soN led)->(∀b o,s.heap.get? b=some o->s1.heap.get? b=some o)->
     (∀s',Moved [s.heap.objs.size,I] G s1 s'->Z s'.heap->R (.ok (.ret .none)) s')->K3 (model prog w) A.in1.in1 (.builtin "set.update.loop" ⟨[.ref s.heap.objs.size,.ref I],[]⟩) R s1)
   (fin:∀(h':Heap) (tk:Nat),Z h'->(∀b o,b < s.heap.objs.size->s.heap.get? b=some o->h'.get? b=some o)->Q (.ref s.heap.objs.size) { s with heap:=h',toks:=tk }):wpAny (model prog w) A (call (.type "set") [.ref a]) Q E s:=by
 obtain⟨c,tl,mr⟩:=PySem.F.called_set.mro;have md:=PySem.F.called_set.made;have sb:=PySem.F.called_set.sub;refine wpAny_call (DB (show wpAny (model prog w) _ (callAny (.type "set") _) _ _ s from ?_));refine A4 ⟨Code.quiet_builtin _ (by decide +kernel),X4 PySem.F.entry_type_call ?_⟩;rw [Around.under_plain (weight_type_call_type "set" [.ref a] []) rfl];have x1:=PySem.F.called_set.notType;have x2:=PySem.F.called_set.canCreate;have x3:=PySem.F.typeCall_set_1 (.ref a)
 repeat (any_goals (first | wp_step | assumption))
 refine p7 (NX (.ref a) (E:=E) (Q₁:=fun ob s₁=>∃led:Bool,led=(!(w.params.followText "set-order"))/\ob=.ref s.heap.objs.size/\s₁={ s with heap:=s.heap.push (soN led) }) fun led hl=>⟨led,hl,rfl,rfl⟩) fun r s₁ hr=>?_;cases r with
 | error e=>exact hr
 | ok fl =>
   cases fl with
   | ret ob =>
     obtain⟨led,hled,rfl,rfl⟩:=hr;have g0:(s.heap.push (soN led)).get? s.heap.objs.size=some (soN led):=E1 _ rfl;have ty:Shared.TypeIs { s with heap:=s.heap.push (soN led) } (.ref s.heap.objs.size) "set":=⟨_,g0,rfl⟩;have y1:=PySem.F.called_set.init.lookup;have y2:=PySem.F.called_set.init.bind (.ref s.heap.objs.size)
     repeat (any_goals (first | wp_step | assumption))
     refine p7 (codeAny_call_builtin (R:=wants (fun r s₂=>r=.none/\∃h' tk,s₂={ s with heap:=h',toks:=tk }/\Z h'/\
         (∀b o,b < s.heap.objs.size->s.heap.get? b=some o->h'.get? b=some o)) E) PySem.F.called_set.init.plain PySem.F.entry_set_init (PySem.check_set_init_1 ty ?_)) fun r₂ s₂ hr₂=>?_
     · clear fin;have h3:A.in1.in1.in1.handled=none:=by simp [hd]
       unfold M1.«set.__init__» noKeywords Builtin.Frozenset.updateFrom;generalize hP:pyIter=PI;rcases ht with⟨⟨oc,od,odt,os⟩,ho,hc,nl,hdl⟩ | ⟨⟨oc,od,odt,os⟩,ho,hc,nl,hdl⟩ <;>
       · cases hc;cases hdl;have ho':=B6 (soN led) ho;have z1:=NV;have z2:=NW;have z3:(O1 "list" == O1 "dict")=false:=by decide
         have z4:=NT;have z5:=NU;have z6:(O1 "tuple" == O1 "dict")=false:=by decide
         wp_walk
         subst hP;have la:a < s.heap.objs.size:=B9 ho;have n1:a≠(s.heap.push (soN led)).objs.size:=by rw [W4];exact D0 (W7 la)
         have lI:s.heap.objs.size < (s.heap.push (soN led)).objs.size:=by rw [W4];exact Ai _
         have n2:s.heap.objs.size∉[(s.heap.push (soN led)).objs.size,a]:=fun z=>by
           rcases B7.mp z with z | z
           · exact D0 lI z
           · exact u4 la (F2.mp z)
         have en:∀{s1 s':Shared} {G},Moved [s.heap.objs.size,(s.heap.push (soN led)).objs.size] G s1 s'->Z s'.heap->s1.gens=s.gens->s1.drawn=s.drawn->s1.os=s.os->(∀b o,s.heap.get? b=some o->s1.heap.get? b=some o)->(∀x y,G x y->y=x)->∃h' tk,s'={ s with heap:=h',toks:=tk }/\Z h'/\(∀b o,b < s.heap.objs.size->s.heap.get? b=some o->h'.get? b=some o):=by
           intro s1 s' G mv zz e1 e2 e3 kp hG;obtain⟨h',g',d',tk',os'⟩:=s';obtain rfl:g'=s.gens:=(hG _ _ mv.gens).trans e1;obtain rfl:d'=s.drawn:=mv.drawn.trans e2;obtain rfl:os'=s.os:=mv.os.trans e3;refine⟨h',tk',rfl,zz,fun b o hb e=>mv.heap b o (fun z=>?_) (kp _ _ e)⟩;rcases B7.mp z with z | z
           · exact D0 hb z
           · exact D0 (j7 hb lI) (F2.mp z)
         first
           | (refine BS ⟨_,ho',rfl,nl,rfl⟩ (A0 (wpAny_runValue ?_))
              refine lp _ _ _ _ _ _ led hled lI ((Walks.list h3 _ a n1 its).toS) n2 ⟨⟨_,E1 _ rfl,rfl,rfl⟩,⟨_,B6 _ ho',rfl,nl,rfl⟩⟩ (B6 _ g0) (fun b o e=>B6 _ (B6 _ e)) fun s' mv zz=>A4 (A4 ⟨rfl,?_⟩))
           | (refine wpAny_pyIter_tuple ⟨_,ho',rfl,nl,rfl⟩ (A0 (wpAny_runValue ?_))
              refine lp _ _ _ _ _ _ led hled lI ((Walks.tuple h3 _ a n1 its).toS) n2 ⟨⟨_,E1 _ rfl,rfl,rfl⟩,⟨_,B6 _ ho',rfl,nl,rfl⟩⟩ (B6 _ g0) (fun b o e=>B6 _ (B6 _ e)) fun s' mv zz=>A4 (A4 ⟨rfl,?_⟩))
         exact en mv zz rfl rfl rfl (fun b o e=>B6 _ (B6 _ e)) fun _ _ e=>e
     · cases r₂ with
       | error e=>exact hr₂
       | ok fl₂ =>
         cases fl₂ with
         | ret r =>
           obtain⟨rfl,h',tk,rfl,so',kp⟩:=hr₂
           repeat (any_goals (first | wp_step | assumption))
           exact fin _ _ so' kp
         | _=>exact hr₂.elim
   | _=>exact hr.elim
end
end L2
end
section
namespace L2
open PySem PySem.Spec PyProof.Rows
theorem NY {ys:List Str}{us:List Value}(r:Vals (ys.map V.str) us){i:Nat}{u:Value}(h:us[i]?=some u):∃t,u=.str (ys.getD i (A6 "")) t:=by
 obtain⟨hi,e⟩:=E6.mp h;obtain⟨x,ex,rx⟩:=r.getE hi;rw [D5] at ex;cases ey:ys[i]? with
 | none=>rw [ey] at ex;cases ex
 | some y =>
   rw [ey] at ex;cases ex;obtain⟨t,et⟩:=rx;refine⟨t,?_⟩;rw [<- e,et,List.getD,ey]
   rfl
end L2
end
section
namespace Pu
open PySem PySem.Spec L2
theorem Kk (x:Str)(l u:Option Int):U4 x l u=Eg x l u:=rfl
theorem NZ (x:Str){p:Nat}(h:p<=x.length):(U4 x none (some (p:Int))).cps.toList=x.cps.toList.take p:=by
 rw [Kk]
 have e:Eg x none (some (p:Int))=Eg x (some ((0:Nat):Int)) (some (p:Int)):=by
   unfold Eg;rw [StrLaws.sliceIdx_none_lo];rfl
 rw [e,StrLaws.sliceText_nat x (G4 _) h];simp
def Ltr (c:Nat):Prop:=97<=c/\c<=122
def Z0 (z:Str):Prop:=1<=z.cps.toList.length/\z.cps.toList.length<=8/\∀c∈z.cps.toList,Ltr c
abbrev LETS:Str:=A6 "abcdefghijklmnopqrstuvwxyz"
theorem N_:LETS.cps.toList=(D1 26).map (97 + ·):=by decide +kernel
theorem Kl:LETS.length=26:=by decide +kernel
theorem Km {d:Int}(d0:0<=d)(d1:d < 26):atI LETS.cps.toList d=some (97 + d.toNat):=by
 obtain⟨x,e1,e2⟩:=JB (xs:=LETS.cps.toList) d0 (by rw [<- Aw,Kl];exact d1);rw [e2,<- e1,N_,D5,Gb (by omega)]
 rfl
theorem Oa {α:Type}{zs:List α}(h:zs.Nodup){z:α}(hz:z∉zs)(j:Nat):(zs.set j z).Nodup:=by
 refine X7.mpr fun a b ha hb hab=>?_;rw [J6] at ha hb;rw [List.getElem_set,List.getElem_set]
 split
 · split
   · omega
   · intro e;exact hz (e▸q8 hb)
 · split
   · intro e;exact hz (e▸q8 ha)
   · exact X7.mp h a b ha hb hab
end Pu
end
section
namespace L2
open PySem PySem.Spec PyProof.Rows
variable {items:Array Value}
def ItB (b:Bool)(h:Heap)(it l:Addr)(i:Nat):Prop:=match b with | true=>h.IsListIter it l i | false=>h.IsTupleIter it l i
def SeB (b:Bool)(h:Heap)(l:Addr)(items:Array Value):Prop:=match b with | true=>h.IsList l items | false=>h.IsTuple l items
theorem ItB.at {b:Bool}{h h':Heap}{it l:Addr}{i:Nat}(x:ItB b h it l i)(e:∀o,h.get? it=some o->h'.get? it=some o):ItB b h' it l i:=by
 cases b with
 | true=>exact(show h.IsListIter it l i from x).at e
 | false=>exact(show h.IsTupleIter it l i from x).at e
theorem SeB.at {b:Bool}{h h':Heap}{l:Addr}(x:SeB b h l items)(e:∀o,h.get? l=some o->h'.get? l=some o):SeB b h' l items:=by
 cases b with
 | true=>exact(show h.IsList l items from x).at e
 | false=>exact(show h.IsTuple l items from x).at e
theorem ItB.obj {b:Bool}{h:Heap}{it l:Addr}{i:Nat}(x:ItB b h it l i):∃o,h.get? it=some o/\(o.cls=.type "list_iterator"\/o.cls=.type "tuple_iterator")/\∀v,o.data≠.cell v:=by
 cases b with
 | true=>obtain⟨o,e,c,d⟩:=(show h.IsListIter it l i from x);exact⟨o,e,.inl c,fun v z=>by rw [d] at z;cases z⟩
 | false=>obtain⟨o,e,c,d⟩:=(show h.IsTupleIter it l i from x);exact⟨o,e,.inr c,fun v z=>by rw [d] at z;cases z⟩
theorem SeB.obj {b:Bool}{h:Heap}{l:Addr}(x:SeB b h l items):∃o,h.get? l=some o/\(o.cls=.type "list"\/o.cls=.type "tuple"):=by
 cases b with
 | true=>obtain⟨o,e,c,d⟩:=(show h.IsList l items from x);exact⟨o,e,.inl c⟩
 | false=>obtain⟨o,e,c,d⟩:=(show h.IsTuple l items from x);exact⟨o,e,.inr c⟩
theorem ItB.ne {b b':Bool}{h:Heap}{it l a:Addr}{i:Nat}(x:ItB b h it l i)(y:SeB b' h a items):a≠it:=fun z=>by
 obtain⟨o,e,c,_⟩:=x.obj;obtain⟨o',e',c'⟩:=y.obj;rw [z,e] at e';cases e';rcases c with c | c <;> rcases c' with c' | c' <;> (rw [c] at c';exact absurd c' (by decide))
section
variable {prog:B2}{w:World}{A:Around}{E:Value->Shared->Prop}{s:Shared}
variable {items:Array Value}{Q:Value->Shared->Prop}
theorem Ob {it t:Addr}{i:Nat}{x:Value}(hit:s.heap.IsTupleIter it t i)(ht:s.heap.IsTuple t items)(hx:items[i]?=some x)
   (hQ:∀h',h'.IsTupleIter it t (i + 1)->Q2 it s.heap h'->Q x { s with heap:=h' }):wpAny (model prog w) A (c0 (.ref it)) Q E s:=by
 obtain⟨oi,hoi,hci,hdi⟩:=id hit;obtain⟨ot,hot,_,nt,hdt⟩:=ht;have ty:=hit.typeIs;unfold c0
 refine A0 (T8 (name:=A6 "__next__") ty Eb
   (M6 Eb ty F.entry_tuple_iterator_next ?_ (F.args_tuple_iterator_next_1 _)))
 show wpAny _ _ (field (.ref it) 0>>=_) _ _ s;refine A0 (L8 hoi hdi (x:=.ref t) rfl ?_);show wpAny _ _ (if(K0 t == N4)=true then _ else _) _ _ s;rw [if_neg (show ¬((K0 t == N4)=true) from J3)];show wpAny _ _ (field (.ref it) 1>>=_) _ _ s;refine A0 (L8 hoi hdi (x:=.int i 0) rfl ?_);show wpAny _ _ (seqItems? (.ref t)>>=_) _ _ s;refine A0 (V7 hot hdt ?_);simp only [Q6,hx];refine A0 (Z3 hoi hdi (by simp) (A4 ⟨x,rfl,A4 (hQ _ ?_ (P8 ..))⟩));exact⟨_,Ab _ hoi (Gi (Bg hdi _)),(Obj.cls_mapFields ..).trans hci,by rw [Bg hdi];simp [rawInt]⟩
theorem Oc {it t:Addr}{i:Nat}(hh:A.handled=none)(hit:s.heap.IsTupleIter it t i)(ht:s.heap.IsTuple t items)(hx:items[i]?=none)
   (hE:∀h' e,Heap.ExtBut it s.heap h'->(∃o,h'.get? e=some o/\o.cls=.type "StopIteration")->E (.ref e) { s with heap:=h' }):wpAny (model prog w) A (c0 (.ref it)) Q E s:=by
 obtain⟨oi,hoi,hci,hdi⟩:=id hit;obtain⟨ot,hot,_,nt,hdt⟩:=ht;have ty:=hit.typeIs;unfold c0
 refine A0 (T8 (name:=A6 "__next__") ty Eb
   (M6 Eb ty F.entry_tuple_iterator_next ?_ (F.args_tuple_iterator_next_1 _)))
 show wpAny _ _ (field (.ref it) 0>>=_) _ _ s;refine A0 (L8 hoi hdi (x:=.ref t) rfl ?_);show wpAny _ _ (if(K0 t == N4)=true then _ else _) _ _ s;rw [if_neg (show ¬((K0 t == N4)=true) from J3)];show wpAny _ _ (field (.ref it) 1>>=_) _ _ s;refine A0 (L8 hoi hdi (x:=.int i 0) rfl ?_);show wpAny _ _ (seqItems? (.ref t)>>=_) _ _ s;refine A0 (V7 hot hdt ?_);simp only [Q6,hx];refine A0 (V9 (A0 (Z3 hoi hdi (by simp) ?_)));show wpAny _ _ (newExc (.type "StopIteration") []>>=_) _ _ _;refine A0 ?_;simp only [newExc,newTuple];refine A0 (J8 ?_ (by size_fits));refine A0 (m:=AO _ _) (O7 (a:=N4) (by first | rfl | (simp only [AO];rfl)) ?_);refine J8 ?_ (by size_fits);simp only [raiseNew];refine A0 (wpAny_handled ?_)
 first | rw [show A.in1.handled=none from hh] | rw [hh]
 refine A0 (A4 (wpAny_throw ?_));exact hE _ _ (((P8 ..).extBut.push _).push _) ⟨_,E1 _ rfl,rfl⟩
theorem Hh {b:Bool}{it t:Addr}{i:Nat}{x:Value}(hit:ItB b s.heap it t i)(ht:SeB b s.heap t items)(hx:items[i]?=some x)
   (hQ:∀h',ItB b h' it t (i + 1)->Q2 it s.heap h'->Q x { s with heap:=h' }):wpAny (model prog w) A (c0 (.ref it)) Q E s:=by
 cases b with
 | true=>exact wpAny_nextOf_list_item hit ht hx hQ
 | false=>exact Ob hit ht hx hQ
theorem Ko {b:Bool}{it t:Addr}{i:Nat}(hh:A.handled=none)(hit:ItB b s.heap it t i)(ht:SeB b s.heap t items)(hx:items[i]?=none)
   (hE:∀h' e,Heap.ExtBut it s.heap h'->(∃o,h'.get? e=some o/\o.cls=.type "StopIteration")->E (.ref e) { s with heap:=h' }):wpAny (model prog w) A (c0 (.ref it)) Q E s:=by
 cases b with
 | true=>exact wpAny_nextOf_list_end hh hit ht hx hE
 | false=>exact Oc hh hit ht hx hE
end
def SqB (b:Bool)(K:A5)(H:Hp)(a:Addr)(xs:List V):Prop:=match b with | true=>SqL K H a xs | false=>SqT K H a xs
section
variable {X:Cx}
theorem Inv.seqB {b:Bool}{a:Addr}{xs:List V}{pins:List (Addr×Obj)}{σ:St}{H:Hp}{s:Shared}(I:Inv X pins σ H s)(h:SqB b X.K H a xs):∃its:List Value,Vals xs its/\SeB b s.heap a its.toArray/\xs.length<=B0:=by
 cases b with
 | true=>obtain⟨its,r,p,z⟩:=I.list h;exact⟨its,r,p.isList,z⟩
 | false=>obtain⟨its,r,p,z⟩:=I.tuple h;exact⟨its,r,p,z⟩
theorem Inv.seqB_inj {b:Bool}{a:Addr}{xs ys:List V}{pins:List (Addr×Obj)}{σ:St}{H:Hp}{s:Shared}(I:Inv X pins σ H s)(h:SqB b X.K H a xs)(h':SqB b X.K H a ys):xs=ys:=by
 cases b with
 | true=>exact I.list_inj h h'
 | false=>exact I.tuple_inj h h'
end
end L2
end
section
namespace L2
open PySem PySem.Spec PyProof.Rows
section
variable {prog:B2}{w:World}{A:Around}{E:Value->Shared->Prop}{s:Shared}
structure ZAp (z TI TO i1 i2:Addr):Prop where
 a1:TI≠z
 a2:TO≠z
 a3:i1≠z
 a4:i2≠z
 a5:TI≠TO
 a6:TI≠i1
 a7:TI≠i2
 a8:TO≠i1
 a9:TO≠i2
 a10:i1≠i2
theorem Od {b1 b2:Bool}{z TI TO i1 i2 l1 l2:Addr}{k:Nat}{xs ys:Array Value}{x y a b:Value}{Q:Value->Shared->Prop}(D:ZAp z TI TO i1 i2)(m1:l1≠z)(m2:l2≠z)(m3:l1≠TO)(m4:l2≠TO)(m5:l1≠i1)(m6:l2≠i1)
   (hz:IsZip s.heap z TI TO .none) (hTI:IsPair s.heap TI (.ref i1) (.ref i2)) (hTO:IsPair s.heap TO a b) (h1:ItB b1 s.heap i1 l1 k) (h2:ItB b2 s.heap i2 l2 k) (hl1:SeB b1 s.heap l1 xs) (hl2:SeB b2 s.heap l2 ys) (hx:xs[k]?=some x) (hy:ys[k]?=some y)
   (hQ:∀h',IsZip h' z TI TO (rawInt s.heap.objs.size)->IsPair h' TO x y->ItB b1 h' i1 l1 (k + 1)->ItB b2 h' i2 l2 (k + 1)->IsPair h' s.heap.objs.size x y->
     (∀c o,c≠z->c≠TO->c≠i1->c≠i2->s.heap.get? c=some o->h'.get? c=some o)->Q (.ref s.heap.objs.size) { s with heap:=h' }) :
   wpAny (model prog w) A (M1.«zip.__next__» ⟨[.ref z],[]⟩) (fun fin s'=>∃v,fin=.done (.ret v)/\Q v s') E s:=by
 show wpAny _ _ (field (.ref z) 2>>=_) _ _ _;refine A0 (L8 hz rfl (x:=.bool false) rfl ?_);show wpAny _ _ (field (.ref z) 3>>=_) _ _ _;refine A0 (L8 hz rfl (x:=.ref TI) rfl (A0 (V7 hTI rfl ?_)));show wpAny _ _ (DV (.ref z)>>=_) _ _ _;refine A0 ?_;unfold DV;refine A0 (L8 hz rfl (x:=.none) rfl (A4 ?_));simp only [if_true];refine A0 (V9 (A0 (L8 hz rfl (x:=.ref TO) rfl (A0 (AN hz (by simp) fun g1 z1 s1=>?_)))))
 replace z1:IsZip g1 z TI TO .ellipsis:=z1
 refine A0 ?_;simp only [List.zipIdx_cons,List.zipIdx_nil,List.forIn_cons,List.forIn_nil];refine A0 (A0 (wpAny_onRaise ?_));show wpAny _ _ (c0 (.ref i1)>>=_) _ _ _;refine A0 (Hh (s:={ s with heap:=g1 }) (h1.at fun o e=>s1.extBut _ o D.a3 e) (hl1.at fun o e=>s1.extBut _ o m1 e) hx fun g2 j2 s2=>A4 ?_);have t2:IsPair g2 TO a b:=s2.extBut _ _ D.a8 (s1.extBut _ _ D.a2 hTO);refine A0 (V7 t2 rfl (A0 (wpAny_updateSeq_pair (s:={ s with heap:=g2 }) t2 fun g3 t3 s3=>A0 (wpAny_letGo (A4 ?_)))))
 replace t3:IsPair g3 TO x b:=t3
 refine A0 (A0 (wpAny_onRaise ?_));show wpAny _ _ (c0 (.ref i2)>>=_) _ _ _;have up3:∀c o,c≠z->c≠i1->c≠TO->s.heap.get? c=some o->g3.get? c=some o:=fun c o c1 c2 c3 e=>s3.extBut _ o c3 (s2.extBut _ o c2 (s1.extBut _ o c1 e));refine A0 (Hh (s:={ s with heap:=g3 }) (h2.at fun o e=>up3 _ o D.a4 D.a10.symm D.a9.symm e) (hl2.at fun o e=>up3 _ o m2 m6 m4 e) hy fun g4 j4 s4=>A4 ?_);have t4:IsPair g4 TO x b:=s4.extBut _ _ D.a9 t3;refine A0 (V7 t4 rfl (A0 (wpAny_updateSeq_pair (s:={ s with heap:=g4 }) t4 fun g5 t5 s5=>A0 (wpAny_letGo (A4 (A4 ?_))))))
 replace t5:IsPair g5 TO x y:=t5
 refine A0 (V7 t5 rfl (A0 (wpAny_newTuple ?_)));have hsz:g5.objs.size=s.heap.objs.size:=by rw [s5.1,s4.1,s3.1,s2.1,s1.1]
 have z5:IsZip g5 z TI TO .ellipsis:=s5.extBut _ _ D.a2.symm (s4.extBut _ _ D.a4.symm (s3.extBut _ _ D.a2.symm (s2.extBut _ _ D.a3.symm z1)));have up5:∀c o,c≠z->c≠TO->c≠i1->c≠i2->s.heap.get? c=some o->g5.get? c=some o:=fun c o c1 c2 c3 c4 e=>s5.extBut _ _ c2 (s4.extBut _ _ c4 (up3 c o c1 c3 c2 e));have j1:ItB b1 g5 i1 l1 (k + 1):=j2.at fun o e=>s5.extBut _ o D.a8.symm (s4.extBut _ o D.a10 (s3.extBut _ o D.a8.symm e));have j5:ItB b2 g5 i2 l2 (k + 1):=j4.at fun o e=>s5.extBut _ o D.a9.symm e;have zlt:z < g5.objs.size:=B9 z5;show wpAny _ _ (IP (.ref z) (.ref g5.objs.size)>>=_) _ _ _;refine A0 ?_;unfold IP;have z6:IsZip (g5.push { cls:=.type "tuple",data:=.seq #[x,y] }) z TI TO .ellipsis:=B6 _ z5;refine A0 (AN z6 (by simp) fun g7 z7 s7=>?_)
 replace z7:IsZip g7 z TI TO (rawInt g5.objs.size):=z7
 refine AN z7 (by simp) fun g8 z8 s8=>?_
 replace z8:IsZip g8 z TI TO (rawInt g5.objs.size):=z8
 have up8:∀c o,c≠z->g5.get? c=some o->g8.get? c=some o:=fun c o c1 e=>s8.extBut _ _ c1 (s7.extBut _ _ c1 (B6 _ e));have t8:IsPair g8 g5.objs.size x y:=s8.extBut _ _ (u4 zlt) (s7.extBut _ _ (u4 zlt) (E1 _ rfl));rw [hsz] at z8 t8;refine A4 ⟨_,rfl,?_⟩;show Q (.ref g5.objs.size) _;rw [hsz];exact hQ g8 z8 (up8 _ _ D.a2 t5) (j1.at fun o e=>up8 _ o D.a3 e) (j5.at fun o e=>up8 _ o D.a4 e) t8 fun c o c1 c2 c3 c4 e=>up8 c o c1 (up5 c o c1 c2 c3 c4 e)
theorem zipEnd {b1 b2:Bool}{z TI TO i1 i2 l1 l2:Addr}{k:Nat}{xs ys:Array Value}{a b:Value}{Q:Fin->Shared->Prop}(hh:A.handled=none)(D:ZAp z TI TO i1 i2)(m1:l1≠z)(m2:l2≠z)(m3:l1≠TO)(m4:l2≠TO)(m5:l1≠i1)(m6:l2≠i1)
   (hz:IsZip s.heap z TI TO .none) (hTI:IsPair s.heap TI (.ref i1) (.ref i2)) (hTO:IsPair s.heap TO a b) (h1:ItB b1 s.heap i1 l1 k) (h2:ItB b2 s.heap i2 l2 k) (hl1:SeB b1 s.heap l1 xs) (hl2:SeB b2 s.heap l2 ys) (hend:xs[k]?=none\/ys[k]?=none)
   (hE:∀h' e,(∀c o,c≠z->c≠TO->c≠i1->c≠i2->s.heap.get? c=some o->h'.get? c=some o)->(∃o,h'.get? e=some o/\o.cls=.type "StopIteration")->E (.ref e) { s with heap:=h' }) :
   wpAny (model prog w) A (M1.«zip.__next__» ⟨[.ref z],[]⟩) Q E s:=by
 show wpAny _ _ (field (.ref z) 2>>=_) _ _ _;refine A0 (L8 hz rfl (x:=.bool false) rfl ?_);show wpAny _ _ (field (.ref z) 3>>=_) _ _ _;refine A0 (L8 hz rfl (x:=.ref TI) rfl (A0 (V7 hTI rfl ?_)));show wpAny _ _ (DV (.ref z)>>=_) _ _ _;refine A0 ?_;unfold DV;refine A0 (L8 hz rfl (x:=.none) rfl (A4 ?_));simp only [if_true];refine A0 (V9 (A0 (L8 hz rfl (x:=.ref TO) rfl (A0 (AN hz (by simp) fun g1 z1 s1=>?_)))))
 replace z1:IsZip g1 z TI TO .ellipsis:=z1
 refine A0 ?_;simp only [List.zipIdx_cons,List.zipIdx_nil,List.forIn_cons,List.forIn_nil];refine A0 (A0 (wpAny_onRaise ?_));show wpAny _ _ (c0 (.ref i1)>>=_) _ _ _;have h1':ItB b1 g1 i1 l1 k:=h1.at fun o e=>s1.extBut _ o D.a3 e;have hl1':SeB b1 g1 l1 xs:=hl1.at fun o e=>s1.extBut _ o m1 e
 have nz:∀{g:Heap} {e:Addr} {o:Obj},IsZip g z TI TO .ellipsis->g.get? e=some o->o.cls=.type "StopIteration"->e≠z:=fun {g e o} hz ho hc x=>by
   subst x;rw [hz] at ho;cases ho;exact absurd (show O1 "zip"=O1 "StopIteration" from hc) (by decide)
 cases hx:xs[k]? with
 | none =>
   refine A0 (Ko (s:={ s with heap:=g1 }) hh h1' hl1' hx fun g2 e s2 ⟨oe,hoe,hce⟩=>?_);have z2:IsZip g2 z TI TO .ellipsis:=s2 _ _ D.a3.symm z1;exact AN z2 (by simp) fun g3 _ s3=>hE g3 e (fun c o c1 _ c3 _ x=>s3.extBut _ _ c1 (s2 _ _ c3 (s1.extBut _ _ c1 x))) ⟨oe,s3.extBut _ _ (nz z2 hoe hce) hoe,hce⟩
 | some x =>
   have hy:ys[k]?=none:=hend.elim (fun h=>by rw [hx] at h;cases h) id;refine A0 (Hh (s:={ s with heap:=g1 }) h1' hl1' hx fun g2 j2 s2=>A4 ?_);have t2:IsPair g2 TO a b:=s2.extBut _ _ D.a8 (s1.extBut _ _ D.a2 hTO);refine A0 (V7 t2 rfl (A0 (wpAny_updateSeq_pair (s:={ s with heap:=g2 }) t2 fun g3 t3 s3=>A0 (wpAny_letGo (A4 ?_)))));refine A0 (A0 (wpAny_onRaise ?_));show wpAny _ _ (c0 (.ref i2)>>=_) _ _ _;have up3:∀c o,c≠z->c≠i1->c≠TO->s.heap.get? c=some o->g3.get? c=some o:=fun c o c1 c2 c3 e=>s3.extBut _ o c3 (s2.extBut _ o c2 (s1.extBut _ o c1 e));refine A0 (Ko (s:={ s with heap:=g3 }) hh (h2.at fun o e=>up3 _ o D.a4 D.a10.symm D.a9.symm e) (hl2.at fun o e=>up3 _ o m2 m6 m4 e) hy fun g4 e s4 ⟨oe,hoe,hce⟩=>?_);have z4:IsZip g4 z TI TO .ellipsis:=s4 _ _ D.a4.symm (s3.extBut _ _ D.a2.symm (s2.extBut _ _ D.a3.symm z1));exact AN z4 (by simp) fun g5 _ s5=>hE g5 e (fun c o c1 c2 c3 c4 x=>s5.extBut _ _ c1 (s4 _ _ c4 (up3 c o c1 c3 c2 x))) ⟨oe,s5.extBut _ _ (nz z4 hoe hce) hoe,hce⟩
end
def itO (b:Bool)(l:Addr):Obj:=match b with | true=>{ cls:=.type "list_iterator",data:=.fields #[.ref l,.int 0 0] } | false=>{ cls:=.type "tuple_iterator",data:=.fields #[.ref l,.int 0 0] }
theorem Kp (b:Bool)(l:Addr):(itO b l).isFreed=false:=by cases b <;> rfl
theorem Kq {b:Bool}{h:Heap}{l a:Addr}(e:h.get? a=some (itO b l)):ItB b h a l 0:=by
 cases b with
 | true=>exact⟨_,e,rfl,rfl⟩
 | false=>exact⟨_,e,rfl,rfl⟩
theorem iterO {b:Bool}{prog:B2}{w:World}{A:Around}{E:Value->Shared->Prop}{s:Shared}{t:Addr}{items:Array Value}{Q:Value->Shared->Prop}(ht:SeB b s.heap t items)(hQ:Q (.ref s.heap.objs.size) { s with heap:=s.heap.push (itO b t) }):wpAny (model prog w) A (pyIter (.ref t)) Q E s:=by
 cases b with
 | true=>exact BS ht hQ
 | false=>exact wpAny_pyIter_tuple ht hQ
abbrev zh2 (h:Heap)(b1 b2:Bool)(l1 l2:Addr):Heap:=(h.push (itO b1 l1)).push (itO b2 l2)
abbrev zh3 (h:Heap)(b1 b2:Bool)(l1 l2:Addr):Heap:=(zh2 h b1 b2 l1 l2).push { cls:=.type "tuple",data:=.seq #[.ref h.objs.size,.ref (h.push (itO b1 l1)).objs.size] }
abbrev zh4 (h:Heap)(b1 b2:Bool)(l1 l2:Addr):Heap:=(zh3 h b1 b2 l1 l2).push { cls:=.type "tuple",data:=.seq #[.none,.none] }
abbrev zh5 (h:Heap)(b1 b2:Bool)(l1 l2:Addr):Heap:=(zh4 h b1 b2 l1 l2).push { cls:=.type "zip",data:=.fields #[.none,.bool false,.bool false,.ref (zh2 h b1 b2 l1 l2).objs.size,.ref (zh3 h b1 b2 l1 l2).objs.size] }
theorem zipNew (b1 b2:Bool)(l1 l2:Addr)(xs ys:Array Value) :
   Meets (M1.«zip.__new__» ⟨[.type "zip",.ref l1,.ref l2],[]⟩) (fun _ R s=>SeB b1 s.heap l1 xs/\SeB b2 s.heap l2 ys/\R (.ok (.ret (.ref (zh4 s.heap b1 b2 l1 l2).objs.size))) { s with heap:=zh5 s.heap b1 b2 l1 l2 }):=
 .of_wp fun prog w A R s hyp=>by
   obtain⟨hp,g,d,tk,os⟩:=s;obtain⟨k1,k2,fin⟩:=hyp;have hsub:=sub_zip;have L1:SeB b1 (Shared.heap ⟨hp,g,d,tk,os⟩) l1 xs:=k1;have L2:SeB b2 (Shared.heap ⟨hp.push (itO b1 l1),g,d,tk,os⟩) l2 ys:=k2.at fun o e=>B6 _ e
   wp_walk using iterO L1,iterO L2
   exact⟨_,rfl,fin⟩
section
variable {prog:B2}{w:World}{A:Around}{E:Value->Shared->Prop}{s:Shared}
theorem zipB {b1 b2:Bool}{l1 l2:Addr}{xs ys:Array Value}{Q:Value->Shared->Prop}(hl1:SeB b1 s.heap l1 xs)(hl2:SeB b2 s.heap l2 ys)
   (h:∀h',IsZip h' (s.heap.objs.size + 4) (s.heap.objs.size + 2) (s.heap.objs.size + 3) .none->IsPair h' (s.heap.objs.size + 2) (.ref s.heap.objs.size) (.ref (s.heap.objs.size + 1))->
     IsPair h' (s.heap.objs.size + 3) .none .none->ItB b1 h' s.heap.objs.size l1 0->ItB b2 h' (s.heap.objs.size + 1) l2 0->(∀c o,s.heap.get? c=some o->h'.get? c=some o)->Q (.ref (s.heap.objs.size + 4)) { s with heap:=h' }) :
   wpAny (model prog w) A (call (.type "zip") [.ref l1,.ref l2]) Q E s:=by
 refine callType_new F.called_zip (by decide) (F.typeCall_zip_2 _ _) (F.newCall_zip_2 _ _) (fun obj=>F.args_object_init_3 obj _ _) F.entry_zip_new (zipNew b1 b2 l1 l2 xs ys) ⟨hl1,hl2,?_⟩;have z1:(s.heap.push (itO b1 l1)).objs.size=s.heap.objs.size + 1:=W4 ..;have z2:(zh2 s.heap b1 b2 l1 l2).objs.size=s.heap.objs.size + 2:=by rw [W4,z1]
 have z3:(zh3 s.heap b1 b2 l1 l2).objs.size=s.heap.objs.size + 3:=by rw [W4,z2]
 have z4:(zh4 s.heap b1 b2 l1 l2).objs.size=s.heap.objs.size + 4:=by rw [W4,z3]
 have g5:(zh5 s.heap b1 b2 l1 l2).get? (zh4 s.heap b1 b2 l1 l2).objs.size=some _:=E1 _ rfl;have g4:(zh5 s.heap b1 b2 l1 l2).get? (zh3 s.heap b1 b2 l1 l2).objs.size=some _:=B6 _ (E1 _ rfl);have g3:(zh5 s.heap b1 b2 l1 l2).get? (zh2 s.heap b1 b2 l1 l2).objs.size=some _:=B6 _ (B6 _ (E1 _ rfl));have g2:(zh5 s.heap b1 b2 l1 l2).get? (s.heap.push (itO b1 l1)).objs.size=some _:=B6 _ (B6 _ (B6 _ (E1 _ (Kp b2 l2))));have g1:(zh5 s.heap b1 b2 l1 l2).get? s.heap.objs.size=some _:=B6 _ (B6 _ (B6 _ (B6 _ (E1 _ (Kp b1 l1)))));show _/\_;rw [z2,z3,z4] at g5;rw [z1,z2] at g3;rw [z3] at g4;rw [z1] at g2;rw [z4];exact⟨⟨_,g5,rfl⟩,h _ g5 g3 g4 (Kq g1) (Kq g2) fun c o x=>B6 _ (B6 _ (B6 _ (B6 _ (B6 _ x))))⟩
end
section
variable {X:Cx}
def ItzB (b1 b2:Bool)(K:A5)(a c:Addr):It:=
 ⟨fun i H=>∃xs ys x y,SqB b1 K H a xs/\SqB b2 K H c ys/\xs[i]?=some x/\ys[i]?=some y,
  fun i H x H'=>∃p u v,H p=none/\x=.ref p/\H'=upd H p (.tup [u,v])/\(∀xs,SqB b1 K H a xs->xs[i]?=some u)/\∀ys,SqB b2 K H c ys->ys[i]?=some v,
  fun i H=>∃xs ys,SqB b1 K H a xs/\SqB b2 K H c ys/\min xs.length ys.length<=i⟩
theorem EJ {b:Bool}{h:Heap}{l e:Addr}{items:Array Value}{n:String}{o:Obj}(p:SeB b h l items)(he:h.get? e=some o)(hc:o.cls=.type n)(h1:n≠"list")(h2:n≠"tuple"):l≠e:=fun z=>by
 obtain⟨o',e1,c1⟩:=p.obj;rw [z,he] at e1;cases e1;rw [hc] at c1;rcases c1 with c1 | c1
 · exact h1 (Value.type.inj c1)
 · exact h2 (Value.type.inj c1)
theorem EK {b:Bool}{l z TI TO i1 i2:Addr}{xs:List V}{pins:List (Addr×Obj)}{σ:St}{H:Hp}{s:Shared}{p q:Value}(I:Inv X pins σ H s)(hf:∀d∈[z,TI,TO,i1,i2],FpOk X pins H d)(hTO:IsPair s.heap TO p q)(hq:SqB b X.K H l xs):l≠TO:=fun zz=>by
 obtain⟨f0,f1,f2,f3,f4,f5⟩:=hf TO (by simp);subst zz;cases b with
 | true =>
   obtain⟨its,_,pl,_⟩:=I.list hq;obtain⟨o,e,c1,_⟩:=pl.isList;rw [hTO] at e;cases e;exact absurd (show O1 "tuple"=O1 "list" from c1) (by decide)
 | false =>
   rcases hq with hq | ⟨o,its,n,hk,hc1,hs,hz,r⟩
   · rcases hq with e | ⟨o,e⟩
     · rw [f0] at e;cases e
     · rw [f0] at e;cases e
   · have eb:X.base.get? l=some o:=I.ok.mod.kin l o hk;rcases f3 with f3 | f3
     · exact I.ok.noex l o eb f3
     · exact absurd (L3 (B9 eb) (L4 I.ok.bsz f3)) (R5 _)
theorem Inv.turnedAll {pins:List (Addr×Obj)}{σ:St}{H:Hp}{s:Shared}{h':Heap}{t':Nat}{ch:List Addr}(I:Inv X pins σ H s)(k:∀b o,b∉ch->s.heap.get? b=some o->h'.get? b=some o)(hf:∀b∈ch,FpOk X pins H b):Inv X pins σ H { s with heap:=h',toks:=t' }:=by
 have nch:∀b u,H b=some u->b∉ch:=fun b u e z=>by rw [(hf b z).1] at e;cases e
 refine I.step (g':=s.gens) (d':=s.drawn) (ch:=ch) (fun b hb=>⟨(hf b hb).2.2.2.1,(hf b hb).2.1,(hf b hb).2.2.2.2.1,(hf b hb).2.2.2.2.2⟩) (fun b o _ _ hc e _=>k b o hc e) (fun b o _ _ hc e _=>⟨o.slots,k b o hc e⟩) (fun _ _ _ _ n=>n)
   (fun b o hc e=>⟨o,k b o hc e⟩) (fun _ _ e=>e) (fun _ _ _ e=>e) (fun b ps e=>⟨#[],by rw [e];simp⟩) (fun z=>z) (fun m hm=>?_) (fun b u e=>?_) I.bare
 · obtain⟨o,es,ep,ho,r⟩:=hm;exact⟨o,es,ep,k _ o (fun z=>(hf _ z).2.1 rfl) ho,r⟩
 · refine(I.hok b u e).stay (fun c v hc q=>k c v ?_ q) (fun c q=>q) fun c ys q=>q;rcases hc with z | z
   · rw [z];exact nch b u e
   · exact nch c _ z
theorem Oe {b1 b2:Bool}{P:B2}{w:World}{K:A5}{elts:List Expr}{x1}{pos:Pos}(a c z TI TO i1 i2:Addr)(D:ZAp z TI TO i1 i2) :
   Turn P w K (.Tuple elts x1 pos) (ItzB b1 b2 K a c) [z,TI,TO,i1,i2] z (fun i h=>IsZip h z TI TO .none/\IsPair h TI (.ref i1) (.ref i2)/\(∃p q,IsPair h TO p q)/\ItB b1 h i1 a i/\ItB b2 h i2 c i) where
 mem:=by simp
 obj:=fun i h st e he=>by
   obtain⟨hz,h1,⟨p,q,h2⟩,h3,h4⟩:=st;obtain⟨o3,e3,_,d3⟩:=h3.obj;obtain⟨o4,e4,_,d4⟩:=h4.obj;have he':e=z\/e=TI\/e=TO\/e=i1\/e=i2:=by simpa using he
   rcases he' with rfl | rfl | rfl | rfl | rfl
   · exact⟨_,hz,fun v z=>by cases z⟩
   · exact⟨_,h1,fun v z=>by cases z⟩
   · exact⟨_,h2,fun v z=>by cases z⟩
   · exact⟨_,e3,d3⟩
   · exact⟨_,e4,d4⟩
 keep:=fun i h h' st k=>by
   obtain⟨hz,h1,⟨p,q,h2⟩,h3,h4⟩:=st;exact⟨k z (by simp) _ hz,k TI (by simp) _ h1,⟨p,q,k TO (by simp) _ h2⟩,h3.at fun o e=>k i1 (by simp) o e,h4.at fun o e=>k i2 (by simp) o e⟩
 item:=by
   intro X hP hw hK hc i pins s σ H E I hf st hg;subst hP hw hK;obtain⟨hz,hTI,⟨p,q,hTO⟩,h3,h4⟩:=st;obtain⟨xs,ys,x,y,hq1,hq2,hx,hy⟩:=hg;obtain⟨is1,rv1,p1,hz1⟩:=I.seqB hq1;obtain⟨is2,rv2,p2,hz2⟩:=I.seqB hq2;obtain⟨u,hu,ru⟩:=rv1.get hx;obtain⟨v,hv,rv⟩:=rv2.get hy;have ty:s.TypeIs (.ref z) "zip":=⟨_,hz,rfl⟩;unfold pyNext;refine A0 (p6 (T8 (name:=A6 "__next__") ty Ee (M6 Ee ty F.entry_zip_next (Od D (EJ p1 hz rfl (by decide) (by decide)) (EJ p2 hz rfl (by decide) (by decide)) (EK I hf hTO hq1) (EK I hf hTO hq2) (h3.ne p1) (h3.ne p2) hz hTI hTO h3 h4 p1 p2 (by simpa using hu) (by simpa using hv) fun h' a1 a2 a3 a4 a5 k=>A4 ?_) (F.args_zip_next_1 _))));refine⟨_,rfl,wpAny_letOwnedTupleGo_zip (s:={ s with heap:=h' }) a1 fun h'' z'' sb=>?_⟩;have lt:∀{d:Addr} {o:Obj},s.heap.get? d=some o->s.heap.objs.size≠d:=fun e=>u4 (B9 e);have ht'':h''.get? s.heap.objs.size=some { cls:=.type "tuple",data:=.seq #[u,v] }:=(sb.2 _ (lt hz)).trans a5
   have k':∀d o,d∉[z,TI,TO,i1,i2]->s.heap.get? d=some o->h''.get? d=some o:=fun d o hb q=>by
     have hb1:d≠z:=fun e=>hb (by simp [e]);exact(sb.2 d hb1).trans (k d o hb1 (fun e=>hb (by simp [e])) (fun e=>hb (by simp [e])) (fun e=>hb (by simp [e])) q)
   have I1:Inv X pins σ (upd H s.heap.objs.size (.tup [x,y])) { s with heap:=h'' }:=
     I.turnedNew (t':=s.toks) k' hf ⟨by show 2<=B0;decide,[u,v],.cons ru (.cons rv .nil),⟨_,ht'',rfl,_,rfl⟩⟩
   obtain⟨o3,e3,_,_⟩:=h3.obj;obtain⟨o4,e4,_,_⟩:=h4.obj
   refine⟨.ref s.heap.objs.size,_,I1,rfl,⟨_,x,y,I.fresh,rfl,rfl,fun zs hzs=>by rw [I.seqB_inj hzs hq1];exact hx,fun zs hzs=>by rw [I.seqB_inj hzs hq2];exact hy⟩,
     ⟨z'',sb.extBut _ _ D.a1 (k _ _ D.a1 D.a5 D.a6 D.a7 hTI),⟨u,v,sb.extBut _ _ D.a2 a2⟩,a3.at fun o e=>sb.extBut _ o D.a3 e,a4.at fun o e=>sb.extBut _ o D.a4 e⟩,fun d hd=>?_⟩
   have hd':d=z\/d=TI\/d=TO\/d=i1\/d=i2:=by simpa using hd
   have hds:d≠s.heap.objs.size:=by
     rcases hd' with rfl | rfl | rfl | rfl | rfl
     · exact(lt hz).symm
     · exact(lt hTI).symm
     · exact(lt hTO).symm
     · exact(lt e3).symm
     · exact(lt e4).symm
   rw [C7 hds];exact(hf d hd).1
 done:=by
   intro X hP hw hK hc i pins s σ H E I hf st hg;subst hP hw hK;obtain⟨hz,hTI,⟨p,q,hTO⟩,h3,h4⟩:=st;obtain⟨xs,ys,hq1,hq2,hmin⟩:=hg;obtain⟨is1,rv1,p1,hz1⟩:=I.seqB hq1;obtain⟨is2,rv2,p2,hz2⟩:=I.seqB hq2;have l1:=rv1.length;have l2:=rv2.length;have ty:s.TypeIs (.ref z) "zip":=⟨_,hz,rfl⟩
   have hend:is1.toArray[i]?=none\/is2.toArray[i]?=none:=by
     rcases Ce xs.length ys.length with h | h
     · exact .inl (DR (by rw [D8];omega))
     · exact .inr (DR (by rw [D8];omega))
   unfold pyNext;refine A0 (p6 (T8 (name:=A6 "__next__") ty Ee (M6 Ee ty F.entry_zip_next (zipEnd (A:=X.A.in1) (I.ok.hd hc) D (EJ p1 hz rfl (by decide) (by decide)) (EJ p2 hz rfl (by decide) (by decide)) (EK I hf hTO hq1) (EK I hf hTO hq2) (h3.ne p1) (h3.ne p2) hz hTI hTO h3 h4 p1 p2 hend fun h' e k he=>?_) (F.args_zip_next_1 _))));obtain⟨o,ho,hce⟩:=he;refine A0 (Dw (T:="StopIteration") (b:=true) ⟨o,ho,hce⟩ isSubtype_stop (A4 ⟨rfl,?_⟩));exact I.turnedAll (t':=s.toks) (ch:=[z,TI,TO,i1,i2]) (fun d o hd e=>k d o (fun z=>hd (by simp [z])) (fun z=>hd (by simp [z])) (fun z=>hd (by simp [z])) (fun z=>hd (by simp [z])) e) hf
 self:=fun _ _ _ _ _ st h=>wpAny_pyIter_zip st.1 h
end
end L2
end
section
namespace L2
open PySem PySem.Spec PyProof.Rows
section
variable {X:Cx}
def iZipB (b1 b2:Bool)(K:A5)(ta:TA):TI:=fun σ H R=>ta σ H fun vs H1=>∃a c,vs=[.ref a,.ref c]/\(∃xs,SqB b1 K H1 a xs)/\(∃ys,SqB b2 K H1 c ys)/\R (ItzB b1 b2 K a c) H1
theorem Of (b1 b2:Bool){a b:Expr}{ta:TA}{p pos:Pos}{elts:List Expr}{x1}{tpos:Pos}(hg:Gl X "zip")(hm:X.mg "zip"=none)(ha:PA X [a,b] ta)(hs:E4 [a,b] X.env=[(false,eval a X.env),(false,eval b X.env)]:=by rfl)(hs2:E4 [b] X.env=[(false,eval b X.env)]:=by rfl) :
   PI X (.Tuple elts x1 tpos) (.Call (.Name "zip" p) [a,b] [] pos) (iZipB b1 b2 X.K ta):=by
 intro pins s σ H R I h;refine Call_ (Bq I hg hm boot_zip (Ch (thn (ha pos pins s σ H _ I h) fun us s1 ⟨vs,H1,I1,r1,q1⟩=>?_) (by rw [hs,hs2]) (by rw [hs2];rfl)));obtain⟨a,c,e,⟨xs,h1⟩,⟨ys,h2⟩,q⟩:=q1;subst e;cases r1 with
 | cons r rr =>
   cases rr with
   | cons r' rr =>
     cases rr;cases r;cases r';obtain⟨is1,rv1,p1,hz1⟩:=I1.seqB h1;obtain⟨is2,rv2,p2,hz2⟩:=I1.seqB h2;refine zipB p1 p2 fun h' e1 e2 e3 e4 e5 hk=>?_;refine wpAny_pyIter_zip e1 ?_;have I2:Inv X pins σ H1 { s1 with heap:=h' }:=I1.kept (t':=s1.toks) hk;refine⟨s1.heap.objs.size + 4,[s1.heap.objs.size + 4,s1.heap.objs.size + 2,s1.heap.objs.size + 3,s1.heap.objs.size,s1.heap.objs.size + 1],_,_,H1,rfl,I2,Oe a c _ _ _ _ _ ⟨by simp,by simp,by simp,by simp,by simp,by simp,by simp,by simp,by simp,by simp⟩,⟨e1,e2,⟨_,_,e3⟩,e4,e5⟩,fun d hd=>?_,q⟩
     have hd':s1.heap.objs.size<=d:=by
       simp only [B7,Q5,or_false] at hd;rcases hd with rfl | rfl | rfl | rfl | rfl <;> omega
     exact I1.fpOk hd' (I1.hok.fresh hd')
end
end L2
namespace Pu
open PySem PySem.Spec L2
section
variable {T:PotK}{ι:Type}{K:A5}{F:ι->Cx}{e a b tg:Expr}{pe pa pb:pE}{pos:Pos}
def zipP (xs ys:List PV):List PV:=(xs.zip ys).map fun y=>.tup [y.1,y.2]
def BC (b:Bool):PV->Option (List PV)
 | .lst xs=>if b then some xs else none
 | .tup xs=>if b then none else some xs
 | _=>none
theorem Og {b:Bool}{x:PV}{xs:List PV}(h:BC b x=some xs):x=(match b with | true=>.lst xs | false=>.tup xs):=by
 cases x <;> cases b <;> simp [BC] at h <;> simp [h]
theorem Ks {b:Bool}{x:PV}{xs:List PV}{G:Gh}{H:Hp}{v:V}(h:BC b x=some xs)(r:Rep K G H x v):∃a vs,v=.ref a/\a∉G.M/\Reps K G H xs vs/\∀H2,(∀c o,c∉G.M->H c=some o->H2 c=some o)->SqB b K H2 a vs:=by
 rw [Og h] at r;cases b with
 | true =>
   obtain⟨a,vs,e,t,r⟩:=r;exact⟨a,vs,e,t.1,r,fun H2 hk=>SqL.of (hk a _ t.1 t.2)⟩
 | false =>
   obtain⟨a,vs,e,t,r⟩:=r;exact⟨a,vs,e,t.1,r,fun H2 hk=>SqT.of (hk a _ t.1 t.2)⟩
def qZip (b1 b2:Bool)(pa pb:pE):pA:=fun env n R=>pa env n fun x env1 n1=>pb env1 n1 fun y env2 n2=>match BC b1 x,BC b2 y with | some xs,some ys=>R (zipP xs ys) env2 n2 | _,_=>False
theorem Oh (xs ys:List PV):(zipP xs ys).length=min xs.length ys.length:=by simp [zipP]
theorem Oi {xs ys:List PV}{i:Nat}{x:PV}(h:(zipP xs ys)[i]?=some x):∃u v,xs[i]?=some u/\ys[i]?=some v/\x=.tup [u,v]:=by
 unfold zipP at h;rw [D5] at h;cases e:(xs.zip ys)[i]? with
 | none=>rw [e] at h;cases h
 | some y =>
   rw [e] at h;obtain⟨h1,h2⟩:=List.getElem?_zip_eq_some.mp e;exact⟨y.1,y.2,h1,h2,(J9 h).symm⟩
theorem Hi (b1 b2:Bool){p:Pos}{elts:List Expr}{x1:Nat}{tpos:Pos}(hg:∀z,Gl (F z) "zip")(hm:∀z,(F z).mg "zip"=none)(ha:QE T K F a pa)(hb:QE T K F b pb)(hs:F8 a=true:=by rfl)(hs2:F8 b=true:=by rfl)(hK:∀z,(F z).K=K:=by intro _;rfl):QI T K F (.Tuple elts x1 tpos) (.Call (.Name "zip" p) [a,b] [] pos) (qZip b1 b2 pa pb):=by
 obtain⟨t,h1,h2⟩:=ha;obtain⟨u,h3,h4⟩:=hb;refine⟨_,fun z=>hK z▸Of b1 b2 (hg z) (hm z) (F6 (h1 z) (F6 (h3 z) J1 (D2 hs2)) (D2 hs)) (by rw [D2 hs,D2 hs2];rfl) (by rw [D2 hs2];rfl),fun C G σ H env n R Q hK hT S hp k=>?_⟩;refine h2 C G σ H env n _ _ hK hT S hp fun x env1 n1 v H1 p1 S1 r1 f1=>?_;refine h4 C G σ H1 env1 n1 _ _ hK hT S1 p1 fun y env2 n2 w H2 p2 S2 r2 f2=>?_
 split at p2
 · rename_i xs ys ex ey;obtain⟨a,vs,rfl,na,ra,sa⟩:=Ks ex (r1.fr f2);obtain⟨c,us,rfl,nc,rc,scq⟩:=Ks ey r2;refine⟨a,c,rfl,⟨vs,sa H2 fun _ _ _ e=>e⟩,⟨us,scq H2 fun _ _ _ e=>e⟩,k _ _ _ _ _ p2 S2 (f1.trans f2) ?_⟩;intro G2 H3 hk hM hp hf;have ra':Reps K G2 H3 xs vs:=Reps.mono hk hM hp _ _ ra;have rc':Reps K G2 H3 ys us:=Reps.mono hk hM hp _ _ rc;refine⟨fun i x e=>?_,fun i hi=>⟨vs,us,sa H3 hk,scq H3 hk,by rw [<- ra.length,<- rc.length,<- Oh];exact hi⟩⟩;obtain⟨u,v,eu,ev,rfl⟩:=Oi e;obtain⟨u',eu',ru⟩:=ra'.get' eu;obtain⟨v',ev',rv⟩:=rc'.get' ev;refine⟨⟨vs,us,u',v',sa H3 hk,scq H3 hk,eu',ev'⟩,fun x' H4 y=>?_⟩;obtain⟨p,u2,v2,hn,rfl,rfl,y1,y2⟩:=y;have q1:=y1 vs (sa H3 hk);have q2:=y2 us (scq H3 hk);rw [eu'] at q1;rw [ev'] at q2;cases q1;cases q2;exact⟨Same.lay1 hn,Bw (hf p hn) hn (.cons ru (.one rv))⟩
 · exact p2.elim
end
end Pu
end
section
namespace Pu
open PySem PySem.Spec L2
theorem Oj {te:pE}{rest:Env}{α:Type}(u v g:α->PV):∀(xs:List α) (s0 s1:Option Slot) (n:Nat) (R:List PV->Nat->Prop),(∀x∈xs,∀m Q,Q (g x) (some (.v (u x))::some (.v (v x))::rest) m->te (some (.v (u x))::some (.v (v x))::rest) m Q)->R (xs.map g) n->R7 (gTp 2 (gCn (gN 0) (gCn (gN 1) gNl))) qTru te (xs.map fun x=>.tup [u x,v x]) (s0::s1::rest) n R:=by
 intro xq
 induction xq with
 | nil =>
   intro _ _ _ _ _ h;exact h
 | cons x xs ih =>
   intro s0 s1 n R ht h;refine⟨rfl,?_⟩;show te (some (.v (u x))::some (.v (v x))::rest) n _;refine ht x B8 n _ ?_;exact ih _ _ n _ (fun y hy=>ht y (B5 _ hy)) h
end Pu
end
section
namespace L2
open PySem PySem.W PyProof.Rows
namespace Kr
def run {α:Type}(lt:Nat->Nat->Bool):KasT α->α
 | .ret a=>a
 | .ask i j k=>run lt (k (lt i j))
theorem BD {α β:Type}(lt:Nat->Nat->Bool)(f:α->KasT β):∀t:KasT α,run lt (t.bind f)=run lt (f (run lt t))
 | .ret a=>rfl
 | .ask i j k=>BD lt f (k (lt i j))
structure Ord (lt:Nat->Nat->Bool):Prop where
 ir:∀a,lt a a=false
 tr:∀a b c,lt a b=true->lt b c=true->lt a c=true
 nt:∀a b c,lt a c=true->lt a b=true\/lt b c=true
variable {lt:Nat->Nat->Bool}(O:Ord lt)
include O
theorem Ord.as {a b:Nat}(h:lt a b=true):lt b a=false:=by
 cases e:lt b a with
 | false=>rfl
 | true=>have:=O.tr _ _ _ h e;rw [O.ir] at this;cases this
theorem Ord.le {a b c:Nat}(h1:lt b a=false)(h2:lt c b=false):lt c a=false:=by
 cases e:lt c a with
 | false=>rfl
 | true=>rcases O.nt c b a e with h | h <;> simp_all
theorem Ord.l1 {a b c:Nat}(h1:lt a b=true)(h2:lt c b=false):lt a c=true:=by
 rcases O.nt a c b h1 with h | h
 · exact h
 · rw [h2] at h;cases h
theorem Ord.l2 {a b c:Nat}(h1:lt b a=false)(h2:lt b c=true):lt a c=true:=by
 rcases O.nt b a c h2 with h | h
 · rw [h1] at h;cases h
 · exact h
omit O
def g (p:Array Nat)(i:Nat):Nat:=p.getD i 0
theorem g_eq (p:Array Nat)(i:Nat):g p i=(p[i]?).getD 0:=by unfold g;rw [Aj]
theorem e7 {p:Array Nat}{i j:Nat}(h:j<=p.size)(k:Nat):g (N8 p i j) k=if i<=k/\k < j then g p (i + j - 1 - k) else g p k:=by
 unfold N8;rw [g_eq,getElem?_mirror_all h]
 split <;> rw [g_eq]
theorem g_bub {p:Array Nat}{k l:Nat}(h:k < p.size)(hl:l<=k)(i:Nat):g (bubble p k (k - l)) i=if i=l then g p k else if l < i/\i<=k then g p (i - 1) else g p i:=by
 rw [g_eq,getElem?_bubble h (k - l) (by omega),show k - (k - l)=l by omega]
 split
 · rw [g_eq]
 · split <;> rw [g_eq]
theorem AC (p:Array Nat)(i j:Nat):(N8 p i j).size=p.size:=mirror_size _ _ _ _
theorem CS (p:Array Nat)(i j:Nat):(N8 p i j).Perm p:=mirror_perm _ _ _ _
def S (lt:Nat->Nat->Bool)(p:Array Nat)(k:Nat):Prop:=∀i j,i<=j->j < k->lt (g p j) (g p i)=false
def D (lt:Nat->Nat->Bool)(p:Array Nat)(k:Nat):Prop:=∀i j,i<=j->j < k->lt (g p i) (g p j)=false
def B (lt:Nat->Nat->Bool)(p:Array Nat)(a k:Nat):Prop:=∀i j,a<=i->i < k->a<=j->j < k->lt (g p i) (g p j)=false
include O
theorem S_succ {p:Array Nat}{n:Nat}(h:S lt p n)(hn:1<=n)(hl:lt (g p n) (g p (n - 1))=false):S lt p (n + 1):=by
 intro i j hij hj;rcases Nat.lt_succ_iff_lt_or_eq.mp hj with h1 | h1
 · exact h i j hij h1
 · subst h1;rcases Nat.lt_or_eq_of_le hij with h2 | h2
   · exact O.le (h i (j - 1) (by omega) (by omega)) hl
   · rw [h2];exact O.ir _
theorem Kt (p:Array Nat):∀(f n:Nat),1<=n->S lt p n->n<=run lt (R3 p f n)/\run lt (R3 p f n)<=n + f/\S lt p (run lt (R3 p f n))/\(run lt (R3 p f n)=n + f\/lt (g p (run lt (R3 p f n))) (g p (run lt (R3 p f n) - 1))=true):=by
 intro xq
 induction xq with
 | zero =>
   intro n hn h;exact⟨A9 _,A9 _,h,.inl rfl⟩
 | succ f ih =>
   intro n hn h;show n<=run lt (if lt (g p n) (g p (n - 1))=true then .ret n else R3 p f (n + 1))/\run lt (if lt (g p n) (g p (n - 1))=true then .ret n else R3 p f (n + 1))<=n + (f + 1)/\S lt p (run lt (if lt (g p n) (g p (n - 1))=true then .ret n else R3 p f (n + 1)))/\(run lt (if lt (g p n) (g p (n - 1))=true then .ret n else R3 p f (n + 1))=n + (f + 1)\/lt (g p (run lt (if lt (g p n) (g p (n - 1))=true then .ret n else R3 p f (n + 1)))) (g p (run lt (if lt (g p n) (g p (n - 1))=true then .ret n else R3 p f (n + 1)) - 1))=true);cases e:lt (g p n) (g p (n - 1)) with
   | true =>
     rw [if_pos rfl];exact⟨A9 _,by show n<=_;omega,h,.inr e⟩
   | false =>
     rw [if_neg (by simp)];obtain⟨h1,h2,h3,h4⟩:=ih (n + 1) (by omega) (S_succ O h hn e);exact⟨by omega,by omega,h3,h4.imp (fun x=>by omega) id⟩
theorem D_rev {p:Array Nat}{a n:Nat}(hn:n<=p.size)(h:D lt p n)(hb:B lt p a n):D lt (N8 p a n) n:=by
 intro i j hij hj;rw [e7 hn,e7 hn]
 by_cases c1:a<=i
 · rw [if_pos ⟨c1,by omega⟩,if_pos ⟨by omega,hj⟩];exact hb _ _ (by omega) (by omega) (by omega) (by omega)
 · rw [if_neg (by omega)]
   by_cases c2:a<=j
   · rw [if_pos ⟨c2,hj⟩];exact h _ _ (by omega) (by omega)
   · rw [if_neg (by omega)];exact h _ _ hij hj
theorem CT {p:Array Nat}{n:Nat}(h:D lt p n)(hn:1<=n)(hl:lt (g p (n - 1)) (g p n)=false):D lt p (n + 1):=by
 intro i j hij hj;rcases Nat.lt_succ_iff_lt_or_eq.mp hj with h1 | h1
 · exact h i j hij h1
 · subst h1;rcases Nat.lt_or_eq_of_le hij with h2 | h2
   · exact O.le hl (h i (j - 1) (by omega) (by omega))
   · rw [h2];exact O.ir _
theorem Ol:∀(f:Nat) (p:Array Nat) (n q:Nat),q + 1<=n->n + f<=p.size->D lt p n->B lt p (n - (q + 1)) n->
   ∃p' n' q',run lt (Z7 f p n q)=(p',n',q')/\p'.Perm p/\p'.size=p.size/\n<=n'/\n'<=n + f/\q' + 1<=n'/\D lt p' n'/\B lt p' (n' - (q' + 1)) n':=by
 intro xq
 induction xq with
 | zero =>
   intro p n q hq hs h hb;exact⟨p,n,q,rfl,Ck _,rfl,A9 _,A9 _,hq,h,hb⟩
 | succ f ih =>
   intro p n q hq hs h hb
   have one:∀p n,B lt p (n + 1 - (0 + 1)) (n + 1):=fun p n i j h1 h2 h3 h4=>by
     have:i=j:=by omega
     rw [this];exact O.ir _
   cases e:lt (g p n) (g p (n - 1)) with
   | true =>
     by_cases c:q > 0
     · have hd:=D_rev O (by omega:n<=p.size) h hb;have e1:g (N8 p (n - (q + 1)) n) n=g p n:=by rw [e7 (by omega),if_neg (by omega)]
       have e2:g (N8 p (n - (q + 1)) n) (n - 1)=g p (n - (q + 1)):=by rw [e7 (by omega),if_pos (by omega)];congr 1;omega
       have e3:lt (g p (n - (q + 1))) (g p n)=false:=O.as (O.l1 e (hb _ _ (by omega) (by omega) (by omega) (by omega)));obtain⟨p',n',q',a1,a2,a3,a4,a5,a6,a7,a8⟩:=ih (N8 p (n - (q + 1)) n) (n + 1) 0 (by omega) (by rw [AC];omega) (CT O hd (by omega) (by rw [e1,e2];exact e3)) (one _ _);refine⟨p',n',q',?_,a2.trans (CS _ _ _),by rw [a3,AC],by omega,by omega,a6,a7,a8⟩;show run lt (if lt (g p n) (g p (n - 1))=true then(if q > 0 then Z7 f (N8 p (n - (q + 1)) n) (n + 1) 0 else Z7 f p (n + 1) 0) else _)=_;rw [if_pos e,if_pos c];exact a1
     · obtain⟨p',n',q',a1,a2,a3,a4,a5,a6,a7,a8⟩:=ih p (n + 1) 0 (by omega) (by omega) (CT O h (by omega) (O.as e)) (one _ _);refine⟨p',n',q',?_,a2,a3,by omega,by omega,a6,a7,a8⟩;show run lt (if lt (g p n) (g p (n - 1))=true then(if q > 0 then Z7 f (N8 p (n - (q + 1)) n) (n + 1) 0 else Z7 f p (n + 1) 0) else _)=_;rw [if_pos e,if_neg c];exact a1
   | false =>
     cases e':lt (g p (n - 1)) (g p n) with
     | true =>
       refine⟨p,n,q,?_,Ck _,rfl,A9 _,by omega,hq,h,hb⟩;show run lt (if lt (g p n) (g p (n - 1))=true then _ else KasT.ask (g p (n - 1)) (g p n) fun d=>if d=true then .ret (p,n,q) else Z7 f p (n + 1) (q + 1))=_;rw [if_neg (by rw [e];simp)];show run lt (if lt (g p (n - 1)) (g p n)=true then .ret (p,n,q) else Z7 f p (n + 1) (q + 1))=_;rw [if_pos e'];rfl
     | false =>
       have hb':B lt p (n + 1 - (q + 1 + 1)) (n + 1):=by
         have up:∀i,n - (q + 1)<=i->i < n->lt (g p i) (g p n)=false/\lt (g p n) (g p i)=false:=fun i h1 h2=>
           ⟨O.le e' (hb i (n - 1) h1 h2 (by omega) (by omega)),O.le (hb (n - 1) i (by omega) (by omega) h1 h2) e⟩
         intro i j h1 h2 h3 h4
         by_cases ci:i < n
         · by_cases cj:j < n
           · exact hb i j (by omega) ci (by omega) cj
           · rw [show j=n by omega];exact(up i (by omega) ci).1
         · rw [show i=n by omega]
           by_cases cj:j < n
           · exact(up j (by omega) cj).2
           · rw [show j=n by omega];exact O.ir _
       obtain⟨p',n',q',a1,a2,a3,a4,a5,a6,a7,a8⟩:=ih p (n + 1) (q + 1) (by omega) (by omega) (CT O h (by omega) e') hb';refine⟨p',n',q',?_,a2,a3,by omega,by omega,a6,a7,a8⟩;show run lt (if lt (g p n) (g p (n - 1))=true then _ else KasT.ask (g p (n - 1)) (g p n) fun d=>if d=true then .ret (p,n,q) else Z7 f p (n + 1) (q + 1))=_;rw [if_neg (by rw [e];simp)];show run lt (if lt (g p (n - 1)) (g p n)=true then .ret (p,n,q) else Z7 f p (n + 1) (q + 1))=_;rw [if_neg (by rw [e'];simp)];exact a1
theorem S_of_D {p:Array Nat}{n:Nat}(hn:n<=p.size)(h:D lt p n):S lt (N8 p 0 n) n:=by
 intro i j hij hj;rw [e7 hn,e7 hn,if_pos ⟨by omega,hj⟩,if_pos ⟨by omega,by omega⟩];exact h _ _ (by omega) (by omega)
theorem Ku {p:Array Nat}{n nrem:Nat}(h1:1<=n)(hn:n<=nrem)(hs:nrem<=p.size)(h:D lt p n) :
   ∃m p',run lt (kas_tail3 n nrem p)=(m,p')/\p'.Perm p/\p'.size=p.size/\1<=m/\m<=nrem/\S lt p' m:=by
 obtain⟨a1,a2,a3,_⟩:=Kt O (N8 p 0 n) (nrem - n) n h1 (S_of_D O (by omega) h);refine⟨_,N8 p 0 n,?_,CS _ _ _,AC _ _ _,?_,?_,a3⟩
 · unfold kas_tail3;rw [BD];rfl
 · omega
 · omega
theorem Kv {p:Array Nat}{n nrem:Nat}(h1:1<=n)(hn:n + 1<=nrem)(hs:nrem<=p.size)(h:D lt p (n + 1)) :
   ∃m p',run lt (kas_descPart n nrem p)=(m,p')/\p'.Perm p/\p'.size=p.size/\1<=m/\m<=nrem/\S lt p' m:=by
 obtain⟨p',n',q',a1,a2,a3,a4,a5,a6,a7,a8⟩:=Ol O (nrem - (n + 1)) p (n + 1) 0 (by omega) (by omega) h (fun i j h1 h2 h3 h4=>by
   have:i=j:=by omega
   rw [this];exact O.ir _)
 unfold kas_descPart;rw [BD,a1];dsimp only
 by_cases c:q' > 0
 · rw [if_pos c];obtain⟨m,p2,b1,b2,b3,b4,b5,b6⟩:=Ku O (p:=N8 p' (n' - (q' + 1)) n') (n:=n') (nrem:=nrem) (by omega) (by omega) (by rw [AC];omega) (D_rev O (by omega) a7 a8);exact⟨m,p2,b1,(b2.trans (CS _ _ _)).trans a2,by rw [b3,AC,a3],b4,b5,b6⟩
 · rw [if_neg c];obtain⟨m,p2,b1,b2,b3,b4,b5,b6⟩:=Ku O (p:=p') (n:=n') (nrem:=nrem) (by omega) (by omega) (by omega) a7;exact⟨m,p2,b1,b2.trans a2,by rw [b3,a3],b4,b5,b6⟩
theorem Om {p:Array Nat}{n:Nat}(h1:1<=n)(hs:p.size=n):∃m p',run lt (kas_count n p)=(m,p')/\p'.Perm p/\p'.size=p.size/\1<=m/\m<=n/\S lt p' m:=by
 have s1:S lt p 1:=fun i j h2 h3=>by
   have:i=j:=by omega
   rw [this];exact O.ir _
 obtain⟨a1,a2,a3,a4⟩:=Kt O p (n - 1) 1 (A9 _) s1;unfold kas_count;rw [BD];generalize run lt (R3 p (n - 1) 1)=k at a1 a2 a3 a4 ⊢
 by_cases c:k=n
 · rw [if_pos (by rw [c];exact beq_self_eq_true n)];exact⟨k,p,rfl,Ck _,rfl,a1,by omega,a3⟩
 · rw [if_neg (by simpa using c)];have a5:lt (g p k) (g p (k - 1))=true:=a4.resolve_left (by omega)
   by_cases c1:k > 1
   · rw [if_pos c1];show ∃m p',run lt (if lt (g p 0) (g p (k - 1))=true then .ret (k,p) else kas_descPart k n (N8 p 0 k))=(m,p')/\_;cases e:lt (g p 0) (g p (k - 1)) with
     | true=>rw [if_pos rfl];exact⟨k,p,rfl,Ck _,rfl,a1,by omega,a3⟩
     | false =>
       rw [if_neg (by simp)]
       have al:∀i j,i < k->j < k->lt (g p i) (g p j)=false:=fun i j hi hj=>by
         have x1:=a3 j (k - 1) (by omega) (by omega);have x2:=a3 0 i (by omega) hi;exact O.le (O.le x1 e) x2
       have hd:D lt (N8 p 0 k) (k + 1):=by
         refine CT O (fun i j hij hj=>?_) a1 ?_
         · rw [e7 (by omega),e7 (by omega),if_pos ⟨by omega,by omega⟩,if_pos ⟨by omega,hj⟩];exact al _ _ (by omega) (by omega)
         · rw [e7 (by omega),e7 (by omega),if_pos ⟨by omega,by omega⟩,if_neg (by omega)];exact O.as (O.l1 a5 (al _ _ (by omega) (by omega)))
       obtain⟨m,p2,b1,b2,b3,b4,b5,b6⟩:=Kv O (p:=N8 p 0 k) (n:=k) (nrem:=n) a1 (by omega) (by rw [AC];omega) hd;exact⟨m,p2,b1,b2.trans (CS _ _ _),by rw [b3,AC],b4,b5,b6⟩
   · rw [if_neg c1];have hk:k=1:=by omega
     subst hk
     exact Kv O (A9 _) (by omega) (by omega) (CT O (fun i j h2 h3=>by
       have:i=j:=by omega
       rw [this];exact O.ir _) (A9 _) (O.as a5))
theorem On {p:Array Nat}{k:Nat}(h:S lt p k):∀(f l r:Nat),l<=r->r<=k->r - l<=f->(∀i,i < l->lt (g p k) (g p i)=false)->(∀i,r<=i->i < k->lt (g p k) (g p i)=true)->
   run lt (U1 p k f l r)<=k/\(∀i,i < run lt (U1 p k f l r)->lt (g p k) (g p i)=false)/\(∀i,run lt (U1 p k f l r)<=i->i < k->lt (g p k) (g p i)=true):=by
 intro xq
 induction xq with
 | zero =>
   intro l r h1 h2 h3 h4 h5;have:l=r:=by omega
   subst this;exact⟨h2,h4,h5⟩
 | succ f ih =>
   intro l r h1 h2 h3 h4 h5
   by_cases c:l>=r
   · have:l=r:=by omega
     subst this;unfold U1;rw [if_pos c];exact⟨h2,h4,h5⟩
   · have e:run lt (U1 p k (f + 1) l r)=run lt (if lt (g p k) (g p ((l + r) / 2))=true then U1 p k f l ((l + r) / 2) else U1 p k f ((l + r) / 2 + 1) r):=by
       conv=>lhs;unfold U1
       rw [if_neg c];rfl
     rw [e];cases e2:lt (g p k) (g p ((l + r) / 2)) with
     | true =>
       rw [if_pos rfl];exact ih l ((l + r) / 2) (by omega) (by omega) (by omega) h4 fun i i1 i2=>O.l1 e2 (h _ _ i1 i2)
     | false =>
       rw [if_neg (by simp)];exact ih ((l + r) / 2 + 1) r (by omega) h2 (by omega) (fun i i1=>O.le (h i ((l + r) / 2) (by omega) (by omega)) e2) h5
theorem bin_ok:∀(f:Nat) (p:Array Nat) (k:Nat),k + f<=p.size->S lt p k->(run lt (kas_bin f p k)).Perm p/\(run lt (kas_bin f p k)).size=p.size/\S lt (run lt (kas_bin f p k)) (k + f):=by
 intro xq
 induction xq with
 | zero =>
   intro p k _ h;exact⟨Ck _,rfl,h⟩
 | succ f ih =>
   intro p k hs h;obtain⟨a1,a2,a3⟩:=On O h k 0 k (by omega) (A9 _) (by omega) (fun i z=>by omega) (fun i z z2=>by omega)
   have e:run lt (kas_bin (f + 1) p k)=run lt (kas_bin f (bubble p k (k - run lt (U1 p k k 0 k))) (k + 1)):=by
     show run lt ((U1 p k k 0 k).bind fun l=>kas_bin f (bubble p k (k - l)) (k + 1))=_;rw [BD]
   rw [e];generalize run lt (U1 p k k 0 k)=l at a1 a2 a3 ⊢
   have hS:S lt (bubble p k (k - l)) (k + 1):=by
     intro i j hij hj;rw [g_bub (by omega) a1,g_bub (by omega) a1]
     by_cases ci:i=l
     · rw [if_pos ci]
       by_cases cj:j=l
       · rw [if_pos cj];exact O.ir _
       · rw [if_neg cj,if_pos ⟨by omega,by omega⟩];exact O.as (a3 _ (by omega) (by omega))
     · rw [if_neg ci]
       by_cases cj:j=l
       · rw [if_pos cj,if_neg (by omega)];exact a2 _ (by omega)
       · rw [if_neg cj]
         by_cases c2:l < j
         · rw [if_pos ⟨c2,by omega⟩]
           by_cases c3:l < i
           · rw [if_pos ⟨c3,by omega⟩];exact h _ _ (by omega) (by omega)
           · rw [if_neg (by omega)];exact h _ _ (by omega) (by omega)
         · rw [if_neg (by omega),if_neg (by omega)];exact h _ _ hij (by omega)
   obtain⟨b1,b2,b3⟩:=ih (bubble p k (k - l)) (k + 1) (by rw [bubble_size];omega) hS;exact⟨b1.trans (bubble_perm _ _ _),by rw [b2,bubble_size],by rw [show k + (f + 1)=k + 1 + f by omega];exact b3⟩
theorem sort_ok {n:Nat}(h1:1<=n):(run lt (P4 n)).Perm (List.toArray (D1 n))/\(run lt (P4 n)).size=n/\S lt (run lt (P4 n)) n:=by
 have hz:(List.toArray (D1 n)).size=n:=by simp
 obtain⟨m,p,a1,a2,a3,a4,a5,a6⟩:=Om O (p:=List.toArray (D1 n)) h1 hz;unfold P4;rw [BD,a1];dsimp only
 by_cases c:m < n
 · rw [if_pos c,Nat.max_eq_left a4];obtain⟨b1,b2,b3⟩:=bin_ok O (n - m) p m (by omega) a6;rw [show m + (n - m)=n by omega] at b3;exact⟨b1.trans a2,by rw [b2,a3,hz],b3⟩
 · rw [if_neg c];have:m=n:=by omega
   subst this;exact⟨a2,by rw [<- hz,<- a3];rfl,a6⟩
omit O
def InQ {α:Type}(n:Nat)(Q:α->Prop):KasT α->Prop
 | .ret a=>Q a
 | .ask i j k=>i < n/\j < n/\∀b,InQ n Q (k b)
theorem BE {α β:Type}{n:Nat}{Q:α->Prop}{R:β->Prop}{f:α->KasT β}(hf:∀a,Q a->InQ n R (f a)):∀t:KasT α,InQ n Q t->InQ n R (t.bind f)
 | .ret a,h=>hf a h
 | .ask _ _ k,h=>⟨h.1,h.2.1,fun b=>BE hf (k b) (h.2.2 b)⟩
def En (n:Nat)(p:Array Nat):Prop:=0 < n/\∀x∈p,x < n
theorem En.g {n:Nat}{p:Array Nat}(h:En n p)(i:Nat):p.getD i 0 < n:=by
 by_cases c:i < p.size
 · rw [show p.getD i 0=p[i] by simp [Array.getD,c]];exact h.2 _ (Array.getElem_mem c)
 · rw [show p.getD i 0=0 by simp [Array.getD,c]];exact h.1
theorem En.perm {n:Nat}{p q:Array Nat}(h:En n p)(hp:q.Perm p):En n q:=⟨h.1,fun x hx=>h.2 x (hp.mem_iff.mp hx)⟩
theorem En.rev {n:Nat}{p:Array Nat}(h:En n p)(i j:Nat):En n (N8 p i j):=h.perm (CS _ _ _)
theorem Kw {n:Nat}{p:Array Nat}(h:En n p):∀f m,InQ n (fun _=>True) (R3 p f m):=by
 intro xq
 induction xq with
 | zero =>
   intro _;exact trivial
 | succ f ih =>
   intro m
   exact⟨h.g _,h.g _,fun b=>by
   cases b with
   | true=>exact trivial
   | false=>exact ih (m + 1)⟩
theorem Oo {n:Nat}:∀f p m q,En n p->InQ n (fun r=>En n r.1) (Z7 f p m q):=by
 intro xq
 induction xq with
 | zero =>
   intro _ _ _ h;exact h
 | succ f ih =>
   intro p m q h
   exact⟨h.g _,h.g _,fun b=>by
   cases b with
   | true =>
     show InQ n _ (if q > 0 then _ else _)
     by_cases c:q > 0
     · rw [if_pos c];exact ih _ _ _ (h.rev _ _)
     · rw [if_neg c];exact ih _ _ _ h
   | false =>
     refine⟨h.g _,h.g _,fun d=>?_⟩;cases d with
     | true=>exact h
     | false=>exact ih _ _ _ h⟩
theorem Kx {n m k:Nat}{p:Array Nat}(h:En n p):InQ n (fun r=>En n r.2) (kas_tail3 m k p):=by
 unfold kas_tail3;refine BE (Q:=fun _=>True) (fun a _=>?_) _ (Kw (h.rev _ _) _ _);exact(h.rev _ _:En n _)
theorem Ky {n m k:Nat}{p:Array Nat}(h:En n p):InQ n (fun r=>En n r.2) (kas_descPart m k p):=BE (fun r hr=>by
   by_cases c:r.2.2 > 0
   · rw [if_pos c];exact Kx (hr.rev _ _)
   · rw [if_neg c];exact Kx hr) _ (Oo _ _ _ _ h)
theorem Op {n k:Nat}{p:Array Nat}(h:En n p):InQ n (fun r=>En n r.2) (kas_count k p):=BE (fun m _=>by
   by_cases c:(m == k)=true
   · rw [if_pos c];exact h
   · rw [if_neg c]
     by_cases c1:m > 1
     · rw [if_pos c1];refine⟨h.g _,h.g _,fun b=>?_⟩;cases b with
       | true=>exact h
       | false=>exact Ky (h.rev _ _)
     · rw [if_neg c1];exact Ky h) _ (Kw h _ _)
theorem Oq {n k:Nat}{p:Array Nat}(h:En n p):∀f l r,InQ n (fun _=>True) (U1 p k f l r):=by
 intro xq
 induction xq with
 | zero =>
   intro _ _;exact trivial
 | succ f ih =>
   intro l r;unfold U1
   by_cases c:l>=r
   · rw [if_pos c];exact trivial
   · rw [if_neg c];refine⟨h.g _,h.g _,fun b=>?_⟩;cases b with
     | true=>exact ih _ _
     | false=>exact ih _ _
theorem bin_in {n:Nat}:∀f p k,En n p->InQ n (fun _=>True) (kas_bin f p k):=by
 intro xq
 induction xq with
 | zero =>
   intro _ _ _;exact trivial
 | succ f ih =>
   intro p k h;exact BE (fun l _=>ih _ _ (h.perm (bubble_perm _ _ _))) _ (Oq h k 0 k)
theorem sort_in {n:Nat}(h1:1<=n):InQ n (fun _=>True) (P4 n):=BE (fun r hr=>by
   by_cases c:r.1 < n
   · rw [if_pos c];exact bin_in _ _ _ hr
   · rw [if_neg c];exact trivial) _ (Op ⟨h1,fun x hx=>by simpa using hx⟩)
theorem wp_run {α:Type}{lt:Nat->Nat->Bool}{n:Nat}{P:α->Prop}{ask:Nat->Nat->(Bool->Shared->Prop)->Shared->Prop}{Q:α->Shared->Prop}{s:Shared}(h:∀i j C,i < n->j < n->C (lt i j) s->ask i j C s):∀t:KasT α,InQ n P t->Q (run lt t) s->t.kasWp ask Q s
 | .ret a,_,q=>q
 | .ask i j k,hi,q=>h i j _ hi.1 hi.2.1 (wp_run h (k (lt i j)) (hi.2.2 _) q)
theorem out_ok {α:Type}(lt:α->α->Bool)(O:(∀a,lt a a=false)/\(∀a b c,lt a b=true->lt b c=true->lt a c=true)/\(∀a b c,lt a c=true->lt a b=true\/lt b c=true))(d:α)(xs:List α)(h1:1<=xs.length) :
   let p:=run (fun i j=>lt (xs.getD i d) (xs.getD j d)) (P4 xs.length)
   (p.toList.map fun i=>xs.getD i d).Perm xs/\(p.toList.map fun i=>xs.getD i d).Pairwise (fun a b=>lt b a=false):=by
 intro p;have OO:Ord fun i j=>lt (xs.getD i d) (xs.getD j d):=⟨fun a=>O.1 _,fun a b c=>O.2.1 _ _ _,fun a b c=>O.2.2 _ _ _⟩;obtain⟨a1,a2,a3⟩:=sort_ok OO h1;constructor
 · have hp:p.toList.Perm (D1 xs.length):=Gd.mp a1;have:=hp.map fun i=>xs.getD i d;refine this.trans (List.Perm.of_eq ?_)
   apply List.ext_getElem (by simp)
   intro i h2 h3;simp [h3]
 · rw [X7];intro i j hi hj hij;have hi':i < p.size:=by simpa using hi
   have hj':j < p.size:=by simpa using hj
   have:=a3 i j (b8 hij) (by rw [<- a2];exact hj');simp only [List.getElem_map,Array.getElem_toList];have e1:g p i=p[i]:=by unfold g;simp [Array.getD,hi']
   have e2:g p j=p[j]:=by unfold g;simp [Array.getD,hj']
   have this':lt (xs.getD (g p j) d) (xs.getD (g p i) d)=false:=this;rw [e1,e2] at this';exact this'
end Kr
end L2
end
section
namespace L2
open PySem PySem.W PySem.Spec PyProof.Rows
def T4 (lt:Nat->Nat->Bool)(vs:List Value):List Value:=if vs.length < 2 then vs else(Kr.run lt (P4 vs.length)).toList.map fun i=>vs.getD i N4
section
variable {prog:B2}{w:World}{A:Around}{E:Value->Shared->Prop}{s:Shared}
def EM (h h1:Heap)(a:Addr):Prop:=∀b o,b≠a->h.get? b=some o->h1.get? b=some o
theorem Kz {a:Addr}{vs:List Value}{n:Nat}{lt:Nat->Nat->Bool}{P:PySem.Fin->Shared->Prop}(ho:s.heap.get? a=some (seqObj "list" vs.toArray n))(h64:vs.length < 64)
   (hk:2<=vs.length->∀h1,EM s.heap h1 a->∃κ,(∀Q:SortKind->Shared->Prop,Q κ { s with heap:=h1 }->wpAny (model prog w) A (keyKind' vs.toArray) Q E { s with heap:=h1 })/\∀i j (C:Bool->Shared->Prop),i < vs.length->j < vs.length->C (lt i j) { s with heap:=h1 }->kas_ask prog w A κ vs i j C { s with heap:=h1 })
   (h:∀h2 e,EM s.heap h2 a->h2.get? a=some (seqObj "list" (T4 lt vs).toArray e)->P (.done (.ret .none)) { s with heap:=h2 }):wpAny (model prog w) A (M1.«list.sort» ⟨[.ref a],[]⟩) P E s:=by
 have ha:a < s.heap.objs.size:=B9 ho;have hsz:vs.toArray.size=vs.length:=by simp
 rw [list_sort_plain];refine A0 (listItems_at ho rfl ?_);refine A0 (listUpdate_at ho rfl ?_ (by rw [hsz,M7];omega) (G4 _));obtain⟨e1,ho1⟩:∃e1,(s.heap.update a (P9 fun _=>(#[]:Array Value))).get? a=some (seqObj "list" #[] e1):=⟨_,get?_update_seq ho fun _=>#[]⟩;refine A0 (seqEpoch_at ho1 rfl ?_);refine A0 (wpAny_newTuple ?_ (by show vs.length<=_;rw [M7];omega));refine A0 (wpAny_newList ?_ (G4 _));refine J5 ?_;show wpAny (model prog w) A _ P E { s with heap:=((s.heap.update a (P9 fun _=>(#[]:Array Value))).push (seqObj "tuple" vs.toArray 0)).push (seqObj "list" #[] 0) };have ho3:=B6 (seqObj "list" #[] 0) (B6 (seqObj "tuple" vs.toArray 0) ho1)
 have k3:EM s.heap (((s.heap.update a (P9 fun _=>(#[]:Array Value))).push (seqObj "tuple" vs.toArray 0)).push (seqObj "list" #[] 0)) a:=fun b o hb e=>
   B6 _ (B6 _ (((P8 s.heap a (P9 fun _=>(#[]:Array Value))).2 b hb).trans e))
 generalize ((s.heap.update a (P9 fun _=>(#[]:Array Value))).push (seqObj "tuple" vs.toArray 0)).push (seqObj "list" #[] 0)=h3 at ho3 k3 ⊢;dsimp only
 have last:∀out:Array Value,out.size=vs.length->out=(T4 lt vs).toArray->∃e,(h3.update a (P9 fun _=>out)).get? a=some (seqObj "list" (T4 lt vs).toArray e)/\EM s.heap (h3.update a (P9 fun _=>out)) a:=fun out _ eo=>
   ⟨_,by rw [<- eo];exact get?_update_seq ho3 fun _=>out,fun b o hb e=>((P8 h3 a (P9 fun _=>out)).2 b hb).trans (k3 b o hb e)⟩
 by_cases h2:vs.toArray.size < 2
 · rw [if_pos h2,if_pos h2];refine A0 (A4 ?_);rw [StateT.run_pure];refine A0 (A4 ?_);dsimp only
   have eo:(arrOf (SortSt.mk' general' (vs.toArray.zip vs.toArray) #[] 7 none)).map (·.2)=(T4 lt vs).toArray:=by
     have e2:(arrOf (SortSt.mk' general' (vs.toArray.zip vs.toArray) #[] 7 none))=vs.toArray.zip vs.toArray:=rfl;rw [e2];unfold T4;rw [if_pos (by omega)]
     apply Array.toList_inj.mp
     rw [Array.toList_map,Array.toList_zip];exact List.map_snd_zip (A9 _)
   obtain⟨e,x1,x2⟩:=last _ (by rw [eo];unfold T4;rw [if_pos (by omega)];simp) eo;refine A0 (seqEpoch_at ho3 rfl ?_);refine A0 (listUpdate_at ho3 rfl ?_ (G4 _) (by rw [eo];unfold T4;rw [if_pos (by omega),hsz,M7];omega));simp only [bne_self_eq_false,J7,if_false];exact A4 (h _ e x2 x1)
 · rw [if_neg h2,if_neg h2];have l2:2<=vs.length:=by omega
   obtain⟨κ,q1,q2⟩:=hk l2 h3 k3;refine A0 (q1 _ ?_);have wp:=Kr.wp_run (Q:=fun p s'=>p=Kr.run lt (P4 vs.length)/\s'={ s with heap:=h3 }) (P:=fun _=>True) q2 (P4 vs.length) (Kr.sort_in (by omega)) ⟨rfl,rfl⟩;refine A0 (F9 (kat_run (E:=E) (Q:=fun st' s'=>∃p:Array Nat,p.size=vs.length/\arrOf st'=p.map (i5 (vs.toArray.zip vs.toArray))/\failedOf st'=none/\p=Kr.run lt (P4 vs.length)/\s'={ s with heap:=h3 }) rfl l2 h64 (fun p' st' s' a1 a2 a3 a4=>⟨p',a1,a2,a3,a4⟩) wp) ?_ fun _ _ e=>e);rintro⟨⟨⟩,st'⟩ s' ⟨p,hp,har,hf,ep,rfl⟩;dsimp only
   have eo:(arrOf st').map (·.2)=(T4 lt vs).toArray:=by
     rw [kat_snds rfl har,ep];unfold T4;rw [if_neg (by omega)]
   have so:((arrOf st').map (·.2)).size=vs.length:=by rw [eo];unfold T4;rw [if_neg (by omega),D8,A7,F4,<- ep,hp]
   obtain⟨e,x1,x2⟩:=last _ so eo;refine A0 (seqEpoch_at ho3 rfl ?_);refine A0 (listUpdate_at ho3 rfl ?_ (G4 _) (by rw [so,M7];omega));rw [hf];simp only [bne_self_eq_false,J7,if_false];exact A4 (h _ e x2 x1)
theorem KA {v:Value}{vs:List Value}{lt:Nat->Nat->Bool}{Q:Value->Shared->Prop}(h64:vs.length < 64)
   (hcol:∀(R:List Value->Shared->Prop),(∀h1 tk,(∀b o,s.heap.get? b=some o->h1.get? b=some o)->s.heap.objs.size<=h1.objs.size->R vs { s with heap:=h1,toks:=tk })->wpAny (model prog w) A.in1 (collect v) R E s)
   (hk:2<=vs.length->∀(A:Around) (E:Value->Shared->Prop) h1 tk,(∀b o,s.heap.get? b=some o->h1.get? b=some o)->∃κ,(∀Q:SortKind->Shared->Prop,Q κ { s with heap:=h1,toks:=tk }->wpAny (model prog w) A (keyKind' vs.toArray) Q E { s with heap:=h1,toks:=tk })/\∀i j (C:Bool->Shared->Prop),i < vs.length->j < vs.length->C (lt i j) { s with heap:=h1,toks:=tk }->kas_ask prog w A κ vs i j C { s with heap:=h1,toks:=tk })
   (h:∀h2 tk D e,(∀b o,s.heap.get? b=some o->h2.get? b=some o)->s.heap.objs.size<=D->h2.get? D=some (seqObj "list" (T4 lt vs).toArray e)->Q (.ref D) { s with heap:=h2,toks:=tk }) :
   wpAny (model prog w) A (call (.builtin "sorted") [v]) Q E s:=by
 refine Calls.call_function_entry kind_sorted plain_sorted entry_sorted (args_sorted1 _) ?_;unfold M1.«sorted»;refine A0 (m:=checkCount "sorted" 1 1 _) (A4 ?_);refine A0 (hcol _ fun h1 tk k1 z1=>?_);refine A0 (wpAny_newList ?_ (by rw [M7];omega));have hoL:(h1.push (seqObj "list" vs.toArray 0)).get? h1.objs.size=some (seqObj "list" vs.toArray 0):=E1 _ rfl;have kL:∀b o,s.heap.get? b=some o->(h1.push (seqObj "list" vs.toArray 0)).get? b=some o:=fun b o e=>B6 _ (k1 b o e);have ne:∀b o,s.heap.get? b=some o->b≠h1.objs.size:=fun b o e=>D0 (L3 (B9 e) z1);refine A0 (J5 (M6 slot_list_sort ⟨_,hoL,rfl⟩ entry_list_sort ?body (args_list_sort _)))
 case body=>
   refine Kz (lt:=lt) (s:={ s with heap:=h1.push (seqObj "list" vs.toArray 0),toks:=tk }) hoL h64 (fun l2 h3 k3=>?_) fun h3 e k3 e3=>?_
   · exact hk l2 _ _ h3 tk fun b o x=>k3 b o (ne b o x) (kL b o x)
   · exact⟨_,rfl,A4 ⟨_,rfl,h h3 tk _ e (fun b o x=>k3 b o (ne b o x) (kL b o x)) z1 e3⟩⟩
end
end L2
end
section
namespace L2
open PySem PySem.W PySem.Spec PyProof.Rows
def L7:Key->Key->Bool
 | .inl a,.inl b=>decide (a < b)
 | .inr a,.inr b=>decide (a.cps.toList < b.cps.toList)
 | .inl _,.inr _=>true
 | .inr _,.inl _=>false
def lexK:List Key->List Key->Bool
 | [],[]=>false
 | [],_::_=>true
 | _::_,[]=>false
 | x::xs,y::ys=>if x=y then lexK xs ys else L7 x y
theorem Os {a b:Str}(h:a.cps.toList=b.cps.toList):a=b:=by
 cases a;cases b
 congr 1
 exact Array.toList_inj.mp h
theorem Hj (x:Key):L7 x x=false:=by
 cases x with
 | inl a=>exact decide_eq_false (Int.lt_irrefl a)
 | inr a=>exact decide_eq_false (List.lt_irrefl _)
theorem Ot {x y z:Key}(h1:L7 x y=true)(h2:L7 y z=true):L7 x z=true:=by
 cases x <;> cases y <;> cases z <;> simp only [L7,decide_eq_true_eq,reduceCtorEq] at * <;> first | omega | exact List.lt_trans h1 h2 | skip
theorem Ou {x y:Key}(h:x≠y):L7 x y=true\/L7 y x=true:=by
 cases x with
 | inl a =>
   cases y with
   | inl b =>
     have:a≠b:=fun e=>h (by rw [e]);simp only [L7,decide_eq_true_eq];omega
   | inr b=>exact .inl rfl
 | inr a =>
   cases y with
   | inl b=>exact .inr rfl
   | inr b =>
     have hn:a.cps.toList≠b.cps.toList:=fun e=>h (by rw [Os e]);simp only [L7,decide_eq_true_eq]
     by_cases c:a.cps.toList < b.cps.toList
     · exact .inl c
     · by_cases c2:b.cps.toList < a.cps.toList
       · exact .inr c2
       · exact absurd (List.le_antisymm (List.not_lt.mp c2) (List.not_lt.mp c)) hn
theorem KB:∀x:List Key,lexK x x=false:=by
 intro xq
 induction xq with
 | nil =>
   exact rfl
 | cons x xs ih =>
   show(if x=x then lexK xs xs else _)=false;rw [if_pos rfl,ih]
theorem EN:∀{x y z:List Key},lexK x y=true->lexK y z=true->lexK x z=true
 | [],[],_,h,_=>by cases h
 | [],_::_,[],_,h=>by cases h
 | [],_::_,_::_,_,_=>rfl
 | _::_,[],_,h,_=>by cases h
 | _::_,_::_,[],_,h=>by cases h
 | x :: xs, y :: ys, z :: zs, h1, h2 => by
   change (if x=y then lexK xs ys else L7 x y)=true at h1
   change (if y=z then lexK ys zs else L7 y z)=true at h2
   show(if x=z then lexK xs zs else L7 x z)=true
   by_cases c1:x=y
   · rw [if_pos c1] at h1;subst c1
     by_cases c2:x=z
     · rw [if_pos c2] at h2 ⊢;exact EN h1 h2
     · rw [if_neg c2] at h2 ⊢;exact h2
   · rw [if_neg c1] at h1
     by_cases c2:y=z
     · subst c2;rw [if_neg c1];exact h1
     · rw [if_neg c2] at h2;have h3:=Ot h1 h2
       by_cases c3:x=z
       · rw [c3,Hj] at h3;cases h3
       · rw [if_neg c3];exact h3
theorem Hk:∀{x y:List Key},x≠y->lexK x y=true\/lexK y x=true
 | [],[],h=>absurd rfl h
 | [],_::_,_=>.inl rfl
 | _::_,[],_=>.inr rfl
 | x :: xs, y :: ys, h => by
   show(if x=y then lexK xs ys else L7 x y)=true\/(if y=x then lexK ys xs else L7 y x)=true
   by_cases c:x=y
   · rw [if_pos c,if_pos c.symm];exact Hk fun e=>h (by rw [c,e])
   · rw [if_neg c,if_neg (fun e=>c e.symm)];exact Ou c
theorem KC {x y z:List Key}(h:lexK x z=true):lexK x y=true\/lexK y z=true:=by
 by_cases c:x=y
 · subst c;exact .inr h
 · rcases Hk c with h1 | h1
   · exact .inl h1
   · exact .inr (EN h1 h)
theorem KD {x y:List Key}(h1:lexK x y=false)(h2:lexK y x=false):x=y:=by
 by_cases c:x=y
 · exact c
 · rcases Hk c with h | h
   · rw [h1] at h;cases h
   · rw [h2] at h;cases h
def Al:List Key->List Key->Prop
 | .inl _::xs,.inl _::ys=>Al xs ys
 | .inr _::xs,.inr _::ys=>Al xs ys
 | _::_,_::_=>False
 | _,_=>True
def KeyV:Key->Value->Prop
 | .inl i,v=>∃t,v=.int i t
 | .inr z,v=>∃t,v=.str z t
inductive w9:List Key->List Value->Prop
 | nil:w9 [] []
 | cons {k v ks vs} (h:KeyV k v) (t:w9 ks vs):w9 (k::ks) (v::vs)
section
variable {prog:B2}{w:World}{A:Around}{E:Value->Shared->Prop}{s:Shared}
variable {Q:Bool->Shared->Prop}
theorem Ov {x y:Key}{u v:Value}{xs ys:List Key}(hx:KeyV x u)(hy:KeyV y v)(al:Al (x::xs) (y::ys))(h:Q (decide (x=y)) s):wpAny (model prog w) A (eqBool u v) Q E s:=by
 cases x with
 | inl a =>
   cases y with
   | inl b =>
     obtain⟨t,rfl⟩:=hx;obtain⟨t',rfl⟩:=hy;refine wpAny_eqBool_int ?_
     have e:(a == b)=decide ((L5 a:Key)=.inl b):=by
       rw [Cf];exact decide_eq_decide.mpr ⟨fun e=>by rw [e],fun e=>by injection e⟩
     rw [e];exact h
   | inr b=>exact al.elim
 | inr a =>
   cases y with
   | inl b=>exact al.elim
   | inr b =>
     obtain⟨t,rfl⟩:=hx;obtain⟨t',rfl⟩:=hy;refine eqBool_str ?_
     have e:(a == b)=decide ((C9 a:Key)=.inr b):=by
       rw [Cf];exact decide_eq_decide.mpr ⟨fun e=>by rw [e],fun e=>by injection e⟩
     rw [e];exact h
theorem lt_key {x y:Key}{u v:Value}{xs ys:List Key}{Q:Value->Shared->Prop}(hx:KeyV x u)(hy:KeyV y v)(al:Al (x::xs) (y::ys))(h:Q (.bool (L7 x y)) s):wpAny (model prog w) A (Q1 .Lt u v) Q E s:=by
 cases x with
 | inl a =>
   cases y with
   | inl b =>
     obtain⟨t,rfl⟩:=hx;obtain⟨t',rfl⟩:=hy;exact PyProof.Rows.lt_int h
   | inr b=>exact al.elim
 | inr a =>
   cases y with
   | inl b=>exact al.elim
   | inr b =>
     obtain⟨t,rfl⟩:=hx;obtain⟨t',rfl⟩:=hy;exact PyProof.Rows.lt_str h
theorem Hl {x y:Key}{u v:Value}{xs ys:List Key}{b:Bool}(hx:KeyV x u)(hy:KeyV y v)(al:Al (x::xs) (y::ys))(h:Q (L7 x y) s):wpAny (model prog w) A (oneLt' b u v) Q E s:=by
 cases b with
 | false=>exact kat_one u v (lt_key hx hy al h)
 | true =>
   cases x with
   | inl a =>
     cases y with
     | inl b =>
       obtain⟨t,rfl⟩:=hx;obtain⟨t',rfl⟩:=hy;exact oneLt_int h
     | inr b=>exact al.elim
   | inr a =>
     cases y with
     | inl b=>exact al.elim
     | inr b =>
       obtain⟨t,rfl⟩:=hx;obtain⟨t',rfl⟩:=hy;exact oneLt_str h
theorem Ow {b fin:Bool}:∀{xs ys:List Key} {us vs:List Value} (i:Nat),w9 xs us->w9 ys vs->Al xs ys->fin=decide (us.length < vs.length)->Q (lexK xs ys) s->KatLex prog w A b fin Q (us.zip vs) i s:=by
 intro xs
 induction xs with
 | nil =>
   intro ys us vs i hx hy al hf h;cases hx;refine kat_nil ?_;cases hy with
   | nil=>rw [hf];exact h
   | cons _ _=>rw [hf];exact h
 | cons x xs ih =>
   intro ys us vs i hx hy al hf h;cases hx with
   | @cons _ u _ us' hx1 hx2 =>
     cases hy with
     | nil=>rw [List.zip_nil_right];refine kat_nil ?_;rw [hf];exact h
     | @cons y v ys' vs' hy1 hy2 =>
       rw [Af];refine kat_cons (Ov hx1 hy1 al ?_);have h':Q (if x=y then lexK xs ys' else L7 x y) s:=h
       by_cases c:x=y
       · rw [decide_eq_true c];rw [if_pos c] at h';refine kat_yes (ih (i + 1) hx2 hy2 ?_ ?_ h')
         · cases x <;> cases y <;> first | exact al | exact al.elim
         · rw [hf,D3,D3];exact decide_eq_decide.mpr (by omega)
       · rw [decide_eq_false c];rw [if_neg c] at h';exact kat_no (Hl hx1 hy1 al h')
def TupK (h:Heap)(v:Value)(ks:List Key):Prop:=∃a o items n,v=.ref a/\h.get? a=some o/\o.cls=.type "tuple"/\o.data=.seq items n/\w9 ks items.toList
theorem Ox {b:Bool}{u v:Value}{xs ys:List Key}(hx:TupK s.heap u xs)(hy:TupK s.heap v ys)(al:Al xs ys)(h:Q (lexK xs ys) s):wpAny (model prog w) A (keyLt' (tuples' b) u v) Q E s:=by
 obtain⟨a,o,items,n,rfl,ho,hc,hd,hk⟩:=hx;obtain⟨a',o',items',n',rfl,ho',hc',hd',hk'⟩:=hy;exact kat_lt ho hd ho' hd' (Ow 0 hk hk' al (by rw [F4,F4]) h)
end
end L2
end
section
namespace L2
open PySem PySem.W PySem.Spec PyProof.Rows
theorem Hm:∀{ks:List Key} {us:List Value},Vals (ks.map kV) us->w9 ks us
 | [],_,h=>by cases h;exact .nil
 | .inl i :: ks, _, h => by
   cases h with
   | cons h1 h2=>exact .cons h1 (Hm h2)
 | .inr z :: ks, _, h => by
   cases h with
   | cons h1 h2=>exact .cons h1 (Hm h2)
section
variable {X:Cx}
variable {ks:List Key}{kss:List (List Key)}
theorem Hn {pins:List (Addr×Obj)}{σ:St}{H:Hp}{s:Shared}(I:Inv X pins σ H s){a:Addr}(h:SqT X.K H a (ks.map kV)):TupK s.heap (.ref a) ks:=by
 obtain⟨its,r,⟨o,ho,hc,n,hd⟩,_⟩:=I.tuple h;exact⟨a,o,its.toArray,n,rfl,ho,hc,hd,Hm r⟩
theorem TupK.keep {h h':Heap}{v:Value}(t:TupK h v ks)(k:∀b o,h.get? b=some o->h'.get? b=some o):TupK h' v ks:=by
 obtain⟨a,o,its,n,e,ho,hc,hd,hk⟩:=t;exact⟨a,o,its,n,e,k _ _ ho,hc,hd,hk⟩
def KM (K:A5)(H:Hp):Nat->V->List Key->Prop
 | 0,y,ks=>∃i,y=.int i/\ks=[.inl i]
 | 1,y,ks=>∃z,y=.str z/\ks=[.inr z]
 | _,y,ks=>∃a,y=.ref a/\SqT K H a (ks.map kV)/\ks≠[]
def Kv1 (h:Heap):Nat->Value->List Key->Prop
 | 0,u,ks=>∃i t,u=.int i t/\ks=[.inl i]
 | 1,u,ks=>∃z t,u=.str z t/\ks=[.inr z]
 | _,u,ks=>TupK h u ks/\ks≠[]
def ltIx (kss:List (List Key))(i j:Nat):Bool:=lexK (kss.getD i []) (kss.getD j [])
theorem BF (kss:List (List Key)):Kr.Ord (ltIx kss):=⟨fun _=>KB _,fun _ _ _ h1 h2=>EN h1 h2,fun _ _ _ h=>KC h⟩
def l6 (kss:List (List Key)):Prop:=∀x∈kss,∀y∈kss,Al x y
theorem KF {pins:List (Addr×Obj)}{σ:St}{H:Hp}{s:Shared}(I:Inv X pins σ H s)(m:Nat){ys:List V}{vs:List Value}(a:Vals ys vs)(b:Paired (KM X.K H m) ys kss):Paired (Kv1 s.heap m) vs kss:=by
 induction a generalizing kss with
 | nil=>cases b;exact .nil
 | cons h1 _ ih => cases b with
   | cons h2 r2 =>
     refine .cons ?_ (ih r2);rcases m with _ | _ | m
     · obtain⟨i,e1,e2⟩:=h2;subst e1;obtain⟨t,rfl⟩:=h1;exact⟨i,t,rfl,e2⟩
     · obtain⟨i,e1,e2⟩:=h2;subst e1;obtain⟨t,rfl⟩:=h1;exact⟨i,t,rfl,e2⟩
     · obtain⟨a,e1,e2,e3⟩:=h2;subst e1;cases h1;exact⟨Hn I e2,e3⟩
theorem Kv1.keep {h h':Heap}(k:∀b o,h.get? b=some o->h'.get? b=some o)(m:Nat){u:Value}(x:Kv1 h m u ks):Kv1 h' m u ks:=by
 match m,x with
 | 0,x=>exact x
 | 1,x=>exact x
 | _ + 2,x=>exact⟨x.1.keep k,x.2⟩
theorem AD {α β:Type}{F:α->β->Prop}{xs:List α}{ys:List β}(h:Paired F xs ys)(d:α)(e:β):∀i,i < xs.length->F (xs.getD i d) (ys.getD i e):=by
 induction h with
 | nil=>intro i hi;exact absurd hi (u3 _)
 | cons h1 _ ih =>
   intro i hi;cases i with
   | zero=>exact h1
   | succ i=>exact ih i (Nat.lt_of_succ_lt_succ hi)
theorem KG {α β:Type}{F:α->β->Prop}{xs:List α}{ys:List β}(h:Paired F xs ys):∀x∈xs,∃y∈ys,F x y:=by
 induction h with
 | nil=>intro x hx;cases hx
 | cons h1 _ ih =>
   intro x hx;rcases B7.mp hx with rfl | hx
   · exact⟨_,B8,h1⟩
   · obtain⟨y,hy,hf⟩:=ih x hx;exact⟨y,B5 _ hy,hf⟩
theorem Oy {h:Heap}{m:Nat}{vs:List Value}(p:Paired (Kv1 h (m + 2)) vs kss):∃fs,KatTups h vs fs/\fs.length=vs.length/\∀f∈fs,∃k r,(k::r)∈kss/\KeyV k f:=by
 induction p with
 | nil=>exact⟨[],trivial,rfl,fun _ z=>nomatch z⟩
 | cons h1 _ ih =>
   obtain⟨⟨a,o,its,n,rfl,ho,hc,hd,hk⟩,hne⟩:=h1;obtain⟨fs,t,hl,hf⟩:=ih;cases e:its.toList with
   | nil=>rw [e] at hk;cases hk;exact absurd rfl hne
   | cons f us =>
     rw [e] at hk;cases hk with
     | @cons k _ ks _ h2 h3 =>
       have ef:its[0]?=some f:=by rw [<- O0,e];rfl
       refine⟨f::fs,KatTups.cons ho hc hd ef t,by rw [D3,D3,hl],fun g hg=>?_⟩;rcases B7.mp hg with rfl | hg
       · exact⟨k,ks,B8,h2⟩
       · obtain⟨k',r',h4,h5⟩:=hf g hg;exact⟨k',r',B5 _ h4,h5⟩
theorem Ho {prog:B2}{w:World}{s:Shared}{m:Nat}{vs:List Value}(h2:2<=vs.length)(p:Paired (Kv1 s.heap m) vs kss)(al:l6 kss)(A:Around)(E:Value->Shared->Prop)(h1:Heap)(tk:Nat)(k:∀b o,s.heap.get? b=some o->h1.get? b=some o) :
   ∃κ,(∀Q:SortKind->Shared->Prop,Q κ { s with heap:=h1,toks:=tk }->wpAny (model prog w) A (keyKind' vs.toArray) Q E { s with heap:=h1,toks:=tk })/\∀i j (C:Bool->Shared->Prop),i < vs.length->j < vs.length->C (ltIx kss i j) { s with heap:=h1,toks:=tk }->kas_ask prog w A κ vs i j C { s with heap:=h1,toks:=tk }:=by
 have p1:Paired (Kv1 h1 m) vs kss:=Paired.imp' (fun _ _ x=>x.keep k m) p;have lk:=Bj p1
 have mem:∀i,i < vs.length->kss.getD i []∈kss:=fun i hi=>by
   rw [M8,C4 (by omega)];exact q8 _
 match m,p1 with
 | 0, p1 =>
   refine⟨oneType',fun Q q=>kas_kind (T:=.type "int") h2 (fun v hv=>?_) rfl rfl q,fun i j C hi hj c=>?_⟩
   · obtain⟨ks,_,i,t,rfl,_⟩:=KG p1 v hv;exact Looks.of_pure rfl
   · obtain⟨a,t,e1,e2⟩:=AD p1 .none [] i hi;obtain⟨b,t',e3,e4⟩:=AD p1 .none [] j hj;unfold kas_ask;unfold ltIx at c;rw [e1,e3,keyLt'_oneType];rw [e2,e4] at c;refine Hl (x:=.inl a) (y:=.inl b) (xs:=[]) (ys:=[]) ⟨t,rfl⟩ ⟨t',rfl⟩ trivial ?_
     have e:lexK [.inl a] [.inl b]=L7 (.inl a) (.inl b):=by
       show(if(L5 a:Key)=.inl b then false else L7 (.inl a) (.inl b))=_
       by_cases c:(L5 a:Key)=.inl b
       · rw [if_pos c,c,Hj]
       · rw [if_neg c]
     rw [<- e];exact c
 | 1, p1 =>
   refine⟨oneType',fun Q q=>kas_kind (T:=.type "str") h2 (fun v hv=>?_) rfl rfl q,fun i j C hi hj c=>?_⟩
   · obtain⟨ks,_,i,t,rfl,_⟩:=KG p1 v hv;exact Looks.of_pure rfl
   · obtain⟨a,t,e1,e2⟩:=AD p1 .none [] i hi;obtain⟨b,t',e3,e4⟩:=AD p1 .none [] j hj;unfold kas_ask;unfold ltIx at c;rw [e1,e3,keyLt'_oneType];rw [e2,e4] at c;refine Hl (x:=.inr a) (y:=.inr b) (xs:=[]) (ys:=[]) ⟨t,rfl⟩ ⟨t',rfl⟩ trivial ?_
     have e:lexK [.inr a] [.inr b]=L7 (.inr a) (.inr b):=by
       show(if(C9 a:Key)=.inr b then false else L7 (.inr a) (.inr b))=_
       by_cases c:(C9 a:Key)=.inr b
       · rw [if_pos c,c,Hj]
       · rw [if_neg c]
     rw [<- e];exact c
 | m' + 2, p1 =>
   obtain⟨fs,kt,fl,hf⟩:=Oy p1
   have asks:∀b i j (C:Bool->Shared->Prop),i < vs.length->j < vs.length->C (ltIx kss i j) { s with heap:=h1,toks:=tk }->kas_ask prog w A (tuples' b) vs i j C { s with heap:=h1,toks:=tk }:=fun b i j C hi hj c=>by
     have x1:=AD p1 .none [] i hi;have x2:=AD p1 .none [] j hj;exact Ox (s:={ s with heap:=h1,toks:=tk }) x1.1 x2.1 (al _ (mem i hi) _ (mem j hj)) c
   obtain⟨f0,fr,rfl⟩:∃f0 fr,fs=f0::fr:=by
     cases fs with
     | nil=>rw [<- fl] at h2;exact absurd h2 (by simp)
     | cons a r=>exact⟨a,r,rfl⟩
   obtain⟨k0,r0,m0,v0⟩:=hf f0 B8
   have all:∀T:String,(∀f k r,(k::r)∈kss->KeyV k f->typeOf f=pure (.type T))->∀v∈f0::fr,Looks (model prog w) h1 (typeOf v) (.type T):=fun T hT v hv=>by
     obtain⟨k,r,h3,h4⟩:=hf v hv;exact Looks.of_pure (hT v k r h3 h4)
   cases k0 with
   | inl i0 =>
     refine⟨tuples' (O1 "int" != O1 "tuple"),fun Q q=>kat_kind (s:={ s with heap:=h1,toks:=tk }) kt (by simp) (all "int" fun f k r h3 h4=>?_) rfl q,asks _⟩;cases k with
     | inl i=>obtain⟨t,rfl⟩:=h4;rfl
     | inr z=>exact(al _ m0 _ h3).elim
   | inr i0 =>
     refine⟨tuples' (O1 "str" != O1 "tuple"),fun Q q=>kat_kind (s:={ s with heap:=h1,toks:=tk }) kt (by simp) (all "str" fun f k r h3 h4=>?_) rfl q,asks _⟩;cases k with
     | inr i=>obtain⟨t,rfl⟩:=h4;rfl
     | inl z=>exact(al _ m0 _ h3).elim
def outV (lt:Nat->Nat->Bool)(ys:List V):List V:=if ys.length < 2 then ys else(Kr.run lt (P4 ys.length)).toList.map fun i=>ys.getD i .non
theorem EO {lt:Nat->Nat->Bool}{ys:List V}{vs:List Value}(r:Vals ys vs)(O:Kr.Ord lt):Vals (outV lt ys) (T4 lt vs):=by
 unfold outV T4;rw [r.length]
 by_cases c:vs.length < 2
 · rw [if_pos c,if_pos c];exact r
 · rw [if_neg c,if_neg c];obtain⟨a1,a2,_⟩:=Kr.sort_ok O (n:=vs.length) (by omega)
   have hm:∀i∈(Kr.run lt (P4 vs.length)).toList,i < vs.length:=fun i hi=>by
     have:=(Gd.mp a1).mem_iff.mp hi
     simpa using this
   generalize (Kr.run lt (P4 vs.length)).toList=is at hm
   induction is with
   | nil=>exact .nil
   | cons i is ih =>
     refine .cons ?_ (ih fun j hj=>hm j (B5 _ hj));exact AD r .non .none i (by rw [r.length];exact hm i B8)
theorem Oz:K1 X (.builtin "sorted") (fun xs H Q=>∃p ys m kss,xs=[.ref p]/\SqL X.K H p ys/\ys.length < 64/\Paired (KM X.K H m) ys kss/\l6 kss/\∀l,H l=none->Q (.ref l) (upd H l (.lst (outV (ltIx kss) ys)))):=by
 intro pins s σ H xs us Q I r h;obtain⟨p,ys,m,kss,rfl,hq,h64,hp,al,q⟩:=h;obtain⟨u,rfl,rx⟩:=k6 r;cases rx;obtain⟨its,r',pl,hz⟩:=I.list hq;have hlen:=r'.length;have pk:=KF I m r' hp;have O:=BF kss;refine KA (vs:=its) (lt:=ltIx kss) (by omega) (fun R hR=>?_) (fun h2 A E h1 tk k=>Ho h2 pk al A E h1 tk k) fun h2 tk D e k hD ho=>?_
 · refine collect_list pl.isList (hR _ s.toks (fun b o e=>?_) ?_) (by omega)
   · have hlt:b < s.heap.objs.size:=B9 e;rw [Heap.get?_update_ne _ _ _ _ (D0 hlt)];exact B6 _ e
   · rw [Heap.size_update,size_push'];omega
 · have vo:=EO r' O
   have hl:(outV (ltIx kss) ys).length<=B0:=by
     unfold outV
     split
     · omega
     · rw [A7,F4,(Kr.sort_ok O (by omega)).2.1];omega
   exact⟨.ref D,_,I.laid (t':=tk) k hD (show G5 X.prog X.w _ h2 _ (.lst (outV (ltIx kss) ys)) from⟨hl,_,e,vo,ho⟩),rfl,q _ (I.hok.fresh hD)⟩
end
end L2
end
section
namespace Pu
open PySem PySem.Spec L2
def kP:Key->PV
 | .inl i=>.int i
 | .inr z=>.str z
def x4:List PV->Option (List Key)
 | []=>some []
 | .int i::r=>(x4 r).map (.inl i::·)
 | .str z::r=>(x4 r).map (.inr z::·)
 | _=>none
def keyP:PV->List Key
 | .int i=>[.inl i]
 | .str z=>[.inr z]
 | .tup xs=>(x4 xs).getD []
 | _=>[]
theorem Hq:∀ks:List Key,x4 (ks.map kP)=some ks
 | []=>rfl
 | .inl i::r=>by show(x4 (r.map kP)).map _=_;rw [Hq r];rfl
 | .inr i::r=>by show(x4 (r.map kP)).map _=_;rw [Hq r];rfl
theorem T5 (ks:List Key):keyP (.tup (ks.map kP))=ks:=by show(x4 (ks.map kP)).getD []=_;rw [Hq];rfl
theorem EQ {K:A5}{G:Gh}{H:Hp}:∀(ks:List Key) {us:List V},Reps K G H (ks.map kP) us->us=ks.map kV
 | [],_,h=>h
 | .inl i :: r, _, h => by
   obtain⟨v,t,rfl,h1,h2⟩:=h;rw [EQ r h2,show v=.int i from h1];rfl
 | .inr i :: r, _, h => by
   obtain⟨v,t,rfl,h1,h2⟩:=h;rw [EQ r h2,show v=.str i from h1];rfl
section
variable {T:PotK}{ι:Type}{K:A5}{F:ι->Cx}{e:Expr}{pe:pE}{pos:Pos}
variable {us:List V}
def ER (xs:List PV):Prop:=(∀x∈xs,∃i,x=.int i)\/(∀x∈xs,∃z,x=.str z)\/((∀x∈xs,∃ks,x=.tup (ks.map kP)/\ks≠[])/\∀x∈xs,∀y∈xs,Al (keyP x) (keyP y))
def Srt (ys xs:List PV):Prop:=ys.Perm xs/\ys.Pairwise fun a b=>lexK (keyP b) (keyP a)=false
def BG (pe:pE):pA:=fun env n R=>pe env n fun x env1 n1=>match x with | .lst xs=>xs.length < 64/\ER xs/\∀ys,Srt ys xs->R ys env1 n1 | _=>False
theorem ET {G:Gh}{H:Hp}{P:PV->V->List Key->Prop}:∀(xs:List PV) {us:List V},Reps K G H xs us->(∀x∈xs,∀v,Rep K G H x v->P x v (keyP x))->Paired (fun v ks=>∃x,x∈xs/\P x v ks) us (xs.map keyP):=by
 intro xq
 induction xq with
 | nil =>
   intro _ h _;cases h;exact .nil
 | cons x xs ih =>
   intro _ h hP;obtain⟨v,t,rfl,h1,h2⟩:=h;refine .cons ⟨x,B8,hP x B8 v h1⟩ ?_;exact Paired.imp' (fun v ks ⟨y,hy,hp⟩=>⟨y,B5 _ hy,hp⟩) (ih h2 fun y hy=>hP y (B5 _ hy))
theorem km_of {G:Gh}{H:Hp}{xs:List PV}(r:Reps K G H xs us)(h:ER xs):∃m,Paired (KM K H m) us (xs.map keyP)/\l6 (xs.map keyP):=by
 rcases h with h | h | ⟨h,h'⟩
 · refine⟨0,Paired.imp' (fun v ks ⟨_,_,hp⟩=>hp) (ET (P:=fun _ v ks=>KM K H 0 v ks) xs r fun x hx v hv=>?_),fun a ha b hb=>?_⟩
   · obtain⟨i,rfl⟩:=h x hx;exact⟨i,hv,rfl⟩
   · obtain⟨x,hx,rfl⟩:=C8.mp ha;obtain⟨y,hy,rfl⟩:=C8.mp hb;obtain⟨i,rfl⟩:=h x hx;obtain⟨j,rfl⟩:=h y hy;exact trivial
 · refine⟨1,Paired.imp' (fun v ks ⟨_,_,hp⟩=>hp) (ET (P:=fun _ v ks=>KM K H 1 v ks) xs r fun x hx v hv=>?_),fun a ha b hb=>?_⟩
   · obtain⟨i,rfl⟩:=h x hx;exact⟨i,hv,rfl⟩
   · obtain⟨x,hx,rfl⟩:=C8.mp ha;obtain⟨y,hy,rfl⟩:=C8.mp hb;obtain⟨i,rfl⟩:=h x hx;obtain⟨j,rfl⟩:=h y hy;exact trivial
 · refine⟨2,Paired.imp' (fun v ks ⟨_,_,hp⟩=>hp) (ET (P:=fun _ v ks=>KM K H 2 v ks) xs r fun x hx v hv=>?_),fun a ha b hb=>?_⟩
   · obtain⟨ks,rfl,hne⟩:=h x hx;obtain⟨a,vs,rfl,at',rr⟩:=hv;rw [T5];refine⟨a,rfl,?_,hne⟩;rw [EQ ks rr] at at';exact SqT.of at'.2
   · obtain⟨x,hx,rfl⟩:=C8.mp ha;obtain⟨y,hy,rfl⟩:=C8.mp hb;exact h' x hx y hy
def outP (xs:List PV):List PV:=if xs.length < 2 then xs else(Kr.run (ltIx (xs.map keyP)) (P4 xs.length)).toList.map fun i=>xs.getD i .non
theorem KH (xs:List PV)(i:Nat):(xs.map keyP).getD i []=keyP (xs.getD i .non):=by
 rw [M8,M8,D5];cases xs[i]? <;> rfl
theorem CU (xs:List PV):Srt (outP xs) xs:=by
 unfold outP
 by_cases c:xs.length < 2
 · rw [if_pos c];refine⟨List.Perm.refl _,?_⟩
   match xs,c with
   | [],_=>exact .nil
   | [x],_=>exact List.pairwise_singleton _ _
 · rw [if_neg c]
   have e:ltIx (xs.map keyP)=fun i j=>lexK (keyP (xs.getD i .non)) (keyP (xs.getD j .non)):=by
     funext i j
     unfold ltIx;rw [KH,KH]
   rw [e];exact Kr.out_ok (fun a b:PV=>lexK (keyP a) (keyP b)) ⟨fun _=>KB _,fun _ _ _ h1 h2=>EN h1 h2,fun _ _ _ h=>KC h⟩ .non xs (by omega)
theorem OA {G:Gh}{H:Hp}{xs:List PV}(r:Reps K G H xs us)(i:Nat)(hi:i < xs.length):Rep K G H (xs.getD i .non) (us.getD i .non):=by
 induction xs generalizing us i with
 | nil=>exact absurd hi (u3 _)
 | cons x xs ih =>
   obtain⟨v,t,rfl,h1,h2⟩:=r;cases i with
   | zero=>exact h1
   | succ i=>exact ih h2 i (Nat.lt_of_succ_lt_succ hi)
theorem Hr {G:Gh}{H:Hp}{xs:List PV}(r:Reps K G H xs us):Reps K G H (outP xs) (outV (ltIx (xs.map keyP)) us):=by
 unfold outP outV;have hl:us.length=xs.length:=r.length.symm;rw [hl]
 by_cases c:xs.length < 2
 · rw [if_pos c,if_pos c];exact r
 · rw [if_neg c,if_neg c];obtain⟨a1,a2,_⟩:=Kr.sort_ok (BF (xs.map keyP)) (n:=xs.length) (by omega)
   have hm:∀i∈(Kr.run (ltIx (xs.map keyP)) (P4 xs.length)).toList,i < xs.length:=fun i hi=>by
     have:=(Gd.mp a1).mem_iff.mp hi
     simpa using this
   generalize (Kr.run (ltIx (xs.map keyP)) (P4 xs.length)).toList=is at hm
   induction is with
   | nil=>exact rfl
   | cons i is ih=>exact⟨_,_,rfl,OA r i (hm i B8),ih fun j hj=>hm j (B5 _ hj)⟩
theorem EU {p:Pos}(hg:∀z,Gl (F z) "sorted")(hm:∀z,(F z).mg "sorted"=none)(ha:QR T K F e pe)(hs:F8 e=true:=by rfl)(hK:∀z,(F z).K=K:=by intro _;rfl):QN T K F (.Call (.Name "sorted" p) [e] [] pos) (BG pe):=by
 obtain⟨t,h1,h2⟩:=ha;refine⟨_,fun z=>v3 (hK z▸Oz) (hg z) (hm z) GN (F6 (h1 z) J1 (D2 hs)) (by decide) (by decide) (D2 hs),fun C G σ H env n R Q hK hT S hp k=>?_⟩;refine Ex h2 hK hT S hp fun x env1 n1 v H1 p1 S1 r1 f1=>?_;have rd:RdV K G H1 x v:=hK▸r1.rd S1;cases x with
 | lst xs =>
   obtain⟨h64,so,q⟩:=p1;obtain⟨a,us,rfl,hq,r⟩:=rd.lst;obtain⟨m,pk,al⟩:=km_of r so;have hl:us.length=xs.length:=r.length.symm;exact⟨a,us,m,xs.map keyP,rfl,hq,by omega,pk,al,fun l hl=>k _ _ _ _ _ _ (q _ (CU xs)) S1 f1 hl (Hr r)⟩
 | _=>exact p1.elim
end
end Pu
end
section
namespace L2
open PySem PySem.W PySem.Spec PyProof.Rows
def Raw (h:Heap)(d:Addr)(es:Array Aa)(ep:Nat):Prop:=∃o,h.get? d=some o/\o.ExactDict/\o.data=.dict es ep
theorem Raw.typeIs {s:Shared}{d:Addr}{es:Array Aa}{ep:Nat}(x:Raw s.heap d es ep):s.TypeIs (.ref d) "dict":=by
 obtain⟨o,ho,hc,_⟩:=x;exact⟨o,ho,hc.1⟩
section
variable {prog:B2}{w:World}{A:Around}{E:Value->Shared->Prop}{s:Shared}{d it:Addr}{es:Array Aa}{ep:Nat}
theorem OB {Q:Value->Shared->Prop}(hd:(d == L9)=false)(hm:Raw s.heap d es ep)
   (hQ:Q (.ref s.heap.objs.size) { s with heap:=s.heap.push { cls:=.type "dict_keyiterator",data:=.fields #[.ref d,.int 0 0,.int es.size 0,.int ep 0] } }) :
   wpAny (model prog w) A (pyIter (.ref d)) Q E s:=by
 have hT:=hm.typeIs;obtain⟨o,ho,hc,hdat⟩:=id hm;refine wpAny_pyIter_slot hT F.slot_dict_iter (M6 F.slot_dict_iter hT F.entry_dict_iter ?_ (F.args_dict_iter_1 _));unfold M1.«dict.__iter__»;refine A0 ?_;unfold Builtin.Dict.dictSlotNone;refine A0 (wpAny_notOrdered_dict hT (A4 ?_));show wpAny _ _ (Builtin.Dict.showsAll d>>=_) _ _ s;unfold Builtin.Dict.showsAll;rw [if_neg (by rw [hd];exact J3)];refine A0 (A4 (A0 (wpAny_dictEntries ho hdat (A0 (wpAny_dictEpoch ho hdat ?_)))));refine A0 (J8 (A4 ⟨_,rfl,"dict_keyiterator",_,⟨_,E1 _ rfl,rfl⟩,F.slot_dict_keyiterator_next.lookup,?_⟩))
 simpa [rawInt] using hQ
theorem OC {i:Nat}{e:Aa}{Q:Option Value->Shared->Prop}(hit:s.heap.IsKeyIter it d i es.size ep)(hm:Raw s.heap d es ep)(hx:es[i]?=some e)
   (hQ:∀h',h'.IsKeyIter it d (i + 1) es.size ep->Q2 it s.heap h'->Q (some e.key) { s with heap:=h' }):wpAny (model prog w) A (pyNext (.ref it)) Q E s:=by
 obtain⟨o,ho,hc,hd⟩:=id hit;obtain⟨od,hod,hcd,hdd⟩:=id hm;unfold pyNext
 refine A0 (p6 (T8 (name:=A6 "__next__") hit.typeIs Ea
   (M6 Ea hit.typeIs F.entry_dict_keyiterator_next ?_ (F.args_dict_keyiterator_next_1 _))))
 refine A0 (A4 (A0 (A0 ?_)))
 first | refine A0 (Dr hit.typeIs (A4 ?_)) | refine A0 (Ds hit.typeIs (A4 ?_))
 refine A0 (AQ ho hd ?_);have hown:IV "dict_keyiterator"=false:=by decide
 simp only [hown,J7,if_false];show wpAny _ _ (if(K0 d == N4)=true then _ else _) _ _ s;rw [if_neg (show ¬((K0 d == N4)=true) from J3)];refine A0 (A4 (A0 (wpAny_dictEntries hod hdd ?_)));rw [if_neg (by simp)];refine A0 (A4 (A0 (wpAny_dictEpoch hod hdd ?_)));rw [if_neg (by simp)];refine A4 ?_;obtain⟨hlt,he⟩:=DQ.mp hx;simp only [show ¬((i:Int) < 0) from by omega,if_false,Q6,b9 hlt];refine A0 ?_
 first | refine A0 (Dr hit.typeIs (A4 ?_)) | refine A0 (Ds hit.typeIs (A4 ?_))
 refine A0 (wpAny_isOneOf_keyiter hit.typeIs ?_);show wpAny _ _ (setField (.ref it) 1 (rawInt ((i:Int) + 1))>>=_) _ _ s;refine A0 (Z3 ho hd (by simp) ?_)
 have hit':(s.heap.update it (Bh (·.setIfInBounds 1 (rawInt ((i:Int) + 1))))).IsKeyIter it d (i + 1) es.size ep:=
   ⟨_,Ab _ ho (Gi (Bg hd _)),(Obj.cls_mapFields ..).trans hc,by rw [Bg hd];simp [rawInt]⟩
 refine A0 (J5 ?_);refine A0 (wpAny_isOneOf_keyiter (s:={ s with heap:=s.heap.update it (Bh (·.setIfInBounds 1 (rawInt ((i:Int) + 1)))) }) hit'.typeIs ?_);show wpAny _ _ (pure es[i].key) _ _ _;rw [he];exact A4 (A4 ⟨_,rfl,A4 (hQ _ hit' (P8 ..))⟩)
theorem OD {i:Nat}{Q:Option Value->Shared->Prop}(hh:A.handled=none)(hit:s.heap.IsKeyIter it d i es.size ep)(hm:Raw s.heap d es ep)(hx:es.size<=i)
   (hQ:∀h',Heap.ExtBut it s.heap h'->Q none { s with heap:=h' }):wpAny (model prog w) A (pyNext (.ref it)) Q E s:=by
 obtain⟨o,ho,hc,hd⟩:=id hit;obtain⟨od,hod,hcd,hdd⟩:=id hm;unfold pyNext
 refine A0 (p6 (T8 (name:=A6 "__next__") hit.typeIs Ea
   (M6 Ea hit.typeIs F.entry_dict_keyiterator_next ?_ (F.args_dict_keyiterator_next_1 _))))
 refine A0 (A4 (A0 (A0 ?_)))
 first | refine A0 (Dr hit.typeIs (A4 ?_)) | refine A0 (Ds hit.typeIs (A4 ?_))
 refine A0 (AQ ho hd ?_);have hown:IV "dict_keyiterator"=false:=by decide
 simp only [hown,J7,if_false];show wpAny _ _ (if(K0 d == N4)=true then _ else _) _ _ s;rw [if_neg (show ¬((K0 d == N4)=true) from J3)];refine A0 (A4 (A0 (wpAny_dictEntries hod hdd ?_)));rw [if_neg (by simp)];refine A0 (A4 (A0 (wpAny_dictEpoch hod hdd ?_)));rw [if_neg (by simp)];refine A4 ?_;simp only [show ¬((i:Int) < 0) from by omega,if_false,Q6,DR hx];refine A0 ?_
 first | refine A0 (Dr hit.typeIs (A4 ?_)) | refine A0 (Ds hit.typeIs (A4 ?_))
 show wpAny _ _ (setField (.ref it) 0 .none>>=_) _ _ s;refine A0 (Z3 ho hd (by simp) ?_);show wpAny _ _ (newExc (.type "StopIteration") []>>=_) _ _ _;refine A0 ?_;simp only [newExc,newTuple];refine A0 (J8 ?_ (by size_fits));refine A0 (m:=AO _ _) (O7 (a:=N4) (by first | rfl | (simp only [AO];rfl)) ?_);refine J8 ?_ (by size_fits);simp only [raiseNew];refine A0 (wpAny_handled ?_);rw [show A.in1.handled=none from hh];refine A0 (A4 (wpAny_throw ?_));refine A0 (Dw (T:="StopIteration") (b:=true) ⟨_,E1 _ rfl,rfl⟩ isSubtype_stop ?_);exact A4 (hQ _ (((P8 ..).extBut.push _).push _))
theorem OE (hh:A.handled=none)(I d:Addr)(hne:d≠I)(es:Array Aa)(ep:Nat) :
   Walks prog w A I [I,d] [I] es.size (fun i v=>∃e,es[i]?=some e/\v=e.key) (fun i h=>h.IsKeyIter I d i es.size ep/\Raw h d es ep) where
 sub:=fun b hb=>by simp at hb;simp [hb]
 frame:=fun _ _ _ st hk=>⟨st.1.at fun o e=>hk I (by simp) o e,let ⟨o,ho,x⟩:=st.2;⟨o,hk d (by simp) o ho,x⟩⟩
 item:=fun i s Q E hi st hQ=>by
   obtain⟨e,hx⟩:∃e,es[i]?=some e:=⟨es[i],by simp [hi]⟩;refine OC st.1 st.2 hx fun h' hit' hs'=>?_;exact hQ e.key h' s.toks ⟨e,hx,rfl⟩ ⟨hit',let ⟨o,ho,x⟩:=st.2;⟨o,hs'.extBut d o hne ho,x⟩⟩ fun b o hb e=>hs'.extBut b o (fun h=>hb (by simp [h])) e
 done:=fun s Q E st hQ=>OD hh st.1 st.2 (A9 _) fun h' he'=>hQ h' s.toks fun b o hb e=>he' b o (fun h=>hb (by simp [h])) e
 self:=fun _ _ _ _ st hQ=>wpAny_pyIter_keyiter st.1 hQ
theorem OF (lo:(d == L9)=false):KdlSrc prog w "dict" d d es.size (fun i v=>∃e,es[i]?=some e/\v=e.key) (fun h=>Raw h d es ep) where
 type:=fun _ hm=>hm.typeIs
 there:=fun _ ⟨_,ho,_⟩=>⟨B9 ho,B9 ho⟩
 keep:=fun _ _ ⟨o,ho,x⟩ hk=>⟨o,hk d (.inl rfl) o ho,x⟩
 notList:=by decide
 notTuple:=by decide
 hint:=fun _ _ _ _ hm hq=>kdl_hint_dict hm.typeIs hq
 iter:=fun _ _ hh hm=>⟨_,_,(fun _ _ hq=>OB lo hm hq),OE hh _ d (let ⟨_,ho,_⟩:=hm;D0 (B9 ho)) es ep,⟨⟨_,E1 _ rfl,rfl,rfl⟩,let ⟨o,ho,x⟩:=hm;⟨o,B6 _ ho,x⟩⟩⟩
end
end L2
end
section
namespace L2
open PySem PySem.Spec PyProof.Rows
section
variable {κ:Type}[DecidableEq κ]
variable {kvs:List (κ×V)}
def valV (kvs:List (κ×V))(k:κ):Option V:=(kvs.find? fun kv=>decide (kv.1=k)).map (·.2)
def putK (kvs:List (κ×V))(k:κ)(v:V):List (κ×V):=
 if(kvs.any fun kv=>decide (kv.1=k))=true then kvs.map (fun kv=>if kv.1=k then(kv.1,v) else kv) else kvs++[(k,v)]
theorem AE {p:κ×V}{r:List (κ×V)}{k:κ}(e:p.1=k):valV (p::r) k=some p.2:=by simp [valV,AT,e]
theorem l7 {p:κ×V}{r:List (κ×V)}{k:κ}(e:¬p.1=k):valV (p::r) k=valV r k:=by simp [valV,AT,e]
theorem KI (k:κ):∀kvs:List (κ×V),(kvs.any fun kv=>decide (kv.1=k))=(valV kvs k).isSome:=by
 intro xq
 induction xq with
 | nil =>
   exact rfl
 | cons p r ih =>
   rw [List.any_cons]
   by_cases e:p.1=k
   · simp only [AE e,decide_eq_true e,Bool.true_or,Option.isSome_some]
   · rw [l7 e,decide_eq_false e,Bool.false_or];exact ih
theorem Hs (kvs:List (κ×V))(k:κ)(v:V):(putK kvs k v).length<=kvs.length + 1:=by
 unfold putK
 split
 · rw [A7];omega
 · rw [E2,D3,List.length_nil];omega
theorem putK_new {k:κ}(v:V)(h:valV kvs k=none):putK kvs k v=kvs++[(k,v)]:=by
 unfold putK;rw [KI,h];exact if_neg (by decide)
theorem RelO.isSome_eq {o:Option V}{u:Option Value}(r:RelO o u):o.isSome=u.isSome:=by
 cases o with
 | none => cases u with
   | none=>rfl
   | some _=>exact(show False from r).elim
 | some _ => cases u with
   | none=>exact(show False from r).elim
   | some _=>rfl
theorem KV.val {vs:List (κ×Value)}(r:KV kvs vs)(k:κ):RelO (valV kvs k) (valueAt vs k):=by
 unfold KV at r
 induction r with
 | nil=>exact Bo
 | @cons p q ps qs h t ih =>
   obtain⟨h1,h2⟩:=h
   by_cases e:p.1=k
   · have e':q.1=k:=h1.symm.trans e;have b:valueAt (q::qs) k=some q.2:=by simp [valueAt,AT,e']
     rw [AE e,b];exact h2
   · have e':¬q.1=k:=fun z=>e (h1.trans z);have b:valueAt (q::qs) k=valueAt qs k:=by simp [valueAt,AT,e']
     rw [l7 e,b];exact ih
theorem KV.any {vs:List (κ×Value)}(r:KV kvs vs)(k:κ):(kvs.any fun kv=>decide (kv.1=k))=vs.any fun kv=>decide (kv.1=k):=by
 unfold KV at r
 induction r with
 | nil=>rfl
 | cons h t ih=>rw [List.any_cons,List.any_cons,ih,h.1]
theorem KV.repl {vs:List (κ×Value)}(r:KV kvs vs)(k:κ){y:V}{u:Value}(ry:RelV y u) :
   KV (kvs.map fun kv=>if kv.1=k then(kv.1,y) else kv) (vs.map fun kv=>if kv.1=k then(kv.1,u) else kv):=by
 unfold KV at r ⊢
 induction r with
 | nil=>exact .nil
 | @cons p q ps qs h t ih =>
   rw [F3,F3];refine .cons ?_ ih;obtain⟨h1,h2⟩:=h
   by_cases e:p.1=k
   · rw [if_pos e,if_pos (h1.symm.trans e)];exact⟨h1,ry⟩
   · rw [if_neg e,if_neg (fun z=>e (h1.trans z))];exact⟨h1,h2⟩
theorem KV.put {vs:List (κ×Value)}(r:KV kvs vs)(k:κ){y:V}{u:Value}(ry:RelV y u):KV (putK kvs k y) (stored vs k u):=by
 unfold putK stored;rw [r.any k]
 by_cases e:(vs.any fun kv=>decide (kv.1=k))=true
 · rw [if_pos e,if_pos e];exact r.repl k ry
 · rw [if_neg e,if_neg e];exact Paired.snoc r ⟨rfl,ry⟩
theorem KV.keys {vs:List (κ×Value)}(r:KV kvs vs):kvs.map (·.1)=vs.map (·.1):=by
 unfold KV at r
 induction r with
 | nil=>rfl
 | cons h t ih=>rw [F3,F3,ih,h.1]
theorem KV.length {vs:List (κ×Value)}(r:KV kvs vs):kvs.length=vs.length:=Bj r
end
variable {kvs:List (List Key×V)}
theorem EV {P:B2}{w:World}{k:Key}{u:Value}(r:RelV (kV k) u):(E8 P w).is k u=true:=by
 cases k with
 | inl i=>obtain⟨t,e⟩:=(show ∃t,u=Value.int i t from r);subst e;exact IW P w i t
 | inr x=>obtain⟨t,e⟩:=(show ∃t,u=Value.str x t from r);subst e;exact At P w x t
theorem items_are {P:B2}{w:World}:∀{ks:List Key} {us:List Value},Vals (ks.map kV) us->ItemsAre (E8 P w) ks us
 | [],_,r=>by rw [j3] at r;cases r;exact .nil
 | k :: ks, _, r => by
   rw [F3] at r;cases r with
   | cons h t=>exact .cons (EV h) (items_are t)
abbrev KT (H:Hp):List (List Key×V)->List (List Key×Addr×Value)->Prop:=Paired fun p q=>p.1=q.1/\H q.2.1=some (.tup (p.1.map kV))/\RelV p.2 q.2.2
theorem KT.val {H:Hp}{xs:List (List Key×Addr×Value)}(r:KT H kvs xs)(k:List Key):RelO (valV kvs k) ((atKey xs k).map (·.2)):=by
 induction r with
 | nil=>exact Bo
 | @cons p q ps qs h t ih =>
   obtain⟨h1,_,h2⟩:=h
   by_cases e:p.1=k
   · have e':q.1=k:=h1.symm.trans e;have b:atKey (q::qs) k=some q.2:=by simp [atKey,AT,e']
     rw [AE e,b];exact h2
   · have e':¬q.1=k:=fun z=>e (h1.trans z);have b:atKey (q::qs) k=atKey qs k:=by simp [atKey,AT,e']
     rw [l7 e,b];exact ih
theorem KT.repl {H:Hp}{xs:List (List Key×Addr×Value)}(r:KT H kvs xs)(k:List Key){y:V}{u:Value}(ry:RelV y u) :
   KT H (kvs.map fun kv=>if kv.1=k then(kv.1,y) else kv) (xs.map (putAt k u)):=by
 induction r with
 | nil=>exact .nil
 | @cons p q ps qs h t ih =>
   rw [F3,F3];refine .cons ?_ ih;obtain⟨h1,h2,h3⟩:=h;unfold putAt
   by_cases e:p.1=k
   · rw [if_pos e,if_pos (h1.symm.trans e)];exact⟨h1,h2,ry⟩
   · rw [if_neg e,if_neg (fun z=>e (h1.trans z))];exact⟨h1,h2,h3⟩
theorem KT.put {H:Hp}{xs:List (List Key×Addr×Value)}(r:KT H kvs xs)(k:List Key){b:Addr}{y:V}{u:Value}(hb:H b=some (.tup (k.map kV)))(ry:RelV y u) :
   KT H (putK kvs k y) (storedH xs k b u):=by
 have e:(kvs.any fun kv=>decide (kv.1=k))=(atKey xs k).isSome:=by
   rw [KI,(r.val k).isSome_eq,Option.isSome_map]
 unfold putK storedH;rw [e]
 by_cases q:(atKey xs k).isSome=true
 · rw [if_pos q,if_pos q];exact r.repl k ry
 · rw [if_neg q,if_neg q];exact Paired.snoc r ⟨rfl,hb,ry⟩
theorem KT.keeps {H H':Hp}{xs:List (List Key×Addr×Value)}(r:KT H kvs xs)(ht:∀b ys,H b=some (.tup ys)->H' b=some (.tup ys)):KT H' kvs xs:=
 Paired.mapP r fun _ _ z=>⟨z.1,ht _ _ z.2.1,z.2.2⟩
section
variable {P:B2}{w:World}{H:Hp}{h:Heap}{a:Addr}
theorem rd_of {u:HO}(ok:HOk P w H h)(e:Rd H a u):G5 P w H h a u:=e.ok ok
theorem Ht {kvs:List (Key×V)}(ok:HOk P w H h)(e:Rd H a (.dK kvs)):kvs.length<=B0/\(a == L9)=false/\∃vs,KV kvs vs/\h.DictOf (E8 P w) a vs:=
 show G5 P w H h a (.dK kvs) from rd_of ok e
theorem dk_of {kvs:List (Key×V)}(ok:HOk P w H h)(e:H a=some (.dK kvs)):kvs.length<=B0/\(a == L9)=false/\∃vs,KV kvs vs/\h.DictOf (E8 P w) a vs:=Ht ok (.inl e)
theorem Hu {ks:List Key}(ok:HOk P w H h)(e:H a=some (.tup (ks.map kV))):(tupleKind (E8 P w)).is h ks a:=by
 obtain⟨_,its,r,o,h1,h2,n,h3⟩:=(show G5 P w H h a (.tup (ks.map kV)) from ok a _ e);exact⟨o,its.toArray,n,h1,(Cm h2).1,h3,by simpa using items_are r⟩
theorem Hv {kvs:List (List Key×V)}(ok:HOk P w H h)(e:Rd H a (.dT kvs)):kvs.length<=B0/\(a == L9)=false/\
   ∃xs,KT H kvs xs/\h.DictOfH (tupleKind (E8 P w)) a xs:=by
 obtain⟨z,y,xs,r,o,es,ep,h1,h2,h3,h4,h5⟩:=(show G5 P w H h a (.dT kvs) from rd_of ok e);refine⟨z,y,xs,r,o,es,ep,h1,h2,h3,h4,fun x hx=>?_,h5⟩
 have all:∀{l:List (List Key×V)} {m:List (List Key×Addr×Value)},KT H l m->∀x∈m,(tupleKind (E8 P w)).is h x.1 x.2.1:=by
   intro l m q
   induction q with
   | nil=>intro x hx;exact nomatch hx
   | @cons p q ps qs hq t ih =>
     intro x hx;rcases B7.mp hx with e | hx
     · subst e;exact Hu ok (by rw [<- hq.1];exact hq.2.1)
     · exact ih x hx
 exact all r x hx
theorem dt_of {kvs:List (List Key×V)}(ok:HOk P w H h)(e:H a=some (.dT kvs)):kvs.length<=B0/\(a == L9)=false/\
   ∃xs,KT H kvs xs/\h.DictOfH (tupleKind (E8 P w)) a xs:=Hv ok (.inl e)
end
def DGet (H:Hp)(a:Addr)(y:V)(r:Option V):Prop:=
 (∃kvs k,Rd H a (.dK kvs)/\y=kV k/\r=valV kvs k)\/∃kvs k b,Rd H a (.dT kvs)/\y=.ref b/\H b=some (.tup (k.map kV))/\r=valV kvs k
def DPut (H:Hp)(a:Addr)(y v:V)(H':Hp):Prop:=
 (∃kvs k,H a=some (.dK kvs)/\y=kV k/\kvs.length < B0/\H'=upd H a (.dK (putK kvs k v)))\/
 ∃kvs k b,H a=some (.dT kvs)/\y=.ref b/\H b=some (.tup (k.map kV))/\kvs.length < B0/\H'=upd H a (.dT (putK kvs k v))
theorem DGet.k {H:Hp}{a:Addr}{kvs:List (Key×V)}{k:Key}(e:H a=some (.dK kvs)):DGet H a (kV k) (valV kvs k):=.inl ⟨kvs,k,.inl e,rfl,rfl⟩
theorem DGet.t {H:Hp}{a b:Addr}{kvs:List (List Key×V)}{k:List Key}(e:H a=some (.dT kvs))(eb:H b=some (.tup (k.map kV))):DGet H a (.ref b) (valV kvs k):=.inr ⟨kvs,k,b,.inl e,rfl,eb,rfl⟩
theorem DPut.k {H:Hp}{a:Addr}{kvs:List (Key×V)}{k:Key}{v:V}(e:H a=some (.dK kvs))(hl:kvs.length < B0):DPut H a (kV k) v (upd H a (.dK (putK kvs k v))):=.inl ⟨kvs,k,e,rfl,hl,rfl⟩
theorem DPut.t {H:Hp}{a b:Addr}{kvs:List (List Key×V)}{k:List Key}{v:V}(e:H a=some (.dT kvs))(eb:H b=some (.tup (k.map kV)))(hl:kvs.length < B0) :
   DPut H a (.ref b) v (upd H a (.dT (putK kvs k v))):=.inr ⟨kvs,k,b,e,rfl,eb,hl,rfl⟩
section
variable {X:Cx}{pins:List (Addr×Obj)}{σ:St}{H:Hp}{s:Shared}{a:Addr}{y v:V}{u r:Value}{o:Option V}{A:Around}{E:Value->Shared->Prop}
theorem OG {Q:Value->Shared->Prop}(hu:A.units + 1 < cLine)(I:Inv X pins σ H s)(g:DGet H a y (some v))(ry:RelV y u)(h:∀w' s',Inv X pins σ H s'->RelV v w'->Q w' s') :
   wpAny (model X.prog X.w) A (W3 (.ref a) u) Q E s:=by
 rcases g with⟨kvs,k,e,ey,l⟩ | ⟨kvs,k,b,e,ey,eb,l⟩
 · subst ey;obtain⟨z,hd,vs,rel,dd⟩:=Ht I.hok e;obtain⟨w',hw,rw'⟩:=RelO.some_of (v:=v) (o:=valueAt vs k) (by rw [l];exact rel.val k);exact wpAny_getItem_of (EV ry) dd.mapOf hw (h w' _ (I.tok _) rw')
 · subst ey;cases(show u=K0 b from ry);obtain⟨z,hd,xs,rel,dd⟩:=Hv I.hok e;obtain⟨w',hw,rw'⟩:=RelO.some_of (v:=v) (o:=(atKey xs k).map (·.2)) (by rw [l];exact rel.val k);obtain⟨p,hp,hp2⟩:=Option.map_eq_some_iff.mp hw;refine wpAny_getItem_heap (tupleKind_room_in1 hu) (Hu I.hok eb) dd hp ?_;rw [hp2];exact h w' _ (I.tok _) rw'
theorem Hw {h':Heap}{t':Nat}{ob:HO}(I:Inv X pins σ H s)(mu:Mut (H a))(hs:Q2 a s.heap h')(he:∃q,h'.get? a=some q)(new:G5 X.prog X.w (upd H a ob) h' a ob) :
   Inv X pins σ (upd H a ob) { s with heap:=h',toks:=t' }:=
 I.write (x:=a) (e:=a) mu (.inl rfl) (fun b q hb z=>(hs.2 b hb).trans z) he new
theorem KJ {P:B2}{w:World}{H':Hp}{h':Heap}{kvs:List (Key×V)}{vs:List (Key×Value)}(z:kvs.length<=B0)(hd:(a == L9)=false)(rel:KV kvs vs)(dd:h'.DictOf (E8 P w) a vs) :
   G5 P w H' h' a (.dK kvs):=⟨z,hd,vs,rel,dd⟩
theorem OH {H':Hp}{Q:Unit->Shared->Prop}(hu:A.units + 1 < cLine)(I:Inv X pins σ H s)(g:DPut H a y v H')(ry:RelV y u)(rv:RelV v r)(h:∀s',Inv X pins σ H' s'->Q () s') :
   wpAny (model X.prog X.w) A (setItem (.ref a) u r) Q E s:=by
 rcases g with⟨kvs,k,e,ey,l,eH⟩ | ⟨kvs,k,b,e,ey,eb,l,eH⟩
 · subst ey eH;obtain⟨z,hd,vs,rel,dd⟩:=dk_of I.hok e;have hz:vs.length<=B0:=by rw [<- rel.length];exact z
   have hl:(putK kvs k v).length<=B0:=by have:=Hs kvs k v;omega
   refine wpAny_setItem_pairs (hsz:=hz) (EV ry) dd fun h' dd' hs=>h _ ?_;have he:∃q,h'.get? a=some q:=let ⟨q,_,_,hq,_⟩:=dd';⟨q,hq⟩;exact Hw I (by rw [e];exact Bo) hs he (KJ hl hd (rel.put k rv) dd')
 · subst ey eH;cases(show u=K0 b from ry);obtain⟨z,hd,xs,rel,dd⟩:=dt_of I.hok e;have hz:xs.length<=B0:=by rw [<- Bj rel];exact z
   have hl:(putK kvs k v).length<=B0:=by have:=Hs kvs k v;omega
   refine wpAny_setItem_heap (hsz:=hz) (tupleKind_room_in1 hu) (Hu I.hok eb) dd fun h' dd' hs=>h _ ?_;obtain⟨q,es,ep,hq,h2,h3,h4,_,h5⟩:=dd';refine Hw I (by rw [e];exact Bo) hs ⟨q,hq⟩ ⟨hl,hd,_,(rel.put k eb rv).keeps fun c ys ec=>?_,q,es,ep,hq,h2,h3,h4,h5⟩;rw [C7 (ne_of ec e (fun z=>nomatch z))];exact ec
end
def NoSl (i:Expr):Prop:=∀ov iv,subscripted i false ov iv=operate [ov,iv] (W3 ov iv)
theorem OI {prog:B2}{w:World}{A:Around}{E:Value->Shared->Prop}{s:Shared}{env:Env}{value slice:Expr}{pos:Pos}{T id:String}{Q:Value->Shared->Prop}
   (hl:typeLookup (.type T) "__getitem__"=pure (some (.builtin id))) (hs:NoSl slice)
   (h:wpAny (model prog w) A (eval value env) (fun o s₁=>wpAny (model prog w) A (eval slice env) (fun i s₂=>s₂.TypeIs o T/\wpAny (model prog w) A (W3 o i) Q E s₂) E s₁) E s) :
   wpAny (model prog w) A (eval (.Subscript value slice pos) env) Q E s:=by
 refine Subscript_ (F9 h (fun o s₁ h₁=>F9 h₁ (fun i s₂ h₂=>?_) fun _ _ x=>x) fun _ _ x=>x);obtain⟨hT,h₂⟩:=h₂;unfold subscriptTail;refine A0 ?_;rw [getitemInPython_of_ne hT.not_modules];refine A0 (BU hT hl ?_)
 have fin:wpAny (model prog w) A (subscripted slice false o i) (fun r s₃=>wpAny (model prog w) A (letTemporaryGo value o r>>=fun _=>pure r) Q E s₃) E s₂:=by
   rw [hs o i];exact wpAny_operating (F9 h₂ (fun r s₃ h₃=>A0 (wpAny_letTemporaryGo (A4 h₃))) fun _ _ x=>x)
 first
   | exact A4 (A0 fin)
   | exact A0 (A4 (A0 fin))
   | exact A0 fin
theorem OJ {X:Cx}{pins:List (Addr×Obj)}{σ:St}{H:Hp}{s:Shared}{a:Addr}{y:V}{o:Option V}(I:Inv X pins σ H s)(g:DGet H a y o):s.TypeIs (.ref a) "dict":=by
 rcases g with⟨kvs,k,e,_,_⟩ | ⟨kvs,k,b,e,_,_,_⟩
 · obtain⟨_,_,vs,_,dd⟩:=Ht I.hok e;exact dd.typeIs
 · obtain⟨_,_,xs,_,dd⟩:=Hv I.hok e;exact dd.typeIs
def tDGet (td ty:TE):TE:=fun σ H Q=>td σ H fun x H1=>ty σ H1 fun y H2=>∃a v,x=.ref a/\DGet H2 a y (some v)/\Q v H2
def sDPut (td ty tv:TE):TS:=fun D σ H=>tv σ H fun v H1=>td σ H1 fun x H2=>ty σ H2 fun y H3=>∃a H4,x=.ref a/\DPut H3 a y v H4/\D.nx σ H4
section
variable {X:Cx}{o i e value:Expr}{pos pos' tpos:Pos}{td ty tv:TE}
theorem V0 (hu:X.A.units + 1 < cLine)(ho:PE X o td)(hi:PE X i ty)(hs:NoSl i):PE X (.Subscript o i pos) (tDGet td ty):=by
 intro pins s σ H Q I h;refine OI PySem.F.slot_dict_getitem.lookup hs (thn (ho pins s σ H _ I h) fun u s1 ⟨x,H1,I1,rx,q1⟩=>thn (hi pins s1 σ H1 _ I1 q1) fun iv s2 ⟨y,H2,I2,ry,a,v,ex,g,q2⟩=>?_);subst ex;obtain rfl:u=K0 a:=rx;exact⟨OJ I2 g,OG hu I2 g ry fun w' s3 I3 rw'=>⟨v,H2,I3,rw',q2⟩⟩
theorem CV (hu:X.A.units + 1 < cLine)(ho:PE X o td)(hi:PE X i ty)(hv:PE X value tv)(hs:i4 value (some (.Subscript o i pos')) pos.line X.env=pure false) :
   PS X (.Assign [.Subscript o i pos'] value pos) (sDPut td ty tv):=by
 intro pins s σ H D I h;refine wpAny_Assign_Subscript (thn (hv pins s σ H _ I h) fun r s1 ⟨v,H1,I1,rv,q1⟩=>thn (ho pins s1 σ H1 _ I1 q1) fun u s2 ⟨x,H2,I2,rx,q2⟩=>thn (hi pins s2 σ H2 _ I2 q2) fun iv s3 ⟨y,H3,I3,ry,a,H4,ex,g,q3⟩=>?_) hs;subst ex;obtain rfl:u=K0 a:=rx;exact OH hu I3 g ry rv fun s4 I4=>⟨σ,H4,I4,q3⟩
end
def Hx:List (TE×TE)->St->Hp->(List (V×V)->Hp->Prop)->Prop
 | [],_,H,Q=>Q [] H
 | (tk,tv)::r,σ,H,Q=>tk σ H fun x H1=>tv σ H1 fun y H2=>Hx r σ H2 fun ps H3=>Q ((x,y)::ps) H3
abbrev VV:List (V×V)->List (Value×Value)->Prop:=Paired fun p q=>RelV p.1 q.1/\RelV p.2 q.2
def PPs (X:Cx)(pos:Pos)(keys:List (Option Expr))(values:List Expr)(trs:List (TE×TE)):Prop:=
 ∀ (pins : List (Addr × Obj)) (s : Shared) (σ : St) (H : Hp) (Q : List (V × V) -> Hp -> Prop), Inv X pins σ H s -> Hx trs σ H Q ->
   wpAny (model X.prog X.w) X.A (evalPairs (pairTrees keys values X.env pos)) (fun vs s'=>∃ps H',Inv X pins σ H' s'/\VV ps vs/\Q ps H') X.xe s
theorem OL {X:Cx}{pos:Pos}:PPs X pos [] [] []:=fun pins s σ H Q I h=>pairTrees_nil_walk ⟨[],H,I,.nil,h⟩
theorem EX {X:Cx}{pos:Pos}{k v:Expr}{ks:List (Option Expr)}{vs:List Expr}{tk tv:TE}{trs:List (TE×TE)}(hk:PE X k tk)(hv:PE X v tv)(hr:PPs X pos ks vs trs) :
   PPs X pos (some k::ks) (v::vs) ((tk,tv)::trs):=fun pins s σ H Q I h=>
 pairTrees_cons_walk (thn (hk pins s σ H _ I h) fun u s1 ⟨x,H1,I1,rx,q1⟩=>thn (hv pins s1 σ H1 _ I1 q1) fun w2 s2 ⟨y,H2,I2,ry,q2⟩=>
   thn (hr pins s2 σ H2 _ I2 q2) fun ws s3 ⟨ps,H3,I3,rel,q3⟩=>⟨(x,y)::ps,H3,I3,.cons ⟨rx,ry⟩ rel,q3⟩)
def AF (kvs more:List (Key×V)):List (Key×V):=more.foldl (fun acc kv=>putK acc kv.1 kv.2) kvs
theorem KV.merge:∀{more:List (Key×V)} {rs:List (Key×Value)} {kvs:List (Key×V)} {vs:List (Key×Value)},KV more rs->KV kvs vs->KV (AF kvs more) (merged vs rs):=by
 intro more rs kvs vs r;unfold KV at r
 induction r generalizing kvs vs with
 | nil=>intro q;exact q
 | @cons p q ps qs h t ih =>
   intro r0
   have e:KV (putK kvs p.1 p.2) (stored vs q.1 q.2):=by
     have:=r0.put p.1 h.2;rw [<- h.1];exact this
   exact ih e
theorem OM:∀(more kvs:List (Key×V)),(AF kvs more).length<=kvs.length + more.length:=by
 intro xq
 induction xq with
 | nil =>
   intro kvs;show kvs.length<=kvs.length + 0;omega
 | cons p r ih =>
   intro kvs;have h1:=ih (putK kvs p.1 p.2);have h2:=Hs kvs p.1 p.2;show(AF (putK kvs p.1 p.2) r).length<=_;rw [D3];omega
theorem KK {P:B2}{w:World}:∀{kvs:List (Key×V)} {ws:List (Value×Value)},VV (kvs.map fun kv=>(kV kv.1,kv.2)) ws->∃rs,Carries (E8 P w) ws rs/\KV kvs rs
 | [],_,r=>by rw [j3] at r;cases r;exact⟨[],Bo,.nil⟩
 | p :: kvs, _, r => by
   rw [F3] at r;cases r with
   | @cons a b as bs h t =>
     obtain⟨rs,c,q⟩:=KK (P:=P) (w:=w) t;obtain⟨b1,b2⟩:=b;exact⟨(p.1,b2)::rs,⟨EV h.1,rfl,c⟩,.cons ⟨rfl,h.2⟩ q⟩
def tDisp (trs:List (TE×TE)):TE:=fun σ H Q=>∀p,H p=none->Hx trs σ (upd H p (.dK [])) fun ps H2=>H2 p=some (.dK [])/\∃kvs:List (Key×V),ps=kvs.map (fun kv=>(kV kv.1,kv.2))/\kvs.length<=15/\Q (.ref p) (upd H2 p (.dK (AF [] kvs)))
theorem ON {X:Cx}{pos:Pos}{keys:List (Option Expr)}{values:List Expr}{trs:List (TE×TE)}(h:PPs X pos keys values trs)(hall:keys.all (·.isSome)=true)(hl:keys.length=values.length)(h0:keys≠[])
   (h15:keys.length<=15):PE X (.Dict keys values pos) (tDisp trs):=by
 intro pins s σ H Q I q;have hn:=I.hok.fresh (A9 s.heap.objs.size);have I1:=I.laid (a:=s.heap.objs.size) (o:=.dK []) (h':=s.heap.push { cls:=.type "dict",data:=.dict #[] }) (t':=s.toks) (fun _ _ q=>B6 _ q) (A9 _) (Nm s.heap I.big);refine wpAny_Dict_walk (knd:=E8 X.prog X.w) hall hl h0 h15 (thn (h pins _ σ _ _ I1 (q _ hn)) fun ws s2 ⟨ps,H2,I2,rel,e,kvs,ep,lk,q2⟩=>?_);subst ep;obtain⟨rs,c,rk⟩:=KK (P:=X.prog) (w:=X.w) rel;obtain⟨z,hd,vs0,r0,dd⟩:=dk_of I2.hok e;cases r0;refine⟨rs,c,dd,fun h' dd' hs=>⟨.ref s.heap.objs.size,_,?_,rfl,q2⟩⟩
 have hz:(AF [] kvs).length<=B0:=by
   have h1:=OM kvs [];rw [List.length_nil] at h1;rw [M7];omega
 have he:∃q,h'.get? s.heap.objs.size=some q:=let ⟨q,_,_,hq,_⟩:=dd';⟨q,hq⟩;exact Hw I2 (by rw [e];exact Bo) hs he (KJ hz hd (rk.merge .nil) dd')
end L2
end
section
namespace L2
open PySem PySem.W PySem.Spec PyProof.Rows
section
variable {prog:B2}{w:World}{A:Around}{E:Value->Shared->Prop}{s:Shared}{T:String}{r d:Addr}{n:Nat}{P:Nat->Value->Prop}{OK:Heap->Prop}
theorem OP {R:List Value->Shared->Prop}(K:KdlSrc prog w T r d n P OK)(hh:A.handled=none)(hok:OK s.heap)(hn:n<=B0)
   (h:∀(h':Heap) (tk:Nat) (acc:Array Value),(∀b o,s.heap.get? b=some o->h'.get? b=some o)->s.heap.objs.size<=h'.objs.size->ItemsOf P acc n->R acc.toList { s with heap:=h',toks:=tk }) :
   wpAny (model prog w) A (collect (.ref r)) R E s:=by
 have hlt:=K.there _ hok;unfold collect;refine A0 (wpAny_runValue (X4 entry_proto_collect' ?_));rw [c6 PySem.F.plain_proto_collect _];show wpAny _ A.in1 (newList []>>=fun l=>again (.builtin "list.__iadd__" ⟨[l,.ref r],[]⟩)) _ _ s;refine A0 (J8 (A4 ⟨Z5 Ed _,X4 entry_list_iadd' ?_⟩));rw [c6 Ed _];have hS:(s.heap.push { cls:=.type "list",data:=.seq ([]:List Value).toArray }).get? s.heap.objs.size=some { cls:=.type "list",data:=.seq #[] }:=E1 _ rfl
 have key:=kdl_extend (A:=A) (s:={ s with heap:=s.heap.push { cls:=.type "list",data:=.seq ([]:List Value).toArray } })
   (R:=fun(q:Result) (s':Shared)=>∃(h':Heap) (tk:Nat) (acc:Array Value) (c:Nat),q=.ok (.ret (.ref s.heap.objs.size))/\s'={ s with heap:=h',toks:=tk }/\
     (∀b o,s.heap.get? b=some o->h'.get? b=some o)/\h'.get? s.heap.objs.size=some { cls:=.type "list",dict:=none,data:=.seq acc c,slots:=#[] }/\ItemsOf P acc n)
   K hh (K.keep _ _ hok fun b _ o e=>B6 _ e) s.heap.objs.size (u4 hlt.1) (u4 hlt.2) (.ref s.heap.objs.size) 0 hS
   (fun h' tk acc c hk hS' ha=>⟨h',tk,acc,c,rfl,rfl,fun b o e=>hk b o (D0 (B9 e)) (B6 _ e),hS',ha⟩) hn
 refine F9 key (fun fin s' x=>?_) fun e s' x=>?_
 · cases fin with
   | done f =>
     obtain⟨h',tk,acc,c,e,rfl,hk,hS',ha⟩:=x;cases e;exact A0 (wpAny_load hS' (A4 (h h' tk acc hk (b8 (B9 hS')) ha)))
   | again c₁ =>
     refine⟨x.1,p7 x.2 fun q s₂ y=>?_⟩;obtain⟨h',tk,acc,c,rfl,rfl,hk,hS',ha⟩:=y;exact A0 (wpAny_load hS' (A4 (h h' tk acc hk (b8 (B9 hS')) ha)))
 · obtain⟨_,_,_,_,e',_⟩:=x;cases e'
end
section
variable {X:Cx}
def KL (H:Hp):List V->List (List Key)->Prop:=Paired fun y ks=>∃b,y=.ref b/\H b=some (.tup (ks.map kV))
theorem call_sortedT (hc:X.calm=true):K1 X (.builtin "sorted") (fun xs H Q=>∃a kvs,xs=[.ref a]/\H a=some (.dT kvs)/\kvs.length < 64/\(∀kv∈kvs,kv.1≠[])/\l6 (kvs.map (·.1))/\
   ∀l ys,H l=none->KL H ys (kvs.map (·.1))->Q (.ref l) (upd H l (.lst (outV (ltIx (kvs.map (·.1))) ys)))):=by
 intro pins s σ H xs us Q I r h;obtain⟨a,kvs,rfl,ha,h64,hne,al,q⟩:=h;obtain⟨u,rfl,rx⟩:=k6 r;cases rx;obtain⟨hz,lo,ys,pr,o,es,ep,ho,hx,hd,he,nd⟩:=(show G5 X.prog X.w H s.heap a (.dT kvs) from I.hok a _ ha);have hl:kvs.length=ys.length:=Bj pr;have es_l:es.size=ys.length:=by rw [<- F4,he,A7]
 have kr:KL H (ys.map fun y=>V.ref y.2.1) (kvs.map (·.1)):=by
   clear nd he es_l hl h64 hne al q ha hz
   induction pr with
   | nil=>exact .nil
   | cons h1 _ ih=>exact .cons ⟨_,rfl,h1.2.1⟩ ih
 have vv:Vals (ys.map fun y=>V.ref y.2.1) (ys.map fun y=>K0 y.2.1):=by
   clear nd he es_l hl kr pr
   induction ys with
   | nil=>exact .nil
   | cons y ys ih=>exact .cons rfl ih
 have pk:Paired (KM X.K H 2) (ys.map fun y=>V.ref y.2.1) (kvs.map (·.1)):=by
   clear nd he es_l hl vv al q ha h64 hz kr
   induction pr with
   | nil=>exact .nil
   | cons h1 _ ih=>exact .cons ⟨_,rfl,SqT.of h1.2.1,hne _ B8⟩ (ih fun kv hk=>hne kv (B5 _ hk))
 have pk1:=KF I 2 vv pk;have O:=BF (kvs.map (·.1));have raw:Raw s.heap a es ep:=⟨o,ho,hx,hd⟩;refine KA (vs:=ys.map fun y=>K0 y.2.1) (lt:=ltIx (kvs.map (·.1))) (by rw [A7];omega) (fun R hR=>?_) (fun h2 A E h1 tk k=>Ho h2 pk1 al A E h1 tk k) fun h2 tk D e k hD hD'=>?_
 · refine OP (OF (es:=es) (ep:=ep) lo) (I.ok.hd hc) raw (by rw [es_l,<- hl];exact hz) fun h' tk acc hk hs ha=>?_
   have:acc.toList=ys.map fun y=>K0 y.2.1:=by
     apply BY
     intro i;rw [O0,D5];cases ea:acc[i]? with
     | none =>
       have:ys[i]?=none:=by
         rw [List.getElem?_eq_none_iff];have:=Array.getElem?_eq_none_iff.mp ea;rw [ha.1] at this;omega
       rw [this];rfl
     | some v =>
       obtain⟨en,e1,rfl⟩:=ha.2 i v ea;rw [<- O0,he,D5] at e1;cases ey:ys[i]? with
       | none=>rw [ey] at e1;cases e1
       | some y=>rw [ey] at e1;cases e1;rfl
   rw [this];exact hR h' tk hk hs
 · have vo:=EO vv O
   have hlo:(outV (ltIx (kvs.map (·.1))) (ys.map fun y=>V.ref y.2.1)).length<=B0:=by
     unfold outV
     split
     · rw [A7,<- hl];exact hz
     · rw [A7,F4,(Kr.sort_ok O (by rename_i c;rw [A7] at c ⊢;omega)).2.1,A7,<- hl];exact hz
   exact⟨.ref D,_,I.laid (t':=tk) k hD (show G5 X.prog X.w _ h2 _ (.lst _) from⟨hlo,_,e,vo,hD'⟩),rfl,q _ _ (I.hok.fresh hD) kr⟩
end
end L2
end
section
namespace Pu
open PySem PySem.Spec L2
def tupP (ks:List Key):PV:=.tup (ks.map kP)
end Pu
end
section
namespace L2
open PySem PySem.Spec PyProof.Rows
theorem OQ:N0 "reversed"=some (.type "reversed"):=by decide +kernel
theorem OR:isSubtype (.type "range_iterator") (.type "reversed")=pure false:=by rw [p5];kernel_rfl
def BH (n:Int):Obj:={ cls:=.type "range_iterator",data:=.fields #[rawInt (0 + (n - 1) * 1),rawInt n,rawInt (-1)] }
section
variable {prog:B2}{w:World}{A:Around}{E:Value->Shared->Prop}{s:Shared}
theorem OS {r:Addr}{n:Int}{t u v:Tok}{Q:Value->Shared->Prop}(h0:0<=n)(h1:n<=1000000)(hr:s.heap.get? r=some { cls:=.type "range",data:=.fields #[.int 0 t,.int n u,.int 1 v] })
   (h:Q (.ref s.heap.objs.size) { s with heap:=s.heap.push (BH n) }):wpAny (model prog w) A (call (.builtin "range.__reversed__") [.ref r]) Q E s:=by
 have hT:s.TypeIs (.ref r) "range":=⟨_,hr,rfl⟩;refine M6 F.slot_range_reversed hT F.entry_range_reversed ?_ (F.args_range_reversed_1 _);unfold M1.«range.__reversed__»;refine A0 (O7 (a:=K0 r) rfl ?_);refine A0 ?_;unfold Builtin.Range.rangeFields;refine A0 (L8 hr rfl (x:=.int 0 t) rfl ?_);refine A0 (O7 (a:=some (0:Int)) rfl ?_);refine A0 (L8 hr rfl (x:=.int n u) rfl ?_);refine A0 (O7 (a:=some n) rfl ?_);refine A0 (L8 hr rfl (x:=.int 1 v) rfl ?_);refine A0 (O7 (a:=some (1:Int)) rfl ?_);refine A4 ?_
 have hs:Gg 0 n 1=n:=by
   unfold Gg;rw [if_pos (by decide),Int.ediv_one]
   split <;> omega
 dsimp only;rw [hs]
 have sm:(Ap 0 && Ap n && Ap 1 && Ap (-1) && Ap (0 - 1) && Ap n)=true:=by
   simp only [Ap,u5,decide_eq_true_eq];omega
 rw [sm];simp only [Am,J7,if_false,if_true];exact A0 (J8 (A4 ⟨_,rfl,h⟩))
theorem OT {r:Addr}{n:Int}{t u v:Tok}{Q:Value->Shared->Prop}(h0:0<=n)(h1:n<=1000000)(hr:s.heap.get? r=some { cls:=.type "range",data:=.fields #[.int 0 t,.int n u,.int 1 v] })
   (h:Q (.ref s.heap.objs.size) { s with heap:=s.heap.push (BH n) }):wpAny (model prog w) A (call (.type "reversed") [.ref r]) Q E s:=by
 have hT:s.TypeIs (.ref r) "range":=⟨_,hr,rfl⟩;refine callType_other (U:="range_iterator") (Q₁:=fun obj s₁=>obj=.ref s.heap.objs.size/\s₁={ s with heap:=s.heap.push (BH n) }) (by decide +kernel) F.create_reversed ⟨_,_,F.mro_reversed⟩ F.made_reversed OR (F.typeCall_reversed_1 _) ?_ ?_
 · refine DB ?_;show wpAny _ A.in1.in1 (do checkBuiltinCall "reversed.__new__" ⟨[.type "reversed",.ref r],[]⟩;again (.builtin "reversed.__new__" ⟨[.type "reversed",.ref r],[]⟩)) _ _ s;refine A0 (O7 (F.newCall_reversed_1 _) (A4 ⟨Z5 F.plain_reversed_new _,X4 F.entry_reversed_new ?_⟩));rw [c6 F.plain_reversed_new _];unfold M1.«reversed.__new__»;refine A0 (O7 (newClass_reversed _) ?_)
   try dsimp only
   refine A0 (O7 (a:=()) (by first | rfl | kernel_rfl) ?_);refine A0 (O7 (a:=()) (by first | rfl | kernel_rfl) ?_)
   try dsimp only
   refine A0 (BU hT F.slot_range_reversed.lookup ?_)
   try dsimp only
   refine A0 (O7 (F.slot_range_reversed.bind _) ?_)
   try dsimp only
   first
   | rw [if_neg (show ¬((Value.builtin "range.__reversed__" == N4)=true) from J3)]
   | (show wpAny _ _ (if(Value.builtin "range.__reversed__" == N4)=true then _ else _) _ _ _;rw [if_neg (show ¬((Value.builtin "range.__reversed__" == N4)=true) from J3)])
   refine A0 (V9 ?_);refine A0 (m:=runValue (.call (.builtin "range.__reversed__") ⟨[.ref r],[]⟩)) (show wpAny _ _ (call (.builtin "range.__reversed__") [.ref r]) _ _ _ from OS h0 h1 hr ?_)
   first
   | exact A4 ⟨rfl,rfl⟩
   | exact A0 (A4 (A4 ⟨rfl,rfl⟩))
 · rintro obj s₁ ⟨rfl,rfl⟩;exact⟨⟨_,E1 _ rfl,rfl⟩,h⟩
end
section
variable {X:Cx}{tg:Expr}
def tRng1 (ta:TA):TE:=fun σ H Q=>ta σ H fun vs H1=>∃j:Int,vs=[.int j]/\∀p,H1 p=none->Q (.ref p) (upd H1 p (.rng 0 j))
theorem OU {a:Expr}{ta:TA}{p pos:Pos}(hg:Gl X "range")(hm:X.mg "range"=none)(ha:PA X [a] ta)(hs:E4 [a] X.env=[(false,eval a X.env)]:=by rfl):PE X (.Call (.Name "range" p) [a] [] pos) (tRng1 ta):=by
 intro pins s σ H Q I h;refine Call_ (Bq I hg hm boot_range (Ch (thn (ha pos pins s σ H _ I h) fun us s1 ⟨vs,H1,I1,r1,q1⟩=>?_) hs rfl));obtain⟨j,e,q⟩:=q1;subst e;cases r1 with
 | cons r rr =>
   cases rr;obtain⟨t,rfl⟩:=r;refine call_range_1 ?_;exact⟨.ref s1.heap.objs.size,_,I1.laid (a:=s1.heap.objs.size) (o:=.rng 0 j) (fun b o e=>B6 _ e) (A9 _) ⟨_,_,_,E1 _ rfl⟩,rfl,q _ (I1.hok.fresh (A9 _))⟩
def iRevR (ta:TA):TI:=fun σ H R=>ta σ H fun vs H1=>∃(r:Addr) (n:Int),vs=[.ref r]/\H1 r=some (.rng 0 n)/\0<=n/\n<=1000000/\R (Itd (n - 1) n.toNat) H1
theorem OV {e:Expr}{ta:TA}{p pos:Pos}(hg:Gl X "reversed")(hm:X.mg "reversed"=none)(ha:PA X [e] ta)(hs:E4 [e] X.env=[(false,eval e X.env)]:=by rfl):PI X tg (.Call (.Name "reversed" p) [e] [] pos) (iRevR ta):=by
 intro pins s σ H R I h;refine Call_ (Bq I hg hm OQ (Ch (thn (ha pos pins s σ H _ I h) fun us s1 ⟨vs,H1,I1,r1,q1⟩=>?_) hs rfl));obtain⟨r,n,e,hr,h0,h2,q⟩:=q1;subst e;cases r1 with
 | cons rr0 rr =>
   cases rr;cases rr0;obtain⟨t,u,v,ho⟩:=(show G5 X.prog X.w H1 s1.heap r (.rng 0 n) from I1.hok r _ hr);refine OT h0 h2 ho ?_;have I2:Inv X pins σ H1 { s1 with heap:=s1.heap.push (BH n) }:=I1.kept (t':=s1.toks) fun b o e=>B6 _ e
   have st:IsRangeIter (s1.heap.push (BH n)) s1.heap.objs.size (n - 1 + ((0:Nat):Int) * -1) ((n.toNat:Int) - ((0:Nat):Int)) (-1):=by
     have e1:n - 1 + ((0:Nat):Int) * -1=0 + (n - 1) * 1:=by omega
     have e2:(n.toNat:Int) - ((0:Nat):Int)=n:=by omega
     rw [e1,e2];exact E1 _ rfl
   refine FT (s:={ s1 with heap:=s1.heap.push (BH n) }) st ?_;refine⟨s1.heap.objs.size,[s1.heap.objs.size],_,_,H1,rfl,I2,NG _ (n - 1) n.toNat,st,fun b hb=>?_,q⟩;have e:b=s1.heap.objs.size:=by simpa using hb
   subst e;exact I1.fpOk (A9 _) (I1.hok.fresh (A9 _))
end
end L2
namespace Pu
open PySem PySem.Spec L2
section
variable {T:PotK}{ι:Type}{K:A5}{F:ι->Cx}{tg e:Expr}{pe:pE}{pos:Pos}
def EY (pe:pE):pA:=fun env n R=>pe env n fun x env1 n1=>match x with | .int j=>(0<=j/\j<=1000000)/\R ((D1 j.toNat).map fun(k:Nat)=>PV.int (j - 1 - k)) env1 n1 | _=>False
theorem KN {p p2 pos2:Pos}(hg:∀z,Gl (F z) "reversed")(hm:∀z,(F z).mg "reversed"=none)(hg2:∀z,Gl (F z) "range")(hm2:∀z,(F z).mg "range"=none)(h:QE T K F e pe)(hs:F8 e=true:=by rfl):QI T K F tg (.Call (.Name "reversed" p) [.Call (.Name "range" p2) [e] [] pos2] [] pos) (EY pe):=by
 obtain⟨t,h1,h2⟩:=h;refine⟨_,fun z=>OV (hg z) (hm z) (F6 (OU (hg2 z) (hm2 z) (F6 (h1 z) J1 (D2 hs)) (D2 hs)) J1 (D2 rfl)) (D2 rfl),fun C G σ H env n R Q hK hT S hp k=>?_⟩;refine h2 C G σ H env n _ _ hK hT S hp fun x env1 n1 v H1 p1 S1 r1 f1=>?_;cases x with
 | int j =>
   refine⟨j,by rw [show v=.int j from r1],fun p hn=>⟨p,j,rfl,D9,p1.1.1,p1.1.2,?_⟩⟩;exact k _ _ _ _ _ p1.2 (S1.same (Same.lay1 hn)) (f1.trans (Fr.of (Same.lay1 hn))) (NH (j - 1) _)
 | _=>exact p1.elim
end
end Pu
end
section
namespace L2
open PySem PySem.Spec PyProof.Rows
def insL {α:Type}(xs:List α)(k:Nat)(y:α):List α:=xs.take k++y::xs.drop k
theorem CW {α:Type}(xs:List α)(k:Nat)(y:α):(insL xs k y).length=xs.length + 1:=by
 unfold insL;rw [E2,D3,L0,N9];omega
section
variable {X:Cx}
def KO:V->List V->Hp->VK->Prop:=fun x vs H Q=>∃l xs i y,x=.ref l/\vs=[.int i,y]/\H l=some (.lst xs)/\0<=i/\i<=1000000/\xs.length < B0/\Q .non (upd H l (.lst (insL xs i.toNat y)))
theorem OW {its:List Value}{i:Int}{u:Value}(h0:0<=i):(have k:=if i < 0 then(i + ((its.toArray.size:Nat):Int)).toNat else min i.toNat its.toArray.size;(its.toArray.extract 0 k).push u++its.toArray.extract k)=(insL its i.toNat u).toArray:=by
 have e:(if i < 0 then(i + ((its.toArray.size:Nat):Int)).toNat else min i.toNat its.toArray.size)=min i.toNat its.length:=by
   rw [if_neg (by omega)];simp
 show(its.toArray.extract 0 (if i < 0 then(i + ((its.toArray.size:Nat):Int)).toNat else min i.toNat its.toArray.size)).push u++its.toArray.extract (if i < 0 then(i + ((its.toArray.size:Nat):Int)).toNat else min i.toNat its.toArray.size)=_;rw [e];unfold insL;rcases Ce i.toNat its.length with h | h
 · rw [AY h];simp;exact X8 (by rw [N9];exact A9 _)
 · rw [Cd h,X8 h,X9 h];simp
theorem OX:MtM X "list.insert" KO:=by
 intro pins s σ H x vs v us Q I rx rv h;obtain⟨l,xs,i,y,rfl,rfl,hH,h0,h1,hz,q⟩:=h;cases rx;cases rv with
 | cons ri rv =>
   obtain⟨t,rfl⟩:=ri;obtain⟨u,rfl,ru⟩:=Vals.one rv;obtain⟨z,its,n,r,hl,e⟩:=I.lstM hH
   have hf:¬(!IU i)=true:=by
     simp only [IU];simp;omega
   refine call_meets F.slot_list_insert ⟨_,e,rfl⟩ F.entry_list_insert (F.args_list_insert_3 _ _ _) (PySem.AutoSeq1.list_insert_list_int_val_1 l its.toArray n i t u hf (by rw [D8];omega)) ⟨e,?_⟩;refine⟨.non,_,I.lset (its':=insL its i.toNat u) hH e (OW h0) ?_ ?_,rfl,q⟩
   · exact(r.take i.toNat).append (.cons ru (r.drop i.toNat))
   · rw [CW];omega
end
end L2
namespace Pu
open PySem PySem.Spec L2
section
variable {T:PotK}{ι:Type}{K:A5}{F:ι->Cx}{e ei:Expr}{pe pi:pE}{pos:Pos}
def EZ (i:Nat)(pi pe:pE):pE:=fun env n R=>(∃xs,env[i]?=some (some (.ow .lst xs)))/\pi env n fun j env1 n1=>pe env1 n1 fun y env2 n2=>match env2[i]?,j with | some (some (.ow .lst xs)),.int j=>(0<=j/\j<=1000000/\xs.length < 1000000)/\R .non (env2.set i (some (.ow .lst (insL xs j.toNat y)))) n2 | _,_=>False
theorem KP (i:Nat){x:Str}{p ap:Pos}(hv:∀z,EW (F z) (.Name x p) (tVar i))(hi:QE T K F ei pi)(he:QE T K F e pe)(hs1:F8 ei=true:=by rfl)(hs:F8 e=true:=by rfl)(hbase:∀z,z0 (.Name x p) "insert" (F z).env (eval (.Name x p) (F z).env)=eval (.Name x p) (F z).env:=by intro _;rfl)(hline:(ap.endLine == pos.line)=true:=by rfl)
   (hfew:∀z,((backTo pos (E4 [ei,e] (F z).env)).all (fun x=>!x.1) && (backToKw pos (AR [] (F z).env)).all (fun x=>x.1.isSome) && decide (([ei,e]:List Expr).length + ([]:List X5).length + (if([]:List X5).isEmpty then 0 else 1) < 30))=true:=by intro _;rfl)
   (hplain:∀z,(backTo pos (E4 [e] (F z).env)).any (·.1)=false:=by intro _;rfl) (hK:∀z,(F z).K=K:=by intro _;rfl):QE T K F (.Call (.Attribute (.Name x p) "insert" ap) [ei,e] [] pos) (EZ i pi pe):=by
 obtain⟨ti,i1,i2⟩:=hi;obtain⟨t,a1,a2⟩:=he;refine⟨tBM K "list" KO (tVar i) (Y6 ti (Y6 t tNil)),fun z=>hK z▸Ej Ec PySem.F.slot_list_insert PySem.F.type_list_insert OX (hv z).h (F6 (i1 z) (F6 (a1 z) J1 (D2 hs)) (D2 hs1)) (hbase z) (hfew z) hline (D2 hs1) (hplain z),fun C G σ H env n R Q hK hT S hp k=>?_⟩;obtain⟨⟨xs0,e0⟩,hp⟩:=hp;obtain⟨a,vs,ev,h1,h2,h3,h4,r⟩:=S.slots i _ e0;refine⟨.ref a,ev,.inl ⟨rfl,vs,SqL.of h4⟩,?_⟩;refine i2 C G σ H env n _ _ hK hT S hp fun j env1 n1 v H1 q1 S1 r1 f1=>?_;refine a2 C G σ H1 env1 n1 _ _ hK hT S1 q1 fun y env2 n2 u H2 q2 S2 r2 f2=>?_
 split at q2
 · rename_i xs j' ex;obtain⟨a',us,ev',g1,g2,g3,g4,r'⟩:=S2.slots i _ ex;rw [ev] at ev';cases ev';subst hK;obtain⟨S3,f3⟩:=S2.put ex ev ((r'.take j'.toNat).append (xs:=xs.take j'.toNat) (ys:=y::xs.drop j'.toNat) (us:=u::us.drop j'.toNat) ⟨u,_,rfl,r2,r'.drop j'.toNat⟩);exact⟨a,us,j',u,rfl,by rw [show v=.int j' from r1],g4,q2.1.1,q2.1.2.1,by rw [<- r'.length];exact mil' (by omega),k _ _ _ _ _ q2.2 S3 rfl ((f1.trans f2).trans f3)⟩
 · exact q2.elim
end
end Pu
end
section
namespace Pu
open PySem PySem.Spec L2
def dPot (c:Addr)(at_ left seed:Int):List (Key×V):=[(C9 (A6 "cells"),.ref c),(C9 (A6 "at"),.int at_),(C9 (A6 "left"),.int left),(C9 (A6 "seed"),.int seed)]
theorem O6 {a b:String}(h:a≠b)(e:(A6 a == A6 b)=false:=by decide):¬((C9 (A6 a):Key)=C9 (A6 b)):=fun z=>by
 have:=Sum.inr.inj z;rw [this] at e;simp at e
theorem OY {c:Addr}{a l s:Int}:valV (dPot c a l s) (C9 (A6 "cells"):Key)=some (.ref c):=AE rfl
theorem OZ {c:Addr}{a l s:Int}:valV (dPot c a l s) (C9 (A6 "at"):Key)=some (.int a):=by
 unfold dPot;rw [l7 (O6 (by decide)),AE rfl]
theorem O_ {c:Addr}{a l s:Int}:valV (dPot c a l s) (C9 (A6 "left"):Key)=some (.int l):=by
 unfold dPot;rw [l7 (O6 (by decide)),l7 (O6 (by decide)),AE rfl]
theorem Pa {c:Addr}{a l s:Int}:valV (dPot c a l s) (C9 (A6 "seed"):Key)=some (.int s):=by
 unfold dPot;rw [l7 (O6 (by decide)),l7 (O6 (by decide)),l7 (O6 (by decide)),AE rfl]
theorem Hy {kvs:List (Key×V)}{k:Key}{v:V}(h:(kvs.any fun kv=>decide (kv.1=k))=true):putK kvs k v=kvs.map (fun kv=>if kv.1=k then(kv.1,v) else kv):=by unfold putK;rw [if_pos h]
theorem Pb {c:Addr}{a l s x:Int}:putK (dPot c a l s) (C9 (A6 "at"):Key) (.int x)=dPot c x l s:=by
 rw [Hy (by unfold dPot;simp)];unfold dPot;simp only [F3,j3];rw [if_neg (O6 (by decide)),if_pos trivial,if_neg (O6 (by decide)),if_neg (O6 (by decide))]
theorem Pc {c:Addr}{a l s x:Int}:putK (dPot c a l s) (C9 (A6 "left"):Key) (.int x)=dPot c a x s:=by
 rw [Hy (by unfold dPot;simp)];unfold dPot;simp only [F3,j3];rw [if_neg (O6 (by decide)),if_neg (O6 (by decide)),if_pos trivial,if_neg (O6 (by decide))]
theorem Pd {c:Addr}{a l s x:Int}:putK (dPot c a l s) (C9 (A6 "seed"):Key) (.int x)=dPot c a l x:=by
 rw [Hy (by unfold dPot;simp)];unfold dPot;simp only [F3,j3];rw [if_neg (O6 (by decide)),if_neg (O6 (by decide)),if_neg (O6 (by decide)),if_pos trivial]
structure CY (cells:List Int)(at_ left seed:Int):Prop where
 c63:cells.length<=63
 a0:0<=at_
 l0:0<=left
 s0:0<=seed
 s1:seed < 2 ^ 62
def DPotAt (M:List Addr)(H:Hp)(p:Addr):Prop:=∃(c:Addr) (cells:List Int) (at_ left seed:Int),H p=some (.dK (dPot c at_ left seed))/\c∉M/\H c=some (.lst (cells.map V.int))/\CY cells at_ left seed
def potD:PotK where
 at_:=fun M H p _=>DPotAt M H p
 mono:=fun h _=>h
 keep:=fun⟨c,cells,a,l,s,h1,h2,h3,h4⟩ e k=>⟨c,cells,a,l,s,e.trans h1,h2,k c _ h2 h3,h4⟩
 more:=fun⟨c,cells,a,l,s,h1,h2,h3,h4⟩ k=>⟨c,cells,a,l,s,h1,fun z=>(k c z).elim h2 fun z=>(by rw [z] at h3;cases h3),h3,h4⟩
 mu:=fun⟨c,cells,a,l,s,h1,h2,h3,h4⟩=>⟨_,h1,trivial⟩
section
variable {P:B2}{w:World}{K:A5}{mg:Str->Option Value}{base:Heap}
def spNext:Sp:=fun vs H Q _=>∃(p c:Addr) (cells:List Int) (at_ left seed many:Int),vs=[.ref p,.int many]/\H p=some (.dK (dPot c at_ left seed))/\H c=some (.lst (cells.map V.int))/\CY cells at_ left seed/\0 < many/\many < 1000000/\
 ∀d at' left' seed',0<=d->d < many->CY cells at' left' seed'->Q (.int d) (upd H p (.dK (dPot c at' left' seed')))
theorem Pe {x:Str}{k:Nat}{ps:List Str}(G:Kn P w K mg base x k ps spNext):Kn P w K mg base x k ps (B4 K potD w8):=G.imp fun vs H Q E h=>by
 obtain⟨G,xs,n,R,hp,hm,_,r,hf,k⟩:=h;unfold w8 at hf
 split at hf
 · rename_i kk m;obtain⟨v,rr,rfl,rv,u,r2,rfl,ru,rfl⟩:=r;obtain⟨p,ep,rfl⟩:=rv;obtain rfl:u=.int m:=ru;have pin:p∈G.pots:=G8 ep;obtain⟨pM,c,cells,a,l,s,e,hc,ec,ok⟩:=hp p pin;refine⟨p,c,cells,a,l,s,m,rfl,e,ec,ok,hf.1.1,hf.1.2.1,fun d a' l' s' d0 d1 ok'=>?_⟩;refine k _ _ _ _ (hf.2 d d0 d1) rfl (fun q hq=>?_) fun b o hb eb=>?_
   · by_cases hqp:q=p
     · subst hqp;exact⟨c,cells,a',l',s',D9,hc,by rw [C7 fun z=>hc (by rw [z];exact pM)];exact ec,ok'⟩
     · obtain⟨_,c2,cells2,a2,l2,s2,e2,hc2,ec2,ok2⟩:=hp q hq;exact⟨c2,cells2,a2,l2,s2,by rw [C7 hqp];exact e2,hc2,by rw [C7 fun z=>hc2 (by rw [z];exact pM)];exact ec2,ok2⟩
   · rw [C7 (fun z=>hb (by rw [z];exact pin))];exact eb
 · exact hf.elim
def E_ (K:A5):Sp:=fun vs H Q _=>∃(a:Addr) (ns:List Int),vs=[.ref a]/\SqL K H a (ns.map V.int)/\ns.length<=63/\
 ∀(H':Hp) (p c:Addr) (cells:List Int) (at_ left seed:Int),Same H H'->H p=none->H c=none->H' p=some (.dK (dPot c at_ left seed))->H' c=some (.lst (cells.map V.int))->CY cells at_ left seed->Q (.ref p) H'
end
section
variable {ι:Type}{K:A5}{F:ι->Cx}{e:Expr}{es:List Expr}{st:Stmt}{pos:Pos}{pl:pA}{pe pa pb:pE}
theorem SR.potG {C:Ct}{G:Gh}{σ:St}{H H':Hp}{env:Env}{n:Nat}(S:SR C G σ H env n)(hn:C.np=true){p:Addr}{ob:HO}(mo:MutO ob)(h:H p=none)(sm:Same H H')(h':H' p=some ob)(ok:C.T.at_ (p::G.M) H' p n) :
   SR C ⟨p::G.M,G.pots++[p]⟩ σ H' env n:=by
 have hM:∀a∈p::G.M,a∈G.M\/H a=none:=fun a ha=>(B7.mp ha).elim (fun z=>.inr (z▸h)) .inl
 have hp:∀(k:Nat) (q:Addr),G.pots[k]?=some q->(G.pots++[p])[k]?=some q:=fun k q e=>by
   obtain⟨hk,_⟩:=E6.mp e;rw [U2 hk];exact e
 have mm:∀{x:PV} {v:V},Rep C.K G H x v->Rep C.K ⟨p::G.M,G.pots++[p]⟩ H' x v:=fun r=>Rep.mono (G':=⟨p::G.M,G.pots++[p]⟩) (fun b o _ e=>sm b o e) hM hp _ _ r;have mms:∀{x:List PV} {v:List V},Reps C.K G H x v->Reps C.K ⟨p::G.M,G.pots++[p]⟩ H' x v:=fun r=>Reps.mono (G':=⟨p::G.M,G.pots++[p]⟩) (fun b o _ e=>sm b o e) hM hp _ _ r;have pM:=S.fresh h
 exact {
   frame:=fun b o hb e=>sm b o (S.frame b o hb e)
   sub:=fun a ha=>(B7.mp ha).elim (fun z=>.inr (z▸S.old h)) (S.sub a)
   sup:=fun a ha=>B5 _ (S.sup a ha)
   pots:=fun q hq=>by
     rcases K6.mp hq with z | z
     · refine⟨B5 _ (S.pots q z).1,?_⟩;have h1:=C.T.more (M':=p::G.M) (S.pots q z).2 hM;obtain⟨o,e,_⟩:=C.T.mu h1;exact C.T.keep h1 (by rw [e,sm q o e]) fun b o _ e=>sm b o e
     · rw [F2.mp z];exact⟨B8,ok⟩
   pre:=by
     obtain⟨l,el,_⟩:=S.pre;exact⟨l++[p],by show G.pots++[p]=_;rw [el,W5],.inr hn⟩
   mu:=fun a ha=>by
     rcases B7.mp ha with rfl | ha
     · exact⟨ob,h',mo⟩
     · obtain⟨o,e,m⟩:=S.mu a ha;exact⟨o,sm a o e,m⟩
   slots:=fun i s e=>by
     cases s with
     | v x =>
       obtain⟨v,ev,r⟩:=S.slots i _ e;exact⟨v,ev,mm r⟩
     | ow kk xs =>
       obtain⟨b,us,ev,h1,h2,h3,h4,r⟩:=S.slots i _ e;refine⟨b,us,ev,B5 _ h1,h2,fun z=>?_,sm _ _ h4,mms r⟩;rcases K6.mp z with z | z
       · exact h3 z
       · rw [F2.mp z] at h1;exact pM h1
   inj:=S.inj
   p0:=⟨S.p0.1,C.T.hasM S.p0.2 fun z=>pM (S.pots p z).1⟩
   len:=S.len
   newp:=fun q hq hn' hM=>by
     rcases K6.mp hq with z | z
     · exact S.newp q z hn' hM
     · rw [F2.mp z] at hM
       exact pM (S.sup p hM) }
def Hz (i:Nat)(pa:pE):pS:=fun D env n=>pa env n fun x env1 n1=>match x with | .scr ns=>ns.length<=63/\∀q:Nat,D.nx (env1.set i (some (.v (.pot q)))) n1 | _=>False
theorem Pf (i:Nat){x:Str}{p:Pos}{a:Expr}{k j:Nat}{ps:List Str}(h:∀z te,EW (F z) (.Call (.Name x p) [a] [] pos) te->SW (F z) st (tAsg te (N5 i)))(hG:∀z,Kn (F z).prog (F z).w (F z).K (F z).mg (F z).base x k ps (E_ K))(hr:∀z,Room j (F z).A)(hk:k<=j)(hg:∀z,Gl (F z) x)
   (ha:QE potD K F a pa) (n1:F8 a=true:=by rfl) (hdb:(x == ("__debug__":Str))=false:=by decide):QS potD true K F st (Hz i pa):=by
 obtain⟨t,a1,a2⟩:=ha;refine⟨_,fun z=>(h z _ ⟨pe_fn (hG z) (hr z) hk (hg z) (F6 (a1 z) J1 (D2 n1)) hdb (D2 n1)⟩).h,fun C G σ H env n PD D hK hT hn S hp L=>?_⟩;refine a2 C G σ H env n _ _ hK hT S hp fun x env1 n1 v H1 q1 S1 r1 f1=>?_
 split at q1
 · rename_i ns;obtain⟨a,ev,hq⟩:=CD (.inl r1);refine(show E_ K [v] H1 (fun x H1=>N5 i x σ H1 D.nx) E0 from ?_);refine⟨a,ns,by rw [ev],hq,q1.1,fun H2 p c cells a l s sm hp hc ep ec ok=>?_⟩
   have S2:=S1.potG hn (p:=p) (ob:=.dK (dPot c a l s)) trivial hp sm ep (by
     rw [hT];refine⟨c,cells,a,l,s,ep,fun z=>?_,ec,ok⟩;rcases B7.mp z with rfl | z
     · rw [ep] at ec;cases ec
     · exact S1.fresh hc z)
   have S3:=S2.set i (x:=.pot G.pots.length) (v:=.ref p) ⟨p,by simp,rfl⟩;refine L.nx _ _ _ _ _ (q1.2 _) S3 ((Ext.fr f1).trans ⟨fun b o _ e=>sm b o e,fun c hc=>(B7.mp (show c∈p::G.M from hc)).elim (fun z=>.inr (z▸hp)) .inl,fun k q e=>?_⟩);obtain⟨hk,_⟩:=E6.mp e;show(G.pots++[p])[k]?=_;rw [U2 hk];exact e
 · exact q1.elim
end
end Pu
end
section
namespace L2
open PySem PySem.Spec PyProof.Rows
section
variable {prog:B2}{w:World}{A:Around}{E:Value->Shared->Prop}{s:Shared}
theorem Pg {t:Addr}{its:Array Value}{ys:List Str}{k:Str}{tok:Tok}{j:Nat}{Q:Value->Shared->Prop}(ht:s.heap.IsTuple t its)(hS:StrsAre its.toList ys)(hj:ys[j]?=some k)(hlt:∀i,i < j->ys[i]?≠some k)(hsm:ys.length<=1000000)
   (h:∀tk,Q (.int j tk) { s with toks:=s.toks + 1 }):wpAny (model prog w) A (call (.builtin "tuple.index") [.ref t,.str k tok]) Q E s:=by
 obtain⟨o,ho,hc,n,hd⟩:=id ht;have hT:s.TypeIs (.ref t) "tuple":=⟨o,ho,hc⟩;refine M6 F.slot_tuple_index hT F.entry_tuple_index ?_ (F.args_tuple_index_2 _ _);unfold M1.«tuple.index»;refine A0 (O7 (a:=(K0 t,[Value.str k tok])) rfl ?_);refine A0 (wpAny_tupleItemsOf ho hd ?_);dsimp only;refine A0 (A4 (A0 (A4 ?_)));refine A0 ?_;have hlen:ys.length=its.toList.length:=(StrsAre.length hS).symm
 have at_:∀(i:Nat) (y:Str),ys[i]?=some y->∃u,its[i]?=some (.str y u):=by
   intro i y hy
   have:∀{us:List Value} {zs:List Str},StrsAre us zs->∀(i:Nat),zs[i]?=some y->∃u,us[i]?=some (.str y u):=by
     intro us zs hh
     induction hh with
     | nil=>intro i h;cases h
     | cons x t _ ih =>
       intro i h;cases i with
       | zero=>cases h;exact⟨t,rfl⟩
       | succ i=>exact ih i (by simpa using h)
   obtain⟨u,hu⟩:=this hS i hy;exact⟨u,by rw [<- O0];exact hu⟩
 have hjl:j < its.size:=by
   have:=(E6.mp hj).1;rw [hlen,F4] at this;exact this
 rw [Std.Legacy.Range.forIn_eq_forIn_range'];refine Dx _ (fun rest r s'=>r.1=none/\s'=s/\∃i,rest=List.range' i (its.size - i)/\i<=j) _ ?_ ?_ _ _ ⟨rfl,rfl,0,?_,G4 _⟩
 · rintro x rest ⟨r1,r2⟩ s' ⟨hr,rfl,i0,hi,hij⟩;have hil:its.size - i0=(its.size - i0 - 1) + 1:=by omega
   rw [hil,List.range'_succ] at hi;obtain⟨i,hxi⟩:∃i,x=i:=⟨x,rfl⟩;injection hi with h1 h2;subst h2;have hi0:i0=i:=by rw [<- hxi,h1]
   subst hi0;subst hxi;clear h1
   revert hij hil
   generalize x=i;intro hij hil;have hiy:i < ys.length:=by rw [hlen,F4];omega
   obtain⟨u,hu⟩:=at_ i ys[i] (C4 hiy);rw [hu];dsimp only;refine A0 (eqBool_str ?_)
   by_cases c:i=j
   · subst c
     have:ys[i]=k:=by
       have:=C4 hiy;rw [hj] at this;exact(J9 this).symm
     rw [this,beq_self_eq_true,if_pos rfl];refine A0 (A0 (wpAny_mkInt (A4 (A4 ?_))));exact A4 ⟨_,rfl,h _⟩
   · have:ys[i]≠k:=fun e=>hlt i (by omega) (by rw [C4 hiy,e]);rw [beq_eq_false_iff_ne.mpr this,if_neg J3];refine A4 ⟨rfl,rfl,i + 1,?_,by omega⟩;rw [show its.size - (i + 1)=its.size - i - 1 by omega]
 · rintro⟨r1,r2⟩ s' ⟨hr,rfl,i,hi,hij⟩;have hil:its.size - i=(its.size - i - 1) + 1:=by omega
   rw [hil,List.range'_succ] at hi;cases hi
 · simp [Std.Legacy.Range.size]
end
section
variable {X:Cx}
def KQ (K:A5):V->List V->Hp->VK->Prop:=fun x vs H Q=>∃(l:Addr) (k:Str) (ys:List Str) (j:Nat),x=.ref l/\vs=[.str k]/\SqT K H l (ys.map V.str)/\ys.length<=1000000/\ys[j]?=some k/\(∀i,i < j->ys[i]?≠some k)/\Q (.int j) H
theorem Ph:MtM X "tuple.index" (KQ X.K):=by
 intro pins s σ H x vs v us Q I rx rv h;obtain⟨l,k,ys,j,rfl,rfl,hq,hz0,hj,hlt,q⟩:=h;cases rx;obtain⟨u,rfl,ru⟩:=rv.one;obtain⟨t,rfl⟩:=ru;obtain⟨its,r,p,hz⟩:=I.tuple hq;exact Pg p (Kd r) hj hlt hz0 fun tk=>⟨.int j,H,I.tok _,⟨_,rfl⟩,q⟩
end
end L2
end
section
namespace Pu
open PySem PySem.Spec PyProof.Rows L2
section
variable {T:PotK}{ι:Type}{K:A5}{F:ι->Cx}{e c:Expr}{pe pc:pE}{pos:Pos}
def V1:w2:=fun x y R=>match x,y with | .tup xs,.str k=>(match W9 xs with | some ys=>ys.length<=1000000/\∃j:Nat,ys[j]?=some k/\(∀i,i < j->ys[i]?≠some k)/\R (.int j) | none=>False) | _,_=>False
def P1 (pe pc:pE):pE:=fun env n R=>pe env n fun x env1 n1=>(∃xs,x=.tup xs)/\pc env1 n1 fun y env2 n2=>V1 x y fun z=>R z env2 n2
theorem V3 {ap:Pos}(he:QE T K F e pe)(hc:QE T K F c pc)(hs:F8 c=true:=by rfl)(hbase:∀z,z0 e "index" (F z).env (eval e (F z).env)=eval e (F z).env:=by intro _;rfl)(hline:(ap.endLine == pos.line)=true:=by rfl)
   (hfew:∀z,((backTo pos (E4 [c] (F z).env)).all (fun x=>!x.1) && (backToKw pos (AR [] (F z).env)).all (fun x=>x.1.isSome) && decide (([c]:List Expr).length + ([]:List X5).length + (if([]:List X5).isEmpty then 0 else 1) < 30))=true:=by intro _;rfl) (hK:∀z,(F z).K=K:=by intro _;rfl):QE T K F (.Call (.Attribute e "index" ap) [c] [] pos) (P1 pe pc):=by
 obtain⟨t,a1,a2⟩:=he;obtain⟨u,b1,b2⟩:=hc;refine⟨tBM K "tuple" (KQ K) t (Y6 u tNil),fun z=>hK z▸Ej PySem.F.plainAttrs_tuple PySem.F.slot_tuple_index PySem.F.type_tuple_index Ph (a1 z) (F6 (b1 z) J1 (D2 hs)) (hbase z) (hfew z) hline (D2 hs),fun C G σ H env n R Q hK hT S hp k=>?_⟩;refine a2 C G σ H env n _ _ hK hT S hp fun x env1 n1 v H1 q1 S1 r1 f1=>?_;obtain⟨⟨xs,rfl⟩,q1⟩:=q1;obtain⟨a,vs,rfl,ta,ra⟩:=r1;refine⟨?_,?_⟩
 · exact .inr (.inl ⟨rfl,.inr ⟨vs,ta.2⟩⟩)
 refine b2 C G σ H1 env1 n1 _ _ hK hT S1 q1 fun y env2 n2 w H2 q2 S2 r2 f2=>?_;unfold V1 at q2
 split at q2
 · rename_i xs' kk e1;cases e1
   split at q2
   · rename_i ys ey;obtain⟨hz,j,hj,hlt,q3⟩:=q2;obtain⟨a',vs',e3,ta',ra'⟩:=(show Rep K G H1 (.tup xs) (.ref a) from⟨a,vs,rfl,ta,ra⟩).fr f2;cases e3;exact⟨a,kk,ys,j,rfl,by rw [show w=.str kk from r2],EE ey ra'▸SqT.of ta'.2,hz,hj,hlt,k _ _ _ _ _ q3 S2 rfl (f1.trans f2)⟩
   · exact q2.elim
 · exact q2.elim
end
end Pu
end
section
namespace Pu
open PySem PySem.Spec L2
section
variable {T:PotK}{np:Bool}{ι:Type}{K:A5}{F:ι->Cx}{a b ea eb:Expr}{st:Stmt}{pos:Pos}{pa pb pi pj:pE}
theorem Pi {X:Cx}(K:A5){x y:Expr}{gx gy:TG}{pos:Pos}{k:Nat}(hc:X.calm=true)(h1:GW X x gx)(h2:GW X y gy)(hn:(G0 [x,y] X.env).length=2:=by rfl)(hst:(G0 [x,y] X.env).findIdx? (·.1)=none:=by rfl)
   (hs:(G0 [x,y] X.env).map (·.2)=assign x X.env::(G0 [y] X.env).map (·.2):=by rfl) (hs2:(G0 [y] X.env).map (·.2)=assign y X.env::(G0 [] X.env).map (·.2):=by rfl) (hK:X.K=K:=by rfl) :
   GW X (.Tuple [x,y] k pos) (gTup K 2 (Y5 gx (Y5 gy gNil))):=⟨hK▸Gu hc (Cq h1.h (Cq h2.h Gs hs2) hs) hn hst⟩
def HA (i:Nat)(pa pb pi pj:pE):pS:=fun D env n=>pa env n fun x env1 n1=>pb env1 n1 fun y env2 n2=>(∃xs,env2[i]?=some (some (.ow .lst xs)))/\gAt i pi x env2 n2 fun env3 n3=>gAt i pj y env3 n3 D.nx
theorem Pj (i:Nat){tg:Expr}{k:Nat}{p:Pos}(h:∀z te g,EW (F z) (.Tuple [a,b] k p) te->GW (F z) tg g->SW (F z) st (tAsg te g))(hg:∀z ti tj,EW (F z) ea ti->EW (F z) eb tj->GW (F z) tg (gTup K 2 (Y5 (gSub (tVar i) ti Cv) (Y5 (gSub (tVar i) tj Cv) gNil))))(h1:QE T K F a pa)(h2:QE T K F b pb)(h3:QE T K F ea pi)(h4:QE T K F eb pj)(n1:F8 a=true:=by rfl)(n2:F8 b=true:=by rfl):QS T np K F st (HA i pa pb pi pj):=by
 obtain⟨t,a1,a2⟩:=h1;obtain⟨u,b1,b2⟩:=h2;obtain⟨ti,i1,i2⟩:=h3;obtain⟨tj,j1,j2⟩:=h4;refine⟨_,fun z=>(h z _ _ ⟨Gy (F6 (a1 z) (F6 (b1 z) J1 (D2 n2)) (D2 n1))⟩ (hg z _ _ ⟨i1 z⟩ ⟨j1 z⟩)).h,fun C G σ H env n PD D hK hT hn S hp L=>?_⟩;refine a2 C G σ H env n _ _ hK hT S hp fun x env1 n1 v H1 q1 S1 r1 f1=>?_;refine b2 C G σ H1 env1 n1 _ _ hK hT S1 q1 fun y env2 n2 w H2 q2 S2 r2 f2=>?_;obtain⟨⟨xs0,e0⟩,q2⟩:=q2;refine⟨by show 2<=B0;decide,fun p hn'=>⟨p,[v,w],rfl,SqT.of D9,rfl,v,[w],rfl,?_⟩⟩;have sm:Same H2 (upd H2 p (.tup [v,w])):=Same.lay1 hn';generalize upd H2 p (.tup [v,w])=H3 at sm ⊢;have S3:=S2.same sm;obtain⟨a,vs,ev,h1,h2,h3,h4,r⟩:=S3.slots i _ e0;refine⟨.ref a,ev,?_⟩;refine i2 C G σ H3 env2 n2 _ _ hK hT S3 q2 fun d env3 n3 ud H4 q3 S4 r4 f4=>?_
 split at q3
 · rename_i xs d ex
   split at q3
   · rename_i jj ej;obtain⟨a',us,ev',g1,g2,g3,g4,r'⟩:=S4.slots i _ ex;rw [ev] at ev';cases ev';subst hK;obtain⟨S5,f5⟩:=S4.put ex ev (r'.set jj (((r1.fr f2).same sm).fr f4));refine⟨a,us,d,jj,rfl,r4,g4,by rw [<- r'.length];exact ej,?_⟩;refine⟨w,[],rfl,.ref a,ev,?_⟩;refine j2 C G σ _ _ n3 _ _ rfl hT S5 q3 fun d2 env5 n5 ud2 H5 q5 S6 r6 f6=>?_
     split at q5
     · rename_i xs2 d2 ex2
       split at q5
       · rename_i jj2 ej2;obtain⟨a',us2,ev',k1,k2,k3,k4,r7⟩:=S6.slots i _ ex2;rw [ev] at ev';cases ev';obtain⟨S7,f7⟩:=S6.put ex2 ev (r7.set jj2 ((((r2.same sm).fr f4).fr f5).fr f6));exact⟨a,us2,d2,jj2,rfl,r6,k4,by rw [<- r7.length];exact ej2,rfl,L.nx _ _ _ _ _ q5 S7 (Ext.fr ((((((f1.trans f2).trans (Fr.of sm)).trans f4).trans f5).trans f6).trans f7))⟩
       · exact q5.elim
     · exact q5.elim
   · exact q3.elim
 · exact q3.elim
end
end Pu
end
section
namespace Pu
open PySem L2
theorem KR (zs:List Int)(d:Nat):(zs.map PV.int).all (cmpb d)=true:=by
 rw [List.all_map,Q4];intro x _;cases d <;> rfl
theorem x5 {tt:pT}{rest:Pu.Env}{α:Type}(f:α->PV)(c:α->Bool):∀(xs:List α) (s0:Option Slot) (n:Nat) (R:List PV->Nat->Prop),(∀x∈xs,∀m Q,Q (c x) (some (.v (f x))::rest) m->tt (some (.v (f x))::rest) m Q)->R ((xs.filter c).map f) n->R7 (gN 0) tt (qV 0) (xs.map f) (s0::rest) n R:=by
 intro xq
 induction xq with
 | nil =>
   intro _ _ _ _ h;exact h
 | cons x xs ih =>
   intro s0 n R ht h;show tt (some (.v (f x))::rest) n _;refine ht x B8 n _ ?_
   by_cases hc:c x=true
   · rw [if_pos hc];rw [List.filter_cons,if_pos hc] at h;show R7 (gN 0) tt (qV 0) (xs.map f) (some (.v (f x))::rest) n _;exact ih _ n _ (fun y hy=>ht y (B5 _ hy)) h
   · rw [if_neg hc];rw [List.filter_cons,if_neg hc] at h;exact ih _ n _ (fun y hy=>ht y (B5 _ hy)) h
end Pu
end
section
namespace Pu
open PySem PySem.Spec L2
variable {z:Str}
def lt (f t:Int)(k:Nat):Nat:=97 + ((f + (k:Int) * t) % 26).toNat
def AG:List Int:=[1,3,5,7,9,11,15,17,19,21,23,25]
theorem lt_ne {f t:Int}(ht:t∈AG)(f0:0<=f){j k:Nat}(hjk:j < k)(hk:k < 26):lt f t j≠lt f t k:=fun h=>by
 have inv:∀t∈AG,∃u∈AG,t * u=26 * (t * u / 26) + 1:=by decide
 obtain⟨u,_,hu⟩:=inv t ht;have e:(f + (j:Int) * t) % 26=(f + (k:Int) * t) % 26:=by unfold lt at h;omega
 have d:(26:Int) ∣ ((k:Int) - j) * t:=by
   have:=Int.dvd_of_emod_eq_zero (Int.emod_eq_emod_iff_emod_sub_eq_zero.mp e.symm);rw [show f + (k:Int) * t - (f + (j:Int) * t)=((k:Int) - j) * t by rw [Int.sub_mul];omega] at this;exact this
 have d2:(26:Int) ∣ ((k:Int) - j) * t * u:=Int.dvd_trans d (Int.dvd_mul_right _ _);rw [Int.mul_assoc,hu,Int.mul_add,Int.mul_one,<- Int.mul_assoc,Int.mul_comm _ 26,Int.mul_assoc] at d2;have d3:(26:Int) ∣ (k:Int) - j:=(Int.dvd_add_right (Int.dvd_mul_right _ _)).mp d2;omega
theorem lt_ltr {f t:Int}{k:Nat}:Ltr (lt f t k):=by
 unfold lt Ltr;have:=Ao (f + (k:Int) * t) (show(26:Int)≠0 by decide);have:=An (f + (k:Int) * t) (show(0:Int) < 26 by decide);omega
theorem lt_at {f t:Int}{k:Nat}:atI LETS.cps.toList ((f + (k:Int) * t) % 26)=some (lt f t k):=
 Km (Ao _ (by decide)) (An _ (by decide))
theorem Pl {t:Int}(ht:t∈AG):-(2 ^ 64) < t/\t < 2 ^ 64:=by
 simp only [AG,B7,Q5,or_false] at ht;rcases ht with rfl | rfl | rfl | rfl | rfl | rfl | rfl | rfl | rfl | rfl | rfl | rfl <;> decide
def LsE (m:Nat)(z:Str):Prop:=z.cps.toList.length=m/\∀c∈z.cps.toList,Ltr c
theorem LsE.more {m:Nat}(h:LsE m z){c:Nat}(hc:Ltr c):LsE (m + 1) (z++⟨#[c]⟩):=by
 refine⟨by rw [Cy,E2,h.1];rfl,fun d hd=>?_⟩;rw [Cy] at hd;rcases K6.mp hd with hd | hd
 · exact h.2 d hd
 · have:d=c:=by simpa using hd
   rw [this];exact hc
theorem Pm (x:Str){a b:Nat}(h:a<=b)(hb:b<=x.length):(U4 x (some (a:Int)) (some (b:Int))).cps.toList=(x.cps.toList.drop a).take (b - a):=by
 rw [Kk,StrLaws.sliceText_nat x h hb]
theorem Pn {x:Str}{a b c:Nat}(hx:LsE 7 x)(ha:a<=b)(hb:b<=7)(hc:Ltr c) :
   Z0 (U4 x none (some (a:Int))++⟨#[c]⟩++U4 x (some (a:Int)) (some (b:Int)))/\(U4 x none (some (a:Int))++⟨#[c]⟩++U4 x (some (a:Int)) (some (b:Int))).cps.toList[a]?=some c:=by
 have lx:x.length=7:=by rw [Aw];exact hx.1
 have e:(U4 x none (some (a:Int))++⟨#[c]⟩++U4 x (some (a:Int)) (some (b:Int))).cps.toList=x.cps.toList.take a++c::(x.cps.toList.drop a).take (b - a):=by
   rw [Cy,Cy,NZ x (by omega),Pm x ha (by omega)];simp
 have lt:(x.cps.toList.take a).length=a:=by rw [L0,hx.1];omega
 have hl:(x.cps.toList.take a++c::(x.cps.toList.drop a).take (b - a)).length=b + 1:=by
   rw [E2,D3,lt,L0,N9,hx.1];omega
 refine⟨⟨by rw [e];omega,by rw [e,hl];omega,fun d hd=>?_⟩,?_⟩
 · rw [e] at hd;rcases K6.mp hd with hd | hd
   · exact hx.2 d (Ac hd)
   · rcases B7.mp hd with hd | hd
     · rw [hd];exact hc
     · exact hx.2 d (DG (Ac hd))
 · rw [e,P5 (by omega),lt,Y1];rfl
structure NmA (f t:Int)(a:Nat)(zs:List Str)(i:Nat):Prop where
 len:zs.length=i
 nd:zs.Nodup
 own:∀(j:Nat) (z:Str),zs[j]?=some z->z.cps.toList[a]?=some (lt f t j)
 bt:∀z∈zs,Z0 z
theorem NmA.more {f t:Int}{a:Nat}{zs:List Str}{i:Nat}(h:NmA f t a zs i)(ht:t∈AG)(f0:0<=f)(hi:i < 26)(hz:Z0 z)(hc:z.cps.toList[a]?=some (lt f t i)):NmA f t a (zs++[z]) (i + 1):=by
 refine⟨by rw [E2,h.len];rfl,?_,fun j y e=>?_,fun y hy=>?_⟩
 · rw [BZ];refine⟨h.nd,by simp,fun x hx y hy e=>?_⟩;rw [F2.mp hy] at e;obtain⟨j,hj,ej⟩:=F_.mp hx;have:=h.own j x (by rw [C4 hj,ej]);rw [e,hc] at this;exact lt_ne ht f0 (show j < i by rw [<- h.len];exact hj) hi (J9 this).symm
 · by_cases c:j < zs.length
   · rw [U2 c] at e;exact h.own j y e
   · have hl:=h.len
     have:j=i:=by
       obtain⟨hh,_⟩:=E6.mp e;rw [E2,Z8] at hh;omega
     subst this;rw [P5 (by omega),hl,Y1] at e;have e':z=y:=by simpa using e
     rw [<- e'];exact hc
 · rcases K6.mp hy with hy | hy
   · exact h.bt y hy
   · rw [F2.mp hy];exact hz
theorem Fa {zs:List Str}:memP (.str z) (zs.map PV.str)=decide (z∈zs):=by
 unfold memP;rw [List.any_map,Ak,DM,decide_eq_true_iff];constructor
 · rintro⟨y,hy,e⟩;have e':decide (y=z)=true:=by rw [<- CO];exact e
   rw [<- of_decide_eq_true e'];exact hy
 · intro h;refine⟨z,h,?_⟩;show eqP (.str z) (.str z)=true;rw [CO];exact decide_eq_true rfl
theorem Fb (zs:List Str)(d:Nat):(zs.map PV.str).all (cmpb d)=true:=by
 rw [List.all_map,Q4];intro x _;cases d <;> rfl
theorem KS {zs:List Str}{P:List PV}(hP:zs.map PV.str=P){R:PV->Prop}(h:R (.bl (decide (z∈zs)))):wIn 4 false (.str z) (.tup P) R:=by
 subst hP;exact⟨rfl,Fb zs 4,by rw [Fa];exact h⟩
theorem KU {zs:List Str}{P:List PV}(hP:zs.map PV.str=P){R:PV->Prop}(h:R (.bl (!decide (z∈zs)))):wIn 4 true (.str z) (.tup P) R:=by
 subst hP;exact⟨rfl,Fb zs 4,by rw [Fa];exact h⟩
theorem Po {zs:List Str}{P:List PV}(hP:zs.map PV.str=P){R:PV->Prop}(h:R (.bl (decide (z∈zs)))):wIn 4 false (.str z) (.lst P) R:=by
 subst hP;exact⟨rfl,Fb zs 4,by rw [Fa];exact h⟩
theorem BI {zs:List Str}{P:List PV}(hP:zs.map PV.str=P){R:PV->Prop}(h:R (.bl (!decide (z∈zs)))):wIn 4 true (.str z) (.lst P) R:=by
 subst hP;exact⟨rfl,Fb zs 4,by rw [Fa];exact h⟩
def RowS (zs:List Str):Prop:=zs.Nodup/\∀z∈zs,Z0 z
abbrev rowP (zs:List Str):PV:=.tup (zs.map PV.str)
inductive Ev where
 | d (x:Str) | t (x y:Str)
abbrev DROP:Str:=A6 "drop"
abbrev l8:Str:=A6 "touch"
def evK:Ev->List Key
 | .d x=>[.inr DROP,.inr x]
 | .t x y=>[.inr l8,.inr x,.inr y]
def evP (e:Ev):PV:=tupP (evK e)
theorem Fc (x:Str):evP (.d x)=.tup [.str DROP,.str x]:=rfl
theorem l9 (x y:Str):evP (.t x y)=.tup [.str l8,.str x,.str y]:=rfl
def shP (es:List Ev):PV:=.tup (es.map evP)
def dayP (ds:List (List Ev)):PV:=.tup (ds.map shP)
theorem ev_al (a b:Ev):Al (evK a) (evK b):=by cases a <;> cases b <;> trivial
theorem KW {a b:Ev}(h:evK a=evK b):a=b:=by
 cases a <;> cases b <;> simp_all [evK]
theorem ev_ne (e:Ev):evK e≠[]:=by cases e <;> simp [evK]
theorem Pp {a b:List Key}(h:tupP a=tupP b):a=b:=by
 have:=congrArg keyP h;unfold tupP at this;rw [T5,T5] at this;exact this
theorem Pq {a b:Ev}(h:evP a=evP b):a=b:=KW (Pp h)
theorem evs_of (es:List Ev):∀ys:List PV,(∀y∈ys,y∈es.map evP)->∃es':List Ev,ys=es'.map evP/\∀e∈es',e∈es:=by
 intro xq
 induction xq with
 | nil =>
   intro _;exact⟨[],rfl,fun _ z=>nomatch z⟩
 | cons y ys ih =>
   intro h;obtain⟨e,he,rfl⟩:=C8.mp (h y B8);obtain⟨es',rfl,h2⟩:=ih fun z hz=>h z (B5 _ hz);exact⟨e::es',rfl,fun z hz=>(B7.mp hz).elim (fun e'=>e'▸he) (h2 z)⟩
theorem Ps (es:List Ev):ER (es.map evP):=by
 refine .inr (.inr ⟨fun x hx=>?_,fun x hx y hy=>?_⟩)
 · obtain⟨e,_,rfl⟩:=C8.mp hx;exact⟨evK e,rfl,ev_ne e⟩
 · obtain⟨e,_,rfl⟩:=C8.mp hx;obtain⟨e',_,rfl⟩:=C8.mp hy;unfold evP tupP;rw [T5,T5];exact ev_al e e'
theorem Pv {es:List Ev}{ys:List PV}(h:Srt ys (es.map evP)):∃es':List Ev,ys=es'.map evP/\es'.Perm es:=by
 obtain⟨es',rfl,_⟩:=evs_of es ys fun y hy=>h.1.mem_iff.mp hy;refine⟨es',rfl,?_⟩;have:=h.1;clear h
 have inj:∀{a b:List Ev},(a.map evP).Perm (b.map evP)->a.Perm b:=by
   intro a b p;have h1:=p.map fun y=>(match y with | .tup [_,.str x]=>Ev.d x | .tup [_,.str x,.str y]=>Ev.t x y | _=>Ev.d (A6 ""));rw [O9,O9] at h1
   have e:((fun y=>(match y with | PV.tup [_,.str x]=>Ev.d x | .tup [_,.str x,.str y]=>Ev.t x y | _=>Ev.d (A6 "")))∘evP)=id:=by
     funext e
     cases e <;> rfl
   rw [e,List.map_id,List.map_id] at h1;exact h1
 exact inj this
def evB:Ev->List Str
 | .d x=>[x]
 | .t x y=>[x,y]
theorem HB {es es':List Ev}(h:es'.Perm es):(es'.flatMap evB).Perm (es.flatMap evB):=h.flatMap_right evB
theorem Fd {zs:List Str}(nd:zs.Nodup){i j:Nat}(h1:zs[i]?=some z)(h2:zs[j]?=some z):i=j:=by
 obtain⟨l1,e1⟩:=E6.mp h1;obtain⟨l2,e2⟩:=E6.mp h2;rcases t7 i j with h | h | h
 · exact absurd (e1.trans e2.symm) (X7.mp nd i j l1 l2 h)
 · exact h
 · exact absurd (e2.trans e1.symm) (X7.mp nd j i l2 l1 h)
def ixS (zs:List Str)(z:Str):Nat:=zs.findIdx fun y=>decide (y=z)
theorem V4 {zs:List Str}(h:z∈zs):zs[ixS zs z]?=some z/\∀i,i < ixS zs z->zs[i]?≠some z:=by
 unfold ixS;have hl:zs.findIdx (fun y=>decide (y=z)) < zs.length:=List.findIdx_lt_length_of_exists ⟨z,h,by simp⟩;refine⟨?_,fun i hi e=>?_⟩
 · rw [C4 hl];have:=List.findIdx_getElem (w:=hl);rw [of_decide_eq_true this]
 · have:=List.not_of_lt_findIdx hi;obtain⟨l1,e1⟩:=E6.mp e;rw [e1] at this;simp at this
theorem T6 {zs:List Str}(h:z∈zs):ixS zs z < zs.length:=(E6.mp (V4 h).1).1
theorem m_ix {zs:List Str}{P:List PV}(hP:zs.map PV.str=P)(h:z∈zs)(hl:zs.length<=1000000){R:PV->Prop}(q:R (.int (ixS zs z))):V1 (.tup P) (.str z) R:=by
 subst hP;unfold V1;dsimp only;rw [JX];exact⟨hl,ixS zs z,(V4 h).1,(V4 h).2,q⟩
end Pu
end
section
namespace Pu
open PySem PySem.Spec L2
inductive Mk where
 | d | o | t | u
 deriving DecidableEq
def mkS:Mk->Str
 | .d=>A6 "d"
 | .o=>A6 "o"
 | .t=>A6 "t"
 | .u=>A6 "u"
def mkP (m:Mk):PV:=.str (mkS m)
theorem mk_t (m:Mk):decide (mkS m=A6 "t")=decide (m=.t):=by cases m <;> decide +kernel
theorem mk_u (m:Mk):decide (mkS m=A6 "u")=decide (m=.u):=by cases m <;> decide +kernel
theorem mk_d (m:Mk):decide (mkS m=A6 "d")=decide (m=.d):=by cases m <;> decide +kernel
def run (r:Int):Nat->List Nat->List Mk->Option (List Nat)
 | _,st,[]=>some st
 | k,st,.t::m=>run r (k + 1) (k::st) m
 | k,st,.d::m=>run r (k + 1) st m
 | k,[],.o::m=>run r (k + 1) [] m
 | _,_::_,.o::_=>none
 | _,[],.u::_=>none
 | k,p::st,.u::m=>if(k:Int) - p - 1<=r then run r (k + 1) st m else none
theorem n6 {r:Int}:∀(a:List Mk) (k:Nat) (st:List Nat) (b:List Mk),run r k st (a++b)=(run r k st a).bind fun st'=>run r (k + a.length) st' b
 | [],k,st,b=>rfl
 | .t :: a, k, st, b => by
   rw [i8];show run r (k + 1) (k::st) (a++b)=(run r (k + 1) (k::st) a).bind _;rw [n6 a,D3,show k + 1 + a.length=k + (a.length + 1) by omega]
 | .d :: a, k, st, b => by
   rw [i8];show run r (k + 1) st (a++b)=(run r (k + 1) st a).bind _;rw [n6 a,D3,show k + 1 + a.length=k + (a.length + 1) by omega]
 | .o :: a, k, [], b => by
   rw [i8];show run r (k + 1) [] (a++b)=(run r (k + 1) [] a).bind _;rw [n6 a,D3,show k + 1 + a.length=k + (a.length + 1) by omega]
 | .o::a,k,p::st,b=>rfl
 | .u::a,k,[],b=>rfl
 | .u :: a, k, p :: st, b => by
   rw [i8];show(if(k:Int) - p - 1<=r then run r (k + 1) st (a++b) else none)=(if(k:Int) - p - 1<=r then run r (k + 1) st a else none).bind _
   split
   · rw [n6 a,D3,show k + 1 + a.length=k + (a.length + 1) by omega]
   · rfl
def Cl (r:Int)(k:Nat)(m:List Mk):Prop:=∀st,run r k st m=some st
theorem Cl.app {r:Int}{k:Nat}{a b:List Mk}(h1:Cl r k a)(h2:Cl r (k + a.length) b):Cl r k (a++b):=fun st=>by rw [n6,h1 st];exact h2 st
theorem Cl.nil {r:Int}{k:Nat}:Cl r k []:=fun _=>rfl
theorem Cl.d {r:Int}{k:Nat}{m:List Mk}(h:Cl r (k + 1) m):Cl r k (.d::m):=fun st=>h st
theorem Cl.tu {r:Int}{k:Nat}{m:List Mk}(h:Cl r (k + 1) m)(hl:(m.length:Int)<=r):Cl r k (.t::m++[.u]):=fun st=>by
 show run r (k + 1) (k::st) (m++[.u])=some st;rw [n6,h (k::st)];show(if((k + 1 + m.length:Nat):Int) - k - 1<=r then some st else none)=some st;rw [if_pos (by omega)]
def Seg (r:Int):List Nat->List Mk->Prop
 | [],m=>run r 0 [] m=some []
 | p::ps,m=>∃m1 m2,m=m1++.d::m2/\m1.length=p/\Cl r (p + 1) m2/\Seg r ps m1
theorem Seg.app {r:Int}:∀{ps:List Nat} {m b:List Mk},Seg r ps m->Cl r m.length b->Seg r ps (m++b):=by
 intro xq
 induction xq with
 | nil =>
   intro m b h hb;show run r 0 [] (m++b)=some [];rw [n6,show run r 0 [] m=some [] from h,K7];exact hb []
 | cons p ps ih =>
   intro m b h hb;obtain⟨m1,m2,rfl,e,h2,h3⟩:=h;refine⟨m1,m2++b,by simp,e,h2.app ?_,h3⟩;rw [E2,D3,e] at hb;rw [show p + 1 + m2.length=p + (m2.length + 1) by omega];exact hb
theorem Seg.wrd {r:Int}:∀{ps:List Nat} {m:List Mk},Seg r ps m->run r 0 [] m=some []
 | [],m,h=>h
 | p :: ps, m, h => by
   obtain⟨m1,m2,rfl,e,h2,h3⟩:=h;rw [n6,Seg.wrd h3,K7,e];exact h2 []
theorem Seg.len {r:Int}:∀{ps:List Nat} {m:List Mk},Seg r ps m->ps.length<=m.length
 | [],m,_=>G4 _
 | p :: ps, m, h => by
   obtain⟨m1,m2,rfl,e,h2,h3⟩:=h;have:=Seg.len h3;rw [D3,E2,D3];omega
theorem Seg.push {r:Int}{ps:List Nat}{m:List Mk}(h:Seg r ps m):Seg r (m.length::ps) (m++[.d]):=⟨m,[],rfl,rfl,.nil,h⟩
theorem Seg.over {r:Int}{m:List Mk}(h:Seg r [] m):Seg r [] (m++[.o]):=by
 show run r 0 [] (m++[.o])=some [];rw [n6,show run r 0 [] m=some [] from h]
 rfl
theorem Seg.drop {r:Int}{ps:List Nat}{m:List Mk}(h:Seg r ps m):Seg r ps (m++[.d]):=h.app (Cl.d .nil)
theorem Seg.popd {r:Int}{p:Nat}{ps:List Nat}{m:List Mk}(h:Seg r (p::ps) m):p < m.length/\m.set p .d=m/\Seg r ps m:=by
 obtain⟨m1,m2,rfl,rfl,h2,h3⟩:=h;refine⟨by simp,by simp,h3.app (Cl.d h2)⟩
theorem Seg.popt {r:Int}{p:Nat}{ps:List Nat}{m:List Mk}(h:Seg r (p::ps) m)(hr:(m.length:Int) - p - 1<=r):p < m.length/\Seg r ps (m.set p .t++[.u]):=by
 obtain⟨m1,m2,rfl,rfl,h2,h3⟩:=h;refine⟨by simp,?_⟩;have e:(m1++Mk.d::m2).set m1.length .t++[.u]=m1++(.t::m2++[.u]):=by simp
 rw [e];refine h3.app (Cl.tu h2 ?_);rw [E2,D3] at hr;omega
inductive PE where
 | d (i:Nat) | t (i j:Nat)
def peB:PE->List Nat
 | .d i=>[i]
 | .t i j=>[i,j]
def shE:Nat->List Nat->List Mk->List PE
 | _,_,[]=>[]
 | k,st,.t::m=>shE (k + 1) (k::st) m
 | k,st,.d::m=>.d k::shE (k + 1) st m
 | k,st,.o::m=>shE (k + 1) st m
 | k,[],.u::m=>shE (k + 1) [] m
 | k,p::st,.u::m=>.t k p::shE (k + 1) st m
theorem BJ:∀(m:List Mk) (k:Nat) (st:List Nat),st.Nodup->(∀p∈st,p < k)->((shE k st m).flatMap peB).Nodup/\∀q∈(shE k st m).flatMap peB,q∈st\/(k<=q/\q < k + m.length)
 | [],k,st,_,_=>⟨by simp [shE],fun q hq=>by simp [shE] at hq⟩
 | .t :: m, k, st, nd, hs => by
   obtain⟨h1,h2⟩:=BJ m (k + 1) (k::st) (O8.mpr ⟨fun z=>absurd (hs k z) (R5 k),nd⟩) (fun p hp=>(B7.mp hp).elim (fun e=>by omega) fun hp=>by have:=hs p hp;omega);refine⟨h1,fun q hq=>?_⟩;rw [D3];rcases h2 q hq with h | h
   · rcases B7.mp h with rfl | h
     · exact .inr ⟨A9 _,by omega⟩
     · exact .inl h
   · exact .inr (by omega)
 | .d :: m, k, st, nd, hs => by
   obtain⟨h1,h2⟩:=BJ m (k + 1) st nd (fun p hp=>by have:=hs p hp;omega);show((PE.d k::shE (k + 1) st m).flatMap peB).Nodup/\∀q∈(PE.d k::shE (k + 1) st m).flatMap peB,_;simp only [Q3,peB,i8,i9];refine⟨O8.mpr ⟨fun z=>?_,h1⟩,fun q hq=>?_⟩
   · rcases h2 k z with h | h
     · exact absurd (hs k h) (R5 k)
     · omega
   · rw [D3];rcases B7.mp hq with rfl | hq
     · exact .inr (by omega)
     · rcases h2 q hq with h | h
       · exact .inl h
       · exact .inr (by omega)
 | .o :: m, k, st, nd, hs => by
   obtain⟨h1,h2⟩:=BJ m (k + 1) st nd (fun p hp=>by have:=hs p hp;omega);refine⟨by unfold shE;exact h1,fun q hq=>?_⟩;unfold shE at hq;rw [D3];rcases h2 q hq with h | h
   · exact .inl h
   · exact .inr (by omega)
 | .u :: m, k, [], nd, hs => by
   obtain⟨h1,h2⟩:=BJ m (k + 1) [] nd (fun p hp=>by have:=hs p hp;omega);refine⟨by unfold shE;exact h1,fun q hq=>?_⟩;unfold shE at hq;rw [D3];rcases h2 q hq with h | h
   · exact .inl h
   · exact .inr (by omega)
 | .u :: m, k, p :: st, nd, hs => by
   obtain⟨np,nd'⟩:=O8.mp nd;have hp:=hs p B8;obtain⟨h1,h2⟩:=BJ m (k + 1) st nd' (fun q hq=>by have:=hs q (B5 _ hq);omega);show((PE.t k p::shE (k + 1) st m).flatMap peB).Nodup/\∀q∈(PE.t k p::shE (k + 1) st m).flatMap peB,_;simp only [Q3,peB,i8,i9];refine⟨O8.mpr ⟨fun z=>?_,O8.mpr ⟨fun z=>?_,h1⟩⟩,fun q hq=>?_⟩
   · rcases B7.mp z with z | z
     · omega
     · rcases h2 k z with h | h
       · have:=hs k (B5 _ h);omega
       · omega
   · rcases h2 p z with h | h
     · exact np h
     · omega
   · rw [D3];rcases B7.mp hq with rfl | hq
     · exact .inr (by omega)
     · rcases B7.mp hq with rfl | hq
       · exact .inl B8
       · rcases h2 q hq with h | h
         · exact .inl (B5 _ h)
         · exact .inr (by omega)
def nm (zs:List Str)(i:Nat):Str:=zs.getD i (A6 "")
def evOf (zs:List Str):PE->Ev
 | .d i=>.d (nm zs i)
 | .t i j=>.t (nm zs i) (nm zs j)
theorem evB_of (zs:List Str)(e:PE):evB (evOf zs e)=(peB e).map (nm zs):=by cases e <;> rfl
theorem HC (zs:List Str)(es:List PE):(es.map (evOf zs)).flatMap evB=(es.flatMap peB).map (nm zs):=by
 induction es with
 | nil=>rfl
 | cons e es ih=>rw [F3,Q3,Q3,N3,ih,evB_of]
theorem o5 {zs:List Str}{i:Nat}(h:i < zs.length):zs[i]?=some (nm zs i):=by
 unfold nm;rw [M8,C4 h];rfl
theorem KY {zs:List Str}{i:Nat}(h:i < zs.length):nm zs i∈zs:=G8 (o5 h)
theorem nm_inj {zs:List Str}(nd:zs.Nodup){i j:Nat}(hi:i < zs.length)(hj:j < zs.length)(h:nm zs i=nm zs j):i=j:=Fd nd (o5 hi) (by rw [h];exact o5 hj)
structure Fair (zs:List Str)(es:List Ev):Prop where
 nd:(es.flatMap evB).Nodup
 sub:∀b∈es.flatMap evB,b∈zs
theorem KZ {α β:Type}(f:α->β):∀{l:List α},l.Nodup->(∀a∈l,∀b∈l,f a=f b->a=b)->(l.map f).Nodup
 | [],_,_=>by simp
 | a :: l, h, hf => by
   obtain⟨h1,h2⟩:=O8.mp h;rw [F3,O8];refine⟨fun z=>?_,KZ f h2 fun x hx y hy=>hf x (B5 _ hx) y (B5 _ hy)⟩;obtain⟨b,hb,e⟩:=C8.mp z;exact h1 (hf b (B5 _ hb) a B8 e▸hb)
theorem Pw {zs:List Str}(nd:zs.Nodup){m:List Mk}(hl:m.length=zs.length):Fair zs ((shE 0 [] m).map (evOf zs)):=by
 obtain⟨h1,h2⟩:=BJ m 0 [] (by simp) (fun _ z=>nomatch z)
 have h3:∀q∈(shE 0 [] m).flatMap peB,q < zs.length:=fun q hq=>by
   rcases h2 q hq with h | h
   · cases h
   · omega
 refine⟨?_,fun b hb=>?_⟩
 · rw [HC];exact KZ _ h1 fun a ha b hb e=>nm_inj nd (h3 a ha) (h3 b hb) e
 · rw [HC] at hb;obtain⟨q,hq,rfl⟩:=C8.mp hb;exact KY (h3 q hq)
theorem Fair.perm {zs:List Str}{es es':List Ev}(h:Fair zs es)(p:es'.Perm es):Fair zs es':=
 ⟨(HB p).nodup_iff.mpr h.nd,fun b hb=>h.sub b ((HB p).mem_iff.mp hb)⟩
def setE (st f:List Str):Ev->List Str
 | .d _=>f
 | .t x y=>(f.set (ixS st x) y).set (ixS st y) x
def exch (f:List Str)(i j:Nat):List Str:=(f.set i (nm f j)).set j (nm f i)
def exE (st f:List Str):Ev->List Str
 | .d _=>f
 | .t x y=>exch f (ixS st x) (ixS st y)
def aft (st:List Str)(es:List Ev):List Str:=es.foldl (setE st) st
def rbh (st:List Str)(es:List Ev):List Str:=es.foldl (exE st) st
theorem CZ {zs:List Str}{x y:Str}(hx:x∈zs)(hy:y∈zs)(h:ixS zs x=ixS zs y):x=y:=by
 have h1:=(V4 hx).1;rw [h,(V4 hy).1] at h1;exact(J9 h1).symm
theorem HD {st:List Str}:∀(es:List Ev) (f:List Str),(es.flatMap evB).Nodup->(∀b∈es.flatMap evB,b∈st/\f[ixS st b]?=some b)->es.foldl (setE st) f=es.foldl (exE st) f
 | [],f,_,_=>rfl
 | .d x :: es, f, nd, h => by
   simp only [Q3,evB,i8,i9] at nd h;exact HD es f (O8.mp nd).2 fun b hb=>h b (B5 _ hb)
 | .t x y :: es, f, nd, h => by
   simp only [Q3,evB,i8,i9] at nd h;obtain⟨nx,nd1⟩:=O8.mp nd;obtain⟨ny,nd2⟩:=O8.mp nd1;obtain⟨hx1,hx2⟩:=h x B8;obtain⟨hy1,hy2⟩:=h y (B5 _ B8)
   have e:setE st f (.t x y)=exE st f (.t x y):=by
     show(f.set (ixS st x) y).set (ixS st y) x=exch f (ixS st x) (ixS st y);unfold exch nm;rw [M8,M8,hx2,hy2];rfl
   rw [Y0,Y0,e];refine HD es _ nd2 fun b hb=>?_;obtain⟨hb1,hb2⟩:=h b (B5 _ (B5 _ hb));refine⟨hb1,?_⟩;rw [<- e];show((f.set (ixS st x) y).set (ixS st y) x)[ixS st b]?=some b;have bx:ixS st x≠ixS st b:=fun z=>nx (by rw [CZ hx1 hb1 z];exact B5 _ hb);have by_:ixS st y≠ixS st b:=fun z=>ny (by rw [CZ hy1 hb1 z];exact hb);rw [K4 by_,K4 bx];exact hb2
theorem HE {st:List Str}{es:List Ev}(h:Fair st es):aft st es=rbh st es:=HD es st h.nd fun b hb=>⟨h.sub b hb,(V4 (h.sub b hb)).1⟩
theorem K_ (st f:List Str)(e:Ev):(setE st f e).length=f.length:=by cases e <;> simp [setE]
theorem h6 (st:List Str)(es:List Ev):(aft st es).length=st.length:=by
 unfold aft
 have:∀(es:List Ev) (f:List Str),(es.foldl (setE st) f).length=f.length:=by
   intro es
   induction es with
   | nil=>intro f;rfl
   | cons e es ih=>intro f;rw [Y0,ih,K_]
 exact this es st
theorem Px {f:List Str}{i j:Nat}(hi:i < f.length)(hj:j < f.length):(exch f i j).Perm f:=by
 unfold exch nm;rw [M8,M8,C4 hi,C4 hj];show((f.set i f[j]).set j f[i]).Perm f;exact List.set_set_perm hi hj
theorem La {st:List Str}{es:List Ev}(h:∀b∈es.flatMap evB,b∈st):(rbh st es).Perm st:=by
 unfold rbh
 have:∀(es:List Ev) (f:List Str),(∀b∈es.flatMap evB,b∈st)->f.length=st.length->(es.foldl (exE st) f).Perm f:=by
   intro es
   induction es with
   | nil=>intro f _ _;exact List.Perm.refl _
   | cons e es ih =>
     intro f hb hl;rw [Y0]
     have p:(exE st f e).Perm f:=by
       cases e with
       | d x=>exact List.Perm.refl _
       | t x y=>exact Px (by rw [hl];exact T6 (hb x (by simp [evB]))) (by rw [hl];exact T6 (hb y (by simp [evB])))
     exact(ih _ (fun b h=>hb b (by rw [Q3];exact P6 _ h)) (by rw [p.length_eq,hl])).trans p
 exact this es st h rfl
theorem Fe {α β:Type}{f:α->β}{l:List α}{i:Nat}{y:β}(h:(l.map f)[i]?=some y):∃x,l[i]?=some x/\y=f x:=by
 rw [D5] at h;cases e:l[i]? with
 | none=>rw [e] at h;cases h
 | some x=>rw [e] at h;exact⟨x,rfl,(J9 h).symm⟩
theorem C_ {α:Type}{l:List α}{i:Nat}{x:α}(h:l[i]?=some x):l.take (i + 1)=l.take i++[x]:=by
 rw [List.take_add_one,h];rfl
theorem Lb {j:Int}{m i:Nat}{x:PV}(h:((D1 m).map fun(k:Nat)=>PV.int (j - 1 - k))[i]?=some x):i < m/\x=.int (j - 1 - i):=by
 rw [D5] at h;cases e:(D1 m)[i]? with
 | none=>rw [e] at h;cases h
 | some y =>
   rw [e] at h;obtain⟨h1,h2⟩:=E6.mp e;rw [DJ] at h2;subst h2;rw [i7] at h1;exact⟨h1,(J9 h).symm⟩
theorem Lc {j:Int}{m:Nat}:((D1 m).map fun(k:Nat)=>PV.int (j - 1 - k)).length=m:=by simp
theorem Ff {α:Type}(xs:List α){a b:Nat}(h:b<=xs.length):cutP xs (some (a:Int)) (some (b:Int))=(xs.take b).drop a:=by
 unfold cutP;rw [HT.sIx_nat,HT.sIx_nat,AY h,List.drop_take];rcases Ce a xs.length with h2 | h2
 · rw [AY h2]
 · rw [Cd h2,X9 (A9 _),X9 h2];simp
theorem Ld {α:Type}(xs:List α)(b:Nat):cutP xs none (some (b:Int))=xs.take b:=by
 unfold cutP;rw [HT.sIx_none,HT.sIx_nat,Ag,Nat.sub_zero];rcases Ce b xs.length with h2 | h2
 · rw [AY h2]
 · rw [Cd h2,X8 (A9 _),X8 h2]
theorem Fg {α:Type}(xs:List α)(a:Nat):cutP xs (some (a:Int)) none=xs.drop a:=by
 unfold cutP;rw [HT.sIx_nat,HT.sIx_none];rcases Ce a xs.length with h2 | h2
 · rw [AY h2];exact X8 (by rw [N9];exact A9 _)
 · rw [Cd h2,X9 h2,X9 (A9 _)];simp
def hiN (s n k:Nat):Nat:=min (k * s + s) (n - 1)
def D7 (s n k:Nat)(row:List Str):List Str:=(row.take (hiN s n k + 1)).drop (k * s)
def putN (s n k:Nat)(row b:List Str):List Str:=row.take (k * s)++b++row.drop (hiN s n k + 1)
theorem Py {s n k:Nat}{row:List Str}:∀z∈D7 s n k row,z∈row:=fun z hz=>Ac (DG hz)
theorem Le {s n k:Nat}{row:List Str}(h:RowS row):RowS (D7 s n k row):=
 ⟨(h.1.sublist (List.take_sublist _ _)).sublist (List.drop_sublist _ _),fun z hz=>h.2 z (Py z hz)⟩
theorem AH {s n k:Nat}{row:List Str}(hn:row.length=n)(h1:1<=n):(D7 s n k row).length=hiN s n k + 1 - k * s:=by
 unfold D7;rw [N9,L0,hn];have:hiN s n k + 1<=n:=by unfold hiN;omega
 omega
theorem Pz {s n k:Nat}{row b:List Str}(hn:row.length=n)(h1:1<=n)(hk:k * s<=hiN s n k)(hb:b.length=(D7 s n k row).length):(putN s n k row b).length=n:=by
 unfold putN;rw [E2,E2,hb,AH hn h1,L0,N9,hn];have:hiN s n k + 1<=n:=by unfold hiN;omega
 omega
theorem PB {s n k:Nat}{row:List Str}(hk:k * s<=hiN s n k + 1):row.take (k * s)++D7 s n k row++row.drop (hiN s n k + 1)=row:=by
 unfold D7;have e1:row.take (k * s)=(row.take (hiN s n k + 1)).take (k * s):=by rw [List.take_take,AY hk]
 rw [e1,DF,DF]
theorem PC {s n k:Nat}{row b:List Str}(hk:k * s<=hiN s n k + 1)(p:b.Perm (D7 s n k row)):(putN s n k row b).Perm row:=by
 have h1:(putN s n k row b).Perm (row.take (k * s)++D7 s n k row++row.drop (hiN s n k + 1)):=(p.append_left _).append_right _;rw [PB hk] at h1;exact h1
theorem RowS.perm {a b:List Str}(h:RowS a)(p:b.Perm a):RowS b:=⟨p.nodup_iff.mpr h.1,fun z hz=>h.2 z (p.mem_iff.mp hz)⟩
theorem at2_0 {α:Type}{a b:α}:atI [a,b] 0=some a:=rfl
theorem at2_1 {α:Type}{a b:α}:atI [a,b] 1=some b:=rfl
theorem at3_0 {α:Type}{a b c:α}:atI [a,b,c] 0=some a:=rfl
theorem at3_1 {α:Type}{a b c:α}:atI [a,b,c] 1=some b:=rfl
theorem at3_2 {α:Type}{a b c:α}:atI [a,b,c] 2=some c:=rfl
theorem HF:decide (DROP=A6 "touch")=false:=by decide +kernel
def isTo:Ev->Bool
 | .d _=>false
 | .t _ _=>true
theorem PF (st f:List Str)(e:Ev):(exE st f e).length=f.length:=by cases e <;> simp [exE,exch]
theorem Lf (st:List Str):∀(es:List Ev) (f:List Str),(es.foldl (exE st) f).length=f.length:=by
 intro xq
 induction xq with
 | nil =>
   intro f;exact rfl
 | cons e es ih =>
   intro f;rw [Y0,ih,PF]
theorem Fh (st:List Str):∀(es:List Ev) (f:List Str),(es.filter isTo).foldl (exE st) f=es.foldl (exE st) f
 | [],f=>rfl
 | .d x::es,f=>Fh st es f
 | .t x y :: es, f => by
   rw [List.filter_cons,if_pos (show isTo (.t x y)=true from rfl),Y0,Y0];exact Fh st es _
end Pu
end
section
namespace Pu
open PySem PySem.Spec L2
inductive Dy (P:List Str->List Ev->Prop)(s n mx:Nat)(row:List Str):Nat->List (List Ev)->List (List Str)->List Str->Prop where
 | nil:Dy P s n mx row 0 [] [] row
 | cons {i:Nat} {ess:List (List Ev)} {sts:List (List Str)} {r:List Str} {es:List Ev} (h:Dy P s n mx row i ess sts r) (hi:i < mx) (hp:P (D7 s n (mx - 1 - i) r) es) :
     Dy P s n mx row (i + 1) (es::ess) (D7 s n (mx - 1 - i) r::sts) (putN s n (mx - 1 - i) r (aft (D7 s n (mx - 1 - i) r) es))
section
variable {P:List Str->List Ev->Prop}{s n mx:Nat}{row:List Str}
variable {ess:List (List Ev)}{sts:List (List Str)}
theorem Dy.len {i:Nat}{r:List Str}(h:Dy P s n mx row i ess sts r):ess.length=i/\sts.length=i:=by
 induction h with
 | nil=>exact⟨rfl,rfl⟩
 | cons _ _ _ ih=>exact⟨by rw [D3,ih.1],by rw [D3,ih.2]⟩
theorem Dy.down {i:Nat}{es:List Ev}{st:List Str}{r:List Str}(h:Dy P s n mx row (i + 1) (es::ess) (st::sts) r) :
   ∃r',Dy P s n mx row i ess sts r'/\st=D7 s n (mx - 1 - i) r'/\r=putN s n (mx - 1 - i) r' (aft st es)/\P st es/\i < mx:=by
 cases h with
 | cons h hi hp=>exact⟨_,h,rfl,rfl,hp,hi⟩
theorem Dy.det {i:Nat}{r r':List Str}(h:Dy P s n mx row i ess sts r)(h':Dy P s n mx row i ess sts r'):r=r':=by
 induction h generalizing r' with
 | nil=>cases h';rfl
 | cons h hi hp ih =>
   obtain⟨r2,h2,e2,e3,_,_⟩:=h'.down;rw [e3,ih h2]
theorem Dy.tail {i:Nat}{r:List Str}(h:Dy P s n mx row i ess sts r):∀j,j<=i->∃r',Dy P s n mx row j (ess.drop (i - j)) (sts.drop (i - j)) r':=by
 induction h with
 | nil=>intro j hj;exact⟨row,by rw [show j=0 by omega];exact .nil⟩
 | @cons i ess sts r es h hi hp ih =>
   intro j hj
   by_cases c:j=i + 1
   · subst c;rw [Y1];exact⟨_,.cons h hi hp⟩
   · obtain⟨r',h'⟩:=ih j (by omega);refine⟨r',?_⟩;rw [show i + 1 - j=(i - j) + 1 by omega,DH,DH];exact h'
theorem Dy.at {r:List Str}(h:Dy P s n mx row mx ess sts r){i:Nat}(hi:i < mx) :
   ∃ es st r', ess[mx - 1 - i]? = some es /\ sts[mx - 1 - i]? = some st /\ ess.drop (mx - (i + 1)) = es :: ess.drop (mx - i) /\ sts.drop (mx - (i + 1)) = st :: sts.drop (mx - i) /\
     Dy P s n mx row i (ess.drop (mx - i)) (sts.drop (mx - i)) r'/\st=D7 s n (mx - 1 - i) r'/\P st es/\Dy P s n mx row (i + 1) (ess.drop (mx - (i + 1))) (sts.drop (mx - (i + 1))) (putN s n (mx - 1 - i) r' (aft st es)):=by
 obtain⟨l1,l2⟩:=h.len;obtain⟨r2,h2⟩:=h.tail (i + 1) (by omega)
 have e1:ess.drop (mx - (i + 1))=ess[mx - 1 - i]::ess.drop (mx - i):=by
   rw [show mx - (i + 1)=mx - 1 - i by omega,p9 (by omega),show mx - 1 - i + 1=mx - i by omega]
 have e2:sts.drop (mx - (i + 1))=sts[mx - 1 - i]::sts.drop (mx - i):=by
   rw [show mx - (i + 1)=mx - 1 - i by omega,p9 (by omega),show mx - 1 - i + 1=mx - i by omega]
 have h3:=h2;rw [e1,e2] at h3;obtain⟨r',d,es,er,hp,_⟩:=h3.down;refine⟨_,_,r',C4 (by omega),C4 (by omega),e1,e2,d,es,hp,?_⟩;rw [<- er];exact h2
theorem places {s n:Nat}(h1:1<=s)(hn:1<=n){k:Nat}(hk:k < (n + s - 1) / s):k * s<=n - 1:=by
 have:(n + s - 1) / s * s<=n + s - 1:=Nat.div_mul_le_self _ _;have h2:(k + 1) * s<=(n + s - 1) / s * s:=Nat.mul_le_mul_right s hk;rw [Nat.add_mul,Nat.one_mul] at h2;omega
theorem BK {s n:Nat}(h1:1<=s)(hn:1<=n):(n + s - 1) / s<=n:=by
 refine Nat.div_le_of_le_mul ?_;obtain⟨n,rfl⟩:∃k,n=k + 1:=⟨n - 1,by omega⟩;have:s * (n + 1)=s * n + s:=Nat.mul_succ s n;have:n<=s * n:=Nat.le_mul_of_pos_left n h1;omega
theorem Da {s n k:Nat}(h:k * s<=n - 1):k * s<=hiN s n k:=by unfold hiN;omega
theorem Dy.rows (h1:1<=s)(hn:1<=n)(hmx:mx=(n + s - 1) / s)(hf:∀st es,P st es->Fair st es)(hr:RowS row)(hl:row.length=n){i:Nat}{r:List Str}(h:Dy P s n mx row i ess sts r):RowS r/\r.length=n:=by
 induction h with
 | nil=>exact⟨hr,hl⟩
 | @cons i ess sts r es h hi hp ih =>
   have f:=hf _ _ hp;have kh:=Da (s:=s) (n:=n) (places h1 hn (show mx - 1 - i < (n + s - 1) / s by omega));refine⟨ih.1.perm (PC (by omega) ?_),Pz ih.2 hn kh (h6 _ _)⟩;rw [HE f];exact La f.sub
end
theorem PH {z:Str}(h:Z0 z):shw (.str z):=fun c hc=>by
 have:=(h.2.2 c hc).2;omega
theorem PJ {z:Str}(h:Z0 z):cost (.str z)<=82:=by
 have:=h.2.1;have e:z.length=z.cps.toList.length:=Aw z;show 10 * z.length + 2<=82;omega
structure Show (d c:Nat)(x:PV):Prop where
 sh:shw x
 de:dep x<=d
 co:cost x<=c
theorem Show.tup {d c l:Nat}{xs:List PV}(h:∀x∈xs,Show d c x)(hl:xs.length<=l):Show (d + 1) ((c + 2) * l + 3) (.tup xs):=by
 refine⟨NP _ fun x hx=>(h x hx).sh,?_,?_⟩
 · have:=NQ d xs fun x hx=>(h x hx).de;show deps xs + 1<=d + 1;omega
 · have:=NR c xs fun x hx=>(h x hx).co;have h2:=Nat.mul_le_mul_left (c + 2) hl;show e6 xs + 3<=_;omega
theorem Show.lst {d c l:Nat}{xs:List PV}(h:∀x∈xs,Show d c x)(hl:xs.length<=l):Show (d + 1) ((c + 2) * l + 3) (.lst xs):=by
 have t:=Show.tup h hl;exact⟨t.sh,t.de,t.co⟩
theorem Show.le {d c d' c':Nat}{x:PV}(h:Show d c x)(hd:d<=d')(hc:c<=c'):Show d' c' x:=⟨h.sh,L4 h.de hd,L4 h.co hc⟩
theorem Fi {z:Str}(h:Z0 z):Show 0 82 (.str z):=⟨PH h,A9 _,PJ h⟩
theorem Fj {zs:List Str}(h:∀z∈zs,Z0 z)(hl:zs.length<=24):Show 1 2100 (rowP zs):=
 (Show.tup (d:=0) (c:=82) (l:=24) (xs:=zs.map PV.str) (fun x hx=>by obtain⟨z,hz,rfl⟩:=C8.mp hx;exact Fi (h z hz)) (by rw [A7];exact hl)).le (A9 _) (by decide)
theorem HG (z:Str)(h1:∀c∈z.cps.toList,c < 16 ^ 8)(h2:z.length<=8):Show 0 82 (.str z):=⟨h1,A9 _,by show 10 * z.length + 2<=82;omega⟩
theorem PM {e:Ev}(h:∀b∈evB e,Z0 b):Show 1 260 (evP e):=by
 cases e with
 | d x =>
   rw [Fc];refine(Show.tup (d:=0) (c:=82) (l:=3) (fun y hy=>?_) (by simp)).le (A9 _) (by decide);simp only [B7,Q5,or_false] at hy;rcases hy with rfl | rfl
   · exact HG _ (by decide +kernel) (by decide +kernel)
   · exact Fi (h x (by simp [evB]))
 | t x y =>
   rw [l9];refine(Show.tup (d:=0) (c:=82) (l:=3) (fun z hz=>?_) (by simp)).le (A9 _) (by decide);simp only [B7,Q5,or_false] at hz;rcases hz with rfl | rfl | rfl
   · exact HG _ (by decide +kernel) (by decide +kernel)
   · exact Fi (h _ (by simp [evB]))
   · exact Fi (h _ (by simp [evB]))
theorem PN {es:List Ev}(h:∀b∈es.flatMap evB,Z0 b)(hl:es.length<=24):Show 2 6300 (shP es):=
 (Show.tup (d:=1) (c:=260) (l:=24) (xs:=es.map evP) (fun x hx=>by obtain⟨e,he,rfl⟩:=C8.mp hx;exact PM fun b hb=>h b (U3.mpr ⟨e,he,hb⟩)) (by rw [A7];exact hl)).le (A9 _) (by decide)
theorem PP {i:Int}(h:i.natAbs < 1000):Show 0 61 (.int i):=⟨by show i.natAbs < 10 ^ 60;omega,A9 _,A9 _⟩
theorem PQ {s r:Nat}(h1:s < 1000)(h2:r < 1000):Show 1 130 (.tup [.int (s:Int),.int (r:Int)]):=by
 refine(Show.tup (d:=0) (c:=61) (l:=2) (fun y hy=>?_) (by simp)).le (A9 _) (by decide);simp only [B7,Q5,or_false] at hy;rcases hy with rfl | rfl <;> exact PP (by omega)
end Pu
end
section
namespace SeT
open PySem PySem.SetTable L2
def lp (mask:Nat)(h:Int):Nat->Nat×Nat
 | 0=>(bits h % (mask + 1),bits h)
 | k + 1=>leap mask (lp mask h k).1 (lp mask h k).2
def rn (mask i:Nat):Nat:=runEnd mask i - i
def vs (mask:Nat)(h:Int)(k off:Nat):Nat:=(lp mask h k).1 + off
theorem HH (mask:Nat)(h:Int):∀k,(lp mask h k).1<=mask:=by
 intro xq
 induction xq with
 | zero =>
   exact Cc (Nat.mod_lt _ (Nat.succ_pos mask))
 | succ k ih =>
   exact Cc (Nat.mod_lt _ (Nat.succ_pos mask))
theorem rn_9 (mask i:Nat):rn mask i<=9:=by unfold rn runEnd;split <;> omega
theorem HI {mask:Nat}{h:Int}{k off:Nat}(ho:off<=rn mask (lp mask h k).1):vs mask h k off<=mask:=by
 have:=HH mask h k;unfold rn runEnd at ho;unfold vs
 split at ho <;> omega
theorem PR (mask:Nat)(h:Int):∀k,(lp mask h k).2=bits h / 32 ^ k:=by
 intro xq
 induction xq with
 | zero =>
   simp [lp]
 | succ k ih =>
   show(lp mask h k).2 / 32=_;rw [ih,Nat.div_div_eq_div_mul,Nat.pow_succ]
theorem PU (h:Int):bits h < 2 ^ 64:=by
 unfold bits;have h1:=Ao h (show(2 ^ 64:Int)≠0 by decide);have h2:=An h (show(0:Int) < 2 ^ 64 by decide);omega
theorem pert_0 (mask:Nat)(h:Int)(k:Nat)(hk:13<=k):(lp mask h k).2=0:=by
 rw [PR];refine Nat.div_eq_of_lt (L3 (PU h) ?_);exact L4 (by decide) (Gc (by decide) hk)
def orb (M:Nat):Nat->Nat
 | 0=>0
 | m + 1=>(orb M m * 5 + 1) % M
def itr (M a:Nat):Nat->Nat
 | 0=>a
 | m + 1=>(itr M a m * 5 + 1) % M
theorem Lg (M m0:Nat):∀m,itr M (orb M m0) m=orb M (m0 + m):=by
 intro xq
 induction xq with
 | zero =>
   exact rfl
 | succ m ih =>
   show(itr M (orb M m0) m * 5 + 1) % M=(orb M (m0 + m) * 5 + 1) % M;rw [ih]
theorem PX {M:Nat}(h:orb M M=0):∀m,orb M (M + m)=orb M m:=by
 intro xq
 induction xq with
 | zero =>
   exact h
 | succ m ih =>
   show(orb M (M + m) * 5 + 1) % M=(orb M m * 5 + 1) % M;rw [ih]
theorem Lh (mask:Nat)(h:Int):∀m,(lp mask h (13 + m)).1=itr (mask + 1) (lp mask h 13).1 m:=by
 intro xq
 induction xq with
 | zero =>
   exact rfl
 | succ m ih =>
   show((lp mask h (13 + m)).1 * 5 + 1 + (lp mask h (13 + m)).2 / 32) % (mask + 1)=(itr (mask + 1) (lp mask h 13).1 m * 5 + 1) % (mask + 1);rw [pert_0 mask h (13 + m) (by omega),ih,Nat.zero_div,Nat.add_zero]
def Msk (mask:Nat):Prop:=mask=7\/mask=31\/mask=127
def chk (M:Nat):Bool:=(D1 M).all fun e=>(D1 M).any fun m=>orb M m == e
theorem chk8:chk 8=true:=by decide +kernel
theorem chk32:chk 32=true:=by decide +kernel
theorem chk128:chk 128=true:=by decide +kernel
theorem Li {M:Nat}(h:chk M=true){e:Nat}(he:e < M):∃m,m < M/\orb M m=e:=by
 unfold chk at h;rw [Q4] at h;have:=h e (M9.mpr he);rw [DM] at this;obtain⟨m,hm,e1⟩:=this;exact⟨m,M9.mp hm,by simpa using e1⟩
theorem goes {mask:Nat}(hm:Msk mask)(h:Int){e:Nat}(he:e<=mask):∃K,K<=mask + 14/\(lp mask h K).1=e:=by
 have ck:chk (mask + 1)=true/\orb (mask + 1) (mask + 1)=0:=by
   rcases hm with rfl | rfl | rfl
   · exact⟨chk8,by decide +kernel⟩
   · exact⟨chk32,by decide +kernel⟩
   · exact⟨chk128,by decide +kernel⟩
 obtain⟨m0,h0,e0⟩:=Li ck.1 (Nat.lt_succ_of_le (HH mask h 13));obtain⟨m1,h1,e1⟩:=Li ck.1 (Nat.lt_succ_of_le he)
 by_cases c:m0<=m1
 · refine⟨13 + (m1 - m0),by omega,?_⟩;rw [Lh,<- e0,Lg,show m0 + (m1 - m0)=m1 by omega,e1]
 · refine⟨13 + (mask + 1 + m1 - m0),by omega,?_⟩;rw [Lh,<- e0,Lg,show m0 + (mask + 1 + m1 - m0)=mask + 1 + m1 by omega,PX ck.2,e1]
def Rise (xs:List Nat):Prop:=xs.Pairwise (· < ·)
theorem PY (xs:Array Nat)(j:Nat)(hr:Rise xs.toList):∀(fuel lo hi:Nat),lo<=hi->hi<=xs.size->hi - lo<=fuel->(∀(i:Nat) x,i < lo->xs[i]?=some x->x < j)->(∀(i:Nat) x,hi<=i->xs[i]?=some x->j<=x)->
   ∃p,below.go xs j fuel lo hi=p/\p<=xs.size/\(∀(i:Nat) x,i < p->xs[i]?=some x->x < j)/\(∀(i:Nat) x,p<=i->xs[i]?=some x->j<=x):=by
 intro xq
 induction xq with
 | zero =>
   intro lo hi h1 h2 h3 h4 h5;exact⟨lo,rfl,by omega,h4,fun i x hi' e=>h5 i x (by omega) e⟩
 | succ fuel ih =>
   intro lo hi h1 h2 h3 h4 h5;unfold below.go
   by_cases c:lo < hi
   · rw [if_pos c];have hm:(lo + hi) / 2 < xs.size:=by omega
     have hm1:lo<=(lo + hi) / 2:=by omega
     have hm2:(lo + hi) / 2 < hi:=by omega
     dsimp only;generalize (lo + hi) / 2=mid at hm hm1 hm2 ⊢;have eg:xs.getD mid j=xs[mid]:=by simp [Array.getD,hm]
     have em:xs[mid]?=some xs[mid]:=b9 hm
     have up:∀(a b:Nat) x y,a < b->xs[a]?=some x->xs[b]?=some y->x < y:=fun a b x y hab ea eb=>by
       rw [<- O0] at ea eb;obtain⟨la,ea⟩:=E6.mp ea;obtain⟨lb,eb⟩:=E6.mp eb;rw [<- ea,<- eb];exact X7.mp hr a b la lb hab
     rw [eg]
     by_cases c2:xs[mid] < j
     · rw [if_pos c2];refine ih (mid + 1) hi (by omega) h2 (by omega) (fun i x hi' e=>?_) h5;rcases AZ i mid with h | h
       · exact j7 (up i mid x _ h e em) c2
       · have:i=mid:=by omega
         subst this;rw [em] at e;cases e;exact c2
     · rw [if_neg c2];refine ih lo mid (by omega) (by omega) (by omega) h4 fun i x hi' e=>?_;rcases AZ mid i with h | h
       · exact b8 (j6 (Ah c2) (up mid i _ x h em e))
       · have:i=mid:=by omega
         subst this;rw [em] at e;cases e;exact Ah c2
   · rw [if_neg c];exact⟨lo,rfl,by omega,h4,fun i x hi' e=>h5 i x (by omega) e⟩
theorem Db (xs:Array Nat)(j:Nat)(hr:Rise xs.toList):below xs j<=xs.size/\(∀(i:Nat) x,i < below xs j->xs[i]?=some x->x < j)/\(∀(i:Nat) x,below xs j<=i->xs[i]?=some x->j<=x):=by
 obtain⟨p,e,h⟩:=PY xs j hr xs.size 0 xs.size (G4 _) (A9 _) (A9 _) (fun i x hi _=>by omega) (fun i x hi e=>by
   rw [DR hi] at e;cases e)
 unfold below;rw [e];exact h
theorem PZ {xs:Array Nat}{j i:Nat}(hr:Rise xs.toList)(h:xs[i]?=some j):below xs j=i:=by
 obtain⟨h1,h2,h3⟩:=Db xs j hr;rcases t7 (below xs j) i with c | c | c
 · have hb:below xs j < xs.size:=j7 c (by
     obtain⟨l,_⟩:=DQ.mp h;exact l)
   have e:=b9 hb;have a1:=h3 _ _ (A9 _) e;have e':=e;rw [<- O0] at e' h;obtain⟨la,ea⟩:=E6.mp e';obtain⟨lb,eb⟩:=E6.mp h;have:=X7.mp hr _ _ la lb c;rw [ea,eb] at this;omega
 · exact c
 · exact absurd (h2 i j c h) (R5 j)
theorem Lj {α:Type}(xs:Array α)(p:Nat)(x:α)(hp:p<=xs.size):(insertAt xs p x).toList=insL xs.toList p x:=by
 unfold insertAt insL;simp;exact X8 (by rw [N9,F4];exact A9 _)
theorem P_ {xs:Array Nat}{j:Nat}(hr:Rise xs.toList)(hj:j∉xs.toList):Rise (insL xs.toList (below xs j) j):=by
 obtain⟨h1,h2,h3⟩:=Db xs j hr;unfold insL
 have mt:∀a∈xs.toList.take (below xs j),a < j:=fun a ha=>by
   obtain⟨i,hi,e⟩:=F_.mp ha;rw [List.getElem_take] at e;rw [L0] at hi;exact h2 i a (by omega) (by rw [<- O0,C4 (by omega),e])
 have md:∀a∈xs.toList.drop (below xs j),j < a:=fun a ha=>by
   obtain⟨i,hi,e⟩:=F_.mp ha;rw [List.getElem_drop] at e;rw [N9] at hi;have hle:=h3 (below xs j + i) a (by omega) (by rw [<- O0,C4 (by omega),e]);have hne:a≠j:=fun z=>hj (by rw [<- z];exact DG ha);omega
 refine List.pairwise_append.mpr ⟨hr.sublist (List.take_sublist _ _),List.pairwise_cons.mpr ⟨md,hr.sublist (List.drop_sublist _ _)⟩,fun a ha b hb=>?_⟩;rcases B7.mp hb with rfl | hb
 · exact mt a ha
 · exact j7 (mt a ha) (md b hb)
end SeT
end
section
namespace SeT
open PySem PySem.SetTable L2
def Lx (k' o' k o:Nat):Prop:=k' < k\/(k'=k/\o' < o)
def Rch (mask:Nat)(O:Nat->Prop)(s:Nat)(h:Int):Prop:=∃k o,o<=rn mask (lp mask h k).1/\vs mask h k o=s/\∀k' o',o'<=rn mask (lp mask h k').1->Lx k' o' k o->O (vs mask h k' o')
theorem Rch.mono {mask:Nat}{O O':Nat->Prop}{s:Nat}{h:Int}(r:Rch mask O s h)(f:∀x,O x->O' x):Rch mask O' s h:=by
 obtain⟨k,o,h1,h2,h3⟩:=r;exact⟨k,o,h1,h2,fun k' o' a b=>f _ (h3 k' o' a b)⟩
structure TOk (t:G6)(hs:List Int):Prop where
 size:t.place.toList.length=hs.length
 dum:t.dummies=#[]
 mask:Msk t.mask
 rise:Rise t.place.toList
 lim:∀s∈t.place.toList,s<=t.mask
 room:hs.length < t.mask
 reach:∀(i:Nat) s h,t.place.toList[i]?=some s->hs[i]?=some h->Rch t.mask (·∈t.place.toList) s h
section
variable {t:G6}{hs:List Int}{h:Int}
variable {mask:Nat}
theorem TOk.fits (T:TOk t hs):t.fits hs.length=true:=by
 have h1:=T.size;have h2:=T.room;unfold SetTable.fits SetTable.fill;rw [T.dum];simp only [F4] at h1;simp [h1];omega
theorem TOk.odd (T:TOk t hs):t.gaveWay=false:=by
 unfold SetTable.gaveWay;rcases T.mask with e | e | e <;> rw [e] <;> decide
theorem Lk (j:Nat):has #[] j=false:=by unfold has;simp
theorem TOk.slot_live (T:TOk t hs){i j:Nat}(e:t.place.toList[i]?=some j):t.slot j=.live i:=by
 unfold SetTable.slot;have e':t.place[i]?=some j:=by rw [<- O0];exact e
 rw [PZ T.rise e'];simp [e']
theorem TOk.slot_empty (T:TOk t hs){j:Nat}(e:j∉t.place.toList):t.slot j=.empty:=by
 unfold SetTable.slot
 have:¬(t.place[below t.place j]? == some j)=true:=fun z=>by
   have z':t.place[below t.place j]?=some j:=by simpa using z
   rw [<- O0] at z';exact e (G8 z')
 dsimp only;rw [if_neg this,T.dum,Lk]
 rfl
theorem TOk.free (T:TOk t hs):∃e,e<=t.mask/\e∉t.place.toList:=by
 refine Bc fun z=>?_
 have sub:D1 (t.mask + 1) ⊆ t.place.toList:=fun x hx=>by
   refine Bc fun y=>z ⟨x,Cc (M9.mp hx),y⟩
 have:=(List.nodup_range (n:=t.mask + 1)).length_le_of_subset sub;rw [i7,T.size] at this;have:=T.room;omega
def pb (mask:Nat)(h:Int)(k o:Nat):Probe:={ j:=vs mask h k o,more:=rn mask (lp mask h k).1 - o,i:=(lp mask h k).1,perturb:=(lp mask h k).2,dummy:=none }
theorem pb_adv (t:G6)(h:Int)(k o:Nat):t.advance (pb t.mask h k o)=if o < rn t.mask (lp t.mask h k).1 then pb t.mask h k (o + 1) else pb t.mask h (k + 1) 0:=by
 unfold SetTable.advance
 by_cases c:o < rn t.mask (lp t.mask h k).1
 · rw [if_pos c,if_pos (show(pb t.mask h k o).more > 0 by show rn t.mask (lp t.mask h k).1 - o > 0;omega)];unfold pb vs
   congr 1
 · rw [if_neg c,if_neg (show ¬(pb t.mask h k o).more > 0 by show ¬rn t.mask (lp t.mask h k).1 - o > 0;omega)]
   rfl
def nx (mask:Nat)(h:Int)(k o:Nat):Nat×Nat:=if o < rn mask (lp mask h k).1 then(k,o + 1) else(k + 1,0)
theorem pb_nx (t:G6)(h:Int)(k o:Nat):t.advance (pb t.mask h k o)=pb t.mask h (nx t.mask h k o).1 (nx t.mask h k o).2:=by
 rw [pb_adv];unfold nx;split <;> rfl
theorem nx_ok {h:Int}{k o:Nat}(ho:o<=rn mask (lp mask h k).1):(nx mask h k o).2<=rn mask (lp mask h (nx mask h k o).1).1:=by
 unfold nx;split
 · rename_i c;exact c
 · exact G4 _
theorem nx_lx {h:Int}{k o k' o':Nat}(ho:o<=rn mask (lp mask h k).1)(ho':o'<=rn mask (lp mask h k').1)(l:Lx k' o' (nx mask h k o).1 (nx mask h k o).2):Lx k' o' k o\/(k'=k/\o'=o):=by
 unfold nx at l
 split at l
 · rcases l with l | ⟨rfl,l⟩
   · exact .inl (.inl l)
   · have l':o' < o + 1:=l;rcases AZ o' o with c | c
     · exact .inl (.inr ⟨rfl,c⟩)
     · exact .inr ⟨rfl,by omega⟩
 · rename_i c;rcases l with l | ⟨_,l⟩
   · have l':k' < k + 1:=l;rcases AZ k' k with c2 | c2
     · exact .inl (.inl c2)
     · have:k'=k:=by omega
       subst this;rcases AZ o' o with c3 | c3
       · exact .inl (.inr ⟨rfl,c3⟩)
       · exact .inr ⟨rfl,by omega⟩
   · exact absurd l (u3 _)
def far (K k o:Nat):Nat:=10 * (K - k) + 1 - o
theorem Ll {h:Int}{K k o:Nat}(ho:o<=rn mask (lp mask h k).1)(hk:k < K):far K (nx mask h k o).1 (nx mask h k o).2 < far K k o/\(nx mask h k o).1<=K/\((nx mask h k o).1=K->(nx mask h k o).2=0):=by
 have r9:=rn_9 mask (lp mask h k).1;unfold nx far
 split
 · refine⟨by show 10 * (K - k) + 1 - (o + 1) < _;omega,by show k<=K;omega,fun z=>?_⟩;have:k=K:=z;omega
 · refine⟨by show 10 * (K - (k + 1)) + 1 - 0 < _;omega,by show k + 1<=K;omega,fun _=>rfl⟩
theorem Qa (T:TOk t hs)(at_:Nat->Int)(ha:∀(i:Nat) x,hs[i]?=some x->at_ i=x){K e:Nat}(hK:(lp t.mask h K).1=e)(he:e∉t.place.toList):∀(fuel k o:Nat),k<=K->(k=K->o=0)->o<=rn t.mask (lp t.mask h k).1->far K k o<=fuel->
   ∃ k2 o2, o2 <= rn t.mask (lp t.mask h k2).1 /\ k2 <= K /\ (k2 = K -> o2 = 0) /\ ¬ Lx k2 o2 k o /\ (∀ k' o', o' <= rn t.mask (lp t.mask h k').1 -> ¬ Lx k' o' k o -> Lx k' o' k2 o2 -> ∃ (i : Nat) (x : Int), t.place.toList[i]? = some (vs t.mask h k' o') /\ hs[i]? = some x /\ x ≠ h) /\
     ((vs t.mask h k2 o2∉t.place.toList/\probe.go t at_ h fuel (pb t.mask h k o)=some (.empty (vs t.mask h k2 o2) none))\/
       ∃i,k2 < K/\t.place.toList[i]?=some (vs t.mask h k2 o2)/\hs[i]?=some h/\probe.go t at_ h fuel (pb t.mask h k o)=some (.candidate (vs t.mask h k2 o2) i (pb t.mask h (nx t.mask h k2 o2).1 (nx t.mask h k2 o2).2))):=by
 intro xq
 induction xq with
 | zero =>
   intro k o h1 h2 h3 h4;have r9:=rn_9 t.mask (lp t.mask h k).1;unfold far at h4;have:¬k=K:=fun z=>by have:=h2 z;omega
   omega
 | succ fuel ih =>
   intro k o h1 h2 h3 h4;have irr:¬Lx k o k o:=fun z=>z.elim (R5 k) fun z=>R5 o z.2
   by_cases hm:vs t.mask h k o∈t.place.toList
   · obtain⟨i,hi⟩:=BX.mp hm
     obtain⟨x,hx⟩:∃x,hs[i]?=some x:=by
       have:=(E6.mp hi).1;rw [T.size] at this;exact⟨_,C4 this⟩
     have hkK:k < K:=by
       refine Nat.lt_of_le_of_ne h1 fun z=>?_;have o0:=h2 z;subst z;subst o0;exact he (by rw [<- hK];exact hm)
     have sl:=T.slot_live hi
     by_cases c:x=h
     · subst c;refine⟨k,o,h3,h1,h2,irr,fun k' o' _ n l=>absurd l n,.inr ⟨i,hkK,hi,hx,?_⟩⟩;unfold probe.go;rw [show(pb t.mask x k o).j=vs t.mask x k o from rfl,sl];dsimp only;rw [ha i x hx,beq_self_eq_true,if_pos rfl,pb_nx]
     · obtain⟨f1,f2,f3⟩:=Ll (K:=K) h3 hkK;obtain⟨k2,o2,a1,a2,a3,a4,a5,a6⟩:=ih (nx t.mask h k o).1 (nx t.mask h k o).2 f2 f3 (nx_ok h3) (by omega)
       have step:probe.go t at_ h (fuel + 1) (pb t.mask h k o)=probe.go t at_ h fuel (pb t.mask h (nx t.mask h k o).1 (nx t.mask h k o).2):=by
         rw [<- pb_nx]
         conv=>lhs;unfold probe.go
         rw [show(pb t.mask h k o).j=vs t.mask h k o from rfl,sl];dsimp only;rw [ha i x hx,if_neg (by simpa using c)]
       rw [step];refine⟨k2,o2,a1,a2,a3,fun z=>a4 ?_,fun k' o' p1 p2 p3=>?_,a6⟩
       · unfold nx
         split
         · rcases z with z | ⟨rfl,z⟩
           · exact .inl z
           · exact .inr ⟨rfl,by show o2 < o + 1;omega⟩
         · rcases z with z | ⟨rfl,z⟩
           · exact .inl (by show k2 < k + 1;omega)
           · exact .inl (by show k2 < k2 + 1;omega)
       · by_cases c2:Lx k' o' (nx t.mask h k o).1 (nx t.mask h k o).2
         · rcases nx_lx h3 p1 c2 with c3 | ⟨rfl,rfl⟩
           · exact absurd c3 p2
           · exact⟨i,x,hi,hx,c⟩
         · exact a5 k' o' p1 c2 p3
   · refine⟨k,o,h3,h1,h2,irr,fun k' o' _ n l=>absurd l n,.inl ⟨hm,?_⟩⟩;unfold probe.go;rw [show(pb t.mask h k o).j=vs t.mask h k o from rfl,T.slot_empty hm]
     rfl
theorem TOk.put (T:TOk t hs){s:Nat}(hs1:s∉t.place.toList)(hl:s<=t.mask)(hr:Rch t.mask (·∈t.place.toList) s h)(hroom:hs.length + 1 < t.mask) :
   (t.put s).2=below t.place s/\(t.put s).2<=hs.length/\(t.put s).1.plain=t.plain/\(t.put s).1.led=t.led/\TOk (t.put s).1 (insL hs (t.put s).2 h):=by
 have p1:=(Db t.place s T.rise).1;have sz:t.place.size=hs.length:=by rw [<- T.size,F4]
 have pl:(t.put s).1.place.toList=insL t.place.toList (below t.place s) s:=Lj _ _ _ p1;have mk:(t.put s).1.mask=t.mask:=rfl
 have dm:(t.put s).1.dummies=#[]:=by
   show(if has t.dummies s then eraseAt t.dummies (below t.dummies s) else t.dummies)=#[];rw [T.dum,Lk];rfl
 refine⟨rfl,by show below t.place s<=_;omega,rfl,rfl,?_⟩;have hp:(t.put s).2=below t.place s:=rfl;rw [hp]
 have mem:∀x,x∈t.place.toList->x∈insL t.place.toList (below t.place s) s:=fun x hx=>by
   unfold insL;rw [<- DF (below t.place s) t.place.toList] at hx;rcases K6.mp hx with hx | hx
   · exact Z9 _ hx
   · exact P6 _ (B5 _ hx)
 refine⟨?_,dm,by rw [mk];exact T.mask,by rw [pl];exact P_ T.rise hs1,fun x hx=>?_,by rw [mk,CW];exact hroom,fun i x y ex ey=>?_⟩
 · rw [pl,CW,CW,T.size]
 · rw [pl] at hx;rw [mk];unfold insL at hx;rcases K6.mp hx with hx | hx
   · exact T.lim x (Ac hx)
   · rcases B7.mp hx with rfl | hx
     · exact hl
     · exact T.lim x (DG hx)
 · rw [pl] at ex ⊢;rw [mk];generalize below t.place s=p at *;have lt:(t.place.toList.take p).length=p:=by rw [L0,T.size];omega
   have lh:(hs.take p).length=p:=by rw [L0];omega
   unfold insL at ex ey;rcases t7 i p with c | c | c
   · rw [U2 (by omega),List.getElem?_take,if_pos c] at ex ey;exact(T.reach i x y ex ey).mono mem
   · subst c;rw [P5 (by omega),lt,Y1] at ex;rw [P5 (by omega),lh,Y1] at ey;cases ex;cases ey;exact hr.mono mem
   · rw [P5 (by omega),lt,show i - p=(i - p - 1) + 1 by omega,BW,DK,show p + (i - p - 1)=i - 1 by omega] at ex;rw [P5 (by omega),lh,show i - p=(i - p - 1) + 1 by omega,BW,DK,show p + (i - p - 1)=i - 1 by omega] at ey;exact(T.reach (i - 1) x y ex ey).mono mem
end
end SeT
end
section
namespace SeT
open PySem PySem.SetTable L2
variable {mask:Nat}
structure Own (mask:Nat)(ow:Array (Option Nat))(sl:List Nat):Prop where
 size:ow.size=mask + 1
 nd:sl.Nodup
 lim:∀s∈sl,s<=mask
 has:∀(k s:Nat),sl[k]?=some s->ow[s]?=some (some k)
 no:∀s,s<=mask->s∉sl->ow[s]?=some none
theorem Own.none {ow:Array (Option Nat)}{sl:List Nat}(O:Own mask ow sl){s:Nat}(hs:s<=mask):(ow.getD s (some 0)).isNone=decide (s∉sl):=by
 rw [Aj]
 by_cases c:s∈sl
 · obtain⟨k,hk⟩:=BX.mp c;rw [O.has k s hk,decide_eq_false (not_not_intro c)];rfl
 · rw [O.no s hs c,decide_eq_true c];rfl
theorem Qb {ow:Array (Option Nat)}{sl:List Nat}{h:Int}(O:Own mask ow sl){K e:Nat}(hK:(lp mask h K).1=e)(he:e∉sl):∀(fuel k:Nat),k<=K->K - k < fuel->
   ∃k2 o2,o2<=rn mask (lp mask h k2).1/\layClean.free mask ow fuel (lp mask h k).1 (lp mask h k).2=some (vs mask h k2 o2)/\vs mask h k2 o2∉sl/\∀k' o',o'<=rn mask (lp mask h k').1->k<=k'->Lx k' o' k2 o2->vs mask h k' o'∈sl:=by
 intro xq
 induction xq with
 | zero =>
   intro k _ h2;exact absurd h2 (u3 _)
 | succ fuel ih =>
   intro k h1 h2;have le:=HH mask h k;have ge:(lp mask h k).1<=runEnd mask (lp mask h k).1:=by unfold runEnd;split <;> omega
   have er:runEnd mask (lp mask h k).1 + 1 - (lp mask h k).1=rn mask (lp mask h k).1 + 1:=by unfold rn;omega
   have isn:∀o,o<=rn mask (lp mask h k).1->(ow.getD ((lp mask h k).1 + o) (some 0)).isNone=decide (vs mask h k o∉sl):=fun o ho=>O.none (HI ho);unfold layClean.free;rw [er];cases ef:(D1 (rn mask (lp mask h k).1 + 1)).find? (fun o=>(ow.getD ((lp mask h k).1 + o) (some 0)).isNone) with
   | some o2 =>
     obtain⟨p1,p2,p3⟩:=List.find?_range_eq_some.mp ef;have ho2:o2<=rn mask (lp mask h k).1:=by have:=M9.mp p2;omega
     rw [isn o2 ho2] at p1;refine⟨k,o2,ho2,rfl,of_decide_eq_true p1,fun k' o' q1 q2 q3=>?_⟩;rcases q3 with q3 | ⟨rfl,q3⟩
     · omega
     · have:=p3 o' q3;rw [isn o' (by omega)] at this;exact Bc fun z=>by rw [decide_eq_true z] at this;cases this
   | none =>
     have all:∀o,o<=rn mask (lp mask h k).1->vs mask h k o∈sl:=fun o ho=>by
       have:=List.find?_eq_none.mp ef o (M9.mpr (by omega));rw [isn o ho] at this;exact Bc fun z=>this (decide_eq_true z)
     have hkK:k < K:=by
       refine Nat.lt_of_le_of_ne h1 fun z=>?_;subst z;exact he (by rw [<- hK];exact all 0 (G4 _))
     obtain⟨k2,o2,a1,a2,a3,a4⟩:=ih (k + 1) hkK (by omega);refine⟨k2,o2,a1,a2,a3,fun k' o' q1 q2 q3=>?_⟩;rcases AZ k k' with c | c
     · exact a4 k' o' q1 c q3
     · have:k'=k:=by omega
       subst this;exact all o' q1
theorem Own.put {ow:Array (Option Nat)}{sl:List Nat}(O:Own mask ow sl){s:Nat}(hs:s<=mask)(hn:s∉sl):Own mask (ow.setIfInBounds s (some sl.length)) (sl++[s]) where
 size:=by rw [Array.size_setIfInBounds];exact O.size
 nd:=BZ.mpr ⟨O.nd,by simp,fun a ha b hb e=>hn (by rw [<- F2.mp hb,<- e];exact ha)⟩
 lim:=fun x hx=>(K6.mp hx).elim (O.lim x) fun z=>by rw [F2.mp z];exact hs
 has:=fun k x e=>by
   have hsz:s < ow.size:=by rw [O.size];omega
   by_cases c:k < sl.length
   · rw [U2 c] at e;have hx:x∈sl:=G8 e;rw [Array.getElem?_setIfInBounds_ne (fun z=>hn (by rw [z];exact hx))];exact O.has k x e
   · have hk:k=sl.length:=by
       have:=(E6.mp e).1;rw [E2,Z8] at this;omega
     subst hk;rw [P5 (A9 _),Y1] at e;have e':s=x:=by simpa using e
     subst e';rw [Array.getElem?_setIfInBounds_self,if_pos hsz]
 no:=fun x hx hx'=>by
   have n1:x∉sl:=fun z=>hx' (Z9 _ z);have n2:s≠x:=fun z=>hx' (P6 _ (by rw [z];simp));rw [Array.getElem?_setIfInBounds_ne n2];exact O.no x hx n1
theorem Own.nil (mask:Nat):Own mask (DS (mask + 1) (Option.none:Option Nat)) []:=⟨by simp,by simp,(fun _ z=>nomatch z),(fun k s e=>by simp at e),fun s hs _=>by rw [Array.getElem?_replicate,if_pos (by omega)]⟩
def Fk (mask:Nat)(acc:Option (Array (Option Nat)×Nat))(h:Int):Option (Array (Option Nat)×Nat):=do
 let (owner,k) ← acc
 let j ← layClean.free mask owner (turns mask) (bits h % (mask + 1)) (bits h)
 pure (owner.setIfInBounds j (some k),k + 1)
theorem lay_go (hm:Msk mask):∀(rest done:List Int) (ow:Array (Option Nat)) (sl:List Nat),Own mask ow sl->sl.length=done.length->done.length + rest.length<=mask->(∀(k s:Nat) h,sl[k]?=some s->done[k]?=some h->Rch mask (·∈sl) s h)->
   ∃ow' sl',rest.foldl (Fk mask) (some (ow,done.length))=some (ow',(done++rest).length)/\Own mask ow' sl'/\sl'.length=(done++rest).length/\∀(k s:Nat) h,sl'[k]?=some s->(done++rest)[k]?=some h->Rch mask (·∈sl') s h:=by
 intro xq
 induction xq with
 | nil =>
   intro done ow sl O hl hle hr;exact⟨ow,sl,by simp,O,by simpa using hl,fun k s h e1 e2=>hr k s h e1 (by simpa using e2)⟩
 | cons h rest ih =>
   intro done ow sl O hl hle hr;rw [D3] at hle
   obtain⟨e,he1,he2⟩:∃e,e<=mask/\e∉sl:=by
     refine Bc fun z=>?_;have sub:D1 (mask + 1) ⊆ sl:=fun x hx=>Bc fun y=>z ⟨x,Cc (M9.mp hx),y⟩;have:=(List.nodup_range (n:=mask + 1)).length_le_of_subset sub;rw [i7,hl] at this;omega
   obtain⟨K,hK1,hK2⟩:=goes hm h he1;obtain⟨k2,o2,a1,a2,a3,a4⟩:=Qb O hK2 he2 (turns mask) 0 (G4 _) (by unfold turns;omega);have O':=O.put (HI a1) a3
   have st:Fk mask (some (ow,done.length)) h=some (ow.setIfInBounds (vs mask h k2 o2) (some sl.length),(done++[h]).length):=by
     unfold Fk;show(layClean.free mask ow (turns mask) (lp mask h 0).1 (lp mask h 0).2).bind _=_;rw [a2,hl,E2]
     rfl
   have mem:∀x,x∈sl->x∈sl++[vs mask h k2 o2]:=fun x hx=>Z9 _ hx
   obtain⟨ow',sl',b1,b2,b3,b4⟩:=ih (done++[h]) _ _ O' (by rw [E2,E2,hl];rfl) (by rw [E2,Z8];omega) fun k s x e1 e2=>by
     by_cases c:k < sl.length
     · rw [U2 c] at e1;rw [U2 (by omega)] at e2;exact(hr k s x e1 e2).mono mem
     · have hk:k=sl.length:=by
         have:=(E6.mp e1).1;rw [E2,Z8] at this;omega
       subst hk;rw [P5 (A9 _),Y1] at e1;rw [P5 (by omega),hl,Y1] at e2;cases e1;cases e2;exact⟨k2,o2,a1,rfl,fun k' o' q1 q2=>mem _ (a4 k' o' q1 (G4 _) q2)⟩
   refine⟨ow',sl',?_,b2,by rw [b3,W5];rfl,fun k s x e1 e2=>b4 k s x e1 (by rw [W5];exact e2)⟩;rw [Y0,st,b1,W5];rfl
theorem Qc (mask:Nat)(hs:Array Int):layClean mask hs=(hs.toList.foldl (Fk mask) (some (DS (mask + 1) none,0))).map (·.1):=by
 unfold layClean;rw [<- Array.foldl_toList]
 rfl
def live (mask:Nat)(ow:Array (Option Nat)):List (Nat×Nat):=(D1 (mask + 1)).filterMap fun j=>(ow.getD j none).map (j,·)
theorem AI {ow:Array (Option Nat)}{sl:List Nat}(O:Own mask ow sl){j k:Nat}:(j,k)∈live mask ow↔sl[k]?=some j:=by
 unfold live;rw [List.mem_filterMap];constructor
 · rintro⟨x,hx,e⟩;have hxm:x<=mask:=Cc (M9.mp hx)
   by_cases c:x∈sl
   · obtain⟨q,hq⟩:=BX.mp c;rw [Aj,O.has q x hq] at e;have e':(x,q)=(j,k):=by simpa using e
     cases e';exact hq
   · rw [Aj,O.no x hxm c] at e;cases e
 · intro h;have hj:=O.lim j (G8 h);refine⟨j,M9.mpr (by omega),?_⟩;rw [Aj,O.has k j h];rfl
theorem Lm (mask:Nat)(ow:Array (Option Nat)):Rise ((live mask ow).map (·.1)):=by
 unfold live Rise;rw [R4];refine List.Pairwise.filterMap _ (R:=(· < ·)) (fun a b hab x hx y hy=>?_) List.pairwise_lt_range;cases e1:ow.getD a none with
 | none=>rw [e1] at hx;cases hx
 | some p =>
   cases e2:ow.getD b none with
   | none=>rw [e2] at hy;cases hy
   | some q =>
     rw [e1] at hx;rw [e2] at hy;have hx':(a,p)=x:=by simpa using hx
     have hy':(b,q)=y:=by simpa using hy
     rw [<- hx',<- hy'];exact hab
theorem Qd {ow:Array (Option Nat)}{sl:List Nat}(O:Own mask ow sl):((live mask ow).map (·.2)).Perm (D1 sl.length):=by
 have nd:((live mask ow).map (·.2)).Nodup:=by
   have h1:(live mask ow).Pairwise fun a b=>a.1 < b.1:=R4.mp (Lm mask ow);rw [G7,R4];refine List.Pairwise.imp_of_mem (fun {a b} ha hb hab e=>?_) h1;have x1:=(AI (j:=a.1) (k:=a.2) O).mp ha;have x2:=(AI (j:=b.1) (k:=b.2) O).mp hb;rw [e] at x1;rw [x1] at x2;have:=J9 x2;omega
 refine(FX nd List.nodup_range).mpr fun k=>?_;rw [M9,C8];constructor
 · rintro⟨⟨j,k'⟩,h,rfl⟩;exact(E6.mp ((AI O).mp h)).1
 · intro h;exact⟨(sl[k],k),(AI O).mpr (C4 h),rfl⟩
theorem Qe {fi mo:Nat}{led pl:Bool}(hm:Msk mask)(hs:Array Int)(hl:hs.toList.length < mask) :
   ∃t' order,laid mask fi mo led pl hs=some (t',order)/\order.toList.Perm (D1 hs.toList.length)/\t'.led=led/\t'.plain=pl/\t'.mask=mask/\TOk t' (order.toList.map fun k=>hs.toList.getD k 0):=by
 obtain⟨ow,sl,e,O,l,r⟩:=lay_go hm hs.toList [] _ [] (Own.nil mask) rfl (by simp;simp at hl;omega) (fun k s h e=>by simp at e);rw [i9] at e l r
 have el:laid mask fi mo led pl hs=some ({ mask,place:=((live mask ow).map (·.1)).toArray,dummies:=#[],finger:=fi,led,moves:=mo,plain:=pl },((live mask ow).map (·.2)).toArray):=by
   unfold laid;rw [Qc,show(some (DS (mask + 1) (none:Option Nat),0))=some (DS (mask + 1) none,([]:List Int).length) from rfl,e]
   rfl
 have po:=Qd O;rw [l] at po;refine⟨_,_,el,po,rfl,rfl,rfl,?_⟩
 have ml:∀x,x∈(live mask ow).map (·.1)↔x∈sl:=fun x=>by
   rw [C8];constructor
   · rintro⟨⟨j,k⟩,h,rfl⟩;exact G8 ((AI O).mp h)
   · intro h;obtain⟨k,hk⟩:=BX.mp h;exact⟨(x,k),(AI O).mpr hk,rfl⟩
 refine⟨by simp,rfl,hm,Lm mask ow,fun s h=>O.lim s ((ml s).mp h),?_,fun i s h e1 e2=>?_⟩
 · rw [A7,po.length_eq,i7];exact hl
 · have e1':((live mask ow).map (·.1))[i]?=some s:=e1;have e2':(((live mask ow).map (·.2)).map fun k=>hs.toList.getD k 0)[i]?=some h:=e2;rw [D5] at e1';rw [D5,D5] at e2';cases ex:(live mask ow)[i]? with
   | none=>rw [ex] at e1';cases e1'
   | some y =>
     rw [ex] at e1' e2';have a1:y.1=s:=by simpa using e1'
     have a2:hs.toList.getD y.2 0=h:=by simpa using e2'
     have my:=(AI (j:=y.1) (k:=y.2) O).mp (G8 ex);have lk:y.2 < hs.toList.length:=by rw [<- l];exact(E6.mp my).1
     have hk:hs.toList[y.2]?=some h:=by rw [<- a2,M8,C4 lk];rfl
     rw [a1] at my;exact(r y.2 s h my hk).mono fun x hx=>(ml x).mpr hx
end SeT
end
section
namespace SeT
open PySem PySem.Spec PyProof.Rows L2
section
variable (prog:B2)(w:World)
abbrev TK:HeapKind prog w (List Key):=tupleKind (E8 prog w)
def enS (x:List Key×Addr):Int×Value:=((TK prog w).hash x.1,.ref x.2)
structure SetK (h:Heap)(a:Addr)(o:Obj)(es:Array (Int×Value))(ep:Nat)(t:G6)(xs:List (List Key×Addr)):Prop where
 ho:h.get? a=some o
 ex:o.ExactSet
 hd:o.data=.set es ep t
 hes:es.toList=xs.map (enS prog w)
 hk:∀x∈xs,(TK prog w).is h x.1 x.2
 nd:(xs.map (·.1)).Nodup
 tb:TOk t (xs.map fun x=>(TK prog w).hash x.1)
 few:5 * xs.length < 3 * t.mask
 led:t.led=!(w.params.followText "set-order")
end
section
variable {prog:B2}{w:World}{A:Around}{E:Value->Shared->Prop}{s:Shared}{a:Addr}{o:Obj}{es:Array (Int×Value)}{ep:Nat}{t:G6}{xs:List (List Key×Addr)}
theorem SetK.sz {h:Heap}(S:SetK prog w h a o es ep t xs):es.size=xs.length:=by rw [<- F4,S.hes,A7]
theorem SetK.fits {h:Heap}(S:SetK prog w h a o es ep t xs):t.fits es.size=true:=by
 have:=S.tb.fits;rw [A7] at this;rw [S.sz];exact this
theorem SetK.at {h:Heap}(S:SetK prog w h a o es ep t xs){i:Nat}{y:List Key×Addr}(e:xs[i]?=some y):es[i]?=some (enS prog w y):=by
 rw [<- O0,S.hes,D5,e];rfl
theorem Ln {ks:List Key}{vs:List Value}(h:ItemsAre (E8 prog w) ks vs):∀v∈vs,(∃i t,v=.int i t)\/∃x t,v=.str x t:=by
 induction h with
 | nil=>intro v hv;cases hv
 | @cons k v ks vs h1 _ ih =>
   intro u hu;rcases B7.mp hu with rfl | hu
   · rcases Y2 h1 with⟨i,t,_,rfl⟩ | ⟨x,t,_,rfl⟩
     · exact .inl ⟨i,t,rfl⟩
     · exact .inr ⟨x,t,rfl⟩
   · exact ih u hu
theorem Lo {r:Addr}{k:List Key}{Q:Bool->Shared->Prop}(hk:(TK prog w).is s.heap k r)(h:Q false s):wpAny (model prog w) A (ofAClassStatement 8 (.ref r)) Q E s:=by
 obtain⟨ob,items,n,e,c,d,its⟩:=hk;unfold ofAClassStatement;refine A0 (p8 (⟨ob,e,c⟩:s.TypeIs (.ref r) "tuple") ?_);dsimp only;simp only [beq_self_eq_true,↓reduceIte];refine A0 (A4 ?_);simp only [Am,J7,↓reduceIte];refine A0 (V7 e d ?_);dsimp only;refine A0 ?_;rw [<- Array.forIn_toList];refine Dx _ (fun rest r s'=>r.1=none/\s'=s/\∀v∈rest,(∃i t,v=.int i t)\/∃x t,v=.str x t) _ ?_ ?_ _ _ ⟨rfl,rfl,Ln its⟩
 · rintro v rest r s' ⟨hr,rfl,all⟩
   have e0:ofAClassStatement 7 v=pure false:=by
     rcases all v B8 with⟨i,t,rfl⟩ | ⟨x,t,rfl⟩ <;> rfl
   rw [e0];refine A0 (A4 ?_);simp only [J7,↓reduceIte];exact A4 ⟨rfl,rfl,fun u hu=>all u (B5 _ hu)⟩
 · rintro⟨r1,r2⟩ s' ⟨hr,rfl,_⟩;simp only at hr;subst hr;exact A4 h
theorem Qf {r:Addr}{k:List Key}(hu:A.units < cLine)(hk:(TK prog w).is s.heap k r):∀(l:List Value),(∀v∈l,∃b kb,v=.ref b/\(TK prog w).is s.heap kb b)->∀{Q:Bool->Shared->Prop},Q false s->wpAny (model prog w) A (searchCouldBeSeen (.ref r) l) Q E s:=by
 intro l hl Q h;unfold searchCouldBeSeen;refine A0 ?_;refine Dx _ (fun rest r s'=>r.1=none/\s'=s/\∀v∈rest,∃b kb,v=.ref b/\(TK prog w).is s.heap kb b) _ ?_ ?_ _ _ ⟨rfl,rfl,hl⟩
 · rintro v rest q s' ⟨hr,rfl,all⟩;obtain⟨b,kb,rfl,hb⟩:=all v B8;have fin:∀v∈rest,∃b kb,v=K0 b/\(TK prog w).is s'.heap kb b:=fun u hu=>all u (B5 _ hu);dsimp only
   split
   · exact A4 ⟨rfl,rfl,fin⟩
   · refine A0 ((TK prog w).quiet hk ?_);simp only [Am,J7,↓reduceIte];refine A0 ((TK prog w).quiet hb ?_);simp only [Am,J7,↓reduceIte];refine A0 (Lo hk ?_);simp only [J7,↓reduceIte];refine A0 (Lo hb ?_);simp only [J7,↓reduceIte];exact A4 ⟨rfl,rfl,fin⟩
 · rintro⟨r1,r2⟩ s' ⟨hr,rfl,_⟩;simp only at hr;subst hr;exact A4 h
theorem Qg {b:Addr}{Q:Bool->Shared->Prop}(h:Q true s):wpAny (model prog w) A (isSame (.ref b) (.ref b)) Q E s:=by
 show wpAny _ A (if(b == b)=true then pure true else _) Q E s;rw [if_pos (by simp)];exact A4 h
theorem Qh {α:Type}{b:Bool}{m:Sem Bool}{u v:Sem α}{Q:α->Shared->Prop}(hm:∀Q':Bool->Shared->Prop,Q' false s->wpAny (model prog w) A m Q' E s)(hv:wpAny (model prog w) A v Q E s):wpAny (model prog w) A (if b=true then(do let x ← m;if x=true then u else v) else v) Q E s:=by
 split
 · refine A0 (hm _ ?_);simp only [J7,↓reduceIte];exact hv
 · exact hv
theorem search {r:Addr}{k:List Key}(hu:A.units < cLine)(S:SetK prog w s.heap a o es ep t xs)(hk:(TK prog w).is s.heap k r){K e:Nat}(hK:(lp t.mask ((TK prog w).hash k) K).1=e)(he:e∉t.place.toList)(hK2:K<=t.mask + 14){Q:SetFound->Shared->Prop}
   (hQ1:k∈xs.map (·.1)->Q (.there none) s) (hQ2:∀sl,sl∉t.place.toList->sl<=t.mask->Rch t.mask (·∈t.place.toList) sl ((TK prog w).hash k)->k∉xs.map (·.1)->Q (.free sl false) s) :
   ∀ (fuel kk oo : Nat) (st : Option SetTable.Probe), st.getD (t.probeStart ((TK prog w).hash k)) = pb t.mask ((TK prog w).hash k) kk oo -> kk <= K -> (kk = K -> oo = 0) -> oo <= rn t.mask (lp t.mask ((TK prog w).hash k) kk).1 -> far K kk oo <= fuel ->
     (∀k' o',o'<=rn t.mask (lp t.mask ((TK prog w).hash k) k').1->Lx k' o' kk oo->∃(i:Nat) (y:List Key×Addr),t.place.toList[i]?=some (vs t.mask ((TK prog w).hash k) k' o')/\xs[i]?=some y/\y.1≠k)->
     wpAny (model prog w) A (setSearchFrom a (.ref r) ((TK prog w).hash k) true fuel st) Q E s:=by
 intro xq
 induction xq with
 | zero =>
   intro kk oo st _ h1 h2 h3 h4 _;have r9:=rn_9 t.mask (lp t.mask ((TK prog w).hash k) kk).1;unfold far at h4;have:¬kk=K:=fun z=>by have:=h2 z;omega
   omega
 | succ fuel ih =>
   intro kk oo st hst h1 h2 h3 h4 done;have farK:far K kk oo<=10 * SetTable.turns t.mask:=by unfold far SetTable.turns;omega
   have hat:∀(i:Nat) x,(xs.map fun x=>(TK prog w).hash x.1)[i]?=some x->(es[i]?.map (·.1)).getD 0=x:=fun i x e=>by
     rw [D5] at e;cases ex:xs[i]? with
     | none=>rw [ex] at e;cases e
     | some y =>
       rw [ex] at e;rw [S.at ex];exact J9 e
   obtain⟨k2,o2,a1,a2,a3,a4,a5,a6⟩:=Qa S.tb (fun i=>(es[i]?.map (·.1)).getD 0) hat hK he (10 * SetTable.turns t.mask) kk oo h1 h2 h3 farK
   have done2:∀k' o',o'<=rn t.mask (lp t.mask ((TK prog w).hash k) k').1->Lx k' o' k2 o2->∃(i:Nat) (y:List Key×Addr),t.place.toList[i]?=some (vs t.mask ((TK prog w).hash k) k' o')/\xs[i]?=some y/\y.1≠k:=fun k' o' p1 p2=>by
     by_cases c:Lx k' o' kk oo
     · exact done k' o' p1 c
     · obtain⟨i,x,q1,q2,q3⟩:=a5 k' o' p1 c p2;rw [D5] at q2;cases ex:xs[i]? with
       | none=>rw [ex] at q2;cases q2
       | some y =>
         rw [ex] at q2;have q2':(TK prog w).hash y.1=x:=by simpa using q2
         exact⟨i,y,q1,ex,fun z=>q3 (by rw [<- q2',z])⟩
   unfold setSearchFrom;refine A0 (T9 S.ho S.hd S.fits ?_);dsimp only;rw [S.tb.odd];simp only [J7,↓reduceIte];refine A0 (A4 ?_);rw [hst];generalize hpr:t.probe _ ((TK prog w).hash k) (pb t.mask ((TK prog w).hash k) kk oo)=pr;rcases a6 with⟨em,ep2⟩ | ⟨i,hkK,pi,hi,ep2⟩
   · have epr:pr=some (.empty (vs t.mask ((TK prog w).hash k) k2 o2) none):=by rw [<- hpr];exact ep2
     rw [epr];dsimp only;refine A4 (hQ2 _ em (HI a1) ⟨k2,o2,a1,rfl,fun k' o' p1 p2=>?_⟩ fun hin=>?_)
     · obtain⟨i,y,q1,_⟩:=done2 k' o' p1 p2;exact G8 q1
     · obtain⟨y,hy,ey⟩:=C8.mp hin;obtain⟨iy,hiy⟩:=BX.mp hy
       obtain⟨sy,hsy⟩:∃sy,t.place.toList[iy]?=some sy:=by
         have:=(E6.mp hiy).1;have h2:=S.tb.size;rw [A7] at h2;exact⟨_,C4 (by omega)⟩
       obtain⟨ky,oy,b1,b2,b3⟩:=S.tb.reach iy sy ((TK prog w).hash k) hsy (by rw [D5,hiy];show some ((TK prog w).hash y.1)=_;rw [ey])
       -- the empty place is not ahead of y's
       have nl:¬Lx k2 o2 ky oy:=fun z=>em (b3 k2 o2 a1 z);have ne:¬(k2=ky/\o2=oy):=fun⟨z1,z2⟩=>em (by rw [z1,z2,b2];exact G8 hsy)
       have lt:Lx ky oy k2 o2:=by
         rcases t7 ky k2 with c | c | c
         · exact .inl c
         · subst c;rcases t7 oy o2 with d | d | d
           · exact .inr ⟨rfl,d⟩
           · exact absurd ⟨rfl,d.symm⟩ ne
           · exact absurd (.inr ⟨rfl,d⟩) nl
         · exact absurd (.inl c) nl
       obtain⟨i',y',q1,q2,q3⟩:=done2 ky oy b1 lt;rw [b2] at q1
       have ii:i'=iy:=by
         obtain⟨l1,e1⟩:=E6.mp q1;obtain⟨l2,e2⟩:=E6.mp hsy;rcases t7 i' iy with c | c | c
         · have:=X7.mp S.tb.rise _ _ l1 l2 c;omega
         · exact c
         · have:=X7.mp S.tb.rise _ _ l2 l1 c;omega
       rw [ii,hiy] at q2;cases q2;exact q3 ey
   · have epr:pr=some (.candidate (vs t.mask ((TK prog w).hash k) k2 o2) i (pb t.mask ((TK prog w).hash k) (nx t.mask ((TK prog w).hash k) k2 o2).1 (nx t.mask ((TK prog w).hash k) k2 o2).2)):=by rw [<- hpr];exact ep2
     rw [epr];dsimp only
     obtain⟨y,hy⟩:∃y,xs[i]?=some y:=by
       rw [D5] at hi;cases ex:xs[i]? with
       | none=>rw [ex] at hi;cases hi
       | some y=>exact⟨y,rfl⟩
     have hyk:=S.hk y (G8 hy);have hey:=S.at hy;refine Qh (fun Q' h=>Qf hu hk _ (fun v hv=>?_) h) ?_
     · obtain⟨z,hz,rfl⟩:=C8.mp hv
       have hz':z∈es.toList:=by
         rw [Array.toList_filter] at hz;exact(K5.mp hz).1
       rw [S.hes] at hz';obtain⟨y',hy',rfl⟩:=C8.mp hz';exact⟨y'.2,y'.1,rfl,S.hk y' hy'⟩
     rw [hey];show wpAny (model prog w) A (R1 [.ref y.2] (eqBool (.ref y.2) (.ref r))>>=_) Q E s;refine A0 (J5 ((TK prog w).eqBool hu hyk hk ?_));refine A0 (T9 S.ho S.hd S.fits ?_);dsimp only
     by_cases c:y.1=k
     · rw [decide_eq_true c];simp only [Bool.and_self,↓reduceIte];exact A4 (hQ1 (C8.mpr ⟨y,G8 hy,c⟩))
     · rw [decide_eq_false c];simp only [DT,J7,↓reduceIte];have sm:t.sameMemory t.moves t.mask=some true:=by unfold SetTable.sameMemory;simp
       rw [sm];simp only [↓reduceIte];rw [S.tb.slot_live pi];dsimp only;rw [hey];show wpAny (model prog w) A (isSame (.ref y.2) (.ref y.2)>>=_) Q E s;refine A0 (Qg ?_);refine A0 (A4 ?_);simp only [↓reduceIte];obtain⟨f1,f2,f3⟩:=Ll (K:=K) a1 hkK
       have fle:far K k2 o2<=far K kk oo:=by
         unfold far;have r9:=rn_9 t.mask (lp t.mask ((TK prog w).hash k) kk).1;rcases t7 k2 kk with c | c | c
         · exact absurd (.inl c) a4
         · subst c;have:¬o2 < oo:=fun z=>a4 (.inr ⟨rfl,z⟩);omega
         · omega
       refine ih _ _ _ rfl f2 f3 (nx_ok a1) (by omega) fun k' o' p1 p2=>?_;rcases nx_lx a1 p1 p2 with q | ⟨rfl,rfl⟩
       · exact done2 k' o' p1 q
       · exact⟨i,y,pi,hy,c⟩
end
end SeT
end
section
namespace SeT
open PySem PySem.Spec PyProof.Rows L2
section
variable {prog:B2}{w:World}{A:Around}{E:Value->Shared->Prop}{s:Shared}{a:Addr}{o:Obj}{es:Array (Int×Value)}{ep:Nat}{t:G6}{xs:List (List Key×Addr)}
theorem hbv {r:Addr}{k:List Key}{Q:Bool->Shared->Prop}(hk:(TK prog w).is s.heap k r)(h:∀b,Q b s):wpAny (model prog w) A (hashByValue 8 (.ref r)) Q E s:=by
 have hT:s.TypeIs (.ref r) "tuple":=IsTupleKey.typeIs hk;obtain⟨ob,items,n,e,c,d,its⟩:=hk;unfold hashByValue;refine A0 (BU hT F.slot_tuple_hash.lookup ?_);dsimp only;refine A0 (V7 e d ?_);refine A0 ?_;show wpAny _ _ (forIn items _ _) _ _ s;rw [<- Array.forIn_toList];refine Dx _ (fun rest q s'=>q.1=none/\s'=s/\∀v∈rest,(∃i t,v=.int i t)\/∃x t,v=.str x t) _ ?_ ?_ _ _ ⟨rfl,rfl,Ln its⟩
 · rintro v rest q s' ⟨hr,rfl,all⟩
   have e0:∃b,hashByValue 7 v=pure b:=by
     rcases all v B8 with⟨i,t,rfl⟩ | ⟨x,t,rfl⟩
     · exact⟨true,rfl⟩
     · exact⟨false,rfl⟩
   obtain⟨b,e0⟩:=e0;rw [e0];refine A0 (A4 ?_);cases b with
   | true =>
     simp only [Am,J7,↓reduceIte];exact A4 ⟨rfl,rfl,fun u hu=>all u (B5 _ hu)⟩
   | false =>
     simp only [Bool.not_false,↓reduceIte];exact A4 (A4 (h _))
 · rintro⟨r1,r2⟩ s' ⟨hr,rfl,_⟩;simp only at hr;subst hr;exact A4 (h _)
theorem Lp {h h':Heap}{k:List Key}{r:Addr}(hk:(TK prog w).is h k r)(ho:h.get? a=some o)(ex:o.ExactSet)(sb:Q2 a h h'):(TK prog w).is h' k r:=by
 obtain⟨ob,items,n,e,c,d,its⟩:=hk
 have ne:r≠a:=fun z=>by
   rw [z,ho] at e;cases e;rw [ex.1] at c;exact absurd c (by decide)
 exact⟨ob,items,n,(sb.2 r ne).trans e,c,d,its⟩
theorem TOk.pl {hs:List Int}(T:TOk t hs)(b:Bool):TOk { t with plain:=b } hs:=⟨T.size,T.dum,T.mask,T.rise,T.lim,T.room,T.reach⟩
theorem Qi {n m:Nat}(hm:Msk m)(h:5 * n < 3 * m):n + 1 < m:=by rcases hm with rfl | rfl | rfl <;> omega
theorem HJ {h:Heap}{es':Array (Int×Value)}{t':G6}(ho:h.get? a=some o)(hd:o.data=.set es ep t):(h.update a (Ar es' t')).get? a=some { o with data:=.set es' (ep + 1) t' }:=by
 have:=Ab (Ar es' t') ho (by rw [putSet_of es' t' hd];rfl);rw [putSet_of es' t' hd] at this;exact this
theorem Lq {α β:Type}(f:α->β)(l:List α)(p:Nat)(x:α):(insL l p x).map f=insL (l.map f) p (f x):=by
 unfold insL;rw [N3,F3,List.map_take,List.map_drop]
theorem Qj {α:Type}(l:List α)(p:Nat)(x:α):(insL l p x).Perm (x::l):=by
 unfold insL;have h1:(l.take p++x::l.drop p).Perm (x::(l.take p++l.drop p)):=List.perm_middle;rw [DF] at h1;exact h1
theorem Lr {α:Type}(l:List α)(ord:List Nat)(d:α)(p:ord.Perm (D1 l.length)):ord.filterMap (fun k=>l[k]?)=ord.map (fun k=>l.getD k d)/\(ord.map fun k=>l.getD k d).Perm l:=by
 have lt:∀k∈ord,k < l.length:=fun k hk=>M9.mp (p.mem_iff.mp hk);constructor
 · clear p
   induction ord with
   | nil=>rfl
   | cons k ord ih =>
     have hk:=lt k B8;rw [Ad,C4 hk,F3,ih fun j hj=>lt j (B5 _ hj),M8,C4 hk]
     rfl
 · have h1:=p.map fun k=>l.getD k d
   have h2:(D1 l.length).map (fun k=>l.getD k d)=l:=by
     apply BY
     intro i;rw [D5]
     by_cases c:i < l.length
     · rw [Gb c,C4 c];show some (l.getD i d)=_;rw [M8,C4 c];rfl
     · rw [N1 (by simpa using c),N1 (by omega)];rfl
   rw [h2] at h1;exact h1
theorem relay {n:Nat}{Q:Unit->Shared->Prop}(ho:s.heap.get? a=some o)(ex:o.ExactSet)(hd:o.data=.set es ep t)(hes:es.toList=xs.map (enS prog w))(hk:∀x∈xs,(TK prog w).is s.heap x.1 x.2)(nd:(xs.map (·.1)).Nodup)(tb:TOk t (xs.map fun x=>(TK prog w).hash x.1))(led:t.led=!(w.params.followText "set-order"))
   (hn:n=xs.length) (hfull:(t.mask=7/\n=5)\/(t.mask=31/\n=19))
   (h:∀h' o' es' ep' t' xs',Q2 a s.heap h'->SetK prog w h' a o' es' ep' t' xs'->xs'.Perm xs->Q () { s with heap:=h' }):wpAny (model prog w) A (setRelay a (W8 n)) Q E s:=by
 have sz:es.size=xs.length:=by rw [<- F4,hes,A7]
 have fit:t.fits es.size=true:=by
   have:=tb.fits;rw [A7] at this;rw [sz];exact this
 obtain⟨m',hm',sa,fewm,lt⟩:∃m',Msk m'/\SetTable.sizeAbove (W8 n) - 1=m'/\5 * n < 3 * m'/\SetTable.sizeAbove (W8 n)<=128:=by
   rcases hfull with⟨_,rfl⟩ | ⟨_,rfl⟩
   · exact⟨31,.inr (.inl rfl),by decide,by decide,by decide⟩
   · exact⟨127,.inr (.inr rfl),by decide,by decide,by decide⟩
 have hsl:(es.map (·.1)).toList=xs.map fun x=>(TK prog w).hash x.1:=by
   rw [Array.toList_map,hes,O9];rfl
 have hll:(es.map (·.1)).toList.length=n:=by rw [hsl,A7,hn]
 obtain⟨t',ord,el,po,l1,l2,l3,T'⟩:=Qe (fi:=t.finger) (mo:=t.movedTo m') (led:=t.led) (pl:=t.plain) hm' (es.map (·.1)) (by rw [hll];rcases hm' with rfl | rfl | rfl <;> omega)
 have er:t.relaid (es.map (·.1)) (W8 n)=some (t',ord):=by
   unfold SetTable.relaid;rw [sa];exact el
 rw [hll] at po;have po':ord.toList.Perm (D1 xs.length):=by rw [<- hn];exact po
 obtain⟨x0,hx0⟩:∃x0:List Key×Addr,True:=⟨([],0),trivial⟩;have ol:=Lr xs ord.toList x0 po';have lt2:∀k∈ord.toList,k < xs.length:=fun k hk=>M9.mp (po'.mem_iff.mp hk)
 have es2:(ord.filterMap (es[·]?)).toList=(ord.toList.map fun k=>xs.getD k x0).map (enS prog w):=by
   rw [Array.toList_filterMap,O9]
   have:∀l:List Nat,(∀k∈l,k < xs.length)->l.filterMap (fun k=>es[k]?)=l.map ((enS prog w)∘fun k=>xs.getD k x0):=by
     intro l
     induction l with
     | nil=>intro _;rfl
     | cons k l ih =>
       intro hl;have hk:=hl k B8
       have e1:es[k]?=some (enS prog w (xs.getD k x0)):=by
         rw [<- O0,hes,D5,C4 hk,M8,C4 hk];rfl
       rw [Ad,e1,F3,ih fun j hj=>hl j (B5 _ hj)]
       rfl
   exact this ord.toList lt2
 have z2:(ord.filterMap (es[·]?)).size=es.size:=by
   rw [<- F4,es2,A7,A7,po'.length_eq,i7,sz]
 unfold setRelay;refine A0 (T9 ho hd fit ?_);dsimp only;rw [if_neg (by rw [M7];omega),er]
 show wpAny (model prog w) A ((do
   let es':=ord.filterMap (es[·]?)
   if es'.size != es.size then unsupported "internal:set-table-lost-an-element"
   pure (es',t'))>>=fun(x:Array (Int×Value)×G6)=>storeSet a x.1 x.2) Q E s
 dsimp only;rw [if_neg (by rw [z2];simp)];refine A0 (A0 (A4 (A4 ?_)));have fz:(ord.filterMap (es[·]?)).size<=B0:=by rw [z2,sz,<- hn,M7];rcases hfull with⟨_,rfl⟩ | ⟨_,rfl⟩ <;> decide
 refine Du ho hd ?_ fz;have sb:=P8 s.heap a (Ar (ord.filterMap (es[·]?)) t');have pk:=po';refine h _ _ _ _ _ (ord.toList.map fun k=>xs.getD k x0) sb ⟨HJ ho hd,ex,rfl,es2,fun x hx=>?_,?_,?_,?_,by rw [l1];exact led⟩ ol.2
 · exact Lp (hk x (ol.2.mem_iff.mp hx)) ho ex sb
 · exact((ol.2.map (·.1)).nodup_iff).mpr nd
 · have e3:(ord.toList.map fun k=>xs.getD k x0).map (fun x=>(TK prog w).hash x.1)=ord.toList.map fun k=>(es.map (·.1)).toList.getD k 0:=by
     rw [O9,hsl];refine List.map_congr_left fun k hk=>?_;have hk':=lt2 k hk;show(TK prog w).hash (xs.getD k x0).1=_;rw [M8,M8,D5,C4 hk'];rfl
   rw [e3];exact T'
 · rw [A7,po'.length_eq,i7,<- hn];show 5 * n < 3 * t'.mask;omega
theorem add {r:Addr}{k:List Key}{Q:Bool->Shared->Prop}(hu:A.units < cLine)(S:SetK prog w s.heap a o es ep t xs)(hk:(TK prog w).is s.heap k r)(h63:xs.length + 1<=63)
   (h1:k∈xs.map (·.1)->Q false s) (h2:k∉xs.map (·.1)->∀h' o' es' ep' t' xs',Q2 a s.heap h'->SetK prog w h' a o' es' ep' t' xs'->xs'.Perm ((k,r)::xs)->Q true { s with heap:=h' }) :
   wpAny (model prog w) A (setAddHashed a (.ref r) ((TK prog w).hash k)) Q E s:=by
 unfold setAddHashed setAddHashedIn;refine J5 (A0 (T9 S.ho S.hd S.fits ?_));dsimp only;have nb:byScan (.ref r) es=false:=by unfold byScan Value.scannable;simp
 rw [nb];simp only [J7,↓reduceIte];obtain⟨e,he1,he2⟩:=S.tb.free;obtain⟨K,hK1,hK2⟩:=goes S.tb.mask ((TK prog w).hash k) he1
 have f0:far K 0 0<=100000:=by
   unfold far;rcases S.tb.mask with z | z | z <;> rw [z] at hK1 <;> omega
 refine A0 ?_;unfold setSearch;refine search hu S hk hK2 he2 hK1 (fun hin=>?_) (fun sl n1 n2 n3 n4=>?_) 100000 0 0 none rfl (G4 _) (fun _=>rfl) (G4 _) f0 (fun k' o' _ l=>?_)
 · exact A4 (h1 hin)
 · dsimp only;refine A0 (T9 S.ho S.hd S.fits ?_);have hr:=Qi S.tb.mask (by have:=S.few;exact this);obtain⟨p1,p2,p3,p4,T1⟩:=S.tb.put n1 n2 n3 (by rw [A7];exact hr);rw [A7] at p2;have ek:insL (xs.map fun x=>(TK prog w).hash x.1) (t.put sl).2 ((TK prog w).hash k)=(insL xs (t.put sl).2 (k,r)).map fun x=>(TK prog w).hash x.1:=(Lq (fun x:List Key×Addr=>(TK prog w).hash x.1) xs (t.put sl).2 (k,r)).symm;rw [ek] at T1
   have es1:(SetTable.insertAt es (t.put sl).2 ((TK prog w).hash k,.ref r)).toList=(insL xs (t.put sl).2 (k,r)).map (enS prog w):=by
     rw [Lj _ _ _ (by rw [S.sz];exact p2),S.hes,Lq];rfl
   have pm:=Qj xs (t.put sl).2 (k,r);have mk1:(t.put sl).1.mask=t.mask:=rfl
   have nd1:((insL xs (t.put sl).2 (k,r)).map (·.1)).Nodup:=by
     refine((pm.map (·.1)).nodup_iff).mpr ?_;rw [F3,O8];exact⟨n4,S.nd⟩
   have hk1:∀x∈insL xs (t.put sl).2 (k,r),(TK prog w).is s.heap x.1 x.2:=fun x hx=>by
     rcases B7.mp (pm.mem_iff.mp hx) with rfl | hx
     · exact hk
     · exact S.hk x hx
   have len1:(insL xs (t.put sl).2 (k,r)).length=xs.length + 1:=CW _ _ _
   have fill1:∀b,({ (t.put sl).1 with plain:=b }:G6).fill=xs.length + 1:=fun b=>by
     show(t.put sl).1.place.size + (t.put sl).1.dummies.size=_;rw [T1.dum,<- F4,T1.size,A7,len1];rfl
   dsimp only;generalize (t.put sl).2=p at *;generalize ht1:(t.put sl).1=t1 at *;generalize hes1:SetTable.insertAt es p ((TK prog w).hash k,.ref r)=esN at *;generalize hxs1:insL xs p (k,r)=xs1 at *
   -- what follows, whatever is said of the hash
   have tail:∀b:Bool,wpAny (model prog w) A (do
       storeSet a esN { t1 with plain:=b }
       if(!false && ({ t1 with plain:=b }:G6).tooFull)=true then do
         setRelay a (W8 (es.size + 1))
         pure true
       else pure true) Q E s:=fun b=>by
     have ez:esN.size<=B0:=by rw [<- F4,es1,A7,len1,M7];omega
     refine A0 (Du S.ho S.hd ?_ ez);have sb:=P8 s.heap a (Ar esN { t1 with plain:=b });have hk2:∀x∈xs1,(TK prog w).is (s.heap.update a (Ar esN { t1 with plain:=b })) x.1 x.2:=fun x hx=>Lp (hk1 x hx) S.ho S.ex sb;have ob:=HJ (es':=esN) (t':={ t1 with plain:=b }) S.ho S.hd;have T2:=TOk.pl T1 b
     by_cases c:({ t1 with plain:=b }:G6).tooFull=true
     · rw [if_pos (by rw [c];rfl)]
       have c':(xs.length + 1) * 5>=t.mask * 3:=by
         unfold SetTable.tooFull at c;rw [fill1 b] at c;have:=of_decide_eq_true c;rw [<- mk1];exact this
       have few:=S.few;refine A0 (relay (n:=es.size + 1) ob S.ex rfl es1 hk2 nd1 T2 (by show t1.led=_;rw [p4];exact S.led) (by rw [S.sz,len1]) ?_ fun h' o' es' ep' t' xs' sb' S' p'=>?_)
       · show(t1.mask=7/\_)\/(t1.mask=31/\_);rw [mk1,S.sz];rcases S.tb.mask with z | z | z
         · exact .inl ⟨z,by omega⟩
         · exact .inr ⟨z,by omega⟩
         · omega
       · exact A4 (h2 n4 _ _ _ _ _ _ (sb.trans sb') S' (p'.trans pm))
     · rw [if_neg (by simpa using c)];refine A4 (h2 n4 _ _ _ _ _ xs1 sb ⟨ob,S.ex,rfl,es1,hk2,nd1,T2,?_,by show t1.led=_;rw [p4];exact S.led⟩ pm)
       have:¬((xs.length + 1) * 5>=t.mask * 3):=fun z=>c (by
         unfold SetTable.tooFull;rw [fill1 b]
         exact decide_eq_true (by show(xs.length + 1) * 5>=t1.mask * 3;rw [mk1];exact z))
       show 5 * xs1.length < 3 * t1.mask;rw [len1,mk1];omega
   split
   · refine A0 (hbv hk fun b=>?_);cases b with
     | true =>
       simp only [↓reduceIte];exact tail t1.plain
     | false =>
       simp only [J7,↓reduceIte];exact tail false
   · refine A0 (A4 ?_);simp only [↓reduceIte];exact tail t1.plain
 · rcases l with l | ⟨_,l⟩
   · exact absurd l (u3 _)
   · exact absurd l (u3 _)
end
end SeT
end
section
namespace SeT
open PySem PySem.Spec PyProof.Rows L2
def Holds (prog:B2)(w:World)(h:Heap)(S:Addr)(rs:List (List Key×Addr)):Prop:=
 ∃o es ep t xs,SetK prog w h S o es ep t xs/\(∀x∈xs,x∈rs)/\∀x∈rs,x.1∈xs.map (·.1)
theorem Fm {prog:B2}{w:World}{h h':Heap}{k:List Key}{r:Addr}(hk:(TK prog w).is h k r)(kp:∀o,h.get? r=some o->h'.get? r=some o):(TK prog w).is h' k r:=by
 obtain⟨ob,items,n,e,c,d,its⟩:=hk;exact⟨ob,items,n,kp _ e,c,d,its⟩
theorem SetK.at' {prog:B2}{w:World}{h h':Heap}{a:Addr}{o:Obj}{es:Array (Int×Value)}{ep:Nat}{t:G6}{xs:List (List Key×Addr)}(S:SetK prog w h a o es ep t xs)(k0:h'.get? a=some o)(kp:∀x∈xs,∀o,h.get? x.2=some o->h'.get? x.2=some o):SetK prog w h' a o es ep t xs:=
 ⟨k0,S.ex,S.hd,S.hes,(fun x hx=>Fm (S.hk x hx) (kp x hx)),S.nd,S.tb,S.few,S.led⟩
theorem Holds.at' {prog:B2}{w:World}{h h':Heap}{a:Addr}{rs:List (List Key×Addr)}(S:Holds prog w h a rs)(k0:∀o,h.get? a=some o->h'.get? a=some o)(kp:∀x∈rs,∀o,h.get? x.2=some o->h'.get? x.2=some o):Holds prog w h' a rs:=by
 obtain⟨o,es,ep,t,xs,S1,S2,S3⟩:=S;exact⟨o,es,ep,t,xs,S1.at' (k0 o S1.ho) fun x hx=>kp x (S2 x hx),S2,S3⟩
theorem Holds.len {prog:B2}{w:World}{h:Heap}{a:Addr}{o:Obj}{es:Array (Int×Value)}{ep:Nat}{t:G6}{xs rs:List (List Key×Addr)}(S:SetK prog w h a o es ep t xs)(hs:∀x∈xs,x∈rs):xs.length<=rs.length:=by
 have n1:xs.Nodup:=(R4.mp S.nd).imp fun h e=>h (by rw [e]);exact n1.length_le_of_subset hs
section
variable {prog:B2}{w:World}{A:Around}{R:Result->Shared->Prop}{I:Addr}{fp wr:List Addr}{G:Array GenState->Array GenState->Prop}{n:Nat}{P:Nat->Value->Prop}{St:Nat->Shared->Prop}
theorem Qk {h h':Heap}{S:Addr}{rs:List (List Key×Addr)}{i:Nat}{y:List Key×Addr}(hy:rs[i]?=some y){o:Obj}{es:Array (Int×Value)}{ep:Nat}{t:G6}{xs:List (List Key×Addr)}(S1:SetK prog w h S o es ep t xs)(S2:∀x∈xs,x∈rs.take i)(S3:∀x∈rs.take i,x.1∈xs.map (·.1))(hin:y.1∈xs.map (·.1)):Holds prog w h S (rs.take (i + 1)):=by
 have e:rs.take (i + 1)=rs.take i++[y]:=by rw [Ca,hy];rfl
 rw [e];exact⟨o,es,ep,t,xs,S1,fun x hx=>Z9 _ (S2 x hx),fun x hx=>(K6.mp hx).elim (S3 x) fun z=>by rw [F2.mp z];exact hin⟩
theorem Ql (Wk:WalksS prog w A.in1 I fp wr G n P St)(S:Addr)(nf:S∉fp)(rs:List (List Key×Addr))(hn:rs.length=n)(hv:∀i v,P i v->∃y,rs[i]?=some y/\v=.ref y.2)(ap:∀y∈rs,y.2∉wr/\y.2≠S)(hu:A.in1.units < cLine)(room:n<=63) :
   ∀ (k i : Nat) (s : Shared), n - i = k -> i <= n -> St i s -> (∀ y ∈ rs, (TK prog w).is s.heap y.1 y.2) -> Holds prog w s.heap S (rs.take i) ->
     (∀s',Moved (S::wr) G s s'->Holds prog w s'.heap S rs->R (.ok (.ret .none)) s')->
     K3 (model prog w) A (.builtin "set.update.loop" ⟨[.ref S,.ref I],[]⟩) R s:=by
 have nw:S∉wr:=fun h=>nf (Wk.sub _ h);have sub:∀b∈wr,b∈S::wr:=fun b hb=>B5 _ hb;intro k
 induction k with
 | zero =>
   intro i s hk hi st its so fin;have ei:i=n:=by omega
   subst ei;refine X4 DY ?_;rw [c6 u8 _];refine A0 (m:=pyNext (.ref I)) (Wk.done s _ _ st fun s' mv=>?_);refine A4 (fin s' (mv.mono sub) ?_);rw [X8 (by omega)] at so;exact so.at' (fun o e=>mv.heap S _ nw e) fun x hx o e=>mv.heap _ _ (ap x hx).1 e
 | succ k ih =>
   intro i s hk hi st its so fin;have lt:i < n:=by omega
   refine X4 DY ?_;rw [c6 u8 _];refine A0 (m:=pyNext (.ref I)) (Wk.item i s _ _ lt st fun v s' pv' st' mv=>?_);obtain⟨y,hy,rfl⟩:=hv i v pv';have my:y∈rs:=G8 hy;have its':∀y∈rs,(TK prog w).is s'.heap y.1 y.2:=fun y hy=>Fm (its y hy) fun o e=>mv.heap _ _ (ap y hy).1 e;have so':Holds prog w s'.heap S (rs.take i):=so.at' (fun o e=>mv.heap S _ nw e) fun x hx o e=>mv.heap _ _ (ap x (Ac hx)).1 e;refine A0 (m:=R1 [.ref y.2] (setAdd S (.ref y.2))) (J5 ?_);unfold setAdd;refine J5 (A0 ((TK prog w).pyHash hu (its' y my) ?_));obtain⟨o,es,ep,t,xs,S1,S2,S3⟩:=so'
   have l63:xs.length + 1<=63:=by
     have:=Holds.len S1 S2;rw [L0] at this;omega
   have next:∀h',Q2 S s'.heap h'->Holds prog w h' S (rs.take (i + 1))->K3 (model prog w) A (.builtin "set.update.loop" ⟨[.ref S,.ref I],[]⟩) R { s' with heap:=h',toks:=s'.toks + (TK prog w).draws y.1 }:=fun h' sb so3=>by
     refine ih (i + 1) _ (by omega) lt (Wk.frame _ s' _ _ st' (Nat.le_add_right _ _) fun b hb o e=>?_) (fun z hz=>Fm (its' z hz) fun o e=>?_) so3 fun s2 mv2 so4=>?_
     · rw [sb.2 b (fun z:b=S=>nf (by rw [<- z];exact hb))];exact e
     · rw [sb.2 z.2 (ap z hz).2];exact e
     · refine fin s2 (Moved.trans Wk.gtrans ((mv.mono sub).then_heap (Nat.le_add_right _ _) fun b o hb e=>?_) mv2) so4;rw [sb.2 b (fun z:b=S=>hb (by rw [z];exact B8))];exact e
   refine add (s:={ s' with toks:=s'.toks + (TK prog w).draws y.1 }) hu S1 (its' y my) l63 (fun hin=>?_) fun hin h' o' es' ep' t' xs' sb S1' pm=>?_
   · exact A4 ⟨Z5 u8 _,next s'.heap (Ge _ _) (Qk (h':=s'.heap) hy S1 S2 S3 hin)⟩
   · refine A4 ⟨Z5 u8 _,next h' sb ⟨o',es',ep',t',xs',S1',fun x hx=>?_,fun x hx=>?_⟩⟩
     · rw [Ca,hy];rcases B7.mp (pm.mem_iff.mp hx) with rfl | z
       · exact P6 _ (F2.mpr rfl)
       · exact Z9 _ (S2 x z)
     · rw [Ca,hy] at hx;rw [(pm.map (·.1)).mem_iff,F3];rcases K6.mp hx with z | z
       · exact B5 _ (S3 x z)
       · have:x=y:=by simpa using z
         rw [this];exact B8
end
end SeT
end
section
namespace SeT
open PySem PySem.Spec PyProof.Rows L2
section
variable {prog:B2}{w:World}{A:Around}{E:Value->Shared->Prop}{s:Shared}
theorem Qm (h:Heap)(S:Addr)(led:Bool)(hl:led=!(w.params.followText "set-order"))(e:h.get? S=some { cls:=.type "set",dict:=none,data:=.set #[] 0 (.fresh 0 0 led) }):Holds prog w h S []:=by
 refine⟨_,#[],0,.fresh 0 0 led,[],⟨e,⟨rfl,rfl,rfl⟩,rfl,rfl,(fun _ z=>nomatch z),by simp,⟨rfl,rfl,.inl rfl,by unfold Rise;exact Go,(fun _ z=>nomatch z),(show 0 < 7 by decide),fun i s h e=>?_⟩,(show 5 * 0 < 3 * 7 by decide),hl⟩,(fun _ z=>nomatch z),fun _ z=>nomatch z⟩;have:([]:List Nat)[i]?=some s:=e;simp at this
theorem Ls {a:Addr}{its:Array Value}{rs:List (List Key×Addr)}{Q:Value->Shared->Prop}(hd:A.handled=none)(hu:A.units + 64 < cLine)(ht:s.heap.IsList a its\/s.heap.IsTuple a its)(hv:its.toList=rs.map fun y=>K0 y.2)(hk:∀y∈rs,(TK prog w).is s.heap y.1 y.2)(room:rs.length<=63)
   (fin:∀(h':Heap) (tk:Nat),Holds prog w h' s.heap.objs.size rs->
     (∀b o,b < s.heap.objs.size->s.heap.get? b=some o->h'.get? b=some o)->Q (.ref s.heap.objs.size) { s with heap:=h',toks:=tk }):wpAny (model prog w) A (call (.type "set") [.ref a]) Q E s:=by
 have sz:rs.length=its.size:=by rw [<- F4,hv,A7]
 have lo:∀y∈rs,y.2 < s.heap.objs.size:=fun y hy=>by
   obtain⟨ob,items,n,e,_⟩:=hk y hy;exact B9 e
 refine Kj hd ht (fun I St fp G s1 R led hl lI Wk nf h0 g1 kp k=>?_) fin;refine Ql Wk _ nf rs sz (fun i v e=>?_) (fun y hy=>⟨fun z=>?_,D0 (lo y hy)⟩) (by simp only [Around.in1_units];omega) (by omega) (its.size - 0) 0 s1 rfl (G4 _) h0 (fun y hy=>Fm (hk y hy) fun o e=>kp _ _ e) (Qm _ _ led hl g1) k
 · rw [<- O0,hv,D5] at e;cases er:rs[i]? with
   | none=>rw [er] at e;cases e
   | some y=>rw [er] at e;cases e;exact⟨y,rfl,rfl⟩
 · exact absurd (j7 (lo y hy) lI) (by rw [F2.mp z];exact R5 _)
end
end SeT
end
section
namespace SeT
open PySem PySem.Spec PyProof.Rows L2
theorem Z1:Slot "set_iterator" "__next__" "set_iterator.__next__":=.of (owner:="set_iterator") (n:="__next__")
 (by rw [typeLookup_type,builtinLookup_eq_fast];kernel_rfl)
 (by decide +kernel)
 (by decide +kernel)
 (by decide +kernel)
 (by first | exact .inl (by decide +kernel) | exact .inr (by decide +kernel))
 (by rw [p5];kernel_rfl)
theorem Lu:Slot "set_iterator" "__iter__" "set_iterator.__iter__":=.of (owner:="set_iterator") (n:="__iter__")
 (by rw [typeLookup_type,builtinLookup_eq_fast];kernel_rfl)
 (by decide +kernel)
 (by decide +kernel)
 (by decide +kernel)
 (by first | exact .inl (by decide +kernel) | exact .inr (by decide +kernel))
 (by rw [p5];kernel_rfl)
theorem Fn:entryFor table "set_iterator.__next__"=some M1.«set_iterator.__next__»:=entryFor_of_tree (by kernel_rfl)
theorem Qn:entryFor table "set_iterator.__iter__"=some M1.«dict_keyiterator.__iter__»:=
 entryFor_alias (id':="dict_keyiterator.__iter__") (by kernel_rfl) rfl (by decide +kernel) (by kernel_rfl)
theorem Qo:entryFor table "set.__iter__"=some M1.«frozenset.__iter__»:=
 entryFor_alias (id':="frozenset.__iter__") (by kernel_rfl) rfl (by decide +kernel) (by kernel_rfl)
theorem ow_it:Manifest.owners.lookup (String.ofList (['r','o','t','a','r','e','t','i','_','t','e','s']).reverse)=some Manifest.sig_set_iterator:=by kernel_rfl
theorem Fo (x:Value):argsOk "set_iterator.__next__" ⟨[x],[]⟩:=by
 unfold argsOk;rw [signature?_of (id:="set_iterator.__next__") (n:=['_','_','t','x','e','n','_','_']) (o:=['r','o','t','a','r','e','t','i','_','t','e','s']) (by kernel_rfl) ow_it];kernel_rfl
theorem Qp (x:Value):argsOk "set_iterator.__iter__" ⟨[x],[]⟩:=by
 unfold argsOk;rw [signature?_of (id:="set_iterator.__iter__") (n:=['_','_','r','e','t','i','_','_']) (o:=['r','o','t','a','r','e','t','i','_','t','e','s']) (by kernel_rfl) ow_it];kernel_rfl
theorem HK {α:Type}:∀(l:List α) (i:Nat) (x:α),l[i]?=some x->(x::l.eraseIdx i).Perm l
 | [],i,x,e=>by simp at e
 | y :: l, 0, x, e => by
   have:y=x:=by simpa using e
   rw [this];exact .refl _
 | y :: l, i + 1, x, e => by
   have h:=HK l i x (by simpa using e);show(x::y::l.eraseIdx i).Perm (y::l);exact(List.Perm.swap y x _).trans (h.cons y)
theorem Qq {α:Type}(next:Nat->Nat):∀(fuel k:Nat) (left:List α) (out:Array α),fuel=left.length->(pickOrder.go next fuel k left out).toList.Perm (out.toList++left):=by
 intro xq
 induction xq with
 | zero =>
   intro k left out h;have:left=[]:=DE h.symm;subst this;unfold pickOrder.go;rw [W6]
 | succ fuel ih =>
   intro k left out h;have lt:next k % left.length < left.length:=Nat.mod_lt _ (by omega)
   have e:left[next k % left.length]?=some left[next k % left.length]:=C4 lt;unfold pickOrder.go;rw [e];dsimp only;have le:(left.eraseIdx (next k % left.length)).length=fuel:=by rw [List.length_eraseIdx_of_lt lt];omega
   refine(ih (k + 1) _ _ le.symm).trans ?_;rw [Array.toList_push,W5];exact List.Perm.append_left _ (HK _ _ _ e)
theorem Qr {α:Type}(next:Nat->Nat)(xs:Array α):(pickOrder next xs).toList.Perm xs.toList:=by
 have:=Qq next xs.size 0 xs.toList #[] (by simp)
 exact this
section
variable {prog:B2}{w:World}{A:Around}{E:Value->Shared->Prop}{s:Shared}
theorem chosen {src:Source}{n:Nat}{Q:Nat->Shared->Prop}(hn:0 < n)(h:∀i d,i < n->Q i { s with drawn:=d }):wpAny (model prog w) A (choose src n) Q E s:=by
 intro Γ p _;unfold choose;rw [Sem.wp];refine⟨by omega,?_⟩;rw [Sem.wp];exact h _ _ (Nat.mod_lt _ hn)
theorem Lv {α:Type}:∀(n:Nat) (xs:List α) (s:Shared) (Q:List α->Shared->Prop),n=xs.length->(∀ys d,ys.Perm xs->Q ys { s with drawn:=d })->wpAny (model prog w) A (drawOrder n xs) Q E s
 | 0, xs, s, Q, hn, h => by
   have:xs=[]:=DE hn.symm;subst this;exact A4 (h [] s.drawn (.refl _))
 | n + 1,[],s,Q,hn,h=>by simp at hn
 | n + 1, x :: xs, s, Q, hn, h => by
   unfold drawOrder;refine A0 (chosen (by simp) fun i d hi=>?_);have e:(x::xs)[i]?=some (x::xs)[i]:=C4 hi;rw [e];dsimp only;have le:((x::xs).eraseIdx i).length=n:=by rw [List.length_eraseIdx_of_lt hi];omega
   refine A0 (Lv n _ _ _ le.symm fun ys d2 hp=>A4 ?_);exact h _ d2 ((hp.cons _).trans (HK _ _ _ e))
def P2 (h:Heap)(I a:Addr)(fst:Value)(i n ep:Nat):Prop:=∃o,h.get? I=some o/\o.cls=.type "set_iterator"/\o.data=.fields #[fst,.int i 0,.ref a,.int n 0,.int ep 0]
theorem P2.ty {I a:Addr}{fst:Value}{i n ep:Nat}(x:P2 s.heap I a fst i n ep):s.TypeIs (.ref I) "set_iterator":=by
 obtain⟨o,ho,hc,_⟩:=x;exact⟨o,ho,hc⟩
theorem P2.at' {h h':Heap}{I a:Addr}{fst:Value}{i n ep:Nat}(x:P2 h I a fst i n ep)(e:∀o,h.get? I=some o->h'.get? I=some o):P2 h' I a fst i n ep:=by
 obtain⟨o,ho,r⟩:=x;exact⟨o,e _ ho,r⟩
theorem P2.put {h:Heap}{I a:Addr}{fst:Value}{i n ep:Nat}(x:P2 h I a fst i n ep)(k:Nat)(v:Value):∃o,(h.update I (Bh (·.setIfInBounds k v))).get? I=some o/\o.cls=.type "set_iterator"/\o.data=.fields (#[fst,.int i 0,.ref a,.int n 0,.int ep 0].setIfInBounds k v):=by
 obtain⟨o,ho,hc,hd⟩:=x;exact⟨_,Ab _ ho (Gi (Bg hd _)),(Obj.cls_mapFields ..).trans hc,Bg hd _⟩
theorem Lw {I a:Addr}{fst:Value}{i n ep:Nat}{Q:Value->Shared->Prop}(x:P2 s.heap I a fst i n ep)(h:Q (.ref I) s):wpAny (model prog w) A (pyIter (.ref I)) Q E s:=by
 refine wpAny_pyIter_slot x.ty Lu (M6 Lu x.ty Qn (show wpAny (model prog w) _ (ret (.ref I)) _ _ s from ?_) (Qp _));exact A4 ⟨_,rfl,"set_iterator",_,x.ty,Z1.lookup,h⟩
theorem Ly {h1:Heap}{Q0:PySem.Fin->Shared->Prop}{Q:Option Value->Shared->Prop}(hh:A.handled=none)(h:∀h',(∀b o,h1.get? b=some o->h'.get? b=some o)->Q none { s with heap:=h' }) :
   wpAny (model prog w) A.in1 ((newExc (.type "StopIteration") []>>=fun x=>raiseNew x:Sem PySem.Fin)) Q0 (fun e s'=>wpAny (model prog w) A (do if ← isInstance e (.type "StopIteration") then pure none else throw e) Q E s') { s with heap:=h1 }:=by
 refine A0 ?_;simp only [newExc,newTuple];refine A0 (J8 ?_ (by size_fits));refine A0 (m:=AO _ _) (O7 (a:=N4) (by first | rfl | (simp only [AO];rfl)) ?_);refine J8 ?_ (by size_fits);simp only [raiseNew];refine A0 (wpAny_handled ?_);rw [show A.in1.handled=none from hh];refine A0 (A4 (wpAny_throw ?_));refine A0 (Dw (T:="StopIteration") (b:=true) ⟨_,E1 _ rfl,rfl⟩ isSubtype_stop ?_);exact A4 (h _ fun b o e=>B6 _ (B6 _ e))
end
end SeT
end
section
namespace SeT
open PySem PySem.Spec PyProof.Rows L2
section
variable {prog:B2}{w:World}{A:Around}{E:Value->Shared->Prop}{s:Shared}{I a:Addr}{n i ep:Nat}{o:Obj}{es:Array (Int×Value)}{t:G6}
theorem Qs {slot nx:Nat}{x:Value}{Q:Option Value->Shared->Prop}(hit:P2 s.heap I a (.int slot 0) i n ep)(ho:s.heap.get? a=some o)(hd:o.data=.set es ep t)(hf:t.fits es.size=true)(hn:es.size=n)
   (hs:∀(A:Around) (E:Value->Shared->Prop) (Q':Option (Value×Nat)->Shared->Prop),Q' (some (x,nx)) s->wpAny (model prog w) A (setNext a slot i ep) Q' E s)
   (hQ:∀h',P2 h' I a (.int nx 0) (i + 1) n ep->Q2 I s.heap h'->Q (some x) { s with heap:=h' }):wpAny (model prog w) A (pyNext (.ref I)) Q E s:=by
 obtain⟨oi,hoi,hci,hdi⟩:=id hit;unfold pyNext;refine A0 (p6 (T8 (name:=A6 "__next__") hit.ty Z1 (M6 Z1 hit.ty Fn ?_ (Fo _))));unfold M1.«set_iterator.__next__»;refine A0 (A4 ?_);refine A0 (AQ hoi hdi ?_);dsimp only;refine A0 (BR ho hd hf ?_);rw [if_neg (by rw [hn];simp)];refine A0 (hs _ _ _ ?_);dsimp only;refine A0 (Z3 hoi hdi (by simp) ?_);obtain⟨o1,e1,c1,d1⟩:=hit.put 0 (rawInt nx);have h1:P2 (s.heap.update I (Bh (·.setIfInBounds 0 (rawInt nx)))) I a (.int nx 0) i n ep:=⟨o1,e1,c1,by rw [d1];simp [rawInt]⟩;refine A0 (Z3 (s:={ s with heap:=s.heap.update I (Bh (·.setIfInBounds 0 (rawInt nx))) }) e1 d1 (by simp) ?_);obtain⟨o2,e2,c2,d2⟩:=h1.put 1 (rawInt (i + 1));refine A4 ⟨_,rfl,A4 (hQ _ ⟨o2,e2,c2,by rw [d2];simp [rawInt]⟩ ?_)⟩;exact(P8 s.heap I _).trans (P8 _ I _)
theorem Qt {slot:Nat}{Q:Option Value->Shared->Prop}(hh:A.handled=none)(hit:P2 s.heap I a (.int slot 0) i n ep)(ho:s.heap.get? a=some o)(hd:o.data=.set es ep t)(hf:t.fits es.size=true)(hn:es.size=n)
   (hs:∀(A:Around) (E:Value->Shared->Prop) (Q':Option (Value×Nat)->Shared->Prop),Q' none s->wpAny (model prog w) A (setNext a slot i ep) Q' E s)
   (hQ:∀h',(∀b o,b≠I->s.heap.get? b=some o->h'.get? b=some o)->Q none { s with heap:=h' }):wpAny (model prog w) A (pyNext (.ref I)) Q E s:=by
 obtain⟨oi,hoi,hci,hdi⟩:=id hit;unfold pyNext;refine A0 (p6 (T8 (name:=A6 "__next__") hit.ty Z1 (M6 Z1 hit.ty Fn ?_ (Fo _))));unfold M1.«set_iterator.__next__»;refine A0 (A4 ?_);refine A0 (AQ hoi hdi ?_);dsimp only;refine A0 (BR ho hd hf ?_);rw [if_neg (by rw [hn];simp)];refine A0 (hs _ _ _ ?_);dsimp only;refine A0 (Z3 hoi hdi (by simp) ?_);exact Ly hh fun h' k=>hQ h' fun b o hb e=>k b o (((P8 s.heap I _).2 b hb).trans e)
end
end SeT
end
section
namespace SeT
open PySem PySem.Spec PyProof.Rows L2
section
variable {prog:B2}{w:World}{A:Around}{E:Value->Shared->Prop}{s:Shared}{I a tp:Addr}{n i ep:Nat}{o:Obj}{es:Array (Int×Value)}{t:G6}{ps:Array Value}
theorem Qu {p:Nat}{hx:Int}{x:Value}{Q:Option Value->Shared->Prop}(hit:P2 s.heap I a (.ref tp) i n ep)(ht:s.heap.IsTuple tp ps)(ho:s.heap.get? a=some o)(hd:o.data=.set es ep t)(hf:t.fits es.size=true)(hn:es.size=n)
   (hp:ps[i]?=some (.int p 0)) (he:es[p]?=some (hx,x))
   (hQ:∀h',P2 h' I a (.ref tp) (i + 1) n ep->Q2 I s.heap h'->Q (some x) { s with heap:=h' }):wpAny (model prog w) A (pyNext (.ref I)) Q E s:=by
 obtain⟨oi,hoi,hci,hdi⟩:=id hit;obtain⟨ot,hot,hct,nt,hdt⟩:=ht;unfold pyNext;refine A0 (p6 (T8 (name:=A6 "__next__") hit.ty Z1 (M6 Z1 hit.ty Fn ?_ (Fo _))));unfold M1.«set_iterator.__next__»;refine A0 (A4 ?_);refine A0 (AQ hoi hdi ?_);dsimp only;refine A0 (BR ho hd hf ?_);rw [if_neg (by rw [hn];simp)];refine A0 (V7 hot hdt ?_);dsimp only;rw [show((i:Int).toNat)=i from rfl,hp];dsimp only;refine A0 (m:=setNextDrawn a _ _) (A0 (T9 ho hd hf ?_));dsimp only;rw [if_neg (by simp)];rw [show((p:Int).toNat)=p from rfl,he];dsimp only;refine A4 ?_;refine A0 (Z3 hoi hdi (by simp) ?_);obtain⟨o2,e2,c2,d2⟩:=hit.put 1 (rawInt (i + 1));refine A4 ⟨_,rfl,A4 (hQ _ ⟨o2,e2,c2,by rw [d2];simp [rawInt]⟩ ?_)⟩;exact P8 s.heap I _
theorem Qv {Q:Option Value->Shared->Prop}(hh:A.handled=none)(hit:P2 s.heap I a (.ref tp) i n ep)(ht:s.heap.IsTuple tp ps)(ho:s.heap.get? a=some o)(hd:o.data=.set es ep t)(hf:t.fits es.size=true)(hn:es.size=n)
   (hp:ps[i]?=none)
   (hQ:∀h',(∀b o,b≠I->s.heap.get? b=some o->h'.get? b=some o)->Q none { s with heap:=h' }):wpAny (model prog w) A (pyNext (.ref I)) Q E s:=by
 obtain⟨oi,hoi,hci,hdi⟩:=id hit;obtain⟨ot,hot,hct,nt,hdt⟩:=ht;unfold pyNext;refine A0 (p6 (T8 (name:=A6 "__next__") hit.ty Z1 (M6 Z1 hit.ty Fn ?_ (Fo _))));unfold M1.«set_iterator.__next__»;refine A0 (A4 ?_);refine A0 (AQ hoi hdi ?_);dsimp only;refine A0 (BR ho hd hf ?_);rw [if_neg (by rw [hn];simp)];refine A0 (V7 hot hdt ?_);dsimp only;rw [show((i:Int).toNat)=i from rfl,hp];dsimp only;refine A0 (Z3 hoi hdi (by simp) ?_);obtain⟨o2,e2,c2,d2⟩:=hit.put 0 (rawInt 0);refine A0 (Z3 (s:={ s with heap:=s.heap.update I (Bh (·.setIfInBounds 0 (rawInt 0))) }) e2 d2 (by simp) ?_);exact Ly hh fun h' k=>hQ h' fun b o hb e=>k b o (((P8 _ I _).2 b hb).trans (((P8 s.heap I _).2 b hb).trans e))
theorem Qw (hh:A.handled=none){ys:List Value}{sl:Nat->Nat}(hn:es.size=ys.length)(ne:a≠I)(hd:o.data=.set es ep t)(hf:t.fits es.size=true)
   (hs:∀(i:Nat) (s:Shared) (A:Around) (E:Value->Shared->Prop) (Q':Option (Value×Nat)->Shared->Prop),s.heap.get? a=some o->i<=ys.length->Q' (ys[i]?.map fun x=>(x,sl (i + 1))) s->wpAny (model prog w) A (setNext a (sl i) i ep) Q' E s) :
   Walks prog w A I [I,a] [I] ys.length (fun i v=>ys[i]?=some v) (fun i h=>P2 h I a (.int (sl i) 0) i ys.length ep/\h.get? a=some o) where
 sub:=fun b hb=>by rw [F2.mp hb];exact B8
 frame:=fun _ _ _ st hk=>⟨st.1.at' fun o e=>hk I B8 o e,hk a (B5 _ (F2.mpr rfl)) o st.2⟩
 item:=fun i s Q E hi st hQ=>by
   have e:ys[i]?=some ys[i]:=C4 hi;refine Qs st.1 st.2 hd hf hn (x:=ys[i]) (nx:=sl (i + 1)) (fun A E Q' q=>hs i s A E Q' st.2 (b8 hi) (by rw [e];exact q)) fun h' hit' sb=>?_;exact hQ _ h' s.toks e ⟨hit',(sb.2 a ne).trans st.2⟩ fun b o hb e=>(sb.2 b (fun z=>hb (F2.mpr z))).trans e
 done:=fun s Q E st hQ=>Qt hh st.1 st.2 hd hf hn (fun A E Q' q=>hs _ s A E Q' st.2 (A9 _) (by rw [N1 (A9 _)];exact q)) fun h' k=>hQ h' s.toks fun b o hb e=>k b o (fun z=>hb (F2.mpr z)) e
 self:=fun _ _ _ _ st hQ=>Lw st.1 hQ
theorem Qx (hh:A.handled=none){pl:List Nat}(hn:es.size=pl.length)(ne:a≠I)(nt:tp≠I)(hd:o.data=.set es ep t)(hf:t.fits es.size=true)(hps:ps=(pl.map fun(i:Nat)=>rawInt i).toArray)(hpl:∀p∈pl,p < es.size) :
   Walks prog w A I [I,a,tp] [I] pl.length (fun i v=>∃p x,pl[i]?=some p/\es[p]?=some x/\v=x.2) (fun i h=>P2 h I a (.ref tp) i pl.length ep/\h.get? a=some o/\h.IsTuple tp ps) where
 sub:=fun b hb=>by rw [F2.mp hb];exact B8
 frame:=fun _ _ _ st hk=>⟨st.1.at' fun o e=>hk I B8 o e,hk a (by simp) o st.2.1,st.2.2.at fun o e=>hk tp (by simp) o e⟩
 item:=fun i s Q E hi st hQ=>by
   have e:pl[i]?=some pl[i]:=C4 hi;have lt:=hpl _ (G8 e);have ep':ps[i]?=some (.int (pl[i]:Nat) 0):=by rw [hps,List.getElem?_toArray,D5,e];rfl
   have ex:es[pl[i]]?=some es[pl[i]]:=b9 lt;refine Qu st.1 st.2.2 st.2.1 hd hf hn ep' (hx:=es[pl[i]].1) (x:=es[pl[i]].2) ex fun h' hit' sb=>?_;exact hQ _ h' s.toks ⟨_,_,e,ex,rfl⟩ ⟨hit',(sb.2 a ne).trans st.2.1,st.2.2.at fun o e=>(sb.2 tp nt).trans e⟩ fun b o hb e=>(sb.2 b (fun z=>hb (F2.mpr z))).trans e
 done:=fun s Q E st hQ=>Qv hh st.1 st.2.2 st.2.1 hd hf hn (by rw [hps,List.getElem?_toArray,D5,N1 (A9 _)];rfl) fun h' k=>hQ h' s.toks fun b o hb e=>k b o (fun z=>hb (F2.mpr z)) e
 self:=fun _ _ _ _ st hQ=>Lw st.1 hQ
end
end SeT
end
section
namespace SeT
open PySem PySem.Spec PyProof.Rows L2
def x6 (pl:Array Nat):Nat->Nat
 | 0=>0
 | i + 1=>pl.getD i 0 + 1
theorem Qy {pl:Array Nat}(hr:Rise pl.toList):∀{i:Nat},i<=pl.size->SetTable.below pl (x6 pl i)=i:=by
 intro xq
 induction xq with
 | zero =>
   intro _;obtain⟨h1,h2,h3⟩:=Db pl (x6 pl 0) hr;refine Nat.eq_zero_of_not_pos fun c=>?_;have lt:0 < pl.size:=by omega
   have:=h2 0 pl[0] c (b9 lt);exact u3 _ this
 | succ i ih =>
   intro hi;have lt:i < pl.size:=hi;have e:x6 pl (i + 1)=pl[i] + 1:=by show pl.getD i 0 + 1=_;rw [Aj,b9 lt];rfl
   obtain⟨h1,h2,h3⟩:=Db pl (x6 pl (i + 1)) hr;rw [e] at h1 h2 h3 ⊢
   have a1:¬SetTable.below pl (pl[i] + 1)<=i:=fun c=>by
     have:=h3 i pl[i] c (b9 lt);omega
   have a2:¬i + 1 < SetTable.below pl (pl[i] + 1):=fun c=>by
     have l2:i + 1 < pl.size:=by omega
     have:=h2 (i + 1) pl[i + 1] c (b9 l2);have l2':i + 1 < pl.toList.length:=by simpa using l2
     have:=X7.mp hr i (i + 1) (by omega) l2' (by omega);simp only [Array.getElem_toList] at this;omega
   omega
theorem Fp {α β:Type}{f:α->β}:∀{ys:List β} {xs:List α},ys.Perm (xs.map f)->∃zs:List α,zs.Perm xs/\ys=zs.map f:=by
 intro ys xs h;generalize e:xs.map f=l at h
 induction h generalizing xs with
 | nil =>
   have:xs=[]:=by simpa using e
   subst this;exact⟨[],.refl _,rfl⟩
 | @cons b l1 l2 h1 ih =>
   match xs,e with
   | x :: xs, e =>
     rw [F3] at e;injection e with ea eb;obtain⟨zs,z1,z2⟩:=ih eb;exact⟨x::zs,z1.cons x,by rw [z2,F3,ea]⟩
 | swap a b l =>
   match xs,e with
   | x :: y :: xs, e =>
     rw [F3,F3] at e;injection e with ea eb;injection eb with ec ed;exact⟨y::x::xs,List.Perm.swap x y xs,by rw [F3,F3,ea,ec,ed]⟩
 | trans h1 h2 ih1 ih2 =>
   obtain⟨zs,z1,z2⟩:=ih2 e;obtain⟨us,u1,u2⟩:=ih1 z2.symm;exact⟨us,u1.trans z1,u2⟩
def dr (es:Array (Int×Value))(t:G6):Bool:=!t.plain && decide (es.size > 1)
structure SetV (w:World)(h:Heap)(a:Addr)(o:Obj)(es:Array (Int×Value))(ep:Nat)(t:G6):Prop where
 ho:h.get? a=some o
 ex:o.ExactSet
 hd:o.data=.set es ep t
 fits:t.fits es.size=true
 few:es.size<=127
 led:t.led=!(w.params.followText "set-order")
 rise:dr es t=false->Rise t.place.toList
abbrev vls (es:Array (Int×Value)):List Value:=es.toList.map (·.2)
section
variable {prog:B2}{w:World}{A:Around}{E:Value->Shared->Prop}{s:Shared}{a:Addr}{ep:Nat}{o:Obj}{es:Array (Int×Value)}{t:G6}
theorem SetK.toV {h:Heap}{xs:List (List Key×Addr)}(S:SetK prog w h a o es ep t xs):SetV w h a o es ep t:=⟨S.ho,S.ex,S.hd,S.fits,by
 have:=S.few;rw [S.sz]
 rcases S.tb.mask with z | z | z <;> rw [z] at this <;> omega,S.led,fun _=>S.tb.rise⟩
theorem Fq {Q:Bool->Shared->Prop}(h:Q (w.params.followText "set-order") s):wpAny (model prog w) A setsByText Q E s:=A0 (Dv (A4 h))
theorem Qz {h0:Heap}(S:SetV w h0 a o es ep t)(ho:s.heap.get? a=some o)(hb:w.params.followText "set-order"=false)(hd:dr es t=false){i:Nat}(hi:i<=es.size){Q:Option (Value×Nat)->Shared->Prop}
   (h:Q ((vls es)[i]?.map fun x=>(x,x6 t.place (i + 1))) s):wpAny (model prog w) A (setNext a (x6 t.place i) i ep) Q E s:=by
 have sp:t.place.size=es.size:=by
   have:=S.fits;unfold SetTable.fits at this;simp only [u5,beq_iff_eq] at this;exact this.1
 unfold setNext;refine A0 (T9 ho S.hd S.fits ?_);dsimp only;refine A0 (Fq ?_);rw [hb];simp only [J7,↓reduceIte];have e1:(!t.plain && decide (es.size > 1))=false:=hd;show wpAny _ _ (if(!t.plain && decide (es.size > 1))=true then _ else _) _ _ _;rw [e1];simp only [J7,↓reduceIte];have el:t.led=true:=by rw [S.led,hb];rfl
 refine A0 (show wpAny _ _ (if(!t.led && !es.isEmpty)=true then _ else _) _ _ _ from ?_);rw [el];simp only [Am,Ba,J7,↓reduceIte];refine A4 ?_;rw [Qy (S.rise hd) (by omega)];refine A4 ?_;rw [D5,O0] at h;cases ex:es[i]? with
 | none=>rw [ex] at h;exact h
 | some y =>
   rw [ex] at h;have lt:i < t.place.size:=by rw [sp];exact(DQ.mp ex).1
   rw [b9 lt];have:x6 t.place (i + 1)=t.place[i] + 1:=by show t.place.getD i 0 + 1=_;rw [Aj,b9 lt];rfl
   rw [this] at h;exact h
theorem QB {h0:Heap}(S:SetV w h0 a o es ep t)(ho:s.heap.get? a=some o)(hb:w.params.followText "set-order"=true){i:Nat}{Q:Option (Value×Nat)->Shared->Prop}
   (h:Q ((vls (pickOrder (w.params.setOrder a ep) es))[i]?.map fun x=>(x,0)) s):wpAny (model prog w) A (setNext a 0 i ep) Q E s:=by
 unfold setNext;refine A0 (T9 ho S.hd S.fits ?_);dsimp only;refine A0 (Fq ?_);rw [hb];simp only [↓reduceIte];rw [if_neg (by simp)];refine A0 (m:=setWalk a) ?_;unfold setWalk;refine A0 (T9 ho S.hd S.fits ?_);dsimp only;refine A0 (Fq ?_);rw [hb];simp only [↓reduceIte];refine A0 (Dv (A4 (A4 ?_)));rw [D5,O0,Option.map_map] at h;exact h
theorem QC {Q:Value->Shared->Prop}(hh:A.handled=none)(S:SetV w s.heap a o es ep t)
   (hQ:∀(h':Heap) (d:_) (I:Addr) (fp:List Addr) (ys:List Value) (P:Nat->Value->Prop) (St:Nat->Heap->Prop),(∀b o,s.heap.get? b=some o->h'.get? b=some o)->s.heap.objs.size<=I->I < h'.objs.size->(∀b∈fp,b=a\/s.heap.objs.size<=b)->ys.Perm (vls es)->
     (∀i v,P i v->ys[i]?=some v)->Walks prog w A I fp [I] es.size P St->St 0 h'->Q (.ref I) { s with heap:=h',drawn:=d }):wpAny (model prog w) A (pyIter (.ref a)) Q E s:=by
 have hT:s.TypeIs (.ref a) "set":=⟨o,S.ho,S.ex.1⟩;have la:a < s.heap.objs.size:=B9 S.ho;refine wpAny_pyIter_slot hT F.slot_set_iter (M6 F.slot_set_iter hT Qo ?_ (F.args_set_iter_1 _));unfold M1.«frozenset.__iter__» Builtin.Frozenset.slot0 Builtin.Frozenset.sizeOf;refine A0 (A0 (A4 (A4 ?_)));refine A0 (A0 (BR S.ho S.hd S.fits (A4 ?_)));unfold setDrawn;refine A0 (A0 (T9 S.ho S.hd S.fits ?_));dsimp only;refine A0 (Fq (A4 ?_));show wpAny _ _ (if(!(w.params.followText "set-order") && dr es t)=true then _ else _) _ _ _
 by_cases c:(!(w.params.followText "set-order") && dr es t)=true
 · rw [if_pos c];refine A0 (Lv es.size (D1 es.size) _ _ (by simp) fun pl d hp=>?_);have lp:pl.length=es.size:=by rw [hp.length_eq,i7]
   have lt:∀p∈pl,p < es.size:=fun p h=>M9.mp (hp.mem_iff.mp h);have few:=S.few;refine A0 (wpAny_newTuple ?_ (by rw [M7,A7];omega));have g1:(s.heap.push { cls:=.type "tuple",data:=.seq (pl.map fun(i:Nat)=>rawInt i).toArray }).get? a=some o:=B6 _ S.ho;refine A0 (m:=setEpoch a) (A0 (T9 (s:={ s with drawn:=d,heap:=s.heap.push { cls:=.type "tuple",data:=.seq (pl.map fun(i:Nat)=>rawInt i).toArray } }) g1 S.hd S.fits (A4 ?_)));refine A0 (J8 (A4 ⟨_,rfl,"set_iterator",_,⟨_,E1 _ rfl,rfl⟩,Z1.lookup,?_⟩));have sz1:(s.heap.push { cls:=.type "tuple",data:=.seq (pl.map fun(i:Nat)=>rawInt i).toArray }).objs.size=s.heap.objs.size + 1:=W4 ..;refine hQ _ d (s.heap.push { cls:=.type "tuple",data:=.seq (pl.map fun(i:Nat)=>rawInt i).toArray }).objs.size [(s.heap.push { cls:=.type "tuple",data:=.seq (pl.map fun(i:Nat)=>rawInt i).toArray }).objs.size,a,s.heap.objs.size] (pl.map fun p=>(vls es).getD p .none) _ _ (fun b o e=>B6 _ (B6 _ e)) (by rw [sz1];exact A_ _) (Nat.lt_of_lt_of_eq (Ai _) (W4 ..).symm) (fun b hb=>?_) ?_ ?_ (lp▸Qx (es:=es) (o:=o) (t:=t) (ep:=ep) (tp:=s.heap.objs.size) (pl:=pl) hh lp.symm (by rw [sz1];exact D0 (W7 la)) (by rw [sz1];exact D0 (Ai _)) S.hd S.fits rfl lt) ?_
   · rcases B7.mp hb with rfl | hb
     · exact .inr (by rw [sz1];exact A_ _)
     · rcases B7.mp hb with rfl | hb
       · exact .inl rfl
       · exact .inr (by rw [F2.mp hb];exact A9 _)
   · exact(Lr (vls es) pl .none (by rw [A7,F4];exact hp)).2
   · rintro i v ⟨p,x,e1,e2,rfl⟩;rw [D5,e1];show some ((vls es).getD p .none)=_;rw [M8,D5,O0,e2];rfl
   · refine⟨⟨_,E1 _ rfl,rfl,?_⟩,B6 _ g1,⟨_,B6 _ (E1 _ rfl),rfl,0,rfl⟩⟩;show Bn _=Bn _
     first | rfl | (rw [lp];rfl)
 · rw [if_neg c];refine A0 (A4 ?_);refine A0 (m:=setEpoch a) (A0 (T9 S.ho S.hd S.fits (A4 ?_)));refine A0 (J8 (A4 ⟨_,rfl,"set_iterator",_,⟨_,E1 _ rfl,rfl⟩,Z1.lookup,?_⟩))
   have go:∀(ys:List Value) (sl:Nat->Nat),sl 0=0->ys.Perm (vls es)->(∀(i:Nat) (s:Shared) (A:Around) (E:Value->Shared->Prop) (Q':Option (Value×Nat)->Shared->Prop),s.heap.get? a=some o->i<=ys.length->Q' (ys[i]?.map fun x=>(x,sl (i + 1))) s->wpAny (model prog w) A (setNext a (sl i) i ep) Q' E s)->Q (.ref s.heap.objs.size) { s with heap:=s.heap.push { cls:=.type "set_iterator",data:=.fields #[rawInt 0,rawInt 0,.ref a,rawInt es.size,rawInt ep] } }:=by
     intro ys sl h0 pm hs;have lp:ys.length=es.size:=by rw [pm.length_eq,A7,F4]
     refine hQ _ s.drawn s.heap.objs.size [s.heap.objs.size,a] ys (fun i v=>ys[i]?=some v) _ (fun b o e=>B6 _ e) (A9 _) (by rw [W4];exact Ai _) (fun b hb=>?_) pm (fun _ _ e=>e) (lp▸Qw (es:=es) (o:=o) (t:=t) (ep:=ep) (ys:=ys) (sl:=sl) hh lp.symm (D0 la) S.hd S.fits hs) ?_
     · rcases B7.mp hb with rfl | hb
       · exact .inr (A9 _)
       · exact .inl (F2.mp hb)
     · refine⟨⟨_,E1 _ rfl,rfl,?_⟩,B6 _ S.ho⟩;show Bn _=Bn _;rw [h0]
       rfl
   by_cases cb:w.params.followText "set-order"=true
   · exact go (vls (pickOrder (w.params.setOrder a ep) es)) (fun _=>0) rfl ((Qr (w.params.setOrder a ep) es).map _) fun i s' A E Q' e hi q=>QB S e cb q
   · have cb':w.params.followText "set-order"=false:=by simpa using cb
     have cd:dr es t=false:=by
       rw [cb'] at c
       simpa using c
     exact go (vls es) (x6 t.place) rfl (.refl _) fun i s' A E Q' e hi q=>Qz S e cb' cd (by rw [A7,F4] at hi;exact hi) q
end
end SeT
end
section
namespace SeT
open PySem PySem.W PySem.Spec PyProof.Rows L2
section
variable {prog:B2}{w:World}{A:Around}{E:Value->Shared->Prop}{s:Shared}{a:Addr}{ep:Nat}{o:Obj}{es:Array (Int×Value)}{t:G6}
theorem QD {r:Addr}{Q:Bool->Shared->Prop}(hT:s.TypeIs (.ref r) "set")(h:Q false s):wpAny (model prog w) A (IR (.ref r)) Q E s:=by
 unfold IR;refine A0 (BU hT PySem.F.slot_set_len.lookup ?_);generalize hid:("set.__len__":String)=id0
 wp_delta
 rw [show splitId id0=some ("set","__len__") from by subst hid;decide +kernel];subst hid;refine A0 (Dw (T:="set") (b:=true) hT (by rw [p5];kernel_rfl) ?_);refine wpAny_ite_split (fun z=>absurd z (by decide)) fun _=>?_;refine wpAny_ite_split (fun _=>A0 (p8 hT (A4 h))) fun z=>absurd (by decide +kernel) z
theorem QF {R:Result->Shared->Prop}(S:SetV w s.heap a o es ep t)(hh:A.handled=none)(L:Addr)(ne:L≠a)(res:Value)(c₀:Nat)(hL:s.heap.get? L=some { cls:=.type "list",data:=.seq #[] c₀ })
   (hR:∀h' d tk c' (ys:List Value),(∀b o,b≠L->s.heap.get? b=some o->h'.get? b=some o)->h'.get? L=some { cls:=.type "list",dict:=none,data:=.seq ys.toArray c',slots:=#[] }->ys.Perm (vls es)->R (.ok (.ret res)) { s with heap:=h',drawn:=d,toks:=tk }) :
   wpAny (model prog w) A.in1 (IT (.ref L) (.ref a) res)
     (fun fin s'=>match fin with | .done f=>R (.ok f) s' | .again c'=>c'.quiet=true/\K3 (model prog w) A c' R s') (fun e s'=>R (.error e) s') s:=by
 have hT:s.TypeIs (.ref a) "set":=⟨o,S.ho,S.ex.1⟩;have lL:L < s.heap.objs.size:=B9 hL
 have few:es.size<=B0:=by
   have:=S.few;rw [M7];omega
 unfold IT;refine A0 (p8 (T:="set") hT ?_);have h1:Builtin.List.listSameRef (.ref L) (.ref a)=false:=by simp [Builtin.List.listSameRef,ne]
 have h2:(O1 "set" == O1 "list")=false:=by decide
 have h3:(O1 "set" == O1 "tuple")=false:=by decide
 simp only [h1,h2,h3,Bool.or_false,J7,if_false];refine A0 (QC (A:=A.in1) hh S fun h1 d I fp ys P St k1 hI hI2 hfp pm hP W st=>?_);have nI:L≠I:=D0 (L3 lL hI);have nf:L∉fp:=fun z=>(hfp L z).elim ne fun z=>absurd lL (Nat.not_lt.mpr z);have hL1:=k1 _ _ hL
 have key:∀(h:Heap) (c₁ tk:Nat),St 0 h->(∀b o,b≠L->s.heap.get? b=some o->h.get? b=some o)->
     h.get? L=some { cls:=.type "list",data:=.seq #[] c₁ }->K3 (model prog w) A (.builtin "list.extend.loop" ⟨[.ref L,.ref I,res],[]⟩) R { s with heap:=h,drawn:=d,toks:=tk }:=by
   intro h c₁ tk hst hk hS₁;refine codeAny_extend_loopS W.toS few L nf res es.size 0 _ #[] c₁ rfl (G4 _) hst hS₁ (ItemsOf.nil _) fun s' acc' c' hm hS' hacc=>?_;rw [Moved.eq_with hm]
   have ea:acc'=ys.toArray:=by
     apply Array.toList_inj.mp
     rw [DI]
     apply BY
     intro i;rw [O0];cases e:acc'[i]? with
     | none =>
       symm
       rw [List.getElem?_eq_none_iff,pm.length_eq,A7,F4];have:=Array.getElem?_eq_none_iff.mp e;rw [hacc.1] at this;exact this
     | some v=>exact(hP i v (hacc.2 i v e)).symm
   refine hR s'.heap d s'.toks c' ys (fun b o hb e=>hm.heap b o (fun hmem=>?_) (hk b o hb e)) (by rw [<- ea];exact hS') pm;rcases B7.mp hmem with e' | hmem
   · exact hb e'
   · exact absurd (B9 e) (by rw [F2.mp hmem];exact Nat.not_lt.mpr hI)
 refine A0 (J5 (QD (s:={ s with heap:=h1,drawn:=d }) ⟨o,k1 _ _ S.ho,S.ex.1⟩ ?_));refine wpAny_ite_split (fun _=>?_) (fun _=>A4 ⟨Z5 PySem.F.plain_extend_loop _,key _ c₀ _ st (fun b o _ e=>k1 b o e) hL1⟩);refine A0 (V9 ?_);refine A0 (show wpAny (model prog w) _ (updateSeq L (·.push .none)>>=fun _=>updateSeq L (·.pop)) _ _ _ from ?_);refine A0 (wpAny_updateSeq hL1 rfl ?_);have hS₂:=Ab (P9 (·.push N4)) hL1 rfl;refine wpAny_updateSeq (hz:=by seq_fits) hS₂ rfl ?_;have hS₃:=Ab (P9 (·.pop)) hS₂ rfl;refine A4 ⟨Z5 PySem.F.plain_extend_loop _,key _ _ _ ?_ (fun b o hb e=>?_) hS₃⟩
 · refine W.frame 0 _ _ st fun b hb o e=>?_;have hbS:b≠L:=fun h=>nf (h▸hb);exact(AS _ _ (Ne.symm hbS)).trans ((AS _ _ (Ne.symm hbS)).trans e)
 · exact(AS _ _ (Ne.symm hb)).trans ((AS _ _ (Ne.symm hb)).trans (k1 b o e))
theorem QH {R:List Value->Shared->Prop}(S:SetV w s.heap a o es ep t)(hh:A.handled=none)
   (h:∀(h':Heap) (d:_) (tk:Nat) (ys:List Value),(∀b o,s.heap.get? b=some o->h'.get? b=some o)->s.heap.objs.size<=h'.objs.size->ys.Perm (vls es)->R ys { s with heap:=h',drawn:=d,toks:=tk }) :
   wpAny (model prog w) A (collect (.ref a)) R E s:=by
 unfold collect;refine A0 (wpAny_runValue (X4 entry_proto_collect' ?_));rw [c6 PySem.F.plain_proto_collect _];refine(show wpAny (model prog w) A.in1 (newList []>>=fun l=>again (.builtin "list.__iadd__" ⟨[l,.ref a],[]⟩)) _ _ s from ?_);refine A0 (J8 (A4 ⟨Z5 Ed _,X4 entry_list_iadd' ?_⟩));rw [c6 Ed _];have hS:(s.heap.push { cls:=.type "list",data:=.seq ([]:List Value).toArray }).get? s.heap.objs.size=some { cls:=.type "list",data:=.seq #[] }:=E1 _ rfl;have S1:SetV w (s.heap.push { cls:=.type "list",data:=.seq ([]:List Value).toArray }) a o es ep t:=⟨B6 _ S.ho,S.ex,S.hd,S.fits,S.few,S.led,S.rise⟩
 have key:=QF (prog:=prog) (A:=A) (s:={ s with heap:=s.heap.push { cls:=.type "list",data:=.seq ([]:List Value).toArray } })
   (R:=fun(q:Result) (s':Shared)=>∃(h':Heap) (d:_) (tk:Nat) (ys:List Value) (c:Nat),q=.ok (.ret (.ref s.heap.objs.size))/\s'={ s with heap:=h',drawn:=d,toks:=tk }/\
     (∀b o,s.heap.get? b=some o->h'.get? b=some o)/\h'.get? s.heap.objs.size=some { cls:=.type "list",dict:=none,data:=.seq ys.toArray c,slots:=#[] }/\ys.Perm (vls es))
   S1 hh s.heap.objs.size (u4 (B9 S.ho)) (.ref s.heap.objs.size) 0 hS
   (fun h' d tk c ys hk hS' hp=>⟨h',d,tk,ys,c,rfl,rfl,fun b o e=>hk b o (D0 (B9 e)) (B6 _ e),hS',hp⟩)
 refine F9 key (fun fin s' x=>?_) fun e s' x=>?_
 · cases fin with
   | done f =>
     obtain⟨h',d,tk,ys,c,e,rfl,hk,hS',hp⟩:=x;cases e;refine A0 (wpAny_load hS' (A4 ?_));have:=h h' d tk ys hk (b8 (B9 hS')) hp
     simpa using this
   | again c₁ =>
     refine⟨x.1,p7 x.2 fun q s₂ y=>?_⟩;obtain⟨h',d,tk,ys,c,rfl,rfl,hk,hS',hp⟩:=y;refine A0 (wpAny_load hS' (A4 ?_));have:=h h' d tk ys hk (b8 (B9 hS')) hp
     simpa using this
 · obtain⟨_,_,_,_,_,e',_⟩:=x;cases e'
end
end SeT
end
section
namespace SeT
open PySem PySem.W PySem.Spec PyProof.Rows L2
abbrev rfs (ys:List (List Key×Addr)):List Value:=ys.map fun y=>K0 y.2
abbrev kks (ys:List (List Key×Addr)):List (List Key):=ys.map (·.1)
section
variable {prog:B2}{w:World}{A:Around}{E:Value->Shared->Prop}{s:Shared}{a:Addr}{ep:Nat}{o:Obj}{es:Array (Int×Value)}{t:G6}
theorem Lz {α:Type}{m:Nat}{Q:Value->Shared->Prop}(S:SetV w s.heap a o es ep t)(hh:A.handled=none)(xs:List α)(f:α->Value)(g:α->List Key)(ev:vls es=xs.map f)(h64:xs.length < 64)(pk:∀x∈xs,Kv1 s.heap m (f x) (g x))(al:l6 (xs.map g))
   (h:∀ys h2 d tk D e,List.Perm ys xs->(∀b o,s.heap.get? b=some o->h2.get? b=some o)->s.heap.objs.size<=D->h2.get? D=some (seqObj "list" (T4 (ltIx (ys.map g)) (ys.map f)).toArray e)->Q (.ref D) { s with heap:=h2,drawn:=d,toks:=tk }) :
   wpAny (model prog w) A (call (.builtin "sorted") [.ref a]) Q E s:=by
 refine Calls.call_function_entry kind_sorted plain_sorted entry_sorted (args_sorted1 _) ?_;unfold M1.«sorted»;refine A0 (m:=checkCount "sorted" 1 1 _) (A4 ?_);refine A0 (QH (A:=A.in1) S hh fun h1 d tk vs k1 z1 pv=>?_);rw [ev] at pv;obtain⟨ys,pm,rfl⟩:=Fp pv;have ly:=pm.length_eq;refine A0 (wpAny_newList ?_ (by rw [M7,A7];omega));have hoL:(h1.push (seqObj "list" (ys.map f).toArray 0)).get? h1.objs.size=some (seqObj "list" (ys.map f).toArray 0):=E1 _ rfl;have kL:∀b o,s.heap.get? b=some o->(h1.push (seqObj "list" (ys.map f).toArray 0)).get? b=some o:=fun b o e=>B6 _ (k1 b o e);have ne:∀b o,s.heap.get? b=some o->b≠h1.objs.size:=fun b o e=>D0 (L3 (B9 e) z1)
 have pk1:Paired (Kv1 s.heap m) (ys.map f) (ys.map g):=by
   have hy:∀y∈ys,Kv1 s.heap m (f y) (g y):=fun y hy=>pk y (pm.mem_iff.mp hy);clear hoL kL pm ly pv
   induction ys with
   | nil=>exact .nil
   | cons y ys ih=>exact .cons (hy y B8) (ih fun z hz=>hy z (B5 _ hz))
 have al1:l6 (ys.map g):=fun x hx y hy=>al x ((pm.map g).mem_iff.mp hx) y ((pm.map g).mem_iff.mp hy);refine A0 (J5 (M6 slot_list_sort ⟨_,hoL,rfl⟩ entry_list_sort ?body (args_list_sort _)))
 case body=>
   refine Kz (lt:=ltIx (ys.map g)) (s:={ s with heap:=h1.push (seqObj "list" (ys.map f).toArray 0),drawn:=d,toks:=tk }) hoL (by rw [A7];omega) (fun l2 h3 k3=>?_) fun h3 e k3 e3=>?_
   · exact Ho (s:={ s with drawn:=d }) l2 pk1 al1 _ _ h3 tk fun b o x=>k3 b o (ne b o x) (kL b o x)
   · exact⟨_,rfl,A4 ⟨_,rfl,h ys h3 d tk _ e pm (fun b o x=>k3 b o (ne b o x) (kL b o x)) z1 e3⟩⟩
end
theorem LA {kss:List (List Key)}{us:List V}(h:us.length < 64):(outV (ltIx kss) us).length<=B0:=by
 rw [M7];unfold outV
 split
 · omega
 · rw [A7,F4,(Kr.sort_ok (BF kss) (by omega)).2.1];omega
theorem items_are {prog:B2}{w:World}:∀{ks:List Key} {vs:List Value},w9 ks vs->ItemsAre (E8 prog w) ks vs:=by
 intro ks vs h
 induction h with
 | nil=>exact .nil
 | @cons k v ks vs h1 _ ih =>
   refine .cons ?_ ih
   match k,h1 with
   | .inl i,⟨t,e⟩=>subst e;exact IW _ _ _ _
   | .inr z,⟨t,e⟩=>subst e;exact At _ _ _ _
theorem is_of {prog:B2}{w:World}{h:Heap}{r:Addr}{k:List Key}(x:TupK h (.ref r) k):(TK prog w).is h k r:=by
 obtain⟨a,o,items,n,e,ho,hc,hd,hk⟩:=x;cases e;exact⟨o,items,n,ho,hc,hd,items_are hk⟩
section
variable {X:Cx}
def SetO (X:Cx)(p:Addr)(rs:List (List Key×Addr)):HO:=.ext fun h=>∃h0 o es ep t xs,SetK X.prog X.w h0 p o es ep t xs/\h.get? p=some o/\(∀x∈xs,x∈rs)/\∀x∈rs,x.1∈kks xs
theorem QJ {K:A5}{H:Hp}{ys:List V}{kss:List (List Key)}(p:Paired (KM K H 2) ys kss):∃rs:List (List Key×Addr),kks rs=kss/\(rs.map fun y=>V.ref y.2)=ys/\∀y∈rs,SqT K H y.2 (y.1.map kV)/\y.1≠[]:=by
 induction p with
 | nil=>exact⟨[],rfl,rfl,fun _ z=>nomatch z⟩
 | cons h1 _ ih =>
   obtain⟨rs,e1,e2,e3⟩:=ih;obtain⟨a,rfl,hq,hne⟩:=h1;refine⟨(_,a)::rs,by rw [<- e1];rfl,by rw [<- e2];rfl,fun y hy=>?_⟩;rcases B7.mp hy with rfl | hy
   · exact⟨hq,hne⟩
   · exact e3 y hy
theorem LB:∀(rs:List (List Key×Addr)) {its:List Value},Vals (rs.map fun y=>V.ref y.2) its->its=rfs rs:=by
 intro xq
 induction xq with
 | nil =>
   intro _ h;cases h;rfl
 | cons y rs ih =>
   intro _ h;cases h with
   | cons h1 h2=>rw [ih h2,show _=K0 y.2 from h1];rfl
theorem QK (hc:X.calm=true)(hu:X.A.units + 64 < cLine):K1 X (.type "set") (fun vs H Q=>∃a ys kss,vs=[.ref a]/\(SqL X.K H a ys\/SqT X.K H a ys)/\Paired (KM X.K H 2) ys kss/\ys.length<=63/\
   ∀p rs,H p=none->kks rs=kss->(rs.map fun y=>V.ref y.2)=ys->(∀y∈rs,SqT X.K H y.2 (y.1.map kV)/\y.1≠[])->Q (.ref p) (upd H p (SetO X p rs))):=by
 intro pins s σ H vs us Q I rv h;obtain⟨a,ys,kss,rfl,hq,hp,hl,q⟩:=h;obtain⟨u,rfl,ru⟩:=rv.one;obtain rfl:u=.ref a:=ru;obtain⟨rs,e1,rfl,e3⟩:=QJ hp;have hk:∀y∈rs,(TK X.prog X.w).is s.heap y.1 y.2:=fun y hy=>is_of (Hn I (e3 y hy).1);rw [A7] at hl
 have fin:∀(h':Heap) (tk:Nat),Holds X.prog X.w h' s.heap.objs.size rs->(∀b o,b < s.heap.objs.size->s.heap.get? b=some o->h'.get? b=some o)->EP X pins σ Q (.ref s.heap.objs.size) { s with heap:=h',toks:=tk }:=fun h' tk so kp=>by
   obtain⟨o,es,ep,t,xs,S1,S2,S3⟩:=so
   have I1:Inv X pins σ (upd H s.heap.objs.size (SetO X s.heap.objs.size rs)) { s with heap:=h',toks:=tk }:=
     I.laid (fun b o e=>kp b o (B9 e) e) (A9 _) ⟨⟨h',o,es,ep,t,xs,S1,S1.ho,S2,S3⟩,⟨o,S1.ho⟩,fun h1 h2 x k2=>by
       obtain⟨h0,o,es,ep,t,xs,S1,g,S2,S3⟩:=x
       exact⟨h0,o,es,ep,t,xs,S1,k2 o g,S2,S3⟩⟩
   exact⟨.ref s.heap.objs.size,_,I1,rfl,q _ rs (I.hok.fresh (A9 _)) e1 rfl e3⟩
 rcases hq with hq | hq
 · obtain⟨its,r,pl,_⟩:=I.list hq;refine Ls (rs:=rs) (I.ok.hd hc) hu (.inl pl.isList) ?_ hk hl fin;rw [DI];exact LB rs r
 · obtain⟨its,r,ht,_⟩:=I.tuple hq;refine Ls (rs:=rs) (I.ok.hd hc) hu (.inr ht) ?_ hk hl fin;rw [DI];exact LB rs r
theorem LC {pins:List (Addr×Obj)}{σ:L2.St}{H:Hp}{s:Shared}(I:Inv X pins σ H s)(d:_):Inv X pins σ H { s with drawn:=d }:=⟨I.ok,I.os,I.bare,I.base,I.loc,I.cell,I.free,I.freeC,I.pin,I.hok,I.len⟩
theorem QM (hc:X.calm=true):K1 X (.builtin "sorted") (fun vs H Q=>∃p rs,vs=[.ref p]/\H p=some (SetO X p rs)/\rs.length < 64/\(∀y∈rs,SqT X.K H y.2 (y.1.map kV)/\y.1≠[])/\l6 (kks rs)/\
   ∀l zs,H l=none->(kks zs).Nodup->(∀z∈zs,z∈rs)->(∀y∈rs,y.1∈kks zs)->Q (.ref l) (upd H l (.lst (outV (ltIx (kks zs)) (zs.map fun z=>V.ref z.2))))):=by
 intro pins s σ H vs us Q I rv h;obtain⟨p,rs,rfl,e,h64,hk,al,q⟩:=h;obtain⟨u,rfl,ru⟩:=rv.one;obtain rfl:u=.ref p:=ru;obtain⟨⟨h0,o,es,ep,t,xs,S0,g,S2,S3⟩,_,_⟩:=I.hok p _ e;have tk:∀x∈xs,TupK s.heap (.ref x.2) x.1:=fun x hx=>Hn I (hk x (S2 x hx)).1;have S:SetK X.prog X.w s.heap p o es ep t xs:=⟨g,S0.ex,S0.hd,S0.hes,(fun x hx=>is_of (tk x hx)),S0.nd,S0.tb,S0.few,S0.led⟩;have lx:xs.length < 64:=j6 (Holds.len S S2) h64;refine Lz (m:=2) S.toV (I.ok.hd hc) xs (fun x=>K0 x.2) (·.1) (by unfold vls;rw [S.hes,O9];rfl) lx (fun x hx=>⟨tk x hx,(hk x (S2 x hx)).2⟩) (fun x hx y hy=>?_) fun ys h2 d t2 D e pm k hD ho=>?_
 · obtain⟨x',hx',rfl⟩:=C8.mp hx;obtain⟨y',hy',rfl⟩:=C8.mp hy;exact al _ (C8.mpr ⟨x',S2 x' hx',rfl⟩) _ (C8.mpr ⟨y',S2 y' hy',rfl⟩)
 · have vv:Vals (ys.map fun y=>V.ref y.2) (rfs ys):=by
     clear pm ho
     induction ys with
     | nil=>exact .nil
     | cons y ys ih=>exact .cons rfl ih
   have vo:=EO vv (BF (kks ys));have ly:ys.length=xs.length:=pm.length_eq;have hlo:(outV (ltIx (kks ys)) (ys.map fun y=>V.ref y.2)).length<=B0:=LA (by rw [A7];omega);have I1:=LC (I.laid (t':=t2) k hD (show G5 X.prog X.w _ h2 _ (.lst _) from⟨hlo,_,e,vo,ho⟩)) d;exact⟨.ref D,_,I1,rfl,q _ ys (I.hok.fresh hD) ((pm.map (·.1)).nodup_iff.mpr S.nd) (fun z hz=>S2 z (pm.mem_iff.mp hz)) fun y hy=>(pm.map (·.1)).mem_iff.mpr (S3 y hy)⟩
end
end SeT
end
section
namespace SeT
open PySem PySem.W PySem.Spec PyProof.Rows L2
section
variable {X:Cx}
def tMo (t:TE):TE:=fun σ H Q=>∃Q',t σ H Q'/\∀v H',Q' v H'->Q v H'
theorem pe_mo {e:Expr}{t:TE}(h:PE X e t):PE X e (tMo t):=by
 intro pins s σ H Q I ⟨Q',h1,h2⟩;exact F9 (h pins s σ H Q' I h1) (fun u s' ⟨v,H',I',r,q⟩=>⟨v,H',I',r,h2 _ _ q⟩) fun _ _ e=>e
def QP (K:A5)(t:TE):TE:=fun σ H Q=>∃Q',t σ H Q'/\∀x H1,Q' x H1->∃a ys kss,x=.ref a/\(SqL K H1 a ys\/SqT K H1 a ys)/\Paired (KM K H1 2) ys kss/\ys.length<=63/\l6 kss/\
 ∀H2 l rs zs,Same H1 H2->H2 l=none->kks rs=kss->(rs.map fun y=>V.ref y.2)=ys->(kks zs).Nodup->(∀z∈zs,z∈rs)->(∀y∈rs,y.1∈kks zs)->Q (.ref l) (upd H2 l (.lst (outV (ltIx (kks zs)) (zs.map fun z=>V.ref z.2))))
theorem QQ {K:A5}{H H':Hp}{a:Addr}{xs:List V}(h:SqT K H a xs)(s:Same H H'):SqT K H' a xs:=by
 rcases h with h | h
 · left;rcases h with h | ⟨o,h⟩
   · exact .inl (s _ _ h)
   · exact .inr ⟨o,s _ _ h⟩
 · exact .inr h
theorem QU {e:Expr}{t:TE}{k:Nat}{p1 p2 pos pos2:Pos}(hc:X.calm=true)(hr:Room k X.A)(g1:Gl X "sorted")(m1:X.mg "sorted"=none)(g2:Gl X "set")(m2:X.mg "set"=none)(he:PE X e t)(hs:E4 [e] X.env=(false,eval e X.env)::E4 [] X.env) :
   PE X (.Call (.Name "sorted" p1) [.Call (.Name "set" p2) [e] [] pos2] [] pos) (QP X.K t):=by
 have i1:=Bu (p:=p2) (pos:=pos2) (QK hc hr.units) g2 m2 JA (F6 (pe_mo he) J1 hs) (by decide) (by decide) hs rfl;have i2:=v3 (p:=p1) (pos:=pos) (QM hc) g1 m1 GN (F6 i1 J1 rfl) (by decide) (by decide) rfl rfl;intro pins s σ H Q I ⟨Q',h1,h2⟩;refine i2 pins s σ H Q I ⟨Q',h1,fun x H1 hx=>?_⟩;obtain⟨a,ys,kss,rfl,hq,hp,hl,al,q⟩:=h2 x H1 hx;refine⟨a,ys,kss,rfl,hq,hp,hl,fun p rs hn ek eu hk=>?_⟩;have sm:Same H1 (upd H1 p (SetO X p rs)):=(Same.refl _).lay hn;refine⟨p,rs,rfl,D9,?_,fun y hy=>⟨QQ (hk y hy).1 sm,(hk y hy).2⟩,by rw [ek];exact al,fun l zs hl nd z1 z2=>q _ l rs zs sm hl ek eu nd z1 z2⟩;have:rs.length=ys.length:=by rw [<- eu,A7]
 omega
end
end SeT
namespace Pu
open PySem PySem.Spec L2
def SetOk (xs:List PV):Prop:=(∀x∈xs,∃ks,x=.tup (ks.map kP)/\ks≠[])/\∀x∈xs,∀y∈xs,Al (keyP x) (keyP y)
def SrtS (ys xs:List PV):Prop:=ys.Nodup/\(∀y,y∈ys↔y∈xs)/\ys.Pairwise fun a b=>lexK (keyP b) (keyP a)=false
def wSet (R:List PV->Prop)(xs:List PV):Prop:=xs.length<=63/\SetOk xs/\∀ys,SrtS ys xs->R ys
def HL (pe:pE):pA:=fun env n R=>pe env n fun x env1 n1=>match x with | .lst xs=>wSet (fun ys=>R ys env1 n1) xs | .tup xs=>wSet (fun ys=>R ys env1 n1) xs | _=>False
abbrev zP (z:List Key×Addr):PV:=.tup (z.1.map kP)
theorem keyP_z (z:List Key×Addr):keyP (zP z)=z.1:=T5 z.1
theorem zP_inj {ks js:List Key}(h:(PV.tup (ks.map kP))=.tup (js.map kP)):ks=js:=by rw [<- T5 ks,h,T5]
section
variable {T:PotK}{ι:Type}{K:A5}{F:ι->Cx}{e:Expr}{pe:pE}{pos:Pos}
theorem LD {G:Gh}{H:Hp}:∀{xs:List PV} {rs:List (List Key×Addr)},Reps K G H xs (rs.map fun y=>V.ref y.2)->SeT.kks rs=xs.map keyP->(∀x∈xs,∃ks,x=.tup (ks.map kP)/\ks≠[])->xs=rs.map zP/\∀z∈rs,Rep K G H (zP z) (.ref z.2)
 | [],[],_,_,_=>⟨rfl,fun _ z=>nomatch z⟩
 | [],_::_,h,_,_=>by cases h
 | x :: xs, [], h, _, _ => by
   obtain⟨_,_,e,_⟩:=h;cases e
 | x :: xs, r :: rs, h, hk, hx => by
   obtain⟨v,t,e,h1,h2⟩:=h;rw [F3] at e;injection e with e1 e2;subst e1;subst e2;have hk':r.1::SeT.kks rs=keyP x::xs.map keyP:=hk;injection hk' with k1 k2;obtain⟨a1,a2⟩:=LD h2 k2 fun y hy=>hx y (B5 _ hy);obtain⟨ks,rfl,_⟩:=hx x B8;rw [T5] at k1;have ez:zP r=.tup (ks.map kP):=by show PV.tup (r.1.map kP)=_;rw [k1]
   refine⟨by rw [F3,ez,<- a1],fun z hz=>?_⟩;rcases B7.mp hz with rfl | hz
   · rw [ez];exact h1
   · exact a2 z hz
theorem QV {G:Gh}{H:Hp}:∀(zs:List (List Key×Addr)),(∀z∈zs,Rep K G H (zP z) (.ref z.2))->Reps K G H (zs.map zP) (zs.map fun z=>V.ref z.2):=by
 intro xq
 induction xq with
 | nil =>
   intro _;exact rfl
 | cons z zs ih =>
   intro h;exact⟨_,_,rfl,h z B8,ih fun y hy=>h y (B5 _ hy)⟩
theorem SrtS.of {xs:List PV}{zs:List (List Key×Addr)}{rs:List (List Key×Addr)}(e:xs=rs.map zP)(nd:(SeT.kks zs).Nodup)(h1:∀z∈zs,z∈rs)(h2:∀y∈rs,y.1∈SeT.kks zs):SrtS (outP (zs.map zP)) xs:=by
 obtain⟨p,pw⟩:=CU (zs.map zP);refine⟨p.nodup_iff.mpr ?_,fun y=>?_,pw⟩
 · rw [G7,R4];have:zs.Pairwise fun a b=>a.1≠b.1:=R4.mp nd;exact this.imp fun hab h=>hab (zP_inj h)
 · rw [p.mem_iff,e,C8,C8];constructor
   · rintro⟨z,hz,rfl⟩;exact⟨z,h1 z hz,rfl⟩
   · rintro⟨z,hz,rfl⟩;obtain⟨z',hz',ez⟩:=C8.mp (h2 z hz);exact⟨z',hz',by show PV.tup (z'.1.map kP)=PV.tup (z.1.map kP);rw [ez]⟩
theorem QX {k:Nat}{p p2 pos2:Pos}(hc:∀z,(F z).calm=true)(hr:∀z,Room k (F z).A)(hg:∀z,Gl (F z) "sorted")(hm:∀z,(F z).mg "sorted"=none)(hg2:∀z,Gl (F z) "set")(hm2:∀z,(F z).mg "set"=none)(ha:QR T K F e pe)(hs:F8 e=true:=by rfl)(hK:∀z,(F z).K=K:=by intro _;rfl) :
   QN T K F (.Call (.Name "sorted" p) [.Call (.Name "set" p2) [e] [] pos2] [] pos) (HL pe):=by
 obtain⟨t,h1,h2⟩:=ha;refine⟨_,fun z=>hK z▸SeT.QU (hc z) (hr z) (hg z) (hm z) (hg2 z) (hm2 z) (h1 z) (D2 hs),fun C G σ H env n R Q hK hT S hp k=>?_⟩;refine⟨fun v H1=>∃x env1 n1,(match x with | PV.lst xs=>wSet (fun ys=>R ys env1 n1) xs | .tup xs=>wSet (fun ys=>R ys env1 n1) xs | _=>False)/\SR C G σ H1 env1 n1/\RdS C G σ H1 env1 x v/\Fr G H H1,h2 C G σ H env n _ _ hK hT S hp fun x env1 n1 v H1 p1 S1 r1 f1=>⟨x,env1,n1,p1,S1,r1,f1⟩,fun v H1 ⟨x,env1,n1,p1,S1,r1,f1⟩=>?_⟩;have rd:RdV K G H1 x v:=hK▸r1.rd S1
 have main:∀(xs:List PV) (a:Addr) (us:List V),wSet (fun ys=>R ys env1 n1) xs->(SqL K H1 a us\/SqT K H1 a us)->Reps K G H1 xs us->∃a' ys kss,V.ref a=.ref a'/\(SqL K H1 a' ys\/SqT K H1 a' ys)/\Paired (KM K H1 2) ys kss/\ys.length<=63/\l6 kss/\
     ∀H2 l rs zs,Same H1 H2->H2 l=none->SeT.kks rs=kss->(rs.map fun y=>V.ref y.2)=ys->(SeT.kks zs).Nodup->(∀z∈zs,z∈rs)->(∀y∈rs,y.1∈SeT.kks zs)->Q (.ref l) (upd H2 l (.lst (outV (ltIx (SeT.kks zs)) (zs.map fun z=>V.ref z.2)))):=by
   intro xs a us ⟨h63,ok,q⟩ hq r;obtain⟨m,pk,al⟩:=km_of r (.inr (.inr ok))
   have pk2:Paired (KM K H1 2) us (xs.map keyP):=Paired.imp' (fun v ks ⟨_,_,hp⟩=>hp) (ET (P:=fun _ v ks=>KM K H1 2 v ks) xs r fun x hx v hv=>by
     obtain⟨ks,rfl,hne⟩:=ok.1 x hx;obtain⟨a,vs,rfl,at',rr⟩:=hv;rw [T5];refine⟨a,rfl,?_,hne⟩;rw [EQ ks rr] at at'
     exact SqT.of at'.2)
   refine⟨a,us,xs.map keyP,rfl,hq,pk2,by rw [<- r.length];exact h63,al,fun H2 l rs zs sm hl ek eu nd z1 z2=>?_⟩;subst eu;obtain⟨ex,rz⟩:=LD r ek ok.1;have rr:Reps K G H2 (zs.map zP) (zs.map fun z=>V.ref z.2):=(QV zs fun z hz=>rz z (z1 z hz)).same sm;have ro:=Hr rr;have ekz:(zs.map zP).map keyP=SeT.kks zs:=by rw [O9];exact List.map_congr_left fun z _=>keyP_z z
   rw [ekz] at ro;exact k _ _ _ _ _ _ (q _ (SrtS.of ex nd z1 z2)) (S1.same sm) (f1.trans (Fr.of sm)) hl ro
 cases x with
 | lst xs =>
   obtain⟨a,us,rfl,hq,r⟩:=rd.lst;exact main xs a us p1 (.inl hq) r
 | tup xs =>
   obtain⟨a,us,rfl,hq,r⟩:=rd.tup;exact main xs a us p1 (.inr hq) r
 | _=>exact p1.elim
end
end Pu
end
section
namespace SeT
open PySem PySem.W PySem.Spec PyProof.Rows L2
theorem QY (t:G6)(es:Array (Int×Value))(h:Int)(x:Value):(layNew t es h x).2.1.led=t.led:=by
 unfold layNew
 split
 · show(SetTable.orStandIn _ _).led=_;unfold SetTable.orStandIn
   split <;> rfl
 · rfl
theorem QZ {mask fi mo:Nat}{led pl:Bool}{hs:Array Int}{t':G6}{od:Array Nat}(h:SetTable.laid mask fi mo led pl hs=some (t',od)):t'.led=led/\t'.plain=pl:=by
 unfold SetTable.laid at h;cases e:SetTable.layClean mask hs with
 | none=>rw [e] at h;cases h
 | some ow=>rw [e] at h;cases h;exact⟨rfl,rfl⟩
theorem Q_ (t:G6)(es:Array (Int×Value))(n:Nat):(relayAll t es n).2.1.led=t.led/\(t.plain=false->(relayAll t es n).2.1.plain=false):=by
 unfold relayAll
 split
 · rename_i t' od e;have:=QZ e;dsimp only
   split
   · exact⟨this.1,fun z=>by show t'.plain=false;rw [this.2];exact z⟩
   · exact⟨rfl,fun _=>rfl⟩
 · exact⟨rfl,fun _=>rfl⟩
def strE (e:Int×Value):Str:=match e.2 with | .str z _=>z | _=>⟨#[]⟩
abbrev zsE (es:Array (Int×Value)):List Str:=es.toList.map strE
structure SetS (prog:B2)(w:World)(h:Heap)(a:Addr)(o:Obj)(es:Array (Int×Value))(ep:Nat)(t:G6):Prop where
 ho:h.get? a=some o
 ex:o.ExactSet
 hd:o.data=.set es ep t
 el:∀e∈es.toList,∃z k,e=((E8 prog w).hash (.inr z),.str z k)
 nd:(zsE es).Nodup
 fits:t.fits es.size=true
 led:t.led=!(w.params.followText "set-order")
 pl:es.size≠0->t.plain=false
section
variable {prog:B2}{w:World}{A:Around}{E:Value->Shared->Prop}{s:Shared}{a:Addr}{ep:Nat}{o:Obj}{es:Array (Int×Value)}{t:G6}
theorem SetS.toV {h:Heap}(S:SetS prog w h a o es ep t)(h64:es.size<=127):SetV w h a o es ep t:=⟨S.ho,S.ex,S.hd,S.fits,h64,S.led,fun d=>by
 have sp:t.place.size=es.size:=by
   have:=S.fits;unfold SetTable.fits at this;simp only [u5,beq_iff_eq] at this;exact this.1
 have s1:es.size<=1:=by
   refine Ah fun c=>?_;unfold dr at d;rw [S.pl (by omega),decide_eq_true c] at d;cases d
 have l1:t.place.toList.length<=1:=by rw [F4];omega
 unfold Rise;generalize t.place.toList=l at l1
 match l,l1 with
 | [],_=>exact .nil
 | [_],_=>exact List.pairwise_singleton _ _⟩
theorem SetS.elems {h:Heap}(S:SetS prog w h a o es ep t):ElemsOf (E8 prog w) es.toList:=fun e he=>by
 obtain⟨z,k,rfl⟩:=S.el e he;exact⟨⟨.inr z,At _ _ _ _,rfl⟩,rfl⟩
theorem SetS.put {h:Heap}{es':Array (Int×Value)}{t':G6}(ho:h.get? a=some o)(ex:o.ExactSet)(hd:o.data=.set es ep t)(el:∀e∈es'.toList,∃z k,e=((E8 prog w).hash (.inr z),.str z k))(nd:(zsE es').Nodup)(ft:t'.fits es'.size=true)(led:t'.led=!(w.params.followText "set-order"))(pl:es'.size≠0->t'.plain=false):SetS prog w (h.update a (Ar es' t')) a { o with data:=.set es' (ep + 1) t' } es' (ep + 1) t':=
 ⟨HJ ho hd,ex,rfl,el,nd,ft,led,pl⟩
theorem Ra {z:Str}{k:Nat}{Q:Bool->Shared->Prop}(S:SetS prog w s.heap a o es ep t)(h63:es.size<=1000)
   (h1:z∈zsE es->Q false s) (h2:∀h' o' es' ep' t',Q2 a s.heap h'->SetS prog w h' a o' es' ep' t'->(∀y,y∈zsE es'↔y=z\/y∈zsE es)->es'.size=es.size + 1->Q true { s with heap:=h' }) :
   wpAny (model prog w) A (setAddHashed a (.str z k) ((E8 prog w).hash (.inr z))) Q E s:=by
 have hel:=S.elems;have hkey:=At prog w z k;unfold setAddHashed setAddHashedIn;refine J5 (A0 (T9 S.ho S.hd S.fits ?_));dsimp only;rw [byScan_of rfl (by unfold scanBound;omega) hel];simp only [↓reduceIte];unfold setAddByScan;refine A0 ?_;refine A0 (V9 ?_);refine A0 (wpAny_setScan_of hkey S.ho S.hd S.fits hel ?_)
 have isz:∀e∈es.toList,(E8 prog w).is (.inr z) e.2=true->strE e=z:=fun e he q=>by
   obtain⟨y,k',rfl⟩:=S.el e he;have:=(E8 prog w).inj _ _ _ q (At prog w y k');cases this
   rfl
 cases hr:List.findIdx? (fun e=>(E8 prog w).is (.inr z) e.2) es.toList with
 | some j =>
   dsimp only;obtain⟨hj,hpj,_⟩:=List.findIdx?_eq_some_iff_getElem.mp hr;exact A4 (A4 (h1 (C8.mpr ⟨_,q8 hj,isz _ (q8 hj) hpj⟩)))
 | none =>
   dsimp only
   have hn:z∉zsE es:=fun q=>by
     obtain⟨e,he,q⟩:=C8.mp q;have:=List.findIdx?_eq_none_iff.mp hr e he;obtain⟨y,k',rfl⟩:=S.el e he;have q':y=z:=q;subst q';have h3:=At prog w y k';rw [h3] at this;cases this
   have hperm:=layNew_perm t es ((E8 prog w).hash (.inr z)) (.str z k);have hfits:=layNew_fits t es ((E8 prog w).hash (.inr z)) (.str z k);have hled:=QY t es ((E8 prog w).hash (.inr z)) (.str z k);generalize hL:layNew t es ((E8 prog w).hash (.inr z)) (.str z k)=L at hperm hfits hled ⊢;obtain⟨es1,t1,wasDummy,gave⟩:=L;dsimp only at hperm hfits hled ⊢;rw [Array.toList_push] at hperm
   have el1:∀e∈es1.toList,∃z k,e=((E8 prog w).hash (.inr z),.str z k):=fun e he=>by
     rcases K6.mp (hperm.mem_iff.mp he) with he | he
     · exact S.el e he
     · exact⟨z,k,F2.mp he⟩
   have pz:(zsE es1).Perm (zsE es++[z]):=by
     have:=hperm.map strE;rw [N3] at this;exact this
   have nd1:(zsE es1).Nodup:=pz.nodup_iff.mpr (BZ.mpr ⟨S.nd,by simp,fun x hx y hy e=>hn (by rw [<- F2.mp hy,<- e];exact hx)⟩);have mm:∀y,y∈zsE es1↔y=z\/y∈zsE es:=fun y=>by rw [pz.mem_iff,K6,F2,or_comm]
   have sz1:es1.size=es.size + 1:=by rw [<- F4,hperm.length_eq,E2,F4];rfl
   have gw:∀(b:Bool) {s₁:Shared} {Q':Unit->Shared->Prop},Q' () s₁->wpAny (model prog w) A (match b with | true=>rule "set.scan.the-table-gave-way" | false=>pure ()) Q' E s₁:=fun b s₁ Q' hq=>by cases b <;> first | exact A4 hq | exact V9 hq
   refine A0 (gw _ ?_)
   have tail:∀t2:G6,t2.fits es1.size=true->t2.led=t.led->t2.plain=false->wpAny (model prog w) A (do
       storeSet a es1 t2
       if(!wasDummy && t2.tooFull)=true then do
           (match(relayAll t2 es1 (W8 es1.size)).2.2 with | true=>rule "set.scan.the-table-gave-way" | false=>pure ())
           storeSet a (relayAll t2 es1 (W8 es1.size)).1 (relayAll t2 es1 (W8 es1.size)).2.1
           pure (some true)
         else pure (some true)) (fun r s'=>wpAny (model prog w) A (match r with | some added=>pure added | none=>setAddHashedIn a (.str z k) ((E8 prog w).hash (.inr z)) 99999) Q E s') E s:=fun t2 ft ld pl=>by
     refine A0 (Du S.ho S.hd ?_ (by rw [M7];omega));have S1:=SetS.put S.ho S.ex S.hd el1 nd1 ft (by rw [ld];exact S.led) (fun _=>pl);have sb1:=P8 s.heap a (Ar es1 t2)
     split
     · have hp:=relayAll_perm t2 es1 (W8 es1.size);have hfr:=relayAll_fits t2 es1 (W8 es1.size);have hrl:=Q_ t2 es1 (W8 es1.size);generalize hRl:relayAll t2 es1 (W8 es1.size)=Rl at hp hfr hrl ⊢;obtain⟨es2,t3,gave2⟩:=Rl;dsimp only at hp hfr hrl ⊢;have hsz:es2.size=es1.size:=by rw [<- F4,hp.length_eq,F4]
       refine A0 (gw _ ?_);refine A0 (Du S1.ho rfl ?_ (by rw [M7];omega));have S2:=SetS.put S1.ho S.ex rfl (fun e he=>el1 e (hp.mem_iff.mp he)) ((hp.map strE).nodup_iff.mpr nd1) hfr (by rw [hrl.1,ld];exact S.led) (fun _=>hrl.2 pl);exact A4 (A4 (h2 _ _ _ _ _ (sb1.trans (P8 _ a _)) S2 (fun y=>(hp.map strE).mem_iff.trans (mm y)) (by omega)))
     · exact A4 (A4 (h2 _ _ _ _ _ sb1 S1 mm sz1))
   split
   · refine A0 ?_;rw [hashByValue_scannable 8 rfl];refine A4 ?_;exact tail { t1 with plain:=false } (SetTable.fits_plain_off hfits) hled rfl
   · rename_i c;refine A0 (A4 ?_);simp only [↓reduceIte];exact tail t1 hfits hled (by simpa using c)
end
def o6 (prog:B2)(w:World)(h:Heap)(S:Addr)(ys:List Str):Prop:=∃o es ep t,SetS prog w h S o es ep t/\(∀y,y∈zsE es↔y∈ys)/\es.size<=ys.length
theorem o6.at' {prog:B2}{w:World}{h h':Heap}{a:Addr}{ys:List Str}(S:o6 prog w h a ys)(k0:∀o,h.get? a=some o->h'.get? a=some o):o6 prog w h' a ys:=by
 obtain⟨o,es,ep,t,S1,S2,S3⟩:=S;exact⟨o,es,ep,t,⟨k0 o S1.ho,S1.ex,S1.hd,S1.el,S1.nd,S1.fits,S1.led,S1.pl⟩,S2,S3⟩
section
variable {prog:B2}{w:World}{A:Around}{R:Result->Shared->Prop}{I:Addr}{fp wr:List Addr}{G:Array GenState->Array GenState->Prop}{n:Nat}{P:Nat->Value->Prop}{St:Nat->Shared->Prop}
theorem Rb (Wk:WalksS prog w A.in1 I fp wr G n P St)(S:Addr)(nf:S∉fp)(ys:List Str)(hn:ys.length=n)(hv:∀i v,P i v->∃z t,ys[i]?=some z/\v=.str z t)(room:n<=1000) :
   ∀ (k i : Nat) (s : Shared), n - i = k -> i <= n -> St i s -> o6 prog w s.heap S (ys.take i) ->
     (∀s',Moved (S::wr) G s s'->o6 prog w s'.heap S ys->R (.ok (.ret .none)) s')->
     K3 (model prog w) A (.builtin "set.update.loop" ⟨[.ref S,.ref I],[]⟩) R s:=by
 have nw:S∉wr:=fun h=>nf (Wk.sub _ h);have sub:∀b∈wr,b∈S::wr:=fun b hb=>B5 _ hb;intro k
 induction k with
 | zero =>
   intro i s hk hi st so fin;have ei:i=n:=by omega
   subst ei;refine X4 DY ?_;rw [c6 u8 _];refine A0 (m:=pyNext (.ref I)) (Wk.done s _ _ st fun s' mv=>?_);refine A4 (fin s' (mv.mono sub) ?_);rw [X8 (by omega)] at so;exact so.at' fun o e=>mv.heap S _ nw e
 | succ k ih =>
   intro i s hk hi st so fin;have lt:i < n:=by omega
   refine X4 DY ?_;rw [c6 u8 _];refine A0 (m:=pyNext (.ref I)) (Wk.item i s _ _ lt st fun v s' pv' st' mv=>?_);obtain⟨z,t,hz,rfl⟩:=hv i v pv';obtain⟨o,es,ep,tb,S1,S2,S3⟩:o6 prog w s'.heap S (ys.take i):=so.at' fun o e=>mv.heap S _ nw e;rw [L0] at S3;have et:ys.take (i + 1)=ys.take i++[z]:=by rw [Ca,hz];rfl
   have el:(ys.take (i + 1)).length=i + 1:=by rw [L0];omega
   refine A0 (m:=R1 [.str z t] (setAdd S (.str z t))) (J5 ?_);unfold setAdd;refine J5 (A0 ((E8 prog w).pyHash (k:=.inr z) (At prog w z t) ?_))
   have next:∀h',Q2 S s'.heap h'->o6 prog w h' S (ys.take (i + 1))->K3 (model prog w) A (.builtin "set.update.loop" ⟨[.ref S,.ref I],[]⟩) R { s' with heap:=h',toks:=s'.toks + 1 }:=fun h' sb so3=>by
     refine ih (i + 1) _ (by omega) lt (Wk.frame _ s' _ _ st' (A_ _) fun b hb o e=>?_) so3 fun s2 mv2 so4=>?_
     · rw [sb.2 b (fun z:b=S=>nf (by rw [<- z];exact hb))];exact e
     · refine fin s2 (Moved.trans Wk.gtrans ((mv.mono sub).then_heap (A_ _) fun b o hb e=>?_) mv2) so4;rw [sb.2 b (fun z:b=S=>hb (by rw [z];exact B8))];exact e
   refine Ra (s:={ s' with toks:=s'.toks + 1 }) S1 (by omega) (fun hin=>?_) fun h' o' es' ep' t' sb S1' mm sz=>?_
   · refine A4 ⟨Z5 u8 _,next s'.heap (Ge _ _) ⟨o,es,ep,tb,S1,fun y=>?_,by omega⟩⟩;rw [et,K6,F2,<- S2 y];exact⟨.inl,fun h=>h.elim id fun e=>by rw [e];exact hin⟩
   · refine A4 ⟨Z5 u8 _,next h' sb ⟨o',es',ep',t',S1',fun y=>?_,by omega⟩⟩;rw [et,K6,F2,<- S2 y,mm y,or_comm]
end
section
variable {prog:B2}{w:World}{A:Around}{E:Value->Shared->Prop}{s:Shared}
theorem Re {a:Addr}{its:Array Value}{ys:List Str}{Q:Value->Shared->Prop}(hd:A.handled=none)(ht:s.heap.IsList a its\/s.heap.IsTuple a its)(hv:Vals (ys.map V.str) its.toList)(room:ys.length<=1000)
   (fin:∀(h':Heap) (tk:Nat),o6 prog w h' s.heap.objs.size ys->
     (∀b o,b < s.heap.objs.size->s.heap.get? b=some o->h'.get? b=some o)->Q (.ref s.heap.objs.size) { s with heap:=h',toks:=tk }):wpAny (model prog w) A (call (.type "set") [.ref a]) Q E s:=by
 have sz:ys.length=its.size:=by have:=hv.length;rw [A7,F4] at this;exact this
 refine Kj hd ht (fun I St fp G s1 R led hl lI Wk nf h0 g1 kp k=>?_) fin;refine Rb Wk _ nf ys sz (fun i v e=>?_) (by omega) (its.size - 0) 0 s1 rfl (G4 _) h0 ⟨_,#[],0,.fresh 0 0 led,⟨g1,⟨rfl,rfl,rfl⟩,rfl,(fun _ z=>nomatch z),List.nodup_nil,by cases led <;> decide,hl,fun z=>absurd rfl z⟩,fun y=>Iff.rfl,G4 _⟩ k
 obtain⟨t,rfl⟩:=NY hv (by simpa using e);have hi:i < ys.length:=by rw [sz];exact(DQ.mp e).1
 refine⟨_,t,?_,rfl⟩;rw [M8,C4 hi];rfl
end
section
variable {X:Cx}
def SetT (X:Cx)(p:Addr)(ys:List Str):HO:=.ext fun h=>o6 X.prog X.w h p ys
theorem Rf (hc:X.calm=true):K1 X (.type "set") (fun vs H Q=>∃(a:Addr) (ys:List Str),vs=[.ref a]/\SqL X.K H a (ys.map V.str)/\ys.length<=1000/\∀p,H p=none->Q (.ref p) (upd H p (SetT X p ys))):=by
 intro pins s σ H vs us Q I rv h;obtain⟨a,ys,rfl,hq,hl,k⟩:=h;obtain⟨u,rfl,ru⟩:=rv.one;obtain rfl:u=.ref a:=ru;obtain⟨its,r,ht,_⟩:=I.list hq;refine Re (ys:=ys) (I.ok.hd hc) (.inl ht.isList) (by rw [DI];exact r) hl fun h' tk so kp=>?_
 have I1:Inv X pins σ (upd H s.heap.objs.size (SetT X s.heap.objs.size ys)) { s with heap:=h',toks:=tk }:=
   I.laid (fun b o e=>kp b o (B9 e) e) (A9 _) ⟨so,by obtain⟨o,_,_,_,S,_⟩:=so;exact⟨o,S.ho⟩,fun h1 h2 x k2=>x.at' fun o e=>k2 o e⟩
 exact⟨.ref s.heap.objs.size,_,I1,rfl,k _ (I.hok.fresh (A9 _))⟩
theorem Rg:K1 X (.builtin "len") (fun vs H Q=>∃p ys,vs=[.ref p]/\H p=some (SetT X p ys)/\ys.length < 64/\∀n:Nat,Q (.int n) H):=by
 intro pins s σ H vs us Q I rv h;obtain⟨p,ys,rfl,e,hl,q⟩:=h;obtain⟨u,rfl,ru⟩:=rv.one;obtain rfl:u=.ref p:=ru;obtain⟨⟨o,es,ep,t,S,_,S3⟩,_,_⟩:=I.hok p _ e;exact call_len_set S.ho S.ex S.hd S.fits (by omega) ⟨.int es.size,H,I.tok _,⟨_,rfl⟩,q _⟩
theorem call_sortedT (hc:X.calm=true):K1 X (.builtin "sorted") (fun vs H Q=>∃p ys,vs=[.ref p]/\H p=some (SetT X p ys)/\ys.length < 64/\
   ∀(l:Addr) (zs:List Str),H l=none->zs.Nodup->(∀z,z∈zs↔z∈ys)->Q (.ref l) (upd H l (.lst (outV (ltIx (zs.map fun z=>[.inr z])) (zs.map V.str))))):=by
 intro pins s σ H vs us Q I rv h;obtain⟨p,ys,rfl,e,hl,q⟩:=h;obtain⟨u,rfl,ru⟩:=rv.one;obtain rfl:u=.ref p:=ru;obtain⟨⟨o,es,ep,t,S,S2,S3⟩,_,_⟩:=I.hok p _ e;refine Lz (m:=1) (S.toV (by omega)) (I.ok.hd hc) es.toList (·.2) (fun e=>[.inr (strE e)]) rfl (by rw [F4];omega) (fun x hx=>?_) (fun x hx y hy=>?_) fun xs h2 d t2 D e pm k hD ho=>?_
 · obtain⟨z,k,rfl⟩:=S.el x hx;exact⟨z,k,rfl,rfl⟩
 · obtain⟨x',hx',rfl⟩:=C8.mp hx;obtain⟨y',hy',rfl⟩:=C8.mp hy;exact trivial
 · have vv:Vals ((xs.map strE).map V.str) (xs.map (·.2)):=by
     have hx:∀x∈xs,∃z k,x=((E8 X.prog X.w).hash (.inr z),Value.str z k):=fun x hx=>S.el x (pm.mem_iff.mp hx);clear pm ho
     induction xs with
     | nil=>exact .nil
     | cons x xs ih =>
       obtain⟨z,k,rfl⟩:=hx x B8;exact .cons ⟨k,rfl⟩ (ih fun y hy=>hx y (B5 _ hy))
   have ek:xs.map (fun e=>[(.inr (strE e):Key)])=(xs.map strE).map fun z=>[.inr z]:=by rw [O9];rfl
   rw [ek] at ho;have lx:xs.length=es.size:=by rw [pm.length_eq,F4]
   have vo:=EO vv (BF ((xs.map strE).map fun z=>[.inr z]));have hlo:(outV (ltIx ((xs.map strE).map fun z=>[.inr z])) ((xs.map strE).map V.str)).length<=B0:=LA (by rw [A7,A7];omega);have I1:=LC (I.laid (t':=t2) k hD (show G5 X.prog X.w _ h2 _ (.lst _) from⟨hlo,_,e,vo,ho⟩)) d;exact⟨.ref D,_,I1,rfl,q _ _ (I.hok.fresh hD) ((pm.map strE).nodup_iff.mpr S.nd) fun z=>(pm.map strE).mem_iff.trans (S2 z)⟩
def tSetF (K:A5)(t:TE)(ok:List Str->Hp->VK->Prop):TE:=fun σ H Q=>∃Q',t σ H Q'/\∀x H1,Q' x H1->∃(a:Addr) (ys:List Str),x=.ref a/\SqL K H1 a (ys.map V.str)/\ys.length < 64/\∀H2,Same H1 H2->ok ys H2 Q
theorem LE {x:Str}{id:String}{e:Expr}{t:TE}{p1 p2 pos pos2:Pos}{ok:List Str->Hp->VK->Prop}(cf:K1 X (.builtin id) (fun vs H Q=>∃p ys,vs=[.ref p]/\H p=some (SetT X p ys)/\ys.length < 64/\ok ys H Q))(hc:X.calm=true)(g1:Gl X x)(m1:X.mg x=none)(b1:N0 x=some (.builtin id))(g2:Gl X "set")(m2:X.mg "set"=none)(he:PE X e t)(hs:E4 [e] X.env=(false,eval e X.env)::E4 [] X.env)(hn:x≠"__name__")(hdb:(x == ("__debug__":Str))=false) :
   PE X (.Call (.Name x p1) [.Call (.Name "set" p2) [e] [] pos2] [] pos) (tSetF X.K t ok):=by
 have i1:=Bu (p:=p2) (pos:=pos2) (Rf hc) g2 m2 JA (F6 (pe_mo he) J1 hs) (by decide) (by decide) hs rfl;have i2:=v3 (p:=p1) (pos:=pos) cf g1 m1 b1 (F6 i1 J1 rfl) hn hdb rfl rfl;intro pins s σ H Q I ⟨Q',h1,h2⟩;refine i2 pins s σ H Q I ⟨Q',h1,fun x H1 hx=>?_⟩;obtain⟨a,ys,rfl,hq,hl,k⟩:=h2 x H1 hx;exact⟨a,ys,rfl,hq,by omega,fun p hn=>⟨p,ys,rfl,D9,hl,k _ ((Same.refl _).lay hn)⟩⟩
end
end SeT
namespace Pu
open PySem PySem.Spec L2
section
variable {T:PotK}{ι:Type}{K:A5}{F:ι->Cx}{pos:Pos}{e:Expr}{pe:pE}
def Dc:w1:=fun x R=>match x with | .lst xs=>(match W9 xs with | some ys=>ys.length < 64/\∀n:Nat,R (.int n) | none=>False) | _=>False
theorem Rh {p1 p2 pos2:Pos}(hc:∀z,(F z).calm=true)(g1:∀z,Gl (F z) "len")(m1:∀z,(F z).mg "len"=none)(g2:∀z,Gl (F z) "set")(m2:∀z,(F z).mg "set"=none)(he:QE T K F e pe)(hs:F8 e=true:=by rfl)(hK:∀z,(F z).K=K:=by intro _;rfl) :
   QE T K F (.Call (.Name "len" p1) [.Call (.Name "set" p2) [e] [] pos2] [] pos) (qUn Dc pe):=by
 obtain⟨t,h1,h2⟩:=he;refine⟨_,fun z=>hK z▸SeT.LE (ok:=fun ys H Q=>∀n:Nat,Q (.int n) H) SeT.Rg (hc z) (g1 z) (m1 z) Ek (g2 z) (m2 z) (h1 z) (D2 hs) (by decide) (by decide),fun C G σ H env n R Q hK hT S hp k=>?_⟩;refine⟨_,h2 C G σ H env n _ (fun v H'=>∃x env' n',Dc x (fun r=>R r env' n')/\SR C G σ H' env' n'/\Rep K G H' x v/\Fr G H H') hK hT S hp (fun x env' n' v H' r S' rv f=>⟨x,env',n',r,S',rv,f⟩),fun v H1 hx=>?_⟩;obtain⟨x,env1,n1,r,S1,rv,f1⟩:=hx;unfold Dc at r
 split at r
 · split at r
   · rename_i ys ey;obtain⟨a,vs,rfl,t,rs⟩:=rv;exact⟨a,ys,rfl,EE ey rs▸t.sq,r.1,fun H2 s2 n=>k _ _ _ _ _ (r.2 n) (S1.same s2) rfl (f1.trans (Fr.of s2))⟩
   · exact r.elim
 · exact r.elim
def HM (pe:pE):pA:=fun env n R=>pe env n fun x env1 n1=>match x with | .lst xs=>∃zs:List Str,xs=zs.map PV.str/\zs.length < 64/\∀ys,SrtS ys xs->R ys env1 n1 | _=>False
theorem Ri {p p2 pos2:Pos}(hc:∀z,(F z).calm=true)(hg:∀z,Gl (F z) "sorted")(hm:∀z,(F z).mg "sorted"=none)(hg2:∀z,Gl (F z) "set")(hm2:∀z,(F z).mg "set"=none)(ha:QR T K F e pe)(hs:F8 e=true:=by rfl)(hK:∀z,(F z).K=K:=by intro _;rfl) :
   QN T K F (.Call (.Name "sorted" p) [.Call (.Name "set" p2) [e] [] pos2] [] pos) (HM pe):=by
 obtain⟨t,h1,h2⟩:=ha;refine⟨_,fun z=>hK z▸SeT.LE (SeT.call_sortedT (hc z)) (hc z) (hg z) (hm z) GN (hg2 z) (hm2 z) (h1 z) (D2 hs) (by decide) (by decide),fun C G σ H env n R Q hK hT S hp k=>?_⟩;refine⟨fun v H1=>∃x env1 n1,(match x with | PV.lst xs=>∃zs:List Str,xs=zs.map PV.str/\zs.length < 64/\∀ys,SrtS ys xs->R ys env1 n1 | _=>False)/\SR C G σ H1 env1 n1/\RdS C G σ H1 env1 x v/\Fr G H H1,h2 C G σ H env n _ _ hK hT S hp fun x env1 n1 v H1 p1 S1 r1 f1=>⟨x,env1,n1,p1,S1,r1,f1⟩,fun v H1 ⟨x,env1,n1,p1,S1,r1,f1⟩=>?_⟩;have rd:RdV K G H1 x v:=hK▸r1.rd S1;cases x with
 | lst xs =>
   obtain⟨a,us,rfl,hq,r⟩:=rd.lst;obtain⟨ys,rfl,h64,q⟩:=p1;refine⟨a,ys,rfl,EE (JX ys) r▸hq,h64,fun H2 s2 l zs hl nd mz=>?_⟩
   have rz:Reps K G H2 (zs.map PV.str) (zs.map V.str):=by
     clear nd mz
     induction zs with
     | nil=>rfl
     | cons z zs ih=>exact⟨_,_,rfl,rfl,ih⟩
   have ro:=Hr rz;have ek:(zs.map PV.str).map keyP=zs.map fun z=>[.inr z]:=by rw [O9];rfl
   rw [ek] at ro;obtain⟨pp,pw⟩:=CU (zs.map PV.str);refine k _ _ _ _ _ _ (q _ ⟨pp.nodup_iff.mpr ?_,fun y=>?_,pw⟩) (S1.same s2) (f1.trans (Fr.of s2)) hl ro
   · rw [G7,R4];exact nd.imp fun hab h=>hab (by cases h;rfl)
   · rw [pp.mem_iff,C8,C8];exact⟨fun⟨z,hz,e⟩=>⟨z,(mz z).mp hz,e⟩,fun⟨z,hz,e⟩=>⟨z,(mz z).mpr hz,e⟩⟩
 | _=>exact p1.elim
end
end Pu
end
section
namespace L2
open PySem PySem.Spec PyProof.Rows
theorem Rj (l:Addr)(items:Array Value)(n:Nat)(b:Addr)(items2:Array Value)(hs0:¬(!items.isEmpty && Cj (items.size + items2.size))=true)(hs1:items.size<=B0)(hs2:items.size + items2.size<=B0 + 1) :
   Meets (M1.«list.extend» ⟨[.ref l,.ref b],[]⟩) (fun _ R s=>s.heap.get? l=some { cls:=.type "list",dict:=none,data:=.seq items n,slots:=#[] }/\s.heap.IsTuple b items2/\R (.ok (.ret N4)) { s with heap:=s.heap.update l (P9 fun x=>x++items2),toks:=s.toks }):=
 .of_wp fun prog w A R s h=>by
   obtain⟨hp,g,d,tk,os⟩:=s;obtain⟨hl,⟨⟨oc,od,odt,os'⟩,hb,hc,n2,hd⟩,h⟩:=h;cases hc;cases hd;have f1:=AutoSeq1.idx_int;have f2:=AutoSeq1.sub_tuple_tuple;have f3:=AutoSeq1.sub_list_list;have f4:=AutoSeq1.sub_tuple_list;have f5:=AutoSeq1.sub_list_tuple;have hz':(items++items2).size<=B0 + 1:=by rw [Array.size_append];exact hs2
   wp_walk using(wpAny_updateSeq hl rfl (hz:=hs1) (_hz':=hz')),wpAny_loadPart' hl,wpAny_loadPart' hb
   exact⟨_,rfl,h⟩
section
variable {X:Cx}
def rExtT (K:A5):V->List V->Hp->VK->Prop:=fun x vs H Q=>∃l b xs zs,x=.ref l/\vs=[.ref b]/\H l=some (.lst xs)/\SqT K H b zs/\xs.length + zs.length<=B0/\Q .non (upd H l (.lst (xs++zs)))
theorem Rk:MtM X "list.extend" (rExtT X.K):=by
 intro pins s σ H x vs v us Q I rx rv h;obtain⟨l,b,xs,zs,rfl,rfl,hH,hB,hz,q⟩:=h;cases rx;obtain⟨u,rfl,ru⟩:=rv.one;cases ru;obtain⟨z,its,n,r,hl,e⟩:=I.lstM hH;obtain⟨its2,r2,ht,hl2⟩:=I.tuple hB;have l2:=r2.length;have hsz:its.toArray.size + its2.toArray.size<=B0:=by rw [D8,D8];omega
 have hlong:¬(!its.toArray.isEmpty && Cj (its.toArray.size + its2.toArray.size))=true:=by
   rw [Jt hsz,DT];exact J3
 refine call_meets F.slot_list_extend ⟨_,e,rfl⟩ F.entry_list_extend (F.args_list_extend_2 _ _) (Rj l its.toArray n b its2.toArray hlong (by rw [D8];omega) (by omega)) ⟨e,ht,?_⟩;refine⟨.non,_,I.lset (its':=its++its2) hH e (by simp) (r.append r2) ?_,rfl,q⟩;rw [E2];omega
end
end L2
namespace Pu
open PySem PySem.Spec L2
section
variable {T:PotK}{ι:Type}{K:A5}{F:ι->Cx}{e:Expr}{pe:pE}{pos:Pos}
def Fs (i:Nat)(pe:pE):pE:=fun env n R=>(∃xs,env[i]?=some (some (.ow .lst xs)))/\pe env n fun y env1 n1=>match env1[i]?,y with | some (some (.ow .lst xs)),.tup ys=>xs.length + ys.length<=1000000/\R .non (env1.set i (some (.ow .lst (xs++ys)))) n1 | _,_=>False
theorem LF (i:Nat){x:Str}{p ap:Pos}(hv:∀z,EW (F z) (.Name x p) (tVar i))(he:QE T K F e pe)(hs:F8 e=true:=by rfl)(hbase:∀z,z0 (.Name x p) "extend" (F z).env (eval (.Name x p) (F z).env)=eval (.Name x p) (F z).env:=by intro _;rfl)(hline:(ap.endLine == pos.line)=true:=by rfl)
   (hfew:∀z,((backTo pos (E4 [e] (F z).env)).all (fun x=>!x.1) && (backToKw pos (AR [] (F z).env)).all (fun x=>x.1.isSome) && decide (([e]:List Expr).length + ([]:List X5).length + (if([]:List X5).isEmpty then 0 else 1) < 30))=true:=by intro _;rfl) (hK:∀z,(F z).K=K:=by intro _;rfl):QE T K F (.Call (.Attribute (.Name x p) "extend" ap) [e] [] pos) (Fs i pe):=by
 obtain⟨t,a1,a2⟩:=he;refine⟨tBM K "list" (rExtT K) (tVar i) (Y6 t tNil),fun z=>hK z▸Ej Ec PySem.F.slot_list_extend PySem.F.type_list_extend Rk (hv z).h (F6 (a1 z) J1 (D2 hs)) (hbase z) (hfew z) hline (D2 hs),fun C G σ H env n R Q hK hT S hp k=>?_⟩;obtain⟨⟨xs0,e0⟩,hp⟩:=hp;obtain⟨a,vs,ev,h1,h2,h3,h4,r⟩:=S.slots i _ e0;refine⟨.ref a,ev,.inl ⟨rfl,vs,SqL.of h4⟩,?_⟩;refine a2 C G σ H env n _ _ hK hT S hp fun y env1 n1 v H1 q1 S1 r1 f1=>?_
 split at q1
 · rename_i xs ys ex;obtain⟨a',us,ev',g1,g2,g3,g4,r'⟩:=S1.slots i _ ex;rw [ev] at ev';cases ev';subst hK;obtain⟨b,ws,rfl,tb,rb⟩:=r1;obtain⟨S2,f2⟩:=S1.put ex ev (r'.append rb);exact⟨a,b,us,ws,rfl,rfl,g4,SqT.of tb.2,by rw [<- r'.length,<- rb.length];exact mil q1.1,k _ _ _ _ _ q1.2 S2 rfl (f1.trans f2)⟩
 · exact q1.elim
end
end Pu
end
section
namespace Pu
open PySem PySem.Spec L2
def frzS:Slot->Option Slot
 | .v x=>some (.v x)
 | .ow .lst xs=>some (.v (.lst xs))
 | .ow (.dk ks) xs=>if ks.length=xs.length then some (.v (.dct ks xs)) else none
 | .ow (.dt _) _=>none
 | .ow (.st _) _=>none
def frz (env:Env):Env:=env.map fun o=>o.bind frzS
end Pu
end
section
namespace Pu
open PySem PySem.Spec L2
abbrev pSlN:=Env->Nat->(List Slot->Env->Nat->Prop)->Prop
def Gots (C:Ct)(G:Gh)(H:Hp)(σ:St)(env:Env):List Slot->List V->Prop
 | [],vs=>vs=[]
 | s::ss,vs=>∃v r,vs=v::r/\Got C G H σ env s v/\(∀(xs:OK×List PV) a,s=.ow xs.1 xs.2->v=.ref a->∀(ys:OK×List PV) w,(Slot.ow ys.1 ys.2,w)∈ss.zip r->w≠.ref a)/\Gots C G H σ env ss r
section
variable {T:PotK}{np:Bool}{ι:Type}{K:A5}{F:ι->Cx}{e:Expr}{es:List Expr}{st:Stmt}{s1:pSl}{sl:pSlN}{pos:Pos}
theorem Gots.set {C:Ct}{G:Gh}{H:Hp}{σ:St}{env:Env}{i:Nat}{s0:Slot}{v0:V}(hl:env.length=σ.length):∀{ss:List Slot} {vs:List V},Gots C G H σ env ss vs->(∀(xs:OK×List PV) a,s0=.ow xs.1 xs.2->v0=.ref a->∀(ys:OK×List PV) w,(Slot.ow ys.1 ys.2,w)∈ss.zip vs->w≠.ref a)->Gots C G H (σ.set i (some v0)) (env.set i (some s0)) ss vs
 | [],_,h,_=>h
 | s :: ss, vs, h, no => by
   obtain⟨v,r,rfl,g,ne,h⟩:=h;refine⟨v,r,rfl,⟨g.1,fun xs a e1 e2 z=>?_⟩,ne,Gots.set hl h fun xs a e1 e2 ys w hw=>no xs a e1 e2 ys w (by rw [Af];exact B5 _ hw)⟩;rcases GZ hl z with z | ⟨⟨zs,ez⟩,ev⟩
   · exact g.2 xs a e1 e2 z
   · exact no zs a ez ev xs v (by rw [Af,e1];exact B8) e2
end
end Pu
end
section
namespace L2
open PySem PySem.Spec PyProof.Rows
section
variable {prog:B2}{w:World}{A:Around}{E:Value->Shared->Prop}{s:Shared}
theorem Rm {it t:Addr}{items:Array Value}(hne:t≠it):∀(n i:Nat) (s:Shared) (Q:List Value->Shared->Prop),s.heap.IsListIter it t i->s.heap.IsList t items->i + n<=items.size->
   (∀h':Heap,h'.IsListIter it t (i + n)->Q2 it s.heap h'->Q ((items.toList.drop i).take n) { s with heap:=h' })->wpAny (model prog w) A (draw (.ref it) n) Q E s:=by
 intro xq
 induction xq with
 | zero =>
   intro i s Q hit _ _ hQ;show wpAny _ _ (pure []) Q E s;exact A4 (by simpa using hQ s.heap hit (Ge ..))
 | succ n ih =>
   intro i s Q hit ht hle hQ;have hlt:i < items.size:=by omega
   show wpAny _ _ (pyNext (.ref it)>>=_) Q E s;refine A0 (FS hit ht (x:=items[i]) (by simp [hlt]) fun h₁ hit₁ hs₁=>?_);refine A0 (J5 (ih (i + 1) _ _ hit₁ (ht.extBut hs₁.extBut hne) (by omega) fun h₂ hit₂ hs₂=>A4 ?_));have hd:items.toList.drop i=items[i]::items.toList.drop (i + 1):=by simp [p9,hlt]
   have:=hQ h₂ (by rw [show i + (n + 1)=i + 1 + n by omega];exact hit₂) (hs₁.trans hs₂);rw [hd,List.take_succ_cons] at this;exact this
theorem Ro {env:Env}{elts:List Expr}{x1}{pos:Pos}{t:Addr}{items:Array Value}{Q:Unit->Shared->Prop}(hh:A.handled=none)(ht:s.heap.IsList t items)
   (hn:(G0 elts env).length=items.size) (hstar:(G0 elts env).findIdx? (·.1)=none)
   (h:∀h',Heap.ExtBut s.heap.objs.size s.heap h'->wpAny (model prog w) A (assignInOrder ((G0 elts env).map (·.2)) items.toList) Q E { s with heap:=h' }) :
   wpAny (model prog w) A (assign (.Tuple elts x1 pos) env (.ref t)) Q E s:=by
 rw [assign_Tuple];refine A0 (Z4 ?_);have hlt:t≠s.heap.objs.size:=by obtain⟨o,ho,_⟩:=ht;exact D0 (B9 ho)
 unfold unpack;rw [hn,hstar];refine A0 (J5 ?_);unfold unpackItems;refine A0 ?_;unfold notIterableAtAll;refine A0 (BU ht.typeIs slot_list_iter.lookup ?_);refine A4 ?_;simp only [J7,if_false];refine A0 (J5 (BS ht ?_));refine A0 (J5 (Rm hlt items.size 0 _ _ ⟨_,E1 _ rfl,rfl,rfl⟩ (ht.push _) (by omega) fun h₁ hit₁ hs₁=>?_))
 have hall:List.take items.size (List.drop 0 items.toList)=items.toList:=by
   rw [Ag];exact X8 (by simp)
 rw [hall];rw [if_neg (by simp)];have ht₁:h₁.IsList t items:=(ht.push _).extBut hs₁.extBut hlt;refine A0 (J5 (FV hh hit₁ ht₁ (by simp) fun h₂ he₂=>?_));simp only [Option.isSome_none,J7,if_false];exact A4 (h h₂ fun b o hb e=>he₂ b o hb (hs₁.extBut b o hb (B6 _ e)))
end
section
variable {X:Cx}{pos:Pos}
def gLst (K:A5)(n:Nat)(t:TGs):TG:=fun v σ H Q=>∃a xs,v=.ref a/\SqL K H a xs/\xs.length=n/\t xs σ H Q
theorem pg_lst {es:List Expr}{k:Nat}{t:TGs}{n:Nat}(hc:X.calm=true)(h:PGs X es t)
   (hn:(G0 es X.env).length=n:=by rfl) (hst:(G0 es X.env).findIdx? (·.1)=none:=by rfl):PG X (.Tuple es k pos) (gLst X.K n t):=by
 intro pins s σ H v u Q I r hw;obtain⟨a,xs,e1,hq,hl,hw⟩:=hw;subst e1;cases r;obtain⟨its,rv,ht⟩:=I.sqL hq;refine Ro (I.ok.hd hc) ht (by simp [hn,<- hl,rv.length]) hst fun h' hx=>?_;have I1:Inv X pins σ H { s with heap:=h' }:=I.kept (t':=s.toks) fun b o e=>hx b o (D0 (B9 e)) e;exact h pins _ σ H xs _ Q I1 (by simpa using rv) hw
end
end L2
namespace Pu
open PySem PySem.Spec L2
section
variable {ι:Type}{K:A5}{F:ι->Cx}{es:List Expr}{pgs:pGs}{pos:Pos}
def gTl (m:Nat)(g:pGs):pG:=fun x env R=>match x with | .lst xs=>xs.length=m/\g xs env R | _=>False
theorem qg_lst {m:Nat}{k:Nat}(hc:∀z,(F z).calm=true)(h:QGs K F es pgs)(hn:∀z,(G0 es (F z).env).length=m:=by intro _;rfl)(hst:∀z,(G0 es (F z).env).findIdx? (·.1)=none:=by intro _;rfl)(hK:∀z,(F z).K=K:=by intro _;rfl):QG K F (.Tuple es k pos) (gTl m pgs):=by
 obtain⟨g,a1,a2⟩:=h;refine⟨_,fun z=>hK z▸pg_lst (hc z) (a1 z) (hn z) (hst z),fun C G σ H env n x v R Q hK S r hp k=>?_⟩;cases x with
 | lst xs =>
   obtain⟨a,vs,rfl,t,rs⟩:=r;exact⟨a,vs,rfl,t.sq,by rw [<- rs.length];exact hp.1,a2 C G σ H env n xs vs _ _ hK S rs hp.2 k⟩
 | _=>exact hp.elim
end
end Pu
end
section
namespace L2
open PySem PySem.Spec PyProof.Rows
abbrev LC2 (elt t1 i1 t2 i2:Expr)(ifs:List Expr)(scope:Scope)(pos:Pos):Expr:=.ListComp elt [⟨t1,i1,[],0⟩,⟨t2,i2,ifs,0⟩] scope pos
theorem Rp (elt t1 i1 t2 i2:Expr)(ifs:List Expr)(scope:Scope)(pos:Pos)(it acc:Value)(env:Env) :
   compTurn (LC2 elt t1 i1 t2 i2 ifs scope pos) 1 it acc env=(do
     Z6 i2.pos
     match ← pyNext it with
     | none=>pure (.done .next)
     | some v =>
       o9 t2 it v
       assign t2 env v
       let mut ok:=true
       for c in ifs do
         if ok then ok ← isTrue c env (eval c env)
       if ok then
         (do let _ ← call (.builtin "list.append") [acc,<- eval elt env])
       again (.compLoop (LC2 elt t1 i1 t2 i2 ifs scope pos) 1 it acc env)):=by rfl
section
variable {prog:B2}{w:World}{A:Around}{R:Result->Shared->Prop}{s:Shared}{elt t1 i1 t2 i2:Expr}{ifs:List Expr}{scope:Scope}{pos:Pos}{it acc:Value}{env:Env}
theorem loop_i (I:Nat->Shared->Prop)
   (turn:∀n s,I n s->wpAny (model prog w) A (pyNext it) (fun r s₁=>match r with
     | none=>R (.ok .next) s₁
     | some v=>wpAny (model prog w) A (o9 t2 it v) (fun _ s₁'=>wpAny (model prog w) A (assign t2 env v) (fun _ s₂=>
         wpAny (model prog w) A (forIn ifs true fun c r=>if r=true then do let ok ← isTrue c env (eval c env);pure (u9 ok) else pure (u9 r)) (fun ok s₃=>
           if ok=true then wpAny (model prog w) A (eval elt env) (fun x s₄=>
             wpAny (model prog w) A (call (.builtin "list.append") [acc,x]) (fun _ s₅=>∃m,m < n/\I m s₅) (fun _ _=>False) s₄) (fun _ _=>False) s₃
           else ∃m,m < n/\I m s₃) (fun _ _=>False) s₂) (fun _ _=>False) s₁') (fun _ _=>False) s₁) (fun _ _=>False) s)
   (n:Nat) (h:I n s):K3 (model prog w) A (.compLoop (LC2 elt t1 i1 t2 i2 ifs scope pos) 1 it acc env) R s:=by
 refine codeAny_loop rfl I (fun n s hI=>?_) n h;show wpAny _ A ((compTurn (LC2 elt t1 i1 t2 i2 ifs scope pos) 1 it acc env).onRaise (fun x=>do noteFrame x env;theTreesLotGoes x)) _ _ s;refine wpAny_noted ?_;rw [Rp];refine A0 (Z4 (A0 (F9 (turn n s hI) (fun r s₁ h₁=>?_) fun _ _ h'=>h'.elim)));cases r with
 | none=>exact A4 h₁
 | some v =>
   refine A0 (F9 h₁ (fun _ s₁' h₁'=>?_) fun _ _ h'=>h'.elim);refine A0 (F9 h₁' (fun _ s₂ h₂=>A0 (F9 h₂ (fun ok s₃ h₃=>?_) fun _ _ h'=>h'.elim)) fun _ _ h'=>h'.elim);cases ok with
   | false=>exact A4 ⟨rfl,h₃⟩
   | true =>
     exact A0 (A0 (F9 h₃ (fun x s₄ h₄=>A0 (F9 h₄ (fun _ s₅ h₅=>A4 (A4 ⟨rfl,h₅⟩)) fun _ _ h'=>h'.elim)) fun _ _ h'=>h'.elim))
theorem Rq (h0:K3 (model prog w) A (.compLoop (LC2 elt t1 i1 t2 i2 ifs scope pos) 1 it acc env) R s)
   (h:wpAny (model prog w) A (pyIter it) (fun it' s'=>K3 (model prog w) A (.compLoop (LC2 elt t1 i1 t2 i2 ifs scope pos) 1 it' acc env) R s') (fun _ _=>False) s) :
   K3 (model prog w) A (.compStart (LC2 elt t1 i1 t2 i2 ifs scope pos) 1 it acc env) R s:=by
 refine DB ?_;show wpAny _ _ ((compStart (LC2 elt t1 i1 t2 i2 ifs scope pos) 1 it acc env).onRaise (fun x=>do noteFrame x env;Z6 theWindowsPlace)) _ _ s;refine wpAny_notedAt ?_;unfold compStart;show wpAny _ _ (ask>>=_) _ _ s;refine A0 (Dv (wpAny_ite ?_))
 split
 · first
     | exact A0 (A4 (A4 (And.intro rfl h0)))
     | exact A4 (And.intro rfl h0)
 · first
     | exact A0 (V9 (A0 (Z4 (A0 (F9 h (fun it' s' h'=>A4 (And.intro rfl h')) fun _ _ x=>x.elim)))))
     | (refine A0 (V9 ?_);show wpAny _ _ (Z6 i2.pos>>=_) _ _ s;exact A0 (Z4 (A0 (F9 h (fun it' s' h'=>A4 (And.intro rfl h')) fun _ _ x=>x.elim))))
theorem loop_o (hs:∀x,V6 i2 env x=pure x)(I:Nat->Shared->Prop)
   (turn:∀n s,I n s->wpAny (model prog w) A (pyNext it) (fun r s₁=>match r with
     | none=>R (.ok .next) s₁
     | some v=>wpAny (model prog w) A (o9 t1 it v) (fun _ s₁'=>wpAny (model prog w) A (assign t1 env v) (fun _ s₂=>
         wpAny (model prog w) A (eval i2 env) (fun x s₃=>wpAny (model prog w) A (pyIter x) (fun it2 s₄=>
           K3 (model prog w) A (.compStart (LC2 elt t1 i1 t2 i2 ifs scope pos) 1 it2 acc env) (fun r s'=>r=.ok .next/\∃m,m < n/\I m s') s₄) (fun _ _=>False) s₃) (fun _ _=>False) s₂) (fun _ _=>False) s₁') (fun _ _=>False) s₁) (fun _ _=>False) s)
   (n:Nat) (h:I n s):K3 (model prog w) A (.compLoop (LC2 elt t1 i1 t2 i2 ifs scope pos) 0 it acc env) R s:=by
 refine codeAny_loop rfl I (fun n s hI=>?_) n h;show wpAny _ A ((compTurn (LC2 elt t1 i1 t2 i2 ifs scope pos) 0 it acc env).onRaise (fun x=>do noteFrame x env;theTreesLotGoes x)) _ _ s;refine wpAny_noted ?_;unfold compTurn;show wpAny _ _ (Z6 i1.pos>>=_) _ _ s;refine A0 (Z4 ?_);refine A0 (F9 (turn n s hI) (fun r s₁ h₁=>?_) fun _ _ h'=>h'.elim);cases r with
 | none=>exact A4 h₁
 | some v =>
   refine A0 (F9 h₁ (fun _ s₁' h₁'=>?_) fun _ _ h'=>h'.elim);refine A0 (F9 h₁' (fun _ s₂ h₂=>A0 (wpAny_tests_nil ?_)) fun _ _ h'=>h'.elim);refine A0 (F9 h₂ (fun x s₃ h₃=>?_) fun _ _ h'=>h'.elim);refine A0 (Z4 ?_);show wpAny _ _ (V6 i2 env x>>=fun x=>(R1 [x] (pyIter x)>>=fun it2=>(runOwn (.compStart (LC2 elt t1 i1 t2 i2 ifs scope pos) 1 it2 acc env) env>>=fun _=>again (.compLoop (LC2 elt t1 i1 t2 i2 ifs scope pos) 0 it acc env)))) _ _ _;refine A0 (O7 (hs x) (A0 (J5 (F9 h₃ (fun it2 s₄ h₄=>?_) fun _ _ h'=>h'.elim))));refine A0 (wpAny_runOwn ?_);rw [Around.mark_none];refine p7 h₄ fun r s' hr=>?_;obtain⟨rfl,hr⟩:=hr;exact A4 ⟨rfl,hr⟩
end
def LG (J:It)(g:TG)(tt:TT)(te:TE)(D:Addr)(N:St->Hp->Prop)(σ:St)(H:Hp):Prop:=∃W:Nat->Nat->St->Hp->Prop,(∃m,W 0 m σ H)/\
 ∀i m σ' H',W i m σ' H'->(J.stop i H'/\N σ' H')\/(J.go i H'/\∀x H2,J.yld i H' x H2->g x σ' H2 fun σ3 H3=>tt σ3 H3 fun b H4=>
    if b=true then te σ3 H4 fun v H5=>∃ys,H5 D=some (.lst ys)/\ys.length < B0/\∃m',m' < m/\W (i + 1) m' σ3 (upd H5 D (.lst (ys++[v])))
    else ∃m',m' < m/\W (i + 1) m' σ3 H4)
def LH (J:It)(g1:TG)(wi2:TI)(g2:TG)(tt:TT)(te:TE)(Q:VK)(D:Addr)(σc:St)(H1:Hp):Prop:=∃W:Nat->Nat->St->Hp->Prop,(∃m,W 0 m σc H1)/\
 ∀i m σ' H',W i m σ' H'->(J.stop i H'/\Q (.ref D) H')\/(J.go i H'/\∀x H2,J.yld i H' x H2->g1 x σ' H2 fun σ3 H3=>wi2 σ3 H3 fun J2 H4=>LG J2 g2 tt te D (fun σ5 H5=>∃m',m' < m/\W (i + 1) m' σ5 H5) σ3 H4)
def tComp2 (cs:List (Option Nat))(wi:TI)(g1:TG)(wi2:TI)(g2:TG)(tt:TT)(te:TE):TE:=fun σ H Q=>wi σ H fun J H1=>∀D,H1 D=none->LH J g1 wi2 g2 tt te Q D (Bv cs σ) (upd H1 D (.lst []))
theorem Rr {X:Cx}{scope:Scope}{cl:List (Str×Addr)}{N:List Str}{cs:List (Option Nat)}{elt t1 i1 t2 i2:Expr}{ifs:List Expr}{pos:Pos}{wi1 wi2:TI}{g1 g2:TG}{tt:TT}{te:TE}(S:v4 X scope cl N cs)(hc:X.calm=true)(hi:PI X t1 i1 wi1)
   (hb:∀(fp:List Addr) (C:Addr) (s:Shared) (H:Hp),PG (E7 X scope cl N fp C s H) t1 g1/\PI (E7 X scope cl N fp C s H) t2 i2 wi2/\PG (E7 X scope cl N fp C s H) t2 g2/\PIf (E7 X scope cl N fp C s H) ifs tt/\PE (E7 X scope cl N fp C s H) elt te)
   (hs2:∀fp C s H x,V6 i2 (E7 X scope cl N fp C s H).env x=pure x)
   (hs:∀x,V6 i1 X.env x=pure x:=by intro _;rfl) :
   PE X (LC2 elt t1 i1 t2 i2 ifs scope pos) (tComp2 cs wi1 g1 wi2 g2 tt te):=by
 intro pins s σ H Q I h;rw [eval_ListComp];refine FR (use:=none) rfl hs S.clos S.kind S.names (thn (hi pins s σ H _ I h) fun v s1 h1=>thn h1 fun itv s2 h2=>?_);obtain⟨it,fp,tn,J,H2,rfl,I2,T,st2,f2,q⟩:=h2
 have ho:∀b∈fp,∃o,s2.heap.get? b=some o:=fun b hb=>by
   obtain⟨o,e,_⟩:=T.obj 0 _ st2 b hb;exact⟨o,e⟩
 refine J8 (wpAny_newFunctionEnv S.nocell (by intro y hy;simp at hy) (fun h₁ hns₁ hsb₁=>?_) S.kind);dsimp only at hns₁ hsb₁ ⊢;have hC:(s2.heap.push { cls:=.type "list",dict:=none,data:=.seq ([]:List Value).toArray }).objs.size=s2.heap.objs.size + 1:=by rw [W4]
 generalize hH2:s2.heap.push { cls:=.type "list",dict:=none,data:=.seq ([]:List Value).toArray }=hp2 at hns₁ hsb₁ hC ⊢;have old:∀b o,s2.heap.get? b=some o->h₁.get? b=some o:=fun b o e=>hsb₁.extBut b o (by rw [hC];exact D0 (W7 (B9 e))) (B6 _ (hH2▸B6 _ e));have hD:h₁.get? s2.heap.objs.size=some { cls:=.type "list",data:=.seq ([]:List Value).toArray }:=hsb₁.extBut _ _ (by rw [hC];exact D0 (Ai _)) (B6 _ (hH2▸E1 _ rfl));rw [hC] at hns₁ ⊢;obtain⟨W,⟨m0,w0⟩,turn⟩:=q s2.heap.objs.size I2.fresh;have Ic:=GJ S (tk:=s2.toks + ([]:List (Str×Value)).length) I2 f2 ho old hns₁ hD;have nstk:∀b,b≠X.env.locals->b∉X.fs->b∉frs X.stack:=fun b h1 h2 hb=>(B7.mp (I2.stkSub b hb)).elim h1 h2
 have stat:∀{H':Hp},(∀b∈fp,H' b=none)->∀b∈fp,FpOk (E7 X scope cl N fp (s2.heap.objs.size + 1) s2 H2) pins H' b:=fun hn b hb=>by
   obtain⟨o,e⟩:=ho b hb;exact⟨hn b hb,D0 (W7 (B9 e)),nstk b (f2 b hb).2.1 (f2 b hb).2.2.1,.inl hb,fun x c ec=>(f2 b hb).2.2.2.2.1 x c (S.sub x c ec),(f2 b hb).2.2.2.2.2⟩
 obtain⟨hg,hi2,hg2,hf,he⟩:=hb fp (s2.heap.objs.size + 1) s2 H2;have st1:tn 0 h₁:=T.keep _ _ _ st2 fun b hb o e=>old b o e
 have fr1:∀b∈fp,upd H2 s2.heap.objs.size (.lst []) b=none:=fun b hb=>by
   obtain⟨o,e⟩:=ho b hb;rw [C7 (D0 (B9 e))];exact(f2 b hb).1
 have loop:∀s₃:Shared,s₃={ s2 with heap:=h₁,toks:=s2.toks + ([]:List (Str×Value)).length }->
     K3 (model X.prog X.w) X.A (.compLoop (LC2 elt t1 i1 t2 i2 ifs scope pos) 0 (.ref it) (.ref s2.heap.objs.size) (compEnvC scope cl (s2.heap.objs.size + 1) X.env))
       (compPost (model X.prog X.w) X.A X.xe none (EP X pins σ Q) (.ref s2.heap.objs.size) (s2.heap.objs.size + 1)) s₃:=by
   rintro s₃ rfl;refine loop_o (hs2 fp (s2.heap.objs.size + 1) s2 H2) (fun n s'=>∃i σ' H',Inv (E7 X scope cl N fp (s2.heap.objs.size + 1) s2 H2) pins σ' H' s'/\tn i s'.heap/\(∀b∈fp,H' b=none)/\W i n σ' H') ?_ m0 ⟨0,_,_,Ic,st1,fr1,w0⟩;rintro n s3 ⟨i,σ3,H3,I3,st3,fr3,w3⟩;rcases turn i n σ3 H3 w3 with⟨stop,qn⟩ | ⟨go,step⟩
   · refine thn (T.done (E7 X scope cl N fp (s2.heap.objs.size + 1) s2 H2) rfl rfl rfl hc i pins s3 σ3 H3 (fun _ _=>False) I3 (stat fr3) st3 stop) fun r s4 ⟨hr,I4⟩=>?_;subst hr;obtain⟨m4,hn4,_⟩:=I4.loc;exact⟨m4,hn4,fun h' hs'=>⟨.ref s2.heap.objs.size,H3,Inv.uncomp I2 f2 I4 fun b hb=>hs'.2 b hb,rfl,qn⟩⟩
   · refine thn (T.item (E7 X scope cl N fp (s2.heap.objs.size + 1) s2 H2) rfl rfl rfl hc i pins s3 σ3 H3 (fun _ _=>False) I3 (stat fr3) st3 go) fun r s4 ⟨u,hr,h4⟩=>?_;subst hr;refine thn h4 fun _ s5 ⟨x,H5,I5,r5,y5,st5,fr5⟩=>?_;have I5':=I5.pinned (stat fr5) (T.obj _ _ st5);refine thn (hg _ s5 σ3 H5 x u _ I5' r5 (step x H5 y5)) fun _ s6 ⟨σ6,H6,I6,q6⟩=>?_;refine thn (hi2 _ s6 σ6 H6 _ I6 q6) fun v7 s7 h7=>thn h7 fun itv s8 h8=>?_;obtain⟨it2,fp2,tn2,J2,H8,rfl,I8,T2,st8,f8,W2,⟨m2,w2⟩,turn2⟩:=h8;have stat2:∀{H':Hp},(∀b∈fp2,H' b=none)->∀b∈fp2,FpOk (E7 X scope cl N fp (s2.heap.objs.size + 1) s2 H2) (pins++Br fp s5.heap) H' b:=fun hn b hb=>⟨hn b hb,(f8 b hb).2⟩
     have inner:K3 (model X.prog X.w) X.A (.compLoop (LC2 elt t1 i1 t2 i2 ifs scope pos) 1 (.ref it2) (.ref s2.heap.objs.size) (compEnvC scope cl (s2.heap.objs.size + 1) X.env)) (fun r s'=>r=.ok .next/\∃m,m < n/\∃i σ' H',Inv (E7 X scope cl N fp (s2.heap.objs.size + 1) s2 H2) pins σ' H' s'/\tn i s'.heap/\(∀b∈fp,H' b=none)/\W i m σ' H') s8:=by
       exact loop_i _ (GM (Y:=E7 X scope cl N fp (s2.heap.objs.size + 1) s2 H2) T2 hc stat2 hg2 hf he (fun s10 σ9 H9 I10 qn2=>⟨rfl,GK T st5 I10 qn2⟩) turn2) m2 ⟨0,σ6,H8,I8,st8,fun b hb=>(f8 b hb).1,w2⟩
     exact Rq inner (T2.self _ 0 _ _ _ st8 inner)
 exact FU (loop _ rfl) (T.self _ 0 _ _ _ st1 (loop _ rfl))
end L2
end
section
namespace Pu
open PySem PySem.Spec L2
def AJ (g:pG)(tt:pT)(te:pE):List PV->Env->Nat->(List PV->Env->Nat->Prop)->Prop
 | [],env,n,R=>R [] env n
 | x::xs,env,n,R=>g x env fun env1=>tt env1 n fun b env2 n2=>if b=true then te env2 n2 fun y env3 n3=>AJ g tt te xs env3 n3 fun ys e m=>R (y::ys) e m else AJ g tt te xs env2 n2 R
def BL (g1:pG)(pi2:pA)(g2:pG)(tt:pT)(te:pE):List PV->Env->Nat->(List PV->Nat->Prop)->Prop
 | [],_,n,R=>R [] n
 | x::xs,env,n,R=>g1 x env fun env1=>pi2 env1 n fun ys env2 n2=>ys.length<=1000/\AJ g2 tt te ys env2 n2 fun zs env3 n3=>BL g1 pi2 g2 tt te xs env3 n3 fun ws n4=>R (zs++ws) n4
def Dd (cs:List (Option Nat))(pi1:pA)(g1:pG)(pi2:pA)(g2:pG)(tt:pT)(te:pE):pA:=fun env n R=>pi1 env n fun xs env1 n1=>xs.length<=1000/\BL g1 pi2 g2 tt te xs (capV cs env1) n1 fun ys n2=>R ys env1 n2
theorem Rs {K:A5}{T:PotK}{J:It}{g:TG}{tt:TT}{te:TE}{pg:pG}{ptt:pT}{pte:pE}(hg:GOk K g pg)(ht:TOk K T tt ptt)(he:EOk K T te pte){G:Gh}{H1 H4:Hp}{ys:List PV}{D:Addr}(hJ:ItR K ⟨D::G.M,G.pots⟩ H4 J ys)(nD:D∉G.pots)(hD:H1 D=none){σ:St}{env:Env}{n:Nat}{acc:List PV}{us:List V}{P:List PV->Env->Nat->Prop}{N:St->Hp->Prop}(c:CI K T G H1 D σ H4 env n acc us)(hl:acc.length + ys.length<=1001000)(hc:AJ pg ptt pte ys env n P)
   (hN:∀zs env n us σ H,P zs env n->CI K T G H1 D σ H env n (acc++zs) us->zs.length<=ys.length->N σ H):LG J g tt te D N σ H4:=by
 refine⟨fun j m σ H'=>m=ys.length - j/\j<=ys.length/\∃env n zs us2,CI K T G H1 D σ H' env n (acc++zs) us2/\Fr ⟨D::G.M,G.pots⟩ H4 H'/\zs.length<=j/\AJ pg ptt pte (ys.drop j) env n fun ws e m=>P (zs++ws) e m,⟨ys.length,rfl,G4 _,env,n,[],us,by rw [W6];exact c,Fr.refl,A9 _,hc⟩,?_⟩;rintro j m σ5 H5 ⟨rfl,hj,env5,n5,zs,us5,c5,fr5,la5,hc5⟩;obtain⟨hgo5,hstop5⟩:=hJ _ H5 fr5 (fun a ha=>.inl ha) (fun _ _ e=>e) fun p hp=>c5.inn.sr.fresh hp
 by_cases hlt5:j < ys.length
 · obtain⟨u1,u2⟩:=hgo5 j _ (C4 hlt5);refine .inr ⟨u1,fun v6 H6 y6=>?_⟩;obtain⟨s6,rv6⟩:=u2 v6 H6 y6;rw [p9 hlt5] at hc5;have np:∀b,b∉D::G.M->b∉G.pots:=fun b hb z=>hb (c5.inn.pots b z).1;refine hg _ _ σ5 H6 env5 n5 ys[j] v6 _ _ rfl (c5.inn.sr.same s6) rv6 hc5 fun env7 σ7 hc7 S7=>?_;refine ht _ _ σ7 H6 env7 n5 _ _ rfl rfl S7 hc7 fun b env8 n8 H8 hc8 S8 f8=>?_;cases b with
   | false=>exact⟨ys.length - (j + 1),Cb _ _ hlt5,rfl,hlt5,env8,n8,zs,us5,c5.go nD S8,fun b o hb e=>S8.frame b o (np b hb) (fr5 b o hb e),Nat.le_succ_of_le la5,hc8⟩
   | true =>
     refine he _ _ σ7 H8 env8 n8 _ _ rfl rfl S8 hc8 fun y env9 n9 u H9 hc9 S9 r9 f9=>?_;have c9:=c5.go nD S9;have c10:=c9.add nD hD r9;rw [W5] at c10;refine⟨us5,c9.eD,by rw [<- c5.ra.length,E2];exact j6 (show _<=1001000 by omega) (by rw [M7];decide),ys.length - (j + 1),Cb _ _ hlt5,rfl,hlt5,env9,n9,zs++[y],us5++[u],c10,Fr.trans (fun b o hb e=>S9.frame b o (np b hb) (fr5 b o hb e)) (CI.fD _),by rw [E2];exact Nat.succ_le_succ la5,?_⟩;simp only [W5];exact hc9
 · obtain rfl:j=ys.length:=Nat.le_antisymm hj (Ah hlt5);rw [DN] at hc5;have h5:P (zs++[]) env5 n5:=hc5;rw [W6] at h5;exact .inl ⟨hstop5 _ (A9 _),hN zs env5 n5 us5 σ5 H5 h5 c5 la5⟩
theorem Rt {K:A5}{T:PotK}{J:It}{g1 g2:TG}{wi2:TI}{tt:TT}{te:TE}{pg1 pg2:pG}{pi2:pA}{ptt:pT}{pte:pE}(hg1:GOk K g1 pg1)(hi2:IOk K T wi2 pi2)(hg2:GOk K g2 pg2)(ht:TOk K T tt ptt)(he:EOk K T te pte){G:Gh}{H1:Hp}{xs:List PV}(hJ:ItR K G H1 J xs)(hl:xs.length<=1000)
   {σc:St} {env:Env} {n:Nat} {R:List PV->Nat->Prop} {Q:VK} {D:Addr} (hD:H1 D=none) (I0:Inn K T G σc H1 env n) (hp:BL pg1 pi2 pg2 ptt pte xs env n R)
   (hQ:∀ys n' us H',R ys n'->(∀p∈G.pots,T.at_ (D::G.M) H' p n')->(∀b o,b∉G.pots->H1 b=some o->H' b=some o)->H' D=some (.lst us)->Reps K ⟨D::G.M,G.pots⟩ H' ys us->Q (.ref D) H') :
   LH J g1 wi2 g2 tt te Q D σc (upd H1 D (.lst [])):=by
 have nD:D∉G.pots:=fun z=>I0.sr.fresh hD (I0.pots D z).1;refine⟨fun i m σ H=>m=xs.length - i/\i<=xs.length/\∃env n acc us,CI K T G H1 D σ H env n acc us/\acc.length<=1000 * i/\BL pg1 pi2 pg2 ptt pte (xs.drop i) env n fun ys n'=>R (acc++ys) n',⟨xs.length,rfl,G4 _,env,n,[],[],.start hD I0,A9 _,hp⟩,?_⟩;rintro i m σ H ⟨rfl,hi,env,n,acc,us,c,la,hc⟩;obtain⟨hgo,hstop⟩:=c.it hD hJ
 by_cases hlt:i < xs.length
 · obtain⟨gg1,gg2⟩:=hgo i _ (C4 hlt);refine .inr ⟨gg1,fun v H2 y=>?_⟩;obtain⟨s2,rv⟩:=gg2 v H2 y;rw [p9 hlt] at hc;refine hg1 _ _ σ H2 env n xs[i] v _ _ rfl (c.inn.sr.same s2) rv hc fun env1 σ1 hc1 S2=>?_;refine hi2 _ _ σ1 H2 env1 n _ _ rfl rfl S2 hc1 fun ys env2 n2 J2 H4 q4 S4 f4 hJ2=>?_;refine Rs hg2 ht he hJ2 nD hD (c.go nD S4) (by have:=q4.1;omega) q4.2 fun zs env5 n5 us5 σ5 H5 h5 c5 lz=>⟨xs.length - (i + 1),Cb _ _ hlt,rfl,hlt,env5,n5,acc++zs,us5,c5,by rw [E2];have:=q4.1;omega,?_⟩;simp only [W5];exact h5
 · obtain rfl:i=xs.length:=Nat.le_antisymm hi (Ah hlt);rw [DN] at hc;have hc':R (acc++[]) n:=hc;rw [W6] at hc';exact .inl ⟨hstop _ (A9 _),hQ _ n us H hc' (fun p hp=>(c.inn.pots p hp).2) c.kp c.eD c.ra⟩
section
variable {T:PotK}{ι:Type}{K:A5}{F:ι->Cx}{pg1 pg2:pG}{pos:Pos}
theorem HN {scope:Scope}{cl:ι->List (Str×Addr)}{N:List Str}{cs:List (Option Nat)}{elt t1 i1 t2 i2:Expr}{ifs:List Expr}{pi1 pi2:pA}{ptt:pT}{pte:pE}(S:∀z,v4 (F z) scope (cl z) N cs)(hc:∀z,(F z).calm=true)(hi:QI T K F t1 i1 pi1)
   (hg:QG K (fun y:ι×List Addr×Addr×Shared×Hp=>E7 (F y.1) scope (cl y.1) N y.2.1 y.2.2.1 y.2.2.2.1 y.2.2.2.2) t1 pg1)
   (hi2:QI T K (fun y:ι×List Addr×Addr×Shared×Hp=>E7 (F y.1) scope (cl y.1) N y.2.1 y.2.2.1 y.2.2.2.1 y.2.2.2.2) t2 i2 pi2)
   (hg2:QG K (fun y:ι×List Addr×Addr×Shared×Hp=>E7 (F y.1) scope (cl y.1) N y.2.1 y.2.2.1 y.2.2.2.1 y.2.2.2.2) t2 pg2)
   (ht:QIf T K (fun y:ι×List Addr×Addr×Shared×Hp=>E7 (F y.1) scope (cl y.1) N y.2.1 y.2.2.1 y.2.2.2.1 y.2.2.2.2) ifs ptt)
   (he:QE T K (fun y:ι×List Addr×Addr×Shared×Hp=>E7 (F y.1) scope (cl y.1) N y.2.1 y.2.2.1 y.2.2.2.1 y.2.2.2.2) elt pte)
   (hs:∀z x,V6 i1 (F z).env x=pure x:=by intro _ _;rfl) (hs2:∀z fp C s H x,V6 i2 (E7 (F z) scope (cl z) N fp C s H).env x=pure x:=by intro _ _ _ _ _ _;rfl):QN T K F (LC2 elt t1 i1 t2 i2 ifs scope pos) (Dd cs pi1 pg1 pi2 pg2 ptt pte):=by
 obtain⟨wi,i1',i2'⟩:=hi;obtain⟨g,hg0,hg⟩:=hg;obtain⟨wj,j1,j2⟩:=hi2;obtain⟨g2,hg20,hg2⟩:=hg2;obtain⟨tt,ht0,ht⟩:=ht;obtain⟨te,he0,he⟩:=he;refine⟨_,fun z=>Rr (S z) (hc z) (i1' z) (fun fp C s H=>⟨hg0 (z,fp,C,s,H),j1 (z,fp,C,s,H),hg20 (z,fp,C,s,H),ht0 (z,fp,C,s,H),he0 (z,fp,C,s,H)⟩) (hs2 z) (hs z),fun C G σ H env n R Q hK hT S hp k=>?_⟩;refine i2' C G σ H env n _ _ hK hT S hp fun xs env1 n1 J H1 p1 S1 f1 hJ=>?_;intro D hD;have hDM:=S1.fresh hD;refine Rt (G:=G) hg j2 hg2 ht he hJ p1.1 hD (hT▸hK▸GU S1 cs) p1.2 fun ys n2 us H' rr hpots hk eD ry=>?_;have nD:∀b o,H1 b=some o->b≠D:=fun b o e z=>by rw [z,hD] at e;cases e
 have hk2:∀b o,b∉G.pots->H1 b=some o->cutH H' D b=some o:=fun b o hb e=>by rw [U7 (nD b o e)];exact hk b o hb e
 have nc:∀b,b∉D::G.M->b≠D:=fun b hb z=>hb (by rw [z];exact B8);have np:∀p∈G.pots,p≠D:=fun p hp z=>hDM (z▸(S1.pots p hp).1)
 have Sb:SR C G σ (cutH H' D) env1 n2:=S1.call hk2 fun p hp=>by
   subst hT;have h2:=C.T.keep (hpots p hp) (H':=cutH H' D) (U7 (np p hp)) fun b o hb e=>by rw [U7 (nc b hb)];exact e
   exact C.T.more h2 fun a ha=>.inl (B5 _ ha)
 have:=k ys env1 n2 D us (cutH H' D) rr Sb (f1.trans fun b o hb e=>hk2 b o (fun z=>hb (S1.pots b z).1) e) (by unfold cutH;rw [if_pos rfl]) ?_
 · rw [GV eD] at this;exact this
 · exact Reps.mono (G:=⟨D::G.M,G.pots⟩) (fun b o hb e=>by rw [U7 (nc b hb)];exact e) (fun a ha=>.inl (B5 _ ha)) (fun _ _ e=>e) _ _ ry
end
end Pu
end
section
namespace L2
open PySem PySem.Spec PyProof.Rows
section
variable {X:Cx}{a b:Expr}{rest:List Expr}{ta tb:TE}{pos:Pos}
theorem pe_orT (ha:PE X a ta)(hb:PE X (.BoolOp .Or (b::rest) pos) tb):PE X (.BoolOp .Or (a::b::rest) pos) (fun σ H Q=>ta σ H fun x H1=>∃k,TruV X.K x H1 k/\if k=true then Q x H1 else tb σ H1 Q):=by
 intro pins s σ H Q I h;refine BoolOp_or (thn (ha pins s σ H _ I h) fun v s1 ⟨x,H1,I1,r1,q1⟩=>?_);refine thn (Je pins s1 σ H1 x v (fun k H=>if k=true then Q x H else tb σ H Q) I1 r1 q1) fun c s2 ⟨H2,I2,q2⟩=>?_;cases c with
 | false=>exact hb pins s2 σ H2 Q I2 q2
 | true=>exact⟨x,H2,I2,r1,q2⟩
end
end L2
namespace Pu
open PySem PySem.Spec L2
section
variable {T:PotK}{ι:Type}{K:A5}{F:ι->Cx}{a b:Expr}{rest:List Expr}{pa pb:pE}{pos:Pos}
def qOrT (pa pb:pE):pE:=fun env n R=>pa env n fun x env1 n1=>match EF x with | some b=>if b=true then R x env1 n1 else pb env1 n1 R | none=>False
theorem qe_orT (ha:QE T K F a pa)(hb:QE T K F (.BoolOp .Or (b::rest) pos) pb)(hK:∀z,(F z).K=K:=by intro _;rfl):QE T K F (.BoolOp .Or (a::b::rest) pos) (qOrT pa pb):=by
 obtain⟨t,a1,a2⟩:=ha;obtain⟨u,b1,b2⟩:=hb;refine⟨_,fun z=>hK z▸pe_orT (a1 z) (b1 z),fun C G σ H env n R Q hK hT S hp k=>?_⟩;refine a2 C G σ H env n _ _ hK hT S hp fun x env1 n1 v H1 q1 S1 r1 f1=>?_
 split at q1
 · rename_i c ec;refine⟨c,JZ ec (.inl r1),?_⟩;cases c with
   | true =>
     rw [if_pos rfl] at q1 ⊢;exact k _ _ _ _ _ q1 S1 r1 f1
   | false =>
     rw [if_neg J3] at q1 ⊢;exact b2 C G σ H1 env1 n1 _ _ hK hT S1 q1 fun y env2 n2 w H2 q2 S2 r2 f2=>k _ _ _ _ _ q2 S2 r2 (f1.trans f2)
 · exact q1.elim
end
end Pu
end
section
namespace Pu
open PySem PySem.Spec L2
theorem De {r:Int}:∀(m:List Mk) (k:Nat) (st:List Nat),st.Pairwise (fun a b=>b < a)->(∀p∈st,p < k)->run r k st m=some []->
   (∀i j,PE.t i j∈shE k st m->j < i/\k<=i/\(j∈st\/k<=j)/\(i:Int) - j - 1<=r/\i < k + m.length/\∀q,j < q->q < i->q∈(shE k st m).flatMap peB\/(q < k/\q∉st))/\
   ∀i j i' j',PE.t i j∈shE k st m->PE.t i' j'∈shE k st m->(i=i'/\j=j')\/i < j'\/i' < j\/(j < j'/\i' < i)\/(j' < j/\i < i')
 | [],k,st,_,_,_=>⟨fun i j h=>by simp [shE] at h,fun i j i' j' h=>by simp [shE] at h⟩
 | .t :: m, k, st, pw, hs, hr => by
   obtain⟨h1,h2⟩:=De m (k + 1) (k::st) (List.pairwise_cons.mpr ⟨hs,pw⟩) (fun p hp=>(B7.mp hp).elim (fun e=>by omega) fun hp=>by have:=hs p hp;omega) hr;refine⟨fun i j h=>?_,h2⟩;obtain⟨a,b,c,d,l,e⟩:=h1 i j h;rw [D3];refine⟨a,by omega,?_,d,by omega,fun q q1 q2=>?_⟩
   · rcases c with c | c
     · rcases B7.mp c with rfl | c
       · exact .inr (A9 _)
       · exact .inl c
     · exact .inr (by omega)
   · rcases e q q1 q2 with z | ⟨z1,z2⟩
     · exact .inl z
     · refine .inr ⟨?_,fun z=>z2 (B5 _ z)⟩;have:q≠k:=fun z=>z2 (by rw [z];exact B8);omega
 | .d :: m, k, st, pw, hs, hr => by
   obtain⟨h1,h2⟩:=De m (k + 1) st pw (fun p hp=>by have:=hs p hp;omega) hr;have un:shE k st (.d::m)=PE.d k::shE (k + 1) st m:=rfl;rw [un]
   have tl:∀{i j},PE.t i j∈PE.d k::shE (k + 1) st m->PE.t i j∈shE (k + 1) st m:=fun h=>by
     rcases B7.mp h with z | z
     · cases z
     · exact z
   refine⟨fun i j h=>?_,fun i j i' j' h h'=>h2 i j i' j' (tl h) (tl h')⟩;obtain⟨a,b,c,d,l,e⟩:=h1 i j (tl h);rw [D3,Q3];refine⟨a,by omega,c.imp id (fun z=>by omega),d,by omega,fun q q1 q2=>?_⟩;rcases e q q1 q2 with z | ⟨z1,z2⟩
   · exact .inl (P6 _ z)
   · by_cases c:q=k
     · exact .inl (Z9 _ (by rw [c];simp [peB]))
     · exact .inr ⟨by omega,z2⟩
 | .o::m,k,p::st,pw,hs,hr=>by cases hr
 | .o :: m, k, [], pw, hs, hr => by
   obtain⟨h1,h2⟩:=De m (k + 1) [] pw (fun p hp=>nomatch hp) hr;have un:shE k [] (.o::m)=shE (k + 1) [] m:=by simp [shE]
   rw [un];refine⟨fun i j h=>?_,h2⟩;obtain⟨a,b,c,d,l,e⟩:=h1 i j h;have cj:k + 1<=j:=c.elim (fun z=>nomatch z) id;rw [D3];refine⟨a,by omega,.inr (by omega),d,by omega,fun q q1 q2=>?_⟩;rcases e q q1 q2 with z | ⟨z1,z2⟩
   · exact .inl z
   · omega
 | .u::m,k,[],pw,hs,hr=>by cases hr
 | .u :: m, k, p :: st, pw, hs, hr => by
   have hr':(if(k:Int) - p - 1<=r then run r (k + 1) st m else none)=some []:=hr
   split at hr'
   case isFalse=>cases hr'
   case isTrue hpr=>
   obtain⟨pw1,pw2⟩:=List.pairwise_cons.mp pw;have hp:=hs p B8;obtain⟨h1,h2⟩:=De m (k + 1) st pw2 (fun q hq=>by have:=hs q (B5 _ hq);omega) hr';have un:shE k (p::st) (.u::m)=PE.t k p::shE (k + 1) st m:=rfl;rw [un]
   have tl:∀{i j},PE.t i j∈PE.t k p::shE (k + 1) st m->(i=k/\j=p)\/PE.t i j∈shE (k + 1) st m:=fun h=>by
     rcases B7.mp h with z | z
     · cases z;exact .inl ⟨rfl,rfl⟩
     · exact .inr z
   refine⟨fun i j h=>?_,fun i j i' j' h h'=>?_⟩
   · rw [D3,Q3];rcases tl h with⟨rfl,rfl⟩ | h
     · refine⟨hp,A9 _,.inl B8,hpr,by omega,fun q q1 q2=>.inr ⟨q2,fun z=>?_⟩⟩;rcases B7.mp z with z | z
       · omega
       · have:=pw1 q z;omega
     · obtain⟨a,b,c,d,l,e⟩:=h1 i j h;refine⟨a,by omega,c.imp (fun z=>B5 _ z) (fun z=>by omega),d,by omega,fun q q1 q2=>?_⟩;rcases e q q1 q2 with z | ⟨z1,z2⟩
       · exact .inl (P6 _ z)
       · by_cases c1:q=k
         · exact .inl (Z9 _ (by rw [c1];simp [peB]))
         · by_cases c2:q=p
           · exact .inl (Z9 _ (by rw [c2];simp [peB]))
           · refine .inr ⟨by omega,fun z=>?_⟩;rcases B7.mp z with z | z
             · exact c2 z
             · exact z2 z
   · have t1:=tl h;have t2:=tl h';clear h h';rcases t1 with⟨rfl,rfl⟩ | h
     · rcases t2 with⟨rfl,rfl⟩ | h'
       · exact .inl ⟨rfl,rfl⟩
       · obtain⟨a,b,c,_⟩:=h1 i' j' h';rcases c with c | c
         · have:=pw1 j' c;exact .inr (.inr (.inr (.inr ⟨by omega,by omega⟩)))
         · exact .inr (.inl (by omega))
     · rcases t2 with⟨rfl,rfl⟩ | h'
       · obtain⟨a,b,c,_⟩:=h1 i j h;rcases c with c | c
         · have:=pw1 j c;exact .inr (.inr (.inr (.inl ⟨by omega,by omega⟩)))
         · exact .inr (.inr (.inl (by omega)))
       · exact h2 i j i' j' h h'
def btwU (st:List Str)(x y:Str):List Str:=(st.take (max (ixS st x) (ixS st y))).drop (min (ixS st x) (ixS st y) + 1)
theorem HP {zs:List Str}(nd:zs.Nodup){i:Nat}(h:i < zs.length):ixS zs (nm zs i)=i:=Fd nd (V4 (KY h)).1 (o5 h)
theorem Ru {st:List Str}{x y:Str}(hx:x∈st)(hy:y∈st)(h:ixS st y < ixS st x):(btwU st x y).length=ixS st x - ixS st y - 1:=by
 have:=T6 hx;unfold btwU;rw [N9,L0];omega
theorem Ft {st:List Str}(nd:st.Nodup){x y z:Str}(hx:x∈st)(hy:y∈st):z∈btwU st x y↔z∈st/\min (ixS st x) (ixS st y) < ixS st z/\ixS st z < max (ixS st x) (ixS st y):=by
 unfold btwU;constructor
 · intro h;obtain⟨q,hq,e⟩:=Ga h;rw [N9,L0] at hq;rw [List.getElem_drop,List.getElem_take] at e;have hm:z∈st:=by rw [<- e];exact q8 _
   have ez:st[min (ixS st x) (ixS st y) + 1 + q]?=some z:=by rw [C4 (by omega),e]
   have:=Fd nd (V4 hm).1 ez;exact⟨hm,by omega,by omega⟩
 · rintro⟨hm,h1,h2⟩;have hl:=T6 hm;have e:=(V4 hm).1;refine G8 (i:=ixS st z - (min (ixS st x) (ixS st y) + 1)) ?_;rw [DK,show min (ixS st x) (ixS st y) + 1 + (ixS st z - (min (ixS st x) (ixS st y) + 1))=ixS st z by omega,List.getElem?_take,if_pos h2];exact e
structure T7 (r:Int)(st:List Str)(es:List Ev):Prop where
 fair:Fair st es
 ahead:∀x y,Ev.t x y∈es->ixS st y < ixS st x
 near:∀x y,Ev.t x y∈es->((btwU st x y).length:Int)<=r
 full:∀x y,Ev.t x y∈es->∀z∈btwU st x y,z∈es.flatMap evB
 plain:∀x y x' y',Ev.t x y∈es->Ev.t x' y'∈es->(x'∈btwU st x y↔y'∈btwU st x y)
theorem Fair.tx {st:List Str}{es:List Ev}(h:Fair st es){x y:Str}(he:Ev.t x y∈es):x∈st/\y∈st:=
 ⟨h.sub x (U3.mpr ⟨_,he,by simp [evB]⟩),h.sub y (U3.mpr ⟨_,he,by simp [evB]⟩)⟩
theorem T7.perm {r:Int}{st:List Str}{es es':List Ev}(h:T7 r st es)(p:es'.Perm es):T7 r st es':=
 ⟨h.fair.perm p,fun x y hx=>h.ahead x y (p.mem_iff.mp hx),fun x y hx=>h.near x y (p.mem_iff.mp hx),fun x y hx z hz=>(HB p).mem_iff.mpr (h.full x y (p.mem_iff.mp hx) z hz),fun x y x' y' hx hx'=>h.plain x y x' y' (p.mem_iff.mp hx) (p.mem_iff.mp hx')⟩
theorem Rv {r:Int}{zs:List Str}(nd:zs.Nodup){m:List Mk}(hl:m.length=zs.length)(hw:run r 0 [] m=some []):T7 r zs ((shE 0 [] m).map (evOf zs)):=by
 have fr:=Pw nd hl;obtain⟨h1,h2⟩:=De m 0 [] Go (fun _ z=>nomatch z) hw
 have ev:∀x y,Ev.t x y∈(shE 0 [] m).map (evOf zs)->∃i j,PE.t i j∈shE 0 [] m/\x=nm zs i/\y=nm zs j/\i < zs.length/\j < i/\ixS zs x=i/\ixS zs y=j:=fun x y h=>by
   obtain⟨e,he,q⟩:=C8.mp h;cases e with
   | d i=>cases q
   | t i j =>
     cases q;obtain⟨a,b,c,d,l,e⟩:=h1 i j he;exact⟨i,j,he,rfl,rfl,by omega,a,HP nd (by omega),HP nd (by omega)⟩
 refine⟨fr,fun x y h=>?_,fun x y h=>?_,fun x y h z hz=>?_,fun x y x' y' h h'=>?_⟩
 · obtain⟨i,j,he,rfl,rfl,li,lj,e1,e2⟩:=ev x y h;rw [e1,e2];exact lj
 · obtain⟨hx,hy⟩:=fr.tx h;obtain⟨i,j,he,_,_,li,lj,e1,e2⟩:=ev x y h;rw [Ru hx hy (by omega),e1,e2];have:=(h1 i j he).2.2.2.1;omega
 · obtain⟨hx,hy⟩:=fr.tx h;obtain⟨i,j,he,_,_,li,lj,e1,e2⟩:=ev x y h;obtain⟨zm,z1,z2⟩:=(Ft nd hx hy).mp hz;rw [e1,e2] at z1 z2;have hq:=(h1 i j he).2.2.2.2.2 (ixS zs z) (by omega) (by omega);rcases hq with hq | ⟨hq,_⟩
   · rw [HC];refine C8.mpr ⟨_,hq,?_⟩;have:=o5 (zs:=zs) (T6 zm);rw [(V4 zm).1] at this;exact(J9 this).symm
   · omega
 · obtain⟨hx,hy⟩:=fr.tx h;obtain⟨hx',hy'⟩:=fr.tx h';obtain⟨i,j,he,_,_,li,lj,e1,e2⟩:=ev x y h;obtain⟨i',j',he',_,_,li',lj',e1',e2'⟩:=ev x' y' h';rw [Ft nd hx hy,Ft nd hx hy,e1,e2,e1',e2'];have:=h2 i j i' j' he he';constructor
   · rintro⟨_,a,b⟩;exact⟨hy',by omega,by omega⟩
   · rintro⟨_,a,b⟩;exact⟨hx',by omega,by omega⟩
end Pu
end
section
namespace L2
namespace Tm
open PySem PySem.W PyProof.Rows
structure Pk where
 v:Nat
 n:Nat
abbrev El:=Fin 1024
namespace Pk
def at' (q:Pk)(i:Nat):El:=⟨(q.v >>> (10 * i)) % 1024,Nat.mod_lt _ (by decide)⟩
def push (q:Pk)(x:El):Pk:=⟨q.v % 2 ^ (10 * q.n) ||| x.val <<< (10 * q.n),q.n + 1⟩
def extract (q:Pk)(i j:Nat):Pk:=⟨q.v >>> (10 * i),min j q.n - i⟩
def app (a b:Pk):Pk:=⟨a.v % 2 ^ (10 * a.n) ||| b.v <<< (10 * a.n),a.n + b.n⟩
instance:Append Pk:=⟨app⟩
def one (x:El):Pk:=⟨x.val,1⟩
def ofF (f:Nat->El):Nat->Pk
 | 0=>⟨0,0⟩
 | n + 1=>(ofF f n).push (f n)
def reverse (q:Pk):Pk:=ofF (fun i=>q.at' (q.n - 1 - i)) q.n
theorem tb (v i j:Nat)(h:j < 10):P7 ((v >>> (10 * i)) % 1024) j=P7 v (10 * i + j):=by
 rw [show(1024:Nat)=2 ^ 10 from rfl,t0,Nat.testBit_shiftRight,decide_eq_true h,Bool.true_and]
theorem Fu {q r:Pk}{i k:Nat}(h:∀j,j < 10->P7 q.v (10 * i + j)=P7 r.v (10 * k + j)):q.at' i=r.at' k:=by
 refine Fin.ext (Nat.eq_of_testBit_eq fun j=>?_);show P7 ((q.v >>> (10 * i)) % 1024) j=P7 ((r.v >>> (10 * k)) % 1024) j
 by_cases c:j < 10
 · rw [tb _ _ _ c,tb _ _ _ c,h j c]
 · rw [show(1024:Nat)=2 ^ 10 from rfl,t0,t0,decide_eq_false c];rfl
theorem at_val {q:Pk}{i:Nat}{x:El}(h:∀j,j < 10->P7 q.v (10 * i + j)=P7 x.val j):q.at' i=x:=by
 refine Fin.ext (Nat.eq_of_testBit_eq fun j=>?_);show P7 ((q.v >>> (10 * i)) % 1024) j=_
 by_cases c:j < 10
 · rw [tb _ _ _ c,h j c]
 · have z:P7 ((q.v >>> (10 * i)) % 1024) j=false:=by
     rw [show(1024:Nat)=2 ^ 10 from rfl,t0,decide_eq_false c,Ba]
   rw [z];exact(Nat.testBit_lt_two_pow (L3 x.isLt (Gc (show 0 < 2 by decide) (show 10<=j by omega)))).symm
theorem at_push_lt (q:Pk)(x:El){i:Nat}(h:i < q.n):(q.push x).at' i=q.at' i:=Fu fun j hj=>by
 show P7 (q.v % 2 ^ (10 * q.n) ||| x.val <<< (10 * q.n)) _=_;rw [DP,t0,DO,decide_eq_true (by omega),decide_eq_false (by omega)];simp
theorem at_push (q:Pk)(x:El):(q.push x).at' q.n=x:=at_val fun j hj=>by
 show P7 (q.v % 2 ^ (10 * q.n) ||| x.val <<< (10 * q.n)) _=_;rw [DP,t0,DO,decide_eq_false (by omega),decide_eq_true (by omega),Ba,Bool.false_or,Bool.true_and]
 congr 1;omega
theorem at_ext (q:Pk)(i j k:Nat):(q.extract i j).at' k=q.at' (i + k):=Fu fun l hl=>by
 show P7 (q.v >>> (10 * i)) _=_;rw [Nat.testBit_shiftRight]
 congr 1;omega
theorem at_app_lt (a b:Pk){i:Nat}(h:i < a.n):(a++b).at' i=a.at' i:=Fu fun j hj=>by
 show P7 (a.v % 2 ^ (10 * a.n) ||| b.v <<< (10 * a.n)) _=_;rw [DP,t0,DO,decide_eq_true (by omega),decide_eq_false (by omega)];simp
theorem at_app_ge (a b:Pk)(i:Nat):(a++b).at' (a.n + i)=b.at' i:=Fu fun j hj=>by
 show P7 (a.v % 2 ^ (10 * a.n) ||| b.v <<< (10 * a.n)) _=_;rw [DP,t0,DO,decide_eq_false (by omega),decide_eq_true (by omega),Ba,Bool.false_or,Bool.true_and]
 congr 1;omega
theorem ofF_n (f:Nat->El):∀n,(ofF f n).n=n:=by
 intro xq
 induction xq with
 | zero =>
   exact rfl
 | succ n ih =>
   show(ofF f n).n + 1=_;rw [ih]
theorem ofF_at (f:Nat->El):∀(n:Nat) {i:Nat},i < n->(ofF f n).at' i=f i:=by
 intro xq
 induction xq with
 | zero =>
   intro _ h;exact absurd h (u3 _)
 | succ n ih =>
   intro i h;show((ofF f n).push (f n)).at' i=_
   by_cases c:i=n
   · subst c;have:=at_push (ofF f i) (f i);rw [ofF_n] at this;exact this
   · rw [at_push_lt _ _ (by rw [ofF_n];omega)];exact ih (by omega)
end Pk
end Tm
end L2
end
section
namespace L2
namespace Tm
open PySem PySem.W PyProof.Rows
def ls (it:Array Keyed)(q:Pk):List Keyed:=(D1 q.n).map fun i=>i5 it (q.at' i).val
abbrev mp (it:Array Keyed)(q:Pk):Array Keyed:=(ls it q).toArray
theorem BM {it:Array Keyed}(q:Pk)(i:Nat):(ls it q)[i]?=if i < q.n then some (i5 it (q.at' i).val) else none:=by
 unfold ls;rw [D5]
 by_cases c:i < q.n
 · rw [if_pos c,Gb c];rfl
 · rw [if_neg c,N1 (by rw [i7];omega)];rfl
theorem o7 {it:Array Keyed}(q:Pk):(ls it q).length=q.n:=by unfold ls;rw [A7,i7]
theorem Df {it:Array Keyed}(q:Pk){l:List Keyed}(h:∀i,l[i]?=if i < q.n then some (i5 it (q.at' i).val) else none):l=ls it q:=BY fun i=>by rw [h,BM]
theorem Rw {it:Array Keyed}(q:Pk)(x:El):(mp it q).push (i5 it x.val)=mp it (q.push x):=by
 have:ls it q++[i5 it x.val]=ls it (q.push x):=Df _ fun i=>by
   show _=if i < q.n + 1 then _ else _
   by_cases c:i < q.n
   · rw [U2 (by rw [o7];exact c),BM,if_pos c,if_pos (by omega),Pk.at_push_lt _ _ c]
   · rw [P5 (by rw [o7];omega),o7]
     by_cases c2:i=q.n
     · subst c2;rw [Y1,if_pos (by omega),Pk.at_push];rfl
     · rw [if_neg (by omega),N1 (by rw [Z8];omega)]
 show(ls it q).toArray.push _=(ls it (q.push x)).toArray;rw [<- this,List.push_toArray]
theorem mp_app {it:Array Keyed}(q r:Pk):mp it q++mp it r=mp it (q++r):=by
 have:ls it q++ls it r=ls it (q++r):=Df _ fun i=>by
   show _=if i < q.n + r.n then _ else _
   by_cases c:i < q.n
   · rw [U2 (by rw [o7];exact c),BM,if_pos c,if_pos (by omega),Pk.at_app_lt _ _ c]
   · rw [P5 (by rw [o7];omega),o7,BM];obtain⟨k,rfl⟩:∃k,i=q.n + k:=⟨i - q.n,by omega⟩;rw [Pk.at_app_ge,show q.n + k - q.n=k by omega]
     by_cases c2:k < r.n
     · rw [if_pos c2,if_pos (by omega)]
     · rw [if_neg c2,if_neg (by omega)]
 show(ls it q).toArray++(ls it r).toArray=(ls it (q++r)).toArray;rw [<- this];exact(List.append_toArray _ _)
theorem mp_ext {it:Array Keyed}(q:Pk)(i j:Nat):(mp it q).extract i j=mp it (q.extract i j):=by
 have:(ls it q).extract i j=ls it (q.extract i j):=Df _ fun k=>by
   show((ls it q).drop i |>.take (j - i))[k]?=if k < min j q.n - i then _ else _;rw [List.getElem?_take,DK,BM,Pk.at_ext]
   by_cases c:k < j - i
   · rw [if_pos c]
     by_cases c2:i + k < q.n
     · rw [if_pos c2,if_pos (by omega)]
     · rw [if_neg c2,if_neg (by omega)]
   · rw [if_neg c,if_neg (by omega)]
 show(ls it q).toArray.extract i j=(ls it (q.extract i j)).toArray;rw [<- this,List.extract_toArray]
theorem mp_rev {it:Array Keyed}(q:Pk):(mp it q).reverse=mp it q.reverse:=by
 have:(ls it q).reverse=ls it q.reverse:=Df _ fun k=>by
   have hn:q.reverse.n=q.n:=Pk.ofF_n _ _;rw [hn]
   by_cases c:k < q.n
   · rw [List.getElem?_reverse (by rw [o7];exact c),o7,BM,if_pos (by omega),if_pos c,show q.reverse.at' k=q.at' (q.n - 1 - k) from Pk.ofF_at _ _ c]
   · rw [if_neg c,N1 (by rw [Ae,o7];omega)]
 show(ls it q).toArray.reverse=(ls it q.reverse).toArray;rw [<- this,List.reverse_toArray]
abbrev arr1 (x:Keyed):Array Keyed:=#[x]
theorem mp_one {it:Array Keyed}(x:El):arr1 (i5 it x.val)=mp it (Pk.one x):=by
 have:[i5 it x.val]=ls it (Pk.one x):=Df _ fun i=>by
   show _=if i < 1 then _ else _
   by_cases c:i < 1
   · obtain rfl:i=0:=by omega
     rw [if_pos (by decide),show(Pk.one x).at' 0=x from Pk.at_val fun j hj=>by show P7 x.val _=_;congr 1;omega];rfl
   · rw [if_neg c,N1 (by rw [Z8];omega)]
 show [i5 it x.val].toArray=_;rw [this]
structure S where
 p:Pk
 pend:Array (Nat×Nat×Nat)
 g:Nat
abbrev N:=StateT S Option
end Tm
end L2
end
section
namespace L2
namespace Tm
open PySem PySem.W PyProof.Rows
section
variable {prog:B2}{w:World}{A:Around}{E:Value->Shared->Prop}{sh:Shared}{κ:SortKind}{it:Array Keyed}{α β γ δ:Type}{lt:Nat->Nat->Bool}{n:Nat}
local macro_rules | `(tactic| walk_at "mpZ")=>`(tactic| ((try simp only [Rw,mp_app,mp_ext,mp_rev,mp_one]) <;> rfl))
end
end Tm
end L2
end
section
namespace L2
namespace Tm
open PySem PySem.W PySem.Spec PyProof.Rows
def places (q:Pk):List Nat:=(D1 q.n).map fun i=>(q.at' i).val
end Tm
end L2
end
section
namespace Pu
open PySem PySem.Spec L2
theorem nodup_ix {α:Type}{l:List α}(nd:l.Nodup){k m:Nat}(h1:k < l.length)(h2:m < l.length)(e:l[k]=l[m]):k=m:=by
 have pw:=X7.mp nd;rcases t7 k m with c | c | c
 · exact absurd e (pw k m h1 h2 c)
 · exact c
 · exact absurd e.symm (pw m k h2 h1 c)
end Pu
end
section
namespace Pu
open PySem PySem.Spec L2
abbrev pD:=List Key->(Env->Nat->List (List PV)->Prop)->Env->Nat->List (List PV)->Prop
end Pu
end
section
namespace Pu
open PySem PySem.Spec L2
structure KE (K:A5)(T:PotK)(G:Gh)(H1:Hp)(D:Addr)(M:List Addr)(as:List Addr)(ks:List Key)(yss:List (List PV))(H:Hp):Prop where
 mem:∀c,c∈M↔c∈as\/c=D\/c∈G.M
 keep:∀b o,b∉G.pots->H1 b=some o->H b=some o
 dic:H D=some (.dK (ks.zip (as.map V.ref)))
 lk:ks.length=as.length
 ly:yss.length=as.length
 nd:(D::as).Nodup
 new:∀b∈as,H1 b=none
 inn:∀(k:Nat) (b:Addr) (ys:List PV),as[k]?=some b->yss[k]?=some ys->∃vs,H b=some (.lst vs)/\Reps K ⟨M,G.pots⟩ H ys vs
end Pu
end
section
namespace Pu
open PySem PySem.Spec L2
theorem SR.m0 {C:Ct}{G:Gh}{σ:St}{H:Hp}{env:Env}{n:Nat}(S:SR C G σ H env n){M':List Addr}(h:∀b,b∈C.M0↔b∈M'):SR { C with M0:=M' } G σ H env n where
 frame:=S.frame
 sub:=fun a ha=>(S.sub a ha).imp (h a).mp id
 sup:=fun a ha=>S.sup a ((h a).mpr ha)
 pots:=S.pots
 pre:=S.pre
 mu:=S.mu
 slots:=fun i s e=>by
   have q:=S.slots i s e;cases s with
   | v x=>exact q
   | ow k xs =>
     obtain⟨a,vs,e1,h1,h2,h3,h4,r⟩:=q;exact⟨a,vs,e1,h1,fun z=>h2 ((h a).mpr z),h3,h4,r⟩
 inj:=S.inj
 p0:=⟨fun p hp=>(h p).mp (S.p0.1 p hp),S.p0.2⟩
 len:=S.len
 newp:=fun p hp h1 h2=>S.newp p hp h1 ((h p).mpr h2)
end Pu
end
section
namespace L2
open PySem PySem.Spec PyProof.Rows
theorem Rx {prog:B2}{w:World}{A:Around}(hh:A.handled=none)(I a:Addr)(hne:a≠I)(its:Array Value) :
   Walks prog w A I [I,a] [I] its.size (fun i v=>its[i]?=some v) (fun i h=>h.IsListIter I a i/\h.IsList a its) where
 sub:=fun b hb=>by simp at hb;simp [hb]
 frame:=fun _ _ _ st hk=>⟨st.1.at fun o e=>hk I (by simp) o e,let ⟨o,ho,x⟩:=st.2;⟨o,hk a (by simp) o ho,x⟩⟩
 item:=fun i s Q E hi st hQ=>by
   have hx:its[i]?=some its[i]:=by simp [hi]
   refine FS st.1 st.2 hx fun h' hit' hs'=>?_;exact hQ its[i] h' s.toks hx ⟨hit',let ⟨o,ho,x⟩:=st.2;⟨o,hs'.extBut a o hne ho,x⟩⟩ fun b o hb e=>hs'.extBut b o (fun h=>hb (by simp [h])) e
 done:=fun s Q E st hQ=>FV hh st.1 st.2 (by simp) fun h' he'=>hQ h' s.toks fun b o hb e=>he' b o (fun h=>hb (by simp [h])) e
 self:=fun _ _ _ _ st hQ=>wpAny_pyIter_listiter st.1 hQ
theorem LI (is:List Int):∀n,n<=is.length->preSum (fun j=>is.getD j 0) n=(is.take n).sum:=by
 intro xq
 induction xq with
 | zero =>
   intro _;rw [List.take_zero];rfl
 | succ n ih =>
   intro h;show preSum (fun j=>is.getD j 0) n + is.getD n 0=_;rw [ih (by omega),Ca,M8,C4 (by omega),List.sum_append];simp
theorem Ry {is:List Int}(h:∀i∈is,0<=i/\i<=1000000):0<=is.sum/\is.sum<=1000000 * is.length:=by
 induction is with
 | nil=>exact⟨by decide,by decide⟩
 | cons x is ih =>
   obtain⟨h1,h2⟩:=ih fun i hi=>h i (B5 _ hi);obtain⟨x1,x2⟩:=h x B8;rw [AV,D3];omega
section
variable {X:Cx}
theorem Rz (hc:X.calm=true):K1 X (.builtin "sum") (fun xs H Q=>∃(a:Addr) (is:List Int),xs=[.ref a]/\H a=some (.lst (is.map V.int))/\is.length<=1000/\(∀i∈is,0<=i/\i<=1000000)/\Q (.int is.sum) H):=by
 intro pins s σ H xs us Q I r h;obtain⟨a,is,rfl,ea,hl,hi,q⟩:=h;obtain⟨u,rfl,rx⟩:=k6 r;cases rx;obtain⟨_,its,n,rv,e⟩:=(show G5 X.prog X.w H s.heap a (.lst (is.map V.int)) from I.hok a _ ea);have isL:s.heap.IsList a its.toArray:=⟨_,e,rfl,_,rfl⟩;have hlen:its.length=is.length:=by rw [<- rv.length,A7]
 refine call_sum_walk ?_;refine BS isL ?_;have lt:a < s.heap.objs.size:=B9 e;have hh:X.A.in1.handled=none:=I.ok.hd hc;refine⟨s.heap.objs.size,[s.heap.objs.size,a],[s.heap.objs.size],its.toArray.size,(fun i v=>its.toArray[i]?=some v),(fun i h=>h.IsListIter s.heap.objs.size a i/\h.IsList a its.toArray),(fun j=>is.getD j 0),rfl,Rx hh s.heap.objs.size a (D0 lt) its.toArray,⟨⟨_,E1 _ rfl,rfl,rfl⟩,⟨_,B6 _ e,rfl,_,rfl⟩⟩,fun b hb=>?_,fun i v hv=>?_,fun j hj=>?_,fun h' tk t' hk=>?_⟩
 · have sz:s.heap.objs.size < (s.heap.push { cls:=.type "list_iterator",data:=.fields #[.ref a,.int 0 0] }).objs.size:=by simp [Heap.push]
   rcases B7.mp hb with z | z
   · rw [z];exact sz
   · rw [F2.mp z];exact j7 lt sz
 · have hv':its[i]?=some v:=by simpa using hv
   have hi':=(E6.mp hv').1;have hi2:i < is.length:=by rw [<- hlen];exact hi'
   obtain⟨x,ex,rx⟩:=rv.getE hi';rw [D5,C4 hi2] at ex;have ex:V.int is[i]=x:=J9 ex;subst ex;obtain⟨t,et⟩:=rx;refine⟨t,?_⟩;rw [C4 hi'] at hv';rw [<- J9 hv',et];show Value.int is[i] t=Value.int (is.getD i 0) t;rw [M8,C4 hi2]
   rfl
 · have hj':j < is.length:=by rw [<- hlen];simpa using hj
   have m1:is.getD j 0∈is:=by rw [M8,C4 hj'];exact q8 _
   have h1:=hi _ m1;have h2:=Ry (is:=is.take (j + 1)) fun i h=>hi i (Ac h);show InLong (is.getD j 0)/\InLong (preSum (fun j=>is.getD j 0) (j + 1));rw [LI is (j + 1) hj'];rw [L0] at h2;refine⟨⟨?_,?_⟩,⟨?_,?_⟩⟩ <;> (have e63:(2:Int) ^ 63=9223372036854775808:=by decide) <;> rw [e63] <;> omega
 · have es:preSum (fun j=>is.getD j 0) its.toArray.size=is.sum:=by
     rw [LI is _ (by rw [D8,hlen];exact A9 _),D8,hlen,B_]
   rw [es];exact⟨.int is.sum,H,I.kept (t':=tk) fun b o eb=>hk b o (fun z=>R5 _ (by rw [F2.mp z] at eb;exact B9 eb)) (B6 _ eb),⟨_,rfl⟩,q⟩
end
end L2
namespace Pu
open PySem PySem.Spec L2
section
variable {T:PotK}{np:Bool}{ι:Type}{K:A5}{F:ι->Cx}{e a b:Expr}{st:Stmt}{pe pa pb:pE}{pos:Pos}
def HQ:w2:=wI CMul fun i j=>.int (i * j)
theorem RA (i:Nat)(h:∀z te,EW (F z) e te->SW (F z) st (tAug i te (rI CMul fun i j=>.int (i * j))))(he:QE T K F e pe):QS T np K F st (qAug i HQ pe):=qs_aug i (W2.I fun _ _ _ _=>rfl) h he
def wShl:w2:=wI CPow fun i j=>.int (i * 2 ^ j.toNat)
theorem qe_shl (ha:QE T K F a pa)(hb:QE T K F b pb):QE T K F (.BinOp a .LShift b pos) (qOp wShl pa pb):=CC (fun _=>op_shl) (W2.I fun _ _ _ _=>rfl) ha hb
def x8:List PV->Option (List Int)
 | []=>some []
 | .int i::xs=>(x8 xs).map (i::·)
 | _=>none
theorem RB {G:Gh}{H:Hp}{xs:List PV}:∀{vs:List V} {is:List Int},Reps K G H xs vs->x8 xs=some is->vs=is.map V.int:=by
 induction xs with
 | nil=>intro vs is r h;cases h;exact r
 | cons x xs ih =>
   intro vs is r h;obtain⟨v,t,rfl,rv,rt⟩:=r;cases x with
   | int i =>
     have h:(x8 xs).map (i::·)=some is:=h;cases e:x8 xs with
     | none=>rw [e] at h;cases h
     | some js =>
       rw [e] at h;cases h;rw [ih rt e,show v=.int i from rv]
       rfl
   | _=>cases h
def wSum:w1:=fun x R=>match x with | .lst xs=>(match x8 xs with | some is=>is.length<=1000/\(∀i∈is,0<=i/\i<=1000000)/\R (.int is.sum) | none=>False) | _=>False
theorem qe_sum {p:Pos}(hc:∀z,(F z).calm=true)(hg:∀z,Gl (F z) "sum")(hm:∀z,(F z).mg "sum"=none)(ha:QE T K F a pa)(hs:F8 a=true:=by rfl):QE T K F (.Call (.Name "sum" p) [a] [] pos) (qUn wSum pa):=by
 obtain⟨t,h1,h2⟩:=ha;refine⟨_,fun z=>v3 (Rz (hc z)) (hg z) (hm z) bt_sum (F6 (h1 z) J1 (D2 hs)) (by decide) (by decide) (D2 hs),fun C G σ H env n' R Q hK hT S hp k=>?_⟩;refine h2 C G σ H env n' _ _ hK hT S hp fun x env1 n1 v H1 p1 S1 r1 f1=>?_;dsimp only [wSum] at p1;cases x with
 | lst xs =>
   cases ei:x8 xs with
   | none=>dsimp only at p1;rw [ei] at p1;exact p1.elim
   | some is =>
     dsimp only at p1;rw [ei] at p1;obtain⟨l1,l2,q⟩:=p1;obtain⟨a,vs,rfl,t,r⟩:=r1;have ev:=RB r ei;exact⟨a,is,rfl,by rw [<- ev];exact t.2,l1,l2,k _ _ _ _ _ q S1 rfl f1⟩
 | _=>exact p1.elim
end
end Pu
end
section
namespace Tb
open PySem L2 Pu
abbrev P3:pF:=w8
def HR:pS:=(qSeq (qPar 2 3 (sV (qC (.str (A6 "abcdefghijklmnopqrstuvwxyz")))) (sV (qC (.str (A6 "")))))
   (qSeq (qSet 4 (qOp wIx (qL (qLst (A2 (qC (.int 1)) (A2 (qC (.int 3)) (A2 (qC (.int 5)) (A2 (qC (.int 7)) (A2 (qC (.int 9)) (A2 (qC (.int 11)) (A2 (qC (.int 15)) (A2 (qC (.int 17)) (A2 (qC (.int 19)) (A2 (qC (.int 21)) qNil)))))))))))) (C1 P3 (A2 (qV 0) (A2 (qC (.int 10)) qNil)))))
   (qSeq (qSet 5 (C1 P3 (A2 (qV 0) (A2 (qC (.int 26)) qNil))))
   (qSeq (qFor (BA (qC (.int 7))) (gN 6) (qSet 3 (qOp wAdd (qV 3) (qOp wIx (qV 2) (C1 P3 (A2 (qV 0) (A2 (qC (.int 26)) qNil)))))))
   (qSeq (qSet 7 (C1 P3 (A2 (qV 0) (A2 (qC (.int 8)) qNil))))
   (qSeq (qOwn 8 (qLst qNil))
   (qSeq (qFor (BA (qV 1)) (gN 6) (qSeq (qPar 9 10 (sV (qOp wAdd (qV 7) (C1 P3 (A2 (qV 0) (A2 (qOp wSub (qC (.int 8)) (qV 7)) qNil))))) (sV (qOp wIx (qV 2) (qOp wMod (qOp wAdd (qV 5) (qOp wMul (qV 4) (qV 6))) (qC (.int 26))))))
   (N7 (T3 8 (qOp wAdd (qOp wAdd (qSl (qV 3) qNo (M5 (qV 7))) (qV 10)) (qSl (qV 3) (M5 (qV 7)) (M5 (qV 9))))))))
   (qSeq (qSet 11 (qOp wIx (qL (qLst (A2 (qC (.str (A6 "drop"))) (A2 (qC (.str (A6 "touch"))) (A2 (qC (.str (A6 "none"))) (A2 (qC (.str (A6 "d"))) (A2 (qC (.str (A6 "u"))) (A2 (qC (.str (A6 "t"))) (A2 (qC (.str (A6 "o"))) qNil))))))))) (C1 P3 (A2 (qV 0) (A2 (qC (.int 7)) qNil)))))
   (qSeq (qIfS (qAnd (qB (qOp (wIn 4 true) (qV 11) (qO 8))) (qB (qOp (wEq 4) (C1 P3 (A2 (qV 0) (A2 (qC (.int 3)) qNil))) (qC (.int 0))))) (qPut 8 (qV 11) (C1 P3 (A2 (qV 0) (A2 (qV 1) qNil)))) qNx)
   (qRet (qUn O3 (qO 8))))))))))))
def Fv:pF:=fnP ["_law_draws","_law_many","_law_letters","_law_stem","_law_step","_law_first","_law_k","_law_at","_law_found","_law_far","_law_sign","_law_word_here"] ["_law_draws","_law_many"] HR
def HS:pS:=(qSeq (qSet 2 (qTup (A2 (qOp wAdd (qC (.int 1)) (C1 P3 (A2 (qV 0) (A2 (qC (.int 8)) qNil)))) (A2 (qOp wIx (qL (qLst (A2 (qC (.int 0)) (A2 (qC (.int 1)) (A2 (qC (.int 7)) (A2 (C1 P3 (A2 (qV 0) (A2 (qC (.int 8)) qNil))) qNil)))))) (C1 P3 (A2 (qV 0) (A2 (qC (.int 4)) qNil)))) qNil))))
   (qSeq (qSet 3 (qOp wIx (qL (qLst (A2 (qOp wAdd (qC (.int 1)) (C1 P3 (A2 (qV 0) (A2 (qV 1) qNil)))) (A2 (qOp wAdd (qC (.int 1)) (C1 P3 (A2 (qV 0) (A2 (qOp wMin (qV 1) (qC (.int 6))) qNil)))) qNil)))) (C1 P3 (A2 (qV 0) (A2 (qC (.int 2)) qNil)))))
   (qRet (qTup (A2 (qV 2) (A2 (C1 Fv (A2 (qV 0) (A2 (qV 3) qNil))) qNil))))))
def Fw:pF:=fnP ["_law_draws","_law_most","_law_meeting","_law_many"] ["_law_draws","_law_most"] HS
def HU:pS:=(qSeq (qSet 3 (qOp wIx (qV 0) (qC (.int 0))))
   (qSeq (qSet 4 (qOp wMul (qV 2) (qV 3)))
   (qRet (qTup (A2 (qV 4) (A2 (qIf (qB (qOp wLt (qOp wAdd (qV 4) (qV 3)) (qV 1))) (qOp wAdd (qV 4) (qV 3)) (qOp wSub (qV 1) (qC (.int 1)))) qNil))))))
def Fx:pF:=fnP ["_law_meeting","_law_n","_law_k","_law_size","_law_first"] ["_law_meeting","_law_n","_law_k"] HU
def HV:pS:=(qSeq (qPar 2 3 (sO (qLst qNil)) (sO (qLst qNil)))
   (qSeq (qFor (qZip false true (qV 0) (qV 1)) (gTp 2 (gCn (gN 4) (gCn (gN 5) gNl))) (qIfS (qB (qOp (wEq 4) (qV 5) (qC (.str (A6 "t"))))) (N7 (T3 2 (qV 4))) (qIfS (qB (qOp (wEq 4) (qV 5) (qC (.str (A6 "u"))))) (N7 (T3 3 (qTup (A2 (qC (.str (A6 "touch"))) (A2 (qV 4) (A2 (qPop 2) qNil)))))) (qIfS (qB (qOp (wEq 4) (qV 5) (qC (.str (A6 "d"))))) (N7 (T3 3 (qTup (A2 (qC (.str (A6 "drop"))) (A2 (qV 4) qNil))))) qNx))))
   (qRet (qUn O3 (qL (BG (qO 3)))))))
def Fy:pF:=fnP ["_law_start","_law_marks","_law_pile","_law_events","_law_boat","_law_mark"] ["_law_start","_law_marks"] HV
def HW:pS:=(qRet (qOp Eo (qOp wSub (qOp wAdd (qV 1) (qOp wIx (qV 0) (qC (.int 0)))) (qC (.int 1))) (qOp wIx (qV 0) (qC (.int 0)))))
def Fz:pF:=fnP ["_law_meeting","_law_n"] ["_law_meeting","_law_n"] HW
def HX:pS:=(qSeq (qPar 3 4 (sO (qLst qNil)) (sO (qLst qNil)))
   (qSeq (qFor (BA (qV 1)) (gN 5) (qSeq (JT (qAnd (qB (qOpR (wNe 4) (qO 4) (qL (qLst qNil)))) (qB (qOp wGt (qOp wSub (qOp wSub (qV 5) (qOpR wIx (qO 4) (qUn wNeg (qC (.int 1))))) (qC (.int 1))) (qV 2)))) (qPut 3 (qC (.str (A6 "d"))) (qPop 4)))
   (qSeq (qSet 6 (C1 P3 (A2 (qV 0) (A2 (qC (.int 5)) qNil))))
   (qIfS (qAnd (qB (qOpR (wNe 4) (qO 4) (qL (qLst qNil)))) (qB (qOp wLt (qV 6) (qC (.int 2))))) (qSeq (qPut 3 (qC (.str (A6 "t"))) (qPop 4))
   (N7 (T3 3 (qC (.str (A6 "u")))))) (qIfS (qOr (qB (qOp (wEq 4) (qV 6) (qC (.int 2)))) (qB (qOp (wEq 4) (qV 6) (qC (.int 3))))) (qSeq (N7 (T3 4 (qV 5)))
   (N7 (T3 3 (qC (.str (A6 "d")))))) (N7 (T3 3 (qIf (qB (qOpR (wNe 4) (qO 4) (qL (qLst qNil)))) (qC (.str (A6 "d"))) (qOp wIx (qL (qLst (A2 (qC (.str (A6 "o"))) (A2 (qC (.str (A6 "o"))) (A2 (qC (.str (A6 "d"))) qNil))))) (C1 P3 (A2 (qV 0) (A2 (qC (.int 3)) qNil))))))))))))
   (CH 3)))
def FA:pF:=fnP ["_law_draws","_law_many","_law_reach","_law_marks","_law_pile","_law_k","_law_way"] ["_law_draws","_law_many","_law_reach"] HX
def HY:pS:=(qSeq (qOwn 2 (Ey (qV 0)))
   (qSeq (qFor (qIt (qV 1)) (gN 3) (qIfS (qB (qOp (wEq 4) (qOp wIx (qV 3) (qC (.int 0))) (qC (.str (A6 "touch"))))) (qSeq (qPut 2 (qOp wIx (qV 3) (qC (.int 2))) (P1 (qV 0) (qOp wIx (qV 3) (qC (.int 1)))))
   (qPut 2 (qOp wIx (qV 3) (qC (.int 1))) (P1 (qV 0) (qOp wIx (qV 3) (qC (.int 2)))))) qNx))
   (qRet (qUn O3 (qO 2)))))
def FB:pF:=fnP ["_law_start","_law_sheet_here","_law_found","_law_event"] ["_law_start","_law_sheet_here"] HY
def HZ:pS:=(qSeq (qPar 3 4 (sO (qLst qNil)) (sO (qLst qNil)))
   (qSeq (qFor (EY (C1 Fz (A2 (qV 1) (A2 (qUn wLen (qV 2)) qNil)))) (gN 5) (qSeq (qAsg (C1 Fx (A2 (qV 1) (A2 (qUn wLen (qV 2)) (A2 (qV 5) qNil)))) (gTp 2 (gCn (gN 6) (gCn (gN 7) gNl))))
   (qSeq (qSet 8 (qSl (qV 2) (M5 (qV 6)) (M5 (qOp wAdd (qV 7) (qC (.int 1))))))
   (qSeq (qSet 9 (C1 Fy (A2 (qV 8) (A2 (C1 FA (A2 (qV 0) (A2 (qUn wLen (qV 8)) (A2 (qOp wIx (qV 1) (qC (.int 1))) qNil)))) qNil))))
   (qSeq (qSet 2 (qOp wAdd (qOp wAdd (qSl (qV 2) qNo (M5 (qV 6))) (C1 FB (A2 (qV 8) (A2 (qV 9) qNil)))) (qSl (qV 2) (M5 (qOp wAdd (qV 7) (qC (.int 1)))) qNo)))
   (qSeq (N7 (EZ 3 (qC (.int 0)) (qV 9)))
   (N7 (EZ 4 (qC (.int 0)) (qV 8)))))))))
   (qRet (qTup (A2 (qUn O3 (qO 3)) (A2 (qUn O3 (qO 4)) (A2 (qV 2) qNil)))))))
def FC:pF:=fnP ["_law_draws","_law_meeting","_law_row","_law_sheets","_law_starts","_law_k","_law_first","_law_last","_law_start","_law_sheet_here"] ["_law_draws","_law_meeting","_law_row"] HZ
def H_:pS:=(qSeq (qSet 2 (qL (O5 [none] (qIt (qV 1)) (gN 0) (qB (qOp (wEq 4) (qOp wIx (qV 0) (qC (.int 0))) (qC (.str (A6 "touch"))))) (qV 0))))
   (qSeq (qPar 3 4 (sO (qLst qNil)) (sO (qLst qNil)))
   (qSeq (qFor (qIl (qV 2)) (gN 5) (qSeq (N7 (Fs 3 (qSl (qV 5) (M5 (qC (.int 1))) qNo)))
   (N7 (Fs 4 (qSl (qV 0) (M5 (qOp wAdd (P1 (qV 0) (qOp wIx (qV 5) (qC (.int 2)))) (qC (.int 1)))) (M5 (P1 (qV 0) (qOp wIx (qV 5) (qC (.int 1))))))))))
   (qSeq (AB 4 (AB 3 (qSet 6 (qL (HM (qL (O5 [none,some 3] (qIl (qV 4)) (gN 0) (qB (qOp (wIn 4 true) (qV 0) (qV 1))) (qV 0))))))))
   (qSeq (qSet 7 (qL (BG (qL (O5 [none,some 3,some 4] (qIt (qV 0)) (gN 0) (qAnd (qB (qOp (wIn 4 true) (qV 0) (qV 1))) (qB (qOp (wIn 4 true) (qV 0) (qV 2)))) (qV 0))))))
   (qRet (qTup (A2 (qUn O3 (qV 2)) (A2 (qUn O3 (qV 6)) (A2 (qUn O3 (qV 7)) qNil))))))))))
def FD:pF:=fnP ["_law_start","_law_sheet_here","_law_touches","_law_met","_law_within","_law_event","_law_drops","_law_free"] ["_law_start","_law_sheet_here"] H_
def Ia:pS:=(qSeq (qSet 3 (qOp wIx (qV 0) (qC (.int 0))))
   (qSeq (qSet 4 (qOp wMul (qV 2) (qV 3)))
   (qRet (qTup (A2 (qV 4) (A2 (qOp wMin (qOp wAdd (qV 4) (qV 3)) (qOp wSub (qV 1) (qC (.int 1)))) qNil))))))
def BN:pF:=fnP ["meeting","n","k","size","first"] ["meeting","n","k"] Ia
def Ib:pS:=(qSeq (qAsg (C1 BN (A2 (qV 0) (A2 (qUn wLen (qV 1)) (A2 (qV 2) qNil)))) (gTp 2 (gCn (gN 3) (gCn (gN 4) gNl))))
   (qRet (qSl (qV 1) (M5 (qV 3)) (M5 (qOp wAdd (qV 4) (qC (.int 1)))))))
def Z2:pF:=fnP ["meeting","row","k","first","last"] ["meeting","row","k"] Ib
def Ie:pS:=(qRet (qL (O5 [none,some 1] (qIt (qSl (C1 Z2 (A2 (qV 0) (A2 (qV 2) (A2 (qV 3) qNil)))) (M5 (qC (.int 1))) qNo)) (gN 0) (qB (qOp (wIn 4 true) (qV 0) (qV 1))) (qTup (A2 (qC (.str (A6 "from"))) (A2 (qV 0) qNil))))))
def Dg:pF:=fnP ["meeting","start","other","k"] ["meeting","start","other","k"] Ie
def Ig:pS:=(qSeq (qSet 4 (qSl (C1 Z2 (A2 (qV 0) (A2 (qV 2) (A2 (qV 3) qNil)))) (M5 (qC (.int 1))) qNo))
   (qRet (qOp wAdd (qUn O3 (qL (O5 [none,some 4] (qIt (qV 1)) (gN 0) (qB (qOp (wIn 4 true) (qV 0) (qV 1))) (qV 0)))) (qV 4))))
def x9:pF:=fnP ["meeting","start","other","k","behind"] ["meeting","start","other","k"] Ig
def Ih:pS:=(qSeq (qSet 3 (qOp wIx (qV 0) (P1 (qV 1) (qV 2))))
   (qRet (qOp (wNe 4) (P1 (qV 1) (qV 3)) (P1 (qV 0) (qV 2)))))
def Dh:pF:=fnP ["start","goal","x","there"] ["start","goal","x"] Ih
def Ii:pS:=(qRet (qL (O5 [none,some 0,some 1] (qIt (qV 0)) (gN 0) (qB (C1 Dh (A2 (qV 1) (A2 (qV 2) (A2 (qV 0) qNil))))) (qTup (A2 (qC (.str (A6 "round"))) (A2 (qV 0) qNil))))))
def Di:pF:=fnP ["start","goal"] ["start","goal"] Ii
def Ij:pS:=(qSeq (qAsg (qL (BG (qL (qLst (A2 (P1 (qV 0) (qOp wIx (qV 1) (qC (.int 1)))) (A2 (P1 (qV 0) (qOp wIx (qV 1) (qC (.int 2)))) qNil)))))) (gTl 2 (gCn (gN 2) (gCn (gN 3) gNl))))
   (qRet (qSl (qV 0) (M5 (qOp wAdd (qV 2) (qC (.int 1)))) (M5 (qV 3)))))
def h9:pF:=fnP ["start","touch","low","high"] ["start","touch"] Ij
def Ik:pS:=(qRet (qOp wGt (qUn wLen (C1 h9 (A2 (qV 0) (A2 (qV 2) qNil)))) (qV 1)))
def Dj:pF:=fnP ["start","reach","touch"] ["start","reach","touch"] Ik
def Il:pS:=(qRet (qL (Dd [none,none] (qIt (qV 0)) (gN 0) (qIt (qSl (qV 0) (M5 (qC (.int 1))) qNo)) (gN 1) qTru (qV 1))))
def y0:pF:=fnP ["events"] ["events"] Il
def Im:pS:=(qSeq (qIfS (qB (qOp (wNe 4) (qUn Dc (C1 y0 (A2 (qTup (A2 (qV 1) (A2 (qV 2) qNil))) qNil))) (qC (.int 4)))) (qRet (qC (.bl false))) qNx)
   (qSeq (qSet 3 (C1 h9 (A2 (qV 0) (A2 (qV 1) qNil))))
   (qRet (qOp (wNe 4) (qOp (wIn 4 false) (qOp wIx (qV 2) (qC (.int 1))) (qV 3)) (qOp (wIn 4 false) (qOp wIx (qV 2) (qC (.int 2))) (qV 3))))))
def Dk:pF:=fnP ["start","one","other","inner"] ["start","one","other"] Im
def Io:pS:=(qSeq (qOwn 3 (O5 [none,some 0,some 1] (qIt (qV 2)) (gN 0) (qB (C1 Dj (A2 (qV 1) (A2 (qV 2) (A2 (qV 0) qNil))))) (qTup (A2 (qC (.str (A6 "far"))) (A2 (qV 0) qNil)))))
   (qSeq (He 3 (qL (Dd [none,none,some 2,some 0] (qIt (qV 2)) (gN 0) (qIt (qV 2)) (gN 1) (qB (C1 Dk (A2 (qV 3) (A2 (qV 0) (A2 (qV 1) qNil))))) (qTup (A2 (qC (.str (A6 "cross"))) (A2 (qV 0) (A2 (qV 1) qNil)))))))
   (CH 3)))
def Dl:pF:=fnP ["start","reach","touches","reasons"] ["start","reach","touches"] Io
def Ip:pS:=(qRet (qUn O3 (qL (HL (qV 0)))))
def FE:pF:=fnP ["events"] ["events"] Ip
def Iq:pS:=(qRet (C1 FE (A2 (qL (O5 [none,none,some 1,some 0] (qZip false false (qV 1) (qV 0)) (gTp 2 (gCn (gN 0) (gCn (gN 1) gNl))) (qB (qOp wLt (P1 (qV 2) (qV 0)) (P1 (qV 3) (qV 0)))) (qTup (A2 (qC (.str (A6 "touch"))) (A2 (qV 0) (A2 (qV 1) qNil)))))) qNil)))
def y3:pF:=fnP ["start","goal"] ["start","goal"] Iq
def Ir:pS:=(qSeq (qSet 4 (C1 Dg (A2 (qV 0) (A2 (qV 1) (A2 (qV 2) (A2 (qV 3) qNil))))))
   (qSeq (qIfS (CM (qV 4)) (qRet (qV 4)) qNx)
   (qSeq (qSet 5 (C1 x9 (A2 (qV 0) (A2 (qV 1) (A2 (qV 2) (A2 (qV 3) qNil))))))
   (qRet (qOrT (C1 Di (A2 (qV 1) (A2 (qV 5) qNil))) (C1 Dl (A2 (qV 1) (A2 (qOp wIx (qV 0) (qC (.int 1))) (A2 (C1 y3 (A2 (qV 1) (A2 (qV 5) qNil))) qNil)))))))))
def Dm:pF:=fnP ["meeting","start","other","k","reasons","goal"] ["meeting","start","other","k"] Ir
def Is:pS:=(qSeq (qAsg (C1 BN (A2 (qV 0) (A2 (qUn wLen (qV 1)) (A2 (qV 2) qNil)))) (gTp 2 (gCn (gN 4) (gCn (gN 5) gNl))))
   (qRet (qOp wAdd (qOp wAdd (qSl (qV 1) qNo (M5 (qV 4))) (qV 3)) (qSl (qV 1) (M5 (qOp wAdd (qV 5) (qC (.int 1)))) qNo))))
def FF:pF:=fnP ["meeting","row","k","boats","first","last"] ["meeting","row","k","boats"] Is
def Iu:pS:=(qRet (qL (O5 [none] (qIt (qV 0)) (gN 0) (qB (qOp (wEq 4) (qOp wIx (qV 0) (qC (.int 0))) (qC (.str (A6 "touch"))))) (qV 0))))
def FG:pF:=fnP ["events"] ["events"] Iu
def Iv:pS:=(qSeq (qOwn 3 (Ey (qV 0)))
   (qSeq (HA 3 (qOp wIx (qV 0) (qV 2)) (qOp wIx (qV 0) (qV 1)) (qV 1) (qV 2))
   (qRet (qUn O3 (qO 3)))))
def FH:pF:=fnP ["row","one","other","boats"] ["row","one","other"] Iv
def Iw:pS:=(qSeq (qSet 2 (qV 0))
   (qSeq (qFor (qIl (C1 FG (A2 (qV 1) qNil))) (gN 3) (qSet 2 (C1 FH (A2 (qV 2) (A2 (P1 (qV 0) (qOp wIx (qV 3) (qC (.int 1)))) (A2 (P1 (qV 0) (qOp wIx (qV 3) (qC (.int 2)))) qNil))))))
   (qRet (qV 2))))
def FI:pF:=fnP ["start","sheet","row","touch"] ["start","sheet"] Iw
def Ix:pS:=(qRet (C1 FF (A2 (qV 0) (A2 (qV 1) (A2 (qV 2) (A2 (C1 FI (A2 (C1 Z2 (A2 (qV 0) (A2 (qV 1) (A2 (qV 2) qNil)))) (A2 (qV 3) qNil))) qNil))))))
def Dn:pF:=fnP ["meeting","row","k","sheet"] ["meeting","row","k","sheet"] Ix
def Iy:pS:=(qSeq (qSet 2 (qOp wIx (qV 0) (qC (.int 0))))
   (qRet (qOp Eo (qOp wSub (qOp wAdd (qV 1) (qV 2)) (qC (.int 1))) (qV 2))))
def FJ:pF:=fnP ["meeting","n","size"] ["meeting","n"] Iy
def Iz:pS:=(qSeq (qSet 2 (C1 y0 (A2 (qV 1) qNil)))
   (qSeq (qSet 3 (qL (Dd [none,none,some 0] (qIt (qV 1)) (gN 0) (qIt (C1 h9 (A2 (qV 2) (A2 (qV 0) qNil)))) (gN 1) qTru (qV 1))))
   (qSeq (qSet 4 (qL (BG (qL (O5 [none,some 2] (qIt (qV 0)) (gN 0) (qB (qOp (wIn 4 true) (qV 0) (qV 1))) (qV 0))))))
   (qSeq (qSet 5 (qL (O5 [none,some 3] (qIl (qV 4)) (gN 0) (qB (qOp (wIn 4 false) (qV 0) (qV 1))) (qV 0))))
   (qSeq (qSet 6 (qL (O5 [none,some 3] (qIl (qV 4)) (gN 0) (qB (qOp (wIn 4 true) (qV 0) (qV 1))) (qV 0))))
   (qRet (qTup (A2 (qV 1) (A2 (qUn O3 (qV 5)) (A2 (qUn O3 (qV 6)) qNil))))))))))
def Do:pF:=fnP ["start","touches","touching","passed","others","drops","free"] ["start","touches"] Iz
def IA:pS:=(qSeq (qOwn 3 (qLst qNil))
   (qSeq (qSet 4 (qV 1))
   (qSeq (qFor (EY (C1 FJ (A2 (qV 0) (A2 (qUn wLen (qV 1)) qNil)))) (gN 5) (qSeq (qSet 6 (C1 Z2 (A2 (qV 0) (A2 (qV 4) (A2 (qV 5) qNil)))))
   (qSeq (qSet 7 (C1 Dm (A2 (qV 0) (A2 (qV 6) (A2 (qV 2) (A2 (qV 5) qNil))))))
   (qSeq (qIfS (CM (qV 7)) (AB 3 (qRet (qTup (A2 (qV 3) (A2 (qL (O5 [none,some 5] (qIl (qV 7)) (gN 0) qTru (qTup (A2 (qC (.str (A6 "untold"))) (A2 (qV 1) (A2 (qV 0) qNil)))))) qNil))))) qNx)
   (qSeq (qSet 8 (C1 y3 (A2 (qV 6) (A2 (C1 x9 (A2 (qV 0) (A2 (qV 6) (A2 (qV 2) (A2 (qV 5) qNil))))) qNil))))
   (qSeq (N7 (T3 3 (C1 Do (A2 (qV 6) (A2 (qV 8) qNil)))))
   (qSet 4 (C1 Dn (A2 (qV 0) (A2 (qV 4) (A2 (qV 5) (A2 (qV 8) qNil))))))))))))
   (AB 3 (qRet (qTup (A2 (qV 3) (A2 (qL (qLst qNil)) qNil))))))))
def FK:pF:=fnP ["meeting","row","other","races","stands","k","start","reasons","touches"] ["meeting","row","other"] IA
def IB:pS:=(qSeq (qAsg (C1 FK (A2 (qV 0) (A2 (qV 1) (A2 (qV 2) qNil)))) (gTp 2 (gCn (gN 3) (gCn (gN 4) gNl))))
   (qSeq (qIfS (CM (qV 4)) (qRet (qOp wIx (qV 4) (qC (.int 0)))) qNx)
   (qRet (qTup (A2 (qC (.str (A6 "told"))) (A2 (qUn O3 (qUn wRev (qV 3))) qNil))))))
def BO:pF:=fnP ["meeting","row","other","races","untold"] ["meeting","row","other"] IB
def IC:pS:=(qSeq (qSet 3 (C1 BO (A2 (qV 0) (A2 (qV 1) (A2 (qV 2) qNil)))))
   (qSeq (qIfS (qB (qOp (wEq 4) (qOp wIx (qV 3) (qC (.int 0))) (qC (.str (A6 "untold"))))) (qRet (qC (.int 0))) qNx)
   (qSeq (qSet 4 (qC (.int 1)))
   (qSeq (qFor (qIt (qOp wIx (qV 3) (qC (.int 1)))) (gN 5) (qFor (qIt (qOp wIx (qV 5) (qC (.int 2)))) (gN 6) (qAug 4 HQ (qC (.int 2)))))
   (qRet (qV 4))))))
def FM:pF:=fnP ["meeting","row","other","told","many","race","boat"] ["meeting","row","other"] IC
def FN:pS:=(qSeq (Hz 1 (qV 0))
   (qSeq (qOwn 2 (qLst qNil))
   (qSeq (qFor (BA (qC (.int 3))) (gN 3) (qSeq (qAsg (C1 Fw (A2 (qV 1) (A2 (qC (.int 24)) qNil))) (gTp 2 (gCn (gN 4) (gCn (gN 5) gNl))))
   (qSeq (qAsg (C1 FC (A2 (qV 1) (A2 (qV 4) (A2 (qV 5) qNil)))) (gTp 3 (gCn (gN 6) (gCn (gN 7) (gCn (gN 8) gNl)))))
   (qSeq (qSet 9 (qUn O3 (qL (O5 [none,none] (qZip false false (qV 7) (qV 6)) (gTp 2 (gCn (gN 0) (gCn (gN 1) gNl))) qTru (C1 FD (A2 (qV 0) (A2 (qV 1) qNil)))))))
   (N7 (T3 2 (qTup (A2 (qV 4) (A2 (qV 5) (A2 (qV 8) (A2 (qV 9) qNil)))))))))))
   (qSeq (qSet 10 (qUn d9 (qO 2)))
   (qSeq (AB 2 (qFor (qIl (qV 2)) (gTp 4 (gCn (gN 4) (gCn (gN 5) (gCn (gN 8) (gCn (gN 9) gNl))))) (qSeq (qIfS (qB (qOp (wNe 4) (qUn d9 (C1 BO (A2 (qV 4) (A2 (qV 5) (A2 (qV 8) qNil))))) (qUn d9 (qTup (A2 (qC (.str (A6 "told"))) (A2 (qV 9) qNil)))))) (qRet (qC (.bl false))) qNx)
   (qSeq (qSet 11 (qUn wSum (qL (O5 [none,none,none] (qIt (qV 9)) (gTp 3 (gCn (gN 0) (gCn (gN 1) (gCn (gN 2) gNl)))) qTru (qUn wLen (qV 2))))))
   (qIfS (qB (qOp (wNe 4) (qUn d9 (C1 FM (A2 (qV 4) (A2 (qV 5) (A2 (qV 8) qNil))))) (qUn d9 (qOp wShl (qC (.int 1)) (qV 11))))) (qRet (qC (.bl false))) qNx)))))
   (qRet (qOp (wEq 4) (qUn d9 (qV 2)) (qV 10))))))))
end Tb
end
section
namespace Tb
open PySem L2 Pu
def top (i:Nat):Stmt:=PySem.Challenge.pw_touchboats_k25_touches_of_a_made_day.main.body.getD i (.Pass ⟨0,0,0,0⟩)
section
variable {P:B2}{w:World}{K:A5}{mg:Str->Option Value}{base:Heap}{Pt cd:Addr}
theorem RC (F0:Fn0 K mg "_law_names" (top 31))(g__law_next:Kn P w K mg base "_law_next" 1 ["_law_draws","_law_many"] (B4 K potD w8))(m_range:mg "range"=none)(m_tuple:mg "tuple"=none):Kn P w K mg base "_law_names" 2 ["_law_draws","_law_many"] (B4 K potD Fv):=by
 have sc:D6 ["_law_draws","_law_many","_law_letters","_law_stem","_law_step","_law_first","_law_k","_law_at","_law_found","_law_far","_law_sign","_law_word_here"] ["_law_draws","_law_many"] (C5 (top 31)):=⟨rfl,rfl,rfl,by decide +kernel,rfl,by decide +kernel,by decide +kernel⟩
 exact F7 F0 sc (fun _ _ _ _ _ _=>bd2 fun _ _=>rfl) (k:=1) (body:=HR) (fun f cdv A outer s H E hr=>(B3 (Ka 2 3 (fun _=>Q9) (fun _=>J_ K 2 3 rfl (C2 2 sc.nd rfl (Or.inl rfl)) (C2 3 sc.nd rfl (Or.inl rfl))) (ql_v F5) (ql_v F5))
   (B3 (E5 4 (fun _=>D4 (i:=4) sc.nd rfl (Or.inl rfl)) (E9 (QN.ee (M4 (A3 B1 (A3 B1 (A3 B1 (A3 B1 (A3 B1 (A3 B1 (A3 B1 (A3 B1 (A3 B1 (A3 B1 A8)))))))))))) (C3 (fun _=>g__law_next) (fun _=>hr) (by decide) (fun _=>rfl) (A3 (A1 0 fun _=>vw 0) (A3 B1 A8)))))
   (B3 (E5 5 (fun _=>D4 (i:=5) sc.nd rfl (Or.inl rfl)) (C3 (fun _=>g__law_next) (fun _=>hr) (by decide) (fun _=>rfl) (A3 (A1 0 fun _=>vw 0) (A3 B1 A8))))
   (B3 (U8 (fun _=>rfl) (Ez (fun _=>rfl) (fun _=>m_range) B1) (C6 fun _=>C2 6 sc.nd rfl (Or.inl rfl)) (C0 (E5 3 (fun _=>D4 (i:=3) sc.nd rfl (Or.inl rfl)) (K2 (A1 3 fun _=>vw 3) (E9 (A1 2 fun _=>vw 2) (C3 (fun _=>g__law_next) (fun _=>hr) (by decide) (fun _=>rfl) (A3 (A1 0 fun _=>vw 0) (A3 B1 A8))))))))
   (B3 (E5 7 (fun _=>D4 (i:=7) sc.nd rfl (Or.inl rfl)) (C3 (fun _=>g__law_next) (fun _=>hr) (by decide) (fun _=>rfl) (A3 (A1 0 fun _=>vw 0) (A3 B1 A8))))
   (B3 (CG 8 (fun _=>D4 (i:=8) sc.nd rfl (Or.inl rfl)) (M4 A8))
   (B3 (U8 (fun _=>rfl) (Ez (fun _=>rfl) (fun _=>m_range) (A1 1 fun _=>vw 1)) (C6 fun _=>C2 6 sc.nd rfl (Or.inl rfl)) (B3 (EC 9 10 (fun _=>EB (i:=9) (j:=10) rfl sc.nd rfl rfl (by decide) rfl rfl rfl) (ql_v (K2 (A1 7 fun _=>vw 7) (C3 (fun _=>g__law_next) (fun _=>hr) (by decide) (fun _=>rfl) (A3 (A1 0 fun _=>vw 0) (A3 (Ax B1 (A1 7 fun _=>vw 7)) A8))))) (ql_v (E9 (A1 2 fun _=>vw 2) (qe_mod (K2 (A1 5 fun _=>vw 5) (GP (A1 4 fun _=>vw 4) (A1 6 fun _=>vw 6))) B1))))
   (C0 (R9 (fun _=>R8) (d8 8 (fun _=>vw 8) (K2 (K2 (R6 (A1 3 fun _=>vw 3) k8 (N6 (A1 7 fun _=>vw 7))) (A1 10 fun _=>vw 10)) (R6 (A1 3 fun _=>vw 3) (N6 (A1 7 fun _=>vw 7)) (N6 (A1 9 fun _=>vw 9)))))))))
   (B3 (E5 11 (fun _=>D4 (i:=11) sc.nd rfl (Or.inl rfl)) (E9 (QN.ee (M4 (A3 F5 (A3 F5 (A3 F5 (A3 F5 (A3 F5 (A3 F5 (A3 F5 A8))))))))) (C3 (fun _=>g__law_next) (fun _=>hr) (by decide) (fun _=>rfl) (A3 (A1 0 fun _=>vw 0) (A3 B1 A8)))))
   (B3 (T0 (QW.qt (Ew (J4 (w5 4 fun _=>hr) (A1 11 fun _=>vw 11) (X0 8 fun _=>vw 8) rfl) (Eu (J4 (cEq 4 fun _=>hr) (C3 (fun _=>g__law_next) (fun _=>hr) (by decide) (fun _=>rfl) (A3 (A1 0 fun _=>vw 0) (A3 B1 A8))) (QE.r B1) (G9 _))))) (C0 (CK 8 (fun _=>Q9) (A1 11 fun _=>vw 11) (fun _=>AA (vw 8)) (C3 (fun _=>g__law_next) (fun _=>hr) (by decide) (fun _=>rfl) (A3 (A1 0 fun _=>vw 0) (A3 (A1 1 fun _=>vw 1) A8))))) d7)
   (C0 (E3 (Q8 (fun _=>rfl) (fun _=>m_tuple) (X0 8 fun _=>vw 8))))))))))))))
theorem RD (F0:Fn0 K mg "_law_meet" (top 38))(g__law_next:Kn P w K mg base "_law_next" 1 ["_law_draws","_law_many"] (B4 K potD w8))(g__law_names:Kn P w K mg base "_law_names" 2 ["_law_draws","_law_many"] (B4 K potD Fv))(m_min:mg "min"=none):Kn P w K mg base "_law_meet" 3 ["_law_draws","_law_most"] (B4 K potD Fw):=by
 have sc:D6 ["_law_draws","_law_most","_law_meeting","_law_many"] ["_law_draws","_law_most"] (C5 (top 38)):=⟨rfl,rfl,rfl,by decide +kernel,rfl,by decide +kernel,by decide +kernel⟩
 exact F7 F0 sc (fun _ _ _ _ _ _=>bd2 fun _ _=>rfl) (k:=2) (body:=HS) (fun f cdv A outer s H E hr=>(B3 (E5 2 (fun _=>D4 (i:=2) sc.nd rfl (Or.inl rfl)) (M3 (A3 (K2 B1 (C3 (fun _=>g__law_next) (fun _=>hr) (by decide) (fun _=>rfl) (A3 (A1 0 fun _=>vw 0) (A3 B1 A8)))) (A3 (E9 (QN.ee (M4 (A3 B1 (A3 B1 (A3 B1 (A3 (C3 (fun _=>g__law_next) (fun _=>hr) (by decide) (fun _=>rfl) (A3 (A1 0 fun _=>vw 0) (A3 B1 A8))) A8)))))) (C3 (fun _=>g__law_next) (fun _=>hr) (by decide) (fun _=>rfl) (A3 (A1 0 fun _=>vw 0) (A3 B1 A8)))) A8))))
   (B3 (E5 3 (fun _=>D4 (i:=3) sc.nd rfl (Or.inl rfl)) (E9 (QN.ee (M4 (A3 (K2 B1 (C3 (fun _=>g__law_next) (fun _=>hr) (by decide) (fun _=>rfl) (A3 (A1 0 fun _=>vw 0) (A3 (A1 1 fun _=>vw 1) A8)))) (A3 (K2 B1 (C3 (fun _=>g__law_next) (fun _=>hr) (by decide) (fun _=>rfl) (A3 (A1 0 fun _=>vw 0) (A3 (JQ (fun _=>rfl) (fun _=>rfl) (fun _=>m_min) (A1 1 fun _=>vw 1) B1) A8)))) A8)))) (C3 (fun _=>g__law_next) (fun _=>hr) (by decide) (fun _=>rfl) (A3 (A1 0 fun _=>vw 0) (A3 B1 A8)))))
   (C0 (E3 (M3 (A3 (A1 2 fun _=>vw 2) (A3 (C3 (fun _=>g__law_names) (fun _=>hr) (by decide) (fun _=>rfl) (A3 (A1 0 fun _=>vw 0) (A3 (A1 3 fun _=>vw 3) A8))) A8))))))))
theorem RE (F0:Fn0 K mg "_law_span" (top 32)):Kn P w K mg base "_law_span" 1 ["_law_meeting","_law_n","_law_k"] (B4 K potD Fx):=by
 have sc:D6 ["_law_meeting","_law_n","_law_k","_law_size","_law_first"] ["_law_meeting","_law_n","_law_k"] (C5 (top 32)):=⟨rfl,rfl,rfl,by decide +kernel,rfl,by decide +kernel,by decide +kernel⟩
 exact F7 F0 sc (fun _ _ _ _ _ _=>bd3 fun _ _ _=>rfl) (k:=0) (body:=HU) (fun f cdv A outer s H E hr=>(B3 (E5 3 (fun _=>D4 (i:=3) sc.nd rfl (Or.inl rfl)) (E9 (A1 0 fun _=>vw 0) B1))
   (B3 (E5 4 (fun _=>D4 (i:=4) sc.nd rfl (Or.inl rfl)) (GP (A1 2 fun _=>vw 2) (A1 3 fun _=>vw 3)))
   (C0 (E3 (M3 (A3 (A1 4 fun _=>vw 4) (A3 (qe_if (J4 cLt (K2 (A1 4 fun _=>vw 4) (A1 3 fun _=>vw 3)) (QE.r (A1 1 fun _=>vw 1)) (G9 _)) (K2 (A1 4 fun _=>vw 4) (A1 3 fun _=>vw 3)) (Ax (A1 1 fun _=>vw 1) B1)) A8))))))))
theorem RF (F0:Fn0 K mg "_law_sheet" (top 35))(m_sorted:mg "sorted"=none)(m_tuple:mg "tuple"=none)(m_zip:mg "zip"=none):Kn P w K mg base "_law_sheet" 1 ["_law_start","_law_marks"] (B4 K potD Fy):=by
 have sc:D6 ["_law_start","_law_marks","_law_pile","_law_events","_law_boat","_law_mark"] ["_law_start","_law_marks"] (C5 (top 35)):=⟨rfl,rfl,rfl,by decide +kernel,rfl,by decide +kernel,by decide +kernel⟩
 exact F7 F0 sc (fun _ _ _ _ _ _=>bd2 fun _ _=>rfl) (k:=0) (body:=HV) (fun f cdv A outer s H E hr=>(B3 (EC 2 3 (fun _=>EB (i:=2) (j:=3) rfl sc.nd rfl rfl (by decide) rfl rfl rfl) (ql_o (M4 A8)) (ql_o (M4 A8)))
   (B3 (U8 (fun _=>rfl) (Hi false true (fun _=>rfl) (fun _=>m_zip) (A1 0 fun _=>vw 0) (A1 1 fun _=>vw 1)) (Y7 (fun _=>rfl) (J0 (C6 fun _=>C2 4 sc.nd rfl (Or.inl rfl)) (J0 (C6 fun _=>C2 5 sc.nd rfl (Or.inl rfl)) X2))) (C0 (T0 (J4 (cEq 4 fun _=>hr) (A1 5 fun _=>vw 5) (QE.r F5) (G9 _)) (C0 (R9 (fun _=>R8) (d8 2 (fun _=>vw 2) (A1 4 fun _=>vw 4)))) (C0 (T0 (J4 (cEq 4 fun _=>hr) (A1 5 fun _=>vw 5) (QE.r F5) (G9 _)) (C0 (R9 (fun _=>R8) (d8 3 (fun _=>vw 3) (M3 (A3 F5 (A3 (A1 4 fun _=>vw 4) (A3 (GY 2 fun _=>vw 2) A8))))))) (C0 (T0 (J4 (cEq 4 fun _=>hr) (A1 5 fun _=>vw 5) (QE.r F5) (G9 _)) (C0 (R9 (fun _=>R8) (d8 3 (fun _=>vw 3) (M3 (A3 F5 (A3 (A1 4 fun _=>vw 4) A8)))))) d7)))))))
   (C0 (E3 (Q8 (fun _=>rfl) (fun _=>m_tuple) (QE.r (QN.ee (EU (fun _=>rfl) (fun _=>m_sorted) (X0 3 fun _=>vw 3))))))))))
theorem RG (F0:Fn0 K mg "_law_races" (top 33)):Kn P w K mg base "_law_races" 1 ["_law_meeting","_law_n"] (B4 K potD Fz):=by
 have sc:D6 ["_law_meeting","_law_n"] ["_law_meeting","_law_n"] (C5 (top 33)):=⟨rfl,rfl,rfl,by decide +kernel,rfl,by decide +kernel,by decide +kernel⟩;exact F7 F0 sc (fun _ _ _ _ _ _=>bd2 fun _ _=>rfl) (k:=0) (body:=HW) (fun f cdv A outer s H E hr=>(C0 (E3 (JE (Ax (K2 (A1 1 fun _=>vw 1) (E9 (A1 0 fun _=>vw 0) B1)) B1) (E9 (A1 0 fun _=>vw 0) B1)))))
theorem RH (F0:Fn0 K mg "_law_word" (top 34))(g__law_next:Kn P w K mg base "_law_next" 1 ["_law_draws","_law_many"] (B4 K potD w8))(m_range:mg "range"=none):Kn P w K mg base "_law_word" 2 ["_law_draws","_law_many","_law_reach"] (B4 K potD FA):=by
 have sc:D6 ["_law_draws","_law_many","_law_reach","_law_marks","_law_pile","_law_k","_law_way"] ["_law_draws","_law_many","_law_reach"] (C5 (top 34)):=⟨rfl,rfl,rfl,by decide +kernel,rfl,by decide +kernel,by decide +kernel⟩
 exact F7 F0 sc (fun _ _ _ _ _ _=>bd3 fun _ _ _=>rfl) (k:=1) (body:=HX) (fun f cdv A outer s H E hr=>(B3 (EC 3 4 (fun _=>EB (i:=3) (j:=4) rfl sc.nd rfl rfl (by decide) rfl rfl rfl) (ql_o (M4 A8)) (ql_o (M4 A8)))
   (B3 (U8 (fun _=>rfl) (Ez (fun _=>rfl) (fun _=>m_range) (A1 1 fun _=>vw 1)) (C6 fun _=>C2 5 sc.nd rfl (Or.inl rfl)) (B3 (Nv (QW.qt (Ew (GT (cNe 4 fun _=>hr) (X0 4 fun _=>vw 4) (QE.r (QN.ee (M4 A8))) (G9 _)) (Eu (J4 cGt (Ax (Ax (A1 5 fun _=>vw 5) (qe_ixR (X0 4 fun _=>vw 4) (qe_neg B1))) B1) (QE.r (A1 2 fun _=>vw 2)) (G9 _))))) (C0 (CK 3 (fun _=>Q9) F5 (fun _=>AA (vw 3)) (GY 4 fun _=>vw 4))))
   (B3 (E5 6 (fun _=>D4 (i:=6) sc.nd rfl (Or.inl rfl)) (C3 (fun _=>g__law_next) (fun _=>hr) (by decide) (fun _=>rfl) (A3 (A1 0 fun _=>vw 0) (A3 B1 A8))))
   (C0 (T0 (QW.qt (Ew (GT (cNe 4 fun _=>hr) (X0 4 fun _=>vw 4) (QE.r (QN.ee (M4 A8))) (G9 _)) (Eu (J4 cLt (A1 6 fun _=>vw 6) (QE.r B1) (G9 _))))) (B3 (CK 3 (fun _=>Q9) F5 (fun _=>AA (vw 3)) (GY 4 fun _=>vw 4))
   (C0 (R9 (fun _=>R8) (d8 3 (fun _=>vw 3) F5)))) (C0 (T0 (QW.qt (qw_or (J4 (cEq 4 fun _=>hr) (A1 6 fun _=>vw 6) (QE.r B1) (G9 _)) (qw_or1 (J4 (cEq 4 fun _=>hr) (A1 6 fun _=>vw 6) (QE.r B1) (G9 _))))) (B3 (R9 (fun _=>R8) (d8 4 (fun _=>vw 4) (A1 5 fun _=>vw 5)))
   (C0 (R9 (fun _=>R8) (d8 3 (fun _=>vw 3) F5)))) (C0 (R9 (fun _=>R8) (d8 3 (fun _=>vw 3) (qe_if (GT (cNe 4 fun _=>hr) (X0 4 fun _=>vw 4) (QE.r (QN.ee (M4 A8))) (G9 _)) F5 (E9 (QN.ee (M4 (A3 F5 (A3 F5 (A3 F5 A8))))) (C3 (fun _=>g__law_next) (fun _=>hr) (by decide) (fun _=>rfl) (A3 (A1 0 fun _=>vw 0) (A3 B1 A8)))))))))))))))
   (C0 (JS 3 fun _=>vw 3)))))
theorem RI (F0:Fn0 K mg "_law_after" (top 36))(m_list:mg "list"=none)(m_tuple:mg "tuple"=none):Kn P w K mg base "_law_after" 1 ["_law_start","_law_sheet_here"] (B4 K potD FB):=by
 have sc:D6 ["_law_start","_law_sheet_here","_law_found","_law_event"] ["_law_start","_law_sheet_here"] (C5 (top 36)):=⟨rfl,rfl,rfl,by decide +kernel,rfl,by decide +kernel,by decide +kernel⟩
 exact F7 F0 sc (fun _ _ _ _ _ _=>bd2 fun _ _=>rfl) (k:=0) (body:=HY) (fun f cdv A outer s H E hr=>(B3 (CG 2 (fun _=>D4 (i:=2) sc.nd rfl (Or.inl rfl)) (JP (fun _=>rfl) (fun _=>m_list) (QE.r (A1 0 fun _=>vw 0))))
   (B3 (U8 (fun _=>rfl) (O4 (A1 1 fun _=>vw 1)) (C6 fun _=>C2 3 sc.nd rfl (Or.inl rfl)) (C0 (T0 (J4 (cEq 4 fun _=>hr) (E9 (A1 3 fun _=>vw 3) B1) (QE.r F5) (G9 _)) (B3 (CK 2 (fun _=>Q9) (E9 (A1 3 fun _=>vw 3) B1) (fun _=>AA (vw 2)) (V3 (A1 0 fun _=>vw 0) (E9 (A1 3 fun _=>vw 3) B1)))
   (C0 (CK 2 (fun _=>Q9) (E9 (A1 3 fun _=>vw 3) B1) (fun _=>AA (vw 2)) (V3 (A1 0 fun _=>vw 0) (E9 (A1 3 fun _=>vw 3) B1))))) d7)))
   (C0 (E3 (Q8 (fun _=>rfl) (fun _=>m_tuple) (X0 2 fun _=>vw 2)))))))
theorem RJ (F0:Fn0 K mg "_law_day" (top 37))(g__law_races:Kn P w K mg base "_law_races" 1 ["_law_meeting","_law_n"] (B4 K potD Fz))(g__law_span:Kn P w K mg base "_law_span" 1 ["_law_meeting","_law_n","_law_k"] (B4 K potD Fx))(g__law_word:Kn P w K mg base "_law_word" 2 ["_law_draws","_law_many","_law_reach"] (B4 K potD FA))(g__law_sheet:Kn P w K mg base "_law_sheet" 1 ["_law_start","_law_marks"] (B4 K potD Fy))(g__law_after:Kn P w K mg base "_law_after" 1 ["_law_start","_law_sheet_here"] (B4 K potD FB))(m_len:mg "len"=none)(m_range:mg "range"=none)(m_reversed:mg "reversed"=none)(m_tuple:mg "tuple"=none):Kn P w K mg base "_law_day" 3 ["_law_draws","_law_meeting","_law_row"] (B4 K potD FC):=by
 have sc:D6 ["_law_draws","_law_meeting","_law_row","_law_sheets","_law_starts","_law_k","_law_first","_law_last","_law_start","_law_sheet_here"] ["_law_draws","_law_meeting","_law_row"] (C5 (top 37)):=⟨rfl,rfl,rfl,by decide +kernel,rfl,by decide +kernel,by decide +kernel⟩
 exact F7 F0 sc (fun _ _ _ _ _ _=>bd3 fun _ _ _=>rfl) (k:=2) (body:=HZ) (fun f cdv A outer s H E hr=>(B3 (EC 3 4 (fun _=>EB (i:=3) (j:=4) rfl sc.nd rfl rfl (by decide) rfl rfl rfl) (ql_o (M4 A8)) (ql_o (M4 A8)))
   (B3 (U8 (fun _=>rfl) (KN (fun _=>rfl) (fun _=>m_reversed) (fun _=>rfl) (fun _=>m_range) (C3 (fun _=>g__law_races) (fun _=>hr) (by decide) (fun _=>rfl) (A3 (A1 1 fun _=>vw 1) (A3 (w6 (fun _=>rfl) (fun _=>m_len) (QE.r (A1 2 fun _=>vw 2))) A8)))) (C6 fun _=>C2 5 sc.nd rfl (Or.inl rfl)) (B3 (Az (fun _=>Q9) (C3 (fun _=>g__law_span) (fun _=>hr) (by decide) (fun _=>rfl) (A3 (A1 1 fun _=>vw 1) (A3 (w6 (fun _=>rfl) (fun _=>m_len) (QE.r (A1 2 fun _=>vw 2))) (A3 (A1 5 fun _=>vw 5) A8)))) (Y7 (fun _=>rfl) (J0 (C6 fun _=>C2 6 sc.nd rfl (Or.inl rfl)) (J0 (C6 fun _=>C2 7 sc.nd rfl (Or.inl rfl)) X2))))
   (B3 (E5 8 (fun _=>D4 (i:=8) sc.nd rfl (Or.inl rfl)) (R6 (A1 2 fun _=>vw 2) (N6 (A1 6 fun _=>vw 6)) (N6 (K2 (A1 7 fun _=>vw 7) B1))))
   (B3 (E5 9 (fun _=>D4 (i:=9) sc.nd rfl (Or.inl rfl)) (C3 (fun _=>g__law_sheet) (fun _=>hr) (by decide) (fun _=>rfl) (A3 (A1 8 fun _=>vw 8) (A3 (C3 (fun _=>g__law_word) (fun _=>hr) (by decide) (fun _=>rfl) (A3 (A1 0 fun _=>vw 0) (A3 (w6 (fun _=>rfl) (fun _=>m_len) (QE.r (A1 8 fun _=>vw 8))) (A3 (E9 (A1 1 fun _=>vw 1) B1) A8)))) A8))))
   (B3 (E5 2 (fun _=>D4 (i:=2) sc.nd rfl (Or.inl rfl)) (K2 (K2 (R6 (A1 2 fun _=>vw 2) k8 (N6 (A1 6 fun _=>vw 6))) (C3 (fun _=>g__law_after) (fun _=>hr) (by decide) (fun _=>rfl) (A3 (A1 8 fun _=>vw 8) (A3 (A1 9 fun _=>vw 9) A8)))) (R6 (A1 2 fun _=>vw 2) (N6 (K2 (A1 7 fun _=>vw 7) B1)) k8)))
   (B3 (R9 (fun _=>R8) (KP 3 (fun _=>vw 3) B1 (A1 9 fun _=>vw 9)))
   (C0 (R9 (fun _=>R8) (KP 4 (fun _=>vw 4) B1 (A1 8 fun _=>vw 8))))))))))
   (C0 (E3 (M3 (A3 (Q8 (fun _=>rfl) (fun _=>m_tuple) (X0 3 fun _=>vw 3)) (A3 (Q8 (fun _=>rfl) (fun _=>m_tuple) (X0 4 fun _=>vw 4)) (A3 (A1 2 fun _=>vw 2) A8)))))))))
theorem RK (F0:Fn0 K mg "_law_race" (top 39))(m_set:mg "set"=none)(m_sorted:mg "sorted"=none)(m_tuple:mg "tuple"=none):Kn P w K mg base "_law_race" 1 ["_law_start","_law_sheet_here"] (B4 K potD FD):=by
 have sc:D6 ["_law_start","_law_sheet_here","_law_touches","_law_met","_law_within","_law_event","_law_drops","_law_free"] ["_law_start","_law_sheet_here"] (C5 (top 39)):=⟨rfl,rfl,rfl,by decide +kernel,rfl,by decide +kernel,by decide +kernel⟩
 exact F7 F0 sc (fun _ _ _ _ _ _=>bd2 fun _ _=>rfl) (k:=0) (body:=H_) (fun f cdv A outer s H E hr=>(B3 (Hf 2 (EH (N:=["_law_event"]) (cs:=[none]) (fun _=>O2 rfl rfl rfl rfl trivial rfl rfl rfl) (fun _=>rfl) (O4 (A1 1 fun _=>vw 1)) (C6 fun _=>C2 0 (show G7 (["_law_event"]:List Str) by decide +kernel) rfl (Or.inl rfl)) (U6 (J4 (cEq 4 fun _=>hr) (E9 (A1 0 fun _=>vw 0) B1) (QE.r F5) (G9 _))) (A1 0 fun _=>vw 0)) (fun _=>sc.nd) (fun _=>rfl) (fun _=>Or.inl rfl))
   (B3 (Ka 3 4 (fun _=>Q9) (fun _=>J_ K 3 4 rfl (C2 3 sc.nd rfl (Or.inr rfl)) (C2 4 sc.nd rfl (Or.inr rfl))) (ql_o (M4 A8)) (ql_o (M4 A8)))
   (B3 (U8 (fun _=>rfl) (Ay (A1 2 fun _=>vw 2)) (C6 fun _=>C2 5 sc.nd rfl (Or.inl rfl)) (B3 (R9 (fun _=>R8) (LF 3 (fun _=>vw 3) (R6 (A1 5 fun _=>vw 5) (N6 B1) k8)))
   (C0 (R9 (fun _=>R8) (LF 4 (fun _=>vw 4) (R6 (A1 0 fun _=>vw 0) (N6 (K2 (V3 (A1 0 fun _=>vw 0) (E9 (A1 5 fun _=>vw 5) B1)) B1)) (N6 (V3 (A1 0 fun _=>vw 0) (E9 (A1 5 fun _=>vw 5) B1)))))))))
   (B3 (CL 4 (CL 3 (E5 6 (fun _=>D4 (i:=6) sc.nd rfl (Or.inl rfl)) (QN.ee (Ri (fun _=>rfl) (fun _=>rfl) (fun _=>m_sorted) (fun _=>rfl) (fun _=>m_set) (QE.r (QN.ee (Y8 (N:=["_law_boat","_law_met"]) (cs:=[none,some 3]) (fun _=>O2 rfl rfl rfl rfl ⟨rfl,trivial⟩ rfl rfl rfl) (fun _=>rfl) (Ay (A1 4 fun _=>vw 4)) (C6 fun _=>C2 0 (show G7 (["_law_boat","_law_met"]:List Str) by decide +kernel) rfl (Or.inl rfl)) (U6 (J4 (w5 4 fun _=>hr) (A1 0 fun _=>vw 0) (QE.r (A1 1 fun _=>vw 1)) rfl)) (A1 0 fun _=>vw 0)))))))))
   (B3 (E5 7 (fun _=>D4 (i:=7) sc.nd rfl (Or.inl rfl)) (QN.ee (EU (fun _=>rfl) (fun _=>m_sorted) (QE.r (QN.ee (Y8 (N:=["_law_boat","_law_met","_law_within"]) (cs:=[none,some 3,some 4]) (fun _=>O2 rfl rfl rfl rfl ⟨rfl,⟨rfl,trivial⟩⟩ rfl rfl rfl) (fun _=>rfl) (O4 (A1 0 fun _=>vw 0)) (C6 fun _=>C2 0 (show G7 (["_law_boat","_law_met","_law_within"]:List Str) by decide +kernel) rfl (Or.inl rfl)) (U6 (QW.qt (Ew (J4 (w5 4 fun _=>hr) (A1 0 fun _=>vw 0) (QE.r (A1 1 fun _=>vw 1)) rfl) (Eu (J4 (w5 4 fun _=>hr) (A1 0 fun _=>vw 0) (QE.r (A1 2 fun _=>vw 2)) rfl))))) (A1 0 fun _=>vw 0)))))))
   (C0 (E3 (M3 (A3 (Q8 (fun _=>rfl) (fun _=>m_tuple) (QE.r (A1 2 fun _=>vw 2))) (A3 (Q8 (fun _=>rfl) (fun _=>m_tuple) (QE.r (A1 6 fun _=>vw 6))) (A3 (Q8 (fun _=>rfl) (fun _=>m_tuple) (QE.r (A1 7 fun _=>vw 7))) A8))))))))))))
theorem k_span (F0:Fn0 K mg "span" (top 2))(m_min:mg "min"=none):Kn P w K mg base "span" 1 ["meeting","n","k"] (B4 K potD BN):=by
 have sc:D6 ["meeting","n","k","size","first"] ["meeting","n","k"] (C5 (top 2)):=⟨rfl,rfl,rfl,by decide +kernel,rfl,by decide +kernel,by decide +kernel⟩
 exact F7 F0 sc (fun _ _ _ _ _ _=>bd3 fun _ _ _=>rfl) (k:=0) (body:=Ia) (fun f cdv A outer s H E hr=>(B3 (E5 3 (fun _=>D4 (i:=3) sc.nd rfl (Or.inl rfl)) (E9 (A1 0 fun _=>vw 0) B1))
   (B3 (E5 4 (fun _=>D4 (i:=4) sc.nd rfl (Or.inl rfl)) (GP (A1 2 fun _=>vw 2) (A1 3 fun _=>vw 3)))
   (C0 (E3 (M3 (A3 (A1 4 fun _=>vw 4) (A3 (JQ (fun _=>rfl) (fun _=>rfl) (fun _=>m_min) (K2 (A1 4 fun _=>vw 4) (A1 3 fun _=>vw 3)) (Ax (A1 1 fun _=>vw 1) B1)) A8))))))))
theorem RL (F0:Fn0 K mg "start_on" (top 13))(g_span:Kn P w K mg base "span" 1 ["meeting","n","k"] (B4 K potD BN))(m_len:mg "len"=none):Kn P w K mg base "start_on" 2 ["meeting","row","k"] (B4 K potD Z2):=by
 have sc:D6 ["meeting","row","k","first","last"] ["meeting","row","k"] (C5 (top 13)):=⟨rfl,rfl,rfl,by decide +kernel,rfl,by decide +kernel,by decide +kernel⟩
 exact F7 F0 sc (fun _ _ _ _ _ _=>bd3 fun _ _ _=>rfl) (k:=1) (body:=Ib) (fun f cdv A outer s H E hr=>(B3 (Az (fun _=>Q9) (C3 (fun _=>g_span) (fun _=>hr) (by decide) (fun _=>rfl) (A3 (A1 0 fun _=>vw 0) (A3 (w6 (fun _=>rfl) (fun _=>m_len) (QE.r (A1 1 fun _=>vw 1))) (A3 (A1 2 fun _=>vw 2) A8)))) (Y7 (fun _=>rfl) (J0 (C6 fun _=>C2 3 sc.nd rfl (Or.inl rfl)) (J0 (C6 fun _=>C2 4 sc.nd rfl (Or.inl rfl)) X2))))
   (C0 (E3 (R6 (A1 1 fun _=>vw 1) (N6 (A1 3 fun _=>vw 3)) (N6 (K2 (A1 4 fun _=>vw 4) B1)))))))
theorem RM (F0:Fn0 K mg "from_reasons" (top 17))(g_start_on:Kn P w K mg base "start_on" 2 ["meeting","row","k"] (B4 K potD Z2)):Kn P w K mg base "from_reasons" 3 ["meeting","start","other","k"] (B4 K potD Dg):=by
 have sc:D6 ["meeting","start","other","k"] ["meeting","start","other","k"] (C5 (top 17)):=⟨rfl,rfl,rfl,by decide +kernel,rfl,by decide +kernel,by decide +kernel⟩;exact F7 F0 sc (fun _ _ _ _ _ _=>bd4 fun _ _ _ _=>rfl) (k:=2) (body:=Ie) (fun f cdv A outer s H E hr=>(C0 (E3 (QN.ee (Y8 (N:=["x","start"]) (cs:=[none,some 1]) (fun _=>O2 rfl rfl rfl rfl ⟨rfl,trivial⟩ rfl rfl rfl) (fun _=>rfl) (O4 (R6 (C3 (fun _=>g_start_on) (fun _=>hr) (by decide) (fun _=>rfl) (A3 (A1 0 fun _=>vw 0) (A3 (A1 2 fun _=>vw 2) (A3 (A1 3 fun _=>vw 3) A8)))) (N6 B1) k8)) (C6 fun _=>C2 0 (show G7 (["x","start"]:List Str) by decide +kernel) rfl (Or.inl rfl)) (U6 (J4 (w5 4 fun _=>hr) (A1 0 fun _=>vw 0) (QE.r (A1 1 fun _=>vw 1)) rfl)) (M3 (A3 F5 (A3 (A1 0 fun _=>vw 0) A8))))))))
theorem RN (F0:Fn0 K mg "goal_of" (top 18))(g_start_on:Kn P w K mg base "start_on" 2 ["meeting","row","k"] (B4 K potD Z2))(m_tuple:mg "tuple"=none):Kn P w K mg base "goal_of" 3 ["meeting","start","other","k"] (B4 K potD x9):=by
 have sc:D6 ["meeting","start","other","k","behind"] ["meeting","start","other","k"] (C5 (top 18)):=⟨rfl,rfl,rfl,by decide +kernel,rfl,by decide +kernel,by decide +kernel⟩
 exact F7 F0 sc (fun _ _ _ _ _ _=>bd4 fun _ _ _ _=>rfl) (k:=2) (body:=Ig) (fun f cdv A outer s H E hr=>(B3 (E5 4 (fun _=>D4 (i:=4) sc.nd rfl (Or.inr rfl)) (R6 (C3 (fun _=>g_start_on) (fun _=>hr) (by decide) (fun _=>rfl) (A3 (A1 0 fun _=>vw 0) (A3 (A1 2 fun _=>vw 2) (A3 (A1 3 fun _=>vw 3) A8)))) (N6 B1) k8))
   (C0 (E3 (K2 (Q8 (fun _=>rfl) (fun _=>m_tuple) (QE.r (QN.ee (Y8 (N:=["boat","behind"]) (cs:=[none,some 4]) (fun _=>O2 rfl rfl rfl rfl ⟨rfl,trivial⟩ rfl rfl rfl) (fun _=>rfl) (O4 (A1 1 fun _=>vw 1)) (C6 fun _=>C2 0 (show G7 (["boat","behind"]:List Str) by decide +kernel) rfl (Or.inl rfl)) (U6 (J4 (w5 4 fun _=>hr) (A1 0 fun _=>vw 0) (QE.r (A1 1 fun _=>vw 1)) rfl)) (A1 0 fun _=>vw 0))))) (A1 4 fun _=>vw 4))))))
theorem RO (F0:Fn0 K mg "goes_round" (top 19)):Kn P w K mg base "goes_round" 1 ["start","goal","x"] (B4 K potD Dh):=by
 have sc:D6 ["start","goal","x","there"] ["start","goal","x"] (C5 (top 19)):=⟨rfl,rfl,rfl,by decide +kernel,rfl,by decide +kernel,by decide +kernel⟩
 exact F7 F0 sc (fun _ _ _ _ _ _=>bd3 fun _ _ _=>rfl) (k:=0) (body:=Ih) (fun f cdv A outer s H E hr=>(B3 (E5 3 (fun _=>D4 (i:=3) sc.nd rfl (Or.inl rfl)) (E9 (A1 0 fun _=>vw 0) (V3 (A1 1 fun _=>vw 1) (A1 2 fun _=>vw 2))))
   (C0 (E3 (Bz (cNe 4 fun _=>hr) (V3 (A1 1 fun _=>vw 1) (A1 3 fun _=>vw 3)) (QE.r (V3 (A1 0 fun _=>vw 0) (A1 2 fun _=>vw 2))) (G9 _))))))
theorem RQ (F0:Fn0 K mg "round_reasons" (top 20))(g_goes_round:Kn P w K mg base "goes_round" 1 ["start","goal","x"] (B4 K potD Dh)):Kn P w K mg base "round_reasons" 2 ["start","goal"] (B4 K potD Di):=by
 have sc:D6 ["start","goal"] ["start","goal"] (C5 (top 20)):=⟨rfl,rfl,rfl,by decide +kernel,rfl,by decide +kernel,by decide +kernel⟩;exact F7 F0 sc (fun _ _ _ _ _ _=>bd2 fun _ _=>rfl) (k:=1) (body:=Ii) (fun f cdv A outer s H E hr=>(C0 (E3 (QN.ee (Y8 (N:=["x","start","goal"]) (cs:=[none,some 0,some 1]) (fun _=>O2 rfl rfl rfl rfl ⟨rfl,⟨rfl,trivial⟩⟩ rfl rfl rfl) (fun _=>rfl) (O4 (A1 0 fun _=>vw 0)) (C6 fun _=>C2 0 (show G7 (["x","start","goal"]:List Str) by decide +kernel) rfl (Or.inl rfl)) (U6 (GS (C3 (fun _=>g_goes_round) (fun _=>hr) (by decide) (fun _=>rfl) (A3 (A1 1 fun _=>vw 1) (A3 (A1 2 fun _=>vw 2) (A3 (A1 0 fun _=>vw 0) A8)))))) (M3 (A3 F5 (A3 (A1 0 fun _=>vw 0) A8))))))))
theorem RR (F0:Fn0 K mg "between" (top 8))(m_sorted:mg "sorted"=none):Kn P w K mg base "between" 1 ["start","touch"] (B4 K potD h9):=by
 have sc:D6 ["start","touch","low","high"] ["start","touch"] (C5 (top 8)):=⟨rfl,rfl,rfl,by decide +kernel,rfl,by decide +kernel,by decide +kernel⟩
 exact F7 F0 sc (fun _ _ _ _ _ _=>bd2 fun _ _=>rfl) (k:=0) (body:=Ij) (fun f cdv A outer s H E hr=>(B3 (Az (fun _=>Q9) (QN.ee (EU (fun _=>rfl) (fun _=>m_sorted) (QE.r (QN.ee (M4 (A3 (V3 (A1 0 fun _=>vw 0) (E9 (A1 1 fun _=>vw 1) B1)) (A3 (V3 (A1 0 fun _=>vw 0) (E9 (A1 1 fun _=>vw 1) B1)) A8))))))) (qg_lst (fun _=>rfl) (J0 (C6 fun _=>C2 2 sc.nd rfl (Or.inl rfl)) (J0 (C6 fun _=>C2 3 sc.nd rfl (Or.inl rfl)) X2))))
   (C0 (E3 (R6 (A1 0 fun _=>vw 0) (N6 (K2 (A1 2 fun _=>vw 2) B1)) (N6 (A1 3 fun _=>vw 3)))))))
theorem RS (F0:Fn0 K mg "is_far" (top 9))(g_between:Kn P w K mg base "between" 1 ["start","touch"] (B4 K potD h9))(m_len:mg "len"=none):Kn P w K mg base "is_far" 2 ["start","reach","touch"] (B4 K potD Dj):=by
 have sc:D6 ["start","reach","touch"] ["start","reach","touch"] (C5 (top 9)):=⟨rfl,rfl,rfl,by decide +kernel,rfl,by decide +kernel,by decide +kernel⟩;exact F7 F0 sc (fun _ _ _ _ _ _=>bd3 fun _ _ _=>rfl) (k:=1) (body:=Ik) (fun f cdv A outer s H E hr=>(C0 (E3 (Bz cGt (w6 (fun _=>rfl) (fun _=>m_len) (QE.r (C3 (fun _=>g_between) (fun _=>hr) (by decide) (fun _=>rfl) (A3 (A1 0 fun _=>vw 0) (A3 (A1 2 fun _=>vw 2) A8))))) (QE.r (A1 1 fun _=>vw 1)) (G9 _)))))
theorem RT (F0:Fn0 K mg "boats_of" (top 6)):Kn P w K mg base "boats_of" 1 ["events"] (B4 K potD y0):=by
 have sc:D6 ["events"] ["events"] (C5 (top 6)):=⟨rfl,rfl,rfl,by decide +kernel,rfl,by decide +kernel,by decide +kernel⟩;exact F7 F0 sc (fun _ _ _ _ _ _=>bd1 fun _=>rfl) (k:=0) (body:=Il) (fun f cdv A outer s H E hr=>(C0 (E3 (QN.ee (HN (N:=["event","boat"]) (cs:=[none,none]) (fun _=>O2 rfl rfl rfl rfl trivial rfl rfl rfl) (fun _=>rfl) (O4 (A1 0 fun _=>vw 0)) (C6 fun _=>C2 0 (show G7 (["event","boat"]:List Str) by decide +kernel) rfl (Or.inl rfl)) (O4 (R6 (A1 0 fun _=>vw 0) (N6 B1) k8)) (C6 fun _=>C2 1 (show G7 (["event","boat"]:List Str) by decide +kernel) rfl (Or.inl rfl)) CF (A1 1 fun _=>vw 1))))))
theorem RU (F0:Fn0 K mg "is_cross" (top 10))(g_boats_of:Kn P w K mg base "boats_of" 1 ["events"] (B4 K potD y0))(g_between:Kn P w K mg base "between" 1 ["start","touch"] (B4 K potD h9))(m_len:mg "len"=none)(m_set:mg "set"=none):Kn P w K mg base "is_cross" 2 ["start","one","other"] (B4 K potD Dk):=by
 have sc:D6 ["start","one","other","inner"] ["start","one","other"] (C5 (top 10)):=⟨rfl,rfl,rfl,by decide +kernel,rfl,by decide +kernel,by decide +kernel⟩
 exact F7 F0 sc (fun _ _ _ _ _ _=>bd3 fun _ _ _=>rfl) (k:=1) (body:=Im) (fun f cdv A outer s H E hr=>(B3 (T0 (J4 (cNe 4 fun _=>hr) (Rh (fun _=>rfl) (fun _=>rfl) (fun _=>m_len) (fun _=>rfl) (fun _=>m_set) (C3 (fun _=>g_boats_of) (fun _=>hr) (by decide) (fun _=>rfl) (A3 (M3 (A3 (A1 1 fun _=>vw 1) (A3 (A1 2 fun _=>vw 2) A8))) A8))) (QE.r B1) (G9 _)) (C0 (E3 GO)) d7)
   (B3 (E5 3 (fun _=>D4 (i:=3) sc.nd rfl (Or.inl rfl)) (C3 (fun _=>g_between) (fun _=>hr) (by decide) (fun _=>rfl) (A3 (A1 0 fun _=>vw 0) (A3 (A1 1 fun _=>vw 1) A8))))
   (C0 (E3 (Bz (cNe 4 fun _=>hr) (Bz (cIn 4 fun _=>hr) (E9 (A1 2 fun _=>vw 2) B1) (QE.r (A1 3 fun _=>vw 3)) rfl) (QE.r (Bz (cIn 4 fun _=>hr) (E9 (A1 2 fun _=>vw 2) B1) (QE.r (A1 3 fun _=>vw 3)) rfl)) (G9 _)))))))
theorem RW (F0:Fn0 K mg "touch_reasons" (top 22))(g_is_far:Kn P w K mg base "is_far" 2 ["start","reach","touch"] (B4 K potD Dj))(g_is_cross:Kn P w K mg base "is_cross" 2 ["start","one","other"] (B4 K potD Dk)):Kn P w K mg base "touch_reasons" 3 ["start","reach","touches"] (B4 K potD Dl):=by
 have sc:D6 ["start","reach","touches","reasons"] ["start","reach","touches"] (C5 (top 22)):=⟨rfl,rfl,rfl,by decide +kernel,rfl,by decide +kernel,by decide +kernel⟩
 exact F7 F0 sc (fun _ _ _ _ _ _=>bd3 fun _ _ _=>rfl) (k:=2) (body:=Io) (fun f cdv A outer s H E hr=>(B3 (NN 3 (EH (N:=["e","start","reach"]) (cs:=[none,some 0,some 1]) (fun _=>O2 rfl rfl rfl rfl ⟨rfl,⟨rfl,trivial⟩⟩ rfl rfl rfl) (fun _=>rfl) (O4 (A1 2 fun _=>vw 2)) (C6 fun _=>C2 0 (show G7 (["e","start","reach"]:List Str) by decide +kernel) rfl (Or.inl rfl)) (U6 (GS (C3 (fun _=>g_is_far) (fun _=>hr) (by decide) (fun _=>rfl) (A3 (A1 1 fun _=>vw 1) (A3 (A1 2 fun _=>vw 2) (A3 (A1 0 fun _=>vw 0) A8)))))) (M3 (A3 F5 (A3 (A1 0 fun _=>vw 0) A8)))) (fun _=>sc.nd) (fun _=>rfl) (fun _=>Or.inl rfl))
   (B3 (NL 3 (fun _=>Kf (i:=3) sc.nd rfl (Or.inl rfl) NK) (QN.ee (HN (N:=["e","g","touches","start"]) (cs:=[none,none,some 2,some 0]) (fun _=>O2 rfl rfl rfl rfl ⟨rfl,⟨rfl,trivial⟩⟩ rfl rfl rfl) (fun _=>rfl) (O4 (A1 2 fun _=>vw 2)) (C6 fun _=>C2 0 (show G7 (["e","g","touches","start"]:List Str) by decide +kernel) rfl (Or.inl rfl)) (O4 (A1 2 fun _=>vw 2)) (C6 fun _=>C2 1 (show G7 (["e","g","touches","start"]:List Str) by decide +kernel) rfl (Or.inl rfl)) (U6 (GS (C3 (fun _=>g_is_cross) (fun _=>hr) (by decide) (fun _=>rfl) (A3 (A1 3 fun _=>vw 3) (A3 (A1 0 fun _=>vw 0) (A3 (A1 1 fun _=>vw 1) A8)))))) (M3 (A3 F5 (A3 (A1 0 fun _=>vw 0) (A3 (A1 1 fun _=>vw 1) A8)))))))
   (C0 (JS 3 fun _=>vw 3)))))
theorem RX (F0:Fn0 K mg "sheet_of" (top 5))(m_set:mg "set"=none)(m_sorted:mg "sorted"=none)(m_tuple:mg "tuple"=none):Kn P w K mg base "sheet_of" 1 ["events"] (B4 K potD FE):=by
 have sc:D6 ["events"] ["events"] (C5 (top 5)):=⟨rfl,rfl,rfl,by decide +kernel,rfl,by decide +kernel,by decide +kernel⟩;exact F7 F0 sc (fun _ _ _ _ _ _=>bd1 fun _=>rfl) (k:=0) (body:=Ip) (fun f cdv A outer s H E hr=>(C0 (E3 (Q8 (fun _=>rfl) (fun _=>m_tuple) (QE.r (QN.ee (QX (fun _=>rfl) (fun _=>hr) (fun _=>rfl) (fun _=>m_sorted) (fun _=>rfl) (fun _=>m_set) (QE.r (A1 0 fun _=>vw 0)))))))))
theorem RY (F0:Fn0 K mg "touches_to" (top 21))(g_sheet_of:Kn P w K mg base "sheet_of" 1 ["events"] (B4 K potD FE))(m_zip:mg "zip"=none):Kn P w K mg base "touches_to" 2 ["start","goal"] (B4 K potD y3):=by
 have sc:D6 ["start","goal"] ["start","goal"] (C5 (top 21)):=⟨rfl,rfl,rfl,by decide +kernel,rfl,by decide +kernel,by decide +kernel⟩;exact F7 F0 sc (fun _ _ _ _ _ _=>bd2 fun _ _=>rfl) (k:=1) (body:=Iq) (fun f cdv A outer s H E hr=>(C0 (E3 (C3 (fun _=>g_sheet_of) (fun _=>hr) (by decide) (fun _=>rfl) (A3 (QN.ee (Y8 (N:=["x","y","goal","start"]) (cs:=[none,none,some 1,some 0]) (fun _=>O2 rfl rfl rfl rfl ⟨rfl,⟨rfl,trivial⟩⟩ rfl rfl rfl) (fun _=>rfl) (Hi false false (fun _=>rfl) (fun _=>m_zip) (A1 1 fun _=>vw 1) (A1 0 fun _=>vw 0)) (Y7 (fun _=>rfl) (J0 (C6 fun _=>C2 0 (show G7 (["x","y","goal","start"]:List Str) by decide +kernel) rfl (Or.inl rfl)) (J0 (C6 fun _=>C2 1 (show G7 (["x","y","goal","start"]:List Str) by decide +kernel) rfl (Or.inl rfl)) X2))) (U6 (J4 cLt (V3 (A1 2 fun _=>vw 2) (A1 0 fun _=>vw 0)) (QE.r (V3 (A1 3 fun _=>vw 3) (A1 0 fun _=>vw 0))) (G9 _))) (M3 (A3 F5 (A3 (A1 0 fun _=>vw 0) (A3 (A1 1 fun _=>vw 1) A8)))))) A8)))))
theorem RZ (F0:Fn0 K mg "reasons_at" (top 23))(g_from_reasons:Kn P w K mg base "from_reasons" 3 ["meeting","start","other","k"] (B4 K potD Dg))(g_goal_of:Kn P w K mg base "goal_of" 3 ["meeting","start","other","k"] (B4 K potD x9))(g_touches_to:Kn P w K mg base "touches_to" 2 ["start","goal"] (B4 K potD y3))(g_touch_reasons:Kn P w K mg base "touch_reasons" 3 ["start","reach","touches"] (B4 K potD Dl))(g_round_reasons:Kn P w K mg base "round_reasons" 2 ["start","goal"] (B4 K potD Di)):Kn P w K mg base "reasons_at" 4 ["meeting","start","other","k"] (B4 K potD Dm):=by
 have sc:D6 ["meeting","start","other","k","reasons","goal"] ["meeting","start","other","k"] (C5 (top 23)):=⟨rfl,rfl,rfl,by decide +kernel,rfl,by decide +kernel,by decide +kernel⟩
 exact F7 F0 sc (fun _ _ _ _ _ _=>bd4 fun _ _ _ _=>rfl) (k:=3) (body:=Ir) (fun f cdv A outer s H E hr=>(B3 (E5 4 (fun _=>D4 (i:=4) sc.nd rfl (Or.inl rfl)) (C3 (fun _=>g_from_reasons) (fun _=>hr) (by decide) (fun _=>rfl) (A3 (A1 0 fun _=>vw 0) (A3 (A1 1 fun _=>vw 1) (A3 (A1 2 fun _=>vw 2) (A3 (A1 3 fun _=>vw 3) A8))))))
   (B3 (T0 (G_ (QE.r (A1 4 fun _=>vw 4))) (C0 (E3 (A1 4 fun _=>vw 4))) d7)
   (B3 (E5 5 (fun _=>D4 (i:=5) sc.nd rfl (Or.inl rfl)) (C3 (fun _=>g_goal_of) (fun _=>hr) (by decide) (fun _=>rfl) (A3 (A1 0 fun _=>vw 0) (A3 (A1 1 fun _=>vw 1) (A3 (A1 2 fun _=>vw 2) (A3 (A1 3 fun _=>vw 3) A8))))))
   (C0 (E3 (qe_orT (C3 (fun _=>g_round_reasons) (fun _=>hr) (by decide) (fun _=>rfl) (A3 (A1 1 fun _=>vw 1) (A3 (A1 5 fun _=>vw 5) A8))) (qe_one (C3 (fun _=>g_touch_reasons) (fun _=>hr) (by decide) (fun _=>rfl) (A3 (A1 1 fun _=>vw 1) (A3 (E9 (A1 0 fun _=>vw 0) B1) (A3 (C3 (fun _=>g_touches_to) (fun _=>hr) (by decide) (fun _=>rfl) (A3 (A1 1 fun _=>vw 1) (A3 (A1 5 fun _=>vw 5) A8))) A8))))))))))))
theorem R_ (F0:Fn0 K mg "put_on" (top 14))(g_span:Kn P w K mg base "span" 1 ["meeting","n","k"] (B4 K potD BN))(m_len:mg "len"=none):Kn P w K mg base "put_on" 2 ["meeting","row","k","boats"] (B4 K potD FF):=by
 have sc:D6 ["meeting","row","k","boats","first","last"] ["meeting","row","k","boats"] (C5 (top 14)):=⟨rfl,rfl,rfl,by decide +kernel,rfl,by decide +kernel,by decide +kernel⟩
 exact F7 F0 sc (fun _ _ _ _ _ _=>bd4 fun _ _ _ _=>rfl) (k:=1) (body:=Is) (fun f cdv A outer s H E hr=>(B3 (Az (fun _=>Q9) (C3 (fun _=>g_span) (fun _=>hr) (by decide) (fun _=>rfl) (A3 (A1 0 fun _=>vw 0) (A3 (w6 (fun _=>rfl) (fun _=>m_len) (QE.r (A1 1 fun _=>vw 1))) (A3 (A1 2 fun _=>vw 2) A8)))) (Y7 (fun _=>rfl) (J0 (C6 fun _=>C2 4 sc.nd rfl (Or.inl rfl)) (J0 (C6 fun _=>C2 5 sc.nd rfl (Or.inl rfl)) X2))))
   (C0 (E3 (K2 (K2 (R6 (A1 1 fun _=>vw 1) k8 (N6 (A1 4 fun _=>vw 4))) (A1 3 fun _=>vw 3)) (R6 (A1 1 fun _=>vw 1) (N6 (K2 (A1 5 fun _=>vw 5) B1)) k8))))))
theorem Sa (F0:Fn0 K mg "touches_of" (top 7)):Kn P w K mg base "touches_of" 1 ["events"] (B4 K potD FG):=by
 have sc:D6 ["events"] ["events"] (C5 (top 7)):=⟨rfl,rfl,rfl,by decide +kernel,rfl,by decide +kernel,by decide +kernel⟩;exact F7 F0 sc (fun _ _ _ _ _ _=>bd1 fun _=>rfl) (k:=0) (body:=Iu) (fun f cdv A outer s H E hr=>(C0 (E3 (QN.ee (Y8 (N:=["event"]) (cs:=[none]) (fun _=>O2 rfl rfl rfl rfl trivial rfl rfl rfl) (fun _=>rfl) (O4 (A1 0 fun _=>vw 0)) (C6 fun _=>C2 0 (show G7 (["event"]:List Str) by decide +kernel) rfl (Or.inl rfl)) (U6 (J4 (cEq 4 fun _=>hr) (E9 (A1 0 fun _=>vw 0) B1) (QE.r F5) (G9 _))) (A1 0 fun _=>vw 0))))))
theorem Sc (F0:Fn0 K mg "exchanged" (top 3))(m_list:mg "list"=none)(m_tuple:mg "tuple"=none):Kn P w K mg base "exchanged" 1 ["row","one","other"] (B4 K potD FH):=by
 have sc:D6 ["row","one","other","boats"] ["row","one","other"] (C5 (top 3)):=⟨rfl,rfl,rfl,by decide +kernel,rfl,by decide +kernel,by decide +kernel⟩
 exact F7 F0 sc (fun _ _ _ _ _ _=>bd3 fun _ _ _=>rfl) (k:=0) (body:=Iv) (fun f cdv A outer s H E hr=>(B3 (CG 3 (fun _=>D4 (i:=3) sc.nd rfl (Or.inl rfl)) (JP (fun _=>rfl) (fun _=>m_list) (QE.r (A1 0 fun _=>vw 0))))
   (B3 (Pj 3 (fun _=>Q9) (fun _ _ _ h1 h2=>Pi K rfl (AA (vw 3) (by intro _;rfl) _ h1) (AA (vw 3) (by intro _;rfl) _ h2)) (E9 (A1 0 fun _=>vw 0) (A1 2 fun _=>vw 2)) (E9 (A1 0 fun _=>vw 0) (A1 1 fun _=>vw 1)) (A1 1 fun _=>vw 1) (A1 2 fun _=>vw 2))
   (C0 (E3 (Q8 (fun _=>rfl) (fun _=>m_tuple) (X0 3 fun _=>vw 3)))))))
theorem Sd (F0:Fn0 K mg "row_behind" (top 11))(g_touches_of:Kn P w K mg base "touches_of" 1 ["events"] (B4 K potD FG))(g_exchanged:Kn P w K mg base "exchanged" 1 ["row","one","other"] (B4 K potD FH)):Kn P w K mg base "row_behind" 2 ["start","sheet"] (B4 K potD FI):=by
 have sc:D6 ["start","sheet","row","touch"] ["start","sheet"] (C5 (top 11)):=⟨rfl,rfl,rfl,by decide +kernel,rfl,by decide +kernel,by decide +kernel⟩
 exact F7 F0 sc (fun _ _ _ _ _ _=>bd2 fun _ _=>rfl) (k:=1) (body:=Iw) (fun f cdv A outer s H E hr=>(B3 (E5 2 (fun _=>D4 (i:=2) sc.nd rfl (Or.inl rfl)) (A1 0 fun _=>vw 0))
   (B3 (U8 (fun _=>rfl) (Ay (C3 (fun _=>g_touches_of) (fun _=>hr) (by decide) (fun _=>rfl) (A3 (A1 1 fun _=>vw 1) A8))) (C6 fun _=>C2 3 sc.nd rfl (Or.inl rfl)) (C0 (E5 2 (fun _=>D4 (i:=2) sc.nd rfl (Or.inl rfl)) (C3 (fun _=>g_exchanged) (fun _=>hr) (by decide) (fun _=>rfl) (A3 (A1 2 fun _=>vw 2) (A3 (V3 (A1 0 fun _=>vw 0) (E9 (A1 3 fun _=>vw 3) B1)) (A3 (V3 (A1 0 fun _=>vw 0) (E9 (A1 3 fun _=>vw 3) B1)) A8)))))))
   (C0 (E3 (A1 2 fun _=>vw 2))))))
theorem Se (F0:Fn0 K mg "raced" (top 15))(g_start_on:Kn P w K mg base "start_on" 2 ["meeting","row","k"] (B4 K potD Z2))(g_row_behind:Kn P w K mg base "row_behind" 2 ["start","sheet"] (B4 K potD FI))(g_put_on:Kn P w K mg base "put_on" 2 ["meeting","row","k","boats"] (B4 K potD FF)):Kn P w K mg base "raced" 3 ["meeting","row","k","sheet"] (B4 K potD Dn):=by
 have sc:D6 ["meeting","row","k","sheet"] ["meeting","row","k","sheet"] (C5 (top 15)):=⟨rfl,rfl,rfl,by decide +kernel,rfl,by decide +kernel,by decide +kernel⟩;exact F7 F0 sc (fun _ _ _ _ _ _=>bd4 fun _ _ _ _=>rfl) (k:=2) (body:=Ix) (fun f cdv A outer s H E hr=>(C0 (E3 (C3 (fun _=>g_put_on) (fun _=>hr) (by decide) (fun _=>rfl) (A3 (A1 0 fun _=>vw 0) (A3 (A1 1 fun _=>vw 1) (A3 (A1 2 fun _=>vw 2) (A3 (C3 (fun _=>g_row_behind) (fun _=>hr) (by decide) (fun _=>rfl) (A3 (C3 (fun _=>g_start_on) (fun _=>hr) (by decide) (fun _=>rfl) (A3 (A1 0 fun _=>vw 0) (A3 (A1 1 fun _=>vw 1) (A3 (A1 2 fun _=>vw 2) A8)))) (A3 (A1 3 fun _=>vw 3) A8))) A8))))))))
theorem Sf (F0:Fn0 K mg "races_of" (top 1)):Kn P w K mg base "races_of" 1 ["meeting","n"] (B4 K potD FJ):=by
 have sc:D6 ["meeting","n","size"] ["meeting","n"] (C5 (top 1)):=⟨rfl,rfl,rfl,by decide +kernel,rfl,by decide +kernel,by decide +kernel⟩
 exact F7 F0 sc (fun _ _ _ _ _ _=>bd2 fun _ _=>rfl) (k:=0) (body:=Iy) (fun f cdv A outer s H E hr=>(B3 (E5 2 (fun _=>D4 (i:=2) sc.nd rfl (Or.inl rfl)) (E9 (A1 0 fun _=>vw 0) B1))
   (C0 (E3 (JE (Ax (K2 (A1 1 fun _=>vw 1) (A1 2 fun _=>vw 2)) B1) (A1 2 fun _=>vw 2))))))
theorem Sg (F0:Fn0 K mg "race_told" (top 24))(g_boats_of:Kn P w K mg base "boats_of" 1 ["events"] (B4 K potD y0))(g_between:Kn P w K mg base "between" 1 ["start","touch"] (B4 K potD h9))(m_sorted:mg "sorted"=none)(m_tuple:mg "tuple"=none):Kn P w K mg base "race_told" 2 ["start","touches"] (B4 K potD Do):=by
 have sc:D6 ["start","touches","touching","passed","others","drops","free"] ["start","touches"] (C5 (top 24)):=⟨rfl,rfl,rfl,by decide +kernel,rfl,by decide +kernel,by decide +kernel⟩
 exact F7 F0 sc (fun _ _ _ _ _ _=>bd2 fun _ _=>rfl) (k:=1) (body:=Iz) (fun f cdv A outer s H E hr=>(B3 (E5 2 (fun _=>D4 (i:=2) sc.nd rfl (Or.inr rfl)) (C3 (fun _=>g_boats_of) (fun _=>hr) (by decide) (fun _=>rfl) (A3 (A1 1 fun _=>vw 1) A8)))
   (B3 (E5 3 (fun _=>D4 (i:=3) sc.nd rfl (Or.inr rfl)) (QN.ee (HN (N:=["touch","boat","start"]) (cs:=[none,none,some 0]) (fun _=>O2 rfl rfl rfl rfl ⟨rfl,trivial⟩ rfl rfl rfl) (fun _=>rfl) (O4 (A1 1 fun _=>vw 1)) (C6 fun _=>C2 0 (show G7 (["touch","boat","start"]:List Str) by decide +kernel) rfl (Or.inl rfl)) (O4 (C3 (fun _=>g_between) (fun _=>hr) (by decide) (fun _=>rfl) (A3 (A1 2 fun _=>vw 2) (A3 (A1 0 fun _=>vw 0) A8)))) (C6 fun _=>C2 1 (show G7 (["touch","boat","start"]:List Str) by decide +kernel) rfl (Or.inl rfl)) CF (A1 1 fun _=>vw 1))))
   (B3 (E5 4 (fun _=>D4 (i:=4) sc.nd rfl (Or.inl rfl)) (QN.ee (EU (fun _=>rfl) (fun _=>m_sorted) (QE.r (QN.ee (Y8 (N:=["boat","touching"]) (cs:=[none,some 2]) (fun _=>O2 rfl rfl rfl rfl ⟨rfl,trivial⟩ rfl rfl rfl) (fun _=>rfl) (O4 (A1 0 fun _=>vw 0)) (C6 fun _=>C2 0 (show G7 (["boat","touching"]:List Str) by decide +kernel) rfl (Or.inl rfl)) (U6 (J4 (w5 4 fun _=>hr) (A1 0 fun _=>vw 0) (QE.r (A1 1 fun _=>vw 1)) rfl)) (A1 0 fun _=>vw 0)))))))
   (B3 (Hf 5 (EH (N:=["boat","passed"]) (cs:=[none,some 3]) (fun _=>O2 rfl rfl rfl rfl ⟨rfl,trivial⟩ rfl rfl rfl) (fun _=>rfl) (Ay (A1 4 fun _=>vw 4)) (C6 fun _=>C2 0 (show G7 (["boat","passed"]:List Str) by decide +kernel) rfl (Or.inl rfl)) (U6 (J4 (cIn 4 fun _=>hr) (A1 0 fun _=>vw 0) (QE.r (A1 1 fun _=>vw 1)) rfl)) (A1 0 fun _=>vw 0)) (fun _=>sc.nd) (fun _=>rfl) (fun _=>Or.inl rfl))
   (B3 (Hf 6 (EH (N:=["boat","passed"]) (cs:=[none,some 3]) (fun _=>O2 rfl rfl rfl rfl ⟨rfl,trivial⟩ rfl rfl rfl) (fun _=>rfl) (Ay (A1 4 fun _=>vw 4)) (C6 fun _=>C2 0 (show G7 (["boat","passed"]:List Str) by decide +kernel) rfl (Or.inl rfl)) (U6 (J4 (w5 4 fun _=>hr) (A1 0 fun _=>vw 0) (QE.r (A1 1 fun _=>vw 1)) rfl)) (A1 0 fun _=>vw 0)) (fun _=>sc.nd) (fun _=>rfl) (fun _=>Or.inl rfl))
   (C0 (E3 (M3 (A3 (A1 1 fun _=>vw 1) (A3 (Q8 (fun _=>rfl) (fun _=>m_tuple) (QE.r (A1 5 fun _=>vw 5))) (A3 (Q8 (fun _=>rfl) (fun _=>m_tuple) (QE.r (A1 6 fun _=>vw 6))) A8))))))))))))
theorem Sh (F0:Fn0 K mg "told_upward" (top 25))(g_races_of:Kn P w K mg base "races_of" 1 ["meeting","n"] (B4 K potD FJ))(g_start_on:Kn P w K mg base "start_on" 2 ["meeting","row","k"] (B4 K potD Z2))(g_reasons_at:Kn P w K mg base "reasons_at" 4 ["meeting","start","other","k"] (B4 K potD Dm))(g_goal_of:Kn P w K mg base "goal_of" 3 ["meeting","start","other","k"] (B4 K potD x9))(g_touches_to:Kn P w K mg base "touches_to" 2 ["start","goal"] (B4 K potD y3))(g_race_told:Kn P w K mg base "race_told" 2 ["start","touches"] (B4 K potD Do))(g_raced:Kn P w K mg base "raced" 3 ["meeting","row","k","sheet"] (B4 K potD Dn))(m_len:mg "len"=none)(m_range:mg "range"=none)(m_reversed:mg "reversed"=none):Kn P w K mg base "told_upward" 5 ["meeting","row","other"] (B4 K potD FK):=by
 have sc:D6 ["meeting","row","other","races","stands","k","start","reasons","touches"] ["meeting","row","other"] (C5 (top 25)):=⟨rfl,rfl,rfl,by decide +kernel,rfl,by decide +kernel,by decide +kernel⟩
 exact F7 F0 sc (fun _ _ _ _ _ _=>bd3 fun _ _ _=>rfl) (k:=4) (body:=IA) (fun f cdv A outer s H E hr=>(B3 (CG 3 (fun _=>D4 (i:=3) sc.nd rfl (Or.inl rfl)) (M4 A8))
   (B3 (E5 4 (fun _=>D4 (i:=4) sc.nd rfl (Or.inl rfl)) (A1 1 fun _=>vw 1))
   (B3 (U8 (fun _=>rfl) (KN (fun _=>rfl) (fun _=>m_reversed) (fun _=>rfl) (fun _=>m_range) (C3 (fun _=>g_races_of) (fun _=>hr) (by decide) (fun _=>rfl) (A3 (A1 0 fun _=>vw 0) (A3 (w6 (fun _=>rfl) (fun _=>m_len) (QE.r (A1 1 fun _=>vw 1))) A8)))) (C6 fun _=>C2 5 sc.nd rfl (Or.inr rfl)) (B3 (E5 6 (fun _=>D4 (i:=6) sc.nd rfl (Or.inl rfl)) (C3 (fun _=>g_start_on) (fun _=>hr) (by decide) (fun _=>rfl) (A3 (A1 0 fun _=>vw 0) (A3 (A1 4 fun _=>vw 4) (A3 (A1 5 fun _=>vw 5) A8)))))
   (B3 (E5 7 (fun _=>D4 (i:=7) sc.nd rfl (Or.inl rfl)) (C3 (fun _=>g_reasons_at) (fun _=>hr) (by decide) (fun _=>rfl) (A3 (A1 0 fun _=>vw 0) (A3 (A1 6 fun _=>vw 6) (A3 (A1 2 fun _=>vw 2) (A3 (A1 5 fun _=>vw 5) A8))))))
   (B3 (T0 (G_ (QE.r (A1 7 fun _=>vw 7))) (C0 (CL 3 (E3 (M3 (A3 (A1 3 fun _=>vw 3) (A3 (QN.ee (Y8 (N:=["reason","k"]) (cs:=[none,some 5]) (fun _=>O2 rfl rfl rfl rfl ⟨rfl,trivial⟩ rfl rfl rfl) (fun _=>rfl) (Ay (A1 7 fun _=>vw 7)) (C6 fun _=>C2 0 (show G7 (["reason","k"]:List Str) by decide +kernel) rfl (Or.inl rfl)) CF (M3 (A3 F5 (A3 (A1 1 fun _=>vw 1) (A3 (A1 0 fun _=>vw 0) A8)))))) A8)))))) d7)
   (B3 (E5 8 (fun _=>D4 (i:=8) sc.nd rfl (Or.inl rfl)) (C3 (fun _=>g_touches_to) (fun _=>hr) (by decide) (fun _=>rfl) (A3 (A1 6 fun _=>vw 6) (A3 (C3 (fun _=>g_goal_of) (fun _=>hr) (by decide) (fun _=>rfl) (A3 (A1 0 fun _=>vw 0) (A3 (A1 6 fun _=>vw 6) (A3 (A1 2 fun _=>vw 2) (A3 (A1 5 fun _=>vw 5) A8))))) A8))))
   (B3 (R9 (fun _=>R8) (d8 3 (fun _=>vw 3) (C3 (fun _=>g_race_told) (fun _=>hr) (by decide) (fun _=>rfl) (A3 (A1 6 fun _=>vw 6) (A3 (A1 8 fun _=>vw 8) A8)))))
   (C0 (E5 4 (fun _=>D4 (i:=4) sc.nd rfl (Or.inl rfl)) (C3 (fun _=>g_raced) (fun _=>hr) (by decide) (fun _=>rfl) (A3 (A1 0 fun _=>vw 0) (A3 (A1 4 fun _=>vw 4) (A3 (A1 5 fun _=>vw 5) (A3 (A1 8 fun _=>vw 8) A8)))))))))))))
   (C0 (CL 3 (E3 (M3 (A3 (A1 3 fun _=>vw 3) (A3 (QN.ee (M4 A8)) A8))))))))))
theorem Si (F0:Fn0 K mg "told_by" (top 26))(g_told_upward:Kn P w K mg base "told_upward" 5 ["meeting","row","other"] (B4 K potD FK))(m_tuple:mg "tuple"=none):Kn P w K mg base "told_by" 6 ["meeting","row","other"] (B4 K potD BO):=by
 have sc:D6 ["meeting","row","other","races","untold"] ["meeting","row","other"] (C5 (top 26)):=⟨rfl,rfl,rfl,by decide +kernel,rfl,by decide +kernel,by decide +kernel⟩
 exact F7 F0 sc (fun _ _ _ _ _ _=>bd3 fun _ _ _=>rfl) (k:=5) (body:=IB) (fun f cdv A outer s H E hr=>(B3 (Az (fun _=>Q9) (C3 (fun _=>g_told_upward) (fun _=>hr) (by decide) (fun _=>rfl) (A3 (A1 0 fun _=>vw 0) (A3 (A1 1 fun _=>vw 1) (A3 (A1 2 fun _=>vw 2) A8)))) (Y7 (fun _=>rfl) (J0 (C6 fun _=>C2 3 sc.nd rfl (Or.inl rfl)) (J0 (C6 fun _=>C2 4 sc.nd rfl (Or.inl rfl)) X2))))
   (B3 (T0 (G_ (QE.r (A1 4 fun _=>vw 4))) (C0 (E3 (E9 (A1 4 fun _=>vw 4) B1))) d7)
   (C0 (E3 (M3 (A3 F5 (A3 (Q8 (fun _=>rfl) (fun _=>m_tuple) (QE.r (qe_rev (QE.r (A1 3 fun _=>vw 3))))) A8))))))))
theorem Sj (F0:Fn0 K mg "days_between" (top 27))(g_told_by:Kn P w K mg base "told_by" 6 ["meeting","row","other"] (B4 K potD BO)):Kn P w K mg base "days_between" 7 ["meeting","row","other"] (B4 K potD FM):=by
 have sc:D6 ["meeting","row","other","told","many","race","boat"] ["meeting","row","other"] (C5 (top 27)):=⟨rfl,rfl,rfl,by decide +kernel,rfl,by decide +kernel,by decide +kernel⟩
 exact F7 F0 sc (fun _ _ _ _ _ _=>bd3 fun _ _ _=>rfl) (k:=6) (body:=IC) (fun f cdv A outer s H E hr=>(B3 (E5 3 (fun _=>D4 (i:=3) sc.nd rfl (Or.inl rfl)) (C3 (fun _=>g_told_by) (fun _=>hr) (by decide) (fun _=>rfl) (A3 (A1 0 fun _=>vw 0) (A3 (A1 1 fun _=>vw 1) (A3 (A1 2 fun _=>vw 2) A8)))))
   (B3 (T0 (J4 (cEq 4 fun _=>hr) (E9 (A1 3 fun _=>vw 3) B1) (QE.r F5) (G9 _)) (C0 (E3 B1)) d7)
   (B3 (E5 4 (fun _=>D4 (i:=4) sc.nd rfl (Or.inl rfl)) B1)
   (B3 (U8 (fun _=>rfl) (O4 (E9 (A1 3 fun _=>vw 3) B1)) (C6 fun _=>C2 5 sc.nd rfl (Or.inl rfl)) (C0 (U8 (fun _=>rfl) (O4 (E9 (A1 5 fun _=>vw 5) B1)) (C6 fun _=>C2 6 sc.nd rfl (Or.inl rfl)) (C0 (RA 4 (fun _=>Kf (i:=4) sc.nd rfl (Or.inl rfl) Mx) B1)))))
   (C0 (E3 (A1 4 fun _=>vw 4))))))))
theorem k_law (F0:Fn0 K mg "law" (top 40))(g__law_begin:Kn P w K mg base "_law_begin" 1 ["_law_script"] (E_ K))(g__law_meet:Kn P w K mg base "_law_meet" 3 ["_law_draws","_law_most"] (B4 K potD Fw))(g__law_day:Kn P w K mg base "_law_day" 3 ["_law_draws","_law_meeting","_law_row"] (B4 K potD FC))(g__law_race:Kn P w K mg base "_law_race" 1 ["_law_start","_law_sheet_here"] (B4 K potD FD))(g_told_by:Kn P w K mg base "told_by" 6 ["meeting","row","other"] (B4 K potD BO))(g_days_between:Kn P w K mg base "days_between" 7 ["meeting","row","other"] (B4 K potD FM))(m_len:mg "len"=none)(m_range:mg "range"=none)(U9:mg "repr"=none)(m_sum:mg "sum"=none)(m_tuple:mg "tuple"=none)(m_zip:mg "zip"=none)(hlaw:∀ns:List Int,ns.length<=63->FN ⟨fun _ _=>False,fun r _=>r=.bl true,fun _ _=>False,fun _ _=>False⟩ (l5 ["_law_script","_law_draws","_law_asks","_law_turn","_law_meeting","_law_row","_law_day_here","_law_starts","_law_after_here","_law_due","_law_held","_law_many"] [.scr ns]) 0):Kn P w K mg base "law" 8 ["_law_script"] (Em K):=by
 have sc:D6 ["_law_script","_law_draws","_law_asks","_law_turn","_law_meeting","_law_row","_law_day_here","_law_starts","_law_after_here","_law_due","_law_held","_law_many"] ["_law_script"] (C5 (top 40)):=⟨rfl,rfl,rfl,by decide +kernel,rfl,by decide +kernel,by decide +kernel⟩
 exact law_ok (T:=potD) F0 sc (fun _ _ _ _ _ _=>bd1 fun _=>rfl) (k:=7) (body:=FN) (fun f cdv A outer s H E hr=>(B3 (Pf 1 (fun _=>D4 (i:=1) sc.nd rfl (Or.inl rfl)) (fun _=>g__law_begin) (fun _=>hr) (by decide) (fun _=>rfl) (A1 0 fun _=>vw 0))
   (B3 (CG 2 (fun _=>D4 (i:=2) sc.nd rfl (Or.inl rfl)) (M4 A8))
   (B3 (U8 (fun _=>rfl) (Ez (fun _=>rfl) (fun _=>m_range) B1) (C6 fun _=>C2 3 sc.nd rfl (Or.inl rfl)) (B3 (Az (fun _=>Q9) (C3 (fun _=>g__law_meet) (fun _=>hr) (by decide) (fun _=>rfl) (A3 (A1 1 fun _=>vw 1) (A3 B1 A8))) (Y7 (fun _=>rfl) (J0 (C6 fun _=>C2 4 sc.nd rfl (Or.inl rfl)) (J0 (C6 fun _=>C2 5 sc.nd rfl (Or.inl rfl)) X2))))
   (B3 (Az (fun _=>Q9) (C3 (fun _=>g__law_day) (fun _=>hr) (by decide) (fun _=>rfl) (A3 (A1 1 fun _=>vw 1) (A3 (A1 4 fun _=>vw 4) (A3 (A1 5 fun _=>vw 5) A8)))) (Y7 (fun _=>rfl) (J0 (C6 fun _=>C2 6 sc.nd rfl (Or.inl rfl)) (J0 (C6 fun _=>C2 7 sc.nd rfl (Or.inl rfl)) (J0 (C6 fun _=>C2 8 sc.nd rfl (Or.inl rfl)) X2)))))
   (B3 (E5 9 (fun _=>D4 (i:=9) sc.nd rfl (Or.inl rfl)) (Q8 (fun _=>rfl) (fun _=>m_tuple) (QE.r (QN.ee (Y8 (N:=["_law_start","_law_sheet_here"]) (cs:=[none,none]) (fun _=>O2 rfl rfl rfl rfl trivial rfl rfl rfl) (fun _=>rfl) (Hi false false (fun _=>rfl) (fun _=>m_zip) (A1 7 fun _=>vw 7) (A1 6 fun _=>vw 6)) (Y7 (fun _=>rfl) (J0 (C6 fun _=>C2 0 (show G7 (["_law_start","_law_sheet_here"]:List Str) by decide +kernel) rfl (Or.inl rfl)) (J0 (C6 fun _=>C2 1 (show G7 (["_law_start","_law_sheet_here"]:List Str) by decide +kernel) rfl (Or.inl rfl)) X2))) CF (C3 (fun _=>g__law_race) (fun _=>hr) (by decide) (fun _=>rfl) (A3 (A1 0 fun _=>vw 0) (A3 (A1 1 fun _=>vw 1) A8))))))))
   (C0 (R9 (fun _=>R8) (d8 2 (fun _=>vw 2) (M3 (A3 (A1 4 fun _=>vw 4) (A3 (A1 5 fun _=>vw 5) (A3 (A1 8 fun _=>vw 8) (A3 (A1 9 fun _=>vw 9) A8))))))))))))
   (B3 (E5 10 (fun _=>D4 (i:=10) sc.nd rfl (Or.inl rfl)) (BB (fun _=>hr) (fun _=>rfl) (fun _=>U9) (X0 2 fun _=>vw 2)))
   (B3 (CL 2 (U8 (fun _=>rfl) (Ay (A1 2 fun _=>vw 2)) (Y7 (fun _=>rfl) (J0 (C6 fun _=>C2 4 sc.nd rfl (Or.inl rfl)) (J0 (C6 fun _=>C2 5 sc.nd rfl (Or.inl rfl)) (J0 (C6 fun _=>C2 8 sc.nd rfl (Or.inl rfl)) (J0 (C6 fun _=>C2 9 sc.nd rfl (Or.inl rfl)) X2))))) (B3 (T0 (J4 (cNe 4 fun _=>hr) (BB (fun _=>hr) (fun _=>rfl) (fun _=>U9) (QE.r (C3 (fun _=>g_told_by) (fun _=>hr) (by decide) (fun _=>rfl) (A3 (A1 4 fun _=>vw 4) (A3 (A1 5 fun _=>vw 5) (A3 (A1 8 fun _=>vw 8) A8)))))) (QE.r (BB (fun _=>hr) (fun _=>rfl) (fun _=>U9) (QE.r (M3 (A3 F5 (A3 (A1 9 fun _=>vw 9) A8)))))) (G9 _)) (C0 (E3 GO)) d7)
   (B3 (E5 11 (fun _=>D4 (i:=11) sc.nd rfl (Or.inl rfl)) (qe_sum (fun _=>rfl) (fun _=>rfl) (fun _=>m_sum) (QN.ee (Y8 (N:=["_law_touches","_law_drops","_law_free"]) (cs:=[none,none,none]) (fun _=>O2 rfl rfl rfl rfl trivial rfl rfl rfl) (fun _=>rfl) (O4 (A1 9 fun _=>vw 9)) (Y7 (fun _=>rfl) (J0 (C6 fun _=>C2 0 (show G7 (["_law_touches","_law_drops","_law_free"]:List Str) by decide +kernel) rfl (Or.inl rfl)) (J0 (C6 fun _=>C2 1 (show G7 (["_law_touches","_law_drops","_law_free"]:List Str) by decide +kernel) rfl (Or.inl rfl)) (J0 (C6 fun _=>C2 2 (show G7 (["_law_touches","_law_drops","_law_free"]:List Str) by decide +kernel) rfl (Or.inl rfl)) X2)))) CF (w6 (fun _=>rfl) (fun _=>m_len) (QE.r (A1 2 fun _=>vw 2)))))))
   (C0 (T0 (J4 (cNe 4 fun _=>hr) (BB (fun _=>hr) (fun _=>rfl) (fun _=>U9) (QE.r (C3 (fun _=>g_days_between) (fun _=>hr) (by decide) (fun _=>rfl) (A3 (A1 4 fun _=>vw 4) (A3 (A1 5 fun _=>vw 5) (A3 (A1 8 fun _=>vw 8) A8)))))) (QE.r (BB (fun _=>hr) (fun _=>rfl) (fun _=>U9) (QE.r (qe_shl B1 (A1 11 fun _=>vw 11))))) (G9 _)) (C0 (E3 GO)) d7))))))
   (C0 (E3 (Bz (cEq 4 fun _=>hr) (BB (fun _=>hr) (fun _=>rfl) (fun _=>U9) (QE.r (A1 2 fun _=>vw 2))) (QE.r (A1 10 fun _=>vw 10)) (G9 _)))))))))) hlaw
end
end Tb
end
section
namespace Tb
open PySem L2 Pu
variable {n0 q:Nat}{r' row':List Str}{ess:List (List Ev)}{sts:List (List Str)}{tt:pT}
theorem ID (a b:Int):eqP (.int a) (.int b)=decide (a=b):=by
 show(a == b)=_;rw [Cf]
theorem LJ (a b:Str):eqP (.str a) (.str b)=decide (a=b):=by
 show(a == b)=_;rw [Cf]
theorem LK (a b:Bool):eqP (.bl a) (.bl b)=decide (a=b):=by
 show(a == b)=_;rw [Cf]
set_option compiler.extract_closed false in
set_option hygiene false in
local macro_rules | `(tactic| walk_at "pd")=>`(tactic| dsimp only [dreduceIte,true_and,and_true,J7,beq_self_eq_true,Nat.reduceLeDiff,Nat.reduceLT,Int.reduceLT,Int.reduceLE,G4,ID,LJ,LK,qSeq,qNx,qSet,qOwn,qAsg,N7,qRet,CH,qIfS,qPar,sV,sO,qPut,gAt,AB,ED,qV,qO,qC,qOp,qOpR,qUn,wI,wI0,wAdd,wSub,wMul,Eo,wMod,wEq,wNe,wLt,wGt,qB,qAnd,qOr,qIf,qNil,A2,qTup,qLst,qL,wIx,qNo,M5,qSl,wSl,wLen,O3,Ey,wMin,C1,gN,gNl,gCn,gTp,qIl,qIt,BA,capV,capS,qTru,O5,CM,wNeg,T3,GX,qPop,l5,List.map,List.set,D3,List.length_nil,FZ,BW,i8,i9,List.replicate,Nat.reduceSub,Nat.reduceAdd,Option.bind,Am,Bool.not_false,Bool.true_or,Bool.false_or,Bool.or_false,Bool.true_and,Ba,String.reduceBEq,cmpb,w4,eqP_ll,eqP_tt,Ny,Nz,decide_true,decide_false,w8,EF,Fs,wRev,He,qAug,qZip,qFor,BG,x4,EY,EZ,P1,HA,Hz,P3,at2_0,at2_1,at3_0,at3_1,at3_2,grd_t,HL,HM,wSet,gTl,Dd,qOrT,Dc,HQ,wShl,wSum])
set_option hygiene false in
local macro_rules | `(tactic| walk_at "pu")=>`(tactic| (try walk_at "pd") <;> (try simp only [ID,LJ,LK,decide_true,decide_false,true_and,and_true,reduceIte,Nat.reduceLeDiff,Nat.reduceLT,Int.reduceLT,Int.reduceLE,G4,beq_self_eq_true,J7]))
theorem Sk {n:Nat}{many:Int}{R:PV->Nat->Prop}(h0:1<=many)(h1:many<=24)(hn:n<=999900000)(h:∀zs n',(zs.length:Int)=many->RowS zs->n'<=n + 100->R (rowP zs) n'):Fv [.pot q,.int many] n R:=by
 refine⟨rfl,?_⟩;unfold HR;have ll:LETS.length<=1000000:=by rw [Kl];decide
 have lc:∀c:Nat,(⟨#[c]⟩:Str).length=1:=fun _=>rfl;walk_at "pu";refine⟨by omega,fun d d0 d1=>?_⟩;obtain⟨tv,htv,etv⟩:=CN (xs:=[PV.int 1,PV.int 3,PV.int 5,PV.int 7,PV.int 9,PV.int 11,PV.int 15,PV.int 17,PV.int 19,PV.int 21]) d0 (by simpa using d1)
 obtain⟨t,rfl,ht⟩:∃t:Int,tv=.int t/\t∈AG:=by
   simp only [B7,Q5,or_false] at htv;rcases htv with rfl | rfl | rfl | rfl | rfl | rfl | rfl | rfl | rfl | rfl <;> exact⟨_,rfl,by decide⟩
 have t30:=Pl ht;rw [etv];dsimp only;refine⟨by omega,fun fi f0 f1=>?_⟩;refine X3 (fun i env m=>∃z s6,env=[some (.v (.pot q)),some (.v (.int many)),some (.v (.str LETS)),some (.v (.str z)),some (.v (.int t)),some (.v (.int fi)),s6,none,none,none,none,none]/\LsE i z/\m<=n + 2 + i) _ 0 _ _ ⟨A6 "",none,rfl,⟨rfl,(fun c hc=>by rw [show(A6 "").cps.toList=[] from rfl] at hc;cases hc)⟩,by omega⟩ (fun i x env m N ex hI hN=>?_) (fun env m hI=>?_)
 · obtain⟨z,s6,rfl,hz,hm⟩:=hI;obtain⟨hi,rfl⟩:=EG ex;rw [K7] at hz hm hN;have hi7:i < 7:=hi;walk_at "pu";refine⟨by omega,fun u u0 u1=>⟨ll,?_⟩⟩;rw [Km u0 u1];dsimp only;have zl:z.length=i:=by rw [Aw];exact hz.1
   refine⟨by rw [zl,lc];omega,?_⟩;exact hN _ _ ⟨_,_,rfl,hz.more ⟨by omega,by omega⟩,by omega⟩
 · obtain⟨z,s6,rfl,hz,hm⟩:=hI;rw [Ha,K7] at hz hm;have hz7:LsE 7 z:=hz
   have hm7:m<=n + 9:=by
     have:(7:Int).toNat=7:=rfl;omega
   have zl:z.length=7:=by rw [Aw];exact hz7.1
   walk_at "pu";refine⟨by omega,fun at_ a0 a1=>?_⟩;obtain⟨a,rfl⟩:=DW a0;refine⟨⟨by omega,by omega⟩,?_⟩;refine X3 (fun i env m'=>∃zs s6 s9 s10,env=[some (.v (.pot q)),some (.v (.int many)),some (.v (.str LETS)),some (.v (.str z)),some (.v (.int t)),some (.v (.int fi)),s6,some (.v (.int (a:Int))),some (.own (zs.map PV.str)),s9,s10,none]/\NmA fi t a zs i/\m'<=n + 10 + i) _ 0 _ _ ⟨[],_,_,_,rfl,⟨rfl,List.nodup_nil,(fun j z e=>by simp at e),(fun _ z=>nomatch z)⟩,by omega⟩ (fun i x env m' N ex hI hN=>?_) (fun env m' hI=>?_)
   · obtain⟨zs,s6,s9,s10,rfl,hs,hm'⟩:=hI;obtain⟨hi,rfl⟩:=EG ex;rw [K7] at hs hm' hN;have sl:=hs.len;walk_at "pu";refine⟨⟨by omega,by omega,by omega⟩,fun u u0 u1=>?_⟩;obtain⟨b,rfl⟩:=DW u0;have em:fi + t * (0 + (i:Int))=fi + (i:Int) * t:=by rw [Int.zero_add,Int.mul_comm]
     rw [em,lt_at];dsimp only;have eab:(a:Int) + (b:Int)=((a + b:Nat):Int):=by omega
     rw [eab];have cl:=Pn hz7 (show a<=a + b by omega) (show a + b<=7 by omega) (lt_ltr (f:=fi) (t:=t) (k:=i));have k1:=Bi z none (some (a:Int));have k2:=Bi z (some (a:Int)) (some ((a + b:Nat):Int));have k3:(U4 z none (some (a:Int))++⟨#[lt fi t i]⟩).length=(U4 z none (some (a:Int))).length + 1:=by rw [Aw,Cy,E2,<- Aw];rfl
     refine⟨.inl ⟨by omega,by omega⟩,ll,⟨_,rfl⟩,by omega,by rw [lc];omega,by omega,by omega,by rw [A7];omega,?_⟩;refine hN _ _ ⟨zs++[_],_,_,_,by rw [N3];rfl,hs.more ht f0 (by omega) cl.1 cl.2,by omega⟩
   · obtain⟨zs,s6,s9,s10,rfl,hs,hm'⟩:=hI;rw [Ha,K7] at hs hm';have sl:=hs.len;generalize hZ:zs.map PV.str=Z;have Zl:Z.length=zs.length:=by rw [<- hZ,A7]
     walk_at "pu";refine⟨by omega,fun e e0 e1=>?_⟩;obtain⟨x,hx,ex⟩:=CN (xs:=[PV.str (A6 "drop"),PV.str (A6 "touch"),PV.str (A6 "none"),PV.str (A6 "d"),PV.str (A6 "u"),PV.str (A6 "t"),PV.str (A6 "o")]) e0 (by simpa using e1);rw [ex]
     obtain⟨y,rfl,by_⟩:∃z,x=.str z/\Z0 z:=by
       simp only [B7,Q5,or_false] at hx;rcases hx with rfl | rfl | rfl | rfl | rfl | rfl | rfl <;> exact⟨_,rfl,by decide,by decide,by unfold Ltr;decide⟩
     dsimp only;have fin:∀m2,m2<=n + 100->R (.tup Z) m2:=fun m2 h2=>by rw [<- hZ];exact h zs m2 (by omega) ⟨hs.nd,hs.bt⟩ h2
     refine BI hZ ?_
     by_cases c:y∈zs
     · exact if_f (by simp [c]) (fin _ (by omega))
     · refine if_t (by simp [c]) ⟨by omega,fun d2 d20 d21=>?_⟩
       by_cases c2:d2=0
       · refine if_t (decide_eq_true c2) ⟨⟨_,rfl⟩,⟨by omega,by omega,by omega⟩,fun j j0 j1=>?_⟩;rw [v5 j0 (by omega)];dsimp only;have es:Z.set j.toNat (.str y)=(zs.set j.toNat y).map PV.str:=by rw [<- hZ,AX]
         rw [es];refine h _ _ (by rw [J6];omega) ⟨?_,fun w hw=>?_⟩ (by omega)
         · exact Oa hs.nd c j.toNat
         · rcases List.mem_or_eq_of_mem_set hw with hw | hw
           · exact hs.bt w hw
           · rw [hw];exact by_
       · exact if_f (decide_eq_false c2) (fin _ (by omega))
abbrev pin (p:Nat):PV:=.int (p:Int)
theorem LL (ms:List Mk)(p:Nat)(m:Mk):(ms.map mkP).set p (mkP m)=(ms.set p m).map mkP:=(AX).symm
theorem Sl {p:Nat}{ps:List Nat}:atI ((p::ps).reverse.map pin) (-1)=some (pin p):=by
 rw [b0,N3];exact MQ (ps.reverse.map pin) (pin p)
theorem LM {p:Nat}{ps:List Nat}:((p::ps).reverse.map pin)[((p::ps).reverse.map pin).length - 1]?=some (pin p)/\((p::ps).reverse.map pin).dropLast=ps.reverse.map pin:=by
 rw [b0,N3];refine⟨?_,by simp⟩;rw [P5 (by simp)];simp
abbrev wEnv (q:Nat)(many r:Int)(ms:List Mk)(ps:List Nat)(s5 s6:Option Pu.Slot):Pu.Env:=[some (.v (.pot q)),some (.v (.int many)),some (.v (.int r)),some (.own (ms.map mkP)),some (.own (ps.reverse.map pin)),s5,s6]
theorem LN {q:Nat}{many r:Int}{i m:Nat}{s6:Option Pu.Slot}{ms:List Mk}{D:Y9}:∀(ps:List Nat),Seg r ps ms->(∀ps',Seg r ps' ms->(∀p ps'',ps'=p::ps''->(i:Int) - p - 1<=r)->D.nx (wEnv q many r ms ps' (some (.v (.int (i:Int)))) s6) m)->
   l4 (qAnd (qB (qOpR (wNe 4) (qO 4) (qL (qLst qNil)))) (qB (qOp wGt (qOp wSub (qOp wSub (qV 5) (qOpR wIx (qO 4) (qUn wNeg (qC (.int 1))))) (qC (.int 1))) (qV 2)))) (qPut 3 (qC (.str (A6 "d"))) (qPop 4)) D (ps.length + 1) (wEnv q many r ms ps (some (.v (.int (i:Int)))) s6) m
 | [], hs, h => by
   unfold l4 wEnv;walk_at "pu";exact h [] hs (fun _ _ e=>nomatch e)
 | p :: ps, hs, h => by
   have tp:=Sl (p:=p) (ps:=ps);have pp:=LM (p:=p) (ps:=ps)
   have pa:((p::ps).reverse.map pin).all (cmpb 3)=true:=by
     have e:(p::ps).reverse.map pin=((p::ps).reverse.map fun p=>((p:Nat):Int)).map PV.int:=by rw [O9];rfl
     rw [e];exact KR _ 3
   have pe:eqPs ((p::ps).reverse.map pin) []=false:=by
     cases hh:(p::ps).reverse.map pin with
     | nil=>simp at hh
     | cons a l=>rfl
   have base:=fun c=>h (p::ps) hs c;obtain⟨hlt,hset,hs'⟩:=hs.popd;have rec_:=LN (q:=q) (many:=many) (i:=i) (m:=m) (s6:=s6) (D:=D) ps hs' h;show l4 _ _ _ (ps.length + 1 + 1) _ _;unfold wEnv at *;generalize (p::ps).reverse.map pin=PL at *;generalize hM:ms.map mkP=ML at *;have ml:ML.length=ms.length:=by rw [<- hM,A7]
   have mset:ML.set p (.str (A6 "d"))=ML:=by rw [<- hM];exact(LL ms p .d).trans (by rw [hset])
   unfold l4;walk_at "pu";refine gd2 pa rfl (if_t (by rw [pe];rfl) ?_);rw [tp];dsimp only
   by_cases c:r < (i:Int) - p - 1
   · refine if_t (decide_eq_true c) ⟨⟨_,rfl⟩,?_⟩;rw [pp.1];dsimp only;rw [v5 (by omega) (by omega)];dsimp only;rw [Q6,mset,pp.2];exact rec_
   · exact if_f (decide_eq_false c) (base fun p' ps'' e=>by cases e;omega)
theorem m_word {n many:Nat}{r:Int}{R:PV->Nat->Prop}(h24:many<=24)(hn:n<=999900000)(h:∀ms n',ms.length=many->run r 0 [] ms=some []->n'<=n + 50->R (.lst (ms.map mkP)) n'):FA [.pot q,.int (many:Int),.int r] n R:=by
 refine⟨rfl,?_⟩;unfold HX;walk_at "pu";refine⟨⟨by omega,by omega⟩,?_⟩;rw [Q6];refine X3 (fun i env m=>∃ms ps s5 s6,env=wEnv q many r ms ps s5 s6/\Seg r ps ms/\ms.length=i/\m<=n + 2 * i) _ 0 _ _ ⟨[],[],none,none,rfl,rfl,rfl,by omega⟩ (fun i x env m N ex hI hN=>?_) (fun env m hI=>?_)
 · obtain⟨ms,ps,s5,s6,rfl,hs,hl,hm⟩:=hI;obtain⟨hi,rfl⟩:=EG ex;rw [K7] at hl hm hN;have ei:(0:Int) + (i:Int)=(i:Int):=by omega
   rw [ei];have w:=fun D=>LN (q:=q) (many:=(many:Int)) (r:=r) (i:=i) (m:=m) (s6:=s6) (ms:=ms) (D:=D) ps hs;unfold wEnv at w ⊢;walk_at "pu";refine⟨ps.length + 1,w _ fun ps' hs' top=>?_⟩;clear w hs;generalize hP:ps'.reverse.map pin=PL;generalize hM:ms.map mkP=ML;have ml:ML.length=ms.length:=by rw [<- hM,A7]
   walk_at "pu";refine⟨by omega,fun w w0 w1=>?_⟩
   have pl:PL.length<=24:=by
     rw [<- hP,A7,Ae];have:=hs'.len;omega
   have pa:PL.all (cmpb 3)=true:=by
     have e:ps'.reverse.map pin=(ps'.reverse.map fun p=>((p:Nat):Int)).map PV.int:=by rw [O9];rfl
     rw [<- hP,e];exact KR _ 3
   have em:∀k:Pu.Mk,ML++[mkP k]=(ms++[k]).map mkP:=fun k=>by rw [N3,hM];rfl
   have emd:ML++[PV.str (A6 "d")]=(ms++[Pu.Mk.d]).map mkP:=em Pu.Mk.d;have emo:ML++[PV.str (A6 "o")]=(ms++[Pu.Mk.o]).map mkP:=em Pu.Mk.o
   have push:∀s5 s6 m',m'<=m + 2->N [some (.v (.pot q)),some (.v (.int (many:Int))),some (.v (.int r)),some (.own (ML++[PV.str (A6 "d")])),some (.own (PL++[PV.int (i:Int)])),s5,s6] m':=fun s5 s6 m' hm'=>by
     have e2:PL++[PV.int (i:Int)]=(ms.length::ps').reverse.map pin:=by rw [b0,N3,hP,hl];rfl
     rw [emd,e2];exact hN _ _ ⟨_,_,_,_,rfl,hs'.push,by rw [E2,hl];rfl,by omega⟩
   have stay:∀s5 s6 m',m'<=m + 2->N [some (.v (.pot q)),some (.v (.int (many:Int))),some (.v (.int r)),some (.own (ML++[PV.str (A6 "d")])),some (.own PL),s5,s6] m':=fun s5 s6 m' hm'=>by
     rw [emd,<- hP];exact hN _ _ ⟨_,_,_,_,rfl,hs'.drop,by rw [E2,hl];rfl,by omega⟩
   refine gd2 pa rfl ?_;cases ps' with
   | nil =>
     have eP:PL=[]:=by rw [<- hP];rfl
     refine if_f (by rw [eP];rfl) ?_
     by_cases c2:w=2
     · exact if_t (decide_eq_true c2) ⟨⟨_,rfl⟩,by omega,⟨_,rfl⟩,by omega,push _ _ _ (by omega)⟩
     refine if_f (decide_eq_false c2) ?_
     by_cases c3:w=3
     · exact if_t (decide_eq_true c3) ⟨⟨_,rfl⟩,by omega,⟨_,rfl⟩,by omega,push _ _ _ (by omega)⟩
     refine if_f (decide_eq_false c3) ⟨⟨_,rfl⟩,gd2 pa rfl (if_f (by rw [eP];rfl) ⟨by omega,fun d d0 d1=>?_⟩)⟩;obtain⟨z,hz,ez⟩:=CN (xs:=[PV.str (A6 "o"),PV.str (A6 "o"),PV.str (A6 "d")]) d0 (by simpa using d1);rw [ez];dsimp only;refine⟨by omega,?_⟩
     have hz':z=PV.str (A6 "o")\/z=PV.str (A6 "d"):=by
       simp only [B7,Q5,or_false] at hz;rcases hz with h | h | h
       · exact .inl h
       · exact .inl h
       · exact .inr h
     rcases hz' with rfl | rfl
     · rw [emo,<- hP];exact hN _ _ ⟨_,_,_,_,rfl,hs'.over,by rw [E2,hl];rfl,by omega⟩
     · exact stay _ _ _ (by omega)
   | cons p ps' =>
     have pe:eqPs PL []=false:=by
       rw [<- hP];cases hh:(p::ps').reverse.map pin with
       | nil=>simp at hh
       | cons a l=>rfl
     refine if_t (by rw [pe];rfl) ?_
     by_cases c1:w < 2
     · refine if_t (decide_eq_true c1) ⟨⟨_,rfl⟩,?_⟩;obtain⟨pp1,pp2⟩:=LM (p:=p) (ps:=ps');rw [hP] at pp1 pp2;rw [pp1];dsimp only;obtain⟨hlt,hs2⟩:=hs'.popt (by rw [hl];exact top p ps' rfl);rw [v5 (by omega) (by omega)];dsimp only;rw [Q6,pp2]
       have e3:ML.set p (PV.str (A6 "t"))++[PV.str (A6 "u")]=(ms.set p Pu.Mk.t++[Pu.Mk.u]).map mkP:=by
         rw [N3,<- LL,hM];rfl
       rw [e3];refine⟨⟨_,rfl⟩,by rw [J6];omega,?_⟩;exact hN _ _ ⟨_,_,_,_,rfl,hs2,by rw [E2,J6,hl];rfl,by omega⟩
     refine if_f (decide_eq_false c1) ?_
     by_cases c2:w=2
     · exact if_t (decide_eq_true c2) ⟨⟨_,rfl⟩,by omega,⟨_,rfl⟩,by omega,push _ _ _ (by omega)⟩
     refine if_f (decide_eq_false c2) ?_
     by_cases c3:w=3
     · exact if_t (decide_eq_true c3) ⟨⟨_,rfl⟩,by omega,⟨_,rfl⟩,by omega,push _ _ _ (by omega)⟩
     exact if_f (decide_eq_false c3) ⟨⟨_,rfl⟩,gd2 pa rfl (if_t (by rw [pe];rfl) ⟨by omega,stay _ _ _ (by omega)⟩)⟩
 · obtain⟨ms,ps,s5,s6,rfl,hs,hl,hm⟩:=hI;rw [K7,Ha] at hl hm;have:=h ms m (by simpa using hl) hs.wrd (by omega);unfold wEnv;generalize hM:ms.map mkP=ML at *;walk_at "pu";exact this
theorem Sm {zs:List Str}{k:Nat}(hk:k < zs.length)(m:Pu.Mk)(ms:List Pu.Mk):zipP ((zs.drop k).map PV.str) ((m::ms).map mkP)=.tup [.str (nm zs k),mkP m]::zipP ((zs.drop (k + 1)).map PV.str) (ms.map mkP):=by
 have e:zs.drop k=nm zs k::zs.drop (k + 1):=by
   rw [p9 hk];have:=o5 hk;rw [C4 hk] at this;rw [J9 this]
 rw [e];rfl
abbrev pst (zs:List Str)(st:List Nat):List PV:=st.reverse.map fun p=>PV.str (nm zs p)
theorem Sn {zs:List Str}{p:Nat}{ps:List Nat}:(pst zs (p::ps))[(pst zs (p::ps)).length - 1]?=some (.str (nm zs p))/\(pst zs (p::ps)).dropLast=pst zs ps:=by
 unfold pst;rw [b0,N3];refine⟨?_,by simp⟩;rw [P5 (by simp)];simp
theorem LO {zs:List Str}{r:Int}{n:Nat}{D:Y9}{X:PV}:∀(ms:List Pu.Mk) (k:Nat) (st:List Nat) (acc:List Ev) (s4 s5:Option Pu.Slot),run r k st ms=some []->k + ms.length=zs.length->acc.length<=k->st.length<=k->zs.length<=24->
   (∀s4 s5 pl,D.nx [some (.v (rowP zs)),some (.v X),some (.own pl),some (.own ((acc++(shE k st ms).map (evOf zs)).map evP)),s4,s5] n)->
   forL (gTp 2 (gCn (gN 4) (gCn (gN 5) gNl))) (qIfS (qB (qOp (wEq 4) (qV 5) (qC (.str (A6 "t"))))) (N7 (T3 2 (qV 4))) (qIfS (qB (qOp (wEq 4) (qV 5) (qC (.str (A6 "u"))))) (N7 (T3 3 (qTup (A2 (qC (.str (A6 "touch"))) (A2 (qV 4) (A2 (qPop 2) qNil)))))) (qIfS (qB (qOp (wEq 4) (qV 5) (qC (.str (A6 "d"))))) (N7 (T3 3 (qTup (A2 (qC (.str (A6 "drop"))) (A2 (qV 4) qNil))))) qNx))) D
     (zipP ((zs.drop k).map PV.str) (ms.map mkP)) [some (.v (rowP zs)),some (.v X),some (.own (pst zs st)),some (.own (acc.map evP)),s4,s5] n
 | [], k, st, acc, s4, s5, hr, hk, _, _, _, h => by
   have:zipP ((zs.drop k).map PV.str) ([]:List PV)=[]:=by unfold zipP;simp
   rw [j3,this];have:=h s4 s5 (pst zs st);simp only [shE,j3,W6] at this;exact this
 | m :: ms, k, st, acc, s4, s5, hr, hk, ha, hs, h24, h => by
   rw [D3] at hk;rw [Sm (by omega)];have go:=LO (zs:=zs) (r:=r) (n:=n) (D:=D) (X:=X) ms (k + 1);have pl:(pst zs st).length<=24:=by unfold pst;rw [A7,Ae];omega
   have al:(acc.map evP).length<=24:=by rw [A7];omega
   have e1:∀e:Ev,acc.map evP++[evP e]=(acc++[e]).map evP:=fun e=>by rw [N3];rfl
   unfold rowP at *;generalize hZ:zs.map PV.str=Z at *;generalize hA:acc.map evP=AL at *;unfold forL;have nt:∀z,(decide (mkS m=z))=decide (mkS m=z):=fun _=>rfl;cases m with
   | t =>
     have h':=go (k::st) acc (some (.v (.str (nm zs k)))) (some (.v (mkP .t))) hr (by omega) (by omega) (by rw [D3];omega) h24 h;have e2:pst zs st++[.str (nm zs k)]=pst zs (k::st):=by unfold pst;rw [b0,N3];rfl
     rw [hA,<- e2] at h';generalize pst zs st=PS at *;rw [show mkP .t=.str (mkS .t) from rfl] at *;walk_at "pu";refine(if_t (by rw [mk_t];rfl) ⟨⟨_,rfl⟩,by omega,h'⟩)
   | o =>
     cases st with
     | cons p st=>cases hr
     | nil =>
       have h':=go [] acc (some (.v (.str (nm zs k)))) (some (.v (mkP .o))) hr (by omega) (by omega) (by simp) h24 h;rw [hA] at h';generalize pst zs []=PS at *;rw [show mkP .o=.str (mkS .o) from rfl] at *;walk_at "pu";refine(if_f (by rw [mk_t];rfl) ((if_f (by rw [mk_u];rfl) ((if_f (by rw [mk_d];rfl) h')))))
   | d =>
     have h':=go st (acc++[.d (nm zs k)]) (some (.v (.str (nm zs k)))) (some (.v (mkP .d))) hr (by omega) (by rw [E2,Z8];omega) (by omega) h24 (by
       intro s4 s5 pl;have:=h s4 s5 pl;rw [W5]
       exact this)
     rw [<- e1] at h';generalize pst zs st=PS at *;rw [show mkP .d=.str (mkS .d) from rfl] at *;walk_at "pu";refine(if_f (by rw [mk_t];rfl) ((if_f (by rw [mk_u];rfl) ((if_t (by rw [mk_d];rfl) ⟨⟨_,rfl⟩,by omega,h'⟩)))))
   | u =>
     cases st with
     | nil=>cases hr
     | cons p st =>
       have hr':run r (k + 1) st ms=some []:=by
         have:(if(k:Int) - p - 1<=r then run r (k + 1) st ms else none)=some []:=hr
         split at this
         · exact this
         · cases this
       have h':=go st (acc++[.t (nm zs k) (nm zs p)]) (some (.v (.str (nm zs k)))) (some (.v (mkP .u))) hr' (by omega) (by rw [E2,Z8];omega) (by rw [D3] at hs;omega) h24 (by
         intro s4 s5 pl;have:=h s4 s5 pl;rw [W5]
         exact this)
       rw [<- e1] at h';obtain⟨pp1,pp2⟩:=Sn (zs:=zs) (p:=p) (ps:=st);rw [<- pp2] at h';generalize pst zs (p::st)=PS at *;rw [show mkP .u=.str (mkS .u) from rfl] at *;walk_at "pu";refine(if_f (by rw [mk_t];rfl) ((if_t (by rw [mk_u];rfl) ⟨⟨_,rfl⟩,?_⟩)));rw [pp1];dsimp only;exact⟨by omega,h'⟩
theorem AK:∀(m:List Pu.Mk) (k:Nat) (st:List Nat),(shE k st m).length<=m.length
 | [],_,_=>by simp [shE]
 | .t::m,k,st=>by have:=AK m (k + 1) (k::st);show(shE (k + 1) (k::st) m).length<=m.length + 1;omega
 | .d::m,k,st=>by have:=AK m (k + 1) st;show(PE.d k::shE (k + 1) st m).length<=m.length + 1;rw [D3];omega
 | .o::m,k,st=>by have:=AK m (k + 1) st;unfold shE;rw [D3];omega
 | .u::m,k,[]=>by have:=AK m (k + 1) [];unfold shE;rw [D3];omega
 | .u::m,k,p::st=>by have:=AK m (k + 1) st;show(PE.t k p::shE (k + 1) st m).length<=m.length + 1;rw [D3];omega
theorem So {zs:List Str}{ms:List Pu.Mk}{r:Int}{n:Nat}{R:PV->Nat->Prop}(hl:ms.length=zs.length)(h24:zs.length<=24)(hw:run r 0 [] ms=some [])(h:∀es:List Ev,es.Perm ((shE 0 [] ms).map (evOf zs))->Srt (es.map evP) (((shE 0 [] ms).map (evOf zs)).map evP)->R (shP es) n):Fy [rowP zs,.lst (ms.map mkP)] n R:=by
 refine⟨rfl,?_⟩;unfold HV;have go:=fun D s4 s5=>LO (zs:=zs) (r:=r) (n:=n) (D:=D) (X:=.lst (ms.map mkP)) ms 0 [] [] s4 s5 hw (by omega) (by simp) (by simp) h24;simp only [Ag,i9] at go;unfold rowP at *;generalize hM:ms.map mkP=ML at *;generalize hZ:zs.map PV.str=Z at *;walk_at "pu";unfold BC;refine go _ _ _ fun s4 s5 pl=>?_;have so:=Ps ((shE 0 [] ms).map (evOf zs));have sl:=AK ms 0 []
 have hh:∀ys,Srt ys (((shE 0 [] ms).map (evOf zs)).map evP)->R (.tup ys) n:=fun ys hy=>by
   obtain⟨es,rfl,p⟩:=Pv hy;exact h es p hy
 have ll:(((shE 0 [] ms).map (evOf zs)).map evP).length < 64:=by rw [A7,A7];omega
 generalize ((shE 0 [] ms).map (evOf zs)).map evP=EL at *;walk_at "pu";exact⟨ll,so,hh⟩
theorem Sq {zs:List Str}{es:List Ev}{n:Nat}{R:PV->Nat->Prop}(h24:zs.length<=1000)(hb:∀b∈es.flatMap evB,b∈zs)(h:R (rowP (aft zs es)) n):FB [rowP zs,shP es] n R:=by
 refine⟨rfl,?_⟩;unfold HY;unfold rowP shP at *;have hix:∀z∈zs,∀{R:PV->Prop},R (.int (ixS zs z))->V1 (.tup (zs.map PV.str)) (.str z) R:=fun z hz {R} q=>m_ix rfl hz (by omega) q
 have go:∀(D:Y9) (hD:∀s3,D.nx [some (.v (.tup (zs.map PV.str))),some (.v (.tup (es.map evP))),some (.own ((es.foldl (setE zs) zs).map PV.str)),s3] n),forL (gN 3) (qIfS (qB (qOp (wEq 4) (qOp wIx (qV 3) (qC (.int 0))) (qC (.str (A6 "touch"))))) (qSeq (qPut 2 (qOp wIx (qV 3) (qC (.int 2))) (P1 (qV 0) (qOp wIx (qV 3) (qC (.int 1))))) (qPut 2 (qOp wIx (qV 3) (qC (.int 1))) (P1 (qV 0) (qOp wIx (qV 3) (qC (.int 2)))))) qNx) D (es.map evP) [some (.v (.tup (zs.map PV.str))),some (.v (.tup (es.map evP))),some (.own (zs.map PV.str)),none] n:=by
   intro D hD;have hbe:∀e∈es,∀b∈evB e,b∈zs:=fun e he b hb'=>hb b (U3.mpr ⟨e,he,hb'⟩);generalize hZ:zs.map PV.str=Z at *;generalize hE:es.map evP=E at *;refine X3 (fun i env m=>∃s3,env=[some (.v (.tup Z)),some (.v (.tup E)),some (.own (((es.take i).foldl (setE zs) zs).map PV.str)),s3]/\m=n) _ 0 _ _ ⟨none,by rw [List.take_zero,List.foldl_nil,hZ],rfl⟩ (fun i x env m N ex hI hN=>?_) (fun env m hI=>?_)
   · obtain⟨s3,rfl,rfl⟩:=hI;rw [<- hE] at ex;obtain⟨e,ee,rfl⟩:=Fe ex;rw [K7] at hN ⊢;have st:(es.take (i + 1)).foldl (setE zs) zs=setE zs ((es.take i).foldl (setE zs) zs) e:=by rw [C_ ee,List.foldl_append];rfl
     have fl:((es.take i).foldl (setE zs) zs).length=zs.length:=h6 zs (es.take i);rw [st] at hN;generalize (es.take i).foldl (setE zs) zs=f at *;have em:=hbe e (G8 ee);generalize hF:f.map PV.str=FL at *;have FLl:FL.length=zs.length:=by rw [<- hF,A7];exact fl
     cases e with
     | d x =>
       rw [Fc];walk_at "pu";exact if_f HF (hN _ _ ⟨_,by rw [show setE zs f (.d x)=f from rfl,hF],rfl⟩)
     | t x y =>
       have hx:=em x (by simp [evB]);have hy:=em y (by simp [evB]);have lx:=T6 hx;have ly:=T6 hy;rw [l9];walk_at "pu";refine⟨⟨_,rfl⟩,?_⟩;refine⟨⟨_,rfl⟩,hix x hx ?_⟩;dsimp only;rw [v5 (by omega) (by omega)];dsimp only;refine⟨⟨_,rfl⟩,⟨_,rfl⟩,hix y hy ?_⟩;dsimp only;rw [v5 (by omega) (by rw [J6];omega)];dsimp only;rw [Q6,Q6]
       have e3:(FL.set (ixS zs x) (.str y)).set (ixS zs y) (.str x)=(setE zs f (.t x y)).map PV.str:=by
         show _=((f.set (ixS zs x) y).set (ixS zs y) x).map PV.str;rw [AX,AX,hF]
       rw [e3];exact hN _ _ ⟨_,rfl,rfl⟩
   · obtain⟨s3,rfl,rfl⟩:=hI;have el:E.length=es.length:=by rw [<- hE,A7]
     rw [K7,el,B_];exact hD s3
 generalize hE:es.map evP=E at *;generalize hZ:zs.map PV.str=Z at *;walk_at "pu";refine go _ fun s3=>?_;have h':=h;unfold aft at h';generalize (es.foldl (setE zs) zs).map PV.str=FL at *;walk_at "pu";exact h'
theorem Sr {s n m:Nat}{r:Int}{R:PV->Nat->Prop}(h1:1<=s)(hn:1<=n)(h:R (.int (((n + s - 1) / s:Nat):Int)) m)(h8:s<=8):Fz [.tup [.int (s:Int),.int r],.int (n:Int)] m R:=by
 refine⟨rfl,?_⟩;unfold HW;walk_at "pu";refine⟨⟨by omega,by omega⟩,?_⟩
 have e:((n:Int) + s - 1) / s=(((n + s - 1) / s:Nat):Int):=by
   rw [show(n:Int) + s - 1=((n + s - 1:Nat):Int) by omega]
   rfl
 rw [e];exact h
theorem Ss {s n k m:Nat}{r:Int}{R:PV->Nat->Prop}(h8:s<=8)(hn:1<=n)(hk:k<=1000)(h:R (.tup [.int ((k * s:Nat):Int),.int ((hiN s n k:Nat):Int)]) m):Fx [.tup [.int (s:Int),.int r],.int (n:Int),.int (k:Int)] m R:=by
 refine⟨rfl,?_⟩;unfold HU;walk_at "pu";refine⟨.inr ⟨by omega,by omega⟩,?_⟩;have e2:(k:Int) * s=((k * s:Nat):Int):=(Int.natCast_mul k s).symm;rw [e2];unfold hiN at h
 by_cases c:k * s + s < n
 · refine if_t (decide_eq_true (by omega)) ?_
   try dsimp only
   rw [show((k * s:Nat):Int) + (s:Int)=((min (k * s + s) (n - 1):Nat):Int) by omega];exact h
 · refine if_f (decide_eq_false (by omega)) ?_
   try dsimp only
   rw [show(n:Int) - 1=((min (k * s + s) (n - 1):Nat):Int) by omega];exact h
theorem LP {s n k m:Nat}{r:Int}{R:PV->Nat->Prop}(h8:s<=8)(hn:1<=n)(hk:k<=1000)(h:R (.tup [.int ((k * s:Nat):Int),.int ((hiN s n k:Nat):Int)]) m):BN [.tup [.int (s:Int),.int r],.int (n:Int),.int (k:Int)] m R:=by
 refine⟨rfl,?_⟩;unfold Ia;walk_at "pu";refine⟨.inr ⟨by omega,by omega⟩,?_⟩;have e2:(k:Int) * s=((k * s:Nat):Int):=(Int.natCast_mul k s).symm
 have e:(if(n:Int) - 1 < (k:Int) * s + s then(n:Int) - 1 else(k:Int) * s + s)=((hiN s n k:Nat):Int):=by
   rw [e2];unfold hiN
   split <;> omega
 try dsimp only
 rw [e,e2];exact h
theorem Su {es:List Ev}{n:Nat}{R:PV->Nat->Prop}(hl:es.length<=1000000)(h:R (.lst ((es.filter isTo).map evP)) n):FG [shP es] n R:=by
 refine⟨rfl,?_⟩;unfold Iu shP;generalize hE:es.map evP=E;have El:E.length=es.length:=by rw [<- hE,A7]
 walk_at "pu";refine⟨by omega,?_⟩;rw [<- hE];refine x5 evP isTo _ _ _ _ (fun e he m Q hQ=>?_) h;cases e with
 | d x =>
   rw [Fc] at *;walk_at "pu";rw [HF];exact hQ
 | t x y =>
   rw [l9] at *;walk_at "pu";exact hQ
theorem Sv {f:List Str}{i j n:Nat}{R:PV->Nat->Prop}(hi:i < f.length)(hj:j < f.length)(h:R (rowP (exch f i j)) n):FH [rowP f,.int (i:Int),.int (j:Int)] n R:=by
 refine⟨rfl,?_⟩;unfold Iv;unfold rowP at *;have ai:∀{k:Nat},k < f.length->atI (f.map PV.str) (k:Int)=some (.str (nm f k)):=fun {k} hk=>GE (by rw [D5,o5 hk];rfl);have e:((f.map PV.str).set i (.str (nm f j))).set j (.str (nm f i))=(exch f i j).map PV.str:=by unfold exch;rw [AX,AX]
 generalize hF:f.map PV.str=F at *;have Fl:F.length=f.length:=by rw [<- hF,A7]
 walk_at "pu";rw [ai hj];dsimp only;rw [ai hi];dsimp only;refine⟨⟨_,rfl⟩,?_⟩;rw [v5 (by omega) (by omega)];dsimp only;rw [v5 (by omega) (by rw [J6];omega)];dsimp only;rw [Q6,Q6,e];exact h
theorem m_rowb {zs:List Str}{es:List Ev}{n:Nat}{R:PV->Nat->Prop}(h24:zs.length<=1000)(hl:es.length<=1000)(hb:∀b∈es.flatMap evB,b∈zs)(h:R (rowP (rbh zs es)) n):FI [rowP zs,shP es] n R:=by
 refine⟨rfl,?_⟩;unfold Iw;have hix:∀z∈zs,∀{R:PV->Prop},R (.int (ixS zs z))->V1 (.tup (zs.map PV.str)) (.str z) R:=fun z hz {R} q=>m_ix rfl hz (by omega) q;have hbe:∀e∈es,∀b∈evB e,b∈zs:=fun e he b hb'=>hb b (U3.mpr ⟨e,he,hb'⟩);generalize hS:shP es=S;have hr0:rowP zs=.tup (zs.map PV.str):=rfl;generalize hZ:zs.map PV.str=Z at *;rw [hr0];walk_at "pu";rw [<- hS];refine Su (by omega) ?_;dsimp only;rw [hS];refine X3 (fun i env m=>∃s3,env=[some (.v (.tup Z)),some (.v S),some (.v (rowP (((es.filter isTo).take i).foldl (exE zs) zs))),s3]/\m=n) _ 0 _ _ ⟨none,by rw [List.take_zero,List.foldl_nil,hr0],rfl⟩ (fun i x env m N ex hI hN=>?_) (fun env m hI=>?_)
 · obtain⟨s3,rfl,rfl⟩:=hI;obtain⟨e,ee,rfl⟩:=Fe ex;rw [K7] at hN ⊢;have st:((es.filter isTo).take (i + 1)).foldl (exE zs) zs=exE zs (((es.filter isTo).take i).foldl (exE zs) zs) e:=by rw [C_ ee,List.foldl_append];rfl
   have fl:(((es.filter isTo).take i).foldl (exE zs) zs).length=zs.length:=Lf zs _ _;rw [st] at hN;generalize ((es.filter isTo).take i).foldl (exE zs) zs=f at *;obtain⟨he,ht⟩:=K5.mp (G8 ee);have em:=hbe e he;cases e with
   | d x=>cases ht
   | t x y =>
     have hx:=em x (by simp [evB]);have hy:=em y (by simp [evB]);have lx:=T6 hx;have ly:=T6 hy;rw [l9];generalize hF:rowP f=F;walk_at "pu";refine⟨⟨_,rfl⟩,hix x hx ?_⟩;refine⟨⟨_,rfl⟩,hix y hy ?_⟩;rw [<- hF];refine Sv (by omega) (by omega) ?_;exact hN _ _ ⟨_,rfl,rfl⟩
 · obtain⟨s3,rfl,rfl⟩:=hI;rw [K7,A7,B_,Fh];have h':R (rowP (es.foldl (exE zs) zs)) m:=h;generalize rowP (es.foldl (exE zs) zs)=F at *;walk_at "pu";exact h'
theorem BP {s n k:Nat}(hn:1<=n):hiN s n k + 1<=n:=by unfold hiN;omega
theorem FO {s n k m:Nat}{r:Int}{row:List Str}{R:PV->Nat->Prop}(h8:s<=8)(hn:1<=n)(hl:row.length=n)(hk:k<=1000)(h:R (rowP (D7 s n k row)) m):Z2 [.tup [.int (s:Int),.int r],rowP row,.int (k:Int)] m R:=by
 refine⟨rfl,?_⟩;unfold Ib
 have e:cutP (row.map PV.str) (some ((k * s:Nat):Int)) (some (((hiN s n k:Nat):Int) + 1))=(D7 s n k row).map PV.str:=by
   rw [k9,show((hiN s n k:Nat):Int) + 1=((hiN s n k + 1:Nat):Int) by omega,Ff row (by rw [hl];exact BP hn)]
   rfl
 unfold rowP at *;generalize hZ:row.map PV.str=Z at *;have Zl:Z.length=n:=by rw [<- hZ,A7];exact hl
 walk_at "pu";rw [Zl];refine LP h8 hn hk ?_;walk_at "pu";rw [e];exact h
theorem m_put {s n k m:Nat}{r:Int}{row b:List Str}{R:PV->Nat->Prop}(h8:s<=8)(hn:1<=n)(h24:n<=1000)(hl:row.length=n)(hb:b.length<=1000)(hk:k<=1000)(h:R (rowP (putN s n k row b)) m):FF [.tup [.int (s:Int),.int r],rowP row,.int (k:Int),rowP b] m R:=by
 refine⟨rfl,?_⟩;unfold Is;have e1:cutP (row.map PV.str) none (some ((k * s:Nat):Int))=(row.take (k * s)).map PV.str:=by rw [k9,Ld]
 have e2:cutP (row.map PV.str) (some (((hiN s n k:Nat):Int) + 1)) none=(row.drop (hiN s n k + 1)).map PV.str:=by
   rw [k9,show((hiN s n k:Nat):Int) + 1=((hiN s n k + 1:Nat):Int) by omega,Fg]
 have l1:((row.take (k * s)).map PV.str).length<=1000:=by rw [A7,L0];omega
 have l2:((row.drop (hiN s n k + 1)).map PV.str).length<=1000:=by rw [A7,N9];omega
 have e3:(row.take (k * s)).map PV.str++b.map PV.str++(row.drop (hiN s n k + 1)).map PV.str=(putN s n k row b).map PV.str:=by unfold putN;rw [N3,N3]
 unfold rowP at *;generalize hZ:row.map PV.str=Z at *;generalize hB:b.map PV.str=B at *;have Bl:B.length=b.length:=by rw [<- hB,A7]
 have Zl:Z.length=n:=by rw [<- hZ,A7];exact hl
 walk_at "pu";rw [Zl];refine LP h8 hn hk ?_;walk_at "pu";rw [e1,e2];refine⟨by omega,by rw [E2];omega,?_⟩;rw [e3];exact h
theorem Sw {s n k m:Nat}{r:Int}{row:List Str}{es:List Ev}{R:PV->Nat->Prop}(h8:s<=8)(hn:1<=n)(h24:n<=1000)(hl:row.length=n)(hk:k<=1000)(he:es.length<=1000)(hb:∀b∈es.flatMap evB,b∈D7 s n k row)(h:R (rowP (putN s n k row (rbh (D7 s n k row) es))) m):Dn [.tup [.int (s:Int),.int r],rowP row,.int (k:Int),shP es] m R:=by
 refine⟨rfl,?_⟩;unfold Ix;have sl:(D7 s n k row).length<=1000:=by rw [AH hl hn];have:=BP (s:=s) (k:=k) hn;omega
 have rl:(rbh (D7 s n k row) es).length<=1000:=by rw [show(rbh (D7 s n k row) es).length=_ from Lf _ _ _];exact sl
 generalize hS:shP es=S;generalize hW:rowP row=W;walk_at "pu";rw [<- hW];refine FO h8 hn hl hk ?_;rw [<- hS];refine m_rowb sl he hb ?_;exact m_put h8 hn h24 hl rl hk h
theorem ins0 {α:Type}(xs:List α)(y:α):insL xs (0:Int).toNat y=y::xs:=rfl
theorem m_day {P:List Str->List Ev->Prop}{s n:Nat}{r:Int}{row:List Str}{R:PV->Nat->Prop}
   (hP:∀st ms es,RowS st->st.length<=n->ms.length=st.length->run r 0 [] ms=some []->es.Perm ((shE 0 [] ms).map (evOf st))->Srt (es.map evP) (((shE 0 [] ms).map (evOf st)).map evP)->P st es) (hf:∀st es,P st es->Fair st es)
   (h1:1<=s) (h8:s<=8) (hn:1<=n) (h24:n<=24) (hr:RowS row) (hl:row.length=n) (hn0:n0<=999000000)
   (h:∀ess sts r' n',Dy P s n ((n + s - 1) / s) row ((n + s - 1) / s) ess sts r'->n'<=n0 + 2000->R (.tup [dayP ess,.tup (sts.map rowP),rowP r']) n'):FC [.pot q,.tup [.int (s:Int),.int r],rowP row] n0 R:=by
 refine⟨rfl,?_⟩;unfold HZ;have rl:(row.map PV.str).length=n:=by rw [A7];exact hl
 have mle:=BK (s:=s) (n:=n) h1 hn;generalize hW:rowP row=W;have hW':W=.tup (row.map PV.str):=by rw [<- hW]
 walk_at "pu";rw [hW'];simp only [wLen,rl];refine Sr h1 hn ?_ h8;generalize hmx:(n + s - 1) / s=mx at *;refine⟨⟨by omega,by omega⟩,?_⟩;rw [Q6];refine X3 (fun i env m=>∃ess sts r' s5 s6 s7 s8 s9,env=[some (.v (.pot q)),some (.v (.tup [.int (s:Int),.int r])),some (.v (rowP r')),some (.own (ess.map shP)),some (.own (sts.map rowP)),s5,s6,s7,s8,s9]/\Dy P s n mx row i ess sts r'/\m<=n0 + 50 * i) _ 0 _ _ ⟨[],[],row,_,_,_,_,_,rfl,.nil,by omega⟩ (fun i x env m N ex hI hN=>?_) (fun env m hI=>?_)
 · obtain⟨ess,sts,r',s5,s6,s7,s8,s9,rfl,hd,hm⟩:=hI;obtain⟨hi,rfl⟩:=Lb ex;rw [K7] at hd hm hN;obtain⟨rS,rL⟩:=hd.rows h1 hn hmx.symm hf hr hl;have el:=hd.len;have ek:(mx:Int) - 1 - i=((mx - 1 - i:Nat):Int):=by omega
   have kp:(mx - 1 - i) * s<=n - 1:=places h1 hn (by omega);rw [ek];have step:=fun es hp=>Dy.cons (es:=es) hd hi hp;generalize mx - 1 - i=k at *;have kh:=Da (s:=s) (n:=n) kp;have hh:=BP (s:=s) (k:=k) hn
   have e1:cutP (r'.map PV.str) (some ((k * s:Nat):Int)) (some (((hiN s n k:Nat):Int) + 1))=(D7 s n k r').map PV.str:=by
     rw [k9,show((hiN s n k:Nat):Int) + 1=((hiN s n k + 1:Nat):Int) by omega,Ff r' (by rw [rL];exact hh)]
     rfl
   have e2:cutP (r'.map PV.str) none (some ((k * s:Nat):Int))=(r'.take (k * s)).map PV.str:=by rw [k9,Ld]
   have e3:cutP (r'.map PV.str) (some (((hiN s n k:Nat):Int) + 1)) none=(r'.drop (hiN s n k + 1)).map PV.str:=by
     rw [k9,show((hiN s n k:Nat):Int) + 1=((hiN s n k + 1:Nat):Int) by omega,Fg]
   have stS:=Le (s:=s) (n:=n) (k:=k) rS;have stL:=AH (s:=s) (k:=k) rL hn;have l1:((r'.take (k * s)).map PV.str).length<=24:=by rw [A7,L0];omega
   have l2:((r'.drop (hiN s n k + 1)).map PV.str).length<=24:=by rw [A7,N9];omega
   have aL:∀es,((aft (D7 s n k r') es).map PV.str).length<=24:=fun es=>by rw [A7,h6];omega
   have e4:∀es,(r'.take (k * s)).map PV.str++(aft (D7 s n k r') es).map PV.str++(r'.drop (hiN s n k + 1)).map PV.str=(putN s n k r' (aft (D7 s n k r') es)).map PV.str:=fun es=>by unfold putN;rw [N3,N3]
   have sl:((D7 s n k r').map PV.str).length=(D7 s n k r').length:=by rw [A7]
   have rl':(r'.map PV.str).length=n:=by rw [A7];exact rL
   have hE:(ess.map shP).length < 1000000:=by rw [A7];omega
   have hS:(sts.map rowP).length < 1000000:=by rw [A7];omega
   have ec:∀es,shP es::ess.map shP=(es::ess).map shP:=fun _=>rfl;have ed:∀st,rowP st::sts.map rowP=(st::sts).map rowP:=fun _=>rfl;generalize hES:ess.map shP=ES at *;generalize hST:sts.map rowP=ST at *;unfold rowP at *;generalize hZ:r'.map PV.str=Z at *;walk_at "pu";rw [rl'];refine Ss h8 hn (by omega) ?_;walk_at "pu";rw [e1];generalize hG:D7 s n k r'=st at *;generalize hQ:st.map PV.str=SP at *;rw [sl];refine m_word (by omega) (by omega) fun ms n' hml hw hn'=>?_;rw [<- hQ];refine So hml (by omega) hw fun es pe se=>?_;have hp:=hP st ms es stS (by omega) hml hw pe se;have fr:=hf st es hp;refine Sq (by omega) fr.sub ?_
   try dsimp only
   have aL':=aL es;rw [e2,e3];refine⟨by omega,by rw [E2];omega,?_⟩;rw [e4];refine⟨⟨_,rfl⟩,hE,⟨_,rfl⟩,hS,?_⟩;have stp:=step es hp;have x1:insL ES (0:Int).toNat (shP es)=(es::ess).map shP:=by rw [ins0,<- hES];rfl
   have x2:insL ST (0:Int).toNat (PV.tup (st.map PV.str))=(st::sts).map rowP:=by rw [ins0,<- hST];rfl
   rw [x1,x2];exact hN _ _ ⟨_,_,_,_,_,_,_,_,rfl,stp,by omega⟩
 · obtain⟨ess,sts,r',s5,s6,s7,s8,s9,rfl,hd,hm⟩:=hI;rw [K7,Lc] at hd hm;have:=h ess sts r' m hd (by omega);unfold dayP at this;generalize ess.map shP=ES at *;generalize sts.map rowP=ST at *;generalize rowP r'=RP at *;walk_at "pu";exact this
theorem m_meet {R:PV->Nat->Prop}(hn0:n0<=999000000)(h:∀(s r:Nat) zs n',1<=s->s<=8->r<=7->1<=zs.length->zs.length<=24->RowS zs->n'<=n0 + 200->R (.tup [.tup [.int (s:Int),.int (r:Int)],rowP zs]) n'):Fw [.pot q,.int 24] n0 R:=by
 refine⟨rfl,?_⟩;unfold HS;walk_at "pu";refine⟨by omega,fun d0 d00 d01=>⟨by omega,fun d1 d10 d11=>⟨by omega,fun d2 d20 d21=>?_⟩⟩⟩;obtain⟨x,hx,ex⟩:=CN (xs:=[PV.int 0,PV.int 1,PV.int 7,PV.int d1]) d20 (by simpa using d21)
 obtain⟨r,rfl,r0,r7⟩:∃v:Int,x=.int v/\0<=v/\v<=7:=by
   simp only [B7,Q5,or_false] at hx;rcases hx with rfl | rfl | rfl | rfl <;> exact⟨_,rfl,by omega,by omega⟩
 rw [ex];dsimp only;obtain⟨s,rfl⟩:=DW d00;obtain⟨r,rfl⟩:=DW r0;refine⟨by omega,fun d3 d30 d31=>⟨by omega,fun d4 d40 d41=>⟨by omega,fun d5 d50 d51=>?_⟩⟩⟩
 have d41':d4 < 6:=by
   have:(if(6:Int) < 24 then(6:Int) else 24)=6:=rfl;omega
 obtain⟨y,hy,ey⟩:=CN (xs:=[PV.int (1 + d3),PV.int (1 + d4)]) d50 (by simpa using d51)
 obtain⟨many,rfl,m0,m1⟩:∃v:Int,y=.int v/\1<=v/\v<=24:=by
   simp only [B7,Q5,or_false] at hy;rcases hy with rfl | rfl <;> exact⟨_,rfl,by omega,by omega⟩
 rw [ey];dsimp only;refine Sk m0 m1 (by omega) fun zs n' zl zr hn'=>?_;have e:(1:Int) + (s:Int)=((1 + s:Nat):Int):=by omega
 rw [e];exact h (1 + s) r zs n' (by omega) (by omega) (by omega) (by omega) (by omega) zr (by omega)
theorem Sx {a b:Int}{ys:List PV}(h:Srt ys [.int a,.int b]):ys=[.int (min a b),.int (max a b)]:=by
 obtain⟨p,q⟩:=h;have l:=p.length_eq
 match ys,l with
 | [u, v], _ =>
   have hq:lexK (keyP v) (keyP u)=false:=by simpa using q
   have two:(u=.int a/\v=.int b)\/(u=.int b/\v=.int a):=by
     have hu:u∈[PV.int a,PV.int b]:=p.mem_iff.mp (by simp);rcases B7.mp hu with e | hu
     · subst e;exact .inl ⟨rfl,by simpa using(List.perm_cons _).mp p⟩
     · have e:u=.int b:=by simpa using hu
       subst e;have p2:=p.trans (List.Perm.swap (PV.int b) (PV.int a) []);exact .inr ⟨rfl,by simpa using(List.perm_cons _).mp p2⟩
   rcases two with⟨rfl,rfl⟩ | ⟨rfl,rfl⟩
   · have:¬b < a:=by
       intro c
       have e:lexK [L5 b] [L5 a]=true:=by
         show(if(L5 b:Key)=L5 a then lexK [] [] else decide (b < a))=true;rw [if_neg (by intro z;cases z;omega)];exact decide_eq_true c
       rw [show keyP (PV.int b)=[L5 b] from rfl,show keyP (PV.int a)=[L5 a] from rfl,e] at hq;cases hq
     rw [show min a b=a by omega,show max a b=b by omega]
   · have:¬a < b:=by
       intro c
       have e:lexK [L5 a] [L5 b]=true:=by
         show(if(L5 a:Key)=L5 b then lexK [] [] else decide (a < b))=true;rw [if_neg (by intro z;cases z;omega)];exact decide_eq_true c
       rw [show keyP (PV.int b)=[L5 b] from rfl,show keyP (PV.int a)=[L5 a] from rfl,e] at hq;cases hq
     rw [show min a b=b by omega,show max a b=a by omega]
theorem IE {st:List Str}{x y:Str}{n:Nat}{R:PV->Nat->Prop}(hs:st.length<=100)(hx:x∈st)(hy:y∈st)(h:R (rowP (btwU st x y)) n):h9 [rowP st,evP (.t x y)] n R:=by
 refine⟨rfl,?_⟩;unfold Ij;have hix:∀z∈st,∀{R:PV->Prop},R (.int (ixS st z))->V1 (.tup (st.map PV.str)) (.str z) R:=fun z hz {R} q=>m_ix rfl hz (by omega) q;have hr0:rowP st=.tup (st.map PV.str):=rfl;have lx:=T6 hx;have ly:=T6 hy
 have hcut:cutP (st.map PV.str) (some (min (ixS st x:Int) (ixS st y) + 1)) (some (max (ixS st x:Int) (ixS st y)))=(btwU st x y).map PV.str:=by
   have:=Ff (st.map PV.str) (a:=min (ixS st x) (ixS st y) + 1) (b:=max (ixS st x) (ixS st y)) (by rw [A7];omega);unfold btwU;rw [List.map_drop,List.map_take,<- this]
   congr 2 <;> omega
 generalize hZ:st.map PV.str=Z at *;rw [hr0,l9];walk_at "pu";refine⟨⟨_,rfl⟩,hix x hx ?_⟩;refine⟨⟨_,rfl⟩,hix y hy ?_⟩;refine⟨.inl (by simp),fun ys hys=>?_⟩;rw [Sx hys];refine⟨rfl,?_⟩;walk_at "pu";rw [hcut];exact h
theorem m_far {st:List Str}{r:Int}{x y:Str}{n:Nat}{R:PV->Nat->Prop}(hs:st.length<=100)(hx:x∈st)(hy:y∈st)(h:R (.bl (decide (r < ((btwU st x y).length:Int)))) n):Dj [rowP st,.int r,evP (.t x y)] n R:=by
 refine⟨rfl,?_⟩;unfold Ik;generalize hS:rowP st=S;generalize hT:evP (.t x y)=T;walk_at "pu";subst hS hT;refine IE hs hx hy ?_;dsimp only;rw [A7];exact h
theorem LQ {rest:Pu.Env}{pi:pA}{α:Type}(f:α->PV)(g:α->List PV):∀(xs:List α) (s0 s1:Option Pu.Slot) (n:Nat) (R:List PV->Nat->Prop),(∀x∈xs,∀s1 m Q,Q (g x) (some (.v (f x))::s1::rest) m->pi (some (.v (f x))::s1::rest) m Q)->(∀x∈xs,(g x).length<=1000)->R (xs.flatMap g) n->BL (gN 0) pi (gN 1) qTru (qV 1) (xs.map f) (s0::s1::rest) n R:=by
 intro xs
 induction xs with
 | nil=>intro _ _ _ _ _ _ h;exact h
 | cons x xs ih =>
   intro s0 s1 n R hp hl h;show pi (some (.v (f x))::s1::rest) n _;refine hp x B8 _ _ _ ⟨hl x B8,?_⟩
   have inner:∀(ys:List PV) (a s1:Option Pu.Slot) (Q:List PV->Pu.Env->Nat->Prop),(∀s1,Q ys (a::s1::rest) n)->AJ (gN 1) qTru (qV 1) ys (a::s1::rest) n Q:=by
     intro ys
     induction ys with
     | nil=>intro a s1 Q q;exact q s1
     | cons y ys ih2=>intro a s1 Q q;exact ih2 a _ _ fun s1=>q s1
   exact inner _ _ _ _ fun s1'=>ih _ _ _ _ (fun u hu=>hp u (B5 _ hu)) (fun u hu=>hl u (B5 _ hu)) h
theorem LR {es:List Ev}{n:Nat}{R:PV->Nat->Prop}(hl:es.length<=1000)(h:R (.lst ((es.flatMap evB).map PV.str)) n):y0 [shP es] n R:=by
 refine⟨rfl,?_⟩;unfold Il shP;rw [List.map_flatMap] at h;have El:(es.map evP).length<=1000:=by rw [A7];exact hl
 walk_at "pu";refine⟨El,LQ evP (fun e=>(evB e).map PV.str) es _ _ _ _ (fun e he s1 m Q q=>?_) (fun e _=>?_) h⟩
 · cases e with
   | d x=>exact q
   | t x y=>exact q
 · cases e <;> (show _<=1000;simp [evB])
theorem Sy {r:Int}{st:List Str}{es:List Ev}{x y x' y':Str}{n:Nat}{R:PV->Nat->Prop}(hs:st.length<=100)(nd:st.Nodup)(so:T7 r st es)(he:Ev.t x y∈es)(he':Ev.t x' y'∈es)(h:R (.bl false) n):Dk [rowP st,evP (.t x y),evP (.t x' y')] n R:=by
 refine⟨rfl,?_⟩;unfold Im;obtain⟨hx,hy⟩:=so.fair.tx he;have pl:=so.plain x y x' y' he he';have mb:∀{R:PV->Nat->Prop},R (.lst [.str x,.str y,.str x',.str y']) n->y0 [.tup [.tup [.str l8,.str x,.str y],.tup [.str l8,.str x',.str y']]] n R:=fun q=>LR (es:=[.t x y,.t x' y']) (by simp) q;have mw:∀{R:PV->Nat->Prop},R (rowP (btwU st x y)) n->h9 [rowP st,.tup [.str l8,.str x,.str y]] n R:=fun q=>IE hs hx hy q;generalize hW:rowP st=W at *;rw [l9,l9];walk_at "pu";refine mb ?_;have tx:W9 [.str x,.str y,.str x',.str y']=some [x,y,x',y']:=rfl;dsimp only;rw [tx];dsimp only;refine⟨by simp,fun c=>?_⟩
 by_cases c:(c:Int)=4
 · refine if_f (by rw [decide_eq_true c];rfl) ?_;refine mw ?_;refine KS rfl ?_;refine KS rfl ?_;rw [eqP_bb,decide_eq_decide.mpr pl];generalize decide (y'∈btwU st x y)=b;cases b <;> exact h
 · refine if_t (by rw [decide_eq_false c];rfl) ?_;exact h
theorem IF {st:List Str}{b:Str}(hb:b∈st):∀(es:List Ev) (f:List Str),(∀z∈es.flatMap evB,z∈st)->(∀x y,Ev.t x y∈es->b≠x/\b≠y)->(es.foldl (setE st) f)[ixS st b]?=f[ixS st b]?:=by
 intro es
 induction es with
 | nil=>intro f _ _;rfl
 | cons e es ih =>
   intro f hs hn;rw [Y0,ih _ (fun z hz=>hs z (by rw [Q3];exact P6 _ hz)) (fun x y h=>hn x y (B5 _ h))];cases e with
   | d x=>rfl
   | t x y =>
     obtain⟨n1,n2⟩:=hn x y B8;have hx:x∈st:=hs x (by simp [evB]);have hy:y∈st:=hs y (by simp [evB]);show((f.set (ixS st x) y).set (ixS st y) x)[ixS st b]?=_;rw [K4 (fun z=>n2 (CZ hy hb z).symm),K4 (fun z=>n1 (CZ hx hb z).symm)]
theorem LS {st:List Str}{x y:Str}:∀(es:List Ev) (f:List Str),f.length=st.length->(es.flatMap evB).Nodup->(∀z∈es.flatMap evB,z∈st)->Ev.t x y∈es->(es.foldl (setE st) f)[ixS st x]?=some y/\(es.foldl (setE st) f)[ixS st y]?=some x:=by
 intro es
 induction es with
 | nil=>intro f _ _ _ h;cases h
 | cons e es ih =>
   intro f hl nd hs he;rw [Q3] at nd hs;obtain⟨n1,n2,n3⟩:=BZ.mp nd;have hs':∀z∈es.flatMap evB,z∈st:=fun z hz=>hs z (P6 _ hz);rw [Y0]
   by_cases c:Ev.t x y∈es
   · exact ih _ (by rw [K_];exact hl) n2 hs' c
   · have e1:Ev.t x y=e:=(B7.mp he).resolve_right c;subst e1;have hx:x∈st:=hs x (by simp [evB]);have hy:y∈st:=hs y (by simp [evB]);have lx:=T6 hx;have ly:=T6 hy
     have nxy:x≠y:=by
       have n1':[x,y].Nodup:=n1
       simpa using n1'
     have out:∀b,b∈[x,y]->∀u v,Ev.t u v∈es->b≠u/\b≠v:=fun b hb u v h=>
       ⟨fun z=>n3 b hb u (U3.mpr ⟨_,h,by simp [evB]⟩) z,fun z=>n3 b hb v (U3.mpr ⟨_,h,by simp [evB]⟩) z⟩
     rw [IF hx es _ hs' (out x (by simp)),IF hy es _ hs' (out y (by simp))];show((f.set (ixS st x) y).set (ixS st y) x)[ixS st x]?=some y/\((f.set (ixS st x) y).set (ixS st y) x)[ixS st y]?=some x;have ne:ixS st y≠ixS st x:=fun z=>nxy (CZ hx hy z.symm);constructor
     · rw [K4 ne,K9 (by omega)]
     · rw [K9 (by rw [J6];omega)]
theorem who {r:Int}{st:List Str}{es:List Ev}(so:T7 r st es){b:Str}(hb:b∈st):∃c,c∈st/\(aft st es)[ixS st b]?=some c/\(aft st es)[ixS st c]?=some b/\((Ev.t b c∈es/\ixS st c < ixS st b)\/(Ev.t c b∈es/\ixS st b < ixS st c)\/(c=b/\∀x y,Ev.t x y∈es->b≠x/\b≠y)):=by
 have st':=fun x y h=>LS (x:=x) (y:=y) es st rfl so.fair.nd so.fair.sub h
 by_cases h1:∃c,Ev.t b c∈es
 · obtain⟨c,h1⟩:=h1;exact⟨c,(so.fair.tx h1).2,(st' b c h1).1,(st' b c h1).2,.inl ⟨h1,so.ahead b c h1⟩⟩
 · by_cases h2:∃c,Ev.t c b∈es
   · obtain⟨c,h2⟩:=h2;exact⟨c,(so.fair.tx h2).1,(st' c b h2).2,(st' c b h2).1,.inr (.inl ⟨h2,so.ahead c b h2⟩)⟩
   · have no:∀x y,Ev.t x y∈es->b≠x/\b≠y:=fun x y h=>⟨fun z=>h1 ⟨y,by rw [z];exact h⟩,fun z=>h2 ⟨x,by rw [z];exact h⟩⟩;have k:=IF hb es st so.fair.sub no;rw [(V4 hb).1] at k;exact⟨b,hb,k,k,.inr (.inr ⟨rfl,no⟩)⟩
theorem Dp {r:Int}{st:List Str}{es:List Ev}(so:T7 r st es):(aft st es).Perm st:=by
 rw [HE so.fair];exact La so.fair.sub
theorem IG {st g:List Str}{b c:Str}(nd:g.Nodup)(h:g[ixS st b]?=some c):ixS g c=ixS st b:=Fd nd (V4 (G8 h)).1 h
theorem Sz {st g:List Str}{a:Str}(nd:(a::g).Nodup)(p:(a::g).Perm st):st.filter (fun b=>!decide (b∈g))=[a]:=by
 have h1:=p.filter (fun b=>!decide (b∈g));obtain⟨na,_⟩:=O8.mp nd;rw [List.filter_cons_of_pos (by rw [decide_eq_false na];rfl),List.filter_eq_nil_iff.mpr (fun b hb=>by rw [decide_eq_true hb];decide)] at h1;exact(List.singleton_perm.mp h1).symm
theorem SA {s n k m:Nat}{r b:List Str}(hl:r.length=n)(hn:1<=n)(hk:k * s<=hiN s n k)(hb:b.length=(D7 s n k r).length)(hm:hiN s n k + 1<=m):(putN s n k r b).drop m=r.drop m:=by
 have hh:=BP (s:=s) (k:=k) hn;have l1:(r.take (k * s)++b).length=hiN s n k + 1:=by rw [E2,L0,hb,AH hl hn];omega
 unfold putN;rw [List.drop_append,X9 (by omega),l1,i9,List.drop_drop,show hiN s n k + 1 + (m - (hiN s n k + 1))=m by omega]
theorem SC {P:List Str->List Ev->Prop}{s n mx:Nat}{row:List Str}(h1:1<=s)(hn:1<=n)(hmx:mx=(n + s - 1) / s)(hf:∀st es,P st es->Fair st es)(hr:RowS row)(hl:row.length=n){j:Nat}{E:List (List Ev)}{S:List (List Str)}{r2:List Str}(h:Dy P s n mx row j E S r2):∀(i:Nat) (r1:List Str),i<=j->Dy P s n mx row i (E.drop (j - i)) (S.drop (j - i)) r1->r2.drop ((mx - i) * s + 1)=r1.drop ((mx - i) * s + 1):=by
 induction h with
 | nil =>
   intro i r1 hi d;obtain rfl:i=0:=by omega
   rw [Dy.det d .nil]
 | @cons j E S r es h hj hp ih =>
   intro i r1 hi d
   by_cases c:i=j + 1
   · subst c;rw [Y1] at d;rw [Dy.det (.cons h hj hp) d]
   · rw [show j + 1 - i=(j - i) + 1 by omega,DH,DH] at d;obtain⟨rS,rL⟩:=h.rows h1 hn hmx hf hr hl;rw [<- ih i r1 (by omega) d];have kp:(mx - 1 - j) * s<=n - 1:=places h1 hn (by omega);refine SA rL hn (Da kp) (h6 _ _) ?_
     have e1:(mx - 1 - j) * s + s<=(mx - i) * s:=by
       have:=Nat.mul_le_mul_right s (show mx - 1 - j + 1<=mx - i by omega)
       rwa [Nat.add_mul,Nat.one_mul] at this
     unfold hiN;omega
theorem SD {P:List Str->List Ev->Prop}{s n mx i:Nat}{row st:List Str}{es:List Ev}(h1:1<=s)(hn:1<=n)(hmx:mx=(n + s - 1) / s)(hf:∀st es,P st es->Fair st es)(hr:RowS row)(hl:row.length=n)(hd:Dy P s n mx row mx ess sts row')(hi:i < mx)(rL:r'.length=n)(es':st=D7 s n (mx - 1 - i) r')(d2:Dy P s n mx row (i + 1) (ess.drop (mx - (i + 1))) (sts.drop (mx - (i + 1))) (putN s n (mx - 1 - i) r' (aft st es))) :
   (D7 s n (mx - 1 - i) row').drop 1=(aft st es).drop 1:=by
 have k:=SC h1 hn hmx hf hr hl hd (i + 1) _ hi d2;have kp:(mx - 1 - i) * s<=n - 1:=places h1 hn (by omega);have kh:=Da (s:=s) (n:=n) kp;have hh:=BP (s:=s) (k:=mx - 1 - i) hn;have e0:mx - (i + 1)=mx - 1 - i:=by omega
 rw [e0] at k;generalize mx - 1 - i=q at *;unfold D7;rw [List.drop_drop];have al:(aft st es).length=hiN s n q + 1 - q * s:=by rw [h6,es',AH rL hn]
 have e1:(row'.take (hiN s n q + 1)).drop (q * s + 1)=(row'.drop (q * s + 1)).take (hiN s n q + 1 - (q * s + 1)):=List.drop_take ..;rw [e1,k];have tl:(r'.take (q * s)).length=q * s:=by rw [L0];omega
 unfold putN;rw [W5,List.drop_append,X9 (by omega),tl,i9,show q * s + 1 - q * s=1 by omega,List.drop_append,show 1 - (aft st es).length=0 by omega,Ag,List.take_append_of_le_length (by rw [N9];omega),X8 (by rw [N9];omega)]
theorem IH {te:pE}{rest:Pu.Env}{α:Type}(f:α->PV):∀(xs:List α) (s0:Option Pu.Slot) (n:Nat) (R:List PV->Nat->Prop),(∀x∈xs,∀m Q,Q false (some (.v (f x))::rest) m->tt (some (.v (f x))::rest) m Q)->R [] n->R7 (gN 0) tt te (xs.map f) (s0::rest) n R:=by
 intro xs
 induction xs with
 | nil=>intro _ _ _ _ h;exact h
 | cons x xs ih =>
   intro s0 n R ht h;show tt (some (.v (f x))::rest) n _;exact ht x B8 _ _ (ih _ _ _ (fun y hy=>ht y (B5 _ hy)) h)
theorem m_from {s n k m:Nat}{r:Int}{st g:List Str}{R:PV->Nat->Prop}(h8:s<=8)(hn:1<=n)(h24:n<=24)(hl:row'.length=n)(hk:k<=1000)(hg:(D7 s n k row').drop 1=g)(hs:∀z∈g,z∈st)(h:R (.lst []) m):Dg [.tup [.int (s:Int),.int r],rowP st,rowP row',.int (k:Int)] m R:=by
 refine⟨rfl,?_⟩;unfold Ie;have e:cutP ((D7 s n k row').map PV.str) (some 1) none=g.map PV.str:=by rw [k9,<- hg];exact congrArg _ (Fg _ 1)
 have gl:(g.map PV.str).length<=24:=by
   have:=AH (s:=s) (k:=k) hl hn;have:=BP (s:=s) (k:=k) hn;rw [A7,<- hg,N9];omega
 have hS:rowP st=.tup (st.map PV.str):=rfl;generalize hZ:st.map PV.str=Z at *;generalize hW:rowP row'=W;rw [hS];walk_at "pu";rw [<- hW];refine FO h8 hn hl hk ?_;unfold rowP;dsimp only;rw [e];refine⟨by omega,?_⟩;refine IH PV.str g _ _ _ (fun z hz m Q q=>?_) h;walk_at "pu";refine KU hZ ?_;rw [decide_eq_true (hs z hz)];exact q
theorem LT {s n k m:Nat}{r:Int}{st g:List Str}{a:Str}{R:PV->Nat->Prop}(h8:s<=8)(hn:1<=n)(h24:n<=24)(hl:row'.length=n)(hk:k<=1000)(hst:st.length<=24)(hg:(D7 s n k row').drop 1=g)(nd:(a::g).Nodup)(p:(a::g).Perm st)(h:R (rowP (a::g)) m):x9 [.tup [.int (s:Int),.int r],rowP st,rowP row',.int (k:Int)] m R:=by
 refine⟨rfl,?_⟩;unfold Ig;have e:cutP ((D7 s n k row').map PV.str) (some 1) none=g.map PV.str:=by rw [k9,<- hg];exact congrArg _ (Fg _ 1)
 have gl:(g.map PV.str).length<=24:=by
   have:=p.length_eq;rw [D3] at this;rw [A7];omega
 have Zl:(st.map PV.str).length<=24:=by rw [A7];exact hst
 have gf:=Sz nd p;have hS:rowP st=.tup (st.map PV.str):=rfl;have h':R (.tup ([.str a]++g.map PV.str)) m:=h;generalize hZ:st.map PV.str=Z at *;generalize hW:rowP row'=W;rw [hS];walk_at "pu";rw [<- hW];refine FO h8 hn hl hk ?_;unfold rowP;dsimp only;rw [e];generalize hG:g.map PV.str=G at *;walk_at "pu";refine⟨by omega,?_⟩;rw [<- hZ];refine x5 PV.str (fun b=>!decide (b∈g)) st _ _ _ (fun z hz m Q q=>?_) ?_
 · walk_at "pu";exact KU hG q
 · rw [gf];exact⟨(show 1 + G.length<=1000000 by omega),h'⟩
theorem m_goes {r:Int}{st:List Str}{es:List Ev}{x:Str}{n:Nat}{R:PV->Nat->Prop}(so:T7 r st es)(rs:st.Nodup)(hl:st.length<=24)(hx:x∈st)(h:R (.bl false) n):Dh [rowP st,rowP (aft st es),.str x] n R:=by
 refine⟨rfl,?_⟩;unfold Ih;obtain⟨c,hc,w1,w2,_⟩:=who so hx;have gn:(aft st es).Nodup:=(Dp so).nodup_iff.mpr rs;have al:(aft st es).length<=24:=by rw [h6];exact hl
 have i1:∀{R:PV->Prop},R (.int (ixS st c))->V1 (.tup ((aft st es).map PV.str)) (.str x) R:=fun q=>m_ix rfl (G8 w2) (by omega) (by rw [IG gn w2];exact q);have i2:∀{R:PV->Prop},R (.int (ixS st x))->V1 (.tup ((aft st es).map PV.str)) (.str c) R:=fun q=>m_ix rfl (G8 w1) (by omega) (by rw [IG gn w1];exact q);have i3:∀{R:PV->Prop},R (.int (ixS st x))->V1 (.tup (st.map PV.str)) (.str x) R:=fun q=>m_ix rfl hx (by omega) q;have a1:atI (st.map PV.str) (ixS st c:Int)=some (.str c):=GE (by rw [D5,(V4 hc).1];rfl);unfold rowP;generalize hZ:st.map PV.str=Z at *;generalize hG:(aft st es).map PV.str=G at *;walk_at "pu";refine⟨⟨_,rfl⟩,i1 ?_⟩;dsimp only;rw [a1];refine⟨⟨_,rfl⟩,i2 ⟨⟨_,rfl⟩,i3 ?_⟩⟩;show R (.bl (!eqP (.int _) (.int _))) n;rw [ID,decide_eq_true rfl];exact h
theorem SE {r:Int}{st:List Str}{es:List Ev}{n:Nat}{R:PV->Nat->Prop}(so:T7 r st es)(rs:st.Nodup)(hl:st.length<=24)(h:R (.lst []) n):Di [rowP st,rowP (aft st es)] n R:=by
 refine⟨rfl,?_⟩;unfold Ii;have go:∀x∈st,∀{m:Nat} {R:PV->Nat->Prop},R (.bl false) m->Dh [.tup (st.map PV.str),rowP (aft st es),.str x] m R:=fun x hx {m R} q=>m_goes so rs hl hx q;have hS:rowP st=.tup (st.map PV.str):=rfl;have Zl:(st.map PV.str).length<=24:=by rw [A7];exact hl
 generalize hZ:st.map PV.str=Z at *;generalize rowP (aft st es)=G at *;rw [hS];walk_at "pu";refine⟨by omega,?_⟩;rw [<- hZ] at *;refine IH PV.str st _ _ _ (fun z hz m Q q=>?_) h;generalize st.map PV.str=Z at *;walk_at "pu";exact go z hz q
def SrP (xs:List PV):Prop:=xs.Pairwise fun a b=>lexK (keyP b) (keyP a)=false
theorem SF (zs:List Str):∀x∈zs.map PV.str,∀y∈zs.map PV.str,keyP x=keyP y->x=y:=fun x hx y hy e=>by
 obtain⟨u,_,rfl⟩:=C8.mp hx;obtain⟨v,_,rfl⟩:=C8.mp hy;have e':[(.inr u:Key)]=[.inr v]:=e;cases e'
 rfl
theorem inj_ev (es:List Ev):∀x∈es.map evP,∀y∈es.map evP,keyP x=keyP y->x=y:=fun x hx y hy e=>by
 obtain⟨u,_,rfl⟩:=C8.mp hx;obtain⟨v,_,rfl⟩:=C8.mp hy;rw [show keyP (evP u)=evK u from T5 _,show keyP (evP v)=evK v from T5 _] at e;rw [KW e]
theorem SG {ys xs zs:List PV}(h:SrtS ys xs)(nd:zs.Nodup)(hm:∀y,y∈zs↔y∈xs)(sz:SrP zs)(inj:∀x∈zs,∀y∈zs,keyP x=keyP y->x=y):ys=zs:=
 have p:=(FX nd h.1).mpr fun y=>(hm y).trans (h.2.1 y).symm
 (p.eq_of_pairwise (fun a b ha hb e1 e2=>inj a ha b (p.mem_iff.mpr hb) (KD e2 e1)) sz h.2.2).symm
theorem SH:∀{es:List Ev},(es.flatMap evB).Nodup->es.Nodup:=by
 intro es
 induction es with
 | nil=>intro _;exact List.nodup_nil
 | cons e es ih =>
   intro h;rw [Q3] at h;obtain⟨_,n2,n3⟩:=BZ.mp h;refine O8.mpr ⟨fun z=>?_,ih n2⟩;obtain⟨b,hb⟩:∃b,b∈evB e:=by cases e <;> exact⟨_,B8⟩
   exact n3 b hb b (U3.mpr ⟨e,z,hb⟩) rfl
def pal (st:List Str)(es:List Ev)(y:Str):Str:=nm (aft st es) (ixS st y)
theorem II {st:List Str}{es:List Ev}{y c:Str}(h:(aft st es)[ixS st y]?=some c):pal st es y=c:=by
 unfold pal nm;rw [M8,h];rfl
theorem SI {te:pE}{rest:Pu.Env}{α:Type}(u v:α->PV)(c:α->Bool)(f:α->PV):∀(xs:List α) (s0 s1:Option Pu.Slot) (n:Nat) (R:List PV->Nat->Prop),(∀x∈xs,∀m Q,Q (c x) (some (.v (u x))::some (.v (v x))::rest) m->tt (some (.v (u x))::some (.v (v x))::rest) m Q)->(∀x∈xs,∀m Q,Q (f x) (some (.v (u x))::some (.v (v x))::rest) m->te (some (.v (u x))::some (.v (v x))::rest) m Q)->R ((xs.filter c).map f) n->R7 (gTp 2 (gCn (gN 0) (gCn (gN 1) gNl))) tt te (xs.map fun x=>.tup [u x,v x]) (s0::s1::rest) n R:=by
 intro xs
 induction xs with
 | nil=>intro _ _ _ _ _ _ h;exact h
 | cons x xs ih =>
   intro s0 s1 n R ht he h;have ht':=fun y hy=>ht y (B5 _ hy);have he':=fun y hy=>he y (B5 _ hy);refine⟨rfl,?_⟩;show tt (some (.v (u x))::some (.v (v x))::rest) n _;refine ht x B8 _ _ ?_;cases e:c x with
   | true =>
     rw [List.filter_cons_of_pos (by rw [e])] at h;exact if_t rfl (he x B8 _ _ (ih _ _ _ _ ht' he' h))
   | false =>
     rw [List.filter_cons_of_neg (by rw [e];decide)] at h;exact if_f rfl (ih _ _ _ _ ht' he' h)
theorem SJ {st:List Str}{es:List Ev}(nd:st.Nodup):aft st es=st.map (pal st es):=by
 apply BY
 intro i;rw [D5]
 by_cases c:i < st.length
 · rw [o5 c];show _=some (nm (aft st es) (ixS st (nm st i)));rw [HP nd c];exact o5 (by rw [h6];exact c)
 · rw [N1 (by rw [h6];omega),N1 (by omega)];rfl
theorem SK {st:List Str}{es:List Ev}(nd:st.Nodup):zipP ((aft st es).map PV.str) (st.map PV.str)=st.map fun y=>.tup [.str (pal st es y),.str y]:=by
 unfold zipP;rw [SJ nd,O9,List.zip_map',O9]
 rfl
theorem o8 {es:List Ev}{e:Ev}:e∈es.filter isTo↔∃x y,e=.t x y/\Ev.t x y∈es:=by
 rw [K5];constructor
 · rintro⟨h,t⟩;cases e with
   | d x=>cases t
   | t x y=>exact⟨x,y,rfl,h⟩
 · rintro⟨x,y,rfl,h⟩;exact⟨h,rfl⟩
theorem SL {L:List Ev}{n:Nat}{R:PV->Nat->Prop}(hl:L.length<=63)(h:∀ys,SrtS ys (L.map evP)->R (.tup ys) n):FE [.lst (L.map evP)] n R:=by
 refine⟨rfl,?_⟩;unfold Ip
 have ok:SetOk (L.map evP):=⟨fun x hx=>by
   obtain⟨e,_,rfl⟩:=C8.mp hx;exact⟨evK e,rfl,ev_ne e⟩,fun x hx y hy=>by
   obtain⟨e,_,rfl⟩:=C8.mp hx;obtain⟨e',_,rfl⟩:=C8.mp hy;unfold evP tupP;rw [T5,T5]
   exact ev_al e e'⟩
 have ll:(L.map evP).length<=63:=by rw [A7];exact hl
 generalize L.map evP=X at *;walk_at "pu";exact⟨ll,ok,fun ys hy=>h ys hy⟩
def cTo (st:List Str)(es:List Ev)(y:Str):Bool:=decide (ixS st y < ixS st (pal st es y))
theorem LU {r:Int}{st:List Str}{es:List Ev}{n:Nat}{R:PV->Nat->Prop}(so:T7 r st es)(rs:st.Nodup)(hl:st.length<=24)(se:SrP (es.map evP))(h:R (shP (es.filter isTo)) n):y3 [rowP st,rowP (aft st es)] n R:=by
 refine⟨rfl,?_⟩;unfold Iq;have gn:(aft st es).Nodup:=(Dp so).nodup_iff.mpr rs;have al:(aft st es).length<=24:=by rw [h6];exact hl
 have pw:∀y∈st,pal st es y∈st/\ixS (aft st es) (pal st es y)=ixS st y:=fun y hy=>by
   obtain⟨c,hc,w1,_⟩:=who so hy;rw [II w1];exact⟨hc,IG gn w1⟩
 have i1:∀y∈st,∀{R:PV->Prop},R (.int (ixS st y))->V1 (.tup ((aft st es).map PV.str)) (.str (pal st es y)) R:=fun y hy {R} q=>m_ix rfl ((Dp so).mem_iff.mpr (pw y hy).1) (by omega) (by rw [(pw y hy).2];exact q);have i2:∀y∈st,∀{R:PV->Prop},R (.int (ixS st (pal st es y)))->V1 (.tup (st.map PV.str)) (.str (pal st es y)) R:=fun y hy {R} q=>m_ix rfl (pw y hy).1 (by omega) q
 have fin:∀ys,SrtS ys (((st.filter (cTo st es)).map fun y=>Ev.t (pal st es y) y).map evP)->ys=(es.filter isTo).map evP:=fun ys hy=>by
   refine SG hy ?_ (fun v=>?_) ?_ (inj_ev _)
   · rw [G7,R4];exact((SH so.fair.nd).filter _).imp fun hab e=>hab (Pq e)
   · rw [C8,C8];constructor
     · rintro⟨e,he0,rfl⟩;obtain⟨x,y,rfl,he⟩:=o8.mp he0;have t:=LS es st rfl so.fair.nd so.fair.sub he;have p1:pal st es y=x:=II t.2;refine⟨_,C8.mpr ⟨y,K5.mpr ⟨(so.fair.tx he).2,?_⟩,rfl⟩,by rw [p1]⟩;unfold cTo;rw [p1];exact decide_eq_true (so.ahead x y he)
     · rintro⟨e,he,rfl⟩;obtain⟨y,hy,rfl⟩:=C8.mp he;obtain⟨hy,hc⟩:=K5.mp hy;obtain⟨c,_,w1,_,w⟩:=who so hy;have hc:=of_decide_eq_true hc;rw [II w1] at hc ⊢;refine⟨_,o8.mpr ⟨c,y,rfl,?_⟩,rfl⟩;rcases w with⟨_,w⟩ | ⟨w,_⟩ | ⟨w,_⟩
       · omega
       · exact w
       · rw [w] at hc;omega
   · unfold SrP;have se':=R4.mp se;exact R4.mpr (se'.filter _)
 have ez:=SK (es:=es) rs
 have ll:((st.filter (cTo st es)).map fun y=>Ev.t (pal st es y) y).length<=63:=by
   rw [A7];have:=i6 (cTo st es) st;omega
 have zl:(st.map fun y=>PV.tup [.str (pal st es y),.str y]).length<=24:=by rw [A7];exact hl
 have fe:((st.filter (cTo st es)).map fun y=>PV.tup [.str l8,.str (pal st es y),.str y])=((st.filter (cTo st es)).map fun y=>Ev.t (pal st es y) y).map evP:=by rw [O9];rfl
 unfold rowP;generalize hZ:st.map PV.str=Z at *;generalize hG:(aft st es).map PV.str=G at *;walk_at "pu";refine(show(zipP G Z).length<=1000000/\R7 _ _ _ (zipP G Z) [none,none,some (.v (.tup G)),some (.v (.tup Z))] n _ from ?_);rw [ez];refine⟨by omega,?_⟩;refine SI (fun y=>.str (pal st es y)) PV.str (cTo st es) (fun y=>.tup [.str l8,.str (pal st es y),.str y]) st _ _ _ _ (fun y hy m Q q=>?_) (fun y hy m Q q=>?_) ?_
 · walk_at "pu";refine⟨⟨_,rfl⟩,i1 y hy ⟨⟨_,rfl⟩,i2 y hy ?_⟩⟩;dsimp only;rw [show decide ((ixS st y:Int) < (ixS st (pal st es y):Int))=cTo st es y from decide_eq_decide.mpr (by omega)];exact q
 · walk_at "pu";exact q
 · rw [fe];refine SL ll fun ys hy=>?_;rw [fin ys hy];exact h
theorem SM {te:pE}{rest:Pu.Env}{pi:pA}{α:Type}(f:α->PV)(ys:List α)(hy:ys.length<=1000)(hp:∀s0 s1 n Q,Q (ys.map f) (s0::s1::rest) n->pi (s0::s1::rest) n Q):∀(xs:List α) (s0 s1:Option Pu.Slot) (n:Nat) (R:List PV->Nat->Prop),(∀x∈xs,∀y∈ys,∀m Q,Q false (some (.v (f x))::some (.v (f y))::rest) m->tt (some (.v (f x))::some (.v (f y))::rest) m Q)->R [] n->BL (gN 0) pi (gN 1) tt te (xs.map f) (s0::s1::rest) n R:=by
 intro xs
 induction xs with
 | nil=>intro _ _ _ _ _ h;exact h
 | cons x xs ih =>
   intro s0 s1 n R ht h;show pi (some (.v (f x))::s1::rest) n _;refine hp _ _ _ _ ⟨by rw [A7];exact hy,?_⟩
   have inner:∀(zs:List α) (s1:Option Pu.Slot) (Q:List PV->Pu.Env->Nat->Prop),(∀z∈zs,z∈ys)->(∀s1,Q [] (some (.v (f x))::s1::rest) n)->AJ (gN 1) tt te (zs.map f) (some (.v (f x))::s1::rest) n Q:=by
     intro zs
     induction zs with
     | nil=>intro s1 Q _ q;exact q s1
     | cons z zs ih2 =>
       intro s1 Q hz q;show tt (some (.v (f x))::some (.v (f z))::rest) n _;exact ht x B8 z (hz z B8) _ _ (ih2 _ _ (fun u hu=>hz u (B5 _ hu)) q)
   exact inner ys _ _ (fun _ z=>z) fun s1'=>ih _ _ _ _ (fun u hu=>ht u (B5 _ hu)) h
theorem SN {r:Int}{st:List Str}{es:List Ev}{n:Nat}{R:PV->Nat->Prop}(so:T7 r st es)(rs:st.Nodup)(hl:st.length<=24)(he:es.length<=24)(h:R (.lst []) n):Dl [rowP st,.int r,shP (es.filter isTo)] n R:=by
 refine⟨rfl,?_⟩;unfold Io;have fl:=i6 isTo es
 have mf:∀e∈es.filter isTo,∀{m:Nat} {R:PV->Nat->Prop},R (.bl false) m->Dj [rowP st,.int r,evP e] m R:=fun e he {m R} q=>by
   obtain⟨x,y,rfl,ht⟩:=o8.mp he;obtain⟨hx,hy⟩:=so.fair.tx ht;refine m_far (by omega) hx hy ?_;rw [decide_eq_false (by have:=so.near x y ht;omega)];exact q
 have mc:∀e∈es.filter isTo,∀e'∈es.filter isTo,∀{m:Nat} {R:PV->Nat->Prop},R (.bl false) m->Dk [rowP st,evP e,evP e'] m R:=fun e he e' he' {m R} q=>by
   obtain⟨x,y,rfl,ht⟩:=o8.mp he;obtain⟨x',y',rfl,ht'⟩:=o8.mp he';exact Sy (by omega) rs so ht ht' q
 unfold shP;have Tl:((es.filter isTo).map evP).length<=24:=by rw [A7];omega
 generalize rowP st=S at *;generalize hT:(es.filter isTo).map evP=T at *;walk_at "pu";refine⟨by omega,?_⟩;rw [<- hT] at Tl ⊢;generalize hF:es.filter isTo=F at *;refine IH evP F _ _ _ (fun e he m Q q=>?_) ?_
 · generalize hp:evP e=E;walk_at "pu";rw [<- hp];exact mf e he q
 · rw [A7] at Tl;walk_at "pu";refine⟨⟨_,rfl⟩,by rw [A7];omega,?_⟩;refine SM evP F (by omega) (fun s0 s1 n Q q=>q) F _ _ _ _ (fun e he e' he' m Q q=>?_) ⟨(by decide),h⟩;generalize hp:evP e=E;generalize hp':evP e'=E';walk_at "pu";rw [<- hp,<- hp'];exact mc e he e' he' q
theorem SO {s n k m:Nat}{r:Int}{st g:List Str}{a:Str}{es:List Ev}{R:PV->Nat->Prop}(so:T7 r st es)(rs:st.Nodup)(hst:st.length<=24)(he:es.length<=24)(se:SrP (es.map evP))(h8:s<=8)(hn:1<=n)(h24:n<=24)(hl:row'.length=n)(hk:k<=1000)(hg:(D7 s n k row').drop 1=g)(ha:aft st es=a::g)(h:R (.lst []) m):Dm [.tup [.int (s:Int),.int r],rowP st,rowP row',.int (k:Int)] m R:=by
 refine⟨rfl,?_⟩;unfold Ir;have p:=Dp so;have nd:=p.nodup_iff.mpr rs;have m3:∀{m:Nat} {R:PV->Nat->Prop},R (.lst []) m->Di [rowP st,rowP (a::g)] m R:=fun q=>by rw [<- ha];exact SE so rs hst q
 have m4:∀{m:Nat} {R:PV->Nat->Prop},R (shP (es.filter isTo)) m->y3 [rowP st,rowP (a::g)] m R:=fun q=>by rw [<- ha];exact LU so rs hst se q
 have m5:∀{m:Nat} {R:PV->Nat->Prop},R (.lst []) m->Dl [rowP st,.int r,shP (es.filter isTo)] m R:=fun q=>SN so rs hst he q;rw [ha] at p nd;have m1:∀{m:Nat} {R:PV->Nat->Prop},R (.lst []) m->Dg [.tup [.int (s:Int),.int r],rowP st,rowP row',.int (k:Int)] m R:=fun q=>m_from h8 hn h24 hl hk hg (fun z hz=>p.mem_iff.mp (B5 _ hz)) q;have m2:∀{m:Nat} {R:PV->Nat->Prop},R (rowP (a::g)) m->x9 [.tup [.int (s:Int),.int r],rowP st,rowP row',.int (k:Int)] m R:=fun q=>LT h8 hn h24 hl hk hst hg nd p q;generalize rowP st=S at *;generalize rowP row'=W at *;generalize rowP (a::g)=G at *;generalize shP (es.filter isTo)=T at *;walk_at "pu";refine m1 ?_;walk_at "pu";refine m2 ?_;walk_at "pu";refine m3 ?_;walk_at "pu";refine m4 ?_;exact m5 h
theorem y4 {p q:pS}{D:Y9}{env:Pu.Env}{n:Nat}(h:∀U:pS,U=q->p { D with nx:=fun e m=>U D e m } env n):qSeq p q D env n:=h q rfl
def btE (st:List Str)(e:Ev):List Str:=match e with | .t x y=>btwU st x y | .d _=>[]
def metB (es:List Ev):List Str:=(es.filter isTo).flatMap evB
def witB (st:List Str)(es:List Ev):List Str:=(es.filter isTo).flatMap (btE st)
def AM (st:List Str)(es:List Ev)(v:PV):Prop:=∃D F:List Str,v=.tup [shP (es.filter isTo),rowP D,rowP F]/\(D.Nodup/\(∀z,z∈D↔z∈witB st es/\z∉metB es)/\SrP (D.map PV.str))/\F.Nodup/\(∀z,z∈F↔z∈st/\z∉metB es/\z∉witB st es)/\SrP (F.map PV.str)
theorem LV {a b:List Str}(ha:a.Nodup)(hb:b.Nodup)(hm:∀z,z∈a↔z∈b)(sa:SrP (a.map PV.str))(sb:SrP (b.map PV.str)):rowP a=rowP b:=by
 have p:=((FX ha hb).mpr hm).map PV.str;exact congrArg PV.tup (p.eq_of_pairwise (fun x y hx hy e1 e2=>SF a x hx y (p.mem_iff.mpr hy) (KD e2 e1)) sa sb)
theorem SQ {st:List Str}{es:List Ev}{v v':PV}(h:AM st es v)(h':AM st es v'):v=v':=by
 obtain⟨D,F,rfl,⟨d1,d2,d3⟩,f1,f2,f3⟩:=h;obtain⟨D',F',rfl,⟨d1',d2',d3'⟩,f1',f2',f3'⟩:=h';rw [LV d1 d1' (fun z=>(d2 z).trans (d2' z).symm) d3 d3',LV f1 f1' (fun z=>(f2 z).trans (f2' z).symm) f3 f3']
noncomputable def V5 (st:List Str) (es:List Ev):PV:=@Classical.epsilon PV ⟨.non⟩ (AM st es)
theorem IJ {st:List Str}{es:List Ev}{v:PV}(h:AM st es v):V5 st es=v:=SQ (@Classical.epsilon_spec_aux PV ⟨.non⟩ (AM st es) ⟨v,h⟩) h
theorem IK {α β:Type}{c:Nat}{f:α->List β}:∀(xs:List α),(∀x∈xs,(f x).length<=c)->(xs.flatMap f).length<=c * xs.length:=by
 intro xs
 induction xs with
 | nil=>intro _;exact G4 _
 | cons x xs ih =>
   intro h;rw [Q3,E2,D3,Nat.mul_succ];have:=h x B8;have:=ih fun y hy=>h y (B5 _ hy);omega
structure Rc (r:Nat)(st:List Str)(es:List Ev):Prop where
 so:T7 (r:Int) st es
 r7:r<=7
 nd:st.Nodup
 st9:st.length<=9
 es9:es.length<=9
 se:SrP (es.map evP)
theorem Rc.bt {r:Nat}{st:List Str}{es:List Ev}(c:Rc r st es):∀e∈es.filter isTo,(btE st e).length<=7:=fun e he=>by
 obtain⟨x,y,rfl,ht⟩:=o8.mp he;have:=c.so.near x y ht;have:=c.r7;show(btwU st x y).length<=7;omega
theorem Rc.to9 {r:Nat}{st:List Str}{es:List Ev}(c:Rc r st es):(es.filter isTo).length<=9:=L4 (i6 _ _) c.es9
theorem Rc.wit {r:Nat}{st:List Str}{es:List Ev}(c:Rc r st es):(witB st es).length<=63:=by
 have:=IK _ c.bt;have:=c.to9;unfold witB;omega
theorem Rc.wsub {r:Nat}{st:List Str}{es:List Ev}(c:Rc r st es){z:Str}(h:z∈witB st es):z∈st:=by
 obtain⟨e,he,hz⟩:=U3.mp h;obtain⟨x,y,rfl,ht⟩:=o8.mp he;exact((Ft c.nd (c.so.fair.tx ht).1 (c.so.fair.tx ht).2).mp hz).1
theorem LW (zs:List Str):ER (zs.map PV.str):=.inr (.inl fun x hx=>by
 obtain⟨z,_,rfl⟩:=C8.mp hx
 exact⟨z,rfl⟩)
theorem LX {r:Nat}{st:List Str}{es:List Ev}(c:Rc r st es){O:List Str}(p:O.Perm (st.filter fun b=>!decide (b∈metB es)))(so:SrP (O.map PV.str)):AM st es (.tup [shP (es.filter isTo),rowP (O.filter fun b=>decide (b∈witB st es)),rowP (O.filter fun b=>!decide (b∈witB st es))]):=by
 have so':=R4.mp so;have on:O.Nodup:=p.nodup_iff.mpr (c.nd.filter _);have mO:∀z,z∈O↔z∈st/\z∉metB es:=fun z=>by rw [p.mem_iff,K5];simp
 refine⟨_,_,rfl,⟨on.filter _,fun z=>?_,R4.mpr (so'.filter _)⟩,on.filter _,fun z=>?_,R4.mpr (so'.filter _)⟩
 · rw [K5,mO];exact⟨fun h=>⟨of_decide_eq_true h.2,h.1.2⟩,fun h=>⟨⟨c.wsub h.1,h.2⟩,decide_eq_true h.1⟩⟩
 · rw [K5,mO];simp [and_assoc]
def frN (st:List Str)(es:List Ev):Nat:=(st.filter fun z=>!decide (z∈metB es) && !decide (z∈witB st es)).length
theorem IL {r:Nat}{st:List Str}{es:List Ev}(c:Rc r st es):∃D F:List Str,V5 st es=.tup [shP (es.filter isTo),rowP D,rowP F]/\F.length=frN st es/\(∀z∈D,z∈st)/\(∀z∈F,z∈st)/\D.length<=9:=by
 obtain⟨O,p,e⟩:=SeT.Fp (CU ((st.filter fun b=>!decide (b∈metB es)).map PV.str)).1;have so:=(CU ((st.filter fun b=>!decide (b∈metB es)).map PV.str)).2;rw [e] at so;have ro:=LX c p so;have ri:=IJ ro;rw [ri];have s9:=c.st9;have mO:∀z∈O,z∈st:=fun z hz=>(K5.mp (p.mem_iff.mp hz)).1;refine⟨_,_,rfl,?_,fun z hz=>mO z (K5.mp hz).1,fun z hz=>mO z (K5.mp hz).1,?_⟩
 · unfold frN;rw [(p.filter _).length_eq,List.filter_filter]
   congr 1
   refine List.filter_congr fun z _=>?_;rw [Bool.and_comm]
 · have h1:=i6 (fun b=>decide (b∈witB st es)) O;have h2:=i6 (fun b=>!decide (b∈metB es)) st;rw [p.length_eq] at h1;omega
theorem m_race {r:Nat}{st:List Str}{es:List Ev}{n:Nat}{R:PV->Nat->Prop}(c:Rc r st es)(h:R (V5 st es) n):Do [rowP st,shP (es.filter isTo)] n R:=by
 refine⟨rfl,?_⟩;unfold Iz;have t9:=c.to9;have s9:=c.st9;have mb:∀{m:Nat} {R:PV->Nat->Prop},R (.lst ((metB es).map PV.str)) m->y0 [shP (es.filter isTo)] m R:=fun q=>LR (by omega) q
 have mw:∀e∈es.filter isTo,∀{m:Nat} {R:PV->Nat->Prop},R (rowP (btE st e)) m->h9 [.tup (st.map PV.str),evP e] m R:=fun e he {m R} q=>by
   obtain⟨x,y,rfl,ht⟩:=o8.mp he;obtain⟨hx,hy⟩:=c.so.fair.tx ht;exact IE (by omega) hx hy q
 have bl:=c.bt
 have fin:∀O:List Str,O.Perm (st.filter fun b=>!decide (b∈metB es))->SrP (O.map PV.str)->R (.tup [shP (es.filter isTo),rowP (O.filter fun b=>decide (b∈witB st es)),rowP (O.filter fun b=>!decide (b∈witB st es))]) n:=fun O p so=>by
   rw [<- IJ (LX c p so)];exact h
 have hS:rowP st=.tup (st.map PV.str):=rfl;have hP:((es.filter isTo).flatMap fun e=>(btE st e).map PV.str)=(witB st es).map PV.str:=by unfold witB;rw [List.map_flatMap]
 have hT:shP (es.filter isTo)=.tup ((es.filter isTo).map evP):=rfl;have Zl:(st.map PV.str).length<=9:=by rw [A7];exact s9
 have Fl:∀p:Str->Bool,((st.filter p).map PV.str).length<=9:=fun p=>by
   rw [A7];have:=i6 p st;omega
 have ok:=fun p:Str->Bool=>LW (st.filter p);generalize hM:(metB es).map PV.str=M at *;generalize hF:es.filter isTo=F at *;generalize hZ:st.map PV.str=Z at *;rw [hS];generalize hG:shP F=G at *;walk_at "pu";refine mb ?_;rw [hT];refine⟨by rw [A7];omega,?_⟩;refine LQ evP (fun e=>(btE st e).map PV.str) F _ _ _ _ (fun e he s1 m Q q=>?_) (fun e he=>by rw [A7];have:=bl e he;omega) ?_
 · generalize hp:evP e=E;walk_at "pu";rw [<- hp];exact mw e he q
 · rw [hP];generalize hW:(witB st es).map PV.str=W;refine⟨by omega,?_⟩;rw [<- hZ];refine x5 PV.str (fun b=>!decide (b∈metB es)) st _ _ _ (fun z hz m Q q=>?_) ?_
   · walk_at "pu";exact BI hM q
   · refine⟨j6 (Fl _) (by decide),ok _,fun ys hy=>?_⟩;obtain⟨O,po,rfl⟩:=SeT.Fp hy.1;have ol:(O.map PV.str).length<=1000000:=by rw [hy.1.length_eq];exact L4 (Fl _) (by decide)
     refine⟨ol,x5 PV.str (fun b=>decide (b∈witB st es)) O _ _ _ (fun z hz m Q q=>?_) ⟨ol,x5 PV.str (fun b=>!decide (b∈witB st es)) O _ _ _ (fun z hz m Q q=>?_) ?_⟩⟩
     · walk_at "pu";exact Po hW q
     · walk_at "pu";exact BI hW q
     · rw [<- hT];exact fin O po hy.2
theorem SS (D:List PV)(h:∀y∈D,∃z,y=.str z):∃zs:List Str,D=zs.map PV.str:=by
 induction D with
 | nil=>exact⟨[],rfl⟩
 | cons y D ih =>
   obtain⟨z,rfl⟩:=h y B8;obtain⟨zs,rfl⟩:=ih fun u hu=>h u (B5 _ hu);exact⟨z::zs,rfl⟩
theorem SU {r:Nat}{st:List Str}{es:List Ev}{n:Nat}{R:PV->Nat->Prop}(c:Rc r st es)(h:R (V5 st es) n):FD [rowP st,shP es] n R:=by
 refine⟨rfl,?_⟩;unfold H_;have t9:=c.to9;have s9:=c.st9;have e9:=c.es9;have w63:=c.wit
 have fin:∀D F:List PV,SrtS D (((witB st es).filter fun b=>!decide (b∈metB es)).map PV.str)->Srt F ((st.filter fun b=>!decide (b∈metB es) && !decide (b∈witB st es)).map PV.str)->R (.tup [.tup ((es.filter isTo).map evP),.tup D,.tup F]) n:=fun D F hD hF=>by
   obtain⟨F,pF,rfl⟩:=SeT.Fp hF.1
   obtain⟨D,rfl⟩:=SS D fun y hy=>by
     obtain⟨z,_,e⟩:=C8.mp ((hD.2.1 y).mp hy);exact⟨z,e.symm⟩
   have e:AM st es (.tup [shP (es.filter isTo),rowP D,rowP F]):=by
     refine⟨D,F,rfl,⟨(R4.mp hD.1).imp fun hab e=>hab (by rw [e]),fun z=>?_,hD.2.2⟩,pF.nodup_iff.mpr (c.nd.filter _),fun z=>?_,hF.2⟩
     · have:=hD.2.1 (.str z);rw [C8,C8] at this;have m1:(∃a,a∈D/\PV.str a=.str z)↔z∈D:=⟨fun⟨a,h,e⟩=>by cases e;exact h,fun h=>⟨z,h,rfl⟩⟩;rw [m1] at this;rw [this];constructor
       · rintro⟨a,h,e⟩;cases e;obtain⟨h1,h2⟩:=K5.mp h;exact⟨h1,by simpa using h2⟩
       · intro h;exact⟨z,K5.mpr ⟨h.1,by rw [decide_eq_false h.2];rfl⟩,rfl⟩
     · rw [pF.mem_iff,K5];simp
   have h':=h;rw [IJ e] at h';exact h'
 have hix:∀z∈st,∀{R:PV->Prop},R (.int (ixS st z))->V1 (.tup (st.map PV.str)) (.str z) R:=fun z hz {R} q=>m_ix rfl hz (by omega) q
 have cutE:∀x y,Ev.t x y∈es->cutP (st.map PV.str) (some ((ixS st y:Int) + 1)) (some (ixS st x:Int))=(btwU st x y).map PV.str:=fun x y ht=>by
   have h1:=c.so.ahead x y ht;have h2:=T6 (c.so.fair.tx ht).1;rw [show(ixS st y:Int) + 1=((ixS st y + 1:Nat):Int) by omega,Ff _ (by rw [A7];omega)];unfold btwU;rw [show max (ixS st x) (ixS st y)=ixS st x by omega,show min (ixS st x) (ixS st y)=ixS st y by omega,List.map_drop,List.map_take]
 have El:(es.map evP).length<=9:=by rw [A7];exact e9
 have tm:∀e∈es.filter isTo,∃x y,e=.t x y/\Ev.t x y∈es:=fun e he=>o8.mp he;have bt:=c.bt;have txy:∀x y,Ev.t x y∈es->x∈st/\y∈st:=fun x y h=>c.so.fair.tx h;have hMe:(es.filter isTo).flatMap evB=metB es:=rfl;have hWe:(es.filter isTo).flatMap (btE st)=witB st es:=rfl;unfold rowP shP;generalize hZ:st.map PV.str=Z at *;generalize hE:es.map evP=E at *;refine y4 fun U hU=>?_;walk_at "pu";refine⟨by omega,?_⟩;rw [<- hE];refine x5 evP isTo es _ _ _ (fun e he m Q hQ=>?_) ?_
 · cases e with
   | d x =>
     rw [Fc] at *;walk_at "pu";rw [HF];exact hQ
   | t x y =>
     rw [l9] at *;walk_at "pu";exact hQ
 · rw [hE];subst hU;generalize hF:es.filter isTo=F at *;generalize hT:F.map evP=T at *;refine y4 fun U hU=>?_;walk_at "pu";subst hU;refine y4 fun U hU=>?_;refine X3 (fun i env m=>∃s5,env=[some (.v (.tup Z)),some (.v (.tup E)),some (.v (.lst T)),some (.own (((F.take i).flatMap evB).map PV.str)),some (.own (((F.take i).flatMap (btE st)).map PV.str)),s5,none,none]/\m=n) _ 0 _ _ ⟨none,rfl,rfl⟩ (fun i x env m N ex hI hN=>?_) (fun env m hI=>?_)
   · obtain⟨s5,rfl,rfl⟩:=hI;rw [<- hT] at ex;obtain⟨e,ee,rfl⟩:=Fe ex;rw [K7] at hN ⊢;have me:=G8 ee;have li:(F.take i).length<=9:=by rw [L0];omega
     have l1:((F.take i).flatMap evB).length<=2 * (F.take i).length:=IK _ fun e _=>by cases e <;> simp [evB]
     have l2:((F.take i).flatMap (btE st)).length<=7 * (F.take i).length:=IK _ fun e he=>bt e (Ac he);have b7:=bt e me;have n1:(F.take (i + 1)).flatMap evB=(F.take i).flatMap evB++evB e:=by rw [C_ ee,List.flatMap_append,Q3,List.flatMap_nil,W6]
     have n2:(F.take (i + 1)).flatMap (btE st)=(F.take i).flatMap (btE st)++btE st e:=by rw [C_ ee,List.flatMap_append,Q3,List.flatMap_nil,W6]
     rw [n1,n2,N3,N3] at hN;rw [<- A7 (f:=PV.str)] at l1 l2;generalize ((F.take i).flatMap evB).map PV.str=A at *;generalize ((F.take i).flatMap (btE st)).map PV.str=B at *;obtain⟨x,y,rfl,ht⟩:=tm e me;obtain⟨hx,hy⟩:=txy x y ht;have ce:=cutE x y ht;have bl:((btwU st x y).map PV.str).length<=7:=by rw [A7];exact b7
     have hN:=hN [some (.v (.tup Z)),some (.v (.tup E)),some (.v (.lst T)),some (.own (A++[.str x,.str y])),some (.own (B++(btwU st x y).map PV.str)),some (.v (.tup [.str l8,.str x,.str y])),none,none] m ⟨_,rfl,rfl⟩;generalize (btwU st x y).map PV.str=BT at *;rw [l9];walk_at "pu";have ec:cutP [PV.str l8,.str x,.str y] (some 1) none=[.str x,.str y]:=rfl;rw [ec];refine⟨⟨_,rfl⟩,(show A.length + 2<=1000000 by omega),⟨_,rfl⟩,⟨_,rfl⟩,hix y hy ⟨⟨_,rfl⟩,hix x hx ?_⟩⟩;dsimp only;rw [ce];exact⟨by omega,hN⟩
   · obtain⟨s5,rfl,rfl⟩:=hI;have lT:T.length=F.length:=by rw [<- hT,A7]
     rw [K7,lT,B_,hMe,hWe];generalize hA:(metB es).map PV.str=A;generalize hB:(witB st es).map PV.str=B;have Bl:B.length<=63:=by rw [<- hB,A7];exact w63
     have Zl:Z.length<=9:=by rw [<- hZ,A7];exact s9
     subst hU;walk_at "pu";refine⟨by omega,?_⟩;rw [<- hB];refine x5 PV.str (fun b=>!decide (b∈metB es)) (witB st es) _ _ _ (fun z hz m Q q=>?_) ⟨_,rfl,?_,fun D hD=>?_⟩
     · walk_at "pu";exact BI hA q
     · exact j6 (i6 _ _) (by omega)
     · rw [hB];walk_at "pu";refine⟨by omega,?_⟩;rw [<- hZ];refine x5 PV.str (fun b=>!decide (b∈metB es) && !decide (b∈witB st es)) st _ _ _ (fun z hz m Q q=>?_) ⟨?_,LW _,fun F hF=>fin D F hD hF⟩
       · walk_at "pu";refine BI hA ?_
         revert q
         generalize (!decide (z∈metB es))=b;intro q;cases b with
         | true=>exact if_t rfl (BI hB q)
         | false=>exact if_f rfl q
       · rw [A7];exact j6 (i6 _ _) (by omega)
def Pr (r:Nat)(st:List Str)(es:List Ev):Prop:=T7 (r:Int) st es/\st.Nodup/\es.length<=st.length/\SrP (es.map evP)
theorem Pr_of {r:Nat}(st:List Str)(ms:List Pu.Mk)(es:List Ev)(hs:RowS st)(hl:ms.length=st.length)(hw:run (r:Int) 0 [] ms=some [])(p:es.Perm ((shE 0 [] ms).map (evOf st)))(se:Srt (es.map evP) (((shE 0 [] ms).map (evOf st)).map evP)):Pr r st es:=by
 refine⟨(Rv hs.1 hl hw).perm p,hs.1,?_,se.2⟩;have:=AK ms 0 [];rw [p.length_eq,A7];omega
theorem Pr.rc {r s:Nat}{st:List Str}{es:List Ev}(h:Pr r st es)(r7:r<=7)(h8:s<=8)(hl:st.length<=s + 1):Rc r st es:=⟨h.1,r7,h.2.1,by omega,by have:=h.2.2.1;omega,h.2.2.2⟩
theorem LY {s n k:Nat}{r:List Str}(hn:1<=n)(hl:r.length=n)(kp:k * s<=n - 1):(D7 s n k r).length<=s + 1/\1<=(D7 s n k r).length:=by
 rw [AH hl hn];have:=Da (s:=s) (n:=n) kp;unfold hiN at *;omega
theorem Dq {r s n mx:Nat}{row:List Str}(h1:1<=s)(hn:1<=n)(hmx:mx=(n + s - 1) / s)(hr:RowS row)(hl:row.length=n){i:Nat}(h:Dy (Pr r) s n mx row i ess sts r'):∀p∈sts.zip ess,Pr r p.1 p.2/\p.1.length<=s + 1/\RowS p.1:=by
 induction h with
 | nil=>exact fun _ z=>nomatch z
 | @cons i ess sts r' es h hi hp ih =>
   obtain⟨rS,rL⟩:=h.rows h1 hn hmx (fun _ _ p=>p.1.fair) hr hl;intro p hp';rw [Af] at hp';rcases B7.mp hp' with e | e
   · rw [e];exact⟨hp,(LY hn rL (places h1 hn (by omega))).1,Le rS⟩
   · exact ih p e
noncomputable def dueV (sts:List (List Str)) (ess:List (List Ev)):List PV:=(sts.zip ess).map fun p=>V5 p.1 p.2
theorem SV {s n m:Nat}{r:Int}{R:PV->Nat->Prop}(h1:1<=s)(hn:1<=n)(h8:s<=8)(h:R (.int (((n + s - 1) / s:Nat):Int)) m):FJ [.tup [.int (s:Int),.int r],.int (n:Int)] m R:=by
 refine⟨rfl,?_⟩;unfold Iy;walk_at "pu";refine⟨⟨by omega,by omega⟩,?_⟩
 have e:((n:Int) + s - 1) / s=(((n + s - 1) / s:Nat):Int):=by
   rw [show(n:Int) + s - 1=((n + s - 1:Nat):Int) by omega]
   rfl
 rw [e];exact h
theorem SX {s n m mx r:Nat}{row:List Str}{R:PV->Nat->Prop}(h1:1<=s)(h8:s<=8)(r7:r<=7)(hn:1<=n)(h24:n<=24)(hr:RowS row)(hl:row.length=n)(hmx:mx=(n + s - 1) / s)
   (hd:Dy (Pr r) s n mx row mx ess sts row') (h:R (.tup [.lst (dueV sts ess).reverse,.lst []]) m):FK [.tup [.int (s:Int),.int (r:Int)],rowP row,rowP row'] m R:=by
 refine⟨rfl,?_⟩;unfold IA;have mle:=BK (s:=s) (n:=n) h1 hn;have hf:∀st es,Pr r st es->Fair st es:=fun _ _ p=>p.1.fair;obtain⟨rS',rL'⟩:=hd.rows h1 hn hmx hf hr hl;obtain⟨el,sl⟩:=hd.len;have rl:(row.map PV.str).length=n:=by rw [A7];exact hl
 have hW':rowP row=.tup (row.map PV.str):=rfl;generalize hW:rowP row=W at *;generalize hO:rowP row'=O;refine y4 fun U hU=>?_;walk_at "pu";subst hU;refine y4 fun U hU=>?_;walk_at "pu";subst hU;refine y4 fun U hU=>?_;walk_at "pd";rw [hW'];dsimp only;rw [rl];refine SV h1 hn h8 ?_;rw [<- hmx];refine⟨⟨by omega,by omega⟩,?_⟩;rw [Q6,<- hW'];refine X3 (fun i env m'=>∃r' s5 s6 s7 s8,env=[some (.v (.tup [.int (s:Int),.int (r:Int)])),some (.v W),some (.v O),some (.own (dueV (sts.drop (mx - i)) (ess.drop (mx - i))).reverse),some (.v (rowP r')),s5,s6,s7,s8]/\Dy (Pr r) s n mx row i (ess.drop (mx - i)) (sts.drop (mx - i)) r'/\m'=m) _ 0 _ _ ⟨row,_,_,_,_,by rw [hW,Nat.sub_zero,X9 (by omega),X9 (by omega)];rfl,by rw [Nat.sub_zero,X9 (by omega),X9 (by omega)];exact .nil,rfl⟩ (fun i x env m' N ex hI hN=>?_) (fun env m' hI=>?_)
 · obtain⟨r',s5,s6,s7,s8,rfl,di,rfl⟩:=hI;obtain⟨hi,rfl⟩:=Lb ex;rw [K7] at di hN ⊢;obtain⟨es,st,r2,ee,es_,xe,xs,d2,hst,hp,dn⟩:=hd.at hi;have er:=d2.det di;subst er;obtain⟨rS,rL⟩:=di.rows h1 hn hmx hf hr hl;have ek:(mx:Int) - 1 - i=((mx - 1 - i:Nat):Int):=by omega
   rw [ek];have kp:(mx - 1 - i) * s<=n - 1:=places h1 hn (by omega);have hg:=SD h1 hn hmx hf hr hl hd hi rL hst dn;have ss:=LY hn rL kp;rw [<- hst] at ss;have rc:=hp.rc r7 h8 ss.1;have al:=h6 st es
   obtain⟨a,g,ha⟩:∃a g,aft st es=a::g:=by
     cases e:aft st es with
     | nil=>rw [e] at al;simp at al;omega
     | cons a g=>exact⟨a,g,rfl⟩
   have s9:=rc.st9;have e9:=rc.es9;have pm:=Dp rc.so;have gnd:=pm.nodup_iff.mpr rc.nd;have hg':(D7 s n (mx - 1 - i) row').drop 1=g:=by rw [hg,ha];rfl
   rw [xe,xs] at hN dn;have k24:mx - 1 - i<=1000:=by omega
   have fl:=rc.to9
   have fs:∀b∈(es.filter isTo).flatMap evB,b∈D7 s n (mx - 1 - i) r2:=fun b hb=>by
     obtain⟨e,he,hb⟩:=U3.mp hb;rw [<- hst];exact rc.so.fair.sub b (U3.mpr ⟨e,(K5.mp he).1,hb⟩)
   have ra:rbh (D7 s n (mx - 1 - i) r2) (es.filter isTo)=aft st es:=by
     rw [<- hst,HE rc.so.fair];exact Fh st es st
   have dl:(dueV (sts.drop (mx - i)) (ess.drop (mx - i))).reverse.length < 1000:=by
     unfold dueV;rw [Ae,A7,AU,N9];omega
   have dc:(dueV (st::sts.drop (mx - i)) (es::ess.drop (mx - i))).reverse=(dueV (sts.drop (mx - i)) (ess.drop (mx - i))).reverse++[V5 st es]:=by
     unfold dueV;rw [Af,F3,b0]
   rw [dc] at hN;have m1:∀{m:Nat} {R:PV->Nat->Prop},R (rowP st) m->Z2 [.tup [.int (s:Int),.int (r:Int)],rowP r2,.int ((mx - 1 - i:Nat):Int)] m R:=fun q=>FO h8 hn rL k24 (by rw [<- hst];exact q);have m2:∀{m:Nat} {R:PV->Nat->Prop},R (.lst []) m->Dm [.tup [.int (s:Int),.int (r:Int)],rowP st,O,.int ((mx - 1 - i:Nat):Int)] m R:=fun q=>by rw [<- hO];exact SO rc.so rc.nd (by omega) (by omega) rc.se h8 hn h24 rL' k24 hg' ha q
   have m3:∀{m:Nat} {R:PV->Nat->Prop},R (rowP (aft st es)) m->x9 [.tup [.int (s:Int),.int (r:Int)],rowP st,O,.int ((mx - 1 - i:Nat):Int)] m R:=fun q=>by
     rw [<- hO];rw [ha] at pm gnd q;exact LT h8 hn h24 rL' k24 (by omega) hg' gnd pm q
   have m4:∀{m:Nat} {R:PV->Nat->Prop},R (shP (es.filter isTo)) m->y3 [rowP st,rowP (aft st es)] m R:=fun q=>LU rc.so rc.nd (by omega) rc.se q;have m5:∀{m:Nat} {R:PV->Nat->Prop},R (V5 st es) m->Do [rowP st,shP (es.filter isTo)] m R:=fun q=>m_race rc q;have m6:∀{m:Nat} {R:PV->Nat->Prop},R (rowP (putN s n (mx - 1 - i) r2 (aft st es))) m->Dn [.tup [.int (s:Int),.int (r:Int)],rowP r2,.int ((mx - 1 - i:Nat):Int),shP (es.filter isTo)] m R:=fun q=>Sw h8 hn (by omega) rL k24 (by omega) fs (by rw [ra];exact q);have hN':=fun s5 s6 s7 s8=>hN _ m' ⟨putN s n (mx - 1 - i) r2 (aft st es),s5,s6,s7,s8,rfl,dn,rfl⟩;clear hN;generalize (dueV (sts.drop (mx - i)) (ess.drop (mx - i))).reverse=GL at *;generalize rowP (putN s n (mx - 1 - i) r2 (aft st es))=V2 at *;generalize V5 st es=RV at *;generalize shP (es.filter isTo)=T at *;generalize rowP (aft st es)=G at *;generalize rowP st=S at *;generalize rowP r2=V at *;generalize ((mx - 1 - i:Nat):Int)=k at *;walk_at "pu";refine m1 ?_
   try dsimp only
   refine m2 ?_;walk_at "pu";exact if_f rfl (m3 (m4 ⟨⟨_,rfl⟩,m5 ⟨by omega,m6 (hN' _ _ _ _)⟩⟩))
 · obtain⟨r',s5,s6,s7,s8,rfl,di,rfl⟩:=hI;rw [K7,Lc,Y1,Ag,Ag];generalize (dueV sts ess).reverse=GL at *;subst hU;walk_at "pu";exact h
noncomputable def BQ (sts:List (List Str)) (ess:List (List Ev)):PV:=.tup [.str (A6 "told"),.tup (dueV sts ess)]
theorem LZ {s n m mx r:Nat}{row:List Str}{R:PV->Nat->Prop}(h1:1<=s)(h8:s<=8)(r7:r<=7)(hn:1<=n)(h24:n<=24)(hr:RowS row)(hl:row.length=n)(hmx:mx=(n + s - 1) / s)
   (hd:Dy (Pr r) s n mx row mx ess sts row') (h:R (BQ sts ess) m):BO [.tup [.int (s:Int),.int (r:Int)],rowP row,rowP row'] m R:=by
 refine⟨rfl,?_⟩;unfold IB;have up:=fun {m:Nat} {R:PV->Nat->Prop} q=>SX (m:=m) (R:=R) h1 h8 r7 hn h24 hr hl hmx hd q;generalize rowP row=W at *;generalize rowP row'=O at *;have rr:(dueV sts ess).reverse.reverse=dueV sts ess:=List.reverse_reverse _;unfold BQ at h;rw [<- rr] at h;generalize (dueV sts ess).reverse=GL at *;walk_at "pu";refine up ?_;walk_at "pu";exact h
theorem SY:decide (A6 "told"=A6 "untold")=false:=by decide +kernel
def frS (ps:List (List Str×List Ev)):Nat:=(ps.map fun p=>frN p.1 p.2).sum
theorem m_days {s n m mx r:Nat}{row:List Str}{R:PV->Nat->Prop}(h1:1<=s)(h8:s<=8)(r7:r<=7)(hn:1<=n)(h24:n<=24)(hr:RowS row)(hl:row.length=n)(hmx:mx=(n + s - 1) / s)
   (hd:Dy (Pr r) s n mx row mx ess sts row') (h:R (.int (2 ^ frS (sts.zip ess))) m):FM [.tup [.int (s:Int),.int (r:Int)],rowP row,rowP row'] m R:=by
 refine⟨rfl,?_⟩;unfold IC;have up:=fun {m:Nat} {R:PV->Nat->Prop} q=>LZ (m:=m) (R:=R) h1 h8 r7 hn h24 hr hl hmx hd q
 have rc:∀p∈sts.zip ess,Rc r p.1 p.2:=fun p hp=>by
   obtain⟨a,b,_⟩:=Dq h1 hn hmx hr hl hd p hp;exact a.rc r7 h8 b
 generalize rowP row=W at *;generalize rowP row'=O at *;unfold BQ dueV at up;generalize hZ:sts.zip ess=Z at *;generalize hV:(Z.map fun p=>V5 p.1 p.2)=V at *;walk_at "pu";refine up ?_;walk_at "pu";rw [SY];walk_at "pu";refine X3 (fun i env m'=>∃s5 s6,env=[some (.v (.tup [.int (s:Int),.int (r:Int)])),some (.v W),some (.v O),some (.v (.tup [.str (A6 "told"),.tup V])),some (.v (.int (2 ^ frS (Z.take i)))),s5,s6]/\m'=m) _ 0 _ _ ⟨_,_,rfl,rfl⟩ (fun i x env m' N ex hI hN=>?_) (fun env m' hI=>?_)
 · obtain⟨s5,s6,rfl,rfl⟩:=hI;rw [<- hV] at ex;obtain⟨p,ep,rfl⟩:=Fe ex;rw [K7] at hN ⊢;obtain⟨D,F,eF,lF,_⟩:=IL (rc p (G8 ep))
   have nx:frS (Z.take (i + 1))=frS (Z.take i) + (F.map PV.str).length:=by
     unfold frS;rw [C_ ep,N3,List.sum_append,A7,lF];simp
   rw [nx] at hN;rw [eF];unfold rowP;generalize frS (Z.take i)=a at *;generalize F.map PV.str=FL at *;generalize D.map PV.str=DL at *;generalize shP (p.2.filter isTo)=T at *;generalize hT:PV.tup [.str (A6 "told"),.tup V]=TV at *;walk_at "pu";refine X3 (fun j env m2=>∃s6,env=[some (.v (.tup [.int (s:Int),.int (r:Int)])),some (.v W),some (.v O),some (.v TV),some (.v (.int (2 ^ (a + j)))),some (.v (.tup [T,.tup DL,.tup FL])),s6]/\m2=m') _ 0 _ _ ⟨s6,rfl,rfl⟩ (fun j x env m2 N2 ex2 hI hN2=>?_) (fun env m2 hI=>?_)
   · obtain⟨s6,rfl,rfl⟩:=hI;rw [K7] at hN2 ⊢;have e2:(2:Int) ^ (a + (j + 1))=2 ^ (a + j) * 2:=Int.pow_succ ..;rw [e2] at hN2;generalize (2:Int) ^ (a + j)=q at *;walk_at "pu";exact⟨.inr ⟨by decide,by decide⟩,hN2 _ _ ⟨_,rfl,rfl⟩⟩
   · obtain⟨s6,rfl,rfl⟩:=hI;rw [K7];exact hN _ _ ⟨_,_,rfl,rfl⟩
 · obtain⟨s5,s6,rfl,rfl⟩:=hI;have lV:V.length=Z.length:=by rw [<- hV,A7]
   rw [K7,lV,B_];generalize (2:Int) ^ frS Z=q at *;walk_at "pu";exact h
theorem SZ {r:Nat}:∀(Z:List (List Str×List Ev)) (s0 s1 s2:Option Pu.Slot) (n:Nat) (R:List PV->Nat->Prop),(∀p∈Z,Rc r p.1 p.2)->R (Z.map fun p=>.int (frN p.1 p.2:Int)) n->R7 (gTp 3 (gCn (gN 0) (gCn (gN 1) (gCn (gN 2) gNl)))) qTru (qUn wLen (qV 2)) (Z.map fun p=>V5 p.1 p.2) [s0,s1,s2] n R:=by
 intro Z
 induction Z with
 | nil=>intro _ _ _ _ _ _ h;exact h
 | cons p Z ih =>
   intro s0 s1 s2 n R rc h;obtain⟨D,F,eF,lF,_⟩:=IL (rc p B8);rw [F3,eF];refine⟨rfl,?_⟩;show R7 _ _ _ _ _ n fun ys n4=>R (.int ((F.map PV.str).length:Int)::ys) n4;rw [A7,lF];exact ih _ _ _ _ _ (fun q hq=>rc q (B5 _ hq)) h
theorem S_ (xs:List Int):x8 (xs.map PV.int)=some xs:=by
 induction xs with
 | nil=>rfl
 | cons x xs ih =>
   show(x8 (xs.map PV.int)).map (x::·)=_;rw [ih];rfl
theorem sum_le {c:Nat}:∀(xs:List Nat),(∀x∈xs,x<=c)->xs.sum<=c * xs.length:=by
 intro xs
 induction xs with
 | nil=>intro _;exact G4 _
 | cons x xs ih =>
   intro h;rw [AV,D3,Nat.mul_succ];have:=h x B8;have:=ih fun y hy=>h y (B5 _ hy);omega
theorem Ta (xs:List Nat):(xs.map fun(x:Nat)=>(x:Int)).sum=(xs.sum:Int):=by
 induction xs with
 | nil=>rfl
 | cons x xs ih=>rw [F3,AV,AV,ih];omega
theorem IM (st:List Str)(es:List Ev):frN st es<=st.length:=i6 _ _
theorem frS_le {r s n mx:Nat}{row:List Str}(h1:1<=s)(h8:s<=8)(hn:1<=n)(h24:n<=24)(hr:RowS row)(hl:row.length=n)(hmx:mx=(n + s - 1) / s)(hd:Dy (Pr r) s n mx row mx ess sts row'):frS (sts.zip ess)<=55:=by
 have pr:=Dq h1 hn hmx hr hl hd;have len:=hd.len
 have a:=sum_le (c:=s + 1) ((sts.zip ess).map fun p=>frN p.1 p.2) fun x hx=>by
   obtain⟨p,hp,rfl⟩:=C8.mp hx;exact L4 (IM _ _) (pr p hp).2.1
 rw [A7,AU,len.1,len.2,Nat.min_self,Nat.add_mul,Nat.one_mul] at a;have b:s * mx<=n + s - 1:=by rw [hmx];exact Nat.mul_div_le _ _
 have c:=BK (s:=s) (n:=n) h1 hn;unfold frS;omega
theorem Tc {r s:Nat}{st:List Str}{es:List Ev}(rc:Rc r st es)(hb:RowS st):Show 3 18910 (V5 st es):=by
 obtain⟨D,F,e,lF,mD,mF,lD⟩:=IL rc;have s9:=rc.st9;have f9:=IM st es;rw [e];refine(Show.tup (d:=2) (c:=6300) (l:=3) (fun y hy=>?_) (by simp)).le (A9 _) (by decide);simp only [B7,Q5,or_false] at hy;rcases hy with rfl | rfl | rfl
 · refine PN (fun b h=>?_) (by have:=rc.to9;omega);obtain⟨x,hx,hb'⟩:=U3.mp h;exact hb.2 b (rc.so.fair.sub b (U3.mpr ⟨x,(K5.mp hx).1,hb'⟩))
 · exact(Fj (fun z hz=>hb.2 z (mD z hz)) (by omega)).le (by decide) (by decide)
 · exact(Fj (fun z hz=>hb.2 z (mF z hz)) (by omega)).le (by decide) (by decide)
theorem L_ {r s n mx:Nat}{row:List Str}(h1:1<=s)(h8:s<=8)(r7:r<=7)(hn:1<=n)(h24:n<=24)(hr:RowS row)(hl:row.length=n)(hmx:mx=(n + s - 1) / s)(hd:Dy (Pr r) s n mx row mx ess sts row'):Show 4 454000 (.tup (dueV sts ess)):=by
 have pr:=Dq h1 hn hmx hr hl hd;have len:=hd.len;have c:=BK (s:=s) (n:=n) h1 hn;refine(Show.tup (d:=3) (c:=18910) (l:=24) (fun y hy=>?_) ?_).le (A9 _) (by decide)
 · obtain⟨p,hp,rfl⟩:=C8.mp hy;obtain⟨a,b,c⟩:=pr p hp;exact Tc (s:=s) (a.rc r7 h8 b) c
 · unfold dueV;rw [A7,AU];omega
def askP (y:PV):Prop:=∃(s r n mx:Nat) (row row':List Str) (ess:List (List Ev)) (sts:List (List Str)),1<=s/\s<=8/\r<=7/\1<=n/\n<=24/\RowS row/\row.length=n/\mx=(n + s - 1) / s/\Dy (Pr r) s n mx row mx ess sts row'/\y=.tup [.tup [.int (s:Int),.int (r:Int)],rowP row,rowP row',.tup (dueV sts ess)]
theorem Td {y:PV}(h:askP y):Show 5 1816100 y:=by
 obtain⟨s,r,n,mx,row,row',ess,sts,h1,h8,r7,hn,h24,hr,hl,hmx,hd,rfl⟩:=h;obtain⟨rS,rL⟩:=hd.rows h1 hn hmx (fun _ _ p=>p.1.fair) hr hl;refine(Show.tup (d:=4) (c:=454000) (l:=4) (fun x hx=>?_) (by simp)).le (A9 _) (by decide);simp only [B7,Q5,or_false] at hx;rcases hx with rfl | rfl | rfl | rfl
 · exact(PQ (by omega) (by omega)).le (by decide) (by decide)
 · exact(Fj hr.2 (by omega)).le (by decide) (by decide)
 · exact(Fj rS.2 (by omega)).le (by decide) (by decide)
 · exact L_ h1 h8 r7 hn h24 hr hl hmx hd
theorem m_law (ns:List Int)(hl:ns.length<=63):FN ⟨fun _ _=>False,fun r _=>r=.bl true,fun _ _=>False,fun _ _=>False⟩ (l5 ["_law_script","_law_draws","_law_asks","_law_turn","_law_meeting","_law_row","_law_day_here","_law_starts","_law_after_here","_law_due","_law_held","_law_many"] [.scr ns]) 0:=by
 unfold FN;walk_at "pu";refine⟨hl,fun q=>?_⟩;refine X3 (fun i env m=>∃ys s3 s4 s5 s6 s7 s8 s9,env=[some (.v (.scr ns)),some (.v (.pot q)),some (.own ys),s3,s4,s5,s6,s7,s8,s9,none,none]/\ys.length=i/\(∀y∈ys,askP y)/\m<=3000 * i) _ 0 _ _ ⟨[],_,_,_,_,_,_,_,rfl,rfl,(fun _ z=>nomatch z),by omega⟩ (fun i x env m N ex hI hN=>?_) (fun env m hI=>?_)
 · obtain⟨ys,s3,s4,s5,s6,s7,s8,s9,rfl,hi,hy,hm⟩:=hI;obtain⟨hj,rfl⟩:=EG ex;rw [K7] at hi hm hN;have hj3:i < 3:=hj;refine y4 fun U hU=>?_;walk_at "pd";refine m_meet (by omega) fun s r zs n' h1 h8 r7 z1 z24 zr hn'=>?_;subst hU;generalize hZ:rowP zs=Z;refine⟨rfl,?_⟩;refine y4 fun U hU=>?_;walk_at "pd";rw [<- hZ];refine m_day (P:=Pr r) (n:=zs.length) (fun st ms es hs hsl hl' hw p se=>Pr_of st ms es hs hl' hw p se) (fun _ _ p=>p.1.fair) h1 h8 z1 z24 zr rfl (by omega) fun ess sts r' n2 hd hn2=>?_;subst hU;have mle:=BK (s:=s) (n:=zs.length) h1 z1;generalize hmx:(zs.length + s - 1) / s=mx at *;have len:=hd.len;have pr:=Dq h1 z1 hmx.symm zr rfl hd;have ask:askP (.tup [.tup [.int (s:Int),.int (r:Int)],rowP zs,rowP r',.tup (dueV sts ess)]):=⟨s,r,zs.length,mx,zs,r',ess,sts,h1,h8,r7,z1,z24,zr,rfl,hmx.symm,hd,rfl⟩
   have ez:zipP (sts.map rowP) (ess.map shP)=(sts.zip ess).map fun p=>.tup [rowP p.1,shP p.2]:=by
     unfold zipP;rw [List.zip_map,O9];rfl
   have zl:((sts.zip ess).map fun p=>PV.tup [rowP p.1,shP p.2]).length<=1000000:=by rw [A7,AU];omega
   refine⟨rfl,?_⟩;rw [hZ] at ask ⊢;unfold dayP;generalize hA:sts.map rowP=A at *;generalize hB:ess.map shP=B at *;generalize rowP r'=V at *;walk_at "pd";refine(show(zipP A B).length<=1000000/\R7 _ _ _ (zipP A B) [none,none] n2 _ from ?_);rw [ez];refine⟨zl,Oj (fun p:List Str×List Ev=>rowP p.1) (fun p=>shP p.2) (fun p=>V5 p.1 p.2) (sts.zip ess) _ _ _ _ (fun p hp m' Q q'=>?_) ?_⟩
   · obtain⟨a,b,_⟩:=pr p hp;have rc:=a.rc r7 h8 b;have mr:=fun {m:Nat} {R:PV->Nat->Prop} h=>SU (n:=m) (R:=R) rc h;generalize rowP p.1=S at *;generalize shP p.2=E at *;walk_at "pd";exact mr q'
   · refine⟨⟨_,rfl⟩,by decide,by omega,?_⟩;refine hN _ _ ⟨_,_,_,_,_,_,_,_,rfl,by rw [E2,hi];rfl,fun z hz=>?_,by omega⟩;rcases K6.mp hz with hz | hz
     · exact hy z hz
     · rw [F2.mp hz];exact ask
 · obtain⟨ys,s3,s4,s5,s6,s7,s8,s9,rfl,hi,hy,hm⟩:=hI;have hi3:ys.length=3:=by rw [hi];simp
   have ysS:Show 6 5448400 (.lst ys):=(Show.lst (d:=5) (c:=1816100) (l:=3) (fun y h=>Td (hy y h)) (by omega)).le (A9 _) (by decide);walk_at "pu";refine U9 ysS.sh (by have:=ysS.de;omega) (by have:=ysS.co;omega) ?_;refine X3 (fun i env m=>∃s3 s4 s5 s6 s7 s8 s9 s11,env=[some (.v (.scr ns)),some (.v (.pot q)),some (.v (.lst ys)),s3,s4,s5,s6,s7,s8,s9,some (.v (.str (Hg (.lst ys)))),s11]) _ 0 _ _ ⟨_,_,_,_,_,_,_,_,rfl⟩ (fun i x env m N ex hI hN=>?_) (fun env m hI=>?_)
   rotate_left
   · obtain⟨s3,s4,s5,s6,s7,s8,s9,s11,rfl⟩:=hI;walk_at "pu";refine U9 ysS.sh (by have:=ysS.de;omega) (by have:=ysS.co;omega) ?_;rw [CO,decide_eq_true rfl]
     rfl
   obtain⟨s3,s4,s5,s6,s7,s8,s9,s11,rfl⟩:=hI;have ask:=hy x (G8 ex);obtain⟨s,r,n,mx,row,row',ess,sts,h1,h8,r7,hn,h24,hr,hl',hmx,hd,rfl⟩:=ask;have mle:mx<=n:=by rw [hmx];exact BK h1 hn
   have len:=hd.len;have pr:=Dq h1 hn hmx hr hl' hd;have duS:=L_ h1 h8 r7 hn h24 hr hl' hmx hd;have f55:=frS_le h1 h8 hn h24 hr hl' hmx hd
   have toS:Show 5 908100 (BQ sts ess):=by
     refine(Show.tup (d:=4) (c:=454000) (l:=2) (fun y hy=>?_) (by simp)).le (A9 _) (by decide);simp only [B7,Q5,or_false] at hy;rcases hy with rfl | rfl
     · exact(HG _ (by decide +kernel) (by decide +kernel)).le (by decide) (by decide)
     · exact duS
   have p60:((2:Int) ^ frS (sts.zip ess)).natAbs < 10 ^ 60:=by
     rw [Int.natAbs_pow];exact j6 (Gc (by decide) f55) (by decide +kernel)
   have mt:=fun {m:Nat} {R:PV->Nat->Prop} h=>LZ (m:=m) (R:=R) h1 h8 r7 hn h24 hr hl' hmx hd h;have md:=fun {m:Nat} {R:PV->Nat->Prop} h=>m_days (m:=m) (R:=R) h1 h8 r7 hn h24 hr hl' hmx hd h
   have cf:=fun(R:List PV->Nat->Prop) h=>SZ (r:=r) (sts.zip ess) none none none m R (fun p hp=>by
     obtain⟨a,b,_⟩:=pr p hp
     exact a.rc r7 h8 b) h
   have zl:(dueV sts ess).length<=24:=by
     unfold dueV;rw [A7,AU];omega
   have sm:((sts.zip ess).map fun p=>PV.int (frN p.1 p.2:Int))=(((sts.zip ess).map fun p=>frN p.1 p.2).map fun(x:Nat)=>(x:Int)).map PV.int:=by rw [O9,O9];rfl
   have sl:(((sts.zip ess).map fun p=>frN p.1 p.2).map fun(x:Nat)=>(x:Int)).length<=24:=by rw [A7,A7,AU];omega
   have sb:∀i∈(((sts.zip ess).map fun p=>frN p.1 p.2).map fun(x:Nat)=>(x:Int)),0<=i/\i<=1000000:=fun i hi=>by
     obtain⟨x,hx,rfl⟩:=C8.mp hi;obtain⟨p,hp,rfl⟩:=C8.mp hx;have:=IM p.1 p.2;have:=(pr p hp).2.1;omega
   have ss:(((sts.zip ess).map fun p=>frN p.1 p.2).map fun(x:Nat)=>(x:Int)).sum=(frS (sts.zip ess):Int):=Ta _;rw [sm] at cf;generalize (((sts.zip ess).map fun p=>frN p.1 p.2).map fun(x:Nat)=>(x:Int))=IS at *;generalize frS (sts.zip ess)=K at *;have td:BQ sts ess=.tup [.str (A6 "told"),.tup (dueV sts ess)]:=rfl;unfold dueV at td;unfold dueV at *;generalize ((sts.zip ess).map fun p=>V5 p.1 p.2)=DU at *;generalize BQ sts ess=TV at *;generalize rowP row=W at *;generalize rowP row'=W' at *;walk_at "pd";refine⟨rfl,?_⟩;refine mt ?_;refine U9 toS.sh (by have:=toS.de;omega) (by have:=toS.co;omega) ?_;rw [<- td];refine⟨by decide,U9 toS.sh (by have:=toS.de;omega) (by have:=toS.co;omega) ?_⟩;refine if_f (by rw [CO,decide_eq_true rfl];rfl) ?_;refine⟨by omega,cf _ ?_⟩;rw [S_];refine⟨by omega,sb,md ?_⟩;rw [ss];refine U9 (x:=.int (2 ^ K)) p60 (show 0<=40 by decide) (show 61<=10000000 by decide) ⟨⟨by omega,by omega,by decide⟩,?_⟩;rw [Int.one_mul,Q6];refine U9 (x:=.int (2 ^ K)) p60 (show 0<=40 by decide) (show 61<=10000000 by decide) ?_;refine if_f (by rw [CO,decide_eq_true rfl];rfl) ?_;exact hN _ _ ⟨_,_,_,_,_,_,_,_,rfl⟩
end Tb
end
section
namespace Tb
open PySem L2 Pu
section
variable {P:B2}{w:World}{K:A5}{mg:Str->Option Value}{base:Heap}
theorem Ma {H H':Hp}{a:Addr}{xs:List V}(h:SqL K H a xs)(s:Same H H'):SqL K H' a xs:=h.elim (fun h=>.inl (Rd.keep h fun o e=>s a o e)) .inr
theorem Te {H H':Hp}(s:Same H H'){c:Addr}(h:H' c=none):H c=none:=by
 cases e:H c with
 | none=>rfl
 | some o=>rw [s c o e] at h;cases h
theorem putK_new {kvs:List (Key×V)}{k:Key}{v:V}(h:∀kv∈kvs,¬kv.1=k):putK kvs k v=kvs++[(k,v)]:=by
 unfold putK;rw [if_neg];rw [Bool.not_eq_true,List.any_eq_false];intro x hx;rw [decide_eq_true_iff];exact h x hx
theorem Tf {c:Addr}{a l s:Int}:AF [] (dPot c a l s)=dPot c a l s:=by
 unfold AF dPot;simp only [Y0,List.foldl_nil];have e1:putK ([]:List (Key×V)) (C9 (A6 "cells")) (V.ref c)=[(C9 (A6 "cells"),V.ref c)]:=putK_new (fun _ z=>nomatch z);have e2:putK [((C9 (A6 "cells"):Key),V.ref c)] (C9 (A6 "at")) (V.int a)=[(C9 (A6 "cells"),V.ref c),(C9 (A6 "at"),V.int a)]:=putK_new (fun kv hkv=>by rw [F2.mp hkv];exact O6 (by decide))
 have e3:putK [((C9 (A6 "cells"):Key),V.ref c),(C9 (A6 "at"),V.int a)] (C9 (A6 "left")) (V.int l)=[(C9 (A6 "cells"),V.ref c),(C9 (A6 "at"),V.int a),(C9 (A6 "left"),V.int l)]:=putK_new (fun kv hkv=>by
   simp only [B7,Q5,or_false] at hkv
   rcases hkv with rfl | rfl <;> exact O6 (by decide))
 have e4:putK [((C9 (A6 "cells"):Key),V.ref c),(C9 (A6 "at"),V.int a),(C9 (A6 "left"),V.int l)] (C9 (A6 "seed")) (V.int s)=[(C9 (A6 "cells"),V.ref c),(C9 (A6 "at"),V.int a),(C9 (A6 "left"),V.int l),(C9 (A6 "seed"),V.int s)]:=putK_new (fun kv hkv=>by
   simp only [B7,Q5,or_false] at hkv
   rcases hkv with rfl | rfl | rfl <;> exact O6 (by decide))
 rw [e1,e2,e3,e4]
theorem Tg (F:Fn0 K mg "_law_begin" (top 29))(m_len:mg "len"=none)(m_list:mg "list"=none):Kn P w K mg base "_law_begin" 1 ["_law_script"] (Pu.E_ K):=by
 have sc:D6 ["_law_script"] ["_law_script"] (C5 (top 29)):=⟨rfl,rfl,rfl,by decide +kernel,rfl,by decide +kernel,by decide +kernel⟩;refine F.ok sc (fun vs H Q E h=>?_) (fun _ _ _ _ _ _=>bd1 fun _=>rfl) (fun f cdv A outer s H vs Q E hr h=>?_)
 · obtain⟨a,ns,rfl,_⟩:=h
   rfl
 obtain⟨a,ns,rfl,hS,hl63,q⟩:=h;refine⟨_,Co (Cp (ON (EX K8 (Bu Jr rfl m_list Jz (F6 (GC GH (pv 0) GA (GB L6)) J1)) (EX K8 L6 (EX K8 L6 (EX K8 (M2 Bs L6 (v3 GI rfl m_len Ek (F6 (GC GH (pv 0) GA (GB L6)) J1))) OL)))) rfl rfl (by simp) (by simp))),?_⟩
 have cut:cutV (ns.map V.int) none (some 63)=ns.map V.int:=by
   unfold cutV;rw [HT.sIx_none,show(some (63:Int))=some ((63:Nat):Int) from rfl,HT.sIx_nat,Ag,A7,Cd hl63];exact X8 (by rw [A7];omega)
 intro p hp;have sm0:Same H (upd H p (.dK [])):=Same.lay1 hp;refine⟨_,rfl,63,rfl,a,_,rfl,Ma hS sm0,fun p0 hp0=>?_⟩;have sm1:=sm0.trans (Same.lay1 (o:=.lst (cutV (ns.map V.int) none (some 63))) hp0);have at1:upd (upd H p (.dK [])) p0 (.lst (cutV (ns.map V.int) none (some 63))) p=some (.dK []):=Same.lay1 hp0 p _ D9;refine⟨p0,_,rfl,.inl (SqL.of D9),fun c hc=>?_⟩;have sm2:=sm1.trans (Same.lay1 (o:=.lst (cutV (ns.map V.int) none (some 63))) hc);have at2:=Same.lay1 (o:=.lst (cutV (ns.map V.int) none (some 63))) hc p _ at1;have cn:=Te sm1 hc;refine⟨_,rfl,63,rfl,a,_,rfl,Ma hS sm2,fun p1 hp1=>?_⟩;have sm3:=sm2.trans (Same.lay1 (o:=.lst (cutV (ns.map V.int) none (some 63))) hp1);have at3:=Same.lay1 (o:=.lst (cutV (ns.map V.int) none (some 63))) hp1 p _ at2;have ct3:=Same.lay1 (o:=.lst (cutV (ns.map V.int) none (some 63))) hp1 c _ D9;refine⟨p1,_,rfl,.inl (SqL.of D9),_,_,rfl,rfl,at3,dPot c 0 0 (1000003 + ((cutV (ns.map V.int) none (some 63)).length:Nat)),rfl,by show 4<=15;decide,?_⟩;rw [Tf];have ncp:c≠p:=fun z=>by rw [z] at hc;rw [at1] at hc;cases hc
 refine q _ p c ns 0 0 _ (fun b o e=>?_) hp cn D9 (by rw [C7 ncp];rw [ct3,cut]) ⟨hl63,by omega,by omega,by omega,?_⟩
 · have nbp:b≠p:=fun z=>by rw [z,hp] at e;cases e
   rw [C7 nbp];exact sm3 b o e
 · rw [cut,A7];omega
theorem upd_id {H:Hp}{p:Addr}{o:HO}(h:H p=some o):upd H p o=H:=by
 funext b
 by_cases e:b=p
 · rw [e,D9,h]
 · rw [C7 e]
theorem Mb {H:Hp}{p c:Addr}{a l s:Int}(h:H p=some (.dK (dPot c a l s))):DGet H p (.str (A6 "cells")) (some (.ref c)):=OY (a:=a) (l:=l) (s:=s)▸DGet.k (k:=C9 (A6 "cells")) h
theorem dgAt {H:Hp}{p c:Addr}{a l s:Int}(h:H p=some (.dK (dPot c a l s))):DGet H p (.str (A6 "at")) (some (.int a)):=OZ (c:=c) (l:=l) (s:=s)▸DGet.k (k:=C9 (A6 "at")) h
theorem FP {H:Hp}{p c:Addr}{a l s:Int}(h:H p=some (.dK (dPot c a l s))):DGet H p (.str (A6 "left")) (some (.int l)):=O_ (c:=c) (a:=a) (s:=s)▸DGet.k (k:=C9 (A6 "left")) h
theorem FQ {H:Hp}{p c:Addr}{a l s:Int}(h:H p=some (.dK (dPot c a l s))):DGet H p (.str (A6 "seed")) (some (.int s)):=Pa (c:=c) (a:=a) (l:=l)▸DGet.k (k:=C9 (A6 "seed")) h
theorem IN {c:Addr}{a l s:Int}:(dPot c a l s).length < B0:=by show 4 < B0;decide
theorem dpAt {H:Hp}{p c:Addr}{a l s x:Int}(h:H p=some (.dK (dPot c a l s))):DPut H p (.str (A6 "at")) (.int x) (upd H p (.dK (dPot c x l s))):=Pb (c:=c) (a:=a) (l:=l) (s:=s)▸DPut.k (k:=C9 (A6 "at")) h IN
theorem Mc {H:Hp}{p c:Addr}{a l s x:Int}(h:H p=some (.dK (dPot c a l s))):DPut H p (.str (A6 "left")) (.int x) (upd H p (.dK (dPot c a x s))):=Pc (c:=c) (a:=a) (l:=l) (s:=s)▸DPut.k (k:=C9 (A6 "left")) h IN
theorem Md {H:Hp}{p c:Addr}{a l s x:Int}(h:H p=some (.dK (dPot c a l s))):DPut H p (.str (A6 "seed")) (.int x) (upd H p (.dK (dPot c a l x))):=Pd (c:=c) (a:=a) (l:=l) (s:=s)▸DPut.k (k:=C9 (A6 "seed")) h IN
theorem Th (F:Fn0 K mg "_law_next" (top 30))(m_len:mg "len"=none)(m_int:mg "int"=none):Kn P w K mg base "_law_next" 1 ["_law_draws","_law_many"] (B4 K potD w8):=by
 refine Pe ?_;have sc:D6 ["_law_draws","_law_many","_law_cell","_law_digit"] ["_law_draws","_law_many"] (C5 (top 30)):=⟨rfl,rfl,rfl,by decide +kernel,rfl,by decide +kernel,by decide +kernel⟩;refine F.ok sc (fun vs H Q E h=>?_) (fun _ _ _ _ _ _=>bd2 fun _ _=>rfl) (fun f cdv A outer s H vs Q E hr h=>?_)
 · obtain⟨p,c,cells,a,l,s,many,rfl,_⟩:=h
   rfl
 obtain⟨p,c,cells,a,l,sd,many,rfl,hp,hc,⟨c63,a0,l0,s0,s1⟩,n0,n1,q⟩:=h;have hu:=hu_of hr
 refine⟨_,(k5 (Gr (PW.pt (I_ (Cs op_eq (V0 hu (pv 0) K8 (fun _ _=>rfl)) L6 (G9 _)) (IZ (Cs op_lt (V0 hu (pv 0) K8 (fun _ _=>rfl)) (v3 GI rfl m_len Ek (F6 (V0 hu (pv 0) K8 (fun _ _=>rfl)) J1)) (G9 _)))))
       (k5 (Gv (i:=2) sc.nd rfl (Or.inl rfl) (GG Jo (V0 hu (pv 0) K8 (fun _ _=>rfl)) (V0 hu (pv 0) K8 (fun _ _=>rfl)) (fun _ _=>rfl)))
       (k5 (CV hu (pv 0) K8 (M2 Bs (V0 hu (pv 0) K8 (fun _ _=>rfl)) L6) rfl)
       (k5 (CV hu (pv 0) K8 (M2 Au (M2 Bs (M2 Bs (M2 Cr (V0 hu (pv 0) K8 (fun _ _=>rfl)) L6) (M2 Au (pv 2) (M2 Ja L6 L6))) L6) L6) rfl)
       (Co (CV hu (pv 0) K8 (M2 Cr (pv 2) (Bu MH rfl m_int bt_int (F6 (Jc op_ge (pv 2) (M2 Ja L6 L6) (G9 _)) J1))) rfl))))) Gp)
     (k5 (Gr (Cs op_gt (V0 hu (pv 0) K8 (fun _ _=>rfl)) L6 (G9 _))
       (k5 (Gv (i:=3) sc.nd rfl (Or.inl rfl) (M2 Au (V0 hu (pv 0) K8 (fun _ _=>rfl)) (pv 1)))
       (k5 (CV hu (pv 0) K8 (M2 Gx (V0 hu (pv 0) K8 (fun _ _=>rfl)) (pv 1)) rfl)
       (Co (Cp (pv 3))))) Gp)
     (k5 (CV hu (pv 0) K8 (M2 Au (M2 Bs (M2 Cr (V0 hu (pv 0) K8 (fun _ _=>rfl)) L6) L6) L6) rfl)
     (Co (Cp (M2 Au (M2 Gx (M2 Au (M2 Cr (V0 hu (pv 0) K8 (fun _ _=>rfl)) (V0 hu (pv 0) K8 (fun _ _=>rfl))) L6) L6) (pv 1))))))),?_⟩
 have sl:(dPot c a l sd).length < B0:=by show 4 < B0;decide
 have cp:c≠p:=fun z=>by rw [z,hp] at hc;cases hc
 refine Nk (fun σ' H'=>∃a' l' s' s2,σ'=[some (.ref p),some (.int many),s2,none]/\CY cells a' l' s'/\H'=upd H p (.dK (dPot c a' l' s'))) (fun key=>?_) ?_
 · have stay:=key _ _ ⟨a,l,sd,none,rfl,⟨c63,a0,l0,s0,s1⟩,(upd_id hp).symm⟩;refine⟨_,rfl,p,_,rfl,FP hp,rfl,_,rfl,?_⟩;refine ite2 (fun c1=>?_) (fun c1=>stay);refine⟨_,rfl,p,_,rfl,dgAt hp,_,rfl,p,_,rfl,Mb hp,c,_,rfl,.inl (SqL.of hc),_,_,rfl,rfl,_,rfl,?_⟩;refine ite2 (fun c2=>?_) (fun c2=>stay);have c2':a < (((cells.map V.int).length:Nat):Int):=of_decide_eq_true c2;rw [A7] at c2';obtain⟨v,qa⟩:=at_map (ns:=cells) a0 c2';refine⟨_,rfl,p,_,rfl,Mb hp,_,rfl,p,_,rfl,dgAt hp,c,_,_,_,rfl,rfl,SqL.of hc,qa,?_⟩;refine⟨_,rfl,p,_,rfl,dgAt hp,_,_,rfl,rfl,_,rfl,p,_,rfl,dpAt hp,?_⟩;refine⟨_,rfl,p,_,rfl,FQ D9,_,_,rfl,rfl,.inl ⟨by omega,by omega⟩,_,rfl,_,_,rfl,rfl,⟨by decide,by decide,by decide⟩,_,_,rfl,rfl,(by show(0:Int) < 10 ^ Int.toNat 30;decide +kernel),_,_,rfl,rfl,_,_,rfl,rfl,_,_,rfl,rfl,(by show(0:Int) < 2305843009213693951;decide),_,rfl,p,_,rfl,Md D9,?_⟩;rw [Eh];refine⟨_,rfl,_,rfl,_,_,rfl,rfl,⟨by decide,by decide,by decide⟩,_,_,rfl,rfl,?_⟩;refine .inr ⟨_,rfl,?_⟩
   have hz:0<=v * (if decide ((10:Int) ^ Int.toNat 18<=v)=true then(1:Int) else 0):=by
     by_cases hb:(10:Int) ^ Int.toNat 18<=v
     · rw [if_pos (decide_eq_true hb),Int.mul_one];exact Int.le_trans (by decide +kernel) hb
     · rw [if_neg (by simpa using hb),Int.mul_zero];exact Int.le_refl _
   have hz2:(0:Int)<=(if decide ((10:Int) ^ Int.toNat 18<=v)=true then(1:Int) else 0)/\(if decide ((10:Int) ^ Int.toNat 18<=v)=true then(1:Int) else 0) < 2 ^ 64:=by split <;> decide
   refine⟨_,_,rfl,rfl,.inr ⟨by have:=hz2.1;omega,hz2.2⟩,_,rfl,p,_,rfl,Mc D9,?_⟩;rw [Eh];exact key _ _ ⟨_,_,_,_,rfl,⟨c63,by omega,hz,Ao _ (by decide),Int.lt_of_lt_of_le (An _ (by decide)) (by decide)⟩,rfl⟩
 rintro σ' H' ⟨a',l',s',s2,rfl,⟨_,a0',l0',s0',s1'⟩,rfl⟩;refine⟨_,rfl,p,_,rfl,FP D9,_,_,rfl,rfl,_,rfl,?_⟩;refine ite2 (fun c1=>?_) (fun c1=>?_)
 · refine⟨_,rfl,p,_,rfl,FP D9,_,rfl,_,_,rfl,rfl,n0,?_⟩;refine⟨_,rfl,p,_,rfl,FP D9,_,rfl,_,_,rfl,rfl,⟨n0,by omega⟩,_,rfl,p,_,rfl,Mc D9,?_⟩;rw [Eh];refine⟨_,rfl,?_⟩;exact q _ _ _ _ (Ao _ (by omega)) (An _ n0) ⟨c63,a0',Int.ediv_nonneg l0' (by omega),s0',s1'⟩
 · refine⟨_,rfl,p,_,rfl,FQ D9,_,_,rfl,rfl,.inl ⟨by omega,by omega⟩,_,_,rfl,rfl,_,_,rfl,rfl,(by show(0:Int) < 2305843009213693951;decide),_,rfl,p,_,rfl,Md D9,?_⟩;rw [Eh];have m0:=Ao (s' * 1181783497276652981 + 12345678910987) (show(2305843009213693951:Int)≠0 by decide);have m1:=An (s' * 1181783497276652981 + 12345678910987) (show(0:Int) < 2305843009213693951 by decide);generalize (s' * 1181783497276652981 + 12345678910987) % 2305843009213693951=z at m0 m1 ⊢;refine⟨_,rfl,p,_,rfl,FQ D9,_,rfl,p,_,rfl,FQ D9,_,_,rfl,rfl,.inl ⟨by omega,by omega⟩,_,_,rfl,rfl,(by show(0:Int) < 2305843009213693921;decide),_,_,rfl,rfl,⟨by decide,by decide⟩,_,rfl,_,_,rfl,rfl,n0,?_⟩;exact q _ _ _ _ (Ao _ (by omega)) (An _ n0) ⟨c63,a0',l0',m0,by omega⟩
end
end Tb
end
section
open PySem PySem.W PyProof.Rows L2 Tb
set_option hygiene false in
local macro_rules | `(tactic| walk_at "F")=>`(tactic| (dsimp only [KOf];refine' fn0_mk KX G ?a ?l ?c ?k;(case a=>k_is);(case l=>k_is);(case c=>k_is);(case k=>k_is)))
set_option hygiene false in
local macro_rules | `(tactic| walk_at "Z")=>`(tactic| (refine z _ ?_;dsimp only [KOf];k_is))
abbrev Tb.rwp:=PySem.Challenge.rw_touchboats_k25_touches_of_a_made_day.prog
set_option maxRecDepth 100000 in
set_option maxHeartbeats 0 in
theorem PySem.Challenge.cw_touchboats_k25_touches_of_a_made_day_holds : PySem.Challenge.rw_touchboats_k25_touches_of_a_made_day.Holds := by
 w_on;o_law;k_head;(case hw=>w_witness2)
 k_fill
 refine Ni (l:=PySem.Challenge.rw_touchboats_k25_touches_of_a_made_day) (x:="_law_script") (k:=8) rfl rfl ⟨rfl,by decide,by decide,rfl⟩ (fun w h Y=>PySem.W.kIn_of Y) ?F
 case F=>
   intro w mg h KX G;have f0:Fn0 (KOf KX) mg "_law_begin" (top 29):=by walk_at "F"
   have f1:Fn0 (KOf KX) mg "_law_next" (top 30):=by walk_at "F"
   have f2:Fn0 (KOf KX) mg "_law_names" (top 31):=by walk_at "F"
   have f3:Fn0 (KOf KX) mg "_law_meet" (top 38):=by walk_at "F"
   have f4:Fn0 (KOf KX) mg "_law_span" (top 32):=by walk_at "F"
   have f5:Fn0 (KOf KX) mg "_law_sheet" (top 35):=by walk_at "F"
   have f6:Fn0 (KOf KX) mg "_law_races" (top 33):=by walk_at "F"
   have f7:Fn0 (KOf KX) mg "_law_word" (top 34):=by walk_at "F"
   have f8:Fn0 (KOf KX) mg "_law_after" (top 36):=by walk_at "F"
   have f9:Fn0 (KOf KX) mg "_law_day" (top 37):=by walk_at "F"
   have f10:Fn0 (KOf KX) mg "_law_race" (top 39):=by walk_at "F"
   have f11:Fn0 (KOf KX) mg "span" (top 2):=by walk_at "F"
   have f12:Fn0 (KOf KX) mg "start_on" (top 13):=by walk_at "F"
   have f13:Fn0 (KOf KX) mg "from_reasons" (top 17):=by walk_at "F"
   have f14:Fn0 (KOf KX) mg "goal_of" (top 18):=by walk_at "F"
   have f15:Fn0 (KOf KX) mg "goes_round" (top 19):=by walk_at "F"
   have f16:Fn0 (KOf KX) mg "round_reasons" (top 20):=by walk_at "F"
   have f17:Fn0 (KOf KX) mg "between" (top 8):=by walk_at "F"
   have f18:Fn0 (KOf KX) mg "is_far" (top 9):=by walk_at "F"
   have f19:Fn0 (KOf KX) mg "boats_of" (top 6):=by walk_at "F"
   have f20:Fn0 (KOf KX) mg "is_cross" (top 10):=by walk_at "F"
   have f21:Fn0 (KOf KX) mg "touch_reasons" (top 22):=by walk_at "F"
   have f22:Fn0 (KOf KX) mg "sheet_of" (top 5):=by walk_at "F"
   have f23:Fn0 (KOf KX) mg "touches_to" (top 21):=by walk_at "F"
   have f24:Fn0 (KOf KX) mg "reasons_at" (top 23):=by walk_at "F"
   have f25:Fn0 (KOf KX) mg "put_on" (top 14):=by walk_at "F"
   have f26:Fn0 (KOf KX) mg "touches_of" (top 7):=by walk_at "F"
   have f27:Fn0 (KOf KX) mg "exchanged" (top 3):=by walk_at "F"
   have f28:Fn0 (KOf KX) mg "row_behind" (top 11):=by walk_at "F"
   have f29:Fn0 (KOf KX) mg "raced" (top 15):=by walk_at "F"
   have f30:Fn0 (KOf KX) mg "races_of" (top 1):=by walk_at "F"
   have f31:Fn0 (KOf KX) mg "race_told" (top 24):=by walk_at "F"
   have f32:Fn0 (KOf KX) mg "told_upward" (top 25):=by walk_at "F"
   have f33:Fn0 (KOf KX) mg "told_by" (top 26):=by walk_at "F"
   have f34:Fn0 (KOf KX) mg "days_between" (top 27):=by walk_at "F"
   have f35:Fn0 (KOf KX) mg "law" (top 40):=by walk_at "F"
   have z:∀x,PySem.W.nsIn (KOf KX) V8 x=some none->mg x=none:=fun x e=>PySem.W.mg_none_of KX G e;have m0:mg "int"=none:=by walk_at "Z"
   have m1:mg "len"=none:=by walk_at "Z"
   have m2:mg "list"=none:=by walk_at "Z"
   have m3:mg "min"=none:=by walk_at "Z"
   have m4:mg "range"=none:=by walk_at "Z"
   have m5:mg "repr"=none:=by walk_at "Z"
   have m6:mg "reversed"=none:=by walk_at "Z"
   have m7:mg "set"=none:=by walk_at "Z"
   have m8:mg "sorted"=none:=by walk_at "Z"
   have m9:mg "sum"=none:=by walk_at "Z"
   have m10:mg "tuple"=none:=by walk_at "Z"
   have m11:mg "zip"=none:=by walk_at "Z"
   refine⟨top 40,f35,fun _ _ _ _ _ _ s u=>.of_eq rfl,fun base kb nb=>?_⟩;have g0:=Tg (P:=rwp) (w:=w) (base:=base) f0 m1 m2;have g1:=Th (P:=rwp) (w:=w) (base:=base) f1 m1 m0;have g2:=RC (P:=rwp) (w:=w) (base:=base) f2 g1 m4 m10;have g3:=RD (P:=rwp) (w:=w) (base:=base) f3 g1 g2 m3;have g4:=RE (P:=rwp) (w:=w) (base:=base) f4;have g5:=RF (P:=rwp) (w:=w) (base:=base) f5 m8 m10 m11;have g6:=RG (P:=rwp) (w:=w) (base:=base) f6;have g7:=RH (P:=rwp) (w:=w) (base:=base) f7 g1 m4;have g8:=RI (P:=rwp) (w:=w) (base:=base) f8 m2 m10;have g9:=RJ (P:=rwp) (w:=w) (base:=base) f9 g6 g4 g7 g5 g8 m1 m4 m6 m10;have g10:=RK (P:=rwp) (w:=w) (base:=base) f10 m7 m8 m10;have g11:=k_span (P:=rwp) (w:=w) (base:=base) f11 m3;have g12:=RL (P:=rwp) (w:=w) (base:=base) f12 g11 m1;have g13:=RM (P:=rwp) (w:=w) (base:=base) f13 g12;have g14:=RN (P:=rwp) (w:=w) (base:=base) f14 g12 m10;have g15:=RO (P:=rwp) (w:=w) (base:=base) f15;have g16:=RQ (P:=rwp) (w:=w) (base:=base) f16 g15;have g17:=RR (P:=rwp) (w:=w) (base:=base) f17 m8;have g18:=RS (P:=rwp) (w:=w) (base:=base) f18 g17 m1;have g19:=RT (P:=rwp) (w:=w) (base:=base) f19;have g20:=RU (P:=rwp) (w:=w) (base:=base) f20 g19 g17 m1 m7
   have g21:=RW (P:=rwp) (w:=w) (base:=base) f21 g18 g20;have g22:=RX (P:=rwp) (w:=w) (base:=base) f22 m7 m8 m10;have g23:=RY (P:=rwp) (w:=w) (base:=base) f23 g22 m11;have g24:=RZ (P:=rwp) (w:=w) (base:=base) f24 g13 g14 g23 g21 g16;have g25:=R_ (P:=rwp) (w:=w) (base:=base) f25 g11 m1;have g26:=Sa (P:=rwp) (w:=w) (base:=base) f26;have g27:=Sc (P:=rwp) (w:=w) (base:=base) f27 m2 m10;have g28:=Sd (P:=rwp) (w:=w) (base:=base) f28 g26 g27;have g29:=Se (P:=rwp) (w:=w) (base:=base) f29 g12 g28 g25;have g30:=Sf (P:=rwp) (w:=w) (base:=base) f30;have g31:=Sg (P:=rwp) (w:=w) (base:=base) f31 g19 g17 m8 m10;have g32:=Sh (P:=rwp) (w:=w) (base:=base) f32 g30 g12 g24 g14 g23 g31 g29 m1 m4 m6;have g33:=Si (P:=rwp) (w:=w) (base:=base) f33 g32 m10;have g34:=Sj (P:=rwp) (w:=w) (base:=base) f34 g33;exact k_law (P:=rwp) (w:=w) (base:=base) f35 g0 g3 g9 g10 g33 g34 m1 m4 m5 m9 m10 m11 m_law
end
