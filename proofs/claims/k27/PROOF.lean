import PyProof.Rows.All
import Wide.All
import OpenK.AllK
import Wide.FinOn
import PyProof.EqAt
import PyProof.EqKinds
import PyProof.TupleCall
import PyProof.NeKinds
import PyProof.EnumMake
import PyProof.ConsumeWalk
import KE.LcSums
import PyProof.ReprLen
import PyProof.StrLawsRepr
import PyProof.Rows.StrNews2
import PyProof.Rows.SetFrom
import PyProof.WalksMore
import PyProof.StrLawsChain
import PyProof.StrLawsTight
import PyProof.StrLawsIdx
import PyProof.ZipIter
import PyProof.Draws
import PyProof.Rows.FactsT2
import PyProof.ListStr
import PyProof.Rows.StrPartPair
import KE.KSortTup
import KE.KDictSum
import KE.KRevIter
import PyProof.DictItems
import KE.KPairComp
import PyProof.AutoSeq1
import PyProof.SetNew
import PyProof.AttrMissHeap
import PyProof.IsRules
import PyProof.SumWalk
import KE.KDictOf
import PyProof.ListRange
import Lean
import PySem.Challenge.RW_touchboats_k27_reasons_of_two_mornings_j
set_option Elab.async false
set_option linter.all false
set_option maxRecDepth 100000
set_option maxHeartbeats 4000000
namespace PySem.W.Fast
def tw16806205937883140932:=0
def tw7858853457521290411:=0
def tw9130910008979575273:=0
def tw4664198294498872422:=0
def tw16613999223324124542:=0
def tw7869925543855257515:=0
def tw10446478076976183030:=0
def tw16550213179091939693:=0
def tw11304153939724729458:=0
def tw10117223085263845522:=0
def tw17832882848509198058:=0
def tw454703560688748618:=0
def tw6573530583220307375:=0
def tw7987552633014371717:=0
def tw17125899087981501695:=0
def tw8985964963230253436:=0
def tw12528066331171821978:=0
def tw14741754825449822974:=0
def tw16942395789787138167:=0
def tw6766787608443076808:=0
def tw1807837675643367826:=0
def tw16949965490431759632:=0
def tw6751393614469084027:=0
def tw15430220384454724014:=0
def tw8587330594476489599:=0
def tw341393242492879610:=0
def tw4946848359547683770:=0
def tw4529913425105495884:=0
def tw2166133665031916187:=0
def tw15176770823730788314:=0
def tw9710114829805411552:=0
def tw7796915291511988542:=0
def tw18268707328190426241:=0
def tw8611319652629038739:=0
def tw6636025553822457669:=0
def tw1777556684689700665:=0
def tw8706727479499917432:=0
def tw6554002978787858005:=0
def tw14582099869687165808:=0
def tw14300780934913246368:=0
def tw10309976253129439653:=0
def tw12344498623687265596:=0
def tw2692044106064156640:=0
def tw14179187936440693433:=0
def tw14098329556111753512:=0
def tw9534446781775160997:=0
def tw6173225371312953747:=0
def tw3753780603755065721:=0
def tw17591660907187064640:=0
def tw2706313471315666208:=0
def tw15485242088557323487:=0
def tw557147207434427869:=0
def tw18259274888997829182:=0
def tw15377598908737435651:=0
def tw14215365891090505446:=0
def tw1452601027741420572:=0
def tw6046851245183849720:=0
def tw11895082174931210139:=0
def tw1114186536802331595:=0
def tw8833786022769898693:=0
def tw14062615222885578840:=0
def tw11266902889315558910:=0
def tw13608751828960996378:=0
def tw15353878481124768280:=0
def tw1028601031064522664:=0
def tw16152233532927541551:=0
def tw16652664834492691857:=0
def tw12094981394032908437:=0
def tw200705591716783897:=0
def tw11632076938514064822:=0
def tw6452074188267047081:=0
def tw7896128672577641543:=0
def tw12943549861090562031:=0
def tw10850722300139275146:=0
def tw6536287541768644819:=0
def tw632453940943931944:=0
def tw11544420391365558868:=0
def tw9530569683770853272:=0
def tw6293133445246131382:=0
def tw12314446211644982643:=0
def tw10823008323623393674:=0
def tw11075962598618715625:=0
def tw5753736748928685469:=0
def tw15033630218586827167:=0
def tw16002445448824627791:=0
def tw14249588820323010122:=0
def tw12809299415422177628:=0
def tw2911090055702397998:=0
def tw10464399795068107098:=0
def tw410975564229242053:=0
def tw8385219387925540520:=0
def tw17679462926129539067:=0
def tw7946514112829813990:=0
def tw13402683362187469042:=0
def tw1312173740902547200:=0
def tw14578018791708297668:=0
def tw2666228940061717740:=0
def tw7550036393886771434:=0
def tw16075311927858148895:=0
def tw12505037139000453105:=0
def tw9718074268827815477:=0
def tw17691686748859056871:=0
def tw10641282539708108571:=0
def tw4999424049242839679:=0
def tw17956990179138368279:=0
def tw9782721066184836125:=0
def tw8187351678796818476:=0
def tw1388096417900103121:=0
def tw1411652072556462414:=0
def tw17090461711816881209:=0
def tw252484806500653606:=0
def tw14864012501033409394:=0
def tw10927853537921507591:=0
end PySem.W.Fast
open PySem renaming wpAny_bind->A2,wpAny_pure->A9,Shared->A4,Value->A3,sizeLine->B4,wpAny->A5,model->A7,Addr->A1,wpAny_newObj_type->N7,foldedSetIterable->N8,Program->C3,wpAny_callSpecial?_slot->T9,assignEach->F4,wpAny_call_entry->N9,wpAny_holding->K5,bootBuiltins->J5,starEach->D6,wpAny_mono->G5,wpAny_field->L0,wpAny_setState_of->U1,Around->D0,sizeLine_eq->O0,World->B9,wpAny_truthy_bool->X6,compareOp->K6,sysModules->N3,wpAny_seqItems->U2,wpAny_of_eq->P0,mem_of_lookup->w4,codeAny_builtin->Z9,mainGlobals->R3,wpAny_standAt->X7,letOwnedTupleGo->j6,Heap->B3,wpAny_pyIter_tuple->AI,wpAny_setField_rec->AJ,SetTable->O1,isSubtype_type->j7,wpAny_setField->j8,wpAny_passesOwn->w5,wpAny_pyIter_list->AK,codeAny->M1,attributeBase->j9,wpAny_getItem_str_slice->Dx,plainId_quiet->k5,Builtin->M7,wpAny_setEntries_of->BS,wpAny_Call_Name_kw->BT,wpAny_typeOf->k6,wpAny_rule->X8,binaryOp->Q2,behindInMarks->w6,wpAny_attempt->w8,codeAny_mono->w9,call_meets->b7,swapsWith->X9,wpAny_specialOf->BU,wpAny_pyIter_rangeiter->Ge,holding->Q3,keywordEach->x4,sliceBounds->x5,Scope->J1,Keyword->R4,wpAny_askSetting->Dz,wpAny_isInstance->DA,wpAny_forIn_list->DB,wpAny_execs_nil->DC,getItem->U3,post_val_or_str->DE,codeAny_of_tree->DF,standAt->Y0
open PySem.W renaming Frag->A8,kia_one->W0,fnOf->U4,kas_place->R5,kas_rev->O2,kas_sort->P1,kas_asc->Q4,kitOne->BV,keepIn->BW,kas_desc->Y1,codeIn->DG,methodObj->Gf
open PySem.Heap renaming get?_push_of_some->B7,get?_push_size->E7,lt_size->C4,size_push->W3,get?_update_other->AM,SameBut->U5,get?_update_self->AN
open List renaming length_map->B0,mem_cons_of_mem->B6,getElem?_eq_getElem->C9,mem_cons_self->B8,getElem?_eq_some_iff->D3,mem_cons->B5,length_append->C7,all_eq_true->C6,getElem?_map->D4,length_cons->D5,mem_singleton->E8,size_toArray->E9,mem_of_getElem?->G4,mem_append->D7,range->C2,mem_map->D2,not_mem_nil->F6,getElem?_set_self->N4,getElem?_set_ne->M8,mem_filter->G8,length_take->J7,length_drop->J8,getElem?_eq_none->O6,length_filter_le->O7,getElem?_append_right->R6,length_set->K7,mem_range->J9,map_cons->J3,length_singleton->Q5,drop_of_length_le->R7,getElem?_append_left->W4,getD_eq_getElem?_getD->Y2,map_append->N5,pairwise_iff_getElem->Y3,mem_append_right->U6,nodup_cons->O8,mem_of_mem_take->U7,append_assoc->R8,take_of_length_le->b8,mem_of_mem_drop->Y4,length_range->U8,drop_eq_getElem_cons->x6,append_nil->W5,foldl_cons->W6,eq_nil_of_length_eq_zero->BX,length_reverse->k7,reverse_cons->b9,take_append_drop->x8,pairwise_map->c6,map_map->R9,cons_append->c7,mem_flatMap->d7,filter_eq_nil_iff->AO,filterMap_cons->x9,flatMap_cons->k8,any_eq_true->k9,mem_append_left->AQ,getElem?_cons_succ->BY,filter_cons_of_pos->BZ,nil_append->l4,getElem_mem->y0,zip_cons_cons->AR,mem_iff_getElem?->B_,getElem_of_mem->Ca,filter_cons_of_neg->DH,drop_zero->y3,map_nil->l5,find?_cons->AS,ext_getElem?->Cb,perm_ext_iff_of_nodup->Gg,length_eraseIdx_of_lt->Gi,getElem?_replicate->Gj,getElem?_cons_zero->Gk,getElem_range->DI,any_eq_false->DJ,nodup_append->DK,map_set->AT,drop_length->DL,mem_iff_getElem->Gm,toList_toArray->Gn
open PySem.Str renaming ofString->A6
open Nat renaming le_refl->B2,ne_of_lt->E6,lt_of_lt_of_le->M2,zero_le->F7,zero_add->J4,le_trans->K1,lt_trichotomy->d8,lt_irrefl->U9,lt_of_le_of_lt->y4,le_of_not_lt->y7,sub_succ_lt_self->Cc,lt_succ_of_lt->AU,le_of_lt->l6,min_eq_left->AV,le_of_lt_succ->Cd,min_eq_right->Ce,lt_trans->y8,ne_of_gt->y9,not_lt_zero->Cf,le_succ->z0,sub_self->AX,le_total->Cg,lt_or_ge->Ch,add_mul->Ci
open Bool renaming false_eq_true->K8,false_ne_true->L3,and_eq_true->P4,eq_iff_iff->V0,beq_eq_decide_eq->Cj,not_true->l7,or_false->AY,not_eq_true'->DM,and_false->Ck,false_and->DN
open Array renaming length_toList->M3,getElem?_toList->P5,getElem?_eq_getElem->d9,getD_eq_getD_getElem?->z9,getElem?_eq_none->DO,perm_iff_toList_perm->Go,replicate->DP
open Option.some renaming inj->L4
open PySem.Builtin.SmallTypes renaming nextOf->Y5,ownedTupleIsFree->DQ,ownedTupleHandOut->JU
open Sum renaming inr->D1,inl->M9
open PyProof.Rows renaming callWith_type1->l8,slot_tuple_getitem->AZ,envOfC->Gp
open PySem.Heap.SameBut renaming update->V1
open PySem.Value renaming type->G9,ref->K2,none->Q6
open Int renaming toNat_natCast->T0,eq_ofNat_of_zero_le->Aa,emod_lt_of_pos->A_,emod_nonneg->Ba,toNat->Ab
open PySem.Builtin.Slice renaming slicePlaces->n6,sliceAdjust->Cm,sliceApplied->DR,sliceFields->JV
open PySem.Builtin.Tuple renaming tupleExact->o5,tupleItemsOf->Gq
open PySem.Builtin.Range renaming rangeFitsLong->Ac,rangeSize->DS
open Classical renaming byContradiction->Ad
open PyProof.Rows.F renaming plain_set_update_loop->Ae,entry_set_update_loop->DT
open List.cons renaming inj->Q7
open PySem.Around renaming under_plainId->o6
open PySem.Builtin.Str renaming occurrences->Bb
open PySem.PyData renaming showable->Y6,showableAll->Bc,shownAll->Af,depth->e6,shown->e7,shownKv->Bd,depthAll->Cn,showableKv->DU,depthKv->DV
open PySem.Obj renaming mapSeq->P6,data_mapFields->DW
open PySem.F renaming plainAttrs_list->Co,slot_tuple_iterator_next->DX,args_tuple_add_2->Gr,entry_tuple_add->Gs,slot_tuple_add->Gu,slot_zip_next->DY
open ForInStep renaming yield->o7
open Option renaming isSome_iff_exists->DZ,getD_some->Cp
open PySem.Builtin.List renaming listTooLong->D_,listLengthHint->JW,listExtendWith->JX,listFitsIndex->JY
open PySem.AutoSeq1 renaming wpAny_loadPart'->Ea
open PySem.Txt renaming slice->T3,slice_le->Be
open True renaming intro->W7
open Array.Perm renaming refl->Bf
open False renaming elim->Y7
open PySem.StrLaws renaming sliceText->Eb
open List.Perm renaming refl->Cq
open PySem.SetTable renaming grown->Cr
open PySem.SeqAt renaming RcNeAt->Bg,EqAt->Ag,RcAt->Bh
open PySem.Paired renaming length->Cs
open Prod.mk renaming inj->Bi
open PySem.Data renaming fields->Bj
open PySem.Heap.IsSliceOf renaming new->Gv
open List.Pairwise renaming nil->Gw
def jq{p:Prop}[Decidable p](h:p):decide p=true:=decide_eq_true h
def jr{p:Prop}[Decidable p](h:¬p):decide p=false:=decide_eq_false h
def jt{c:Prop}{h:Decidable c}(i:c){α:Type}{t e:α}:ite c t e=t:=if_pos i
def ju{c:Prop}{h:Decidable c}(i:¬c){α:Type}{t e:α}:ite c t e=e:=if_neg i
def jv{p:Prop}[Decidable p](h:decide p=true):p:=of_decide_eq_true h
local macro_rules|`(tactic|omega)=>`(tactic|lia)
local macro_rules|`(0x0)=>`(by omega)|`(0b0)=>`(by decide)|`(0o0)=>`(by simp)
local macro_rules|`(tactic|ext)=>`(tactic|omega)
set_option hygiene false
local macro_rules|`(tactic|right)=>`(tactic|walk_at "pu")
local macro_rules|`(tactic|symm)=>`(tactic|refine C1 fun U hU=>?_)
local macro_rules|`(tactic|mleft)=>`(tactic|refine⟨rfl,?_⟩)
local macro_rules|`(⇑?_)=>`(fun C G σ H env n R Q hK hT S hp k=>?_)|`(⇑_)=>`(fun C G σ H env n PD D hK hT hn S hp L=>?_)
local macro_rules|`(↥$f)=>`($f C G σ H env n _ _ hK hT S hp)
noncomputable section
section
namespace L2
open PySem PySem.Spec PyProof.Rows
abbrev Key:=Sum Int Str
noncomputable def Bk:Key->A3->Bool
 |.inl k,v=>Value.isInt k v
 |.inr x,v=>Value.isStrOf x v
noncomputable def keyH (w:B9):Key->Int
 |.inl k=>hashInt k
 |.inr x=>hashStr w x
def W8:∀{k:Key} {v:A3},Bk k v=true->(∃i t,k=M9 i/\v=Value.int i t)\/(∃x t,k=D1 x/\v=Value.str x t)
 | .inl i, v, h => by
  obtain⟨t,e⟩:=Value.isInt_shape (k:=i) (v:=v) h;exact .inl ⟨i,t,rfl,e⟩
 | .inr x, v, h => by
  obtain⟨t,e⟩:=Value.isStrOf_shape (x:=x) (v:=v) h;exact .inr ⟨x,t,rfl,e⟩
def Of (i:Int)(t:Tok):Bk (.inl i) (.int i t)=true:=by simp[Bk,Value.isInt]
def Og (x:Str)(t:Tok):Bk (.inr x) (.str x t)=true:=by simp[Bk,Value.isStrOf]
def key_ll (a b:Int):decide ((M9 a:Key)=M9 b)=(a == b):=by grind
def key_rr (a b:Str):decide ((D1 a:Key)=D1 b)=decide (a=b):=0o0
def key_lr (a:Int)(b:Str):decide ((M9 a:Key)=D1 b)=false:=rfl
def key_rl (a:Str)(b:Int):decide ((D1 a:Key)=M9 b)=false:=rfl
noncomputable def F8 (prog:C3)(w:B9):PySem.KeyKind prog w Key where
 is:=Bk
 hash:=keyH w
 inj:=fun v a b ha hb=>by
  rcases W8 ha with⟨i,t,rfl,rfl⟩|⟨x,t,rfl,rfl⟩
  ·rcases W8 hb with⟨j,u,rfl,e⟩|⟨y,u,rfl,e⟩
   ·injection e with e1 _;rw[e1]
   ·exact nomatch e
  ·rcases W8 hb with⟨j,u,rfl,e⟩|⟨y,u,rfl,e⟩
   ·exact nomatch e
   ·injection e with e1 _;rw[e1]
 byValue:=λk v h=>by
  rcases W8 h with⟨i,t,rfl,rfl⟩|⟨x,t,rfl,rfl⟩ <;> rfl
 pyHash:=λhv h=>by
  rcases W8 hv with⟨i,t,rfl,rfl⟩|⟨x,t,rfl,rfl⟩
  ·exact wpAny_pyHash_int h
  ·exact wpAny_pyHash_str h
 eqBool:=λhu hv h=>by
  rcases W8 hu with⟨i,t,rfl,rfl⟩|⟨x,t,rfl,rfl⟩
  ·rcases W8 hv with⟨j,u,rfl,rfl⟩|⟨y,u,rfl,rfl⟩
   ·rw[key_ll] at h;exact wpAny_eqBool_int h
   ·rw[key_lr] at h;exact SeqAt.EqAt.int_str i t y u _ _ _ _ h
  ·rcases W8 hv with⟨j,u,rfl,rfl⟩|⟨y,u,rfl,rfl⟩
   ·rw[key_rl] at h;exact SeqAt.EqAt.str_int x t j u _ _ _ _ h
   ·rw[key_rr] at h;exact wpAny_eqBool_str h
 «strs»:=λk x t v h=>by
  rcases W8 h with⟨i,u,rfl,e⟩|⟨y,u,rfl,e⟩
  ·exact nomatch e
  ·injection e with e1 _;subst e1;cases v <;> rfl
def JZ (prog:C3)(w:B9)(i:Int)(t:Tok):(F8 prog w).is (.inl i) (.int i t)=true:=Of i t
def Gx (prog:C3)(w:B9)(x:Str)(t:Tok):(F8 prog w).is (.inr x) (.str x t)=true:=Og x t
inductive V where
 |non|bl (b:Bool)|int (i:Int)|str (x:Str)|byt (b:Array UInt8)|flt (b:UInt64)|ref (a:A1)|ty (n:String)
 deriving DecidableEq
def RelV:V->A3->Prop
 |.non,u=>u=Q6
 |.bl b,u=>u=Value.bool b
 |.int i,u=>∃t,u=Value.int i t
 |.str x,u=>∃t,u=Value.str x t
 |.byt b,u=>∃t,u=Value.bytes b t
 |.flt b,u=>∃t,u=Value.float b t
 |.ref a,u=>u=K2 a
 |.ty n,u=>u=G9 n
abbrev Vals:List V->List A3->Prop:=Paired RelV
theorem Vals.length (r:Vals xs us):xs.length=us.length:=Cs r
theorem Vals.get:∀{xs:List V} {us:List A3} {i:Nat} {x:V},Vals xs us->xs[i]?=some x->∃u,us[i]?=some u/\RelV x u
 |_,_,_,_,.nil,e=>by simp at e
 |_,_,0,_,.cons r _,e=>by simp at e;subst e;exact⟨_,rfl,r⟩
 | _, _, i + 1, x, .cons _ t, e => by
  obtain⟨u,h1,h2⟩:=Vals.get (i:=i) (x:=x) t (by grind);exact⟨u,by simpa using h1,h2⟩
theorem Vals.set (r:RelV x u):∀{xs:List V} {us:List A3} (i:Nat),Vals xs us->Vals (xs.set i x) (us.set i u)
 |_,_,_,.nil=>.nil
 |_,_,0,.cons _ t=>.cons r t
 |_,_,i+1,.cons q t=>.cons q (Vals.set r i t)
def Vals.append (h:Vals xs us)(s:Vals ys ws):Vals (xs++ys) (us++ws):=by
 induction h with
 |nil=>exact s
 |cons r _ ih=>exact .cons r ih
theorem Vals.take:∀{xs:List V} {us:List A3} (n:Nat),Vals xs us->Vals (xs.take n) (us.take n)
 |_,_,0,_=>.nil
 |_,_,_+1,.nil=>.nil
 |_,_,n+1,.cons r t=>.cons r (Vals.take n t)
theorem Vals.drop:∀{xs:List V} {us:List A3} (n:Nat),Vals xs us->Vals (xs.drop n) (us.drop n)
 |_,_,0,r=>r
 |_,_,_+1,.nil=>.nil
 |_,_,n+1,.cons _ t=>Vals.drop n t
def RelO:Option V->Option A3->Prop
 |some v,some u=>RelV v u
 |none,none=>True
 |_,_=>False
def KV {κ:Type}:List (κ×V)->List (κ×A3)->Prop:=Paired λ(p:κ×V) (q:κ×A3)=>p.1=q.1/\RelV p.2 q.2
noncomputable def kV:Key->V
 |.inl i=>.int i
 |.inr x=>.str x
inductive HO where
 /-- a list -/
 |lst (xs:List V)
 /-- a tuple (never changes) -/
 |tup (xs:List V)
 /-- a dict whose keys are ints and V3; one whose keys are tuples of ints and V3 (the empty one is both) -/
 |dK (jg:List (Key×V))|dT (jg:List (List Key×V))
 /-- a set of ints: jf members, jf size -/
 |set (S:Key->Bool) (n:Nat)
 /-- an instance of the class at C, jf dict at dx, jf attributes -/
 |ins (C dx:A1) (fs:List (Str×V))
 /-- the dict of the instance at x -/
 |own (x:A1)
 /-- the dict of an exception -/
 |xd (fs:List (Str×V))
 /-- a bound method, f of x -/
 |met (f x:A1)
 /-- a range object lo, lo + 1, .. below hi -/
 |rng (lo hi:Int)
 /-- a thing that is known to the object (the script; a dict while a loop walks it): read, never written while it is so -/
 |frz (o:Obj) (u:HO)
 /-- a code object's table -/
 |tbl (ps:Array A3)
 /-- any ja thing, by what is true of jf one object (a def of one's own: SetO a S n := HO.ext fun h => ..) -/
 |ext (φ:B3->Prop)
abbrev Hp:=A1->Option HO
noncomputable def upd (H:Hp)(a:A1)(o:HO):Hp:=λb=>if b=a then some o else H b
def D9:upd H a o a=some o:=by unfold upd;rw[jt rfl]
def C8 (h:b≠a):upd H a o b=H b:=by unfold upd;rw[ju h]
def Ec:upd (upd H a o) a u=upd H a u:=by
 funext b;unfold upd;split <;> rfl
def ne_of {H:Hp}(h:H a=some o)(h':H b=some u)(d:o≠u):a≠b:=by
 intro e;subst e;rw[h] at h';exact d (L4 h')
def W9 {H:Hp}(h:H a=some o)(h':H b=none):a≠b:=by
 intro e;subst e;rw[h] at h';cases h'
def X0 (h:B3)(a:A1)(items:Array A3):Prop:=∃o,h.get? a=some o/\(o.cls,o.dict)=(G9 "tuple",none)/\∃n,o.data=.seq items n
def X0.is (x:X0 h a items):IsTup h a items:=let ⟨o,e,c,r⟩:=x;⟨o,e,(Bi c).1,r⟩
noncomputable def X0.lt (x:X0 h a items):a<h.objs.size:=let ⟨_,e,_⟩:=x;C4 e
def X0.new (h:B3)(items:Array A3):X0 (h.push { cls:=.type "tuple",data:=.seq items }) h.objs.size items:=⟨_,E7 _ rfl,rfl,_,rfl⟩
section
variable (P:C3)(w:B9)
def F9 (H:Hp)(h:B3)(a:A1):HO->Prop
 |.lst xs=>xs.length<=B4/\∃(jf:List A3) (n:Nat),Vals xs jf/\h.get? a=some { cls:=.type "list",data:=.seq jf.toArray n }
 |.tup xs=>xs.length<=B4/\∃jf:List A3,Vals xs jf/\X0 h a jf.toArray
 |.dK jg=>jg.length<=B4/\(a == N3)=false/\∃vs,KV jg vs/\h.DictOf (F8 P w) a vs
 |.dT jg=>jg.length<=B4/\(a == N3)=false/\∃xs:List (List Key×A1×A3),
     Paired (λ(p:List Key×V) (q:List Key×A1×A3)=>p.1=q.1/\H q.2.1=some (.tup (p.1.map kV))/\RelV p.2 q.2.2) jg xs/\
     ∃o es ep,h.get? a=some o/\o.ExactDict/\o.data=.dict es ep/\es.toList=xs.map (entryOfKey (tupleKind (F8 P w)))/\(xs.map (·.1)).Nodup
 |.set S n=>h.SetOf (F8 P w) a S n
 |.ins C dx fs=>H dx=some (.own a)/\fs.length<=1000/\dx≠a/\h.get? a=some (PySem.W.instObj C dx)/\
     ∃mA,h.Ns1 dx mA/\(∀f,RelO (fs.lookup f) (mA f))/\PySem.Within mA (fs.map (·.1))
 |.own _=>∃o,h.get? a=some o
 |.xd fs=>∃mA,h.Ns1 a mA/\∀f,RelO (fs.lookup f) (mA f)
 |.rng lo hi=>∃t u v,h.get? a=some { cls:=.type "range",data:=.fields #[.int lo t,.int hi u,.int 1 v] }
 |.frz o u=>h.get? a=some o/\F9 H h a u
 |.tbl ps=>h.get? a=some { cls:=.none,data:=.fields ps }
 |.met f x=>h.get? a=some (Gf (.ref f) (.ref x))
 |.ext φ=>φ h/\(∃o,h.get? a=some o)/\∀h1 h2:B3,φ h1->(∀o,h1.get? a=some o->h2.get? a=some o)->φ h2
def HOk (H:Hp)(h:B3):Prop:=∀a o,H a=some o->F9 P w H h a o
end
section
variable {P:C3}{w:B9}{H H':Hp}{h h':B3}{a:A1}{o:HO}
theorem F9.lt (x:F9 P w H h a o):a<h.objs.size:=by
 cases o with
 |lst xs=>obtain⟨_,_,_,_,e⟩:=x;exact C4 e
 |tup xs=>obtain⟨_,_,_,p⟩:=x;exact p.lt
 |dK jg=>obtain⟨_,_,_,_,o,_,_,e,_⟩:=x;exact C4 e
 |dT jg=>obtain⟨_,_,_,_,o,_,_,e,_⟩:=x;exact C4 e
 |set S n=>obtain⟨o,_,_,_,e,_⟩:=x;exact C4 e
 |ins C dx fs=>obtain⟨_,_,_,e,_⟩:=x;exact C4 e
 |own y=>obtain⟨_,e⟩:=x;exact C4 e
 |xd fs=>obtain⟨_,⟨_,_,_,e,_⟩,_⟩:=x;exact C4 e
 |rng lo hi=>obtain⟨_,_,_,e⟩:=x;exact C4 e
 |frz ob u=>obtain⟨e,_⟩:=x;exact C4 e
 |tbl ps=>exact C4 (show h.get? a=some _ from x)
 |met f y=>exact C4 (show h.get? a=some _ from x)
 |ext φ=>obtain⟨_,⟨_,e⟩,_⟩:=x;exact C4 e
def Paired.mapP {α β:Type}{F G:α->β->Prop}{l₁:List α}{l₂:List β}(h:Paired F l₁ l₂)(f:∀a b,F a b->G a b):Paired G l₁ l₂:=by
 induction h with
 |nil=>exact .nil
 |cons r _ ih=>exact .cons (f _ _ r) ih
def Paired.imp' {α β:Type}{F G:α->β->Prop}(f:∀a b,F a b->G a b){l₁:List α}{l₂:List β}(r:Paired F l₁ l₂):Paired G l₁ l₂:=Paired.mapP r f
def F9.stay (x:F9 P w H h a o)(k:∀b u,(b=a\/H b=some (.own a))->h.get? b=some u->h'.get? b=some u)
   (ho:∀b,H b=some (.own a)->H' b=some (.own a)) (ht:∀b xs,H b=some (.tup xs)->H' b=some (.tup xs)):F9 P w H' h' a o:=by
 induction o with
 |lst xs=>obtain⟨z,jf,n,r,e⟩:=x;exact⟨z,jf,n,r,k _ _ (.inl rfl) e⟩
 |tup xs=>obtain⟨z,jf,r,ob,e,c⟩:=x;exact⟨z,jf,r,ob,k _ _ (.inl rfl) e,c⟩
 |dK jg=>obtain⟨z,y,vs,r,ob,es,ep,e,c⟩:=x;exact⟨z,y,vs,r,ob,es,ep,k _ _ (.inl rfl) e,c⟩
 | dT jg =>
  obtain⟨z,y,xs,r,ob,es,ep,e,c⟩:=x;exact⟨z,y,xs,Paired.mapP r λp q z=>⟨z.1,ht _ _ z.2.1,z.2.2⟩,ob,es,ep,k _ _ (.inl rfl) e,c⟩
 |set S n=>obtain⟨ob,es,ep,t,e,c⟩:=x;exact⟨ob,es,ep,t,k _ _ (.inl rfl) e,c⟩
 | ins C dx fs =>
  obtain⟨d,z,ne,e,mA,⟨od,es,ep,e2,c⟩,r⟩:=x;exact⟨ho _ d,z,ne,k _ _ (.inl rfl) e,mA,⟨od,es,ep,k _ _ (.inr d) e2,c⟩,r⟩
 |own y=>obtain⟨ob,e⟩:=x;exact⟨ob,k _ _ (.inl rfl) e⟩
 |xd fs=>obtain⟨mA,⟨od,es,ep,e,c⟩,r⟩:=x;exact⟨mA,⟨od,es,ep,k _ _ (.inl rfl) e,c⟩,r⟩
 |rng lo hi=>obtain⟨t,u,v,e⟩:=x;exact⟨t,u,v,k _ _ (.inl rfl) e⟩
 |frz ob u ih=>obtain⟨e,q⟩:=x;exact⟨k _ _ (.inl rfl) e,ih q⟩
 | tbl ps =>
  have e:h.get? a=some { cls:=.none,data:=.fields ps }:=x;show h'.get? a=some { cls:=.none,data:=.fields ps };exact k a _ (.inl rfl) e
 | met f y =>
  have e:h.get? a=some (Gf (.ref f) (.ref y)):=x;show h'.get? a=some (Gf (.ref f) (.ref y));exact k a _ (.inl rfl) e
 |ext φ=>obtain⟨p,⟨o,e⟩,st⟩:=x;exact⟨st _ _ p λo q=>k _ _ (.inl rfl) q,⟨o,k _ _ (.inl rfl) e⟩,st⟩
theorem HOk.lt (x:HOk P w H h)(e:H a=some o):a<h.objs.size:=(x a o e).lt
def HOk.fresh (x:HOk P w H h)(e:h.objs.size<=a):H a=none:=by
 cases q:H a with
 |none=>rfl
 |some u=>exact absurd (M2 (x.lt q) e) (U9 _)
def HOk.kept (x:HOk P w H h)(k:∀b u,h.get? b=some u->h'.get? b=some u):HOk P w H h':=λa o e=>
 (x a o e).stay (λb u _ q=>k b u q) (λ_ q=>q) λ_ _ q=>q
def HOk.laid (x:HOk P w H h)(k:∀b u,h.get? b=some u->h'.get? b=some u)(hp:h.objs.size<=a)(new:F9 P w (upd H a o) h' a o):HOk P w (upd H a o) h':=λb u e=>by
 have hn:=x.fresh hp
 by_cases hb:b=a
 ·subst hb;rw[D9] at e;cases e;exact new
 ·rw[C8 hb] at e;exact(x b u e).stay (λc v _ q=>k c v q) (λc q=>by rw[C8 (W9 q hn)];exact q) λc xs q=>by rw[C8 (W9 q hn)];exact q
end
def Rd (H:Hp)(a:A1)(u:HO):Prop:=H a=some u\/∃o,H a=some (.frz o u)
def Rd.ok (r:Rd H a u)(x:HOk P w H h):F9 P w H h a u:=by
 rcases r with r|⟨o,r⟩
 ·exact x a u r
 ·obtain⟨_,q⟩:=x a _ r;exact q
def Mut:Option HO->Prop
 |some (.lst _)=>True
 |some (.dK _)=>True
 |some (.dT _)=>True
 |some (.set _ _)=>True
 |some (.ins _ _ _)=>True
 |some (.ext _)=>True
 |_=>False
section
variable {P:C3}{w:B9}{H:Hp}{h h':B3}{x e:A1}{o':HO}
def HOk.write (ok:HOk P w H h)(mu:Mut (H x))(he:e=x\/H e=some (.own x))(k:∀b u,b≠e->h.get? b=some u->h'.get? b=some u)(heo:∃u,h'.get? e=some u)
   (new:F9 P w (upd H x o') h' x o'):HOk P w (upd H x o') h':=λb u q=>by
 have nown:∀c y,H c=some (.own y)->c≠x:=λc y r z=>by subst z;rw[r] at mu;exact mu
 have ntup:∀c xs,H c=some (.tup xs)->c≠x:=λc xs r z=>by subst z;rw[r] at mu;exact mu
 by_cases hb:b=x
 ·subst hb;rw[D9] at q;cases q;exact new
 ·rw[C8 hb] at q
  by_cases hbe:b=e
  ·have q':H b=some (.own x):=by
    rcases he with z|z
    ·exact absurd (hbe.trans z) hb
    ·rw[hbe];exact z
   rw[q] at q';cases q';obtain⟨v,hv⟩:=heo;exact⟨v,by rw[hbe];exact hv⟩
  ·refine(ok b u q).stay (λc v hc r=>k c v ?_ r) (λc r=>by rw[C8 (nown c b r)];exact r) λc xs r=>by rw[C8 (ntup c xs r)];exact r
   rcases hc with rfl|hc
   ·exact hbe
   ·rintro rfl;rcases he with z|z
    ·exact nown c b hc z
    ·rw[hc] at z;cases z;exact hb rfl
end
def NS (H:Hp):Prop:=H N3=none\/∃o u,H N3=some (.frz o u)
structure Un (fs ex:List A1)(H H':Hp)(h h':B3):Prop where
 keep:∀b o,h.get? b=some o->H b=none->b∉fs->b∉ex->h'.get? b=some o
 slot:∀b o,h.get? b=some o->H b=none->b∈fs->b∉ex->∃sl,h'.get? b=some { o with slots:=sl }
 free:∀b o,h.get? b=some o->H b=none->b∉ex->H' b=none
 there:∀b o,h.get? b=some o->b∉ex->∃o',h'.get? b=some o'
 tups:∀b xs,H b=some (.tup xs)->H' b=some (.tup xs)
 frzs:∀b o u,H b=some (.frz o u)->H' b=some (.frz o u)
 tbls:∀b ps,H b=some (.tbl ps)->∃more,H' b=some (.tbl (ps++more))
 sys:NS H->NS H'
section
variable {fs fs' ex ex':List A1}{H H1 H2:Hp}{h h1 h2 h':B3}{a x e:A1}{o:HO}
def Un.any (u:Un fs ex H H1 h h1)(q:h.get? b=some ob)(n:H b=none)(hx:b∉ex):∃sl,h1.get? b=some { ob with slots:=sl }:=by
 by_cases hb:b∈fs
 ·exact u.slot b ob q n hb hx
 ·exact⟨ob.slots,u.keep b ob q n hb hx⟩
def Un.kept (k:∀b u,h.get? b=some u->h'.get? b=some u):Un fs ex H H h h':=
 ⟨λb ob q _ _ _=>k b ob q,λb ob q _ _ _=>⟨ob.slots,k b ob q⟩,λ_ _ _ n _=>n,λb ob q _=>⟨ob,k b ob q⟩,λ_ _ q=>q,λ_ _ _ q=>q,λ_ ps q=>⟨#[],by rw[q];simp⟩,λz=>z⟩
def Un.refl:Un fs ex H H h h:=Un.kept λ_ _ q=>q
def Un.laid (k:∀b u,h.get? b=some u->h'.get? b=some u)(hp:h.objs.size<=a)(hn:H a=none)(hy:N3<h.objs.size):Un fs ex H (upd H a o) h h' where
 keep:=λb u q _ _ _=>k b u q
 slot:=λb u q _ _ _=>⟨u.slots,k b u q⟩
 free:=λb u q n _=>by rw[C8 (E6 (M2 (C4 q) hp))];exact n
 there:=λb u q _=>⟨u,k b u q⟩
 tups:=λb xs q=>by rw[C8 (W9 q hn)];exact q
 frzs:=λb u xs q=>by rw[C8 (W9 q hn)];exact q
 tbls:=λb ps q=>⟨#[],by rw[C8 (W9 q hn),q];simp⟩
 sys:=λz=>by unfold NS;rw[C8 (E6 (M2 hy hp))];exact z
def Un.write (mu:Mut (H x))(he:e=x\/H e=some (.own x))(k:∀b u,b≠e->h.get? b=some u->h'.get? b=some u)(heo:∃u,h'.get? e=some u):Un fs ex H (upd H x o) h h':=by
 have hx:∀b,H b=none->b≠x:=λb n z=>by subst z;rw[n] at mu;exact mu
 have hb:∀b,H b=none->b≠e:=λb n z=>by
  subst z;rcases he with r|r
  ·exact hx b n r
  ·rw[n] at r;cases r
 have hm:∀b u,H b=some u->¬Mut (some u)->b≠x:=λb u q nm z=>by subst z;rw[q] at mu;exact nm mu
 refine⟨λb u q n _ _=>k b u (hb b n) q,λb u q n _ _=>⟨u.slots,k b u (hb b n) q⟩,λb u q n _=>by rw[C8 (hx b n)];exact n,λb u q _=>?_,
  λb xs q=>by rw[C8 (hm b _ q λz=>z)];exact q,λb u xs q=>by rw[C8 (hm b _ q λz=>z)];exact q,λb ps q=>⟨#[],by rw[C8 (hm b _ q λz=>z),q];simp⟩,λz=>by
   rcases z with z|⟨ob,u,z⟩
   ·exact .inl (by rw[C8 (hx _ z)];exact z)
   ·exact .inr ⟨ob,u,by rw[C8 (hm _ _ z λz=>z)];exact z⟩⟩
 by_cases hbe:b=e
 ·subst hbe;exact heo
 ·exact⟨u,k b u hbe q⟩
end
noncomputable def trk (h:B3)(H:Hp):List A1:=(C2 h.objs.size).filter λa=>(H a).isSome
def hidT (h:B3)(H:Hp):B3:=PySem.W.hideAll h (trk h H)
def Oh (h:B3)(H:Hp):(hidT h H).objs.size=h.objs.size:=PySem.W.hideAll_size _ _
def Oi (e:h.get? b=some o)(n:H b=none):(hidT h H).get? b=some o:=
 PySem.W.hideAll_get _ e λhm=>by
  have q:(H b).isSome=true:=(G8.mp hm).2;rw[n] at q;simp at q
def Oj (e:(hidT h H).get? b=some o):h.get? b=some o/\H b=none:=by
 have e':h.get? b=some o:=PySem.W.of_hideAll (trk h H) e;refine⟨e',?_⟩;cases q:H b with
 |none=>rfl
 | some x =>
  have hm:b∈trk h H:=G8.mpr ⟨J9.mpr (C4 e'),by simp[q]⟩;have z:(hidT h H).get? b=none:=PySem.W.hideAll_none (trk h H) hm;rw[z] at e;cases e
noncomputable def Ol (g h:B3)(L:A1):List (A1×Obj):=(C2 h.objs.size).filterMap λa=>if a=L\/(g.get? a).isSome=true then none else(h.get? a).map λo=>(a,o)
def rest (g h:B3)(L d:A1):List (A1×Obj):=(Ol g h L).filter λp=>decide (p.1≠d)
structure Mod (K:A8)(mg:Str->Option A3)(base:B3):Prop where
 kin:K.In base
 glob:base.Ns R3 mg
 blt:∃mb,base.Ns builtinsNs mb/\∀x:Str,x≠"__name__"->mb x=J5 x
 nolimit:base.NoLimit
structure Cx where
 prog:C3
 w:B9
 K:A8
 mg:Str->Option A3
 base:B3
 A:D0
 N:List Str
 s₀:A4
 H₀:Hp
 env:Env
 outer:List Env
 stack:List Env
 ex:List A1
 fn:Str->Bool
 calm:Bool
 pn:List (A1×Obj)
 xe:A3->A4->Prop
def frs (l:List Env):List A1:=l.filterMap (·.frame)
abbrev Cx.fs (X:Cx):List A1:=frs X.outer
def Vis (sc:J1)(x:Str):Prop:=sc.names.lookup x=some .local\/sc.names.lookup x=some .cell\/sc.names.lookup x=some .free
def Loc (sc:J1)(x:Str):Prop:=sc.names.lookup x=some .local\/sc.names.lookup x=some .cell
def Look (env:Env)(h:B3)(m:Str->Option A3)(x:Str)(u:A3):Prop:=
 (env.kindOf x=some .local/\m x=some u)\/((env.kindOf x=some .cell\/env.kindOf x=some .free)/\∃c,env.cells.lookup x=some c/\h.IsCell c (some u))
structure Cx.Ok (X:Cx):Prop where
 mod:Mod X.K X.mg X.base
 kind:X.env.scope.kind=.function
 glob:X.env.globals=R3
 blt:X.env.builtins=builtinsNs
 above:X.s₀.heap.objs.size<=X.env.locals
 inj:∀x y c,X.env.cells.lookup x=some c->X.env.cells.lookup y=some c->x=y
 has:∀x,(X.env.kindOf x=some .cell\/X.env.kindOf x=some .free)->∃c,X.env.cells.lookup x=some c
 cab:∀x c,X.fn x=true->X.env.cells.lookup x=some c->X.s₀.heap.objs.size<=c
 hd:X.calm=true->X.A.handled=none
 frames:X.A.frames=some X.stack
 stk:X.stack=X.outer\/(X.stack=X.env::X.outer/\X.env.frame=some X.env.locals)
 exf:∀b∈X.ex,b≠X.env.locals/\∀x c,X.env.cells.lookup x=some c->c≠b
 bs:∀b o,X.base.get? b=some o->X.s₀.heap.get? b=some o/\X.H₀ b=none
 bsz:X.base.objs.size<=X.s₀.heap.objs.size
 noex:∀b o,X.base.get? b=some o->b∉X.ex
 exfs:∀b∈X.ex,b∉X.fs
 funs:X.s₀.heap.FunFrames X.base X.outer
 frf:∀b∈X.fs,X.H₀ b=none
 nos:NS X.H₀
structure Inv (X:Cx)(jb:List (A1×Obj))(σ:List (Option V))(H:Hp)(s:A4):Prop where
 ok:X.Ok
 os:s.os=X.s₀.os
 bare:AllBare s.gens
 base:Un X.fs X.ex X.H₀ H X.s₀.heap s.heap
 loc:∃m,s.heap.Ns X.env.locals m/\∀(i:Nat) (x:Str) (v:V),X.N[i]?=some x->σ[i]?=some (some v)->Vis X.env.scope x->∃u,RelV v u/\Look X.env s.heap m x u
 cell:∀x c,X.env.cells.lookup x=some c->∃v,s.heap.IsCell c v
 free:H X.env.locals=none
 freeC:∀x c,X.env.cells.lookup x=some c->H c=none
 pin:∀p∈X.pn++jb,s.heap.get? p.1=some p.2/\H p.1=none/\p.1≠X.env.locals/\p.1∉X.fs/\∀v,p.2.data≠.cell v
 hok:HOk X.prog X.w H s.heap
 len:σ.length=X.N.length
section
variable {X:Cx}{jb:List (A1×Obj)}{σ:List (Option V)}{H H':Hp}{s:A4}{h':B3}
def Cx.Ok.nofr (ok:X.Ok)(e:X.base.get? b=some o):b∉X.fs:=λhb=>by
 have:=(ok.funs.mem hb).1;rw[e] at this;cases this
theorem Inv.bs (I:Inv X jb σ H s):∀b o,X.base.get? b=some o->s.heap.get? b=some o/\H b=none:=λb o e=>
 ⟨I.base.keep b o (I.ok.bs b o e).1 (I.ok.bs b o e).2 (I.ok.nofr e) (I.ok.noex b o e),I.base.free b o (I.ok.bs b o e).1 (I.ok.bs b o e).2 (I.ok.noex b o e)⟩
def Inv.bk (I:Inv X jb σ H s):∀b o,X.base.get? b=some o->s.heap.get? b=some o:=λb o e=>(I.bs b o e).1
theorem Inv.mod (I:Inv X jb σ H s):Mod X.K X.mg X.base:=I.ok.mod
theorem Inv.nos (I:Inv X jb σ H s):NS H:=I.base.sys I.ok.nos
def Inv.bigS (I:Inv X jb σ H s):N3<s.heap.objs.size:=y8 0b0 (I.mod.glob.keeps I.bk).lt
def Inv.kIn (I:Inv X jb σ H s):X.K.In s.heap:=I.ok.mod.kin.keeps I.bk
theorem Inv.lt (I:Inv X jb σ H s):X.env.locals<s.heap.objs.size:=let ⟨_,hn,_⟩:=I.loc;hn.lt
def Inv.sz (I:Inv X jb σ H s):X.s₀.heap.objs.size<=s.heap.objs.size:=K1 I.ok.above (l6 I.lt)
def Inv.nofs (I:Inv X jb σ H s)(h:s.heap.objs.size<=a):a∉X.fs:=λhb=>by
 obtain⟨_,o,ho,_⟩:=I.ok.funs.mem hb;exact absurd (M2 (C4 ho) (K1 I.sz h)) (U9 _)
def Inv.cne (I:Inv X jb σ H s):∀x c,X.env.cells.lookup x=some c->c≠X.env.locals:=λx c e z=>by
 obtain⟨v,o,ho,hd⟩:=I.cell x c e;obtain⟨m,⟨o',es,ep,ho',hd',_⟩,_⟩:=I.loc;rw[z,ho'] at ho;cases ho;rw[hd'] at hd;cases hd
theorem Inv.funs (I:Inv X jb σ H s):s.heap.FunFrames X.base X.outer:=by
 have all:∀(l:List Env),(∀b∈frs l,b∈X.fs)->X.s₀.heap.FunFrames X.base l->s.heap.FunFrames X.base l:=by
  intro l
  induction l with
  |nil=>intro _ _;trivial
  | cons env r ih =>
   intro hs hl;obtain⟨hk,⟨L,o,hf,hn,ho,hd⟩,hr⟩:=hl;have hL:L∈X.fs:=hs L (by unfold frs;rw[x9,hf];exact B8);obtain⟨sl,e⟩:=I.base.slot L o ho (I.ok.frf L hL) hL λz=>I.ok.exfs L z hL;exact⟨hk,⟨L,_,hf,hn,e,hd⟩,ih (λb hb=>hs b (by unfold frs;rw[x9,hf];exact B6 _ hb)) hr⟩
 exact all X.outer (λ_ hb=>hb) I.ok.funs
theorem Inv.stack (I:Inv X jb σ H s):s.heap.FunFrames X.base X.stack:=by
 rcases I.ok.stk with e|⟨e,hf⟩
 ·rw[e];exact I.funs
 ·rw[e];obtain⟨m,hn,_⟩:=I.loc;refine .cons (by rw[I.ok.kind];decide) hf hn ?_ I.funs;exact Heap.get?_none_of_le (K1 I.ok.bsz I.ok.above)
def Inv.stkSub (I:Inv X jb σ H s):∀b∈frs X.stack,b∈X.env.locals::X.fs:=λb hb=>by
 rcases I.ok.stk with e|⟨e,hf⟩
 ·rw[e] at hb;exact B6 _ hb
 ·rw[e] at hb;unfold frs at hb;rw[x9,hf] at hb;exact hb
def Inv.stkFree (I:Inv X jb σ H s):∀b∈frs X.stack,H b=none:=λb hb=>by
 rcases B5.mp (I.stkSub b hb) with e|hb
 ·rw[e];exact I.free
 ·obtain⟨_,o,ho,_⟩:=I.ok.funs.mem hb;exact I.base.free b o ho (I.ok.frf b hb) λz=>I.ok.exfs b z hb
def Inv.step {ch:List A1}(I:Inv X jb σ H s)
   (hch:∀b∈ch,(b∈X.ex\/X.s₀.heap.objs.size<=b)/\b≠X.env.locals/\(∀x c,X.env.cells.lookup x=some c->c≠b)/\∀p∈X.pn++jb,p.1≠b)
   (keep:∀b o,b≠X.env.locals->b∉X.fs->b∉ch->s.heap.get? b=some o->H b=none->h'.get? b=some o)
   (slot:∀b o,b≠X.env.locals->b∈X.fs->b∉ch->s.heap.get? b=some o->H b=none->∃sl,h'.get? b=some { o with slots:=sl }) (free:∀b o,b∉ch->s.heap.get? b=some o->H b=none->H' b=none)
   (there:∀b o,b∉ch->s.heap.get? b=some o->∃o',h'.get? b=some o')
   (tups:∀b xs,H b=some (.tup xs)->H' b=some (.tup xs)) (frzs:∀b o u,H b=some (.frz o u)->H' b=some (.frz o u)) (tbls:∀b ps,H b=some (.tbl ps)->∃more,H' b=some (.tbl (ps++more))) (sys:NS H->NS H')
   (ns:∀m,s.heap.Ns X.env.locals m->h'.Ns X.env.locals m) (hok:HOk X.prog X.w H' h') (hg:AllBare g') :
   Inv X jb σ H' { s with heap:=h',gens:=g',drawn:=d',toks:=t' }:=by
 have neL:∀b o,X.s₀.heap.get? b=some o->b≠X.env.locals:=λb o e=>E6 (M2 (C4 e) I.ok.above)
 have neC:∀b o,X.s₀.heap.get? b=some o->b∉X.ex->b∉ch:=λb o e hx hb=>by
  rcases(hch b hb).1 with z|z
  ·exact hx z
  ·exact absurd (M2 (C4 e) z) (U9 _)
 have cellK:∀x c,X.env.cells.lookup x=some c->∀v,s.heap.IsCell c v->h'.IsCell c v:=λx c e v ⟨o,ho,hd⟩=>by
  have nch:c∉ch:=λz=>(hch c z).2.2.1 x c e rfl
  by_cases hc:c∈X.fs
  ·obtain⟨sl,q⟩:=slot c o (I.cne x c e) hc nch ho (I.freeC x c e);exact⟨_,q,hd⟩
  ·exact⟨o,keep c o (I.cne x c e) hc nch ho (I.freeC x c e),hd⟩
 refine⟨I.ok,I.os,hg,⟨λb o e n hb hx=>?_,λb o e n hb hx=>?_,λb o e n hx=>?_,λb o e hx=>?_,λb xs e=>tups b xs (I.base.tups b xs e),λb o xs e=>frzs b o xs (I.base.frzs b o xs e),λb ps e=>?_,λz=>sys (I.base.sys z)⟩,?_,λx c e=>?_,?_,λx c e=>?_,λp hp=>?_,hok,I.len⟩
 ·exact keep b o (neL b o e) hb (neC b o e hx) (I.base.keep b o e n hb hx) (I.base.free b o e n hx)
 ·obtain⟨sl,e1⟩:=I.base.slot b o e n hb hx;obtain⟨sl',e2⟩:=slot b _ (neL b o e) hb (neC b o e hx) e1 (I.base.free b o e n hx);exact⟨sl',e2⟩
 ·obtain⟨o',e1⟩:=I.base.there b o e hx;exact free b o' (neC b o e hx) e1 (I.base.free b o e n hx)
 ·obtain⟨o',e1⟩:=I.base.there b o e hx;exact there b o' (neC b o e hx) e1
 ·obtain⟨m1,e1⟩:=I.base.tbls b ps e;obtain⟨m2,e2⟩:=tbls b _ e1;exact⟨m1++m2,by rw[e2,Array.append_assoc]⟩
 ·obtain⟨m,hn,hl⟩:=I.loc;refine⟨m,ns m hn,λi x v e1 e2 e3=>?_⟩;obtain⟨u,r,l⟩:=hl i x v e1 e2 e3;refine⟨u,r,?_⟩;rcases l with l|⟨k,c,e,z⟩
  ·exact .inl l
  ·exact .inr ⟨k,c,e,cellK x c e _ z⟩
 ·obtain⟨v,z⟩:=I.cell x c e;exact⟨v,cellK x c e v z⟩
 ·obtain⟨m,⟨o,_,_,ho,_⟩,_⟩:=I.loc;exact free _ o (λz=>(hch _ z).2.1 rfl) ho I.free
 ·obtain⟨v,o,ho,hd⟩:=I.cell x c e;exact free c o (λz=>(hch c z).2.2.1 x c e rfl) ho (I.freeC x c e)
 ·obtain⟨e,n,ne,nf,d⟩:=I.pin p hp;have nch:p.1∉ch:=λz=>(hch p.1 z).2.2.2 p hp rfl;exact⟨keep p.1 p.2 ne nf nch e n,free p.1 p.2 nch e n,ne,nf,d⟩
def Inv.un (I:Inv X jb σ H s)(u:Un X.fs [] H H' s.heap h')(hok:HOk X.prog X.w H' h'):Inv X jb σ H' { s with heap:=h',toks:=t' }:=by
 obtain⟨m,⟨o,es,ep,ho,r⟩,_⟩:=id I.loc;obtain⟨sl,hL⟩:=u.any ho I.free 0o0
 exact I.step (g':=s.gens) (d':=s.drawn) (ch:=[]) (λ_ z=>nomatch z) (λb o _ hb _ e n=>u.keep b o e n hb 0o0) (λb o _ hb _ e n=>u.slot b o e n hb 0o0) (λb o _ e n=>u.free b o e n 0o0) (λb o _ e=>u.there b o e 0o0) u.tups u.frzs u.tbls u.sys (λm' hm=>by
  obtain⟨o',es',ep',ho',r'⟩:=hm;rw[ho] at ho';cases ho'
  exact⟨_,es',ep',hL,r'⟩) hok I.bare
def Inv.call (I:Inv X jb σ H s)(u:Un (frs X.stack) ch H H' s.heap h')(hok:HOk X.prog X.w H' h')(hg:AllBare g')
   (hch:∀b∈ch,(b∈X.ex\/X.s₀.heap.objs.size<=b)/\b≠X.env.locals/\(∀x c,X.env.cells.lookup x=some c->c≠b)/\∀p∈X.pn++jb,p.1≠b) :
   Inv X jb σ H' { s with heap:=h',gens:=g',drawn:=d',toks:=t' }:=by
 obtain⟨m,⟨o,es,ep,ho,r⟩,_⟩:=id I.loc;obtain⟨sl,hL⟩:=u.any ho I.free λz=>(hch _ z).2.1 rfl
 exact I.step (ch:=ch) hch (λb o hL hb hc e n=>u.keep b o e n (λz=>(B5.mp (I.stkSub b z)).elim hL hb) hc) (λb o _ _ hc e n=>u.any e n hc) (λb o hc e n=>u.free b o e n hc) (λb o hc e=>u.there b o e hc) u.tups u.frzs u.tbls u.sys (λm' hm=>by
  obtain⟨o',es',ep',ho',r'⟩:=hm;rw[ho] at ho';cases ho'
  exact⟨_,es',ep',hL,r'⟩) hok hg
def Inv.turned {t':Nat}{it:A1}(I:Inv X jb σ H s)(k:∀b o,b≠it->s.heap.get? b=some o->h'.get? b=some o)(hn:H it=none)(hL:it≠X.env.locals)
   (h1:it∈X.ex\/X.s₀.heap.objs.size<=it) (h2:∀x c,X.env.cells.lookup x=some c->c≠it) (h3:∀p∈X.pn++jb,p.1≠it):Inv X jb σ H { s with heap:=h',toks:=t' }:=by
 have nit:∀b u,H b=some u->b≠it:=λb u e z=>by rw[z,hn] at e;cases e
 refine I.step (g':=s.gens) (d':=s.drawn) (ch:=[it]) (λb hb=>?_) (λb o _ _ hc e _=>k b o (λz=>hc (by simp[z])) e) (λb o _ _ hc e _=>⟨o.slots,k b o (λz=>hc (by simp[z])) e⟩) (λ_ _ _ _ n=>n)
   (λb o hc e=>⟨o,k b o (λz=>hc (by simp[z])) e⟩) (λ_ _ e=>e) (λ_ _ _ e=>e) (λb ps e=>⟨#[],by rw[e];simp⟩) (λz=>z) (λm hm=>?_) (λb u e=>?_) I.bare
 ·grind
 ·obtain⟨o,es,ep,ho,r⟩:=hm;exact⟨o,es,ep,k _ o (Ne.symm hL) ho,r⟩
 ·refine(I.hok b u e).stay (λc v hc q=>k c v ?_ q) (λ_ q=>q) λ_ _ q=>q;rcases hc with z|z
  ·grind
  ·grind
def Inv.tok (I:Inv X jb σ H s)(t:Nat):Inv X jb σ H { s with toks:=t }:=I.un (h':=s.heap) (t':=t) Un.refl I.hok
theorem Inv.kept (I:Inv X jb σ H s)(k:∀b u,s.heap.get? b=some u->h'.get? b=some u):Inv X jb σ H { s with heap:=h',toks:=t' }:=I.un (Un.kept k) (I.hok.kept k)
theorem Inv.laid (I:Inv X jb σ H s)(k:∀b u,s.heap.get? b=some u->h'.get? b=some u)(hp:s.heap.objs.size<=a)(new:F9 X.prog X.w (upd H a o) h' a o) :
   Inv X jb σ (upd H a o) { s with heap:=h',toks:=t' }:=I.un (Un.laid k hp (I.hok.fresh hp) I.bigS) (I.hok.laid k hp new)
theorem Inv.write (I:Inv X jb σ H s)(mu:Mut (H x))(he:e=x\/H e=some (.own x))(k:∀b u,b≠e->s.heap.get? b=some u->h'.get? b=some u)(heo:∃u,h'.get? e=some u)
   (new:F9 X.prog X.w (upd H x o) h' x o):Inv X jb σ (upd H x o) { s with heap:=h',toks:=t' }:=I.un (Un.write mu he k heo) (I.hok.write mu he k heo new)
def Inv.pins_of (I:Inv X jb σ H s)(h:∀p∈pins',s.heap.get? p.1=some p.2/\H p.1=none/\p.1≠X.env.locals/\p.1∉X.fs/\∀v,p.2.data≠.cell v):Inv X pins' σ H s:=
 ⟨I.ok,I.os,I.bare,I.base,I.loc,I.cell,I.free,I.freeC,λp hp=>(D7.mp hp).elim (λz=>I.pin p (AQ _ z)) (h p),I.hok,I.len⟩
def J_ {N:List Str}(hN:N.Nodup){i j:Nat}{x:Str}(a:N[i]?=some x)(b:N[j]?=some x):i=j:=by
 obtain⟨h1,e1⟩:=D3.mp a;obtain⟨h2,e2⟩:=D3.mp b;exact(List.getElem_inj hN).mp (e1.trans e2.symm)
def Ka (I:Inv X jb σ H s)(hN:X.N.Nodup)(hi:X.N[i]?=some x)(hx:Loc X.env.scope x)(r:RelV v u)
   (h:∀s',Inv X jb (σ.set i (some v)) H s'->(∃a,U5 a s.heap s'.heap/\(a=X.env.locals\/X.env.cells.lookup x=some a))->Q () s') (hf:X.fn x=true\/X.env.scope.names.lookup x=some .local:=by first|exact .inl rfl|exact .inr rfl|assumption):A5 M A (storeName X.env x u) Q E s:=by
 obtain⟨m,hn,hl⟩:=id I.loc;have hcls:(X.env.scope.kind == .class||(X.env.scope.kind == .module&&X.env.locals != X.env.globals))=false:=by rw[I.ok.kind];rfl
 have hiσ:i<σ.length:=by rw[I.len];exact(D3.mp hi).1
 have cne:=I.cne
 have tracked:∀{a:A1} {h':B3},(∃o,s.heap.get? a=some o/\H a=none)->U5 a s.heap h'->HOk X.prog X.w H h':=λ{a h'} ha hs b ob e=>by
  obtain⟨_,_,hfree⟩:=ha;refine(I.hok b ob e).stay (λc w' hc q=>(hs.2 c ?_).trans q) (λ_ q=>q) λ_ _ q=>q;rintro rfl;rcases hc with rfl|hc
  ·rw[hfree] at e;cases e
  ·rw[hfree] at hc;cases hc
 rcases hx with hk|hk
 ·refine wpAny_storeName_local hk hn (λh' hn' hs=>?_) hcls;obtain⟨oL,_,_,hoL,_⟩:=id hn;refine h _ ⟨I.ok,I.os,I.bare,⟨λb o e n hb hx=>?_,λb o e n hb hx=>?_,I.base.free,λb o e hx=>?_,I.base.tups,I.base.frzs,I.base.tbls,I.base.sys⟩,⟨_,hn',λj y v' e1 e2 e3=>?_⟩,λy c e=>?_,I.free,I.freeC,λp hp=>?_,tracked ⟨oL,hoL,I.free⟩ hs,by simpa using I.len⟩ ⟨_,hs,.inl rfl⟩
  ·exact(hs.2 b (E6 (M2 (C4 e) I.ok.above))).trans (I.base.keep b o e n hb hx)
  ·obtain⟨sl,e1⟩:=I.base.slot b o e n hb hx;exact⟨sl,(hs.2 b (E6 (M2 (C4 e) I.ok.above))).trans e1⟩
  ·obtain⟨o',e1⟩:=I.base.there b o e hx;exact⟨o',(hs.2 b (E6 (M2 (C4 e) I.ok.above))).trans e1⟩
  ·by_cases hj:j=i
   ·subst hj;rw[hi] at e1;cases e1;rw[N4 hiσ] at e2;cases e2;exact⟨u,r,.inl ⟨hk,0o0⟩⟩
   ·rw[M8 (Ne.symm hj)] at e2;obtain⟨u',r',q⟩:=hl j y v' e1 e2 e3;refine⟨u',r',?_⟩;rcases q with⟨k,e⟩|⟨k,c,e,z⟩
    ·refine .inl ⟨k,?_⟩;have:y≠x:=λe=>hj (J_ hN e1 (e▸hi));simp[this,e]
    ·exact .inr ⟨k,c,e,z.sameBut hs (cne y c e)⟩
  ·obtain⟨w',z⟩:=I.cell y c e;exact⟨w',z.sameBut hs (cne y c e)⟩
  ·obtain⟨e,n,ne,nf,d⟩:=I.pin p hp;exact⟨(hs.2 p.1 ne).trans e,n,ne,nf,d⟩
 ·have hfn:X.fn x=true:=by
   rcases hf with z|z
   ·exact z
   ·rw[z] at hk;cases hk
  obtain⟨c,hc⟩:=I.ok.has x (.inl hk);obtain⟨w',z⟩:=I.cell x c hc;refine wpAny_storeName_cell I.ok.kind hk hc z (λh' hc' hs=>?_);obtain⟨oc,hoc,hocd⟩:=id z;refine h { s with heap:=h' } ⟨I.ok,I.os,I.bare,⟨λb o e n hb hx=>?_,λb o e n hb hx=>?_,I.base.free,λb o e hx=>?_,I.base.tups,I.base.frzs,I.base.tbls,I.base.sys⟩,⟨m,hn.sameBut hs (Ne.symm (cne x c hc)),λj y v' e1 e2 e3=>?_⟩,λy c' e=>?_,I.free,I.freeC,λp hp=>?_,tracked ⟨oc,hoc,I.freeC x c hc⟩ hs,by simpa using I.len⟩ ⟨c,hs,.inr hc⟩
  ·exact(hs.2 b (E6 (M2 (C4 e) (I.ok.cab x c hfn hc)))).trans (I.base.keep b o e n hb hx)
  ·obtain⟨sl,e1⟩:=I.base.slot b o e n hb hx;exact⟨sl,(hs.2 b (E6 (M2 (C4 e) (I.ok.cab x c hfn hc)))).trans e1⟩
  ·obtain⟨o',e1⟩:=I.base.there b o e hx;exact⟨o',(hs.2 b (E6 (M2 (C4 e) (I.ok.cab x c hfn hc)))).trans e1⟩
  ·by_cases hj:j=i
   ·subst hj;rw[hi] at e1;cases e1;rw[N4 hiσ] at e2;cases e2;exact⟨u,r,.inr ⟨.inl hk,c,hc,hc'⟩⟩
   ·rw[M8 (Ne.symm hj)] at e2;obtain⟨u',r',q⟩:=hl j y v' e1 e2 e3;refine⟨u',r',?_⟩;rcases q with q|⟨k,c',e,z'⟩
    ·exact .inl q
    ·refine .inr ⟨k,c',e,z'.sameBut hs ?_⟩;rintro rfl;exact hj (J_ hN e1 (I.ok.inj _ _ _ e hc▸hi))
  ·by_cases hcc:c'=c
   ·subst hcc;exact⟨_,hc'⟩
   ·obtain⟨w2,z2⟩:=I.cell y c' e;exact⟨w2,z2.sameBut hs hcc⟩
  ·obtain⟨e,n,ne,nf,d⟩:=I.pin p hp;refine⟨(hs.2 p.1 ?_).trans e,n,ne,nf,d⟩;intro q;rw[q,hoc] at e;have q':oc=p.2:=L4 e;exact d w' (by rw[<- q'];exact hocd)
def Cu (I:Inv X jb σ H s)(hN:X.N.Nodup)(hi:X.N[i]?=some x)(hx:Loc X.env.scope x)(r:RelV v u)
   (h:∀s',Inv X jb (σ.set i (some v)) H s'->Q () s') (hf:X.fn x=true\/X.env.scope.names.lookup x=some .local:=by first|exact .inl rfl|exact .inr rfl|assumption):A5 M A (storeName X.env x u) Q E s:=
 Ka I hN hi hx r (λs' I' _=>h s' I') hf
end
abbrev XK:=A3->Option A1->Hp->Prop
abbrev St:=List (Option V)
abbrev VK:=V->Hp->Prop
abbrev TE:=St->Hp->VK->Prop
abbrev TT:=St->Hp->(Bool->Hp->Prop)->Prop
abbrev TA:=St->Hp->(List V->Hp->Prop)->Prop
structure Ends where
 nx:St->Hp->Prop
 rt:VK
 bk:St->Hp->Prop:=λ_ _=>False
 ct:St->Hp->Prop:=λ_ _=>False
abbrev TS:=Ends->St->Hp->Prop
def EP (X:Cx)(jb:List (A1×Obj))(σ:St)(Q:VK)(u:A3)(s':A4):Prop:=∃v H',Inv X jb σ H' s'/\RelV v u/\Q v H'
def TP (X:Cx)(jb:List (A1×Obj))(σ:St)(Q:Bool->Hp->Prop)(b:Bool)(s':A4):Prop:=∃H',Inv X jb σ H' s'/\Q b H'
def AP (X:Cx)(jb:List (A1×Obj))(σ:St)(Q:List V->Hp->Prop)(us:List A3)(s':A4):Prop:=∃vs H',Inv X jb σ H' s'/\Vals vs us/\Q vs H'
def SP (X:Cx)(jb:List (A1×Obj))(D:Ends)(f:Flow)(s':A4):Prop:=
 match f with
 |.next=>∃σ' H',Inv X jb σ' H' s'/\D.nx σ' H'
 |.brk=>∃σ' H',Inv X jb σ' H' s'/\D.bk σ' H'
 |.cont=>∃σ' H',Inv X jb σ' H' s'/\D.ct σ' H'
 |.ret u=>∃v σ' H',Inv X jb σ' H' s'/\RelV v u/\D.rt v H'
def PE (X:Cx)(e:Expr)(t:TE):Prop:=
 ∀(jb:List (A1×Obj)) (s:A4) (σ:St) (H:Hp) (Q:VK),Inv X jb σ H s->t σ H Q->A5 (A7 X.prog X.w) X.A (eval e X.env) (EP X jb σ Q) X.xe s
def PT (X:Cx)(e:Expr)(t:TT):Prop:=
 ∀(jb:List (A1×Obj)) (s:A4) (σ:St) (H:Hp) (Q:Bool->Hp->Prop),Inv X jb σ H s->t σ H Q->A5 (A7 X.prog X.w) X.A (isTrue e X.env (eval e X.env)) (TP X jb σ Q) X.xe s
def PW (X:Cx)(e:Expr)(t:TT):Prop:=
 ∀(whole:Sem A3) (jb:List (A1×Obj)) (s:A4) (σ:St) (H:Hp) (Q:Bool->Hp->Prop),Inv X jb σ H s->t σ H Q->A5 (A7 X.prog X.w) X.A (isTrue e X.env whole) (TP X jb σ Q) X.xe s
def PW.pt (h:PW X e t):PT X e t:=h _
def PA (X:Cx)(es:List Expr)(t:TA):Prop:=
 ∀(pos:Pos) (jb:List (A1×Obj)) (s:A4) (σ:St) (H:Hp) (Q:List V->Hp->Prop),Inv X jb σ H s->t σ H Q->A5 (A7 X.prog X.w) X.A (spliced (backTo pos (D6 es X.env))) (AP X jb σ Q) X.xe s
def PS (X:Cx)(st:Stmt)(t:TS):Prop:=
 ∀(jb:List (A1×Obj)) (s:A4) (σ:St) (H:Hp) (D:Ends),Inv X jb σ H s->t D σ H->A5 (A7 X.prog X.w) X.A (exec st X.env) (SP X jb D) X.xe s
def PSs (X:Cx)(st:List Stmt)(t:TS):Prop:=
 ∀(jb:List (A1×Obj)) (s:A4) (σ:St) (H:Hp) (D:Ends),Inv X jb σ H s->t D σ H->A5 (A7 X.prog X.w) X.A (execs st X.env) (SP X jb D) X.xe s
def thn {α:Type}{t:Sem α}{Q Q':α->A4->Prop}{M:Model}{A:D0}{E:A3->A4->Prop}{s:A4}(h:A5 M A t Q E s)(hQ:∀a s,Q a s->Q' a s):A5 M A t Q' E s:=G5 h hQ λ_ _ x=>x
section
variable {X:Cx}
def tVar (i:Nat):TE:=λσ H Q=>∃v,σ[i]?=some (some v)/\Q v H
def tC (v:V):TE:=λ_ H Q=>Q v H
def Kb (hN:X.N[i]?=some x)(hv:Vis X.env.scope x)(hd:(x == ("__debug__":Str))=false:=by decide)(hcd:(x == ("__classdict__":Str))=false:=by decide):PE X (.Name x pos) (tVar i):=by
 intro jb s σ H Q I h;obtain⟨v,e,h⟩:=h;obtain⟨m,hn,hl⟩:=I.loc;obtain⟨u,r,l⟩:=hl i x v hN e hv;have fin:EP X jb σ Q u s:=⟨v,H,I,r,h⟩;rcases l with⟨hk,hm⟩|⟨hk,c,hc,hcell⟩
 ·exact wpAny_Name (wpAny_loadName_local I.ok.kind hk hn hm fin) hd
 ·rcases hk with hk|hk
  ·exact wpAny_Name (wpAny_loadName_cell I.ok.kind hk hc hcell fin) hd
  ·exact wpAny_Name (wpAny_loadName_free I.ok.kind hk hc hcell fin hcd) hd
def L5 {i j pos}:PE X (.Constant (.int i) j pos) (tC (.int i)):=λ_ _ _ H _ I h=>wpAny_Constant_int ⟨.int i,H,I.tok _,⟨_,rfl⟩,h⟩
def pe_bl {b j pos}:PE X (.Constant (.bool b) j pos) (tC (.bl b)):=λ_ _ _ H _ I h=>Constant_bool ⟨.bl b,H,I,rfl,h⟩
def pe_non {j pos}:PE X (.Constant .none j pos) (tC .non):=λ_ _ _ H _ I h=>Constant_none ⟨.non,H,I,rfl,h⟩
def K9 {x j pos}:PE X (.Constant (.str x) j pos) (tC (.str x)):=λ_ _ _ H _ I h=>Calls.Constant_str ⟨.str x,H,I.tok _,⟨_,rfl⟩,h⟩
def Gl (X:Cx)(x:Str):Prop:=X.env.kindOf x=some .globalImplicit
def Kc (I:Inv X jb σ H s)(hg:Gl X x)(hm:X.mg x=some u)(h:Q u s)
   (hd:(x == ("__debug__":Str))=false:=by decide):A5 (A7 X.prog X.w) X.A (eval (.Name x pos) X.env) Q E s:=
 Calls.Name_function_global I.ok.kind hg (Calls.loadGlobal_global (by rw[I.ok.glob];exact I.mod.glob.keeps I.bk) hm h) hd
def Y8 (I:Inv X jb σ H s)(hg:Gl X x)(hm:X.mg x=none)(hv:J5 x=some u)(h:Q u s)
   (hn:x≠"__name__":=by decide) (hd:(x == ("__debug__":Str))=false:=by decide):A5 (A7 X.prog X.w) X.A (eval (.Name x pos) X.env) Q E s:=by
 obtain⟨mb,h1,h2⟩:=I.mod.blt;exact Calls.Name_function_global I.ok.kind hg (Calls.loadGlobal_builtin (by rw[I.ok.glob];exact I.mod.glob.keeps I.bk) hm (by rw[I.ok.blt];exact h1.keeps I.bk) ((h2 x hn).trans hv) h) hd
def Om {x:Str}{v:V}{u:A3}{pos:Pos}(hg:Gl X x)(hm:X.mg x=some u)(r:RelV v u)(hd:(x == ("__debug__":Str))=false:=by decide):PE X (.Name x pos) (tC v):=
 λ_ _ _ H _ I h=>Kc I hg hm ⟨v,H,I,r,h⟩ hd
def On (hg:Gl X x)(hm:X.mg x=none)(hv:J5 x=some u)(r:RelV v u)(hn:x≠"__name__":=by decide)(hd:(x == ("__debug__":Str))=false:=by decide):PE X (.Name x pos) (tC v):=
 λ_ _ _ H _ I h=>Y8 I hg hm hv ⟨v,H,I,r,h⟩ hn hd
variable {a b:Expr}{ta tb:TE}{pos:Pos}
def tB (t:TE):TT:=λσ H Q=>t σ H λx H1=>∃c,x=.bl c/\Q c H1
def pt_val (h:PE X e t)(he:∀whole,isTrue e X.env whole=(do let v ← whole;Y0 e.pos;Q3 [v] (truthy v)):=by intro _;rfl):PT X e (tB t):=by
 intro jb s σ H Q I hw;refine isTrue_plain (thn (h jb s σ H _ I hw) λv s1 ⟨x,H1,I1,r1,q1⟩=>?_) (he _);obtain⟨d,rfl,q⟩:=q1;cases r1;exact X6 ⟨H1,I1,q⟩
variable {tA tB':TT}{rest:List Expr}
def tAnd (t u:TT):TT:=λσ H Q=>t σ H λc H1=>if c=true then u σ H1 Q else Q false H1
def tOr (t u:TT):TT:=λσ H Q=>t σ H λc H1=>if c=true then Q true H1 else u σ H1 Q
def tNot (t:TT):TT:=λσ H Q=>t σ H λc H1=>Q (!c) H1
def Kd (ha:PT X a tA):PW X (.BoolOp .And [a] pos) tA:=by
 intro wh jb s σ H Q I h;refine isTrue_and (thn (ha jb s σ H Q I h) λc s1 e=>?_);cases c with
 |true=>exact isTrue_and_nil e
 |false=>exact e
def pw_or1 (ha:PT X a tA):PW X (.BoolOp .Or [a] pos) tA:=by
 intro wh jb s σ H Q I h;refine isTrue_or (thn (ha jb s σ H Q I h) λc s1 e=>?_);cases c with
 |false=>exact isTrue_or_nil e
 |true=>exact e
def Ke (ha:PT X a tA)(hb:PW X (.BoolOp .And (b::rest) pos) tB'):PW X (.BoolOp .And (a::b::rest) pos) (tAnd tA tB'):=by
 intro wh jb s σ H Q I h;refine isTrue_and (thn (ha jb s σ H _ I h) λc s1 ⟨H1,I1,q1⟩=>?_);cases c with
 |true=>exact hb wh jb s1 σ H1 Q I1 q1
 |false=>exact⟨H1,I1,q1⟩
def pw_or (ha:PT X a tA)(hb:PW X (.BoolOp .Or (b::rest) pos) tB'):PW X (.BoolOp .Or (a::b::rest) pos) (tOr tA tB'):=by
 intro wh jb s σ H Q I h;refine isTrue_or (thn (ha jb s σ H _ I h) λc s1 ⟨H1,I1,q1⟩=>?_);cases c with
 |true=>exact⟨H1,I1,q1⟩
 |false=>exact hb wh jb s1 σ H1 Q I1 q1
def pt_not (ha:PT X a tA):PT X (.UnaryOp .Not a pos) (tNot tA):=by
 intro jb s σ H Q I h;exact isTrue_not (ha jb s σ H (λc H1=>Q (!c) H1) I h)
def tAndV (ta tb:TE):TE:=λσ H Q=>ta σ H λx H1=>∃c,x=.bl c/\if c=true then tb σ H1 Q else Q (.bl false) H1
def tOrV (ta tb:TE):TE:=λσ H Q=>ta σ H λx H1=>∃c,x=.bl c/\if c=true then Q (.bl true) H1 else tb σ H1 Q
def pe_one {op}{t:TE}(h:PE X a t):PE X (.BoolOp op [a] pos) t:=λjb s σ H Q I hw=>BoolOp_one (h jb s σ H Q I hw)
def pe_and (ha:PE X a ta)(hb:PE X (.BoolOp .And (b::rest) pos) tb):PE X (.BoolOp .And (a::b::rest) pos) (tAndV ta tb):=by
 intro jb s σ H Q I h;refine BoolOp_and (thn (ha jb s σ H _ I h) λv s1 ⟨x,H1,I1,r1,q1⟩=>?_);obtain⟨c,rfl,q1⟩:=q1;cases r1;refine X6 ?_;cases c with
 |true=>exact hb jb s1 σ H1 Q I1 q1
 |false=>exact⟨.bl false,H1,I1,rfl,q1⟩
def pe_or (ha:PE X a ta)(hb:PE X (.BoolOp .Or (b::rest) pos) tb):PE X (.BoolOp .Or (a::b::rest) pos) (tOrV ta tb):=by
 intro jb s σ H Q I h;refine BoolOp_or (thn (ha jb s σ H _ I h) λv s1 ⟨x,H1,I1,r1,q1⟩=>?_);obtain⟨c,rfl,q1⟩:=q1;cases r1;refine X6 ?_;cases c with
 |false=>exact hb jb s1 σ H1 Q I1 q1
 |true=>exact⟨.bl true,H1,I1,rfl,q1⟩
def tIf (t:TT)(ta tb:TE):TE:=λσ H Q=>t σ H λc H1=>if c=true then ta σ H1 Q else tb σ H1 Q
def Oo (hc:PT X c tA)(ha:PE X a ta)(hb:PE X b tb):PE X (.IfExp c a b pos) (tIf tA ta tb):=by
 intro jb s σ H Q I h;refine wpAny_IfExp (thn (hc jb s σ H _ I h) λd s1 ⟨H1,I1,q1⟩=>?_);cases d with
 |true=>exact ha jb s1 σ H1 Q I1 q1
 |false=>exact hb jb s1 σ H1 Q I1 q1
end
def SqL (K:A8)(H:Hp)(a:A1)(xs:List V):Prop:=
 Rd H a (.lst xs)\/
   ∃(o:Obj) (jf:Array A3) (n:Nat),K.lookup a=some o/\o.cls=.type "list"/\o.dict=none/\o.data=.seq jf n/\jf.size<=B4/\Vals xs jf.toList
def SqT (K:A8)(H:Hp)(a:A1)(xs:List V):Prop:=
 Rd H a (.tup xs)\/
   ∃(o:Obj) (jf:Array A3) (n:Nat),K.lookup a=some o/\o.cls=.type "tuple"/\o.data=.seq jf n/\jf.size<=B4/\Vals xs jf.toList
noncomputable def absV:A3->Option V
 |.none=>some .non
 |.bool b=>some (.bl b)
 |.int i _=>some (.int i)
 |.str x _=>some (.str x)
 |.bytes b _=>some (.byt b)
 |.float b _=>some (.flt b)
 |.ref a=>some (.ref a)
 |.type n=>some (.ty n)
 |_=>none
def RelV.abs {x:V}{u:A3}(r:RelV x u):absV u=some x:=by grind [RelV,V,absV]
def RelV.inj {x y:V}{u:A3}(r:RelV x u)(q:RelV y u):x=y:=by grind [RelV,V]
theorem Vals.inj (h:Vals xs us)(h':Vals ys us):xs=ys:=by
 induction h generalizing ys with
 |nil=>cases h';rfl
 |cons r t ih=>cases h' with|cons r' t'=>rw[r.inj r',ih t']
section
variable {X:Cx}{jb:List (A1×Obj)}{σ:St}{H:Hp}{s:A4}{a:A1}{xs ys:List V}
def SqL.of {K:A8}(h:H a=some (.lst xs)):SqL K H a xs:=.inl (.inl h)
def SqT.of {K:A8}(h:H a=some (.tup xs)):SqT K H a xs:=.inl (.inl h)
def Inv.list (I:Inv X jb σ H s)(h:SqL X.K H a xs):∃jf:List A3,Vals xs jf/\PlainL s.heap a jf.toArray/\xs.length<=B4:=by
 rcases h with h|⟨o,jf,n,hk,hc,hd,hs,hz,r⟩
 ·obtain⟨z,jf,n,r,e⟩:=h.ok I.hok;exact⟨jf,r,⟨_,n,e,rfl,rfl,rfl⟩,z⟩
 ·refine⟨jf.toList,r,⟨o,n,I.kIn a o hk,hc,hd,by simpa using hs⟩,?_⟩;have e:=r.length;simp only[M3] at e;omega
def Inv.tuple (I:Inv X jb σ H s)(h:SqT X.K H a xs):∃jf:List A3,Vals xs jf/\IsTup s.heap a jf.toArray/\xs.length<=B4:=by
 rcases h with h|⟨o,jf,n,hk,hc,hs,hz,r⟩
 ·obtain⟨z,jf,r,p⟩:=h.ok I.hok;exact⟨jf,r,p.is,z⟩
 ·refine⟨jf.toList,r,⟨o,I.kIn a o hk,hc,n,by simpa using hs⟩,?_⟩;have e:=r.length;simp only[M3] at e;omega
def Inv.list_inj (I:Inv X jb σ H s)(h:SqL X.K H a xs)(h':SqL X.K H a ys):xs=ys:=by
 obtain⟨jf,r,⟨o,n,e,_,_,d⟩,_⟩:=I.list h;obtain⟨its',r',⟨o',n',e',_,_,d'⟩,_⟩:=I.list h';rw[e] at e';cases e';rw[d] at d';injection d' with d1 _;have:jf=its':=by simpa using congrArg Array.toList d1
 subst this;exact r.inj r'
def Inv.tuple_inj (I:Inv X jb σ H s)(h:SqT X.K H a xs)(h':SqT X.K H a ys):xs=ys:=by
 obtain⟨jf,r,⟨o,e,_,n,d⟩,_⟩:=I.tuple h;obtain⟨its',r',⟨o',e',_,n',d'⟩,_⟩:=I.tuple h';rw[e] at e';cases e';rw[d] at d';injection d' with d1 _;have:jf=its':=by simpa using congrArg Array.toList d1
 subst this;exact r.inj r'
end
abbrev Cx.wish (X:Cx)(E:A3->A4->Prop):Cx:={ X with xe:=E }
abbrev Cx.nox (X:Cx):Cx:=X.wish λ_ _=>False
theorem Cx.Ok.wish {X:Cx}(ok:X.Ok)(E:A3->A4->Prop):(X.wish E).Ok:=
 ⟨ok.mod,ok.kind,ok.glob,ok.blt,ok.above,ok.inj,ok.has,ok.cab,ok.hd,ok.frames,ok.stk,ok.exf,ok.bs,ok.bsz,ok.noex,ok.exfs,ok.funs,ok.frf,ok.nos⟩
def Cx.Ok.unwish {X:Cx}(ok:(X.wish E).Ok):X.Ok:=
 ⟨ok.mod,ok.kind,ok.glob,ok.blt,ok.above,ok.inj,ok.has,ok.cab,ok.hd,ok.frames,ok.stk,ok.exf,ok.bs,ok.bsz,ok.noex,ok.exfs,ok.funs,ok.frf,ok.nos⟩
section
variable {X:Cx}{jb:List (A1×Obj)}{σ:St}{H:Hp}{s:A4}{E:A3->A4->Prop}
theorem Inv.wish (I:Inv X jb σ H s)(E:A3->A4->Prop):Inv (X.wish E) jb σ H s:=⟨I.ok.wish E,I.os,I.bare,I.base,I.loc,I.cell,I.free,I.freeC,I.pin,I.hok,I.len⟩
theorem Inv.unwish (I:Inv (X.wish E) jb σ H s):Inv X jb σ H s:=⟨I.ok.unwish,I.os,I.bare,I.base,I.loc,I.cell,I.free,I.freeC,I.pin,I.hok,I.len⟩
theorem SP.unwish (h:SP (X.wish E) jb D f s'):SP X jb D f s':=by
 cases f with
 |next=>obtain⟨σ',H',I,q⟩:=h;exact⟨σ',H',I.unwish,q⟩
 |brk=>obtain⟨σ',H',I,q⟩:=h;exact⟨σ',H',I.unwish,q⟩
 |cont=>obtain⟨σ',H',I,q⟩:=h;exact⟨σ',H',I.unwish,q⟩
 |ret u=>obtain⟨v,σ',H',I,r,q⟩:=h;exact⟨v,σ',H',I.unwish,r,q⟩
theorem PSs.nox {st:List Stmt}(h:PSs X.nox st t):PSs X st t:=λjb s σ H D I hw=>
 G5 (h jb s σ H D (I.wish _) hw) (λ_ _ q=>q.unwish) λ_ _ z=>Y7 z
end
section
variable {X:Cx}{st:Stmt}{rest:List Stmt}{t u:TS}{e:Expr}{te:TE}{pos:Pos}
def tNext:TS:=λD σ H=>D.nx σ H
def tSeq (t u:TS):TS:=λD σ H=>t { D with nx:=u D } σ H
def Gy:PSs X [] tNext:=λ_ _ σ H _ I h=>DC ⟨σ,H,I,h⟩
def e9 (h1:PS X st t)(h2:PSs X rest u):PSs X (st::rest) (tSeq t u):=by
 intro jb s σ H D I h;refine wpAny_execs_cons (thn (h1 jb s σ H { D with nx:=u D } I h) λf s1 q=>?_);cases f with
 | next =>
  obtain⟨σ',H',I',q⟩:=q;exact h2 jb s1 σ' H' D I' q
 |ret v=>exact q
 |brk=>exact q
 |cont=>exact q
def Cv (h1:PS X st t):PSs X [st] t:=by
 intro jb s σ H D I h;refine wpAny_execs_cons (thn (h1 jb s σ H D I h) λf s1 q=>?_);cases f with
 |next=>exact DC q
 |ret v=>exact q
 |brk=>exact q
 |cont=>exact q
def Inv.quiet (I:Inv X jb σ H s):interactive X.env=false:=by simp[interactive,I.ok.kind]
def Gz (te:TE):TS:=λD σ H=>te σ H λ_ H1=>D.nx σ H1
def Op (he:PE X e te)(hs:X9 e none pos.line X.env=pure false:=by rfl):PS X (.Expr e pos) (Gz te):=by
 intro jb s σ H D I h;exact wpAny_Expr_any (thn (he jb s σ H _ I h) λv s1 ⟨x,H1,I1,r1,q1⟩=>⟨σ,H1,I1,q1⟩) I.quiet hs
def tRet (te:TE):TS:=λD σ H=>te σ H D.rt
def Cw (he:PE X e te):PS X (.Return (some e) pos) (tRet te):=by
 intro jb s σ H D I h;exact wpAny_Return_some (thn (he jb s σ H _ I h) λv s1 ⟨x,H1,I1,r1,q1⟩=>⟨x,σ,H1,I1,r1,q1⟩)
def tIfS (c:TT)(t u:TS):TS:=λD σ H=>c σ H λb H1=>if b=true then t D σ H1 else u D σ H1
def GA (hc:PT X c tc)(ha:PSs X a t)(hb:PSs X b u):PS X (.If c a b pos) (tIfS tc t u):=by
 intro jb s σ H D I h;refine wpAny_If (thn (hc jb s σ H _ I h) λd s1 ⟨H1,I1,q1⟩=>?_);cases d with
 |true=>exact ha jb s1 σ H1 D I1 q1
 |false=>exact hb jb s1 σ H1 D I1 q1
end
abbrev TG:=V->St->Hp->(St->Hp->Prop)->Prop
abbrev TGs:=List V->St->Hp->(St->Hp->Prop)->Prop
def PG (X:Cx)(target:Expr)(t:TG):Prop:=
 ∀ (jb : List (A1 × Obj)) (s : A4) (σ : St) (H : Hp) (v : V) (u : A3) (Q : St -> Hp -> Prop), Inv X jb σ H s -> RelV v u -> t v σ H Q ->
   A5 (A7 X.prog X.w) X.A (assign target X.env u) (λ_ s'=>∃σ' H',Inv X jb σ' H' s'/\Q σ' H') X.xe s
def PGs (X:Cx)(ts:List Expr)(t:TGs):Prop:=
 ∀ (jb : List (A1 × Obj)) (s : A4) (σ : St) (H : Hp) (vs : List V) (us : List A3) (Q : St -> Hp -> Prop), Inv X jb σ H s -> Vals vs us -> t vs σ H Q ->
   A5 (A7 X.prog X.w) X.A (assignInOrder ((F4 ts X.env).map (·.2)) us) (λ_ s'=>∃σ' H',Inv X jb σ' H' s'/\Q σ' H') X.xe s
abbrev TSet:=V->V->V->Hp->(Hp->Prop)->Prop
def PSet (X:Cx)(t:TSet):Prop:=
 ∀ (jb : List (A1 × Obj)) (s : A4) (σ : St) (H : Hp) (o i v : V) (ov iv u : A3) (Q : Hp -> Prop), Inv X jb σ H s -> RelV o ov -> RelV i iv -> RelV v u -> t o i v H Q ->
   A5 (A7 X.prog X.w) X.A (setItem ov iv u) (λ_ s'=>∃H',Inv X jb σ H' s'/\Q H') X.xe s
abbrev TIp:=V->V->Hp->VK->Prop
def PIp (X:Cx)(op:Operator)(t:TIp):Prop:=
 ∀ (jb : List (A1 × Obj)) (s : A4) (σ : St) (H : Hp) (x y : V) (v u : A3) (Q : VK), Inv X jb σ H s -> RelV x v -> RelV y u -> t x y H Q ->
   A5 (A7 X.prog X.w) X.A (inplaceOp op v u) (EP X jb σ Q) X.xe s
section
variable {X:Cx}{pos:Pos}
def L6 (i:Nat):TG:=λv σ H Q=>Q (σ.set i (some v)) H
def Oq (hN:X.N.Nodup)(hi:X.N[i]?=some x)(hx:Loc X.env.scope x)(hf:X.fn x=true\/X.env.scope.names.lookup x=some .local:=by first|exact .inl rfl|exact .inr rfl|assumption):PG X (.Name x pos) (L6 i):=by
 intro jb s σ H v u Q I r h;exact wpAny_assign_Name (Cu I hN hi hx r (λs' I'=>⟨_,H,I',h⟩) hf)
def gNil:TGs:=λvs σ H Q=>vs=[]/\Q σ H
def V4 (t:TG)(u:TGs):TGs:=λvs σ H Q=>∃v r,vs=v::r/\t v σ H λσ' H'=>u r σ' H' Q
def Ed:PGs X [] gNil:=by
 intro jb s σ H vs us Q I r h;obtain⟨e,h⟩:=h;subst e;cases r;exact assignInOrder_nil ⟨σ,H,I,h⟩
def Bm (h1:PG X e t)(h2:PGs X es u)
   (hs:(F4 (e::es) X.env).map (·.2)=assign e X.env::(F4 es X.env).map (·.2):=by rfl):PGs X (e::es) (V4 t u):=by
 intro jb s σ H vs us Q I r h;obtain⟨v,vr,e1,h⟩:=h;subst e1;cases r with
 | cons r rr =>
  rw[hs];refine assignInOrder_cons (thn (h1 jb s σ H _ _ _ I r h) λ_ s1 ⟨σ1,H1,I1,q1⟩=>?_);exact h2 jb s1 σ1 H1 _ _ Q I1 rr q1
def gTup (K:A8)(n:Nat)(t:TGs):TG:=λv σ H Q=>∃a xs,v=.ref a/\SqT K H a xs/\xs.length=n/\t xs σ H Q
def Ee (hc:X.calm=true)(h:PGs X es t)
   (hn:(F4 es X.env).length=n:=by rfl) (hst:(F4 es X.env).findIdx? (·.1)=none:=by rfl):PG X (.Tuple es k pos) (gTup X.K n t):=by
 intro jb s σ H v u Q I r hw;obtain⟨a,xs,e1,hq,hl,hw⟩:=hw;subst e1;cases r;obtain⟨jf,rv,ht,hz⟩:=I.tuple hq;refine assign_Tuple_tuple (I.ok.hd hc) ht (by simp[hn,<- hl,rv.length]) hst λh' hx=>?_;have I1:Inv X jb σ H { s with heap:=h' }:=I.kept (t':=s.toks) λb o e=>hx b o (E6 (C4 e)) e;exact h jb _ σ H xs _ Q I1 (by simpa using rv) hw
def gSub (to ti:TE)(t:TSet):TG:=λv σ H Q=>to σ H λo H1=>ti σ H1 λi H2=>t o i v H2 λH3=>Q σ H3
def pg_sub (ho:PE X o to)(hi:PE X i ti)(hs:PSet X t)
   (ha:∀v,assign (.Subscript o i pos) X.env v=(do
    let ov ← Q3 [v] (eval o X.env)
    let iv ← Q3 [v,ov] (eval i X.env)
    Y0 pos
    Q3 [v,ov,iv] (setItem ov iv v)
    release [v,ov,iv] []):=by intro _;rfl):PG X (.Subscript o i pos) (gSub to ti t):=by
 intro jb s σ H v u Q I r h;rw[ha];refine A2 (K5 (thn (ho jb s σ H _ I h) λov s1 ⟨x,H1,I1,r1,q1⟩=>?_));refine A2 (K5 (thn (hi jb s1 σ H1 _ I1 q1) λiv s2 ⟨y,H2,I2,r2,q2⟩=>?_));refine A2 (X7 (A2 (K5 (thn (hs jb s2 σ H2 x y v ov iv u _ I2 r1 r2 r q2) λ_ s3 ⟨H3,I3,q3⟩=>?_))));exact wpAny_release ⟨σ,H3,I3,q3⟩
def tAsg (te:TE)(g:TG):TS:=λD σ H=>te σ H λx H1=>g x σ H1 D.nx
def ps_asg (he:PE X e te)(hg:PG X tg g)(hs:swapsWithSole [tg] e pos.line X.env=pure false:=by rfl)(hw:swappedStores [tg] e X.env=pure none:=by rfl)
   (h1:(F4 [tg] X.env).map (·.2)=[assign tg X.env]:=by rfl):PS X (.Assign [tg] e pos) (tAsg te g):=by
 intro jb s σ H D I h;refine wpAny_Assign_stores (thn (he jb s σ H _ I h) λv s1 ⟨x,H1,I1,r1,q1⟩=>?_) hs hw;rw[h1];exact thn (hg jb s1 σ H1 x v _ I1 r1 q1) λ_ s2 q=>q
def GB (hN:X.N.Nodup)(hi:X.N[i]?=some x)(hx:Loc X.env.scope x)(he:PE X e te)(hs:X9 e (some (.Name x pos')) pos.line X.env=pure false:=by rfl)(hf:X.fn x=true\/X.env.scope.names.lookup x=some .local:=by first|exact .inl rfl|exact .inr rfl|assumption) :
   PS X (.Assign [.Name x pos'] e pos) (tAsg te (L6 i)):=by
 intro jb s σ H D I h;refine wpAny_Assign_Name (thn (he jb s σ H _ I h) λv s1 ⟨y,H1,I1,r1,q1⟩=>?_) hs;exact Cu I1 hN hi hx r1 (λs2 I2=>⟨_,H1,I2,q1⟩) hf
def tPar (i j:Nat)(ta:TA):TS:=λD σ H=>ta σ H λvs H1=>∃v w,vs=[v,w]/\D.nx ((σ.set i (some v)).set j (some w)) H1
def ps_par {i j:Nat}{x y:Str}{a b:Expr}{ta:TA}{px py pt:Pos}{kt k2 pt2}(hc:X.calm=true)(hN:X.N.Nodup)(hi:X.N[i]?=some x)(hj:X.N[j]?=some y)(hij:i≠j)
   (hx:X.env.scope.names.lookup x=some .local) (hy:X.env.scope.names.lookup y=some .local) (ha:PA X [a,b] ta)
   (hw:swappedStores [.Tuple [.Name x px,.Name y py] kt pt] (.Tuple [a,b] k2 pt2) X.env=pure (some [x,y]))
   (hs:swapsWithSole [.Tuple [.Name x px,.Name y py] kt pt] (.Tuple [a,b] k2 pt2) pos.line X.env=pure false:=by rfl) :
   PS X (.Assign [.Tuple [.Name x px,.Name y py] kt pt] (.Tuple [a,b] k2 pt2) pos) (tPar i j ta):=by
 intro jb s σ H D I h;rw[exec_Assign_arm];refine A2 (X7 ?_);rw[hs];refine A2 (A9 ?_);rw[ju 0b0];refine A2 (Tuple_ (thn (ha _ jb s σ H _ I h) λus s1 ⟨vs,H1,I1,r1,q1⟩=>?_));obtain⟨v,w,e1,q1⟩:=q1;subst e1
 obtain⟨u1,u2,rfl,rv,rw'⟩:∃u1 u2,us=[u1,u2]/\RelV v u1/\RelV w u2:=by
  cases r1 with
  | cons p q =>
   cases q with
   | cons p' q' =>
    cases q';exact⟨_,_,rfl,p,p'⟩
 refine N7 ?_ (by show 2<=B4;decide);have I2:Inv X jb σ H1 { s1 with heap:=s1.heap.push { cls:=.type "tuple",data:=.seq [u1,u2].toArray } }:=I1.kept (t':=s1.toks) λb o e=>B7 _ e;rw[hw];refine A2 (A9 ?_);show A5 (A7 X.prog X.w) X.A (do rule "assign.swapped-stores";let items ← unpackItems (.ref s1.heap.objs.size) 2 none;assignInOrder [λv=>bindName X.env y v,λv=>bindName X.env x v] items.reverse;pure Flow.next) _ _ _;refine A2 (X8 (A2 (unpackItems_tuple (items:=#[u1,u2]) (I.ok.hd hc) (IsTup.new s1.heap _) λh' hx'=>?_)));have I3:=I2.kept (h':=h') (t':=s1.toks) λb o e=>hx' b o (E6 (C4 e)) e;show A5 _ _ (assignInOrder [λv=>bindName X.env y v,λv=>bindName X.env x v] [u2,u1]>>=λ_=>pure Flow.next) _ _ _;refine A2 (assignInOrder_cons (wpAny_bindName (Cu I3 hN hj (.inl hy) rw' (λs2 I4=>?_) (.inr hy))));refine assignInOrder_cons (wpAny_bindName (Cu I4 hN hi (.inl hx) rv (λs3 I5=>assignInOrder_nil (A9 ?_)) (.inr hx)));rw[List.set_comm _ _ (Ne.symm hij)] at I5;exact⟨_,H1,I5,q1⟩
def tAug (i:Nat)(te:TE)(ti:TIp):TS:=λD σ H=>∃x,σ[i]?=some (some x)/\te σ H λy H1=>ti x y H1 λz H2=>D.nx (σ.set i (some z)) H2
def ps_aug (hN:X.N.Nodup)(hi:X.N[i]?=some x)(hx:Loc X.env.scope x)(he:PE X e te)(ho:PIp X op ti)(hf:X.fn x=true\/X.env.scope.names.lookup x=some .local:=by first|exact .inl rfl|exact .inr rfl|assumption) :
   PS X (.AugAssign (.Name x pos') op e pos) (tAug i te ti):=by
 intro jb s σ H D I h;obtain⟨v,e1,h⟩:=h;obtain⟨m,hn,hl⟩:=I.loc;have vis:Vis X.env.scope x:=by rcases hx with k|k;exact .inl k;exact .inr (.inl k)
 obtain⟨u,r,l⟩:=hl i x v hi e1 vis;refine wpAny_AugAssign_Name ?_
 have go:A5 (A7 X.prog X.w) X.A (eval e X.env) (λw s₂=>A5 (A7 X.prog X.w) X.A (inplaceOp op u w) (λr s₃=>A5 (A7 X.prog X.w) X.A (storeName X.env x r) (λ_=>SP X jb D .next) X.xe s₃) X.xe s₂) X.xe s:=by
  refine thn (he jb s σ H _ I h) λw s1 ⟨y,H1,I1,r1,q1⟩=>?_;refine thn (ho jb s1 σ H1 v y u w _ I1 r r1 q1) λz s2 ⟨zv,H2,I2,r2,q2⟩=>?_;exact Cu I2 hN hi hx r2 (λs3 I3=>⟨_,H2,I3,q2⟩) hf
 rcases l with⟨hk,hm⟩|⟨hk,c,hc,hcell⟩
 ·exact wpAny_loadName_local I.ok.kind hk hn hm go
 ·rcases hk with hk|hk
  ·exact wpAny_loadName_cell I.ok.kind hk hc hcell go
  ·rcases hx with k|k
   ·have:X.env.scope.names.lookup x=some .free:=hk;rw[k] at this;cases this
   ·have:X.env.scope.names.lookup x=some .free:=hk;rw[k] at this;cases this
end
section
variable {X:Cx}{pos:Pos}
def tWhile (c:TT)(tb:TS):TS:=λD σ H=>∃W:Nat->St->Hp->Prop,(∃m,W m σ H)/\∀m σ H,W m σ H->
 c σ H λb H1=>if b=true then ∃N:St->Hp->Prop,(∀σ' H',N σ' H'->∃m',m'<m/\W m' σ' H')/\tb { D with nx:=N,ct:=N,bk:=D.nx } σ H1 else D.nx σ H1
def Os (hp:PassesOwn (A7 X.prog X.w) X.A X.env X.xe)(hc:PT X c tc)(hb:PSs X body tb):PS X (.While c body [] pos) (tWhile tc tb):=by
 intro jb s σ H D I h;obtain⟨W,⟨m0,w0⟩,turn⟩:=h;refine wpAny_While (codeAny_whileLoop (λn s'=>∃σ' H',Inv X jb σ' H' s'/\W n σ' H') ?_ m0 ⟨σ,H,I,w0⟩);rintro n s1 ⟨σ1,H1,I1,w1⟩;refine w5 hp (thn (hc jb s1 σ1 H1 _ I1 (turn n σ1 H1 w1)) λb s2 ⟨H2,I2,q2⟩=>?_);cases b with
 | true =>
  obtain⟨N,hN,q2⟩:=q2;rw[jt rfl];refine w5 hp (thn (hb jb s2 σ1 H2 _ I2 q2) λf s3 q3=>?_);cases f with
  | next =>
   obtain⟨σ3,H3,I3,n3⟩:=q3;obtain⟨m',hm,w3⟩:=hN σ3 H3 n3;exact⟨m',hm,σ3,H3,I3,w3⟩
  | cont =>
   obtain⟨σ3,H3,I3,n3⟩:=q3;obtain⟨m',hm,w3⟩:=hN σ3 H3 n3;exact⟨m',hm,σ3,H3,I3,w3⟩
  |brk=>exact q3
  |ret v=>exact q3
 | false =>
  rw[ju L3];exact DC ⟨σ1,H2,I2,q2⟩
end
structure It where
 go:Nat->Hp->Prop
 yld:Nat->Hp->V->Hp->Prop
 stop:Nat->Hp->Prop
def FpOk (X:Cx)(jb:List (A1×Obj))(H:Hp)(b:A1):Prop:=
 H b=none/\b≠X.env.locals/\b∉X.fs/\(b∈X.ex\/X.s₀.heap.objs.size<=b)/\(∀x c,X.env.cells.lookup x=some c->c≠b)/\∀p∈X.pn++jb,p.1≠b
def Inv.fpOk (I:Inv X jb σ H s)(hb:s.heap.objs.size<=b)(hn:H' b=none):FpOk X jb H' b:=by
 refine⟨hn,y9 (M2 I.lt hb),I.nofs hb,.inr (K1 I.sz hb),λx c e z=>?_,λp hp z=>?_⟩
 ·obtain⟨v,q⟩:=I.cell x c e;exact absurd (M2 q.lt (by rw[z];exact hb)) (U9 _)
 ·exact absurd (M2 (C4 (I.pin p hp).1) (by rw[z];exact hb)) (U9 _)
structure Turn (P:C3)(w:B9)(K:A8)(tg:Expr)(J:It)(fp:List A1)(it:A1)(tn:Nat->B3->Prop):Prop where
 mem:it∈fp
 obj:∀i h,tn i h->∀b∈fp,∃o,h.get? b=some o/\∀v,o.data≠.cell v
 keep:∀i h h',tn i h->(∀b∈fp,∀o,h.get? b=some o->h'.get? b=some o)->tn i h'
 item:∀(X:Cx),X.prog=P->X.w=w->X.K=K->X.calm=true->∀(i:Nat) (jb:List (A1×Obj)) (s:A4) (σ:St) (H:Hp) (E:A3->A4->Prop),Inv X jb σ H s->(∀b∈fp,FpOk X jb H b)->tn i s.heap->J.go i H->
   A5 (A7 P w) X.A (pyNext (.ref it)) (λr s1=>∃u,r=some u/\
     A5 (A7 P w) X.A (j6 tg (.ref it) u) (λ_ s2=>∃x H',Inv X jb σ H' s2/\RelV x u/\J.yld i H x H'/\tn (i+1) s2.heap/\∀b∈fp,H' b=none) E s1) E s
 done:∀(X:Cx),X.prog=P->X.w=w->X.K=K->X.calm=true->∀(i:Nat) (jb:List (A1×Obj)) (s:A4) (σ:St) (H:Hp) (E:A3->A4->Prop),Inv X jb σ H s->(∀b∈fp,FpOk X jb H b)->tn i s.heap->J.stop i H->
   A5 (A7 P w) X.A (pyNext (.ref it)) (λr s1=>r=none/\Inv X jb σ H s1) E s
 self:∀(A:D0) (i:Nat) (s:A4) (Q:A3->A4->Prop) (E:A3->A4->Prop),tn i s.heap->Q (.ref it) s->A5 (A7 P w) A (pyIter (.ref it)) Q E s
abbrev TI:=St->Hp->(It->Hp->Prop)->Prop
def PIE (X:Cx)(jb:List (A1×Obj))(σ:St)(tg:Expr)(R:It->Hp->Prop)(itv:A3)(s2:A4):Prop:=
 ∃(it:A1) (fp:List A1) (tn:Nat->B3->Prop) (J:It) (H':Hp),itv=.ref it/\Inv X jb σ H' s2/\Turn X.prog X.w X.K tg J fp it tn/\tn 0 s2.heap/\(∀b∈fp,FpOk X jb H' b)/\R J H'
def PI (X:Cx)(tg iter:Expr)(wi:TI):Prop:=
 ∀ (jb : List (A1 × Obj)) (s : A4) (σ : St) (H : Hp) (R : It -> Hp -> Prop), Inv X jb σ H s -> wi σ H R ->
   A5 (A7 X.prog X.w) X.A (eval iter X.env) (λv s1=>A5 (A7 X.prog X.w) X.A (pyIter v) (PIE X jb σ tg R) X.xe s1) X.xe s
def Cy (ho:s.heap.get? it=some o)(hc:o.cls=.type n)(hd:o.data=.fields vs)
   (hn:["enumerate","zip","dict_itemiterator","dict_reverseitemiterator","odict_iterator","itertools.zip_longest","itertools.pairwise"].contains n=false) (hQ:Q () s):A5 M A (j6 tg (.ref it) u) Q E s:=by
 unfold j6
 cases tg <;> first
   |exact A9 hQ
   |(cases u <;> first
       |exact A9 hQ
       | (refine A2 (wpAny_load ho ?_)
          rw[hc,hd];show A5 M A (if(["enumerate","zip","dict_itemiterator","dict_reverseitemiterator","odict_iterator","itertools.zip_longest","itertools.pairwise"].contains n&&vs[0]? == some (rawInt _))=true then _ else _) Q E s;rw[ju (by intro h;rw[hn,DN] at h;cases h)]
          exact A9 hQ))
def Itl (K:A8)(a:A1):It:=
 ⟨λi H=>∃xs x,SqL K H a xs/\xs[i]?=some x,λi H x H'=>H'=H/\∀xs,SqL K H a xs->xs[i]?=some x,λi H=>∃xs,SqL K H a xs/\xs.length<=i⟩
def Itt (K:A8)(a:A1):It:=
 ⟨λi H=>∃xs x,SqT K H a xs/\xs[i]?=some x,λi H x H'=>H'=H/\∀xs,SqT K H a xs->xs[i]?=some x,λi H=>∃xs,SqT K H a xs/\xs.length<=i⟩
def Itr (lo:Int)(n:Nat):It:=⟨λi _=>i<n,λi H x H'=>H'=H/\x=.int (lo+i),λi _=>n<=i⟩
def Ot {K:A8}(a it:A1):Turn P w K tg (Itl K a) [it] it (λi h=>h.IsListIter it a i) where
 mem:=0o0
 obj:=λi h st b hb=>by
  have e:b=it:=by simpa using hb
  subst e;obtain⟨o,e,c,d⟩:=st;exact⟨o,e,λv z=>by rw[d] at z;cases z⟩
 keep:=λi h h' st k=>st.at λo e=>k it 0o0 o e
 item:=by
  intro X hP hw hK hc i jb s σ H E I hf st hg;subst hP hw hK;obtain⟨xs,x,hq,hx⟩:=hg;obtain⟨jf,rv,p,hz⟩:=I.list hq;obtain⟨u,hu,ru⟩:=rv.get hx;obtain⟨f0,f1,f2,f3,f4,f5⟩:=hf it 0o0;refine wpAny_pyNext_list_item st p.isList (x:=u) (by simpa using hu) λh' st' sb=>?_;have I1:Inv X jb σ H { s with heap:=h' }:=I.turned (t':=s.toks) (λb o hb e=>(sb.2 b hb).trans e) f0 f1 f3 f4 f5;obtain⟨o,e,c,d⟩:=id st';exact⟨u,rfl,Cy (s:={ s with heap:=h' }) e c d 0b0 ⟨x,H,I1,ru,⟨rfl,λys hy=>by rw[I.list_inj hy hq];exact hx⟩,st',λb hb=>(hf b hb).1⟩⟩
 done:=by
  intro X hP hw hK hc i jb s σ H E I hf st hg;subst hP hw hK;obtain⟨xs,hq,hx⟩:=hg;obtain⟨jf,rv,p,hz⟩:=I.list hq;obtain⟨f0,f1,f2,f3,f4,f5⟩:=hf it 0o0;have hl:=rv.length;exact wpAny_pyNext_list_end (I.ok.hd hc) st p.isList (by simp;ext) λh' eb=>⟨rfl,I.turned (t':=s.toks) (λb o hb e=>eb b o hb e) f0 f1 f3 f4 f5⟩
 self:=λ_ _ _ _ _ st h=>wpAny_pyIter_listiter st h
def Ou {K:A8}(a it:A1):Turn P w K tg (Itt K a) [it] it (λi h=>h.IsTupleIter it a i) where
 mem:=0o0
 obj:=λi h st b hb=>by
  have e:b=it:=by simpa using hb
  subst e;obtain⟨o,e,c,d⟩:=st;exact⟨o,e,λv z=>by rw[d] at z;cases z⟩
 keep:=λi h h' st k=>st.at λo e=>k it 0o0 o e
 item:=by
  intro X hP hw hK hc i jb s σ H E I hf st hg;subst hP hw hK;obtain⟨xs,x,hq,hx⟩:=hg;obtain⟨jf,rv,p,hz⟩:=I.tuple hq;obtain⟨u,hu,ru⟩:=rv.get hx;obtain⟨f0,f1,f2,f3,f4,f5⟩:=hf it 0o0;refine wpAny_pyNext_tuple_item st (show s.heap.IsTuple a jf.toArray from p) (x:=u) (by simpa using hu) λh' st' sb=>?_;have I1:Inv X jb σ H { s with heap:=h' }:=I.turned (t':=s.toks) (λb o hb e=>(sb.2 b hb).trans e) f0 f1 f3 f4 f5;obtain⟨o,e,c,d⟩:=id st';exact⟨u,rfl,Cy (s:={ s with heap:=h' }) e c d 0b0 ⟨x,H,I1,ru,⟨rfl,λys hy=>by rw[I.tuple_inj hy hq];exact hx⟩,st',λb hb=>(hf b hb).1⟩⟩
 done:=by
  intro X hP hw hK hc i jb s σ H E I hf st hg;subst hP hw hK;obtain⟨xs,hq,hx⟩:=hg;obtain⟨jf,rv,p,hz⟩:=I.tuple hq;obtain⟨f0,f1,f2,f3,f4,f5⟩:=hf it 0o0;have hl:=rv.length;exact wpAny_pyNext_tuple_end (I.ok.hd hc) st (show s.heap.IsTuple a jf.toArray from p) (by simp;ext) λh' eb=>⟨rfl,I.turned (t':=s.toks) (λb o hb e=>eb b o hb e) f0 f1 f3 f4 f5⟩
 self:=λ_ _ _ _ _ st h=>wpAny_pyIter_tupleiter st h
def Ov {K:A8}(it:A1)(lo:Int)(n:Nat):Turn P w K tg (Itr lo n) [it] it (λi h=>IsRangeIter h it (lo+(i:Nat)*1) ((n:Int)-(i:Nat)) 1) where
 mem:=0o0
 obj:=fun i h st b hb=>by
  have e:b=it:=by simpa using hb
  subst e
  exact⟨_,st,λv z=>by
   have z':Bj _=Data.cell v:=z
   cases z'⟩
 keep:=λi h h' st k=>k it 0o0 _ st
 item:=by
  intro X hP hw hK hc i jb s σ H E I hf st hg;subst hP hw hK;obtain⟨f0,f1,f2,f3,f4,f5⟩:=hf it 0o0;have W:=Walks.range (prog:=X.prog) (w:=X.w) (I.ok.hd hc) it lo 1 n;refine W.item i s _ _ hg st λv h' tk hv st' kk=>?_;obtain⟨t,rfl⟩:=hv;have I1:Inv X jb σ H { s with heap:=h',toks:=tk }:=I.turned (λb o hb e=>kk b o (by simpa using hb) e) f0 f1 f3 f4 f5;refine⟨_,rfl,Cy (s:={ s with heap:=h',toks:=tk }) (n:="range_iterator") st' rfl rfl 0b0 ⟨.int (lo+i),H,I1,⟨t,?_⟩,⟨rfl,rfl⟩,st',λb hb=>(hf b hb).1⟩⟩;rw[Int.mul_one]
 done:=by
  intro X hP hw hK hc i jb s σ H E I hf st hg;subst hP hw hK;obtain⟨f0,f1,f2,f3,f4,f5⟩:=hf it 0o0;exact wpAny_pyNext_range_end (I.ok.hd hc) st (by have:n<=i:=hg;ext) λh' eb=>⟨rfl,I.turned (t':=s.toks) (λb o hb e=>eb b o hb e) f0 f1 f3 f4 f5⟩
 self:=λ_ _ _ _ _ st h=>Ge st h
section
variable {X:Cx}{tg:Expr}
def iList (K:A8)(tl:TE):TI:=λσ H R=>tl σ H λx H1=>∃a,x=.ref a/\(∃xs,SqL K H1 a xs)/\R (Itl K a) H1
def iTup (K:A8)(tl:TE):TI:=λσ H R=>tl σ H λx H1=>∃a,x=.ref a/\(∃xs,SqT K H1 a xs)/\R (Itt K a) H1
def Ow (hl:PE X l tl):PI X tg l (iList X.K tl):=by
 intro jb s σ H R I h;refine thn (hl jb s σ H _ I h) λv s1 ⟨x,H1,I1,r1,q1⟩=>?_;obtain⟨a,e,⟨xs,hq⟩,q⟩:=q1;subst e;cases r1;obtain⟨jf,rv,p,hz⟩:=I1.list hq;refine AK p.isList ?_;refine⟨s1.heap.objs.size,[s1.heap.objs.size],_,_,H1,rfl,I1.kept (t':=s1.toks) λb o e=>B7 _ e,Ot a _,⟨_,E7 _ rfl,rfl,rfl⟩,λb hb=>?_,q⟩;have e:b=s1.heap.objs.size:=by simpa using hb
 subst e;exact I1.fpOk (B2 _) (I1.hok.fresh (B2 _))
def pi_tup (hl:PE X l tl):PI X tg l (iTup X.K tl):=by
 intro jb s σ H R I h;refine thn (hl jb s σ H _ I h) λv s1 ⟨x,H1,I1,r1,q1⟩=>?_;obtain⟨a,e,⟨xs,hq⟩,q⟩:=q1;subst e;cases r1;obtain⟨jf,rv,p,hz⟩:=I1.tuple hq;refine AI (show s1.heap.IsTuple a jf.toArray from p) ?_;refine⟨s1.heap.objs.size,[s1.heap.objs.size],_,_,H1,rfl,I1.kept (t':=s1.toks) λb o e=>B7 _ e,Ou a _,⟨_,E7 _ rfl,rfl,rfl⟩,λb hb=>?_,q⟩;have e:b=s1.heap.objs.size:=by simpa using hb
 subst e;exact I1.fpOk (B2 _) (I1.hok.fresh (B2 _))
def Ox {lo hi:Int}(I:Inv X jb σ H s)(h1:-(2 ^ 62)<=lo)(h2:lo<2 ^ 62)(h3:-(2 ^ 62)<=hi)(h4:hi<2 ^ 62)
   (q:R (Itr lo (hi-lo).toNat) H):A5 (A7 X.prog X.w) X.A (pyIter (.ref s.heap.objs.size)) (PIE X jb σ tg R) E { s with heap:=s.heap.push { cls:=.type "range",data:=.fields #[.int lo t,.int hi u,.int 1 v] },toks:=tk }:=by
 refine wpAny_pyIter_range (IsRange.new ..) (small_one h1 h2 h3 h4) ?_;have I1:Inv X jb σ H { s with heap:=s.heap.push { cls:=.type "range",data:=.fields #[.int lo t,.int hi u,.int 1 v] },toks:=tk }:=I.kept λb o e=>B7 _ e
 refine⟨(s.heap.push { cls:=.type "range",data:=.fields #[.int lo t,.int hi u,.int 1 v] }).objs.size,[(s.heap.push { cls:=.type "range",data:=.fields #[.int lo t,.int hi u,.int 1 v] }).objs.size],_,_,H,rfl,
  I1.kept (t':=tk) λb o e=>B7 _ e,Ov _ lo (hi-lo).toNat,?_,λb hb=>?_,q⟩
 ·have e1:lo+((0:Nat):Int)*1=lo:=0o0
  have e2:(((hi-lo).toNat:Nat):Int)-((0:Nat):Int)=DS lo hi 1:=by rw[rangeSize_one];split <;> ext
  show IsRangeIter _ _ (lo+((0:Nat):Int)*1) ((((hi-lo).toNat:Nat):Int)-((0:Nat):Int)) 1;rw[e1,e2];exact E7 _ rfl
 ·have e:b=(s.heap.push { cls:=.type "range",data:=.fields #[.int lo t,.int hi u,.int 1 v] }).objs.size:=by simpa using hb
  subst e;exact I1.fpOk (B2 _) (I1.hok.fresh (B2 _))
def iRng1 (ta:TA):TI:=λσ H R=>ta σ H λvs H1=>∃j:Int,vs=[.int j]/\-(2 ^ 62)<=j/\j<2 ^ 62/\R (Itr 0 j.toNat) H1
def Oy (hg:Gl X "range")(hm:X.mg "range"=none)(ha:PA X [a] ta)(hs:D6 [a] X.env=[(false,eval a X.env)]:=by rfl):PI X tg (.Call (.Name "range" p) [a] [] pos) (iRng1 ta):=by
 intro jb s σ H R I h;refine Call_ (Y8 I hg hm boot_range (l8 (thn (ha pos jb s σ H _ I h) λus s1 ⟨vs,H1,I1,r1,q1⟩=>?_) hs rfl));obtain⟨j,e,q1,q2,q⟩:=q1;subst e;cases r1 with
 | cons r rr =>
  cases rr;obtain⟨t,rfl⟩:=r;exact call_range_1 (Ox I1 0x0 0x0 q1 q2 (by simpa using q))
def tFor (wi:TI)(g:TG)(tb:TS):TS:=λD σ H=>wi σ H λJ H1=>∃W:Nat->Nat->St->Hp->Prop,(∃m,W 0 m σ H1)/\∀i m σ H,W i m σ H->
 (J.stop i H/\D.nx σ H)\/(J.go i H/\∃N:St->Hp->Prop,(∀σ' H',N σ' H'->∃m',m'<m/\W (i+1) m' σ' H')/\∀x H',J.yld i H x H'->g x σ H' λσ2 H2=>tb { D with nx:=N,ct:=N,bk:=D.nx } σ2 H2)
def Bn (fp:List A1)(h:B3):List (A1×Obj):=fp.filterMap λb=>(h.get? b).map λo=>(b,o)
def GC (hb:b∈fp)(e:h.get? b=some o):(b,o)∈Bn fp h:=List.mem_filterMap.mpr ⟨b,hb,by rw[e];rfl⟩
def Oz (hp:p∈Bn fp h):p.1∈fp/\h.get? p.1=some p.2:=by
 obtain⟨b,hb,e⟩:=List.mem_filterMap.mp hp;cases q:h.get? b with
 |none=>rw[q] at e;cases e
 | some o =>
  rw[q] at e;have e':(b,o)=p:=L4 e;subst e';exact⟨hb,q⟩
def Inv.pinned (I:Inv X jb σ H s)(hf:∀b∈fp,FpOk X jb H b)(ho:∀b∈fp,∃o,s.heap.get? b=some o/\∀v,o.data≠.cell v):Inv X (jb++Bn fp s.heap) σ H s:=
 I.pins_of fun p hp=>(D7.mp hp).elim (fun z=>I.pin p (U6 _ z)) fun z=>by
  obtain⟨hb,e⟩:=Oz z;obtain⟨f0,f1,f2,_⟩:=hf p.1 hb;obtain⟨o,e',d⟩:=ho p.1 hb;rw[e] at e';cases e';exact⟨e,f0,f1,f2,d⟩
def Inv.unpinned (I:Inv X (jb++pl) σ H s):Inv X jb σ H s:=I.pins_of λp hp=>I.pin p (U6 _ (AQ _ hp))
def ps_for (hp:PassesOwn (A7 X.prog X.w) X.A X.env X.xe)(hc:X.calm=true)(hi:PI X tg iter wi)(hg:PG X tg g)(hb:PSs X body tb)
   (hs:∀x,N8 iter X.env x=pure x:=by intro _;rfl):PS X (.For tg iter body [] pos) (tFor wi g tb):=by
 intro jb s σ H D I h;refine wpAny_For (thn (hi jb s σ H _ I h) λv s1 h1=>thn h1 λitv s2 h2=>?_) hs;obtain⟨it,fp,tn,J,H2,e,I2,T,st2,f2,W,⟨m0,w0⟩,turn⟩:=h2;subst e
 -- what stays true of the iterator's objects through the loop
 have stat:∀{H':Hp},(∀b∈fp,H' b=none)->∀b∈fp,FpOk X jb H' b:=λhn b hb=>⟨hn b hb,(f2 b hb).2⟩;refine codeAny_forLoop_any (λn s'=>∃i σ' H',Inv X jb σ' H' s'/\tn i s'.heap/\(∀b∈fp,H' b=none)/\W i n σ' H') ?_ m0 ⟨0,σ,H2,I2,st2,λb hb=>(f2 b hb).1,w0⟩;rintro n s3 ⟨i,σ3,H3,I3,st3,fr3,w3⟩;rcases turn i n σ3 H3 w3 with⟨stop,qn⟩|⟨go,N,hN,step⟩
 ·refine w5 hp (thn (T.done X rfl rfl rfl hc i jb s3 σ3 H3 X.xe I3 (stat fr3) st3 stop) λr s4 ⟨hr,I4⟩=>?_);subst hr;exact DC ⟨σ3,H3,I4,qn⟩
 ·refine w5 hp (thn (T.item X rfl rfl rfl hc i jb s3 σ3 H3 X.xe I3 (stat fr3) st3 go) λr s4 ⟨u,hr,h4⟩=>?_);subst hr;refine w5 hp (thn h4 λ_ s5 ⟨x,H5,I5,r5,y5,st5,fr5⟩=>?_);have I5':=I5.pinned (stat fr5) (T.obj _ _ st5);refine w5 hp (thn (hg _ s5 σ3 H5 x u _ I5' r5 (step x H5 y5)) λ_ s6 ⟨σ6,H6,I6,q6⟩=>?_);refine w5 hp (thn (hb _ s6 σ6 H6 _ I6 q6) λf s7 q7=>?_)
  have again:∀{σ7:St} {H7:Hp},Inv X (jb++Bn fp s5.heap) σ7 H7 s7->N σ7 H7->∃m,m<n/\∃i σ' H',Inv X jb σ' H' s7/\tn i s7.heap/\(∀b∈fp,H' b=none)/\W i m σ' H':=λ{σ7 H7} I7 n7=>by
   obtain⟨m',hm,w7⟩:=hN σ7 H7 n7;refine⟨m',hm,i+1,σ7,H7,I7.unpinned,T.keep _ _ _ st5 λb hb o e=>(I7.pin (b,o) (U6 _ (U6 _ (GC hb e)))).1,λb hb=>?_,w7⟩;obtain⟨o,e,d⟩:=T.obj _ _ st5 b hb;exact(I7.pin (b,o) (U6 _ (U6 _ (GC hb e)))).2.1
  cases f with
  |next=>obtain⟨σ7,H7,I7,n7⟩:=q7;exact again I7 n7
  |cont=>obtain⟨σ7,H7,I7,n7⟩:=q7;exact again I7 n7
  |brk=>obtain⟨σ7,H7,I7,q7⟩:=q7;exact⟨σ7,H7,I7.unpinned,q7⟩
  |ret v=>obtain⟨x7,σ7,H7,I7,r7,q7⟩:=q7;exact⟨x7,σ7,H7,I7.unpinned,r7,q7⟩
end
abbrev R2:=V->V->Hp->VK->Prop
def OpR (X:Cx)(f:A3->A3->Sem A3)(r:R2):Prop:=
 ∀ (jb : List (A1 × Obj)) (s : A4) (σ : St) (H : Hp) (x y : V) (v u : A3) (Q : VK), Inv X jb σ H s -> RelV x v -> RelV y u -> r x y H Q ->
   A5 (A7 X.prog X.w) X.A (f v u) (EP X jb σ Q) X.xe s
def UnR (X:Cx)(f:A3->Sem A3)(r:V->Hp->VK->Prop):Prop:=
 ∀ (jb : List (A1 × Obj)) (s : A4) (σ : St) (H : Hp) (x : V) (v : A3) (Q : VK), Inv X jb σ H s -> RelV x v -> r x H Q ->
   A5 (A7 X.prog X.w) X.A (f v) (EP X jb σ Q) X.xe s
def K3 (X:Cx)(f:A3)(r:List V->Hp->VK->Prop):Prop:=
 ∀ (jb : List (A1 × Obj)) (s : A4) (σ : St) (H : Hp) (xs : List V) (us : List A3) (Q : VK), Inv X jb σ H s -> Vals xs us -> r xs H Q ->
   A5 (A7 X.prog X.w) X.A (call f us) (EP X jb σ Q) X.xe s
def TruR (X:Cx)(r:V->Hp->(Bool->Hp->Prop)->Prop):Prop:=
 ∀ (jb : List (A1 × Obj)) (s : A4) (σ : St) (H : Hp) (x : V) (v : A3) (Q : Bool -> Hp -> Prop), Inv X jb σ H s -> RelV x v -> r x H Q ->
   A5 (A7 X.prog X.w) X.A (truthy v) (TP X jb σ Q) X.xe s
def tOp (r:R2)(ta tb:TE):TE:=λσ H Q=>ta σ H λx H1=>tb σ H1 λy H2=>r x y H2 Q
def tUn (r:V->Hp->VK->Prop)(ta:TE):TE:=λσ H Q=>ta σ H λx H1=>r x H1 Q
def rI (C:Int->Int->Prop)(g:Int->Int->V):R2:=λx y H Q=>∃i j,x=.int i/\y=.int j/\C i j/\Q (g i j) H
def rI0 (g:Int->Int->V):R2:=λx y H Q=>∃i j,x=.int i/\y=.int j/\Q (g i j) H
def rU (g:Int->V):V->Hp->VK->Prop:=λx H Q=>∃i,x=.int i/\Q (g i) H
section
variable {X:Cx}{a b c:Expr}{ta tb tc:TE}{pos:Pos}
def binT (ha:PE X a ta)(hb:PE X b tb){R:V->V->Hp->Prop}(I:Inv X jb σ H s)
   (h:ta σ H λx H1=>tb σ H1 λy H2=>R x y H2) {f:A3->A3->Sem A3}
   (hf:∀v u s2 x y H2,Inv X jb σ H2 s2->RelV x v->RelV y u->R x y H2->A5 (A7 X.prog X.w) X.A (f v u) Q X.xe s2) :
   A5 (A7 X.prog X.w) X.A (eval a X.env) (λv s₁=>A5 (A7 X.prog X.w) X.A (eval b X.env) (λu s₂=>A5 (A7 X.prog X.w) X.A (f v u) Q X.xe s₂) X.xe s₁) X.xe s:=by
 refine thn (ha jb s σ H _ I h) λv s1 ⟨x,H1,I1,r1,q1⟩=>?_;refine thn (hb jb s1 σ H1 _ I1 q1) λu s2 ⟨y,H2,I2,r2,q2⟩=>?_;exact hf v u s2 x y H2 I2 r1 r2 q2
def L7 (ho:OpR X (Q2 op) r)(ha:PE X a ta)(hb:PE X b tb):PE X (.BinOp a op b pos) (tOp r ta tb):=by
 intro jb s σ H Q I h;exact wpAny_BinOp (binT ha hb I h λv u s2 x y H2 I2 rx ry q=>ho jb s2 σ H2 x y v u Q I2 rx ry q)
def pe_un (ho:UnR X (unaryOp op) r)(ha:PE X a ta):PE X (.UnaryOp op a pos) (tUn r ta):=by
 intro jb s σ H Q I h;exact UnaryOp_ (thn (ha jb s σ H _ I h) λv s1 ⟨x,H1,I1,r1,q1⟩=>ho jb s1 σ H1 x v Q I1 r1 q1)
def opI {g:Int->Int->Int}
   (rule:∀(i j:Int) (t u:Tok) (s:A4) (Q:A3->A4->Prop) (E:A3->A4->Prop),C i j->Q (.int (g i j) s.toks) { s with toks:=s.toks+1 }->A5 (A7 X.prog X.w) X.A (f (.int i t) (.int j u)) Q E s) :
   OpR X f (rI C λi j=>.int (g i j)):=by
 intro jb s σ H x y v u Q I rx ry h;obtain⟨i,j,rfl,rfl,hc,q⟩:=h;obtain⟨t,rfl⟩:=rx;obtain⟨t',rfl⟩:=ry;exact rule i j t t' s _ _ hc ⟨.int (g i j),H,I.tok _,⟨_,rfl⟩,q⟩
def opI0 {g:Int->Int->Int}
   (rule:∀(i j:Int) (t u:Tok) (s:A4) (Q:A3->A4->Prop) (E:A3->A4->Prop),Q (.int (g i j) s.toks) { s with toks:=s.toks+1 }->A5 (A7 X.prog X.w) X.A (f (.int i t) (.int j u)) Q E s) :
   OpR X f (rI0 λi j=>.int (g i j)):=by
 intro jb s σ H x y v u Q I rx ry h;obtain⟨i,j,rfl,rfl,q⟩:=h;obtain⟨t,rfl⟩:=rx;obtain⟨t',rfl⟩:=ry;exact rule i j t t' s _ _ ⟨.int (g i j),H,I.tok _,⟨_,rfl⟩,q⟩
def opB0 {g:Int->Int->Bool}
   (rule:∀(i j:Int) (t u:Tok) (s:A4) (Q:A3->A4->Prop) (E:A3->A4->Prop),Q (.bool (g i j)) s->A5 (A7 X.prog X.w) X.A (f (.int i t) (.int j u)) Q E s) :
   OpR X f (rI0 λi j=>.bl (g i j)):=by
 intro jb s σ H x y v u Q I rx ry h;obtain⟨i,j,rfl,rfl,q⟩:=h;obtain⟨t,rfl⟩:=rx;obtain⟨t',rfl⟩:=ry;exact rule i j t t' s _ _ ⟨.bl (g i j),H,I,rfl,q⟩
def CDiv (i j:Int):Prop:=0<j/\j<1073741824
def CPow (i j:Int):Prop:=0<=j/\j<=1000000/\i.natAbs<2 ^ 64
def CMul (i j:Int):Prop:=(-(2 ^ 64)<i/\i<2 ^ 64)\/(-(2 ^ 64)<j/\j<2 ^ 64)
def CMul.ok (h:CMul i j):IntMulOk i j:=by
 rcases h with⟨h1,h2⟩|⟨h1,h2⟩
 ·exact .of_left (intBits_le_64 h1 h2)
 ·exact .of_right (intBits_le_64 h1 h2)
def Bo:OpR X (Q2 .Add) (rI0 λi j=>.int (i+j)):=opI0 λ_ _ _ _ _ _ _ q=>add_int q
def op_sub:OpR X (Q2 .Sub) (rI0 λi j=>.int (i-j)):=opI0 λ_ _ _ _ _ _ _ q=>sub_int q
def Cz:OpR X (Q2 .Mult) (rI CMul λi j=>.int (i*j)):=opI λ_ _ _ _ _ _ _ hc q=>mul_int q hc.ok
def GD:OpR X (Q2 .FloorDiv) (rI CDiv λi j=>.int (i/j)):=opI λi j _ _ _ _ _ hc q=>by
 have h1:(0:Int)<j:=hc.1;have h2:j<1073741824:=hc.2;exact floordiv_int 0x0 (by rw[Int.fdiv_eq_ediv_of_nonneg i 0x0];exact q) (.inl (PyProof.noPylong_small 0x0))
def Ah:OpR X (Q2 .Mod) (rI (λ_ j=>0<j) λi j=>.int (i%j)):=opI λi j _ _ _ _ _ hc q=>by
 have h1:(0:Int)<j:=hc;exact mod_int' 0x0 (by rw[Int.fmod_eq_emod_of_nonneg i 0x0];exact q)
def Kf:OpR X (Q2 .Pow) (rI CPow λi j=>.int (i ^ j.toNat)):=opI λ_ _ _ _ _ _ _ hc q=>pow_int_small hc.1 hc.2.1 hc.2.2 q
def unI {g:Int->Int}
   (rule:∀(i:Int) (t:Tok) (s:A4) (Q:A3->A4->Prop) (E:A3->A4->Prop),Q (.int (g i) s.toks) { s with toks:=s.toks+1 }->A5 (A7 X.prog X.w) X.A (f (.int i t)) Q E s) :
   UnR X f (rU λi=>.int (g i)):=by
 intro jb s σ H x v Q I rx h;obtain⟨i,rfl,q⟩:=h;obtain⟨t,rfl⟩:=rx;exact rule i t s _ _ ⟨.int (g i),H,I.tok _,⟨_,rfl⟩,q⟩
def Kg:UnR X (unaryOp .USub) (rU λi=>.int (-i)):=unI λ_ _ _ _ _ q=>neg_int q
end
noncomputable def scal:V->V->Bool
 |.non,.non=>true|.non,.int _=>true|.int _,.non=>true|.non,.bl _=>true|.bl _,.non=>true|.non,.str _=>true|.str _,.non=>true
 |.int _,.int _=>true|.bl _,.bl _=>true|.str _,.str _=>true|.byt _,.byt _=>true
 |.int _,.str _=>true|.str _,.int _=>true|.bl _,.str _=>true|.str _,.bl _=>true
 |_,_=>false
def rEq:R2:=λx y H Q=>scal x y=true/\Q (.bl (decide (x=y))) H
def OA:decide (V.int i=V.int j)=(i == j):=by
 rw[V0];simp
def dec_bl:decide (V.bl i=V.bl j)=(i == j):=by
 rw[V0];simp
def OB:decide (V.str i=V.str j)=(i == j):=by
 rw[V0];simp
def OC:decide (V.byt i=V.byt j)=(i.toList == j.toList):=by
 rw[V0];cases i;cases j;simp
section
variable {X:Cx}{a b c:Expr}{ta tb tc:TE}{pos:Pos}
def N6 (I:Inv X jb σ H s)(q:Q (.bl k) H)(e:k=k'):EP X jb σ Q (.bool k') s:=by
 subst e;exact⟨.bl k,H,I,rfl,q⟩
def op_eq:OpR X (K6 .Eq) rEq:=by
 intro jb s σ H x y v u Q I rx ry h;obtain⟨hs,q⟩:=h;cases x with
 | non =>
  cases rx;cases y with
  |non=>cases ry;exact PySem.EqNone.eq_none_none (N6 I q 0o0)
  |bl j=>cases ry;exact PySem.EqNone.eq_none_bool (N6 I q 0o0)
  |int j=>obtain⟨t',rfl⟩:=ry;exact PySem.EqNone.eq_none_int (N6 I q 0o0)
  |str j=>obtain⟨t',rfl⟩:=ry;exact PySem.EqNone.eq_none_str (N6 I q 0o0)
  |_=>exact absurd (show false=true from hs) L3
 | bl i =>
  cases rx;cases y with
  |non=>cases ry;exact PySem.EqNone.eq_bool_none (N6 I q 0o0)
  |bl j=>cases ry;exact eq_bool (N6 I q dec_bl)
  |str j=>obtain⟨t',rfl⟩:=ry;exact PySem.EqMixed.eq_bool_str (N6 I q 0o0)
  |_=>exact absurd (show false=true from hs) L3
 | int i =>
  obtain⟨t,rfl⟩:=rx;cases y with
  |non=>cases ry;exact PySem.EqNone.eq_int_none (N6 I q 0o0)
  |int j=>obtain⟨t',rfl⟩:=ry;exact eq_int (N6 I q OA)
  |str j=>obtain⟨t',rfl⟩:=ry;exact PySem.EqMixed.eq_int_str (N6 I q 0o0)
  |_=>exact absurd (show false=true from hs) L3
 | str i =>
  obtain⟨t,rfl⟩:=rx;cases y with
  |non=>cases ry;exact PySem.EqNone.eq_str_none (N6 I q 0o0)
  |bl j=>cases ry;exact PySem.EqMixed.eq_str_bool (N6 I q 0o0)
  |int j=>obtain⟨t',rfl⟩:=ry;exact PySem.EqMixed.eq_str_int (N6 I q 0o0)
  |str j=>obtain⟨t',rfl⟩:=ry;exact eq_str (N6 I q OB)
  |_=>exact absurd (show false=true from hs) L3
 | byt i =>
  obtain⟨t,rfl⟩:=rx;cases y with
  |byt j=>obtain⟨t',rfl⟩:=ry;exact PySem.W.eq_bytes (N6 I q OC)
  |_=>exact absurd (show false=true from hs) L3
 |_=>cases y <;> exact absurd (show false=true from hs) L3
def op_lt:OpR X (K6 .Lt) (rI0 λi j=>.bl (decide (i<j))):=opB0 λ_ _ _ _ _ _ _ q=>lt_int q
def op_le:OpR X (K6 .LtE) (rI0 λi j=>.bl (decide (i<=j))):=opB0 λ_ _ _ _ _ _ _ q=>le_int q
def op_gt:OpR X (K6 .Gt) (rI0 λi j=>.bl (decide (j<i))):=opB0 λ_ _ _ _ _ _ _ q=>gt_int q
def op_ge:OpR X (K6 .GtE) (rI0 λi j=>.bl (decide (j<=i))):=opB0 λ_ _ _ _ _ _ _ q=>ge_int q
def OD:OpR X (K6 .Lt) (λx y H Q=>∃i j,x=.str i/\y=.str j/\Q (.bl (decide (i.cps.toList<j.cps.toList))) H):=by
 intro jb s σ H x y v u Q I rx ry h;obtain⟨i,j,rfl,rfl,q⟩:=h;obtain⟨t,rfl⟩:=rx;obtain⟨t',rfl⟩:=ry;exact lt_str (N6 I q rfl)
def OE:OpR X (K6 .In) (λx y H Q=>∃i j,x=.str i/\y=.str j/\Q (.bl (!(Bb j i 0 j.length 1).isEmpty)) H):=by
 intro jb s σ H x y v u Q I rx ry h;obtain⟨i,j,rfl,rfl,q⟩:=h;obtain⟨t,rfl⟩:=rx;obtain⟨t',rfl⟩:=ry;exact in_str (N6 I q rfl)
def op_isN:OpR X (K6 .Is) (λx y H Q=>y=.non/\Q (.bl (decide (x=.non))) H):=by
 intro jb s σ H x y v u Q I rx ry h;obtain⟨rfl,q⟩:=h;cases ry;refine is_none_gen (N6 I q ?_)
 cases x <;> first
   |(cases rx;rfl)
   |(obtain⟨t,rfl⟩:=rx;rfl)
def OF:OpR X (K6 .IsNot) (λx y H Q=>y=.non/\Q (.bl (!decide (x=.non))) H):=by
 intro jb s σ H x y v u Q I rx ry h;obtain⟨rfl,q⟩:=h;cases ry;refine isnot_none_gen (N6 I q ?_)
 cases x <;> first
   |(cases rx;rfl)
   |(obtain⟨t,rfl⟩:=rx;rfl)
def OpR.or (h:OpR X f r)(h':OpR X f r'):OpR X f (λx y H Q=>r x y H Q\/r' x y H Q):=by
 intro jb s σ H x y v u Q I rx ry q;rcases q with q|q
 ·exact h jb s σ H x y v u Q I rx ry q
 ·exact h' jb s σ H x y v u Q I rx ry q
def Y9 (b:Expr)(h:op≠.In:=by decide)(h2:op≠.NotIn:=by decide):w6 op b=false:=by
 have e1:(op == CmpOp.In)=false:=by cases op <;> first|rfl|exact absurd rfl h
 have e2:(op == CmpOp.NotIn)=false:=by cases op <;> first|rfl|exact absurd rfl h2
 cases b <;> simp[w6,e1,e2]
def Kh (ho:OpR X (K6 op) r)(ha:PE X a ta)(hb:PE X b tb)(hm:w6 op b=false):PE X (.Compare a [op] [b] pos) (tOp r ta tb):=by
 intro jb s σ H Q I h;exact wpAny_Compare1 (binT ha hb I h λv u s2 x y H2 I2 rx ry q=>ho jb s2 σ H2 x y v u Q I2 rx ry q) hm
def GE (t:TE):TT:=λσ H Q=>t σ H λx H'=>∃k,x=.bl k/\Q k H'
def CA (ho:OpR X (K6 op) r)(ha:PE X a ta)(hb:PE X b tb)(hm:w6 op b=false):PT X (.Compare a [op] [b] pos) (GE (tOp r ta tb)):=by
 intro jb s σ H Q I h
 refine wpAny_isTrue_Compare1 (thn (ha jb s σ H _ I h) λv s1 ⟨x,H1,I1,r1,q1⟩=>thn (hb jb s1 σ H1 _ I1 q1) λu s2 ⟨y,H2,I2,r2,q2⟩=>
  thn (ho jb s2 σ H2 x y v u _ I2 r1 r2 q2) λc s3 ⟨z,H3,I3,r3,k,e,q3⟩=>?_) hm
 subst e;cases r3;exact X6 ⟨H3,I3,q3⟩
def GF (r r':R2)(ta tb tc:TE):TE:=λσ H Q=>ta σ H λx H1=>tb σ H1 λy H2=>r x y H2 λz H3=>∃k,z=.bl k/\
 (if k=true then tc σ H3 λw' H4=>r' y w' H4 Q else Q (.bl false) H3)
def OG (ho:OpR X (K6 op) r)(ho':OpR X (K6 op') r')(ha:PE X a ta)(hb:PE X b tb)(hc:PE X c tc)
   (hm:lastMarks [op,op'] [b,c]=false:=by with_unfolding_all rfl):PE X (.Compare a [op,op'] [b,c] pos) (GF r r' ta tb tc):=by
 intro jb s σ H Q I h
 refine Compare_chain (thn (ha jb s σ H _ I h) λv s1 ⟨x,H1,I1,r1,q1⟩=>chain_link (thn (hb jb s1 σ H1 _ I1 q1) λu s2 ⟨y,H2,I2,r2,q2⟩=>
  thn (ho jb s2 σ H2 x y v u _ I2 r1 r2 q2) λd s3 ⟨z,H3,I3,r3,k,e,q3⟩=>?_)) hm
 subst e;cases r3;refine X6 ?_;cases k with
 |false=>exact ite_ff ⟨.bl false,H3,I3,rfl,q3⟩
 |true=>exact ite_tt (chain_last (thn (hc jb s3 σ H3 _ I3 q3) λw' s4 ⟨z',H4,I4,r4,q4⟩=>ho' jb s4 σ H4 y z' u w' Q I4 r2 r4 q4))
def OH (ho:OpR X (K6 op) r)(ho':OpR X (K6 op') r')(ha:PE X a ta)(hb:PE X b tb)(hc:PE X c tc)
   (hm:lastMarks [op,op'] [b,c]=false:=by with_unfolding_all rfl):PT X (.Compare a [op,op'] [b,c] pos) (GE (GF r r' ta tb tc)):=by
 intro jb s σ H Q I h
 refine isTrue_chain (thn (ha jb s σ H _ I h) λv s1 ⟨x,H1,I1,r1,q1⟩=>test_link (thn (hb jb s1 σ H1 _ I1 q1) λu s2 ⟨y,H2,I2,r2,q2⟩=>
  thn (ho jb s2 σ H2 x y v u _ I2 r1 r2 q2) λd s3 ⟨z,H3,I3,r3,k,e,q3⟩=>?_)) hm
 subst e;cases r3;refine X6 ?_;cases k with
 | false =>
  obtain⟨k',e',q'⟩:=q3;cases e';exact ite_ff ⟨H3,I3,q'⟩
 | true =>
  refine ite_tt (test_last (thn (hc jb s3 σ H3 _ I3 q3) λw' s4 ⟨z',H4,I4,r4,q4⟩=>thn (ho' jb s4 σ H4 y z' u w' _ I4 r2 r4 q4) λd' s5 ⟨z2,H5,I5,r5,k2,e2,q5⟩=>?_));subst e2;cases r5;exact X6 ⟨H5,I5,q5⟩
def TruV (K:A8)(x:V)(H:Hp)(k:Bool):Prop:=
 match x with
 |.non=>k=false
 |.bl b=>k=b
 |.int i=>k=(i != 0)
 |.str y=>y.length<=B4/\k=((y.length:Int) != 0)
 |.byt y=>y.size<=B4/\k=((y.size:Int) != 0)
 |.ref p=>(∃xs,SqL K H p xs/\k=!xs.isEmpty)\/(∃xs,SqT K H p xs/\k=!xs.isEmpty)\/∃jg,H p=some (.dK jg)/\k=!jg.isEmpty
 |_=>False
def OI {κ:Type}{jg:List (κ×V)}{vs:List (κ×A3)}(r:KV jg vs):(!vs.isEmpty)=!jg.isEmpty:=by
 cases r <;> rfl
def Ki (r:Vals xs jf):(!jf.toArray.isEmpty)=!xs.isEmpty:=by
 cases r <;> simp
def Ai:(B4:Nat)<2 ^ 63:=by rw[O0];decide
def Kj:TruR X (λx H Q=>∃k,TruV X.K x H k/\Q k H):=by
 intro jb s σ H x v Q I rx h;obtain⟨k,e,q⟩:=h;have hl:=Ai;have hs:B4=16777216:=O0;cases x with
 | non =>
  cases rx;have e':k=false:=e;subst e';exact truthy_none ⟨H,I,q⟩
 | bl b =>
  cases rx;have e':k=b:=e;subst e';exact X6 ⟨H,I,q⟩
 | int i =>
  obtain⟨t,rfl⟩:=rx;have e':k=(i != 0):=e;subst e';exact PySem.P.truthy_int ⟨H,I,q⟩
 | str y =>
  obtain⟨t,rfl⟩:=rx;obtain⟨hy,e'⟩:y.length<=B4/\k=((y.length:Int) != 0):=e;subst e';exact PySem.P.truthy_str 0x0 ⟨H,I.tok _,q⟩
 | byt y =>
  obtain⟨t,rfl⟩:=rx;obtain⟨hy,e'⟩:y.size<=B4/\k=((y.size:Int) != 0):=e;subst e';exact PySem.W.truthy_bytes 0x0 ⟨H,I.tok _,q⟩
 | ref p =>
  cases rx;have e':(∃xs,SqL X.K H p xs/\k=!xs.isEmpty)\/(∃xs,SqT X.K H p xs/\k=!xs.isEmpty)\/∃jg,H p=some (.dK jg)/\k=!jg.isEmpty:=e;rcases e' with⟨xs,hx,e'⟩|⟨xs,hx,e'⟩|⟨jg,hx,e'⟩
  ·subst e';obtain⟨jf,r,pl,hz⟩:=I.list hx;have hlen:=r.length;exact wpAny_truthy_list pl.isList (by simp only[E9];ext) ⟨H,I.tok _,by rw[Ki r];exact q⟩
  ·subst e';obtain⟨jf,r,pl,hz⟩:=I.tuple hx;have hlen:=r.length;exact truthy_tuple pl (by simp only[E9];ext) ⟨H,I.tok _,by rw[Ki r];exact q⟩
  ·subst e';obtain⟨hz,hS,vs,r,m⟩:jg.length<=B4/\(p == N3)=false/\∃vs,KV jg vs/\s.heap.DictOf (F8 X.prog X.w) p vs:=I.hok p _ hx;have hlen:jg.length=vs.length:=Cs r;exact wpAny_truthy_dict hS m 0x0 ⟨H,I.tok _,by rw[OI r];exact q⟩
 |_=>exact(show False from e).elim
def OJ (ha:PE X a ta)(he:∀whole,isTrue a X.env whole=(do let v ← whole;Y0 a.pos;Q3 [v] (truthy v))) :
   PT X a (λσ H Q=>ta σ H λx H'=>∃k,TruV X.K x H' k/\Q k H'):=by
 intro jb s σ H Q I h;exact isTrue_plain (thn (ha jb s σ H _ I h) λv s1 ⟨x,H1,I1,r1,q1⟩=>Kj jb s1 σ H1 x v Q I1 r1 q1) (he _)
def OL:OpR X (Q2 .Add) (λx y H Q=>∃i j,x=.str i/\y=.str j/\i.length+j.length<=B4/\Q (.str (i++j)) H):=by
 intro jb s σ H x y v u Q I rx ry h;obtain⟨i,j,rfl,rfl,hz,q⟩:=h;obtain⟨t,rfl⟩:=rx;obtain⟨t',rfl⟩:=ry;exact add_str (λt' tk=>⟨.str (i++j),H,I.tok _,⟨_,rfl⟩,q⟩) hz
def Aj (r:Vals [x] us):∃u,us=[u]/\RelV x u:=by
 cases r with
 |cons r1 r2=>cases r2;exact⟨_,rfl,r1⟩
def vals2 (r:Vals [x,y] us):∃u w',us=[u,w']/\RelV x u/\RelV y w':=by
 cases r with
 | cons r1 r2 =>
  cases r2 with
  |cons r3 r4=>cases r4;exact⟨_,_,rfl,r1,r3⟩
def OM (hc:X.calm=true):K3 X (.builtin "max") (λxs H Q=>∃i j,xs=[.int i,.int j]/\Q (.int (if j>i then j else i)) H):=by
 intro jb s σ H xs us Q I r h;obtain⟨i,j,rfl,q⟩:=h;obtain⟨u,w',rfl,⟨t,rfl⟩,⟨t',rfl⟩⟩:=vals2 r;refine max_two_ints (I.ok.hd hc) λh' tk k=>⟨_,H,I.kept k,?_,q⟩
 by_cases hj:j>i
 ·rw[jt hj,jt hj];exact⟨_,rfl⟩
 ·rw[ju hj,ju hj];exact⟨_,rfl⟩
def ON (hc:X.calm=true):K3 X (.builtin "min") (λxs H Q=>∃i j,xs=[.int i,.int j]/\Q (.int (if j<i then j else i)) H):=by
 intro jb s σ H xs us Q I r h;obtain⟨i,j,rfl,q⟩:=h;obtain⟨u,w',rfl,⟨t,rfl⟩,⟨t',rfl⟩⟩:=vals2 r;refine min_two_ints (I.ok.hd hc) λh' tk k=>⟨_,H,I.kept k,?_,q⟩
 by_cases hj:j<i
 ·rw[jt hj,jt hj];exact⟨_,rfl⟩
 ·rw[ju hj,ju hj];exact⟨_,rfl⟩
def Kk:K3 X (.type "int") (λxs H Q=>(∃i,xs=[.int i]/\Q (.int i) H)\/∃k,xs=[.bl k]/\Q (.int (if k then 1 else 0)) H):=by
 intro jb s σ H xs us Q I r h;rcases h with⟨i,rfl,q⟩|⟨k,rfl,q⟩
 ·obtain⟨u,rfl,t,rfl⟩:=Aj r;exact call_int_int ⟨.int i,H,I,⟨_,rfl⟩,q⟩
 ·obtain⟨u,rfl,r1⟩:=Aj r;cases r1;exact call_int_bool ⟨.int (if k then 1 else 0),H,I.tok _,⟨_,rfl⟩,q⟩
end
structure ObjM (h:B3)(x dx C:A1)(mA:Str->Option A3):Prop where
 obj:h.get? x=some (PySem.W.instObj C dx)
 ns:h.Ns1 dx mA
 ne:dx≠x
def OP {h:B3}(n:h.Ns1 dx mA):∃od,h.get? dx=some od/\∀name,PySem.W.lookIn name od=some (mA name):=by
 obtain⟨o,es,ep,ho,hd,hk,_,hm⟩:=n;refine⟨o,ho,λname=>?_⟩;have e:=hm name;unfold nsFind findBy at e;rw[<- Array.find?_toList] at e;unfold PySem.W.lookIn;rw[hd];dsimp only
 split
 ·grind
 ·rename_i q;rw[q] at e
  have a:es.toList.any (·.refKey)=false:=by
   rw[DJ];intro y hy;obtain⟨z,t,hkey⟩:=hk y (Array.mem_toList_iff.mp hy);simp[DictEntry.refKey,hkey]
  have a':¬es.toList.any (·.refKey)=true:=by rw[a];exact L3
  rw[ju a'];exact congrArg some e
def ObjM.look (I:ObjM h x dx C mA):∃od,PySem.W.InstAt h x (PySem.W.instObj C dx) C (some od)/\∀name,PySem.W.lookIn name od=some (mA name):=
 let ⟨od,ho,hl⟩:=OP I.ns
 ⟨od,⟨I.obj,rfl,rfl,ho⟩,hl⟩
def RelO.some_of (r:RelO (some v) o):∃u,o=some u/\RelV v u:=by
 cases o with
 |none=>exact(show False from r).elim
 |some u=>exact⟨u,rfl,r⟩
section
variable {P:C3}{w:B9}{H H':Hp}{h h':B3}{a C dx:A1}{fs fs':List (Str×V)}
def OQ (hok:HOk P w H h)(e:H a=some (.ins C dx fs)):∃mA,ObjM h a dx C mA/\(∀f,RelO (fs.lookup f) (mA f))/\PySem.Within mA (fs.map (·.1))/\fs.length<=1000/\H dx=some (.own a):=by
 obtain⟨d,z,ne,ob,mA,n,r,q⟩:=(show F9 P w H h a (.ins C dx fs) from hok a _ e);exact⟨mA,⟨ob,n,ne⟩,r,q,z,d⟩
end
structure Cls (K:A8)(C:A1):Prop where
 pg:PySem.W.plainGet K C Str.empty=true
 hd:PySem.W.hasDictIn K C=true
 po:PySem.W.plainOver K C=true
 sa:PySem.W.findIn K (.ref C) "__setattr__"=some (some (.builtin "object.__setattr__"))
def Cls.get {K:A8}(c:Cls K C)(f:Str):PySem.W.plainGet K C f=true:=c.pg
section
variable {X:Cx}{jb:List (A1×Obj)}{σ:St}{H:Hp}{s:A4}{A:D0}{E:A3->A4->Prop}{Q:A3->A4->Prop}{c:A3}{b:Bool}
inductive TyOf (K:A8)(H:Hp):V->A3->Prop where
 |non:TyOf K H .non (.type "NoneType")
 |bl (x:Bool):TyOf K H (.bl x) (.type "bool")
 |int (i:Int):TyOf K H (.int i) (.type "int")
 |str (x:Str):TyOf K H (.str x) (.type "str")
 |flt (x:UInt64):TyOf K H (.flt x) (.type "float")
 |lst {a:A1} {xs:List V} (e:H a=some (.lst xs)):TyOf K H (.ref a) (.type "list")
 |frz {a:A1} {o:Obj} {xs:List V} (e:H a=some (.frz o (.lst xs))):TyOf K H (.ref a) (.type "list")
 |tup {a:A1} {xs:List V} (e:H a=some (.tup xs)):TyOf K H (.ref a) (.type "tuple")
 |dK {a:A1} {jg:List (Key×V)} (e:H a=some (.dK jg)):TyOf K H (.ref a) (.type "dict")
 |dT {a:A1} {jg:List (List Key×V)} (e:H a=some (.dT jg)):TyOf K H (.ref a) (.type "dict")
 |ins {a C dx:A1} {fs:List (Str×V)} (e:H a=some (.ins C dx fs)) (cl:Cls K C) (ha:PySem.W.findIn K (.ref C) "__class__"=some (some (.builtin "object.__class__")))
     (hn:PySem.W.specialIn K (.builtin "object.__class__") "__get__"=some (some (.builtin "getset_descriptor.__get__"))) (htk:PySem.W.takesIn K (.builtin "object.__class__")=some true)
     (hm:PySem.W.mroIn K C (.type "object")=some true):TyOf K H (.ref a) (.ref C)
def OR (I:Inv X jb σ H s)(rx:RelV x u)(ty:TyOf X.K H x t)(e:BV X.K t c=some b)(h:∀tk,Q (.bool b) { s with toks:=tk }) :
   A5 (A7 X.prog X.w) A (call (.builtin "isinstance") [u,c]) Q E s:=by
 cases ty with
 |non=>cases(show u=Q6 from rx);exact W0 PySem.W.kitx_none I.kIn W7 e (λz=>nomatch z) h
 |bl y=>cases(show u=Value.bool y from rx);exact W0 PySem.W.kitx_bool I.kIn W7 e (λz=>nomatch z) h
 |int i=>obtain⟨t,q⟩:=(show ∃t,u=Value.int i t from rx);cases q;exact W0 PySem.W.kitx_int I.kIn W7 e (λz=>nomatch z) h
 |str y=>obtain⟨t,q⟩:=(show ∃t,u=Value.str y t from rx);cases q;exact W0 PySem.W.kitx_str I.kIn W7 e (λz=>nomatch z) h
 |flt y=>obtain⟨t,q⟩:=(show ∃t,u=Value.float y t from rx);cases q;exact W0 PySem.W.kitx_float I.kIn W7 e (λz=>nomatch z) h
 | @lst a xs ea =>
  cases(show u=K2 a from rx);obtain⟨_,_,n,_,h1⟩:=(show F9 X.prog X.w H s.heap a (.lst xs) from I.hok a _ ea);exact W0 PySem.W.kitx_list I.kIn ⟨_,h1,rfl⟩ e (λz=>nomatch z) h
 | @frz a ob xs ea =>
  cases(show u=K2 a from rx);obtain⟨_,_,_,n,_,h1⟩:=(show F9 X.prog X.w H s.heap a (.frz ob (.lst xs)) from I.hok a _ ea);exact W0 PySem.W.kitx_list I.kIn ⟨_,h1,rfl⟩ e (λz=>nomatch z) h
 | @tup a xs ea =>
  cases(show u=K2 a from rx);obtain⟨_,_,_,p⟩:=(show F9 X.prog X.w H s.heap a (.tup xs) from I.hok a _ ea);obtain⟨o,h1,h2,_⟩:=p;exact W0 PySem.W.kitx_tuple I.kIn ⟨o,h1,(Bi h2).1⟩ e (λz=>nomatch z) h
 | @dK a jg ea =>
  cases(show u=K2 a from rx);obtain⟨_,_,vs,_,p⟩:=(show F9 X.prog X.w H s.heap a (.dK jg) from I.hok a _ ea);obtain⟨o,es,ep,h1,h2,_⟩:=p;exact W0 PySem.W.kitx_dict I.kIn ⟨o,h1,h2.1⟩ e (λz=>nomatch z) h
 | @dT a jg ea =>
  cases(show u=K2 a from rx);obtain⟨_,_,xs,_,o,es,ep,h1,h2,_⟩:=(show F9 X.prog X.w H s.heap a (.dT jg) from I.hok a _ ea);exact W0 PySem.W.kitx_dict I.kIn ⟨o,h1,h2.1⟩ e (λz=>nomatch z) h
 | @ins a C dx fs ea cl ha hn htk hm =>
  cases(show u=K2 a from rx);obtain⟨mA,O,_⟩:=OQ I.hok ea;obtain⟨od,J,_⟩:=O.look;exact W0 (PySem.W.kitx_own (cl.get _) cl.hd ha hn htk hm) I.kIn J e (λz=>nomatch z) h
end
structure Room (k:Nat)(A:D0):Prop where
 hd:A.handled=none
 dp:A.depth+3*k+5<recursionLimit
 un:A.units+16*k+200<cLine
 gd:A.guards=some []
def Room.mono (r:Room k A)(h:j<=k):Room j A:=⟨r.hd,by have:=r.dp;omega,by have:=r.un;omega,r.gd⟩
theorem Room.deeper (r:Room (k+1) A)(env:Env):Room k (A.deeper env):=
 ⟨r.hd,by have:=r.dp;show A.depth+1+3*k+5<_;omega,by have:=r.un;show A.units+3+16*k+200<_;omega,r.gd⟩
theorem Room.depth (r:Room k A):A.depth<recursionLimit:=by have:=r.dp;ext
theorem Room.units (r:Room k A):A.units+64<cLine:=by have:=r.un;ext
def tNil:TA:=λ_ H Q=>Q [] H
def T4 (ta:TE)(tr:TA):TA:=λσ H Q=>ta σ H λx H1=>tr σ H1 λxs H2=>Q (x::xs) H2
section
variable {X:Cx}{e:Expr}{es:List Expr}{te:TE}{t:TA}{pos:Pos}
def G0:PA X [] tNil:=λ_ _ _ _ H Q I h=>Calls.spliced_nil ⟨[],H,I,.nil,h⟩
def E3 (ha:PE X e te)(hr:PA X es t)(hs:D6 (e::es) X.env=(false,eval e X.env)::D6 es X.env:=by rfl):PA X (e::es) (T4 te t):=by
 intro pos jb s σ H Q I h;rw[hs];show A5 _ _ (spliced ((false,eval e X.env)::backTo pos (D6 es X.env))) _ _ s;refine Calls.spliced_cons (thn (ha jb s σ H _ I h) λu s1 ⟨x,H1,I1,r1,q1⟩=>?_);exact thn (hr pos jb s1 σ H1 _ I1 q1) λus s2 ⟨xs,H2,I2,r2,q2⟩=>⟨x::xs,H2,I2,.cons r1 r2,q2⟩
def tTup (t:TA):TE:=λσ H Q=>t σ H λxs H1=>xs.length<=B4/\∀p,H1 p=none->Q (.ref p) (upd H1 p (.tup xs))
def tLst (t:TA):TE:=λσ H Q=>t σ H λxs H1=>xs.length<=B4/\∀p,H1 p=none->Q (.ref p) (upd H1 p (.lst xs))
def Ef {x1}(h:PA X es t):PE X (.Tuple es x1 pos) (tTup t):=by
 intro jb s σ H Q I hq;refine wpAny_Tuple_spliced (thn (h pos jb s σ H _ I hq) λus s1 ⟨xs,H1,I1,r,z,q⟩=>⟨by rw[<- r.length];exact z,?_⟩);have hf:H1 s1.heap.objs.size=none:=I1.hok.fresh (B2 _);refine⟨.ref s1.heap.objs.size,upd H1 s1.heap.objs.size (.tup xs),I1.laid (t':=s1.toks) (λb u e=>B7 _ e) (B2 _) ?_,rfl,q _ hf⟩;exact⟨z,us,r,⟨_,E7 _ rfl,rfl,_,rfl⟩⟩
def pe_lst (h:PA X es t):PE X (.List es pos) (tLst t):=by
 intro jb s σ H Q I hq;refine wpAny_List_spliced (thn (h pos jb s σ H _ I hq) λus s1 ⟨xs,H1,I1,r,z,q⟩=>⟨by rw[<- r.length];exact z,?_⟩);have hf:H1 s1.heap.objs.size=none:=I1.hok.fresh (B2 _);refine⟨.ref s1.heap.objs.size,upd H1 s1.heap.objs.size (.lst xs),I1.laid (t':=s1.toks) (λb u e=>B7 _ e) (B2 _) ?_,rfl,q _ hf⟩;exact⟨z,us,0,r,E7 _ rfl⟩
end
abbrev Sp:=List V->Hp->VK->XK->Prop
abbrev CXT:=List Env->Hp->A4->XK->A3->A4->Prop
structure Env0 (P:C3)(w:B9)(K:A8)(mg:Str->Option A3)(base:B3)(A:D0)(outer:List Env)(s:A4)(H:Hp):Prop where
 frames:A.frames=some outer
 mod:Mod K mg base
 bs:∀b o,base.get? b=some o->s.heap.get? b=some o/\H b=none
 bsz:base.objs.size<=s.heap.objs.size
 funs:s.heap.FunFrames base outer
 frf:∀b∈frs outer,H b=none
 hok:HOk P w H s.heap
 bare:AllBare s.gens
 nos:NS H
def CE (outer:List Env)(P:C3)(w:B9)(H:Hp)(s:A4)(Q:VK)(u:A3)(s':A4):Prop:=
 ∃v H',s'.os=s.os/\AllBare s'.gens/\Un (frs outer) [] H H' s.heap s'.heap/\HOk P w H' s'.heap/\RelV v u/\Q v H'
def CR (CX:CXT)(outer:List Env)(P:C3)(w:B9)(H:Hp)(s:A4)(Q:VK)(E:XK)(r:Result)(s':A4):Prop:=
 match r with
 |.ok (.ret u)=>CE outer P w H s Q u s'
 |.ok _=>False
 |.error e=>CX outer H s E e s'
structure FnOk (P:C3)(w:B9)(K:A8)(mg:Str->Option A3)(base:B3)(CX:CXT)(k:Nat)(f:A1)(fd:FuncData)(ps:List Str)(sp:Sp):Prop where
 len:∀vs H Q E,sp vs H Q E->vs.length=ps.length
 run:∀(A:D0) (outer:List Env) (s:A4) (H:Hp) (args:Args) (us:List A3) (vs:List V) (Q:VK) (E:XK),Room k A->Env0 P w K mg base A outer s H->BindsTo s fd args (ps.zip us)->Vals vs us->sp vs H Q E->
   M1 (A7 P w) A (.call (.ref f) args) (CR CX outer P w H s Q E) s
def FnOk.imp {K:A8}(F:FnOk P w K mg base CX k f fd ps sp)
   (h:∀vs H Q E,sp' vs H Q E->sp vs H Q E):FnOk P w K mg base CX k f fd ps sp':=
 ⟨λvs H Q E q=>F.len vs H Q E (h _ _ _ _ q),λA outer s H args us vs Q E hr he hb hv hs=>F.run A outer s H args us vs Q E hr he hb hv (h _ _ _ _ hs)⟩
section
variable {X:Cx}{jb:List (A1×Obj)}{σ:St}{H:Hp}{s s':A4}
def Inv.env0 (I:Inv X jb σ H s):Env0 X.prog X.w X.K X.mg X.base X.A X.stack s H:=
 ⟨I.ok.frames,I.ok.mod,I.bs,K1 I.ok.bsz I.sz,I.stack,I.stkFree,I.hok,I.bare,I.nos⟩
def Inv.after (I:Inv X jb σ H s)(h:CE X.stack X.prog X.w H s Q u s'):EP X jb σ Q u s':=by
 obtain⟨v,H',os,bare,un,hok,r,q⟩:=h;obtain⟨hh,g,d,t,os'⟩:=s';obtain rfl:os'=s.os:=os;exact⟨v,H',I.call (h':=hh) (g':=g) (d':=d) (t':=t) (ch:=[]) un hok bare (λb z=>absurd z 0o0),r,q⟩
end
def tCall (sp:Sp)(dvs:List V)(E:XK)(t:TA):TE:=λσ H Q=>t σ H λvs H1=>sp (vs++dvs) H1 Q E
def Bp (K:A8)(fd:FuncData)(ps:List Str)(ds:List A3):Prop:=
 ∀(s:A4) (us:List A3),K.In s.heap->(us++ds).length=ps.length->BindsTo s fd ⟨us,[]⟩ (ps.zip (us++ds))
def Bp.all {K:A8}(h:∀us:List A3,us.length=ps.length->bindArgs fd ⟨us,[]⟩=pure (ps.zip us)):Bp K fd ps []:=λs us _ hl=>by
 rw[W5] at hl ⊢;exact .of_eq (h us hl)
def GG (CX:CXT)(X:Cx)(E:XK):Prop:=∀(jb:List (A1×Obj)) (σ:St) (H:Hp) (s:A4) (e:A3) (s':A4),Inv X jb σ H s->CX X.stack H s E e s'->X.xe e s'
section
variable {X:Cx}{CX:CXT}{k:Nat}{f C:A1}{fd:FuncData}{ps:List Str}{sp:Sp}{dvs:List V}{ds:List A3}{E:XK}{x m:Str}{p pos apos:Pos}{e o:Expr}{es:List Expr}{ta:TE}{t:TA}
def run_fn (F:FnOk X.prog X.w X.K X.mg X.base CX k f fd ps sp)(hr:Room k X.A)(hb:Bp X.K fd ps ds)(hd:Vals dvs ds)(hx:GG CX X E)
   (I:Inv X jb σ H s) (r:Vals vs us) (h:sp (vs++dvs) H Q E):A5 (A7 X.prog X.w) X.A (call (.ref f) us) (EP X jb σ Q) X.xe s:=by
 have r2:Vals (vs++dvs) (us++ds):=r.append hd;have hl:(us++ds).length=ps.length:=by rw[<- r2.length];exact F.len _ _ _ _ h
 refine wpAny_call (w9 (F.run X.A X.stack s H ⟨us,[]⟩ (us++ds) (vs++dvs) Q E hr I.env0 (hb s us I.kIn hl) r2 h) λr s' hq=>?_);cases r with
 |error e=>exact hx jb σ H s e s' I hq
 | ok fl =>
  cases fl with
  |ret u=>exact I.after hq
  |next=>exact Y7 hq
  |brk=>exact Y7 hq
  |cont=>exact Y7 hq
def OS (F:FnOk X.prog X.w X.K X.mg X.base CX k f fd ps sp)(hr:Room k X.A)(hg:Gl X x)(hm:X.mg x=some (.ref f))(hk:BW X.K (.ref f)=true)(hb:Bp X.K fd ps ds)(hd:Vals dvs ds)(hx:GG CX X E)
   (ha:PA X (e::es) t) (hdb:(x == ("__debug__":Str))=false:=by decide) (he:D6 (e::es) X.env=(false,eval e X.env)::D6 es X.env:=by rfl) (hpl:(backTo pos (D6 es X.env)).any (·.1)=false:=by rfl) :
   PE X (.Call (.Name x p) (e::es) [] pos) (tCall sp dvs E t):=by
 intro jb s σ H Q I h;refine BT (Kc I hg hm ?_ hdb);refine PySem.W.callWith_K (h₀:=X.base) I.ok.mod.kin hk (thn (ha pos jb s σ H _ I h) λus s1 ⟨vs,H1,I1,r,q⟩=>⟨I1.kIn,?_⟩) he hpl;exact run_fn F hr hb hd hx I1 r q
end
def PK (X:Cx)(kws:List R4)(t:TA):Prop:=
 ∀(pos:Pos) (jb:List (A1×Obj)) (s:A4) (σ:St) (H:Hp) (Q:List V->Hp->Prop),Inv X jb σ H s->t σ H Q->A5 (A7 X.prog X.w) X.A (evalAll ((backToKw pos (x4 kws X.env)).map (·.2))) (AP X jb σ Q) X.xe s
structure Z0 (N P:List Str)(sc:J1):Prop where
 kind:sc.kind=.function
 co:sc.isCoroutine=false
 gen:sc.isGenerator=false
 nd:N.Nodup
 pre:N.take P.length=P
 par:∀x∈P,sc.names.lookup x=some .local\/sc.names.lookup x=some .cell
 nofree:∀y∈sc.names,y.2≠.free
theorem Kl {kindOf:Str->Option NameKind}:∀{binds:List (Str×A3)} {m:Str->Option A3},(∀v,(x,v)∉binds)->bindL kindOf binds m x=m x
 |[],_,_=>rfl
 | (n, v) :: r, m, h => by
  unfold bindL;rw[Kl λw hw=>h w (B6 _ hw)]
  split
  ·have:x≠n:=by rintro rfl;exact h v B8
   simp[this]
  ·rfl
theorem Km {kindOf:Str->Option NameKind}:∀{binds:List (Str×A3)} {m:Str->Option A3},(∀v,(x,v)∉binds)->bindC kindOf binds m x=m x
 |[],_,_=>rfl
 | (n, v) :: r, m, h => by
  unfold bindC;rw[Km λw hw=>h w (B6 _ hw)]
  split
  ·rfl
  ·have:x≠n:=by rintro rfl;exact h v B8
   simp[this]
theorem Ko {kindOf:Str->Option NameKind}:∀{P:List Str} {vs:List A3} {i:Nat} {m:Str->Option A3},P.Nodup->P[i]?=some x->vs[i]?=some v->kindOf x=some .local->
   bindL kindOf (P.zip vs) m x=some v
 |[],_,_,_,_,h,_,_=>by simp at h
 |_::_,[],_,_,_,_,h,_=>by simp at h
 | p :: P, w :: vs, 0, m, nd, h1, h2, hk => by
  simp at h1 h2;subst h1;subst h2;show bindL kindOf ((p,w)::P.zip vs) m p=_;unfold bindL;rw[Kl λv hv=>(O8.mp nd).1 (List.of_mem_zip hv).1,jt hk];simp
 | p :: P, w :: vs, i + 1, m, nd, h1, h2, hk => by
  show bindL kindOf ((p,w)::P.zip vs) m x=_;unfold bindL;exact Ko (i:=i) (O8.mp nd).2 (by simpa using h1) (by simpa using h2) hk
theorem Kp {kindOf:Str->Option NameKind}:∀{P:List Str} {vs:List A3} {i:Nat} {m:Str->Option A3},P.Nodup->P[i]?=some x->vs[i]?=some v->kindOf x≠some .local->
   bindC kindOf (P.zip vs) m x=some v
 |[],_,_,_,_,h,_,_=>by simp at h
 |_::_,[],_,_,_,_,h,_=>by simp at h
 | p :: P, w :: vs, 0, m, nd, h1, h2, hk => by
  simp at h1 h2;subst h1;subst h2;show bindC kindOf ((p,w)::P.zip vs) m p=_;unfold bindC;rw[Km λv hv=>(O8.mp nd).1 (List.of_mem_zip hv).1,ju hk];simp
 | p :: P, w :: vs, i + 1, m, nd, h1, h2, hk => by
  show bindC kindOf ((p,w)::P.zip vs) m x=_;unfold bindC;exact Kp (i:=i) (O8.mp nd).2 (by simpa using h1) (by simpa using h2) hk
noncomputable def start (N:List Str)(vs:List V):St:=vs.map some++List.replicate (N.length-vs.length) none
noncomputable def cxOf (CX:CXT)(P:C3)(w:B9)(K:A8)(mg:Str->Option A3)(base:B3)(N:List Str)(qual:Str)(scope:J1)(f:A1)(cd:A3)(A:D0)(outer:List Env)(s:A4)(H:Hp)(E:XK):Cx where
 prog:=P
 w:=w
 K:=K
 mg:=mg
 base:=base
 A:=A.deeper (envOfC qual scope s.heap.objs.size f cd)
 N:=N
 s₀:=s
 H₀:=H
 env:=envOfC qual scope s.heap.objs.size f cd
 outer:=outer
 stack:=envOfC qual scope s.heap.objs.size f cd::outer
 ex:=[]
 calm:=true
 fn:=λ_=>true
 pn:=[]
 xe:=λe s'=>A5 (A7 P w) (A.deeper (envOfC qual scope s.heap.objs.size f cd)) (leaving (envOfC qual scope s.heap.objs.size f cd) e) (λ_ s''=>CX outer H s E e s'') (λe' s''=>CX outer H s E e' s'') s'
def Kq {sc:J1}(h:sc.names.lookup x=some .cell):∃c,(cellsFrom n sc.names []).lookup x=some c:=by
 have q:=PySem.W.cellsFrom_some sc.names n [] (.inl h);exact DZ.mp q
def OT {K:A8}
   (S:Z0 N ps scope) (hd:A.handled=none) (e0:Env0 P w K mg base A outer s H) (hl:vs.length=ps.length) (r:Vals vs us)
   (x:InCallC s s.heap.objs.size (bindL (envOfC qual scope s.heap.objs.size f cd).kindOf (ps.zip us) λ_=>none) (cellsFrom (s.heap.objs.size+1) scope.names []) (bindC (envOfC qual scope s.heap.objs.size f cd).kindOf (ps.zip us) λ_=>none) s1) :
   Inv (cxOf CX P w K mg base N qual scope f cd A outer s H E) [] (start N vs) H s1:=by
 have hpl:ps.length<=N.length:=by have:=congrArg List.length S.pre;rw[J7] at this;omega
 obtain⟨h1,tk,rfl,hk⟩:=x.done;have noA:∀b:A1,b∉(cxOf CX P w K mg base N qual scope f cd A outer s H E).ex:=λb z=>absurd (show b∈([]:List A1) from z) 0o0
 refine⟨⟨e0.mod,S.kind,rfl,rfl,B2 _,λy z c h1 h2=>?_,λy hy=>?_,λy c _ h=>?_,λ_=>hd,Around.frames_deeper e0.frames,.inr ⟨rfl,rfl⟩,λb z=>absurd z (noA b),e0.bs,e0.bsz,λb _ _=>noA b,λb z=>absurd z (noA b),e0.funs,e0.frf,e0.nos⟩,
  rfl,e0.bare,Un.kept hk,⟨_,x.toInCall.ns,λi y v h1 h2 h3=>?_⟩,λy c h=>⟨_,x.cell y c h⟩,e0.hok.fresh (B2 _),λy c h=>?_,λp hp=>absurd (show p∈([]:List (A1×Obj)) from hp) 0o0,e0.hok.kept hk,?_⟩
 ·exact name_of_addr x.apart (w4 h1) (w4 h2)
 ·have hy:scope.names.lookup y=some .cell\/scope.names.lookup y=some .free:=hy;rcases hy with hy|hy
  ·exact Kq hy
  ·exact absurd rfl (S.nofree _ (w4 hy))
 ·exact l6 (x.above y c (w4 h))
 ·have hi:i<vs.length:=by
   unfold start at h2
   by_cases hi:i<vs.length
   ·exact hi
   ·rw[R6 (by simpa using hi)] at h2;rw[Gj] at h2
    split at h2 <;> cases h2
  have ha:vs[i]?=some v:=by
   unfold start at h2;rw[W4 (by simpa using hi),D4] at h2;cases e:vs[i]? with
   |none=>rw[e] at h2;cases h2
   |some a=>rw[e] at h2;cases h2;rfl
  obtain⟨u,hu,rv⟩:=r.get ha
  have hp:ps[i]?=some y:=by
   rw[<- S.pre,List.getElem?_take_of_lt 0x0];exact h1
  have ndP:ps.Nodup:=by rw[<- S.pre];exact S.nd.sublist (List.take_sublist _ _)
  refine⟨u,rv,?_⟩;rcases S.par y (G4 hp) with k|k
  ·exact .inl ⟨k,Ko ndP hp hu k⟩
  ·obtain⟨c,e⟩:=Kq (n:=s.heap.objs.size+1) k;refine .inr ⟨.inl k,c,e,?_⟩;have q:=x.cell y c e;rw[Kp ndP hp hu (by show scope.names.lookup y≠_;rw[k];decide)] at q;exact q
 ·exact e0.hok.fresh (l6 (x.above y c (w4 h)))
 ·unfold start;show _=N.length;rw[C7,B0,List.length_replicate];ext
def fn_of {K:A8}{dV kV doc pm jo ct oc:A3}
 (lk:K.lookup f=some ⟨oc,od,.func (U4 name qual params body scope dV kV doc pm an jo ct),osl⟩) (hcd:DG K jo qual=true) (S:Z0 N ps scope)
   (len:∀vs H Q E,sp vs H Q E->vs.length=ps.length)
   (hbody:∀(A:D0) (outer:List Env) (s:A4) (H:Hp) (vs:List V) (Q:VK) (E:XK),Room k (A.deeper (envOfC qual scope s.heap.objs.size f jo))->sp vs H Q E->
     ∃t,PSs (cxOf CX P w K mg base N qual scope f jo A outer s H E) body t/\t { nx:=λ_ H'=>Q .non H',rt:=Q } (start N vs) H) :
   FnOk P w K mg base CX (k+1) f (U4 name qual params body scope dV kV doc pm an jo ct) ps sp:=by
 refine⟨len,λA outer s H args us vs Q E hr e0 hb r hsp=>?_⟩;have hl:=len _ _ _ _ hsp;have KX:K.In s.heap:=e0.mod.kin.keeps λb o e=>(e0.bs b o e).1;have lim:s.heap.NoLimit:=e0.mod.nolimit.keeps λb o e=>(e0.bs b o e).1
 have hkind:∀y∈ps.zip us,scope.names.lookup y.1=some .local\/(scope.names.lookup y.1=some .cell/\((cellsFrom (s.heap.objs.size+1) scope.names []).lookup y.1).isSome=true):=λ⟨n,v⟩ hy=>by
  rcases S.par n (List.of_mem_zip hy).1 with q|q
  ·exact .inl q
  ·exact .inr ⟨q,PySem.W.cellsFrom_some _ _ _ (.inl q)⟩
 refine codeAny_call_function hr.depth (KX _ _ lk) rfl S.co S.gen rfl (PySem.W.codeRec_of KX hcd) (hb _ _ _ _ ?_);refine wpAny_newFunctionEnv_cells S.kind hkind λenv he s1 x=>?_;subst he;refine⟨lim.keeps x.toInCall.keep,codeAny_func ?_⟩;obtain⟨t,ht,hq⟩:=hbody A outer s H vs Q E (hr.deeper _) hsp;have I:Inv (cxOf CX P w K mg base N qual scope f jo A outer s H E) [] (start N vs) H s1:=OT S hr.hd e0 hl r x;refine G5 (ht [] s1 (start N vs) H _ I hq) (λfl s' hs=>?_) λe s' hs=>hs
 have fin:∀{σ':St} {H':Hp} {v:V} {u:A3},Inv (cxOf CX P w K mg base N qual scope f jo A outer s H E) [] σ' H' s'->RelV v u->Q v H'->CE outer P w H s Q u s':=
  λ{σ' H' v u} J rv q=>⟨v,H',J.os,J.bare,J.base,J.hok,rv,q⟩
 cases fl with
 | ret u =>
  obtain⟨v,σ',H',J,rv,q⟩:=hs;exact fin J rv q
 | next =>
  obtain⟨σ',H',J,q⟩:=hs;exact fin (v:=V.non) (u:=Q6) J rfl q
 | brk =>
  obtain⟨_,_,_,q⟩:=hs;exact Y7 q
 | cont =>
  obtain⟨_,_,_,q⟩:=hs;exact Y7 q
section
variable {X:Cx}{x:Str}{p pos:Pos}{e:Expr}{es:List Expr}{t:TA}{id T:String}{r:List V->Hp->VK->Prop}
def tCB (r:List V->Hp->VK->Prop)(t:TA):TE:=λσ H Q=>t σ H λvs H1=>r vs H1 Q
def g9 (hc:K3 X (.builtin id) r)(hg:Gl X x)(hm:X.mg x=none)(hv:J5 x=some (.builtin id))(ha:PA X (e::es) t)(hn:x≠"__name__":=by decide)(hdb:(x == ("__debug__":Str))=false:=by decide)
   (he:D6 (e::es) X.env=(false,eval e X.env)::D6 es X.env:=by rfl) (hpl:(backTo pos (D6 es X.env)).any (·.1)=false:=by rfl):PE X (.Call (.Name x p) (e::es) [] pos) (tCB r t):=by
 intro jb s σ H Q I h;refine BT (Y8 I hg hm hv ?_ hn hdb);exact PyProof.Rows.callWith_builtin1 (thn (ha pos jb s σ H _ I h) λus s1 ⟨vs,H1,I1,r1,q1⟩=>hc jb s1 σ H1 vs us Q I1 r1 q1) he hpl
def Bq (hc:K3 X (.type T) r)(hg:Gl X x)(hm:X.mg x=none)(hv:J5 x=some (.type T))(ha:PA X (e::es) t)(hn:x≠"__name__":=by decide)(hdb:(x == ("__debug__":Str))=false:=by decide)
   (he:D6 (e::es) X.env=(false,eval e X.env)::D6 es X.env:=by rfl) (hpl:(backTo pos (D6 es X.env)).any (·.1)=false:=by rfl):PE X (.Call (.Name x p) (e::es) [] pos) (tCB r t):=by
 intro jb s σ H Q I h;refine BT (Y8 I hg hm hv ?_ hn hdb);exact l8 (thn (ha pos jb s σ H _ I h) λus s1 ⟨vs,H1,I1,r1,q1⟩=>hc jb s1 σ H1 vs us Q I1 r1 q1) he hpl
end
end L2
namespace HT
open PySem PyProof.Rows
section
variable {prog:C3}{w:B9}{A:D0}{E:A3->A4->Prop}{s:A4}
def cat_tup (ht:IsTup s.heap t vs.toArray)(hb:IsTup s.heap b ws.toArray)(hv:vs≠[])
   (h1:ws=[]->Q (.ref t) s) (h2:ws≠[]->Q (.ref s.heap.objs.size) { s with heap:=s.heap.push { cls:=.type "tuple",data:=.seq (vs++ws).toArray } })
   (hsz:vs.length+ws.length<=B4):A5 (A7 prog w) A (Q2 .Add (.ref t) (.ref b)) Q E s:=by
 obtain⟨⟨cls,dd,data,sl⟩,ho,hc,n,hd⟩:=id ht;obtain⟨⟨cls2,dd2,data2,sl2⟩,ho2,hc2,n2,hd2⟩:=id hb;simp only at hc hd hc2 hd2;subst hc hd hc2 hd2;have e:vs.toArray++ws.toArray=(vs++ws).toArray:=0o0
 by_cases hw:ws=[]
 ·exact concat_meets ⟨_,ho,rfl⟩ ⟨_,ho2,rfl⟩ noFill_tuple_add seq_tuple_add Gu Gs (Gr _ _)
    (tuple_addW1 t b vs.toArray ws.toArray n n2 dd dd2 sl sl2 (by simpa using hv) (by simp[hw])) ⟨ho,ho2,h1 hw⟩
 ·refine concat_meets ⟨_,ho,rfl⟩ ⟨_,ho2,rfl⟩ noFill_tuple_add seq_tuple_add Gu Gs (Gr _ _)
    (tuple_addW2 t b vs.toArray ws.toArray n n2 dd dd2 sl sl2 (by simpa using hv) (by simpa using hw) (by rw[E9,E9];exact hsz)) ⟨ho,ho2,?_⟩
  rw[e];exact h2 hw
noncomputable def sIx (n d:Nat):Option Int->Nat
 |none=>d
 |some v=>if v<0 then(v+(n:Int)).toNat else min v.toNat n
def sIx_none (n d:Nat):sIx n d none=d:=rfl
def sIx_nat (n d k:Nat):sIx n d (some (k:Int))=min k n:=by
 show(if(k:Int)<0 then((k:Int)+(n:Int)).toNat else min (k:Int).toNat n)=min k n;rw[ju 0x0,T0]
def sIx_le (n d:Nat)(hd:d<=n)(o:Option Int):sIx n d o<=n:=by
 cases o with
 |none=>exact hd
 | some v =>
  show(if v<0 then(v+(n:Int)).toNat else min v.toNat n)<=n
  by_cases hv:v<0
  ·rw[jt hv];ext
  ·rw[ju hv];exact Nat.min_le_right _ _
def Ks (v:Int)(n d:Nat):(if v<0 then max (v+(n:Int)) 0 else min v (n:Int))=((sIx n d (some v):Nat):Int):=by
 show(if v<0 then max (v+(n:Int)) 0 else min v (n:Int))=(((if v<0 then(v+(n:Int)).toNat else min v.toNat n):Nat):Int)
 by_cases hv:v<0
 ·simp only[jt hv];ext
 ·simp only[ju hv];ext
def OU (lo hi:Option Int)(n:Nat):Cm lo hi 1 (n:Int)=(((sIx n 0 lo:Nat):Int),((sIx n n hi:Nat):Int)):=by
 have h1:¬((1:Int)<0):=0x0
 unfold Cm;simp only[h1,if_false];refine Prod.ext ?_ ?_
 ·cases lo with
  |none=>rfl
  |some v=>exact Ks v n 0
 ·cases hi with
  |none=>rfl
  |some v=>exact Ks v n n
def OV (i j:Nat):n6 (i:Int) (j:Int) 1=j-i:=by
 unfold n6;have h1:(1:Int)>0:=0x0
 simp only[h1,if_true,Int.ediv_one]
 split <;> ext
def CB (p:IsPart v o)(h:Q o s):A5 (A7 prog w) A (Builtin.Slice.slicePartIndex v) Q E s:=by
 cases p with
 |none=>exact slicePart_none h
 |int i t=>exact slicePart_int h
def Kt {lo hi:Option Int}{n:Nat}{Q:Int×Int×Nat->A4->Prop}(hs:s.heap.IsSliceOf sl vl vu .none)(pl:IsPart vl lo)(pu:IsPart vu hi)
   (h:Q (((sIx n 0 lo:Nat):Int),1,sIx n n hi-sIx n 0 lo) s):A5 (A7 prog w) A (DR (.ref sl) (pure (n:Int))) Q E s:=by
 obtain⟨os,hos,hcs,hds⟩:=id hs;unfold DR JV;refine A2 (A2 (L0 hos hds (x:=vl) rfl (A2 (L0 hos hds (x:=vu) rfl (A2 (L0 hos hds (x:=.none) rfl (A9 ?_)))))));refine A2 (slicePart_none ?_);show A5 _ _ (if((1:Int) == 0)=true then _ else _) _ _ s;rw[ju 0b0];refine A2 (CB pl (A2 (CB pu (A2 (A9 ?_)))));show A5 _ _ (match Cm lo hi 1 (n:Int) with|(lo,hi)=>pure (lo,(1:Int),n6 lo hi 1)) _ _ s;rw[OU lo hi n];show A5 _ _ (pure (((sIx n 0 lo:Nat):Int),(1:Int),n6 ((sIx n 0 lo:Nat):Int) ((sIx n n hi:Nat):Int) 1)) _ _ s;rw[OV];exact A9 h
def OW (xs:Array A3)(i k:Nat):((C2 k).filterMap λ(m:Nat)=>xs[((i:Int)+(m:Int)*1).toNat]?).toArray=((xs.toList.drop i).take k).toArray:=by
 have e:(λ(m:Nat)=>xs[((i:Int)+(m:Int)*1).toNat]?)=λm=>xs[i+m]?:=by
  funext m
  have:((i:Int)+(m:Int)*1).toNat=i+m:=0x0
  rw[this]
 rw[e];have:=pick_run xs i k;rw[List.filterMap_map] at this;have e2:((λx=>xs[x]?)∘λx=>i+x)=λm=>xs[i+m]?:=rfl
 grind
def getItem_tuple_cut {lo hi:Option Int}(ht:IsTup s.heap t items)(hs:s.heap.IsSliceOf sl vl vu .none)(pl:IsPart vl lo)(pu:IsPart vu hi)
   (hw:¬(sIx items.size 0 lo=0/\sIx items.size items.size hi=items.size))
   (h:Q (.ref s.heap.objs.size) { s with heap:=s.heap.push { cls:=.type "tuple",data:=.seq ((items.toList.drop (sIx items.size 0 lo)).take (sIx items.size items.size hi-sIx items.size 0 lo)).toArray } })
   (hsz:items.size<=B4):A5 (A7 prog w) A (U3 (.ref t) (.ref sl)) Q E s:=by
 have htake:sizeOk (.seq ((items.toList.drop (sIx items.size 0 lo)).take (sIx items.size items.size hi-sIx items.size 0 lo)).toArray):=by
  show((items.toList.drop (sIx items.size 0 lo)).take (sIx items.size items.size hi-sIx items.size 0 lo)).toArray.size<=B4;rw[E9,J7,J8,M3];ext
 have hj:sIx items.size items.size hi<=items.size:=sIx_le _ _ (B2 _) hi;obtain⟨os,hos,hcs,hds⟩:=id hs;have hTs:s.TypeIs (.ref sl) "slice":=⟨os,hos,hcs⟩;unfold U3
 try with_reducible refine K5 ?_
 first|refine A2 (A9 ?_)|skip
 refine A2 (wpAny_sequenceKey ht.typeIs 0b0 ?_)
 refine A2 (T9 (name:=A6 "__getitem__") ht.typeIs AZ
   (N9 AZ ht.typeIs entry_tuple_getitem ?_ (args_tuple_getitem _ _)))
 show A5 _ _ (Gq (.ref t)>>=_) _ _ s;refine A2 (tupleItemsOf_ ht ?_);refine A2 (k6 hTs ?_);rw[jt 0b0];refine A2 (Kt hs pl pu ?_)
 have hno:¬((((sIx items.size 0 lo:Nat):Int) == 0&&(1:Int) == 1&&(sIx items.size items.size hi-sIx items.size 0 lo) == items.size)=true):=by
  intro q;rw[P4,P4] at q;have q1:((sIx items.size 0 lo:Nat):Int)=0:=eq_of_beq q.1.1;have q2:sIx items.size items.size hi-sIx items.size 0 lo=items.size:=eq_of_beq q.2;exact hw ⟨0x0,0x0⟩
 show A5 _ _ (if(((sIx items.size 0 lo:Nat):Int) == 0&&(1:Int) == 1&&(sIx items.size items.size hi-sIx items.size 0 lo) == items.size)=true then _ else _) _ _ s;rw[ju hno,OW]
 first
   |exact A2 (m:=o5 _) (N7 (A9 ⟨_,rfl,A9 h⟩) htake)
   |exact A2 (m:=o5 _) (N7 (A2 (A9 (A9 ⟨_,rfl,A9 h⟩))) htake)
   |exact A2 (A2 (m:=o5 _) (N7 (A9 (A9 ⟨_,rfl,A9 h⟩)) htake))
   |exact A2 (A2 (m:=o5 _) (N7 (A9 ⟨_,rfl,A9 h⟩) htake))
end
end HT
namespace L2
open PySem PySem.Spec PyProof.Rows
abbrev TO:=St->Hp->(Option Int->Hp->Prop)->Prop
def PO (X:Cx)(e:Option Expr)(t:TO):Prop:=
 ∀ (jb : List (A1 × Obj)) (s : A4) (σ : St) (H : Hp) (Q : Option Int -> Hp -> Prop), Inv X jb σ H s -> t σ H Q ->
   A5 (A7 X.prog X.w) X.A (evalPart e X.env) (λu s'=>∃o H',Inv X jb σ H' s'/\IsPart u o/\Q o H') X.xe s
def OX:TO:=λ_ H Q=>Q none H
def tPart (t:TE):TO:=λσ H Q=>t σ H λx H1=>∃i,x=.int i/\Q (some i) H1
section
variable {X:Cx}{e:Expr}{te:TE}{lo hi:Option Expr}{tl th:TO}{pos p2:Pos}
def GH:PO X none OX:=by
 intro jb s σ H Q I h;rw[evalPart_none];exact A9 ⟨none,H,I,.none,h⟩
def GI (h:PE X e te):PO X (some e) (tPart te):=by
 intro jb s σ H Q I hw;rw[evalPart_some];refine thn (h jb s σ H _ I hw) λu s1 ⟨x,H1,I1,r1,q1⟩=>?_;obtain⟨i,rfl,q⟩:=q1;obtain⟨t,rfl⟩:=r1;exact⟨some i,H1,I1,.int i t,q⟩
def SlR (X:Cx)(r:V->Option Int->Option Int->Hp->VK->Prop):Prop:=
 ∀ (jb : List (A1 × Obj)) (s : A4) (σ : St) (H : Hp) (x : V) (v vl vu : A3) (lo hi : Option Int) (sl : A1) (Q : VK), Inv X jb σ H s -> RelV x v -> s.heap.IsSliceOf sl vl vu .none -> IsPart vl lo -> IsPart vu hi -> r x lo hi H Q ->
   ∃T id,typeLookup (.type T) "__getitem__"=pure (some (.builtin id))/\s.TypeIs v T/\A5 (A7 X.prog X.w) X.A (U3 v (.ref sl)) (EP X jb σ Q) X.xe s
def SlR.or (h:SlR X r)(h':SlR X r'):SlR X (λx lo hi H Q=>r x lo hi H Q\/r' x lo hi H Q):=by
 intro jb s σ H x v vl vu lo hi sl Q I rx hs pl pu q;rcases q with q|q
 ·exact h jb s σ H x v vl vu lo hi sl Q I rx hs pl pu q
 ·exact h' jb s σ H x v vl vu lo hi sl Q I rx hs pl pu q
def tSl (r:V->Option Int->Option Int->Hp->VK->Prop)(te:TE)(tl th:TO):TE:=λσ H Q=>te σ H λx H1=>tl σ H1 λl H2=>th σ H2 λu H3=>r x l u H3 Q
def Eg (hr:SlR X r)(he:PE X e te)(hl:PO X lo tl)(hu:PO X hi th):PE X (.Subscript e (.Slice lo hi none p2) pos) (tSl r te tl th):=by
 intro jb s σ H Q I h;refine Subscript_ (thn (he jb s σ H _ I h) λv s1 ⟨x,H1,I1,r1,q1⟩=>?_);refine wpAny_Slice (thn (hl jb s1 σ H1 _ I1 q1) λvl s2 ⟨l,H2,I2,pl,q2⟩=>thn (hu jb s2 σ H2 _ I2 q2) λvu s3 ⟨u,H3,I3,pu,q3⟩=>?_);rw[evalPart_none];refine A9 ?_;have I4:Inv X jb σ H3 { s3 with heap:=s3.heap.push { cls:=.type "slice",data:=.fields #[vl,vu,.none] } }:=I3.kept (t':=s3.toks) λb ob q=>B7 _ q;obtain⟨T,id,hT,ht,hg⟩:=hr jb { s3 with heap:=s3.heap.push { cls:=.type "slice",data:=.fields #[vl,vu,.none] } } σ H3 x v vl vu l u s3.heap.objs.size Q I4 r1 (Gv ..) pl pu q3;show A5 (A7 X.prog X.w) X.A (subscriptTail e (.Slice lo hi none p2) v (.ref s3.heap.objs.size)) (EP X jb σ Q) X.xe { s3 with heap:=s3.heap.push { cls:=.type "slice",data:=.fields #[vl,vu,.none] } };exact tail_any (ops:=[.ref s3.heap.objs.size,v]) ht hT hg (by with_unfolding_all rfl)
noncomputable def cutV (xs:List V)(lo hi:Option Int):List V:=(xs.drop (HT.sIx xs.length 0 lo)).take (HT.sIx xs.length xs.length hi-HT.sIx xs.length 0 lo)
def Ku (xs:List V)(lo hi:Option Int):(cutV xs lo hi).length<=xs.length:=by
 unfold cutV;rw[J7,J8];ext
def rSlT (K:A8):V->Option Int->Option Int->Hp->VK->Prop:=λx lo hi H Q=>∃a xs,x=.ref a/\SqT K H a xs/\
 ¬(HT.sIx xs.length 0 lo=0/\HT.sIx xs.length xs.length hi=xs.length)/\∀p,H p=none->Q (.ref p) (upd H p (.tup (cutV xs lo hi)))
def sl_tup:SlR X (rSlT X.K):=by
 intro jb s σ H x v vl vu lo hi sl Q I rx hs pl pu h;obtain⟨a,xs,rfl,hx,hw,q⟩:=h;cases rx;obtain⟨jf,r,ht,hz⟩:=I.tuple hx;have hlen:jf.toArray.size=xs.length:=by rw[E9];exact r.length.symm
 refine⟨"tuple",_,PyProof.Rows.slot_tuple_getitem.lookup,ht.typeIs,?_⟩;refine HT.getItem_tuple_cut ht hs pl pu (by rw[hlen];exact hw) ?_ (by rw[hlen];exact hz);rw[hlen];refine⟨.ref s.heap.objs.size,_,I.laid (t':=s.toks) (o:=.tup (cutV xs lo hi)) (λb ob q=>B7 _ q) (B2 _) ?_,rfl,q _ (I.hok.fresh (B2 _))⟩;exact⟨K1 (Ku xs lo hi) hz,_,(r.drop (HT.sIx xs.length 0 lo)).take (HT.sIx xs.length xs.length hi-HT.sIx xs.length 0 lo),X0.new _ _⟩
def rCatT (K:A8):R2:=λx y H Q=>∃a b xs ys,x=.ref a/\y=.ref b/\SqT K H a xs/\SqT K H b ys/\xs≠[]/\xs.length+ys.length<=B4/\
 (ys=[]->Q (.ref a) H)/\(ys≠[]->∀p,H p=none->Q (.ref p) (upd H p (.tup (xs++ys))))
def Vals.nil_iff (r:Vals xs us):us=[]↔xs=[]:=by
 cases r with
 |nil=>simp
 |cons _ _=>simp
def OY:OpR X (Q2 .Add) (rCatT X.K):=by
 intro jb s σ H x y v u Q I rx ry h;obtain⟨a,b,xs,ys,rfl,rfl,ha,hb,hx,hz,q1,q2⟩:=h;cases rx;cases ry;obtain⟨jf,r1,p1,_⟩:=I.tuple ha;obtain⟨its2,r2,p2,_⟩:=I.tuple hb;refine HT.cat_tup p1 p2 (λz=>hx (r1.nil_iff.mp z)) (λz=>⟨.ref a,H,I,rfl,q1 (r2.nil_iff.mp z)⟩) (λz=>?_) (by rw[<- r1.length,<- r2.length];exact hz);refine⟨.ref s.heap.objs.size,_,I.laid (t':=s.toks) (o:=.tup (xs++ys)) (λb ob q=>B7 _ q) (B2 _) ?_,rfl,q2 (λw=>z (r2.nil_iff.mpr w)) _ (I.hok.fresh (B2 _))⟩;exact⟨by rw[C7];exact hz,_,r1.append r2,X0.new _ _⟩
end
noncomputable def ixN (n:Nat)(i:Int):Option Nat:=if 0<=i then(if i<n then some i.toNat else none) else if -(n:Int)<=i then some (i+n).toNat else none
noncomputable def atI {α:Type}(xs:List α)(i:Int):Option α:=(ixN xs.length i).bind λj=>xs[j]?
def GJ (h:ixN n i=some j):seqIndex? i n=some j/\j<n/\-(n:Int)<=i/\i<n:=by
 unfold ixN at h
 by_cases h0:0<=i
 ·rw[jt h0] at h
  by_cases h1:i<n
  ·rw[jt h1] at h;have e:i.toNat=j:=L4 h;exact⟨by rw[seqIndex_of h0 h1,e],0x0,0x0,h1⟩
  ·rw[ju h1] at h;cases h
 ·rw[ju h0] at h
  by_cases h1:-(n:Int)<=i
  ·rw[jt h1] at h;have e:(i+n).toNat=j:=L4 h;exact⟨by rw[seqIndex_neg 0x0 h1,e],0x0,h1,0x0⟩
  ·rw[ju h1] at h;cases h
def GK {α:Type}{xs:List α}{i:Int}{v:α}(h:atI xs i=some v):∃j,seqIndex? i xs.length=some j/\xs[j]?=some v/\j<xs.length/\-(xs.length:Int)<=i/\i<xs.length:=by
 unfold atI at h;cases e:ixN xs.length i with
 |none=>rw[e] at h;cases h
 | some j =>
  rw[e] at h;obtain⟨h1,h2,h3,h4⟩:=GJ e;exact⟨j,h1,h,h2,h3,h4⟩
def P2 {α:Type}{xs:List α}{j:Nat}{v:α}(h:xs[j]?=some v):atI xs (j:Int)=some v:=by
 have hj:j<xs.length:=(D3.mp h).1
 have e:ixN xs.length (j:Int)=some j:=by
  unfold ixN;rw[jt 0x0,jt 0x0];simp
 unfold atI;rw[e];exact h
def Kv {α:Type}(xs:List α)(v:α):atI (xs++[v]) (-1)=some v:=by
 have hl:(xs++[v]).length=xs.length+1:=0o0
 have e:ixN (xs++[v]).length (-1)=some xs.length:=by
  unfold ixN;rw[hl,ju 0b0,jt 0x0]
  congr 1
  ext
 unfold atI;rw[e];show(xs++[v])[xs.length]?=some v;simp
def GM (b:Expr):Prop:=∀o i,subscripted b false o i=operate [o,i] (U3 o i)
def IxR (X:Cx)(r:R2):Prop:=
 ∀ (value slice : Expr) (jb : List (A1 × Obj)) (s : A4) (σ : St) (H : Hp) (x y : V) (v u : A3) (Q : VK), Inv X jb σ H s -> RelV x v -> RelV y u -> r x y H Q ->
   subscripted slice false v u=operate [v,u] (U3 v u)->A5 (A7 X.prog X.w) X.A (subscriptTail value slice v u) (EP X jb σ Q) X.xe s
def MtR (X:Cx)(id:String)(r:V->List V->Hp->VK->Prop):Prop:=
 ∀ (jb : List (A1 × Obj)) (s : A4) (σ : St) (H : Hp) (x : V) (xs : List V) (v : A3) (us : List A3) (Q : VK), Inv X jb σ H s -> RelV x v -> Vals xs us -> r x xs H Q ->
   A5 (A7 X.prog X.w) X.A (call (.builtin id) (v::us)) (EP X jb σ Q) X.xe s
section
variable {X:Cx}{a b:Expr}{ta tb:TE}{pos:Pos}
def IxR.or (h:IxR X r)(h':IxR X r'):IxR X (λx y H Q=>r x y H Q\/r' x y H Q):=by
 intro value slice jb s σ H x y v u Q I rx ry q hs;rcases q with q|q
 ·exact h value slice jb s σ H x y v u Q I rx ry q hs
 ·exact h' value slice jb s σ H x y v u Q I rx ry q hs
def GN (hr:IxR X r)(ha:PE X a ta)(hb:PE X b tb)(hs:GM b):PE X (.Subscript a b pos) (tOp r ta tb):=by
 intro jb s σ H Q I h;exact Subscript_ (binT ha hb I h λv u s2 x y H2 I2 rx ry q=>hr a b jb s2 σ H2 x y v u Q I2 rx ry q (hs _ _))
def rIxL (K:A8):R2:=λx y H Q=>∃p xs i v,x=.ref p/\y=.int i/\SqL K H p xs/\atI xs i=some v/\Q v H
def rIxT (K:A8):R2:=λx y H Q=>∃p xs i v,x=.ref p/\y=.int i/\SqT K H p xs/\atI xs i=some v/\Q v H
def rIxS:R2:=λx y H Q=>∃z i c,x=.str z/\y=.int i/\z.length<=B4/\atI z.cps.toList i=some c/\Q (.str ⟨#[c]⟩) H
def Kw:IxR X (rIxL X.K):=by
 intro value slice jb s σ H x y v u Q I rx ry h hs;obtain⟨p,xs,i,z,rfl,rfl,hq,he,q⟩:=h;cases rx;obtain⟨t,rfl⟩:=ry;obtain⟨jf,r,pl,hz⟩:=I.list hq;obtain⟨j,h1,h2,h3,h4,h5⟩:=GK he;obtain⟨w,ew,rw'⟩:=r.get h2;have hl:=r.length;have hn:=Ai;have fin:EP X jb σ Q w s:=⟨z,H,I,rw',q⟩
 by_cases h0:0<=i
 ·have hj:i.toNat=j:=by
   rw[seqIndex_of h0 h5] at h1;exact L4 h1
  exact item_listR pl.isList h0 0x0 (by rw[hj];simpa using ew) fin hs
 ·have hj:(i+(jf.toArray.size:Int)).toNat=j:=by
   rw[seqIndex_neg 0x0 h4] at h1;rw[E9,<- hl];exact L4 h1
  exact subscriptTail_builtinR (x:=w) pl.isList.typeIs slot_list_getitem.lookup
    (wpAny_getItem_list_neg (Q:=λr s'=>r=w/\EP X jb σ Q r s') pl.isList 0x0 (by rw[E9] <;> ext) 0x0 (by rw[hj];simpa using ew) ⟨rfl,fin⟩) hs
def ix_tup:IxR X (rIxT X.K):=by
 intro value slice jb s σ H x y v u Q I rx ry h hs;obtain⟨p,xs,i,z,rfl,rfl,hq,he,q⟩:=h;cases rx;obtain⟨t,rfl⟩:=ry;obtain⟨jf,r,pl,hz⟩:=I.tuple hq;obtain⟨j,h1,h2,h3,h4,h5⟩:=GK he;obtain⟨w,ew,rw'⟩:=r.get h2;have hl:=r.length;have hn:=Ai;have fin:EP X jb σ Q w s:=⟨z,H,I,rw',q⟩
 exact subscriptTail_builtinR (x:=w) pl.typeIs slot_tuple_getitem.lookup
   (getItem_tuple (j:=j) (Q:=λr s'=>r=w/\EP X jb σ Q r s') pl 0x0 0x0 (by grind) (by grind) ⟨rfl,fin⟩) hs
def ix_str:IxR X rIxS:=by
 intro value slice jb s σ H x y v u Q I rx ry h hs;obtain⟨z,i,c,rfl,rfl,hz,he,q⟩:=h;obtain⟨t,rfl⟩:=rx;obtain⟨t',rfl⟩:=ry;obtain⟨j,h1,h2,h3,h4,h5⟩:=GK he;have hl:z.cps.toList.length=z.length:=by simp[Str.length]
 rw[hl] at h1 h4 h5;have hn:=Ai
 exact tail_any (typeIs_str s z t) slot_str_getitem.lookup (getItem_str (c:=c) (by
  have e1:decide (i < -(2 ^ 63:Int))=false:=jr 0x0;have e2:decide (i>=2 ^ 63)=false:=jr 0x0
  rw[e1,e2,AY]) (by grind) ⟨.str ⟨#[c]⟩,H,I.tok _,⟨_,rfl⟩,q⟩) hs
def rIx (K:A8):R2:=λx y H Q=>rIxL K x y H Q\/rIxT K x y H Q\/rIxS x y H Q
def Kx:IxR X (rIx X.K):=Kw.or (ix_tup.or ix_str)
def OZ (jf:List A3)(n j:Nat)(u:A3):P6 (·.setIfInBounds j u) { cls:=.type "list",data:=.seq jf.toArray n }={ cls:=.type "list",data:=.seq (jf.set j u).toArray n }:=by
 simp[P6]
theorem Inv.lst (I:Inv X jb σ H s)(h:H p=some (.lst xs)) :
   ∃(jf:List A3) (n:Nat),Vals xs jf/\s.heap.get? p=some { cls:=.type "list",data:=.seq jf.toArray n }/\xs.length<=B4:=by
 obtain⟨z,jf,n,r,e⟩:=I.hok p _ h;exact⟨jf,n,r,e,z⟩
def Inv.lstUpd {jf its':List A3}(I:Inv X jb σ H s)(h:H p=some (.lst xs))
   (ho:s.heap.get? p=some { cls:=.type "list",data:=.seq jf.toArray n }) (hf:f { cls:=.type "list",data:=.seq jf.toArray n }={ cls:=.type "list",data:=.seq its'.toArray n' }) (r:Vals ys its') (hz:ys.length<=B4) (t:Nat) :
   Inv X jb σ (upd H p (.lst ys)) { s with heap:=s.heap.update p f,toks:=t }:=by
 have e:(s.heap.update p f).get? p=some { cls:=.type "list",data:=.seq its'.toArray n' }:=by
  rw[AN f ho (by rw[hf] <;> rfl),hf]
 refine I.write (x:=p) (e:=p) (by rw[h];trivial) (.inl rfl) (λb u hb q=>(AM _ _ (Ne.symm hb)).trans q) ⟨_,e⟩ ?_;exact⟨hz,its',n',r,e⟩
def CC:V->V->V->Hp->(Hp->Prop)->Prop:=λo i v H Q=>∃p xs k j,o=.ref p/\i=.int k/\H p=some (.lst xs)/\ixN xs.length k=some j/\Q (upd H p (.lst (xs.set j v)))
def O_:PSet X CC:=by
 intro jb s σ H o i v ov iv u Q I ro ri rv h;obtain⟨p,xs,k,j,rfl,rfl,hp,hj,q⟩:=h;cases ro;obtain⟨t,rfl⟩:=ri;obtain⟨jf,n,r,ho,hz⟩:=I.lst hp;obtain⟨h1,h2,h3,h4⟩:=GJ hj;have hl:=r.length;have hn:=Ai
 have I':Inv X jb σ (upd H p (.lst (xs.set j v))) { s with heap:=s.heap.update p (P6 (·.setIfInBounds j u)) }:=
  I.lstUpd hp ho (OZ jf n j u) (r.set rv j) (by grind) s.toks
 by_cases h0:0<=k
 ·have hk:k.toNat=j:=by
   rw[seqIndex_of h0 h4] at h1;exact L4 h1
  exact PySem.W.ki_setAt ho h0 0x0 (by grind) (by grind)
 ·have hk:(k+(jf.toArray.size:Int)).toNat=j:=by
   rw[seqIndex_neg 0x0 h3] at h1;rw[E9,<- hl];exact L4 h1
  exact PySem.W.ki_setBack ho 0x0 (by rw[E9,<- hl];exact h3) 0x0 (by rw[hk];exact⟨_,I',q⟩)
def Pa (lo hi:Option Int)(n:Nat):(x5 lo hi none n).1=((HT.sIx n 0 lo:Nat):Int)/\(x5 lo hi none n).2.1=((HT.sIx n n hi:Nat):Int)/\(x5 lo hi none n).2.2=1:=by
 refine⟨?_,?_,rfl⟩
 ·cases lo with
  |none=>simp[x5,HT.sIx]
  | some i =>
   simp only[x5,HT.sIx,Option.getD_none,show(1:Int)>0 by decide,if_true]
   by_cases h:i<0
   ·simp only[h,if_true] <;> ext
   ·simp only[h,if_false] <;> ext
 ·cases hi with
  |none=>simp[x5,HT.sIx]
  | some i =>
   simp only[x5,HT.sIx,Option.getD_none,show(1:Int)>0 by decide,if_true]
   by_cases h:i<0
   ·simp only[h,if_true] <;> ext
   ·simp only[h,if_false] <;> ext
def Pb (jf:List A3)(lo hi:Option Int):slicePick jf.toArray lo hi none=((jf.drop (HT.sIx jf.length 0 lo)).take (HT.sIx jf.length jf.length hi-HT.sIx jf.length 0 lo)).toArray:=by
 obtain⟨h1,h2,h3⟩:=Pa lo hi jf.toArray.size;unfold slicePick;rw[h1,h2,h3];simp only[sliceRange_one,pick_run,E9] <;> rfl
def rSlL (K:A8):V->Option Int->Option Int->Hp->VK->Prop:=λx lo hi H Q=>∃a xs,x=.ref a/\SqL K H a xs/\∀p,H p=none->Q (.ref p) (upd H p (.lst (cutV xs lo hi)))
def Eh:SlR X (rSlL X.K):=by
 intro jb s σ H x v vl vu lo hi sl Q I rx hs pl pu h;obtain⟨a,xs,rfl,hx,q⟩:=h;cases rx;obtain⟨jf,r,ht,hz⟩:=I.list hx;have hlen:=r.length;refine⟨"list",_,slot_list_getitem.lookup,ht.isList.typeIs,?_⟩;refine wpAny_getItem_list_slice ht.isList hs pl pu .none 0o0 ?_ (by rw[E9] <;> ext)
 rw[Pb,<- hlen];refine⟨.ref s.heap.objs.size,_,I.laid (t':=s.toks) (o:=.lst (cutV xs lo hi)) (λb ob q=>B7 _ q) (B2 _) ?_,rfl,q _ (I.hok.fresh (B2 _))⟩;exact⟨K1 (Ku xs lo hi) hz,_,0,(r.drop (HT.sIx xs.length 0 lo)).take (HT.sIx xs.length xs.length hi-HT.sIx xs.length 0 lo),E7 _ rfl⟩
noncomputable def P7:V->Bool
 |.non=>true
 |.bl _=>true
 |.int _=>true
 |.str _=>true
 |_=>false
noncomputable def eqV:V->V->Bool
 |.non,.non=>true
 |.bl a,.bl b=>a == b
 |.bl a,.int b=>(if a then 1 else 0) == b
 |.int a,.bl b=>a == (if b then 1 else 0)
 |.int a,.int b=>a == b
 |.str a,.str b=>a == b
 |_,_=>false
def Ky (ry:RelV y u)(rx:RelV x v)(fy:P7 y=true)(fx:P7 x=true):Ag A s u v (eqV y x):=by
 cases y with
 | non =>
  cases ry;cases x with
  |non=>cases rx;exact SeqAt.EqAt.same _
  |bl b=>cases rx;exact SeqAt.EqAt.none_bool b
  |int b=>obtain⟨t,rfl⟩:=rx;exact SeqAt.EqAt.none_int b t
  |str b=>obtain⟨t,rfl⟩:=rx;exact SeqAt.EqAt.none_str b t
  |_=>exact absurd (show false=true from fx) L3
 | bl a =>
  cases ry;cases x with
  |non=>cases rx;exact SeqAt.EqAt.bool_none a
  |bl b=>cases rx;exact SeqAt.EqAt.bool_bool a b
  |int b=>obtain⟨t,rfl⟩:=rx;exact SeqAt.EqAt.bool_int a b t
  |str b=>obtain⟨t,rfl⟩:=rx;exact SeqAt.EqAt.bool_str a b t
  |_=>exact absurd (show false=true from fx) L3
 | int a =>
  obtain⟨t',rfl⟩:=ry;cases x with
  |non=>cases rx;exact SeqAt.EqAt.int_none a t'
  |bl b=>cases rx;exact SeqAt.EqAt.int_bool a t' b
  |int b=>obtain⟨t,rfl⟩:=rx;exact SeqAt.EqAt.int_int a t' b t
  |str b=>obtain⟨t,rfl⟩:=rx;exact SeqAt.EqAt.int_str a t' b t
  |_=>exact absurd (show false=true from fx) L3
 | str a =>
  obtain⟨t',rfl⟩:=ry;cases x with
  |non=>cases rx;exact SeqAt.EqAt.str_none a t'
  |bl b=>cases rx;exact SeqAt.EqAt.str_bool a t' b
  |int b=>obtain⟨t,rfl⟩:=rx;exact SeqAt.EqAt.str_int a t' b t
  |str b=>obtain⟨t,rfl⟩:=rx;exact SeqAt.EqAt.str_str a t' b t
  |_=>exact absurd (show false=true from fx) L3
 |_=>exact absurd (show false=true from fy) L3
def Pc:OpR X (K6 .NotIn) (λx y H Q=>∃i j,x=.str i/\y=.str j/\Q (.bl (!(!(Bb j i 0 j.length 1).isEmpty))) H):=by
 intro jb s σ H x y v u Q I rx ry h;obtain⟨i,j,rfl,rfl,q⟩:=h;obtain⟨t,rfl⟩:=rx;obtain⟨t',rfl⟩:=ry;exact notIn_str ⟨.bl _,H,I,rfl,q⟩
def GO:K3 X (.builtin "len") (λxs H Q=>∃p ys,xs=[.ref p]/\(SqL X.K H p ys\/SqT X.K H p ys)/\Q (.int ys.length) H):=by
 intro jb s σ H xs us Q I r h;obtain⟨p,ys,rfl,hq,q⟩:=h;obtain⟨u,rfl,rx⟩:=Aj r;cases rx;have hn:=Ai;rcases hq with hq|hq
 ·obtain⟨jf,r',pl,hz⟩:=I.list hq;have hlen:=r'.length;exact Calls.call_len_list pl.isList (by simp only[E9] <;> ext) ⟨.int ys.length,H,I.tok _,⟨s.toks+1,by rw[E9,hlen]⟩,q⟩
 ·obtain⟨jf,r',pl,hz⟩:=I.tuple hq;have hlen:=r'.length;exact len_tuple pl (by simp only[E9] <;> ext) ⟨.int ys.length,H,I.tok _,⟨s.toks+1,by rw[E9,hlen]⟩,q⟩
def Pd:K3 X (.builtin "len") (λxs H Q=>∃z,xs=[.str z]/\z.length<=B4/\Q (.int z.length) H):=by
 intro jb s σ H xs us Q I r h;obtain⟨z,rfl,hz,q⟩:=h;obtain⟨u,rfl,t,rfl⟩:=Aj r;have hn:=Ai;exact len_str 0x0 ⟨.int z.length,H,I.tok _,⟨_,rfl⟩,q⟩
def K3.or (h:K3 X f r)(h':K3 X f r'):K3 X f (λxs H Q=>r xs H Q\/r' xs H Q):=by
 intro jb s σ H xs us Q I rs q;rcases q with q|q
 ·exact h jb s σ H xs us Q I rs q
 ·exact h' jb s σ H xs us Q I rs q
def Kz:K3 X (.type "list") (λxs H Q=>∃p ys,xs=[.ref p]/\(SqL X.K H p ys\/SqT X.K H p ys)/\∀l,H l=none->Q (.ref l) (upd H l (.lst ys))):=by
 intro jb s σ H xs us Q I r h;obtain⟨p,ys,rfl,hq,q⟩:=h;obtain⟨u,rfl,rx⟩:=Aj r;cases rx
 have fin:∀(jf:List A3),Vals ys jf->ys.length<=B4->∀(h':B3) (c':Nat),(∀b o',s.heap.get? b=some o'->h'.get? b=some o')->
     h'.get? s.heap.objs.size=some { cls:=.type "list",dict:=none,data:=.seq jf.toArray c',slots:=#[] }->EP X jb σ Q (.ref s.heap.objs.size) { s with heap:=h' }:=λjf r' hz h' c' kp e=>
   ⟨.ref s.heap.objs.size,_,I.laid (t':=s.toks) kp (B2 _) (show F9 X.prog X.w _ h' _ (.lst ys) from⟨hz,jf,c',r',e⟩),rfl,q _ (I.hok.fresh (B2 _))⟩
 rcases hq with hq|hq
 ·obtain⟨jf,r',pl,hz⟩:=I.list hq;have hlen:=r'.length;obtain⟨o,ho,hc,n,hd⟩:=pl.isList;exact call_list_seq p (.inl rfl) ho hc hd (λh' c' kp e=>fin jf r' hz h' c' kp e) (by simp only[E9] <;> ext)
 ·obtain⟨jf,r',pl,hz⟩:=I.tuple hq;have hlen:=r'.length;obtain⟨o,ho,hc,n,hd⟩:=pl;exact call_list_seq p (.inr rfl) ho hc hd (λh' c' kp e=>fin jf r' hz h' c' kp e) (by simp only[E9] <;> ext)
def Pe:K3 X (.type "tuple") (λxs H Q=>∃p ys,xs=[.ref p]/\((SqL X.K H p ys/\∀l,H l=none->Q (.ref l) (upd H l (.tup ys)))\/(SqT X.K H p ys/\Q (.ref p) H))):=by
 intro jb s σ H xs us Q I r h;obtain⟨p,ys,rfl,h⟩:=h;obtain⟨u,rfl,rx⟩:=Aj r;cases rx;rcases h with⟨hq,q⟩|⟨hq,q⟩
 ·obtain⟨jf,r',pl,hz⟩:=I.list hq;have hlen:=r'.length;refine call_tuple_list pl.isList (λh' kp=>?_) (by simp only[E9] <;> ext)
  have I1:Inv X jb σ H { s with heap:=h' }:=I.kept (t':=s.toks) kp
  have I2:Inv X jb σ (upd H h'.objs.size (.tup ys)) { s with heap:=h'.push { cls:=.type "tuple",data:=.seq jf.toArray } }:=
   I1.laid (t':=s.toks) (λb o e=>B7 _ e) (B2 _) (show F9 X.prog X.w _ _ _ (.tup ys) from⟨hz,jf,r',X0.new _ _⟩)
  exact⟨.ref h'.objs.size,_,I2,rfl,q _ (I1.hok.fresh (B2 _))⟩
 ·obtain⟨jf,r',pl,hz⟩:=I.tuple hq;exact call_tuple_same pl ⟨.ref p,H,I,rfl,q⟩
def tyV (K:A8)(T:String)(x:V)(H:Hp):Prop:=match x with
 |.str _=>T="str"
 |.int _=>T="int"
 |.ref p=>(T="list"/\∃xs,SqL K H p xs)\/(T="tuple"/\((∃o,K.lookup p=some o/\o.cls=.type "tuple"/\o.dict=none)\/∃xs,H p=some (.tup xs)))\/
     (T="dict"/\((∃jg,H p=some (.dK jg))\/∃jg,H p=some (.dT jg)))\/(T="set"/\∃S n,H p=some (.set S n))
 |_=>False
def KA (I:Inv X jb σ H s)(r:RelV x v)(ty:tyV X.K T x H) :
   s.TypeIs v T/\∀a,v=.ref a->∃ob,s.heap.get? a=some ob/\ob.dict=none:=by
 cases x with
 | str z =>
  obtain⟨t,rfl⟩:=r;cases(show T="str" from ty);exact⟨typeIs_str s z t,λ_ e=>nomatch e⟩
 | int i =>
  obtain⟨t,rfl⟩:=r;cases(show T="int" from ty);exact⟨typeIs_int s i t,λ_ e=>nomatch e⟩
 | ref p =>
  cases r;rcases ty with⟨rfl,xs,hq⟩|⟨rfl,hk⟩|⟨rfl,hk⟩|⟨rfl,S,n,hk⟩
  ·obtain⟨jf,_,pl,_⟩:=I.list hq;refine⟨pl.isList.typeIs,λa e=>?_⟩;cases e;obtain⟨o,n,e,c,hd,_⟩:=pl;exact⟨o,e,hd⟩
  ·rcases hk with⟨o,hk,hc,hd⟩|⟨xs,hk⟩
   ·refine⟨⟨o,I.kIn p o hk,hc⟩,λa e=>?_⟩;cases e;exact⟨o,I.kIn _ o hk,hd⟩
   ·obtain⟨_,_,_,o,e,c,_⟩:=(show F9 X.prog X.w H s.heap p (.tup xs) from I.hok p _ hk);refine⟨⟨o,e,(Bi c).1⟩,λa e2=>?_⟩;cases e2;exact⟨o,e,(Bi c).2⟩
  ·have z:∃o,s.heap.get? p=some o/\o.ExactDict:=by
    rcases hk with⟨jg,hk⟩|⟨jg,hk⟩
    ·obtain⟨_,_,_,_,o,_,_,e,ex,_⟩:=I.hok p _ hk;exact⟨o,e,ex⟩
    ·obtain⟨_,_,_,_,o,_,_,e,ex,_⟩:=I.hok p _ hk;exact⟨o,e,ex⟩
   obtain⟨o,e,ex⟩:=z;refine⟨⟨o,e,ex.1⟩,λa e2=>?_⟩;cases e2;exact⟨o,e,ex.2.1⟩
  ·obtain⟨o,_,_,_,e,ex,_⟩:=I.hok p _ hk;refine⟨⟨o,e,ex.1⟩,λa e2=>?_⟩;cases e2;exact⟨o,e,ex.2.1⟩
 |_=>exact Y7 ty
def tBM0 (K:A8)(T:String)(r:V->List V->Hp->VK->Prop)(to:TE):TE:=λσ H Q=>to σ H λx H1=>tyV K T x H1/\r x [] H1 Q
def tBM (K:A8)(T:String)(r:V->List V->Hp->VK->Prop)(to:TE)(t:TA):TE:=λσ H Q=>to σ H λx H1=>tyV K T x H1/\t σ H1 λxs H2=>r x xs H2 Q
variable {o e:Expr}{es:List Expr}{to:TE}{t:TA}{name:Str}{apos cpos:Pos}{T id:String}{r:V->List V->Hp->VK->Prop}
def pe_bm0 (pa:PlainAttrs T)(slot:Slot T name id)(hty:typeOf (.builtin id)=pure (.type "method_descriptor"))(hm:MtR X id r)(ho:PE X o to)
   (hbase:j9 o name X.env (eval o X.env)=eval o X.env:=by rfl) (hline:(apos.endLine == cpos.line)=true:=by rfl):PE X (.Call (.Attribute o name apos) [] [] cpos) (tBM0 X.K T r to):=by
 intro jb s σ H Q I h;refine wpAny_Call_method0_late hbase hline (thn (ho jb s σ H _ I h) λv s1 ⟨x,H1,I1,r1,ty,q1⟩=>?_);obtain⟨h1,h2⟩:=KA I1 r1 ty;exact⟨T,id,pa,slot,hty,h1,h2,Calls.callWith_builtin rfl (PySem.evalArgs_none (hm jb s1 σ H1 x [] v [] Q I1 r1 .nil q1))⟩
def CD (pa:PlainAttrs T)(slot:Slot T name id)(hty:typeOf (.builtin id)=pure (.type "method_descriptor"))(hm:MtR X id r)(ho:PE X o to)(ha:PA X (e::es) t)
   (hbase:j9 o name X.env (eval o X.env)=eval o X.env:=by rfl)
   (hfew:((backTo cpos (D6 (e::es) X.env)).all (λx=>!x.1)&&(backToKw cpos (x4 [] X.env)).all (λx=>x.1.isSome)
     && decide ((e::es).length+([]:List R4).length+(if([]:List R4).isEmpty then 0 else 1)<30))=true:=by rfl)
   (hline:(apos.endLine == cpos.line)=true:=by rfl) (hs:D6 (e::es) X.env=(false,eval e X.env)::D6 es X.env:=by rfl) (hplain:(backTo cpos (D6 es X.env)).any (·.1)=false:=by rfl) :
   PE X (.Call (.Attribute o name apos) (e::es) [] cpos) (tBM X.K T r to t):=by
 intro jb s σ H Q I h;refine wpAny_Call_method_late hbase hfew hline rfl (thn (ho jb s σ H _ I h) λv s1 ⟨x,H1,I1,r1,ty,q1⟩=>?_);obtain⟨h1,h2⟩:=KA I1 r1 ty;refine⟨T,id,pa,slot,hty,h1,h2,?_⟩;have hA:=ha cpos jb s1 σ H1 _ I1 q1;rw[hs] at hA ⊢;refine Calls.callWith_builtin (by show(false||(backTo cpos (D6 es X.env)).any (·.1))=false;rw[hplain] <;> rfl) (Calls.evalArgs_plain ?_)
 exact thn hA λus s2 ⟨vs,H2,I2,r2,q2⟩=>hm jb s2 σ H2 x vs v us Q I2 r1 r2 q2
end
def MtM (X:Cx)(id:String)(r:V->List V->Hp->VK->Prop):Prop:=
 ∀ (jb : List (A1 × Obj)) (s : A4) (σ : St) (H : Hp) (x : V) (xs : List V) (v : A3) (us : List A3) (Q : VK), Inv X jb σ H s -> RelV x v -> Vals xs us -> r x xs H Q ->
   A5 (A7 X.prog X.w) X.A (call (.builtin id) (v::us)) (EP X jb σ Q) X.xe s
def Vals.one (h:Vals [x] us):∃u,us=[u]/\RelV x u:=by
 cases h with|cons r h=>cases h;exact⟨_,rfl,r⟩
def Vals.two (h:Vals [x,y] us):∃u v,us=[u,v]/\RelV x u/\RelV y v:=by
 cases h with|cons r h=>cases h with|cons q h=>cases h;exact⟨_,_,rfl,r,q⟩
def Vals.zero:∀{us:List A3},Vals [] us->us=[]
 |_,.nil=>rfl
theorem Vals.dropLast (h:Vals xs us):Vals xs.dropLast us.dropLast:=by
 induction h with
 |nil=>exact .nil
 | cons r t ih =>
  cases t with
  |nil=>exact .nil
  |cons q t'=>exact .cons r ih
theorem Vals.eraseIdx:∀{xs:List V} {us:List A3} (i:Nat),Vals xs us->Vals (xs.eraseIdx i) (us.eraseIdx i)
 |_,_,_,.nil=>.nil
 |_,_,0,.cons _ t=>t
 |_,_,i+1,.cons r t=>.cons r (Vals.eraseIdx i t)
def Pf {α:Type}(l:List α):l.eraseIdx (l.length-1)=l.dropLast:=0o0
def len_erase {α:Type}:∀(l:List α) (i:Nat),(l.eraseIdx i).length<=l.length:=by grind
section
variable {X:Cx}{jb:List (A1×Obj)}{σ:St}{H:Hp}{s:A4}{l b:A1}{xs ys zs:List V}
def Inv.lset {jf its':List A3}(I:Inv X jb σ H s)(hH:H l=some (.lst xs))
   (e:s.heap.get? l=some { cls:=.type "list",data:=.seq jf.toArray n }) (hf:f jf.toArray=its'.toArray) (hv:Vals ys its') (hz:ys.length<=B4) :
   Inv X jb σ (upd H l (.lst ys)) { s with heap:=s.heap.update l (P6 f),toks:=t' }:=by
 have q:=PySem.IsL.update e f;rw[hf] at q;refine I.write (x:=l) (e:=l) (by rw[hH];exact trivial) (.inl rfl) (λb' u hb hu=>(AM s.heap (P6 f) (Ne.symm hb)).trans hu) ⟨_,q⟩ ?_;exact⟨hz,its',_,hv,q⟩
def Inv.lnew {jf:List A3}{t':Nat}(I:Inv X jb σ H s)(hv:Vals ys jf)(hz:ys.length<=B4) :
   Inv X jb σ (upd H s.heap.objs.size (.lst ys)) { s with heap:=s.heap.push { cls:=.type "list",data:=.seq jf.toArray },toks:=t' }:=
 I.laid (λ_ _ q=>B7 _ q) (B2 _) ⟨hz,jf,0,hv,E7 _ rfl⟩
theorem Inv.fresh (I:Inv X jb σ H s):H s.heap.objs.size=none:=I.hok.fresh (B2 _)
def Inv.lstM (I:Inv X jb σ H s)(hH:H l=some (.lst xs)):xs.length<=B4/\∃(jf:List A3) (n:Nat),Vals xs jf/\xs.length=jf.length/\s.heap.get? l=some { cls:=.type "list",data:=.seq jf.toArray n }:=by
 obtain⟨z,jf,n,r,e⟩:=I.hok l _ hH;exact⟨z,jf,n,r,r.length,e⟩
def KB (h:n<=B4):D_ n=false:=by
 unfold D_;exact jr 0x0
end
section
variable {X:Cx}
def KC:V->List V->Hp->VK->Prop:=λx vs H Q=>∃l xs y,x=.ref l/\vs=[y]/\H l=some (.lst xs)/\xs.length<B4/\Q .non (upd H l (.lst (xs++[y])))
def KD:MtM X "list.append" KC:=by
 intro jb s σ H x vs v us Q I rx rv h;obtain⟨l,xs,y,rfl,rfl,hH,hz,q⟩:=h;cases rx;obtain⟨u,rfl,ru⟩:=rv.one;obtain⟨z,jf,n,r,hl,e⟩:=I.lstM hH;refine b7 F.slot_list_append ⟨_,e,rfl⟩ F.entry_list_append (F.args_list_append_2 _ _) (PySem.list_append l jf.toArray n u (by rw[E9];ext)) ⟨e,?_⟩;refine⟨.non,_,I.lset (its':=jf++[u]) hH e 0o0 (r.append (.cons ru .nil)) ?_,rfl,q⟩;rw[C7,Q5];ext
def KF:V->List V->Hp->VK->Prop:=λx vs H Q=>∃l b xs zs,x=.ref l/\vs=[.ref b]/\H l=some (.lst xs)/\H b=some (.lst zs)/\xs.length+zs.length<=B4/\Q .non (upd H l (.lst (xs++zs)))
def Pg:MtM X "list.extend" KF:=by
 intro jb s σ H x vs v us Q I rx rv h;obtain⟨l,b,xs,zs,rfl,rfl,hH,hB,hz,q⟩:=h;cases rx;obtain⟨u,rfl,ru⟩:=rv.one;cases ru;obtain⟨z,jf,n,r,hl,e⟩:=I.lstM hH;obtain⟨z2,its2,n2,r2,hl2,e2⟩:=I.lstM hB;have hsz:jf.toArray.size+its2.toArray.size<=B4:=by rw[E9,E9];ext
 have hlong:¬(!jf.toArray.isEmpty&&D_ (jf.toArray.size+its2.toArray.size))=true:=by
  rw[KB hsz,Ck];exact L3
 refine b7 F.slot_list_extend ⟨_,e,rfl⟩ F.entry_list_extend (F.args_list_extend_2 _ _)
   (AutoSeq1.list_extend_list_list_0 l jf.toArray n b its2.toArray n2 hlong (by grind) 0x0) ⟨e,e2,?_⟩
 refine⟨.non,_,I.lset (its':=jf++its2) hH e 0o0 (r.append r2) ?_,rfl,q⟩
 grind
def rPop:V->List V->Hp->VK->Prop:=λx vs H Q=>∃l xs y,x=.ref l/\vs=[]/\H l=some (.lst xs)/\xs[xs.length-1]?=some y/\Q y (upd H l (.lst xs.dropLast))
def mt_pop:MtM X "list.pop" rPop:=by
 intro jb s σ H x vs v us Q I rx rv h;obtain⟨l,xs,y,rfl,rfl,hH,hy,q⟩:=h;cases rx;have hus:=rv.zero;subst hus;obtain⟨z,jf,n,r,hl,e⟩:=I.lstM hH;obtain⟨u,hu,ru⟩:=r.get hy
 have hy':jf.toArray[jf.toArray.size-1]?=some u:=by
  show jf.toArray[jf.length-1]?=some u;rw[<- P5,<- hl];exact hu
 refine b7 F.slot_list_pop ⟨_,e,rfl⟩ F.entry_list_pop (F.args_list_pop_1 _) (MeetsSeq.list_pop_last l jf.toArray n u hy' (by rw[E9];ext)) ⟨e,?_⟩;refine⟨y,_,I.lset (its':=jf.dropLast) hH e ?_ r.dropLast ?_,ru,q⟩
 ·show jf.toArray.eraseIdxIfInBounds (jf.toArray.size-1)=jf.dropLast.toArray;rw[E9,List.eraseIdxIfInBounds_toArray,Pf]
 ·rw[List.length_dropLast];ext
def KG:V->List V->Hp->VK->Prop:=λx vs H Q=>∃l xs i k y,x=.ref l/\vs=[.int i]/\H l=some (.lst xs)/\-(2 ^ 63)<=i/\i<2 ^ 63/\seqIndex? i xs.length=some k/\xs[k]?=some y/\Q y (upd H l (.lst (xs.eraseIdx k)))
def Ph:MtM X "list.pop" KG:=by
 intro jb s σ H x vs v us Q I rx rv h;obtain⟨l,xs,i,k,y,rfl,rfl,hH,h1,h2,hk,hy,q⟩:=h;cases rx;obtain⟨u,rfl,ru⟩:=rv.one;obtain⟨t,rfl⟩:=ru;obtain⟨z,jf,n,r,hl,e⟩:=I.lstM hH;obtain⟨w,hw,rw'⟩:=r.get hy
 refine b7 F.slot_list_pop ⟨_,e,rfl⟩ F.entry_list_pop (F.args_list_pop_2 _ _)
   (MeetsSeq.list_pop_at l jf.toArray n i t k w (fitsIndex_both h1 h2) (by grind) (by grind) (by grind)) ⟨e,?_⟩
 refine⟨y,_,I.lset (its':=jf.eraseIdx k) hH e ?_ (r.eraseIdx k) ?_,rw',q⟩
 ·grind
 grind
def rCat:R2:=λx y H Q=>∃l b xs zs,x=.ref l/\y=.ref b/\H l=some (.lst xs)/\H b=some (.lst zs)/\xs.length+zs.length<=B4/\∀p,H p=none->Q (.ref p) (upd H p (.lst (xs++zs)))
def op_cat:OpR X (Q2 .Add) rCat:=by
 intro jb s σ H x y v u Q I rx ry h;obtain⟨l,b,xs,zs,rfl,rfl,hH,hB,hz,q⟩:=h;cases rx;cases ry;obtain⟨z,jf,n,r,hl,e⟩:=I.lstM hH;obtain⟨z2,its2,n2,r2,hl2,e2⟩:=I.lstM hB;refine PySem.P.add_list e e2 ?_ (by rw[E9,E9];ext);have ea:jf.toArray++its2.toArray=(jf++its2).toArray:=0o0
 rw[ea];exact⟨.ref _,_,I.lnew (t':=s.toks) (r.append r2) (by rw[C7];ext),rfl,q _ I.fresh⟩
end
end L2
namespace Att
open PySem PySem.W PySem.Calls PyProof.Rows
def Pi:∀(ns:List Int) (vs:List A3),WellAll P h vs (ns.map WData.int)->IntsAre vs ns:=by
 intro ns
 induction ns with
 | nil =>
  intro vs w;rw[l5] at w;cases w;exact .nil
 | cons n ns ih =>
  intro vs w;rw[J3] at w;cases w with
  | cons a b =>
   cases a;exact .cons _ _ (ih _ b)
def Pj {l:OpenLaw}(hn:l.most=some n)
   (hpre:l.row.toRowW.claim.pre args=true) (hwl:WellAll P h vals args) :
   ∃a vs ns,vals=[K2 a]/\args=[WData.list (ns.map WData.int)]/\h.get? a=some { cls:=.type "list",data:=.seq vs.toArray }/\IntsAre vs ns/\ns.length<=n:=by
 have hsh:WShape.hasAll [] args [.list .int]=true:=(pre_splitW hpre).1;have hc:l.pre.holds [] { args:=args }=true:=(pre_splitW hpre).2;obtain⟨d,r,rfl,h1,h2⟩:=hasAllW_cons hsh;obtain rfl:=hasAllW_nil h2;obtain⟨xs,rfl,h3⟩:=hasW_list h1;obtain⟨ns,rfl⟩:=items_int h3
 have hlen:ns.length<=n:=by
  unfold OpenLaw.pre at hc
  have h4:(WTm.not (.lt (.lit (.int (n:Int))) (.len (.arg 0)))).holds [] { args:=[.list (ns.map .int)] }=true:=by
   have h4:=(holds_andW hc).1;rw[hn] at h4;exact h4
  have h5:=condW_of h4 (w_not (w_lt w_lit (w_len_list (w_arg rfl))));rw[B0] at h5;refine y7 λq=>?_;have q':(n:Int)<((ns.length:Nat):Int):=0x0
  first
    |(rw[jq q'] at h5;exact absurd h5 0b0)
    |(simp at h5;omega)
 cases hwl with
 | cons w1 w2 =>
  cases w2;cases w1 with
  |list ho hall=>exact⟨_,_,ns,rfl,rfl,ho,Pi ns _ hall,hlen⟩
def Pk (l:OpenLaw)(args:List WData):l.row.toRowW.claim.post args (.bool true) args=true:=
 postW_of (r:=l.row.toRowW) (X:=(true == true))
   (show WShape.has [] (.bool true) .bool=true by first|rfl|decide|simp[WShape.has,WShape.arms,WShape.armsAll])
   (show(WTm.eq .res (.lit (.bool true))).value [] { args:=args,res:=some (.bool true),after:=args }=some (.bool (true == true)) from w_eq_bool (w_res rfl) w_lit) rfl
def attach_call {l:OpenLaw}
   (hn:l.most=some n) (hdf:d.params.defaults=[])
   (call:∀(w:B9) (s₀ s₁:A4) (mg mb:Str->Option A3) (fa:A1) (o:Obj) (pm cd doc:A3) (a:A1) (vs:List A3) (ns:List Int),
    Ground q loose [] XP w s₀ mg mb s₁.heap->YP w s₁.heap->
    s₁.heap.get? fa=some o->o.data=.func (docDef d.name d.params d.body d.scope pm cd doc)->s₁.heap.CodeRec cd d.name->mg d.name=some (.ref fa)->
    s₁.heap.get? a=some { cls:=.type "list",data:=.seq vs.toArray }->IntsAre vs ns->ns.length<=n->s₁.gens=#[]->
    M1 (A7 l.prog w) callerA (.call (.ref fa) ⟨[.ref a],[]⟩) (λr s'=>r=.ok (.ret (.bool true))/\OldK s₁.heap s'.heap/\s'.os=s₁.os/\AllBare s'.gens) s₁) :
   WalkO q loose XP YP l.row.toRowW d [] (λf vs=>PySem.call f vs):=by
 intro w s₀ s₁ mg mb G Y fa o pm cd doc dV kV ho hd hcd hD hmg hg args vals as hpre hlay hrd hwl hlo;obtain rfl:dV=.none:=Dflts.none hD hdf;obtain rfl:kV=.none:=Dflts.noKw hD;obtain⟨a,vs,ns,rfl,rfl,hobj,hints,hlen⟩:=Pj hn hpre hwl;refine enter_call (w9 (call w s₀ s₁ mg mb fa o pm cd doc a vs ns G Y ho (fd_plain hd) hcd hmg hobj hints hlen hg) λr s' hq=>?_);obtain⟨rfl,h2,h3,h4⟩:=hq;exact⟨.inl ⟨.bool true,.bool true,[],rfl,λ_=>rfl,.bool true,Pk l _,λ_=>⟨Gw,λ_ hm=>(nomatch hm)⟩⟩,h2,h3,h4⟩
end Att
namespace L2
open PySem PySem.Spec PyProof.Rows
def Pl (h:IntsAre vs ns):Vals (ns.map V.int) vs:=by
 induction h with
 |nil=>exact .nil
 |cons n t _ ih=>exact .cons ⟨t,rfl⟩ ih
def Only (H:Hp):Prop:=∀b,H b=none\/∃o xs,H b=some (.frz o (.lst xs))
def Pm {K:A8}
   (KX:K.In s₁.heap) (hns:s₁.heap.Ns R3 mg) (hb:s₁.heap.Ns builtinsNs mb) (hbb:∀x:Str,x≠"__name__"->mb x=J5 x) (hlim:s₁.heap.NoLimit) (hg:s₁.gens=#[])
   (ha:s₁.heap.get? a=some { cls:=.type "list",data:=.seq vs.toArray }) (hi:IntsAre vs ns) (hl:ns.length<=B4) (hr:Room k callerA)
   (F:∀base:B3,K.In base->base.Ns R3 mg->FnOk P w K mg base CX k fa fd [x] sp) (hbind:∀(s:A4) (u:A3),BindsTo s fd ⟨[u],[]⟩ [(x,u)])
   (hsp:∀H:Hp,Only H->SqL K H a (ns.map V.int)->sp [.ref a] H (λv _=>v=.bl true) λ_ _ _=>False)
   (hCX:∀H e s',CX [] H s₁ (λ_ _ _=>False) e s'->False) :
   M1 (A7 P w) callerA (.call (.ref fa) ⟨[.ref a],[]⟩) (λr s'=>r=.ok (.ret (.bool true))/\OldK s₁.heap s'.heap/\s'.os=s₁.os/\AllBare s'.gens) s₁:=by
 have rv:=Pl hi;have lenV:=hi.length
 -- from an abstract heap in which nothing but the script may be tracked
 have core:∀H:Hp,Only H->SqL K H a (ns.map V.int)->HOk P w H s₁.heap->(∀b,H b≠none->b=a)->(H a≠none->K.lookup a=none)->
     M1 (A7 P w) callerA (.call (.ref fa) ⟨[.ref a],[]⟩) (λr s'=>r=.ok (.ret (.bool true))/\OldK s₁.heap s'.heap/\s'.os=s₁.os/\AllBare s'.gens) s₁:=by
   intro H hO hS hok hA hK;have base_of:∀{b:A1} {o:Obj},s₁.heap.get? b=some o->H b=none->(hidT s₁.heap H).get? b=some o:=λe n=>Oi e n
   have noA:∀{b:A1} {o:Obj} {es:Array DictEntry} {ep:Nat},s₁.heap.get? b=some o->o.data=.dict es ep->H b=none:=λ{b o es ep} e d=>by
    cases q:H b with
    |none=>rfl
    | some u =>
     have e':b=a:=hA b (by rw[q];simp);subst e';rw[ha] at e;cases e;have d':Data.seq vs.toArray _=Data.dict es ep:=d;cases d'
   have nsK:∀{b:A1} {m:Str->Option A3},s₁.heap.Ns b m->(hidT s₁.heap H).Ns b m:=λ{b m} ⟨o,es,ep,e,d,r⟩=>⟨o,es,ep,base_of e (noA e d),d,r⟩
   have hKb:K.In (hidT s₁.heap H):=λb o e=>base_of (KX b o e) (by
    cases q:H b with
    |none=>rfl
    | some u =>
     have e':b=a:=hA b (by rw[q];simp);subst e'
     rw[hK (by rw[q];simp)] at e;cases e)
   have hM:Mod K mg (hidT s₁.heap H):=⟨hKb,nsK hns,⟨mb,nsK hb,hbb⟩,let ⟨mc,h1,h2⟩:=hlim;⟨mc,nsK h1,h2⟩⟩;have e0:Env0 P w K mg (hidT s₁.heap H) callerA [] s₁ H:=⟨rfl,hM,λb o e=>Oj e,Nat.le_of_eq (Oh _ _),trivial,λb hb=>absurd (show b∈([]:List A1) from hb) 0o0,hok,.of_eq hg,(hO N3).imp id λ⟨o,xs,e⟩=>⟨o,_,e⟩⟩;refine w9 ((F _ hKb (nsK hns)).run callerA [] s₁ H ⟨[.ref a],[]⟩ [.ref a] [.ref a] _ _ hr e0 (hbind s₁ (.ref a)) (.cons rfl .nil) (hsp H hO hS)) λr s' h=>?_;cases r with
   |error e=>exact(hCX H e s' h).elim
   | ok fl =>
    cases fl with
    |next=>exact Y7 h
    |brk=>exact Y7 h
    |cont=>exact Y7 h
    | ret u =>
     obtain⟨v,H',os,bare,un,hok',r',q⟩:=h;have q':v=.bl true:=q;subst q';obtain rfl:u=Value.bool true:=r';refine⟨rfl,OldK.of_keep λb o e=>?_,os,bare⟩;cases q:H b with
     |none=>exact un.keep b o e q (by intro z;exact absurd (show b∈([]:List A1) from z) 0o0) 0o0
     | some u =>
      rcases hO b with z|⟨ob,xs,z⟩
      ·rw[q] at z;cases z
      ·have z2:=un.frzs b ob _ z;obtain⟨e1,_⟩:=hok b _ z;obtain⟨e2,_⟩:=hok' b _ z2;rw[e] at e1;cases e1;exact e2
 cases hk:K.lookup a with
 | some o =>
  -- the script is one of the module's own objects
  have e:=KX a o hk;rw[ha] at e;cases e;refine core (λ_=>none) (λ_=>.inl rfl) (.inr ⟨_,vs.toArray,_,hk,rfl,rfl,rfl,by rw[E9,lenV];exact hl,by simpa using rv⟩) (λb u z=>by have z':(none:Option HO)=some u:=z;cases z') (λb z=>absurd rfl z) λz=>absurd rfl z
 | none =>
  refine core (λb=>if b=a then some (.frz { cls:=.type "list",data:=.seq vs.toArray } (.lst (ns.map V.int))) else none) (λb=>?_) (.inl (.inr ⟨{ cls:=.type "list",data:=.seq vs.toArray },jt rfl⟩)) (λb u z=>?_) (λb z=>?_) λ_=>hk
  ·by_cases hb:b=a
   ·exact .inr ⟨_,_,jt hb⟩
   ·exact .inl (ju hb)
  ·by_cases hb:b=a
   ·have z':=(jt hb).symm.trans z;cases z';subst hb;exact⟨ha,by rw[B0];exact hl,vs,_,rv,ha⟩
   ·have z':=(ju hb).symm.trans z;cases z'
  ·by_cases hb:b=a
   ·exact hb
   ·exact absurd (ju hb) z
abbrev KOf {K:A8}{h:B3}(_:K.In h):A8:=K
def Pn {l:PySem.W.OpenLaw}{K:Params->A8}{CX:B9->CXT}{sp:B9->Sp}
   (hn:l.most=some n) (hn2:n<=B4) (hdf:d.params.defaults=[]) (hr:Room k callerA)
   (hY:∀(w:B9) (h:B3),YP w h->(K w.params).In h)
   (F:∀(w:B9) (mg:Str->Option A3) (fa:A1) (h:B3),(K w.params).In h->h.Ns R3 mg->mg d.name=some (.ref fa)->
     ∃ fd : FuncData, (∀ (s : A4) (u : A3), BindsTo s fd ⟨[u], []⟩ [(x, u)]) /\
       ∀base:B3,(K w.params).In base->base.Ns R3 mg->FnOk l.prog w (K w.params) mg base (CX w) k fa fd [x] (sp w))
   (hsp:∀(w:B9) (H:Hp) (a:A1) (ns:List Int),ns.length<=n->Only H->SqL (K w.params) H a (ns.map V.int)->sp w [.ref a] H (λv _=>v=.bl true) λ_ _ _=>False)
   (hCX:∀(w:B9) (H:Hp) (s:A4) (e:A3) (s':A4),CX w [] H s (λ_ _ _=>False) e s'->False) :
   PySem.W.WalkO q loose XP YP l.row.toRowW d [] (λf vs=>PySem.call f vs):=by
 refine Att.attach_call hn hdf λw s₀ s₁ mg mb fa o pm cd doc a vs ns G Y ho hd hcd hmg hobj hints hlen hg=>?_;have KX:=hY w _ Y;obtain⟨fd,hb,hF⟩:=F w mg fa _ KX G.T.g hmg;exact Pm KX G.T.g G.T.b G.T.builtins G.T.nolimit hg hobj hints (K1 hlen hn2) hr hF hb (λH hO hS=>hsp w H a ns hlen hO hS) λH e s'=>hCX w H s₁ e s'
noncomputable def Z1 (s:Stmt):Arguments:=match s with
 |.FunctionDef _ a _ _ _ _ _ _ _ _=>a
 |_=>{ posonlyargs:=[],args:=[],vararg:=none,kwonlyargs:=[],kw_defaults:=[],kwarg:=none,defaults:=[] }
noncomputable def P8 (s:Stmt):List Stmt:=match s with
 |.FunctionDef _ _ b _ _ _ _ _ _ _=>b
 |_=>[]
noncomputable def G6 (s:Stmt):J1:=match s with
 |.FunctionDef _ _ _ _ _ _ sc _ _ _=>sc
 |_=>{ kind:=.function,names:=[],isGenerator:=false,isCoroutine:=false }
abbrev CX0:CXT:=λ_ _ _ _ _ _=>False
abbrev E0:XK:=λ_ _ _=>False
def pass0:GG CX0 X E0:=λ_ _ _ _ _ _ _ h=>h.elim
structure Fun (K:A8)(x qual:Str)(st:Stmt)(f:A1)(fd:FuncData):Prop where
 ex:∃(oc:A3) (od:Option A1) (kV doc pm:A3) (an:Option A1) (jo ct:A3) (osl:Array (Option A3)),
  fd=U4 x qual (Z1 st) (P8 st) (G6 st) .none kV doc pm an jo ct/\K.lookup f=some ⟨oc,od,.func fd,osl⟩/\DG K jo qual=true
 kp:BW K (.ref f)=true
section
variable {P:C3}{w:B9}{K:A8}{mg:Str->Option A3}{base:B3}
def Fun.ok {st:Stmt}(F:Fun K x qual st f fd)(S:Z0 N ps (G6 st))(len:∀vs H Q E,sp vs H Q E->vs.length=ps.length)
   (hbody:∀(jo:A3) (A:D0) (outer:List Env) (s:A4) (H:Hp) (vs:List V) (Q:VK) (E:XK),Room k (A.deeper (envOfC qual (G6 st) s.heap.objs.size f jo))->sp vs H Q E->
     ∃t,PSs (cxOf CX0 P w K mg base N qual (G6 st) f jo A outer s H E).nox (P8 st) t/\t { nx:=λ_ H'=>Q .non H',rt:=Q } (start N vs) H):FnOk P w K mg base CX0 (k+1) f fd ps sp:=by
 obtain⟨oc,od,kV,doc,pm,an,jo,ct,osl,rfl,lk,hcd⟩:=F.ex;refine fn_of lk hcd S len λA outer s H vs Q E hr hsp=>?_;obtain⟨t,h,q⟩:=hbody jo A outer s H vs Q E hr hsp;exact⟨t,h.nox,q⟩
def Fun.binds {st:Stmt}{f:A1}{fd:FuncData}{ps:List Str}(F:Fun K x qual st f fd)
   (h:∀(kV doc pm:A3) (an:Option A1) (jo ct:A3) (us:List A3),us.length=ps.length->bindArgs (U4 x qual (Z1 st) (P8 st) (G6 st) .none kV doc pm an jo ct) ⟨us,[]⟩=pure (ps.zip us)):Bp K fd ps []:=by
 obtain⟨oc,od,kV,doc,pm,an,jo,ct,osl,rfl,lk,hcd⟩:=F.ex;exact .all (h kV doc pm an jo ct)
def fun_mk {x qual:Str}{st:Stmt}{f:A1}{oc:A3}{od an:Option A1}{osl:Array (Option A3)}{kV doc pm jo ct:A3}(l:K.lookup f=some ⟨oc,od,.func (U4 x qual (Z1 st) (P8 st) (G6 st) .none kV doc pm an jo ct),osl⟩)
   (c:DG K jo qual=true) (k:BW K (.ref f)=true):Fun K x qual st f (U4 x qual (Z1 st) (P8 st) (G6 st) .none kV doc pm an jo ct):=⟨⟨oc,od,kV,doc,pm,an,jo,ct,osl,rfl,l,c⟩,k⟩
end
def hu_of {A:D0}{k:Nat}(hr:Room k A):A.units+1<cLine:=y4 (Nat.add_le_add_left (by decide:1<=64) _) hr.units
section
variable {X:Cx}
def pv (i:Nat){x:Str}{pos:Pos}(hN:X.N[i]?=some x:=by rfl)(hv:Vis X.env.scope x:=by first|exact Or.inl rfl|exact Or.inr (Or.inl rfl)|exact Or.inr (Or.inr rfl))(hd:(x == ("__debug__":Str))=false:=by decide)
   (hcd:(x == ("__classdict__":Str))=false:=by decide):PE X (.Name x pos) (tVar i):=Kb hN hv hd hcd
end
def iteF {A B:Prop}(h:B):if false=true then A else B:=by grind
def iteT {A B:Prop}(h:A):if true=true then A else B:=by grind
def ite2 {c A B:Prop}[Decidable c](h1:c->A)(h2:¬c->B):if c then A else B:=by grind
def Same (H H':Hp):Prop:=∀b o,H b=some o->H' b=some o
def Same.refl (H:Hp):Same H H:=λ_ _ h=>h
def Same.trans {H H1 H2:Hp}(a:Same H H1)(b:Same H1 H2):Same H H2:=λc o h=>b c o (a c o h)
def KH {prog:C3}{w:B9}{A:D0}{R:Result->A4->Prop}{s:A4}{ji target iter:Expr}{jk:List Expr}{scope:J1}{pos:Pos}{it jm:A3}{env:Env}(I:Nat->A4->Prop)
   (turn:∀n s,I n s->A5 (A7 prog w) A (pyNext it) (fun r s₁=>match r with
    |none=>R (.ok .next) s₁
    |some v=>A5 (A7 prog w) A (j6 target it v) (λ_ s₁'=>A5 (A7 prog w) A (assign target env v) (λ_ s₂=>
        A5 (A7 prog w) A (forIn jk true fun c r=>if r=true then do let ok ← isTrue c env (eval c env);pure (o7 ok) else pure (o7 r)) (fun ok s₃=>
         if ok=true then A5 (A7 prog w) A (eval ji env) (λx s₄=>
          A5 (A7 prog w) A (call (.builtin "list.append") [jm,x]) (λ_ s₅=>∃m,m<n/\I m s₅) (λ_ _=>False) s₄) (λ_ _=>False) s₃
         else ∃m,m<n/\I m s₃) (λ_ _=>False) s₂) (λ_ _=>False) s₁') (λ_ _=>False) s₁) (λ_ _=>False) s)
   (n:Nat) (h:I n s) :
   M1 (A7 prog w) A (.compLoop (.ListComp ji [⟨target,iter,jk,0⟩] scope pos) 0 it jm env) R s:=by
 refine codeAny_loop rfl I (λn s hI=>?_) n h;show A5 _ A ((compTurn (.ListComp ji [⟨target,iter,jk,0⟩] scope pos) 0 it jm env).onRaise (λx=>do noteFrame x env;theTreesLotGoes x)) _ _ s;refine wpAny_noted ?_;rw[compTurn_list];refine A2 (X7 (A2 (G5 (turn n s hI) (λr s₁ h₁=>?_) λ_ _ h'=>h'.elim)));cases r with
 |none=>exact A9 h₁
 | some v =>
  refine A2 (G5 h₁ (λ_ s₁' h₁'=>?_) λ_ _ h'=>h'.elim);refine A2 (G5 h₁' (λ_ s₂ h₂=>A2 (G5 h₂ (λok s₃ h₃=>?_) λ_ _ h'=>h'.elim)) λ_ _ h'=>h'.elim);cases ok with
  |false=>exact A9 ⟨rfl,h₃⟩
  | true =>
   exact A2 (A2 (G5 h₃ (λx s₄ h₄=>A2 (G5 h₄ (λ_ s₅ h₅=>A9 (A9 ⟨rfl,h₅⟩)) λ_ _ h'=>h'.elim)) λ_ _ h'=>h'.elim))
noncomputable def F2 (X:Cx)(scope:J1)(cl:List (Str×A1))(N:List Str)(fp:List A1)(C:A1)(s:A4)(H:Hp):Cx where
 prog:=X.prog
 w:=X.w
 K:=X.K
 mg:=X.mg
 base:=X.base
 A:=X.A
 N:=N
 s₀:=s
 H₀:=H
 env:=compEnvC scope cl C X.env
 outer:=X.stack
 stack:=X.stack
 ex:=fp
 fn:=λ_=>false
 calm:=X.calm
 pn:=X.pn
 xe:=λ_ _=>False
structure V5 (X:Cx)(scope:J1)(cl:List (Str×A1))(N:List Str)(cs:List (Option Nat)):Prop where
 clos:closureFor scope X.env=pure cl
 kind:scope.kind=.function
 nocell:∀y∈scope.names,y.2≠.cell
 names:∀y∈scope.names,y.2=.local->scope.names.lookup y.1=some .local
 sub:∀x c,cl.lookup x=some c->X.env.cells.lookup x=some c
 has:∀x,((relabel scope X.env).names.lookup x=some .cell\/(relabel scope X.env).names.lookup x=some .free)->∃c,cl.lookup x=some c
 len:cs.length=N.length
 cap:∀(k j:Nat) (x:Str),cs[k]?=some (some j)->N[k]?=some x->X.N[j]?=some x/\Vis X.env.scope x/\X.env.kindOf x≠some .local/\(∃c,cl.lookup x=some c)/\((relabel scope X.env).names.lookup x=some .cell\/(relabel scope X.env).names.lookup x=some .free)
def CF:List (Str×A1)->List (Str×A1)->Prop
 |[],_=>True
 |y::r,cells=>cells.lookup y.1=some y.2/\CF r cells
def CF.get:∀{cl cells:List (Str×A1)},CF cl cells->∀x c,cl.lookup x=some c->cells.lookup x=some c:=by intro a;induction a <;> intros <;> grind [CF]
def Po {X:Cx}{scope:J1}{cl:List (Str×A1)}{N:List Str}{cs:List (Option Nat)}(clos:closureFor scope X.env=pure cl)(kind:scope.kind=.function)(nocell:(scope.names.all λy=>!(y.2 == .cell))=true)
   (names:(scope.names.all λy=>!(y.2 == .local)||scope.names.lookup y.1 == some .local)=true) (sub:CF cl X.env.cells)
   (has:((relabel scope X.env).names.all λy=>!(y.2 == .cell||y.2 == .free)||(cl.lookup y.1).isSome)=true) (len:cs.length=N.length)
   (cap:((cs.zip N).all λy=>match y.1 with|none=>true|some j=>X.N[j]? == some y.2&&(X.env.scope.names.lookup y.2 == some .cell||X.env.scope.names.lookup y.2 == some .free)&&(cl.lookup y.2).isSome &&
     ((relabel scope X.env).names.lookup y.2 == some .cell||(relabel scope X.env).names.lookup y.2 == some .free))=true):V5 X scope cl N cs:=by
 refine⟨clos,kind,λy hy=>?_,λy hy e=>?_,sub.get,λx hx=>?_,len,λk j x hk hN=>?_⟩
 ·have:=C6.mp nocell y hy;intro z;rw[z] at this;cases this
 ·have:=C6.mp names y hy;rw[e] at this
  simpa using this
 ·rcases hx with hx|hx
  ·have:=C6.mp has _ (w4 hx);exact DZ.mp (by simpa using this)
  ·have:=C6.mp has _ (w4 hx);exact DZ.mp (by simpa using this)
 ·have hz:(cs.zip N)[k]?=some (some j,x):=by rw[List.getElem?_zip_eq_some];exact⟨hk,hN⟩
  have:=C6.mp cap _ (G4 hz);simp only[P4,Bool.or_eq_true,beq_iff_eq] at this;obtain⟨⟨⟨h1,h2⟩,h3⟩,h4⟩:=this;refine⟨h1,?_,?_,DZ.mp h3,h4⟩
  ·rcases h2 with h2|h2
   ·exact .inr (.inl h2)
   ·exact .inr (.inr h2)
  ·intro z;have z':X.env.scope.names.lookup x=some .local:=z;rw[z'] at h2;rcases h2 with h2|h2 <;> cases h2
def h9 (cs:List (Option Nat))(σ:St):St:=cs.map λo=>o.bind λj=>(σ[j]?).bind id
def PIf (X:Cx)(jk:List Expr)(t:TT):Prop:=
 ∀ (jb : List (A1 × Obj)) (s : A4) (σ : St) (H : Hp) (Q : Bool -> Hp -> Prop), Inv X jb σ H s -> t σ H Q ->
   A5 (A7 X.prog X.w) X.A (forIn jk true λc r=>if r=true then do let ok ← isTrue c X.env (eval c X.env);pure (o7 ok) else pure (o7 r)) (TP X jb σ Q) X.xe s
def tTru:TT:=λ_ H Q=>Q true H
def Pp {X:Cx}:PIf X [] tTru:=λjb s σ H Q I h=>wpAny_tests_nil ⟨H,I,h⟩
def Pq {X:Cx}{c:Expr}{t:TT}(h:PT X c t):PIf X [c] t:=λjb s σ H Q I hq=>wpAny_tests_one (h jb s σ H Q I hq)
def CompW (J:It)(g:TG)(tt:TT)(te:TE)(Q:VK)(D:A1)(σc:St)(H1:Hp):Prop:=∃W:Nat->Nat->St->Hp->Prop,(∃m,W 0 m σc H1)/\
 ∀i m σ' H',W i m σ' H'->(J.stop i H'/\Q (.ref D) H')\/(J.go i H'/\∀x H2,J.yld i H' x H2->g x σ' H2 fun σ3 H3=>tt σ3 H3 fun b H4=>
    if b=true then te σ3 H4 λv H5=>∃ys,H5 D=some (.lst ys)/\ys.length<B4/\∃m',m'<m/\W (i+1) m' σ3 (upd H5 D (.lst (ys++[v])))
    else ∃m',m'<m/\W (i+1) m' σ3 H4)
def tComp (cs:List (Option Nat))(wi:TI)(g:TG)(tt:TT)(te:TE):TE:=λσ H Q=>wi σ H λJ H1=>∀D,H1 D=none->CompW J g tt te Q D (h9 cs σ) (upd H1 D (.lst []))
def Pr {X:Cx}{scope:J1}{cl:List (Str×A1)}{N:List Str}{cs:List (Option Nat)}(S:V5 X scope cl N cs){jb:List (A1×Obj)}{σ:St}{H:Hp}{s:A4}{fp:List A1}{h₁:B3}{tk:Nat}
   (I:Inv X jb σ H s) (f2:∀b∈fp,FpOk X jb H b) (ho:∀b∈fp,∃o,s.heap.get? b=some o)
   (old:∀b o,s.heap.get? b=some o->h₁.get? b=some o) (hns:h₁.Ns (s.heap.objs.size+1) (λx=>([]:List (Str×A3)).reverse.lookup x))
   (hD:h₁.get? s.heap.objs.size=some { cls:=.type "list",data:=.seq ([]:List A3).toArray }) :
   Inv (F2 X scope cl N fp (s.heap.objs.size+1) s H) jb (h9 cs σ) (upd H s.heap.objs.size (.lst [])) { s with heap:=h₁,toks:=tk }:=by
 have lt:∀b o,s.heap.get? b=some o->b<s.heap.objs.size:=λb o e=>C4 e;have neC:∀b o,s.heap.get? b=some o->b≠s.heap.objs.size+1:=λb o e=>E6 (AU (lt b o e));have neD:∀b o,s.heap.get? b=some o->b≠s.heap.objs.size:=λb o e=>E6 (lt b o e);have nstk:∀b,b≠X.env.locals->b∉X.fs->b∉frs X.stack:=λb h1 h2 hb=>(B5.mp (I.stkSub b hb)).elim h1 h2
 have cellO:∀x c,cl.lookup x=some c->∃v o,s.heap.get? c=some o/\s.heap.IsCell c v:=λx c e=>by
  obtain⟨v,q⟩:=I.cell x c (S.sub x c e);obtain⟨o,h1,_⟩:=id q;exact⟨v,o,h1,q⟩
 refine⟨⟨I.ok.mod,S.kind,I.ok.glob,I.ok.blt,z0 _,λx y c h1 h2=>I.ok.inj x y c (S.sub x c h1) (S.sub y c h2),λx hx=>S.has x hx,λx c hx=>(by cases hx),I.ok.hd,I.ok.frames,.inl rfl,λb hb=>?_,I.bs,K1 I.ok.bsz I.sz,λb o e hb=>?_,λb hb=>?_,I.stack,I.stkFree,I.nos⟩,
  rfl,I.bare,Un.laid old (B2 _) I.fresh I.bigS,⟨_,hns,λi x v e1 e2 e3=>?_⟩,λx c e=>?_,?_,λx c e=>?_,λp hp=>?_,I.hok.laid old (B2 _) ⟨F7 _,[],0,.nil,hD⟩,?_⟩
 ·obtain⟨o,e⟩:=ho b hb;exact⟨neC b o e,λx c ec=>(f2 b hb).2.2.2.2.1 x c (S.sub x c ec)⟩
 ·rcases(f2 b hb).2.2.2.1 with z|z
  ·exact I.ok.noex b o e z
  ·exact absurd (M2 (C4 e) (K1 I.ok.bsz z)) (U9 _)
 ·exact nstk b (f2 b hb).2.1 (f2 b hb).2.2.1
 ·have e2':(cs.map λo=>o.bind λj=>(σ[j]?).bind id)[i]?=some (some v):=e2;rw[D4] at e2';cases ec:cs[i]? with
  |none=>rw[ec] at e2';cases e2'
  | some o =>
   rw[ec] at e2';cases o with
   |none=>cases e2'
   | some j =>
    have e2'':(σ[j]?).bind id=some v:=by simpa using e2'
    cases es:σ[j]? with
    |none=>rw[es] at e2'';cases e2''
    | some ov =>
     rw[es] at e2'';have e4:ov=some v:=by simpa using e2''
     subst e4;obtain⟨hN,hv,hnl,⟨c,hc⟩,hk⟩:=S.cap i j x ec e1;obtain⟨m,hn,hl⟩:=I.loc;obtain⟨u,r,l⟩:=hl j x v hN es hv;refine⟨u,r,?_⟩;rcases l with⟨hk',_⟩|⟨_,c',hc',z⟩
     ·grind
     ·have ecc:c'=c:=by
       have:=S.sub x c hc;rw[hc'] at this;exact L4 this
      subst ecc;obtain⟨o,h1,h2⟩:=z;exact .inr ⟨hk,c',hc,⟨o,old _ o h1,h2⟩⟩
 ·obtain⟨v,o,h1,o',h2,h3⟩:=cellO x c e;exact⟨v,o',old _ o' h2,h3⟩
 ·show upd H s.heap.objs.size (.lst []) (s.heap.objs.size+1)=none;rw[C8 (Nat.succ_ne_self _)];exact I.hok.fresh (z0 _)
 ·obtain⟨v,o,h1,_⟩:=cellO x c e;rw[C8 (neD c o h1)];exact I.freeC x c (S.sub x c e)
 ·obtain⟨e,n,ne,nf,d⟩:=I.pin p hp;exact⟨old _ _ e,by rw[C8 (neD _ _ e)];exact n,neC _ _ e,nstk _ ne nf,d⟩
 ·show(cs.map _).length=N.length;rw[B0];exact S.len
def Inv.uncomp
   (I:Inv X jb σ H s) (f2:∀b∈fp,FpOk X jb H b)
   (J:Inv (F2 X scope cl N fp (s.heap.objs.size+1) s H) jb σ' H' s') (hs:∀b,b≠s.heap.objs.size+1->h'.get? b=s'.heap.get? b) :
   Inv X jb σ H' { s' with heap:=h' }:=by
 obtain⟨hh,g,d,t,os'⟩:=s';obtain rfl:os'=s.os:=J.os;have U:Un (frs X.stack) fp H H' s.heap hh:=J.base;have old:∀b o,s.heap.get? b=some o->b≠s.heap.objs.size+1:=λb o e=>E6 (AU (C4 e));have hs':∀b,b≠s.heap.objs.size+1->h'.get? b=hh.get? b:=hs
 have trC:∀b u,H' b=some u->b≠s.heap.objs.size+1:=λb u e z=>by
  have q:H' (s.heap.objs.size+1)=none:=J.free;rw[z,q] at e;cases e
 show Inv X jb σ H' { s with heap:=h',gens:=g,drawn:=d,toks:=t };refine I.call (h':=h') (g':=g) (d':=d) (t':=t) (ch:=fp) ⟨λb o e n hb hx=>?_,λb o e n hb hx=>?_,U.free,λb o e hx=>?_,U.tups,U.frzs,U.tbls,U.sys⟩ (λb u e=>?_) J.bare λb hb=>?_
 ·rw[hs' b (old b o e)];exact U.keep b o e n hb hx
 ·rw[hs' b (old b o e)];exact U.slot b o e n hb hx
 ·rw[hs' b (old b o e)];exact U.there b o e hx
 ·refine(J.hok b u e).stay (λc v hc q=>?_) (λ_ q=>q) λ_ _ q=>q
  have ne:c≠s.heap.objs.size+1:=by
   rcases hc with z|z
   ·rw[z];exact trC b u e
   ·exact trC c _ z
  rw[hs' c ne];exact q
 ·exact⟨(f2 b hb).2.2.2.1,(f2 b hb).2.1,(f2 b hb).2.2.2.2.1,(f2 b hb).2.2.2.2.2⟩
def GP {K:A8}{W:Nat->Nat->St->Hp->Prop}{s5 s7:A4}(T:Turn P w K tg J fp it tn)(st5:tn (i+1) s5.heap)(I7:Inv Y (jb++Bn fp s5.heap) σ7 H7 s7)(n7:∃m',m'<n/\W (i+1) m' σ7 H7):∃m,m<n/\∃i σ' H',Inv Y jb σ' H' s7/\tn i s7.heap/\(∀b∈fp,H' b=none)/\W i m σ' H':=by
 obtain⟨m',hm,w7⟩:=n7;have pn:∀b∈fp,∀o,s5.heap.get? b=some o->_:=λb hb o e=>I7.pin (b,o) (U6 _ (U6 _ (GC hb e)));refine⟨m',hm,i+1,σ7,H7,I7.unpinned,T.keep _ _ _ st5 λb hb o e=>(pn b hb o e).1,λb hb=>?_,w7⟩;obtain⟨o,e,d⟩:=T.obj _ _ st5 b hb;exact(pn b hb o e).2.1
def GQ {Y:Cx}{jb:List (A1×Obj)}{tg ji:Expr}{jk:List Expr}{g:TG}{tt:TT}{te:TE}{J:It}{fp:List A1}{it D:A1}{tn:Nat->B3->Prop}{W:Nat->Nat->St->Hp->Prop}{N:St->Hp->Prop}{Rn:A4->Prop}(T:Turn Y.prog Y.w Y.K tg J fp it tn)(hc:Y.calm=true)(stat:∀{H':Hp},(∀b∈fp,H' b=none)->∀b∈fp,FpOk Y jb H' b)(hg:PG Y tg g)(hf:PIf Y jk tt)(he:PE Y ji te)(fin:∀s σ H,Inv Y jb σ H s->N σ H->Rn s)
   (turn:∀i m σ' H',W i m σ' H'->(J.stop i H'/\N σ' H')\/(J.go i H'/\∀x H2,J.yld i H' x H2->g x σ' H2 λσ3 H3=>tt σ3 H3 λb H4=>
    if b=true then te σ3 H4 λv H5=>∃ys,H5 D=some (.lst ys)/\ys.length<B4/\∃m',m'<m/\W (i+1) m' σ3 (upd H5 D (.lst (ys++[v])))
    else ∃m',m'<m/\W (i+1) m' σ3 H4)) (n:Nat) (s:A4) (hI:∃i σ' H',Inv Y jb σ' H' s/\tn i s.heap/\(∀b∈fp,H' b=none)/\W i n σ' H') :
   A5 (A7 Y.prog Y.w) Y.A (pyNext (.ref it)) (λr s₁=>match r with
    |none=>Rn s₁
    |some v=>A5 (A7 Y.prog Y.w) Y.A (j6 tg (.ref it) v) (λ_ s₁'=>A5 (A7 Y.prog Y.w) Y.A (assign tg Y.env v) (λ_ s₂=>
        A5 (A7 Y.prog Y.w) Y.A (forIn jk true fun c r=>if r=true then do let ok ← isTrue c Y.env (eval c Y.env);pure (o7 ok) else pure (o7 r)) (fun ok s₃=>
         if ok=true then A5 (A7 Y.prog Y.w) Y.A (eval ji Y.env) (λx s₄=>
          A5 (A7 Y.prog Y.w) Y.A (call (.builtin "list.append") [.ref D,x]) (λ_ s₅=>∃m,m<n/\∃i σ' H',Inv Y jb σ' H' s₅/\tn i s₅.heap/\(∀b∈fp,H' b=none)/\W i m σ' H') Y.xe s₄) Y.xe s₃
         else ∃m,m<n/\∃i σ' H',Inv Y jb σ' H' s₃/\tn i s₃.heap/\(∀b∈fp,H' b=none)/\W i m σ' H') Y.xe s₂) Y.xe s₁') Y.xe s₁) Y.xe s:=by
 obtain⟨i,σ3,H3,I3,st3,fr3,w3⟩:=hI;rcases turn i n σ3 H3 w3 with⟨stop,qn⟩|⟨go,step⟩
 ·refine thn (T.done Y rfl rfl rfl hc i jb s σ3 H3 Y.xe I3 (stat fr3) st3 stop) λr s4 ⟨hr,I4⟩=>?_;subst hr;exact fin s4 σ3 H3 I4 qn
 ·refine thn (T.item Y rfl rfl rfl hc i jb s σ3 H3 Y.xe I3 (stat fr3) st3 go) λr s4 ⟨u,hr,h4⟩=>?_;subst hr;refine thn h4 λ_ s5 ⟨x,H5,I5,r5,y5,st5,fr5⟩=>?_;refine thn (hg _ s5 σ3 H5 x u _ (I5.pinned (stat fr5) (T.obj _ _ st5)) r5 (step x H5 y5)) λ_ s6 ⟨σ6,H6,I6,q6⟩=>?_;refine thn (hf _ s6 σ6 H6 _ I6 q6) λok s7 ⟨H7,I7,q7⟩=>?_;cases ok with
  |false=>exact GP T st5 I7 q7
  | true =>
   refine thn (he _ s7 σ6 H7 _ I7 q7) λy s8 ⟨v8,H8,I8,r8,ys,e8,z8,n8⟩=>?_;have ma:=KD (X:=Y) _ s8 σ6 H8 (.ref D) [v8] (.ref D) [y] (λv H9=>∃m',m'<n/\W (i+1) m' σ6 H9) I8 rfl (.cons r8 .nil) ⟨_,ys,v8,rfl,rfl,e8,z8,n8⟩;exact thn ma λ_ s9 ⟨v9,H9,I9,_,q9⟩=>GP T st5 I9 q9
def GR {X:Cx}{scope:J1}{cl:List (Str×A1)}{N:List Str}{cs:List (Option Nat)}{ji tg iter:Expr}{jk:List Expr}{gs:List Comprehension}{pos p0:Pos}{wi:TI}{use:Option (A3->Sem Unit)}{Qf:A3->A4->Prop}{QQ:It->A1->St->Hp->Prop}(S:V5 X scope cl N cs)(hc:X.calm=true)(hi:PI X tg iter wi)
   (hs:∀x,N8 iter X.env x=pure x) {jb:List (A1×Obj)} {s:A4} {σ:St} {H:Hp} (I:Inv X jb σ H s) (h:wi σ H λJ H1=>∀D,H1 D=none->QQ J D (h9 cs σ) (upd H1 D (.lst [])))
   (loop:∀(fp:List A1) (it:A1) (tn:Nat->B3->Prop) (J:It) (s2:A4) (H2:Hp) (s₃:A4),Turn X.prog X.w X.K tg J fp it tn->(∀{H':Hp},(∀b∈fp,H' b=none)->∀b∈fp,FpOk (F2 X scope cl N fp (s2.heap.objs.size+1) s2 H2) jb H' b)->Inv X jb σ H2 s2->(∀b∈fp,FpOk X jb H2 b)->QQ J s2.heap.objs.size (h9 cs σ) (upd H2 s2.heap.objs.size (.lst []))->
     Inv (F2 X scope cl N fp (s2.heap.objs.size+1) s2 H2) jb (h9 cs σ) (upd H2 s2.heap.objs.size (.lst [])) s₃->tn 0 s₃.heap->(∀b∈fp,upd H2 s2.heap.objs.size (.lst []) b=none)->
     M1 (A7 X.prog X.w) X.A (.compLoop (.ListComp ji (⟨tg,iter,jk,0⟩::gs) scope pos) 0 (.ref it) (.ref s2.heap.objs.size) (compEnvC scope cl (s2.heap.objs.size+1) X.env)) (compPost (A7 X.prog X.w) X.A X.xe use Qf (.ref s2.heap.objs.size) (s2.heap.objs.size+1)) s₃) :
   A5 (A7 X.prog X.w) X.A (comprehension (.ListComp ji (⟨tg,iter,jk,0⟩::gs) scope pos) scope X.env p0 (newList []) false (eval iter X.env) use) Qf X.xe s:=by
 refine wpAny_comprehension_free rfl hs S.clos S.kind S.names (thn (hi jb s σ H _ I h) λv s1 h1=>thn h1 λitv s2 h2=>?_);obtain⟨it,fp,tn,J,H2,rfl,I2,T,st2,f2,q⟩:=h2
 have ho:∀b∈fp,∃o,s2.heap.get? b=some o:=λb hb=>by
  obtain⟨o,e,_⟩:=T.obj 0 _ st2 b hb;exact⟨o,e⟩
 refine N7 (wpAny_newFunctionEnv S.nocell (by intro y hy;simp at hy) (λh₁ hns₁ hsb₁=>?_) S.kind);dsimp only at hns₁ hsb₁ ⊢;have hC:(s2.heap.push { cls:=.type "list",dict:=none,data:=.seq ([]:List A3).toArray }).objs.size=s2.heap.objs.size+1:=by rw[W3]
 generalize hH2:s2.heap.push { cls:=.type "list",dict:=none,data:=.seq ([]:List A3).toArray }=hp2 at hns₁ hsb₁ hC ⊢;have lt:∀{b o},s2.heap.get? b=some o->b<s2.heap.objs.size+1:=λe=>AU (C4 e);have old:∀b o,s2.heap.get? b=some o->h₁.get? b=some o:=λb o e=>hsb₁.extBut b o (by rw[hC];exact E6 (lt e)) (B7 _ (hH2▸B7 _ e));have hD:h₁.get? s2.heap.objs.size=some { cls:=.type "list",data:=.seq ([]:List A3).toArray }:=hsb₁.extBut _ _ (by rw[hC];exact E6 (Nat.lt_succ_self _)) (B7 _ (hH2▸E7 _ rfl));rw[hC] at hns₁ ⊢;have st1:tn 0 h₁:=T.keep _ _ _ st2 λb hb o e=>old b o e
 have L:=loop fp it tn J s2 H2 _ T (λhn b hb=>by
  obtain⟨o,e⟩:=ho b hb
  exact⟨hn b hb,E6 (lt e),λz=>(B5.mp (I2.stkSub b z)).elim (f2 b hb).2.1 (f2 b hb).2.2.1,.inl hb,λx c ec=>(f2 b hb).2.2.2.2.1 x c (S.sub x c ec),(f2 b hb).2.2.2.2.2⟩) I2 f2 (q _ I2.fresh) (Pr S (tk:=s2.toks+([]:List (Str×A3)).length) I2 f2 ho old hns₁ hD) st1 λb hb=>by
  obtain⟨o,e⟩:=ho b hb;rw[C8 (E6 (C4 e))];exact(f2 b hb).1
 exact codeAny_compStart_list L (T.self _ 0 _ _ _ st1 L)
def KI {X:Cx}{scope:J1}{cl:List (Str×A1)}{N:List Str}{jb:List (A1×Obj)}{σ σ3:St}{H2 H3:Hp}{s2 s4:A4}{fp:List A1}{Q:VK}(I2:Inv X jb σ H2 s2)(f2:∀b∈fp,FpOk X jb H2 b)(I4:Inv (F2 X scope cl N fp (s2.heap.objs.size+1) s2 H2) jb σ3 H3 s4)(qn:Q (.ref s2.heap.objs.size) H3) :
   compPost (A7 X.prog X.w) X.A X.xe none (EP X jb σ Q) (.ref s2.heap.objs.size) (s2.heap.objs.size+1) (.ok .next) s4:=by
 obtain⟨m4,hn4,_⟩:=I4.loc;exact⟨m4,hn4,λh' hs'=>⟨.ref s2.heap.objs.size,H3,Inv.uncomp I2 f2 I4 λb hb=>hs'.2 b hb,rfl,qn⟩⟩
def KJ {X:Cx}{scope:J1}{cl:List (Str×A1)}{N:List Str}{cs:List (Option Nat)}{ji tg iter:Expr}{jk:List Expr}{pos:Pos}{wi:TI}{g:TG}{tt:TT}{te:TE}(S:V5 X scope cl N cs)(hc:X.calm=true)(hi:PI X tg iter wi)
   (hb:∀(fp:List A1) (C:A1) (s:A4) (H:Hp),PG (F2 X scope cl N fp C s H) tg g/\PIf (F2 X scope cl N fp C s H) jk tt/\PE (F2 X scope cl N fp C s H) ji te)
   (hs:∀x,N8 iter X.env x=pure x:=by intro _;rfl) :
   PE X (.ListComp ji [⟨tg,iter,jk,0⟩] scope pos) (tComp cs wi g tt te):=by
 intro jb s σ H Q I h;rw[eval_ListComp];refine GR S hc hi hs I h λfp it tn J s2 H2 s₃ T stat I2 f2 q Ic st1 fr1=>?_;obtain⟨W,⟨m0,w0⟩,turn⟩:=q;obtain⟨hg,hf,he⟩:=hb fp (s2.heap.objs.size+1) s2 H2;exact KH _ (GQ (Y:=F2 X scope cl N fp (s2.heap.objs.size+1) s2 H2) T hc stat hg hf he (λs4 σ3 H3 I4 qn=>KI I2 f2 I4 qn) turn) m0 ⟨0,_,_,Ic,st1,fr1,w0⟩
section
variable {X:Cx}
def Vals.getE (r:Vals xs us)(h:j<us.length):∃x,xs[j]?=some x/\RelV x us[j]:=by
 have hl:=r.length;have h':j<xs.length:=0x0
 obtain⟨u,e,q⟩:=r.get (i:=j) (x:=xs[j]) (by simp[h']);refine⟨xs[j],by simp[h'],?_⟩;have e':us[j]?=some us[j]:=by simp[h]
 rw[e'] at e;cases e;exact q
def KL (h:P7 x=true):eqV x x=true:=by
 cases x <;> simp_all [P7,eqV]
def Ps:K3 X (.builtin "isinstance") (λvs H Q=>∃x n t b,vs=[x,.ty n]/\TyOf X.K H x t/\BV X.K t (.type n)=some b/\Q (.bl b) H):=by
 intro jb s σ H vs us Q I rv h;obtain⟨x,n,t,b,rfl,ty,e,q⟩:=h;obtain⟨u,v,rfl,r1,r2⟩:=rv.two;cases r2;exact OR I r1 ty e λtk=>⟨.bl b,H,I.tok tk,rfl,q⟩
def KN:∀{bs:List Bool} {us:List A3} {j:Nat} {u:A3},Vals (bs.map V.bl) us->us[j]?=some u->∃b,bs[j]?=some b/\u=Value.bool b:=by
 intro bs us j u r e
 have hj:j<us.length:=by
  obtain⟨h,_⟩:=D3.mp e;exact h
 obtain⟨x,e1,q1⟩:=r.getE hj;rw[D4] at e1;cases eb:bs[j]? with
 |none=>rw[eb] at e1;cases e1
 | some b =>
  rw[eb] at e1;cases e1;have e2:us[j]?=some us[j]:=by simp[hj]
  rw[e2] at e;cases e;exact⟨b,rfl,q1⟩
def Pt (bs:List Bool):((C2 bs.length).all λi=>(bs[i]?).getD true)=bs.all id:=by
 rw[V0,C6,C6];constructor
 ·intro h b hb;obtain⟨i,hi,rfl⟩:=Ca hb;have:=h i (J9.mpr hi)
  simpa[C9 hi] using this
 ·intro h i hi;have hi':=J9.mp hi;simp only[C9 hi',Cp];exact h _ (y0 hi')
def Pv (bs:List Bool):((C2 bs.length).any λi=>(bs[i]?).getD false)=bs.any id:=by
 rw[V0,k9,k9];constructor
 ·rintro⟨i,hi,e⟩;have hi':=J9.mp hi;simp only[C9 hi',Cp] at e;exact⟨_,y0 hi',e⟩
 ·rintro⟨b,hb,e⟩;obtain⟨i,hi,rfl⟩:=Ca hb;exact⟨i,J9.mpr hi,by simp only[C9 hi,Cp];exact e⟩
def KO {s:A4}{h':B3}{o:Obj}(hk:∀b x,b∉[s.heap.objs.size]->(s.heap.push o).get? b=some x->h'.get? b=some x):∀b x,s.heap.get? b=some x->h'.get? b=some x:=
 λb x e=>hk b x (λhm=>by rw[E8.mp hm] at e;exact U9 _ (C4 e)) (B7 _ e)
def rAll (K:A8):List V->Hp->VK->Prop:=λvs H Q=>∃(p:A1) (bs:List Bool),vs=[.ref p]/\SqL K H p (bs.map V.bl)/\Q (.bl (bs.all id)) H
def rAny (K:A8):List V->Hp->VK->Prop:=λvs H Q=>∃(p:A1) (bs:List Bool),vs=[.ref p]/\SqL K H p (bs.map V.bl)/\Q (.bl (bs.any id)) H
def Pw (hc:X.calm=true):K3 X (.builtin "all") (rAll X.K):=by
 intro jb s σ H vs us Q I rv h;obtain⟨p,bs,rfl,hq,q⟩:=h;obtain⟨u,rfl,r1⟩:=rv.one;cases r1;obtain⟨jf,r,pl,hz⟩:=I.list hq;have hl:=pl.isList;have hlt:p<s.heap.objs.size:=by obtain⟨_,e,_⟩:=hl;exact C4 e
 have len:jf.toArray.size=bs.length:=by simpa using r.length.symm
 refine call_all_walk (AK hl ?_)
 refine⟨s.heap.objs.size,[s.heap.objs.size,p],[s.heap.objs.size],jf.toArray.size,_,_,λi=>(bs[i]?).getD true,rfl,Walks.list (A:=X.A.in1) (I.ok.hd hc) _ p (E6 hlt) jf.toArray,
  ⟨⟨_,E7 _ rfl,rfl,rfl⟩,hl.push _⟩,λi v s' Q' E' hP hQ=>?_,λh' tk hk=>?_⟩
 ·obtain⟨b,e,rfl⟩:=KN r (j:=i) (u:=v) (by grind);simp only[e,Cp] at hQ;exact X6 hQ
 ·rw[len,Pt];exact⟨.bl _,H,I.kept (KO hk),rfl,q⟩
def Px (hc:X.calm=true):K3 X (.builtin "any") (rAny X.K):=by
 intro jb s σ H vs us Q I rv h;obtain⟨p,bs,rfl,hq,q⟩:=h;obtain⟨u,rfl,r1⟩:=rv.one;cases r1;obtain⟨jf,r,pl,hz⟩:=I.list hq;have hl:=pl.isList;have hlt:p<s.heap.objs.size:=by obtain⟨_,e,_⟩:=hl;exact C4 e
 have len:jf.toArray.size=bs.length:=by simpa using r.length.symm
 refine call_any_walk (AK hl ?_)
 refine⟨s.heap.objs.size,[s.heap.objs.size,p],[s.heap.objs.size],jf.toArray.size,_,_,λi=>(bs[i]?).getD false,rfl,Walks.list (A:=X.A.in1) (I.ok.hd hc) _ p (E6 hlt) jf.toArray,
  ⟨⟨_,E7 _ rfl,rfl,rfl⟩,hl.push _⟩,λi v s' Q' E' hP hQ=>?_,λh' tk hk=>?_⟩
 ·obtain⟨b,e,rfl⟩:=KN r (j:=i) (u:=v) (by simpa using hP);simp only[e,Cp] at hQ;exact X6 hQ
 ·rw[len,Pv];exact⟨.bl _,H,I.kept (KO hk),rfl,q⟩
def Inv.turnedNew {ch:List A1}(I:Inv X jb σ H s)(k:∀b o,b∉ch->s.heap.get? b=some o->h'.get? b=some o)
   (hf:∀b∈ch,FpOk X jb H b) (new:F9 X.prog X.w (upd H s.heap.objs.size (.tup xs)) h' s.heap.objs.size (.tup xs)):Inv X jb σ (upd H s.heap.objs.size (.tup xs)) { s with heap:=h',toks:=t' }:=by
 have nch:∀b u,H b=some u->b∉ch:=λb u e z=>by rw[(hf b z).1] at e;cases e
 have nD:∀b o,s.heap.get? b=some o->b≠s.heap.objs.size:=λb o e=>E6 (C4 e)
 refine I.step (g':=s.gens) (d':=s.drawn) (ch:=ch) (λb hb=>⟨(hf b hb).2.2.2.1,(hf b hb).2.1,(hf b hb).2.2.2.2.1,(hf b hb).2.2.2.2.2⟩) (λb o _ _ hc e _=>k b o hc e) (λb o _ _ hc e _=>⟨o.slots,k b o hc e⟩) (λb o _ e n=>by rw[C8 (nD b o e)];exact n)
   (λb o hc e=>⟨o,k b o hc e⟩) (λb ys e=>by rw[C8 (W9 e I.fresh)];exact e) (λb o u e=>by rw[C8 (W9 e I.fresh)];exact e) (λb ps e=>⟨#[],by rw[C8 (W9 e I.fresh),e];simp⟩) (λz=>by unfold NS;rw[C8 (E6 I.bigS)];exact z) (λm hm=>?_) (λb u e=>?_) I.bare
 ·obtain⟨o,es,ep,ho,r⟩:=hm;exact⟨o,es,ep,k _ o (λz=>(hf _ z).2.1 rfl) ho,r⟩
 ·by_cases hb:b=s.heap.objs.size
  ·subst hb;rw[D9] at e;cases e;exact new
  ·rw[C8 hb] at e;refine(I.hok b u e).stay (λc v hc q=>k c v ?_ q) (λc q=>by rw[C8 (W9 q I.fresh)];exact q) λc ys q=>by rw[C8 (W9 q I.fresh)];exact q
   rcases hc with z|z
   ·rw[z];exact nch b u e
   ·exact nch c _ z
end
def Ei:J5 "len"=some (.builtin "len"):=by decide +kernel
def bt_min:J5 "min"=some (.builtin "min"):=by decide +kernel
def bt_max:J5 "max"=some (.builtin "max"):=by decide +kernel
def bt_all:J5 "all"=some (.builtin "all"):=by decide +kernel
def bt_any:J5 "any"=some (.builtin "any"):=by decide +kernel
def Py:J5 "isinstance"=some (.builtin "isinstance"):=by decide +kernel
def KP:J5 "sorted"=some (.builtin "sorted"):=by decide +kernel
def bt_repr:J5 "repr"=some (.builtin "repr"):=by decide +kernel
def GS:J5 "int"=some (.type "int"):=by decide +kernel
def bt_str:J5 "str"=some (.type "str"):=by decide +kernel
def Pz:J5 "bool"=some (.type "bool"):=by decide +kernel
def GT:J5 "list"=some (.type "list"):=by decide +kernel
def GU:J5 "tuple"=some (.type "tuple"):=by decide +kernel
def KQ:J5 "set"=some (.type "set"):=by decide +kernel
def at_map {ns:List Int}(h0:0<=k)(h:k<(ns.length:Int)):∃v,atI (ns.map V.int) k=some (.int v):=by
 have hk:k.toNat<ns.length:=0x0
 have q:atI (ns.map V.int) ((k.toNat:Nat):Int)=some (.int ns[k.toNat]):=P2 (by rw[D4,C9 hk] <;> rfl)
 rw[show((k.toNat:Nat):Int)=k by omega] at q;exact⟨_,q⟩
def kit_of {K:A8}(h:(if(G9 T == G9 S)=true then some true else if PySem.W.kitMeta S=true then(fastBuiltinMro T).map (·.contains (.type S)) else none)=some b):BV K (.type T) (.type S)=some b:=h
structure Kn (P:C3)(w:B9)(K:A8)(mg:Str->Option A3)(base:B3)(x:Str)(k:Nat)(ps:List Str)(sp:Sp):Prop where
 ex:∃(f:A1) (fd:FuncData),FnOk P w K mg base CX0 k f fd ps sp/\Bp K fd ps []/\BW K (.ref f)=true/\mg x=some (.ref f)/\∃oc od osl,K.lookup f=some ⟨oc,od,.func fd,osl⟩
structure Fn0 (K:A8)(mg:Str->Option A3)(x:Str)(st:Stmt):Prop where
 ex:∃(f:A1) (fd:FuncData),Fun K x x st f fd/\mg x=some (.ref f)
def fn0_mk {K:A8}{st:Stmt}(X:K.In h)(G:h.Ns R3 mg){kV doc pm jo ct:A3}
   (a:PySem.W.nsIn K R3 x=some (some (.ref f))) (l:K.lookup f=some ⟨oc,od,.func (U4 x x (Z1 st) (P8 st) (G6 st) .none kV doc pm an jo ct),osl⟩)
   (c:DG K jo x=true) (k:BW K (.ref f)=true):Fn0 K mg x st:=⟨f,_,fun_mk l c k,PySem.W.mg_of X G a⟩
section
variable {P:C3}{w:B9}{K:A8}{mg:Str->Option A3}{base:B3}
theorem Fn0.ok {st:Stmt}{N ps:List Str}{k:Nat}{sp:Sp}(F:Fn0 K mg x st)(S:Z0 N ps (G6 st))(len:∀vs H Q E,sp vs H Q E->vs.length=ps.length)
   (bd:∀(kV doc pm:A3) (an:Option A1) (jo ct:A3) (us:List A3),us.length=ps.length->bindArgs (U4 x x (Z1 st) (P8 st) (G6 st) .none kV doc pm an jo ct) ⟨us,[]⟩=pure (ps.zip us))
   (hbody:∀(f:A1) (jo:A3) (A:D0) (outer:List Env) (s:A4) (H:Hp) (vs:List V) (Q:VK) (E:XK),Room k (A.deeper (envOfC x (G6 st) s.heap.objs.size f jo))->sp vs H Q E->
     ∃t,PSs (cxOf CX0 P w K mg base N x (G6 st) f jo A outer s H E).nox (P8 st) t/\t { nx:=λ_ H'=>Q .non H',rt:=Q } (start N vs) H):Kn P w K mg base x (k+1) ps sp:=by
 obtain⟨f,fd,F1,m⟩:=F.ex
 have lk:∃oc od osl,K.lookup f=some ⟨oc,od,.func fd,osl⟩:=by
  obtain⟨oc,od,kV,doc,pm,an,jo,ct,osl,_,lk,hcd⟩:=F1.ex;exact⟨oc,od,osl,lk⟩
 exact⟨f,fd,F1.ok S len λjo A outer s H vs Q E hr h=>hbody f jo A outer s H vs Q E hr h,F1.binds bd,F1.kp,m,lk⟩
theorem Kn.imp {x:Str}{k:Nat}{ps:List Str}{sp sp':Sp}(G:Kn P w K mg base x k ps sp)(h:∀vs H Q E,sp' vs H Q E->sp vs H Q E):Kn P w K mg base x k ps sp':=by
 obtain⟨f,fd,a,b,c,d⟩:=G.ex;exact⟨f,fd,a.imp h,b,c,d⟩
end
section
variable {X:Cx}{x:Str}{p pos:Pos}{e:Expr}{es:List Expr}{t:TA}{ps:List Str}{sp:Sp}{j k:Nat}
def pe_fn (G:Kn X.prog X.w X.K X.mg X.base x k ps sp)(hr:Room j X.A)(hk:k<=j)(hg:Gl X x)(ha:PA X (e::es) t)(hdb:(x == ("__debug__":Str))=false:=by decide)
   (he:D6 (e::es) X.env=(false,eval e X.env)::D6 es X.env:=by rfl) (hpl:(backTo pos (D6 es X.env)).any (·.1)=false:=by rfl) :
   PE X (.Call (.Name x p) (e::es) [] pos) (tCall sp [] E0 t):=by
 intro jb s σ H Q I h;obtain⟨f,fd,F,hb,hkp,hm,_⟩:=G.ex;exact OS F (hr.mono hk) hg hm hkp hb .nil pass0 ha hdb he hpl jb s σ H Q I h
end
def Ej (K:A8):Sp:=λvs H Q _=>∃(a:A1) (ns:List Int),vs=[.ref a]/\SqL K H a (ns.map V.int)/\ns.length<=63/\Only H/\∀H',Q (.bl true) H'
def PB {l:PySem.W.OpenLaw}{q:C3}{loose:List Str}{XP:(Str->Option A3)->B3->Prop}{YP:B9->B3->Prop}{d:DefRec}{K:Params->A8}{x:Str}{k:Nat}(hn:l.most=some 63)(hdf:d.params.defaults=[])(hk:Room k callerA)
   (hY:∀(w:B9) (h:B3),YP w h->(K w.params).In h)
   (F:∀(w:B9) (mg:Str->Option A3) (h:B3),(K w.params).In h->h.Ns R3 mg->∃st,Fn0 (K w.params) mg d.name st/\
     (∀(kV doc pm:A3) (an:Option A1) (jo ct:A3) (s:A4) (u:A3),BindsTo s (U4 d.name d.name (Z1 st) (P8 st) (G6 st) .none kV doc pm an jo ct) ⟨[u],[]⟩ [(x,u)])/\
     ∀base:B3,(K w.params).In base->base.Ns R3 mg->Kn l.prog w (K w.params) mg base d.name k [x] (Ej (K w.params))) :
   PySem.W.WalkO q loose XP YP l.row.toRowW d [] (λf vs=>PySem.call f vs):=by
 refine L2.Pn (n:=63) (k:=k) (x:=x) (CX:=λ_=>CX0) (sp:=λw=>Ej (K w.params)) hn 0b0 hdf hk hY (λw mg fa h KX G hmg=>?_) (λ_ _ a ns hl hO hS=>⟨a,ns,rfl,hS,hl,hO,λ_=>rfl⟩) λ_ _ _ _ _ z=>z;obtain⟨st,F0,hb,hF⟩:=F w mg h KX G;obtain⟨f,fd,F1,m⟩:=F0.ex;have e:=hmg.symm.trans m;cases e;refine⟨fd,λs u=>?_,λbase kb nb=>?_⟩
 ·obtain⟨oc,od,kV,doc,pm,an,jo,ct,osl,rfl,lk,hcd⟩:=F1.ex;exact hb kV doc pm an jo ct s u
 ·obtain⟨f',fd',a,b,c,m',oc',od',osl',lk'⟩:=(hF base kb nb).ex;have e:=m.symm.trans m';cases e;obtain⟨oc,od,kV,doc,pm,an,jo,ct,osl,_,lk,hcd⟩:=F1.ex;have e2:=lk.symm.trans lk';cases e2;exact a
section
variable {X:Cx}
def PC:OpR X (Q2 .Mult) (λx y H Q=>∃i n,x=.str i/\y=.int n/\i.length<=100/\0<=n/\n<=1000/\Q (.str (Txt.mul i n)) H):=by
 intro jb s σ H x y v u Q I rx ry h;obtain⟨i,n,rfl,rfl,h1,h2,h3,q⟩:=h;obtain⟨t,rfl⟩:=rx;obtain⟨t',rfl⟩:=ry;exact SB.mul (mulOk_of 100 1000 h1 h3 0x0 0b0 0b0) λt' tk=>⟨.str _,H,I.tok _,⟨_,rfl⟩,q⟩
def CG (x y:Str):(x++y).cps.toList=x.cps.toList++y.cps.toList:=by
 show(x.cps++y.cps).toList=_;simp
def Z2 (x:Str):x.length=x.cps.toList.length:=by
 show x.cps.size=_;simp
end
def Same.lay {H H':Hp}{p:A1}{o:HO}(s:Same H H')(h:H' p=none):Same H (upd H' p o):=λb u e=>by
 rw[C8 (W9 (s b u e) h)];exact s b u e
def PF {c:TT}{t u:TS}{D:Ends}{σ:St}{H:Hp}(p:St->Hp->Prop)(h:(∀σ' H',p σ' H'->D.nx σ' H')->tIfS c t u D σ H)(hp:∀σ' H',p σ' H'->D.nx σ' H'):tIfS c t u D σ H:=h hp
def X1 {n:Nat}{d:Int}(h0:0<=d)(h1:d<n):ixN n d=some d.toNat:=by grind [ixN]
def Ek {α:Type}{xs:List α}{d:Int}(h0:0<=d)(h1:d<xs.length):∃x,xs[d.toNat]?=some x/\atI xs d=some x:=by
 have hk:d.toNat<xs.length:=0x0
 refine⟨xs[d.toNat],C9 hk,?_⟩;unfold atI;rw[X1 h0 h1];simp
section
variable {X:Cx}
def PH:OpR X (K6 .LtE) (λx y H Q=>∃i j,x=.str i/\y=.str j/\Q (.bl (!decide (j.cps.toList<i.cps.toList))) H):=by
 intro jb s σ H x y v u Q I rx ry h;obtain⟨i,j,rfl,rfl,q⟩:=h;obtain⟨t,rfl⟩:=rx;obtain⟨t',rfl⟩:=ry;exact PySem.P.le_str ⟨.bl _,H,I,rfl,q⟩
def rSlS:V->Option Int->Option Int->Hp->VK->Prop:=λx lo hi H Q=>∃z,x=.str z/\z.length<=B4/\Q (.str (T3 z lo hi)) H
def KR:SlR X rSlS:=by
 intro jb s σ H x v vl vu lo hi sl Q I rx hs pl pu h;obtain⟨z,rfl,hz,q⟩:=h;obtain⟨t,rfl⟩:=rx;refine⟨"str",_,F.slot_str_getitem.lookup,typeIs_str _ _ _,?_⟩;cases pl with
 | none =>
  cases pu with
  |none=>exact Dx (l:=none) (u:=none) (st:=none) hs rfl (DE ⟨K1 (Be z _ _) hz,λt' k=>⟨.str _,H,I.tok _,⟨_,rfl⟩,q⟩⟩)
  |int j tj=>exact Dx (l:=none) (u:=some (j,tj)) (st:=none) hs rfl (DE ⟨K1 (Be z _ _) hz,λt' k=>⟨.str _,H,I.tok _,⟨_,rfl⟩,q⟩⟩)
 | int i ti =>
  cases pu with
  |none=>exact Dx (l:=some (i,ti)) (u:=none) (st:=none) hs rfl (DE ⟨K1 (Be z _ _) hz,λt' k=>⟨.str _,H,I.tok _,⟨_,rfl⟩,q⟩⟩)
  |int j tj=>exact Dx (l:=some (i,ti)) (u:=some (j,tj)) (st:=none) hs rfl (DE ⟨K1 (Be z _ _) hz,λt' k=>⟨.str _,H,I.tok _,⟨_,rfl⟩,q⟩⟩)
def Its (x:Str):It:=⟨λi _=>i<x.cps.toList.length,λi H v H'=>H'=H/\∃c,x.cps.toList[i]?=some c/\v=.str ⟨#[c]⟩,λi _=>x.cps.toList.length<=i⟩
def PJ {P:C3}{w:B9}{K:A8}{tg:Expr}(x:Str)(t:Tok)(it:A1):Turn P w K tg (Its x) [it] it (λi h=>h.IsStrIter it "str_ascii_iterator" x t i) where
 mem:=0o0
 obj:=λi h st b hb=>by
  have e:b=it:=by simpa using hb
  subst e;obtain⟨o,e,c,d⟩:=st;exact⟨o,e,λv z=>by rw[d] at z;cases z⟩
 keep:=λi h h' st k=>by
  obtain⟨o,e,c,d⟩:=st;exact⟨o,k it 0o0 o e,c,d⟩
 item:=by
  intro X hP hw hK hc i jb s σ H E I hf st hg;subst hP hw hK;have hg':i<x.cps.toList.length:=hg;have hx:x.cps[i]?=some x.cps.toList[i]:=by rw[<- P5];exact C9 hg'
  obtain⟨f0,f1,f2,f3,f4,f5⟩:=hf it 0o0;refine wpAny_pyNext_ascii_item st hx λh' st' sb=>?_;have I1:Inv X jb σ H { s with heap:=h',toks:=s.toks+1 }:=I.turned (t':=s.toks+1) (λb o hb e=>(sb.2 b hb).trans e) f0 f1 f3 f4 f5;obtain⟨o,e,c,d⟩:=id st';exact⟨_,rfl,Cy (s:={ s with heap:=h',toks:=s.toks+1 }) e c d 0b0 ⟨.str ⟨#[x.cps.toList[i]]⟩,H,I1,⟨_,rfl⟩,⟨rfl,_,C9 hg',rfl⟩,st',λb hb=>(hf b hb).1⟩⟩
 done:=by
  intro X hP hw hK hc i jb s σ H E I hf st hg;subst hP hw hK;have hg':x.cps.toList.length<=i:=hg;have hx:x.cps[i]?=none:=by rw[<- P5];exact O6 hg'
  obtain⟨f0,f1,f2,f3,f4,f5⟩:=hf it 0o0;exact wpAny_pyNext_ascii_end (I.ok.hd hc) st hx λh' eb=>⟨rfl,I.turned (t':=s.toks) (λb o hb e=>eb b o hb e) f0 f1 f3 f4 f5⟩
 self:=λ_ _ _ _ _ st h=>wpAny_pyIter_striter_ascii st h
def iStr (te:TE):TI:=λσ H R=>te σ H λv H1=>∃x,v=.str x/\x.cps.all (· < 128)=true/\R (Its x) H1
def pi_str {tg l:Expr}{tl:TE}(hl:PE X l tl):PI X tg l (iStr tl):=by
 intro jb s σ H R I h;refine thn (hl jb s σ H _ I h) λv s1 ⟨x,H1,I1,r1,q1⟩=>?_;obtain⟨x,rfl,ha,q⟩:=q1;obtain⟨t,rfl⟩:=r1;refine wpAny_pyIter_ascii ha ?_;refine⟨s1.heap.objs.size,[s1.heap.objs.size],_,_,H1,rfl,I1.kept (t':=s1.toks) λb o e=>B7 _ e,PJ x t _,⟨_,E7 _ rfl,rfl,rfl⟩,λb hb=>?_,q⟩;have e:b=s1.heap.objs.size:=by simpa using hb
 subst e;exact I1.fpOk (B2 _) (I1.hok.fresh (B2 _))
def rCatA (K:A8):R2:=λx y H Q=>∃a b xs ys,x=.ref a/\y=.ref b/\SqT K H a xs/\SqT K H b ys/\xs.length+ys.length<=B4/\
 (xs=[]->Q (.ref b) H)/\(xs≠[]->ys=[]->Q (.ref a) H)/\(xs≠[]->ys≠[]->∀p,H p=none->Q (.ref p) (upd H p (.tup (xs++ys))))
def PM:OpR X (Q2 .Add) (rCatA X.K):=by
 intro jb s σ H x y v u Q I rx ry h;obtain⟨a,b,xs,ys,rfl,rfl,ha,hb,hz,q0,q1,q2⟩:=h
 by_cases hx:xs=[]
 ·cases rx;cases ry;obtain⟨jf,r1,p1,_⟩:=I.tuple ha;obtain⟨its2,r2,p2,_⟩:=I.tuple hb;obtain⟨⟨cls,dd,data,sl⟩,ho,hc,n,hd⟩:=id p1;obtain⟨⟨cls2,dd2,data2,sl2⟩,ho2,hc2,n2,hd2⟩:=id p2;simp only at hc hd hc2 hd2;subst hc hd hc2 hd2;have he:jf=[]:=r1.nil_iff.mpr hx
  exact concat_meets ⟨_,ho,rfl⟩ ⟨_,ho2,rfl⟩ noFill_tuple_add seq_tuple_add Gu Gs (Gr _ _)
    (tuple_addW0 a b jf.toArray its2.toArray n n2 dd dd2 sl sl2 (by simp[he])) ⟨ho,ho2,⟨.ref b,H,I,rfl,q0 hx⟩⟩
 ·exact OY jb s σ H _ _ v u Q I rx ry ⟨a,b,xs,ys,rfl,rfl,ha,hb,hx,hz,q1 hx,q2 hx⟩
def Inv.big {jb:List (A1×Obj)}{σ:St}{H:Hp}{s:A4}(I:Inv X jb σ H s):N3<s.heap.objs.size:=by
 have h:R3<s.heap.objs.size:=(I.mod.glob.keeps I.bk).lt;exact y8 0b0 h
def PN {P:C3}{w:B9}{H:Hp}(h:B3)(hb:N3<h.objs.size):F9 P w H (h.push { cls:=.type "dict",data:=.dict #[] }) h.objs.size (.dK []):=
 ⟨F7 _,beq_eq_false_iff_ne.mpr (Ne.symm (E6 hb)),[],.nil,Heap.DictOf.new h⟩
end
structure Num0 (mg:Str->Option A3)(x:Str)(i:Int):Prop where
 ex:∃t,mg x=some (.int i t)
def PP {K:A8}{h:B3}{mg:Str->Option A3}{x:Str}{i:Int}{t:Tok}(X:K.In h)(G:h.Ns R3 mg)(a:PySem.W.nsIn K R3 x=some (some (.int i t))):Num0 mg x i:=⟨t,PySem.W.mg_of X G a⟩
def pe_num {X:Cx}{x:Str}{i:Int}{pos:Pos}(n:Num0 X.mg x i)(hg:Gl X x)(hd:(x == ("__debug__":Str))=false:=by decide):PE X (.Name x pos) (tC (.int i)):=λjb s σ H Q I h=>by
 obtain⟨t,e⟩:=n.ex;exact Om (v:=.int i) hg e ⟨t,rfl⟩ hd jb s σ H Q I h
end L2
end
section
namespace Pu
open PySem PySem.Spec L2
inductive PV where
 |non|bl (b:Bool)|int (i:Int)|str (x:Str)|ty (n:String)|pot (k:Nat)
 |tup (xs:List PV)|lst (xs:List PV)|dct (ks:List Key) (xs:List PV)
 /-- the script -/
 |scr (ns:List Int)
 /-- a dict by tuples that nothing changes any more -/
 |fdt (ks:List (List Key)) (xs:List PV)
structure Gh where
 M:List A1
 pots:List A1
def KLst (K:A8)(a:A1)(xs:List V):Prop:=∃(o:Obj) (jf:Array A3) (n:Nat),K.lookup a=some o/\o.cls=.type "list"/\o.dict=none/\o.data=.seq jf n/\jf.size<=B4/\Vals xs jf.toList
def AtL (M:List A1)(H:Hp)(a:A1)(xs:List V):Prop:=a∉M/\H a=some (.lst xs)
def AtT (M:List A1)(H:Hp)(a:A1)(xs:List V):Prop:=a∉M/\H a=some (.tup xs)
def AtL.sq {K:A8}{M:List A1}{H:Hp}{a:A1}{xs:List V}(h:AtL M H a xs):SqL K H a xs:=SqL.of h.2
def AtT.sq {K:A8}{M:List A1}{H:Hp}{a:A1}{xs:List V}(h:AtT M H a xs):SqT K H a xs:=SqT.of h.2
mutual
def Rep (K:A8)(G:Gh)(H:Hp):PV->V->Prop
 |.non,v=>v=.non
 |.bl b,v=>v=.bl b
 |.int i,v=>v=.int i
 |.str x,v=>v=.str x
 |.ty n,v=>v=.ty n
 |.pot k,v=>∃p,G.pots[k]?=some p/\v=.ref p
 |.tup xs,v=>∃a vs,v=.ref a/\AtT G.M H a vs/\Reps K G H xs vs
 |.lst xs,v=>∃a vs,v=.ref a/\AtL G.M H a vs/\Reps K G H xs vs
 |.scr ns,v=>∃a,v=.ref a/\((a∉G.M/\∃o,H a=some (.frz o (.lst (ns.map V.int))))\/KLst K a (ns.map V.int))
 |.dct ks xs,v=>∃a jg,v=.ref a/\a∉G.M/\H a=some (.dK jg)/\jg.map (·.1)=ks/\Reps K G H xs (jg.map (·.2))
 |.fdt ks xs,v=>∃a jg,v=.ref a/\a∉G.M/\Rd H a (.dT jg)/\jg.map (·.1)=ks/\Reps K G H xs (jg.map (·.2))
def Reps (K:A8)(G:Gh)(H:Hp):List PV->List V->Prop
 |[],vs=>vs=[]
 |x::xs,vs=>∃v r,vs=v::r/\Rep K G H x v/\Reps K G H xs r
end
section
variable {K:A8}{G G':Gh}{H H':Hp}
def Rd.keep {a:A1}{u:HO}(h:Rd H a u)(k:∀o,H a=some o->H' a=some o):Rd H' a u:=by grind [HO,Rd]
def Rd.ne {a:A1}{u:HO}(h:Rd H a u):H a≠none:=by grind [HO,Rd]
mutual
theorem Rep.mono (hk:∀b o,b∉G.M->H b=some o->H' b=some o)(hM:∀a∈G'.M,a∈G.M\/H a=none)(hp:∀(k:Nat) (p:A1),G.pots[k]?=some p->G'.pots[k]?=some p):∀(x:PV) (v:V),Rep K G H x v->Rep K G' H' x v
 |.non,v,h=>h
 |.bl b,v,h=>h
 |.int i,v,h=>h
 |.str x,v,h=>h
 |.ty n,v,h=>h
 | .pot k, v, h => by
  obtain⟨p,e,r⟩:=h;exact⟨p,hp k p e,r⟩
 | .tup xs, v, h => by
  obtain⟨a,vs,e,t,r⟩:=h;refine⟨a,vs,e,?_,Reps.mono hk hM hp xs vs r⟩;obtain⟨n,t⟩:=t;exact⟨λz=>(hM a z).elim n (λz=>by rw[z] at t;cases t),hk a _ n t⟩
 | .lst xs, v, h => by
  obtain⟨a,vs,e,t,r⟩:=h;refine⟨a,vs,e,?_,Reps.mono hk hM hp xs vs r⟩;obtain⟨n,t⟩:=t;exact⟨λz=>(hM a z).elim n (λz=>by rw[z] at t;cases t),hk a _ n t⟩
 | .scr ns, v, h => by
  obtain⟨a,e,h⟩:=h;refine⟨a,e,?_⟩;rcases h with⟨n,o,t⟩|h
  ·exact .inl ⟨λz=>(hM a z).elim n (λz=>by rw[z] at t;cases t),o,hk a _ n t⟩
  ·exact .inr h
 | .dct ks xs, v, h => by
  obtain⟨a,jg,e,n,t,ek,r⟩:=h;exact⟨a,jg,e,λz=>(hM a z).elim n (λz=>by rw[z] at t;cases t),hk a _ n t,ek,Reps.mono hk hM hp xs _ r⟩
 | .fdt ks xs, v, h => by
  obtain⟨a,jg,e,n,t,ek,r⟩:=h;exact⟨a,jg,e,λz=>(hM a z).elim n (λz=>Rd.ne (u:=.dT jg) t z),Rd.keep (u:=.dT jg) t (λo e=>hk a o n e),ek,Reps.mono hk hM hp xs _ r⟩
theorem Reps.mono (hk:∀b o,b∉G.M->H b=some o->H' b=some o)(hM:∀a∈G'.M,a∈G.M\/H a=none)(hp:∀(k:Nat) (p:A1),G.pots[k]?=some p->G'.pots[k]?=some p):∀(xs:List PV) (vs:List V),Reps K G H xs vs->Reps K G' H' xs vs
 |[],vs,h=>h
 | x :: xs, vs, h => by
  obtain⟨v,r,e,hx,hr⟩:=h;exact⟨v,r,e,Rep.mono hk hM hp x v hx,Reps.mono hk hM hp xs r hr⟩
end
def Rep.same (h:Rep K G H x v)(s:Same H H'):Rep K G H' x v:=Rep.mono (λb o _ e=>s b o e) (λa z=>.inl z) (λ_ _ e=>e) x v h
def Reps.same (h:Reps K G H x v)(s:Same H H'):Reps K G H' x v:=Reps.mono (λb o _ e=>s b o e) (λa z=>.inl z) (λ_ _ e=>e) x v h
def Fr (G:Gh)(H H':Hp):Prop:=∀b o,b∉G.M->H b=some o->H' b=some o
def Fr.refl:Fr G H H:=λ_ _ _ e=>e
def Fr.trans (a:Fr G H H')(b:Fr G H' H2):Fr G H H2:=λc o n e=>b c o n (a c o n e)
def Fr.of (s:Same H H'):Fr G H H':=λb o _ e=>s b o e
def Rep.fr (h:Rep K G H x v)(s:Fr G H H'):Rep K G H' x v:=Rep.mono s (λa z=>.inl z) (λ_ _ e=>e) x v h
def Reps.fr (h:Reps K G H x v)(s:Fr G H H'):Reps K G H' x v:=Reps.mono s (λa z=>.inl z) (λ_ _ e=>e) x v h
theorem Reps.length:∀{xs:List PV} {vs:List V},Reps K G H xs vs->xs.length=vs.length
 |[],vs,h=>by cases(show vs=[] from h);rfl
 | x :: xs, vs, h => by
  obtain⟨v,r,e,hx,hr⟩:=h;subst e;simp[Reps.length hr]
theorem Reps.get:∀{xs:List PV} {vs:List V} {i:Nat} {v:V},Reps K G H xs vs->vs[i]?=some v->∃x,xs[i]?=some x/\Rep K G H x v
 |[],vs,i,v,h,e=>by cases(show vs=[] from h);simp at e
 | x :: xs, vs, i, v, h, e => by
  obtain⟨w,r,e1,hx,hr⟩:=h;subst e1;cases i with
  |zero=>simp at e;subst e;exact⟨x,rfl,hx⟩
  |succ i=>simpa using Reps.get (i:=i) hr (by grind)
def Reps.get':∀{xs:List PV} {vs:List V} {i:Nat} {x:PV},Reps K G H xs vs->xs[i]?=some x->∃v,vs[i]?=some v/\Rep K G H x v:=λ{xs vs i x} h e=>by
 obtain⟨hi,_⟩:=D3.mp e;have hl:=h.length;have e2:vs[i]?=some (vs[i]' 0x0):=C9 0x0;obtain⟨y,ey,r⟩:=h.get e2;rw[e] at ey;cases ey;exact⟨_,e2,r⟩
theorem Reps.append:∀{xs ys:List PV} {vs us:List V},Reps K G H xs vs->Reps K G H ys us->Reps K G H (xs++ys) (vs++us)
 |[],ys,vs,us,h,h'=>by cases(show vs=[] from h);exact h'
 | x :: xs, ys, vs, us, h, h' => by
  obtain⟨w,r,e1,hx,hr⟩:=h;subst e1;exact⟨w,r++us,rfl,hx,Reps.append hr h'⟩
theorem Reps.take:∀{xs:List PV} {vs:List V} (n:Nat),Reps K G H xs vs->Reps K G H (xs.take n) (vs.take n)
 |xs,vs,0,h=>by simp[Reps]
 |[],vs,n+1,h=>by cases(show vs=[] from h);exact rfl
 | x :: xs, vs, n + 1, h => by
  obtain⟨w,r,e1,hx,hr⟩:=h;subst e1;exact⟨w,r.take n,rfl,hx,Reps.take n hr⟩
theorem Reps.drop:∀{xs:List PV} {vs:List V} (n:Nat),Reps K G H xs vs->Reps K G H (xs.drop n) (vs.drop n)
 |xs,vs,0,h=>by simpa using h
 |[],vs,n+1,h=>by cases(show vs=[] from h);exact rfl
 | x :: xs, vs, n + 1, h => by
  obtain⟨w,r,e1,hx,hr⟩:=h;subst e1;exact Reps.drop n hr
def Reps.one (h:Rep K G H x v):Reps K G H [x] [v]:=⟨v,[],rfl,h,rfl⟩
theorem Reps.set:∀{xs:List PV} {vs:List V} (n:Nat) {x:PV} {v:V},Reps K G H xs vs->Rep K G H x v->Reps K G H (xs.set n x) (vs.set n v)
 |[],vs,n,x,v,h,_=>by cases(show vs=[] from h);exact rfl
 | y :: xs, vs, 0, x, v, h, h' => by
  obtain⟨w,r,e1,hx,hr⟩:=h;subst e1;exact⟨v,r,rfl,h',hr⟩
 | y :: xs, vs, n + 1, x, v, h, h' => by
  obtain⟨w,r,e1,hx,hr⟩:=h;subst e1;exact⟨w,r.set n v,rfl,hx,Reps.set n hr h'⟩
theorem Reps.eraseIdx:∀{xs:List PV} {vs:List V} (n:Nat),Reps K G H xs vs->Reps K G H (xs.eraseIdx n) (vs.eraseIdx n)
 |[],vs,n,h=>by cases(show vs=[] from h);exact rfl
 | y :: xs, vs, 0, h => by
  obtain⟨w,r,e1,hx,hr⟩:=h;subst e1;exact hr
 | y :: xs, vs, n + 1, h => by
  obtain⟨w,r,e1,hx,hr⟩:=h;subst e1;exact⟨w,r.eraseIdx n,rfl,hx,Reps.eraseIdx n hr⟩
def MutO:HO->Prop
 |.lst _=>True
 |.dK _=>True
 |.dT _=>True
 |.set _ _=>True
 |.tbl _=>True
 |_=>False
end
inductive OK where
 |lst|dk (ks:List Key)|dt (ks:List (List Key))|st (zs:List Key)
def memS (zs:List Key)(k:Key):Bool:=zs.any λz=>decide (z=k)
noncomputable def mkO:OK->List V->HO
 |.lst,vs=>.lst vs
 |.dk ks,vs=>.dK (ks.zip vs)
 |.dt ks,vs=>.dT (ks.zip vs)
 |.st zs,_=>.set (memS zs) zs.length
def KS (k:OK)(vs:List V):MutO (mkO k vs):=by cases k <;> trivial
inductive Slot where
 |v (x:PV)
 |ow (k:OK) (xs:List PV)
abbrev Slot.own (xs:List PV):Slot:=.ow .lst xs
abbrev Env:=List (Option Slot)
structure PotK where
 at_:List A1->Hp->A1->Nat->Prop
 mono:∀{M H p n m},at_ M H p n->n<=m->at_ M H p m
 keep:∀{M H H' p n},at_ M H p n->H' p=H p->(∀b o,b∉M->H b=some o->H' b=some o)->at_ M H' p n
 more:∀{M M' H p n},at_ M H p n->(∀a∈M',a∈M\/H a=none)->at_ M' H p n
 mu:∀{M H p n},at_ M H p n->∃o,H p=some o/\MutO o
 /-- what is known of all pots together -/
 has:List A1->Prop:=λ_=>True
 hasM:∀{l:List A1} {p:A1},has l->p∉l->has (l++[p]):=by intro _ _ _ _;trivial
structure Ct where
 K:A8
 T:PotK
 M0:List A1
 pots0:List A1
 H0:Hp
 np:Bool
def CH (C:Ct)(G:Gh)(H:Hp)(o:Option (Option V)):Slot->Prop
 |.v x=>∃v,o=some (some v)/\Rep C.K G H x v
 |.ow k xs=>∃a vs,o=some (some (.ref a))/\a∈G.M/\a∉C.M0/\a∉G.pots/\H a=some (mkO k vs)/\Reps C.K G H xs vs
structure SR (C:Ct)(G:Gh)(σ:St)(H:Hp)(env:Env)(n:Nat):Prop where
 frame:∀b o,b∉C.pots0->C.H0 b=some o->H b=some o
 sub:∀a∈G.M,a∈C.M0\/C.H0 a=none
 sup:∀a∈C.M0,a∈G.M
 pots:∀p∈G.pots,p∈G.M/\C.T.at_ G.M H p n
 pre:∃l,G.pots=C.pots0++l/\(l=[]\/C.np=true)
 mu:∀a∈G.M,∃o,H a=some o/\MutO o
 slots:∀(i:Nat) (s:Slot),env[i]?=some (some s)->CH C G H (σ[i]?) s
 inj:∀(i j:Nat) (xs ys:OK×List PV) (a:A1),env[i]?=some (some (.ow xs.1 xs.2))->env[j]?=some (some (.ow ys.1 ys.2))->σ[i]?=some (some (.ref a))->σ[j]?=some (some (.ref a))->i=j
 p0:(∀p∈C.pots0,p∈C.M0)/\C.T.has G.pots
 len:env.length=σ.length
 newp:∀p∈G.pots,p∉C.pots0->p∈C.M0->False
section
variable {C:Ct}{G G':Gh}{σ:St}{H H':Hp}{env:Env}{n:Nat}
def SR.hasG (S:SR C G σ H env n):C.T.has G.pots:=S.p0.2
def SR.fresh (S:SR C G σ H env n)(h:H p=none):p∉G.M:=λz=>by
 obtain⟨o,e,_⟩:=S.mu p z;rw[h] at e;cases e
theorem SR.same (S:SR C G σ H env n)(s:Same H H'):SR C G σ H' env n where
 frame b o hb e:=s b o (S.frame b o hb e)
 sub:=S.sub
 sup:=S.sup
 pots p hp:=⟨(S.pots p hp).1,C.T.keep (S.pots p hp).2 (by
  obtain⟨o,e,_⟩:=C.T.mu (S.pots p hp).2
  rw[e,s p o e]) λb o _ e=>s b o e⟩
 pre:=S.pre
 mu a ha:=by
  obtain⟨o,e,m⟩:=S.mu a ha;exact⟨o,s a o e,m⟩
 slots i x e:=by
  have:=S.slots i x e;cases x with
  | v x =>
   obtain⟨v,e1,r⟩:=this;exact⟨v,e1,r.same s⟩
  | ow kk xs =>
   obtain⟨a,vs,e1,h1,h2,h3,h4,r⟩:=this;exact⟨a,vs,e1,h1,h2,h3,s _ _ h4,r.same s⟩
 inj:=S.inj
 p0:=S.p0
 len:=S.len
 newp:=S.newp
def Same.lay1 (h:H p=none):Same H (upd H p o):=(Same.refl H).lay h
end
abbrev PK:=PV->Env->Nat->Prop
abbrev pE:=Env->Nat->PK->Prop
abbrev pT:=Env->Nat->(Bool->Env->Nat->Prop)->Prop
abbrev pA:=Env->Nat->(List PV->Env->Nat->Prop)->Prop
abbrev pF:=List PV->Nat->(PV->Nat->Prop)->Prop
def RdV (K:A8)(G:Gh)(H:Hp)(x:PV)(v:V):Prop:=Rep K G H x v\/∃a vs xs,x=.lst xs/\v=.ref a/\H a=some (.lst vs)/\Reps K G H xs vs
def RdS (C:Ct)(G:Gh)(σ:St)(H:Hp)(env:Env)(x:PV)(v:V):Prop:=Rep C.K G H x v\/∃(i:Nat) (a:A1) (xs:List PV),env[i]?=some (some (.ow .lst xs))/\σ[i]?=some (some (.ref a))/\x=.lst xs/\v=.ref a
def EOk (K:A8)(T:PotK)(t:TE)(pe:pE):Prop:=∀(C:Ct) (G:Gh) (σ:St) (H:Hp) (env:Env) (n:Nat) (R:PK) (Q:VK),C.K=K->C.T=T->SR C G σ H env n->pe env n R->
 (∀x jh n' v H',R x jh n'->SR C G σ H' jh n'->Rep K G H' x v->Fr G H H'->Q v H')->t σ H Q
def ROk (K:A8)(T:PotK)(t:TE)(pe:pE):Prop:=∀(C:Ct) (G:Gh) (σ:St) (H:Hp) (env:Env) (n:Nat) (R:PK) (Q:VK),C.K=K->C.T=T->SR C G σ H env n->pe env n R->
 (∀x jh n' v H',R x jh n'->SR C G σ H' jh n'->RdS C G σ H' jh x v->Fr G H H'->Q v H')->t σ H Q
def NOk (K:A8)(T:PotK)(t:TE)(pn:pA):Prop:=∀(C:Ct) (G:Gh) (σ:St) (H:Hp) (env:Env) (n:Nat) (R:List PV->Env->Nat->Prop) (Q:VK),C.K=K->C.T=T->SR C G σ H env n->pn env n R->
 (∀xs jh n' a vs Hb,R xs jh n'->SR C G σ Hb jh n'->Fr G H Hb->Hb a=none->Reps K G Hb xs vs->Q (.ref a) (upd Hb a (.lst vs)))->t σ H Q
def TOk (K:A8)(T:PotK)(t:TT)(pt:pT):Prop:=∀(C:Ct) (G:Gh) (σ:St) (H:Hp) (env:Env) (n:Nat) (R:Bool->Env->Nat->Prop) (Q:Bool->Hp->Prop),C.K=K->C.T=T->SR C G σ H env n->pt env n R->
 (∀b jh n' H',R b jh n'->SR C G σ H' jh n'->Fr G H H'->Q b H')->t σ H Q
def AOk (K:A8)(T:PotK)(t:TA)(pa:pA):Prop:=∀(C:Ct) (G:Gh) (σ:St) (H:Hp) (env:Env) (n:Nat) (R:List PV->Env->Nat->Prop) (Q:List V->Hp->Prop),C.K=K->C.T=T->SR C G σ H env n->pa env n R->
 (∀xs jh n' vs H',R xs jh n'->SR C G σ H' jh n'->Reps K G H' xs vs->Fr G H H'->Q vs H')->t σ H Q
structure EW (X:Cx)(e:Expr)(t:TE):Prop where
 h:PE X e t
structure SW (X:Cx)(st:Stmt)(t:TS):Prop where
 h:PS X st t
structure GW (X:Cx)(e:Expr)(g:TG):Prop where
 h:PG X e g
def vw (i:Nat)(hN:X.N[i]?=some x:=by rfl)(hv:Vis X.env.scope x:=by first|exact Or.inl rfl|exact Or.inr (Or.inl rfl)|exact Or.inr (Or.inr rfl))(hd:(x == ("__debug__":Str))=false:=by decide)(hcd:(x == ("__classdict__":Str))=false:=by decide):EW X (.Name x pos) (tVar i):=⟨Kb hN hv hd hcd⟩
inductive QE {ι:Type}(T:PotK)(K:A8)(F:ι->Cx)(e:Expr)(pe:pE):Prop
 |mk t (a:(∀z,PE (F z) e t)) (b:EOk K T t pe):QE T K F e pe
inductive QR {ι:Type}(T:PotK)(K:A8)(F:ι->Cx)(e:Expr)(pe:pE):Prop
 |mk t (a:(∀z,PE (F z) e t)) (b:ROk K T t pe):QR T K F e pe
inductive QN {ι:Type}(T:PotK)(K:A8)(F:ι->Cx)(e:Expr)(pn:pA):Prop
 |mk t (a:(∀z,PE (F z) e t)) (b:NOk K T t pn):QN T K F e pn
inductive QT {ι:Type}(T:PotK)(K:A8)(F:ι->Cx)(e:Expr)(pt:pT):Prop
 |mk t (a:(∀z,PT (F z) e t)) (b:TOk K T t pt):QT T K F e pt
inductive QW {ι:Type}(T:PotK)(K:A8)(F:ι->Cx)(e:Expr)(pt:pT):Prop
 |mk t (a:(∀z,PW (F z) e t)) (b:TOk K T t pt):QW T K F e pt
inductive QA {ι:Type}(T:PotK)(K:A8)(F:ι->Cx)(es:List Expr)(pa:pA):Prop
 |mk t (a:(∀z,PA (F z) es t)) (b:AOk K T t pa):QA T K F es pa
section
variable {T:PotK}{ι:Type}{K:A8}{F:ι->Cx}{e a b:Expr}{es:List Expr}{pe pa pb:pE}
def Reps.nil:Reps K G H [] []:=rfl
def Reps.cons (h:Rep K G H x v)(h':Reps K G H xs vs):Reps K G H (x::xs) (v::vs):=⟨v,vs,rfl,h,h'⟩
def RdS.rd (S:SR C G σ H env n)(h:RdS C G σ H env x v):RdV C.K G H x v:=by
 rcases h with h|⟨i,a,xs,e1,e2,ex,ev⟩
 ·exact .inl h
 ·obtain⟨a',vs,e3,_,_,_,h4,r⟩:=S.slots i _ e1;rw[e2] at e3;cases e3;exact .inr ⟨a,vs,xs,ex,ev,h4,r⟩
theorem RdS.fr (h:RdS C G σ H env x v)(f:Fr G H H'):RdS C G σ H' env x v:=by
 rcases h with h|h
 ·exact .inl (h.fr f)
 ·exact .inr h
theorem RdV.lst (h:RdV K G H (.lst xs) v):∃a vs,v=.ref a/\SqL K H a vs/\Reps K G H xs vs:=by
 rcases h with⟨a,vs,e,t,r⟩|⟨a,vs,ys,ex,ev,h4,r⟩
 ·exact⟨a,vs,e,t.sq,r⟩
 ·cases ex;exact⟨a,vs,ev,SqL.of h4,r⟩
def RdV.rep {K:A8}{G:Gh}{H:Hp}{x:PV}{v:V}(h:RdV K G H x v)(hx:∀xs,x≠.lst xs):Rep K G H x v:=by simp_all [Gh,Hp,PV,RdV,V]
theorem RdV.tup (h:RdV K G H (.tup xs) v):∃a vs,v=.ref a/\SqT K H a vs/\Reps K G H xs vs:=by
 obtain⟨a,vs,e,t,r⟩:=h.rep (λ_ z=>nomatch z);exact⟨a,vs,e,t.sq,r⟩
theorem RdV.int (h:RdV K G H (.int i) v):v=.int i:=h.rep (λ_ z=>nomatch z)
theorem RdV.str (h:RdV K G H (.str i) v):v=.str i:=h.rep (λ_ z=>nomatch z)
theorem RdV.bl (h:RdV K G H (.bl i) v):v=.bl i:=h.rep (λ_ z=>nomatch z)
theorem RdV.non (h:RdV K G H .non v):v=.non:=h.rep (λ_ z=>nomatch z)
def qV (i:Nat):pE:=λenv n R=>match env[i]? with|some (some (.v x))=>R x env n|_=>False
def qO (i:Nat):pE:=λenv n R=>match env[i]? with|some (some (.ow .lst xs))=>R (.lst xs) env n|_=>False
def qC (c:PV):pE:=λenv n R=>R c env n
def qV_ex (h:qV i env n R):∃x,env[i]?=some (some (.v x))/\R x env n:=by
 unfold qV at h
 split at h
 ·exact⟨_,by assumption,h⟩
 ·exact h.elim
def qO_ex (h:qO i env n R):∃xs,env[i]?=some (some (.ow .lst xs))/\R (.lst xs) env n:=by
 unfold qO at h
 split at h
 ·exact⟨_,by assumption,h⟩
 ·exact h.elim
def qe_var (i:Nat)(h:∀z,EW (F z) (.Name x pos) (tVar i)):QE T K F (.Name x pos) (qV i):=by
 refine⟨_,λz=>(h z).h,⇑?_⟩;obtain⟨x,e,r⟩:=qV_ex hp;obtain⟨v,ev,rv⟩:=S.slots i _ e;exact⟨v,ev,k _ _ _ _ _ r S (hK▸rv) Fr.refl⟩
def qr_own (i:Nat)(h:∀z,EW (F z) (.Name x pos) (tVar i)):QR T K F (.Name x pos) (qO i):=by
 refine⟨_,λz=>(h z).h,⇑?_⟩;obtain⟨xs,e,r⟩:=qO_ex hp;obtain⟨a,vs,ev,_,_,_,_,rv⟩:=S.slots i _ e;exact⟨.ref a,ev,k _ _ _ _ _ r S (.inr ⟨i,a,xs,e,ev,rfl,rfl⟩) Fr.refl⟩
theorem QE.r (h:QE T K F e pe):QR T K F e pe:=by
 obtain⟨t,h1,h2⟩:=h;exact⟨t,h1,λC G σ H env n R Q hK hT S hp k=>h2 C G σ H env n R Q hK hT S hp λx jh n' v H' r S' rp f=>k x jh n' v H' r S' (.inl (by rw[hK];exact rp)) f⟩
def ok_c (h:∀G H,Rep K G H c v):EOk K T (tC v) (qC c):=λC G σ H env n R Q hK hT S hp k=>k _ _ _ _ _ hp S (h G H) Fr.refl
def T5 {i j pos}:QE T K F (.Constant (.int i) j pos) (qC (.int i)):=⟨_,λz=>L5,ok_c λ_ _=>rfl⟩
def qe_bl {i j pos}:QE T K F (.Constant (.bool i) j pos) (qC (.bl i)):=⟨_,λz=>pe_bl,ok_c λ_ _=>rfl⟩
def CJ {i j pos}:QE T K F (.Constant (.str i) j pos) (qC (.str i)):=⟨_,λz=>K9,ok_c λ_ _=>rfl⟩
def KU {j pos}:QE T K F (.Constant .none j pos) (qC .non):=⟨_,λz=>pe_non,ok_c λ_ _=>rfl⟩
def qe_num {x:Str}{i:Int}{pos:Pos}(n:∀z,Num0 (F z).mg x i)(hg:∀z,Gl (F z) x)(hd:(x == ("__debug__":Str))=false):QE T K F (.Name x pos) (qC (.int i)):=⟨_,λz=>pe_num (n z) (hg z) hd,ok_c λ_ _=>rfl⟩
abbrev w1:=PV->(PV->Prop)->Prop
abbrev w2:=PV->PV->(PV->Prop)->Prop
def W2 (K:A8)(r:R2)(w:w2):Prop:=∀(G:Gh) (H:Hp) (x y:PV) (v u:V) (R:PV->Prop) (Q:VK),(∀p,H p=none->p∉G.M)->RdV K G H x v->RdV K G H y u->w x y R->
 (∀z v' H',R z->Same H H'->Rep K G H' z v'->Q v' H')->r v u H Q
def W1 (K:A8)(r:V->Hp->VK->Prop)(w:w1):Prop:=∀(G:Gh) (H:Hp) (x:PV) (v:V) (R:PV->Prop) (Q:VK),(∀p,H p=none->p∉G.M)->RdV K G H x v->w x R->
 (∀z v' H',R z->Same H H'->Rep K G H' z v'->Q v' H')->r v H Q
def qOp (w:w2)(pa pb:pE):pE:=λenv n R=>pa env n λx jc n1=>pb jc n1 λy jd n2=>w x y λz=>R z jd n2
def qOpR (w:w2)(pa pb:pE):pE:=λenv n R=>pa env n λx jc n1=>pb jc n1 λy jd n2=>jd=jc/\w x y λz=>R z jd n2
def qUn (w:w1)(pa:pE):pE:=λenv n R=>pa env n λx jc n1=>w x λz=>R z jc n1
def CK (hw:W2 K r w)(ha:EOk K T ta pa)(hb:ROk K T tb pb):EOk K T (tOp r ta tb) (qOp w pa pb):=λC G σ H env n R Q hK hT S hp k=>by
 refine ↥ha λx jc n1 v H1 p1 S1 r1 f1=>?_;refine hb C G σ H1 jc n1 _ _ hK hT S1 p1 λy jd n2 u H2 p2 S2 r2 f2=>?_;subst hK;exact hw G H2 x y v u _ _ (λp hp=>S2.fresh hp) (.inl (r1.fr f2)) (r2.rd S2) p2 λz v' H' rz s rv=>k _ _ _ _ _ rz (S2.same s) rv ((f1.trans f2).trans (Fr.of s))
def KW (hw:W2 K r w)(ha:ROk K T ta pa)(hb:ROk K T tb pb):EOk K T (tOp r ta tb) (qOpR w pa pb):=λC G σ H env n R Q hK hT S hp k=>by
 refine ↥ha λx jc n1 v H1 p1 S1 r1 f1=>?_;refine hb C G σ H1 jc n1 _ _ hK hT S1 p1 λy jd n2 u H2 p2 S2 r2 f2=>?_;subst hK;obtain⟨e,p2⟩:=p2;subst e;exact hw G H2 x y v u _ _ (λp hp=>S2.fresh hp) ((r1.fr f2).rd S2) (r2.rd S2) p2 λz v' H' rz s rv=>k _ _ _ _ _ rz (S2.same s) rv ((f1.trans f2).trans (Fr.of s))
def ok_un (hw:W1 K r w)(ha:ROk K T ta pa):EOk K T (tUn r ta) (qUn w pa):=λC G σ H env n R Q hK hT S hp k=>by
 refine ↥ha λx jc n1 v H1 p1 S1 r1 f1=>?_;subst hK;exact hw G H1 x v _ _ (λp hp=>S1.fresh hp) (r1.rd S1) p1 λz v' H' rz s rv=>k _ _ _ _ _ rz (S1.same s) rv (f1.trans (Fr.of s))
def wI (C:Int->Int->Prop)(g:Int->Int->PV):w2:=λx y R=>match x,y with|.int i,.int j=>C i j/\R (g i j)|_,_=>False
def W2.I (hg:∀i j G H,Rep K G H (g' i j) (g i j)):W2 K (rI C g) (wI C g'):=by
 intro G H x y v u R Q hf rx ry hw k;unfold wI at hw
 split at hw
 ·exact⟨_,_,rx.int,ry.int,hw.1,k _ _ _ hw.2 (Same.refl _) (hg _ _ _ _)⟩
 ·exact hw.elim
def wI0 (g:Int->Int->PV):w2:=λx y R=>match x,y with|.int i,.int j=>R (g i j)|_,_=>False
def W2.I0 (hg:∀i j G H,Rep K G H (g' i j) (g i j)):W2 K (rI0 g) (wI0 g'):=by
 intro G H x y v u R Q hf rx ry hw k;unfold wI0 at hw
 split at hw
 ·exact⟨_,_,rx.int,ry.int,k _ _ _ hw (Same.refl _) (hg _ _ _ _)⟩
 ·exact hw.elim
def wAdd:w2:=λx y R=>match x,y with
 |.int i,.int j=>R (.int (i+j))
 |.str i,.str j=>i.length+j.length<=1000000/\R (.str (i++j))
 |.tup xs,.tup ys=>xs.length+ys.length<=1000000/\R (.tup (xs++ys))
 |_,_=>False
def mil (h:n<=1000000):n<=B4:=K1 h (by rw[O0];decide)
def mil' (h:n<=1000000):n<B4:=y4 h (by rw[O0];decide)
def Ak (hf:p∉G.M)(hn:H p=none)(r:Reps K G H xs vs):Rep K G (upd H p (.tup vs)) (.tup xs) (.ref p):=
 ⟨p,vs,rfl,⟨hf,D9⟩,r.same (Same.lay1 hn)⟩
def CL (hf:p∉G.M)(hn:H p=none)(r:Reps K G H xs vs):Rep K G (upd H p (.lst vs)) (.lst xs) (.ref p):=
 ⟨p,vs,rfl,⟨hf,D9⟩,r.same (Same.lay1 hn)⟩
def W2.add:W2 K (λx y H Q=>(rI0 λi j=>.int (i+j)) x y H Q\/(∃i j,x=.str i/\y=.str j/\i.length+j.length<=B4/\Q (.str (i++j)) H)\/rCatA K x y H Q) wAdd:=by
 intro G H x y v u R Q hf rx ry hw k;unfold wAdd at hw
 split at hw
 ·exact .inl ⟨_,_,rx.int,ry.int,k _ _ _ hw (Same.refl _) rfl⟩
 ·exact .inr (.inl ⟨_,_,rx.str,ry.str,mil hw.1,k _ _ _ hw.2 (Same.refl _) rfl⟩)
 ·rename_i xs ys;obtain⟨a,vs,ea,ta,ra⟩:=rx.rep (λ_ z=>nomatch z);obtain⟨b,us,eb,tb,rb⟩:=ry.rep (λ_ z=>nomatch z);refine .inr (.inr ⟨a,b,vs,us,ea,eb,ta.sq,tb.sq,?_,λz=>?_,λz1 z2=>?_,λz1 z2 p hp=>?_⟩)
  ·rw[<- ra.length,<- rb.length];exact mil hw.1
  ·subst z;have:xs=[]:=BX ra.length;subst this;exact k _ _ _ hw.2 (Same.refl _) ⟨b,us,rfl,tb,rb⟩
  ·subst z2;have:ys=[]:=BX rb.length;subst this;exact k _ _ _ hw.2 (Same.refl _) (by rw[W5];exact⟨a,vs,rfl,ta,ra⟩)
  ·exact k _ _ _ hw.2 (Same.lay1 hp) (Ak (hf p hp) hp (ra.append rb))
 ·exact hw.elim
def o8 (ha:QE T K F a pa)(hb:QE T K F b pb)(hK:∀z,(F z).K=K:=by intro _;rfl):QE T K F (.BinOp a .Add b pos) (qOp wAdd pa pb):=by
 obtain⟨ta,h1,h2⟩:=ha;obtain⟨tb,h3,h4⟩:=hb.r;exact⟨_,λz=>L7 (Bo.or (OL.or (hK z▸PM))) (h1 z) (h3 z),CK W2.add h2 h4⟩
def Em (ho:∀z,OpR (F z) (Q2 op) r)(hw:W2 K r w)(ha:QE T K F a pa)(hb:QE T K F b pb):QE T K F (.BinOp a op b pos) (qOp w pa pb):=by
 obtain⟨ta,h1,h2⟩:=ha;obtain⟨tb,h3,h4⟩:=hb.r;exact⟨_,λz=>L7 (ho z) (h1 z) (h3 z),CK hw h2 h4⟩
def wSub:w2:=wI0 λi j=>.int (i-j)
def wMul:w2:=λx y R=>match x,y with
 |.int i,.int j=>CMul i j/\R (.int (i*j))
 |.str i,.int n=>i.length<=100/\0<=n/\n<=1000/\R (.str (Txt.mul i n))
 |_,_=>False
def Eo:w2:=wI CDiv λi j=>.int (i/j)
def wMod:w2:=wI (λ_ j=>0<j) λi j=>.int (i%j)
theorem W2.mul:W2 K (λx y H Q=>(rI CMul λi j=>.int (i*j)) x y H Q\/(∃i n,x=.str i/\y=.int n/\i.length<=100/\0<=n/\n<=1000/\Q (.str (Txt.mul i n)) H)) wMul:=by
 intro G H x y v u R Q hf rx ry hw k;unfold wMul at hw
 split at hw
 ·exact .inl ⟨_,_,rx.int,ry.int,hw.1,k _ _ _ hw.2 (Same.refl _) rfl⟩
 ·exact .inr ⟨_,_,rx.str,ry.int,hw.1,hw.2.1,hw.2.2.1,k _ _ _ hw.2.2.2 (Same.refl _) rfl⟩
 ·exact hw.elim
def qe_sub (ha:QE T K F a pa)(hb:QE T K F b pb):QE T K F (.BinOp a .Sub b pos) (qOp wSub pa pb):=Em (λ_=>op_sub) (W2.I0 λ_ _ _ _=>rfl) ha hb
def qe_mul (ha:QE T K F a pa)(hb:QE T K F b pb):QE T K F (.BinOp a .Mult b pos) (qOp wMul pa pb):=Em (λ_=>Cz.or PC) W2.mul ha hb
def PQ (ha:QE T K F a pa)(hb:QE T K F b pb):QE T K F (.BinOp a .FloorDiv b pos) (qOp Eo pa pb):=Em (λ_=>GD) (W2.I λ_ _ _ _=>rfl) ha hb
def qe_mod (ha:QE T K F a pa)(hb:QE T K F b pb):QE T K F (.BinOp a .Mod b pos) (qOp wMod pa pb):=Em (λ_=>Ah) (W2.I λ_ _ _ _=>rfl) ha hb
end
end Pu
end
section
namespace L2
open PySem PySem.Spec PyProof.Rows
def EqD (K:A8)(H:Hp):Nat->V->V->Bool->Prop
 |0,x,y,b=>P7 x=true/\P7 y=true/\b=eqV x y
 | d + 1, x, y, b => (P7 x = true /\ P7 y = true /\ b = eqV x y) \/
   (∃p q xs ys,∃f:Nat->Bool,x=.ref p/\y=.ref q/\SqT K H p xs/\SqT K H q ys/\(∀(j:Nat) x' y',xs[j]?=some x'->ys[j]?=some y'->EqD K H d x' y' (f j))/\b=((C2 (min xs.length ys.length)).all f&&xs.length == ys.length))\/
   (∃p q xs ys,∃f:Nat->Bool,x=.ref p/\y=.ref q/\SqL K H p xs/\SqL K H q ys/\(∀(j:Nat) x' y',xs[j]?=some x'->ys[j]?=some y'->EqD K H d x' y' (f j))/\b=((C2 (min xs.length ys.length)).all f&&xs.length == ys.length))\/
   (b=false/\((∃p xs,x=.ref p/\(SqT K H p xs\/SqL K H p xs)/\P7 y=true)\/(∃p xs,y=.ref p/\(SqT K H p xs\/SqL K H p xs)/\P7 x=true)\/
     (∃p q xs ys,x=.ref p/\y=.ref q/\SqT K H p xs/\SqL K H q ys)\/(∃p q xs ys,x=.ref p/\y=.ref q/\SqL K H p xs/\SqT K H q ys)))
section
variable {X:Cx}{jb:List (A1×Obj)}{σ:St}{H:Hp}{s:A4}
def V6 (I:Inv X jb σ H s)(h:SqT X.K H p xs)(h':SqL X.K H p ys):False:=by
 obtain⟨jf,r,⟨o,e,c,n,d⟩,_⟩:=I.tuple h;obtain⟨its',r',⟨o',n',e',c',_,d'⟩,_⟩:=I.list h';rw[e] at e';cases e';rw[c] at c';injection c' with c';exact absurd c' 0b0
def EqD.refl (I:Inv X jb σ H s):∀(d:Nat) (x:V) (b:Bool),EqD X.K H d x x b->b=true:=by
 intro d
 induction d with
 | zero =>
  intro x b h;obtain⟨h1,_,rfl⟩:=h;exact KL h1
 | succ d ih =>
  intro x b h;rcases h with⟨h1,_,rfl⟩|⟨p,q,xs,ys,f,e1,e2,s1,s2,hf,rfl⟩|⟨p,q,xs,ys,f,e1,e2,s1,s2,hf,rfl⟩|⟨rfl,h⟩
  ·exact KL h1
  ·subst e1;cases e2;have:=I.tuple_inj s1 s2;subst this;simp only[Nat.min_self,beq_self_eq_true,Bool.and_true,C6,J9];intro j hj;exact ih _ _ (hf j xs[j] xs[j] (by simp[hj]) (by simp[hj]))
  ·subst e1;cases e2;have:=I.list_inj s1 s2;subst this;simp only[Nat.min_self,beq_self_eq_true,Bool.and_true,C6,J9];intro j hj;exact ih _ _ (hf j xs[j] xs[j] (by simp[hj]) (by simp[hj]))
  ·rcases h with⟨p,xs,rfl,_,h⟩|⟨p,xs,rfl,_,h⟩|⟨p,q,xs,ys,e1,e2,s1,s2⟩|⟨p,q,xs,ys,e1,e2,s1,s2⟩
   ·cases h
   ·cases h
   ·subst e1;cases e2;exact(V6 I s1 s2).elim
   ·subst e1;cases e2;exact(V6 I s2 s1).elim
def Inv.sqL (I:Inv X jb σ H s)(h:SqL X.K H p xs):∃jf:List A3,Vals xs jf/\s.heap.IsList p jf.toArray:=by
 obtain⟨jf,r,pl,_⟩:=I.list h;exact⟨jf,r,pl.isList⟩
def Inv.sqT (I:Inv X jb σ H s)(h:SqT X.K H p xs):∃jf:List A3,Vals xs jf/\s.heap.IsTuple p jf.toArray:=by
 obtain⟨jf,r,pl,_⟩:=I.tuple h;exact⟨jf,r,pl⟩
def KY (I:Inv X jb σ H s)(hu:A.units<cLine)(hq:SqT X.K H p xs\/SqL X.K H p xs)(ry:RelV y w)(fy:P7 y=true) :
   Bh A s (.ref p) w false/\Bg A s (.ref p) w true/\Bh A s w (.ref p) false/\Bg A s w (.ref p) true/\Ag A s (.ref p) w false/\Ag A s w (.ref p) false:=by
 rcases hq with hq|hq
 ·obtain⟨jf,r,il⟩:=I.sqT hq;cases y with
  |non=>cases ry;exact⟨.tuple_none il hu,.tuple_none il hu,.none_tuple il hu,.none_tuple il hu,.tuple_none il hu,.none_tuple il hu⟩
  |bl b=>cases ry;exact⟨.tuple_bool b il hu,.tuple_bool b il hu,.bool_tuple b il hu,.bool_tuple b il hu,.tuple_bool b il hu,.bool_tuple b il hu⟩
  |int i=>obtain⟨t,rfl⟩:=ry;exact⟨.tuple_int i t il hu,.tuple_int i t il hu,.int_tuple i t il hu,.int_tuple i t il hu,.tuple_int i t il hu,.int_tuple i t il hu⟩
  |str i=>obtain⟨t,rfl⟩:=ry;exact⟨.tuple_str i t il hu,.tuple_str i t il hu,.str_tuple i t il hu,.str_tuple i t il hu,.tuple_str i t il hu,.str_tuple i t il hu⟩
  |_=>cases fy
 ·obtain⟨jf,r,il⟩:=I.sqL hq;cases y with
  |non=>cases ry;exact⟨.list_none il hu,.list_none il hu,.none_list il hu,.none_list il hu,.list_none il hu,.none_list il hu⟩
  |bl b=>cases ry;exact⟨.list_bool b il hu,.list_bool b il hu,.bool_list b il hu,.bool_list b il hu,.list_bool b il hu,.bool_list b il hu⟩
  |int i=>obtain⟨t,rfl⟩:=ry;exact⟨.list_int i t il hu,.list_int i t il hu,.int_list i t il hu,.int_list i t il hu,.list_int i t il hu,.int_list i t il hu⟩
  |str i=>obtain⟨t,rfl⟩:=ry;exact⟨.list_str i t il hu,.list_str i t il hu,.str_list i t il hu,.str_list i t il hu,.list_str i t il hu,.str_list i t il hu⟩
  |_=>cases fy
def KZ (rx:RelV x u)(ry:RelV y w)(fx:P7 x=true)(fy:P7 y=true):Bh A s u w (eqV x y)/\Bg A s u w (!eqV x y):=by
 cases x with
 | non =>
  cases rx;cases y with
  |non=>cases ry;exact⟨.none_none,.none_none⟩
  |bl j=>cases ry;exact⟨.none_bool j,.none_bool j⟩
  |int j=>obtain⟨t,rfl⟩:=ry;exact⟨.none_int j t,.none_int j t⟩
  |str j=>obtain⟨t,rfl⟩:=ry;exact⟨.none_str j t,.none_str j t⟩
  |_=>cases fy
 | bl i =>
  cases rx;cases y with
  |non=>cases ry;exact⟨.bool_none i,.bool_none i⟩
  |bl j=>cases ry;exact⟨.bool_bool i j,.bool_bool i j⟩
  |int j=>obtain⟨t,rfl⟩:=ry;exact⟨.bool_int i j t,.bool_int i j t⟩
  |str j=>obtain⟨t,rfl⟩:=ry;exact⟨.bool_str i j t,.bool_str i j t⟩
  |_=>cases fy
 | int i =>
  obtain⟨ti,rfl⟩:=rx;cases y with
  |non=>cases ry;exact⟨.int_none i ti,.int_none i ti⟩
  |bl j=>cases ry;exact⟨.int_bool i ti j,.int_bool i ti j⟩
  |int j=>obtain⟨t,rfl⟩:=ry;exact⟨.int_int i ti j t,.int_int i ti j t⟩
  |str j=>obtain⟨t,rfl⟩:=ry;exact⟨.int_str i ti j t,.int_str i ti j t⟩
  |_=>cases fy
 | str i =>
  obtain⟨ti,rfl⟩:=rx;cases y with
  |non=>cases ry;exact⟨.str_none i ti,.str_none i ti⟩
  |bl j=>cases ry;exact⟨.str_bool i ti j,.str_bool i ti j⟩
  |int j=>obtain⟨t,rfl⟩:=ry;exact⟨.str_int i ti j t,.str_int i ti j t⟩
  |str j=>obtain⟨t,rfl⟩:=ry;exact⟨.str_str i ti j t,.str_str i ti j t⟩
  |_=>cases fy
 |_=>cases fx
def CM (A:D0):A.in1.units=A.units+1:=rfl
def EqD.at (I:Inv X jb σ H s):∀(d:Nat) (A:D0) (x y:V) (u w:A3) (b:Bool),A.units+d<cLine->RelV x u->RelV y w->EqD X.K H d x y b->Ag A s u w b/\Bh A s u w b/\Bg A s u w (!b):=by
 intro d
 induction d with
 | zero =>
  intro A x y u w b hu rx ry h;obtain⟨h1,h2,rfl⟩:=h;exact⟨Ky rx ry h1 h2,KZ rx ry h1 h2⟩
 | succ d ih =>
  intro A x y u w b hu rx ry h;have hu0:A.units<cLine:=0x0
  have hu1:A.in1.units+d<cLine:=by rw[CM];ext
  have hrefl:=EqD.refl I (d+1) x b;rcases h with⟨h1,h2,rfl⟩|⟨p,q,xs,ys,f,e1,e2,s1,s2,hf,eb⟩|⟨p,q,xs,ys,f,e1,e2,s1,s2,hf,eb⟩|⟨rfl,h⟩
  ·exact⟨Ky rx ry h1 h2,KZ rx ry h1 h2⟩
  ·subst e1 e2;cases rx;cases ry;obtain⟨jf,r1,t1⟩:=I.sqT s1;obtain⟨its2,r2,t2⟩:=I.sqT s2;have z1:jf.toArray.size=xs.length:=by simpa using r1.length.symm
   have z2:its2.toArray.size=ys.length:=by simpa using r2.length.symm
   have he:∀j (h1:j<jf.toArray.size) (h2:j<its2.toArray.size),Ag A.in1 s jf.toArray[j] its2.toArray[j] (f j):=by
    intro j h1 h2;obtain⟨x',e1,q1⟩:=r1.getE (j:=j) 0x0;obtain⟨y',e2,q2⟩:=r2.getE (j:=j) (by grind);exact(ih A.in1 x' y' _ _ (f j) hu1 (by grind) (by grind) (hf j x' y' e1 e2)).1
   have rc:Bh A s (.ref p) (.ref q) b:=by
    rw[eb,<- z1,<- z2];exact SeqAt.RcAt.tuples t1 t2 hu0 he
   have rn:Bg A s (.ref p) (.ref q) (!b):=by
    rw[eb,<- z1,<- z2];exact SeqAt.RcNeAt.tuples t1 t2 hu0 he
   refine⟨?_,rc,rn⟩
   by_cases hpq:p=q
   ·subst hpq;rw[hrefl (.inr (.inl ⟨p,p,xs,ys,f,rfl,rfl,s1,s2,hf,eb⟩))];exact .same _
   ·exact .of_refs hpq rc
  ·subst e1 e2;cases rx;cases ry;obtain⟨jf,r1,t1⟩:=I.sqL s1;obtain⟨its2,r2,t2⟩:=I.sqL s2;have z1:jf.toArray.size=xs.length:=by simpa using r1.length.symm
   have z2:its2.toArray.size=ys.length:=by simpa using r2.length.symm
   have he:∀j (h1:j<jf.toArray.size) (h2:j<its2.toArray.size),Ag A.in1 s jf.toArray[j] its2.toArray[j] (f j):=by
    intro j h1 h2;obtain⟨x',e1,q1⟩:=r1.getE (j:=j) 0x0;obtain⟨y',e2,q2⟩:=r2.getE (j:=j) (by grind);exact(ih A.in1 x' y' _ _ (f j) hu1 (by grind) (by grind) (hf j x' y' e1 e2)).1
   have rr:Bh A s (.ref p) (.ref q) b/\Bg A s (.ref p) (.ref q) (!b):=by
    by_cases hl:xs.length=ys.length
    ·have e3:b=(C2 jf.toArray.size).all f:=by rw[eb,hl,Nat.min_self,beq_self_eq_true,Bool.and_true,z1,hl]
     rw[e3];exact⟨SeqAt.RcAt.lists t1 t2 (by grind) hu0 he,SeqAt.RcNeAt.lists t1 t2 (by grind) hu0 he⟩
    ·have e3:b=false:=by
      rw[eb];have:(xs.length == ys.length)=false:=by simpa using hl
      rw[this,Ck]
     rw[e3];have e4:(jf.toArray.size != its2.toArray.size)=true:=by rw[z1,z2];simpa using hl
     exact⟨SeqAt.RcAt.lists_lengths t1 t2 e4 hu0,SeqAt.RcNeAt.lists_lengths t1 t2 e4 hu0⟩
   refine⟨?_,rr⟩
   by_cases hpq:p=q
   ·subst hpq;rw[hrefl (.inr (.inr (.inl ⟨p,p,xs,ys,f,rfl,rfl,s1,s2,hf,eb⟩)))];exact .same _
   ·exact .of_refs hpq rr.1
  ·rcases h with⟨p,xs,rfl,hq,fy⟩|⟨p,xs,rfl,hq,fx⟩|⟨p,q,xs,ys,e1,e2,s1,s2⟩|⟨p,q,xs,ys,e1,e2,s1,s2⟩
   ·cases rx;obtain⟨a1,a2,a3,a4,a5,a6⟩:=KY I hu0 hq ry fy;exact⟨a5,a1,a2⟩
   ·cases ry;obtain⟨a1,a2,a3,a4,a5,a6⟩:=KY I hu0 hq rx fx;exact⟨a6,a3,a4⟩
   ·subst e1 e2;cases rx;cases ry;obtain⟨jf,r1,t1⟩:=I.sqT s1;obtain⟨its2,r2,t2⟩:=I.sqL s2;exact⟨.tuple_list t1 t2 hu0,.tuple_list t1 t2 hu0,.tuple_list t1 t2 hu0⟩
   ·subst e1 e2;cases rx;cases ry;obtain⟨jf,r1,t1⟩:=I.sqL s1;obtain⟨its2,r2,t2⟩:=I.sqT s2;exact⟨.list_tuple t1 t2 hu0,.list_tuple t1 t2 hu0,.list_tuple t1 t2 hu0⟩
end
section
variable {X:Cx}
def rEqD (K:A8)(d:Nat)(neg:Bool):R2:=λx y H Q=>∃b,EqD K H d x y b/\Q (.bl (if neg then !b else b)) H
def op_eqD (d:Nat)(hu:X.A.units+d<cLine):OpR X (K6 .Eq) (rEqD X.K d false):=by
 intro jb s σ H x y v u Q I rx ry h;obtain⟨b,hb,q⟩:=h;exact(hb.at I d X.A x y v u b hu rx ry).2.1 X.prog X.w X.xe _ ⟨.bl _,H,I,rfl,q⟩
def op_neD (d:Nat)(hu:X.A.units+d<cLine):OpR X (K6 .NotEq) (rEqD X.K d true):=by
 intro jb s σ H x y v u Q I rx ry h;obtain⟨b,hb,q⟩:=h;exact(hb.at I d X.A x y v u b hu rx ry).2.2 X.prog X.w X.xe _ ⟨.bl _,H,I,rfl,q⟩
def rInD (K:A8)(d:Nat)(neg:Bool):R2:=λx y H Q=>∃p ys,∃f:Nat->Bool,y=.ref p/\(SqL K H p ys\/SqT K H p ys)/\(∀(j:Nat) z,ys[j]?=some z->EqD K H d z x (f j))/\Q (.bl (if neg then !((C2 ys.length).any f) else(C2 ys.length).any f)) H
def K_ (h:∀j,j<n->f j=g j):(C2 n).all f=(C2 n).all g:=by
 rw[V0,C6,C6];constructor
 ·intro k j hj;rw[<- h j (J9.mp hj)];exact k j hj
 ·intro k j hj;rw[h j (J9.mp hj)];exact k j hj
def EqD.det (I:Inv X jb σ H s):∀(d:Nat) (x y:V) (b b':Bool),EqD X.K H d x y b->EqD X.K H d x y b'->b=b':=by
 intro d
 induction d with
 | zero =>
  intro x y b b' h h';rw[h.2.2,h'.2.2]
 | succ d ih =>
  intro x y b b' h h';rcases h with⟨h1,h2,rfl⟩|⟨p,q,xs,ys,f,rfl,rfl,s1,s2,hf,rfl⟩|⟨p,q,xs,ys,f,rfl,rfl,s1,s2,hf,rfl⟩|⟨rfl,h⟩
  ·rcases h' with⟨h1',h2',rfl⟩|⟨p,q,xs,ys,f,rfl,rfl,s1,s2,hf,rfl⟩|⟨p,q,xs,ys,f,rfl,rfl,s1,s2,hf,rfl⟩|⟨rfl,h⟩
   ·rfl
   ·cases h1
   ·cases h1
   ·rcases h with⟨p,xs,rfl,_,h⟩|⟨p,xs,rfl,_,h⟩|⟨p,q,xs,ys,rfl,rfl,s1,s2⟩|⟨p,q,xs,ys,rfl,rfl,s1,s2⟩
    ·cases h1
    ·cases h2
    ·cases h1
    ·cases h1
  ·rcases h' with⟨h1',h2',rfl⟩|⟨p',q',xs',ys',f',e1,e2,s1',s2',hf',rfl⟩|⟨p',q',xs',ys',f',e1,e2,s1',s2',hf',rfl⟩|⟨rfl,h⟩
   ·cases h1'
   ·cases e1;cases e2;have:=I.tuple_inj s1 s1';subst this;have:=I.tuple_inj s2 s2';subst this;rw[K_ λj hj=>ih _ _ _ _ (hf j (xs[j]' 0x0) (ys[j]' 0x0) (C9 _) (C9 _)) (hf' j (xs[j]' 0x0) (ys[j]' 0x0) (C9 _) (C9 _))]
   ·cases e1;exact(V6 I s1 s1').elim
   ·rcases h with⟨p',xs',e1,_,h⟩|⟨p',xs',e1,_,h⟩|⟨p',q',xs',ys',e1,e2,s1',s2'⟩|⟨p',q',xs',ys',e1,e2,s1',s2'⟩
    ·cases h
    ·cases h
    ·cases e2;exact(V6 I s2 s2').elim
    ·cases e1;exact(V6 I s1 s1').elim
  ·rcases h' with⟨h1',h2',rfl⟩|⟨p',q',xs',ys',f',e1,e2,s1',s2',hf',rfl⟩|⟨p',q',xs',ys',f',e1,e2,s1',s2',hf',rfl⟩|⟨rfl,h⟩
   ·cases h1'
   ·cases e1;exact(V6 I s1' s1).elim
   ·cases e1;cases e2;have:=I.list_inj s1 s1';subst this;have:=I.list_inj s2 s2';subst this;rw[K_ λj hj=>ih _ _ _ _ (hf j (xs[j]' 0x0) (ys[j]' 0x0) (C9 _) (C9 _)) (hf' j (xs[j]' 0x0) (ys[j]' 0x0) (C9 _) (C9 _))]
   ·rcases h with⟨p',xs',e1,_,h⟩|⟨p',xs',e1,_,h⟩|⟨p',q',xs',ys',e1,e2,s1',s2'⟩|⟨p',q',xs',ys',e1,e2,s1',s2'⟩
    ·cases h
    ·cases h
    ·cases e1;exact(V6 I s1' s1).elim
    ·cases e2;exact(V6 I s2' s2).elim
  ·rcases h' with⟨h1',h2',rfl⟩|⟨p',q',xs',ys',f',rfl,rfl,s1',s2',hf',rfl⟩|⟨p',q',xs',ys',f',rfl,rfl,s1',s2',hf',rfl⟩|⟨rfl,h'⟩
   ·rcases h with⟨p,xs,rfl,_,h⟩|⟨p,xs,rfl,_,h⟩|⟨p,q,xs,ys,rfl,rfl,s1,s2⟩|⟨p,q,xs,ys,rfl,rfl,s1,s2⟩
    ·cases h1'
    ·cases h2'
    ·cases h1'
    ·cases h1'
   ·rcases h with⟨p,xs,e1,_,h⟩|⟨p,xs,e1,_,h⟩|⟨p,q,xs,ys,e1,e2,s1,s2⟩|⟨p,q,xs,ys,e1,e2,s1,s2⟩
    ·cases h
    ·cases h
    ·cases e2;exact(V6 I s2' s2).elim
    ·cases e1;exact(V6 I s1' s1).elim
   ·rcases h with⟨p,xs,e1,_,h⟩|⟨p,xs,e1,_,h⟩|⟨p,q,xs,ys,e1,e2,s1,s2⟩|⟨p,q,xs,ys,e1,e2,s1,s2⟩
    ·cases h
    ·cases h
    ·cases e1;exact(V6 I s1 s1').elim
    ·cases e2;exact(V6 I s2 s2').elim
   ·rfl
open Classical in
def Ep (I:Inv X jb σ H s)(hu:A.units+d<cLine)(r:Vals ys jf)(rx:RelV x v)(hf:∀(j:Nat) z,ys[j]?=some z->EqD X.K H d z x (f j)) :
   ∃e:A3->Bool,(∀y,y∈jf->Ag A s y v (e y))/\jf.any e=(C2 ys.length).any f:=by
 have key:∀(j j':Nat) (z:A3),jf[j]?=some z->jf[j']?=some z->f j=f j':=by
  intro j j' z h h';obtain⟨hj,_⟩:=D3.mp h;obtain⟨hj',_⟩:=D3.mp h';obtain⟨w1,a1,b1⟩:=r.getE hj;obtain⟨w2,a2,b2⟩:=r.getE hj';rw[C9 hj] at h;rw[C9 hj'] at h';cases h;rw[L4 h'] at b2;have:=b1.inj b2;subst this;exact EqD.det I d _ _ _ _ (hf j _ a1) (hf j' _ a2)
 let e:A3->Bool:=λy=>decide (∃j,jf[j]?=some y/\f j=true)
 have he:∀(j:Nat) (y:A3),jf[j]?=some y->e y=f j:=by
  intro j y h;show decide _=_;cases hb:f j with
  |true=>exact jq ⟨j,h,hb⟩
  |false=>exact jr λ⟨j',h1,h2⟩=>by rw[key j j' y h h1,h2] at hb;cases hb
 refine⟨e,λy hy=>?_,?_⟩
 ·obtain⟨j,hj,rfl⟩:=Ca hy;obtain⟨w1,a1,b1⟩:=r.getE hj;rw[he j _ (C9 hj)];exact((hf j w1 a1).at I d A w1 x _ v (f j) hu b1 rx).1
 ·have hl:=r.length;rw[V0,k9,k9];constructor
  ·rintro⟨y,hy,h⟩;obtain⟨j,hj,rfl⟩:=Ca hy;exact⟨j,J9.mpr 0x0,by rw[<- he j _ (C9 hj)];exact h⟩
  ·rintro⟨j,hj,h⟩;have hj':j<jf.length:=by have:=J9.mp hj;ext
   exact⟨jf[j],y0 hj',by rw[he j _ (C9 hj')];exact h⟩
def op_inD (d:Nat)(hu:X.A.units+(d+1)<cLine):OpR X (K6 .In) (rInD X.K d false):=by
 intro jb s σ H x y v u Q I rx ry h;obtain⟨p,ys,f,rfl,hq,hf,q⟩:=h;cases ry;rcases hq with hq|hq
 ·obtain⟨jf,r,il⟩:=I.sqL hq;obtain⟨e,h1,h2⟩:=Ep I (A:=X.A.in1) (by rw[CM];ext) r rx hf;refine SeqAt.in_listAt e il (λy hy=>h1 y (by simpa using hy)) ⟨.bl _,H,I,rfl,?_⟩;rw[show jf.toArray.any e=jf.any e by simp,h2];exact q
 ·obtain⟨jf,r,il⟩:=I.sqT hq;obtain⟨e,h1,h2⟩:=Ep I (A:=X.A.in1) (by rw[CM];ext) r rx hf;refine SeqAt.in_tupleAt e il (λy hy=>h1 y (by simpa using hy)) ⟨.bl _,H,I,rfl,?_⟩;rw[show jf.toArray.any e=jf.any e by simp,h2];exact q
def PR (d:Nat)(hu:X.A.units+(d+1)<cLine):OpR X (K6 .NotIn) (rInD X.K d true):=by
 intro jb s σ H x y v u Q I rx ry h;obtain⟨p,ys,f,rfl,hq,hf,q⟩:=h;cases ry;rcases hq with hq|hq
 ·obtain⟨jf,r,il⟩:=I.sqL hq;obtain⟨e,h1,h2⟩:=Ep I (A:=X.A.in1) (by rw[CM];ext) r rx hf;refine SeqAt.notIn_listAt e il (λy hy=>h1 y (by simpa using hy)) ⟨.bl _,H,I,rfl,?_⟩;rw[show jf.toArray.any e=jf.any e by simp,h2];exact q
 ·obtain⟨jf,r,il⟩:=I.sqT hq;obtain⟨e,h1,h2⟩:=Ep I (A:=X.A.in1) (by rw[CM];ext) r rx hf;refine SeqAt.notIn_tupleAt e il (λy hy=>h1 y (by simpa using hy)) ⟨.bl _,H,I,rfl,?_⟩;rw[show jf.toArray.any e=jf.any e by simp,h2];exact q
end
end L2
namespace Pu
open PySem PySem.Spec L2
noncomputable def o9:PV->Bool
 |.non=>true
 |.bl _=>true
 |.int _=>true
 |.str _=>true
 |_=>false
noncomputable def cmpb:Nat->PV->Bool
 |0,x=>o9 x
 |d+1,.tup xs=>xs.all (cmpb d)
 |d+1,.lst xs=>xs.all (cmpb d)
 |_+1,x=>o9 x
mutual
def eqP:PV->PV->Bool
 |.non,.non=>true
 |.bl a,.bl b=>a == b
 |.bl a,.int b=>(if a then 1 else 0) == b
 |.int a,.bl b=>a == (if b then 1 else 0)
 |.int a,.int b=>a == b
 |.str a,.str b=>a == b
 |.tup xs,.tup ys=>eqPs xs ys
 |.lst xs,.lst ys=>eqPs xs ys
 |_,_=>false
def eqPs:List PV->List PV->Bool
 |[],[]=>true
 |x::xs,y::ys=>eqP x y&&eqPs xs ys
 |_,_=>false
end
theorem GV:∀(xs ys:List PV),((C2 (min xs.length ys.length)).all (λj=>match xs[j]?,ys[j]? with|some x,some y=>eqP x y|_,_=>false)&&xs.length == ys.length)=eqPs xs ys
 |[],[]=>rfl
 |[],_::_=>rfl
 |_::_,[]=>rfl
 | x :: xs, y :: ys => by
  have ih:=GV xs ys;show _=(eqP x y&&eqPs xs ys);rw[<- ih];simp only[D5,Nat.succ_min_succ,List.range_succ_eq_map,List.all_cons,List.all_map,Function.comp_def,Gk,BY];rw[Bool.and_assoc]
  congr 1
  simp
section
variable {K:A8}{G:Gh}{H:Hp}
inductive Sort3 (K:A8)(G:Gh)(H:Hp)(d:Nat)(x:PV)(v:V):Prop where
 |fl (h:P7 v=true) (s:o9 x=true)
 |tp (p:A1) (xs:List PV) (vs:List V) (e:x=.tup xs) (ev:v=.ref p) (h:SqT K H p vs) (r:Reps K G H xs vs) (c:xs.all (cmpb d)=true)
 |ls (p:A1) (xs:List PV) (vs:List V) (e:x=.lst xs) (ev:v=.ref p) (h:SqL K H p vs) (r:Reps K G H xs vs) (c:xs.all (cmpb d)=true)
def Br (s:o9 x=true)(h:RdV K G H x v):P7 v=true:=by
 cases x with
 |non=>rw[h.non];rfl
 |bl b=>rw[h.bl];rfl
 |int b=>rw[h.int];rfl
 |str b=>rw[h.str];rfl
 |_=>cases s
def Er (c:cmpb (d+1) x=true)(h:RdV K G H x v):Sort3 K G H d x v:=by
 cases x with
 | tup xs =>
  obtain⟨a,vs,e,t,r⟩:=h.tup;exact .tp a xs vs rfl e t r c
 | lst xs =>
  obtain⟨a,vs,e,t,r⟩:=h.lst;exact .ls a xs vs rfl e t r c
 |non=>exact .fl (Br c h) c
 |bl _=>exact .fl (Br c h) c
 |int _=>exact .fl (Br c h) c
 |str _=>exact .fl (Br c h) c
 |ty _=>cases c
 |pot _=>cases c
 |scr _=>cases c
 |dct _ _=>cases c
 |fdt _ _=>cases c
def La (sx:o9 x=true)(sy:o9 y=true)(hx:RdV K G H x v)(hy:RdV K G H y u):eqP x y=eqV v u:=by
 cases x with
 | non =>
  cases hx.non;cases y with
  |non=>cases hy.non;rfl
  |bl j=>cases hy.bl;rfl
  |int j=>cases hy.int;rfl
  |str j=>cases hy.str;rfl
  |_=>cases sy
 | bl i =>
  cases hx.bl;cases y with
  |non=>cases hy.non;rfl
  |bl j=>cases hy.bl;rfl
  |int j=>cases hy.int;rfl
  |str j=>cases hy.str;rfl
  |_=>cases sy
 | int i =>
  cases hx.int;cases y with
  |non=>cases hy.non;rfl
  |bl j=>cases hy.bl;rfl
  |int j=>cases hy.int;rfl
  |str j=>cases hy.str;rfl
  |_=>cases sy
 | str i =>
  cases hx.str;cases y with
  |non=>cases hy.non;rfl
  |bl j=>cases hy.bl;rfl
  |int j=>cases hy.int;rfl
  |str j=>cases hy.str;rfl
  |_=>cases sy
 |_=>cases sx
def Es (sy:o9 y=true):eqP (.tup xs) y=false/\eqP (.lst xs) y=false/\eqP y (.tup xs)=false/\eqP y (.lst xs)=false:=by
 cases y <;> first|exact⟨rfl,rfl,rfl,rfl⟩|cases sy
def GX:∀(d:Nat) (x y:PV) (v u:V),cmpb d x=true->cmpb d y=true->RdV K G H x v->RdV K G H y u->EqD K H d v u (eqP x y):=by
 intro d
 induction d with
 |zero=>intro x y v u cx cy hx hy;exact⟨Br cx hx,Br cy hy,La cx cy hx hy⟩
 | succ d ih =>
  intro x y v u cx cy hx hy
  have el:∀(xs ys:List PV) (vs us:List V),Reps K G H xs vs->Reps K G H ys us->xs.all (cmpb d)=true->ys.all (cmpb d)=true->∀(j:Nat) x' y',vs[j]?=some x'->us[j]?=some y'->EqD K H d x' y' (match xs[j]?,ys[j]? with|some x,some y=>eqP x y|_,_=>false):=by
   intro xs ys vs us r1 r2 c1 c2 j x' y' e1 e2;obtain⟨x1,ex,rx⟩:=r1.get e1;obtain⟨y1,ey,ry⟩:=r2.get e2;rw[ex,ey];exact ih x1 y1 x' y' (C6.mp c1 x1 (G4 ex)) (C6.mp c2 y1 (G4 ey)) (.inl rx) (.inl ry)
  cases Er cx hx with
  | fl fx sx =>
   cases Er cy hy with
   |fl fy sy=>exact .inl ⟨fx,fy,La sx sy hx hy⟩
   |tp q ys us e ev h r c=>subst e;exact .inr (.inr (.inr ⟨(Es sx).2.2.1,.inr (.inl ⟨q,us,ev,.inl h,fx⟩)⟩))
   |ls q ys us e ev h r c=>subst e;exact .inr (.inr (.inr ⟨(Es sx).2.2.2,.inr (.inl ⟨q,us,ev,.inr h,fx⟩)⟩))
  | tp p xs vs e ev h r c =>
   subst e;cases Er cy hy with
   |fl fy sy=>exact .inr (.inr (.inr ⟨(Es sy).1,.inl ⟨p,vs,ev,.inl h,fy⟩⟩))
   | tp q ys us e2 ev2 h2 r2 c2 =>
    subst e2;refine .inr (.inl ⟨p,q,vs,us,_,ev,ev2,h,h2,el xs ys vs us r r2 c c2,?_⟩);rw[<- r.length,<- r2.length];exact(GV xs ys).symm
   |ls q ys us e2 ev2 h2 r2 c2=>subst e2;exact .inr (.inr (.inr ⟨rfl,.inr (.inr (.inl ⟨p,q,vs,us,ev,ev2,h,h2⟩))⟩))
  | ls p xs vs e ev h r c =>
   subst e;cases Er cy hy with
   |fl fy sy=>exact .inr (.inr (.inr ⟨(Es sy).2.1,.inl ⟨p,vs,ev,.inr h,fy⟩⟩))
   |tp q ys us e2 ev2 h2 r2 c2=>subst e2;exact .inr (.inr (.inr ⟨rfl,.inr (.inr (.inr ⟨p,q,vs,us,ev,ev2,h,h2⟩))⟩))
   | ls q ys us e2 ev2 h2 r2 c2 =>
    subst e2;refine .inr (.inr (.inl ⟨p,q,vs,us,_,ev,ev2,h,h2,el xs ys vs us r r2 c c2,?_⟩));rw[<- r.length,<- r2.length];exact(GV xs ys).symm
end
section
variable {T:PotK}{ι:Type}{K:A8}{F:ι->Cx}{e a b c:Expr}{es rest:List Expr}{pe pa pb pc:pE}{pos:Pos}
def grd (b:Bool)(P:Prop):Prop:=match b with|true=>P|false=>False
def grd_t {P:Prop}:grd true P=P:=rfl
def X2 {b:Bool}{P:Prop}(h:b=true)(p:P):grd b P:=by subst h;exact p
def Et {b:Bool}{P:Prop}(h:grd b P):b=true:=by grind [grd]
def Bs {b:Bool}{P:Prop}(h:grd b P):P:=by cases b;exact h.elim;exact h
def gd2 {a b:Bool}{P:Prop}(h1:a=true)(h2:b=true)(p:P):grd a (grd b P):=X2 h1 (X2 h2 p)
def wEq (d:Nat):w2:=λx y R=>grd (cmpb d x) (grd (cmpb d y) (R (.bl (eqP x y))))
def wNe (d:Nat):w2:=λx y R=>grd (cmpb d x) (grd (cmpb d y) (R (.bl (!eqP x y))))
def W2.eq (d:Nat):W2 K (rEqD K d false) (wEq d):=λG H x y v u R Q hf rx ry hw k=>⟨_,GX d x y v u (Et hw) (Et (Bs hw)) rx ry,k _ _ _ (Bs (Bs hw)) (Same.refl _) rfl⟩
def W2.ne (d:Nat):W2 K (rEqD K d true) (wNe d):=λG H x y v u R Q hf rx ry hw k=>⟨_,GX d x y v u (Et hw) (Et (Bs hw)) rx ry,k _ _ _ (Bs (Bs hw)) (Same.refl _) rfl⟩
def memP (x:PV)(ys:List PV):Bool:=ys.any λy=>eqP y x
def wIn (d:Nat)(neg:Bool):w2:=λx y R=>match x,y with
 |.str i,.str j=>R (.bl (if neg then !(!(Bb j i 0 j.length 1).isEmpty) else !(Bb j i 0 j.length 1).isEmpty))
 |x,.lst ys=>cmpb d x=true/\ys.all (cmpb d)=true/\R (.bl (if neg then !memP x ys else memP x ys))
 |x,.tup ys=>cmpb d x=true/\ys.all (cmpb d)=true/\R (.bl (if neg then !memP x ys else memP x ys))
 |_,_=>False
theorem Lb {x:PV}:∀ys:List PV,((C2 ys.length).any λj=>match ys[j]? with|some y=>eqP y x|none=>false)=memP x ys
 |[]=>rfl
 | y :: ys => by
  have ih:=Lb (x:=x) ys;show _=(eqP y x||memP x ys);rw[<- ih];simp only[D5,List.range_succ_eq_map,List.any_cons,List.any_map,Function.comp_def,Gk,BY]
def W2.in_ {K:A8}(d:Nat)(neg:Bool){r:R2}(hr:∀x y H Q,(∃i j,x=.str i/\y=.str j/\Q (.bl (if neg then !(!(Bb j i 0 j.length 1).isEmpty) else !(Bb j i 0 j.length 1).isEmpty)) H)\/rInD K d neg x y H Q->r x y H Q):W2 K r (wIn d neg):=by
 intro G H x y v u R Q hf rx ry hw k;refine hr _ _ _ _ ?_
 have seq:∀(ys:List PV) (p:A1) (us:List V),u=.ref p->(SqL K H p us\/SqT K H p us)->Reps K G H ys us->cmpb d x=true/\ys.all (cmpb d)=true/\R (.bl (if neg then !memP x ys else memP x ys))->rInD K d neg v u H Q:=by
  intro ys p us eu hq r h;refine⟨p,us,λj=>match ys[j]? with|some y=>eqP y x|none=>false,eu,hq,λj z ez=>?_,?_⟩
  ·obtain⟨y1,ey,ry⟩:=r.get ez;dsimp only;rw[ey];exact GX d y1 x z v (C6.mp h.2.1 y1 (G4 ey)) h.1 (.inl ry) rx
  ·rw[<- r.length,Lb];exact k _ _ _ h.2.2 (Same.refl _) rfl
 unfold wIn at hw
 split at hw
 ·exact .inl ⟨_,_,rx.str,ry.str,k _ _ _ hw (Same.refl _) rfl⟩
 ·obtain⟨p,us,eu,hq,r⟩:=ry.lst;exact .inr (seq _ p us eu (.inl hq) r hw)
 ·obtain⟨p,us,eu,hq,r⟩:=ry.tup;exact .inr (seq _ p us eu (.inr hq) r hw)
 ·exact hw.elim
def wLt:w2:=λx y R=>match x,y with|.int i,.int j=>R (.bl (decide (i<j)))|.str i,.str j=>R (.bl (decide (i.cps.toList<j.cps.toList)))|_,_=>False
def wLe:w2:=λx y R=>match x,y with|.int i,.int j=>R (.bl (decide (i<=j)))|.str i,.str j=>R (.bl (!decide (j.cps.toList<i.cps.toList)))|_,_=>False
def wGt:w2:=wI0 λi j=>.bl (decide (j<i))
noncomputable def W2.lt:W2 K (λx y H Q=>(rI0 λi j=>.bl (decide (i<j))) x y H Q\/∃i j,x=.str i/\y=.str j/\Q (.bl (decide (i.cps.toList<j.cps.toList))) H) wLt:=by
 intro G H x y v u R Q hf rx ry hw k;unfold wLt at hw
 split at hw
 ·exact .inl ⟨_,_,rx.int,ry.int,k _ _ _ hw (Same.refl _) rfl⟩
 ·exact .inr ⟨_,_,rx.str,ry.str,k _ _ _ hw (Same.refl _) rfl⟩
 ·exact hw.elim
def W2.le:W2 K (λx y H Q=>(rI0 λi j=>.bl (decide (i<=j))) x y H Q\/∃i j,x=.str i/\y=.str j/\Q (.bl (!decide (j.cps.toList<i.cps.toList))) H) wLe:=by
 intro G H x y v u R Q hf rx ry hw k;unfold wLe at hw
 split at hw
 ·exact .inl ⟨_,_,rx.int,ry.int,k _ _ _ hw (Same.refl _) rfl⟩
 ·exact .inr ⟨_,_,rx.str,ry.str,k _ _ _ hw (Same.refl _) rfl⟩
 grind
noncomputable def Eu:PV->Bool
 |.non=>true
 |_=>false
def wIsN:w2:=λx y R=>match y with|.non=>R (.bl (Eu x))|_=>False
def p5:w2:=λx y R=>match y with|.non=>R (.bl (!Eu x))|_=>False
def isnon {K:A8}{G:Gh}{H:Hp}{x:PV}{v:V}(h:RdV K G H x v):decide (v=.non)=Eu x:=by
 cases x with
 |non=>rw[h.non];rfl
 |bl b=>rw[h.bl];rfl
 |int b=>rw[h.int];rfl
 |str b=>rw[h.str];rfl
 |tup xs=>obtain⟨a,vs,e,_⟩:=h.tup;rw[e];rfl
 |lst xs=>obtain⟨a,vs,e,_⟩:=h.lst;rw[e];rfl
 |ty n=>rw[show v=.ty n from h.rep (λ_ z=>nomatch z)];rfl
 |pot k=>obtain⟨p,_,e⟩:=h.rep (λ_ z=>nomatch z);rw[e];rfl
 |scr k=>obtain⟨p,e,_⟩:=h.rep (λ_ z=>nomatch z);rw[e];rfl
 |dct ks xs=>obtain⟨a,jg,e,_⟩:=h.rep (λ_ z=>nomatch z);rw[e];rfl
 |fdt ks xs=>obtain⟨a,jg,e,_⟩:=h.rep (λ_ z=>nomatch z);rw[e];rfl
def W2.isN {K:A8}:W2 K (λx y H Q=>y=.non/\Q (.bl (decide (x=.non))) H) wIsN:=by
 intro G H x y v u R Q hf rx ry hw k;unfold wIsN at hw
 split at hw
 ·exact⟨ry.non,k _ _ _ hw (Same.refl _) (by rw[isnon rx];rfl)⟩
 ·exact hw.elim
def W2.notN {K:A8}:W2 K (λx y H Q=>y=.non/\Q (.bl (!decide (x=.non))) H) p5:=by
 intro G H x y v u R Q hf rx ry hw k;unfold p5 at hw
 split at hw
 ·refine⟨ry.non,k _ _ _ hw (Same.refl _) ?_⟩;rw[isnon rx]
  rfl
 ·exact hw.elim
structure Cmp {ι:Type}(K:A8)(F:ι->Cx)(op:CmpOp)(w:w2):Prop where
 ex:∃r,(∀z,OpR (F z) (K6 op) r)/\W2 K r w
def cEq (d:Nat)(hr:∀z,Room k (F z).A)(hd:d<=30:=by decide)(hK:∀z,(F z).K=K:=by intro _;rfl):Cmp K F .Eq (wEq d):=⟨_,λz=>hK z▸op_eqD d (by have:=(hr z).units;ext),W2.eq d⟩
def cNe (d:Nat)(hr:∀z,Room k (F z).A)(hd:d<=30:=by decide)(hK:∀z,(F z).K=K:=by intro _;rfl):Cmp K F .NotEq (wNe d):=⟨_,λz=>hK z▸op_neD d (by have:=(hr z).units;ext),W2.ne d⟩
def cIn (d:Nat)(hr:∀z,Room k (F z).A)(hd:d<=30:=by decide)(hK:∀z,(F z).K=K:=by intro _;rfl):Cmp K F .In (wIn d false):=⟨_,λz=>OE.or (hK z▸op_inD d (by have:=(hr z).units;ext)),W2.in_ d false λ_ _ _ _ h=>h⟩
def cNotIn (d:Nat)(hr:∀z,Room k (F z).A)(hd:d<=30:=by decide)(hK:∀z,(F z).K=K:=by intro _;rfl):Cmp K F .NotIn (wIn d true):=⟨_,λz=>Pc.or (hK z▸PR d (by have:=(hr z).units;ext)),W2.in_ d true λ_ _ _ _ h=>h⟩
def cLt:Cmp K F .Lt wLt:=⟨_,λ_=>op_lt.or OD,W2.lt⟩
def cLe:Cmp K F .LtE wLe:=⟨_,λ_=>op_le.or PH,W2.le⟩
def cGt:Cmp K F .Gt wGt:=⟨_,λ_=>op_gt,W2.I0 λ_ _ _ _=>rfl⟩
def cIs:Cmp K F .Is wIsN:=⟨_,λ_=>op_isN,W2.isN⟩
def cIsNot:Cmp K F .IsNot p5:=⟨_,λ_=>OF,W2.notN⟩
def qe_cmp (hc:Cmp K F op w)(ha:QE T K F a pa)(hb:QR T K F b pb)(hm:w6 op b=false):QE T K F (.Compare a [op] [b] pos) (qOp w pa pb):=by
 obtain⟨r,ho,hw⟩:=hc.ex;obtain⟨ta,h1,h2⟩:=ha;obtain⟨tb,h3,h4⟩:=hb;exact⟨_,λz=>Kh (ho z) (h1 z) (h3 z) hm,CK hw h2 h4⟩
def qB (pe:pE):pT:=λenv n R=>pe env n λx jh n'=>match x with|.bl b=>R b jh n'|_=>False
def ok_b (h:EOk K T t pe):TOk K T (tB t) (qB pe):=λC G σ H env n R Q hK hT S hp k=>by
 refine ↥h λx jh n' v H' r S' rp f=>?_;cases x with
 |bl b=>exact⟨b,rp,k _ _ _ _ r S' f⟩
 |_=>exact r.elim
def GY (h:EOk K T t pe):TOk K T (GE t) (qB pe):=λC G σ H env n R Q hK hT S hp k=>by
 refine ↥h λx jh n' v H' r S' rp f=>?_;cases x with
 |bl b=>exact⟨b,rp,k _ _ _ _ r S' f⟩
 |_=>exact r.elim
def Lc (h:QE T K F e pe)(he:∀z whole,isTrue e (F z).env whole=(do let v ← whole;Y0 e.pos;Q3 [v] (truthy v)):=by intro _ _;rfl):QT T K F e (qB pe):=by
 obtain⟨t,h1,h2⟩:=h;exact⟨_,λz=>pt_val (h1 z) (he z),ok_b h2⟩
def Bt (hc:Cmp K F op w)(ha:QE T K F a pa)(hb:QR T K F b pb)(hm:w6 op b=false):QT T K F (.Compare a [op] [b] pos) (qB (qOp w pa pb)):=by
 obtain⟨r,ho,hw⟩:=hc.ex;obtain⟨ta,h1,h2⟩:=ha;obtain⟨tb,h3,h4⟩:=hb;exact⟨_,λz=>CA (ho z) (h1 z) (h3 z) hm,GY (CK hw h2 h4)⟩
def PU (hc:Cmp K F op w)(ha:QR T K F a pa)(hb:QR T K F b pb)(hm:w6 op b=false):QT T K F (.Compare a [op] [b] pos) (qB (qOpR w pa pb)):=by
 obtain⟨r,ho,hw⟩:=hc.ex;obtain⟨ta,h1,h2⟩:=ha;obtain⟨tb,h3,h4⟩:=hb;exact⟨_,λz=>CA (ho z) (h1 z) (h3 z) hm,GY (KW hw h2 h4)⟩
def V7 (w w':w2)(pa pb pc:pE):pE:=λenv n R=>pa env n λx jc n1=>pb jc n1 λy jd n2=>w x y λz=>match z with|.bl k=>if k=true then pc jd n2 λu je n3=>w' y u λz=>R z je n3 else R (.bl false) jd n2|_=>False
def Ld (hw:W2 K r w)(hw':W2 K r' w')(ha:EOk K T ta pa)(hb:EOk K T tb pb)(hc:EOk K T tc pc):EOk K T (GF r r' ta tb tc) (V7 w w' pa pb pc):=λC G σ H env n R Q hK hT S hp k=>by
 refine ↥ha λx jc n1 v H1 p1 S1 r1 f1=>?_;refine hb C G σ H1 jc n1 _ _ hK hT S1 p1 λy jd n2 u H2 p2 S2 r2 f2=>?_;subst hK;refine hw G H2 x y v u _ _ (λp hp=>S2.fresh hp) (.inl (r1.fr f2)) (.inl r2) p2 λz v' H' rz s rv=>?_;cases z with
 | bl kk =>
  refine⟨kk,rv,?_⟩;cases kk with
  |false=>exact k _ _ _ _ _ rz (S2.same s) rfl ((f1.trans f2).trans (Fr.of s))
  | true =>
   refine hc C G σ H' jd n2 _ _ rfl hT (S2.same s) rz λc3 je n3 v3 H3 p3 S3 r3 f3=>?_;exact hw' G H3 y c3 u v3 _ _ (λp hp=>S3.fresh hp) (.inl ((r2.same s).fr f3)) (.inl r3) p3 λz v' H4 rz s4 rv=>k _ _ _ _ _ rz (S3.same s4) rv ((((f1.trans f2).trans (Fr.of s)).trans f3).trans (Fr.of s4))
 |_=>exact rz.elim
def PX (hc:Cmp K F op w)(hc':Cmp K F op' w')(ha:QE T K F a pa)(hb:QE T K F b pb)(hcc:QE T K F c pc)(hm:lastMarks [op,op'] [b,c]=false):QE T K F (.Compare a [op,op'] [b,c] pos) (V7 w w' pa pb pc):=by
 obtain⟨r,ho,hw⟩:=hc.ex;obtain⟨r',ho',hw'⟩:=hc'.ex;obtain⟨ta,a1,a2⟩:=ha;obtain⟨tb,b1,b2⟩:=hb;obtain⟨tc,c1,c2⟩:=hcc;exact⟨_,λz=>OG (ho z) (ho' z) (a1 z) (b1 z) (c1 z) hm,Ld hw hw' a2 b2 c2⟩
def PY (hc:Cmp K F op w)(hc':Cmp K F op' w')(ha:QE T K F a pa)(hb:QE T K F b pb)(hcc:QE T K F c pc)(hm:lastMarks [op,op'] [b,c]=false):QT T K F (.Compare a [op,op'] [b,c] pos) (qB (V7 w w' pa pb pc)):=by
 obtain⟨r,ho,hw⟩:=hc.ex;obtain⟨r',ho',hw'⟩:=hc'.ex;obtain⟨ta,a1,a2⟩:=ha;obtain⟨tb,b1,b2⟩:=hb;obtain⟨tc,c1,c2⟩:=hcc;exact⟨_,λz=>OH (ho z) (ho' z) (a1 z) (b1 z) (c1 z) hm,GY (Ld hw hw' a2 b2 c2)⟩
variable {pt pu:pT}
def qAnd (t u:pT):pT:=λenv n R=>t env n λb jc n1=>if b=true then u jc n1 R else R false jc n1
def qOr (t u:pT):pT:=λenv n R=>t env n λb jc n1=>if b=true then R true jc n1 else u jc n1 R
def qNot (t:pT):pT:=λenv n R=>t env n λb jc n1=>R (!b) jc n1
def ok_and (h:TOk K T t pt)(h':TOk K T u pu):TOk K T (tAnd t u) (qAnd pt pu):=λC G σ H env n R Q hK hT S hp k=>by
 refine ↥h λb jc n1 H1 p1 S1 f1=>?_;cases b with
 |true=>exact h' C G σ H1 jc n1 _ _ hK hT S1 p1 λb jd n2 H2 p2 S2 f2=>k _ _ _ _ p2 S2 (f1.trans f2)
 |false=>exact k _ _ _ _ p1 S1 f1
def ok_or (h:TOk K T t pt)(h':TOk K T u pu):TOk K T (tOr t u) (qOr pt pu):=λC G σ H env n R Q hK hT S hp k=>by
 refine ↥h λb jc n1 H1 p1 S1 f1=>?_;cases b with
 |false=>exact h' C G σ H1 jc n1 _ _ hK hT S1 p1 λb jd n2 H2 p2 S2 f2=>k _ _ _ _ p2 S2 (f1.trans f2)
 |true=>exact k _ _ _ _ p1 S1 f1
def ok_not {K:A8}{t:TT}(h:TOk K T t pt):TOk K T (tNot t) (qNot pt):=λC G σ H env n R Q hK hT S hp k=>↥h λb jc n1 H1 p1 S1 f1=>k _ _ _ _ p1 S1 f1
def PZ (ha:QT T K F a pt):QW T K F (.BoolOp .And [a] pos) pt:=let ⟨t,h1,h2⟩:=ha;⟨t,λz=>Kd (h1 z),h2⟩
def Le (ha:QT T K F a pt):QW T K F (.BoolOp .Or [a] pos) pt:=let ⟨t,h1,h2⟩:=ha;⟨t,λz=>pw_or1 (h1 z),h2⟩
def qw_and (ha:QT T K F a pt)(hb:QW T K F (.BoolOp .And (b::rest) pos) pu):QW T K F (.BoolOp .And (a::b::rest) pos) (qAnd pt pu):=let ⟨t,h1,h2⟩:=ha;let ⟨u,h3,h4⟩:=hb;⟨_,λz=>Ke (h1 z) (h3 z),ok_and h2 h4⟩
def GZ (ha:QT T K F a pt)(hb:QW T K F (.BoolOp .Or (b::rest) pos) pu):QW T K F (.BoolOp .Or (a::b::rest) pos) (qOr pt pu):=let ⟨t,h1,h2⟩:=ha;let ⟨u,h3,h4⟩:=hb;⟨_,λz=>pw_or (h1 z) (h3 z),ok_or h2 h4⟩
def QW.qt (h:QW T K F e pt):QT T K F e pt:=let ⟨t,h1,h2⟩:=h;⟨t,λz=>(h1 z).pt,h2⟩
def Lf (ha:QT T K F a pt):QT T K F (.UnaryOp .Not a pos) (qNot pt):=let ⟨t,h1,h2⟩:=ha;⟨_,λz=>pt_not (h1 z),ok_not h2⟩
def P9 (pa pb:pE):pE:=λenv n R=>pa env n λx jc n1=>match x with|.bl b=>if b=true then pb jc n1 R else R (.bl false) jc n1|_=>False
def qOrV (pa pb:pE):pE:=λenv n R=>pa env n λx jc n1=>match x with|.bl b=>if b=true then R (.bl true) jc n1 else pb jc n1 R|_=>False
def qe_one {op}(h:QE T K F a pa):QE T K F (.BoolOp op [a] pos) pa:=let ⟨t,h1,h2⟩:=h;⟨t,λz=>pe_one (h1 z),h2⟩
def qe_and (ha:QE T K F a pa)(hb:QE T K F (.BoolOp .And (b::rest) pos) pb):QE T K F (.BoolOp .And (a::b::rest) pos) (P9 pa pb):=by
 obtain⟨t,h1,h2⟩:=ha;obtain⟨u,h3,h4⟩:=hb;refine⟨_,λz=>pe_and (h1 z) (h3 z),⇑?_⟩;refine ↥h2 λx jc n1 v H1 p1 S1 r1 f1=>?_;cases x with
 | bl c =>
  refine⟨c,r1,?_⟩;cases c with
  |true=>exact h4 C G σ H1 jc n1 _ _ hK hT S1 p1 λx jd n2 v H2 p2 S2 r2 f2=>k _ _ _ _ _ p2 S2 r2 (f1.trans f2)
  |false=>exact k _ _ _ _ _ p1 S1 rfl f1
 |_=>exact p1.elim
def qe_or (ha:QE T K F a pa)(hb:QE T K F (.BoolOp .Or (b::rest) pos) pb):QE T K F (.BoolOp .Or (a::b::rest) pos) (qOrV pa pb):=by
 obtain⟨t,h1,h2⟩:=ha;obtain⟨u,h3,h4⟩:=hb;refine⟨_,λz=>pe_or (h1 z) (h3 z),⇑?_⟩;refine ↥h2 λx jc n1 v H1 p1 S1 r1 f1=>?_;cases x with
 | bl c =>
  refine⟨c,r1,?_⟩;cases c with
  |false=>exact h4 C G σ H1 jc n1 _ _ hK hT S1 p1 λx jd n2 v H2 p2 S2 r2 f2=>k _ _ _ _ _ p2 S2 r2 (f1.trans f2)
  |true=>exact k _ _ _ _ _ p1 S1 rfl f1
 |_=>exact p1.elim
def qIf (t:pT)(pa pb:pE):pE:=λenv n R=>t env n λb jc n1=>if b=true then pa jc n1 R else pb jc n1 R
def qe_if (hc:QT T K F c pt)(ha:QE T K F a pa)(hb:QE T K F b pb):QE T K F (.IfExp c a b pos) (qIf pt pa pb):=by
 obtain⟨tc,c1,c2⟩:=hc;obtain⟨t,h1,h2⟩:=ha;obtain⟨u,h3,h4⟩:=hb;refine⟨_,λz=>Oo (c1 z) (h1 z) (h3 z),⇑?_⟩;refine ↥c2 λd jc n1 H1 p1 S1 f1=>?_;cases d with
 |true=>exact h2 C G σ H1 jc n1 _ _ hK hT S1 p1 λx jd n2 v H2 p2 S2 r2 f2=>k _ _ _ _ _ p2 S2 r2 (f1.trans f2)
 |false=>exact h4 C G σ H1 jc n1 _ _ hK hT S1 p1 λx jd n2 v H2 p2 S2 r2 f2=>k _ _ _ _ _ p2 S2 r2 (f1.trans f2)
variable {pl pr:pA}
def qNil:pA:=λenv n R=>R [] env n
def A0 (pe:pE)(pr:pA):pA:=λenv n R=>pe env n λx jc n1=>pr jc n1 λxs jd n2=>R (x::xs) jd n2
def Q8:QA T K F [] qNil:=⟨_,λ_=>G0,λC G σ H env n R Q hK hT S hp k=>k _ _ _ _ _ hp S Reps.nil Fr.refl⟩
def P_ (h:EOk K T t pe)(h':AOk K T u pr):AOk K T (T4 t u) (A0 pe pr):=λC G σ H env n R Q hK hT S hp k=>by
 refine ↥h λx jc n1 v H1 p1 S1 r1 f1=>?_;exact h' C G σ H1 jc n1 _ _ hK hT S1 p1 λxs jd n2 vs H2 p2 S2 r2 f2=>k _ _ _ _ _ p2 S2 (.cons (r1.fr f2) r2) (f1.trans f2)
noncomputable def D8:Expr->Bool
 |.Starred ..=>false
 |_=>true
def C5 (h:D8 e=true):D6 (e::es) env=(false,eval e env)::D6 es env:=by
 cases e <;> first|rfl|cases h
def G7 (ha:QE T K F e pe)(hr:QA T K F es pr)(h:D8 e=true:=by rfl):QA T K F (e::es) (A0 pe pr):=by
 obtain⟨t,h1,h2⟩:=ha;obtain⟨u,h3,h4⟩:=hr;exact⟨_,λz=>E3 (h1 z) (h3 z) (C5 h),P_ h2 h4⟩
def qTup (pa:pA):pE:=λenv n R=>pa env n λxs jc n1=>xs.length<=1000000/\R (.tup xs) jc n1
def qLst (pa:pA):pA:=λenv n R=>pa env n λxs jc n1=>xs.length<=1000000/\R xs jc n1
def qL (pn:pA):pE:=λenv n R=>pn env n λxs jc n1=>R (.lst xs) jc n1
def Am {x1}(h:QA T K F es pl):QE T K F (.Tuple es x1 pos) (qTup pl):=by
 obtain⟨t,h1,h2⟩:=h;refine⟨_,λz=>Ef (h1 z),⇑?_⟩;refine ↥h2 λxs jc n1 vs H1 p1 S1 r1 f1=>⟨by rw[<- r1.length];exact mil p1.1,λp hp=>?_⟩;exact k _ _ _ _ _ p1.2 (S1.same (Same.lay1 hp)) (Ak (S1.fresh hp) hp r1) (f1.trans (Fr.of (Same.lay1 hp)))
def G_ (h:QA T K F es pl):QN T K F (.List es pos) (qLst pl):=by
 obtain⟨t,h1,h2⟩:=h;refine⟨_,λz=>pe_lst (h1 z),⇑?_⟩;exact ↥h2 λxs jc n1 vs H1 p1 S1 r1 f1=>⟨by rw[<- r1.length];exact mil p1.1,λp hp=>k _ _ _ _ _ _ p1.2 S1 f1 hp r1⟩
def QN.ee (h:QN T K F e pl):QE T K F e (qL pl):=by
 obtain⟨t,h1,h2⟩:=h;refine⟨t,h1,⇑?_⟩;refine ↥h2 λxs jc n1 a vs Hb p1 S1 f1 hn r1=>?_;exact k _ _ _ _ _ p1 (S1.same (Same.lay1 hn)) (CL (S1.fresh hn) hn r1) (f1.trans (Fr.of (Same.lay1 hn)))
def Ew (h:ROk K T t pe)(hK:C.K=K)(hT:C.T=T)(S:SR C G σ H env n)(hp:pe env n R)
   (k:∀x jh n' v H',R x jh n'->SR C G σ H' jh n'->RdS C G σ H' jh x v->Fr G H H'->Q [v] H'):T4 t tNil σ H Q:=
 ↥h λx jc n1 v H1 p1 S1 r1 f1=>k _ _ _ _ _ p1 S1 r1 f1
end
end Pu
end
section
namespace HT
open PySem PySem.Spec PyProof.Rows
section
variable {prog:C3}{w:B9}{A:D0}{E:A3->A4->Prop}{s:A4}
def getItem_tuple_whole {lo hi:Option Int}(ht:IsTup s.heap t items)(hs:s.heap.IsSliceOf sl vl vu .none)(pl:IsPart vl lo)(pu:IsPart vu hi)
   (hw:sIx items.size 0 lo=0/\sIx items.size items.size hi=items.size) (h:Q (.ref t) s):A5 (A7 prog w) A (U3 (.ref t) (.ref sl)) Q E s:=by
 obtain⟨os,hos,hcs,hds⟩:=id hs;have hTs:s.TypeIs (.ref sl) "slice":=⟨os,hos,hcs⟩;have hTt:s.TypeIs (.ref t) "tuple":=ht.typeIs;unfold U3
 try with_reducible refine K5 ?_
 first|refine A2 (A9 ?_)|skip
 refine A2 (wpAny_sequenceKey ht.typeIs 0b0 ?_)
 refine A2 (T9 (name:=A6 "__getitem__") ht.typeIs AZ
   (N9 AZ ht.typeIs entry_tuple_getitem ?_ (args_tuple_getitem _ _)))
 show A5 _ _ (Gq (.ref t)>>=_) _ _ s;refine A2 (tupleItemsOf_ ht ?_);refine A2 (k6 hTs ?_);rw[jt 0b0];refine A2 (Kt hs pl pu ?_)
 have hyes:(((sIx items.size 0 lo:Nat):Int) == 0&&(1:Int) == 1&&(sIx items.size items.size hi-sIx items.size 0 lo) == items.size)=true:=by
  rw[hw.1,hw.2];simp
 show A5 _ _ (if(((sIx items.size 0 lo:Nat):Int) == 0&&(1:Int) == 1&&(sIx items.size items.size hi-sIx items.size 0 lo) == items.size)=true then _ else _) _ _ s;rw[jt hyes];unfold Builtin.Tuple.tupleIsExact;refine A2 (A2 (k6 hTt (A9 ?_)));rw[jt (by rfl)];exact A2 (X8 (A9 ⟨_,rfl,A9 h⟩))
end
end HT
namespace L2
open PySem PySem.Spec PyProof.Rows
section
variable {X:Cx}
def rSlTA (K:A8):V->Option Int->Option Int->Hp->VK->Prop:=λx lo hi H Q=>∃a xs,x=.ref a/\SqT K H a xs/\
 (cutV xs lo hi=xs->Q (.ref a) H)/\∀p,H p=none->Q (.ref p) (upd H p (.tup (cutV xs lo hi)))
def Lg:SlR X (rSlTA X.K):=by
 intro jb s σ H x v vl vu lo hi sl Q I rx hs pl pu h;obtain⟨a,xs,rfl,hx,h1,h2⟩:=h
 by_cases hw:HT.sIx xs.length 0 lo=0/\HT.sIx xs.length xs.length hi=xs.length
 ·cases rx;obtain⟨jf,r,ht,hz⟩:=I.tuple hx;have hlen:jf.toArray.size=xs.length:=by rw[E9];exact r.length.symm
  refine⟨"tuple",_,PyProof.Rows.slot_tuple_getitem.lookup,ht.typeIs,?_⟩;refine HT.getItem_tuple_whole ht hs pl pu (by rw[hlen];exact hw) ⟨.ref a,H,I,rfl,h1 ?_⟩;unfold cutV;rw[hw.1,hw.2];simp
 ·exact sl_tup jb s σ H (.ref a) v vl vu lo hi sl Q I rx hs pl pu ⟨a,xs,rfl,hx,hw,h2⟩
end
end L2
namespace Pu
open PySem PySem.Spec L2
section
variable {T:PotK}{ι:Type}{K:A8}{F:ι->Cx}{e a b c:Expr}{es rest:List Expr}{pe pa pb pc:pE}{pos:Pos}{pl pr:pA}
def wIx:w2:=λx y R=>match x,y with
 |.lst xs,.int i=>match atI xs i with|some z=>R z|none=>False
 |.tup xs,.int i=>match atI xs i with|some z=>R z|none=>False
 |.scr ns,.int i=>match atI ns i with|some z=>R (.int z)|none=>False
 |.str z,.int i=>z.length<=1000000/\match atI z.cps.toList i with|some c=>R (.str ⟨#[c]⟩)|none=>False
 |_,_=>False
def Lh (r:Reps K G H xs vs)(h:atI xs i=some z):∃v,atI vs i=some v/\Rep K G H z v:=by
 unfold atI at h ⊢;rw[<- r.length];cases e:ixN xs.length i with
 |none=>rw[e] at h;cases h
 | some j =>
  rw[e] at h;exact r.get' h
def CN (h:RdV K G H (.scr ns) v):∃a,v=.ref a/\SqL K H a (ns.map V.int):=by
 obtain⟨a,e,h⟩:=h.rep (λ_ z=>nomatch z);refine⟨a,e,?_⟩;rcases h with⟨_,o,h⟩|h
 ·exact .inl (.inr ⟨o,h⟩)
 ·exact .inr h
def W2.ix:W2 K (rIx K) wIx:=by
 intro G H x y v u R Q hf rx ry hw k;unfold wIx at hw
 split at hw
 ·rename_i xs i;obtain⟨a,vs,ev,hq,r⟩:=rx.lst;cases ez:atI xs i with
  |none=>rw[ez] at hw;exact hw.elim
  | some z =>
   rw[ez] at hw;obtain⟨v',e1,r1⟩:=Lh r ez;exact .inl ⟨a,vs,i,v',ev,ry.int,hq,e1,k _ _ _ hw (Same.refl _) r1⟩
 ·rename_i xs i;obtain⟨a,vs,ev,hq,r⟩:=rx.tup;cases ez:atI xs i with
  |none=>rw[ez] at hw;exact hw.elim
  | some z =>
   rw[ez] at hw;obtain⟨v',e1,r1⟩:=Lh r ez;exact .inr (.inl ⟨a,vs,i,v',ev,ry.int,hq,e1,k _ _ _ hw (Same.refl _) r1⟩)
 ·rename_i ns i;obtain⟨a,ev,hq⟩:=CN rx;cases ez:atI ns i with
  |none=>rw[ez] at hw;exact hw.elim
  | some z =>
   rw[ez] at hw;refine .inl ⟨a,_,i,.int z,ev,ry.int,hq,?_,k _ _ _ hw (Same.refl _) rfl⟩;unfold atI at ez ⊢;rw[B0];cases e:ixN ns.length i with
   |none=>rw[e] at ez;cases ez
   | some j =>
    rw[e] at ez;show(ns.map V.int)[j]?=_;rw[D4,show ns[j]?=some z from ez]
    rfl
 ·rename_i z i;obtain⟨hz,hw⟩:=hw;cases ez:atI z.cps.toList i with
  |none=>rw[ez] at hw;exact hw.elim
  | some c =>
   rw[ez] at hw;exact .inr (.inr ⟨z,i,c,rx.str,ry.int,mil hz,ez,k _ _ _ hw (Same.refl _) rfl⟩)
 ·exact hw.elim
def Ex (ha:QE T K F a pa)(hb:QE T K F b pb)(hs:GM b:=by exact λ_ _=>rfl)(hK:∀z,(F z).K=K:=by intro _;rfl):QE T K F (.Subscript a b pos) (qOp wIx pa pb):=by
 obtain⟨ta,h1,h2⟩:=ha;obtain⟨tb,h3,h4⟩:=hb.r;exact⟨_,λz=>GN (hK z▸Kx) (h1 z) (h3 z) hs,CK W2.ix h2 h4⟩
def qe_ixR (ha:QR T K F a pa)(hb:QE T K F b pb)(hs:GM b)(hK:∀z,(F z).K=K):QE T K F (.Subscript a b pos) (qOpR wIx pa pb):=by
 obtain⟨ta,h1,h2⟩:=ha;obtain⟨tb,h3,h4⟩:=hb.r;exact⟨_,λz=>GN (hK z▸Kx) (h1 z) (h3 z) hs,KW W2.ix h2 h4⟩
abbrev pO:=Env->Nat->(Option Int->Env->Nat->Prop)->Prop
def qNo:pO:=λenv n R=>R none env n
def E4 (pe:pE):pO:=λenv n R=>pe env n λx jc n1=>match x with|.int i=>R (some i) jc n1|_=>False
def OOk (K:A8)(T:PotK)(t:TO)(po:pO):Prop:=∀(C:Ct) (G:Gh) (σ:St) (H:Hp) (env:Env) (n:Nat) (R:Option Int->Env->Nat->Prop) (Q:Option Int->Hp->Prop),C.K=K->C.T=T->SR C G σ H env n->po env n R->
 (∀x jh n' H',R x jh n'->SR C G σ H' jh n'->Fr G H H'->Q x H')->t σ H Q
inductive QO {ι:Type}(T:PotK)(K:A8)(F:ι->Cx)(e:Option Expr)(po:pO):Prop
 |mk t (a:(∀z,PO (F z) e t)) (b:OOk K T t po):QO T K F e po
def An:QO T K F none qNo:=⟨_,λ_=>GH,λC G σ H env n R Q hK hT S hp k=>k _ _ _ _ hp S Fr.refl⟩
def Ao (h:QE T K F e pe):QO T K F (some e) (E4 pe):=by
 obtain⟨t,h1,h2⟩:=h;refine⟨_,λz=>GI (h1 z),⇑?_⟩;refine ↥h2 λx jc n1 v H1 p1 S1 r1 f1=>?_;cases x with
 |int i=>exact⟨i,r1,k _ _ _ _ p1 S1 f1⟩
 |_=>exact p1.elim
noncomputable def cutP {α:Type}(xs:List α)(lo hi:Option Int):List α:=(xs.drop (HT.sIx xs.length 0 lo)).take (HT.sIx xs.length xs.length hi-HT.sIx xs.length 0 lo)
def Reps.cut (r:Reps K G H xs vs)(lo hi:Option Int):Reps K G H (cutP xs lo hi) (cutV vs lo hi):=by
 unfold cutP cutV;rw[<- r.length];exact(r.drop _).take _
def wSl (x:PV)(lo hi:Option Int)(R:PV->Prop):Prop:=match x with
 |.lst xs=>R (.lst (cutP xs lo hi))
 |.scr ns=>R (.lst ((cutP ns lo hi).map PV.int))
 |.tup xs=>R (.tup (cutP xs lo hi))
 |.str z=>z.length<=1000000/\R (.str (T3 z lo hi))
 |_=>False
def qSl (pe:pE)(pl ph:pO):pE:=λenv n R=>pe env n λx jc n1=>pl jc n1 λlo jd n2=>ph jd n2 λhi je n3=>wSl x lo hi λz=>R z je n3
def qSlR (pe:pE)(pl ph:pO):pE:=λenv n R=>pe env n λx jc n1=>pl jc n1 λlo jd n2=>ph jd n2 λhi je n3=>je=jc/\wSl x lo hi λz=>R z je n3
theorem Ha {K:A8}{G:Gh}{H:Hp}:∀ns:List Int,Reps K G H (ns.map PV.int) (ns.map V.int)
 |[]=>rfl
 |i::ns=>⟨.int i,ns.map V.int,rfl,rfl,Ha ns⟩
def X3 {α β:Type}(f:α->β)(xs:List α)(lo hi:Option Int):cutP (xs.map f) lo hi=(cutP xs lo hi).map f:=by simp[cutP]
def sl_ok (hf:∀p,H p=none->p∉G.M)(rx:RdV K G H x v)(hw:wSl x lo hi R)(k:∀z v' H',R z->Same H H'->Rep K G H' z v'->Q v' H') :
   rSlL K v lo hi H Q\/rSlTA K v lo hi H Q\/rSlS v lo hi H Q:=by
 unfold wSl at hw
 split at hw
 ·obtain⟨a,vs,ev,hq,r⟩:=rx.lst;exact .inl ⟨a,vs,ev,hq,λp hp=>k _ _ _ hw (Same.lay1 hp) (CL (hf p hp) hp (r.cut lo hi))⟩
 ·rename_i ns;obtain⟨a,ev,hq⟩:=CN rx;refine .inl ⟨a,_,ev,hq,λp hp=>k _ _ _ hw (Same.lay1 hp) (CL (hf p hp) hp ?_)⟩;have:=(Ha (K:=K) (G:=G) (H:=H) ns).cut lo hi;rw[X3] at this;exact this
 ·obtain⟨a,vs,ev,t,r⟩:=rx.rep (λ_ z=>nomatch z);refine .inr (.inl ⟨a,vs,ev,t.sq,λz=>k _ _ _ hw (Same.refl _) ?_,λp hp=>k _ _ _ hw (Same.lay1 hp) (Ak (hf p hp) hp (r.cut lo hi))⟩);have rc:=r.cut lo hi;rw[z] at rc;exact⟨a,vs,rfl,t,rc⟩
 ·exact .inr (.inr ⟨_,rx.str,mil hw.1,k _ _ _ hw.2 (Same.refl _) rfl⟩)
 ·exact hw.elim
def Ap (he:QE T K F e pe)(hl:QO T K F lo ql)(hh:QO T K F hi qh)(hK:∀z,(F z).K=K:=by intro _;rfl):QE T K F (.Subscript e (.Slice lo hi none p2) pos) (qSl pe ql qh):=by
 obtain⟨t,h1,h2⟩:=he;obtain⟨tl,l1,l2⟩:=hl;obtain⟨th,u1,u2⟩:=hh;refine⟨_,λz=>Eg ((hK z▸Eh).or ((hK z▸Lg).or KR)) (h1 z) (l1 z) (u1 z),⇑?_⟩;refine ↥h2 λx jc n1 v H1 p1 S1 r1 f1=>?_;refine l2 C G σ H1 jc n1 _ _ hK hT S1 p1 λlo jd n2 H2 p2 S2 f2=>?_;refine u2 C G σ H2 jd n2 _ _ hK hT S2 p2 λhi je n3 H3 p3 S3 f3=>?_;exact sl_ok (λp hp=>S3.fresh hp) (.inl ((r1.fr f2).fr f3)) p3 λz v' H' rz s rv=>k _ _ _ _ _ rz (S3.same s) rv (((f1.trans f2).trans f3).trans (Fr.of s))
def qe_slR {lo hi:Option Expr}{p2:Pos}{ql qh:pO}(he:QR T K F e pe)(hl:QO T K F lo ql)(hh:QO T K F hi qh)(hK:∀z,(F z).K=K):QE T K F (.Subscript e (.Slice lo hi none p2) pos) (qSlR pe ql qh):=by
 obtain⟨t,h1,h2⟩:=he;obtain⟨tl,l1,l2⟩:=hl;obtain⟨th,u1,u2⟩:=hh;refine⟨_,λz=>Eg ((hK z▸Eh).or ((hK z▸Lg).or KR)) (h1 z) (l1 z) (u1 z),⇑?_⟩;refine ↥h2 λx jc n1 v H1 p1 S1 r1 f1=>?_;refine l2 C G σ H1 jc n1 _ _ hK hT S1 p1 λlo jd n2 H2 p2 S2 f2=>?_;refine u2 C G σ H2 jd n2 _ _ hK hT S2 p2 λhi je n3 H3 p3 S3 f3=>?_;obtain⟨ee,p3⟩:=p3;subst ee;exact sl_ok (λp hp=>S3.fresh hp) (hK▸((r1.fr f2).fr f3).rd S3) p3 λz v' H' rz s rv=>k _ _ _ _ _ rz (S3.same s) rv (((f1.trans f2).trans f3).trans (Fr.of s))
def WA1 (K:A8)(r:List V->Hp->VK->Prop)(w:w1):Prop:=∀(G:Gh) (H:Hp) (x:PV) (v:V) (R:PV->Prop) (Q:VK),(∀p,H p=none->p∉G.M)->RdV K G H x v->w x R->
 (∀z v' H',R z->Same H H'->Rep K G H' z v'->Q v' H')->r [v] H Q
def Li (hw:WA1 K r w)(h:ROk K T t pe):EOk K T (tCB r (T4 t tNil)) (qUn w pe):=λC G σ H env n R Q hK hT S hp k=>by
 refine Ew h hK hT S hp λx jc n1 v H1 p1 S1 r1 f1=>?_;subst hK;exact hw G H1 x v _ _ (λp hp=>S1.fresh hp) (r1.rd S1) p1 λz v' H' rz s rv=>k _ _ _ _ _ rz (S1.same s) rv (f1.trans (Fr.of s))
def Ey {id:String}(hc:∀z,K3 (F z) (.builtin id) r)(hw:WA1 K r w)(hg:∀z,Gl (F z) x)(hm:∀z,(F z).mg x=none)(hv:J5 x=some (.builtin id))(ha:QR T K F e pe)(hs:D8 e=true:=by rfl)(hn:x≠"__name__":=by decide)(hdb:(x == ("__debug__":Str))=false:=by decide) :
   QE T K F (.Call (.Name x p) [e] [] pos) (qUn w pe):=by
 obtain⟨t,h1,h2⟩:=ha;exact⟨_,λz=>g9 (hc z) (hg z) (hm z) hv (E3 (h1 z) G0 (C5 hs)) hn hdb (C5 hs),Li hw h2⟩
def Lj {id:String}(hc:∀z,K3 (F z) (.type id) r)(hw:WA1 K r w)(hg:∀z,Gl (F z) x)(hm:∀z,(F z).mg x=none)(hv:J5 x=some (.type id))(ha:QR T K F e pe)(hs:D8 e=true:=by rfl)(hn:x≠"__name__":=by decide)(hdb:(x == ("__debug__":Str))=false:=by decide) :
   QE T K F (.Call (.Name x p) [e] [] pos) (qUn w pe):=by
 obtain⟨t,h1,h2⟩:=ha;exact⟨_,λz=>Bq (hc z) (hg z) (hm z) hv (E3 (h1 z) G0 (C5 hs)) hn hdb (C5 hs),Li hw h2⟩
def wLen:w1:=λx R=>match x with
 |.lst xs=>R (.int xs.length)
 |.tup xs=>R (.int xs.length)
 |.scr xs=>R (.int xs.length)
 |.str z=>z.length<=1000000/\R (.int z.length)
 |_=>False
def WA1.len:WA1 K (λxs H Q=>(∃p ys,xs=[.ref p]/\(SqL K H p ys\/SqT K H p ys)/\Q (.int ys.length) H)\/∃z,xs=[.str z]/\z.length<=B4/\Q (.int z.length) H) wLen:=by
 intro G H x v R Q hf rx hw k;unfold wLen at hw
 split at hw
 ·obtain⟨a,vs,ev,hq,r⟩:=rx.lst;exact .inl ⟨a,vs,by rw[ev],.inl hq,k _ _ _ hw (Same.refl _) (by rw[r.length];rfl)⟩
 ·obtain⟨a,vs,ev,hq,r⟩:=rx.tup;exact .inl ⟨a,vs,by rw[ev],.inr hq,k _ _ _ hw (Same.refl _) (by rw[r.length];rfl)⟩
 ·obtain⟨a,ev,hq⟩:=CN rx;exact .inl ⟨a,_,by rw[ev],.inl hq,k _ _ _ hw (Same.refl _) (by rw[B0];rfl)⟩
 ·exact .inr ⟨_,by rw[rx.str],mil hw.1,k _ _ _ hw.2 (Same.refl _) rfl⟩
 ·exact hw.elim
def Lk (hg:∀z,Gl (F z) "len")(hm:∀z,(F z).mg "len"=none)(ha:QR T K F e pe)(hs:D8 e=true:=by rfl)(hK:∀z,(F z).K=K:=by intro _;rfl):QE T K F (.Call (.Name "len" p) [e] [] pos) (qUn wLen pe):=Ey (λz=>(hK z▸GO).or Pd) WA1.len hg hm Ei ha hs
def wInt:w1:=λx R=>match x with|.int i=>R (.int i)|.bl b=>R (.int (if b then 1 else 0))|_=>False
def Qa {p:Pos}(hg:∀z,Gl (F z) "int")(hm:∀z,(F z).mg "int"=none)(ha:QR T K F e pe)(hs:D8 e=true):QE T K F (.Call (.Name "int" p) [e] [] pos) (qUn wInt pe):=Lj (λ_=>Kk) (λG H x v R Q hf rx hw k=>by
 unfold wInt at hw
 split at hw
 ·exact .inl ⟨_,by rw[rx.int],k _ _ _ hw (Same.refl _) rfl⟩
 ·exact .inr ⟨_,by rw[rx.bl],k _ _ _ hw (Same.refl _) rfl⟩
 ·exact hw.elim) hg hm GS ha hs
noncomputable def Z3:List PV->Option (List Bool)
 |[]=>some []
 |.bl b::xs=>(Z3 xs).map (b::·)
 |_=>none
theorem Hc {K:A8}{G:Gh}{H:Hp}:∀{xs:List PV} {vs:List V} {bs:List Bool},Z3 xs=some bs->Reps K G H xs vs->vs=bs.map V.bl
 |[],vs,bs,h,r=>by cases h;exact r
 | .bl b :: xs, vs, bs, h, r => by
  obtain⟨v,t,e,rv,rt⟩:=r;cases e1:Z3 xs with
  |none=>simp[Z3,e1] at h
  | some cs =>
   have:b::cs=bs:=by simpa[Z3,e1] using h
   subst this;rw[e,show v=.bl b from rv,Hc e1 rt]
   rfl
 |.non::_,_,_,h,_=>by cases h
 |.int _::_,_,_,h,_=>by cases h
 |.str _::_,_,_,h,_=>by cases h
 |.ty _::_,_,_,h,_=>by cases h
 |.pot _::_,_,_,h,_=>by cases h
 |.tup _::_,_,_,h,_=>by cases h
 |.lst _::_,_,_,h,_=>by cases h
 |.dct _ _::_,_,_,h,_=>by cases h
 |.fdt _ _::_,_,_,h,_=>by cases h
 |.scr _::_,_,_,h,_=>by cases h
theorem Ll:∀bs:List Bool,Z3 (bs.map PV.bl)=some bs
 |[]=>rfl
 |b::bs=>by simp[Z3,Ll bs]
def wAll:w1:=λx R=>match x with|.lst xs=>(match Z3 xs with|some bs=>R (.bl (bs.all id))|none=>False)|_=>False
def wAny:w1:=λx R=>match x with|.lst xs=>(match Z3 xs with|some bs=>R (.bl (bs.any id))|none=>False)|_=>False
def qe_all (hc:∀z,(F z).calm=true)(hg:∀z,Gl (F z) "all")(hm:∀z,(F z).mg "all"=none)(ha:QR T K F e pe)(hs:D8 e=true)(hK:∀z,(F z).K=K):QE T K F (.Call (.Name "all" p) [e] [] pos) (qUn wAll pe):=Ey (λz=>hK z▸Pw (hc z)) (λG H x v R Q hf rx hw k=>by
 unfold wAll at hw
 split at hw
 ·rename_i xs;obtain⟨a,vs,ev,hq,r⟩:=rx.lst
  split at hw
  ·rename_i bs eb;exact⟨a,bs,by rw[ev],Hc eb r▸hq,k _ _ _ hw (Same.refl _) rfl⟩
  ·exact hw.elim
 ·exact hw.elim) hg hm bt_all ha hs
def qe_any {p:Pos}(hc:∀z,(F z).calm=true)(hg:∀z,Gl (F z) "any")(hm:∀z,(F z).mg "any"=none)(ha:QR T K F e pe)(hs:D8 e=true)(hK:∀z,(F z).K=K):QE T K F (.Call (.Name "any" p) [e] [] pos) (qUn wAny pe):=Ey (λz=>hK z▸Px (hc z)) (λG H x v R Q hf rx hw k=>by
 unfold wAny at hw
 split at hw
 ·rename_i xs;obtain⟨a,vs,ev,hq,r⟩:=rx.lst
  split at hw
  ·rename_i bs eb;exact⟨a,bs,by rw[ev],Hc eb r▸hq,k _ _ _ hw (Same.refl _) rfl⟩
  ·exact hw.elim
 ·exact hw.elim) hg hm bt_any ha hs
def O9:w1:=λx R=>match x with|.lst xs=>R (.tup xs)|.tup xs=>R (.tup xs)|_=>False
def Qb (hg:∀z,Gl (F z) "tuple")(hm:∀z,(F z).mg "tuple"=none)(ha:QR T K F e pe)(hs:D8 e=true)(hK:∀z,(F z).K=K):QE T K F (.Call (.Name "tuple" p) [e] [] pos) (qUn O9 pe):=Lj (λz=>hK z▸Pe) (λG H x v R Q hf rx hw k=>by
 unfold O9 at hw
 split at hw
 ·obtain⟨a,vs,ev,hq,r⟩:=rx.lst;exact⟨a,vs,by rw[ev],.inl ⟨hq,λl hl=>k _ _ _ hw (Same.lay1 hl) (Ak (hf l hl) hl r)⟩⟩
 ·obtain⟨a,vs,ev,t,r⟩:=rx.rep (λ_ z=>nomatch z);exact⟨a,vs,by rw[ev],.inr ⟨t.sq,k _ _ _ hw (Same.refl _) ⟨a,vs,rfl,t,r⟩⟩⟩
 ·exact hw.elim) hg hm GU ha hs
def Aq (pe:pE):pA:=λenv n R=>pe env n λx jc n1=>match x with|.lst xs=>R xs jc n1|.tup xs=>R xs jc n1|.scr ns=>R (ns.map PV.int) jc n1|_=>False
def Lm (hg:∀z,Gl (F z) "list")(hm:∀z,(F z).mg "list"=none)(ha:QR T K F e pe)(hs:D8 e=true:=by rfl)(hK:∀z,(F z).K=K:=by intro _;rfl):QN T K F (.Call (.Name "list" p) [e] [] pos) (Aq pe):=by
 obtain⟨t,h1,h2⟩:=ha;refine⟨_,λz=>Bq (hK z▸Kz) (hg z) (hm z) GT (E3 (h1 z) G0 (C5 hs)) 0b0 0b0 (C5 hs),⇑?_⟩;refine Ew h2 hK hT S hp λx jc n1 v H1 p1 S1 r1 f1=>?_;have rd:RdV K G H1 x v:=hK▸r1.rd S1;cases x with
 | lst xs =>
  obtain⟨a,vs,ev,hq,r⟩:=rd.lst;exact⟨a,vs,by rw[ev],.inl hq,λl hl=>k _ _ _ _ _ _ p1 S1 f1 hl r⟩
 | tup xs =>
  obtain⟨a,vs,ev,hq,r⟩:=rd.tup;exact⟨a,vs,by rw[ev],.inr hq,λl hl=>k _ _ _ _ _ _ p1 S1 f1 hl r⟩
 | scr ns =>
  obtain⟨a,ev,hq⟩:=CN rd;exact⟨a,_,by rw[ev],.inl hq,λl hl=>k _ _ _ _ _ _ p1 S1 f1 hl (Ha ns)⟩
 |_=>exact p1.elim
def tyw (hg:Gl X x)(hm:X.mg x=none)(hv:J5 x=some (.type m))(hn:x≠"__name__":=by decide)(hd:(x == ("__debug__":Str))=false:=by decide):EW X (.Name x pos) (tC (.ty m)):=⟨On (v:=.ty m) hg hm hv rfl hn hd⟩
noncomputable def tyP:PV->Option String
 |.non=>some "NoneType"
 |.bl _=>some "bool"
 |.int _=>some "int"
 |.str _=>some "str"
 |.tup _=>some "tuple"
 |.lst _=>some "list"
 |.dct _ _=>some "dict"
 |_=>none
noncomputable def isT (t n:String):Bool:=t == n||(t == "bool" && n == "int")
def wIsi (n:String):w1:=λx R=>match tyP x with|some t=>R (.bl (isT t n))|none=>False
def Qc (ht:t∈["NoneType","bool","int","str","tuple","list","dict"])(hn:n∈["bool","int","str","tuple","list"]):BV K (.type t) (.type n)=some (isT t n):=by
 refine kit_of ?_;have:∀t∈["NoneType","bool","int","str","tuple","list","dict"],∀n∈["bool","int","str","tuple","list"],(if(G9 t == G9 n)=true then some true else if PySem.W.kitMeta n=true then(fastBuiltinMro t).map (·.contains (.type n)) else none)=some (isT t n):=by decide +kernel
 exact this t ht n hn
def Ln (hn:n∈["bool","int","str","tuple","list"])(hg:∀z,Gl (F z) "isinstance")(hm:∀z,(F z).mg "isinstance"=none)(ha:QE T K F a pa)(hb:∀z,EW (F z) b (tC (.ty n)))(hs:D8 a=true:=by rfl)(hs2:D8 b=true:=by rfl)(hK:∀z,(F z).K=K:=by intro _;rfl):QE T K F (.Call (.Name "isinstance" p) [a,b] [] pos) (qUn (wIsi n) pa):=by
 obtain⟨t,h1,h2⟩:=ha;refine⟨_,λz=>g9 (hK z▸Ps) (hg z) (hm z) Py (E3 (h1 z) (E3 (hb z).h G0 (C5 hs2)) (C5 hs)) 0b0 0b0 (C5 hs) (by rw[C5 hs2];rfl),λC G σ H env n' R Q hK hT S hp k=>?_⟩;refine h2 C G σ H env n' _ _ hK hT S hp λx jc n1 v H1 p1 S1 r1 f1=>?_;unfold wIsi at p1
 have fin:∀t,TyOf K H1 v (.type t)->tyP x=some t->t∈["NoneType","bool","int","str","tuple","list","dict"]->∃x' n'' t' b',[v,V.ty n]=[x',.ty n'']/\TyOf K H1 x' t'/\BV K t' (.type n'')=some b'/\Q (.bl b') H1:=by
  intro t ty e m;rw[e] at p1;exact⟨v,n,_,_,rfl,ty,Qc m hn,k _ _ _ _ _ p1 S1 rfl f1⟩
 cases x with
 |non=>cases(show v=.non from r1);exact fin _ .non rfl 0b0
 |bl b=>cases(show v=.bl b from r1);exact fin _ (.bl b) rfl 0b0
 |int b=>cases(show v=.int b from r1);exact fin _ (.int b) rfl 0b0
 |str b=>cases(show v=.str b from r1);exact fin _ (.str b) rfl 0b0
 |tup xs=>obtain⟨a,vs,rfl,t,r⟩:=r1;exact fin _ (.tup t.2) rfl 0b0
 |lst xs=>obtain⟨a,vs,rfl,t,r⟩:=r1;exact fin _ (.lst t.2) rfl 0b0
 |dct ks xs=>obtain⟨a,jg,rfl,_,t,r⟩:=r1;exact fin _ (.dK t) rfl 0b0
 |ty n=>exact p1.elim
 |pot k=>exact p1.elim
 |fdt ks xs=>exact p1.elim
 |scr ns=>exact p1.elim
def wMin:w2:=λx y R=>match x,y with|.int i,.int j=>R (.int (if j<i then j else i))|_,_=>False
def wMax:w2:=λx y R=>match x,y with|.int i,.int j=>R (.int (if j>i then j else i))|_,_=>False
def Lo (hw:W2 K (λx y H Q=>r [x,y] H Q) w)(h:EOk K T t pa)(h':EOk K T u pb):EOk K T (tCB r (T4 t (T4 u tNil))) (qOp w pa pb):=λC G σ H env n R Q hK hT S hp k=>by
 refine ↥h λx jc n1 v H1 p1 S1 r1 f1=>?_;refine h' C G σ H1 jc n1 _ _ hK hT S1 p1 λy jd n2 u H2 p2 S2 r2 f2=>?_;exact hw G H2 x y v u _ _ (λp hp=>S2.fresh hp) (.inl (r1.fr f2)) (.inl r2) p2 λz v' H' rz s rv=>k _ _ _ _ _ rz (S2.same s) rv ((f1.trans f2).trans (Fr.of s))
def qe_min (hc:∀z,(F z).calm=true)(hg:∀z,Gl (F z) "min")(hm:∀z,(F z).mg "min"=none)(ha:QE T K F a pa)(hb:QE T K F b pb)(hs:D8 a=true)(hs2:D8 b=true):QE T K F (.Call (.Name "min" p) [a,b] [] pos) (qOp wMin pa pb):=by
 obtain⟨t,h1,h2⟩:=ha;obtain⟨u,h3,h4⟩:=hb;refine⟨_,λz=>g9 (ON (hc z)) (hg z) (hm z) bt_min (E3 (h1 z) (E3 (h3 z) G0 (C5 hs2)) (C5 hs)) 0b0 0b0 (C5 hs) (by rw[C5 hs2];rfl),Lo (λG H x y v u R Q hf rx ry hw k=>?_) h2 h4⟩;unfold wMin at hw
 split at hw
 ·exact⟨_,_,by rw[rx.int,ry.int],k _ _ _ hw (Same.refl _) rfl⟩
 ·exact hw.elim
def qe_max {p:Pos}(hc:∀z,(F z).calm=true)(hg:∀z,Gl (F z) "max")(hm:∀z,(F z).mg "max"=none)(ha:QE T K F a pa)(hb:QE T K F b pb)(hs:D8 a=true)(hs2:D8 b=true):QE T K F (.Call (.Name "max" p) [a,b] [] pos) (qOp wMax pa pb):=by
 obtain⟨t,h1,h2⟩:=ha;obtain⟨u,h3,h4⟩:=hb;refine⟨_,λz=>g9 (OM (hc z)) (hg z) (hm z) bt_max (E3 (h1 z) (E3 (h3 z) G0 (C5 hs2)) (C5 hs)) 0b0 0b0 (C5 hs) (by rw[C5 hs2];rfl),Lo (λG H x y v u R Q hf rx ry hw k=>?_) h2 h4⟩;unfold wMax at hw
 split at hw
 ·exact⟨_,_,by rw[rx.int,ry.int],k _ _ _ hw (Same.refl _) rfl⟩
 ·exact hw.elim
def Bu (K:A8)(T:PotK)(f:pF):Sp:=λvs H Q _=>∃(G:Gh) (xs:List PV) (n:Nat) (R:PV->Nat->Prop),(∀p∈G.pots,p∈G.M/\T.at_ G.M H p n)/\(∀a∈G.M,∃o,H a=some o/\MutO o)/\T.has G.pots/\Reps K G H xs vs/\f xs n R/\
 ∀r n' v H',R r n'->Rep K G H' r v->(∀p∈G.pots,T.at_ G.M H' p n')->(∀b o,b∉G.pots->H b=some o->H' b=some o)->Q v H'
def B1 (f:pF)(pa:pA):pE:=λenv n R=>pa env n λxs jc n1=>f xs n1 λr n2=>R r jc n2
def SR.call (S:SR C G σ H env n)(hk:∀b o,b∉G.pots->H b=some o->H' b=some o)(hp:∀p∈G.pots,C.T.at_ G.M H' p n'):SR C G σ H' env n' where
 frame b o hb e:=by
  by_cases hp:b∈G.pots
  ·-- a pot that is new since the entry has no old object
   obtain⟨l,el,_⟩:=S.pre;rw[el] at hp;rcases D7.mp hp with z|z
   ·exact absurd z hb
   ·have hM:=(S.pots b (by rw[el];exact hp)).1;rcases S.sub b hM with z2|z2
    ·exact(S.newp b (by rw[el];exact hp) hb z2).elim
    ·rw[z2] at e;cases e
  ·exact hk b o hp (S.frame b o hb e)
 sub:=S.sub
 sup:=S.sup
 pots p h:=⟨(S.pots p h).1,hp p h⟩
 pre:=S.pre
 mu a ha:=by
  by_cases h:a∈G.pots
  ·exact C.T.mu (hp a h)
  ·obtain⟨o,e,m⟩:=S.mu a ha;exact⟨o,hk a o h e,m⟩
 slots i x e:=by
  have f:Fr G H H':=λb o hb he=>hk b o (λz=>hb (S.pots b z).1) he;have:=S.slots i x e;cases x with
  | v x =>
   obtain⟨v,e1,r⟩:=this;exact⟨v,e1,r.fr f⟩
  | ow kk xs =>
   obtain⟨a,vs,e1,h1,h2,h3,h4,r⟩:=this;exact⟨a,vs,e1,h1,h2,h3,hk _ _ h3 h4,r.fr f⟩
 inj:=S.inj
 p0:=S.p0
 len:=S.len
 newp:=S.newp
def Bv (hG:∀z,Kn (F z).prog (F z).w (F z).K (F z).mg (F z).base x k ps (Bu K T f))(hr:∀z,Room j (F z).A)(hk:k<=j)(hg:∀z,Gl (F z) x)(ha:QA T K F (e::es) pl)(hdb:(x == ("__debug__":Str))=false:=by decide)
   (hs:D8 e=true:=by rfl) (hpl:∀z,(backTo pos (D6 es (F z).env)).any (·.1)=false:=by intro _;rfl):QE T K F (.Call (.Name x p) (e::es) [] pos) (B1 f pl):=by
 obtain⟨t,h1,h2⟩:=ha;refine⟨_,λz=>pe_fn (hG z) (hr z) hk (hg z) (h1 z) hdb (C5 hs) (hpl z),⇑?_⟩;refine ↥h2 λxs jc n1 vs H1 p1 S1 r1 f1=>?_;subst hT;rw[W5];refine⟨G,xs,n1,_,λp hp=>S1.pots p hp,S1.mu,S1.hasG,r1,p1,λr n' v H' rr rv hp hk'=>?_⟩;exact k _ _ _ _ _ rr (S1.call hk' hp) rv (f1.trans λb o hb e=>hk' b o (λz=>hb (S1.pots b z).1) e)
end
abbrev pG:=PV->Env->(Env->Prop)->Prop
abbrev pGs:=List PV->Env->(Env->Prop)->Prop
def GOk (K:A8)(g:TG)(pg:pG):Prop:=∀(C:Ct) (G:Gh) (σ:St) (H:Hp) (env:Env) (n:Nat) (x:PV) (v:V) (R:Env->Prop) (Q:St->Hp->Prop),C.K=K->SR C G σ H env n->Rep K G H x v->pg x env R->
 (∀jh σ',R jh->SR C G σ' H jh n->Q σ' H)->g v σ H Q
def GsOk (K:A8)(g:TGs)(pg:pGs):Prop:=∀(C:Ct) (G:Gh) (σ:St) (H:Hp) (env:Env) (n:Nat) (x:List PV) (v:List V) (R:Env->Prop) (Q:St->Hp->Prop),C.K=K->SR C G σ H env n->Reps K G H x v->pg x env R->
 (∀jh σ',R jh->SR C G σ' H jh n->Q σ' H)->g v σ H Q
inductive QG {ι:Type}(K:A8)(F:ι->Cx)(e:Expr)(pg:pG):Prop
 |mk g (a:(∀z,PG (F z) e g)) (b:GOk K g pg):QG K F e pg
inductive QGs {ι:Type}(K:A8)(F:ι->Cx)(e:List Expr)(pg:pGs):Prop
 |mk g (a:(∀z,PGs (F z) e g)) (b:GsOk K g pg):QGs K F e pg
def gN (i:Nat):pG:=λx env R=>R (env.set i (some (.v x)))
def gNl:pGs:=λxs env R=>match xs with|[]=>R env|_=>False
def gCn (g:pG)(r:pGs):pGs:=λxs env R=>match xs with|x::xs=>g x env λjc=>r xs jc R|[]=>False
def gTp (k:Nat)(g:pGs):pG:=λx env R=>match x with|.tup xs=>xs.length=k/\g xs env R|_=>False
theorem SR.set (S:SR C G σ H env n)(i:Nat)(r:Rep C.K G H x v):SR C G (σ.set i (some v)) H (env.set i (some (.v x))) n where
 frame:=S.frame
 sub:=S.sub
 sup:=S.sup
 pots:=S.pots
 pre:=S.pre
 mu:=S.mu
 slots j s e:=by
  by_cases h:i=j
  ·subst h
   by_cases hl:i<env.length
   ·rw[N4 hl] at e;cases e;exact⟨v,by rw[N4 (by rw[<- S.len];exact hl)],r⟩
   ·rw[O6 (by rw[K7];omega)] at e;cases e
  ·rw[M8 h] at e ⊢;exact S.slots j s e
 inj j k xs ys a e1 e2 e3 e4:=by
  have nj:∀(j:Nat) (xs:OK×List PV),(env.set i (some (.v x)))[j]?=some (some (Slot.ow xs.1 xs.2))->i≠j:=by
   intro j xs e h;subst h
   by_cases hl:i<env.length
   ·rw[N4 hl] at e;cases e
   ·rw[O6 (by rw[K7];omega)] at e;cases e
  have n1:=nj j xs e1;have n2:=nj k ys e2;rw[M8 n1] at e1 e3;rw[M8 n2] at e2 e4;exact S.inj j k xs ys a e1 e2 e3 e4
 p0:=S.p0
 len:=by rw[K7,K7];exact S.len
 newp:=S.newp
section
variable {T:PotK}{ι:Type}{K:A8}{F:ι->Cx}{e a b c:Expr}{es rest:List Expr}{pe pa pb pc:pE}{pos:Pos}{pl pr:pA}{pg:pG}{pgs:pGs}{pt:pT}
def Bw (i:Nat)(hN:X.N.Nodup)(hi:X.N[i]?=some x)(hx:Loc X.env.scope x)(hf:X.fn x=true\/X.env.scope.names.lookup x=some .local:=by first|exact .inl rfl|exact .inr rfl|assumption):GW X (.Name x pos) (L6 i):=⟨Oq hN hi hx hf⟩
def Qd (h:∀z,GW (F z) (.Name x pos) (L6 i)):QG K F (.Name x pos) (gN i):=⟨_,λz=>(h z).h,λC G σ H env n x v R Q hK S r hp k=>k _ _ hp (S.set i (hK▸r))⟩
def Qe:QGs K F [] gNl:=⟨_,λ_=>Ed,λC G σ H env n x v R Q hK S r hp k=>by
 cases x with
 |nil=>exact⟨r,k _ _ hp S⟩
 |cons _ _=>exact hp.elim⟩
def Qg (h1:QG K F e pg)(h2:QGs K F es pgs)(hs:∀z,(F4 (e::es) (F z).env).map (·.2)=assign e (F z).env::(F4 es (F z).env).map (·.2)):QGs K F (e::es) (gCn pg pgs):=by
 obtain⟨g,a1,a2⟩:=h1;obtain⟨gs,b1,b2⟩:=h2;refine⟨_,λz=>Bm (a1 z) (b1 z) (hs z),λC G σ H env n x v R Q hK S r hp k=>?_⟩;cases x with
 |nil=>exact hp.elim
 | cons x xs =>
  obtain⟨u,us,rfl,ru,rs⟩:=r;exact⟨u,us,rfl,a2 C G σ H env n x u _ _ hK S ru hp λjh σ' re S'=>b2 C G σ' H jh n xs us _ _ hK S' rs re k⟩
def qg_tup (hc:∀z,(F z).calm=true)(h:QGs K F es pgs)(hn:∀z,(F4 es (F z).env).length=m)(hst:∀z,(F4 es (F z).env).findIdx? (·.1)=none)(hK:∀z,(F z).K=K):QG K F (.Tuple es k pos) (gTp m pgs):=by
 obtain⟨g,a1,a2⟩:=h;refine⟨_,λz=>hK z▸Ee (hc z) (a1 z) (hn z) (hst z),λC G σ H env n x v R Q hK S r hp k=>?_⟩;cases x with
 | tup xs =>
  obtain⟨a,vs,rfl,t,rs⟩:=r;exact⟨a,vs,rfl,t.sq,by rw[<- rs.length];exact hp.1,a2 C G σ H env n xs vs _ _ hK S rs hp.2 k⟩
 |_=>exact hp.elim
def ItR (K:A8)(G:Gh)(H:Hp)(J:It)(xs:List PV):Prop:=∀(G2:Gh) (H2:Hp),(∀b o,b∉G.M->H b=some o->H2 b=some o)->(∀a∈G2.M,a∈G.M\/H a=none)->(∀(k:Nat) (p:A1),G.pots[k]?=some p->G2.pots[k]?=some p)->(∀p,H2 p=none->p∉G2.M)->
 (∀(i:Nat) x,xs[i]?=some x->J.go i H2/\∀v H3,J.yld i H2 v H3->Same H2 H3/\Rep K G2 H3 x v)/\∀i,xs.length<=i->J.stop i H2
def IOk (K:A8)(T:PotK)(wi:TI)(pi:pA):Prop:=∀(C:Ct) (G:Gh) (σ:St) (H:Hp) (env:Env) (n:Nat) (R:List PV->Env->Nat->Prop) (Q:It->Hp->Prop),C.K=K->C.T=T->SR C G σ H env n->pi env n R->
 (∀xs jh n' J H',R xs jh n'->SR C G σ H' jh n'->Fr G H H'->ItR K G H' J xs->Q J H')->wi σ H Q
inductive QI {ι:Type}(T:PotK)(K:A8)(F:ι->Cx)(tg iter:Expr)(pi:pA):Prop
 |mk wi (a:(∀z,PI (F z) tg iter wi)) (b:IOk K T wi pi):QI T K F tg iter pi
variable {tg:Expr}
def Qh {a:A1}(t:AtL G.M H a vs)(r:Reps K G H xs vs):ItR K G H (Itl K a) xs:=by
 intro G2 H2 hk hM hp hf;have hq:SqL K H2 a vs:=SqL.of (hk a _ t.1 t.2);have r2:Reps K G2 H2 xs vs:=Reps.mono hk hM hp _ _ r;refine⟨λi x e=>?_,λi hi=>⟨vs,hq,by rw[<- r.length];exact hi⟩⟩;obtain⟨v,ev,rv⟩:=r2.get' e;refine⟨⟨vs,v,hq,ev⟩,λv' H3 y=>?_⟩;obtain⟨e3,y⟩:=y;subst e3;have:=y vs hq;rw[ev] at this;cases this;exact⟨Same.refl _,rv⟩
def Qi {a:A1}(t:AtT G.M H a vs)(r:Reps K G H xs vs):ItR K G H (Itt K a) xs:=by
 intro G2 H2 hk hM hp hf;have hq:SqT K H2 a vs:=SqT.of (hk a _ t.1 t.2);have r2:Reps K G2 H2 xs vs:=Reps.mono hk hM hp _ _ r;refine⟨λi x e=>?_,λi hi=>⟨vs,hq,by rw[<- r.length];exact hi⟩⟩;obtain⟨v,ev,rv⟩:=r2.get' e;refine⟨⟨vs,v,hq,ev⟩,λv' H3 y=>?_⟩;obtain⟨e3,y⟩:=y;subst e3;have:=y vs hq;rw[ev] at this;cases this;exact⟨Same.refl _,rv⟩
def qIl (pe:pE):pA:=λenv n R=>pe env n λx jc n1=>match x with|.lst xs=>R xs jc n1|_=>False
def qIt (pe:pE):pA:=λenv n R=>pe env n λx jc n1=>match x with|.tup xs=>R xs jc n1|_=>False
def Qj (h:QE T K F e pe)(hK:∀z,(F z).K=K):QI T K F tg e (qIl pe):=by
 obtain⟨t,h1,h2⟩:=h;refine⟨_,λz=>hK z▸Ow (h1 z),⇑?_⟩;refine ↥h2 λx jc n1 v H1 p1 S1 r1 f1=>?_;cases x with
 | lst xs =>
  obtain⟨a,vs,rfl,t,r⟩:=r1;exact⟨a,rfl,⟨vs,t.sq⟩,k _ _ _ _ _ p1 S1 f1 (Qh t r)⟩
 |_=>exact p1.elim
def qi_tup (h:QE T K F e pe)(hK:∀z,(F z).K=K):QI T K F tg e (qIt pe):=by
 obtain⟨t,h1,h2⟩:=h;refine⟨_,λz=>hK z▸pi_tup (h1 z),⇑?_⟩;refine ↥h2 λx jc n1 v H1 p1 S1 r1 f1=>?_;cases x with
 | tup xs =>
  obtain⟨a,vs,rfl,t,r⟩:=r1;exact⟨a,rfl,⟨vs,t.sq⟩,k _ _ _ _ _ p1 S1 f1 (Qi t r)⟩
 |_=>exact p1.elim
def Qk (lo:Int)(m:Nat):ItR K G H (Itr lo m) ((C2 m).map λ(k:Nat)=>PV.int (lo+k)):=by
 intro G2 H2 hk hM hp hf;refine⟨λi x e=>?_,λi hi=>(show m<=i by simpa using hi)⟩;rw[D4] at e;cases e1:(C2 m)[i]? with
 |none=>rw[e1] at e;cases e
 | some j =>
  rw[e1] at e;cases e;obtain⟨hi,e2⟩:=D3.mp e1;rw[DI] at e2;subst e2;refine⟨(show i<m by simpa using hi),λv H3 y=>?_⟩;obtain⟨e3,y⟩:=y;subst e3 y;exact⟨Same.refl _,rfl⟩
def p6 (pe:pE):pA:=λenv n R=>pe env n λx jc n1=>match x with|.int j=>(-1000000<=j/\j<=1000000)/\R ((C2 j.toNat).map λ(k:Nat)=>PV.int (0+k)) jc n1|_=>False
def Ql (hg:∀z,Gl (F z) "range")(hm:∀z,(F z).mg "range"=none)(h:QE T K F e pe)(hs:D8 e=true):QI T K F tg (.Call (.Name "range" p) [e] [] pos) (p6 pe):=by
 obtain⟨t,h1,h2⟩:=h;refine⟨_,λz=>Oy (hg z) (hm z) (E3 (h1 z) G0 (C5 hs)) (by rw[C5 hs];rfl),⇑?_⟩;refine Ew (pe:=pe) (λC G σ H env n R Q hK hT S hp k=>h2 C G σ H env n R Q hK hT S hp λx jh n' v H' r S' rp f=>k x jh n' v H' r S' (.inl (hK▸rp)) f) hK hT S hp λx jc n1 v H1 p1 S1 r1 f1=>?_;cases x with
 |int j=>exact⟨j,by rw[(r1.rd S1).int],0x0,0x0,k _ _ _ _ _ p1.2 S1 f1 (Qk 0 _)⟩
 |_=>exact p1.elim
def qIs (pe:pE):pA:=λenv n R=>pe env n λx jc n1=>match x with|.str z=>z.cps.all (· < 128)=true/\R (z.cps.toList.map λc=>.str ⟨#[c]⟩) jc n1|_=>False
def qi_str (h:QE T K F e pe):QI T K F tg e (qIs pe):=by
 obtain⟨t,h1,h2⟩:=h;refine⟨_,λz=>pi_str (h1 z),⇑?_⟩;refine ↥h2 λx jc n1 v H1 p1 S1 r1 f1=>?_;cases x with
 | str z =>
  refine⟨z,r1,p1.1,k _ _ _ _ _ p1.2 S1 f1 ?_⟩;intro G2 H2 hk hM hp hf;refine⟨λi x e=>?_,λi hi=>(show z.cps.toList.length<=i by simpa using hi)⟩;rw[D4] at e;cases e1:z.cps.toList[i]? with
  |none=>rw[e1] at e;cases e
  | some c =>
   rw[e1] at e;cases e;obtain⟨hi,_⟩:=D3.mp e1;refine⟨hi,λv H3 y=>?_⟩;obtain⟨e3,c',ec,ev⟩:=y;subst e3 ev;rw[e1] at ec;cases ec;exact⟨Same.refl _,rfl⟩
 |_=>exact p1.elim
noncomputable def X4 (xs:List PV):List PV:=xs.zipIdx.map λy=>.tup [.int (y.2:Nat),y.1]
def Lp {xs:List PV}{i:Nat}{x:PV}(h:(X4 xs)[i]?=some x):∃y,xs[i]?=some y/\x=.tup [.int (i:Nat),y]:=by
 unfold X4 at h;rw[D4,List.getElem?_zipIdx] at h;cases e:xs[i]? with
 |none=>rw[e] at h;cases h
 | some y =>
  rw[e] at h;cases h;exact⟨y,rfl,0o0⟩
def Lq (xs:List PV):(X4 xs).length=xs.length:=by unfold X4;simp
noncomputable def capS:Option (Option Slot)->Option Slot
 |some (some (.v x))=>some (.v x)
 |_=>none
def capV (cs:List (Option Nat))(env:Env):Env:=cs.map λo=>o.bind λj=>capS (env[j]?)
def P3 (g:pG)(tt:pT)(te:pE):List PV->Env->Nat->(List PV->Nat->Prop)->Prop
 |[],_,n,R=>R [] n
 |x::xs,env,n,R=>g x env λjc=>tt jc n λb jd n2=>if b=true then te jd n2 λy je n3=>P3 g tt te xs je n3 λys n4=>R (y::ys) n4 else P3 g tt te xs jd n2 R
def qTru:pT:=λenv n R=>R true env n
def J6 (cs:List (Option Nat))(pi:pA)(g:pG)(tt:pT)(te:pE):pA:=λenv n R=>pi env n λxs jc n1=>xs.length<=1000000/\P3 g tt te xs (capV cs jc) n1 λys n2=>R ys jc n2
structure Inn (K:A8)(T:PotK)(G:Gh)(σ:St)(H:Hp)(env:Env)(n:Nat):Prop where
 pots:∀p∈G.pots,p∈G.M/\T.at_ G.M H p n
 has:T.has G.pots
 mu:∀a∈G.M,∃o,H a=some o/\MutO o
 slots:∀(i:Nat) (s:Slot),env[i]?=some (some s)->∃x v,s=.v x/\σ[i]?=some (some v)/\Rep K G H x v
 len:env.length=σ.length
def Inn.sr (I:Inn K T G σ H env n):SR ⟨K,T,G.M,G.pots,H,false⟩ G σ H env n where
 frame b o _ e:=e
 sub a ha:=.inl ha
 sup a ha:=ha
 pots:=I.pots
 pre:=⟨[],0o0,.inl rfl⟩
 mu:=I.mu
 slots i s e:=by
  obtain⟨x,v,rfl,ev,r⟩:=I.slots i s e;exact⟨v,ev,r⟩
 inj i j xs ys a e1:=by
  obtain⟨x,v,z,_⟩:=I.slots i _ e1;cases z
 p0:=⟨λp hp=>(I.pots p hp).1,I.has⟩
 len:=I.len
 newp p hp hn:=absurd hp hn
def SR.inn (S:SR ⟨K,T,G.M,G.pots,H0,false⟩ G σ H env n):Inn K T G σ H env n where
 pots:=S.pots
 has:=S.hasG
 mu:=S.mu
 slots i s e:=by
  cases s with
  | v x =>
   obtain⟨v,ev,r⟩:=S.slots i _ e;exact⟨x,v,rfl,ev,r⟩
  | ow kk xs =>
   obtain⟨a,vs,ev,h1,h2,_⟩:=S.slots i _ e;exact absurd h1 h2
 len:=S.len
def Qm:TOk K T tTru qTru:=λC G σ H env n R Q hK hT S hp k=>k _ _ _ _ hp S Fr.refl
structure CI (K:A8)(T:PotK)(G:Gh)(H1:Hp)(D:A1)(σ:St)(H:Hp)(env:Env)(n:Nat)(jm:List PV)(us:List V):Prop where
 inn:Inn K T ⟨D::G.M,G.pots⟩ σ H env n
 kp:∀b o,b∉G.pots->H1 b=some o->H b=some o
 eD:H D=some (.lst us)
 ra:Reps K ⟨D::G.M,G.pots⟩ H jm us
noncomputable def CI.start {K:A8}{T:PotK}{G:Gh}{H1:Hp}{D:A1}{σ:St}{env:Env}{n:Nat}(hD:H1 D=none)(I0:Inn K T G σ H1 env n):CI K T G H1 D σ (upd H1 D (.lst [])) env n [] []:=by
 have lay:∀b o,H1 b=some o->upd H1 D (.lst []) b=some o:=λb o e=>Same.lay1 hD b o e;have new:∀a,a∈D::G.M->a∈G.M\/H1 a=none:=λa ha=>(B5.mp ha).elim (λz=>.inr (z▸hD)) .inl;refine⟨⟨λp hp=>⟨B6 _ (I0.pots p hp).1,?_⟩,I0.has,λa ha=>?_,λi s e=>?_,I0.len⟩,λb o _ e=>lay b o e,D9,rfl⟩
 ·have h1:=T.more (M':=D::G.M) (I0.pots p hp).2 new;obtain⟨o,e,_⟩:=T.mu h1;exact T.keep h1 (by rw[e,lay p o e]) λb o _ e=>lay b o e
 ·rcases B5.mp ha with rfl|ha
  ·exact⟨_,D9,trivial⟩
  ·obtain⟨o,e,m⟩:=I0.mu a ha;exact⟨o,lay a o e,m⟩
 ·obtain⟨x,v,rfl,ev,r⟩:=I0.slots i s e;exact⟨x,v,rfl,ev,Rep.mono (G':=⟨D::G.M,G.pots⟩) (λb o _ e=>lay b o e) new (λ_ _ e=>e) _ _ r⟩
def CI.go {K:A8}{T:PotK}{G:Gh}{H1:Hp}{D:A1}{σ σ':St}{H H':Hp}{env jh:Env}{n n':Nat}{jm:List PV}{us:List V}(c:CI K T G H1 D σ H env n jm us)(nD:D∉G.pots)(S:SR ⟨K,T,D::G.M,G.pots,H,false⟩ ⟨D::G.M,G.pots⟩ σ' H' jh n'):CI K T G H1 D σ' H' jh n' jm us:=
 ⟨S.inn,λb o hb e=>S.frame b o hb (c.kp b o hb e),S.frame D _ nD c.eD,Reps.mono (λb o hb e=>S.frame b o (λz=>hb (c.inn.pots b z).1) e) (λa ha=>.inl ha) (λ_ _ e=>e) _ _ c.ra⟩
def CI.fD {G:Gh}(o:HO):Fr ⟨D::G.M,G.pots⟩ H (upd H D o):=λb u hb e=>by
 rw[C8 (λz=>hb (by rw[z];exact B8))];exact e
def CI.add {K:A8}{T:PotK}{G:Gh}{H1:Hp}{D:A1}{σ:St}{H:Hp}{env:Env}{n:Nat}{jm:List PV}{us:List V}{y:PV}{u:V}(c:CI K T G H1 D σ H env n jm us)(nD:D∉G.pots)(hD:H1 D=none)(r:Rep K ⟨D::G.M,G.pots⟩ H y u):CI K T G H1 D σ (upd H D (.lst (us++[u]))) env n (jm++[y]) (us++[u]):=by
 refine⟨⟨λp hp=>⟨(c.inn.pots p hp).1,T.keep (c.inn.pots p hp).2 (C8 λz=>nD (by rw[<- z];exact hp)) (CI.fD _)⟩,c.inn.has,λa ha=>?_,λq s e=>?_,c.inn.len⟩,λb o hb e=>?_,D9,(c.ra.append (.one r)).fr (CI.fD _)⟩
 ·by_cases haD:a=D
  ·subst haD;exact⟨_,D9,trivial⟩
  ·rw[C8 haD];exact c.inn.mu a ha
 ·obtain⟨x,v,rfl,ev,r⟩:=c.inn.slots q s e;exact⟨x,v,rfl,ev,r.fr (CI.fD _)⟩
 ·rw[C8 (λz=>by rw[z,hD] at e;cases e)];exact c.kp b o hb e
def CI.it {K:A8}{T:PotK}{G:Gh}{H1:Hp}{D:A1}{σ:St}{H:Hp}{env:Env}{n:Nat}{jm:List PV}{us:List V}{J:It}{xs:List PV}(c:CI K T G H1 D σ H env n jm us)(hD:H1 D=none)(hJ:ItR K G H1 J xs):(∀(i:Nat) x,xs[i]?=some x->J.go i H/\∀v H3,J.yld i H v H3->Same H H3/\Rep K ⟨D::G.M,G.pots⟩ H3 x v)/\∀i,xs.length<=i->J.stop i H:=
 hJ ⟨D::G.M,G.pots⟩ H (fun b o hb e=>by
  by_cases z:b∈G.pots
  ·obtain⟨h1,_⟩:=c.inn.pots b z;rcases B5.mp h1 with rfl|h1
   ·rw[hD] at e;cases e
   ·exact absurd h1 hb
  ·exact c.kp b o z e) (λa ha=>(B5.mp (show a∈D::G.M from ha)).elim (λz=>.inr (z▸hD)) .inl) (λ_ _ e=>e) λp hp=>c.inn.sr.fresh hp
def Lr {K:A8}{T:PotK}{J:It}{g:TG}{tt:TT}{te:TE}{pg:pG}{ptt:pT}{pte:pE}(hg:GOk K g pg)(ht:TOk K T tt ptt)(he:EOk K T te pte){G:Gh}{H1:Hp}{xs:List PV}(hJ:ItR K G H1 J xs)(hl:xs.length<=1000000)
   {σc:St} {env:Env} {n:Nat} {R:List PV->Nat->Prop} {Q:VK} {D:A1} (hD:H1 D=none) (I0:Inn K T G σc H1 env n) (hp:P3 pg ptt pte xs env n R)
   (hQ:∀ys n' us H',R ys n'->(∀p∈G.pots,T.at_ (D::G.M) H' p n')->(∀b o,b∉G.pots->H1 b=some o->H' b=some o)->H' D=some (.lst us)->Reps K ⟨D::G.M,G.pots⟩ H' ys us->Q (.ref D) H') :
   CompW J g tt te Q D σc (upd H1 D (.lst [])):=by
 have nD:D∉G.pots:=λz=>I0.sr.fresh hD (I0.pots D z).1;refine⟨λi m σ H=>m=xs.length-i/\i<=xs.length/\∃env n jm us,CI K T G H1 D σ H env n jm us/\jm.length<=i/\P3 pg ptt pte (xs.drop i) env n λys n'=>R (jm++ys) n',⟨xs.length,rfl,F7 _,env,n,[],[],.start hD I0,B2 _,hp⟩,?_⟩;rintro i m σ H ⟨rfl,hi,env,n,jm,us,c,la,hc⟩;obtain⟨hgo,hstop⟩:=c.it hD hJ
 by_cases hlt:i<xs.length
 ·obtain⟨g1,g2⟩:=hgo i _ (C9 hlt);refine .inr ⟨g1,λv H2 y=>?_⟩;obtain⟨s2,rv⟩:=g2 v H2 y;rw[x6 hlt] at hc;refine hg _ _ σ H2 env n xs[i] v _ _ rfl (c.inn.sr.same s2) rv hc λjc σ1 hc1 S2=>?_;refine ht _ _ σ1 H2 jc n _ _ rfl rfl S2 hc1 λb jd n2 H4 hc2 S4 f4=>?_;cases b with
  |false=>exact⟨xs.length-(i+1),Cc _ _ hlt,rfl,hlt,jd,n2,jm,us,c.go nD S4,Nat.le_succ_of_le la,hc2⟩
  | true =>
   refine he _ _ σ1 H4 jd n2 _ _ rfl rfl S4 hc2 λy je n3 u H5 hc3 S5 r5 f5=>?_;have c5:=c.go nD S5;refine⟨us,c5.eD,by rw[<- c.ra.length];exact mil' 0x0,xs.length-(i+1),Cc _ _ hlt,rfl,hlt,je,n3,jm++[y],us++[u],c5.add nD hD r5,by rw[C7,Q5];omega,?_⟩;simp only[R8];exact hc3
 ·obtain rfl:i=xs.length:=Nat.le_antisymm hi (y7 hlt);refine .inl ⟨hstop _ (B2 _),?_⟩;rw[DL] at hc;have hc':R (jm++[]) n:=hc;rw[W5] at hc';exact hQ _ n us H hc' (λp hp=>(c.inn.pots p hp).2) c.kp c.eD c.ra
end
section
variable {T:PotK}{ι:Type}{K:A8}{F:ι->Cx}{e a b c:Expr}{es rest:List Expr}{pe pa pb pc:pE}{pos:Pos}{pl pr:pA}{pg:pG}{pgs:pGs}{pt:pT}
inductive QIf {ι:Type}(T:PotK)(K:A8)(F:ι->Cx)(jk:List Expr)(pt:pT):Prop
 |mk t (a:(∀z,PIf (F z) jk t)) (b:TOk K T t pt):QIf T K F jk pt
def Qn:QIf T K F [] qTru:=⟨_,λ_=>Pp,Qm⟩
def Qo (h:QT T K F c pt):QIf T K F [c] pt:=let ⟨t,h1,h2⟩:=h;⟨t,λz=>Pq (h1 z),h2⟩
def Hd {C:Ct}{G:Gh}{σ:St}{H:Hp}{env:Env}{n:Nat}(S:SR C G σ H env n)(cs:List (Option Nat)):Inn C.K C.T G (h9 cs σ) H (capV cs env) n where
 pots:=S.pots
 has:=S.hasG
 mu:=S.mu
 len:=by simp[capV,h9]
 slots i s e:=by
  unfold capV at e;rw[D4] at e;cases ec:cs[i]? with
  |none=>rw[ec] at e;cases e
  | some o =>
   rw[ec] at e;cases o with
   |none=>cases e
   | some j =>
    have e':capS (env[j]?)=some s:=by simpa using e
    unfold capS at e'
    split at e'
    ·rename_i x ex;cases e';obtain⟨v,ev,r⟩:=S.slots j _ ex;refine⟨x,v,rfl,?_,r⟩;unfold h9;rw[D4,ec];simp[ev]
    ·cases e'
noncomputable def cutH (H:Hp)(D:A1):Hp:=λb=>if b=D then none else H b
def T6 {H:Hp}{D b:A1}(h:b≠D):cutH H D b=H b:=ju h
def He {H:Hp}{D:A1}{o:HO}(h:H D=some o):upd (cutH H D) D o=H:=by
 funext b
 by_cases hb:b=D
 ·subst hb;rw[D9,h]
 ·rw[C8 hb,T6 hb]
def Qp {scope:J1}{cl:ι->List (Str×A1)}{N:List Str}{cs:List (Option Nat)}{ji tg iter:Expr}{jk:List Expr}{pi:pA}{ptt:pT}{pte:pE}(S:∀z,V5 (F z) scope (cl z) N cs)(hc:∀z,(F z).calm=true)(hi:QI T K F tg iter pi)
   (hg:QG K (λy:ι×List A1×A1×A4×Hp=>F2 (F y.1) scope (cl y.1) N y.2.1 y.2.2.1 y.2.2.2.1 y.2.2.2.2) tg pg) (ht:QIf T K (λy:ι×List A1×A1×A4×Hp=>F2 (F y.1) scope (cl y.1) N y.2.1 y.2.2.1 y.2.2.2.1 y.2.2.2.2) jk ptt)
   (he:QE T K (λy:ι×List A1×A1×A4×Hp=>F2 (F y.1) scope (cl y.1) N y.2.1 y.2.2.1 y.2.2.2.1 y.2.2.2.2) ji pte)
   (hs:∀z x,N8 iter (F z).env x=pure x:=by intro _ _;rfl):QN T K F (.ListComp ji [⟨tg,iter,jk,0⟩] scope pos) (J6 cs pi pg ptt pte):=by
 obtain⟨wi,i1,i2⟩:=hi;obtain⟨g,hg0,hg⟩:=hg;obtain⟨tt,ht0,ht⟩:=ht;obtain⟨te,he0,he⟩:=he;refine⟨_,λz=>KJ (S z) (hc z) (i1 z) (λfp C s H=>⟨hg0 (z,fp,C,s,H),ht0 (z,fp,C,s,H),he0 (z,fp,C,s,H)⟩) (hs z),⇑?_⟩;refine ↥i2 λxs jc n1 J H1 p1 S1 f1 hJ=>?_;intro D hD;have hDM:=S1.fresh hD;refine Lr (G:=G) hg ht he hJ p1.1 hD (hT▸hK▸Hd S1 cs) p1.2 λys n2 us H' rr hpots hk eD ry=>?_
 -- the heap without D
 have nD:∀b o,H1 b=some o->b≠D:=λb o e z=>by rw[z,hD] at e;cases e
 have hD0:C.H0 D=none:=by
  cases z:C.H0 D with
  |none=>rfl
  | some o =>
   by_cases hp:D∈C.pots0
   ·exact absurd (S1.sup D (S1.p0.1 D hp)) hDM
   ·have:=S1.frame D o hp z;rw[hD] at this;cases this
 have hk2:∀b o,b∉G.pots->H1 b=some o->cutH H' D b=some o:=λb o hb e=>by rw[T6 (nD b o e)];exact hk b o hb e
 have nc:∀b,b∉D::G.M->b≠D:=λb hb z=>hb (by rw[z];exact B8);have np:∀p∈G.pots,p≠D:=λp hp z=>hDM (z▸(S1.pots p hp).1)
 have Sb:SR C G σ (cutH H' D) jc n2:=S1.call hk2 λp hp=>by
  subst hT;have h2:=C.T.keep (hpots p hp) (H':=cutH H' D) (T6 (np p hp)) λb o hb e=>by rw[T6 (nc b hb)];exact e
  exact C.T.more h2 λa ha=>.inl (B6 _ ha)
 have:=k ys jc n2 D us (cutH H' D) rr Sb (f1.trans λb o hb e=>hk2 b o (λz=>hb (S1.pots b z).1) e) (by unfold cutH;rw[jt rfl]) ?_
 ·rw[He eD] at this;exact this
 ·exact Reps.mono (G:=⟨D::G.M,G.pots⟩) (λb o hb e=>by rw[T6 (nc b hb)];exact e) (λa ha=>.inl (B6 _ ha)) (λ_ _ e=>e) _ _ ry
end
structure p7 where
 nx:Env->Nat->Prop
 rt:PV->Nat->Prop
 bk:Env->Nat->Prop:=λ_ _=>False
 ct:Env->Nat->Prop:=λ_ _=>False
abbrev pS:=p7->Env->Nat->Prop
structure Ext (G:Gh)(H:Hp)(G':Gh)(H':Hp):Prop where
 keep:∀b o,b∉G.M->H b=some o->H' b=some o
 new:∀a∈G'.M,a∈G.M\/H a=none
 pot:∀(k:Nat) (p:A1),G.pots[k]?=some p->G'.pots[k]?=some p
def Ext.refl:Ext G H G H:=⟨λ_ _ _ e=>e,λ_ h=>.inl h,λ_ _ e=>e⟩
def Ext.fr (f:Fr G H H'):Ext G H G H':=⟨f,λ_ h=>.inl h,λ_ _ e=>e⟩
def Ext.trans (a:Ext G H G1 H1)(b:Ext G1 H1 G2 H2):Ext G H G2 H2 where
 keep c o hc e:=b.keep c o (λz=>(a.new c z).elim hc λz=>by rw[z] at e;cases e) (a.keep c o hc e)
 new c hc:=(b.new c hc).elim (fun z=>a.new c z) fun z=>by
  by_cases hM:c∈G.M
  ·exact .inl hM
  ·refine .inr ?_;cases e:H c with
   |none=>rfl
   |some o=>rw[a.keep c o hM e] at z;cases z
 pot k p e:=b.pot k p (a.pot k p e)
structure Link (C:Ct)(G:Gh)(H:Hp)(PD:p7)(D:Ends):Prop where
 nx:∀env n G' σ H',PD.nx env n->SR C G' σ H' env n->Ext G H G' H'->D.nx σ H'
 rt:∀x n v G' σ H' env,PD.rt x n->SR C G' σ H' env n->Rep C.K ⟨C.M0,G'.pots⟩ H' x v->Ext G H G' H'->D.rt v H'
 bk:∀env n G' σ H',PD.bk env n->SR C G' σ H' env n->Ext G H G' H'->D.bk σ H'
 ct:∀env n G' σ H',PD.ct env n->SR C G' σ H' env n->Ext G H G' H'->D.ct σ H'
def Link.ext (L:Link C G H PD D)(x:Ext G H G' H'):Link C G' H' PD D:=
 ⟨λenv n G2 σ H2 p S e=>L.nx env n G2 σ H2 p S (x.trans e),λy n v G2 σ H2 env p S r e=>L.rt y n v G2 σ H2 env p S r (x.trans e),λenv n G2 σ H2 p S e=>L.bk env n G2 σ H2 p S (x.trans e),λenv n G2 σ H2 p S e=>L.ct env n G2 σ H2 p S (x.trans e)⟩
def SOk (K:A8)(T:PotK)(np:Bool)(t:TS)(ps:pS):Prop:=∀(C:Ct) (G:Gh) (σ:St) (H:Hp) (env:Env) (n:Nat) (PD:p7) (D:Ends),C.K=K->C.T=T->C.np=np->SR C G σ H env n->ps PD env n->Link C G H PD D->t D σ H
inductive QS {ι:Type}(T:PotK)(np:Bool)(K:A8)(F:ι->Cx)(st:Stmt)(ps:pS):Prop
 |mk t (a:(∀z,PS (F z) st t)) (b:SOk K T np t ps):QS T np K F st ps
inductive QSs {ι:Type}(T:PotK)(np:Bool)(K:A8)(F:ι->Cx)(st:List Stmt)(ps:pS):Prop
 |mk t (a:(∀z,PSs (F z) st t)) (b:SOk K T np t ps):QSs T np K F st ps
def SR.out (S:SR C G σ H env n)(r:Rep C.K G H x v):Rep C.K ⟨C.M0,G.pots⟩ H x v:=
 Rep.mono (G':=⟨C.M0,G.pots⟩) (λ_ _ _ e=>e) (λa ha=>.inl (S.sup a ha)) (λ_ _ e=>e) _ _ r
def SR.old (S:SR C G σ H env n)(h:H a=none):C.H0 a=none:=by
 cases z:C.H0 a with
 |none=>rfl
 | some o =>
  by_cases hp:a∈C.pots0
  ·exact absurd (S.sup a (S.p0.1 a hp)) (S.fresh h)
  ·have:=S.frame a o hp z;rw[h] at this;cases this
def SR.moreO (S:SR C G σ H env n)(mo:MutO ob)(h:H a=none):SR C ⟨a::G.M,G.pots⟩ σ (upd H a ob) env n where
 frame b o hb e:=Same.lay1 h b o (S.frame b o hb e)
 sub b hb:=(B5.mp hb).elim (λz=>.inr (z▸S.old h)) (S.sub b)
 sup b hb:=B6 _ (S.sup b hb)
 pots p hp:=⟨B6 _ (S.pots p hp).1,by
  have h1:=C.T.more (M':=a::G.M) (S.pots p hp).2 (λc hc=>(B5.mp hc).elim (λz=>.inr (z▸h)) .inl);obtain⟨o,e,_⟩:=C.T.mu h1
  exact C.T.keep h1 (by rw[e,Same.lay1 h p o e]) λb o _ e=>Same.lay1 h b o e⟩
 pre:=S.pre
 mu b hb:=by
  rcases B5.mp hb with rfl|hb
  ·exact⟨_,D9,mo⟩
  ·obtain⟨o,e,m⟩:=S.mu b hb;exact⟨o,Same.lay1 h b o e,m⟩
 slots i s e:=by
  have mm:∀{x:PV} {v:V},Rep C.K G H x v->Rep C.K ⟨a::G.M,G.pots⟩ (upd H a ob) x v:=λr=>Rep.mono (G':=⟨a::G.M,G.pots⟩) (H':=upd H a ob) (λb o _ e=>Same.lay1 h b o e) (λc hc=>(B5.mp (show c∈a::G.M from hc)).elim (λz=>.inr (z▸h)) .inl) (λ_ _ e=>e) _ _ r;have:=S.slots i s e;cases s with
  | v x =>
   obtain⟨v,e1,r⟩:=this;exact⟨v,e1,mm r⟩
  | ow kk xs =>
   obtain⟨b,us,e1,h1,h2,h3,h4,r⟩:=this;exact⟨b,us,e1,B6 _ h1,h2,h3,Same.lay1 h _ _ h4,Reps.mono (G':=⟨a::G.M,G.pots⟩) (H':=upd H a ob) (λb o _ e=>Same.lay1 h b o e) (λc hc=>(B5.mp (show c∈a::G.M from hc)).elim (λz=>.inr (z▸h)) .inl) (λ_ _ e=>e) _ _ r⟩
 inj:=S.inj
 p0:=S.p0
 len:=S.len
 newp:=S.newp
def SR.more (S:SR C G σ H env n)(h:H a=none):SR C ⟨a::G.M,G.pots⟩ σ (upd H a (.lst vs)) env n:=S.moreO (ob:=.lst vs) trivial h
theorem SR.ow (S:SR C G σ H env n)(i:Nat)(kk:OK)(h:H a=none)(r:Reps C.K G H xs vs) :
   SR C ⟨a::G.M,G.pots⟩ (σ.set i (some (.ref a))) (upd H a (mkO kk vs)) (env.set i (some (.ow kk xs))) n:=by
 have S1:=S.moreO (KS kk vs) h;have aM:a∉G.M:=S.fresh h;have r1:Reps C.K ⟨a::G.M,G.pots⟩ (upd H a (mkO kk vs)) xs vs:=Reps.mono (G':=⟨a::G.M,G.pots⟩) (H':=upd H a (mkO kk vs)) (λb o _ e=>Same.lay1 h b o e) (λc hc=>(B5.mp (show c∈a::G.M from hc)).elim (λz=>.inr (z▸h)) .inl) (λ_ _ e=>e) _ _ r
 have ja:∀(j:Nat) (ys:OK×List PV),env[j]?=some (some (Slot.ow ys.1 ys.2))->σ[j]?≠some (some (.ref a)):=by
  intro j ys e z;obtain⟨b,us,e1,h1,_⟩:=S.slots j _ e;rw[z] at e1;cases e1;exact aM h1
 exact {
  frame:=S1.frame
  sub:=S1.sub
  sup:=S1.sup
  pots:=S1.pots
  pre:=S1.pre
  mu:=S1.mu
  slots:=λj s e=>by
   by_cases hj:i=j
   ·subst hj
    by_cases hl:i<env.length
    ·rw[N4 hl] at e;cases e;exact⟨a,vs,by rw[N4 (by rw[<- S.len];exact hl)],B8,λz=>aM (S.sup a z),λz=>aM (S.pots a z).1,D9,r1⟩
    ·rw[O6 (by rw[K7];omega)] at e;cases e
   ·rw[M8 hj] at e ⊢;exact S1.slots j s e
  inj:=fun j k xs' ys b e1 e2 e3 e4=>by
   by_cases hj:i=j
   ·by_cases hk:i=k
    ·ext
    ·subst hj;rw[M8 hk] at e2 e4
     by_cases hl:i<σ.length
     ·rw[N4 hl] at e3;cases e3;exact absurd e4 (ja k ys e2)
     ·rw[O6 (by rw[K7];omega)] at e3;cases e3
   ·rw[M8 hj] at e1 e3
    by_cases hk:i=k
    ·subst hk
     by_cases hl:i<σ.length
     ·rw[N4 hl] at e4;cases e4;exact absurd e3 (ja j xs' e1)
     ·rw[O6 (by rw[K7];omega)] at e4;cases e4
    ·rw[M8 hk] at e2 e4;exact S.inj j k xs' ys b e1 e2 e3 e4
  p0:=S.p0
  len:=by rw[K7,K7];exact S.len
  newp:=S.newp }
def SR.own (S:SR C G σ H env n)(i:Nat)(h:H a=none)(r:Reps C.K G H xs vs) :
   SR C ⟨a::G.M,G.pots⟩ (σ.set i (some (.ref a))) (upd H a (.lst vs)) (env.set i (some (.ow .lst xs))) n:=S.ow i .lst h r
def SR.putO {C:Ct}{G:Gh}{σ:St}{H:Hp}{env:Env}{n:Nat}(S:SR C G σ H env n){i:Nat}{kk:OK}(k':OK){a:A1}{xs ys:List PV}{vs:List V}(e:env[i]?=some (some (.ow kk xs)))(ea:σ[i]?=some (some (.ref a)))(r:Reps C.K G H ys vs) :
   SR C G σ (upd H a (mkO k' vs)) (env.set i (some (.ow k' ys))) n/\Fr G H (upd H a (mkO k' vs)):=by
 obtain⟨a',us,ea',aM,a0,ap,eH,_⟩:=S.slots i _ e;rw[ea] at ea';cases ea';have f:Fr G H (upd H a (mkO k' vs)):=λb o hb he=>by rw[C8 (λz=>hb (by grind))];exact he
 refine⟨{
  frame:=λb o hb he=>?_
  sub:=S.sub
  sup:=S.sup
  pots:=λp hp=>⟨(S.pots p hp).1,C.T.keep (S.pots p hp).2 (C8 λz=>ap (by grind)) f⟩
  pre:=S.pre
  mu:=λb hb=>?_
  slots:=λj s es=>?_
  inj:=λj k xs' ys' b e1 e2 e3 e4=>?_
  p0:=S.p0
  len:=by rw[K7];exact S.len
  newp:=S.newp },f⟩
 ·have hb2:b≠a:=λz=>by
   rcases S.sub a aM with z2|z2
   ·grind
   ·grind
  rw[C8 hb2];exact S.frame b o hb he
 ·by_cases hba:b=a
  ·subst hba;exact⟨_,D9,KS k' vs⟩
  ·obtain⟨o,he,m⟩:=S.mu b hb;exact⟨o,by rw[C8 hba];exact he,m⟩
 ·by_cases hj:i=j
  ·subst hj;have hl:i<env.length:=(D3.mp e).1;rw[N4 hl] at es;cases es;exact⟨a,vs,ea,aM,a0,ap,D9,r.fr f⟩
  ·rw[M8 hj] at es;have:=S.slots j s es;cases s with
   | v x =>
    obtain⟨v,e1,r⟩:=this;exact⟨v,e1,r.fr f⟩
   | ow kz zs =>
    obtain⟨b,us',e1,h1,h2,h3,h4,r⟩:=this;have hba:b≠a:=λz=>hj (S.inj i j (kk,xs) (kz,zs) a e es ea (by rw[e1,z]));exact⟨b,us',e1,h1,h2,h3,by rw[C8 hba];exact h4,r.fr f⟩
 ·have back:∀(j:Nat) (zs:OK×List PV),(env.set i (some (.ow k' ys)))[j]?=some (some (Slot.ow zs.1 zs.2))->∃zs':OK×List PV,env[j]?=some (some (.ow zs'.1 zs'.2)):=by
   intro j zs h
   by_cases hj:i=j
   ·simp_all
   ·grind
  obtain⟨z1,e1'⟩:=back j xs' e1;obtain⟨z2,e2'⟩:=back k ys' e2;exact S.inj j k z1 z2 b e1' e2' e3 e4
def SR.put (S:SR C G σ H env n)(e:env[i]?=some (some (.ow .lst xs)))(ea:σ[i]?=some (some (.ref a)))(r:Reps C.K G H ys vs) :
   SR C G σ (upd H a (.lst vs)) (env.set i (some (.ow .lst ys))) n/\Fr G H (upd H a (.lst vs)):=S.putO .lst e ea r
section
variable {T:PotK}{np:Bool}{ι:Type}{K:A8}{F:ι->Cx}{e a b c:Expr}{es:List Expr}{st:Stmt}{rest:List Stmt}{pe pa pb pc:pE}{pos:Pos}{pl pr:pA}{pg:pG}{pt:pT}{p1 p2:pS}
def qNx:pS:=λD env n=>D.nx env n
def qSeq (p q:pS):pS:=λD env n=>p { D with nx:=λe m=>q D e m } env n
def CO:QSs T np K F [] qNx:=⟨_,λ_=>Gy,λC G σ H env n PD D hK hT hn S hp L=>L.nx _ _ _ _ _ hp S Ext.refl⟩
def Bx (h:QS T np K F st p1):QSs T np K F [st] p1:=let ⟨t,h1,h2⟩:=h;⟨t,λz=>Cv (h1 z),h2⟩
def Ar (h:QS T np K F st p1)(h':QSs T np K F rest p2):QSs T np K F (st::rest) (qSeq p1 p2):=by
 obtain⟨t,a1,a2⟩:=h;obtain⟨u,b1,b2⟩:=h';refine⟨_,λz=>e9 (a1 z) (b1 z),⇑_⟩;refine a2 C G σ H env n _ _ hK hT hn S hp ⟨λjc n1 G1 σ1 H1 q1 S1 x1=>?_,L.rt,L.bk,L.ct⟩;exact b2 C G1 σ1 H1 jc n1 PD D hK hT hn S1 q1 (L.ext x1)
def sw_set (hN:X.N.Nodup)(hi:X.N[i]?=some x)(hx:Loc X.env.scope x)(hs:X9 e (some (.Name x pos')) pos.line X.env=pure false:=by rfl)(hf:X.fn x=true\/X.env.scope.names.lookup x=some .local:=by first|exact .inl rfl|exact .inr rfl|assumption)(te:TE)(h:EW X e te):SW X (.Assign [.Name x pos'] e pos) (tAsg te (L6 i)):=⟨GB hN hi hx h.h hs hf⟩
def Ls (hs:swapsWithSole [tg] e pos.line X.env=pure false:=by rfl)(hw:swappedStores [tg] e X.env=pure none:=by rfl)(h1:(F4 [tg] X.env).map (·.2)=[assign tg X.env]:=by rfl)(te:TE)(g:TG)(h:EW X e te)(hg:GW X tg g):SW X (.Assign [tg] e pos) (tAsg te g):=⟨ps_asg h.h hg.h hs hw h1⟩
def Qq (hs:X9 e none pos.line X.env=pure false:=by rfl)(te:TE)(h:EW X e te):SW X (.Expr e pos) (Gz te):=⟨Op h.h hs⟩
def qSet (i:Nat)(pe:pE):pS:=λD env n=>pe env n λx jc n1=>D.nx (jc.set i (some (.v x))) n1
def Lu (i:Nat)(h:∀z te,EW (F z) e te->SW (F z) st (tAsg te (L6 i)))(he:QE T K F e pe):QS T np K F st (qSet i pe):=by
 obtain⟨t,a1,a2⟩:=he;refine⟨_,λz=>(h z _ ⟨a1 z⟩).h,⇑_⟩;refine ↥a2 λx jc n1 v H1 q1 S1 r1 f1=>?_;exact L.nx _ _ _ _ _ q1 (S1.set i (hK▸r1)) (Ext.fr f1)
def qOwn (i:Nat)(pn:pA):pS:=λD env n=>pn env n λxs jc n1=>D.nx (jc.set i (some (.ow .lst xs))) n1
def CP {a:A1}(h:H a=none):Ext G H ⟨a::G.M,G.pots⟩ (upd H a o):=⟨λb u _ e=>Same.lay1 h b u e,λc hc=>(B5.mp (show c∈a::G.M from hc)).elim (λz=>.inr (z▸h)) .inl,λ_ _ e=>e⟩
def qs_own (i:Nat)(h:∀z te,EW (F z) e te->SW (F z) st (tAsg te (L6 i)))(he:QN T K F e pl):QS T np K F st (qOwn i pl):=by
 obtain⟨t,a1,a2⟩:=he;refine⟨_,λz=>(h z _ ⟨a1 z⟩).h,⇑_⟩;refine ↥a2 λxs jc n1 a vs Hb q1 S1 f1 hn1 r1=>?_;exact L.nx _ _ _ _ _ q1 (S1.own i hn1 (hK▸r1)) ((Ext.fr f1).trans (CP hn1))
def qAsg (pe:pE)(g:pG):pS:=λD env n=>pe env n λx jc n1=>g x jc λjd=>D.nx jd n1
def qs_asg (h:∀z te g,EW (F z) e te->GW (F z) tg g->SW (F z) st (tAsg te g))(he:QE T K F e pe)(hg:QG K F tg pg):QS T np K F st (qAsg pe pg):=by
 obtain⟨t,a1,a2⟩:=he;obtain⟨g,b1,b2⟩:=hg;refine⟨_,λz=>(h z _ _ ⟨a1 z⟩ ⟨b1 z⟩).h,⇑_⟩;refine ↥a2 λx jc n1 v H1 q1 S1 r1 f1=>?_;exact b2 C G σ H1 jc n1 x v _ _ hK S1 r1 q1 λjh σ' re S'=>L.nx _ _ _ _ _ re S' (Ext.fr f1)
def J0 (pe:pE):pS:=λD env n=>pe env n λ_ jc n1=>D.nx jc n1
def Qr (h:∀z te,EW (F z) e te->SW (F z) st (Gz te))(he:QE T K F e pe):QS T np K F st (J0 pe):=by
 obtain⟨t,a1,a2⟩:=he;refine⟨_,λz=>(h z _ ⟨a1 z⟩).h,⇑_⟩;exact ↥a2 λx jc n1 v H1 q1 S1 r1 f1=>L.nx _ _ _ _ _ q1 S1 (Ext.fr f1)
def qRet (pe:pE):pS:=λD env n=>pe env n λx _ n1=>D.rt x n1
def By (he:QE T K F e pe):QS T np K F (.Return (some e) pos) (qRet pe):=by
 obtain⟨t,a1,a2⟩:=he;refine⟨_,λz=>Cw (a1 z),⇑_⟩;exact ↥a2 λx jc n1 v H1 q1 S1 r1 f1=>L.rt _ _ _ _ _ _ _ q1 S1 (S1.out (hK▸r1)) (Ext.fr f1)
def As (i:Nat):pS:=λD env n=>match env[i]? with|some (some (.ow .lst xs))=>D.rt (.lst xs) n|_=>False
def Qs (i:Nat)(h:∀z,EW (F z) (.Name x p) (tVar i)):QS T np K F (.Return (some (.Name x p)) pos) (As i):=by
 refine⟨_,λz=>Cw (h z).h,⇑_⟩;unfold As at hp
 split at hp
 ·rename_i xs ex;obtain⟨a,vs,ev,h1,h2,h3,h4,r⟩:=S.slots i _ ex;refine⟨.ref a,ev,L.rt _ _ _ _ _ _ _ hp S ⟨a,vs,rfl,⟨h2,h4⟩,?_⟩ Ext.refl⟩;exact Reps.mono (G':=⟨C.M0,G.pots⟩) (λ_ _ _ e=>e) (λa ha=>.inl (S.sup a ha)) (λ_ _ e=>e) _ _ r
 ·exact hp.elim
def qIfS (t:pT)(p q:pS):pS:=λD env n=>t env n λb jc n1=>if b=true then p D jc n1 else q D jc n1
def CQ (hc:QT T K F c pt)(h1:QSs T np K F x p1)(h2:QSs T np K F y p2):QS T np K F (.If c x y pos) (qIfS pt p1 p2):=by
 obtain⟨tc,c1,c2⟩:=hc;obtain⟨t,a1,a2⟩:=h1;obtain⟨u,b1,b2⟩:=h2;refine⟨_,λz=>GA (c1 z) (a1 z) (b1 z),⇑_⟩;refine ↥c2 λd jc n1 H1 q1 S1 f1=>?_;cases d with
 |true=>exact a2 C G σ H1 jc n1 PD D hK hT hn S1 q1 (L.ext (Ext.fr f1))
 |false=>exact b2 C G σ H1 jc n1 PD D hK hT hn S1 q1 (L.ext (Ext.fr f1))
def forL (g:pG)(b:pS)(D:p7):List PV->Env->Nat->Prop
 |[],env,n=>D.nx env n
 |x::xs,env,n=>g x env λjc=>b { D with nx:=λe m=>forL g b D xs e m,ct:=λe m=>forL g b D xs e m,bk:=D.nx } jc n
def qFor (pi:pA)(g:pG)(b:pS):pS:=λD env n=>pi env n λxs jc n1=>forL g b D xs jc n1
def qs_for (hc:∀z,(F z).calm=true)(hi:QI T K F tg iter pl)(hg:QG K F tg pg)(hb:QSs T np K F body p1)(hp:∀z,PassesOwn (A7 (F z).prog (F z).w) (F z).A (F z).env (F z).xe)(hs:∀z x,N8 iter (F z).env x=pure x):QS T np K F (.For tg iter body [] pos) (qFor pl pg p1):=by
 obtain⟨wi,i1,i2⟩:=hi;obtain⟨g,g1,g2⟩:=hg;obtain⟨t,b1,b2⟩:=hb;refine⟨_,λz=>ps_for (hp z) (hc z) (i1 z) (g1 z) (b1 z) (hs z),⇑_⟩;refine ↥i2 λxs jc n1 J H1 q1 S1 f1 hJ=>?_;have L1:=L.ext (Ext.fr f1);refine⟨λi m σ H=>m=xs.length-i/\i<=xs.length/\∃G' env n,SR C G' σ H env n/\Ext G H1 G' H/\forL pg p1 PD (xs.drop i) env n,⟨xs.length,0o0,F7 _,G,jc,n1,S1,Ext.refl,by simpa using q1⟩,?_⟩;rintro i m σ' H' ⟨rfl,hi,G',jh,n',S',x',q'⟩;have hf:∀p,H' p=none->p∉G'.M:=λp hp=>S'.fresh hp;obtain⟨hgo,hstop⟩:=hJ G' H' x'.keep x'.new x'.pot hf
 by_cases hlt:i<xs.length
 ·obtain⟨go1,go2⟩:=hgo i _ (C9 hlt);rw[x6 hlt] at q';refine .inr ⟨go1,λσ H=>∃G' env n,SR C G' σ H env n/\Ext G H1 G' H/\forL pg p1 PD (xs.drop (i+1)) env n,λσ2 H2 h2=>⟨xs.length-(i+1),0x0,rfl,hlt,h2⟩,λv H2 y=>?_⟩;obtain⟨s2,rv⟩:=go2 v H2 y;have x2:Ext G' H' G' H2:=Ext.fr (Fr.of s2);refine g2 C G' σ' H2 jh n' _ v _ _ hK (S'.same s2) rv q' λjd σ2 q2 S2=>?_;refine b2 C G' σ2 H2 jd n' _ _ hK hT hn S2 q2 ⟨λe3 n3 G3 σ3 H3 q3 S3 x3=>?_,λy n3 v G3 σ3 H3 e3 q3 S3 r3 x3=>?_,λe3 n3 G3 σ3 H3 q3 S3 x3=>?_,λe3 n3 G3 σ3 H3 q3 S3 x3=>?_⟩
  ·exact⟨G3,e3,n3,S3,(x'.trans x2).trans x3,q3⟩
  ·exact L1.rt _ _ _ _ _ _ _ q3 S3 r3 ((x'.trans x2).trans x3)
  ·exact L1.nx _ _ _ _ _ q3 S3 ((x'.trans x2).trans x3)
  ·exact⟨G3,e3,n3,S3,(x'.trans x2).trans x3,q3⟩
 ·have ei:i=xs.length:=0x0
  subst ei;rw[DL] at q';exact .inl ⟨hstop _ (B2 _),L1.nx _ _ _ _ _ q' S' x'⟩
def V8 (t:pT)(b:pS)(D:p7):Nat->Env->Nat->Prop
 |0,_,_=>False
 |k+1,env,n=>t env n λc jc n1=>if c=true then b { D with nx:=λe m=>V8 t b D k e m,ct:=λe m=>V8 t b D k e m,bk:=D.nx } jc n1 else D.nx jc n1
def Ez (t:pT)(b:pS):pS:=λD env n=>∃k,V8 t b D k env n
def Qt (hc:QT T K F c pt)(hb:QSs T np K F body p1)(hp:∀z,PassesOwn (A7 (F z).prog (F z).w) (F z).A (F z).env (F z).xe):QS T np K F (.While c body [] pos) (Ez pt p1):=by
 obtain⟨tc,c1,c2⟩:=hc;obtain⟨t,b1,b2⟩:=hb;refine⟨_,λz=>Os (hp z) (c1 z) (b1 z),⇑_⟩;obtain⟨k,hp⟩:=hp;refine⟨λm σ H'=>∃G' env n,SR C G' σ H' env n/\Ext G H G' H'/\V8 pt p1 PD m env n,⟨k,G,env,n,S,Ext.refl,hp⟩,?_⟩;rintro m σ1 H1 ⟨G1,jc,n1,S1,x1,q1⟩;cases m with
 |zero=>exact q1.elim
 | succ m =>
  refine c2 C G1 σ1 H1 jc n1 _ _ hK hT S1 q1 λd jd n2 H2 q2 S2 f2=>?_;have x2:=x1.trans (Ext.fr f2);cases d with
  |false=>exact iteF (L.nx _ _ _ _ _ q2 S2 x2)
  | true =>
   refine iteT ⟨λσ H'=>∃G' env n,SR C G' σ H' env n/\Ext G H G' H'/\V8 pt p1 PD m env n,λσ' H' h=>⟨m,0x0,h⟩,?_⟩;exact b2 C G1 σ1 H2 jd n2 _ _ hK hT hn S2 q2 ⟨λe3 n3 G3 σ3 H3 q3 S3 x3=>⟨G3,e3,n3,S3,x2.trans x3,q3⟩,λy n3 v G3 σ3 H3 e3 q3 S3 r3 x3=>L.rt _ _ _ _ _ _ _ q3 S3 r3 (x2.trans x3),λe3 n3 G3 σ3 H3 q3 S3 x3=>L.nx _ _ _ _ _ q3 S3 (x2.trans x3),λe3 n3 G3 σ3 H3 q3 S3 x3=>⟨G3,e3,n3,S3,x2.trans x3,q3⟩⟩
def Hf (i:Nat)(pe:pE):pE:=λenv n R=>pe env n λy jc n1=>match jc[i]? with|some (some (.ow .lst xs))=>xs.length<1000000/\R .non (jc.set i (some (.ow .lst (xs++[y])))) n1|_=>False
def Qu (i:Nat)(hv:∀z,EW (F z) (.Name x p) (tVar i))(he:QE T K F e pe)(hs:D8 e=true)(hbase:∀z,j9 (.Name x p) "append" (F z).env (eval (.Name x p) (F z).env)=eval (.Name x p) (F z).env)(hline:(ap.endLine == pos.line)=true)
   (hfew:∀z,((backTo pos (D6 [e] (F z).env)).all (λx=>!x.1)&&(backToKw pos (x4 [] (F z).env)).all (λx=>x.1.isSome)&&decide (([e]:List Expr).length+([]:List R4).length+(if([]:List R4).isEmpty then 0 else 1)<30))=true) (hK:∀z,(F z).K=K):QE T K F (.Call (.Attribute (.Name x p) "append" ap) [e] [] pos) (λenv n R=>(∃xs,env[i]?=some (some (.ow .lst xs)))/\Hf i pe env n R):=by
 obtain⟨t,a1,a2⟩:=he;refine⟨tBM K "list" KC (tVar i) (T4 t tNil),λz=>hK z▸CD Co PySem.F.slot_list_append PySem.F.type_list_append KD (hv z).h (E3 (a1 z) G0 (C5 hs)) (hbase z) (hfew z) hline (C5 hs),⇑?_⟩;obtain⟨⟨xs0,e0⟩,hp⟩:=hp;obtain⟨a,vs,ev,h1,h2,h3,h4,r⟩:=S.slots i _ e0;refine⟨.ref a,ev,.inl ⟨rfl,vs,SqL.of h4⟩,?_⟩;refine ↥a2 λy jc n1 v H1 q1 S1 r1 f1=>?_
 split at q1
 ·rename_i xs ex;obtain⟨a',us,ev',g1,g2,g3,g4,r'⟩:=S1.slots i _ ex;rw[ev] at ev';cases ev';subst hK;obtain⟨S2,f2⟩:=S1.put ex ev (r'.append (.one r1));exact⟨a,us,v,rfl,rfl,g4,by rw[<- r'.length];exact mil' 0x0,k _ _ _ _ _ q1.2 S2 rfl (f1.trans f2)⟩
 ·exact q1.elim
def qPop (i:Nat):pE:=λenv n R=>match env[i]? with|some (some (.ow .lst xs))=>(match xs[xs.length-1]? with|some y=>R y (env.set i (some (.ow .lst xs.dropLast))) n|none=>False)|_=>False
def Qv (r:Reps K G H xs vs):Reps K G H xs.dropLast vs.dropLast:=by
 rw[List.dropLast_eq_take,List.dropLast_eq_take,<- r.length];exact r.take _
def qe_pop (i:Nat)(hv:∀z,EW (F z) (.Name x p) (tVar i))(hbase:∀z,j9 (.Name x p) "pop" (F z).env (eval (.Name x p) (F z).env)=eval (.Name x p) (F z).env)(hline:(ap.endLine == pos.line)=true)(hK:∀z,(F z).K=K):QE T K F (.Call (.Attribute (.Name x p) "pop" ap) [] [] pos) (qPop i):=by
 refine⟨tBM0 K "list" rPop (tVar i),λz=>hK z▸pe_bm0 Co PySem.F.slot_list_pop PySem.F.type_list_pop mt_pop (hv z).h (hbase z) hline,⇑?_⟩;unfold qPop at hp
 split at hp
 ·rename_i xs ex
  split at hp
  ·rename_i y ey;obtain⟨a,vs,ev,h1,h2,h3,h4,r⟩:=S.slots i _ ex;obtain⟨v,e1,rv⟩:=r.get' ey;obtain⟨S2,f2⟩:=S.put ex ev (Qv r);subst hK;exact⟨.ref a,ev,.inl ⟨rfl,vs,SqL.of h4⟩,a,vs,v,rfl,rfl,h4,by rw[<- r.length];exact e1,k _ _ _ _ _ hp S2 (rv.fr f2) f2⟩
  ·exact hp.elim
 ·exact hp.elim
def Hg (i:Nat)(pe:pE):pE:=λenv n R=>pe env n λy jc n1=>match jc[i]?,y with|some (some (.ow .lst xs)),.int d=>xs.length<=1000000/\(match ixN xs.length d with|some j=>(match xs[j]? with|some z=>R z (jc.set i (some (.ow .lst (xs.eraseIdx j)))) n1|none=>False)|none=>False)|_,_=>False
def Qw (i:Nat)(hv:∀z,EW (F z) (.Name x p) (tVar i))(he:QE T K F e pe)(hs:D8 e=true)(hbase:∀z,j9 (.Name x p) "pop" (F z).env (eval (.Name x p) (F z).env)=eval (.Name x p) (F z).env)(hline:(ap.endLine == pos.line)=true)
   (hfew:∀z,((backTo pos (D6 [e] (F z).env)).all (λx=>!x.1)&&(backToKw pos (x4 [] (F z).env)).all (λx=>x.1.isSome)&&decide (([e]:List Expr).length+([]:List R4).length+(if([]:List R4).isEmpty then 0 else 1)<30))=true) (hK:∀z,(F z).K=K) :
   QE T K F (.Call (.Attribute (.Name x p) "pop" ap) [e] [] pos) (λenv n R=>(∃xs,env[i]?=some (some (.ow .lst xs)))/\Hg i pe env n R):=by
 obtain⟨t,a1,a2⟩:=he;refine⟨tBM K "list" KG (tVar i) (T4 t tNil),λz=>hK z▸CD Co PySem.F.slot_list_pop PySem.F.type_list_pop Ph (hv z).h (E3 (a1 z) G0 (C5 hs)) (hbase z) (hfew z) hline (C5 hs),⇑?_⟩;obtain⟨⟨xs0,e0⟩,hp⟩:=hp;obtain⟨a,vs,ev,h1,h2,h3,h4,r⟩:=S.slots i _ e0;refine⟨.ref a,ev,.inl ⟨rfl,vs,SqL.of h4⟩,?_⟩;refine ↥a2 λy jc n1 v H1 q1 S1 r1 f1=>?_
 split at q1
 ·rename_i xs d ex;obtain⟨hlen,q1⟩:=q1
  split at q1
  ·rename_i j ej
   split at q1
   ·rename_i z ez;obtain⟨a',us,ev',g1,g2,g3,g4,r'⟩:=S1.slots i _ ex;rw[ev] at ev';cases ev';subst hK;obtain⟨S2,f2⟩:=S1.put ex ev (r'.eraseIdx j);obtain⟨w,e1,rw'⟩:=r'.get' ez;obtain⟨q1',q2',q3',q4'⟩:=GJ ej;refine⟨a,us,d,j,w,rfl,by rw[show v=.int d from r1],g4,?_,?_,by rw[<- r'.length];exact q1',e1,k _ _ _ _ _ q1 S2 (rw'.fr f2) (f1.trans f2)⟩
    ·ext
    ·ext
   ·exact q1.elim
  ·exact q1.elim
 ·exact q1.elim
end
abbrev pSl:=Env->Nat->(Slot->Env->Nat->Prop)->Prop
def CS (σ:St)(env:Env)(a:A1):Prop:=∃(j:Nat) (ys:OK×List PV),env[j]?=some (some (.ow ys.1 ys.2))/\σ[j]?=some (some (.ref a))
def SR.slot (S:SR C G σ H env n)(i:Nat)(r:CH C G H (some (some v)) s)(h:∀(xs:OK×List PV) a,s=.ow xs.1 xs.2->v=.ref a->¬CS σ env a):SR C G (σ.set i (some v)) H (env.set i (some s)) n where
 frame:=S.frame
 sub:=S.sub
 sup:=S.sup
 pots:=S.pots
 pre:=S.pre
 mu:=S.mu
 slots j t e:=by
  by_cases hj:i=j
  ·subst hj
   by_cases hl:i<env.length
   ·rw[N4 hl] at e;cases e;rw[N4 (by rw[<- S.len];exact hl)];exact r
   ·rw[O6 (by rw[K7];omega)] at e;cases e
  ·rw[M8 hj] at e ⊢;exact S.slots j t e
 inj j k xs ys b e1 e2 e3 e4:=by
  by_cases hj:i=j
  ·by_cases hk:i=k
   ·ext
   ·subst hj;rw[M8 hk] at e2 e4
    by_cases hl:i<env.length
    ·rw[N4 hl] at e1;rw[N4 (by rw[<- S.len];exact hl)] at e3;cases e1;cases e3;exact absurd ⟨k,ys,e2,e4⟩ (h xs b rfl rfl)
    ·rw[O6 (by rw[K7];omega)] at e1;cases e1
  ·rw[M8 hj] at e1 e3
   by_cases hk:i=k
   ·subst hk
    by_cases hl:i<env.length
    ·rw[N4 hl] at e2;rw[N4 (by rw[<- S.len];exact hl)] at e4;cases e2;cases e4;exact absurd ⟨j,xs,e1,e3⟩ (h ys b rfl rfl)
    ·rw[O6 (by rw[K7];omega)] at e2;cases e2
   ·rw[M8 hk] at e2 e4;exact S.inj j k xs ys b e1 e2 e3 e4
 p0:=S.p0
 len:=by rw[K7,K7];exact S.len
 newp:=S.newp
noncomputable def Ct.guard (C:Ct)(a:A1)(vs:List V):Ct:={ C with M0:=a::C.M0,H0:=upd C.H0 a (.lst vs) }
theorem SR.guard (S:SR C G σ H env n)(vs:List V)(h:H a=none):SR (C.guard a vs) ⟨a::G.M,G.pots⟩ σ (upd H a (.lst vs)) env n:=by
 have S1:=S.more (vs:=vs) h;have aM:=S.fresh h
 exact {
  frame:=λb o hb e=>by
   by_cases hba:b=a
   ·subst hba;have e':upd C.H0 b (.lst vs) b=some o:=e;rw[D9] at e' ⊢;exact e'
   ·have e':upd C.H0 a (.lst vs) b=some o:=e;rw[C8 hba] at e';exact S1.frame b o hb e'
  sub:=fun b hb=>by
   by_cases hba:b=a
   ·exact .inl (by rw[hba];exact B8)
   ·rcases S1.sub b hb with z|z
    ·exact .inl (B6 _ z)
    ·refine .inr ?_;show upd C.H0 a (.lst vs) b=none;rw[C8 hba];exact z
  sup:=λb hb=>by
   rcases B5.mp (show b∈a::C.M0 from hb) with rfl|z
   ·exact B8
   ·exact S1.sup b z
  pots:=S1.pots
  pre:=S1.pre
  mu:=S1.mu
  slots:=λi s e=>by
   cases s with
   | v x =>
    obtain⟨v,ev,r⟩:=S1.slots i _ e;exact⟨v,ev,r⟩
   | ow kk xs =>
    obtain⟨b,us,ev,h1,h2,h3,h4,r⟩:=S1.slots i _ e;obtain⟨b',us',ev',g1,_⟩:=S.slots i _ e;rw[ev] at ev';cases ev';refine⟨b,us,ev,h1,λz=>?_,h3,h4,r⟩;rcases B5.mp (show b∈a::C.M0 from z) with rfl|z
    ·exact aM g1
    ·exact h2 z
  inj:=S1.inj
  p0:=⟨λp hp=>B6 _ (S1.p0.1 p hp),S1.p0.2⟩
  len:=S1.len
  newp:=λp hp hn hM=>by
   rcases B5.mp (show p∈a::C.M0 from hM) with rfl|z
   ·exact aM (S.pots p hp).1
   ·exact S1.newp p hp hn z }
def SR.unguard (S:SR (C.guard a vs) G σ H env n)(ha:a∉C.M0)(hp0:∀p∈C.pots0,p∈C.M0)(h0:C.H0 a=none):SR C G σ H env n/\H a=some (.lst vs)/\¬CS σ env a:=by
 have hap:a∉C.pots0:=λz=>ha (hp0 a z)
 refine⟨{
  frame:=λb o hb e=>S.frame b o hb (by
   show upd C.H0 a (.lst vs) b=some o
   rw[C8 (λz=>by rw[z,h0] at e;cases e)];exact e)
  sub:=fun b hb=>by
   by_cases hba:b=a
   ·exact .inr (hba▸h0)
   ·rcases S.sub b hb with z|z
    ·rcases B5.mp (show b∈a::C.M0 from z) with z|z
     ·exact absurd z hba
     ·exact .inl z
    ·have z':upd C.H0 a (.lst vs) b=none:=z;rw[C8 hba] at z';exact .inr z'
  sup:=λb hb=>S.sup b (B6 _ hb)
  pots:=S.pots
  pre:=S.pre
  mu:=S.mu
  slots:=λi s e=>by
   cases s with
   | v x =>
    obtain⟨v,ev,r⟩:=S.slots i _ e;exact⟨v,ev,r⟩
   | ow kk xs =>
    obtain⟨b,us,ev,h1,h2,h3,h4,r⟩:=S.slots i _ e;exact⟨b,us,ev,h1,λz=>h2 (B6 _ z),h3,h4,r⟩
  inj:=S.inj
  p0:=⟨hp0,S.p0.2⟩
  len:=S.len
  newp:=λp hp hn hM=>S.newp p hp hn (B6 _ hM) },S.frame a _ hap D9,?_⟩
 rintro⟨j,ys,e1,e2⟩;obtain⟨b,us,ev,h1,h2,_⟩:=S.slots j _ e1;rw[e2] at ev;cases ev;exact h2 B8
def LOk (K:A8)(T:PotK)(t:TE)(pl:pSl):Prop:=∀(C:Ct) (G:Gh) (σ:St) (H:Hp) (env:Env) (n:Nat) (R:Slot->Env->Nat->Prop) (Q:VK),C.K=K->C.T=T->SR C G σ H env n->pl env n R->
 (∀x jh n' v H',R (.v x) jh n'->SR C G σ H' jh n'->Rep K G H' x v->Fr G H H'->Q v H')->
 (∀xs jh n' a vs Hb,R (.ow .lst xs) jh n'->SR C G σ Hb jh n'->Fr G H Hb->Hb a=none->Reps K G Hb xs vs->Q (.ref a) (upd Hb a (.lst vs)))->t σ H Q
inductive QL {ι:Type}(T:PotK)(K:A8)(F:ι->Cx)(e:Expr)(pl:pSl):Prop
 |mk t (a:(∀z,PE (F z) e t)) (b:LOk K T t pl):QL T K F e pl
def sV (pe:pE):pSl:=λenv n R=>pe env n λx jc n1=>R (.v x) jc n1
def sO (pn:pA):pSl:=λenv n R=>pn env n λxs jc n1=>R (.ow .lst xs) jc n1
section
variable {T:PotK}{np:Bool}{ι:Type}{K:A8}{F:ι->Cx}{e a b c:Expr}{es:List Expr}{st:Stmt}{rest:List Stmt}{pe pa pb pc:pE}{pos:Pos}{pl pr:pA}{pg:pG}{pt:pT}{p1 p2:pS}{s1 s2 s3:pSl}
def ql_v (h:QE T K F e pe):QL T K F e (sV pe):=let ⟨t,h1,h2⟩:=h;⟨t,h1,λC G σ H env n R Q hK hT S hp k _=>↥h2 λx jh n' v H' r S' rp f=>k x jh n' v H' r S' rp f⟩
def ql_o (h:QN T K F e pl):QL T K F e (sO pl):=let ⟨t,h1,h2⟩:=h;⟨t,h1,λC G σ H env n R Q hK hT S hp _ k=>↥h2 λxs jh n' a vs Hb r S' f hn rs=>k xs jh n' a vs Hb r S' f hn rs⟩
def Got (C:Ct)(G:Gh)(H:Hp)(σ:St)(env:Env)(s:Slot)(v:V):Prop:=CH C G H (some (some v)) s/\∀(xs:OK×List PV) a,s=.ow xs.1 xs.2->v=.ref a->¬CS σ env a
def Lv (h:LOk K T t s1)(hK:C.K=K)(hT:C.T=T)(S:SR C G σ H env n)(hp:s1 env n R)
   (k:∀s jh n' v G' H',R s jh n'->SR C G' σ H' jh n'->Ext G H G' H'->Got C G' H' σ jh s v->Q v H'):t σ H Q:=by
 refine ↥h (λx jh n' v H' r S' rp f=>?_) λxs jh n' a vs Hb r S' f hn rs=>?_
 ·exact k _ _ _ _ _ _ r S' (Ext.fr f) ⟨⟨v,rfl,hK▸rp⟩,λ_ _ z=>nomatch z⟩
 ·have aM:=S'.fresh hn;have S1:=S'.more (vs:=vs) hn;refine k _ _ _ _ _ _ r S1 ((Ext.fr f).trans (CP hn)) ⟨⟨a,vs,rfl,B8,λz=>aM (S'.sup a z),λz=>aM (S'.pots a z).1,D9,?_⟩,λys b e1 e2=>?_⟩
  ·exact Reps.mono (G':=⟨a::G.M,G.pots⟩) (H':=upd Hb a (.lst vs)) (λb o _ e=>Same.lay1 hn b o e) (λc hc=>(B5.mp (show c∈a::G.M from hc)).elim (λz=>.inr (z▸hn)) .inl) (λ_ _ e=>e) _ _ (hK▸rs)
  ·cases e2;rintro⟨j,zs,z1,z2⟩;obtain⟨b,us,ev,g1,_⟩:=S'.slots j _ z1;rw[z2] at ev;cases ev;exact aM g1
def Lw {R:Slot->Slot->Env->Nat->Prop}{Q:V->V->Hp->Prop}(h:LOk K T t s1)(h':LOk K T u s2)(hK:C.K=K)(hT:C.T=T)(S:SR C G σ H env n)(hp:s1 env n λx jc n1=>s2 jc n1 λy jd n2=>R x y jd n2)
   (k:∀x y jh n' v w G' H',R x y jh n'->SR C G' σ H' jh n'->Ext G H G' H'->Got C G' H' σ jh x v->Got C G' H' σ jh y w->(∀(xs ys:OK×List PV) a,x=.ow xs.1 xs.2->y=.ow ys.1 ys.2->v=.ref a->w≠.ref a)->Q v w H'):t σ H λv H1=>u σ H1 λw H2=>Q v w H2:=by
 refine ↥h (λx jc n1 v H1 q1 S1 r1 f1=>?_) λxs jc n1 a vs Hb q1 S1 f1 hn rs=>?_
 ·refine Lv h' hK hT S1 q1 λy jd n2 w G2 H2 q2 S2 x2 g2=>?_;exact k _ _ _ _ _ _ _ _ q2 S2 ((Ext.fr f1).trans x2) ⟨⟨v,rfl,Rep.mono x2.keep x2.new x2.pot _ _ (hK▸r1)⟩,λ_ _ z=>nomatch z⟩ g2 (λ_ _ _ z=>nomatch z)
 ·have aM:=S1.fresh hn;have Hh:=S1.guard vs hn;have a0:a∉C.M0:=λz=>aM (S1.sup a z);have aH:=S1.old hn;have x1:Ext G H ⟨a::G.M,G.pots⟩ (upd Hb a (.lst vs)):=(Ext.fr f1).trans (CP hn);have r1:Reps C.K ⟨a::G.M,G.pots⟩ (upd Hb a (.lst vs)) xs vs:=Reps.mono (G':=⟨a::G.M,G.pots⟩) (H':=upd Hb a (.lst vs)) (λb o _ e=>Same.lay1 hn b o e) (λc hc=>(B5.mp (show c∈a::G.M from hc)).elim (λz=>.inr (z▸hn)) .inl) (λ_ _ e=>e) _ _ (hK▸rs);refine Lv (C:=C.guard a vs) h' hK hT Hh q1 λy jd n2 w G2 H2 q2 S2 x2 g2=>?_;obtain⟨S3,e3,no⟩:=S2.unguard a0 S1.p0.1 aH;have aM2:a∈G2.M:=S2.sup a B8
  have ap2:a∉G2.pots:=λz=>by
   by_cases hz:a∈C.pots0
   ·exact a0 (S1.p0.1 a hz)
   ·exact S2.newp a z hz B8
  have gy:Got C G2 H2 σ jd y w:=by
   refine⟨?_,g2.2⟩;cases y with
   |v x=>exact g2.1
   | ow kk ys =>
    obtain⟨b,us,ev,h1,h2,h3,h4,r⟩:=g2.1;exact⟨b,us,ev,h1,λz=>h2 (B6 _ z),h3,h4,r⟩
  refine k _ _ _ _ _ _ _ _ q2 S3 (x1.trans x2) ⟨⟨a,vs,rfl,aM2,a0,ap2,e3,Reps.mono x2.keep x2.new x2.pot _ _ r1⟩,λ_ _ _ e=>by cases e;exact no⟩ gy λxs' ys b ex ey ev ew=>?_;subst ey;cases ev;obtain⟨b,us,ev,h1,h2,_⟩:=g2.1;rw[ew] at ev;cases ev;exact h2 B8
structure AW (X:Cx)(es:List Expr)(t:TA):Prop where
 h:PA X es t
def Hi {X:Cx}{i j:Nat}{x y:Str}{a b:Expr}{px py pt:Pos}{kt k2 pt2}{pos:Pos}(hc:X.calm=true)(hN:X.N.Nodup)(hi:X.N[i]?=some x)(hj:X.N[j]?=some y)(hij:i≠j)
   (hx:X.env.scope.names.lookup x=some .local) (hy:X.env.scope.names.lookup y=some .local) (hw:swappedStores [.Tuple [.Name x px,.Name y py] kt pt] (.Tuple [a,b] k2 pt2) X.env=pure (some [x,y]))
   (hs:swapsWithSole [.Tuple [.Name x px,.Name y py] kt pt] (.Tuple [a,b] k2 pt2) pos.line X.env=pure false:=by rfl) (ta:TA) (h:AW X [a,b] ta) :
   SW X (.Assign [.Tuple [.Name x px,.Name y py] kt pt] (.Tuple [a,b] k2 pt2) pos) (tPar i j ta):=⟨ps_par hc hN hi hj hij hx hy h.h hw hs⟩
def qPar (i j:Nat)(s1 s2:pSl):pS:=λD env n=>s1 env n λa jc n1=>s2 jc n1 λb jd n2=>D.nx ((jd.set i (some a)).set j (some b)) n2
def Hj {a:A1}(hl:env.length=σ.length)(h:CS (σ.set i (some v)) (env.set i (some s)) a):CS σ env a\/((∃xs:OK×List PV,s=.ow xs.1 xs.2)/\v=.ref a):=by
 obtain⟨j,ys,e1,e2⟩:=h
 by_cases hj:i=j
 ·subst hj
  by_cases hl':i<env.length
  ·rw[N4 hl'] at e1;rw[N4 0x0] at e2;cases e1;cases e2;exact .inr ⟨⟨_,rfl⟩,rfl⟩
  ·rw[O6 (by rw[K7];omega)] at e1;cases e1
 ·rw[M8 hj] at e1 e2;exact .inl ⟨j,ys,e1,e2⟩
def Ly (i j:Nat)(h:∀z ta,AW (F z) [a,b] ta->SW (F z) st (tPar i j ta))(h1:QL T K F a s1)(h2:QL T K F b s2)(n1:D8 a=true:=by rfl)(n2:D8 b=true:=by rfl):QS T np K F st (qPar i j s1 s2):=by
 obtain⟨t,a1,a2⟩:=h1;obtain⟨u,b1,b2⟩:=h2;refine⟨_,λz=>(h z _ ⟨E3 (a1 z) (E3 (b1 z) G0 (C5 n2)) (C5 n1)⟩).h,⇑_⟩;refine Lw (Q:=λv w H2=>∃v' w',[v,w]=[v',w']/\D.nx ((σ.set i (some v')).set j (some w')) H2) a2 b2 hK hT S hp λx y jd n2 v w G2 H2 q S2 x2 gx gy ne=>?_;refine⟨v,w,rfl,L.nx _ _ _ _ _ q ((S2.slot i gx.1 gx.2).slot j gy.1 λys b e1 e2 z=>?_) x2⟩;rcases Hj S2.len z with z|⟨⟨xs,ex⟩,ev⟩
 ·exact gy.2 ys b e1 e2 z
 ·exact ne xs ys b ex e1 ev e2
def Hk (ho:EW X o (tVar i))(ha:∀v,assign (.Subscript o ix pos) X.env v=(do
     let ov ← Q3 [v] (eval o X.env)
     let iv ← Q3 [v,ov] (eval ix X.env)
     Y0 pos
     Q3 [v,ov,iv] (setItem ov iv v)
     release [v,ov,iv] []):=by intro _;rfl) (ti:TE) (hi:EW X ix ti):GW X (.Subscript o ix pos) (gSub (tVar i) ti CC):=⟨pg_sub ho.h hi.h O_ ha⟩
def gAt (i:Nat)(pe:pE):PV->Env->Nat->(Env->Nat->Prop)->Prop:=λx env n R=>pe env n λy jc n1=>match jc[i]?,y with|some (some (.ow .lst xs)),.int d=>(match ixN xs.length d with|some j=>R (jc.set i (some (.ow .lst (xs.set j x)))) n1|none=>False)|_,_=>False
def qPut (i:Nat)(pv:pE)(pe:pE):pS:=λD env n=>pv env n λx jc n1=>(∃xs,jc[i]?=some (some (.ow .lst xs)))/\gAt i pe x jc n1 D.nx
def qs_put (i:Nat){pv:pE}(h:∀z te g,EW (F z) v te->GW (F z) (.Subscript o ix pos) g->SW (F z) st (tAsg te g))(hv:QE T K F v pv)(hg:∀z ti,EW (F z) ix ti->GW (F z) (.Subscript o ix pos) (gSub (tVar i) ti CC))(he:QE T K F ix pe):QS T np K F st (qPut i pv pe):=by
 obtain⟨tv,v1,v2⟩:=hv;obtain⟨ti,i1,i2⟩:=he;refine⟨_,λz=>(h z _ _ ⟨v1 z⟩ (hg z _ ⟨i1 z⟩)).h,⇑_⟩;refine ↥v2 λx jc n1 v H1 q1 S1 r1 f1=>?_;obtain⟨⟨xs0,e0⟩,q1⟩:=q1;obtain⟨a,vs,ev,h1,h2,h3,h4,r⟩:=S1.slots i _ e0;refine⟨.ref a,ev,?_⟩;refine i2 C G σ H1 jc n1 _ _ hK hT S1 q1 λy jd n2 w H2 q2 S2 r2 f2=>?_
 split at q2
 ·rename_i xs d ex
  split at q2
  ·rename_i j ej;obtain⟨a',us,ev',g1,g2,g3,g4,r'⟩:=S2.slots i _ ex;rw[ev] at ev';cases ev';subst hK;obtain⟨S3,f3⟩:=S2.put ex ev (r'.set j (r1.fr f2));exact⟨a,us,d,j,rfl,r2,g4,by rw[<- r'.length];exact ej,L.nx _ _ _ _ _ q2 S3 (Ext.fr ((f1.trans f2).trans f3))⟩
  ·exact q2.elim
 ·exact q2.elim
noncomputable def EA (i:Nat)(env:Env):Env:=match env[i]? with|some (some (.ow .lst xs))=>env.set i (some (.v (.lst xs)))|_=>env
def SR.freeze (S:SR C G σ H env n)(i:Nat):∃G',SR C G' σ H (EA i env) n/\Ext G H G' H:=by
 unfold EA
 split
 ·rename_i xs ex;obtain⟨a,vs,ev,h1,h2,h3,h4,r⟩:=S.slots i _ ex
  let G':Gh:=⟨G.M.filter (·≠a),G.pots⟩
  have sub:∀b∈G'.M,b∈G.M:=λb hb=>(G8.mp hb).1;have mm:∀{x:PV} {v:V},Rep C.K G H x v->Rep C.K G' H x v:=λr=>Rep.mono (G':=G') (λ_ _ _ e=>e) (λb hb=>.inl (sub b hb)) (λ_ _ e=>e) _ _ r;have mms:∀{x:List PV} {v:List V},Reps C.K G H x v->Reps C.K G' H x v:=λr=>Reps.mono (G':=G') (λ_ _ _ e=>e) (λb hb=>.inl (sub b hb)) (λ_ _ e=>e) _ _ r
  refine⟨G',{
   frame:=S.frame
   sub:=λb hb=>S.sub b (sub b hb)
   sup:=λb hb=>G8.mpr ⟨S.sup b hb,jq (show b≠a from λz=>h2 (by grind))⟩
   pots:=λp hp=>⟨G8.mpr ⟨(S.pots p hp).1,jq (show p≠a from λz=>h3 (by grind))⟩,C.T.more (S.pots p hp).2 λb hb=>.inl (sub b hb)⟩
   pre:=S.pre
   mu:=λb hb=>S.mu b (sub b hb)
   slots:=λj s es=>?_
   inj:=λj k xs' ys b e1 e2 e3 e4=>?_
   p0:=S.p0
   len:=by rw[K7];exact S.len
   newp:=S.newp },⟨λ_ _ _ e=>e,λb hb=>.inl (sub b hb),λ_ _ e=>e⟩⟩
  ·by_cases hj:i=j
   ·subst hj;rw[N4 (D3.mp ex).1] at es;cases es;exact⟨.ref a,ev,a,vs,rfl,⟨λz=>by simpa using(G8.mp z).2,h4⟩,mms r⟩
   ·rw[M8 hj] at es;have:=S.slots j s es;cases s with
    | v x =>
     obtain⟨v,e1,r⟩:=this;exact⟨v,e1,mm r⟩
    | ow kz zs =>
     obtain⟨b,us,e1,g1,g2,g3,g4,r⟩:=this;have hba:b≠a:=λz=>hj (S.inj i j (.lst,xs) (kz,zs) a ex es ev (by rw[e1,z]));exact⟨b,us,e1,G8.mpr ⟨g1,by simpa using hba⟩,g2,g3,g4,mms r⟩
  ·have back:∀(j:Nat) (zs:OK×List PV),(env.set i (some (.v (.lst xs))))[j]?=some (some (Slot.ow zs.1 zs.2))->env[j]?=some (some (.ow zs.1 zs.2)):=by
    intro j zs h
    by_cases hj:i=j
    ·grind
    ·grind
   exact S.inj j k xs' ys b (back j _ e1) (back k _ e2) e3 e4
 ·exact⟨G,S,Ext.refl⟩
def Bz (i:Nat)(p:pS):pS:=λD env n=>p D (EA i env) n
def Qx (i:Nat)(h:QS T np K F st p1):QS T np K F st (Bz i p1):=by
 obtain⟨t,a1,a2⟩:=h;refine⟨t,a1,⇑_⟩;obtain⟨G',S',x'⟩:=S.freeze i;exact a2 C G' σ H _ n PD D hK hT hn S' hp (L.ext x')
end
noncomputable def p8 (N:List Str)(xs:List PV):Env:=xs.map (λx=>some (.v x))++List.replicate (N.length-xs.length) none
def fnP (N ps:List Str)(body:pS):pF:=λxs n R=>xs.length=ps.length/\body ⟨λ_ m=>R .non m,R,λ_ _=>False,λ_ _=>False⟩ (p8 N xs) n
def Lz (hp:∀p∈G.pots,p∈G.M/\T.at_ G.M H p n)(hm:∀a∈G.M,∃o,H a=some o/\MutO o)(hh:T.has G.pots)(r:Reps K G H xs vs) :
   SR ⟨K,T,G.M,G.pots,H,np⟩ G (L2.start N vs) H (p8 N xs) n where
 frame b o _ e:=e
 sub a ha:=.inl ha
 sup a ha:=ha
 pots:=hp
 pre:=⟨[],0o0,.inl rfl⟩
 mu:=hm
 slots i s e:=by
  unfold p8 at e
  by_cases hi:i<xs.length
  ·rw[W4 (by simpa using hi),D4] at e;cases ex:xs[i]? with
   |none=>rw[ex] at e;cases e
   | some x =>
    rw[ex] at e;cases e;obtain⟨v,ev,rv⟩:=r.get' ex;refine⟨v,?_,rv⟩;unfold L2.start;rw[W4 (by rw[B0,<- r.length];exact hi),D4,ev]
    rfl
  ·rw[R6 (by simpa using hi),Gj] at e
   split at e <;> cases e
 inj i j xs' ys a e1:=by
  exfalso
  unfold p8 at e1
  by_cases hi:i<xs.length
  ·rw[W4 (by simpa using hi),D4] at e1;cases ex:xs[i]? with
   |none=>rw[ex] at e1;cases e1
   |some x=>rw[ex] at e1;cases e1
  ·rw[R6 (by simpa using hi),Gj] at e1
   split at e1 <;> cases e1
 p0:=⟨λp h=>(hp p h).1,hh⟩
 len:=by unfold p8 L2.start;simp[r.length]
 newp p h hn:=absurd h hn
section
variable {P:C3}{w:B9}{K:A8}{mg:Str->Option A3}{base:B3}{T:PotK}
def bd1 {P:List A3->Prop}(h:∀a,P [a])(us:List A3)(e:us.length=1):P us:=by
 obtain⟨a,rfl⟩:=List.length_eq_one_iff.mp e;exact h a
def bdS {P:List A3->Prop}(h:∀a us,us.length=n->P (a::us))(us:List A3)(e:us.length=n+1):P us:=by
 obtain⟨a,us,rfl⟩:=List.exists_cons_of_length_eq_add_one e;exact h a us (Nat.succ.inj e)
def bd2 {P:List A3->Prop}(h:∀a b,P [a,b])(us:List A3)(e:us.length=2):P us:=bdS (λa us e=>bd1 (P:=λus=>P (a::us)) (h a) us e) us e
def bd3 {P:List A3->Prop}(h:∀a b c,P [a,b,c])(us:List A3)(e:us.length=3):P us:=bdS (λa us e=>bd2 (P:=λus=>P (a::us)) (h a) us e) us e
def bd4 {P:List A3->Prop}(h:∀a b c d,P [a,b,c,d])(us:List A3)(e:us.length=4):P us:=bdS (λa us e=>bd3 (P:=λus=>P (a::us)) (h a) us e) us e
def bd5 {P:List A3->Prop}(h:∀a b c d e,P [a,b,c,d,e])(us:List A3)(e:us.length=5):P us:=bdS (λa us e=>bd4 (P:=λus=>P (a::us)) (h a) us e) us e
def fn_ok (F0:Fn0 K mg x st)(sc:Z0 N ps (G6 st))
   (bd:∀(kV doc pm:A3) (an:Option A1) (jo ct:A3) (us:List A3),us.length=ps.length->bindArgs (U4 x x (Z1 st) (P8 st) (G6 st) .none kV doc pm an jo ct) ⟨us,[]⟩=pure (ps.zip us))
   (h:∀(f:A1) (jo:A3) (A:D0) (outer:List PySem.Env) (s:A4) (H:Hp) (E:XK),Room k (A.deeper (Gp x (G6 st) s.heap.objs.size f jo))->
     QSs T false K (λ_:Unit=>(cxOf CX0 P w K mg base N x (G6 st) f jo A outer s H E).nox) (P8 st) body) :
   Kn P w K mg base x (k+1) ps (Bu K T (fnP N ps body)):=by
 refine F0.ok sc (λvs H Q E h=>?_) bd (λf jo A outer s H vs Q E hr hsp=>?_)
 ·obtain⟨G,xs,n,R,_,_,_,r,hf,_⟩:=h;rw[<- r.length];exact hf.1
 ·obtain⟨t,h1,h2⟩:=h f jo A outer s H E hr;obtain⟨G,xs,n,R,hp,hm,hh,r,hf,k'⟩:=hsp;refine⟨t,h1 (),?_⟩;have S0:=Lz (N:=N) (np:=false) hp hm hh r
  have fin:∀(x:PV) (n':Nat) (v:V) (G':Gh) (σ:St) (H':Hp) (env:Env),R x n'->SR ⟨K,T,G.M,G.pots,H,false⟩ G' σ H' env n'->Rep K ⟨G.M,G'.pots⟩ H' x v->Q v H':=by
   intro x n' v G' σ H' env rr S' rv
   have ep:G'.pots=G.pots:=by
    obtain⟨l,el,hl⟩:=S'.pre;rcases hl with hl|hl
    ·rw[el,hl,W5]
    ·cases hl
   rw[ep] at rv;exact k' _ _ _ _ rr rv (λp hp'=>T.more (S'.pots p (by rw[ep];exact hp')).2 λa ha=>.inl (S'.sup a ha)) S'.frame
  refine h2 _ G _ H _ n _ _ rfl rfl rfl S0 hf.2 ⟨λenv n' G' σ H' q S' _=>?_,λx n' v G' σ H' env q S' rv _=>fin x n' v G' σ H' env q S' rv,λ_ _ _ _ _ q=>q.elim,λ_ _ _ _ _ q=>q.elim⟩;exact fin .non n' .non G' σ H' env q S' rfl
def law_ok (F0:Fn0 K mg x st)(sc:Z0 N [y] (G6 st))
   (bd:∀(kV doc pm:A3) (an:Option A1) (jo ct:A3) (us:List A3),us.length=[y].length->bindArgs (U4 x x (Z1 st) (P8 st) (G6 st) .none kV doc pm an jo ct) ⟨us,[]⟩=pure ([y].zip us))
   (h:∀(f:A1) (jo:A3) (A:D0) (outer:List PySem.Env) (s:A4) (H:Hp) (E:XK),Room k (A.deeper (Gp x (G6 st) s.heap.objs.size f jo))->
     QSs T true K (λ_:Unit=>(cxOf CX0 P w K mg base N x (G6 st) f jo A outer s H E).nox) (P8 st) body)
   (hlaw:∀ns:List Int,ns.length<=63->body ⟨λ_ _=>False,λr _=>r=.bl true,λ_ _=>False,λ_ _=>False⟩ (p8 N [.scr ns]) 0) (h0:T.has []:=by trivial) :
   Kn P w K mg base x (k+1) [y] (Ej K):=by
 refine F0.ok sc (λvs H Q E h=>?_) bd (λf jo A outer s H vs Q E hr hsp=>?_)
 ·obtain⟨a,ns,rfl,_⟩:=h
  rfl
 ·obtain⟨t,h1,h2⟩:=h f jo A outer s H E hr;obtain⟨a,ns,rfl,hS,hl,hO,q⟩:=hsp;refine⟨t,h1 (),?_⟩
  let G:Gh:=⟨[],[]⟩
  have r:Reps K G H [.scr ns] [.ref a]:=by
   refine .one ⟨a,rfl,?_⟩;rcases hS with(hS|⟨o,hS⟩)|hS
   ·rcases hO a with z|⟨o,xs,z⟩
    ·rw[z] at hS;cases hS
    ·rw[z] at hS;cases hS
   ·exact .inl ⟨by simp[G],o,hS⟩
   ·exact .inr hS
  have S0:=Lz (T:=T) (N:=N) (np:=true) (n:=0) (G:=G) (λp hp=>nomatch hp) (λa ha=>nomatch ha) h0 r;refine h2 _ G _ H _ 0 _ _ rfl rfl rfl S0 (hlaw ns hl) ⟨λ_ _ _ _ _ q=>q.elim,λx n' v G' σ H' env qq S' rv _=>?_,λ_ _ _ _ _ q=>q.elim,λ_ _ _ _ _ q=>q.elim⟩;subst qq;obtain rfl:v=.bl true:=rv;exact q H'
end
def At:pF:=λxs n R=>match xs with|[.pot _,.int m]=>(0<m/\m<1000000/\n<1000000000)/\∀d:Int,0<=d->d<m->R (.int d) (n+1)|_=>False
section
variable {T:PotK}{np:Bool}{ι:Type}{K:A8}{F:ι->Cx}{e a b c:Expr}{es:List Expr}{pe pa pb pc:pE}{pos:Pos}{pl pr:pA}
def RdV.lst' {G:Gh}{H:Hp}{xs:List PV}{v:V}(h:RdV K G H (.lst xs) v):∃a vs,v=.ref a/\H a=some (.lst vs)/\Reps K G H xs vs:=by
 rcases h with⟨a,vs,e,t,r⟩|⟨a,vs,ys,ex,ev,h4,r⟩
 ·exact⟨a,vs,e,t.2,r⟩
 ·cases ex;exact⟨a,vs,ev,h4,r⟩
def qCat (pa pb:pE):pA:=λenv n R=>pa env n λx jc n1=>pb jc n1 λy jd n2=>match x,y with|.lst xs,.lst ys=>jd=jc/\xs.length+ys.length<=1000000/\R (xs++ys) jd n2|_,_=>False
def qn_cat (ha:QR T K F a pa)(hb:QR T K F b pb):QN T K F (.BinOp a .Add b pos) (qCat pa pb):=by
 obtain⟨t,a1,a2⟩:=ha;obtain⟨u,b1,b2⟩:=hb;refine⟨_,λz=>L7 op_cat (a1 z) (b1 z),⇑?_⟩;refine ↥a2 λx jc n1 v H1 q1 S1 r1 f1=>?_;refine b2 C G σ H1 jc n1 _ _ hK hT S1 q1 λy jd n2 w H2 q2 S2 r2 f2=>?_
 split at q2
 ·rename_i xs ys;obtain⟨e1,hl,q2⟩:=q2;subst e1;obtain⟨l,vs,ev,e1,rx⟩:=RdV.lst' ((r1.fr f2).rd S2);obtain⟨m,us,ew,e2,ry⟩:=RdV.lst' (r2.rd S2);exact⟨l,m,vs,us,ev,ew,e1,e2,by rw[<- rx.length,<- ry.length];exact mil hl,λp hn=>k _ _ _ _ _ _ q2 S2 (f1.trans f2) hn (hK▸rx.append ry)⟩
 ·exact q2.elim
noncomputable def V3:List PV->Option (List Str)
 |[]=>some []
 |.str b::xs=>(V3 xs).map (b::·)
 |_=>none
theorem Hl:∀{xs:List PV} {vs:List V} {bs:List Str},V3 xs=some bs->Reps K G H xs vs->vs=bs.map V.str
 |[],vs,bs,h,r=>by cases h;exact r
 | .str b :: xs, vs, bs, h, r => by
  obtain⟨v,t,e,rv,rt⟩:=r;cases e1:V3 xs with
  |none=>simp[V3,e1] at h
  | some cs =>
   have:b::cs=bs:=by simpa[V3,e1] using h
   subst this;rw[e,show v=.str b from rv,Hl e1 rt]
   rfl
 |.non::_,_,_,h,_=>by cases h
 |.int _::_,_,_,h,_=>by cases h
 |.bl _::_,_,_,h,_=>by cases h
 |.ty _::_,_,_,h,_=>by cases h
 |.pot _::_,_,_,h,_=>by cases h
 |.tup _::_,_,_,h,_=>by cases h
 |.lst _::_,_,_,h,_=>by cases h
 |.dct _ _::_,_,_,h,_=>by cases h
 |.fdt _ _::_,_,_,h,_=>by cases h
 |.scr _::_,_,_,h,_=>by cases h
theorem LA:∀bs:List Str,V3 (bs.map PV.str)=some bs
 |[]=>rfl
 |b::bs=>by simp[V3,LA bs]
noncomputable def EB:PV->Option Bool
 |.non=>some false
 |.bl b=>some b
 |.int i=>some (i != 0)
 |.str z=>if z.length<=1000000 then some ((z.length:Int) != 0) else none
 |.lst xs=>some (!xs.isEmpty)
 |.tup xs=>some (!xs.isEmpty)
 |_=>none
def CT (pe:pE):pT:=λenv n R=>pe env n λx jc n1=>match EB x with|some b=>R b jc n1|none=>False
def LB (r:Reps K G H xs vs):(!vs.isEmpty)=!xs.isEmpty:=by
 have:=r.length;cases xs <;> cases vs <;> simp_all
def LC {b:Bool}(h:EB x=some b)(r:RdV K G H x v):TruV K v H b:=by
 cases x with
 |non=>rw[r.non];cases h;rfl
 |bl c=>rw[r.bl];cases h;rfl
 |int i=>rw[r.int];cases h;rfl
 | str z =>
  rw[r.str]
  by_cases hz:z.length<=1000000
  ·have h':(if z.length<=1000000 then some ((z.length:Int) != 0) else none)=some b:=h;rw[jt hz] at h';cases h';exact⟨mil hz,rfl⟩
  ·have h':(if z.length<=1000000 then some ((z.length:Int) != 0) else none)=some b:=h;rw[ju hz] at h';cases h'
 |lst xs=>obtain⟨a,vs,ev,hq,rs⟩:=r.lst;rw[ev];cases h;exact .inl ⟨vs,hq,(LB rs).symm⟩
 |tup xs=>obtain⟨a,vs,ev,hq,rs⟩:=r.tup;rw[ev];cases h;exact .inr (.inl ⟨vs,hq,(LB rs).symm⟩)
 |_=>cases h
def Qy (h:QR T K F e pe)(he:∀z whole,isTrue e (F z).env whole=(do let v ← whole;Y0 e.pos;Q3 [v] (truthy v)))(hK:∀z,(F z).K=K):QT T K F e (CT pe):=by
 obtain⟨t,a1,a2⟩:=h;refine⟨_,λz=>hK z▸OJ (a1 z) (he z),⇑?_⟩;refine ↥a2 λx jc n1 v H1 q1 S1 r1 f1=>?_
 split at q1
 ·rename_i b eb;exact⟨b,hK▸LC eb (r1.rd S1),k _ _ _ _ q1 S1 f1⟩
 grind
def wNeg:w1:=λx R=>match x with|.int i=>R (.int (-i))|_=>False
def LD (h:QE T K F a pa):QE T K F (.UnaryOp .USub a pos) (qUn wNeg pa):=by
 obtain⟨t,a1,a2⟩:=h.r;refine⟨_,λz=>pe_un Kg (a1 z),ok_un (λG H x v R Q hf rx hw k=>?_) a2⟩;unfold wNeg at hw
 split at hw
 ·exact⟨_,rx.int,k _ _ _ hw (Same.refl _) rfl⟩
 ·exact hw.elim
end
def M4 (i:Nat)(pe:pE):pE:=λenv n R=>(∃xs,env[i]?=some (some (.ow .lst xs)))/\Hf i pe env n R
def Hm (i:Nat)(pe:pE):pE:=λenv n R=>(∃xs,env[i]?=some (some (.ow .lst xs)))/\Hg i pe env n R
theorem EC {te:pE}{rest:Env}(f:PV->PV):∀(xs:List PV) (s0:Option Slot) (n:Nat) (R:List PV->Nat->Prop),(∀x∈xs,∀m Q,Q (f x) (some (.v x)::rest) m->te (some (.v x)::rest) m Q)->R (xs.map f) n->P3 (gN 0) qTru te xs (s0::rest) n R
 |[],_,_,_,_,h=>h
 | x :: xs, s0, n, R, ht, h => by
  show te (some (.v x)::rest) n _;refine ht x B8 n _ ?_;exact EC f xs _ n _ (λy hy=>ht y (B6 _ hy)) h
theorem LF {te:pE}{rest:Env}(P:PV->Prop)(c N:Nat):∀(xs:List PV) (s0:Option Slot) (n:Nat) (R:List PV->Nat->Prop),
   (∀x∈xs,∀m Q,m<=N->(∀y m',P y->m'<=m+c->Q y (some (.v x)::rest) m')->te (some (.v x)::rest) m Q)->n+c*xs.length<=N->(∀ys n',ys.length=xs.length->(∀y∈ys,P y)->n'<=n+c*xs.length->R ys n')->P3 (gN 0) qTru te xs (s0::rest) n R
 |[],_,n,_,_,_,h=>h [] n rfl (λ_ z=>nomatch z) 0x0
 | x :: xs, s0, n, R, ht, hN, h => by
  have hl:c*(x::xs).length=c*xs.length+c:=by rw[D5,Nat.mul_succ]
  show te (some (.v x)::rest) n _;refine ht x B8 n _ 0x0 λy m' py hm=>?_;refine LF P c N xs _ m' _ (λy hy=>ht y (B6 _ hy)) 0x0 λys n' e p hn=>?_;exact h (y::ys) n' (by simp[e]) (λz hz=>(B5.mp hz).elim (λe=>e▸py) (p z)) 0x0
theorem O3 {g:pG}{b:pS}{D:p7}(I:Nat->Env->Nat->Prop):∀(xs:List PV) (k:Nat) (env:Env) (n:Nat),I k env n->
   (∀(i:Nat) x env n (N:Env->Nat->Prop),xs[i]?=some x->I (k+i) env n->(∀e m,I (k+i+1) e m->N e m)->g x env λjc=>b { D with nx:=N,ct:=N,bk:=D.nx } jc n)->(∀env n,I (k+xs.length) env n->D.nx env n)->forL g b D xs env n
 |[],k,env,n,h0,_,hd=>hd env n h0
 | x :: xs, k, env, n, h0, hs, hd => by
  show g x env λjc=>b { D with nx:=λe m=>forL g b D xs e m,ct:=λe m=>forL g b D xs e m,bk:=D.nx } jc n;refine hs 0 x env n _ rfl h0 λe m h1=>?_;refine O3 I xs (k+1) e m h1 (λi y env n N e1 h2 h3=>?_) λenv n h2=>hd env n (by rw[D5,show k+(xs.length+1)=k+1+xs.length by omega];exact h2);refine hs (i+1) y env n N (by simpa using e1) (by rw[show k+(i+1)=k+1+i by omega];exact h2) λe m h4=>h3 e m (by rw[show k+1+i+1=k+(i+1)+1 by omega];exact h4)
def CU {j i:Nat}{lo:Int}{x:PV}(h:((C2 j).map λ(k:Nat)=>PV.int (lo+k))[i]?=some x):i<j/\x=.int (lo+i):=by grind
def Au:((C2 j).map λ(k:Nat)=>PV.int (lo+k)).length=j:=0o0
def V9 {α:Type}{xs:List α}{d:Int}(h0:0<=d)(h1:d<xs.length):∃x,x∈xs/\atI xs d=some x:=by
 obtain⟨x,e1,e2⟩:=Ek h0 h1;exact⟨x,G4 e1,e2⟩
def Hn {α:Type}{xs:List α}{lo hi:Option Int}:∀x∈cutP xs lo hi,x∈xs:=λx hx=>Y4 (U7 hx)
def LG (a b:Int):eqP (.int a) (.int b)=decide (a=b):=rfl
def p9 (a b:Str):eqP (.str a) (.str b)=decide (a=b):=rfl
def Ho (a b:Bool):eqP (.bl a) (.bl b)=decide (a=b):=rfl
def LH (xs ys:List PV):eqP (.lst xs) (.lst ys)=eqPs xs ys:=rfl
def LI (xs ys:List PV):eqP (.tup xs) (.tup ys)=eqPs xs ys:=rfl
def LJ (x y:PV)(xs ys:List PV):eqPs (x::xs) (y::ys)=(eqP x y&&eqPs xs ys):=rfl
def Qz:eqPs [] []=true:=rfl
def if_t {A B:Prop}(h:b=true)(q:A):if b=true then A else B:=by rw[jt h];exact q
def if_f {A B:Prop}{b:Bool}(h:b=false)(q:B):if b=true then A else B:=by grind
section
variable {T:PotK}{np:Bool}{ι:Type}{K:A8}{F:ι->Cx}{a b:Expr}{st:Stmt}{pos:Pos}{s1 s2:pSl}
def gw_two (K:A8)(i j:Nat)(hc:X.calm=true)(h1:GW X (.Name x px) (L6 i))(h2:GW X (.Name y py) (L6 j))(hn:(F4 [.Name x px,.Name y py] X.env).length=2:=by rfl)(hst:(F4 [.Name x px,.Name y py] X.env).findIdx? (·.1)=none:=by rfl)
   (hs:(F4 [.Name x px,.Name y py] X.env).map (·.2)=assign (.Name x px) X.env::(F4 [.Name y py] X.env).map (·.2):=by rfl) (hs2:(F4 [.Name y py] X.env).map (·.2)=assign (.Name y py) X.env::(F4 [] X.env).map (·.2):=by rfl) (hK:X.K=K:=by rfl) :
   GW X (.Tuple [.Name x px,.Name y py] k pos) (gTup K 2 (V4 (L6 i) (V4 (L6 j) gNil))):=⟨hK▸Ee hc (Bm h1.h (Bm h2.h Ed hs2) hs) hn hst⟩
def QB (i j:Nat)(h:∀z te g,EW (F z) (.Tuple [a,b] k p) te->GW (F z) tg g->SW (F z) st (tAsg te g))(hg:∀z,GW (F z) tg (gTup K 2 (V4 (L6 i) (V4 (L6 j) gNil))))(h1:QL T K F a s1)(h2:QL T K F b s2)(n1:D8 a=true)(n2:D8 b=true):QS T np K F st (qPar i j s1 s2):=by
 obtain⟨t,a1,a2⟩:=h1;obtain⟨u,b1,b2⟩:=h2;refine⟨_,λz=>(h z _ _ ⟨Ef (E3 (a1 z) (E3 (b1 z) G0 (C5 n2)) (C5 n1))⟩ (hg z)).h,⇑_⟩;refine Lw (Q:=λv w H2=>[v,w].length<=B4/\∀p,H2 p=none->gTup K 2 (V4 (L6 i) (V4 (L6 j) gNil)) (.ref p) σ (upd H2 p (.tup [v,w])) D.nx) a2 b2 hK hT S hp λx y jd n2 v w G2 H2 q S2 x2 gx gy ne=>?_;refine⟨by show 2<=B4;decide,λp hn'=>⟨p,[v,w],rfl,SqT.of D9,rfl,v,[w],rfl,w,[],rfl,rfl,?_⟩⟩;have sm:Same H2 (upd H2 p (.tup [v,w])):=Same.lay1 hn';have S3:=S2.same sm
 have keep:∀{s:Slot} {u:V},CH C G2 H2 (some (some u)) s->CH C G2 (upd H2 p (.tup [v,w])) (some (some u)) s:=λ{s u} r=>by
  cases s with
  |v x=>obtain⟨v',e,r⟩:=r;exact⟨v',e,r.same sm⟩
  |ow kk xs=>obtain⟨b,us,e,h1,h2,h3,h4,r⟩:=r;exact⟨b,us,e,h1,h2,h3,sm _ _ h4,r.same sm⟩
 refine L.nx _ _ _ _ _ q ((S3.slot i (keep gx.1) gx.2).slot j (keep gy.1) λys b e1 e2 z=>?_) (x2.trans (Ext.fr (Fr.of sm)));rcases Hj S3.len z with z|⟨⟨xs,ex⟩,ev⟩
 ·exact gy.2 ys b e1 e2 z
 ·exact ne xs ys b ex e1 ev e2
end
end Pu
end
section
namespace L2
open PySem PySem.Spec PyProof.Rows
section
variable {κ:Type}[DecidableEq κ]
noncomputable def valV (jg:List (κ×V))(k:κ):Option V:=(jg.find? λkv=>decide (kv.1=k)).map (·.2)
noncomputable def putK (jg:List (κ×V))(k:κ)(v:V):List (κ×V):=
 if(jg.any λkv=>decide (kv.1=k))=true then jg.map (λkv=>if kv.1=k then(kv.1,v) else kv) else jg++[(k,v)]
def BA {k:κ}(e:p.1=k):valV (p::r) k=some p.2:=by simp[valV,AS,e]
def BB {k:κ}(e:¬p.1=k):valV (p::r) k=valV r k:=by simp[valV,AS,e]
theorem Hq (k:κ):∀jg:List (κ×V),(jg.any λkv=>decide (kv.1=k))=(valV jg k).isSome
 |[]=>rfl
 | p :: r => by
  rw[List.any_cons]
  by_cases e:p.1=k
  ·simp only[BA e,jq e,Bool.true_or,Option.isSome_some]
  ·rw[BB e,jr e,Bool.false_or];exact Hq k r
def Hr (jg:List (κ×V))(k:κ)(v:V):(putK jg k v).length<=jg.length+1:=by
 unfold putK
 split
 ·rw[B0];ext
 ·rw[C7,D5,List.length_nil];ext
def putK_new {jg:List (κ×V)}{k:κ}(v:V)(h:valV jg k=none):putK jg k v=jg++[(k,v)]:=by
 unfold putK;rw[Hq,h];exact ju 0b0
def RelO.isSome_eq (r:RelO o u):o.isSome=u.isSome:=by
 cases o with
 | none => cases u with
  |none=>rfl
  |some _=>exact(show False from r).elim
 | some _ => cases u with
  |none=>exact(show False from r).elim
  |some _=>rfl
def KV.val (r:KV jg vs)(k:κ):RelO (valV jg k) (valueAt vs k):=by
 unfold KV at r
 induction r with
 |nil=>exact W7
 | @cons p q ps qs h t ih =>
  obtain⟨h1,h2⟩:=h
  by_cases e:p.1=k
  ·have e':q.1=k:=h1.symm.trans e;have b:valueAt (q::qs) k=some q.2:=by simp[valueAt,AS,e']
   rw[BA e,b];exact h2
  ·have e':¬q.1=k:=λz=>e (h1.trans z);have b:valueAt (q::qs) k=valueAt qs k:=by simp[valueAt,AS,e']
   rw[BB e,b];exact ih
theorem KV.any {jg:List (κ×V)}{vs:List (κ×A3)}(r:KV jg vs)(k:κ):(jg.any λkv=>decide (kv.1=k))=vs.any λkv=>decide (kv.1=k):=by induction r <;> grind
def KV.repl (r:KV jg vs)(k:κ)(ry:RelV y u) :
   KV (jg.map λkv=>if kv.1=k then(kv.1,y) else kv) (vs.map λkv=>if kv.1=k then(kv.1,u) else kv):=by
 unfold KV at r ⊢
 induction r with
 |nil=>exact .nil
 | @cons p q ps qs h t ih =>
  rw[J3,J3];refine .cons ?_ ih;obtain⟨h1,h2⟩:=h
  by_cases e:p.1=k
  ·rw[jt e,jt (h1.symm.trans e)];exact⟨h1,ry⟩
  ·rw[ju e,ju (λz=>e (h1.trans z))];exact⟨h1,h2⟩
def KV.put (r:KV jg vs)(k:κ)(ry:RelV y u):KV (putK jg k y) (stored vs k u):=by
 unfold putK stored;rw[r.any k]
 by_cases e:(vs.any λkv=>decide (kv.1=k))=true
 ·rw[jt e,jt e];exact r.repl k ry
 ·rw[ju e,ju e];exact Paired.snoc r ⟨rfl,ry⟩
theorem KV.length (r:KV jg vs):jg.length=vs.length:=Cs r
end
def ED (r:RelV (kV k) u):(F8 P w).is k u=true:=by
 cases k with
 |inl i=>obtain⟨t,e⟩:=(show ∃t,u=Value.int i t from r);subst e;exact JZ P w i t
 |inr x=>obtain⟨t,e⟩:=(show ∃t,u=Value.str x t from r);subst e;exact Gx P w x t
theorem items_are {P:C3}{w:B9}:∀{ks:List Key} {us:List A3},Vals (ks.map kV) us->ItemsAre (F8 P w) ks us
 |[],_,r=>by rw[l5] at r;cases r;exact .nil
 | k :: ks, _, r => by
  rw[J3] at r;cases r with
  |cons h t=>exact .cons (ED h) (items_are t)
abbrev KT (H:Hp):List (List Key×V)->List (List Key×A1×A3)->Prop:=Paired λp q=>p.1=q.1/\H q.2.1=some (.tup (p.1.map kV))/\RelV p.2 q.2.2
def KT.val (r:KT H jg xs)(k:List Key):RelO (valV jg k) ((atKey xs k).map (·.2)):=by
 induction r with
 |nil=>exact W7
 | @cons p q ps qs h t ih =>
  obtain⟨h1,_,h2⟩:=h
  by_cases e:p.1=k
  ·have e':q.1=k:=h1.symm.trans e;have b:atKey (q::qs) k=some q.2:=by simp[atKey,AS,e']
   rw[BA e,b];exact h2
  ·have e':¬q.1=k:=λz=>e (h1.trans z);have b:atKey (q::qs) k=atKey qs k:=by simp[atKey,AS,e']
   rw[BB e,b];exact ih
def KT.repl {H:Hp}{jg:List (List Key×V)}{xs:List (List Key×A1×A3)}(r:KT H jg xs)(k:List Key){y:V}{u:A3}(ry:RelV y u) :
   KT H (jg.map λkv=>if kv.1=k then(kv.1,y) else kv) (xs.map (putAt k u)):=by
 induction r with
 |nil=>exact .nil
 | @cons p q ps qs h t ih =>
  rw[J3,J3];refine .cons ?_ ih;obtain⟨h1,h2,h3⟩:=h;unfold putAt
  by_cases e:p.1=k
  ·grind
  ·grind
def KT.put (r:KT H jg xs)(k:List Key)(hb:H b=some (.tup (k.map kV)))(ry:RelV y u) :
   KT H (putK jg k y) (storedH xs k b u):=by
 have e:(jg.any λkv=>decide (kv.1=k))=(atKey xs k).isSome:=by
  rw[Hq,(r.val k).isSome_eq,Option.isSome_map]
 unfold putK storedH;rw[e]
 by_cases q:(atKey xs k).isSome=true
 ·rw[jt q,jt q];exact r.repl k ry
 ·rw[ju q,ju q];exact Paired.snoc r ⟨rfl,hb,ry⟩
def KT.keeps (r:KT H jg xs)(ht:∀b ys,H b=some (.tup ys)->H' b=some (.tup ys)):KT H' jg xs:=
 Paired.mapP r λ_ _ z=>⟨z.1,ht _ _ z.2.1,z.2.2⟩
section
variable {P:C3}{w:B9}{H:Hp}{h:B3}{a:A1}
def rd_of (ok:HOk P w H h)(e:Rd H a u):F9 P w H h a u:=e.ok ok
def Hs (ok:HOk P w H h)(e:Rd H a (.dK jg)):jg.length<=B4/\(a == N3)=false/\∃vs,KV jg vs/\h.DictOf (F8 P w) a vs:=
 show F9 P w H h a (.dK jg) from rd_of ok e
def dk_of (ok:HOk P w H h)(e:H a=some (.dK jg)):jg.length<=B4/\(a == N3)=false/\∃vs,KV jg vs/\h.DictOf (F8 P w) a vs:=Hs ok (.inl e)
def Ht (ok:HOk P w H h)(e:H a=some (.tup (ks.map kV))):(tupleKind (F8 P w)).is h ks a:=by
 obtain⟨_,jf,r,o,h1,h2,n,h3⟩:=(show F9 P w H h a (.tup (ks.map kV)) from ok a _ e);exact⟨o,jf.toArray,n,h1,(Bi h2).1,h3,by simpa using items_are r⟩
def Hu {jg:List (List Key×V)}(ok:HOk P w H h)(e:Rd H a (.dT jg)):jg.length<=B4/\(a == N3)=false/\
   ∃xs,KT H jg xs/\h.DictOfH (tupleKind (F8 P w)) a xs:=by
 obtain⟨z,y,xs,r,o,es,ep,h1,h2,h3,h4,h5⟩:=(show F9 P w H h a (.dT jg) from rd_of ok e);refine⟨z,y,xs,r,o,es,ep,h1,h2,h3,h4,λx hx=>?_,h5⟩
 have all:∀{l:List (List Key×V)} {m:List (List Key×A1×A3)},KT H l m->∀x∈m,(tupleKind (F8 P w)).is h x.1 x.2.1:=by
  intro l m q
  induction q with
  |nil=>intro x hx;exact nomatch hx
  | @cons p q ps qs hq t ih =>
   intro x hx;rcases B5.mp hx with e|hx
   ·subst e;exact Ht ok (by grind)
   ·grind
 grind
def dt_of (ok:HOk P w H h)(e:H a=some (.dT jg)):jg.length<=B4/\(a == N3)=false/\
   ∃xs,KT H jg xs/\h.DictOfH (tupleKind (F8 P w)) a xs:=Hu ok (.inl e)
end
def DGet (H:Hp)(a:A1)(y:V)(r:Option V):Prop:=
 (∃jg k,Rd H a (.dK jg)/\y=kV k/\r=valV jg k)\/∃jg k b,Rd H a (.dT jg)/\y=.ref b/\H b=some (.tup (k.map kV))/\r=valV jg k
def DPut (H:Hp)(a:A1)(y v:V)(H':Hp):Prop:=
 (∃jg k,H a=some (.dK jg)/\y=kV k/\jg.length<B4/\H'=upd H a (.dK (putK jg k v)))\/
 ∃jg k b,H a=some (.dT jg)/\y=.ref b/\H b=some (.tup (k.map kV))/\jg.length<B4/\H'=upd H a (.dT (putK jg k v))
theorem DGet.k {k:Key}(e:H a=some (.dK jg)):DGet H a (kV k) (valV jg k):=.inl ⟨jg,k,.inl e,rfl,rfl⟩
def DGet.t {k:List Key}(e:H a=some (.dT jg))(eb:H b=some (.tup (k.map kV))):DGet H a (.ref b) (valV jg k):=.inr ⟨jg,k,b,.inl e,rfl,eb,rfl⟩
theorem DPut.k {k:Key}(e:H a=some (.dK jg))(hl:jg.length<B4):DPut H a (kV k) v (upd H a (.dK (putK jg k v))):=.inl ⟨jg,k,e,rfl,hl,rfl⟩
def DPut.t {k:List Key}(e:H a=some (.dT jg))(eb:H b=some (.tup (k.map kV)))(hl:jg.length<B4) :
   DPut H a (.ref b) v (upd H a (.dT (putK jg k v))):=.inr ⟨jg,k,b,e,rfl,eb,hl,rfl⟩
section
variable {X:Cx}{jb:List (A1×Obj)}{σ:St}{H:Hp}{s:A4}{a:A1}{y v:V}{u r:A3}{o:Option V}{A:D0}{E:A3->A4->Prop}
def QC (hu:A.units+1<cLine)(I:Inv X jb σ H s)(g:DGet H a y (some v))(ry:RelV y u)(h:∀w' s',Inv X jb σ H s'->RelV v w'->Q w' s') :
   A5 (A7 X.prog X.w) A (U3 (.ref a) u) Q E s:=by
 rcases g with⟨jg,k,e,ey,l⟩|⟨jg,k,b,e,ey,eb,l⟩
 ·subst ey;obtain⟨z,hd,vs,rel,dd⟩:=Hs I.hok e;obtain⟨w',hw,rw'⟩:=RelO.some_of (v:=v) (o:=valueAt vs k) (by rw[l];exact rel.val k);exact wpAny_getItem_of (ED ry) dd.mapOf hw (h w' _ (I.tok _) rw')
 ·subst ey;cases(show u=K2 b from ry);obtain⟨z,hd,xs,rel,dd⟩:=Hu I.hok e;obtain⟨w',hw,rw'⟩:=RelO.some_of (v:=v) (o:=(atKey xs k).map (·.2)) (by rw[l];exact rel.val k);obtain⟨p,hp,hp2⟩:=Option.map_eq_some_iff.mp hw;refine wpAny_getItem_heap (tupleKind_room_in1 hu) (Ht I.hok eb) dd hp ?_;rw[hp2];exact h w' _ (I.tok _) rw'
def Hv (I:Inv X jb σ H s)(mu:Mut (H a))(hs:U5 a s.heap h')(he:∃q,h'.get? a=some q)(new:F9 X.prog X.w (upd H a ob) h' a ob) :
   Inv X jb σ (upd H a ob) { s with heap:=h',toks:=t' }:=
 I.write (x:=a) (e:=a) mu (.inl rfl) (λb q hb z=>(hs.2 b hb).trans z) he new
def LK (z:jg.length<=B4)(hd:(a == N3)=false)(rel:KV jg vs)(dd:h'.DictOf (F8 P w) a vs) :
   F9 P w H' h' a (.dK jg):=⟨z,hd,vs,rel,dd⟩
def QD (hu:A.units+1<cLine)(I:Inv X jb σ H s)(g:DPut H a y v H')(ry:RelV y u)(rv:RelV v r)(h:∀s',Inv X jb σ H' s'->Q () s') :
   A5 (A7 X.prog X.w) A (setItem (.ref a) u r) Q E s:=by
 rcases g with⟨jg,k,e,ey,l,eH⟩|⟨jg,k,b,e,ey,eb,l,eH⟩
 ·subst ey eH;obtain⟨z,hd,vs,rel,dd⟩:=dk_of I.hok e;have hz:vs.length<=B4:=by rw[<- rel.length];exact z
  have hl:(putK jg k v).length<=B4:=by have:=Hr jg k v;ext
  refine wpAny_setItem_pairs (hsz:=hz) (ED ry) dd λh' dd' hs=>h _ ?_;have he:∃q,h'.get? a=some q:=let ⟨q,_,_,hq,_⟩:=dd';⟨q,hq⟩;exact Hv I (by rw[e];exact W7) hs he (LK hl hd (rel.put k rv) dd')
 ·subst ey eH;cases(show u=K2 b from ry);obtain⟨z,hd,xs,rel,dd⟩:=dt_of I.hok e;have hz:xs.length<=B4:=by rw[<- Cs rel];exact z
  have hl:(putK jg k v).length<=B4:=by have:=Hr jg k v;ext
  refine wpAny_setItem_heap (hsz:=hz) (tupleKind_room_in1 hu) (Ht I.hok eb) dd λh' dd' hs=>h _ ?_;obtain⟨q,es,ep,hq,h2,h3,h4,_,h5⟩:=dd';refine Hv I (by rw[e];exact W7) hs ⟨q,hq⟩ ⟨hl,hd,_,(rel.put k eb rv).keeps λc ys ec=>?_,q,es,ep,hq,h2,h3,h4,h5⟩;rw[C8 (ne_of ec e (λz=>nomatch z))];exact ec
end
def NoSl (i:Expr):Prop:=∀ov iv,subscripted i false ov iv=operate [ov,iv] (U3 ov iv)
def QF {T id:String}
   (hl:typeLookup (.type T) "__getitem__"=pure (some (.builtin id))) (hs:NoSl slice)
   (h:A5 (A7 prog w) A (eval value env) (λo s₁=>A5 (A7 prog w) A (eval slice env) (λi s₂=>s₂.TypeIs o T/\A5 (A7 prog w) A (U3 o i) Q E s₂) E s₁) E s) :
   A5 (A7 prog w) A (eval (.Subscript value slice pos) env) Q E s:=by
 refine Subscript_ (G5 h (λo s₁ h₁=>G5 h₁ (λi s₂ h₂=>?_) λ_ _ x=>x) λ_ _ x=>x);obtain⟨hT,h₂⟩:=h₂;unfold subscriptTail;refine A2 ?_;rw[getitemInPython_of_ne hT.not_modules];refine A2 (BU hT hl ?_)
 have fin:A5 (A7 prog w) A (subscripted slice false o i) (λr s₃=>A5 (A7 prog w) A (letTemporaryGo value o r>>=λ_=>pure r) Q E s₃) E s₂:=by
  rw[hs o i];exact wpAny_operating (G5 h₂ (λr s₃ h₃=>A2 (wpAny_letTemporaryGo (A9 h₃))) λ_ _ x=>x)
 first
   |exact A9 (A2 fin)
   |exact A2 (A9 (A2 fin))
   |exact A2 fin
def QH (I:Inv X jb σ H s)(g:DGet H a y o):s.TypeIs (.ref a) "dict":=by
 rcases g with⟨jg,k,e,_,_⟩|⟨jg,k,b,e,_,_,_⟩
 ·obtain⟨_,_,vs,_,dd⟩:=Hs I.hok e;exact dd.typeIs
 ·obtain⟨_,_,xs,_,dd⟩:=Hu I.hok e;exact dd.typeIs
def tDGet (td ty:TE):TE:=λσ H Q=>td σ H λx H1=>ty σ H1 λy H2=>∃a v,x=.ref a/\DGet H2 a y (some v)/\Q v H2
def sDPut (td ty tv:TE):TS:=λD σ H=>tv σ H λv H1=>td σ H1 λx H2=>ty σ H2 λy H3=>∃a H4,x=.ref a/\DPut H3 a y v H4/\D.nx σ H4
section
variable {X:Cx}{o i e value:Expr}{pos pos' tpos:Pos}{td ty tv:TE}
def T7 (hu:X.A.units+1<cLine)(ho:PE X o td)(hi:PE X i ty)(hs:NoSl i):PE X (.Subscript o i pos) (tDGet td ty):=by
 intro jb s σ H Q I h;refine QF PySem.F.slot_dict_getitem.lookup hs (thn (ho jb s σ H _ I h) λu s1 ⟨x,H1,I1,rx,q1⟩=>thn (hi jb s1 σ H1 _ I1 q1) λiv s2 ⟨y,H2,I2,ry,a,v,ex,g,q2⟩=>?_);subst ex;obtain rfl:u=K2 a:=rx;exact⟨QH I2 g,QC hu I2 g ry λw' s3 I3 rw'=>⟨v,H2,I3,rw',q2⟩⟩
def CV (hu:X.A.units+1<cLine)(ho:PE X o td)(hi:PE X i ty)(hv:PE X value tv)(hs:X9 value (some (.Subscript o i pos')) pos.line X.env=pure false) :
   PS X (.Assign [.Subscript o i pos'] value pos) (sDPut td ty tv):=by
 intro jb s σ H D I h;refine wpAny_Assign_Subscript (thn (hv jb s σ H _ I h) λr s1 ⟨v,H1,I1,rv,q1⟩=>thn (ho jb s1 σ H1 _ I1 q1) λu s2 ⟨x,H2,I2,rx,q2⟩=>thn (hi jb s2 σ H2 _ I2 q2) λiv s3 ⟨y,H3,I3,ry,a,H4,ex,g,q3⟩=>?_) hs;subst ex;obtain rfl:u=K2 a:=rx;exact QD hu I3 g ry rv λs4 I4=>⟨σ,H4,I4,q3⟩
end
def Hw:List (TE×TE)->St->Hp->(List (V×V)->Hp->Prop)->Prop
 |[],_,H,Q=>Q [] H
 |(tk,tv)::r,σ,H,Q=>tk σ H λx H1=>tv σ H1 λy H2=>Hw r σ H2 λps H3=>Q ((x,y)::ps) H3
abbrev VV:List (V×V)->List (A3×A3)->Prop:=Paired λp q=>RelV p.1 q.1/\RelV p.2 q.2
def PPs (X:Cx)(pos:Pos)(keys:List (Option Expr))(values:List Expr)(trs:List (TE×TE)):Prop:=
 ∀ (jb : List (A1 × Obj)) (s : A4) (σ : St) (H : Hp) (Q : List (V × V) -> Hp -> Prop), Inv X jb σ H s -> Hw trs σ H Q ->
   A5 (A7 X.prog X.w) X.A (evalPairs (pairTrees keys values X.env pos)) (λvs s'=>∃ps H',Inv X jb σ H' s'/\VV ps vs/\Q ps H') X.xe s
def QJ:PPs X pos [] [] []:=λjb s σ H Q I h=>pairTrees_nil_walk ⟨[],H,I,.nil,h⟩
def EE (hk:PE X k tk)(hv:PE X v tv)(hr:PPs X pos ks vs trs) :
   PPs X pos (some k::ks) (v::vs) ((tk,tv)::trs):=λjb s σ H Q I h=>
 pairTrees_cons_walk (thn (hk jb s σ H _ I h) λu s1 ⟨x,H1,I1,rx,q1⟩=>thn (hv jb s1 σ H1 _ I1 q1) λw2 s2 ⟨y,H2,I2,ry,q2⟩=>
  thn (hr jb s2 σ H2 _ I2 q2) λws s3 ⟨ps,H3,I3,rel,q3⟩=>⟨(x,y)::ps,H3,I3,.cons ⟨rx,ry⟩ rel,q3⟩)
def Av (jg more:List (Key×V)):List (Key×V):=more.foldl (λjm kv=>putK jm kv.1 kv.2) jg
def KV.merge:∀{more:List (Key×V)} {rs:List (Key×A3)} {jg:List (Key×V)} {vs:List (Key×A3)},KV more rs->KV jg vs->KV (Av jg more) (merged vs rs):=by
 intro more rs jg vs r;unfold KV at r
 induction r generalizing jg vs with
 |nil=>intro q;exact q
 | @cons p q ps qs h t ih =>
  intro r0
  have e:KV (putK jg p.1 p.2) (stored vs q.1 q.2):=by
   have:=r0.put p.1 h.2;rw[<- h.1];exact this
  exact ih e
theorem LL:∀(more jg:List (Key×V)),(Av jg more).length<=jg.length+more.length
 |[],jg=>by show jg.length<=jg.length+0;ext
 | p :: r, jg => by
  have h1:=LL r (putK jg p.1 p.2);have h2:=Hr jg p.1 p.2;show(Av (putK jg p.1 p.2) r).length<=_;rw[D5];ext
theorem LM:∀{jg:List (Key×V)} {ws:List (A3×A3)},VV (jg.map λkv=>(kV kv.1,kv.2)) ws->∃rs,Carries (F8 P w) ws rs/\KV jg rs
 |[],_,r=>by rw[l5] at r;cases r;exact⟨[],W7,.nil⟩
 | p :: jg, _, r => by
  rw[J3] at r;cases r with
  | @cons a b as bs h t =>
   obtain⟨rs,c,q⟩:=LM (P:=P) (w:=w) t;obtain⟨b1,b2⟩:=b;exact⟨(p.1,b2)::rs,⟨ED h.1,rfl,c⟩,.cons ⟨rfl,h.2⟩ q⟩
def tDisp (trs:List (TE×TE)):TE:=λσ H Q=>∀p,H p=none->Hw trs σ (upd H p (.dK [])) λps H2=>H2 p=some (.dK [])/\∃jg:List (Key×V),ps=jg.map (λkv=>(kV kv.1,kv.2))/\jg.length<=15/\Q (.ref p) (upd H2 p (.dK (Av [] jg)))
def QK (h:PPs X pos keys values trs)(hall:keys.all (·.isSome)=true)(hl:keys.length=values.length)(h0:keys≠[])
   (h15:keys.length<=15):PE X (.Dict keys values pos) (tDisp trs):=by
 intro jb s σ H Q I q;have hn:=I.hok.fresh (B2 s.heap.objs.size);have I1:=I.laid (a:=s.heap.objs.size) (o:=.dK []) (h':=s.heap.push { cls:=.type "dict",data:=.dict #[] }) (t':=s.toks) (λ_ _ q=>B7 _ q) (B2 _) (PN s.heap I.big);refine wpAny_Dict_walk (knd:=F8 X.prog X.w) hall hl h0 h15 (thn (h jb _ σ _ _ I1 (q _ hn)) λws s2 ⟨ps,H2,I2,rel,e,jg,ep,lk,q2⟩=>?_);subst ep;obtain⟨rs,c,rk⟩:=LM (P:=X.prog) (w:=X.w) rel;obtain⟨z,hd,vs0,r0,dd⟩:=dk_of I2.hok e;cases r0;refine⟨rs,c,dd,λh' dd' hs=>⟨.ref s.heap.objs.size,_,?_,rfl,q2⟩⟩
 have hz:(Av [] jg).length<=B4:=by
  have h1:=LL jg [];rw[List.length_nil] at h1;rw[O0];omega
 have he:∃q,h'.get? s.heap.objs.size=some q:=let ⟨q,_,_,hq,_⟩:=dd';⟨q,hq⟩;exact Hv I2 (by rw[e];exact W7) hs he (LK hz hd (rk.merge .nil) dd')
end L2
end
section
namespace Pu
open PySem PySem.Spec L2
noncomputable def isS (x:PV)(z:Str):Bool:=match x with|.str i=>i == z|_=>false
end Pu
end
section
namespace L2
open PySem PySem.Spec PyProof.Rows
noncomputable def keyD:Key->PyData
 |.inl i=>.int i
 |.inr x=>.str x
mutual
def RdD (H:Hp):PyData->V->Prop
 |.none,v=>v=.non
 |.bool b,v=>v=.bl b
 |.int i,v=>v=.int i
 |.str x,v=>v=.str x
 |.list xs,v=>∃a vs,v=.ref a/\H a=some (.lst vs)/\RdDs H xs vs
 |.tuple xs,v=>∃a vs,v=.ref a/\H a=some (.tup vs)/\RdDs H xs vs
 |.dict jg,v=>∃a ws,v=.ref a/\H a=some (.dK ws)/\RdKv H jg ws
def RdDs (H:Hp):List PyData->List V->Prop
 |[],vs=>vs=[]
 |d::ds,vs=>∃v r,vs=v::r/\RdD H d v/\RdDs H ds r
def RdKv (H:Hp):List (PyData×PyData)->List (Key×V)->Prop
 |[],ws=>ws=[]
 |(k,d)::r,ws=>∃q w ws',ws=(q,w)::ws'/\k=keyD q/\RdD H d w/\RdKv H r ws'
end
section
variable {P:C3}{w:B9}{H:Hp}{h:B3}
mutual
theorem Hx (hok:HOk P w H h)(sy:NS H):∀(d:PyData) (v:V) (u:A3),RdD H d v->RelV v u->∃as,Reads h u d as/\N3∉as
 | .none, v, u, r, e => by
  obtain rfl:v=.non:=r;obtain rfl:u=.none:=e;exact⟨[],.none,nofun⟩
 | .bool b, v, u, r, e => by
  obtain rfl:v=.bl b:=r;obtain rfl:u=.bool b:=e;exact⟨[],.bool b,nofun⟩
 | .int i, v, u, r, e => by
  obtain rfl:v=.int i:=r;obtain⟨t,rfl⟩:=e;exact⟨[],.int i t,nofun⟩
 | .str x, v, u, r, e => by
  obtain rfl:v=.str x:=r;obtain⟨t,rfl⟩:=e;exact⟨[],.str x t,nofun⟩
 | .list xs, v, u, r, e => by
  obtain⟨a,vs,rfl,ha,rs⟩:=r;obtain rfl:u=.ref a:=e;obtain⟨_,jf,n,rv,ho⟩:=hok a _ ha;obtain⟨as,rr,ns⟩:=Hy hok sy xs vs jf rs rv;refine⟨a::as,.list ho rfl rfl rr,λz=>?_⟩;rcases B5.mp z with z|z
  ·rw[<- z] at ha;rcases sy with sy|⟨o,u,sy⟩ <;> rw[sy] at ha <;> cases ha
  ·exact ns z
 | .tuple xs, v, u, r, e => by
  obtain⟨a,vs,rfl,ha,rs⟩:=r;obtain rfl:u=.ref a:=e;obtain⟨_,jf,rv,ho⟩:=hok a _ ha;obtain⟨as,rr,ns⟩:=Hy hok sy xs vs jf rs rv;obtain⟨o,e1,e2,n,e3⟩:=ho;exact⟨as,.tuple e1 (Bi e2).1 e3 rr,ns⟩
 | .dict jg, v, u, r, e => by
  obtain⟨a,ws,rfl,ha,rs⟩:=r;obtain rfl:u=.ref a:=e;obtain⟨_,hs,us,rv,o,es,ep,e1,e2,e3,_,e5,_⟩:=hok a _ ha;obtain⟨as,bs,r1,r2,n1,n2⟩:=LN hok sy jg ws us es.toList rs rv e5;refine⟨a::as++bs,.dict e1 e2.1 e3 r1 r2,λz=>?_⟩;rcases D7.mp z with z|z
  ·rcases B5.mp z with z|z
   ·rw[<- z] at hs;exact absurd hs 0b0
   ·exact n1 z
  ·exact n2 z
theorem Hy (hok:HOk P w H h)(sy:NS H):∀(ds:List PyData) (vs:List V) (us:List A3),RdDs H ds vs->Vals vs us->∃as,ReadsAll h us ds as/\N3∉as
 | [], vs, us, r, e => by
  obtain rfl:vs=[]:=r;cases e;exact⟨[],.nil,nofun⟩
 | d :: ds, vs, us, r, e => by
  obtain⟨v,r',rfl,r1,r2⟩:=r;cases e with
  | cons e1 e2 =>
   obtain⟨as,a1,a2⟩:=Hx hok sy d v _ r1 e1;obtain⟨bs,b1,b2⟩:=Hy hok sy ds r' _ r2 e2;exact⟨as++bs,.cons a1 b1,λz=>(D7.mp z).elim a2 b2⟩
theorem LN (hok:HOk P w H h)(sy:NS H):∀(jg:List (PyData×PyData)) (ws:List (Key×V)) (us:List (Key×A3)) (es:List DictEntry),RdKv H jg ws->KV ws us->Pairs (F8 P w) es us->
   ∃as bs,ReadsAll h (es.map (·.key)) (jg.map (·.1)) as/\ReadsAll h (es.map (·.val)) (jg.map (·.2)) bs/\N3∉as/\N3∉bs
 | [], ws, us, es, r, e, p => by
  obtain rfl:ws=[]:=r;cases e;cases p;exact⟨[],[],.nil,.nil,nofun,nofun⟩
 | (k, d) :: jg, ws, us, es, r, e, p => by
  obtain⟨q,w1,ws',rfl,rfl,r1,r2⟩:=r;cases e with
  | cons e1 e2 =>
   cases p with
   | cons p1 p2 p3 =>
    obtain⟨as,bs,a1,a2,a3,a4⟩:=LN hok sy jg ws' _ _ r2 e2 p3;obtain⟨e1,e1'⟩:=e1;dsimp only at e1 e1';obtain⟨cs,c1,c2⟩:=Hx hok sy d w1 _ r1 e1';rw[<- e1] at p1;refine⟨[]++as,cs++bs,.cons ?_ a1,.cons (by dsimp only;rw[p2];exact c1) a2,a3,λz=>(D7.mp z).elim c2 a4⟩;rcases W8 p1 with⟨i,t,rfl,e⟩|⟨x,t,rfl,e⟩
    ·dsimp only;rw[e];exact .int i t
    ·dsimp only;rw[e];exact .str x t
end
end
section
variable {X:Cx}{jb:List (A1×Obj)}{σ:St}{H:Hp}{s:A4}
def QM (hr:Room k X.A):K3 X (.builtin "repr") (λvs H Q=>∃v d,vs=[v]/\RdD H d v/\d.showable=true/\d.depth<=40/\d.shown.length<=B4/\Q (.str d.shown) H):=by
 intro jb s σ H vs us Q I rv h;obtain⟨v,d,rfl,r,h1,h2,h3,q⟩:=h;obtain⟨u,rfl,ru⟩:=rv.one;obtain⟨as,rr,ns⟩:=Hx I.hok I.nos d v u r ru;have fin:∀(h':B3) (t:Tok) (tk:Tok),(∀b o,s.heap.get? b=some o->h'.get? b=some o)->∃v' H',Inv X jb σ H' { s with heap:=h',toks:=tk }/\RelV v' (.str d.shown t)/\Q v' H':=λh' t tk kp=>⟨.str d.shown,H,I.kept kp,⟨t,rfl⟩,q⟩;cases rr with
 |none=>exact P.repr_of_none (fin s.heap _ _ λ_ _ z=>z)
 |bool b=>exact P.repr_of_bool (by cases b <;> exact fin s.heap _ _ λ_ _ z=>z)
 |int i t=>exact P.repr_of_int (by simpa[Y6] using h1) (fin s.heap _ _ λ_ _ z=>z)
 |str x t=>exact P.repr_of_str (fin s.heap _ _ λ_ _ z=>z) h3
 |list e1 e2 e3 e4=>exact repr_of_reads' (.list e1 e2 e3 e4) h1 (λ_=>ns) hr.gd (by have:=hr.units;ext) (λ_ _ z=>z) (λh' u tk kp=>fin h' u tk kp) h3
 |tuple e1 e2 e3 e4=>exact repr_of_reads' (.tuple e1 e2 e3 e4) h1 (λ_=>ns) hr.gd (by have:=hr.units;ext) (λ_ _ z=>z) (λh' u tk kp=>fin h' u tk kp) h3
 |dict e1 e2 e3 e4 e5=>exact repr_of_reads' (.dict e1 e2 e3 e4 e5) h1 (λ_=>ns) hr.gd (by have:=hr.units;ext) (λ_ _ z=>z) (λh' u tk kp=>fin h' u tk kp) h3
end
end L2
namespace Pu
open PySem PySem.Spec L2
mutual
/-- what a thing holds, for repr -/
def dat:PV->Option PyData
 |.non=>some .none
 |.bl b=>some (.bool b)
 |.int i=>some (.int i)
 |.str x=>some (.str x)
 |.tup xs=>match dats xs with|some ds=>some (.tuple ds)|none=>none
 |.lst xs=>match dats xs with|some ds=>some (.list ds)|none=>none
 |.dct ks xs=>match dats xs with|some ds=>some (.dict ((ks.map keyD).zip ds))|none=>none
 |_=>none
def dats:List PV->Option (List PyData)
 |[]=>some []
 |x::xs=>match dat x,dats xs with|some d,some ds=>some (d::ds)|_,_=>none
end
theorem kv_rd:∀(jg:List (Key×V)) (ds:List PyData),RdDs H ds (jg.map (·.2))->RdKv H (((jg.map (·.1)).map keyD).zip ds) jg
 | [], ds, r => by
  cases ds with
  |nil=>exact rfl
  |cons d ds=>obtain⟨v,r',e,_⟩:=r;cases e
 | (q, w) :: jg, ds, r => by
  cases ds with
  |nil=>exact(List.cons_ne_nil _ _ r).elim
  | cons d ds =>
   obtain⟨v,r',e,r1,r2⟩:=r;cases e;exact⟨q,w,jg,rfl,rfl,r1,kv_rd jg ds r2⟩
section
variable {K:A8}{G:Gh}{H:Hp}
mutual
theorem LO:∀(x:PV) (v:V) (d:PyData),Rep K G H x v->dat x=some d->RdD H d v
 |.non,v,d,r,e=>by cases e;exact r
 |.bl b,v,d,r,e=>by cases e;exact r
 |.int i,v,d,r,e=>by cases e;exact r
 |.str x,v,d,r,e=>by cases e;exact r
 | .tup xs, v, d, r, e => by
  obtain⟨a,vs,rfl,t,rs⟩:=r;rw[dat] at e;cases ed:dats xs with
  |none=>rw[ed] at e;cases e
  |some ds=>rw[ed] at e;cases e;exact⟨a,vs,rfl,t.2,CW xs vs ds rs ed⟩
 | .lst xs, v, d, r, e => by
  obtain⟨a,vs,rfl,t,rs⟩:=r;rw[dat] at e;cases ed:dats xs with
  |none=>rw[ed] at e;cases e
  |some ds=>rw[ed] at e;cases e;exact⟨a,vs,rfl,t.2,CW xs vs ds rs ed⟩
 |.ty _,v,d,r,e=>by cases e
 |.pot _,v,d,r,e=>by cases e
 |.scr _,v,d,r,e=>by cases e
 |.fdt _ _,v,d,r,e=>by cases e
 | .dct ks xs, v, d, r, e => by
  obtain⟨a,jg,rfl,_,ha,hk,rs⟩:=r;rw[dat] at e;cases ed:dats xs with
  |none=>rw[ed] at e;cases e
  |some ds=>rw[ed] at e;cases e;exact⟨a,jg,rfl,ha,hk▸kv_rd jg ds (CW xs _ ds rs ed)⟩
theorem CW:∀(xs:List PV) (vs:List V) (ds:List PyData),Reps K G H xs vs->dats xs=some ds->RdDs H ds vs
 |[],vs,ds,r,e=>by cases e;exact r
 | x :: xs, vs, ds, r, e => by
  obtain⟨v,r',rfl,r1,r2⟩:=r;rw[dats] at e;cases e1:dat x with
  |none=>rw[e1] at e;cases e
  | some d =>
   cases e2:dats xs with
   |none=>rw[e1,e2] at e;cases e
   |some ds'=>rw[e1,e2] at e;cases e;exact⟨v,r',rfl,LO x v d r1 e1,CW xs r' ds' r2 e2⟩
end
end
def BC:w1:=λx R=>match dat x with|some d=>d.showable=true/\d.depth<=40/\d.shown.length<=B4/\R (.str d.shown)|none=>False
def bt_repr:J5 "repr"=some (.builtin "repr"):=by decide +kernel
section
variable {T:PotK}{ι:Type}{K:A8}{F:ι->Cx}{e:Expr}{pe:pE}{pos:Pos}
def QP (hr:∀z,Room k (F z).A)(hg:∀z,Gl (F z) "repr")(hm:∀z,(F z).mg "repr"=none)(ha:QR T K F e pe)(hs:D8 e=true):QE T K F (.Call (.Name "repr" p) [e] [] pos) (qUn BC pe):=Ey (λz=>QM (hr z)) (λG H x v R Q hf rx hw k=>by
 unfold BC at hw;cases ed:dat x with
 |none=>rw[ed] at hw;exact hw.elim
 | some d =>
  rw[ed] at hw;obtain⟨h1,h2,h3,q⟩:=hw;refine⟨v,d,rfl,?_,h1,h2,h3,k _ _ _ q (Same.refl _) rfl⟩;rcases rx with rx|⟨a,vs,xs,rfl,rfl,hv,rs⟩
  ·exact LO x v d rx ed
  ·rw[dat] at ed;cases es:dats xs with
   |none=>rw[es] at ed;cases ed
   |some ds=>rw[es] at ed;cases ed;exact⟨a,vs,rfl,hv,CW xs vs ds rs es⟩) hg hm bt_repr ha hs
end
end Pu
end
section
namespace HT
open PySem PySem.Spec PyProof.Rows
section
variable {prog:C3}{w:B9}{A:D0}{E:A3->A4->Prop}{s:A4}
def QU (n:Nat):Cm none none (-1) (n:Int)=((n:Int)-1,-1):=rfl
def QV (n:Nat):n6 ((n:Int)-1) (-1) (-1)=n:=by
 unfold n6;rw[ju 0b0];have h1:(- -1:Int)=1:=0b0
 rw[h1]
 by_cases h:(n:Int)-1 > -1
 ·rw[jt h,Int.ediv_one];ext
 ·rw[ju h];ext
def QX {n:Nat}(hs:s.heap.IsSliceOf sl .none .none vk)(pk:IsPart vk (some (-1)))
   (h:Q ((n:Int)-1,-1,n) s):A5 (A7 prog w) A (DR (.ref sl) (pure (n:Int))) Q E s:=by
 obtain⟨os,hos,hcs,hds⟩:=id hs;unfold DR JV;refine A2 (A2 (L0 hos hds (x:=.none) rfl (A2 (L0 hos hds (x:=.none) rfl (A2 (L0 hos hds (x:=vk) rfl (A9 ?_)))))));refine A2 (CB pk ?_);show A5 _ _ (if((-1:Int) == 0)=true then _ else _) _ _ s;rw[ju 0b0];refine A2 (CB .none (A2 (CB .none (A2 (A9 ?_)))));show A5 _ _ (match Cm none none (-1) (n:Int) with|(lo,hi)=>pure (lo,(-1:Int),n6 lo hi (-1))) _ _ s;rw[QU];show A5 _ _ (pure ((n:Int)-1,(-1:Int),n6 ((n:Int)-1) (-1) (-1))) _ _ s;rw[QV];exact A9 h
theorem LP {α β:Type}{f g:α->Option β}:∀l:List α,(∀m∈l,f m=g m)->l.filterMap f=l.filterMap g
 |[],_=>rfl
 |x::l,h=>by rw[x9,x9,h x B8,LP l λm hm=>h m (B6 _ hm)]
def QY (xs:Array A3):((C2 xs.size).filterMap λ(m:Nat)=>xs[((xs.size:Int)-1+(m:Int) * -1).toNat]?).toArray=xs.toList.reverse.toArray:=by
 congr 1
 have e:(C2 xs.size).filterMap (λ(m:Nat)=>xs[((xs.size:Int)-1+(m:Int) * -1).toNat]?)=((C2 xs.size).map λk=>xs.size-1-k).filterMap (xs[·]?):=by
  rw[List.filterMap_map];refine LP _ λm hm=>?_;have:=J9.mp hm;show _=xs[xs.size-1-m]?
  congr 1
  ext
 rw[e,PySem.W.krv_range,List.filterMap_reverse,PySem.W.krv_all]
def getItem_tuple_rev (ht:IsTup s.heap t items)(hs:s.heap.IsSliceOf sl .none .none vk)(pk:IsPart vk (some (-1)))
   (h:Q (.ref s.heap.objs.size) { s with heap:=s.heap.push { cls:=.type "tuple",data:=.seq items.toList.reverse.toArray } })
   (hsz:items.size<=B4):A5 (A7 prog w) A (U3 (.ref t) (.ref sl)) Q E s:=by
 have htake:sizeOk (.seq items.toList.reverse.toArray):=by
  show items.toList.reverse.toArray.size<=B4;rw[E9,k7,M3];ext
 obtain⟨os,hos,hcs,hds⟩:=id hs;have hTs:s.TypeIs (.ref sl) "slice":=⟨os,hos,hcs⟩;unfold U3
 try with_reducible refine K5 ?_
 first|refine A2 (A9 ?_)|skip
 refine A2 (wpAny_sequenceKey ht.typeIs 0b0 ?_)
 refine A2 (T9 (name:=A6 "__getitem__") ht.typeIs AZ
   (N9 AZ ht.typeIs entry_tuple_getitem ?_ (args_tuple_getitem _ _)))
 show A5 _ _ (Gq (.ref t)>>=_) _ _ s;refine A2 (tupleItemsOf_ ht ?_);refine A2 (k6 hTs ?_);rw[jt 0b0];refine A2 (QX hs pk ?_)
 have hno:¬((((items.size:Int)-1) == 0&&(-1:Int) == 1&&items.size == items.size)=true):=by
  intro q;rw[P4,P4] at q;exact absurd (eq_of_beq q.1.2) 0b0
 show A5 _ _ (if(((items.size:Int)-1) == 0&&(-1:Int) == 1&&items.size == items.size)=true then _ else _) _ _ s;rw[ju hno,QY]
 first
   |exact A2 (m:=o5 _) (N7 (A9 ⟨_,rfl,A9 h⟩) htake)
   |exact A2 (m:=o5 _) (N7 (A2 (A9 (A9 ⟨_,rfl,A9 h⟩))) htake)
   |exact A2 (A2 (m:=o5 _) (N7 (A9 (A9 ⟨_,rfl,A9 h⟩)) htake))
   |exact A2 (A2 (m:=o5 _) (N7 (A9 ⟨_,rfl,A9 h⟩) htake))
end
end HT
namespace L2
open PySem PySem.Spec PyProof.Rows
section
variable {X:Cx}{e st:Expr}{te:TE}{ts:TE}{pos p2:Pos}
def rRev (K:A8):V->Hp->VK->Prop:=λx H Q=>∃a xs,x=.ref a/\((SqL K H a xs/\∀p,H p=none->Q (.ref p) (upd H p (.lst xs.reverse)))\/(SqT K H a xs/\∀p,H p=none->Q (.ref p) (upd H p (.tup xs.reverse))))
def tRev (K:A8)(te ts:TE):TE:=λσ H Q=>te σ H λx H1=>ts σ H1 λy H2=>y=.int (-1)/\rRev K x H2 Q
def Vals.rev (r:Vals xs us):Vals xs.reverse us.reverse:=by
 induction r with
 |nil=>exact .nil
 | cons r1 _ ih =>
  rw[b9,b9];exact ih.append (.cons r1 .nil)
def pe_rev (he:PE X e te)(hs:PE X st ts):PE X (.Subscript e (.Slice none none (some st) p2) pos) (tRev X.K te ts):=by
 intro jb s σ H Q I h;refine Subscript_ (thn (he jb s σ H _ I h) λv s1 ⟨x,H1,I1,r1,q1⟩=>?_);refine wpAny_Slice ?_;rw[evalPart_none];refine A9 (A9 ?_);rw[evalPart_some];refine thn (hs jb s1 σ H1 _ I1 q1) λvk s3 ⟨y,H3,I3,ry,q3⟩=>?_;obtain⟨rfl,a,xs,rfl,q⟩:=q3;obtain⟨t,rfl⟩:=ry;obtain rfl:v=.ref a:=r1;have I4:Inv X jb σ H3 { s3 with heap:=s3.heap.push { cls:=.type "slice",data:=.fields #[.none,.none,.int (-1) t] } }:=I3.kept (t':=s3.toks) λb ob q=>B7 _ q;show A5 (A7 X.prog X.w) X.A (subscriptTail e (.Slice none none (some st) p2) (.ref a) (.ref s3.heap.objs.size)) (EP X jb σ Q) X.xe { s3 with heap:=s3.heap.push { cls:=.type "slice",data:=.fields #[.none,.none,.int (-1) t] } };rcases q with⟨hq,q⟩|⟨hq,q⟩
 ·obtain⟨jf,r,ht,hz⟩:=I4.list hq;refine tail_any (ops:=[.ref a,.ref s3.heap.objs.size]) ht.isList.typeIs slot_list_getitem.lookup ?_ (by with_unfolding_all rfl);refine wpAny_getItem_list_slice ht.isList (Gv ..) .none .none (.int (-1) t) 0b0 ?_ (by rw[E9];have:=r.length;ext);rw[PySem.W.krv_pick];refine⟨.ref _,_,I4.laid (t':=s3.toks) (o:=.lst xs.reverse) (λb ob q=>B7 _ q) (B2 _) ?_,rfl,q _ (I4.hok.fresh (B2 _))⟩;exact⟨by rw[k7];exact hz,jf.reverse,0,r.rev,E7 _ rfl⟩
 ·obtain⟨jf,r,ht,hz⟩:=I4.tuple hq;refine tail_any (ops:=[.ref a,.ref s3.heap.objs.size]) ht.typeIs PyProof.Rows.slot_tuple_getitem.lookup ?_ (by with_unfolding_all rfl);refine HT.getItem_tuple_rev ht (Gv ..) (.int (-1) t) ?_ (by rw[E9];have:=r.length;ext);refine⟨.ref _,_,I4.laid (t':=s3.toks) (o:=.tup xs.reverse) (λb ob q=>B7 _ q) (B2 _) ?_,rfl,q _ (I4.hok.fresh (B2 _))⟩;exact⟨by rw[k7];exact hz,jf.reverse,r.rev,X0.new _ _⟩
end
end L2
namespace Pu
open PySem PySem.Spec L2
section
variable {T:PotK}{ι:Type}{K:A8}{F:ι->Cx}{e:Expr}{pe:pE}{pos p2 p3 p4:Pos}
theorem Reps.rev:∀{xs:List PV} {vs:List V},Reps K G H xs vs->Reps K G H xs.reverse vs.reverse
 |[],vs,r=>by obtain rfl:vs=[]:=r;exact rfl
 | x :: xs, vs, r => by
  obtain⟨v,r',rfl,r1,r2⟩:=r;rw[b9,b9];exact(Reps.rev r2).append ⟨v,[],rfl,r1,rfl⟩
def wRev:w1:=λx R=>match x with|.lst xs=>R (.lst xs.reverse)|.tup xs=>R (.tup xs.reverse)|_=>False
def qe_rev {i:Nat}(he:QR T K F e pe)(hK:∀z,(F z).K=K):QE T K F (.Subscript e (.Slice none none (some (.UnaryOp .USub (.Constant (.int 1) i p3) p4)) p2) pos) (qUn wRev pe):=by
 obtain⟨t,h1,h2⟩:=he;refine⟨_,λz=>hK z▸pe_rev (h1 z) (pe_un Kg L5),⇑?_⟩;refine ↥h2 λx jc n1 v H1 p1 S1 r1 f1=>?_;subst hK;have rx:=r1.rd S1;refine⟨1,rfl,rfl,?_⟩;unfold wRev at p1
 split at p1
 ·obtain⟨a,vs,ev,hq,r⟩:=rx.lst;exact⟨a,vs,ev,.inl ⟨hq,λp hn=>k _ _ _ _ _ p1 (S1.same (Same.lay1 hn)) (CL (S1.fresh hn) hn r.rev) (f1.trans (Fr.of (Same.lay1 hn)))⟩⟩
 ·obtain⟨a,vs,ev,hq,r⟩:=rx.tup;exact⟨a,vs,ev,.inr ⟨hq,λp hn=>k _ _ _ _ _ p1 (S1.same (Same.lay1 hn)) (Ak (S1.fresh hn) hn r.rev) (f1.trans (Fr.of (Same.lay1 hn)))⟩⟩
 grind
end
section
variable {T:PotK}{ι:Type}{K:A8}{F:ι->Cx}{e:Expr}{pe:pE}{pos:Pos}
def CY (i:Nat)(pe:pE):pE:=λenv n R=>(∃xs,env[i]?=some (some (.ow .lst xs)))/\pe env n λy jc n1=>match jc[i]?,y with|some (some (.ow .lst xs)),.lst ys=>xs.length+ys.length<=1000000/\R .non (jc.set i (some (.ow .lst (xs++ys)))) n1|_,_=>False
def QZ (i:Nat)(hv:∀z,EW (F z) (.Name x p) (tVar i))(he:QE T K F e pe)(hs:D8 e=true)(hbase:∀z,j9 (.Name x p) "extend" (F z).env (eval (.Name x p) (F z).env)=eval (.Name x p) (F z).env)(hline:(ap.endLine == pos.line)=true)
   (hfew:∀z,((backTo pos (D6 [e] (F z).env)).all (λx=>!x.1)&&(backToKw pos (x4 [] (F z).env)).all (λx=>x.1.isSome)&&decide (([e]:List Expr).length+([]:List R4).length+(if([]:List R4).isEmpty then 0 else 1)<30))=true) (hK:∀z,(F z).K=K):QE T K F (.Call (.Attribute (.Name x p) "extend" ap) [e] [] pos) (CY i pe):=by
 obtain⟨t,a1,a2⟩:=he;refine⟨tBM K "list" KF (tVar i) (T4 t tNil),λz=>hK z▸CD Co PySem.F.slot_list_extend PySem.F.type_list_extend Pg (hv z).h (E3 (a1 z) G0 (C5 hs)) (hbase z) (hfew z) hline (C5 hs),⇑?_⟩;obtain⟨⟨xs0,e0⟩,hp⟩:=hp;obtain⟨a,vs,ev,h1,h2,h3,h4,r⟩:=S.slots i _ e0;refine⟨.ref a,ev,.inl ⟨rfl,vs,SqL.of h4⟩,?_⟩;refine ↥a2 λy jc n1 v H1 q1 S1 r1 f1=>?_
 split at q1
 ·rename_i xs ys ex;obtain⟨a',us,ev',g1,g2,g3,g4,r'⟩:=S1.slots i _ ex;rw[ev] at ev';cases ev';subst hK;obtain⟨b,ws,rfl,tb,rb⟩:=r1;obtain⟨S2,f2⟩:=S1.put ex ev (r'.append rb);exact⟨a,b,us,ws,rfl,rfl,g4,tb.2,by rw[<- r'.length,<- rb.length];exact mil q1.1,k _ _ _ _ _ q1.2 S2 rfl (f1.trans f2)⟩
 ·exact q1.elim
end
end Pu
end
section
namespace L2
open PySem PySem.Spec PyProof.Rows
def Itd (a:Int)(n:Nat):It:=⟨λi _=>i<n,λi H x H'=>H'=H/\x=.int (a-i),λi _=>n<=i⟩
def Q_ {K:A8}(it:A1)(lo:Int)(n:Nat):Turn P w K tg (Itd lo n) [it] it (λi h=>IsRangeIter h it (lo+(i:Nat) * -1) ((n:Int)-(i:Nat)) (-1)) where
 mem:=0o0
 obj:=fun i h st b hb=>by
  have e:b=it:=by simpa using hb
  subst e
  exact⟨_,st,λv z=>by
   have z':Bj _=Data.cell v:=z
   cases z'⟩
 keep:=λi h h' st k=>k it 0o0 _ st
 item:=by
  intro X hP hw hK hc i jb s σ H E I hf st hg;subst hP hw hK;obtain⟨f0,f1,f2,f3,f4,f5⟩:=hf it 0o0;have W:=Walks.range (prog:=X.prog) (w:=X.w) (I.ok.hd hc) it lo (-1) n;refine W.item i s _ _ hg st λv h' tk hv st' kk=>?_;obtain⟨t,rfl⟩:=hv;have I1:Inv X jb σ H { s with heap:=h',toks:=tk }:=I.turned (λb o hb e=>kk b o (by simpa using hb) e) f0 f1 f3 f4 f5;refine⟨_,rfl,Cy (s:={ s with heap:=h',toks:=tk }) (n:="range_iterator") st' rfl rfl 0b0 ⟨.int (lo-i),H,I1,⟨t,?_⟩,⟨rfl,rfl⟩,st',λb hb=>(hf b hb).1⟩⟩;have e:lo+(i:Int) * -1=lo-i:=0x0
  rw[e]
 done:=by
  intro X hP hw hK hc i jb s σ H E I hf st hg;subst hP hw hK;obtain⟨f0,f1,f2,f3,f4,f5⟩:=hf it 0o0;exact wpAny_pyNext_range_end (I.ok.hd hc) st (by have:n<=i:=hg;ext) λh' eb=>⟨rfl,I.turned (t':=s.toks) (λb o hb e=>eb b o hb e) f0 f1 f3 f4 f5⟩
 self:=λ_ _ _ _ _ st h=>Ge st h
end L2
namespace Pu
open PySem PySem.Spec L2
section
variable {T:PotK}{ι:Type}{K:A8}{F:ι->Cx}{tg a b c:Expr}{pa pb pc:pE}{pos:Pos}
def Ra {K:A8}{G:Gh}{H:Hp}(lo:Int)(m:Nat):ItR K G H (Itd lo m) ((C2 m).map λ(k:Nat)=>PV.int (lo-k)):=by
 intro G2 H2 hk hM hp hf;refine⟨λi x e=>?_,λi hi=>(show m<=i by simpa using hi)⟩;rw[D4] at e;cases e1:(C2 m)[i]? with
 |none=>rw[e1] at e;cases e
 | some j =>
  rw[e1] at e;cases e;obtain⟨hi,e2⟩:=D3.mp e1;rw[DI] at e2;subst e2;refine⟨(show i<m by simpa using hi),λv H3 y=>?_⟩;obtain⟨e3,y⟩:=y;subst e3 y;exact⟨Same.refl _,rfl⟩
end
end Pu
end
section
namespace L2
open PySem PySem.Spec PyProof.Rows
theorem LQ:∀{ys:List Str} {us:List A3},Vals (ys.map V.str) us->StrsAre us ys
 |[],us,r=>by rw[l5] at r;cases r;exact .nil
 | y :: ys, us, r => by
  rw[J3] at r;cases r with
  | cons r1 r2 =>
   obtain⟨t,e⟩:=r1;subst e;exact .cons y t (LQ r2)
section
variable {X:Cx}{pos:Pos}
def Rb:seqSlot? (.type "list") (dunderI "add")=pure (some (.builtin "list.__iadd__")):=rfl
def Rc:fillsInplaceSlot (.type "list") "add" (Operator.Add == .Add)=pure false:=rfl
def LR:R2:=λx y H Q=>∃l b xs zs,x=.ref l/\y=.ref b/\H l=some (.lst xs)/\H b=some (.lst zs)/\xs.length+zs.length<=B4/\Q (.ref l) (upd H l (.lst (xs++zs)))
def Re:OpR X (inplaceOp .Add) LR:=by
 intro jb s σ H x y v u Q I rx ry h;obtain⟨l,b,xs,zs,rfl,rfl,hH,hB,hz,q⟩:=h;cases rx;cases ry;obtain⟨z,jf,n,r,hl,e⟩:=I.lstM hH;obtain⟨z2,its2,n2,r2,hl2,e2⟩:=I.lstM hB;have hsz:jf.toArray.size+its2.toArray.size<=B4:=by rw[E9,E9];ext
 have hlong:¬(!jf.toArray.isEmpty&&D_ (jf.toArray.size+its2.toArray.size))=true:=by
  rw[KB hsz,Ck];exact L3
 have ha:s.TypeIs (.ref l) "list":=⟨_,e,rfl⟩;have hb:s.TypeIs (.ref b) "list":=⟨_,e2,rfl⟩;unfold inplaceOp;refine K5 ?_;refine A2 (k6 ha (A2 (P0 Rc ?_)));show A5 _ _ (if false=true then _ else _) _ _ s;rw[ju L3];refine A2 (binaryOp1_none (nm:="add") ha hb noFill_list_add ?_);refine A2 (P0 Rb ?_);refine A2 (X8 ?_)
 refine b7 F.slot_list_iadd ha F.entry_list_iadd (F.args_list_iadd_2 _ _)
   (AutoSeq1.list___iadd___list_list_0 l jf.toArray n b its2.toArray n2 hlong 0x0 0x0) ⟨e,e2,?_⟩
 refine⟨.ref l,_,I.lset (its':=jf++its2) hH e 0o0 (r.append r2) ?_,rfl,q⟩;rw[C7];ext
end
end L2
namespace Pu
open PySem PySem.Spec L2
section
variable {T:PotK}{np:Bool}{ι:Type}{K:A8}{F:ι->Cx}{e:Expr}{st:Stmt}{pe:pE}{pos:Pos}
def sw_aug {X:Cx}{i:Nat}{x:Str}{e:Expr}{op:Operator}{ti:TIp}{pos' pos:Pos}(hN:X.N.Nodup)(hi:X.N[i]?=some x)(hx:Loc X.env.scope x)(ho:OpR X (inplaceOp op) ti)(hf:X.fn x=true\/X.env.scope.names.lookup x=some .local:=by first|exact .inl rfl|exact .inr rfl|assumption)(te:TE)(h:EW X e te):SW X (.AugAssign (.Name x pos') op e pos) (tAug i te ti):=⟨ps_aug hN hi hx h.h ho hf⟩
def Hz (i:Nat)(pe:pE):pS:=λD env n=>(∃xs,env[i]?=some (some (.ow .lst xs)))/\pe env n λy jc n1=>match jc[i]?,y with|some (some (.ow .lst xs)),.lst ys=>xs.length+ys.length<=1000000/\D.nx (jc.set i (some (.ow .lst (xs++ys)))) n1|_,_=>False
def Rf (i:Nat)(h:∀z te,EW (F z) e te->SW (F z) st (tAug i te LR))(he:QE T K F e pe):QS T np K F st (Hz i pe):=by
 obtain⟨t,a1,a2⟩:=he;refine⟨_,λz=>(h z _ ⟨a1 z⟩).h,⇑_⟩;obtain⟨⟨xs0,e0⟩,hp⟩:=hp;obtain⟨a,vs,ev,h1,h2,h3,h4,r⟩:=S.slots i _ e0;refine⟨.ref a,ev,?_⟩;refine ↥a2 λy jc n1 v H1 q1 S1 r1 f1=>?_
 split at q1
 ·rename_i xs ys ex;obtain⟨a',us,ev',g1,g2,g3,g4,r'⟩:=S1.slots i _ ex;rw[ev] at ev';cases ev';subst hK;obtain⟨b,ws,rfl,tb,rb⟩:=r1;obtain⟨S2,f2⟩:=S1.put ex ev (r'.append rb);refine⟨a,b,us,ws,rfl,rfl,g4,tb.2,by rw[<- r'.length,<- rb.length];exact mil q1.1,?_⟩
  have es:σ.set i (some (.ref a))=σ:=by
   obtain⟨hi,e⟩:=D3.mp ev;rw[<- e];exact List.set_getElem_self hi
  show D.nx (σ.set i (some (.ref a))) _;rw[es];exact L.nx _ _ _ _ _ q1.2 S2 (Ext.fr (f1.trans f2))
 ·exact q1.elim
end
end Pu
end
section
namespace L2
open PySem PySem.Spec PyProof.Rows
def Rg {X:Cx}{scope:J1}{cl:List (Str×A1)}{N:List Str}{jb:List (A1×Obj)}{σ σ3:St}{H2 H3:Hp}{s2 s4:A4}{fp:List A1}{i:Nat}{y:Str}{py:Pos}{DD:Ends}(hN:X.N.Nodup)(hiy:X.N[i]?=some y)(hy:Loc X.env.scope y)(hff:X.fn y=true\/X.env.scope.names.lookup y=some .local)(I2:Inv X jb σ H2 s2)(f2:∀b∈fp,FpOk X jb H2 b)(I4:Inv (F2 X scope cl N fp (s2.heap.objs.size+1) s2 H2) jb σ3 H3 s4)(qn:DD.nx (σ.set i (some (.ref s2.heap.objs.size))) H3) :
   compPost (A7 X.prog X.w) X.A X.xe (some (assign (.Name y py) X.env)) (λ_ s'=>SP X jb DD .next s') (.ref s2.heap.objs.size) (s2.heap.objs.size+1) (.ok .next) s4:=by
 obtain⟨m4,hn4,_⟩:=I4.loc;have I5:Inv X jb σ H3 s4:=Inv.uncomp (h':=s4.heap) I2 f2 I4 λb hb=>rfl;have fr:H3 (s2.heap.objs.size+1)=none:=I4.free;have oldne:∀{b o},s2.heap.get? b=some o->b≠s2.heap.objs.size+1:=λe=>E6 (AU (C4 e));have locne:X.env.locals≠s2.heap.objs.size+1:=E6 (AU I2.lt)
 have cellne:∀x c,X.env.cells.lookup x=some c->c≠s2.heap.objs.size+1:=λx c e=>by
  obtain⟨v,o,h1,_⟩:=I2.cell x c e;exact oldne h1
 have pinne:∀p∈X.pn++jb,p.1≠s2.heap.objs.size+1:=λp hp=>oldne (I2.pin p hp).1;have sz:X.s₀.heap.objs.size<=s2.heap.objs.size+1:=Nat.le_succ_of_le I2.sz;clear I4 I2;generalize s2.heap.objs.size+1=C at *;refine wpAny_assign_Name (Ka I5 hN hiy hy (v:=.ref s2.heap.objs.size) rfl (λs6 I6 ⟨a6,sb6,ha6⟩=>?_) hff);refine⟨m4,hn4.sameBut sb6 (ha6.elim (λz=>by rw[z];exact Ne.symm locne) λz=>Ne.symm (cellne _ _ z)),λh' hs'=>⟨_,H3,?_,qn⟩⟩;have U0:Un (frs X.stack) [C] H3 H3 s6.heap s6.heap:=Un.refl;have hx':∀{b},b∉[C]->h'.get? b=s6.heap.get? b:=λ{b} hx=>hs'.2 b λz=>hx (by rw[z];simp)
 have trC:∀{b u},H3 b=some u->b∉[C]:=λ{b u} e z=>by
  rw[E8.mp z,fr] at e;cases e
 obtain⟨hh6,g6,d6,t6,os6⟩:=s6;refine I6.call (h':=h') (g':=g6) (d':=d6) (t':=t6) (ch:=[C]) ⟨λb o e n hb hx=>?_,λb o e n hb hx=>?_,U0.free,λb o e hx=>?_,U0.tups,U0.frzs,U0.tbls,U0.sys⟩ (λb u e=>?_) I6.bare λb hb=>?_
 ·rw[hx' hx];exact U0.keep b o e n hb hx
 ·rw[hx' hx];exact U0.slot b o e n hb hx
 ·rw[hx' hx];exact U0.there b o e hx
 ·refine(I6.hok b u e).stay (λc v hc q=>?_) (λ_ q=>q) λ_ _ q=>q;rw[hx' (hc.elim (λz=>by rw[z];exact trC e) trC)];exact q
 ·rw[E8.mp hb];exact⟨.inr sz,Ne.symm locne,cellne,pinne⟩
def Rh {X:Cx}{scope:J1}{cl:List (Str×A1)}{N:List Str}{cs:List (Option Nat)}{ji tg iter:Expr}{jk:List Expr}{pos spos py:Pos}{wi:TI}{g:TG}{tt:TT}{te:TE}{i:Nat}{y:Str}(hN:X.N.Nodup)(hiy:X.N[i]?=some y)(hy:Loc X.env.scope y)(S:V5 X scope cl N cs)(hc:X.calm=true)(hi:PI X tg iter wi)
   (hb:∀(fp:List A1) (C:A1) (s:A4) (H:Hp),PG (F2 X scope cl N fp C s H) tg g/\PIf (F2 X scope cl N fp C s H) jk tt/\PE (F2 X scope cl N fp C s H) ji te)
   (hsw:X9 (.ListComp ji [⟨tg,iter,jk,0⟩] scope pos) (some (.Name y py)) spos.line X.env=pure true:=by rfl)
   (hs:∀x,N8 iter X.env x=pure x:=by intro _;rfl) (hff:X.fn y=true\/X.env.scope.names.lookup y=some .local:=by first|exact .inl rfl|exact .inr rfl|assumption) :
   PS X (.Assign [.Name y py] (.ListComp ji [⟨tg,iter,jk,0⟩] scope pos) spos) (tAsg (tComp cs wi g tt te) (L6 i)):=by
 intro jb s σ H DD I h;rw[exec_Assign_Name_used _ _ _ _ hsw];refine A2 (X7 (A2 (A2 (G5 (Q:=λ_ s'=>SP X jb DD .next s') (GR S hc hi hs I h λfp it tn J s2 H2 s₃ T stat I2 f2 q Ic st1 fr1=>?_) (λ_ s' hq=>A9 (A9 hq)) λ_ _ e=>e))));obtain⟨W,⟨m0,w0⟩,turn⟩:=q;obtain⟨hg,hf,he⟩:=hb fp (s2.heap.objs.size+1) s2 H2;exact KH _ (GQ (Y:=F2 X scope cl N fp (s2.heap.objs.size+1) s2 H2) T hc stat hg hf he (λs4 σ3 H3 I4 qn=>Rg hN hiy hy hff I2 f2 I4 qn) turn) m0 ⟨0,_,_,Ic,st1,fr1,w0⟩
end L2
namespace Pu
open PySem PySem.Spec L2
def SwOk (X:Cx)(e:Expr)(t:TE):Prop:=∀(i:Nat) (y:Str) (py spos:Pos),X.N.Nodup->X.N[i]?=some y->Loc X.env.scope y->X9 e (some (.Name y py)) spos.line X.env=pure true->(X.fn y=true\/X.env.scope.names.lookup y=some .local)->PS X (.Assign [.Name y py] e spos) (tAsg t (L6 i))
inductive QNC {ι:Type}(T:PotK)(K:A8)(F:ι->Cx)(e:Expr)(pn:pA):Prop
 |mk t (a:(∀z,PE (F z) e t)) (b:(∀z,SwOk (F z) e t)) (c:NOk K T t pn):QNC T K F e pn
section
variable {T:PotK}{np:Bool}{ι:Type}{K:A8}{F:ι->Cx}{e:Expr}{pl:pA}{pg:pG}{pos:Pos}
def Ri {scope:J1}{cl:ι->List (Str×A1)}{N:List Str}{cs:List (Option Nat)}{ji tg iter:Expr}{jk:List Expr}{pi:pA}{ptt:pT}{pte:pE}(S:∀z,V5 (F z) scope (cl z) N cs)(hc:∀z,(F z).calm=true)(hi:QI T K F tg iter pi)
   (hg:QG K (λy:ι×List A1×A1×A4×Hp=>F2 (F y.1) scope (cl y.1) N y.2.1 y.2.2.1 y.2.2.2.1 y.2.2.2.2) tg pg) (ht:QIf T K (λy:ι×List A1×A1×A4×Hp=>F2 (F y.1) scope (cl y.1) N y.2.1 y.2.2.1 y.2.2.2.1 y.2.2.2.2) jk ptt)
   (he:QE T K (λy:ι×List A1×A1×A4×Hp=>F2 (F y.1) scope (cl y.1) N y.2.1 y.2.2.1 y.2.2.2.1 y.2.2.2.2) ji pte)
   (hs:∀z x,N8 iter (F z).env x=pure x:=by intro _ _;rfl):QNC T K F (.ListComp ji [⟨tg,iter,jk,0⟩] scope pos) (J6 cs pi pg ptt pte):=by
 obtain⟨wi,i1,i2⟩:=hi;obtain⟨g,hg0,hg⟩:=hg;obtain⟨tt,ht0,ht⟩:=ht;obtain⟨te,he0,he⟩:=he;refine⟨_,λz=>KJ (S z) (hc z) (i1 z) (λfp C s H=>⟨hg0 (z,fp,C,s,H),ht0 (z,fp,C,s,H),he0 (z,fp,C,s,H)⟩) (hs z),λz i y py spos hN hi hy hsw hf=>Rh hN hi hy (S z) (hc z) (i1 z) (λfp C s H=>⟨hg0 (z,fp,C,s,H),ht0 (z,fp,C,s,H),he0 (z,fp,C,s,H)⟩) hsw (hs z) hf,⇑?_⟩;refine ↥i2 λxs jc n1 J H1 p1 S1 f1 hJ=>?_;intro D hD;have hDM:=S1.fresh hD;refine Lr (G:=G) hg ht he hJ p1.1 hD (hT▸hK▸Hd S1 cs) p1.2 λys n2 us H' rr hpots hk eD ry=>?_
 -- the heap without D
 have nD:∀b o,H1 b=some o->b≠D:=λb o e z=>by rw[z,hD] at e;cases e
 have hD0:C.H0 D=none:=by
  cases z:C.H0 D with
  |none=>rfl
  | some o =>
   by_cases hp:D∈C.pots0
   ·exact absurd (S1.sup D (S1.p0.1 D hp)) hDM
   ·have:=S1.frame D o hp z;rw[hD] at this;cases this
 have hk2:∀b o,b∉G.pots->H1 b=some o->cutH H' D b=some o:=λb o hb e=>by rw[T6 (nD b o e)];exact hk b o hb e
 have nc:∀b,b∉D::G.M->b≠D:=λb hb z=>hb (by rw[z];exact B8);have np:∀p∈G.pots,p≠D:=λp hp z=>hDM (z▸(S1.pots p hp).1)
 have Sb:SR C G σ (cutH H' D) jc n2:=S1.call hk2 λp hp=>by
  subst hT;have h2:=C.T.keep (hpots p hp) (H':=cutH H' D) (T6 (np p hp)) λb o hb e=>by rw[T6 (nc b hb)];exact e
  exact C.T.more h2 λa ha=>.inl (B6 _ ha)
 have:=k ys jc n2 D us (cutH H' D) rr Sb (f1.trans λb o hb e=>hk2 b o (λz=>hb (S1.pots b z).1) e) (by unfold cutH;rw[jt rfl]) ?_
 ·rw[He eD] at this;exact this
 ·exact Reps.mono (G:=⟨D::G.M,G.pots⟩) (λb o hb e=>by rw[T6 (nc b hb)];exact e) (λa ha=>.inl (B6 _ ha)) (λ_ _ e=>e) _ _ ry
def Rj (i:Nat){y:Str}{py spos:Pos}(h:QNC T K F e pl)(hN:∀z,(F z).N.Nodup)(hi:∀z,(F z).N[i]?=some y)(hy:∀z,Loc (F z).env.scope y)(hsw:∀z,X9 e (some (.Name y py)) spos.line (F z).env=pure true)(hf:∀z,(F z).fn y=true\/(F z).env.scope.names.lookup y=some .local):QS T np K F (.Assign [.Name y py] e spos) (qOwn i pl):=by
 obtain⟨t,a1,a3,a2⟩:=h;refine⟨_,λz=>a3 z i y py spos (hN z) (hi z) (hy z) (hsw z) (hf z),⇑_⟩;refine ↥a2 λxs jc n1 a vs Hb q1 S1 f1 hn1 r1=>?_;exact L.nx _ _ _ _ _ q1 (S1.own i hn1 (hK▸r1)) ((Ext.fr f1).trans (CP hn1))
def Rk (i:Nat){y:Str}{py spos:Pos}(h:QNC T K F e pl)(hN:∀z,(F z).N.Nodup)(hi:∀z,(F z).N[i]?=some y)(hy:∀z,Loc (F z).env.scope y)(hsw:∀z,X9 e (some (.Name y py)) spos.line (F z).env=pure true)(hf:∀z,(F z).fn y=true\/(F z).env.scope.names.lookup y=some .local):QS T np K F (.Assign [.Name y py] e spos) (qSet i (qL pl)):=by
 obtain⟨t,a1,a3,a2⟩:=h
 have he:EOk K T t (qL pl):=λC G σ H env n R Q hK hT S hp k=>by
  refine ↥a2 λxs jc n1 a vs Hb p1 S1 f1 hn r1=>?_;exact k _ _ _ _ _ p1 (S1.same (Same.lay1 hn)) (CL (S1.fresh hn) hn r1) (f1.trans (Fr.of (Same.lay1 hn)))
 refine⟨_,λz=>a3 z i y py spos (hN z) (hi z) (hy z) (hsw z) (hf z),⇑_⟩;refine ↥he λx jc n1 v H1 q1 S1 r1 f1=>?_;exact L.nx _ _ _ _ _ q1 (S1.set i (hK▸r1)) (Ext.fr f1)
end
def shK:Key->Prop
 |.inl i=>i.natAbs<10 ^ 60
 |.inr x=>∀c∈x.cps.toList,c<16 ^ 8
noncomputable def CZ:Key->Nat
 |.inl _=>61
 |.inr x=>10*x.length+2
mutual
def shw:PV->Prop
 |.non=>True
 |.bl _=>True
 |.int i=>i.natAbs<10 ^ 60
 |.str x=>∀c∈x.cps.toList,c<16 ^ 8
 |.tup xs=>shws xs
 |.lst xs=>shws xs
 |.dct ks xs=>(∀k∈ks,shK k)/\shws xs
 |_=>False
def shws:List PV->Prop
 |[]=>True
 |x::xs=>shw x/\shws xs
end
mutual
def cost:PV->Nat
 |.non=>4
 |.bl _=>5
 |.int _=>61
 |.str x=>10*x.length+2
 |.tup xs=>F3 xs+3
 |.lst xs=>F3 xs+3
 |.dct ks xs=>(ks.map λk=>CZ k+4).sum+F3 xs+3
 |_=>0
def F3:List PV->Nat
 |[]=>0
 |x::xs=>cost x+2+F3 xs
end
mutual
def dep:PV->Nat
 |.tup xs=>deps xs+1
 |.lst xs=>deps xs+1
 |.dct _ xs=>deps xs+1
 |_=>0
def deps:List PV->Nat
 |[]=>0
 |x::xs=>max (dep x) (deps xs)
end
def LS {i:Int}(h:i.natAbs<10 ^ 60):(A6 (toString i)).length<=61:=by
 have e:=int_text_length_le10 (k:=60) 0b0 h;rw[ofString_length];ext
def LU {i:Int}(h:i.natAbs<10 ^ 60):i.natAbs.log2<1920:=by
 by_cases h0:i.natAbs=0
 ·simp_all
 ·exact(Nat.log2_lt h0).mpr (y8 h (by grind))
def key_ok {k:Key}(h:shK k):(keyD k).showable=true/\(keyD k).depth=0/\(keyD k).shown.length<=CZ k:=by
 cases k with
 |inl i=>exact⟨by simpa[keyD,Y6] using LU h,by simp[keyD,e6],by simpa[keyD,e7,CZ] using LS h⟩
 |inr x=>exact⟨by simp[keyD,Y6],by simp[keyD,e6],by simpa[keyD,e7,CZ] using StrLaws.reprText_len x h⟩
theorem kv_ok:∀(ks:List Key) (ds:List PyData),(∀k∈ks,shK k)->Bc ds=true->DU ((ks.map keyD).zip ds)=true/\DV ((ks.map keyD).zip ds)<=Cn ds/\((Bd ((ks.map keyD).zip ds)).map (·.length)).sum+2*(Bd ((ks.map keyD).zip ds)).length<=(ks.map λk=>CZ k+4).sum+((Af ds).map (·.length)).sum+2*ds.length
 |[],ds,_,_=>by simp[DU,DV,Bd]
 |k::ks,[],_,_=>by simp[DU,DV,Bd]
 | k :: ks, d :: ds, hk, hd => by
  have hd':d.showable=true/\Bc ds=true:=by simpa[Bc] using hd
  obtain⟨h1,h2,h3⟩:=kv_ok ks ds (λx hx=>hk x (B6 _ hx)) hd'.2;obtain⟨g1,g2,g3⟩:=key_ok (hk k B8);refine⟨?_,?_,?_⟩
  ·simp[DU,g1,hd'.1,h1]
  ·simp only[J3,AR,DV,Cn,g2];ext
  ·simp only[J3,AR,Bd,Af,List.sum_cons,D5];rw[strLen_append,strLen_append];have:(A6 ": ").length=2:=rfl;ext
def Rl (ps:List Str):(dictText ps).length<=(ps.map (·.length)).sum+2*ps.length+3:=by
 have h:(Str.join ", " ps).length<=(ps.map (·.length)).sum+ps.length*2:=StrLaws.join_length_le ", " ps
 have e:(dictText ps).length=1+(Str.join ", " ps).length+1:=by
  unfold dictText;rw[strLen_append,strLen_append];rfl
 ext
mutual
theorem LV:∀(x:PV),shw x->∃d,dat x=some d/\d.showable=true/\d.depth<=dep x/\d.shown.length<=cost x
 |.non,_=>⟨_,rfl,by simp[Y6],by simp[e6],by simp only[e7,cost];decide⟩
 |.bl b,_=>⟨_,rfl,by simp[Y6],by simp[e6],by simp only[e7,cost];cases b <;> decide⟩
 |.int i,h=>⟨_,rfl,by simpa[Y6] using LU h,by simp[e6],by simpa[e7,cost] using LS h⟩
 |.str x,h=>⟨_,rfl,by simp[Y6],by simp[e6],by simpa[e7,cost] using StrLaws.reprText_len x h⟩
 | .tup xs, h => by
  obtain⟨ds,e,h1,h2,h3,h4⟩:=EF xs h;refine⟨.tuple ds,by rw[dat,e],by simpa[Y6] using h1,by simp only[e6,dep];omega,?_⟩;have:=tupleText_len_le (Af ds);have e2:=PyData.shownAll_length ds;simp only[e7,cost];ext
 | .lst xs, h => by
  obtain⟨ds,e,h1,h2,h3,h4⟩:=EF xs h;refine⟨.list ds,by rw[dat,e],by simpa[Y6] using h1,by simp only[e6,dep];omega,?_⟩;have:=listText_len_le (Af ds);have e2:=PyData.shownAll_length ds;simp only[e7,cost];ext
 | .dct ks xs, h => by
  have h':(∀k∈ks,shK k)/\shws xs:=h;obtain⟨ds,e,h1,h2,h3,h4⟩:=EF xs h'.2;obtain⟨g1,g2,g3⟩:=kv_ok ks ds h'.1 h1;refine⟨.dict ((ks.map keyD).zip ds),by rw[dat,e],by simpa[Y6] using g1,by simp only[e6,dep];omega,?_⟩;have:=Rl (Bd ((ks.map keyD).zip ds));simp only[e7,cost];ext
 |.ty _,h=>h.elim
 |.pot _,h=>h.elim
 |.scr _,h=>h.elim
 |.fdt _ _,h=>h.elim
theorem EF:∀(xs:List PV),shws xs->∃ds,dats xs=some ds/\Bc ds=true/\Cn ds<=deps xs/\ds.length=xs.length/\((Af ds).map (·.length)).sum+2*ds.length<=F3 xs
 |[],_=>⟨[],rfl,by simp[Bc],by simp[Cn],rfl,by simp[Af,F3]⟩
 | x :: xs, h => by
  have h':shw x/\shws xs:=h;obtain⟨d,e,a1,a2,a3⟩:=LV x h'.1;obtain⟨ds,e2,b1,b2,b3,b4⟩:=EF xs h'.2;refine⟨d::ds,by rw[dats,e,e2],by simp[Bc,a1,b1],by simp only[Cn,deps];omega,by simp[b3],?_⟩;simp only[Af,F3,J3,List.sum_cons,D5];ext
end
noncomputable def HA (x:PV):Str:=match dat x with|some d=>d.shown|none=>A6 ""
def LW {x:PV}{R:PV->Prop}(h:shw x)(h1:dep x<=40)(h2:cost x<=10000000)(q:R (.str (HA x))):BC x R:=by
 obtain⟨d,e,a1,a2,a3⟩:=LV x h;unfold BC HA at *;rw[e] at q ⊢;exact⟨a1,0x0,by unfold B4;omega,q⟩
theorem EG:∀(xs:List PV),(∀x∈xs,shw x)->shws xs
 |[],_=>trivial
 |x::xs,h=>⟨h x B8,EG xs λy hy=>h y (B6 _ hy)⟩
theorem EH (k:Nat):∀(xs:List PV),(∀x∈xs,dep x<=k)->deps xs<=k
 |[],_=>F7 _
 | x :: xs, h => by
  have:=h x B8;have:=EH k xs λy hy=>h y (B6 _ hy);simp only[deps];ext
theorem LX (k:Nat):∀(xs:List PV),(∀x∈xs,cost x<=k)->F3 xs<=(k+2)*xs.length
 |[],_=>F7 _
 | x :: xs, h => by
  have h1:=h x B8;have h2:=LX k xs λy hy=>h y (B6 _ hy);simp only[F3,D5,Nat.mul_succ];ext
end Pu
end
section
namespace L2
open PySem PySem.Spec PyProof.Rows PySem.Builtin PySem.Builtin.Str
section
variable {prog:C3}{w:B9}{A:D0}{E:A3->A4->Prop}{s:A4}{x:Str}{t:Tok}{Q:A3->A4->Prop}
def split_at {y:Str}{u:Tok}(hy:(y.length == 0)=false)
   (hq:∀l tk,l.map (·.1)=Txt.split x y->Q (.ref s.heap.objs.size) { s with toks:=tk,heap:=s.heap.push { cls:=.type "list",data:=.seq (strValues l).toArray } })
   (hsz:x.length<=B4) (hsz2:(partsBetween x (occurrences x y 0 x.length (x.length+1)) y.length).length<=B4) :
   A5 (A7 prog w) A (call (.builtin "str.split") [.str x t,.str y u]) Q E s:=by
 cases h1:(decide (x.length<y.length)||decide (strKind x<strKind y))
 ·cases hf:(occurrences x y 0 x.length (x.length+1)).isEmpty
  ·refine b7 F.slot_str_split (typeIs_str _ _ _) F.entry_str_split (F.args_str_split_2 _ _) (meets_str_split_sep x y t u h1 hy hf hsz hsz2) ?_;show wants Q E _ { s with toks:=_,heap:=s.heap.push { cls:=.type "list",data:=.seq (strsFrom s.toks (partsBetween x (occurrences x y 0 x.length (x.length+1)) y.length)).toArray } };rw[strsFrom_eq];exact hq (numbered s.toks _) _ ((numbered_texts _ _).trans ((ju (ne_true_of_eq_false h1)).trans (ju (ne_true_of_eq_false hf))).symm)
  ·exact b7 F.slot_str_split (typeIs_str _ _ _) F.entry_str_split (F.args_str_split_2 _ _) (meets_str_split_not_found x y t u h1 hy hf)
     (hq [(x,t)] _ ((ju (ne_true_of_eq_false h1)).trans (jt hf)).symm)
 ·exact b7 F.slot_str_split (typeIs_str _ _ _) F.entry_str_split (F.args_str_split_2 _ _) (meets_str_split_cannot_occur x y t u h1)
    (hq [(x,t)] _ (jt h1).symm)
end
end L2
end
section
namespace L2
open PySem PySem.Spec PyProof.Rows
noncomputable def met (val:Nat->Key):Nat->List Key
 |0=>[]
 |i+1=>if(met val i).any (λy=>decide (y=val i)) then met val i else met val i++[val i]
theorem LY (val:Nat->Key):∀i,(met val i).length<=i
 |0=>B2 _
 | i + 1 => by
  have:=LY val i;unfold met
  split
  ·ext
  ·rw[C7,Q5];ext
def Rm (val:Nat->Key)(i:Nat)(k:Key):(met val (i+1)).any (λy=>decide (y=k))=((met val i).any (λy=>decide (y=k))||decide (k=val i)):=by
 show(if(met val i).any (λy=>decide (y=val i)) then met val i else met val i++[val i]).any (λy=>decide (y=k))=_
 by_cases hk:k=val i
 ·subst hk;rw[jq rfl,Bool.or_true]
  split
  ·assumption
  ·rw[List.any_append];simp
 ·rw[jr hk,AY]
  split
  ·rfl
  ·rw[List.any_append]
   have:([val i].any (λy=>decide (y=k)))=false:=by
    rw[List.any_cons,List.any_nil,AY];exact jr (Ne.symm hk)
   rw[this,AY]
def Ro (val:Nat->Key)(i:Nat):(met val (i+1)).length=if(met val i).any (λy=>decide (y=val i)) then(met val i).length else(met val i).length+1:=by
 show(if(met val i).any (λy=>decide (y=val i)) then met val i else met val i++[val i]).length=_
 split
 ·rfl
 ·rw[C7,Q5]
section
variable {prog:C3}{w:B9}{A:D0}{R:Result->A4->Prop}{I:A1}{fp wr:List A1}{G:Array GenState->Array GenState->Prop}{n:Nat}{P:Nat->A3->Prop}{St:Nat->A4->Prop}
def Rp (Wk:WalksS prog w A.in1 I fp wr G n P St)(S:A1)(nf:S∉fp)(val:Nat->Key)(hv:∀i v,P i v->(F8 prog w).is (val i) v=true/\v.scannable=true)(room:n+1<scanBound) :
   ∀ (k i : Nat) (s : A4), n - i = k -> i <= n -> St i s -> s.heap.SetOf (F8 prog w) S (fun q => (met val i).any (fun y => decide (y = q))) (met val i).length ->
     (∀s',Moved (S::wr) G s s'->s'.heap.SetOf (F8 prog w) S (λq=>(met val n).any (λy=>decide (y=q))) (met val n).length->R (.ok (.ret .none)) s')->
     M1 (A7 prog w) A (.builtin "set.update.loop" ⟨[.ref S,.ref I],[]⟩) R s:=by
 have nw:S∉wr:=λh=>nf (Wk.sub _ h);have sub:∀b∈wr,b∈S::wr:=λb hb=>B6 _ hb;intro k
 induction k with
 | zero =>
  intro i s hk hi st so fin;have ei:i=n:=0x0
  subst ei;refine Z9 DT ?_;rw[o6 Ae _];refine A2 (m:=pyNext (.ref I)) (Wk.done s _ _ st λs' mv=>?_);refine A9 (fin s' (mv.mono sub) ?_);obtain⟨o,es,ep,t,ho,more⟩:=so;exact⟨o,es,ep,t,mv.heap S _ nw ho,more⟩
 | succ k ih =>
  intro i s hk hi st so fin;have lt:i<n:=0x0
  refine Z9 DT ?_;rw[o6 Ae _];refine A2 (m:=pyNext (.ref I)) (Wk.item i s _ _ lt st λv s' pv' st' mv=>?_);obtain⟨kv,sc⟩:=hv i v pv'
  have so':s'.heap.SetOf (F8 prog w) S (λq=>(met val i).any (λy=>decide (y=q))) (met val i).length:=by
   obtain⟨o,es,ep,t,ho,more⟩:=so;exact⟨o,es,ep,t,mv.heap S _ nw ho,more⟩
  refine A2 (m:=Q3 [v] (setAdd S v)) (K5 ?_);unfold setAdd;refine K5 (A2 ((F8 prog w).pyHash (k:=val i) kv ?_));have rm:(met val i).length+1<scanBound:=by have:=LY val i;ext
  refine wpAny_setAddHashed_of (knd:=F8 prog w) (s:={ s' with toks:=s'.toks+1 }) kv sc so' rm λh' sb so2=>?_
  have so3:h'.SetOf (F8 prog w) S (λq=>(met val (i+1)).any (λy=>decide (y=q))) (met val (i+1)).length:=by
   have e1:(λq=>(met val i).any (λy=>decide (y=q))||decide (q=val i))=λq=>(met val (i+1)).any (λy=>decide (y=q)):=funext λq=>(Rm val i q).symm;rw[Ro,<- e1];exact so2
  refine A9 ⟨k5 Ae _,ih (i+1) _ 0x0 lt (Wk.frame _ s' _ _ st' (z0 _) λb hb o e=>?_) so3 λs2 mv2 so4=>?_⟩
  ·rw[sb.2 b (λz:b=S=>nf (by rw[<- z];exact hb))];exact e
  ·refine fin s2 (Moved.trans Wk.gtrans ((mv.mono sub).then_heap (z0 _) λb o hb e=>?_) mv2) so4;rw[sb.2 b (λz:b=S=>hb (by rw[z];exact B8))];exact e
end
section
variable {prog:C3}{w:B9}{A:D0}{E:A3->A4->Prop}{s:A4}
def Rq:isSubtype (.type "tuple") (.type "set")=pure false:=by rw[j7] <;> kernel_rfl
def Rr:isSubtype (.type "tuple") (.type "frozenset")=pure false:=by rw[j7] <;> kernel_rfl
def Rs:isSubtype (.type "list") (.type "set")=pure false:=by rw[j7] <;> kernel_rfl
def Rt:isSubtype (.type "list") (.type "frozenset")=pure false:=by rw[j7] <;> kernel_rfl
def Ru (x:A3){Q₁:A3->A4->Prop}
   (h:∀led:Bool,led=(!(w.params.followText "set-order"))->Q₁ (.ref s.heap.objs.size) { s with heap:=s.heap.push { cls:=.type "set",dict:=none,data:=.set #[] 0 (.fresh 0 0 led) } }) :
   M1 (A7 prog w) A (.call (.builtin "set.__new__") ⟨[.type "set",x],[]⟩) (wants Q₁ E) s:=by
 refine DF (show A5 (A7 prog w) A.in1 (checkBuiltinCall "set.__new__" ⟨[.type "set",x],[]⟩>>=λ_=>again (.builtin "set.__new__" ⟨[.type "set",x],[]⟩)) _ _ s from ?_);refine A2 (P0 (F.newCall_set_1 x) (A9 ⟨k5 F.plain_set_new _,Z9 F.entry_set_new ?_⟩));rw[o6 F.plain_set_new _];unfold M7.«set.__new__» Builtin.Frozenset.newClass;have ss:=sub_set_self;obtain⟨hp,gs,dr,tk,sy⟩:=s;dsimp only
 wp_walk
 refine Dz (A9 ?_);dsimp only;unfold newObj;refine A2 (wpAny_alloc (A9 (A9 (h _ ?_))))
 first|rfl|simp
abbrev soN (led:Bool):Obj:={ cls:=.type "set",dict:=none,data:=.set #[] 0 (.fresh 0 0 led) }
def LZ {a:A1}{jf:Array A3}{Z:B3->Prop}{Q:A3->A4->Prop}(hd:A.handled=none)(ht:s.heap.IsList a jf\/s.heap.IsTuple a jf)
   (lp:∀(I:A1) (St:Nat->A4->Prop) (fp:List A1) (G:Array GenState->Array GenState->Prop) (s1:A4) (R:Result->A4->Prop) (led:Bool),led=(!(w.params.followText "set-order"))->s.heap.objs.size<I->
     WalksS prog w A.in1.in1.in1 I fp [I] G jf.size (λi v=>jf[i]?=some v) St->s.heap.objs.size∉fp->St 0 s1->s1.heap.get? s.heap.objs.size=some (soN led)->(∀b o,s.heap.get? b=some o->s1.heap.get? b=some o)->
     (∀s',Moved [s.heap.objs.size,I] G s1 s'->Z s'.heap->R (.ok (.ret .none)) s')->M1 (A7 prog w) A.in1.in1 (.builtin "set.update.loop" ⟨[.ref s.heap.objs.size,.ref I],[]⟩) R s1)
   (fin:∀(h':B3) (tk:Nat),Z h'->(∀b o,b<s.heap.objs.size->s.heap.get? b=some o->h'.get? b=some o)->Q (.ref s.heap.objs.size) { s with heap:=h',toks:=tk }):A5 (A7 prog w) A (call (.type "set") [.ref a]) Q E s:=by
 obtain⟨c,tl,mr⟩:=PySem.F.called_set.mro;have md:=PySem.F.called_set.made;have sb:=PySem.F.called_set.sub;refine wpAny_call (DF (show A5 (A7 prog w) _ (callAny (.type "set") _) _ _ s from ?_));refine A9 ⟨Code.quiet_builtin _ (by decide +kernel),Z9 PySem.F.entry_type_call ?_⟩;rw[Around.under_plain (weight_type_call_type "set" [.ref a] []) rfl];have x1:=PySem.F.called_set.notType;have x2:=PySem.F.called_set.canCreate;have x3:=PySem.F.typeCall_set_1 (.ref a)
 repeat (any_goals (first|wp_step|assumption))
 refine w9 (Ru (.ref a) (E:=E) (Q₁:=λob s₁=>∃led:Bool,led=(!(w.params.followText "set-order"))/\ob=.ref s.heap.objs.size/\s₁={ s with heap:=s.heap.push (soN led) }) λled hl=>⟨led,hl,rfl,rfl⟩) λr s₁ hr=>?_;cases r with
 |error e=>exact hr
 | ok fl =>
  cases fl with
  | ret ob =>
   obtain⟨led,hled,rfl,rfl⟩:=hr;have g0:(s.heap.push (soN led)).get? s.heap.objs.size=some (soN led):=E7 _ rfl;have ty:Shared.TypeIs { s with heap:=s.heap.push (soN led) } (.ref s.heap.objs.size) "set":=⟨_,g0,rfl⟩;have y1:=PySem.F.called_set.init.lookup;have y2:=PySem.F.called_set.init.bind (.ref s.heap.objs.size)
   repeat (any_goals (first|wp_step|assumption))
   refine w9 (codeAny_call_builtin (R:=wants (λr s₂=>r=.none/\∃h' tk,s₂={ s with heap:=h',toks:=tk }/\Z h'/\
       (∀b o,b<s.heap.objs.size->s.heap.get? b=some o->h'.get? b=some o)) E) PySem.F.called_set.init.plain PySem.F.entry_set_init (PySem.check_set_init_1 ty ?_)) λr₂ s₂ hr₂=>?_
   ·clear fin;have h3:A.in1.in1.in1.handled=none:=by simp[hd]
    unfold M7.«set.__init__» noKeywords Builtin.Frozenset.updateFrom;generalize hP:pyIter=PI;rcases ht with⟨⟨oc,od,odt,os⟩,ho,hc,nl,hdl⟩|⟨⟨oc,od,odt,os⟩,ho,hc,nl,hdl⟩ <;>
    ·cases hc;cases hdl;have ho':=B7 (soN led) ho;have z1:=Rs;have z2:=Rt;have z3:(G9 "list" == G9 "dict")=false:=0b0
     have z4:=Rq;have z5:=Rr;have z6:(G9 "tuple" == G9 "dict")=false:=0b0
     wp_walk
     subst hP;have la:a<s.heap.objs.size:=C4 ho;have n1:a≠(s.heap.push (soN led)).objs.size:=by rw[W3];exact E6 (AU la)
     have lI:s.heap.objs.size<(s.heap.push (soN led)).objs.size:=by rw[W3];exact Nat.lt_succ_self _
     have n2:s.heap.objs.size∉[(s.heap.push (soN led)).objs.size,a]:=λz=>by
      rcases B5.mp z with z|z
      ·exact E6 lI z
      ·exact y9 la (E8.mp z)
     have en:∀{s1 s':A4} {G},Moved [s.heap.objs.size,(s.heap.push (soN led)).objs.size] G s1 s'->Z s'.heap->s1.gens=s.gens->s1.drawn=s.drawn->s1.os=s.os->(∀b o,s.heap.get? b=some o->s1.heap.get? b=some o)->(∀x y,G x y->y=x)->∃h' tk,s'={ s with heap:=h',toks:=tk }/\Z h'/\(∀b o,b<s.heap.objs.size->s.heap.get? b=some o->h'.get? b=some o):=by
      intro s1 s' G mv zz e1 e2 e3 kp hG;obtain⟨h',g',d',tk',os'⟩:=s';obtain rfl:g'=s.gens:=(hG _ _ mv.gens).trans e1;obtain rfl:d'=s.drawn:=mv.drawn.trans e2;obtain rfl:os'=s.os:=mv.os.trans e3;refine⟨h',tk',rfl,zz,λb o hb e=>mv.heap b o (λz=>?_) (kp _ _ e)⟩;rcases B5.mp z with z|z
      ·exact E6 hb z
      ·exact E6 (y8 hb lI) (E8.mp z)
     first
       | (refine AK ⟨_,ho',rfl,nl,rfl⟩ (A2 (wpAny_runValue ?_))
          refine lp _ _ _ _ _ _ led hled lI ((Walks.list h3 _ a n1 jf).toS) n2 ⟨⟨_,E7 _ rfl,rfl,rfl⟩,⟨_,B7 _ ho',rfl,nl,rfl⟩⟩ (B7 _ g0) (λb o e=>B7 _ (B7 _ e)) λs' mv zz=>A9 (A9 ⟨rfl,?_⟩))
       | (refine AI ⟨_,ho',rfl,nl,rfl⟩ (A2 (wpAny_runValue ?_))
          refine lp _ _ _ _ _ _ led hled lI ((Walks.tuple h3 _ a n1 jf).toS) n2 ⟨⟨_,E7 _ rfl,rfl,rfl⟩,⟨_,B7 _ ho',rfl,nl,rfl⟩⟩ (B7 _ g0) (λb o e=>B7 _ (B7 _ e)) λs' mv zz=>A9 (A9 ⟨rfl,?_⟩))
     exact en mv zz rfl rfl rfl (λb o e=>B7 _ (B7 _ e)) λ_ _ e=>e
   ·cases r₂ with
    |error e=>exact hr₂
    | ok fl₂ =>
     cases fl₂ with
     | ret r =>
      obtain⟨rfl,h',tk,rfl,so',kp⟩:=hr₂
      repeat (any_goals (first|wp_step|assumption))
      exact fin _ _ so' kp
     |_=>exact hr₂.elim
  |_=>exact hr.elim
def set_of {h:B3}{S:A1}{val:Nat->Key}{led:Bool}(g1:h.get? S=some (soN led)):h.SetOf (F8 prog w) S (λq=>(met val 0).any (λy=>decide (y=q))) (met val 0).length:=by
 refine⟨soN led,#[],0,.fresh 0 0 led,g1,⟨rfl,rfl,rfl⟩,rfl,λe he=>(nomatch he),λk=>⟨λz=>(nomatch z),λ⟨e,he,_⟩=>(nomatch he)⟩,0b0,?_,rfl⟩;cases led <;> decide
def Rv {a:A1}{jf:Array A3}{val:Nat->Key}{Q:A3->A4->Prop}(hd:A.handled=none)(ht:s.heap.IsList a jf\/s.heap.IsTuple a jf)(hv:∀(i:Nat) (v:A3),jf[i]?=some v->(F8 prog w).is (val i) v=true/\v.scannable=true)(room:jf.size+1<scanBound)
   (fin:∀(h':B3) (tk:Nat),h'.SetOf (F8 prog w) s.heap.objs.size (λq=>(met val jf.size).any (λy=>decide (y=q))) (met val jf.size).length->
     (∀b o,b<s.heap.objs.size->s.heap.get? b=some o->h'.get? b=some o)->Q (.ref s.heap.objs.size) { s with heap:=h',toks:=tk }):A5 (A7 prog w) A (call (.type "set") [.ref a]) Q E s:=
 LZ hd ht (λI St fp G s1 R led _ _ Wk nf h0 g1 _ k=>Rp Wk _ nf val hv room (jf.size-0) 0 s1 rfl (F7 _) h0 (set_of g1) k) fin
end
noncomputable def K4 (ys:List Str)(i:Nat):Key:=D1 (ys.getD i (A6 ""))
def SetX (X:Cx)(p:A1)(S:Key->Bool)(n:Nat):HO:=.ext λh=>h.SetOf (F8 X.prog X.w) p S n
def Rw {ys:List Str}{us:List A3}(r:Vals (ys.map V.str) us){i:Nat}{u:A3}(h:us[i]?=some u):∃t,u=.str (ys.getD i (A6 "")) t:=by
 obtain⟨hi,e⟩:=D3.mp h;obtain⟨x,ex,rx⟩:=r.getE hi;rw[D4] at ex;cases ey:ys[i]? with
 |none=>rw[ey] at ex;cases ex
 | some y =>
  rw[ey] at ex;cases ex;obtain⟨t,et⟩:=rx;refine⟨t,?_⟩;rw[<- e,et,List.getD,ey]
  rfl
section
variable {X:Cx}
def Rx:K3 X (.builtin "len") (λvs H Q=>∃p S n,vs=[.ref p]/\H p=some (SetX X p S n)/\Q (.int n) H):=by
 intro jb s σ H vs us Q I rv h;obtain⟨p,S,n,rfl,e,q⟩:=h;obtain⟨u,rfl,ru⟩:=rv.one;obtain rfl:u=.ref p:=ru;obtain⟨so,_,_⟩:=I.hok p _ e;obtain⟨o,es,ep,t,ho,hex,hd,_,_,hb,hf,hn⟩:=so;refine call_len_set ho hex hd hf (by unfold scanBound at hb;omega) ⟨.int n,H,I.tok _,⟨_,by rw[hn]⟩,q⟩
end
end L2
end
section
namespace Pu
open PySem PySem.Spec L2
def L_ (x:Str)(l u:Option Int):T3 x l u=Eb x l u:=rfl
def Ry (x:Str){p:Nat}(h:p<=x.length):(T3 x none (some (p:Int))).cps.toList=x.cps.toList.take p:=by
 rw[L_]
 have e:Eb x none (some (p:Int))=Eb x (some ((0:Nat):Int)) (some (p:Int)):=by
  unfold Eb;rw[StrLaws.sliceIdx_none_lo];rfl
 rw[e,StrLaws.sliceText_nat x (F7 _) h];simp
def Ltr (c:Nat):Prop:=97<=c/\c<=122
def L8 (z:Str):Prop:=1<=z.cps.toList.length/\z.cps.toList.length<=8/\∀c∈z.cps.toList,Ltr c
abbrev LETS:Str:=A6 "abcdefghijklmnopqrstuvwxyz"
def Rz:LETS.cps.toList=(C2 26).map (97 + ·):=by decide +kernel
def Ma:LETS.length=26:=by decide +kernel
def Mb {d:Int}(d0:0<=d)(d1:d<26):atI LETS.cps.toList d=some (97+d.toNat):=by
 obtain⟨x,e1,e2⟩:=Ek (xs:=LETS.cps.toList) d0 (by rw[<- Z2,Ma];exact d1);rw[e2,<- e1,Rz,D4,List.getElem?_range 0x0]
 rfl
def RA {α:Type}{zs:List α}(h:zs.Nodup){z:α}(hz:z∉zs)(j:Nat):(zs.set j z).Nodup:=by
 refine Y3.mpr λa b ha hb hab=>?_;rw[K7] at ha hb;rw[List.getElem_set,List.getElem_set]
 split
 ·split
  ·ext
  ·intro e;exact hz (e▸y0 hb)
 ·split
  ·intro e;exact hz (e▸y0 ha)
  ·exact Y3.mp h a b ha hb hab
end Pu
end
section
namespace L2
open PySem PySem.Spec PyProof.Rows
def ItB (b:Bool)(h:B3)(it l:A1)(i:Nat):Prop:=match b with|true=>h.IsListIter it l i|false=>h.IsTupleIter it l i
def SeB (b:Bool)(h:B3)(l:A1)(items:Array A3):Prop:=match b with|true=>h.IsList l items|false=>h.IsTuple l items
theorem ItB.at {b:Bool}{h h':B3}{it l:A1}{i:Nat}(x:ItB b h it l i)(e:∀o,h.get? it=some o->h'.get? it=some o):ItB b h' it l i:=by
 cases b with
 |true=>exact(show h.IsListIter it l i from x).at e
 |false=>exact(show h.IsTupleIter it l i from x).at e
theorem SeB.at (x:SeB b h l items)(e:∀o,h.get? l=some o->h'.get? l=some o):SeB b h' l items:=by
 cases b with
 |true=>exact(show h.IsList l items from x).at e
 |false=>exact(show h.IsTuple l items from x).at e
def ItB.obj (x:ItB b h it l i):∃o,h.get? it=some o/\(o.cls=.type "list_iterator"\/o.cls=.type "tuple_iterator")/\∀v,o.data≠.cell v:=by
 cases b with
 |true=>obtain⟨o,e,c,d⟩:=(show h.IsListIter it l i from x);exact⟨o,e,.inl c,λv z=>by rw[d] at z;cases z⟩
 |false=>obtain⟨o,e,c,d⟩:=(show h.IsTupleIter it l i from x);exact⟨o,e,.inr c,λv z=>by rw[d] at z;cases z⟩
def SeB.obj (x:SeB b h l items):∃o,h.get? l=some o/\(o.cls=.type "list"\/o.cls=.type "tuple"):=by
 cases b with
 |true=>obtain⟨o,e,c,d⟩:=(show h.IsList l items from x);exact⟨o,e,.inl c⟩
 |false=>obtain⟨o,e,c,d⟩:=(show h.IsTuple l items from x);exact⟨o,e,.inr c⟩
def ItB.ne (x:ItB b h it l i)(y:SeB b' h a items):a≠it:=λz=>by
 obtain⟨o,e,c,_⟩:=x.obj;obtain⟨o',e',c'⟩:=y.obj;rw[z,e] at e';cases e';rcases c with c|c <;> rcases c' with c'|c' <;> (rw[c] at c';exact absurd c' 0b0)
section
variable {prog:C3}{w:B9}{A:D0}{E:A3->A4->Prop}{s:A4}
def RB (hit:s.heap.IsTupleIter it t i)(ht:s.heap.IsTuple t items)(hx:items[i]?=some x)
   (hQ:∀h',h'.IsTupleIter it t (i+1)->U5 it s.heap h'->Q x { s with heap:=h' }):A5 (A7 prog w) A (Y5 (.ref it)) Q E s:=by
 obtain⟨oi,hoi,hci,hdi⟩:=id hit;obtain⟨ot,hot,_,nt,hdt⟩:=ht;have ty:=hit.typeIs;unfold Y5
 refine A2 (T9 (name:=A6 "__next__") ty DX
   (N9 DX ty F.entry_tuple_iterator_next ?_ (F.args_tuple_iterator_next_1 _)))
 show A5 _ _ (field (.ref it) 0>>=_) _ _ s;refine A2 (L0 hoi hdi (x:=.ref t) rfl ?_);show A5 _ _ (if(K2 t == Q6)=true then _ else _) _ _ s;rw[ju (show ¬((K2 t == Q6)=true) from L3)];show A5 _ _ (field (.ref it) 1>>=_) _ _ s;refine A2 (L0 hoi hdi (x:=.int i 0) rfl ?_);show A5 _ _ (seqItems? (.ref t)>>=_) _ _ s;refine A2 (U2 hot hdt ?_);simp only[T0,hx];refine A2 (j8 hoi hdi 0o0 (A9 ⟨x,rfl,A9 (hQ _ ?_ (V1 ..))⟩));exact⟨_,AN _ hoi (Obj.isFreed_of_fields (DW hdi _)),(Obj.cls_mapFields ..).trans hci,by rw[DW hdi];simp[rawInt]⟩
def RC (hh:A.handled=none)(hit:s.heap.IsTupleIter it t i)(ht:s.heap.IsTuple t items)(hx:items[i]?=none)
   (hE:∀h' e,Heap.ExtBut it s.heap h'->(∃o,h'.get? e=some o/\o.cls=.type "StopIteration")->E (.ref e) { s with heap:=h' }):A5 (A7 prog w) A (Y5 (.ref it)) Q E s:=by
 obtain⟨oi,hoi,hci,hdi⟩:=id hit;obtain⟨ot,hot,_,nt,hdt⟩:=ht;have ty:=hit.typeIs;unfold Y5
 refine A2 (T9 (name:=A6 "__next__") ty DX
   (N9 DX ty F.entry_tuple_iterator_next ?_ (F.args_tuple_iterator_next_1 _)))
 show A5 _ _ (field (.ref it) 0>>=_) _ _ s;refine A2 (L0 hoi hdi (x:=.ref t) rfl ?_);show A5 _ _ (if(K2 t == Q6)=true then _ else _) _ _ s;rw[ju (show ¬((K2 t == Q6)=true) from L3)];show A5 _ _ (field (.ref it) 1>>=_) _ _ s;refine A2 (L0 hoi hdi (x:=.int i 0) rfl ?_);show A5 _ _ (seqItems? (.ref t)>>=_) _ _ s;refine A2 (U2 hot hdt ?_);simp only[T0,hx];refine A2 (X8 (A2 (j8 hoi hdi 0o0 ?_)));show A5 _ _ (newExc (.type "StopIteration") []>>=_) _ _ _;refine A2 ?_;simp only[newExc,newTuple];refine A2 (N7 ?_ (by size_fits));refine A2 (m:=firstArgMember _ _) (P0 (a:=Q6) (by first|rfl|(simp only[firstArgMember];rfl)) ?_);refine N7 ?_ (by size_fits);simp only[raiseNew];refine A2 (wpAny_handled ?_)
 first|rw[show A.in1.handled=none from hh]|rw[hh]
 refine A2 (A9 (wpAny_throw ?_));exact hE _ _ (((V1 ..).extBut.push _).push _) ⟨_,E7 _ rfl,rfl⟩
def EI (hit:ItB b s.heap it t i)(ht:SeB b s.heap t items)(hx:items[i]?=some x)
   (hQ:∀h',ItB b h' it t (i+1)->U5 it s.heap h'->Q x { s with heap:=h' }):A5 (A7 prog w) A (Y5 (.ref it)) Q E s:=by
 cases b with
 |true=>exact wpAny_nextOf_list_item hit ht hx hQ
 |false=>exact RB hit ht hx hQ
def EJ (hh:A.handled=none)(hit:ItB b s.heap it t i)(ht:SeB b s.heap t items)(hx:items[i]?=none)
   (hE:∀h' e,Heap.ExtBut it s.heap h'->(∃o,h'.get? e=some o/\o.cls=.type "StopIteration")->E (.ref e) { s with heap:=h' }):A5 (A7 prog w) A (Y5 (.ref it)) Q E s:=by
 cases b with
 |true=>exact wpAny_nextOf_list_end hh hit ht hx hE
 |false=>exact RC hh hit ht hx hE
def drawsB {b:Bool}(hh:A.handled=none)(it l:A1)(hne:l≠it)(items:Array A3):Draws prog w A it [it,l] items.size (λi v=>items[i]?=some v) (λi h=>ItB b h it l i/\SeB b h l items) where
 live:=λ_ _ st=>let ⟨o,ho,_⟩:=st.1.obj;⟨o,ho⟩
 frame:=λ_ _ _ st hk=>⟨st.1.at λo e=>hk it 0o0 o e,st.2.at λo e=>hk l 0o0 o e⟩
 item:=λi s Q E hi st hQ=>by
  refine EI st.1 st.2 (x:=items[i]) (by simp[hi]) λh' hit' hs'=>?_;exact hQ _ h' s.toks (by simp[hi]) ⟨hit',st.2.at λo e=>hs'.extBut _ o hne e⟩ hs'
 done:=λs Q E st hE=>EJ hh st.1 st.2 0o0 hE
def RD (l:A1)(items:Array A3)(n:Nat)(dct:Option A1)(sl:Array (Option A3)) :
   Meets (M7.«enumerate.__new__» ⟨[.type "enumerate",.ref l],[]⟩) (λ_ R s=>s.heap.get? l=some { cls:=.type "tuple",dict:=dct,data:=.seq items n,slots:=sl }/\
     R (.ok (.ret (.ref (s.heap.push { cls := .type "tuple_iterator", data := .fields #[.ref l, .int 0 0] }).objs.size)))
       { s with heap:=(s.heap.push { cls:=.type "tuple_iterator",data:=.fields #[.ref l,.int 0 0] }).push { cls:=.type "enumerate",data:=.fields #[.none,.bool false,.ref s.heap.objs.size,rawInt 0,.none,.none] } }):=
 .of_wp λprog w A R s hyp=>by
  obtain⟨hp,g,d,tk,os⟩:=s;obtain⟨hl,fin⟩:=hyp;have hsub:=sub_enumerate;have hL:Heap.IsTuple (Shared.heap ⟨hp,g,d,tk,os⟩) l items:=⟨_,hl,rfl,n,rfl⟩
  wp_walk using Ea hl
  refine wpAny_stack_any λst=>A9 ?_
  split
  ·rename_i c _ _ _ _ _;cases(c == G9 "enumerate")
   ·wp_walk using Ea hl,AI hL
    exact⟨_,rfl,fin⟩
   ·wp_walk using Ea hl,AI hL
    exact⟨_,rfl,fin⟩
  ·wp_walk using Ea hl,AI hL
   exact⟨_,rfl,fin⟩
def enumT {l:A1}{items:Array A3}{Q:A3->A4->Prop}(hL:s.heap.IsTuple l items)
   (h:∀h',IsEnum h' (s.heap.objs.size+1) s.heap.objs.size 0 .none->h'.IsTupleIter s.heap.objs.size l 0->(∀b o,s.heap.get? b=some o->h'.get? b=some o)->Q (.ref (s.heap.objs.size+1)) { s with heap:=h' }) :
   A5 (A7 prog w) A (call (.type "enumerate") [.ref l]) Q E s:=by
 obtain⟨⟨c,dct,dt,sl⟩,hl,hc,n,hd⟩:=hL
 replace hc:c=.type "tuple":=hc
 replace hd:dt=.seq items n:=hd
 subst hc hd;refine callType_new F.called_enumerate 0b0 (F.typeCall_enumerate_1 _) (F.newCall_enumerate_1 _) (λobj=>F.args_object_init_2 obj _) F.entry_enumerate_new (RD l items n dct sl) ⟨hl,?_⟩;have hz:(s.heap.push { cls:=.type "tuple_iterator",data:=.fields #[.ref l,.int 0 0] }).objs.size=s.heap.objs.size+1:=W3 ..;show _/\_;rw[hz]
 have he:IsEnum ((s.heap.push { cls:=.type "tuple_iterator",data:=.fields #[.ref l,.int 0 0] }).push { cls:=.type "enumerate",data:=.fields #[.none,.bool false,.ref s.heap.objs.size,rawInt 0,.none,.none] }) (s.heap.objs.size+1) s.heap.objs.size 0 .none:=by
  have:=E7 (s.heap.push { cls:=.type "tuple_iterator",data:=.fields #[.ref l,.int 0 0] }) (o:={ cls:=.type "enumerate",data:=.fields #[.none,.bool false,.ref s.heap.objs.size,rawInt 0,.none,.none] }) rfl;rw[hz] at this;exact this
 exact⟨⟨_,he,rfl⟩,h _ he ⟨_,B7 _ (E7 _ rfl),rfl,rfl⟩ λb o x=>B7 _ (B7 _ x)⟩
def enumB {b:Bool}{l:A1}{items:Array A3}{Q:A3->A4->Prop}(hL:SeB b s.heap l items)
   (h:∀h',IsEnum h' (s.heap.objs.size+1) s.heap.objs.size 0 .none->ItB b h' s.heap.objs.size l 0->(∀b o,s.heap.get? b=some o->h'.get? b=some o)->Q (.ref (s.heap.objs.size+1)) { s with heap:=h' }) :
   A5 (A7 prog w) A (call (.type "enumerate") [.ref l]) Q E s:=by
 cases b with
 |true=>exact call_enumerate_list hL λh' a b _ c=>h h' a b c
 |false=>exact enumT hL h
def RE {b:Bool}{e it l:A1}{j:Nat}{i:Int}{items:Array A3}{old:A3}{Q:Option A3->A4->Prop}(hh:A.handled=none)(he:IsEnum s.heap e it i old)(hit:ItB b s.heap it l j)(ht:SeB b s.heap l items)(hx:items[j]?=none)
   (hQ:∀h',Heap.ExtBut it s.heap h'->Q none { s with heap:=h' }):A5 (A7 prog w) A (pyNext (.ref e)) Q E s:=by
 have ty:s.TypeIs (.ref e) "enumerate":=⟨_,he,rfl⟩;unfold pyNext;refine A2 (w8 (T9 (name:=A6 "__next__") ty F.slot_enumerate_next (N9 F.slot_enumerate_next ty F.entry_enumerate_next ?_ (F.args_enumerate_next_1 _))));show A5 _ _ (field (.ref e) 2>>=_) _ _ _;refine A2 (L0 he rfl (x:=.ref it) rfl ?_);refine A2 (EJ (A:=A.in1) hh hit ht hx λh' x he' hx'=>?_);obtain⟨o,ho,hc⟩:=hx';exact A2 (DA (T:="StopIteration") (b:=true) ⟨o,ho,hc⟩ isSubtype_stop (A9 (hQ _ he')))
end
def SqB (b:Bool)(K:A8)(H:Hp)(a:A1)(xs:List V):Prop:=match b with|true=>SqL K H a xs|false=>SqT K H a xs
section
variable {X:Cx}
def Inv.seqB (I:Inv X jb σ H s)(h:SqB b X.K H a xs):∃jf:List A3,Vals xs jf/\SeB b s.heap a jf.toArray/\xs.length<=B4:=by
 cases b with
 |true=>obtain⟨jf,r,p,z⟩:=I.list h;exact⟨jf,r,p.isList,z⟩
 |false=>obtain⟨jf,r,p,z⟩:=I.tuple h;exact⟨jf,r,p,z⟩
def Inv.seqB_inj (I:Inv X jb σ H s)(h:SqB b X.K H a xs)(h':SqB b X.K H a ys):xs=ys:=by
 cases b with
 |true=>exact I.list_inj h h'
 |false=>exact I.tuple_inj h h'
def IteB (b:Bool)(K:A8)(a:A1):It:=
 ⟨λi H=>∃xs x,SqB b K H a xs/\xs[i]?=some x,λi H x H'=>∃p v,H p=none/\x=.ref p/\H'=upd H p (.tup [.int i,v])/\∀xs,SqB b K H a xs->xs[i]?=some v,λi H=>∃xs,SqB b K H a xs/\xs.length<=i⟩
def RF {b:Bool}{P:C3}{w:B9}{K:A8}{elts:List Expr}{x1}{pos:Pos}(a e it:A1)(hne:e≠it) :
   Turn P w K (.Tuple elts x1 pos) (IteB b K a) [e,it] e (λi h=>(∃old,IsEnum h e it i old)/\ItB b h it a i) where
 mem:=0o0
 obj:=λi h st c hc=>by
  obtain⟨⟨old,he⟩,st⟩:=st;obtain⟨o,e1,_,d⟩:=st.obj;have hc':c=e\/c=it:=by simpa using hc
  rcases hc' with rfl|rfl
  ·exact⟨_,he,λv z=>by cases z⟩
  ·exact⟨o,e1,d⟩
 keep:=λi h h' st k=>by
  obtain⟨⟨old,he⟩,st⟩:=st;exact⟨⟨old,k e 0o0 _ he⟩,st.at λo e=>k it 0o0 o e⟩
 item:=by
  intro X hP hw hK hc i jb s σ H E I hf st hg;subst hP hw hK;obtain⟨⟨old,he⟩,st⟩:=st;obtain⟨xs,x,hq,hx⟩:=hg;obtain⟨jf,rv,p,hz⟩:=I.seqB hq;obtain⟨u,hu,ru⟩:=rv.get hx;have nla:a≠it:=st.ne p
  have nea:e≠a:=λz=>by
   obtain⟨o,e1,c1⟩:=p.obj;rw[<- z,he] at e1;cases e1;rcases c1 with c1|c1
   ·exact absurd (show G9 "enumerate"=G9 "list" from c1) 0b0
   ·exact absurd (show G9 "enumerate"=G9 "tuple" from c1) 0b0
  have hi:i<jf.toArray.size:=by
   obtain⟨h1,_⟩:=D3.mp hu
   simpa using h1
  refine wpAny_pyNext_enum_itemD (drawsB (A:=X.A.in1) (I.ok.hd hc) it a nla jf.toArray) he ⟨st,p⟩ hi hne (by simp[hne,nea]) λy h' tk hy he' st' ht hz' k=>?_
  have ey:y=u:=by
   have:jf[i]?=some y:=by simpa using hy
   rw[hu] at this;exact(L4 this).symm
  subst ey;refine⟨_,rfl,wpAny_letOwnedTupleGo_enum (s:={ s with heap:=h',toks:=tk+1 }) he' λh'' he'' sb=>?_⟩;have hpe:s.heap.objs.size≠e:=y9 (C4 he);have ht'':h''.get? s.heap.objs.size=some { cls:=.type "tuple",data:=.seq #[.int i tk,y] }:=(sb.2 _ hpe).trans ht
  have k':∀c o,c∉[e,it]->s.heap.get? c=some o->h''.get? c=some o:=λc o hb q=>by
   have hb1:c≠e:=λz=>hb (by simp[z]);have hb2:c≠it:=λz=>hb (by simp[z]);exact(sb.2 c hb1).trans (k c o hb1 hb2 q)
  have I1:Inv X jb σ (upd H s.heap.objs.size (.tup [.int i,x])) { s with heap:=h'',toks:=tk+1 }:=
   I.turnedNew k' hf ⟨by show 2<=B4;decide,[.int i tk,y],.cons ⟨_,rfl⟩ (.cons ru .nil),⟨_,ht'',rfl,_,rfl⟩⟩
  refine⟨.ref s.heap.objs.size,_,I1,rfl,⟨_,x,I.fresh,rfl,rfl,λys hy=>by rw[I.seqB_inj hy hq];exact hx⟩,⟨⟨y,he''⟩,st'.1.at λo q=>(sb.2 it (Ne.symm hne)).trans q⟩,λc hb=>?_⟩;have hb':c=e\/c=it:=by simpa using hb
  have hbs:c≠s.heap.objs.size:=by
   rcases hb' with rfl|rfl
   ·exact Ne.symm hpe
   ·obtain⟨o,e1,_⟩:=st.obj;exact E6 (C4 e1)
  rw[C8 hbs];exact(hf c hb).1
 done:=by
  intro X hP hw hK hc i jb s σ H E I hf st hg;subst hP hw hK;obtain⟨⟨old,he⟩,st⟩:=st;obtain⟨xs,hq,hx⟩:=hg;obtain⟨jf,rv,p,hz⟩:=I.seqB hq;obtain⟨f0,f1,f2,f3,f4,f5⟩:=hf it 0o0;have hl:=rv.length;refine RE (I.ok.hd hc) he st p (DO (by rw[E9];ext)) λh' eb=>⟨rfl,I.turned (t':=s.toks) (λc o hb e=>eb c o hb e) f0 f1 f3 f4 f5⟩
 self:=λ_ _ _ _ _ st h=>by
  obtain⟨⟨old,he⟩,_⟩:=st;exact wpAny_pyIter_enum he h
def iEnumB (b:Bool)(K:A8)(ta:TA):TI:=λσ H R=>ta σ H λvs H1=>∃a,vs=[.ref a]/\(∃xs,SqB b K H1 a xs)/\R (IteB b K a) H1
def RG (b:Bool){l:Expr}{ta:TA}{p pos:Pos}{elts:List Expr}{x1}{tpos:Pos}(hg:Gl X "enumerate")(hm:X.mg "enumerate"=none)(ha:PA X [l] ta)(hs:D6 [l] X.env=[(false,eval l X.env)]:=by rfl) :
   PI X (.Tuple elts x1 tpos) (.Call (.Name "enumerate" p) [l] [] pos) (iEnumB b X.K ta):=by
 intro jb s σ H R I h;refine Call_ (Y8 I hg hm boot_enumerate (l8 (thn (ha pos jb s σ H _ I h) λus s1 ⟨vs,H1,I1,r1,q1⟩=>?_) hs rfl));obtain⟨a,e,⟨xs,hq⟩,q⟩:=q1;subst e;obtain⟨u,rfl,ru⟩:=r1.one;obtain rfl:u=K2 a:=ru;obtain⟨jf,rv,pl,hz⟩:=I1.seqB hq;refine enumB pl λh' hE hI hk=>?_;refine wpAny_pyIter_enum hE ?_;have I2:Inv X jb σ H1 { s1 with heap:=h' }:=I1.kept (t':=s1.toks) hk;refine⟨s1.heap.objs.size+1,[s1.heap.objs.size+1,s1.heap.objs.size],_,_,H1,rfl,I2,RF a _ _ (Nat.succ_ne_self _),⟨⟨_,hE⟩,hI⟩,λc hb=>?_,q⟩;have hb':c=s1.heap.objs.size+1\/c=s1.heap.objs.size:=by simpa using hb
 rcases hb' with rfl|rfl
 ·exact I1.fpOk (z0 _) (I1.hok.fresh (z0 _))
 ·exact I1.fpOk (B2 _) (I1.hok.fresh (B2 _))
end
section
variable {prog:C3}{w:B9}{A:D0}{E:A3->A4->Prop}{s:A4}
structure ZAp (z TI TO i1 i2:A1):Prop where
 a1:TI≠z
 a2:TO≠z
 a3:i1≠z
 a4:i2≠z
 a5:TI≠TO
 a6:TI≠i1
 a7:TI≠i2
 a8:TO≠i1
 a9:TO≠i2
 a10:i1≠i2
def RH {z TI TO i1 i2 l1 l2:A1}{Q:A3->A4->Prop}(D:ZAp z TI TO i1 i2)(m1:l1≠z)(m2:l2≠z)(m3:l1≠TO)(m4:l2≠TO)(m5:l1≠i1)(m6:l2≠i1)
   (hz:IsZip s.heap z TI TO .none) (hTI:IsPair s.heap TI (.ref i1) (.ref i2)) (hTO:IsPair s.heap TO a b) (h1:ItB b1 s.heap i1 l1 k) (h2:ItB b2 s.heap i2 l2 k) (hl1:SeB b1 s.heap l1 xs) (hl2:SeB b2 s.heap l2 ys) (hx:xs[k]?=some x) (hy:ys[k]?=some y)
   (hQ:∀h',IsZip h' z TI TO (rawInt s.heap.objs.size)->IsPair h' TO x y->ItB b1 h' i1 l1 (k+1)->ItB b2 h' i2 l2 (k+1)->IsPair h' s.heap.objs.size x y->
     (∀c o,c≠z->c≠TO->c≠i1->c≠i2->s.heap.get? c=some o->h'.get? c=some o)->Q (.ref s.heap.objs.size) { s with heap:=h' }) :
   A5 (A7 prog w) A (M7.«zip.__next__» ⟨[.ref z],[]⟩) (λfin s'=>∃v,fin=.done (.ret v)/\Q v s') E s:=by
 show A5 _ _ (field (.ref z) 2>>=_) _ _ _;refine A2 (L0 hz rfl (x:=.bool false) rfl ?_);show A5 _ _ (field (.ref z) 3>>=_) _ _ _;refine A2 (L0 hz rfl (x:=.ref TI) rfl (A2 (U2 hTI rfl ?_)));show A5 _ _ (DQ (.ref z)>>=_) _ _ _;refine A2 ?_;unfold DQ;refine A2 (L0 hz rfl (x:=.none) rfl (A9 ?_));simp only[if_true];refine A2 (X8 (A2 (L0 hz rfl (x:=.ref TO) rfl (A2 (AJ hz 0o0 λg1 z1 s1=>?_)))))
 replace z1:IsZip g1 z TI TO .ellipsis:=z1
 refine A2 ?_;simp only[List.zipIdx_cons,List.zipIdx_nil,List.forIn_cons,List.forIn_nil];refine A2 (A2 (wpAny_onRaise ?_));show A5 _ _ (Y5 (.ref i1)>>=_) _ _ _;refine A2 (EI (s:={ s with heap:=g1 }) (h1.at λo e=>s1.extBut _ o D.a3 e) (hl1.at λo e=>s1.extBut _ o m1 e) hx λg2 j2 s2=>A9 ?_);have t2:IsPair g2 TO a b:=s2.extBut _ _ D.a8 (s1.extBut _ _ D.a2 hTO);refine A2 (U2 t2 rfl (A2 (wpAny_updateSeq_pair (s:={ s with heap:=g2 }) t2 λg3 t3 s3=>A2 (wpAny_letGo (A9 ?_)))))
 replace t3:IsPair g3 TO x b:=t3
 refine A2 (A2 (wpAny_onRaise ?_));show A5 _ _ (Y5 (.ref i2)>>=_) _ _ _;have up3:∀c o,c≠z->c≠i1->c≠TO->s.heap.get? c=some o->g3.get? c=some o:=λc o c1 c2 c3 e=>s3.extBut _ o c3 (s2.extBut _ o c2 (s1.extBut _ o c1 e));refine A2 (EI (s:={ s with heap:=g3 }) (h2.at λo e=>up3 _ o D.a4 D.a10.symm D.a9.symm e) (hl2.at λo e=>up3 _ o m2 m6 m4 e) hy λg4 j4 s4=>A9 ?_);have t4:IsPair g4 TO x b:=s4.extBut _ _ D.a9 t3;refine A2 (U2 t4 rfl (A2 (wpAny_updateSeq_pair (s:={ s with heap:=g4 }) t4 λg5 t5 s5=>A2 (wpAny_letGo (A9 (A9 ?_))))))
 replace t5:IsPair g5 TO x y:=t5
 refine A2 (U2 t5 rfl (A2 (wpAny_newTuple ?_)));have hsz:g5.objs.size=s.heap.objs.size:=by rw[s5.1,s4.1,s3.1,s2.1,s1.1]
 have z5:IsZip g5 z TI TO .ellipsis:=s5.extBut _ _ D.a2.symm (s4.extBut _ _ D.a4.symm (s3.extBut _ _ D.a2.symm (s2.extBut _ _ D.a3.symm z1)));have up5:∀c o,c≠z->c≠TO->c≠i1->c≠i2->s.heap.get? c=some o->g5.get? c=some o:=λc o c1 c2 c3 c4 e=>s5.extBut _ _ c2 (s4.extBut _ _ c4 (up3 c o c1 c3 c2 e));have j1:ItB b1 g5 i1 l1 (k+1):=j2.at λo e=>s5.extBut _ o D.a8.symm (s4.extBut _ o D.a10 (s3.extBut _ o D.a8.symm e));have j5:ItB b2 g5 i2 l2 (k+1):=j4.at λo e=>s5.extBut _ o D.a9.symm e;have zlt:z<g5.objs.size:=C4 z5;show A5 _ _ (JU (.ref z) (.ref g5.objs.size)>>=_) _ _ _;refine A2 ?_;unfold JU;have z6:IsZip (g5.push { cls:=.type "tuple",data:=.seq #[x,y] }) z TI TO .ellipsis:=B7 _ z5;refine A2 (AJ z6 0o0 λg7 z7 s7=>?_)
 replace z7:IsZip g7 z TI TO (rawInt g5.objs.size):=z7
 refine AJ z7 0o0 λg8 z8 s8=>?_
 replace z8:IsZip g8 z TI TO (rawInt g5.objs.size):=z8
 have up8:∀c o,c≠z->g5.get? c=some o->g8.get? c=some o:=λc o c1 e=>s8.extBut _ _ c1 (s7.extBut _ _ c1 (B7 _ e));have t8:IsPair g8 g5.objs.size x y:=s8.extBut _ _ (y9 zlt) (s7.extBut _ _ (y9 zlt) (E7 _ rfl));rw[hsz] at z8 t8;refine A9 ⟨_,rfl,?_⟩;show Q (.ref g5.objs.size) _;rw[hsz];exact hQ g8 z8 (up8 _ _ D.a2 t5) (j1.at λo e=>up8 _ o D.a3 e) (j5.at λo e=>up8 _ o D.a4 e) t8 λc o c1 c2 c3 c4 e=>up8 c o c1 (up5 c o c1 c2 c3 c4 e)
def zipEnd {z TI TO i1 i2 l1 l2:A1}(hh:A.handled=none)(D:ZAp z TI TO i1 i2)(m1:l1≠z)(m2:l2≠z)(m3:l1≠TO)(m4:l2≠TO)(m5:l1≠i1)(m6:l2≠i1)
   (hz:IsZip s.heap z TI TO .none) (hTI:IsPair s.heap TI (.ref i1) (.ref i2)) (hTO:IsPair s.heap TO a b) (h1:ItB b1 s.heap i1 l1 k) (h2:ItB b2 s.heap i2 l2 k) (hl1:SeB b1 s.heap l1 xs) (hl2:SeB b2 s.heap l2 ys) (hend:xs[k]?=none\/ys[k]?=none)
   (hE:∀h' e,(∀c o,c≠z->c≠TO->c≠i1->c≠i2->s.heap.get? c=some o->h'.get? c=some o)->(∃o,h'.get? e=some o/\o.cls=.type "StopIteration")->E (.ref e) { s with heap:=h' }) :
   A5 (A7 prog w) A (M7.«zip.__next__» ⟨[.ref z],[]⟩) Q E s:=by
 show A5 _ _ (field (.ref z) 2>>=_) _ _ _;refine A2 (L0 hz rfl (x:=.bool false) rfl ?_);show A5 _ _ (field (.ref z) 3>>=_) _ _ _;refine A2 (L0 hz rfl (x:=.ref TI) rfl (A2 (U2 hTI rfl ?_)));show A5 _ _ (DQ (.ref z)>>=_) _ _ _;refine A2 ?_;unfold DQ;refine A2 (L0 hz rfl (x:=.none) rfl (A9 ?_));simp only[if_true];refine A2 (X8 (A2 (L0 hz rfl (x:=.ref TO) rfl (A2 (AJ hz 0o0 λg1 z1 s1=>?_)))))
 replace z1:IsZip g1 z TI TO .ellipsis:=z1
 refine A2 ?_;simp only[List.zipIdx_cons,List.zipIdx_nil,List.forIn_cons,List.forIn_nil];refine A2 (A2 (wpAny_onRaise ?_));show A5 _ _ (Y5 (.ref i1)>>=_) _ _ _;have h1':ItB b1 g1 i1 l1 k:=h1.at λo e=>s1.extBut _ o D.a3 e;have hl1':SeB b1 g1 l1 xs:=hl1.at λo e=>s1.extBut _ o m1 e
 have nz:∀{g:B3} {e:A1} {o:Obj},IsZip g z TI TO .ellipsis->g.get? e=some o->o.cls=.type "StopIteration"->e≠z:=λ{g e o} hz ho hc x=>by
  subst x;rw[hz] at ho;cases ho;exact absurd (show G9 "zip"=G9 "StopIteration" from hc) 0b0
 cases hx:xs[k]? with
 | none =>
  refine A2 (EJ (s:={ s with heap:=g1 }) hh h1' hl1' hx λg2 e s2 ⟨oe,hoe,hce⟩=>?_);have z2:IsZip g2 z TI TO .ellipsis:=s2 _ _ D.a3.symm z1;exact AJ z2 0o0 λg3 _ s3=>hE g3 e (λc o c1 _ c3 _ x=>s3.extBut _ _ c1 (s2 _ _ c3 (s1.extBut _ _ c1 x))) ⟨oe,s3.extBut _ _ (nz z2 hoe hce) hoe,hce⟩
 | some x =>
  have hy:ys[k]?=none:=hend.elim (λh=>by rw[hx] at h;cases h) id;refine A2 (EI (s:={ s with heap:=g1 }) h1' hl1' hx λg2 j2 s2=>A9 ?_);have t2:IsPair g2 TO a b:=s2.extBut _ _ D.a8 (s1.extBut _ _ D.a2 hTO);refine A2 (U2 t2 rfl (A2 (wpAny_updateSeq_pair (s:={ s with heap:=g2 }) t2 λg3 t3 s3=>A2 (wpAny_letGo (A9 ?_)))));refine A2 (A2 (wpAny_onRaise ?_));show A5 _ _ (Y5 (.ref i2)>>=_) _ _ _;have up3:∀c o,c≠z->c≠i1->c≠TO->s.heap.get? c=some o->g3.get? c=some o:=λc o c1 c2 c3 e=>s3.extBut _ o c3 (s2.extBut _ o c2 (s1.extBut _ o c1 e));refine A2 (EJ (s:={ s with heap:=g3 }) hh (h2.at λo e=>up3 _ o D.a4 D.a10.symm D.a9.symm e) (hl2.at λo e=>up3 _ o m2 m6 m4 e) hy λg4 e s4 ⟨oe,hoe,hce⟩=>?_);have z4:IsZip g4 z TI TO .ellipsis:=s4 _ _ D.a4.symm (s3.extBut _ _ D.a2.symm (s2.extBut _ _ D.a3.symm z1));exact AJ z4 0o0 λg5 _ s5=>hE g5 e (λc o c1 c2 c3 c4 x=>s5.extBut _ _ c1 (s4 _ _ c4 (up3 c o c1 c3 c2 x))) ⟨oe,s5.extBut _ _ (nz z4 hoe hce) hoe,hce⟩
end
noncomputable def itO (b:Bool)(l:A1):Obj:=match b with|true=>{ cls:=.type "list_iterator",data:=.fields #[.ref l,.int 0 0] }|false=>{ cls:=.type "tuple_iterator",data:=.fields #[.ref l,.int 0 0] }
def Mc (b:Bool)(l:A1):(itO b l).isFreed=false:=by cases b <;> rfl
def Md (e:h.get? a=some (itO b l)):ItB b h a l 0:=by
 cases b with
 |true=>exact⟨_,e,rfl,rfl⟩
 |false=>exact⟨_,e,rfl,rfl⟩
def iterO (ht:SeB b s.heap t items)(hQ:Q (.ref s.heap.objs.size) { s with heap:=s.heap.push (itO b t) }):A5 (A7 prog w) A (pyIter (.ref t)) Q E s:=by
 cases b with
 |true=>exact AK ht hQ
 |false=>exact AI ht hQ
abbrev zh2 (h:B3)(b1 b2:Bool)(l1 l2:A1):B3:=(h.push (itO b1 l1)).push (itO b2 l2)
abbrev zh3 (h:B3)(b1 b2:Bool)(l1 l2:A1):B3:=(zh2 h b1 b2 l1 l2).push { cls:=.type "tuple",data:=.seq #[.ref h.objs.size,.ref (h.push (itO b1 l1)).objs.size] }
abbrev zh4 (h:B3)(b1 b2:Bool)(l1 l2:A1):B3:=(zh3 h b1 b2 l1 l2).push { cls:=.type "tuple",data:=.seq #[.none,.none] }
abbrev zh5 (h:B3)(b1 b2:Bool)(l1 l2:A1):B3:=(zh4 h b1 b2 l1 l2).push { cls:=.type "zip",data:=.fields #[.none,.bool false,.bool false,.ref (zh2 h b1 b2 l1 l2).objs.size,.ref (zh3 h b1 b2 l1 l2).objs.size] }
def zipNew (b1 b2:Bool)(l1 l2:A1)(xs ys:Array A3) :
   Meets (M7.«zip.__new__» ⟨[.type "zip",.ref l1,.ref l2],[]⟩) (λ_ R s=>SeB b1 s.heap l1 xs/\SeB b2 s.heap l2 ys/\R (.ok (.ret (.ref (zh4 s.heap b1 b2 l1 l2).objs.size))) { s with heap:=zh5 s.heap b1 b2 l1 l2 }):=
 .of_wp λprog w A R s hyp=>by
  obtain⟨hp,g,d,tk,os⟩:=s;obtain⟨k1,k2,fin⟩:=hyp;have hsub:=sub_zip;have L1:SeB b1 (Shared.heap ⟨hp,g,d,tk,os⟩) l1 xs:=k1;have L2:SeB b2 (Shared.heap ⟨hp.push (itO b1 l1),g,d,tk,os⟩) l2 ys:=k2.at λo e=>B7 _ e
  wp_walk using iterO L1,iterO L2
  exact⟨_,rfl,fin⟩
section
variable {prog:C3}{w:B9}{A:D0}{E:A3->A4->Prop}{s:A4}
def zipB (hl1:SeB b1 s.heap l1 xs)(hl2:SeB b2 s.heap l2 ys)
   (h:∀h',IsZip h' (s.heap.objs.size+4) (s.heap.objs.size+2) (s.heap.objs.size+3) .none->IsPair h' (s.heap.objs.size+2) (.ref s.heap.objs.size) (.ref (s.heap.objs.size+1))->
     IsPair h' (s.heap.objs.size+3) .none .none->ItB b1 h' s.heap.objs.size l1 0->ItB b2 h' (s.heap.objs.size+1) l2 0->(∀c o,s.heap.get? c=some o->h'.get? c=some o)->Q (.ref (s.heap.objs.size+4)) { s with heap:=h' }) :
   A5 (A7 prog w) A (call (.type "zip") [.ref l1,.ref l2]) Q E s:=by
 refine callType_new F.called_zip 0b0 (F.typeCall_zip_2 _ _) (F.newCall_zip_2 _ _) (λobj=>F.args_object_init_3 obj _ _) F.entry_zip_new (zipNew b1 b2 l1 l2 xs ys) ⟨hl1,hl2,?_⟩;have z1:(s.heap.push (itO b1 l1)).objs.size=s.heap.objs.size+1:=W3 ..;have z2:(zh2 s.heap b1 b2 l1 l2).objs.size=s.heap.objs.size+2:=by rw[W3,z1]
 have z3:(zh3 s.heap b1 b2 l1 l2).objs.size=s.heap.objs.size+3:=by rw[W3,z2]
 have z4:(zh4 s.heap b1 b2 l1 l2).objs.size=s.heap.objs.size+4:=by rw[W3,z3]
 have g5:(zh5 s.heap b1 b2 l1 l2).get? (zh4 s.heap b1 b2 l1 l2).objs.size=some _:=E7 _ rfl;have g4:(zh5 s.heap b1 b2 l1 l2).get? (zh3 s.heap b1 b2 l1 l2).objs.size=some _:=B7 _ (E7 _ rfl);have g3:(zh5 s.heap b1 b2 l1 l2).get? (zh2 s.heap b1 b2 l1 l2).objs.size=some _:=B7 _ (B7 _ (E7 _ rfl));have g2:(zh5 s.heap b1 b2 l1 l2).get? (s.heap.push (itO b1 l1)).objs.size=some _:=B7 _ (B7 _ (B7 _ (E7 _ (Mc b2 l2))));have g1:(zh5 s.heap b1 b2 l1 l2).get? s.heap.objs.size=some _:=B7 _ (B7 _ (B7 _ (B7 _ (E7 _ (Mc b1 l1)))));show _/\_;rw[z2,z3,z4] at g5;rw[z1,z2] at g3;rw[z3] at g4;rw[z1] at g2;rw[z4];exact⟨⟨_,g5,rfl⟩,h _ g5 g3 g4 (Md g1) (Md g2) λc o x=>B7 _ (B7 _ (B7 _ (B7 _ (B7 _ x))))⟩
end
section
variable {X:Cx}
def ItzB (b1 b2:Bool)(K:A8)(a c:A1):It:=
 ⟨λi H=>∃xs ys x y,SqB b1 K H a xs/\SqB b2 K H c ys/\xs[i]?=some x/\ys[i]?=some y,
  λi H x H'=>∃p u v,H p=none/\x=.ref p/\H'=upd H p (.tup [u,v])/\(∀xs,SqB b1 K H a xs->xs[i]?=some u)/\∀ys,SqB b2 K H c ys->ys[i]?=some v,
  λi H=>∃xs ys,SqB b1 K H a xs/\SqB b2 K H c ys/\min xs.length ys.length<=i⟩
def EK (p:SeB b h l items)(he:h.get? e=some o)(hc:o.cls=.type n)(h1:n≠"list")(h2:n≠"tuple"):l≠e:=λz=>by
 obtain⟨o',e1,c1⟩:=p.obj;rw[z,he] at e1;cases e1;rw[hc] at c1;rcases c1 with c1|c1
 ·exact h1 (Value.type.inj c1)
 ·exact h2 (Value.type.inj c1)
def EL {l z TI TO i1 i2:A1}(I:Inv X jb σ H s)(hf:∀d∈[z,TI,TO,i1,i2],FpOk X jb H d)(hTO:IsPair s.heap TO p q)(hq:SqB b X.K H l xs):l≠TO:=λzz=>by
 obtain⟨f0,f1,f2,f3,f4,f5⟩:=hf TO 0o0;subst zz;cases b with
 | true =>
  obtain⟨jf,_,pl,_⟩:=I.list hq;obtain⟨o,e,c1,_⟩:=pl.isList;rw[hTO] at e;cases e;exact absurd (show G9 "tuple"=G9 "list" from c1) 0b0
 | false =>
  rcases hq with hq|⟨o,jf,n,hk,hc1,hs,hz,r⟩
  ·rcases hq with e|⟨o,e⟩
   ·rw[f0] at e;cases e
   ·rw[f0] at e;cases e
  ·have eb:X.base.get? l=some o:=I.ok.mod.kin l o hk;rcases f3 with f3|f3
   ·exact I.ok.noex l o eb f3
   ·exact absurd (M2 (C4 eb) (K1 I.ok.bsz f3)) (U9 _)
def Inv.turnedAll {ch:List A1}(I:Inv X jb σ H s)(k:∀b o,b∉ch->s.heap.get? b=some o->h'.get? b=some o)(hf:∀b∈ch,FpOk X jb H b):Inv X jb σ H { s with heap:=h',toks:=t' }:=by
 have nch:∀b u,H b=some u->b∉ch:=λb u e z=>by rw[(hf b z).1] at e;cases e
 refine I.step (g':=s.gens) (d':=s.drawn) (ch:=ch) (λb hb=>⟨(hf b hb).2.2.2.1,(hf b hb).2.1,(hf b hb).2.2.2.2.1,(hf b hb).2.2.2.2.2⟩) (λb o _ _ hc e _=>k b o hc e) (λb o _ _ hc e _=>⟨o.slots,k b o hc e⟩) (λ_ _ _ _ n=>n)
   (λb o hc e=>⟨o,k b o hc e⟩) (λ_ _ e=>e) (λ_ _ _ e=>e) (λb ps e=>⟨#[],by rw[e];simp⟩) (λz=>z) (λm hm=>?_) (λb u e=>?_) I.bare
 ·obtain⟨o,es,ep,ho,r⟩:=hm;exact⟨o,es,ep,k _ o (λz=>(hf _ z).2.1 rfl) ho,r⟩
 ·refine(I.hok b u e).stay (λc v hc q=>k c v ?_ q) (λc q=>q) λc ys q=>q;rcases hc with z|z
  ·rw[z];exact nch b u e
  ·exact nch c _ z
def RI {b1 b2:Bool}{P:C3}{w:B9}{K:A8}{elts:List Expr}{x1}{pos:Pos}(a c z TI TO i1 i2:A1)(D:ZAp z TI TO i1 i2) :
   Turn P w K (.Tuple elts x1 pos) (ItzB b1 b2 K a c) [z,TI,TO,i1,i2] z (λi h=>IsZip h z TI TO .none/\IsPair h TI (.ref i1) (.ref i2)/\(∃p q,IsPair h TO p q)/\ItB b1 h i1 a i/\ItB b2 h i2 c i) where
 mem:=0o0
 obj:=λi h st e he=>by
  obtain⟨hz,h1,⟨p,q,h2⟩,h3,h4⟩:=st;obtain⟨o3,e3,_,d3⟩:=h3.obj;obtain⟨o4,e4,_,d4⟩:=h4.obj;have he':e=z\/e=TI\/e=TO\/e=i1\/e=i2:=by simpa using he
  rcases he' with rfl|rfl|rfl|rfl|rfl
  ·exact⟨_,hz,λv z=>by cases z⟩
  ·exact⟨_,h1,λv z=>by cases z⟩
  ·exact⟨_,h2,λv z=>by cases z⟩
  ·exact⟨_,e3,d3⟩
  ·exact⟨_,e4,d4⟩
 keep:=λi h h' st k=>by
  obtain⟨hz,h1,⟨p,q,h2⟩,h3,h4⟩:=st;exact⟨k z 0o0 _ hz,k TI 0o0 _ h1,⟨p,q,k TO 0o0 _ h2⟩,h3.at λo e=>k i1 0o0 o e,h4.at λo e=>k i2 0o0 o e⟩
 item:=by
  intro X hP hw hK hc i jb s σ H E I hf st hg;subst hP hw hK;obtain⟨hz,hTI,⟨p,q,hTO⟩,h3,h4⟩:=st;obtain⟨xs,ys,x,y,hq1,hq2,hx,hy⟩:=hg;obtain⟨is1,rv1,p1,hz1⟩:=I.seqB hq1;obtain⟨is2,rv2,p2,hz2⟩:=I.seqB hq2;obtain⟨u,hu,ru⟩:=rv1.get hx;obtain⟨v,hv,rv⟩:=rv2.get hy;have ty:s.TypeIs (.ref z) "zip":=⟨_,hz,rfl⟩;unfold pyNext;refine A2 (w8 (T9 (name:=A6 "__next__") ty DY (N9 DY ty F.entry_zip_next (RH D (EK p1 hz rfl 0b0 0b0) (EK p2 hz rfl 0b0 0b0) (EL I hf hTO hq1) (EL I hf hTO hq2) (h3.ne p1) (h3.ne p2) hz hTI hTO h3 h4 p1 p2 (by simpa using hu) (by simpa using hv) λh' a1 a2 a3 a4 a5 k=>A9 ?_) (F.args_zip_next_1 _))));refine⟨_,rfl,wpAny_letOwnedTupleGo_zip (s:={ s with heap:=h' }) a1 λh'' z'' sb=>?_⟩;have lt:∀{d:A1} {o:Obj},s.heap.get? d=some o->s.heap.objs.size≠d:=λe=>y9 (C4 e);have ht'':h''.get? s.heap.objs.size=some { cls:=.type "tuple",data:=.seq #[u,v] }:=(sb.2 _ (lt hz)).trans a5
  have k':∀d o,d∉[z,TI,TO,i1,i2]->s.heap.get? d=some o->h''.get? d=some o:=λd o hb q=>by
   have hb1:d≠z:=λe=>hb (by simp[e]);exact(sb.2 d hb1).trans (k d o hb1 (λe=>hb (by simp[e])) (λe=>hb (by simp[e])) (λe=>hb (by simp[e])) q)
  have I1:Inv X jb σ (upd H s.heap.objs.size (.tup [x,y])) { s with heap:=h'' }:=
   I.turnedNew (t':=s.toks) k' hf ⟨by show 2<=B4;decide,[u,v],.cons ru (.cons rv .nil),⟨_,ht'',rfl,_,rfl⟩⟩
  obtain⟨o3,e3,_,_⟩:=h3.obj;obtain⟨o4,e4,_,_⟩:=h4.obj
  refine⟨.ref s.heap.objs.size,_,I1,rfl,⟨_,x,y,I.fresh,rfl,rfl,λzs hzs=>by rw[I.seqB_inj hzs hq1];exact hx,λzs hzs=>by rw[I.seqB_inj hzs hq2];exact hy⟩,
   ⟨z'',sb.extBut _ _ D.a1 (k _ _ D.a1 D.a5 D.a6 D.a7 hTI),⟨u,v,sb.extBut _ _ D.a2 a2⟩,a3.at λo e=>sb.extBut _ o D.a3 e,a4.at λo e=>sb.extBut _ o D.a4 e⟩,λd hd=>?_⟩
  have hd':d=z\/d=TI\/d=TO\/d=i1\/d=i2:=by simpa using hd
  have hds:d≠s.heap.objs.size:=by
   rcases hd' with rfl|rfl|rfl|rfl|rfl
   ·exact(lt hz).symm
   ·exact(lt hTI).symm
   ·exact(lt hTO).symm
   ·exact(lt e3).symm
   ·exact(lt e4).symm
  rw[C8 hds];exact(hf d hd).1
 done:=by
  intro X hP hw hK hc i jb s σ H E I hf st hg;subst hP hw hK;obtain⟨hz,hTI,⟨p,q,hTO⟩,h3,h4⟩:=st;obtain⟨xs,ys,hq1,hq2,hmin⟩:=hg;obtain⟨is1,rv1,p1,hz1⟩:=I.seqB hq1;obtain⟨is2,rv2,p2,hz2⟩:=I.seqB hq2;have l1:=rv1.length;have l2:=rv2.length;have ty:s.TypeIs (.ref z) "zip":=⟨_,hz,rfl⟩
  have hend:is1.toArray[i]?=none\/is2.toArray[i]?=none:=by
   rcases Cg xs.length ys.length with h|h
   ·exact .inl (DO (by rw[E9];ext))
   ·exact .inr (DO (by rw[E9];ext))
  unfold pyNext;refine A2 (w8 (T9 (name:=A6 "__next__") ty DY (N9 DY ty F.entry_zip_next (zipEnd (A:=X.A.in1) (I.ok.hd hc) D (EK p1 hz rfl 0b0 0b0) (EK p2 hz rfl 0b0 0b0) (EL I hf hTO hq1) (EL I hf hTO hq2) (h3.ne p1) (h3.ne p2) hz hTI hTO h3 h4 p1 p2 hend λh' e k he=>?_) (F.args_zip_next_1 _))));obtain⟨o,ho,hce⟩:=he;refine A2 (DA (T:="StopIteration") (b:=true) ⟨o,ho,hce⟩ isSubtype_stop (A9 ⟨rfl,?_⟩));exact I.turnedAll (t':=s.toks) (ch:=[z,TI,TO,i1,i2]) (λd o hd e=>k d o (λz=>hd (by simp[z])) (λz=>hd (by simp[z])) (λz=>hd (by simp[z])) (λz=>hd (by simp[z])) e) hf
 self:=λ_ _ _ _ _ st h=>wpAny_pyIter_zip st.1 h
end
section
variable {X:Cx}
def iZipB (b1 b2:Bool)(K:A8)(ta:TA):TI:=λσ H R=>ta σ H λvs H1=>∃a c,vs=[.ref a,.ref c]/\(∃xs,SqB b1 K H1 a xs)/\(∃ys,SqB b2 K H1 c ys)/\R (ItzB b1 b2 K a c) H1
def RJ (b1 b2:Bool){a b:Expr}{ta:TA}{p pos:Pos}{elts:List Expr}{x1}{tpos:Pos}(hg:Gl X "zip")(hm:X.mg "zip"=none)(ha:PA X [a,b] ta)(hs:D6 [a,b] X.env=[(false,eval a X.env),(false,eval b X.env)]:=by rfl)(hs2:D6 [b] X.env=[(false,eval b X.env)]:=by rfl) :
   PI X (.Tuple elts x1 tpos) (.Call (.Name "zip" p) [a,b] [] pos) (iZipB b1 b2 X.K ta):=by
 intro jb s σ H R I h;refine Call_ (Y8 I hg hm boot_zip (l8 (thn (ha pos jb s σ H _ I h) λus s1 ⟨vs,H1,I1,r1,q1⟩=>?_) (by rw[hs,hs2]) (by rw[hs2];rfl)));obtain⟨a,c,e,⟨xs,h1⟩,⟨ys,h2⟩,q⟩:=q1;subst e;cases r1 with
 | cons r rr =>
  cases rr with
  | cons r' rr =>
   cases rr;cases r;cases r';obtain⟨is1,rv1,p1,hz1⟩:=I1.seqB h1;obtain⟨is2,rv2,p2,hz2⟩:=I1.seqB h2;refine zipB p1 p2 λh' e1 e2 e3 e4 e5 hk=>?_;refine wpAny_pyIter_zip e1 ?_;have I2:Inv X jb σ H1 { s1 with heap:=h' }:=I1.kept (t':=s1.toks) hk;refine⟨s1.heap.objs.size+4,[s1.heap.objs.size+4,s1.heap.objs.size+2,s1.heap.objs.size+3,s1.heap.objs.size,s1.heap.objs.size+1],_,_,H1,rfl,I2,RI a c _ _ _ _ _ ⟨0o0,0o0,0o0,0o0,0o0,0o0,0o0,0o0,0o0,0o0⟩,⟨e1,e2,⟨_,_,e3⟩,e4,e5⟩,λd hd=>?_,q⟩
   have hd':s1.heap.objs.size<=d:=by
    simp only[B5,F6,or_false] at hd;rcases hd with rfl|rfl|rfl|rfl|rfl <;> omega
   exact I1.fpOk hd' (I1.hok.fresh hd')
end
end L2
namespace Pu
open PySem PySem.Spec L2
section
variable {T:PotK}{ι:Type}{K:A8}{F:ι->Cx}{e a b tg:Expr}{pe pa pb:pE}{pos:Pos}
def BD (pe:pE):pA:=λenv n R=>pe env n λx jc n1=>match x with|.tup xs=>R (X4 xs) jc n1|_=>False
def RK {p:Pos}{elts:List Expr}{x1:Nat}{tpos:Pos}(hg:∀z,Gl (F z) "enumerate")(hm:∀z,(F z).mg "enumerate"=none)(h:QE T K F e pe)(hs:D8 e=true)(hK:∀z,(F z).K=K):QI T K F (.Tuple elts x1 tpos) (.Call (.Name "enumerate" p) [e] [] pos) (BD pe):=by
 obtain⟨t,h1,h2⟩:=h;refine⟨_,λz=>hK z▸RG false (hg z) (hm z) (E3 (h1 z) G0 (C5 hs)) (by rw[C5 hs];rfl),⇑?_⟩;refine ↥h2 λx jc n1 v H1 p1 S1 r1 f1=>?_;cases x with
 | tup xs =>
  obtain⟨a,vs,rfl,t,r⟩:=r1;refine⟨a,rfl,⟨vs,t.sq⟩,k _ _ _ _ _ p1 S1 f1 ?_⟩;intro G2 H2 hk hM hp hf;have hq:SqB false K H2 a vs:=SqT.of (hk a _ t.1 t.2);have r2:Reps K G2 H2 xs vs:=Reps.mono hk hM hp _ _ r;refine⟨λi x e=>?_,λi hi=>⟨vs,hq,by rw[<- r.length,<- Lq];exact hi⟩⟩;obtain⟨y,ey,rfl⟩:=Lp e;obtain⟨v,ev,rv⟩:=r2.get' ey;refine⟨⟨vs,v,hq,ev⟩,λv' H3 y=>?_⟩;obtain⟨p,w,hn,rfl,rfl,y⟩:=y;have:=y vs hq;rw[ev] at this;cases this;exact⟨Same.lay1 hn,Ak (hf p hn) hn (.cons rfl (.one rv))⟩
 |_=>exact p1.elim
def zipP (xs ys:List PV):List PV:=(xs.zip ys).map λy=>.tup [y.1,y.2]
noncomputable def BE (b:Bool):PV->Option (List PV)
 |.lst xs=>if b then some xs else none
 |.tup xs=>if b then none else some xs
 |_=>none
def RL {b:Bool}(h:BE b x=some xs):x=(match b with|true=>.lst xs|false=>.tup xs):=by
 cases x <;> cases b <;> simp[BE] at h <;> simp[h]
def Me {b:Bool}(h:BE b x=some xs)(r:Rep K G H x v):∃a vs,v=.ref a/\a∉G.M/\Reps K G H xs vs/\∀H2,(∀c o,c∉G.M->H c=some o->H2 c=some o)->SqB b K H2 a vs:=by
 rw[RL h] at r;cases b with
 | true =>
  obtain⟨a,vs,e,t,r⟩:=r;exact⟨a,vs,e,t.1,r,λH2 hk=>SqL.of (hk a _ t.1 t.2)⟩
 | false =>
  obtain⟨a,vs,e,t,r⟩:=r;exact⟨a,vs,e,t.1,r,λH2 hk=>SqT.of (hk a _ t.1 t.2)⟩
def qZip (b1 b2:Bool)(pa pb:pE):pA:=λenv n R=>pa env n λx jc n1=>pb jc n1 λy jd n2=>match BE b1 x,BE b2 y with|some xs,some ys=>R (zipP xs ys) jd n2|_,_=>False
def RM (xs ys:List PV):(zipP xs ys).length=min xs.length ys.length:=by simp[zipP]
def RN {xs ys:List PV}{i:Nat}{x:PV}(h:(zipP xs ys)[i]?=some x):∃u v,xs[i]?=some u/\ys[i]?=some v/\x=.tup [u,v]:=by grind [PV,zipP]
def qi_zip (b1 b2:Bool)(hg:∀z,Gl (F z) "zip")(hm:∀z,(F z).mg "zip"=none)(ha:QE T K F a pa)(hb:QE T K F b pb)(hs:D8 a=true)(hs2:D8 b=true)(hK:∀z,(F z).K=K):QI T K F (.Tuple elts x1 tpos) (.Call (.Name "zip" p) [a,b] [] pos) (qZip b1 b2 pa pb):=by
 obtain⟨t,h1,h2⟩:=ha;obtain⟨u,h3,h4⟩:=hb;refine⟨_,λz=>hK z▸RJ b1 b2 (hg z) (hm z) (E3 (h1 z) (E3 (h3 z) G0 (C5 hs2)) (C5 hs)) (by rw[C5 hs,C5 hs2];rfl) (by rw[C5 hs2];rfl),⇑?_⟩;refine ↥h2 λx jc n1 v H1 p1 S1 r1 f1=>?_;refine h4 C G σ H1 jc n1 _ _ hK hT S1 p1 λy jd n2 w H2 p2 S2 r2 f2=>?_
 split at p2
 ·rename_i xs ys ex ey;obtain⟨a,vs,rfl,na,ra,sa⟩:=Me ex (r1.fr f2);obtain⟨c,us,rfl,nc,rc,scq⟩:=Me ey r2;refine⟨a,c,rfl,⟨vs,sa H2 λ_ _ _ e=>e⟩,⟨us,scq H2 λ_ _ _ e=>e⟩,k _ _ _ _ _ p2 S2 (f1.trans f2) ?_⟩;intro G2 H3 hk hM hp hf;have ra':Reps K G2 H3 xs vs:=Reps.mono hk hM hp _ _ ra;have rc':Reps K G2 H3 ys us:=Reps.mono hk hM hp _ _ rc;refine⟨λi x e=>?_,λi hi=>⟨vs,us,sa H3 hk,scq H3 hk,by rw[<- ra.length,<- rc.length,<- RM];exact hi⟩⟩;obtain⟨u,v,eu,ev,rfl⟩:=RN e;obtain⟨u',eu',ru⟩:=ra'.get' eu;obtain⟨v',ev',rv⟩:=rc'.get' ev;refine⟨⟨vs,us,u',v',sa H3 hk,scq H3 hk,eu',ev'⟩,λx' H4 y=>?_⟩;obtain⟨p,u2,v2,hn,rfl,rfl,y1,y2⟩:=y;have q1:=y1 vs (sa H3 hk);have q2:=y2 us (scq H3 hk);rw[eu'] at q1;rw[ev'] at q2;cases q1;cases q2;exact⟨Same.lay1 hn,Ak (hf p hn) hn (.cons ru (.one rv))⟩
 ·exact p2.elim
end
end Pu
end
section
namespace L2
open PySem PySem.Spec PyProof.Rows
section
variable {X:Cx}
theorem Mf:∀(xs:List V) (us:List A3),xs.length=us.length->(∀(j:Nat) (x:V) (u:A3),xs[j]?=some x->us[j]?=some u->RelV x u)->Vals xs us
 |[],[],_,_=>.nil
 |[],_::_,h,_=>by cases h
 |_::_,[],h,_=>by cases h
 |x::xs,u::us,h,hr=>.cons (hr 0 x u rfl rfl) (Mf xs us (by simpa using h) λj x u e1 e2=>hr (j+1) x u (by simpa using e1) (by simpa using e2))
end
end L2
end
section
namespace Pu
open PySem PySem.Spec L2
mutual
def pln:PV->Bool
 |.non=>true
 |.bl _=>true
 |.int _=>true
 |.str _=>true
 |.tup xs=>plns xs
 |.lst xs=>plns xs
 |_=>false
def plns:List PV->Bool
 |[]=>true
 |x::xs=>pln x&&plns xs
end
mutual
theorem Mg:∀x:PV,pln x=true->eqP x x=true
 |.non,_=>rfl
 |.bl b,_=>by rw[Ho];exact jq rfl
 |.int i,_=>by rw[LG];exact jq rfl
 |.str z,_=>by rw[p9];exact jq rfl
 |.tup xs,h=>by rw[LI];exact HB xs (by simpa[pln] using h)
 |.lst xs,h=>by rw[LH];exact HB xs (by simpa[pln] using h)
 |.ty _,h=>by simp[pln] at h
 |.pot _,h=>by simp[pln] at h
 |.scr _,h=>by simp[pln] at h
 |.fdt _ _,h=>by simp[pln] at h
 |.dct _ _,h=>by simp[pln] at h
theorem HB:∀xs:List PV,plns xs=true->eqPs xs xs=true
 |[],_=>rfl
 | x :: xs, h => by
  have h':pln x=true/\plns xs=true:=by simpa[plns] using h
  rw[LJ,Mg x h'.1,HB xs h'.2];rfl
end
theorem HC {te:pE}{rest:Env}{α:Type}(f:α->PV)(g:α->PV):∀(xs:List α) (s0:Option Slot) (n:Nat) (R:List PV->Nat->Prop),(∀x∈xs,∀m Q,Q (g x) (some (.v (f x))::rest) m->te (some (.v (f x))::rest) m Q)->R (xs.map g) n->P3 (gN 0) qTru te (xs.map f) (s0::rest) n R
 |[],_,_,_,_,h=>h
 | x :: xs, s0, n, R, ht, h => by
  show te (some (.v (f x))::rest) n _;refine ht x B8 n _ ?_;exact HC f g xs _ n _ (λy hy=>ht y (B6 _ hy)) h
theorem Mh {te:pE}{rest:Env}{α:Type}(u v g:α->PV):∀(xs:List α) (s0 s1:Option Slot) (n:Nat) (R:List PV->Nat->Prop),(∀x∈xs,∀m Q,Q (g x) (some (.v (u x))::some (.v (v x))::rest) m->te (some (.v (u x))::some (.v (v x))::rest) m Q)->R (xs.map g) n->P3 (gTp 2 (gCn (gN 0) (gCn (gN 1) gNl))) qTru te (xs.map λx=>.tup [u x,v x]) (s0::s1::rest) n R
 |[],_,_,_,_,_,h=>h
 | x :: xs, s0, s1, n, R, ht, h => by
  mleft;show te (some (.v (u x))::some (.v (v x))::rest) n _;refine ht x B8 n _ ?_;exact Mh u v g xs _ _ n _ (λy hy=>ht y (B6 _ hy)) h
end Pu
end
section
namespace L2
open PySem PySem.W PyProof.Rows
namespace Kr
noncomputable def run {α:Type}(lt:Nat->Nat->Bool):KasT α->α
 |.ret a=>a
 |.ask i j k=>run lt (k (lt i j))
theorem BG {α β:Type}(lt:Nat->Nat->Bool)(f:α->KasT β):∀t:KasT α,run lt (t.bind f)=run lt (f (run lt t))
 |.ret a=>rfl
 |.ask i j k=>BG lt f (k (lt i j))
structure Ord (lt:Nat->Nat->Bool):Prop where
 ir:∀a,lt a a=false
 tr:∀a b c,lt a b=true->lt b c=true->lt a c=true
 nt:∀a b c,lt a c=true->lt a b=true\/lt b c=true
variable {lt:Nat->Nat->Bool}(O:Ord lt)
include O
theorem Ord.as (h:lt a b=true):lt b a=false:=by
 cases e:lt b a with
 |false=>rfl
 |true=>have:=O.tr _ _ _ h e;rw[O.ir] at this;cases this
theorem Ord.le (h1:lt b a=false)(h2:lt c b=false):lt c a=false:=by
 cases e:lt c a with
 |false=>rfl
 |true=>rcases O.nt c b a e with h|h <;> simp_all
theorem Ord.l1 (h1:lt a b=true)(h2:lt c b=false):lt a c=true:=by
 rcases O.nt a c b h1 with h|h
 ·exact h
 ·rw[h2] at h;cases h
theorem Ord.l2 (h1:lt b a=false)(h2:lt b c=true):lt a c=true:=by
 rcases O.nt b a c h2 with h|h
 ·rw[h1] at h;cases h
 ·exact h
omit O
noncomputable def g (p:Array Nat)(i:Nat):Nat:=p.getD i 0
theorem g_eq (p:Array Nat)(i:Nat):g p i=(p[i]?).getD 0:=by unfold g;rw[z9]
theorem Z4 (h:j<=p.size)(k:Nat):g (O2 p i j) k=if i<=k/\k<j then g p (i+j-1-k) else g p k:=by
 unfold O2;rw[g_eq,getElem?_mirror_all h]
 split <;> rw[g_eq]
theorem g_bub (h:k<p.size)(hl:l<=k)(i:Nat):g (bubble p k (k-l)) i=if i=l then g p k else if l<i/\i<=k then g p (i-1) else g p i:=by
 rw[g_eq,getElem?_bubble h (k-l) 0x0,show k-(k-l)=l by omega]
 split
 ·rw[g_eq]
 ·split <;> rw[g_eq]
theorem Aw (p:Array Nat)(i j:Nat):(O2 p i j).size=p.size:=mirror_size _ _ _ _
theorem C_ (p:Array Nat)(i j:Nat):(O2 p i j).Perm p:=mirror_perm _ _ _ _
def S (lt:Nat->Nat->Bool)(p:Array Nat)(k:Nat):Prop:=∀i j,i<=j->j<k->lt (g p j) (g p i)=false
def D (lt:Nat->Nat->Bool)(p:Array Nat)(k:Nat):Prop:=∀i j,i<=j->j<k->lt (g p i) (g p j)=false
def B (lt:Nat->Nat->Bool)(p:Array Nat)(a k:Nat):Prop:=∀i j,a<=i->i<k->a<=j->j<k->lt (g p i) (g p j)=false
include O
theorem S_succ (h:S lt p n)(hn:1<=n)(hl:lt (g p n) (g p (n-1))=false):S lt p (n+1):=by
 intro i j hij hj;rcases Nat.lt_succ_iff_lt_or_eq.mp hj with h1|h1
 ·exact h i j hij h1
 ·subst h1;rcases Nat.lt_or_eq_of_le hij with h2|h2
  ·exact O.le (h i (j-1) 0x0 0x0) hl
  ·rw[h2];exact O.ir _
theorem HD (p:Array Nat):∀(f n:Nat),1<=n->S lt p n->n<=run lt (Q4 p f n)/\run lt (Q4 p f n)<=n+f/\S lt p (run lt (Q4 p f n))/\(run lt (Q4 p f n)=n+f\/lt (g p (run lt (Q4 p f n))) (g p (run lt (Q4 p f n)-1))=true)
 |0,n,hn,h=>⟨B2 _,B2 _,h,.inl rfl⟩
 | f + 1, n, hn, h => by
  show n<=run lt (if lt (g p n) (g p (n-1))=true then .ret n else Q4 p f (n+1))/\run lt (if lt (g p n) (g p (n-1))=true then .ret n else Q4 p f (n+1))<=n+(f+1)/\S lt p (run lt (if lt (g p n) (g p (n-1))=true then .ret n else Q4 p f (n+1)))/\(run lt (if lt (g p n) (g p (n-1))=true then .ret n else Q4 p f (n+1))=n+(f+1)\/lt (g p (run lt (if lt (g p n) (g p (n-1))=true then .ret n else Q4 p f (n+1)))) (g p (run lt (if lt (g p n) (g p (n-1))=true then .ret n else Q4 p f (n+1))-1))=true);cases e:lt (g p n) (g p (n-1)) with
  | true =>
   rw[jt rfl];exact⟨B2 _,by show n<=_;omega,h,.inr e⟩
  | false =>
   rw[ju 0o0];obtain⟨h1,h2,h3,h4⟩:=HD p f (n+1) 0x0 (S_succ O h hn e);exact⟨0x0,0x0,h3,h4.imp (λx=>0x0) id⟩
theorem D_rev (hn:n<=p.size)(h:D lt p n)(hb:B lt p a n):D lt (O2 p a n) n:=by
 intro i j hij hj;rw[Z4 hn,Z4 hn]
 by_cases c1:a<=i
 ·rw[jt ⟨c1,0x0⟩,jt ⟨0x0,hj⟩];exact hb _ _ 0x0 0x0 0x0 0x0
 ·rw[ju 0x0]
  by_cases c2:a<=j
  ·rw[jt ⟨c2,hj⟩];exact h _ _ 0x0 0x0
  ·rw[ju 0x0];exact h _ _ hij hj
theorem Da (h:D lt p n)(hn:1<=n)(hl:lt (g p (n-1)) (g p n)=false):D lt p (n+1):=by
 intro i j hij hj;rcases Nat.lt_succ_iff_lt_or_eq.mp hj with h1|h1
 ·exact h i j hij h1
 ·subst h1;rcases Nat.lt_or_eq_of_le hij with h2|h2
  ·exact O.le hl (h i (j-1) 0x0 0x0)
  ·rw[h2];exact O.ir _
theorem EM:∀(f:Nat) (p:Array Nat) (n q:Nat),q + 1<=n->n + f<=p.size->D lt p n->B lt p (n - (q + 1)) n->
   ∃p' n' q',run lt (Y1 f p n q)=(p',n',q')/\p'.Perm p/\p'.size=p.size/\n<=n'/\n'<=n+f/\q'+1<=n'/\D lt p' n'/\B lt p' (n'-(q'+1)) n'
 |0,p,n,q,hq,hs,h,hb=>⟨p,n,q,rfl,Bf _,rfl,B2 _,B2 _,hq,h,hb⟩
 | f + 1, p, n, q, hq, hs, h, hb => by
  have one:∀p n,B lt p (n+1-(0+1)) (n+1):=λp n i j h1 h2 h3 h4=>by
   have:i=j:=0x0
   rw[this];exact O.ir _
  cases e:lt (g p n) (g p (n-1)) with
  | true =>
   by_cases c:q>0
   ·have hd:=D_rev O (by omega:n<=p.size) h hb;have e1:g (O2 p (n-(q+1)) n) n=g p n:=by rw[Z4 0x0,ju 0x0]
    have e2:g (O2 p (n-(q+1)) n) (n-1)=g p (n-(q+1)):=by rw[Z4 0x0,jt 0x0];congr 1;ext
    have e3:lt (g p (n-(q+1))) (g p n)=false:=O.as (O.l1 e (hb _ _ 0x0 0x0 0x0 0x0));obtain⟨p',n',q',a1,a2,a3,a4,a5,a6,a7,a8⟩:=EM f (O2 p (n-(q+1)) n) (n+1) 0 0x0 (by rw[Aw];ext) (Da O hd 0x0 (by rw[e1,e2];exact e3)) (one _ _);refine⟨p',n',q',?_,a2.trans (C_ _ _ _),by rw[a3,Aw],0x0,0x0,a6,a7,a8⟩;show run lt (if lt (g p n) (g p (n-1))=true then(if q>0 then Y1 f (O2 p (n-(q+1)) n) (n+1) 0 else Y1 f p (n+1) 0) else _)=_;rw[jt e,jt c];exact a1
   ·obtain⟨p',n',q',a1,a2,a3,a4,a5,a6,a7,a8⟩:=EM f p (n+1) 0 0x0 0x0 (Da O h 0x0 (O.as e)) (one _ _);refine⟨p',n',q',?_,a2,a3,0x0,0x0,a6,a7,a8⟩;show run lt (if lt (g p n) (g p (n-1))=true then(if q>0 then Y1 f (O2 p (n-(q+1)) n) (n+1) 0 else Y1 f p (n+1) 0) else _)=_;rw[jt e,ju c];exact a1
  | false =>
   cases e':lt (g p (n-1)) (g p n) with
   | true =>
    refine⟨p,n,q,?_,Bf _,rfl,B2 _,0x0,hq,h,hb⟩;show run lt (if lt (g p n) (g p (n-1))=true then _ else KasT.ask (g p (n-1)) (g p n) λd=>if d=true then .ret (p,n,q) else Y1 f p (n+1) (q+1))=_;rw[ju (by rw[e];simp)];show run lt (if lt (g p (n-1)) (g p n)=true then .ret (p,n,q) else Y1 f p (n+1) (q+1))=_;rw[jt e'];rfl
   | false =>
    have hb':B lt p (n+1-(q+1+1)) (n+1):=by
     have up:∀i,n-(q+1)<=i->i<n->lt (g p i) (g p n)=false/\lt (g p n) (g p i)=false:=λi h1 h2=>
      ⟨O.le e' (hb i (n-1) h1 h2 0x0 0x0),O.le (hb (n-1) i 0x0 0x0 h1 h2) e⟩
     intro i j h1 h2 h3 h4
     by_cases ci:i<n
     ·by_cases cj:j<n
      ·exact hb i j 0x0 ci 0x0 cj
      ·rw[show j=n by omega];exact(up i 0x0 ci).1
     ·rw[show i=n by omega]
      by_cases cj:j<n
      ·exact(up j 0x0 cj).2
      ·rw[show j=n by omega];exact O.ir _
    obtain⟨p',n',q',a1,a2,a3,a4,a5,a6,a7,a8⟩:=EM f p (n+1) (q+1) 0x0 0x0 (Da O h 0x0 e') hb';refine⟨p',n',q',?_,a2,a3,0x0,0x0,a6,a7,a8⟩;show run lt (if lt (g p n) (g p (n-1))=true then _ else KasT.ask (g p (n-1)) (g p n) λd=>if d=true then .ret (p,n,q) else Y1 f p (n+1) (q+1))=_;rw[ju (by rw[e];simp)];show run lt (if lt (g p (n-1)) (g p n)=true then .ret (p,n,q) else Y1 f p (n+1) (q+1))=_;rw[ju (by rw[e'];simp)];exact a1
theorem S_of_D (hn:n<=p.size)(h:D lt p n):S lt (O2 p 0 n) n:=by
 intro i j hij hj;rw[Z4 hn,Z4 hn,jt ⟨0x0,hj⟩,jt ⟨0x0,0x0⟩];exact h _ _ 0x0 0x0
theorem Mi (h1:1<=n)(hn:n<=nrem)(hs:nrem<=p.size)(h:D lt p n) :
   ∃m p',run lt (kas_tail3 n nrem p)=(m,p')/\p'.Perm p/\p'.size=p.size/\1<=m/\m<=nrem/\S lt p' m:=by
 obtain⟨a1,a2,a3,_⟩:=HD O (O2 p 0 n) (nrem-n) n h1 (S_of_D O 0x0 h);refine⟨_,O2 p 0 n,?_,C_ _ _ _,Aw _ _ _,?_,?_,a3⟩
 ·unfold kas_tail3;rw[BG];rfl
 ·ext
 ·ext
theorem Mj (h1:1<=n)(hn:n+1<=nrem)(hs:nrem<=p.size)(h:D lt p (n+1)) :
   ∃m p',run lt (kas_descPart n nrem p)=(m,p')/\p'.Perm p/\p'.size=p.size/\1<=m/\m<=nrem/\S lt p' m:=by
 obtain⟨p',n',q',a1,a2,a3,a4,a5,a6,a7,a8⟩:=EM O (nrem-(n+1)) p (n+1) 0 0x0 0x0 h (λi j h1 h2 h3 h4=>by
  have:i=j:=0x0
  rw[this];exact O.ir _)
 unfold kas_descPart;rw[BG,a1];dsimp only
 by_cases c:q'>0
 ·rw[jt c];obtain⟨m,p2,b1,b2,b3,b4,b5,b6⟩:=Mi O (p:=O2 p' (n'-(q'+1)) n') (n:=n') (nrem:=nrem) 0x0 0x0 (by rw[Aw];ext) (D_rev O 0x0 a7 a8);exact⟨m,p2,b1,(b2.trans (C_ _ _ _)).trans a2,by rw[b3,Aw,a3],b4,b5,b6⟩
 ·rw[ju c];obtain⟨m,p2,b1,b2,b3,b4,b5,b6⟩:=Mi O (p:=p') (n:=n') (nrem:=nrem) 0x0 0x0 0x0 a7;exact⟨m,p2,b1,b2.trans a2,by rw[b3,a3],b4,b5,b6⟩
theorem RO (h1:1<=n)(hs:p.size=n):∃m p',run lt (kas_count n p)=(m,p')/\p'.Perm p/\p'.size=p.size/\1<=m/\m<=n/\S lt p' m:=by
 have s1:S lt p 1:=λi j h2 h3=>by
  have:i=j:=0x0
  rw[this];exact O.ir _
 obtain⟨a1,a2,a3,a4⟩:=HD O p (n-1) 1 (B2 _) s1;unfold kas_count;rw[BG];generalize run lt (Q4 p (n-1) 1)=k at a1 a2 a3 a4 ⊢
 by_cases c:k=n
 ·rw[jt (by rw[c];exact beq_self_eq_true n)];exact⟨k,p,rfl,Bf _,rfl,a1,0x0,a3⟩
 ·rw[ju (by simpa using c)];have a5:lt (g p k) (g p (k-1))=true:=a4.resolve_left 0x0
  by_cases c1:k>1
  ·rw[jt c1];show ∃m p',run lt (if lt (g p 0) (g p (k-1))=true then .ret (k,p) else kas_descPart k n (O2 p 0 k))=(m,p')/\_;cases e:lt (g p 0) (g p (k-1)) with
   |true=>rw[jt rfl];exact⟨k,p,rfl,Bf _,rfl,a1,0x0,a3⟩
   | false =>
    rw[ju 0o0]
    have al:∀i j,i<k->j<k->lt (g p i) (g p j)=false:=λi j hi hj=>by
     have x1:=a3 j (k-1) 0x0 0x0;have x2:=a3 0 i 0x0 hi;exact O.le (O.le x1 e) x2
    have hd:D lt (O2 p 0 k) (k+1):=by
     refine Da O (λi j hij hj=>?_) a1 ?_
     ·rw[Z4 0x0,Z4 0x0,jt ⟨0x0,0x0⟩,jt ⟨0x0,hj⟩];exact al _ _ 0x0 0x0
     ·rw[Z4 0x0,Z4 0x0,jt ⟨0x0,0x0⟩,ju 0x0];exact O.as (O.l1 a5 (al _ _ 0x0 0x0))
    obtain⟨m,p2,b1,b2,b3,b4,b5,b6⟩:=Mj O (p:=O2 p 0 k) (n:=k) (nrem:=n) a1 0x0 (by rw[Aw];ext) hd;exact⟨m,p2,b1,b2.trans (C_ _ _ _),by rw[b3,Aw],b4,b5,b6⟩
  ·rw[ju c1];have hk:k=1:=0x0
   subst hk
   exact Mj O (B2 _) 0x0 0x0 (Da O (λi j h2 h3=>by
    have:i=j:=0x0
    rw[this];exact O.ir _) (B2 _) (O.as a5))
theorem HE {p:Array Nat}{k:Nat}(h:S lt p k):∀(f l r:Nat),l<=r->r<=k->r-l<=f->(∀i,i<l->lt (g p k) (g p i)=false)->(∀i,r<=i->i<k->lt (g p k) (g p i)=true)->
   run lt (R5 p k f l r)<=k/\(∀i,i<run lt (R5 p k f l r)->lt (g p k) (g p i)=false)/\(∀i,run lt (R5 p k f l r)<=i->i<k->lt (g p k) (g p i)=true)
 | 0, l, r, h1, h2, h3, h4, h5 => by
  have:l=r:=0x0
  subst this;exact⟨h2,h4,h5⟩
 | f + 1, l, r, h1, h2, h3, h4, h5 => by
  by_cases c:l>=r
  ·have:l=r:=0x0
   subst this;unfold R5;rw[jt c];exact⟨h2,h4,h5⟩
  ·have e:run lt (R5 p k (f+1) l r)=run lt (if lt (g p k) (g p ((l+r)/2))=true then R5 p k f l ((l+r)/2) else R5 p k f ((l+r)/2+1) r):=by
    conv=>lhs;unfold R5
    rw[ju c];rfl
   rw[e];cases e2:lt (g p k) (g p ((l+r)/2)) with
   | true =>
    rw[jt rfl];exact HE h f l ((l+r)/2) 0x0 0x0 0x0 h4 λi i1 i2=>O.l1 e2 (h _ _ i1 i2)
   | false =>
    rw[ju 0o0];exact HE h f ((l+r)/2+1) r 0x0 h2 0x0 (λi i1=>O.le (h i ((l+r)/2) 0x0 0x0) e2) h5
theorem Ml:∀(f:Nat) (p:Array Nat) (k:Nat),k + f<=p.size->S lt p k->(run lt (kas_bin f p k)).Perm p/\(run lt (kas_bin f p k)).size=p.size/\S lt (run lt (kas_bin f p k)) (k + f)
 |0,p,k,_,h=>⟨Bf _,rfl,h⟩
 | f + 1, p, k, hs, h => by
  obtain⟨a1,a2,a3⟩:=HE O h k 0 k 0x0 (B2 _) 0x0 (λi z=>0x0) (λi z z2=>0x0)
  have e:run lt (kas_bin (f+1) p k)=run lt (kas_bin f (bubble p k (k-run lt (R5 p k k 0 k))) (k+1)):=by
   show run lt ((R5 p k k 0 k).bind λl=>kas_bin f (bubble p k (k-l)) (k+1))=_;rw[BG]
  rw[e];generalize run lt (R5 p k k 0 k)=l at a1 a2 a3 ⊢
  have hS:S lt (bubble p k (k - l)) (k + 1):=by
   intro i j hij hj;rw[g_bub 0x0 a1,g_bub 0x0 a1]
   by_cases ci:i=l
   ·rw[jt ci]
    by_cases cj:j=l
    ·rw[jt cj];exact O.ir _
    ·rw[ju cj,jt ⟨0x0,0x0⟩];exact O.as (a3 _ 0x0 0x0)
   ·rw[ju ci]
    by_cases cj:j=l
    ·rw[jt cj,ju 0x0];exact a2 _ 0x0
    ·rw[ju cj]
     by_cases c2:l<j
     ·rw[jt ⟨c2,0x0⟩]
      by_cases c3:l<i
      ·rw[jt ⟨c3,0x0⟩];exact h _ _ 0x0 0x0
      ·rw[ju 0x0];exact h _ _ 0x0 0x0
     ·rw[ju 0x0,ju 0x0];exact h _ _ hij 0x0
  obtain⟨b1,b2,b3⟩:=Ml f (bubble p k (k-l)) (k+1) (by rw[bubble_size];ext) hS;exact⟨b1.trans (bubble_perm _ _ _),by rw[b2,bubble_size],by rw[show k+(f+1)=k+1+f by omega];exact b3⟩
theorem sort_ok (h1:1<=n):(run lt (P1 n)).Perm (List.toArray (C2 n))/\(run lt (P1 n)).size=n/\S lt (run lt (P1 n)) n:=by
 have hz:(List.toArray (C2 n)).size=n:=0o0
 obtain⟨m,p,a1,a2,a3,a4,a5,a6⟩:=RO O (p:=List.toArray (C2 n)) h1 hz;unfold P1;rw[BG,a1];dsimp only
 by_cases c:m<n
 ·rw[jt c,Nat.max_eq_left a4];obtain⟨b1,b2,b3⟩:=Ml O (n-m) p m 0x0 a6;rw[show m+(n-m)=n by omega] at b3;exact⟨b1.trans a2,by rw[b2,a3,hz],b3⟩
 ·rw[ju c];have:m=n:=0x0
  subst this;exact⟨a2,by rw[<- hz,<- a3];rfl,a6⟩
omit O
def InQ {α:Type}(n:Nat)(Q:α->Prop):KasT α->Prop
 |.ret a=>Q a
 |.ask i j k=>i<n/\j<n/\∀b,InQ n Q (k b)
theorem BH {α β:Type}{n:Nat}{Q:α->Prop}{R:β->Prop}{f:α->KasT β}(hf:∀a,Q a->InQ n R (f a)):∀t:KasT α,InQ n Q t->InQ n R (t.bind f)
 |.ret a,h=>hf a h
 |.ask _ _ k,h=>⟨h.1,h.2.1,λb=>BH hf (k b) (h.2.2 b)⟩
def En (n:Nat)(p:Array Nat):Prop:=0<n/\p.Perm (List.toArray (C2 n))
theorem En.g {n:Nat}{p:Array Nat}(h:En n p)(i:Nat):p.getD i 0<n:=by
 by_cases c:i<p.size
 ·rw[show p.getD i 0=p[i] by simp[Array.getD,c]]
  simpa using h.2.mem_iff.mp (Array.getElem_mem c)
 ·rw[show p.getD i 0=0 by simp[Array.getD,c]];exact h.1
theorem En.perm {n:Nat}{p q:Array Nat}(h:En n p)(hp:q.Perm p):En n q:=⟨h.1,hp.trans h.2⟩
theorem En.rev (h:En n p)(i j:Nat):En n (O2 p i j):=h.perm (C_ _ _ _)
theorem HF {n:Nat}{p:Array Nat}(h:En n p):∀f m,InQ n (λ_=>True) (Q4 p f m)
 |0,_=>trivial
 | f + 1, m => ⟨h.g _, h.g _, fun b => by
  cases b with
  |true=>exact trivial
  |false=>exact HF h f (m+1)⟩
theorem EN {n:Nat}:∀f p m q,En n p->InQ n (λr=>En n r.1) (Y1 f p m q)
 |0,_,_,_,h=>h
 | f + 1, p, m, q, h => ⟨h.g _, h.g _, fun b => by
  cases b with
  | true =>
   show InQ n _ (if q>0 then _ else _)
   by_cases c:q>0
   ·rw[jt c];exact EN f _ _ _ (h.rev _ _)
   ·rw[ju c];exact EN f _ _ _ h
  | false =>
   refine⟨h.g _,h.g _,λd=>?_⟩;cases d with
   |true=>exact h
   |false=>exact EN f _ _ _ h⟩
theorem Mm (h:En n p):InQ n (λr=>En n r.2) (kas_tail3 m k p):=by
 unfold kas_tail3;refine BH (Q:=λ_=>True) (λa _=>?_) _ (HF (h.rev _ _) _ _);exact(h.rev _ _:En n _)
theorem Mn (h:En n p):InQ n (λr=>En n r.2) (kas_descPart m k p):=BH (λr hr=>by
   by_cases c:r.2.2>0
   ·rw[jt c];exact Mm (hr.rev _ _)
   ·rw[ju c];exact Mm hr) _ (EN _ _ _ _ h)
theorem RQ (h:En n p):InQ n (λr=>En n r.2) (kas_count k p):=BH (λm _=>by
   by_cases c:(m == k)=true
   ·rw[jt c];exact h
   ·rw[ju c]
    by_cases c1:m>1
    ·rw[jt c1];refine⟨h.g _,h.g _,λb=>?_⟩;cases b with
     |true=>exact h
     |false=>exact Mn (h.rev _ _)
    ·rw[ju c1];exact Mn h) _ (HF h _ _)
theorem HG {n k:Nat}{p:Array Nat}(h:En n p):∀f l r,InQ n (λ_=>True) (R5 p k f l r)
 |0,_,_=>trivial
 | f + 1, l, r => by
  unfold R5
  by_cases c:l>=r
  ·rw[jt c];exact trivial
  ·rw[ju c];refine⟨h.g _,h.g _,λb=>?_⟩;cases b with
   |true=>exact HG h f _ _
   |false=>exact HG h f _ _
theorem Mo {n:Nat}:∀f p k,En n p->InQ n (En n) (kas_bin f p k)
 |0,_,_,h=>h
 |f+1,p,k,h=>BH (λl _=>Mo f _ _ (h.perm (bubble_perm _ _ _))) _ (HG h k 0 k)
theorem sort_in {n:Nat}(h1:1<=n):InQ n (En n) (P1 n):=BH (λr hr=>by
   by_cases c:r.1<n
   ·rw[jt c];exact Mo _ _ _ hr
   ·rw[ju c];exact hr) _ (RQ ⟨h1,Bf _⟩)
theorem wp_run {α:Type}{lt:Nat->Nat->Bool}{n:Nat}{P:α->Prop}{ask:Nat->Nat->(Bool->A4->Prop)->A4->Prop}{Q:α->A4->Prop}{s:A4}(h:∀i j C,i<n->j<n->C (lt i j) s->ask i j C s):∀t:KasT α,InQ n P t->Q (run lt t) s->t.kasWp ask Q s
 |.ret a,_,q=>q
 |.ask i j k,hi,q=>h i j _ hi.1 hi.2.1 (wp_run h (k (lt i j)) (hi.2.2 _) q)
theorem out_ok {α:Type}(lt:α->α->Bool)(O:(∀a,lt a a=false)/\(∀a b c,lt a b=true->lt b c=true->lt a c=true)/\(∀a b c,lt a c=true->lt a b=true\/lt b c=true))(d:α)(xs:List α)(h1:1<=xs.length) :
   let p:=run (λi j=>lt (xs.getD i d) (xs.getD j d)) (P1 xs.length)
   (p.toList.map λi=>xs.getD i d).Perm xs/\(p.toList.map λi=>xs.getD i d).Pairwise (λa b=>lt b a=false):=by
 intro p;have OO:Ord λi j=>lt (xs.getD i d) (xs.getD j d):=⟨λa=>O.1 _,λa b c=>O.2.1 _ _ _,λa b c=>O.2.2 _ _ _⟩;obtain⟨a1,a2,a3⟩:=sort_ok OO h1;constructor
 ·have hp:p.toList.Perm (C2 xs.length):=Go.mp a1;have:=hp.map λi=>xs.getD i d;refine this.trans (List.Perm.of_eq ?_)
  apply List.ext_getElem 0o0
  intro i h2 h3;simp[h3]
 ·rw[Y3];intro i j hi hj hij;have hi':i<p.size:=by simpa using hi
  have hj':j<p.size:=by simpa using hj
  have:=a3 i j (l6 hij) (by rw[<- a2];exact hj');simp only[List.getElem_map,Array.getElem_toList];have e1:g p i=p[i]:=by unfold g;simp[Array.getD,hi']
  have e2:g p j=p[j]:=by unfold g;simp[Array.getD,hj']
  have this':lt (xs.getD (g p j) d) (xs.getD (g p i) d)=false:=this;rw[e1,e2] at this';exact this'
end Kr
end L2
end
section
namespace L2
open PySem PySem.W PySem.Spec PyProof.Rows
noncomputable def Q9 (lt:Nat->Nat->Bool)(vs:List A3):List A3:=if vs.length<2 then vs else(Kr.run lt (P1 vs.length)).toList.map λi=>vs.getD i Q6
section
variable {prog:C3}{w:B9}{A:D0}{E:A3->A4->Prop}{s:A4}
def EO (h h1:B3)(a:A1):Prop:=∀b o,b≠a->h.get? b=some o->h1.get? b=some o
def Mp {a:A1}{vs:List A3}{n:Nat}{lt:Nat->Nat->Bool}{P:PySem.Fin->A4->Prop}(ho:s.heap.get? a=some (seqObj "list" vs.toArray n))(h64:vs.length<64)
   (hk:2<=vs.length->∀h1,EO s.heap h1 a->∃κ,(∀Q:SortKind->A4->Prop,Q κ { s with heap:=h1 }->A5 (A7 prog w) A (keyKind' vs.toArray) Q E { s with heap:=h1 })/\∀i j (C:Bool->A4->Prop),i<vs.length->j<vs.length->C (lt i j) { s with heap:=h1 }->kas_ask prog w A κ vs i j C { s with heap:=h1 })
   (h:∀h2 e,EO s.heap h2 a->h2.get? a=some (seqObj "list" (Q9 lt vs).toArray e)->P (.done (.ret .none)) { s with heap:=h2 }):A5 (A7 prog w) A (M7.«list.sort» ⟨[.ref a],[]⟩) P E s:=by
 have ha:a<s.heap.objs.size:=C4 ho;have hsz:vs.toArray.size=vs.length:=0o0
 rw[list_sort_plain];refine A2 (listItems_at ho rfl ?_);refine A2 (listUpdate_at ho rfl ?_ (by rw[hsz,O0];ext) (F7 _));obtain⟨e1,ho1⟩:∃e1,(s.heap.update a (P6 λ_=>(#[]:Array A3))).get? a=some (seqObj "list" #[] e1):=⟨_,get?_update_seq ho λ_=>#[]⟩;refine A2 (seqEpoch_at ho1 rfl ?_);refine A2 (wpAny_newTuple ?_ (by show vs.length<=_;rw[O0];ext));refine A2 (wpAny_newList ?_ (F7 _));refine K5 ?_;show A5 (A7 prog w) A _ P E { s with heap:=((s.heap.update a (P6 λ_=>(#[]:Array A3))).push (seqObj "tuple" vs.toArray 0)).push (seqObj "list" #[] 0) };have ho3:=B7 (seqObj "list" #[] 0) (B7 (seqObj "tuple" vs.toArray 0) ho1)
 have k3:EO s.heap (((s.heap.update a (P6 λ_=>(#[]:Array A3))).push (seqObj "tuple" vs.toArray 0)).push (seqObj "list" #[] 0)) a:=λb o hb e=>
  B7 _ (B7 _ (((V1 s.heap a (P6 λ_=>(#[]:Array A3))).2 b hb).trans e))
 generalize ((s.heap.update a (P6 λ_=>(#[]:Array A3))).push (seqObj "tuple" vs.toArray 0)).push (seqObj "list" #[] 0)=h3 at ho3 k3 ⊢;dsimp only
 have last:∀out:Array A3,out.size=vs.length->out=(Q9 lt vs).toArray->∃e,(h3.update a (P6 λ_=>out)).get? a=some (seqObj "list" (Q9 lt vs).toArray e)/\EO s.heap (h3.update a (P6 λ_=>out)) a:=λout _ eo=>
  ⟨_,by rw[<- eo];exact get?_update_seq ho3 λ_=>out,λb o hb e=>((V1 h3 a (P6 λ_=>out)).2 b hb).trans (k3 b o hb e)⟩
 by_cases h2:vs.toArray.size<2
 ·rw[jt h2,jt h2];refine A2 (A9 ?_);rw[StateT.run_pure];refine A2 (A9 ?_);dsimp only
  have eo:(arrOf (SortSt.mk' general' (vs.toArray.zip vs.toArray) #[] 7 none)).map (·.2)=(Q9 lt vs).toArray:=by
   have e2:(arrOf (SortSt.mk' general' (vs.toArray.zip vs.toArray) #[] 7 none))=vs.toArray.zip vs.toArray:=rfl;rw[e2];unfold Q9;rw[jt 0x0]
   apply Array.toList_inj.mp
   rw[Array.toList_map,Array.toList_zip];exact List.map_snd_zip (B2 _)
  obtain⟨e,x1,x2⟩:=last _ (by rw[eo];unfold Q9;rw[jt 0x0];simp) eo;refine A2 (seqEpoch_at ho3 rfl ?_);refine A2 (listUpdate_at ho3 rfl ?_ (F7 _) (by rw[eo];unfold Q9;rw[jt 0x0,hsz,O0];ext));simp only[bne_self_eq_false,K8,if_false];exact A9 (h _ e x2 x1)
 ·rw[ju h2,ju h2];have l2:2<=vs.length:=0x0
  obtain⟨κ,q1,q2⟩:=hk l2 h3 k3;refine A2 (q1 _ ?_);have wp:=Kr.wp_run (Q:=λp s'=>p=Kr.run lt (P1 vs.length)/\s'={ s with heap:=h3 }) (P:=Kr.En vs.length) q2 (P1 vs.length) (Kr.sort_in 0x0) ⟨rfl,rfl⟩;refine A2 (G5 (kat_run (E:=E) (Q:=λst' s'=>∃p:Array Nat,p.size=vs.length/\arrOf st'=p.map (kas_item (vs.toArray.zip vs.toArray))/\failedOf st'=none/\p=Kr.run lt (P1 vs.length)/\s'={ s with heap:=h3 }) rfl l2 h64 (λp' st' s' a1 a2 a3 a4=>⟨p',a1,a2,a3,a4⟩) wp) ?_ λ_ _ e=>e);rintro⟨⟨⟩,st'⟩ s' ⟨p,hp,har,hf,ep,rfl⟩;dsimp only
  have eo:(arrOf st').map (·.2)=(Q9 lt vs).toArray:=by
   rw[kat_snds rfl har,ep];unfold Q9;rw[ju 0x0]
  have so:((arrOf st').map (·.2)).size=vs.length:=by rw[eo];unfold Q9;rw[ju 0x0,E9,B0,M3,<- ep,hp]
  obtain⟨e,x1,x2⟩:=last _ so eo;refine A2 (seqEpoch_at ho3 rfl ?_);refine A2 (listUpdate_at ho3 rfl ?_ (F7 _) (by rw[so,O0];ext));rw[hf];simp only[bne_self_eq_false,K8,if_false];exact A9 (h _ e x2 x1)
def RR (h64:vs.length<64)
   (hcol:∀(R:List A3->A4->Prop),(∀h1 tk,(∀b o,s.heap.get? b=some o->h1.get? b=some o)->s.heap.objs.size<=h1.objs.size->R vs { s with heap:=h1,toks:=tk })->A5 (A7 prog w) A.in1 (collect v) R E s)
   (hk:2<=vs.length->∀(A:D0) (E:A3->A4->Prop) h1 tk,(∀b o,s.heap.get? b=some o->h1.get? b=some o)->∃κ,(∀Q:SortKind->A4->Prop,Q κ { s with heap:=h1,toks:=tk }->A5 (A7 prog w) A (keyKind' vs.toArray) Q E { s with heap:=h1,toks:=tk })/\∀i j (C:Bool->A4->Prop),i<vs.length->j<vs.length->C (lt i j) { s with heap:=h1,toks:=tk }->kas_ask prog w A κ vs i j C { s with heap:=h1,toks:=tk })
   (h:∀h2 tk D e,(∀b o,s.heap.get? b=some o->h2.get? b=some o)->s.heap.objs.size<=D->h2.get? D=some (seqObj "list" (Q9 lt vs).toArray e)->Q (.ref D) { s with heap:=h2,toks:=tk }) :
   A5 (A7 prog w) A (call (.builtin "sorted") [v]) Q E s:=by
 refine Calls.call_function_entry kind_sorted plain_sorted entry_sorted (args_sorted1 _) ?_;unfold M7.«sorted»;refine A2 (m:=checkCount "sorted" 1 1 _) (A9 ?_);refine A2 (hcol _ λh1 tk k1 z1=>?_);refine A2 (wpAny_newList ?_ (by rw[O0];ext));have hoL:(h1.push (seqObj "list" vs.toArray 0)).get? h1.objs.size=some (seqObj "list" vs.toArray 0):=E7 _ rfl;have kL:∀b o,s.heap.get? b=some o->(h1.push (seqObj "list" vs.toArray 0)).get? b=some o:=λb o e=>B7 _ (k1 b o e);have ne:∀b o,s.heap.get? b=some o->b≠h1.objs.size:=λb o e=>E6 (M2 (C4 e) z1);refine A2 (K5 (N9 slot_list_sort ⟨_,hoL,rfl⟩ entry_list_sort ?body (args_list_sort _)))
 case body=>
  refine Mp (lt:=lt) (s:={ s with heap:=h1.push (seqObj "list" vs.toArray 0),toks:=tk }) hoL h64 (λl2 h3 k3=>?_) λh3 e k3 e3=>?_
  ·exact hk l2 _ _ h3 tk λb o x=>k3 b o (ne b o x) (kL b o x)
  ·exact⟨_,rfl,A9 ⟨_,rfl,h h3 tk _ e (λb o x=>k3 b o (ne b o x) (kL b o x)) z1 e3⟩⟩
end
noncomputable def L9:Key->Key->Bool
 |.inl a,.inl b=>decide (a<b)
 |.inr a,.inr b=>decide (a.cps.toList<b.cps.toList)
 |.inl _,.inr _=>true
 |.inr _,.inl _=>false
noncomputable def lexK:List Key->List Key->Bool
 |[],[]=>false
 |[],_::_=>true
 |_::_,[]=>false
 |x::xs,y::ys=>if x=y then lexK xs ys else L9 x y
def RS {a b:Str}(h:a.cps.toList=b.cps.toList):a=b:=by
 cases a;cases b
 congr 1
 exact Array.toList_inj.mp h
def HH (x:Key):L9 x x=false:=by
 cases x with
 |inl a=>exact jr (Int.lt_irrefl a)
 |inr a=>exact jr (List.lt_irrefl _)
def RT (h1:L9 x y=true)(h2:L9 y z=true):L9 x z=true:=by
 cases x <;> cases y <;> cases z <;> simp only[L9,decide_eq_true_eq,reduceCtorEq] at * <;> first|omega|exact List.lt_trans h1 h2|skip
def RU (h:x≠y):L9 x y=true\/L9 y x=true:=by
 cases x with
 | inl a =>
  cases y with
  | inl b =>
   have:a≠b:=λe=>h (by rw[e]);simp only[L9,decide_eq_true_eq];ext
  |inr b=>exact .inl rfl
 | inr a =>
  cases y with
  |inl b=>exact .inr rfl
  | inr b =>
   have hn:a.cps.toList≠b.cps.toList:=λe=>h (by rw[RS e]);simp only[L9,decide_eq_true_eq]
   by_cases c:a.cps.toList<b.cps.toList
   ·exact .inl c
   ·by_cases c2:b.cps.toList<a.cps.toList
    ·exact .inr c2
    ·exact absurd (List.le_antisymm (List.not_lt.mp c2) (List.not_lt.mp c)) hn
theorem HI:∀x:List Key,lexK x x=false
 |[]=>rfl
 |x::xs=>by show(if x=x then lexK xs xs else _)=false;rw[jt rfl,HI xs]
theorem EQ:∀{x y z:List Key},lexK x y=true->lexK y z=true->lexK x z=true
 |[],[],_,h,_=>by cases h
 |[],_::_,[],_,h=>by cases h
 |[],_::_,_::_,_,_=>rfl
 |_::_,[],_,h,_=>by cases h
 |_::_,_::_,[],_,h=>by cases h
 | x :: xs, y :: ys, z :: zs, h1, h2 => by
  change (if x=y then lexK xs ys else L9 x y)=true at h1
  change (if y=z then lexK ys zs else L9 y z)=true at h2
  show(if x=z then lexK xs zs else L9 x z)=true
  by_cases c1:x=y
  ·rw[jt c1] at h1;subst c1
   by_cases c2:x=z
   ·rw[jt c2] at h2 ⊢;exact EQ h1 h2
   ·rw[ju c2] at h2 ⊢;exact h2
  ·rw[ju c1] at h1
   by_cases c2:y=z
   ·subst c2;rw[ju c1];exact h1
   ·rw[ju c2] at h2;have h3:=RT h1 h2
    by_cases c3:x=z
    ·rw[c3,HH] at h3;cases h3
    ·rw[ju c3];exact h3
theorem HJ:∀{x y:List Key},x≠y->lexK x y=true\/lexK y x=true
 |[],[],h=>absurd rfl h
 |[],_::_,_=>.inl rfl
 |_::_,[],_=>.inr rfl
 | x :: xs, y :: ys, h => by
  show(if x=y then lexK xs ys else L9 x y)=true\/(if y=x then lexK ys xs else L9 y x)=true
  by_cases c:x=y
  ·rw[jt c,jt c.symm];exact HJ λe=>h (by rw[c,e])
  ·rw[ju c,ju (λe=>c e.symm)];exact RU c
def Mq {x y z:List Key}(h:lexK x z=true):lexK x y=true\/lexK y z=true:=by
 by_cases c:x=y
 ·grind
 ·rcases HJ c with h1|h1
  ·grind
  ·exact .inr (EQ h1 h)
def Mr (h1:lexK x y=false)(h2:lexK y x=false):x=y:=by
 by_cases c:x=y
 ·exact c
 ·rcases HJ c with h|h
  ·grind
  ·grind
def Al:List Key->List Key->Prop
 |.inl _::xs,.inl _::ys=>Al xs ys
 |.inr _::xs,.inr _::ys=>Al xs ys
 |_::_,_::_=>False
 |_,_=>True
def KeyV:Key->A3->Prop
 |.inl i,v=>∃t,v=.int i t
 |.inr z,v=>∃t,v=.str z t
inductive q8:List Key->List A3->Prop
 |nil:q8 [] []
 |cons {k v ks vs} (h:KeyV k v) (t:q8 ks vs):q8 (k::ks) (v::vs)
section
variable {prog:C3}{w:B9}{A:D0}{E:A3->A4->Prop}{s:A4}
def RW (hx:KeyV x u)(hy:KeyV y v)(al:Al (x::xs) (y::ys))(h:Q (decide (x=y)) s):A5 (A7 prog w) A (eqBool u v) Q E s:=by
 cases x with
 | inl a =>
  cases y with
  | inl b =>
   obtain⟨t,rfl⟩:=hx;obtain⟨t',rfl⟩:=hy;refine wpAny_eqBool_int ?_
   have e:(a == b)=decide ((M9 a:Key)=.inl b):=by
    rw[Cj];exact decide_eq_decide.mpr ⟨λe=>by rw[e],λe=>by injection e⟩
   rw[e];exact h
  |inr b=>exact al.elim
 | inr a =>
  cases y with
  |inl b=>exact al.elim
  | inr b =>
   obtain⟨t,rfl⟩:=hx;obtain⟨t',rfl⟩:=hy;refine eqBool_str ?_
   have e:(a == b)=decide ((D1 a:Key)=.inr b):=by
    rw[Cj];exact decide_eq_decide.mpr ⟨λe=>by rw[e],λe=>by injection e⟩
   rw[e];exact h
def lt_key (hx:KeyV x u)(hy:KeyV y v)(al:Al (x::xs) (y::ys))(h:Q (.bool (L9 x y)) s):A5 (A7 prog w) A (K6 .Lt u v) Q E s:=by
 cases x with
 | inl a =>
  cases y with
  | inl b =>
   obtain⟨t,rfl⟩:=hx;obtain⟨t',rfl⟩:=hy;exact PyProof.Rows.lt_int h
  |inr b=>exact al.elim
 | inr a =>
  cases y with
  |inl b=>exact al.elim
  | inr b =>
   obtain⟨t,rfl⟩:=hx;obtain⟨t',rfl⟩:=hy;exact PyProof.Rows.lt_str h
def HK (hx:KeyV x u)(hy:KeyV y v)(al:Al (x::xs) (y::ys))(h:Q (L9 x y) s):A5 (A7 prog w) A (oneLt' b u v) Q E s:=by
 cases b with
 |false=>exact kat_one u v (lt_key hx hy al h)
 | true =>
  cases x with
  | inl a =>
   cases y with
   | inl b =>
    obtain⟨t,rfl⟩:=hx;obtain⟨t',rfl⟩:=hy;exact oneLt_int h
   |inr b=>exact al.elim
  | inr a =>
   cases y with
   |inl b=>exact al.elim
   | inr b =>
    obtain⟨t,rfl⟩:=hx;obtain⟨t',rfl⟩:=hy;exact oneLt_str h
def RX:∀{xs ys:List Key} {us vs:List A3} (i:Nat),q8 xs us->q8 ys vs->Al xs ys->fin=decide (us.length<vs.length)->Q (lexK xs ys) s->KatLex prog w A b fin Q (us.zip vs) i s:=by
 intro xs
 induction xs with
 | nil =>
  intro ys us vs i hx hy al hf h;cases hx;refine kat_nil ?_;cases hy with
  |nil=>rw[hf];exact h
  |cons _ _=>rw[hf];exact h
 | cons x xs ih =>
  intro ys us vs i hx hy al hf h;cases hx with
  | @cons _ u _ us' hx1 hx2 =>
   cases hy with
   |nil=>rw[List.zip_nil_right];refine kat_nil ?_;rw[hf];exact h
   | @cons y v ys' vs' hy1 hy2 =>
    rw[AR];refine kat_cons (RW hx1 hy1 al ?_);have h':Q (if x=y then lexK xs ys' else L9 x y) s:=h
    by_cases c:x=y
    ·rw[jq c];rw[jt c] at h';refine kat_yes (ih (i+1) hx2 hy2 ?_ ?_ h')
     ·cases x <;> cases y <;> first|exact al|exact al.elim
     ·rw[hf,D5,D5];exact decide_eq_decide.mpr 0x0
    ·rw[jr c];rw[ju c] at h';exact kat_no (HK hx1 hy1 al h')
def TupK (h:B3)(v:A3)(ks:List Key):Prop:=∃a o items n,v=.ref a/\h.get? a=some o/\o.cls=.type "tuple"/\o.data=.seq items n/\q8 ks items.toList
def RY (hx:TupK s.heap u xs)(hy:TupK s.heap v ys)(al:Al xs ys)(h:Q (lexK xs ys) s):A5 (A7 prog w) A (keyLt' (tuples' b) u v) Q E s:=by
 obtain⟨a,o,items,n,rfl,ho,hc,hd,hk⟩:=hx;obtain⟨a',o',jn,n',rfl,ho',hc',hd',hk'⟩:=hy;exact kat_lt ho hd ho' hd' (RX 0 hk hk' al (by rw[M3,M3]) h)
end
theorem HL:∀{ks:List Key} {us:List A3},Vals (ks.map kV) us->q8 ks us
 |[],_,h=>by cases h;exact .nil
 | .inl i :: ks, _, h => by
  cases h with
  |cons h1 h2=>exact .cons h1 (HL h2)
 | .inr z :: ks, _, h => by
  cases h with
  |cons h1 h2=>exact .cons h1 (HL h2)
section
variable {X:Cx}
def HM (I:Inv X jb σ H s)(h:SqT X.K H a (ks.map kV)):TupK s.heap (.ref a) ks:=by
 obtain⟨jf,r,⟨o,ho,hc,n,hd⟩,_⟩:=I.tuple h;exact⟨a,o,jf.toArray,n,rfl,ho,hc,hd,HL r⟩
def TupK.keep (t:TupK h v ks)(k:∀b o,h.get? b=some o->h'.get? b=some o):TupK h' v ks:=by
 obtain⟨a,o,jf,n,e,ho,hc,hd,hk⟩:=t;exact⟨a,o,jf,n,e,k _ _ ho,hc,hd,hk⟩
def KM (K:A8)(H:Hp):Nat->V->List Key->Prop
 |0,y,ks=>∃i,y=.int i/\ks=[.inl i]
 |1,y,ks=>∃z,y=.str z/\ks=[.inr z]
 |_,y,ks=>∃a,y=.ref a/\SqT K H a (ks.map kV)/\ks≠[]
def Kv1 (h:B3):Nat->A3->List Key->Prop
 |0,u,ks=>∃i t,u=.int i t/\ks=[.inl i]
 |1,u,ks=>∃z t,u=.str z t/\ks=[.inr z]
 |_,u,ks=>TupK h u ks/\ks≠[]
noncomputable def ltIx (jp:List (List Key))(i j:Nat):Bool:=lexK (jp.getD i []) (jp.getD j [])
def ER (jp:List (List Key)):Kr.Ord (ltIx jp):=⟨λ_=>HI _,λ_ _ _ h1 h2=>EQ h1 h2,λ_ _ _ h=>Mq h⟩
def u3 (jp:List (List Key)):Prop:=∀x∈jp,∀y∈jp,Al x y
def kv1_of (I:Inv X jb σ H s)(m:Nat)(a:Vals ys vs)(b:Paired (KM X.K H m) ys jp):Paired (Kv1 s.heap m) vs jp:=by
 induction a generalizing jp with
 |nil=>cases b;exact .nil
 | cons h1 _ ih => cases b with
  | cons h2 r2 =>
   refine .cons ?_ (ih r2);rcases m with _|_|m
   ·obtain⟨i,e1,e2⟩:=h2;subst e1;obtain⟨t,rfl⟩:=h1;exact⟨i,t,rfl,e2⟩
   ·obtain⟨i,e1,e2⟩:=h2;subst e1;obtain⟨t,rfl⟩:=h1;exact⟨i,t,rfl,e2⟩
   ·obtain⟨a,e1,e2,e3⟩:=h2;subst e1;cases h1;exact⟨HM I e2,e3⟩
theorem Kv1.keep (k:∀b o,h.get? b=some o->h'.get? b=some o)(m:Nat)(x:Kv1 h m u ks):Kv1 h' m u ks:=by
 match m,x with
 |0,x=>exact x
 |1,x=>exact x
 |_+2,x=>exact⟨x.1.keep k,x.2⟩
def Ax {α β:Type}{F:α->β->Prop}{xs:List α}{ys:List β}(h:Paired F xs ys)(d:α)(e:β):∀i,i<xs.length->F (xs.getD i d) (ys.getD i e):=by
 induction h with
 |nil=>intro i hi;exact absurd hi (Cf _)
 | cons h1 _ ih =>
  intro i hi;cases i with
  |zero=>exact h1
  |succ i=>exact ih i (Nat.lt_of_succ_lt_succ hi)
def Ms {α β:Type}{F:α->β->Prop}{xs:List α}{ys:List β}(h:Paired F xs ys):∀x∈xs,∃y∈ys,F x y:=by
 induction h with
 |nil=>intro x hx;cases hx
 | cons h1 _ ih =>
  intro x hx;rcases B5.mp hx with rfl|hx
  ·exact⟨_,B8,h1⟩
  ·obtain⟨y,hy,hf⟩:=ih x hx;exact⟨y,B6 _ hy,hf⟩
def RZ (p:Paired (Kv1 h (m+2)) vs jp):∃fs,KatTups h vs fs/\fs.length=vs.length/\∀f∈fs,∃k r,(k::r)∈jp/\KeyV k f:=by
 induction p with
 |nil=>exact⟨[],trivial,rfl,λ_ z=>nomatch z⟩
 | cons h1 _ ih =>
  obtain⟨⟨a,o,jf,n,rfl,ho,hc,hd,hk⟩,hne⟩:=h1;obtain⟨fs,t,hl,hf⟩:=ih;cases e:jf.toList with
  |nil=>rw[e] at hk;cases hk;exact absurd rfl hne
  | cons f us =>
   rw[e] at hk;cases hk with
   | @cons k _ ks _ h2 h3 =>
    have ef:jf[0]?=some f:=by rw[<- P5,e];rfl
    refine⟨f::fs,KatTups.cons ho hc hd ef t,by rw[D5,D5,hl],λg hg=>?_⟩;rcases B5.mp hg with rfl|hg
    ·exact⟨k,ks,B8,h2⟩
    ·obtain⟨k',r',h4,h5⟩:=hf g hg;exact⟨k',r',B6 _ h4,h5⟩
def Mt {s:A4}(h2:2<=vs.length)(p:Paired (Kv1 s.heap m) vs jp)(al:u3 jp)(A:D0)(E:A3->A4->Prop)(h1:B3)(tk:Nat)(k:∀b o,s.heap.get? b=some o->h1.get? b=some o) :
   ∃κ,(∀Q:SortKind->A4->Prop,Q κ { s with heap:=h1,toks:=tk }->A5 (A7 prog w) A (keyKind' vs.toArray) Q E { s with heap:=h1,toks:=tk })/\∀i j (C:Bool->A4->Prop),i<vs.length->j<vs.length->C (ltIx jp i j) { s with heap:=h1,toks:=tk }->kas_ask prog w A κ vs i j C { s with heap:=h1,toks:=tk }:=by
 have p1:Paired (Kv1 h1 m) vs jp:=Paired.imp' (λ_ _ x=>x.keep k m) p;have lk:=Cs p1
 have mem:∀i,i<vs.length->jp.getD i []∈jp:=λi hi=>by
  rw[Y2,C9 0x0];exact y0 _
 match m,p1 with
 | 0, p1 =>
  refine⟨oneType',λQ q=>kas_kind (T:=.type "int") h2 (λv hv=>?_) rfl rfl q,λi j C hi hj c=>?_⟩
  ·obtain⟨ks,_,i,t,rfl,_⟩:=Ms p1 v hv;exact Looks.of_pure rfl
  ·obtain⟨a,t,e1,e2⟩:=Ax p1 .none [] i hi;obtain⟨b,t',e3,e4⟩:=Ax p1 .none [] j hj;unfold kas_ask;unfold ltIx at c;rw[e1,e3,keyLt'_oneType];rw[e2,e4] at c;refine HK (x:=.inl a) (y:=.inl b) (xs:=[]) (ys:=[]) ⟨t,rfl⟩ ⟨t',rfl⟩ trivial ?_
   have e:lexK [.inl a] [.inl b]=L9 (.inl a) (.inl b):=by
    show(if(M9 a:Key)=.inl b then false else L9 (.inl a) (.inl b))=_
    by_cases c:(M9 a:Key)=.inl b
    ·rw[jt c,c,HH]
    ·rw[ju c]
   rw[<- e];exact c
 | 1, p1 =>
  refine⟨oneType',λQ q=>kas_kind (T:=.type "str") h2 (λv hv=>?_) rfl rfl q,λi j C hi hj c=>?_⟩
  ·obtain⟨ks,_,i,t,rfl,_⟩:=Ms p1 v hv;exact Looks.of_pure rfl
  ·obtain⟨a,t,e1,e2⟩:=Ax p1 .none [] i hi;obtain⟨b,t',e3,e4⟩:=Ax p1 .none [] j hj;unfold kas_ask;unfold ltIx at c;rw[e1,e3,keyLt'_oneType];rw[e2,e4] at c;refine HK (x:=.inr a) (y:=.inr b) (xs:=[]) (ys:=[]) ⟨t,rfl⟩ ⟨t',rfl⟩ trivial ?_
   have e:lexK [.inr a] [.inr b]=L9 (.inr a) (.inr b):=by
    show(if(D1 a:Key)=.inr b then false else L9 (.inr a) (.inr b))=_
    by_cases c:(D1 a:Key)=.inr b
    ·rw[jt c,c,HH]
    ·rw[ju c]
   rw[<- e];exact c
 | m' + 2, p1 =>
  obtain⟨fs,kt,fl,hf⟩:=RZ p1
  have asks:∀b i j (C:Bool->A4->Prop),i<vs.length->j<vs.length->C (ltIx jp i j) { s with heap:=h1,toks:=tk }->kas_ask prog w A (tuples' b) vs i j C { s with heap:=h1,toks:=tk }:=λb i j C hi hj c=>by
   have x1:=Ax p1 .none [] i hi;have x2:=Ax p1 .none [] j hj;exact RY (s:={ s with heap:=h1,toks:=tk }) x1.1 x2.1 (al _ (mem i hi) _ (mem j hj)) c
  obtain⟨f0,fr,rfl⟩:∃f0 fr,fs=f0::fr:=by
   cases fs with
   |nil=>rw[<- fl] at h2;exact absurd h2 0o0
   |cons a r=>exact⟨a,r,rfl⟩
  obtain⟨k0,r0,m0,v0⟩:=hf f0 B8
  have all:∀T:String,(∀f k r,(k::r)∈jp->KeyV k f->typeOf f=pure (.type T))->∀v∈f0::fr,Looks (A7 prog w) h1 (typeOf v) (.type T):=λT hT v hv=>by
   obtain⟨k,r,h3,h4⟩:=hf v hv;exact Looks.of_pure (hT v k r h3 h4)
  cases k0 with
  | inl i0 =>
   refine⟨tuples' (G9 "int" != G9 "tuple"),λQ q=>kat_kind (s:={ s with heap:=h1,toks:=tk }) kt 0o0 (all "int" λf k r h3 h4=>?_) rfl q,asks _⟩;cases k with
   |inl i=>obtain⟨t,rfl⟩:=h4;rfl
   |inr z=>exact(al _ m0 _ h3).elim
  | inr i0 =>
   refine⟨tuples' (G9 "str" != G9 "tuple"),λQ q=>kat_kind (s:={ s with heap:=h1,toks:=tk }) kt 0o0 (all "str" λf k r h3 h4=>?_) rfl q,asks _⟩;cases k with
   |inr i=>obtain⟨t,rfl⟩:=h4;rfl
   |inl z=>exact(al _ m0 _ h3).elim
noncomputable def outV (lt:Nat->Nat->Bool)(ys:List V):List V:=if ys.length<2 then ys else(Kr.run lt (P1 ys.length)).toList.map λi=>ys.getD i .non
def Mu (r:Vals ys vs)(O:Kr.Ord lt):Vals (outV lt ys) (Q9 lt vs):=by
 unfold outV Q9;rw[r.length]
 by_cases c:vs.length<2
 ·rw[jt c,jt c];exact r
 ·rw[ju c,ju c];obtain⟨a1,a2,_⟩:=Kr.sort_ok O (n:=vs.length) 0x0
  have hm:∀i∈(Kr.run lt (P1 vs.length)).toList,i<vs.length:=λi hi=>by
   have:=(Go.mp a1).mem_iff.mp hi
   simpa using this
  generalize (Kr.run lt (P1 vs.length)).toList=is at hm
  induction is with
  |nil=>exact .nil
  | cons i is ih =>
   refine .cons ?_ (ih λj hj=>hm j (B6 _ hj));exact Ax r .non .none i (by rw[r.length];exact hm i B8)
def R_:K3 X (.builtin "sorted") (λxs H Q=>∃p ys m jp,xs=[.ref p]/\SqL X.K H p ys/\ys.length<64/\Paired (KM X.K H m) ys jp/\u3 jp/\∀l,H l=none->Q (.ref l) (upd H l (.lst (outV (ltIx jp) ys)))):=by
 intro jb s σ H xs us Q I r h;obtain⟨p,ys,m,jp,rfl,hq,h64,hp,al,q⟩:=h;obtain⟨u,rfl,rx⟩:=Aj r;cases rx;obtain⟨jf,r',pl,hz⟩:=I.list hq;have hlen:=r'.length;have pk:=kv1_of I m r' hp;have O:=ER jp;refine RR (vs:=jf) (lt:=ltIx jp) 0x0 (λR hR=>?_) (λh2 A E h1 tk k=>Mt h2 pk al A E h1 tk k) λh2 tk D e k hD ho=>?_
 ·refine collect_list pl.isList (hR _ s.toks (λb o e=>?_) ?_) 0x0
  ·have hlt:b<s.heap.objs.size:=C4 e;rw[Heap.get?_update_ne _ _ _ _ (E6 hlt)];exact B7 _ e
  ·rw[Heap.size_update,size_push'];ext
 ·have vo:=Mu r' O
  have hl:(outV (ltIx jp) ys).length<=B4:=by
   unfold outV
   split
   ·ext
   ·rw[B0,M3,(Kr.sort_ok O 0x0).2.1];ext
  exact⟨.ref D,_,I.laid (t':=tk) k hD (show F9 X.prog X.w _ h2 _ (.lst (outV (ltIx jp) ys)) from⟨hl,_,e,vo,ho⟩),rfl,q _ (I.hok.fresh hD)⟩
end
end L2
end
section
namespace Pu
open PySem PySem.Spec L2
noncomputable def kP:Key->PV
 |.inl i=>.int i
 |.inr z=>.str z
noncomputable def u4:List PV->Option (List Key)
 |[]=>some []
 |.int i::r=>(u4 r).map (.inl i::·)
 |.str z::r=>(u4 r).map (.inr z::·)
 |_=>none
noncomputable def keyP:PV->List Key
 |.int i=>[.inl i]
 |.str z=>[.inr z]
 |.tup xs=>(u4 xs).getD []
 |_=>[]
theorem HN:∀ks:List Key,u4 (ks.map kP)=some ks
 |[]=>rfl
 |.inl i::r=>by show(u4 (r.map kP)).map _=_;rw[HN r];rfl
 |.inr i::r=>by show(u4 (r.map kP)).map _=_;rw[HN r];rfl
def R0 (ks:List Key):keyP (.tup (ks.map kP))=ks:=by show(u4 (ks.map kP)).getD []=_;rw[HN];rfl
theorem ET:∀(ks:List Key) {us:List V},Reps K G H (ks.map kP) us->us=ks.map kV
 |[],_,h=>h
 | .inl i :: r, _, h => by
  obtain⟨v,t,rfl,h1,h2⟩:=h;rw[ET r h2,show v=.int i from h1];rfl
 | .inr i :: r, _, h => by
  obtain⟨v,t,rfl,h1,h2⟩:=h;rw[ET r h2,show v=.str i from h1];rfl
section
variable {T:PotK}{ι:Type}{K:A8}{F:ι->Cx}{e:Expr}{pe:pE}{pos:Pos}
def EU (xs:List PV):Prop:=(∀x∈xs,∃i,x=.int i)\/(∀x∈xs,∃z,x=.str z)\/((∀x∈xs,∃ks,x=.tup (ks.map kP)/\ks≠[])/\∀x∈xs,∀y∈xs,Al (keyP x) (keyP y))
def Srt (ys xs:List PV):Prop:=ys.Perm xs/\ys.Pairwise λa b=>lexK (keyP b) (keyP a)=false
def Db (pe:pE):pA:=λenv n R=>pe env n λx jc n1=>match x with|.lst xs=>xs.length<64/\EU xs/\∀ys,Srt ys xs->R ys jc n1|_=>False
theorem Dc {G:Gh}{H:Hp}{P:PV->V->List Key->Prop}:∀(xs:List PV) {us:List V},Reps K G H xs us->(∀x∈xs,∀v,Rep K G H x v->P x v (keyP x))->Paired (λv ks=>∃x,x∈xs/\P x v ks) us (xs.map keyP)
 |[],_,h,_=>by cases h;exact .nil
 | x :: xs, _, h, hP => by
  obtain⟨v,t,rfl,h1,h2⟩:=h;refine .cons ⟨x,B8,hP x B8 v h1⟩ ?_;exact Paired.imp' (λv ks ⟨y,hy,hp⟩=>⟨y,B6 _ hy,hp⟩) (Dc xs h2 λy hy=>hP y (B6 _ hy))
def km_of (r:Reps K G H xs us)(h:EU xs):∃m,Paired (KM K H m) us (xs.map keyP)/\u3 (xs.map keyP):=by
 rcases h with h|h|⟨h,h'⟩
 ·refine⟨0,Paired.imp' (λv ks ⟨_,_,hp⟩=>hp) (Dc (P:=λ_ v ks=>KM K H 0 v ks) xs r λx hx v hv=>?_),λa ha b hb=>?_⟩
  ·obtain⟨i,rfl⟩:=h x hx;exact⟨i,hv,rfl⟩
  ·obtain⟨x,hx,rfl⟩:=D2.mp ha;obtain⟨y,hy,rfl⟩:=D2.mp hb;obtain⟨i,rfl⟩:=h x hx;obtain⟨j,rfl⟩:=h y hy;exact trivial
 ·refine⟨1,Paired.imp' (λv ks ⟨_,_,hp⟩=>hp) (Dc (P:=λ_ v ks=>KM K H 1 v ks) xs r λx hx v hv=>?_),λa ha b hb=>?_⟩
  ·obtain⟨i,rfl⟩:=h x hx;exact⟨i,hv,rfl⟩
  ·obtain⟨x,hx,rfl⟩:=D2.mp ha;obtain⟨y,hy,rfl⟩:=D2.mp hb;obtain⟨i,rfl⟩:=h x hx;obtain⟨j,rfl⟩:=h y hy;exact trivial
 ·refine⟨2,Paired.imp' (λv ks ⟨_,_,hp⟩=>hp) (Dc (P:=λ_ v ks=>KM K H 2 v ks) xs r λx hx v hv=>?_),λa ha b hb=>?_⟩
  ·obtain⟨ks,rfl,hne⟩:=h x hx;obtain⟨a,vs,rfl,at',rr⟩:=hv;rw[R0];refine⟨a,rfl,?_,hne⟩;rw[ET ks rr] at at';exact SqT.of at'.2
  ·obtain⟨x,hx,rfl⟩:=D2.mp ha;obtain⟨y,hy,rfl⟩:=D2.mp hb;exact h' x hx y hy
noncomputable def outP (xs:List PV):List PV:=if xs.length<2 then xs else(Kr.run (ltIx (xs.map keyP)) (P1 xs.length)).toList.map λi=>xs.getD i .non
def Mv (xs:List PV)(i:Nat):(xs.map keyP).getD i []=keyP (xs.getD i .non):=by grind [PV,keyP]
def EX (xs:List PV):Srt (outP xs) xs:=by
 unfold outP
 by_cases c:xs.length<2
 ·rw[jt c];refine⟨Cq _,?_⟩
  match xs,c with
  |[],_=>exact .nil
  |[x],_=>exact List.pairwise_singleton _ _
 ·rw[ju c]
  have e:ltIx (xs.map keyP)=λi j=>lexK (keyP (xs.getD i .non)) (keyP (xs.getD j .non)):=by
   funext i j
   unfold ltIx;rw[Mv,Mv]
  rw[e];exact Kr.out_ok (λa b:PV=>lexK (keyP a) (keyP b)) ⟨λ_=>HI _,λ_ _ _ h1 h2=>EQ h1 h2,λ_ _ _ h=>Mq h⟩ .non xs 0x0
def Sa (r:Reps K G H xs us)(i:Nat)(hi:i<xs.length):Rep K G H (xs.getD i .non) (us.getD i .non):=by
 induction xs generalizing us i with
 |nil=>exact absurd hi (Cf _)
 | cons x xs ih =>
  obtain⟨v,t,rfl,h1,h2⟩:=r;cases i with
  |zero=>exact h1
  |succ i=>exact ih h2 i (Nat.lt_of_succ_lt_succ hi)
def Mw (r:Reps K G H xs us):Reps K G H (outP xs) (outV (ltIx (xs.map keyP)) us):=by
 unfold outP outV;have hl:us.length=xs.length:=r.length.symm;rw[hl]
 by_cases c:xs.length<2
 ·rw[jt c,jt c];exact r
 ·rw[ju c,ju c];obtain⟨a1,a2,_⟩:=Kr.sort_ok (ER (xs.map keyP)) (n:=xs.length) 0x0
  have hm:∀i∈(Kr.run (ltIx (xs.map keyP)) (P1 xs.length)).toList,i<xs.length:=λi hi=>by
   have:=(Go.mp a1).mem_iff.mp hi
   simpa using this
  generalize (Kr.run (ltIx (xs.map keyP)) (P1 xs.length)).toList=is at hm
  induction is with
  |nil=>exact rfl
  |cons i is ih=>exact⟨_,_,rfl,Sa r i (hm i B8),ih λj hj=>hm j (B6 _ hj)⟩
def Sc (hg:∀z,Gl (F z) "sorted")(hm:∀z,(F z).mg "sorted"=none)(ha:QR T K F e pe)(hs:D8 e=true)(hK:∀z,(F z).K=K):QN T K F (.Call (.Name "sorted" p) [e] [] pos) (Db pe):=by
 obtain⟨t,h1,h2⟩:=ha;refine⟨_,λz=>g9 (hK z▸R_) (hg z) (hm z) KP (E3 (h1 z) G0 (C5 hs)) 0b0 0b0 (C5 hs),⇑?_⟩;refine Ew h2 hK hT S hp λx jc n1 v H1 p1 S1 r1 f1=>?_;have rd:RdV K G H1 x v:=hK▸r1.rd S1;cases x with
 | lst xs =>
  obtain⟨h64,so,q⟩:=p1;obtain⟨a,us,rfl,hq,r⟩:=rd.lst;obtain⟨m,pk,al⟩:=km_of r so;have hl:us.length=xs.length:=r.length.symm;exact⟨a,us,m,xs.map keyP,rfl,hq,0x0,pk,al,λl hl=>k _ _ _ _ _ _ (q _ (EX xs)) S1 f1 hl (Mw r)⟩
 |_=>exact p1.elim
end
def tupP (ks:List Key):PV:=.tup (ks.map kP)
end Pu
end
section
namespace L2
open PySem PySem.Spec PyProof.Rows
def Sd:J5 "reversed"=some (.type "reversed"):=by decide +kernel
def Sf:isSubtype (.type "range_iterator") (.type "reversed")=pure false:=by rw[j7];kernel_rfl
noncomputable def BI (n:Int):Obj:={ cls:=.type "range_iterator",data:=.fields #[rawInt (0+(n-1)*1),rawInt n,rawInt (-1)] }
section
variable {prog:C3}{w:B9}{A:D0}{E:A3->A4->Prop}{s:A4}
def Sg (h0:0<=n)(h1:n<=1000000)(hr:s.heap.get? r=some { cls:=.type "range",data:=.fields #[.int 0 t,.int n u,.int 1 v] })
   (h:Q (.ref s.heap.objs.size) { s with heap:=s.heap.push (BI n) }):A5 (A7 prog w) A (call (.builtin "range.__reversed__") [.ref r]) Q E s:=by
 have hT:s.TypeIs (.ref r) "range":=⟨_,hr,rfl⟩;refine N9 F.slot_range_reversed hT F.entry_range_reversed ?_ (F.args_range_reversed_1 _);unfold M7.«range.__reversed__»;refine A2 (P0 (a:=K2 r) rfl ?_);refine A2 ?_;unfold Builtin.Range.rangeFields;refine A2 (L0 hr rfl (x:=.int 0 t) rfl ?_);refine A2 (P0 (a:=some (0:Int)) rfl ?_);refine A2 (L0 hr rfl (x:=.int n u) rfl ?_);refine A2 (P0 (a:=some n) rfl ?_);refine A2 (L0 hr rfl (x:=.int 1 v) rfl ?_);refine A2 (P0 (a:=some (1:Int)) rfl ?_);refine A9 ?_
 have hs:DS 0 n 1=n:=by
  unfold DS;rw[jt 0b0,Int.ediv_one]
  split <;> ext
 dsimp only;rw[hs]
 have sm:(Ac 0&&Ac n&&Ac 1&&Ac (-1)&&Ac (0-1)&&Ac n)=true:=by
  simp only[Ac,P4,decide_eq_true_eq];ext
 rw[sm];simp only[l7,K8,if_false,if_true];exact A2 (N7 (A9 ⟨_,rfl,h⟩))
def Sh (h0:0<=n)(h1:n<=1000000)(hr:s.heap.get? r=some { cls:=.type "range",data:=.fields #[.int 0 t,.int n u,.int 1 v] })
   (h:Q (.ref s.heap.objs.size) { s with heap:=s.heap.push (BI n) }):A5 (A7 prog w) A (call (.type "reversed") [.ref r]) Q E s:=by
 have hT:s.TypeIs (.ref r) "range":=⟨_,hr,rfl⟩;refine callType_other (U:="range_iterator") (Q₁:=λobj s₁=>obj=.ref s.heap.objs.size/\s₁={ s with heap:=s.heap.push (BI n) }) (by decide +kernel) F.create_reversed ⟨_,_,F.mro_reversed⟩ F.made_reversed Sf (F.typeCall_reversed_1 _) ?_ ?_
 ·refine DF ?_;show A5 _ A.in1.in1 (do checkBuiltinCall "reversed.__new__" ⟨[.type "reversed",.ref r],[]⟩;again (.builtin "reversed.__new__" ⟨[.type "reversed",.ref r],[]⟩)) _ _ s;refine A2 (P0 (F.newCall_reversed_1 _) (A9 ⟨k5 F.plain_reversed_new _,Z9 F.entry_reversed_new ?_⟩));rw[o6 F.plain_reversed_new _];unfold M7.«reversed.__new__»;refine A2 (P0 (newClass_reversed _) ?_)
  try dsimp only
  refine A2 (P0 (a:=()) (by first|rfl|kernel_rfl) ?_);refine A2 (P0 (a:=()) (by first|rfl|kernel_rfl) ?_)
  try dsimp only
  refine A2 (BU hT F.slot_range_reversed.lookup ?_)
  try dsimp only
  refine A2 (P0 (F.slot_range_reversed.bind _) ?_)
  try dsimp only
  first
  |rw[ju (show ¬((Value.builtin "range.__reversed__" == Q6)=true) from L3)]
  |(show A5 _ _ (if(Value.builtin "range.__reversed__" == Q6)=true then _ else _) _ _ _;rw[ju (show ¬((Value.builtin "range.__reversed__" == Q6)=true) from L3)])
  refine A2 (X8 ?_);refine A2 (m:=runValue (.call (.builtin "range.__reversed__") ⟨[.ref r],[]⟩)) (show A5 _ _ (call (.builtin "range.__reversed__") [.ref r]) _ _ _ from Sg h0 h1 hr ?_)
  first
  |exact A9 ⟨rfl,rfl⟩
  |exact A2 (A9 (A9 ⟨rfl,rfl⟩))
 ·rintro obj s₁ ⟨rfl,rfl⟩;exact⟨⟨_,E7 _ rfl,rfl⟩,h⟩
end
section
variable {X:Cx}{tg:Expr}
def tRng1 (ta:TA):TE:=λσ H Q=>ta σ H λvs H1=>∃j:Int,vs=[.int j]/\∀p,H1 p=none->Q (.ref p) (upd H1 p (.rng 0 j))
def Si (hg:Gl X "range")(hm:X.mg "range"=none)(ha:PA X [a] ta)(hs:D6 [a] X.env=[(false,eval a X.env)]:=by rfl):PE X (.Call (.Name "range" p) [a] [] pos) (tRng1 ta):=by
 intro jb s σ H Q I h;refine Call_ (Y8 I hg hm boot_range (l8 (thn (ha pos jb s σ H _ I h) λus s1 ⟨vs,H1,I1,r1,q1⟩=>?_) hs rfl));obtain⟨j,e,q⟩:=q1;subst e;cases r1 with
 | cons r rr =>
  cases rr;obtain⟨t,rfl⟩:=r;refine call_range_1 ?_;exact⟨.ref s1.heap.objs.size,_,I1.laid (a:=s1.heap.objs.size) (o:=.rng 0 j) (λb o e=>B7 _ e) (B2 _) ⟨_,_,_,E7 _ rfl⟩,rfl,q _ (I1.hok.fresh (B2 _))⟩
def iRevR (ta:TA):TI:=λσ H R=>ta σ H λvs H1=>∃(r:A1) (n:Int),vs=[.ref r]/\H1 r=some (.rng 0 n)/\0<=n/\n<=1000000/\R (Itd (n-1) n.toNat) H1
def Sj (hg:Gl X "reversed")(hm:X.mg "reversed"=none)(ha:PA X [e] ta)(hs:D6 [e] X.env=[(false,eval e X.env)]:=by rfl):PI X tg (.Call (.Name "reversed" p) [e] [] pos) (iRevR ta):=by
 intro jb s σ H R I h;refine Call_ (Y8 I hg hm Sd (l8 (thn (ha pos jb s σ H _ I h) λus s1 ⟨vs,H1,I1,r1,q1⟩=>?_) hs rfl));obtain⟨r,n,e,hr,h0,h2,q⟩:=q1;subst e;cases r1 with
 | cons rr0 rr =>
  cases rr;cases rr0;obtain⟨t,u,v,ho⟩:=(show F9 X.prog X.w H1 s1.heap r (.rng 0 n) from I1.hok r _ hr);refine Sh h0 h2 ho ?_;have I2:Inv X jb σ H1 { s1 with heap:=s1.heap.push (BI n) }:=I1.kept (t':=s1.toks) λb o e=>B7 _ e
  have st:IsRangeIter (s1.heap.push (BI n)) s1.heap.objs.size (n-1+((0:Nat):Int) * -1) ((n.toNat:Int)-((0:Nat):Int)) (-1):=by
   have e1:n-1+((0:Nat):Int) * -1=0+(n-1)*1:=0x0
   have e2:(n.toNat:Int)-((0:Nat):Int)=n:=0x0
   rw[e1,e2];exact E7 _ rfl
  refine Ge (s:={ s1 with heap:=s1.heap.push (BI n) }) st ?_;refine⟨s1.heap.objs.size,[s1.heap.objs.size],_,_,H1,rfl,I2,Q_ _ (n-1) n.toNat,st,λb hb=>?_,q⟩;have e:b=s1.heap.objs.size:=by simpa using hb
  subst e;exact I1.fpOk (B2 _) (I1.hok.fresh (B2 _))
end
end L2
namespace Pu
open PySem PySem.Spec L2
section
variable {T:PotK}{ι:Type}{K:A8}{F:ι->Cx}{tg e:Expr}{pe:pE}{pos:Pos}
def Dd (pe:pE):pA:=λenv n R=>pe env n λx jc n1=>match x with|.int j=>(0<=j/\j<=1000000)/\R ((C2 j.toNat).map λ(k:Nat)=>PV.int (j-1-k)) jc n1|_=>False
def Sk (hg:∀z,Gl (F z) "reversed")(hm:∀z,(F z).mg "reversed"=none)(hg2:∀z,Gl (F z) "range")(hm2:∀z,(F z).mg "range"=none)(h:QE T K F e pe)(hs:D8 e=true):QI T K F tg (.Call (.Name "reversed" p) [.Call (.Name "range" p2) [e] [] pos2] [] pos) (Dd pe):=by
 obtain⟨t,h1,h2⟩:=h;refine⟨_,λz=>Sj (hg z) (hm z) (E3 (Si (hg2 z) (hm2 z) (E3 (h1 z) G0 (C5 hs)) (C5 hs)) G0 (C5 rfl)) (C5 rfl),⇑?_⟩;refine ↥h2 λx jc n1 v H1 p1 S1 r1 f1=>?_;cases x with
 | int j =>
  refine⟨j,by rw[show v=.int j from r1],λp hn=>⟨p,j,rfl,D9,p1.1.1,p1.1.2,?_⟩⟩;exact k _ _ _ _ _ p1.2 (S1.same (Same.lay1 hn)) (f1.trans (Fr.of (Same.lay1 hn))) (Ra (j-1) _)
 |_=>exact p1.elim
end
end Pu
end
section
namespace L2
open PySem PySem.Spec PyProof.Rows
section
variable {prog:C3}{w:B9}{A:D0}{E:A3->A4->Prop}{s:A4}
def Sm {j:Nat}(ht:s.heap.IsTuple t jf)(hS:StrsAre jf.toList ys)(hj:ys[j]?=some k)(hlt:∀i,i<j->ys[i]?≠some k)(hsm:ys.length<=1000000)
   (h:∀tk,Q (.int j tk) { s with toks:=s.toks+1 }):A5 (A7 prog w) A (call (.builtin "tuple.index") [.ref t,.str k tok]) Q E s:=by
 obtain⟨o,ho,hc,n,hd⟩:=id ht;have hT:s.TypeIs (.ref t) "tuple":=⟨o,ho,hc⟩;refine N9 F.slot_tuple_index hT F.entry_tuple_index ?_ (F.args_tuple_index_2 _ _);unfold M7.«tuple.index»;refine A2 (P0 (a:=(K2 t,[Value.str k tok])) rfl ?_);refine A2 (wpAny_tupleItemsOf ho hd ?_);dsimp only;refine A2 (A9 (A2 (A9 ?_)));refine A2 ?_;have hlen:ys.length=jf.toList.length:=(StrsAre.length hS).symm
 have at_:∀(i:Nat) (y:Str),ys[i]?=some y->∃u,jf[i]?=some (.str y u):=by
  intro i y hy
  have:∀{us:List A3} {zs:List Str},StrsAre us zs->∀(i:Nat),zs[i]?=some y->∃u,us[i]?=some (.str y u):=by
   intro us zs hh
   induction hh with
   |nil=>intro i h;cases h
   | cons x t _ ih =>
    intro i h;cases i with
    |zero=>cases h;exact⟨t,rfl⟩
    |succ i=>exact ih i (by simpa using h)
  obtain⟨u,hu⟩:=this hS i hy;exact⟨u,by rw[<- P5];exact hu⟩
 have hjl:j<jf.size:=by
  have:=(D3.mp hj).1;rw[hlen,M3] at this;exact this
 rw[Std.Legacy.Range.forIn_eq_forIn_range'];refine DB _ (λrest r s'=>r.1=none/\s'=s/\∃i,rest=List.range' i (jf.size-i)/\i<=j) _ ?_ ?_ _ _ ⟨rfl,rfl,0,?_,F7 _⟩
 ·rintro x rest ⟨r1,r2⟩ s' ⟨hr,rfl,i0,hi,hij⟩;have hil:jf.size-i0=(jf.size-i0-1)+1:=0x0
  rw[hil,List.range'_succ] at hi;obtain⟨i,hxi⟩:∃i,x=i:=⟨x,rfl⟩;injection hi with h1 h2;subst h2;have hi0:i0=i:=by rw[<- hxi,h1]
  subst hi0;subst hxi;clear h1
  revert hij hil
  generalize x=i;intro hij hil;have hiy:i<ys.length:=by rw[hlen,M3];ext
  obtain⟨u,hu⟩:=at_ i ys[i] (C9 hiy);rw[hu];dsimp only;refine A2 (eqBool_str ?_)
  by_cases c:i=j
  ·subst c
   have:ys[i]=k:=by
    have:=C9 hiy;rw[hj] at this;exact(L4 this).symm
   rw[this,beq_self_eq_true,jt rfl];refine A2 (A2 (wpAny_mkInt (A9 (A9 ?_))));exact A9 ⟨_,rfl,h _⟩
  ·have:ys[i]≠k:=λe=>hlt i 0x0 (by rw[C9 hiy,e]);rw[beq_eq_false_iff_ne.mpr this,ju L3];refine A9 ⟨rfl,rfl,i+1,?_,0x0⟩;rw[show jf.size-(i+1)=jf.size-i-1 by omega]
 ·rintro⟨r1,r2⟩ s' ⟨hr,rfl,i,hi,hij⟩;have hil:jf.size-i=(jf.size-i-1)+1:=0x0
  rw[hil,List.range'_succ] at hi;cases hi
 ·simp[Std.Legacy.Range.size]
end
section
variable {X:Cx}
def Mx (K:A8):V->List V->Hp->VK->Prop:=λx vs H Q=>∃(l:A1) (k:Str) (ys:List Str) (j:Nat),x=.ref l/\vs=[.str k]/\SqT K H l (ys.map V.str)/\ys.length<=1000000/\ys[j]?=some k/\(∀i,i<j->ys[i]?≠some k)/\Q (.int j) H
def Sn:MtM X "tuple.index" (Mx X.K):=by
 intro jb s σ H x vs v us Q I rx rv h;obtain⟨l,k,ys,j,rfl,rfl,hq,hz0,hj,hlt,q⟩:=h;cases rx;obtain⟨u,rfl,ru⟩:=rv.one;obtain⟨t,rfl⟩:=ru;obtain⟨jf,r,p,hz⟩:=I.tuple hq;exact Sm p (LQ r) hj hlt hz0 λtk=>⟨.int j,H,I.tok _,⟨_,rfl⟩,q⟩
end
end L2
end
section
namespace Pu
open PySem PySem.Spec PyProof.Rows L2
section
variable {T:PotK}{ι:Type}{K:A8}{F:ι->Cx}{e c:Expr}{pe pc:pE}{pos:Pos}
def Z5:w2:=λx y R=>match x,y with|.tup xs,.str k=>(match V3 xs with|some ys=>ys.length<=1000000/\∃j:Nat,ys[j]?=some k/\(∀i,i<j->ys[i]?≠some k)/\R (.int j)|none=>False)|_,_=>False
def N1 (pe pc:pE):pE:=λenv n R=>pe env n λx jc n1=>(∃xs,x=.tup xs)/\pc jc n1 λy jd n2=>Z5 x y λz=>R z jd n2
def So (he:QE T K F e pe)(hc:QE T K F c pc)(hs:D8 c=true)(hbase:∀z,j9 e "index" (F z).env (eval e (F z).env)=eval e (F z).env)(hline:(ap.endLine == pos.line)=true)
   (hfew:∀z,((backTo pos (D6 [c] (F z).env)).all (λx=>!x.1)&&(backToKw pos (x4 [] (F z).env)).all (λx=>x.1.isSome)&&decide (([c]:List Expr).length+([]:List R4).length+(if([]:List R4).isEmpty then 0 else 1)<30))=true) (hK:∀z,(F z).K=K):QE T K F (.Call (.Attribute e "index" ap) [c] [] pos) (N1 pe pc):=by
 obtain⟨t,a1,a2⟩:=he;obtain⟨u,b1,b2⟩:=hc;refine⟨tBM K "tuple" (Mx K) t (T4 u tNil),λz=>hK z▸CD PySem.F.plainAttrs_tuple PySem.F.slot_tuple_index PySem.F.type_tuple_index Sn (a1 z) (E3 (b1 z) G0 (C5 hs)) (hbase z) (hfew z) hline (C5 hs),⇑?_⟩;refine ↥a2 λx jc n1 v H1 q1 S1 r1 f1=>?_;obtain⟨⟨xs,rfl⟩,q1⟩:=q1;obtain⟨a,vs,rfl,ta,ra⟩:=r1;refine⟨?_,?_⟩
 ·exact .inr (.inl ⟨rfl,.inr ⟨vs,ta.2⟩⟩)
 refine b2 C G σ H1 jc n1 _ _ hK hT S1 q1 λy jd n2 w H2 q2 S2 r2 f2=>?_;unfold Z5 at q2
 split at q2
 ·rename_i xs' kk e1;cases e1
  split at q2
  ·rename_i ys ey;obtain⟨hz,j,hj,hlt,q3⟩:=q2;obtain⟨a',vs',e3,ta',ra'⟩:=(show Rep K G H1 (.tup xs) (.ref a) from⟨a,vs,rfl,ta,ra⟩).fr f2;cases e3;exact⟨a,kk,ys,j,rfl,by rw[show w=.str kk from r2],Hl ey ra'▸SqT.of ta'.2,hz,hj,hlt,k _ _ _ _ _ q3 S2 rfl (f1.trans f2)⟩
  ·exact q2.elim
 ·exact q2.elim
end
end Pu
end
section
namespace Pu
open PySem PySem.Spec L2
noncomputable def frzS:Slot->Option Slot
 |.v x=>some (.v x)
 |.ow .lst xs=>some (.v (.lst xs))
 |.ow (.dk ks) xs=>if ks.length=xs.length then some (.v (.dct ks xs)) else none
 |.ow (.dt _) _=>none
 |.ow (.st _) _=>none
def frz (env:Env):Env:=env.map λo=>o.bind frzS
abbrev pSlN:=Env->Nat->(List Slot->Env->Nat->Prop)->Prop
def HP:pSlN:=λenv n R=>R [] env n
def De (s:pSl)(r:pSlN):pSlN:=λenv n R=>s env n λa jc n1=>r jc n1 λss jd n2=>R (a::ss) jd n2
noncomputable def setAll:List Nat->List Slot->Env->Env
 |i::is,s::ss,env=>setAll is ss (env.set i (some s))
 |_,_,env=>env
noncomputable def HQ:List Nat->List V->St->St
 |i::is,v::vs,σ=>HQ is vs (σ.set i (some v))
 |_,_,σ=>σ
def Gots (C:Ct)(G:Gh)(H:Hp)(σ:St)(env:Env):List Slot->List V->Prop
 |[],vs=>vs=[]
 |s::ss,vs=>∃v r,vs=v::r/\Got C G H σ env s v/\(∀(xs:OK×List PV) a,s=.ow xs.1 xs.2->v=.ref a->∀(ys:OK×List PV) w,(Slot.ow ys.1 ys.2,w)∈ss.zip r->w≠.ref a)/\Gots C G H σ env ss r
def LsOk (K:A8)(T:PotK)(t:TA)(sl:pSlN):Prop:=∀(C:Ct) (G:Gh) (σ:St) (H:Hp) (env:Env) (n:Nat) (R:List Slot->Env->Nat->Prop) (Q:List V->Hp->Prop),C.K=K->C.T=T->SR C G σ H env n->sl env n R->
 (∀ss jh n' vs G' H',R ss jh n'->SR C G' σ H' jh n'->Ext G H G' H'->Gots C G' H' σ jh ss vs->Q vs H')->t σ H Q
inductive QLs {ι:Type}(T:PotK)(K:A8)(F:ι->Cx)(es:List Expr)(sl:pSlN):Prop
 |mk t (a:(∀z,PA (F z) es t)) (b:LsOk K T t sl):QLs T K F es sl
section
variable {T:PotK}{np:Bool}{ι:Type}{K:A8}{F:ι->Cx}{e:Expr}{es:List Expr}{st:Stmt}{s1:pSl}{sl:pSlN}{pos:Pos}
def Sq:QLs T K F [] HP:=⟨tNil,λz=>G0,λC G σ H env n R Q hK hT S hp k=>k _ _ _ _ _ _ hp S Ext.refl rfl⟩
theorem Gots.unguard:∀{ss:List Slot} {vs:List V},Gots (C.guard a us) G H σ env ss vs->Gots C G H σ env ss vs/\∀(ys:OK×List PV) w,(Slot.ow ys.1 ys.2,w)∈ss.zip vs->w≠.ref a
 |[],_,h=>⟨h,λ_ _ z=>by simp at z⟩
 | s :: ss, vs, h => by
  obtain⟨v,r,rfl,g,ne,h⟩:=h;obtain⟨h1,h2⟩:=Gots.unguard h
  have gy:Got C G H σ env s v:=by
   refine⟨?_,g.2⟩;cases s with
   |v x=>exact g.1
   | ow kk ys =>
    obtain⟨b,us,ev,g1,g2,g3,g4,r⟩:=g.1;exact⟨b,us,ev,g1,λz=>g2 (B6 _ z),g3,g4,r⟩
  refine⟨⟨v,r,rfl,gy,ne,h1⟩,λys w hw ew=>?_⟩;rw[AR] at hw;rcases B5.mp hw with e|hw
  ·cases e;obtain⟨b,us,ev,g1,g2,_⟩:=g.1;rw[ew] at ev;cases ev;exact g2 B8
  ·grind
def Sr (h:QL T K F e s1)(hr:QLs T K F es sl)(n1:D8 e=true):QLs T K F (e::es) (De s1 sl):=by
 obtain⟨t,a1,a2⟩:=h;obtain⟨u,b1,b2⟩:=hr;refine⟨T4 t u,λz=>E3 (a1 z) (b1 z) (C5 n1),⇑?_⟩;refine ↥a2 (λx jc n1 v H1 q1 S1 r1 f1=>?_) λxs jc n1 a vs Hb q1 S1 f1 hn rs=>?_
 ·refine b2 C G σ H1 jc n1 _ _ hK hT S1 q1 λss jd n2 ws G2 H2 q2 S2 x2 g2=>?_;exact k _ _ _ _ _ _ q2 S2 ((Ext.fr f1).trans x2) ⟨v,ws,rfl,⟨⟨v,rfl,Rep.mono x2.keep x2.new x2.pot _ _ (hK▸r1)⟩,λ_ _ z=>nomatch z⟩,(λ_ _ z=>nomatch z),g2⟩
 ·have aM:=S1.fresh hn;have Hh:=S1.guard vs hn;have a0:a∉C.M0:=λz=>aM (S1.sup a z);have aH:=S1.old hn;have x1:Ext G H ⟨a::G.M,G.pots⟩ (upd Hb a (.lst vs)):=(Ext.fr f1).trans (CP hn);have r1:Reps C.K ⟨a::G.M,G.pots⟩ (upd Hb a (.lst vs)) xs vs:=Reps.mono (G':=⟨a::G.M,G.pots⟩) (H':=upd Hb a (.lst vs)) (λb o _ e=>Same.lay1 hn b o e) (λc hc=>(B5.mp (show c∈a::G.M from hc)).elim (λz=>.inr (z▸hn)) .inl) (λ_ _ e=>e) _ _ (hK▸rs);refine b2 (C.guard a vs) ⟨a::G.M,G.pots⟩ σ (upd Hb a (.lst vs)) jc n1 _ _ hK hT Hh q1 λss jd n2 ws G2 H2 q2 S2 x2 g2=>?_;obtain⟨S3,e3,no⟩:=S2.unguard a0 S1.p0.1 aH;have aM2:a∈G2.M:=S2.sup a B8
  have ap2:a∉G2.pots:=λz=>by
   by_cases hz:a∈C.pots0
   ·exact a0 (S1.p0.1 a hz)
   ·exact S2.newp a z hz B8
  obtain⟨g3,g4⟩:=Gots.unguard g2;refine k _ _ _ _ _ _ q2 S3 (x1.trans x2) ⟨.ref a,ws,rfl,⟨⟨a,vs,rfl,aM2,a0,ap2,e3,Reps.mono x2.keep x2.new x2.pot _ _ r1⟩,λ_ _ _ e=>by cases e;exact no⟩,λxs' b ex ev ys w hw=>?_,g3⟩;cases ev;exact g4 ys w hw
theorem Gots.len:∀{ss:List Slot} {vs:List V},Gots C G H σ env ss vs->ss.length=vs.length
 |[],_,h=>by cases(show _=[] from h);rfl
 | s :: ss, vs, h => by
  obtain⟨v,r,rfl,g,ne,h⟩:=h;have:=Gots.len h;simp[this]
theorem Gots.set (hl:env.length=σ.length):∀{ss:List Slot} {vs:List V},Gots C G H σ env ss vs->(∀(xs:OK×List PV) a,s0=.ow xs.1 xs.2->v0=.ref a->∀(ys:OK×List PV) w,(Slot.ow ys.1 ys.2,w)∈ss.zip vs->w≠.ref a)->Gots C G H (σ.set i (some v0)) (env.set i (some s0)) ss vs
 |[],_,h,_=>h
 | s :: ss, vs, h, no => by
  obtain⟨v,r,rfl,g,ne,h⟩:=h;refine⟨v,r,rfl,⟨g.1,λxs a e1 e2 z=>?_⟩,ne,Gots.set hl h λxs a e1 e2 ys w hw=>no xs a e1 e2 ys w (by rw[AR];exact B6 _ hw)⟩;rcases Hj hl z with z|⟨⟨zs,ez⟩,ev⟩
  ·exact g.2 xs a e1 e2 z
  ·exact no zs a ez ev xs v (by rw[AR,e1];exact B8) e2
theorem SR.setAll:∀(is:List Nat) (ss:List Slot) (vs:List V) {σ:St} {env:Env},SR C G σ H env n->Gots C G H σ env ss vs->SR C G (HQ is vs σ) H (Pu.setAll is ss env) n
 |[],_,_,_,_,S,_=>S
 |i::is,[],vs,_,_,S,g=>by cases(show vs=[] from g);exact S
 | i :: is, s :: ss, vs, σ, env, S, g => by
  obtain⟨v,r,rfl,g1,ne,g2⟩:=g;exact SR.setAll is ss r (S.slot i g1.1 g1.2) (g2.set S.len ne)
theorem Gots.same (sm:Same H H'):∀{ss:List Slot} {vs:List V},Gots C G H σ env ss vs->Gots C G H' σ env ss vs
 |[],_,h=>h
 | s :: ss, vs, h => by
  obtain⟨v,r,rfl,g,ne,h⟩:=h;refine⟨v,r,rfl,⟨?_,g.2⟩,ne,h.same sm⟩;have r:=g.1;cases s with
  |v x=>obtain⟨v',e,r⟩:=r;exact⟨v',e,r.same sm⟩
  |ow kk xs=>obtain⟨b,us,e,h1,h2,h3,h4,r⟩:=r;exact⟨b,us,e,h1,h2,h3,sm _ _ h4,r.same sm⟩
def u5:List Nat->TGs
 |[]=>gNil
 |i::is=>V4 (L6 i) (u5 is)
theorem My:∀(is:List Nat) (vs:List V) {σ:St} {H:Hp} {Q:St->Hp->Prop},is.length=vs.length->Q (HQ is vs σ) H->u5 is vs σ H Q
 |[],[],_,_,_,_,q=>⟨rfl,q⟩
 |i::is,v::vs,σ,H,Q,h,q=>⟨v,vs,rfl,My is vs (by grind) q⟩
def gw_tup (K:A8)(hc:X.calm=true)(h:PGs X es (u5 is))(hn:(F4 es X.env).length=m:=by rfl)(hst:(F4 es X.env).findIdx? (·.1)=none:=by rfl)(hK:X.K=K:=by rfl):GW X (.Tuple es k pos) (gTup K m (u5 is)):=⟨hK▸Ee hc h hn hst⟩
def HR (h1:GW X e (L6 i))(h2:PGs X es (u5 is))(hs:(F4 (e::es) X.env).map (·.2)=assign e X.env::(F4 es X.env).map (·.2):=by rfl):PGs X (e::es) (u5 (i::is)):=Bm h1.h h2 hs
def pgs_n:PGs X [] (u5 []):=Ed
def HS (is:List Nat)(sl:pSlN):pS:=λD env n=>sl env n λss jc n1=>ss.length=is.length/\D.nx (setAll is ss jc) n1
def Ss (is:List Nat)(h:∀z te g,EW (F z) (.Tuple es k p) te->GW (F z) tg g->SW (F z) st (tAsg te g))(hg:∀z,GW (F z) tg (gTup K is.length (u5 is)))(h1:QLs T K F es sl)(hz:is.length<=100):QS T np K F st (HS is sl):=by
 obtain⟨t,a1,a2⟩:=h1;refine⟨_,λz=>(h z _ _ ⟨Ef (a1 z)⟩ (hg z)).h,⇑_⟩;refine ↥a2 λss jd n2 vs G2 H2 q S2 x2 g=>?_;have lv:vs.length=is.length:=g.len.symm.trans q.1;refine⟨by rw[lv];exact K1 hz 0b0,λp hn'=>⟨p,vs,rfl,SqT.of D9,lv,My is vs lv.symm ?_⟩⟩;have sm:Same H2 (upd H2 p (.tup vs)):=Same.lay1 hn';exact L.nx _ _ _ _ _ q.2 (SR.setAll is ss vs (S2.same sm) (g.same sm)) (x2.trans (Ext.fr (Fr.of sm)))
end
end Pu
end
section
namespace L2
open PySem PySem.Spec PyProof.Rows
section
variable {prog:C3}{w:B9}{A:D0}{E:A3->A4->Prop}{s:A4}
theorem Mz {it t:A1}{items:Array A3}(hne:t≠it):∀(n i:Nat) (s:A4) (Q:List A3->A4->Prop),s.heap.IsListIter it t i->s.heap.IsList t items->i+n<=items.size->
   (∀h':B3,h'.IsListIter it t (i+n)->U5 it s.heap h'->Q ((items.toList.drop i).take n) { s with heap:=h' })->A5 (A7 prog w) A (draw (.ref it) n) Q E s
 | 0, i, s, Q, hit, _, _, hQ => by
  show A5 _ _ (pure []) Q E s;exact A9 (by simpa using hQ s.heap hit (Heap.SameBut.refl ..))
 | n + 1, i, s, Q, hit, ht, hle, hQ => by
  have hlt:i<items.size:=0x0
  show A5 _ _ (pyNext (.ref it)>>=_) Q E s;refine A2 (wpAny_pyNext_list_item hit ht (x:=items[i]) (by simp[hlt]) λh₁ hit₁ hs₁=>?_);refine A2 (K5 (Mz hne n (i+1) _ _ hit₁ (ht.extBut hs₁.extBut hne) 0x0 λh₂ hit₂ hs₂=>A9 ?_));have hd:items.toList.drop i=items[i]::items.toList.drop (i+1):=by simp[x6,hlt]
  have:=hQ h₂ (by rw[show i+(n+1)=i+1+n by omega];exact hit₂) (hs₁.trans hs₂);rw[hd,List.take_succ_cons] at this;exact this
def Su {env:Env}{elts:List Expr}{x1}{pos:Pos}{t:A1}{items:Array A3}{Q:Unit->A4->Prop}(hh:A.handled=none)(ht:s.heap.IsList t items)
   (hn:(F4 elts env).length=items.size) (hstar:(F4 elts env).findIdx? (·.1)=none)
   (h:∀h',Heap.ExtBut s.heap.objs.size s.heap h'->A5 (A7 prog w) A (assignInOrder ((F4 elts env).map (·.2)) items.toList) Q E { s with heap:=h' }) :
   A5 (A7 prog w) A (assign (.Tuple elts x1 pos) env (.ref t)) Q E s:=by
 rw[assign_Tuple];refine A2 (X7 ?_);have hlt:t≠s.heap.objs.size:=by obtain⟨o,ho,_⟩:=ht;exact E6 (C4 ho)
 unfold unpack;rw[hn,hstar];refine A2 (K5 ?_);unfold unpackItems;refine A2 ?_;unfold notIterableAtAll;refine A2 (BU ht.typeIs slot_list_iter.lookup ?_);refine A9 ?_;simp only[K8,if_false];refine A2 (K5 (AK ht ?_));refine A2 (K5 (Mz hlt items.size 0 _ _ ⟨_,E7 _ rfl,rfl,rfl⟩ (ht.push _) 0x0 λh₁ hit₁ hs₁=>?_))
 have hall:List.take items.size (List.drop 0 items.toList)=items.toList:=by
  rw[y3];exact b8 0o0
 rw[hall];rw[ju 0o0];have ht₁:h₁.IsList t items:=(ht.push _).extBut hs₁.extBut hlt;refine A2 (K5 (wpAny_pyNext_list_end hh hit₁ ht₁ 0o0 λh₂ he₂=>?_));simp only[Option.isSome_none,K8,if_false];exact A9 (h h₂ λb o hb e=>he₂ b o hb (hs₁.extBut b o hb (B7 _ e)))
end
section
variable {X:Cx}{pos:Pos}
def gLst (K:A8)(n:Nat)(t:TGs):TG:=λv σ H Q=>∃a xs,v=.ref a/\SqL K H a xs/\xs.length=n/\t xs σ H Q
def pg_lst (hc:X.calm=true)(h:PGs X es t)
   (hn:(F4 es X.env).length=n:=by rfl) (hst:(F4 es X.env).findIdx? (·.1)=none:=by rfl):PG X (.Tuple es k pos) (gLst X.K n t):=by
 intro jb s σ H v u Q I r hw;obtain⟨a,xs,e1,hq,hl,hw⟩:=hw;subst e1;cases r;obtain⟨jf,rv,ht⟩:=I.sqL hq;refine Su (I.ok.hd hc) ht (by simp[hn,<- hl,rv.length]) hst λh' hx=>?_;have I1:Inv X jb σ H { s with heap:=h' }:=I.kept (t':=s.toks) λb o e=>hx b o (E6 (C4 e)) e;exact h jb _ σ H xs _ Q I1 (by simpa using rv) hw
end
end L2
namespace Pu
open PySem PySem.Spec L2
section
variable {ι:Type}{K:A8}{F:ι->Cx}{es:List Expr}{pgs:pGs}{pos:Pos}
def gTl (m:Nat)(g:pGs):pG:=λx env R=>match x with|.lst xs=>xs.length=m/\g xs env R|_=>False
def qg_lst (hc:∀z,(F z).calm=true)(h:QGs K F es pgs)(hn:∀z,(F4 es (F z).env).length=m)(hst:∀z,(F4 es (F z).env).findIdx? (·.1)=none)(hK:∀z,(F z).K=K):QG K F (.Tuple es k pos) (gTl m pgs):=by
 obtain⟨g,a1,a2⟩:=h;refine⟨_,λz=>hK z▸pg_lst (hc z) (a1 z) (hn z) (hst z),λC G σ H env n x v R Q hK S r hp k=>?_⟩;cases x with
 | lst xs =>
  obtain⟨a,vs,rfl,t,rs⟩:=r;exact⟨a,vs,rfl,t.sq,by rw[<- rs.length];exact hp.1,a2 C G σ H env n xs vs _ _ hK S rs hp.2 k⟩
 |_=>exact hp.elim
end
end Pu
end
section
namespace L2
open PySem PySem.Spec PyProof.Rows
abbrev LC2 (ji t1 i1 t2 i2:Expr)(jk:List Expr)(scope:J1)(pos:Pos):Expr:=.ListComp ji [⟨t1,i1,[],0⟩,⟨t2,i2,jk,0⟩] scope pos
def Sv (ji t1 i1 t2 i2:Expr)(jk:List Expr)(scope:J1)(pos:Pos)(it jm:A3)(env:Env) :
   compTurn (LC2 ji t1 i1 t2 i2 jk scope pos) 1 it jm env=(do
    Y0 i2.pos
    match ← pyNext it with
    |none=>pure (.done .next)
    | some v =>
     j6 t2 it v
     assign t2 env v
     let mut ok:=true
     for c in jk do
      if ok then ok ← isTrue c env (eval c env)
     if ok then
      (do let _ ← call (.builtin "list.append") [jm,<- eval ji env])
     again (.compLoop (LC2 ji t1 i1 t2 i2 jk scope pos) 1 it jm env)):=by rfl
section
variable {prog:C3}{w:B9}{A:D0}{R:Result->A4->Prop}{s:A4}{ji t1 i1 t2 i2:Expr}{jk:List Expr}{scope:J1}{pos:Pos}{it jm:A3}{env:Env}
def loop_i (I:Nat->A4->Prop)
   (turn:∀n s,I n s->A5 (A7 prog w) A (pyNext it) (fun r s₁=>match r with
    |none=>R (.ok .next) s₁
    |some v=>A5 (A7 prog w) A (j6 t2 it v) (λ_ s₁'=>A5 (A7 prog w) A (assign t2 env v) (λ_ s₂=>
        A5 (A7 prog w) A (forIn jk true fun c r=>if r=true then do let ok ← isTrue c env (eval c env);pure (o7 ok) else pure (o7 r)) (fun ok s₃=>
         if ok=true then A5 (A7 prog w) A (eval ji env) (λx s₄=>
          A5 (A7 prog w) A (call (.builtin "list.append") [jm,x]) (λ_ s₅=>∃m,m<n/\I m s₅) (λ_ _=>False) s₄) (λ_ _=>False) s₃
         else ∃m,m<n/\I m s₃) (λ_ _=>False) s₂) (λ_ _=>False) s₁') (λ_ _=>False) s₁) (λ_ _=>False) s)
   (n:Nat) (h:I n s):M1 (A7 prog w) A (.compLoop (LC2 ji t1 i1 t2 i2 jk scope pos) 1 it jm env) R s:=by
 refine codeAny_loop rfl I (λn s hI=>?_) n h;show A5 _ A ((compTurn (LC2 ji t1 i1 t2 i2 jk scope pos) 1 it jm env).onRaise (λx=>do noteFrame x env;theTreesLotGoes x)) _ _ s;refine wpAny_noted ?_;rw[Sv];refine A2 (X7 (A2 (G5 (turn n s hI) (λr s₁ h₁=>?_) λ_ _ h'=>h'.elim)));cases r with
 |none=>exact A9 h₁
 | some v =>
  refine A2 (G5 h₁ (λ_ s₁' h₁'=>?_) λ_ _ h'=>h'.elim);refine A2 (G5 h₁' (λ_ s₂ h₂=>A2 (G5 h₂ (λok s₃ h₃=>?_) λ_ _ h'=>h'.elim)) λ_ _ h'=>h'.elim);cases ok with
  |false=>exact A9 ⟨rfl,h₃⟩
  | true =>
   exact A2 (A2 (G5 h₃ (λx s₄ h₄=>A2 (G5 h₄ (λ_ s₅ h₅=>A9 (A9 ⟨rfl,h₅⟩)) λ_ _ h'=>h'.elim)) λ_ _ h'=>h'.elim))
def Sw (h0:M1 (A7 prog w) A (.compLoop (LC2 ji t1 i1 t2 i2 jk scope pos) 1 it jm env) R s)
   (h:A5 (A7 prog w) A (pyIter it) (λit' s'=>M1 (A7 prog w) A (.compLoop (LC2 ji t1 i1 t2 i2 jk scope pos) 1 it' jm env) R s') (λ_ _=>False) s) :
   M1 (A7 prog w) A (.compStart (LC2 ji t1 i1 t2 i2 jk scope pos) 1 it jm env) R s:=by
 refine DF ?_;show A5 _ _ ((compStart (LC2 ji t1 i1 t2 i2 jk scope pos) 1 it jm env).onRaise (λx=>do noteFrame x env;Y0 theWindowsPlace)) _ _ s;refine wpAny_notedAt ?_;unfold compStart;show A5 _ _ (ask>>=_) _ _ s;refine A2 (Dz (wpAny_ite ?_))
 split
 ·first
    |exact A2 (A9 (A9 (And.intro rfl h0)))
    |exact A9 (And.intro rfl h0)
 ·first
    |exact A2 (X8 (A2 (X7 (A2 (G5 h (λit' s' h'=>A9 (And.intro rfl h')) λ_ _ x=>x.elim)))))
    |(refine A2 (X8 ?_);show A5 _ _ (Y0 i2.pos>>=_) _ _ s;exact A2 (X7 (A2 (G5 h (λit' s' h'=>A9 (And.intro rfl h')) λ_ _ x=>x.elim))))
def loop_o (hs:∀x,N8 i2 env x=pure x)(I:Nat->A4->Prop)
   (turn:∀n s,I n s->A5 (A7 prog w) A (pyNext it) (fun r s₁=>match r with
    |none=>R (.ok .next) s₁
    |some v=>A5 (A7 prog w) A (j6 t1 it v) (λ_ s₁'=>A5 (A7 prog w) A (assign t1 env v) (λ_ s₂=>
        A5 (A7 prog w) A (eval i2 env) (λx s₃=>A5 (A7 prog w) A (pyIter x) (λit2 s₄=>
         M1 (A7 prog w) A (.compStart (LC2 ji t1 i1 t2 i2 jk scope pos) 1 it2 jm env) (λr s'=>r=.ok .next/\∃m,m<n/\I m s') s₄) (λ_ _=>False) s₃) (λ_ _=>False) s₂) (λ_ _=>False) s₁') (λ_ _=>False) s₁) (λ_ _=>False) s)
   (n:Nat) (h:I n s):M1 (A7 prog w) A (.compLoop (LC2 ji t1 i1 t2 i2 jk scope pos) 0 it jm env) R s:=by
 refine codeAny_loop rfl I (λn s hI=>?_) n h;show A5 _ A ((compTurn (LC2 ji t1 i1 t2 i2 jk scope pos) 0 it jm env).onRaise (λx=>do noteFrame x env;theTreesLotGoes x)) _ _ s;refine wpAny_noted ?_;unfold compTurn;show A5 _ _ (Y0 i1.pos>>=_) _ _ s;refine A2 (X7 ?_);refine A2 (G5 (turn n s hI) (λr s₁ h₁=>?_) λ_ _ h'=>h'.elim);cases r with
 |none=>exact A9 h₁
 | some v =>
  refine A2 (G5 h₁ (λ_ s₁' h₁'=>?_) λ_ _ h'=>h'.elim);refine A2 (G5 h₁' (λ_ s₂ h₂=>A2 (wpAny_tests_nil ?_)) λ_ _ h'=>h'.elim);refine A2 (G5 h₂ (λx s₃ h₃=>?_) λ_ _ h'=>h'.elim);refine A2 (X7 ?_);show A5 _ _ (N8 i2 env x>>=λx=>(Q3 [x] (pyIter x)>>=λit2=>(runOwn (.compStart (LC2 ji t1 i1 t2 i2 jk scope pos) 1 it2 jm env) env>>=λ_=>again (.compLoop (LC2 ji t1 i1 t2 i2 jk scope pos) 0 it jm env)))) _ _ _;refine A2 (P0 (hs x) (A2 (K5 (G5 h₃ (λit2 s₄ h₄=>?_) λ_ _ h'=>h'.elim))));refine A2 (wpAny_runOwn ?_);rw[Around.mark_none];refine w9 h₄ λr s' hr=>?_;obtain⟨rfl,hr⟩:=hr;exact A9 ⟨rfl,hr⟩
end
def MA (J:It)(g:TG)(tt:TT)(te:TE)(D:A1)(N:St->Hp->Prop)(σ:St)(H:Hp):Prop:=∃W:Nat->Nat->St->Hp->Prop,(∃m,W 0 m σ H)/\
 ∀i m σ' H',W i m σ' H'->(J.stop i H'/\N σ' H')\/(J.go i H'/\∀x H2,J.yld i H' x H2->g x σ' H2 fun σ3 H3=>tt σ3 H3 fun b H4=>
    if b=true then te σ3 H4 λv H5=>∃ys,H5 D=some (.lst ys)/\ys.length<B4/\∃m',m'<m/\W (i+1) m' σ3 (upd H5 D (.lst (ys++[v])))
    else ∃m',m'<m/\W (i+1) m' σ3 H4)
def HU (J:It)(g1:TG)(wi2:TI)(g2:TG)(tt:TT)(te:TE)(Q:VK)(D:A1)(σc:St)(H1:Hp):Prop:=∃W:Nat->Nat->St->Hp->Prop,(∃m,W 0 m σc H1)/\
 ∀i m σ' H',W i m σ' H'->(J.stop i H'/\Q (.ref D) H')\/(J.go i H'/\∀x H2,J.yld i H' x H2->g1 x σ' H2 λσ3 H3=>wi2 σ3 H3 λJ2 H4=>MA J2 g2 tt te D (λσ5 H5=>∃m',m'<m/\W (i+1) m' σ5 H5) σ3 H4)
def tComp2 (cs:List (Option Nat))(wi:TI)(g1:TG)(wi2:TI)(g2:TG)(tt:TT)(te:TE):TE:=λσ H Q=>wi σ H λJ H1=>∀D,H1 D=none->HU J g1 wi2 g2 tt te Q D (h9 cs σ) (upd H1 D (.lst []))
def loop2 {Y:Cx}{scope:J1}{ji t1 i1 t2 i2:Expr}{jk:List Expr}{pos:Pos}{wi2:TI}{g1 g2:TG}{tt:TT}{te:TE}{fp:List A1}{it D:A1}{tn:Nat->B3->Prop}{J:It}{s₃:A4}{H3:Hp}{σ3:St}{jb:List (A1×Obj)}{Q:VK}{R:Result->A4->Prop}(hx:Y.xe=λ_ _=>False)(hc:Y.calm=true)
   (hb:PG Y t1 g1/\PI Y t2 i2 wi2/\PG Y t2 g2/\PIf Y jk tt/\PE Y ji te) (hs2:∀x,N8 i2 Y.env x=pure x) (T:Turn Y.prog Y.w Y.K t1 J fp it tn) (stat:∀{H':Hp},(∀b∈fp,H' b=none)->∀b∈fp,FpOk Y jb H' b) (q:HU J g1 wi2 g2 tt te Q D σ3 H3)
   (fin:∀s4 σ4 H4,Inv Y jb σ4 H4 s4->Q (.ref D) H4->R (.ok .next) s4) (Ic:Inv Y jb σ3 H3 s₃) (st1:tn 0 s₃.heap) (fr1:∀b∈fp,H3 b=none) :
   M1 (A7 Y.prog Y.w) Y.A (.compLoop (LC2 ji t1 i1 t2 i2 jk scope pos) 0 (.ref it) (.ref D) Y.env) R s₃:=by
 obtain⟨W,⟨m0,w0⟩,turn⟩:=q;obtain⟨hg,hi2,hg2,hf,he⟩:=hb;refine loop_o hs2 (λn s'=>∃i σ' H',Inv Y jb σ' H' s'/\tn i s'.heap/\(∀b∈fp,H' b=none)/\W i n σ' H') ?_ m0 ⟨0,_,_,Ic,st1,fr1,w0⟩;rintro n s3 ⟨i,σ3,H3,I3,st3,fr3,w3⟩;rcases turn i n σ3 H3 w3 with⟨stop,qn⟩|⟨go,step⟩
 ·refine thn (T.done Y rfl rfl rfl hc i jb s3 σ3 H3 (λ_ _=>False) I3 (stat fr3) st3 stop) λr s4 ⟨hr,I4⟩=>?_;subst hr;exact fin s4 _ _ I4 qn
 ·refine thn (T.item Y rfl rfl rfl hc i jb s3 σ3 H3 (λ_ _=>False) I3 (stat fr3) st3 go) λr s4 ⟨u,hr,h4⟩=>?_;subst hr;refine thn h4 λ_ s5 ⟨x,H5,I5,r5,y5,st5,fr5⟩=>?_;refine thn (hx▸hg _ s5 σ3 H5 x u _ (I5.pinned (stat fr5) (T.obj _ _ st5)) r5 (step x H5 y5)) λ_ s6 ⟨σ6,H6,I6,q6⟩=>?_;refine thn (hx▸hi2 _ s6 σ6 H6 _ I6 q6) λv7 s7 h7=>thn h7 λitv s8 h8=>?_;obtain⟨it2,fp2,tn2,J2,H8,rfl,I8,T2,st8,f8,W2,⟨m2,w2⟩,turn2⟩:=h8
  have inner:M1 (A7 Y.prog Y.w) Y.A (.compLoop (LC2 ji t1 i1 t2 i2 jk scope pos) 1 (.ref it2) (.ref D) Y.env) (λr s'=>r=.ok .next/\∃m,m<n/\∃i σ' H',Inv Y jb σ' H' s'/\tn i s'.heap/\(∀b∈fp,H' b=none)/\W i m σ' H') s8:=
   loop_i (λn s'=>∃i σ' H',Inv Y (jb++Bn fp s5.heap) σ' H' s'/\tn2 i s'.heap/\(∀b∈fp2,H' b=none)/\W2 i n σ' H') (by rw[<- hx];exact GQ T2 hc (λhn b hb=>⟨hn b hb,(f8 b hb).2⟩) hg2 hf he (λs10 σ9 H9 I10 qn2=>⟨rfl,GP T st5 I10 qn2⟩) turn2) m2 ⟨0,σ6,H8,I8,st8,λb hb=>(f8 b hb).1,w2⟩
  exact Sw inner (T2.self _ 0 _ _ _ st8 inner)
def Sx {X:Cx}{scope:J1}{cl:List (Str×A1)}{N:List Str}{cs:List (Option Nat)}{ji t1 i1 t2 i2:Expr}{jk:List Expr}{pos:Pos}{wi1 wi2:TI}{g1 g2:TG}{tt:TT}{te:TE}(S:V5 X scope cl N cs)(hc:X.calm=true)(hi:PI X t1 i1 wi1)
   (hb:∀(fp:List A1) (C:A1) (s:A4) (H:Hp),PG (F2 X scope cl N fp C s H) t1 g1/\PI (F2 X scope cl N fp C s H) t2 i2 wi2/\PG (F2 X scope cl N fp C s H) t2 g2/\PIf (F2 X scope cl N fp C s H) jk tt/\PE (F2 X scope cl N fp C s H) ji te)
   (hs2:∀fp C s H x,N8 i2 (F2 X scope cl N fp C s H).env x=pure x)
   (hs:∀x,N8 i1 X.env x=pure x:=by intro _;rfl) :
   PE X (LC2 ji t1 i1 t2 i2 jk scope pos) (tComp2 cs wi1 g1 wi2 g2 tt te):=by
 intro jb s σ H Q I h;rw[eval_ListComp];exact GR S hc hi hs I h λfp it tn J s2 H2 s₃ T stat I2 f2 q Ic st1 fr1=>loop2 (Y:=F2 X scope cl N fp (s2.heap.objs.size+1) s2 H2) rfl hc (hb _ _ _ _) (hs2 _ _ _ _) T stat q (λs4 σ3 H3 I4 qn=>KI I2 f2 I4 qn) Ic st1 fr1
end L2
end
section
namespace Pu
open PySem PySem.Spec L2
def Ay (g:pG)(tt:pT)(te:pE):List PV->Env->Nat->(List PV->Env->Nat->Prop)->Prop
 |[],env,n,R=>R [] env n
 |x::xs,env,n,R=>g x env λjc=>tt jc n λb jd n2=>if b=true then te jd n2 λy je n3=>Ay g tt te xs je n3 λys e m=>R (y::ys) e m else Ay g tt te xs jd n2 R
def BJ (g1:pG)(pi2:pA)(g2:pG)(tt:pT)(te:pE):List PV->Env->Nat->(List PV->Nat->Prop)->Prop
 |[],_,n,R=>R [] n
 |x::xs,env,n,R=>g1 x env λjc=>pi2 jc n λys jd n2=>ys.length<=1000/\Ay g2 tt te ys jd n2 λzs je n3=>BJ g1 pi2 g2 tt te xs je n3 λws n4=>R (zs++ws) n4
def BK (cs:List (Option Nat))(pi1:pA)(g1:pG)(pi2:pA)(g2:pG)(tt:pT)(te:pE):pA:=λenv n R=>pi1 env n λxs jc n1=>xs.length<=1000/\BJ g1 pi2 g2 tt te xs (capV cs jc) n1 λys n2=>R ys jc n2
def Sy {K:A8}{T:PotK}{J:It}{g:TG}{tt:TT}{te:TE}{pg:pG}{ptt:pT}{pte:pE}(hg:GOk K g pg)(ht:TOk K T tt ptt)(he:EOk K T te pte){G:Gh}{H1 H4:Hp}{ys:List PV}{D:A1}(hJ:ItR K ⟨D::G.M,G.pots⟩ H4 J ys)(nD:D∉G.pots)(hD:H1 D=none){σ:St}{env:Env}{n:Nat}{jm:List PV}{us:List V}{P:List PV->Env->Nat->Prop}{N:St->Hp->Prop}(c:CI K T G H1 D σ H4 env n jm us)(hl:jm.length+ys.length<=1001000)(hc:Ay pg ptt pte ys env n P)
   (hN:∀zs env n us σ H,P zs env n->CI K T G H1 D σ H env n (jm++zs) us->zs.length<=ys.length->N σ H):MA J g tt te D N σ H4:=by
 refine⟨λj m σ H'=>m=ys.length-j/\j<=ys.length/\∃env n zs us2,CI K T G H1 D σ H' env n (jm++zs) us2/\Fr ⟨D::G.M,G.pots⟩ H4 H'/\zs.length<=j/\Ay pg ptt pte (ys.drop j) env n λws e m=>P (zs++ws) e m,⟨ys.length,rfl,F7 _,env,n,[],us,by rw[W5];exact c,Fr.refl,B2 _,hc⟩,?_⟩;rintro j m σ5 H5 ⟨rfl,hj,env5,n5,zs,us5,c5,fr5,la5,hc5⟩;obtain⟨hgo5,hstop5⟩:=hJ _ H5 fr5 (λa ha=>.inl ha) (λ_ _ e=>e) λp hp=>c5.inn.sr.fresh hp
 by_cases hlt5:j<ys.length
 ·obtain⟨u1,u2⟩:=hgo5 j _ (C9 hlt5);refine .inr ⟨u1,λv6 H6 y6=>?_⟩;obtain⟨s6,rv6⟩:=u2 v6 H6 y6;rw[x6 hlt5] at hc5;have np:∀b,b∉D::G.M->b∉G.pots:=λb hb z=>hb (c5.inn.pots b z).1;refine hg _ _ σ5 H6 env5 n5 ys[j] v6 _ _ rfl (c5.inn.sr.same s6) rv6 hc5 λenv7 σ7 hc7 S7=>?_;refine ht _ _ σ7 H6 env7 n5 _ _ rfl rfl S7 hc7 λb env8 n8 H8 hc8 S8 f8=>?_;cases b with
  |false=>exact⟨ys.length-(j+1),Cc _ _ hlt5,rfl,hlt5,env8,n8,zs,us5,c5.go nD S8,λb o hb e=>S8.frame b o (np b hb) (fr5 b o hb e),Nat.le_succ_of_le la5,hc8⟩
  | true =>
   refine he _ _ σ7 H8 env8 n8 _ _ rfl rfl S8 hc8 λy env9 n9 u H9 hc9 S9 r9 f9=>?_;have c9:=c5.go nD S9;have c10:=c9.add nD hD r9;rw[R8] at c10;refine⟨us5,c9.eD,by rw[<- c5.ra.length,C7];exact y4 (show _<=1001000 by omega) (by rw[O0];decide),ys.length-(j+1),Cc _ _ hlt5,rfl,hlt5,env9,n9,zs++[y],us5++[u],c10,Fr.trans (λb o hb e=>S9.frame b o (np b hb) (fr5 b o hb e)) (CI.fD _),by rw[C7];exact Nat.succ_le_succ la5,?_⟩;simp only[R8];exact hc9
 ·obtain rfl:j=ys.length:=Nat.le_antisymm hj (y7 hlt5);rw[DL] at hc5;have h5:P (zs++[]) env5 n5:=hc5;rw[W5] at h5;exact .inl ⟨hstop5 _ (B2 _),hN zs env5 n5 us5 σ5 H5 h5 c5 la5⟩
def Sz {K:A8}{T:PotK}{J:It}{g1 g2:TG}{wi2:TI}{tt:TT}{te:TE}{pg1 pg2:pG}{pi2:pA}{ptt:pT}{pte:pE}(hg1:GOk K g1 pg1)(hi2:IOk K T wi2 pi2)(hg2:GOk K g2 pg2)(ht:TOk K T tt ptt)(he:EOk K T te pte){G:Gh}{H1:Hp}{xs:List PV}(hJ:ItR K G H1 J xs)(hl:xs.length<=1000)
   {σc:St} {env:Env} {n:Nat} {R:List PV->Nat->Prop} {Q:VK} {D:A1} (hD:H1 D=none) (I0:Inn K T G σc H1 env n) (hp:BJ pg1 pi2 pg2 ptt pte xs env n R)
   (hQ:∀ys n' us H',R ys n'->(∀p∈G.pots,T.at_ (D::G.M) H' p n')->(∀b o,b∉G.pots->H1 b=some o->H' b=some o)->H' D=some (.lst us)->Reps K ⟨D::G.M,G.pots⟩ H' ys us->Q (.ref D) H') :
   HU J g1 wi2 g2 tt te Q D σc (upd H1 D (.lst [])):=by
 have nD:D∉G.pots:=λz=>I0.sr.fresh hD (I0.pots D z).1;refine⟨λi m σ H=>m=xs.length-i/\i<=xs.length/\∃env n jm us,CI K T G H1 D σ H env n jm us/\jm.length<=1000*i/\BJ pg1 pi2 pg2 ptt pte (xs.drop i) env n λys n'=>R (jm++ys) n',⟨xs.length,rfl,F7 _,env,n,[],[],.start hD I0,B2 _,hp⟩,?_⟩;rintro i m σ H ⟨rfl,hi,env,n,jm,us,c,la,hc⟩;obtain⟨hgo,hstop⟩:=c.it hD hJ
 by_cases hlt:i<xs.length
 ·obtain⟨gg1,gg2⟩:=hgo i _ (C9 hlt);refine .inr ⟨gg1,λv H2 y=>?_⟩;obtain⟨s2,rv⟩:=gg2 v H2 y;rw[x6 hlt] at hc;refine hg1 _ _ σ H2 env n xs[i] v _ _ rfl (c.inn.sr.same s2) rv hc λjc σ1 hc1 S2=>?_;refine hi2 _ _ σ1 H2 jc n _ _ rfl rfl S2 hc1 λys jd n2 J2 H4 q4 S4 f4 hJ2=>?_;refine Sy hg2 ht he hJ2 nD hD (c.go nD S4) (by have:=q4.1;omega) q4.2 λzs env5 n5 us5 σ5 H5 h5 c5 lz=>⟨xs.length-(i+1),Cc _ _ hlt,rfl,hlt,env5,n5,jm++zs,us5,c5,by rw[C7];have:=q4.1;omega,?_⟩;simp only[R8];exact h5
 ·obtain rfl:i=xs.length:=Nat.le_antisymm hi (y7 hlt);rw[DL] at hc;have hc':R (jm++[]) n:=hc;rw[W5] at hc';exact .inl ⟨hstop _ (B2 _),hQ _ n us H hc' (λp hp=>(c.inn.pots p hp).2) c.kp c.eD c.ra⟩
section
variable {T:PotK}{ι:Type}{K:A8}{F:ι->Cx}{pg1 pg2:pG}{pos:Pos}
def SA {scope:J1}{cl:ι->List (Str×A1)}{N:List Str}{cs:List (Option Nat)}{ji t1 i1 t2 i2:Expr}{jk:List Expr}{pi1 pi2:pA}{ptt:pT}{pte:pE}(S:∀z,V5 (F z) scope (cl z) N cs)(hc:∀z,(F z).calm=true)(hi:QI T K F t1 i1 pi1)
   (hg:QG K (λy:ι×List A1×A1×A4×Hp=>F2 (F y.1) scope (cl y.1) N y.2.1 y.2.2.1 y.2.2.2.1 y.2.2.2.2) t1 pg1)
   (hi2:QI T K (λy:ι×List A1×A1×A4×Hp=>F2 (F y.1) scope (cl y.1) N y.2.1 y.2.2.1 y.2.2.2.1 y.2.2.2.2) t2 i2 pi2)
   (hg2:QG K (λy:ι×List A1×A1×A4×Hp=>F2 (F y.1) scope (cl y.1) N y.2.1 y.2.2.1 y.2.2.2.1 y.2.2.2.2) t2 pg2)
   (ht:QIf T K (λy:ι×List A1×A1×A4×Hp=>F2 (F y.1) scope (cl y.1) N y.2.1 y.2.2.1 y.2.2.2.1 y.2.2.2.2) jk ptt)
   (he:QE T K (λy:ι×List A1×A1×A4×Hp=>F2 (F y.1) scope (cl y.1) N y.2.1 y.2.2.1 y.2.2.2.1 y.2.2.2.2) ji pte)
   (hs:∀z x,N8 i1 (F z).env x=pure x:=by intro _ _;rfl) (hs2:∀z fp C s H x,N8 i2 (F2 (F z) scope (cl z) N fp C s H).env x=pure x:=by intro _ _ _ _ _ _;rfl):QN T K F (LC2 ji t1 i1 t2 i2 jk scope pos) (BK cs pi1 pg1 pi2 pg2 ptt pte):=by
 obtain⟨wi,i1',i2'⟩:=hi;obtain⟨g,hg0,hg⟩:=hg;obtain⟨wj,j1,j2⟩:=hi2;obtain⟨g2,hg20,hg2⟩:=hg2;obtain⟨tt,ht0,ht⟩:=ht;obtain⟨te,he0,he⟩:=he;refine⟨_,λz=>Sx (S z) (hc z) (i1' z) (λfp C s H=>⟨hg0 (z,fp,C,s,H),j1 (z,fp,C,s,H),hg20 (z,fp,C,s,H),ht0 (z,fp,C,s,H),he0 (z,fp,C,s,H)⟩) (hs2 z) (hs z),⇑?_⟩;refine ↥i2' λxs jc n1 J H1 p1 S1 f1 hJ=>?_;intro D hD;have hDM:=S1.fresh hD;refine Sz (G:=G) hg j2 hg2 ht he hJ p1.1 hD (hT▸hK▸Hd S1 cs) p1.2 λys n2 us H' rr hpots hk eD ry=>?_;have nD:∀b o,H1 b=some o->b≠D:=λb o e z=>by rw[z,hD] at e;cases e
 have hk2:∀b o,b∉G.pots->H1 b=some o->cutH H' D b=some o:=λb o hb e=>by rw[T6 (nD b o e)];exact hk b o hb e
 have nc:∀b,b∉D::G.M->b≠D:=λb hb z=>hb (by rw[z];exact B8);have np:∀p∈G.pots,p≠D:=λp hp z=>hDM (z▸(S1.pots p hp).1)
 have Sb:SR C G σ (cutH H' D) jc n2:=S1.call hk2 λp hp=>by
  subst hT;have h2:=C.T.keep (hpots p hp) (H':=cutH H' D) (T6 (np p hp)) λb o hb e=>by rw[T6 (nc b hb)];exact e
  exact C.T.more h2 λa ha=>.inl (B6 _ ha)
 have:=k ys jc n2 D us (cutH H' D) rr Sb (f1.trans λb o hb e=>hk2 b o (λz=>hb (S1.pots b z).1) e) (by unfold cutH;rw[jt rfl]) ?_
 ·rw[He eD] at this;exact this
 ·exact Reps.mono (G:=⟨D::G.M,G.pots⟩) (λb o hb e=>by rw[T6 (nc b hb)];exact e) (λa ha=>.inl (B6 _ ha)) (λ_ _ e=>e) _ _ ry
end
end Pu
end
section
namespace L2
open PySem PySem.Spec PyProof.Rows
section
variable {X:Cx}{a b:Expr}{rest:List Expr}{ta tb:TE}{pos:Pos}
def pe_orT (ha:PE X a ta)(hb:PE X (.BoolOp .Or (b::rest) pos) tb):PE X (.BoolOp .Or (a::b::rest) pos) (λσ H Q=>ta σ H λx H1=>∃k,TruV X.K x H1 k/\if k=true then Q x H1 else tb σ H1 Q):=by
 intro jb s σ H Q I h;refine BoolOp_or (thn (ha jb s σ H _ I h) λv s1 ⟨x,H1,I1,r1,q1⟩=>?_);refine thn (Kj jb s1 σ H1 x v (λk H=>if k=true then Q x H else tb σ H Q) I1 r1 q1) λc s2 ⟨H2,I2,q2⟩=>?_;cases c with
 |false=>exact hb jb s2 σ H2 Q I2 q2
 |true=>exact⟨x,H2,I2,r1,q2⟩
end
end L2
namespace Pu
open PySem PySem.Spec L2
section
variable {T:PotK}{ι:Type}{K:A8}{F:ι->Cx}{a b:Expr}{rest:List Expr}{pa pb:pE}{pos:Pos}
def qOrT (pa pb:pE):pE:=λenv n R=>pa env n λx jc n1=>match EB x with|some b=>if b=true then R x jc n1 else pb jc n1 R|none=>False
def qe_orT (ha:QE T K F a pa)(hb:QE T K F (.BoolOp .Or (b::rest) pos) pb)(hK:∀z,(F z).K=K):QE T K F (.BoolOp .Or (a::b::rest) pos) (qOrT pa pb):=by
 obtain⟨t,a1,a2⟩:=ha;obtain⟨u,b1,b2⟩:=hb;refine⟨_,λz=>hK z▸pe_orT (a1 z) (b1 z),⇑?_⟩;refine ↥a2 λx jc n1 v H1 q1 S1 r1 f1=>?_
 split at q1
 ·rename_i c ec;refine⟨c,LC ec (.inl r1),?_⟩;cases c with
  | true =>
   rw[jt rfl] at q1 ⊢;exact k _ _ _ _ _ q1 S1 r1 f1
  | false =>
   rw[ju L3] at q1 ⊢;exact b2 C G σ H1 jc n1 _ _ hK hT S1 q1 λy jd n2 w H2 q2 S2 r2 f2=>k _ _ _ _ _ q2 S2 r2 (f1.trans f2)
 ·exact q1.elim
end
end Pu
end
section
namespace L2
open PySem PySem.Spec PyProof.Rows
noncomputable def insL {α:Type}(xs:List α)(k:Nat)(y:α):List α:=xs.take k++y::xs.drop k
def Df {α:Type}(xs:List α)(k:Nat)(y:α):(insL xs k y).length=xs.length+1:=by
 unfold insL;rw[C7,D5,J7,J8];ext
section
variable {X:Cx}
def MB:V->List V->Hp->VK->Prop:=λx vs H Q=>∃l xs i y,x=.ref l/\vs=[.int i,y]/\H l=some (.lst xs)/\0<=i/\i<=1000000/\xs.length<B4/\Q .non (upd H l (.lst (insL xs i.toNat y)))
def SC {u:A3}(h0:0<=i):(have k:=if i<0 then(i+((jf.toArray.size:Nat):Int)).toNat else min i.toNat jf.toArray.size;(jf.toArray.extract 0 k).push u++jf.toArray.extract k)=(insL jf i.toNat u).toArray:=by
 have e:(if i<0 then(i+((jf.toArray.size:Nat):Int)).toNat else min i.toNat jf.toArray.size)=min i.toNat jf.length:=by
  rw[ju 0x0];simp
 show(jf.toArray.extract 0 (if i<0 then(i+((jf.toArray.size:Nat):Int)).toNat else min i.toNat jf.toArray.size)).push u++jf.toArray.extract (if i<0 then(i+((jf.toArray.size:Nat):Int)).toNat else min i.toNat jf.toArray.size)=_;rw[e];unfold insL;rcases Cg i.toNat jf.length with h|h
 ·rw[AV h];simp;exact b8 (by rw[J8];exact B2 _)
 ·rw[Ce h,b8 h,R7 h];simp
def SD:MtM X "list.insert" MB:=by
 intro jb s σ H x vs v us Q I rx rv h;obtain⟨l,xs,i,y,rfl,rfl,hH,h0,h1,hz,q⟩:=h;cases rx;cases rv with
 | cons ri rv =>
  obtain⟨t,rfl⟩:=ri;obtain⟨u,rfl,ru⟩:=Vals.one rv;obtain⟨z,jf,n,r,hl,e⟩:=I.lstM hH
  have hf:¬(!JY i)=true:=by
   simp only[JY];simp;ext
  refine b7 F.slot_list_insert ⟨_,e,rfl⟩ F.entry_list_insert (F.args_list_insert_3 _ _ _) (PySem.AutoSeq1.list_insert_list_int_val_1 l jf.toArray n i t u hf (by rw[E9];ext)) ⟨e,?_⟩;refine⟨.non,_,I.lset (its':=insL jf i.toNat u) hH e (SC h0) ?_ ?_,rfl,q⟩
  ·exact(r.take i.toNat).append (.cons ru (r.drop i.toNat))
  ·rw[Df];ext
end
end L2
namespace Pu
open PySem PySem.Spec L2
section
variable {T:PotK}{ι:Type}{K:A8}{F:ι->Cx}{e ei:Expr}{pe pi:pE}{pos:Pos}
def EY (i:Nat)(pi pe:pE):pE:=λenv n R=>(∃xs,env[i]?=some (some (.ow .lst xs)))/\pi env n λj jc n1=>pe jc n1 λy jd n2=>match jd[i]?,j with|some (some (.ow .lst xs)),.int j=>(0<=j/\j<=1000000/\xs.length<1000000)/\R .non (jd.set i (some (.ow .lst (insL xs j.toNat y)))) n2|_,_=>False
def SE (i:Nat)(hv:∀z,EW (F z) (.Name x p) (tVar i))(hi:QE T K F ei pi)(he:QE T K F e pe)(hs1:D8 ei=true)(hs:D8 e=true)(hbase:∀z,j9 (.Name x p) "insert" (F z).env (eval (.Name x p) (F z).env)=eval (.Name x p) (F z).env)(hline:(ap.endLine == pos.line)=true)
   (hfew:∀z,((backTo pos (D6 [ei,e] (F z).env)).all (λx=>!x.1)&&(backToKw pos (x4 [] (F z).env)).all (λx=>x.1.isSome)&&decide (([ei,e]:List Expr).length+([]:List R4).length+(if([]:List R4).isEmpty then 0 else 1)<30))=true)
   (hplain:∀z,(backTo pos (D6 [e] (F z).env)).any (·.1)=false) (hK:∀z,(F z).K=K):QE T K F (.Call (.Attribute (.Name x p) "insert" ap) [ei,e] [] pos) (EY i pi pe):=by
 obtain⟨ti,i1,i2⟩:=hi;obtain⟨t,a1,a2⟩:=he;refine⟨tBM K "list" MB (tVar i) (T4 ti (T4 t tNil)),λz=>hK z▸CD Co PySem.F.slot_list_insert PySem.F.type_list_insert SD (hv z).h (E3 (i1 z) (E3 (a1 z) G0 (C5 hs)) (C5 hs1)) (hbase z) (hfew z) hline (C5 hs1) (hplain z),⇑?_⟩;obtain⟨⟨xs0,e0⟩,hp⟩:=hp;obtain⟨a,vs,ev,h1,h2,h3,h4,r⟩:=S.slots i _ e0;refine⟨.ref a,ev,.inl ⟨rfl,vs,SqL.of h4⟩,?_⟩;refine ↥i2 λj jc n1 v H1 q1 S1 r1 f1=>?_;refine a2 C G σ H1 jc n1 _ _ hK hT S1 q1 λy jd n2 u H2 q2 S2 r2 f2=>?_
 split at q2
 ·rename_i xs j' ex;obtain⟨a',us,ev',g1,g2,g3,g4,r'⟩:=S2.slots i _ ex;rw[ev] at ev';cases ev';subst hK;obtain⟨S3,f3⟩:=S2.put ex ev ((r'.take j'.toNat).append (xs:=xs.take j'.toNat) (ys:=y::xs.drop j'.toNat) (us:=u::us.drop j'.toNat) ⟨u,_,rfl,r2,r'.drop j'.toNat⟩);exact⟨a,us,j',u,rfl,by rw[show v=.int j' from r1],g4,q2.1.1,q2.1.2.1,by rw[<- r'.length];exact mil' 0x0,k _ _ _ _ _ q2.2 S3 rfl ((f1.trans f2).trans f3)⟩
 ·exact q2.elim
end
noncomputable def dPot (c:A1)(at_ left seed:Int):List (Key×V):=[(D1 (A6 "cells"),.ref c),(D1 (A6 "at"),.int at_),(D1 (A6 "left"),.int left),(D1 (A6 "seed"),.int seed)]
def i3 (h:a≠b)(e:(A6 a == A6 b)=false:=by decide):¬((D1 (A6 a):Key)=D1 (A6 b)):=λz=>by
 have:=Sum.inr.inj z;rw[this] at e;simp at e
def SF:valV (dPot c a l s) (D1 (A6 "cells"):Key)=some (.ref c):=BA rfl
def SI:valV (dPot c a l s) (D1 (A6 "at"):Key)=some (.int a):=by
 unfold dPot;rw[BB (i3 0b0),BA rfl]
def SJ:valV (dPot c a l s) (D1 (A6 "left"):Key)=some (.int l):=by
 unfold dPot;rw[BB (i3 0b0),BB (i3 0b0),BA rfl]
def SK {c:A1}{a l s:Int}:valV (dPot c a l s) (D1 (A6 "seed"):Key)=some (.int s):=rfl
def SM {k:Key}{v:V}(h:(jg.any λkv=>decide (kv.1=k))=true):putK jg k v=jg.map (λkv=>if kv.1=k then(kv.1,v) else kv):=by unfold putK;rw[jt h]
def SN {c:A1}{a l s x:Int}:putK (dPot c a l s) (D1 (A6 "at"):Key) (.int x)=dPot c x l s:=rfl
def SO {c:A1}{a l s x:Int}:putK (dPot c a l s) (D1 (A6 "left"):Key) (.int x)=dPot c a x s:=rfl
def SQ:putK (dPot c a l s) (D1 (A6 "seed"):Key) (.int x)=dPot c a l x:=by
 rw[SM (by unfold dPot;simp)];unfold dPot;simp only[J3,l5];rw[ju (i3 0b0),ju (i3 0b0),ju (i3 0b0),jt trivial]
structure Dg (cells:List Int)(at_ left seed:Int):Prop where
 c63:cells.length<=63
 a0:0<=at_
 l0:0<=left
 s0:0<=seed
 s1:seed<2 ^ 62
def DPotAt (M:List A1)(H:Hp)(p:A1):Prop:=∃(c:A1) (cells:List Int) (at_ left seed:Int),H p=some (.dK (dPot c at_ left seed))/\c∉M/\H c=some (.lst (cells.map V.int))/\Dg cells at_ left seed
def potD:PotK where
 at_:=λM H p _=>DPotAt M H p
 mono:=λh _=>h
 keep:=λ⟨c,cells,a,l,s,h1,h2,h3,h4⟩ e k=>⟨c,cells,a,l,s,e.trans h1,h2,k c _ h2 h3,h4⟩
 more:=λ⟨c,cells,a,l,s,h1,h2,h3,h4⟩ k=>⟨c,cells,a,l,s,h1,λz=>(k c z).elim h2 λz=>(by rw[z] at h3;cases h3),h3,h4⟩
 mu:=λ⟨c,cells,a,l,s,h1,h2,h3,h4⟩=>⟨_,h1,trivial⟩
section
variable {P:C3}{w:B9}{K:A8}{mg:Str->Option A3}{base:B3}
def spNext:Sp:=λvs H Q _=>∃(p c:A1) (cells:List Int) (at_ left seed many:Int),vs=[.ref p,.int many]/\H p=some (.dK (dPot c at_ left seed))/\H c=some (.lst (cells.map V.int))/\Dg cells at_ left seed/\0<many/\many<1000000/\
 ∀d at' left' seed',0<=d->d<many->Dg cells at' left' seed'->Q (.int d) (upd H p (.dK (dPot c at' left' seed')))
def SS (G:Kn P w K mg base x k ps spNext):Kn P w K mg base x k ps (Bu K potD At):=G.imp λvs H Q E h=>by
 obtain⟨G,xs,n,R,hp,hm,_,r,hf,k⟩:=h;unfold At at hf
 split at hf
 ·rename_i kk m;obtain⟨v,rr,rfl,rv,u,r2,rfl,ru,rfl⟩:=r;obtain⟨p,ep,rfl⟩:=rv;obtain rfl:u=.int m:=ru;have pin:p∈G.pots:=G4 ep;obtain⟨pM,c,cells,a,l,s,e,hc,ec,ok⟩:=hp p pin;refine⟨p,c,cells,a,l,s,m,rfl,e,ec,ok,hf.1.1,hf.1.2.1,λd a' l' s' d0 d1 ok'=>?_⟩;refine k _ _ _ _ (hf.2 d d0 d1) rfl (λq hq=>?_) λb o hb eb=>?_
  ·by_cases hqp:q=p
   ·subst hqp;exact⟨c,cells,a',l',s',D9,hc,by rw[C8 λz=>hc (by rw[z];exact pM)];exact ec,ok'⟩
   ·obtain⟨_,c2,cells2,a2,l2,s2,e2,hc2,ec2,ok2⟩:=hp q hq;exact⟨c2,cells2,a2,l2,s2,by rw[C8 hqp];exact e2,hc2,by rw[C8 λz=>hc2 (by rw[z];exact pM)];exact ec2,ok2⟩
  ·rw[C8 (λz=>hb (by rw[z];exact pin))];exact eb
 ·exact hf.elim
def EZ (K:A8):Sp:=λvs H Q _=>∃(a:A1) (ns:List Int),vs=[.ref a]/\SqL K H a (ns.map V.int)/\ns.length<=63/\
 ∀(H':Hp) (p c:A1) (cells:List Int) (at_ left seed:Int),Same H H'->H p=none->H c=none->H' p=some (.dK (dPot c at_ left seed))->H' c=some (.lst (cells.map V.int))->Dg cells at_ left seed->Q (.ref p) H'
end
section
variable {ι:Type}{K:A8}{F:ι->Cx}{e:Expr}{es:List Expr}{st:Stmt}{pos:Pos}{pl:pA}{pe pa pb:pE}
def SR.potG (S:SR C G σ H env n)(hn:C.np=true)(mo:MutO ob)(h:H p=none)(sm:Same H H')(h':H' p=some ob)(ok:C.T.at_ (p::G.M) H' p n) :
   SR C ⟨p::G.M,G.pots++[p]⟩ σ H' env n:=by
 have hM:∀a∈p::G.M,a∈G.M\/H a=none:=λa ha=>(B5.mp ha).elim (λz=>.inr (z▸h)) .inl
 have hp:∀(k:Nat) (q:A1),G.pots[k]?=some q->(G.pots++[p])[k]?=some q:=λk q e=>by
  obtain⟨hk,_⟩:=D3.mp e;rw[W4 hk];exact e
 have mm:∀{x:PV} {v:V},Rep C.K G H x v->Rep C.K ⟨p::G.M,G.pots++[p]⟩ H' x v:=λr=>Rep.mono (G':=⟨p::G.M,G.pots++[p]⟩) (λb o _ e=>sm b o e) hM hp _ _ r;have mms:∀{x:List PV} {v:List V},Reps C.K G H x v->Reps C.K ⟨p::G.M,G.pots++[p]⟩ H' x v:=λr=>Reps.mono (G':=⟨p::G.M,G.pots++[p]⟩) (λb o _ e=>sm b o e) hM hp _ _ r;have pM:=S.fresh h
 exact {
  frame:=λb o hb e=>sm b o (S.frame b o hb e)
  sub:=λa ha=>(B5.mp ha).elim (λz=>.inr (z▸S.old h)) (S.sub a)
  sup:=λa ha=>B6 _ (S.sup a ha)
  pots:=λq hq=>by
   rcases D7.mp hq with z|z
   ·refine⟨B6 _ (S.pots q z).1,?_⟩;have h1:=C.T.more (M':=p::G.M) (S.pots q z).2 hM;obtain⟨o,e,_⟩:=C.T.mu h1;exact C.T.keep h1 (by rw[e,sm q o e]) λb o _ e=>sm b o e
   ·rw[E8.mp z];exact⟨B8,ok⟩
  pre:=by
   obtain⟨l,el,_⟩:=S.pre;exact⟨l++[p],by show G.pots++[p]=_;rw[el,R8],.inr hn⟩
  mu:=λa ha=>by
   rcases B5.mp ha with rfl|ha
   ·exact⟨ob,h',mo⟩
   ·obtain⟨o,e,m⟩:=S.mu a ha;exact⟨o,sm a o e,m⟩
  slots:=λi s e=>by
   cases s with
   | v x =>
    obtain⟨v,ev,r⟩:=S.slots i _ e;exact⟨v,ev,mm r⟩
   | ow kk xs =>
    obtain⟨b,us,ev,h1,h2,h3,h4,r⟩:=S.slots i _ e;refine⟨b,us,ev,B6 _ h1,h2,λz=>?_,sm _ _ h4,mms r⟩;rcases D7.mp z with z|z
    ·exact h3 z
    ·rw[E8.mp z] at h1;exact pM h1
  inj:=S.inj
  p0:=⟨S.p0.1,C.T.hasM S.p0.2 λz=>pM (S.pots p z).1⟩
  len:=S.len
  newp:=λq hq hn' hM=>by
   rcases D7.mp hq with z|z
   ·exact S.newp q z hn' hM
   ·rw[E8.mp z] at hM
    exact pM (S.sup p hM) }
def HV (i:Nat)(pa:pE):pS:=λD env n=>pa env n λx jc n1=>match x with|.scr ns=>ns.length<=63/\∀q:Nat,D.nx (jc.set i (some (.v (.pot q)))) n1|_=>False
def SU (i:Nat)(h:∀z te,EW (F z) (.Call (.Name x p) [a] [] pos) te->SW (F z) st (tAsg te (L6 i)))(hG:∀z,Kn (F z).prog (F z).w (F z).K (F z).mg (F z).base x k ps (EZ K))(hr:∀z,Room j (F z).A)(hk:k<=j)(hg:∀z,Gl (F z) x)
   (ha:QE potD K F a pa) (n1:D8 a=true) (hdb:(x == ("__debug__":Str))=false):QS potD true K F st (HV i pa):=by
 obtain⟨t,a1,a2⟩:=ha;refine⟨_,λz=>(h z _ ⟨pe_fn (hG z) (hr z) hk (hg z) (E3 (a1 z) G0 (C5 n1)) hdb (C5 n1)⟩).h,⇑_⟩;refine ↥a2 λx jc n1 v H1 q1 S1 r1 f1=>?_
 split at q1
 ·rename_i ns;obtain⟨a,ev,hq⟩:=CN (.inl r1);refine(show EZ K [v] H1 (λx H1=>L6 i x σ H1 D.nx) E0 from ?_);refine⟨a,ns,by rw[ev],hq,q1.1,λH2 p c cells a l s sm hp hc ep ec ok=>?_⟩
  have S2:=S1.potG hn (p:=p) (ob:=.dK (dPot c a l s)) trivial hp sm ep (by
   rw[hT];refine⟨c,cells,a,l,s,ep,λz=>?_,ec,ok⟩;rcases B5.mp z with rfl|z
   ·rw[ep] at ec;cases ec
   ·exact S1.fresh hc z)
  have S3:=S2.set i (x:=.pot G.pots.length) (v:=.ref p) ⟨p,0o0,rfl⟩;refine L.nx _ _ _ _ _ (q1.2 _) S3 ((Ext.fr f1).trans ⟨λb o _ e=>sm b o e,λc hc=>(B5.mp (show c∈p::G.M from hc)).elim (λz=>.inr (z▸hp)) .inl,λk q e=>?_⟩);obtain⟨hk,_⟩:=D3.mp e;show(G.pots++[p])[k]?=_;rw[W4 hk];exact e
 ·exact q1.elim
end
section
variable {T:PotK}{np:Bool}{ι:Type}{K:A8}{F:ι->Cx}{a b ea eb:Expr}{st:Stmt}{pos:Pos}{pa pb pi pj:pE}
def SV (K:A8)(hc:X.calm=true)(h1:GW X x gx)(h2:GW X y gy)(hn:(F4 [x,y] X.env).length=2:=by rfl)(hst:(F4 [x,y] X.env).findIdx? (·.1)=none:=by rfl)
   (hs:(F4 [x,y] X.env).map (·.2)=assign x X.env::(F4 [y] X.env).map (·.2):=by rfl) (hs2:(F4 [y] X.env).map (·.2)=assign y X.env::(F4 [] X.env).map (·.2):=by rfl) (hK:X.K=K:=by rfl) :
   GW X (.Tuple [x,y] k pos) (gTup K 2 (V4 gx (V4 gy gNil))):=⟨hK▸Ee hc (Bm h1.h (Bm h2.h Ed hs2) hs) hn hst⟩
def E_ (i:Nat)(pa pb pi pj:pE):pS:=λD env n=>pa env n λx jc n1=>pb jc n1 λy jd n2=>(∃xs,jd[i]?=some (some (.ow .lst xs)))/\gAt i pi x jd n2 λje n3=>gAt i pj y je n3 D.nx
def SX (i:Nat){tg:Expr}{k:Nat}{p:Pos}(h:∀z te g,EW (F z) (.Tuple [a,b] k p) te->GW (F z) tg g->SW (F z) st (tAsg te g))(hg:∀z ti tj,EW (F z) ea ti->EW (F z) eb tj->GW (F z) tg (gTup K 2 (V4 (gSub (tVar i) ti CC) (V4 (gSub (tVar i) tj CC) gNil))))(h1:QE T K F a pa)(h2:QE T K F b pb)(h3:QE T K F ea pi)(h4:QE T K F eb pj)(n1:D8 a=true)(n2:D8 b=true):QS T np K F st (E_ i pa pb pi pj):=by
 obtain⟨t,a1,a2⟩:=h1;obtain⟨u,b1,b2⟩:=h2;obtain⟨ti,i1,i2⟩:=h3;obtain⟨tj,j1,j2⟩:=h4;refine⟨_,λz=>(h z _ _ ⟨Ef (E3 (a1 z) (E3 (b1 z) G0 (C5 n2)) (C5 n1))⟩ (hg z _ _ ⟨i1 z⟩ ⟨j1 z⟩)).h,⇑_⟩;refine ↥a2 λx jc n1 v H1 q1 S1 r1 f1=>?_;refine b2 C G σ H1 jc n1 _ _ hK hT S1 q1 λy jd n2 w H2 q2 S2 r2 f2=>?_;obtain⟨⟨xs0,e0⟩,q2⟩:=q2;refine⟨by show 2<=B4;decide,λp hn'=>⟨p,[v,w],rfl,SqT.of D9,rfl,v,[w],rfl,?_⟩⟩;have sm:Same H2 (upd H2 p (.tup [v,w])):=Same.lay1 hn';generalize upd H2 p (.tup [v,w])=H3 at sm ⊢;have S3:=S2.same sm;obtain⟨a,vs,ev,h1,h2,h3,h4,r⟩:=S3.slots i _ e0;refine⟨.ref a,ev,?_⟩;refine i2 C G σ H3 jd n2 _ _ hK hT S3 q2 λd je n3 ud H4 q3 S4 r4 f4=>?_
 split at q3
 ·rename_i xs d ex
  split at q3
  ·rename_i jj ej;obtain⟨a',us,ev',g1,g2,g3,g4,r'⟩:=S4.slots i _ ex;rw[ev] at ev';cases ev';subst hK;obtain⟨S5,f5⟩:=S4.put ex ev (r'.set jj (((r1.fr f2).same sm).fr f4));refine⟨a,us,d,jj,rfl,r4,g4,by rw[<- r'.length];exact ej,?_⟩;refine⟨w,[],rfl,.ref a,ev,?_⟩;refine j2 C G σ _ _ n3 _ _ rfl hT S5 q3 λd2 env5 n5 ud2 H5 q5 S6 r6 f6=>?_
   split at q5
   ·rename_i xs2 d2 ex2
    split at q5
    ·rename_i jj2 ej2;obtain⟨a',us2,ev',k1,k2,k3,k4,r7⟩:=S6.slots i _ ex2;rw[ev] at ev';cases ev';obtain⟨S7,f7⟩:=S6.put ex2 ev (r7.set jj2 ((((r2.same sm).fr f4).fr f5).fr f6));exact⟨a,us2,d2,jj2,rfl,r6,k4,by rw[<- r7.length];exact ej2,rfl,L.nx _ _ _ _ _ q5 S7 (Ext.fr ((((((f1.trans f2).trans (Fr.of sm)).trans f4).trans f5).trans f6).trans f7))⟩
    ·grind
   ·grind
  ·grind
 grind
end
end Pu
end
section
namespace Pu
open PySem L2
def MC (zs:List Int)(d:Nat):(zs.map PV.int).all (cmpb d)=true:=by
 rw[List.all_map,C6];intro x _;cases d <;> rfl
theorem i5 {tt:pT}{rest:Pu.Env}{α:Type}(f:α->PV)(c:α->Bool):∀(xs:List α) (s0:Option Slot) (n:Nat) (R:List PV->Nat->Prop),(∀x∈xs,∀m Q,Q (c x) (some (.v (f x))::rest) m->tt (some (.v (f x))::rest) m Q)->R ((xs.filter c).map f) n->P3 (gN 0) tt (qV 0) (xs.map f) (s0::rest) n R
 |[],_,_,_,_,h=>h
 | x :: xs, s0, n, R, ht, h => by
  show tt (some (.v (f x))::rest) n _;refine ht x B8 n _ ?_
  by_cases hc:c x=true
  ·rw[jt hc];rw[List.filter_cons,jt hc] at h;show P3 (gN 0) tt (qV 0) (xs.map f) (some (.v (f x))::rest) n _;exact i5 f c xs _ n _ (λy hy=>ht y (B6 _ hy)) h
  ·rw[ju hc];rw[List.filter_cons,ju hc] at h;exact i5 f c xs _ n _ (λy hy=>ht y (B6 _ hy)) h
end Pu
end
section
namespace Pu
open PySem PySem.Spec L2
noncomputable def lt (f t:Int)(k:Nat):Nat:=97+((f+(k:Int)*t)%26).toNat
noncomputable def Az:List Int:=[1,3,5,7,9,11,15,17,19,21,23,25]
def lt_ne (ht:t∈Az)(f0:0<=f)(hjk:j<k)(hk:k<26):lt f t j≠lt f t k:=λh=>by
 have inv:∀t∈Az,∃u∈Az,t*u=26*(t*u/26)+1:=0b0
 obtain⟨u,_,hu⟩:=inv t ht;have e:(f+(j:Int)*t)%26=(f+(k:Int)*t)%26:=by unfold lt at h;omega
 have d:(26:Int) ∣ ((k:Int)-j)*t:=by
  have:=Int.dvd_of_emod_eq_zero (Int.emod_eq_emod_iff_emod_sub_eq_zero.mp e.symm);rw[show f+(k:Int)*t-(f+(j:Int)*t)=((k:Int)-j)*t by rw[Int.sub_mul];omega] at this;exact this
 have d2:(26:Int) ∣ ((k:Int)-j)*t*u:=Int.dvd_trans d (Int.dvd_mul_right _ _);rw[Int.mul_assoc,hu,Int.mul_add,Int.mul_one,<- Int.mul_assoc,Int.mul_comm _ 26,Int.mul_assoc] at d2;have d3:(26:Int) ∣ (k:Int)-j:=(Int.dvd_add_right (Int.dvd_mul_right _ _)).mp d2;omega
def lt_ltr:Ltr (lt f t k):=by
 unfold lt Ltr;have:=Ba (f+(k:Int)*t) (show(26:Int)≠0 by decide);have:=A_ (f+(k:Int)*t) (show(0:Int)<26 by decide);ext
def lt_at {k:Nat}:atI LETS.cps.toList ((f+(k:Int)*t)%26)=some (lt f t k):=
 Mb (Ba _ 0b0) (A_ _ 0b0)
def SY (ht:t∈Az):-(2 ^ 64)<t/\t<2 ^ 64:=by
 simp only[Az,B5,F6,or_false] at ht;rcases ht with rfl|rfl|rfl|rfl|rfl|rfl|rfl|rfl|rfl|rfl|rfl|rfl <;> decide
def LsE (m:Nat)(z:Str):Prop:=z.cps.toList.length=m/\∀c∈z.cps.toList,Ltr c
def LsE.more (h:LsE m z)(hc:Ltr c):LsE (m+1) (z++⟨#[c]⟩):=by
 refine⟨by rw[CG,C7,h.1];rfl,λd hd=>?_⟩;rw[CG] at hd;rcases D7.mp hd with hd|hd
 ·exact h.2 d hd
 ·have:d=c:=by simpa using hd
  rw[this];exact hc
def SZ (x:Str)(h:a<=b)(hb:b<=x.length):(T3 x (some (a:Int)) (some (b:Int))).cps.toList=(x.cps.toList.drop a).take (b-a):=by
 rw[L_,StrLaws.sliceText_nat x h hb]
def S_ {a b c:Nat}(hx:LsE 7 x)(ha:a<=b)(hb:b<=7)(hc:Ltr c) :
   L8 (T3 x none (some (a:Int))++⟨#[c]⟩++T3 x (some (a:Int)) (some (b:Int)))/\(T3 x none (some (a:Int))++⟨#[c]⟩++T3 x (some (a:Int)) (some (b:Int))).cps.toList[a]?=some c:=by
 have lx:x.length=7:=by rw[Z2];exact hx.1
 have e:(T3 x none (some (a:Int))++⟨#[c]⟩++T3 x (some (a:Int)) (some (b:Int))).cps.toList=x.cps.toList.take a++c::(x.cps.toList.drop a).take (b-a):=by
  rw[CG,CG,Ry x 0x0,SZ x ha 0x0];simp
 have lt:(x.cps.toList.take a).length=a:=by rw[J7,hx.1];ext
 have hl:(x.cps.toList.take a++c::(x.cps.toList.drop a).take (b-a)).length=b+1:=by
  rw[C7,D5,lt,J7,J8,hx.1];ext
 refine⟨⟨by rw[e];omega,by rw[e,hl];omega,λd hd=>?_⟩,?_⟩
 ·rw[e] at hd;rcases D7.mp hd with hd|hd
  ·exact hx.2 d (U7 hd)
  ·rcases B5.mp hd with hd|hd
   ·rw[hd];exact hc
   ·exact hx.2 d (Y4 (U7 hd))
 ·rw[e,R6 0x0,lt,AX];rfl
structure NmA (f t:Int)(a:Nat)(zs:List Str)(i:Nat):Prop where
 len:zs.length=i
 nd:zs.Nodup
 own:∀(j:Nat) (z:Str),zs[j]?=some z->z.cps.toList[a]?=some (lt f t j)
 bt:∀z∈zs,L8 z
def NmA.more (h:NmA f t a zs i)(ht:t∈Az)(f0:0<=f)(hi:i<26)(hz:L8 z)(hc:z.cps.toList[a]?=some (lt f t i)):NmA f t a (zs++[z]) (i+1):=by
 refine⟨by rw[C7,h.len];rfl,?_,λj y e=>?_,λy hy=>?_⟩
 ·rw[DK];refine⟨h.nd,0o0,λx hx y hy e=>?_⟩;rw[E8.mp hy] at e;obtain⟨j,hj,ej⟩:=Gm.mp hx;have:=h.own j x (by rw[C9 hj,ej]);rw[e,hc] at this;exact lt_ne ht f0 (show j<i by rw[<- h.len];exact hj) hi (L4 this).symm
 ·by_cases c:j<zs.length
  ·rw[W4 c] at e;exact h.own j y e
  ·have hl:=h.len
   have:j=i:=by
    obtain⟨hh,_⟩:=D3.mp e;rw[C7,Q5] at hh;omega
   subst this;rw[R6 0x0,hl,AX] at e;have e':z=y:=by simpa using e
   rw[<- e'];exact hc
 ·rcases D7.mp hy with hy|hy
  ·exact h.bt y hy
  ·rw[E8.mp hy];exact hz
def Fa {zs:List Str}:memP (.str z) (zs.map PV.str)=decide (z∈zs):=by
 unfold memP;rw[List.any_map,V0,k9,decide_eq_true_iff];constructor
 ·rintro⟨y,hy,e⟩;have e':decide (y=z)=true:=by rw[<- p9];exact e
  rw[<- jv e'];exact hy
 ·intro h;refine⟨z,h,?_⟩;show eqP (.str z) (.str z)=true;rw[p9];exact jq rfl
def i6 (zs:List Str)(d:Nat):(zs.map PV.str).all (cmpb d)=true:=by
 rw[List.all_map,C6];intro x _;cases d <;> rfl
def MD {zs:List Str}(hP:zs.map PV.str=P)(h:R (.bl (decide (z∈zs)))):wIn 4 false (.str z) (.tup P) R:=by
 subst hP;exact⟨rfl,i6 zs 4,by rw[Fa];exact h⟩
def BL {zs:List Str}(hP:zs.map PV.str=P)(h:R (.bl (!decide (z∈zs)))):wIn 4 true (.str z) (.tup P) R:=by
 subst hP;exact⟨rfl,i6 zs 4,by rw[Fa];exact h⟩
def ME {zs:List Str}(hP:zs.map PV.str=P)(h:R (.bl (decide (z∈zs)))):wIn 4 false (.str z) (.lst P) R:=by
 subst hP;exact⟨rfl,i6 zs 4,by rw[Fa];exact h⟩
def HW {zs:List Str}(hP:zs.map PV.str=P)(h:R (.bl (!decide (z∈zs)))):wIn 4 true (.str z) (.lst P) R:=by
 subst hP;exact⟨rfl,i6 zs 4,by rw[Fa];exact h⟩
def RowS (zs:List Str):Prop:=zs.Nodup/\∀z∈zs,L8 z
abbrev rowP (zs:List Str):PV:=.tup (zs.map PV.str)
inductive Ev where
 |d (x:Str)|t (x y:Str)
abbrev DROP:Str:=A6 "drop"
abbrev O4:Str:=A6 "touch"
noncomputable def evK:Ev->List Key
 |.d x=>[.inr DROP,.inr x]
 |.t x y=>[.inr O4,.inr x,.inr y]
def evP (e:Ev):PV:=tupP (evK e)
def HX (x:Str):evP (.d x)=.tup [.str DROP,.str x]:=rfl
def N2 (x y:Str):evP (.t x y)=.tup [.str O4,.str x,.str y]:=rfl
def shP (es:List Ev):PV:=.tup (es.map evP)
def dayP (ds:List (List Ev)):PV:=.tup (ds.map shP)
def ev_al (a b:Ev):Al (evK a) (evK b):=by grind [Al,Ev,evK]
def MF (h:evK a=evK b):a=b:=by grind [Ev,evK]
def ev_ne (e:Ev):evK e≠[]:=by cases e <;> simp[evK]
def Ta (h:tupP a=tupP b):a=b:=by
 have:=congrArg keyP h;unfold tupP at this;rw[R0,R0] at this;exact this
def Tc (h:evP a=evP b):a=b:=MF (Ta h)
theorem MG (es:List Ev):∀ys:List PV,(∀y∈ys,y∈es.map evP)->∃es':List Ev,ys=es'.map evP/\∀e∈es',e∈es
 |[],_=>⟨[],rfl,λ_ z=>nomatch z⟩
 | y :: ys, h => by
  obtain⟨e,he,rfl⟩:=D2.mp (h y B8);obtain⟨es',rfl,h2⟩:=MG es ys λz hz=>h z (B6 _ hz);exact⟨e::es',rfl,λz hz=>(B5.mp hz).elim (λe'=>e'▸he) (h2 z)⟩
def Td (es:List Ev):EU (es.map evP):=by
 refine .inr (.inr ⟨λx hx=>?_,λx hx y hy=>?_⟩)
 ·obtain⟨e,_,rfl⟩:=D2.mp hx;exact⟨evK e,rfl,ev_ne e⟩
 ·obtain⟨e,_,rfl⟩:=D2.mp hx;obtain⟨e',_,rfl⟩:=D2.mp hy;unfold evP tupP;rw[R0,R0];exact ev_al e e'
def Te (h:Srt ys (es.map evP)):∃es':List Ev,ys=es'.map evP/\es'.Perm es:=by
 obtain⟨es',rfl,_⟩:=MG es ys λy hy=>h.1.mem_iff.mp hy;refine⟨es',rfl,?_⟩;have:=h.1;clear h
 have inj:∀{a b:List Ev},(a.map evP).Perm (b.map evP)->a.Perm b:=by
  intro a b p;have h1:=p.map λy=>(match y with|.tup [_,.str x]=>Ev.d x|.tup [_,.str x,.str y]=>Ev.t x y|_=>Ev.d (A6 ""));rw[R9,R9] at h1
  have e:((λy=>(match y with|PV.tup [_,.str x]=>Ev.d x|.tup [_,.str x,.str y]=>Ev.t x y|_=>Ev.d (A6 "")))∘evP)=id:=by
   funext e
   cases e <;> rfl
  rw[e,List.map_id,List.map_id] at h1;exact h1
 exact inj this
noncomputable def evB:Ev->List Str
 |.d x=>[x]
 |.t x y=>[x,y]
def MH {es es':List Ev}(h:es'.Perm es):(es'.flatMap evB).Perm (es.flatMap evB):=h.flatMap_right evB
def Dh {zs:List Str}(nd:zs.Nodup){i j:Nat}(h1:zs[i]?=some z)(h2:zs[j]?=some z):i=j:=by
 obtain⟨l1,e1⟩:=D3.mp h1;obtain⟨l2,e2⟩:=D3.mp h2;rcases d8 i j with h|h|h
 ·exact absurd (e1.trans e2.symm) (Y3.mp nd i j l1 l2 h)
 ·exact h
 ·exact absurd (e2.trans e1.symm) (Y3.mp nd j i l2 l1 h)
def ixS (zs:List Str)(z:Str):Nat:=zs.findIdx λy=>decide (y=z)
def Q1 (h:z∈zs):zs[ixS zs z]?=some z/\∀i,i<ixS zs z->zs[i]?≠some z:=by
 unfold ixS;have hl:zs.findIdx (λy=>decide (y=z))<zs.length:=List.findIdx_lt_length_of_exists ⟨z,h,0o0⟩;refine⟨?_,λi hi e=>?_⟩
 ·rw[C9 hl];have:=List.findIdx_getElem (w:=hl);rw[jv this]
 ·have:=List.not_of_lt_findIdx hi;obtain⟨l1,e1⟩:=D3.mp e;rw[e1] at this;simp at this
def M5 (h:z∈zs):ixS zs z<zs.length:=(D3.mp (Q1 h).1).1
def m_ix (hP:zs.map PV.str=P)(h:z∈zs)(hl:zs.length<=1000000)(q:R (.int (ixS zs z))):Z5 (.tup P) (.str z) R:=by
 subst hP;unfold Z5;dsimp only;rw[LA];exact⟨hl,ixS zs z,(Q1 h).1,(Q1 h).2,q⟩
inductive Mk where
 |d|o|t|u
 deriving DecidableEq
noncomputable def mkS:Mk->Str
 |.d=>A6 "d"
 |.o=>A6 "o"
 |.t=>A6 "t"
 |.u=>A6 "u"
def mkP (m:Mk):PV:=.str (mkS m)
def mk_t (m:Mk):decide (mkS m=A6 "t")=decide (m=.t):=by cases m <;> decide +kernel
def mk_u (m:Mk):decide (mkS m=A6 "u")=decide (m=.u):=by cases m <;> decide +kernel
def mk_d (m:Mk):decide (mkS m=A6 "d")=decide (m=.d):=by cases m <;> decide +kernel
noncomputable def run (r:Int):Nat->List Nat->List Mk->Option (List Nat)
 |_,st,[]=>some st
 |k,st,.t::m=>run r (k+1) (k::st) m
 |k,st,.d::m=>run r (k+1) st m
 |k,[],.o::m=>run r (k+1) [] m
 |_,_::_,.o::_=>none
 |_,[],.u::_=>none
 |k,p::st,.u::m=>if(k:Int)-p-1<=r then run r (k+1) st m else none
theorem i7:∀(a:List Mk) (k:Nat) (st:List Nat) (b:List Mk),run r k st (a++b)=(run r k st a).bind λst'=>run r (k+a.length) st' b
 |[],k,st,b=>rfl
 | .t :: a, k, st, b => by
  rw[c7];show run r (k+1) (k::st) (a++b)=(run r (k+1) (k::st) a).bind _;rw[i7 a,D5,show k+1+a.length=k+(a.length+1) by omega]
 | .d :: a, k, st, b => by
  rw[c7];show run r (k+1) st (a++b)=(run r (k+1) st a).bind _;rw[i7 a,D5,show k+1+a.length=k+(a.length+1) by omega]
 | .o :: a, k, [], b => by
  rw[c7];show run r (k+1) [] (a++b)=(run r (k+1) [] a).bind _;rw[i7 a,D5,show k+1+a.length=k+(a.length+1) by omega]
 |.o::a,k,p::st,b=>rfl
 |.u::a,k,[],b=>rfl
 | .u :: a, k, p :: st, b => by
  rw[c7];show(if(k:Int)-p-1<=r then run r (k+1) st (a++b) else none)=(if(k:Int)-p-1<=r then run r (k+1) st a else none).bind _
  split
  ·rw[i7 a,D5,show k+1+a.length=k+(a.length+1) by omega]
  ·rfl
def Cl (r:Int)(k:Nat)(m:List Mk):Prop:=∀st,run r k st m=some st
def Cl.app (h1:Cl r k a)(h2:Cl r (k+a.length) b):Cl r k (a++b):=λst=>by rw[i7,h1 st];exact h2 st
def Cl.nil:Cl r k []:=λ_=>rfl
theorem Cl.d (h:Cl r (k+1) m):Cl r k (.d::m):=λst=>h st
def Cl.tu (h:Cl r (k+1) m)(hl:(m.length:Int)<=r):Cl r k (.t::m++[.u]):=λst=>by
 show run r (k+1) (k::st) (m++[.u])=some st;rw[i7,h (k::st)];show(if((k+1+m.length:Nat):Int)-k-1<=r then some st else none)=some st;rw[jt 0x0]
def Seg (r:Int):List Nat->List Mk->Prop
 |[],m=>run r 0 [] m=some []
 |p::ps,m=>∃m1 m2,m=m1++.d::m2/\m1.length=p/\Cl r (p+1) m2/\Seg r ps m1
theorem Seg.app {r:Int}:∀{ps:List Nat} {m b:List Mk},Seg r ps m->Cl r m.length b->Seg r ps (m++b)
 | [], m, b, h, hb => by
  show run r 0 [] (m++b)=some [];rw[i7,show run r 0 [] m=some [] from h,J4];exact hb []
 | p :: ps, m, b, h, hb => by
  obtain⟨m1,m2,rfl,e,h2,h3⟩:=h;refine⟨m1,m2++b,0o0,e,h2.app ?_,h3⟩;rw[C7,D5,e] at hb;rw[show p+1+m2.length=p+(m2.length+1) by omega];exact hb
theorem Seg.wrd:∀{ps:List Nat} {m:List Mk},Seg r ps m->run r 0 [] m=some []
 |[],m,h=>h
 | p :: ps, m, h => by
  obtain⟨m1,m2,rfl,e,h2,h3⟩:=h;rw[i7,Seg.wrd h3,J4,e];exact h2 []
def Seg.len {r:Int}:∀{ps:List Nat} {m:List Mk},Seg r ps m->ps.length<=m.length:=by intro a;induction a <;> intros <;> grind [Mk,Seg]
def Seg.push (h:Seg r ps m):Seg r (m.length::ps) (m++[.d]):=⟨m,[],rfl,rfl,.nil,h⟩
def Seg.over (h:Seg r [] m):Seg r [] (m++[.o]):=by
 show run r 0 [] (m++[.o])=some [];rw[i7,show run r 0 [] m=some [] from h]
 rfl
def Seg.drop (h:Seg r ps m):Seg r ps (m++[.d]):=h.app (Cl.d .nil)
def Seg.popd (h:Seg r (p::ps) m):p<m.length/\m.set p .d=m/\Seg r ps m:=by
 obtain⟨m1,m2,rfl,rfl,h2,h3⟩:=h;refine⟨0o0,0o0,h3.app (Cl.d h2)⟩
def Seg.popt {r:Int}{p:Nat}{ps:List Nat}{m:List Mk}(h:Seg r (p::ps) m)(hr:(m.length:Int)-p-1<=r):p<m.length/\Seg r ps (m.set p .t++[.u]):=by
 obtain⟨m1,m2,rfl,rfl,h2,h3⟩:=h;refine⟨0o0,?_⟩;have e:(m1++Mk.d::m2).set m1.length .t++[.u]=m1++(.t::m2++[.u]):=0o0
 rw[e];refine h3.app (Cl.tu h2 ?_)
 grind
inductive PE where
 |d (i:Nat)|t (i j:Nat)
noncomputable def peB:PE->List Nat
 |.d i=>[i]
 |.t i j=>[i,j]
noncomputable def shE:Nat->List Nat->List Mk->List PE
 |_,_,[]=>[]
 |k,st,.t::m=>shE (k+1) (k::st) m
 |k,st,.d::m=>.d k::shE (k+1) st m
 |k,st,.o::m=>shE (k+1) st m
 |k,[],.u::m=>shE (k+1) [] m
 |k,p::st,.u::m=>.t k p::shE (k+1) st m
theorem BM:∀(m:List Mk) (k:Nat) (st:List Nat),st.Nodup->(∀p∈st,p<k)->((shE k st m).flatMap peB).Nodup/\∀q∈(shE k st m).flatMap peB,q∈st\/(k<=q/\q<k+m.length)
 |[],k,st,_,_=>⟨by simp[shE],λq hq=>by simp[shE] at hq⟩
 | .t :: m, k, st, nd, hs => by
  obtain⟨h1,h2⟩:=BM m (k+1) (k::st) (O8.mpr ⟨λz=>absurd (hs k z) (U9 k),nd⟩) (λp hp=>(B5.mp hp).elim (λe=>0x0) λhp=>by have:=hs p hp;ext);refine⟨h1,λq hq=>?_⟩;rw[D5];rcases h2 q hq with h|h
  ·grind
  ·ext
 | .d :: m, k, st, nd, hs => by
  obtain⟨h1,h2⟩:=BM m (k+1) st nd (λp hp=>by have:=hs p hp;ext);show((PE.d k::shE (k+1) st m).flatMap peB).Nodup/\∀q∈(PE.d k::shE (k+1) st m).flatMap peB,_;simp only[k8,peB,c7,l4];refine⟨O8.mpr ⟨λz=>?_,h1⟩,λq hq=>?_⟩
  ·grind
  ·grind
 | .o :: m, k, st, nd, hs => by
  obtain⟨h1,h2⟩:=BM m (k+1) st nd (λp hp=>by have:=hs p hp;omega);refine⟨by unfold shE;exact h1,λq hq=>?_⟩;unfold shE at hq;rw[D5];rcases h2 q hq with h|h
  ·grind
  ·grind
 | .u :: m, k, [], nd, hs => by
  obtain⟨h1,h2⟩:=BM m (k+1) [] nd (λp hp=>by have:=hs p hp;omega);refine⟨by unfold shE;exact h1,λq hq=>?_⟩;unfold shE at hq;rw[D5];rcases h2 q hq with h|h
  ·grind
  ·grind
 | .u :: m, k, p :: st, nd, hs => by
  obtain⟨np,nd'⟩:=O8.mp nd;have hp:=hs p B8;obtain⟨h1,h2⟩:=BM m (k+1) st nd' (λq hq=>by have:=hs q (B6 _ hq);ext);show((PE.t k p::shE (k+1) st m).flatMap peB).Nodup/\∀q∈(PE.t k p::shE (k+1) st m).flatMap peB,_;simp only[k8,peB,c7,l4];refine⟨O8.mpr ⟨λz=>?_,O8.mpr ⟨λz=>?_,h1⟩⟩,λq hq=>?_⟩
  ·grind
  ·grind
  ·grind
def nm (zs:List Str)(i:Nat):Str:=zs.getD i (A6 "")
noncomputable def evOf (zs:List Str):PE->Ev
 |.d i=>.d (nm zs i)
 |.t i j=>.t (nm zs i) (nm zs j)
def evB_of (zs:List Str)(e:PE):evB (evOf zs e)=(peB e).map (nm zs):=by cases e <;> rfl
def MI (zs:List Str)(es:List PE):(es.map (evOf zs)).flatMap evB=(es.flatMap peB).map (nm zs):=by induction es <;> grind [PE,evB,evOf,nm,peB]
def R1 {zs:List Str}{i:Nat}(h:i<zs.length):zs[i]?=some (nm zs i):=by grind [nm]
def Di (h:i<zs.length):nm zs i∈zs:=G4 (R1 h)
def nm_inj (nd:zs.Nodup)(hi:i<zs.length)(hj:j<zs.length)(h:nm zs i=nm zs j):i=j:=Dh nd (R1 hi) (by rw[h];exact R1 hj)
structure Fair (zs:List Str)(es:List Ev):Prop where
 nd:(es.flatMap evB).Nodup
 sub:∀b∈es.flatMap evB,b∈zs
theorem Fb {α β:Type}(f:α->β):∀{l:List α},l.Nodup->(∀a∈l,∀b∈l,f a=f b->a=b)->(l.map f).Nodup
 |[],_,_=>0o0
 | a :: l, h, hf => by
  obtain⟨h1,h2⟩:=O8.mp h;rw[J3,O8];refine⟨λz=>?_,Fb f h2 λx hx y hy=>hf x (B6 _ hx) y (B6 _ hy)⟩;obtain⟨b,hb,e⟩:=D2.mp z;exact h1 (hf b (B6 _ hb) a B8 e▸hb)
def Tf (nd:zs.Nodup)(hl:m.length=zs.length):Fair zs ((shE 0 [] m).map (evOf zs)):=by
 obtain⟨h1,h2⟩:=BM m 0 [] 0o0 (λ_ z=>nomatch z)
 have h3:∀q∈(shE 0 [] m).flatMap peB,q<zs.length:=λq hq=>by
  rcases h2 q hq with h|h
  ·cases h
  ·ext
 refine⟨?_,λb hb=>?_⟩
 ·rw[MI];exact Fb _ h1 λa ha b hb e=>nm_inj nd (h3 a ha) (h3 b hb) e
 ·rw[MI] at hb;obtain⟨q,hq,rfl⟩:=D2.mp hb;exact Di (h3 q hq)
def Fair.perm (h:Fair zs es)(p:es'.Perm es):Fair zs es':=
 ⟨(MH p).nodup_iff.mpr h.nd,λb hb=>h.sub b ((MH p).mem_iff.mp hb)⟩
noncomputable def setE (st f:List Str):Ev->List Str
 |.d _=>f
 |.t x y=>(f.set (ixS st x) y).set (ixS st y) x
noncomputable def exch (f:List Str)(i j:Nat):List Str:=(f.set i (nm f j)).set j (nm f i)
noncomputable def exE (st f:List Str):Ev->List Str
 |.d _=>f
 |.t x y=>exch f (ixS st x) (ixS st y)
def aft (st:List Str)(es:List Ev):List Str:=es.foldl (setE st) st
def rbh (st:List Str)(es:List Ev):List Str:=es.foldl (exE st) st
def AA (hx:x∈zs)(hy:y∈zs)(h:ixS zs x=ixS zs y):x=y:=by
 have h1:=(Q1 hx).1;rw[h,(Q1 hy).1] at h1;exact(L4 h1).symm
theorem HZ:∀(es:List Ev) (f:List Str),(es.flatMap evB).Nodup->(∀b∈es.flatMap evB,b∈st/\f[ixS st b]?=some b)->es.foldl (setE st) f=es.foldl (exE st) f
 |[],f,_,_=>rfl
 | .d x :: es, f, nd, h => by
  simp only[k8,evB,c7,l4] at nd h;exact HZ es f (O8.mp nd).2 λb hb=>h b (B6 _ hb)
 | .t x y :: es, f, nd, h => by
  simp only[k8,evB,c7,l4] at nd h;obtain⟨nx,nd1⟩:=O8.mp nd;obtain⟨ny,nd2⟩:=O8.mp nd1;obtain⟨hx1,hx2⟩:=h x B8;obtain⟨hy1,hy2⟩:=h y (B6 _ B8)
  have e:setE st f (.t x y)=exE st f (.t x y):=by
   show(f.set (ixS st x) y).set (ixS st y) x=exch f (ixS st x) (ixS st y);unfold exch nm;rw[Y2,Y2,hx2,hy2];rfl
  rw[W6,W6,e];refine HZ es _ nd2 λb hb=>?_;obtain⟨hb1,hb2⟩:=h b (B6 _ (B6 _ hb));refine⟨hb1,?_⟩;rw[<- e];show((f.set (ixS st x) y).set (ixS st y) x)[ixS st b]?=some b;have bx:ixS st x≠ixS st b:=λz=>nx (by rw[AA hx1 hb1 z];exact B6 _ hb);have by_:ixS st y≠ixS st b:=λz=>ny (by rw[AA hy1 hb1 z];exact hb);rw[M8 by_,M8 bx];exact hb2
def H_ (h:Fair st es):aft st es=rbh st es:=HZ es st h.nd λb hb=>⟨h.sub b hb,(Q1 (h.sub b hb)).1⟩
def MJ (st f:List Str)(e:Ev):(setE st f e).length=f.length:=by cases e <;> simp[setE]
def Fc (st:List Str)(es:List Ev):(aft st es).length=st.length:=by
 unfold aft
 have:∀(es:List Ev) (f:List Str),(es.foldl (setE st) f).length=f.length:=by
  intro es
  induction es with
  |nil=>intro f;rfl
  |cons e es ih=>intro f;rw[W6,ih,MJ]
 exact this es st
def Tg (hi:i<f.length)(hj:j<f.length):(exch f i j).Perm f:=by
 unfold exch nm;rw[Y2,Y2,C9 hi,C9 hj];show((f.set i f[j]).set j f[i]).Perm f;exact List.set_set_perm hi hj
def MK (h:∀b∈es.flatMap evB,b∈st):(rbh st es).Perm st:=by
 unfold rbh
 have:∀(es:List Ev) (f:List Str),(∀b∈es.flatMap evB,b∈st)->f.length=st.length->(es.foldl (exE st) f).Perm f:=by
  intro es
  induction es with
  |nil=>intro f _ _;exact Cq _
  | cons e es ih =>
   intro f hb hl;rw[W6]
   have p:(exE st f e).Perm f:=by
    cases e with
    |d x=>exact Cq _
    |t x y=>exact Tg (by rw[hl];exact M5 (hb x (by simp[evB]))) (by rw[hl];exact M5 (hb y (by simp[evB])))
   exact(ih _ (λb h=>hb b (by rw[k8];exact U6 _ h)) (by rw[p.length_eq,hl])).trans p
 exact this es st h rfl
def Dj {α β:Type}{f:α->β}{l:List α}{i:Nat}{y:β}(h:(l.map f)[i]?=some y):∃x,l[i]?=some x/\y=f x:=by
 rw[D4] at h;cases e:l[i]? with
 |none=>rw[e] at h;cases h
 |some x=>rw[e] at h;exact⟨x,rfl,(L4 h).symm⟩
def Fd {α:Type}{l:List α}{i:Nat}{x:α}(h:l[i]?=some x):l.take (i+1)=l.take i++[x]:=by
 rw[List.take_add_one,h];rfl
def Ia (h:((C2 m).map λ(k:Nat)=>PV.int (j-1-k))[i]?=some x):i<m/\x=.int (j-1-i):=by
 rw[D4] at h;cases e:(C2 m)[i]? with
 |none=>rw[e] at h;cases h
 | some y =>
  rw[e] at h;obtain⟨h1,h2⟩:=D3.mp e;rw[DI] at h2;subst h2;rw[U8] at h1;exact⟨h1,(L4 h).symm⟩
def Ib:((C2 m).map λ(k:Nat)=>PV.int (j-1-k)).length=m:=0o0
def Fe {α:Type}(xs:List α){a b:Nat}(h:b<=xs.length):cutP xs (some (a:Int)) (some (b:Int))=(xs.take b).drop a:=by
 unfold cutP;rw[HT.sIx_nat,HT.sIx_nat,AV h,List.drop_take];rcases Cg a xs.length with h2|h2
 ·rw[AV h2]
 ·rw[Ce h2,R7 (B2 _),R7 h2];simp
def i8 {α:Type}(xs:List α)(b:Nat):cutP xs none (some (b:Int))=xs.take b:=by
 unfold cutP;rw[HT.sIx_none,HT.sIx_nat,y3,Nat.sub_zero];rcases Cg b xs.length with h2|h2
 ·rw[AV h2]
 ·rw[Ce h2,b8 (B2 _),b8 h2]
def Z6 {α:Type}(xs:List α)(a:Nat):cutP xs (some (a:Int)) none=xs.drop a:=by
 unfold cutP;rw[HT.sIx_nat,HT.sIx_none];rcases Cg a xs.length with h2|h2
 ·rw[AV h2];exact b8 (by rw[J8];exact B2 _)
 ·rw[Ce h2,R7 h2,R7 (B2 _)];simp
noncomputable def hiN (s n k:Nat):Nat:=min (k*s+s) (n-1)
noncomputable def C0 (s n k:Nat)(row:List Str):List Str:=(row.take (hiN s n k+1)).drop (k*s)
noncomputable def putN (s n k:Nat)(row b:List Str):List Str:=row.take (k*s)++b++row.drop (hiN s n k+1)
def startN_sub {s n k:Nat}{row:List Str}:∀z∈C0 s n k row,z∈row:=by grind [C0]
def Z7 {s n k:Nat}{row:List Str}(h:RowS row):RowS (C0 s n k row):=by grind [RowS,C0]
def AB {s n k:Nat}{row:List Str}(hn:row.length=n)(h1:1<=n):(C0 s n k row).length=hiN s n k+1-k*s:=by grind [hiN,C0]
def Th {s n k:Nat}{row b:List Str}(hn:row.length=n)(h1:1<=n)(hk:k*s<=hiN s n k)(hb:b.length=(C0 s n k row).length):(putN s n k row b).length=n:=by grind [hiN,putN,C0]
def MM (hk:k*s<=hiN s n k+1):row.take (k*s)++C0 s n k row++row.drop (hiN s n k+1)=row:=by
 unfold C0;have e1:row.take (k*s)=(row.take (hiN s n k+1)).take (k*s):=by rw[List.take_take,AV hk]
 rw[e1,x8,x8]
def Ie (hk:k*s<=hiN s n k+1)(p:b.Perm (C0 s n k row)):(putN s n k row b).Perm row:=by
 have h1:(putN s n k row b).Perm (row.take (k*s)++C0 s n k row++row.drop (hiN s n k+1)):=(p.append_left _).append_right _;rw[MM hk] at h1;exact h1
def RowS.perm {a b:List Str}(h:RowS a)(p:b.Perm a):RowS b:=by grind [RowS]
def at2_0 {α:Type}{a b:α}:atI [a,b] 0=some a:=rfl
def at2_1 {α:Type}{a b:α}:atI [a,b] 1=some b:=rfl
def at3_0 {α:Type}{a b c:α}:atI [a,b,c] 0=some a:=rfl
def at3_1 {α:Type}{a b c:α}:atI [a,b,c] 1=some b:=rfl
def at3_2 {α:Type}{a b c:α}:atI [a,b,c] 2=some c:=rfl
def MN:decide (DROP=A6 "touch")=false:=by decide +kernel
noncomputable def isTo:Ev->Bool
 |.d _=>false
 |.t _ _=>true
def Ti (st f:List Str)(e:Ev):(exE st f e).length=f.length:=by cases e <;> simp[exE,exch]
theorem Ig (st:List Str):∀(es:List Ev) (f:List Str),(es.foldl (exE st) f).length=f.length
 |[],f=>rfl
 |e::es,f=>by rw[W6,Ig st es,Ti]
theorem Ih (st:List Str):∀(es:List Ev) (f:List Str),(es.filter isTo).foldl (exE st) f=es.foldl (exE st) f
 |[],f=>rfl
 |.d x::es,f=>Ih st es f
 | .t x y :: es, f => by
  rw[List.filter_cons,jt (show isTo (.t x y)=true from rfl),W6,W6];exact Ih st es _
inductive Dy (P:List Str->List Ev->Prop)(s n mx:Nat)(row:List Str):Nat->List (List Ev)->List (List Str)->List Str->Prop where
 |nil:Dy P s n mx row 0 [] [] row
 |cons {i:Nat} {ess:List (List Ev)} {sts:List (List Str)} {r:List Str} {es:List Ev} (h:Dy P s n mx row i ess sts r) (hi:i<mx) (hp:P (C0 s n (mx-1-i) r) es) :
     Dy P s n mx row (i+1) (es::ess) (C0 s n (mx-1-i) r::sts) (putN s n (mx-1-i) r (aft (C0 s n (mx-1-i) r) es))
section
variable {P:List Str->List Ev->Prop}{s n mx:Nat}{row:List Str}
def Dy.len (h:Dy P s n mx row i ess sts r):ess.length=i/\sts.length=i:=by
 induction h with
 |nil=>exact⟨rfl,rfl⟩
 |cons _ _ _ ih=>exact⟨by rw[D5,ih.1],by rw[D5,ih.2]⟩
def Ff (h1:1<=s)(hn:1<=n)(hk:k<(n+s-1)/s):k*s<=n-1:=by
 have:(n+s-1)/s*s<=n+s-1:=Nat.div_mul_le_self _ _;have h2:(k+1)*s<=(n+s-1)/s*s:=Nat.mul_le_mul_right s hk;rw[Ci,Nat.one_mul] at h2;omega
def MO (h1:1<=s)(hn:1<=n):(n+s-1)/s<=n:=by
 refine Nat.div_le_of_le_mul ?_;obtain⟨n,rfl⟩:∃k,n=k+1:=⟨n-1,0x0⟩;have:s*(n+1)=s*n+s:=Nat.mul_succ s n;have:n<=s*n:=Nat.le_mul_of_pos_left n h1;ext
def Fg (h:k*s<=n-1):k*s<=hiN s n k:=by unfold hiN;ext
def Dy.rows (h1:1<=s)(hn:1<=n)(hmx:mx=(n+s-1)/s)(hf:∀st es,P st es->Fair st es)(hr:RowS row)(hl:row.length=n)(h:Dy P s n mx row i ess sts r):RowS r/\r.length=n:=by
 induction h with
 |nil=>exact⟨hr,hl⟩
 | @cons i ess sts r es h hi hp ih =>
  have f:=hf _ _ hp;have kh:=Fg (s:=s) (n:=n) (Ff h1 hn (show mx-1-i<(n+s-1)/s by ext));refine⟨ih.1.perm (Ie 0x0 ?_),Th ih.2 hn kh (Fc _ _)⟩;rw[H_ f];exact MK f.sub
end
def Tj (h:L8 z):shw (.str z):=λc hc=>by
 have:=(h.2.2 c hc).2;ext
def Tm (h:L8 z):cost (.str z)<=82:=by
 have:=h.2.1;have e:z.length=z.cps.toList.length:=Z2 z;show 10*z.length+2<=82;ext
structure Show (d c:Nat)(x:PV):Prop where
 sh:shw x
 de:dep x<=d
 co:cost x<=c
theorem Show.tup (h:∀x∈xs,Show d c x)(hl:xs.length<=l):Show (d+1) ((c+2)*l+3) (.tup xs):=by
 refine⟨EG _ λx hx=>(h x hx).sh,?_,?_⟩
 ·have:=EH d xs λx hx=>(h x hx).de;show deps xs+1<=d+1;ext
 ·have:=LX c xs λx hx=>(h x hx).co;have h2:=Nat.mul_le_mul_left (c+2) hl;show F3 xs+3<=_;ext
theorem Show.lst (h:∀x∈xs,Show d c x)(hl:xs.length<=l):Show (d+1) ((c+2)*l+3) (.lst xs):=by
 have t:=Show.tup h hl;exact⟨t.sh,t.de,t.co⟩
def Show.le {d c d' c':Nat}{x:PV}(h:Show d c x)(hd:d<=d')(hc:c<=c'):Show d' c' x:=by grind [PV,Show]
def Dk (h:L8 z):Show 0 82 (.str z):=⟨Tj h,B2 _,Tm h⟩
def MP {zs:List Str}(h:∀z∈zs,L8 z)(hl:zs.length<=24):Show 1 2100 (rowP zs):=
 (Show.tup (d:=0) (c:=82) (l:=24) (xs:=zs.map PV.str) (λx hx=>by obtain⟨z,hz,rfl⟩:=D2.mp hx;exact Dk (h z hz)) (by grind)).le (B2 _) 0b0
def i9 (z:Str)(h1:∀c∈z.cps.toList,c<16 ^ 8)(h2:z.length<=8):Show 0 82 (.str z):=⟨h1,B2 _,by show 10*z.length+2<=82;ext⟩
def Tn (h:∀b∈evB e,L8 b):Show 1 260 (evP e):=by
 cases e with
 | d x =>
  rw[HX];refine(Show.tup (d:=0) (c:=82) (l:=3) (λy hy=>?_) 0o0).le (B2 _) 0b0;simp only[B5,F6,or_false] at hy;rcases hy with rfl|rfl
  ·exact i9 _ (by decide +kernel) (by decide +kernel)
  ·exact Dk (h x (by simp[evB]))
 | t x y =>
  rw[N2];refine(Show.tup (d:=0) (c:=82) (l:=3) (λz hz=>?_) 0o0).le (B2 _) 0b0;simp only[B5,F6,or_false] at hz;rcases hz with rfl|rfl|rfl
  ·exact i9 _ (by decide +kernel) (by decide +kernel)
  ·exact Dk (h _ (by simp[evB]))
  ·exact Dk (h _ (by simp[evB]))
def Dl (h:i.natAbs<1000):Show 0 61 (.int i):=⟨by show i.natAbs<10 ^ 60;omega,B2 _,B2 _⟩
def Tp {s r:Nat}(h1:s<1000)(h2:r<1000):Show 1 130 (.tup [.int (s:Int),.int (r:Int)]):=by
 refine(Show.tup (d:=0) (c:=61) (l:=2) (λy hy=>?_) 0o0).le (B2 _) 0b0;simp only[B5,F6,or_false] at hy;rcases hy with rfl|rfl <;> exact Dl 0x0
noncomputable def btwU (st:List Str)(x y:Str):List Str:=(st.take (max (ixS st x) (ixS st y))).drop (min (ixS st x) (ixS st y)+1)
def Fh {zs:List Str}(nd:zs.Nodup){i:Nat}(h:i<zs.length):ixS zs (nm zs i)=i:=Dh nd (Q1 (Di h)).1 (R1 h)
def btw_len {st:List Str}{x y:Str}(hx:x∈st)(hy:y∈st)(h:ixS st y<ixS st x):(btwU st x y).length=ixS st x-ixS st y-1:=by
 have:=M5 hx;unfold btwU
 grind
def MQ {st:List Str}(nd:st.Nodup){x y z:Str}(hx:x∈st)(hy:y∈st):z∈btwU st x y↔z∈st/\min (ixS st x) (ixS st y)<ixS st z/\ixS st z<max (ixS st x) (ixS st y):=by
 unfold btwU;constructor
 ·intro h;obtain⟨q,hq,e⟩:=Ca h;rw[J8,J7] at hq;rw[List.getElem_drop,List.getElem_take] at e;have hm:z∈st:=by rw[<- e];exact y0 _
  have ez:st[min (ixS st x) (ixS st y)+1+q]?=some z:=by rw[C9 0x0,e]
  have:=Dh nd (Q1 hm).1 ez;exact⟨hm,0x0,0x0⟩
 ·rintro⟨hm,h1,h2⟩;have hl:=M5 hm;have e:=(Q1 hm).1;refine G4 (i:=ixS st z-(min (ixS st x) (ixS st y)+1)) ?_;rw[List.getElem?_drop,show min (ixS st x) (ixS st y)+1+(ixS st z-(min (ixS st x) (ixS st y)+1))=ixS st z by omega,List.getElem?_take,jt h2];exact e
def Fair.tx {st:List Str}{es:List Ev}(h:Fair st es){x y:Str}(he:Ev.t x y∈es):x∈st/\y∈st:=
 ⟨h.sub x (d7.mpr ⟨_,he,by simp[evB]⟩),h.sub y (d7.mpr ⟨_,he,by simp[evB]⟩)⟩
end Pu
end
section
namespace SeT
open PySem PySem.SetTable L2
noncomputable def lp (mask:Nat)(h:Int):Nat->Nat×Nat
 |0=>(bits h%(mask+1),bits h)
 |k+1=>leap mask (lp mask h k).1 (lp mask h k).2
def rn (mask i:Nat):Nat:=runEnd mask i-i
def vs (mask:Nat)(h:Int)(k off:Nat):Nat:=(lp mask h k).1+off
def Ii (mask:Nat)(h:Int):∀k,(lp mask h k).1<=mask
 |0=>Cd (Nat.mod_lt _ (Nat.succ_pos mask))
 |k+1=>Cd (Nat.mod_lt _ (Nat.succ_pos mask))
def rn_9 (mask i:Nat):rn mask i<=9:=by unfold rn runEnd;split <;> ext
def Ij {mask:Nat}(ho:off<=rn mask (lp mask h k).1):vs mask h k off<=mask:=by
 have:=Ii mask h k;unfold rn runEnd at ho;unfold vs
 grind
theorem MR (mask:Nat)(h:Int):∀k,(lp mask h k).2=bits h/32 ^ k
 |0=>by simp[lp]
 | k + 1 => by
  show(lp mask h k).2/32=_;rw[MR mask h k,Nat.div_div_eq_div_mul,Nat.pow_succ]
def Tq (h:Int):bits h<2 ^ 64:=by
 unfold bits
 grind
def pert_0 (mask:Nat)(h:Int)(k:Nat)(hk:13<=k):(lp mask h k).2=0:=by
 rw[MR];refine Nat.div_eq_of_lt (M2 (Tq h) ?_);exact K1 0b0 (Nat.pow_le_pow_right 0b0 hk)
noncomputable def orb (M:Nat):Nat->Nat
 |0=>0
 |m+1=>(orb M m*5+1)%M
noncomputable def itr (M a:Nat):Nat->Nat
 |0=>a
 |m+1=>(itr M a m*5+1)%M
theorem Ik (M m0:Nat):∀m,itr M (orb M m0) m=orb M (m0+m)
 |0=>rfl
 | m + 1 => by
  show(itr M (orb M m0) m*5+1)%M=(orb M (m0+m)*5+1)%M;rw[Ik M m0 m]
theorem MS {M:Nat}(h:orb M M=0):∀m,orb M (M+m)=orb M m
 |0=>h
 | m + 1 => by
  show(orb M (M+m)*5+1)%M=(orb M m*5+1)%M;rw[MS h m]
theorem Il (mask:Nat)(h:Int):∀m,(lp mask h (13+m)).1=itr (mask+1) (lp mask h 13).1 m
 |0=>rfl
 | m + 1 => by
  show((lp mask h (13+m)).1*5+1+(lp mask h (13+m)).2/32)%(mask+1)=(itr (mask+1) (lp mask h 13).1 m*5+1)%(mask+1);rw[pert_0 mask h (13+m) 0x0,Il mask h m,Nat.zero_div,Nat.add_zero]
def Msk (mask:Nat):Prop:=mask=7\/mask=31\/mask=127
def chk (M:Nat):Bool:=(C2 M).all λe=>(C2 M).any λm=>orb M m == e
def chk8:chk 8=true:=by decide +kernel
def chk32:chk 32=true:=by decide +kernel
def chk128:chk 128=true:=by decide +kernel
def MT (h:chk M=true)(he:e<M):∃m,m<M/\orb M m=e:=by simp_all [chk,orb]
def goes {mask:Nat}(hm:Msk mask)(h:Int)(he:e<=mask):∃K,K<=mask+14/\(lp mask h K).1=e:=by
 have ck:chk (mask+1)=true/\orb (mask+1) (mask+1)=0:=by
  rcases hm with rfl|rfl|rfl
  ·exact⟨chk8,by decide +kernel⟩
  ·exact⟨chk32,by decide +kernel⟩
  ·exact⟨chk128,by decide +kernel⟩
 obtain⟨m0,h0,e0⟩:=MT ck.1 (Nat.lt_succ_of_le (Ii mask h 13));obtain⟨m1,h1,e1⟩:=MT ck.1 (Nat.lt_succ_of_le he)
 by_cases c:m0<=m1
 ·refine⟨13+(m1-m0),0x0,?_⟩;rw[Il,<- e0,Ik,show m0+(m1-m0)=m1 by omega,e1]
 ·refine⟨13+(mask+1+m1-m0),0x0,?_⟩;rw[Il,<- e0,Ik,show m0+(mask+1+m1-m0)=mask+1+m1 by omega,MS ck.2,e1]
def Rise (xs:List Nat):Prop:=xs.Pairwise (· < ·)
theorem Im (xs:Array Nat)(j:Nat)(hr:Rise xs.toList):∀(fuel lo hi:Nat),lo<=hi->hi<=xs.size->hi-lo<=fuel->(∀(i:Nat) x,i<lo->xs[i]?=some x->x<j)->(∀(i:Nat) x,hi<=i->xs[i]?=some x->j<=x)->
   ∃p,below.go xs j fuel lo hi=p/\p<=xs.size/\(∀(i:Nat) x,i<p->xs[i]?=some x->x<j)/\(∀(i:Nat) x,p<=i->xs[i]?=some x->j<=x)
 |0,lo,hi,h1,h2,h3,h4,h5=>⟨lo,rfl,0x0,h4,λi x hi' e=>h5 i x 0x0 e⟩
 | fuel + 1, lo, hi, h1, h2, h3, h4, h5 => by
  unfold below.go
  by_cases c:lo<hi
  ·rw[jt c];have hm:(lo+hi)/2<xs.size:=0x0
   have hm1:lo<=(lo+hi)/2:=0x0
   have hm2:(lo+hi)/2<hi:=0x0
   dsimp only;generalize (lo+hi)/2=mid at hm hm1 hm2 ⊢;have eg:xs.getD mid j=xs[mid]:=by simp[Array.getD,hm]
   have em:xs[mid]?=some xs[mid]:=d9 hm
   have up:∀(a b:Nat) x y,a<b->xs[a]?=some x->xs[b]?=some y->x<y:=λa b x y hab ea eb=>by
    rw[<- P5] at ea eb;obtain⟨la,ea⟩:=D3.mp ea;obtain⟨lb,eb⟩:=D3.mp eb;rw[<- ea,<- eb];exact Y3.mp hr a b la lb hab
   rw[eg]
   by_cases c2:xs[mid]<j
   ·rw[jt c2];refine Im xs j hr fuel (mid+1) hi 0x0 h2 0x0 (λi x hi' e=>?_) h5;rcases Ch i mid with h|h
    ·exact y8 (up i mid x _ h e em) c2
    ·have:i=mid:=0x0
     subst this;rw[em] at e;cases e;exact c2
   ·rw[ju c2];refine Im xs j hr fuel lo mid 0x0 0x0 0x0 h4 λi x hi' e=>?_;rcases Ch mid i with h|h
    ·exact l6 (y4 (y7 c2) (up mid i _ x h em e))
    ·have:i=mid:=0x0
     subst this;rw[em] at e;cases e;exact y7 c2
  ·rw[ju c];exact⟨lo,rfl,0x0,h4,λi x hi' e=>h5 i x 0x0 e⟩
def Dm (xs:Array Nat)(j:Nat)(hr:Rise xs.toList):below xs j<=xs.size/\(∀(i:Nat) x,i<below xs j->xs[i]?=some x->x<j)/\(∀(i:Nat) x,below xs j<=i->xs[i]?=some x->j<=x):=by
 obtain⟨p,e,h⟩:=Im xs j hr xs.size 0 xs.size (F7 _) (B2 _) (B2 _) (λi x hi _=>0x0) (λi x hi e=>by
  rw[DO hi] at e;cases e)
 unfold below
 grind
def Tr (hr:Rise xs.toList)(h:xs[i]?=some j):below xs j=i:=by
 obtain⟨h1,h2,h3⟩:=Dm xs j hr;rcases d8 (below xs j) i with c|c|c
 ·have hb:below xs j<xs.size:=y8 c (by
   obtain⟨l,_⟩:=Array.getElem?_eq_some_iff.mp h;exact l)
  have e:=d9 hb;have a1:=h3 _ _ (B2 _) e;have e':=e;rw[<- P5] at e' h;obtain⟨la,ea⟩:=D3.mp e';obtain⟨lb,eb⟩:=D3.mp h;have:=Y3.mp hr _ _ la lb c;rw[ea,eb] at this;omega
 ·exact c
 grind
def MU {α:Type}(xs:Array α)(p:Nat)(x:α)(hp:p<=xs.size):(insertAt xs p x).toList=insL xs.toList p x:=by
 unfold insertAt insL;simp;exact b8 (by grind)
def Ts (hr:Rise xs.toList)(hj:j∉xs.toList):Rise (insL xs.toList (below xs j) j):=by
 obtain⟨h1,h2,h3⟩:=Dm xs j hr;unfold insL
 have mt:∀a∈xs.toList.take (below xs j),a<j:=λa ha=>by
  obtain⟨i,hi,e⟩:=Gm.mp ha;rw[List.getElem_take] at e;rw[J7] at hi;exact h2 i a 0x0 (by grind)
 have md:∀a∈xs.toList.drop (below xs j),j<a:=λa ha=>by
  obtain⟨i,hi,e⟩:=Gm.mp ha;rw[List.getElem_drop] at e;rw[J8] at hi;have hle:=h3 (below xs j+i) a 0x0 (by grind);have hne:a≠j:=λz=>hj (by grind);omega
 refine List.pairwise_append.mpr ⟨hr.sublist (List.take_sublist _ _),List.pairwise_cons.mpr ⟨md,hr.sublist (List.drop_sublist _ _)⟩,λa ha b hb=>?_⟩
 grind
def Lx (k' o' k o:Nat):Prop:=k'<k\/(k'=k/\o'<o)
def Rch (mask:Nat)(O:Nat->Prop)(s:Nat)(h:Int):Prop:=∃k o,o<=rn mask (lp mask h k).1/\vs mask h k o=s/\∀k' o',o'<=rn mask (lp mask h k').1->Lx k' o' k o->O (vs mask h k' o')
def Rch.mono {mask:Nat}(r:Rch mask O s h)(f:∀x,O x->O' x):Rch mask O' s h:=by grind [Rch]
structure TOk (t:O1)(hs:List Int):Prop where
 size:t.place.toList.length=hs.length
 dum:t.dummies=#[]
 mask:Msk t.mask
 rise:Rise t.place.toList
 lim:∀s∈t.place.toList,s<=t.mask
 room:hs.length<t.mask
 reach:∀(i:Nat) s h,t.place.toList[i]?=some s->hs[i]?=some h->Rch t.mask (·∈t.place.toList) s h
section
variable {t:O1}{hs:List Int}{h:Int}
theorem TOk.fits (T:TOk t hs):t.fits hs.length=true:=by
 have h1:=T.size;have h2:=T.room;unfold SetTable.fits SetTable.fill;rw[T.dum]
 grind
def TOk.odd (T:TOk t hs):t.gaveWay=false:=by
 unfold SetTable.gaveWay;rcases T.mask with e|e|e <;> rw[e] <;> decide
def MV (j:Nat):has #[] j=false:=by unfold has;simp
def TOk.slot_live (T:TOk t hs)(e:t.place.toList[i]?=some j):t.slot j=.live i:=by
 unfold SetTable.slot;have e':t.place[i]?=some j:=by rw[<- P5];exact e
 rw[Tr T.rise e'];simp[e']
def TOk.slot_empty (T:TOk t hs)(e:j∉t.place.toList):t.slot j=.empty:=by
 unfold SetTable.slot
 have:¬(t.place[below t.place j]? == some j)=true:=λz=>by
  have z':t.place[below t.place j]?=some j:=by simpa using z
  rw[<- P5] at z';exact e (G4 z')
 dsimp only;rw[ju this,T.dum,MV]
 rfl
def TOk.free (T:TOk t hs):∃e,e<=t.mask/\e∉t.place.toList:=by
 refine Ad λz=>?_
 have sub:C2 (t.mask+1) ⊆ t.place.toList:=λx hx=>by
  refine Ad λy=>z ⟨x,Cd (J9.mp hx),y⟩
 have:=(List.nodup_range (n:=t.mask+1)).length_le_of_subset sub;rw[U8,T.size] at this;have:=T.room;omega
noncomputable def pb (mask:Nat)(h:Int)(k o:Nat):Probe:={ j:=vs mask h k o,more:=rn mask (lp mask h k).1-o,i:=(lp mask h k).1,perturb:=(lp mask h k).2,dummy:=none }
def pb_adv (t:O1)(h:Int)(k o:Nat):t.advance (pb t.mask h k o)=if o<rn t.mask (lp t.mask h k).1 then pb t.mask h k (o+1) else pb t.mask h (k+1) 0:=by
 unfold SetTable.advance
 by_cases c:o<rn t.mask (lp t.mask h k).1
 ·rw[jt c,jt (show(pb t.mask h k o).more>0 by show rn t.mask (lp t.mask h k).1-o>0;ext)];unfold pb vs
  congr 1
 ·rw[ju c,ju (show ¬(pb t.mask h k o).more>0 by show ¬rn t.mask (lp t.mask h k).1-o>0;ext)]
  rfl
noncomputable def nx (mask:Nat)(h:Int)(k o:Nat):Nat×Nat:=if o<rn mask (lp mask h k).1 then(k,o+1) else(k+1,0)
def pb_nx (t:O1)(h:Int)(k o:Nat):t.advance (pb t.mask h k o)=pb t.mask h (nx t.mask h k o).1 (nx t.mask h k o).2:=by
 rw[pb_adv];unfold nx;split <;> rfl
def nx_ok {mask:Nat}(ho:o<=rn mask (lp mask h k).1):(nx mask h k o).2<=rn mask (lp mask h (nx mask h k o).1).1:=by grind [lp,nx,rn]
def nx_lx {mask:Nat}(ho:o<=rn mask (lp mask h k).1)(ho':o'<=rn mask (lp mask h k').1)(l:Lx k' o' (nx mask h k o).1 (nx mask h k o).2):Lx k' o' k o\/(k'=k/\o'=o):=by grind [Lx,lp,nx,rn]
noncomputable def far (K k o:Nat):Nat:=10*(K-k)+1-o
def MW {mask:Nat}(ho:o<=rn mask (lp mask h k).1)(hk:k<K):far K (nx mask h k o).1 (nx mask h k o).2<far K k o/\(nx mask h k o).1<=K/\((nx mask h k o).1=K->(nx mask h k o).2=0):=by
 have r9:=rn_9 mask (lp mask h k).1;unfold nx far
 grind
theorem MX (T:TOk t hs)(at_:Nat->Int)(ha:∀(i:Nat) x,hs[i]?=some x->at_ i=x){K e:Nat}(hK:(lp t.mask h K).1=e)(he:e∉t.place.toList):∀(fuel k o:Nat),k<=K->(k=K->o=0)->o<=rn t.mask (lp t.mask h k).1->far K k o<=fuel->
   ∃ k2 o2, o2 <= rn t.mask (lp t.mask h k2).1 /\ k2 <= K /\ (k2 = K -> o2 = 0) /\ ¬ Lx k2 o2 k o /\ (∀ k' o', o' <= rn t.mask (lp t.mask h k').1 -> ¬ Lx k' o' k o -> Lx k' o' k2 o2 -> ∃ (i : Nat) (x : Int), t.place.toList[i]? = some (vs t.mask h k' o') /\ hs[i]? = some x /\ x ≠ h) /\
     ((vs t.mask h k2 o2∉t.place.toList/\probe.go t at_ h fuel (pb t.mask h k o)=some (.empty (vs t.mask h k2 o2) none))\/
       ∃i,k2<K/\t.place.toList[i]?=some (vs t.mask h k2 o2)/\hs[i]?=some h/\probe.go t at_ h fuel (pb t.mask h k o)=some (.candidate (vs t.mask h k2 o2) i (pb t.mask h (nx t.mask h k2 o2).1 (nx t.mask h k2 o2).2)))
 | 0, k, o, h1, h2, h3, h4 => by
  have r9:=rn_9 t.mask (lp t.mask h k).1;unfold far at h4;have:¬k=K:=λz=>by have:=h2 z;omega
  ext
 | fuel + 1, k, o, h1, h2, h3, h4 => by
  have irr:¬Lx k o k o:=λz=>z.elim (U9 k) λz=>U9 o z.2
  by_cases hm:vs t.mask h k o∈t.place.toList
  ·obtain⟨i,hi⟩:=B_.mp hm
   obtain⟨x,hx⟩:∃x,hs[i]?=some x:=by
    have:=(D3.mp hi).1;rw[T.size] at this;exact⟨_,C9 this⟩
   have hkK:k<K:=by
    refine Nat.lt_of_le_of_ne h1 λz=>?_;have o0:=h2 z;subst z;subst o0;exact he (by rw[<- hK];exact hm)
   have sl:=T.slot_live hi
   by_cases c:x=h
   ·subst c;refine⟨k,o,h3,h1,h2,irr,λk' o' _ n l=>absurd l n,.inr ⟨i,hkK,hi,hx,?_⟩⟩;unfold probe.go;rw[show(pb t.mask x k o).j=vs t.mask x k o from rfl,sl];dsimp only;rw[ha i x hx,beq_self_eq_true,jt rfl,pb_nx]
   ·obtain⟨f1,f2,f3⟩:=MW (K:=K) h3 hkK;obtain⟨k2,o2,a1,a2,a3,a4,a5,a6⟩:=MX T at_ ha hK he fuel (nx t.mask h k o).1 (nx t.mask h k o).2 f2 f3 (nx_ok h3) 0x0
    have step:probe.go t at_ h (fuel+1) (pb t.mask h k o)=probe.go t at_ h fuel (pb t.mask h (nx t.mask h k o).1 (nx t.mask h k o).2):=by
     rw[<- pb_nx]
     conv=>lhs;unfold probe.go
     rw[show(pb t.mask h k o).j=vs t.mask h k o from rfl,sl];dsimp only;rw[ha i x hx,ju (by simpa using c)]
    rw[step];refine⟨k2,o2,a1,a2,a3,λz=>a4 ?_,λk' o' p1 p2 p3=>?_,a6⟩
    ·unfold nx
     split
     ·rcases z with z|⟨rfl,z⟩
      ·exact .inl z
      ·exact .inr ⟨rfl,by show o2<o+1;ext⟩
     ·rcases z with z|⟨rfl,z⟩
      ·exact .inl (by show k2<k+1;ext)
      ·exact .inl (by show k2<k2+1;ext)
    ·by_cases c2:Lx k' o' (nx t.mask h k o).1 (nx t.mask h k o).2
     ·rcases nx_lx h3 p1 c2 with c3|⟨rfl,rfl⟩
      ·exact absurd c3 p2
      ·exact⟨i,x,hi,hx,c⟩
     ·exact a5 k' o' p1 c2 p3
  ·refine⟨k,o,h3,h1,h2,irr,λk' o' _ n l=>absurd l n,.inl ⟨hm,?_⟩⟩;unfold probe.go;rw[show(pb t.mask h k o).j=vs t.mask h k o from rfl,T.slot_empty hm]
   rfl
theorem TOk.put (T:TOk t hs)(hs1:s∉t.place.toList)(hl:s<=t.mask)(hr:Rch t.mask (·∈t.place.toList) s h)(hroom:hs.length+1<t.mask) :
   (t.put s).2=below t.place s/\(t.put s).2<=hs.length/\(t.put s).1.plain=t.plain/\(t.put s).1.led=t.led/\TOk (t.put s).1 (insL hs (t.put s).2 h):=by
 have p1:=(Dm t.place s T.rise).1;have sz:t.place.size=hs.length:=by rw[<- T.size,M3]
 have pl:(t.put s).1.place.toList=insL t.place.toList (below t.place s) s:=MU _ _ _ p1;have mk:(t.put s).1.mask=t.mask:=rfl
 have dm:(t.put s).1.dummies=#[]:=by
  show(if has t.dummies s then eraseAt t.dummies (below t.dummies s) else t.dummies)=#[];rw[T.dum,MV];rfl
 refine⟨rfl,by show below t.place s<=_;omega,rfl,rfl,?_⟩;have hp:(t.put s).2=below t.place s:=rfl;rw[hp]
 have mem:∀x,x∈t.place.toList->x∈insL t.place.toList (below t.place s) s:=λx hx=>by
  unfold insL;rw[<- x8 (below t.place s) t.place.toList] at hx;rcases D7.mp hx with hx|hx
  ·grind
  ·grind
 refine⟨?_,dm,by rw[mk];exact T.mask,by rw[pl];exact Ts T.rise hs1,λx hx=>?_,by rw[mk,Df];exact hroom,λi x y ex ey=>?_⟩
 ·rw[pl,Df,Df,T.size]
 ·rw[pl] at hx;rw[mk];unfold insL at hx;rcases D7.mp hx with hx|hx
  ·exact T.lim x (U7 hx)
  ·rcases B5.mp hx with rfl|hx
   ·exact hl
   ·exact T.lim x (Y4 hx)
 ·rw[pl] at ex ⊢;rw[mk];generalize below t.place s=p at *;have lt:(t.place.toList.take p).length=p:=by rw[J7,T.size];omega
  have lh:(hs.take p).length=p:=by rw[J7];ext
  unfold insL at ex ey;rcases d8 i p with c|c|c
  ·rw[W4 0x0,List.getElem?_take,jt c] at ex ey;exact(T.reach i x y ex ey).mono mem
  ·subst c;rw[R6 0x0,lt,AX] at ex;rw[R6 0x0,lh,AX] at ey;cases ex;cases ey;exact hr.mono mem
  ·rw[R6 0x0,lt,show i-p=(i-p-1)+1 by omega,BY,List.getElem?_drop,show p+(i-p-1)=i-1 by omega] at ex;rw[R6 0x0,lh,show i-p=(i-p-1)+1 by omega,BY,List.getElem?_drop,show p+(i-p-1)=i-1 by omega] at ey;exact(T.reach (i-1) x y ex ey).mono mem
end
structure Own (mask:Nat)(ow:Array (Option Nat))(sl:List Nat):Prop where
 size:ow.size=mask+1
 nd:sl.Nodup
 lim:∀s∈sl,s<=mask
 has:∀(k s:Nat),sl[k]?=some s->ow[s]?=some (some k)
 no:∀s,s<=mask->s∉sl->ow[s]?=some none
def Own.none {mask:Nat}(O:Own mask ow sl)(hs:s<=mask):(ow.getD s (some 0)).isNone=decide (s∉sl):=by
 rw[z9]
 by_cases c:s∈sl
 ·obtain⟨k,hk⟩:=B_.mp c;rw[O.has k s hk,jr (not_not_intro c)];rfl
 ·rw[O.no s hs c,jq c];rfl
theorem MY {mask:Nat}{ow:Array (Option Nat)}{sl:List Nat}{h:Int}(O:Own mask ow sl){K e:Nat}(hK:(lp mask h K).1=e)(he:e∉sl):∀(fuel k:Nat),k<=K->K-k<fuel->
   ∃k2 o2,o2<=rn mask (lp mask h k2).1/\layClean.free mask ow fuel (lp mask h k).1 (lp mask h k).2=some (vs mask h k2 o2)/\vs mask h k2 o2∉sl/\∀k' o',o'<=rn mask (lp mask h k').1->k<=k'->Lx k' o' k2 o2->vs mask h k' o'∈sl
 |0,k,_,h2=>absurd h2 (Cf _)
 | fuel + 1, k, h1, h2 => by
  have le:=Ii mask h k;have ge:(lp mask h k).1<=runEnd mask (lp mask h k).1:=by unfold runEnd;split <;> ext
  have er:runEnd mask (lp mask h k).1+1-(lp mask h k).1=rn mask (lp mask h k).1+1:=by unfold rn;ext
  have isn:∀o,o<=rn mask (lp mask h k).1->(ow.getD ((lp mask h k).1+o) (some 0)).isNone=decide (vs mask h k o∉sl):=λo ho=>O.none (Ij ho);unfold layClean.free;rw[er];cases ef:(C2 (rn mask (lp mask h k).1+1)).find? (λo=>(ow.getD ((lp mask h k).1+o) (some 0)).isNone) with
  | some o2 =>
   obtain⟨p1,p2,p3⟩:=List.find?_range_eq_some.mp ef;have ho2:o2<=rn mask (lp mask h k).1:=by have:=J9.mp p2;ext
   rw[isn o2 ho2] at p1;refine⟨k,o2,ho2,rfl,jv p1,λk' o' q1 q2 q3=>?_⟩;rcases q3 with q3|⟨rfl,q3⟩
   ·ext
   ·have:=p3 o' q3;rw[isn o' 0x0] at this;exact Ad λz=>by rw[jq z] at this;cases this
  | none =>
   have all:∀o,o<=rn mask (lp mask h k).1->vs mask h k o∈sl:=λo ho=>by
    have:=List.find?_eq_none.mp ef o (J9.mpr 0x0);rw[isn o ho] at this;exact Ad λz=>this (jq z)
   have hkK:k<K:=by
    refine Nat.lt_of_le_of_ne h1 λz=>?_;subst z;exact he (by rw[<- hK];exact all 0 (F7 _))
   obtain⟨k2,o2,a1,a2,a3,a4⟩:=MY O hK he fuel (k+1) hkK 0x0;refine⟨k2,o2,a1,a2,a3,λk' o' q1 q2 q3=>?_⟩;rcases Ch k k' with c|c
   ·exact a4 k' o' q1 c q3
   ·have:k'=k:=0x0
    subst this;exact all o' q1
def Own.put {mask:Nat}{ow:Array (Option Nat)}{sl:List Nat}(O:Own mask ow sl){s:Nat}(hs:s<=mask)(hn:s∉sl):Own mask (ow.setIfInBounds s (some sl.length)) (sl++[s]) where
 size:=by rw[Array.size_setIfInBounds];exact O.size
 nd:=DK.mpr ⟨O.nd,0o0,λa ha b hb e=>hn (by grind)⟩
 lim:=λx hx=>(D7.mp hx).elim (O.lim x) λz=>by rw[E8.mp z];exact hs
 has:=λk x e=>by
  have hsz:s<ow.size:=by rw[O.size];ext
  by_cases c:k<sl.length
  ·rw[W4 c] at e;have hx:x∈sl:=G4 e;rw[Array.getElem?_setIfInBounds_ne (λz=>hn (by grind))];exact O.has k x e
  ·grind
 no:=λx hx hx'=>by
  have n1:x∉sl:=λz=>hx' (AQ _ z);have n2:s≠x:=λz=>hx' (U6 _ (by grind));rw[Array.getElem?_setIfInBounds_ne n2];exact O.no x hx n1
def Own.nil (mask:Nat):Own mask (DP (mask+1) (Option.none:Option Nat)) []:=by grind [Own]
noncomputable def Fi (mask:Nat)(jm:Option (Array (Option Nat)×Nat))(h:Int):Option (Array (Option Nat)×Nat):=do
 let (owner,k) ← jm
 let j ← layClean.free mask owner (turns mask) (bits h%(mask+1)) (bits h)
 pure (owner.setIfInBounds j (some k),k+1)
theorem MZ {mask:Nat}(hm:Msk mask):∀(rest done:List Int) (ow:Array (Option Nat)) (sl:List Nat),Own mask ow sl->sl.length=done.length->done.length+rest.length<=mask->(∀(k s:Nat) h,sl[k]?=some s->done[k]?=some h->Rch mask (·∈sl) s h)->
   ∃ow' sl',rest.foldl (Fi mask) (some (ow,done.length))=some (ow',(done++rest).length)/\Own mask ow' sl'/\sl'.length=(done++rest).length/\∀(k s:Nat) h,sl'[k]?=some s->(done++rest)[k]?=some h->Rch mask (·∈sl') s h
 |[],done,ow,sl,O,hl,hle,hr=>⟨ow,sl,0o0,O,by simpa using hl,λk s h e1 e2=>hr k s h e1 (by simpa using e2)⟩
 | h :: rest, done, ow, sl, O, hl, hle, hr => by
  rw[D5] at hle
  obtain⟨e,he1,he2⟩:∃e,e<=mask/\e∉sl:=by
   refine Ad λz=>?_;have sub:C2 (mask+1) ⊆ sl:=λx hx=>Ad λy=>z ⟨x,Cd (J9.mp hx),y⟩;have:=(List.nodup_range (n:=mask+1)).length_le_of_subset sub;rw[U8,hl] at this;omega
  obtain⟨K,hK1,hK2⟩:=goes hm h he1;obtain⟨k2,o2,a1,a2,a3,a4⟩:=MY O hK2 he2 (turns mask) 0 (F7 _) (by unfold turns;ext);have O':=O.put (Ij a1) a3
  have st:Fi mask (some (ow,done.length)) h=some (ow.setIfInBounds (vs mask h k2 o2) (some sl.length),(done++[h]).length):=by
   unfold Fi;show(layClean.free mask ow (turns mask) (lp mask h 0).1 (lp mask h 0).2).bind _=_;rw[a2,hl,C7]
   rfl
  have mem:∀x,x∈sl->x∈sl++[vs mask h k2 o2]:=λx hx=>AQ _ hx
  obtain⟨ow',sl',b1,b2,b3,b4⟩:=MZ hm rest (done++[h]) _ _ O' (by rw[C7,C7,hl];rfl) (by rw[C7,Q5];ext) λk s x e1 e2=>by
   by_cases c:k<sl.length
   ·rw[W4 c] at e1;rw[W4 0x0] at e2;exact(hr k s x e1 e2).mono mem
   ·have hk:k=sl.length:=by
     have:=(D3.mp e1).1;rw[C7,Q5] at this;omega
    subst hk;rw[R6 (B2 _),AX] at e1;rw[R6 0x0,hl,AX] at e2;cases e1;cases e2;exact⟨k2,o2,a1,rfl,λk' o' q1 q2=>mem _ (a4 k' o' q1 (F7 _) q2)⟩
  refine⟨ow',sl',?_,b2,by rw[b3,R8];rfl,λk s x e1 e2=>b4 k s x e1 (by rw[R8];exact e2)⟩;rw[W6,st,b1,R8];rfl
def Tt (mask:Nat)(hs:Array Int):layClean mask hs=(hs.toList.foldl (Fi mask) (some (DP (mask+1) none,0))).map (·.1):=by
 unfold layClean;rw[<- Array.foldl_toList]
 rfl
noncomputable def live (mask:Nat)(ow:Array (Option Nat)):List (Nat×Nat):=(C2 (mask+1)).filterMap λj=>(ow.getD j none).map (j,·)
def AC {mask:Nat}(O:Own mask ow sl):(j,k)∈live mask ow↔sl[k]?=some j:=by
 unfold live;rw[List.mem_filterMap];constructor
 ·rintro⟨x,hx,e⟩;have hxm:x<=mask:=Cd (J9.mp hx)
  by_cases c:x∈sl
  ·obtain⟨q,hq⟩:=B_.mp c;rw[z9,O.has q x hq] at e;have e':(x,q)=(j,k):=by simpa using e
   cases e';exact hq
  ·rw[z9,O.no x hxm c] at e;cases e
 ·intro h;have hj:=O.lim j (G4 h);refine⟨j,J9.mpr 0x0,?_⟩;rw[z9,O.has k j h];rfl
def M_ (mask:Nat)(ow:Array (Option Nat)):Rise ((live mask ow).map (·.1)):=by
 unfold live Rise;rw[c6];refine List.Pairwise.filterMap _ (R:=(· < ·)) (λa b hab x hx y hy=>?_) List.pairwise_lt_range;cases e1:ow.getD a none with
 |none=>rw[e1] at hx;cases hx
 | some p =>
  cases e2:ow.getD b none with
  |none=>rw[e2] at hy;cases hy
  | some q =>
   rw[e1] at hx;rw[e2] at hy;have hx':(a,p)=x:=by simpa using hx
   have hy':(b,q)=y:=by simpa using hy
   rw[<- hx',<- hy'];exact hab
def Tu {mask:Nat}(O:Own mask ow sl):((live mask ow).map (·.2)).Perm (C2 sl.length):=by
 have nd:((live mask ow).map (·.2)).Nodup:=by
  have h1:(live mask ow).Pairwise λa b=>a.1<b.1:=c6.mp (M_ mask ow);rw[List.Nodup,c6];refine List.Pairwise.imp_of_mem (λ{a b} ha hb hab e=>?_) h1;have x1:=(AC (j:=a.1) (k:=a.2) O).mp ha;have x2:=(AC (j:=b.1) (k:=b.2) O).mp hb;rw[e] at x1;rw[x1] at x2;have:=L4 x2;omega
 refine(Gg nd List.nodup_range).mpr λk=>?_;rw[J9,D2];constructor
 ·rintro⟨⟨j,k'⟩,h,rfl⟩;exact(D3.mp ((AC O).mp h)).1
 ·intro h;exact⟨(sl[k],k),(AC O).mpr (C9 h),rfl⟩
def Tv {mask fi mo:Nat}{led pl:Bool}(hm:Msk mask)(hs:Array Int)(hl:hs.toList.length<mask) :
   ∃t' order,laid mask fi mo led pl hs=some (t',order)/\order.toList.Perm (C2 hs.toList.length)/\t'.led=led/\t'.plain=pl/\t'.mask=mask/\TOk t' (order.toList.map λk=>hs.toList.getD k 0):=by
 obtain⟨ow,sl,e,O,l,r⟩:=MZ hm hs.toList [] _ [] (Own.nil mask) rfl (by grind) (λk s h e=>by simp at e);rw[l4] at e l r
 have el:laid mask fi mo led pl hs=some ({ mask,place:=((live mask ow).map (·.1)).toArray,dummies:=#[],finger:=fi,led,moves:=mo,plain:=pl },((live mask ow).map (·.2)).toArray):=by
  unfold laid;rw[Tt,show(some (DP (mask+1) (none:Option Nat),0))=some (DP (mask+1) none,([]:List Int).length) from rfl,e]
  rfl
 have po:=Tu O;rw[l] at po;refine⟨_,_,el,po,rfl,rfl,rfl,?_⟩
 have ml:∀x,x∈(live mask ow).map (·.1)↔x∈sl:=λx=>by
  rw[D2];constructor
  ·rintro⟨⟨j,k⟩,h,rfl⟩;exact G4 ((AC O).mp h)
  ·intro h;obtain⟨k,hk⟩:=B_.mp h;exact⟨(x,k),(AC O).mpr hk,rfl⟩
 refine⟨0o0,rfl,hm,M_ mask ow,λs h=>O.lim s ((ml s).mp h),?_,λi s h e1 e2=>?_⟩
 ·rw[B0,po.length_eq,U8];exact hl
 ·have e1':((live mask ow).map (·.1))[i]?=some s:=e1;have e2':(((live mask ow).map (·.2)).map λk=>hs.toList.getD k 0)[i]?=some h:=e2;rw[D4] at e1';rw[D4,D4] at e2';cases ex:(live mask ow)[i]? with
  |none=>rw[ex] at e1';cases e1'
  | some y =>
   rw[ex] at e1' e2';have a1:y.1=s:=by simpa using e1'
   have a2:hs.toList.getD y.2 0=h:=by simpa using e2'
   have my:=(AC (j:=y.1) (k:=y.2) O).mp (G4 ex);have lk:y.2<hs.toList.length:=by rw[<- l];exact(D3.mp my).1
   have hk:hs.toList[y.2]?=some h:=by rw[<- a2,Y2,C9 lk];rfl
   rw[a1] at my;exact(r y.2 s h my hk).mono λx hx=>(ml x).mpr hx
end SeT
end
section
namespace SeT
open PySem PySem.Spec PyProof.Rows L2
section
variable (prog:C3)(w:B9)
abbrev TK:HeapKind prog w (List Key):=tupleKind (F8 prog w)
noncomputable def enS (x:List Key×A1):Int×A3:=((TK prog w).hash x.1,.ref x.2)
structure SetK (h:B3)(a:A1)(o:Obj)(es:Array (Int×A3))(ep:Nat)(t:O1)(xs:List (List Key×A1)):Prop where
 ho:h.get? a=some o
 ex:o.ExactSet
 hd:o.data=.set es ep t
 hes:es.toList=xs.map (enS prog w)
 hk:∀x∈xs,(TK prog w).is h x.1 x.2
 nd:(xs.map (·.1)).Nodup
 tb:TOk t (xs.map λx=>(TK prog w).hash x.1)
 few:5*xs.length<3*t.mask
 led:t.led=!(w.params.followText "set-order")
end
section
variable {prog:C3}{w:B9}{A:D0}{E:A3->A4->Prop}{s:A4}{a:A1}{o:Obj}{es:Array (Int×A3)}{ep:Nat}{t:O1}{xs:List (List Key×A1)}
def SetK.sz (S:SetK prog w h a o es ep t xs):es.size=xs.length:=by rw[<- M3,S.hes,B0]
theorem SetK.fits (S:SetK prog w h a o es ep t xs):t.fits es.size=true:=by
 have:=S.tb.fits;rw[B0] at this;rw[S.sz];exact this
def SetK.at (S:SetK prog w h a o es ep t xs){i:Nat}(e:xs[i]?=some y):es[i]?=some (enS prog w y):=by
 rw[<- P5,S.hes,D4,e];rfl
def Na {vs:List A3}(h:ItemsAre (F8 prog w) ks vs):∀v∈vs,(∃i t,v=.int i t)\/∃x t,v=.str x t:=by
 induction h with
 |nil=>intro v hv;cases hv
 | @cons k v ks vs h1 _ ih =>
  intro u hu;rcases B5.mp hu with rfl|hu
  ·rcases W8 h1 with⟨i,t,_,rfl⟩|⟨x,t,_,rfl⟩
   ·simp
   ·simp
  ·grind
def Nb (hk:(TK prog w).is s.heap k r)(h:Q false s):A5 (A7 prog w) A (ofAClassStatement 8 (.ref r)) Q E s:=by
 obtain⟨ob,items,n,e,c,d,jf⟩:=hk;unfold ofAClassStatement;refine A2 (k6 (⟨ob,e,c⟩:s.TypeIs (.ref r) "tuple") ?_);dsimp only;simp only[beq_self_eq_true,↓reduceIte];refine A2 (A9 ?_);simp only[l7,K8,↓reduceIte];refine A2 (U2 e d ?_);dsimp only;refine A2 ?_;rw[<- Array.forIn_toList];refine DB _ (λrest r s'=>r.1=none/\s'=s/\∀v∈rest,(∃i t,v=.int i t)\/∃x t,v=.str x t) _ ?_ ?_ _ _ ⟨rfl,rfl,Na jf⟩
 ·rintro v rest r s' ⟨hr,rfl,all⟩
  have e0:ofAClassStatement 7 v=pure false:=by
   rcases all v B8 with⟨i,t,rfl⟩|⟨x,t,rfl⟩ <;> rfl
  rw[e0];refine A2 (A9 ?_);simp only[K8,↓reduceIte];exact A9 ⟨rfl,rfl,λu hu=>all u (B6 _ hu)⟩
 ·rintro⟨r1,r2⟩ s' ⟨hr,rfl,_⟩;simp only at hr;subst hr;exact A9 h
def Tw (hu:A.units<cLine)(hk:(TK prog w).is s.heap k r):∀(l:List A3),(∀v∈l,∃b kb,v=.ref b/\(TK prog w).is s.heap kb b)->∀{Q:Bool->A4->Prop},Q false s->A5 (A7 prog w) A (searchCouldBeSeen (.ref r) l) Q E s:=by
 intro l hl Q h;unfold searchCouldBeSeen;refine A2 ?_;refine DB _ (λrest r s'=>r.1=none/\s'=s/\∀v∈rest,∃b kb,v=.ref b/\(TK prog w).is s.heap kb b) _ ?_ ?_ _ _ ⟨rfl,rfl,hl⟩
 ·rintro v rest q s' ⟨hr,rfl,all⟩;obtain⟨b,kb,rfl,hb⟩:=all v B8;have fin:∀v∈rest,∃b kb,v=K2 b/\(TK prog w).is s'.heap kb b:=λu hu=>all u (B6 _ hu);dsimp only
  split
  ·exact A9 ⟨rfl,rfl,fin⟩
  ·refine A2 ((TK prog w).quiet hk ?_);simp only[l7,K8,↓reduceIte];refine A2 ((TK prog w).quiet hb ?_);simp only[l7,K8,↓reduceIte];refine A2 (Nb hk ?_);simp only[K8,↓reduceIte];refine A2 (Nb hb ?_);simp only[K8,↓reduceIte];exact A9 ⟨rfl,rfl,fin⟩
 ·rintro⟨r1,r2⟩ s' ⟨hr,rfl,_⟩;simp only at hr;subst hr;exact A9 h
def Tx (h:Q true s):A5 (A7 prog w) A (isSame (.ref b) (.ref b)) Q E s:=by
 show A5 _ A (if(b == b)=true then pure true else _) Q E s;rw[jt 0o0];exact A9 h
def Ty {α:Type}{b:Bool}{m:Sem Bool}{u v:Sem α}{Q:α->A4->Prop}(hm:∀Q':Bool->A4->Prop,Q' false s->A5 (A7 prog w) A m Q' E s)(hv:A5 (A7 prog w) A v Q E s):A5 (A7 prog w) A (if b=true then(do let x ← m;if x=true then u else v) else v) Q E s:=by
 split
 ·refine A2 (hm _ ?_);simp only[K8,↓reduceIte];exact hv
 ·exact hv
theorem Nc {r:A1}{k:List Key}(hu:A.units < cLine)(S:SetK prog w s.heap a o es ep t xs)(hk:(TK prog w).is s.heap k r){K e:Nat}(hK:(lp t.mask ((TK prog w).hash k) K).1=e)(he:e∉t.place.toList)(hK2:K<=t.mask + 14){Q:SetFound->A4->Prop}
   (hQ1:k∈xs.map (·.1)->Q (.there none) s) (hQ2:∀sl,sl∉t.place.toList->sl<=t.mask->Rch t.mask (·∈t.place.toList) sl ((TK prog w).hash k)->k∉xs.map (·.1)->Q (.free sl false) s) :
   ∀ (fuel kk oo : Nat) (st : Option SetTable.Probe), st.getD (t.probeStart ((TK prog w).hash k)) = pb t.mask ((TK prog w).hash k) kk oo -> kk <= K -> (kk = K -> oo = 0) -> oo <= rn t.mask (lp t.mask ((TK prog w).hash k) kk).1 -> far K kk oo <= fuel ->
     (∀k' o',o'<=rn t.mask (lp t.mask ((TK prog w).hash k) k').1->Lx k' o' kk oo->∃(i:Nat) (y:List Key×A1),t.place.toList[i]?=some (vs t.mask ((TK prog w).hash k) k' o')/\xs[i]?=some y/\y.1≠k)->
     A5 (A7 prog w) A (setSearchFrom a (.ref r) ((TK prog w).hash k) true fuel st) Q E s
 | 0, kk, oo, st, _, h1, h2, h3, h4, _ => by
  have r9:=rn_9 t.mask (lp t.mask ((TK prog w).hash k) kk).1;unfold far at h4;have:¬kk=K:=λz=>by have:=h2 z;omega
  ext
 | fuel + 1, kk, oo, st, hst, h1, h2, h3, h4, done => by
  have farK:far K kk oo<=10*SetTable.turns t.mask:=by unfold far SetTable.turns;ext
  have hat:∀(i:Nat) x,(xs.map λx=>(TK prog w).hash x.1)[i]?=some x->(es[i]?.map (·.1)).getD 0=x:=λi x e=>by
   rw[D4] at e;cases ex:xs[i]? with
   |none=>rw[ex] at e;cases e
   | some y =>
    rw[ex] at e;rw[S.at ex];exact L4 e
  obtain⟨k2,o2,a1,a2,a3,a4,a5,a6⟩:=MX S.tb (λi=>(es[i]?.map (·.1)).getD 0) hat hK he (10*SetTable.turns t.mask) kk oo h1 h2 h3 farK
  have done2:∀k' o',o'<=rn t.mask (lp t.mask ((TK prog w).hash k) k').1->Lx k' o' k2 o2->∃(i:Nat) (y:List Key×A1),t.place.toList[i]?=some (vs t.mask ((TK prog w).hash k) k' o')/\xs[i]?=some y/\y.1≠k:=λk' o' p1 p2=>by
   by_cases c:Lx k' o' kk oo
   ·exact done k' o' p1 c
   ·obtain⟨i,x,q1,q2,q3⟩:=a5 k' o' p1 c p2;rw[D4] at q2;cases ex:xs[i]? with
    |none=>rw[ex] at q2;cases q2
    | some y =>
     rw[ex] at q2;have q2':(TK prog w).hash y.1=x:=by simpa using q2
     exact⟨i,y,q1,ex,λz=>q3 (by rw[<- q2',z])⟩
  unfold setSearchFrom;refine A2 (U1 S.ho S.hd S.fits ?_);dsimp only;rw[S.tb.odd];simp only[K8,↓reduceIte];refine A2 (A9 ?_);rw[hst];generalize hpr:t.probe _ ((TK prog w).hash k) (pb t.mask ((TK prog w).hash k) kk oo)=pr;rcases a6 with⟨em,ep2⟩|⟨i,hkK,pi,hi,ep2⟩
  ·have epr:pr=some (.empty (vs t.mask ((TK prog w).hash k) k2 o2) none):=by rw[<- hpr];exact ep2
   rw[epr];dsimp only;refine A9 (hQ2 _ em (Ij a1) ⟨k2,o2,a1,rfl,λk' o' p1 p2=>?_⟩ λhin=>?_)
   ·obtain⟨i,y,q1,_⟩:=done2 k' o' p1 p2;exact G4 q1
   ·obtain⟨y,hy,ey⟩:=D2.mp hin;obtain⟨iy,hiy⟩:=B_.mp hy
    obtain⟨sy,hsy⟩:∃sy,t.place.toList[iy]?=some sy:=by
     have:=(D3.mp hiy).1;have h2:=S.tb.size;rw[B0] at h2;exact⟨_,C9 0x0⟩
    obtain⟨ky,oy,b1,b2,b3⟩:=S.tb.reach iy sy ((TK prog w).hash k) hsy (by rw[D4,hiy];show some ((TK prog w).hash y.1)=_;rw[ey])
    -- the empty place is not ahead of y's
    have nl:¬Lx k2 o2 ky oy:=λz=>em (b3 k2 o2 a1 z);have ne:¬(k2=ky/\o2=oy):=λ⟨z1,z2⟩=>em (by rw[z1,z2,b2];exact G4 hsy)
    have lt:Lx ky oy k2 o2:=by
     rcases d8 ky k2 with c|c|c
     ·exact .inl c
     ·subst c;rcases d8 oy o2 with d|d|d
      ·exact .inr ⟨rfl,d⟩
      ·exact absurd ⟨rfl,d.symm⟩ ne
      ·exact absurd (.inr ⟨rfl,d⟩) nl
     ·exact absurd (.inl c) nl
    obtain⟨i',y',q1,q2,q3⟩:=done2 ky oy b1 lt;rw[b2] at q1
    have ii:i'=iy:=by
     obtain⟨l1,e1⟩:=D3.mp q1;obtain⟨l2,e2⟩:=D3.mp hsy;rcases d8 i' iy with c|c|c
     ·have:=Y3.mp S.tb.rise _ _ l1 l2 c;ext
     ·exact c
     ·have:=Y3.mp S.tb.rise _ _ l2 l1 c;ext
    rw[ii,hiy] at q2;cases q2;exact q3 ey
  ·have epr:pr=some (.candidate (vs t.mask ((TK prog w).hash k) k2 o2) i (pb t.mask ((TK prog w).hash k) (nx t.mask ((TK prog w).hash k) k2 o2).1 (nx t.mask ((TK prog w).hash k) k2 o2).2)):=by rw[<- hpr];exact ep2
   rw[epr];dsimp only
   obtain⟨y,hy⟩:∃y,xs[i]?=some y:=by
    rw[D4] at hi;cases ex:xs[i]? with
    |none=>rw[ex] at hi;cases hi
    |some y=>exact⟨y,rfl⟩
   have hyk:=S.hk y (G4 hy);have hey:=S.at hy;refine Ty (λQ' h=>Tw hu hk _ (λv hv=>?_) h) ?_
   ·obtain⟨z,hz,rfl⟩:=D2.mp hv
    have hz':z∈es.toList:=by
     rw[Array.toList_filter] at hz;exact(G8.mp hz).1
    rw[S.hes] at hz';obtain⟨y',hy',rfl⟩:=D2.mp hz';exact⟨y'.2,y'.1,rfl,S.hk y' hy'⟩
   rw[hey];show A5 (A7 prog w) A (Q3 [.ref y.2] (eqBool (.ref y.2) (.ref r))>>=_) Q E s;refine A2 (K5 ((TK prog w).eqBool hu hyk hk ?_));refine A2 (U1 S.ho S.hd S.fits ?_);dsimp only
   by_cases c:y.1=k
   ·rw[jq c];simp only[Bool.and_self,↓reduceIte];exact A9 (hQ1 (D2.mpr ⟨y,G4 hy,c⟩))
   ·rw[jr c];simp only[Ck,K8,↓reduceIte];have sm:t.sameMemory t.moves t.mask=some true:=by unfold SetTable.sameMemory;simp
    rw[sm];simp only[↓reduceIte];rw[S.tb.slot_live pi];dsimp only;rw[hey];show A5 (A7 prog w) A (isSame (.ref y.2) (.ref y.2)>>=_) Q E s;refine A2 (Tx ?_);refine A2 (A9 ?_);simp only[↓reduceIte];obtain⟨f1,f2,f3⟩:=MW (K:=K) a1 hkK
    have fle:far K k2 o2<=far K kk oo:=by
     unfold far;have r9:=rn_9 t.mask (lp t.mask ((TK prog w).hash k) kk).1;rcases d8 k2 kk with c|c|c
     ·exact absurd (.inl c) a4
     ·subst c;have:¬o2<oo:=λz=>a4 (.inr ⟨rfl,z⟩);ext
     ·ext
    refine Nc hu S hk hK he hK2 hQ1 hQ2 fuel _ _ _ rfl f2 f3 (nx_ok a1) 0x0 λk' o' p1 p2=>?_;rcases nx_lx a1 p1 p2 with q|⟨rfl,rfl⟩
    ·exact done2 k' o' p1 q
    ·exact⟨i,y,pi,hy,c⟩
end
section
variable {prog:C3}{w:B9}{A:D0}{E:A3->A4->Prop}{s:A4}{a:A1}{o:Obj}{es:Array (Int×A3)}{ep:Nat}{t:O1}{xs:List (List Key×A1)}
def hbv (hk:(TK prog w).is s.heap k r)(h:∀b,Q b s):A5 (A7 prog w) A (hashByValue 8 (.ref r)) Q E s:=by
 have hT:s.TypeIs (.ref r) "tuple":=IsTupleKey.typeIs hk;obtain⟨ob,items,n,e,c,d,jf⟩:=hk;unfold hashByValue;refine A2 (BU hT F.slot_tuple_hash.lookup ?_);dsimp only;refine A2 (U2 e d ?_);refine A2 ?_;show A5 _ _ (forIn items _ _) _ _ s;rw[<- Array.forIn_toList];refine DB _ (λrest q s'=>q.1=none/\s'=s/\∀v∈rest,(∃i t,v=.int i t)\/∃x t,v=.str x t) _ ?_ ?_ _ _ ⟨rfl,rfl,Na jf⟩
 ·rintro v rest q s' ⟨hr,rfl,all⟩
  have e0:∃b,hashByValue 7 v=pure b:=by
   rcases all v B8 with⟨i,t,rfl⟩|⟨x,t,rfl⟩
   ·exact⟨true,rfl⟩
   ·exact⟨false,rfl⟩
  obtain⟨b,e0⟩:=e0;rw[e0];refine A2 (A9 ?_);cases b with
  | true =>
   simp only[l7,K8,↓reduceIte];exact A9 ⟨rfl,rfl,λu hu=>all u (B6 _ hu)⟩
  | false =>
   simp only[Bool.not_false,↓reduceIte];exact A9 (A9 (h _))
 ·rintro⟨r1,r2⟩ s' ⟨hr,rfl,_⟩;simp only at hr;subst hr;exact A9 (h _)
def Nd (hk:(TK prog w).is h k r)(ho:h.get? a=some o)(ex:o.ExactSet)(sb:U5 a h h'):(TK prog w).is h' k r:=by
 obtain⟨ob,items,n,e,c,d,jf⟩:=hk
 have ne:r≠a:=λz=>by
  rw[z,ho] at e;cases e;rw[ex.1] at c;exact absurd c 0b0
 exact⟨ob,items,n,(sb.2 r ne).trans e,c,d,jf⟩
def TOk.pl (T:TOk t hs)(b:Bool):TOk { t with plain:=b } hs:=⟨T.size,T.dum,T.mask,T.rise,T.lim,T.room,T.reach⟩
def Tz (hm:Msk m)(h:5*n<3*m):n+1<m:=by grind [Msk]
def Nf {h:B3}(ho:h.get? a=some o)(hd:o.data=.set es ep t):(h.update a (Obj.putSet es' t')).get? a=some { o with data:=.set es' (ep+1) t' }:=by
 have:=AN (Obj.putSet es' t') ho (by rw[putSet_of es' t' hd];rfl);rw[putSet_of es' t' hd] at this;exact this
def Ng {α β:Type}(f:α->β)(l:List α)(p:Nat)(x:α):(insL l p x).map f=insL (l.map f) p (f x):=by simp[insL]
def TB {α:Type}(l:List α)(p:Nat)(x:α):(insL l p x).Perm (x::l):=by
 unfold insL;have h1:(l.take p++x::l.drop p).Perm (x::(l.take p++l.drop p)):=List.perm_middle
 simp_all
def Nh {α:Type}(l:List α)(ord:List Nat)(d:α)(p:ord.Perm (C2 l.length)):ord.filterMap (λk=>l[k]?)=ord.map (λk=>l.getD k d)/\(ord.map λk=>l.getD k d).Perm l:=by
 have lt:∀k∈ord,k<l.length:=λk hk=>J9.mp (p.mem_iff.mp hk);constructor
 ·clear p
  induction ord with
  |nil=>rfl
  | cons k ord ih =>
   have hk:=lt k B8;rw[x9,C9 hk,J3,ih λj hj=>lt j (B6 _ hj),Y2,C9 hk]
   rfl
 ·have h1:=p.map λk=>l.getD k d
  have h2:(C2 l.length).map (λk=>l.getD k d)=l:=by
   apply Cb
   intro i;rw[D4]
   by_cases c:i<l.length
   ·grind
   ·grind
  rw[h2] at h1;exact h1
def relay (ho:s.heap.get? a=some o)(ex:o.ExactSet)(hd:o.data=.set es ep t)(hes:es.toList=xs.map (enS prog w))(hk:∀x∈xs,(TK prog w).is s.heap x.1 x.2)(nd:(xs.map (·.1)).Nodup)(tb:TOk t (xs.map λx=>(TK prog w).hash x.1))(led:t.led=!(w.params.followText "set-order"))
   (hn:n=xs.length) (hfull:(t.mask=7/\n=5)\/(t.mask=31/\n=19))
   (h:∀h' o' es' ep' t' xs',U5 a s.heap h'->SetK prog w h' a o' es' ep' t' xs'->xs'.Perm xs->Q () { s with heap:=h' }):A5 (A7 prog w) A (setRelay a (Cr n)) Q E s:=by
 have sz:es.size=xs.length:=by rw[<- M3,hes,B0]
 have fit:t.fits es.size=true:=by
  have:=tb.fits;rw[B0] at this;rw[sz];exact this
 obtain⟨m',hm',sa,fewm,lt⟩:∃m',Msk m'/\SetTable.sizeAbove (Cr n)-1=m'/\5*n<3*m'/\SetTable.sizeAbove (Cr n)<=128:=by
  rcases hfull with⟨_,rfl⟩|⟨_,rfl⟩
  ·exact⟨31,.inr (.inl rfl),0b0,0b0,0b0⟩
  ·exact⟨127,.inr (.inr rfl),0b0,0b0,0b0⟩
 have hsl:(es.map (·.1)).toList=xs.map λx=>(TK prog w).hash x.1:=by
  rw[Array.toList_map,hes,R9];rfl
 have hll:(es.map (·.1)).toList.length=n:=by rw[hsl,B0,hn]
 obtain⟨t',ord,el,po,l1,l2,l3,T'⟩:=Tv (fi:=t.finger) (mo:=t.movedTo m') (led:=t.led) (pl:=t.plain) hm' (es.map (·.1)) (by grind)
 have er:t.relaid (es.map (·.1)) (Cr n)=some (t',ord):=by
  unfold SetTable.relaid;rw[sa];exact el
 rw[hll] at po;have po':ord.toList.Perm (C2 xs.length):=by rw[<- hn];exact po
 obtain⟨x0,hx0⟩:∃x0:List Key×A1,True:=⟨([],0),trivial⟩;have ol:=Nh xs ord.toList x0 po';have lt2:∀k∈ord.toList,k<xs.length:=λk hk=>J9.mp (po'.mem_iff.mp hk)
 have es2:(ord.filterMap (es[·]?)).toList=(ord.toList.map λk=>xs.getD k x0).map (enS prog w):=by
  rw[Array.toList_filterMap,R9]
  have:∀l:List Nat,(∀k∈l,k < xs.length)->l.filterMap (fun k=>es[k]?)=l.map ((enS prog w)∘fun k=>xs.getD k x0):=by
   intro l
   induction l with
   |nil=>intro _;rfl
   | cons k l ih =>
    intro hl;have hk:=hl k B8
    have e1:es[k]?=some (enS prog w (xs.getD k x0)):=by
     rw[<- P5,hes,D4,C9 hk,Y2,C9 hk];rfl
    rw[x9,e1,J3,ih λj hj=>hl j (B6 _ hj)]
    rfl
  exact this ord.toList lt2
 have z2:(ord.filterMap (es[·]?)).size=es.size:=by
  rw[<- M3,es2,B0,B0,po'.length_eq,U8,sz]
 unfold setRelay;refine A2 (U1 ho hd fit ?_);dsimp only;rw[ju (by rw[O0];ext),er]
 show A5 (A7 prog w) A ((do
  let es':=ord.filterMap (es[·]?)
  if es'.size != es.size then unsupported "internal:set-table-lost-an-element"
  pure (es',t'))>>=λ(x:Array (Int×A3)×O1)=>storeSet a x.1 x.2) Q E s
 dsimp only;rw[ju (by grind)];refine A2 (A2 (A9 (A9 ?_)));have fz:(ord.filterMap (es[·]?)).size<=B4:=by rw[z2,sz,<- hn,O0];rcases hfull with⟨_,rfl⟩|⟨_,rfl⟩ <;> decide
 refine wpAny_storeSet_of ho hd ?_ fz;have sb:=V1 s.heap a (Obj.putSet (ord.filterMap (es[·]?)) t');have pk:=po';refine h _ _ _ _ _ (ord.toList.map λk=>xs.getD k x0) sb ⟨Nf ho hd,ex,rfl,es2,λx hx=>?_,?_,?_,?_,by rw[l1];exact led⟩ ol.2
 ·exact Nd (hk x (ol.2.mem_iff.mp hx)) ho ex sb
 ·grind
 ·have e3:(ord.toList.map λk=>xs.getD k x0).map (λx=>(TK prog w).hash x.1)=ord.toList.map λk=>(es.map (·.1)).toList.getD k 0:=by
   rw[R9,hsl];refine List.map_congr_left λk hk=>?_;have hk':=lt2 k hk;show(TK prog w).hash (xs.getD k x0).1=_;rw[Y2,Y2,D4,C9 hk'];rfl
  rw[e3];exact T'
 ·rw[B0,po'.length_eq,U8,<- hn];show 5*n<3*t'.mask;ext
def add (hu:A.units<cLine)(S:SetK prog w s.heap a o es ep t xs)(hk:(TK prog w).is s.heap k r)(h63:xs.length+1<=63)
   (h1:k∈xs.map (·.1)->Q false s) (h2:k∉xs.map (·.1)->∀h' o' es' ep' t' xs',U5 a s.heap h'->SetK prog w h' a o' es' ep' t' xs'->xs'.Perm ((k,r)::xs)->Q true { s with heap:=h' }) :
   A5 (A7 prog w) A (setAddHashed a (.ref r) ((TK prog w).hash k)) Q E s:=by
 unfold setAddHashed setAddHashedIn;refine K5 (A2 (U1 S.ho S.hd S.fits ?_));dsimp only;have nb:byScan (.ref r) es=false:=by unfold byScan Value.scannable;simp
 rw[nb];simp only[K8,↓reduceIte];obtain⟨e,he1,he2⟩:=S.tb.free;obtain⟨K,hK1,hK2⟩:=goes S.tb.mask ((TK prog w).hash k) he1
 have f0:far K 0 0<=100000:=by
  unfold far;rcases S.tb.mask with z|z|z <;> rw[z] at hK1 <;> omega
 refine A2 ?_;unfold setSearch;refine Nc hu S hk hK2 he2 hK1 (λhin=>?_) (λsl n1 n2 n3 n4=>?_) 100000 0 0 none rfl (F7 _) (λ_=>rfl) (F7 _) f0 (λk' o' _ l=>?_)
 ·exact A9 (h1 hin)
 ·dsimp only;refine A2 (U1 S.ho S.hd S.fits ?_);have hr:=Tz S.tb.mask (by have:=S.few;exact this);obtain⟨p1,p2,p3,p4,T1⟩:=S.tb.put n1 n2 n3 (by grind);rw[B0] at p2;have ek:insL (xs.map λx=>(TK prog w).hash x.1) (t.put sl).2 ((TK prog w).hash k)=(insL xs (t.put sl).2 (k,r)).map λx=>(TK prog w).hash x.1:=(Ng (λx:List Key×A1=>(TK prog w).hash x.1) xs (t.put sl).2 (k,r)).symm;rw[ek] at T1
  have es1:(SetTable.insertAt es (t.put sl).2 ((TK prog w).hash k,.ref r)).toList=(insL xs (t.put sl).2 (k,r)).map (enS prog w):=by
   rw[MU _ _ _ (by rw[S.sz];exact p2),S.hes,Ng];rfl
  have pm:=TB xs (t.put sl).2 (k,r);have mk1:(t.put sl).1.mask=t.mask:=rfl
  have nd1:((insL xs (t.put sl).2 (k,r)).map (·.1)).Nodup:=by
   refine((pm.map (·.1)).nodup_iff).mpr ?_;rw[J3,O8];exact⟨n4,S.nd⟩
  have hk1:∀x∈insL xs (t.put sl).2 (k,r),(TK prog w).is s.heap x.1 x.2:=λx hx=>by
   rcases B5.mp (pm.mem_iff.mp hx) with rfl|hx
   ·exact hk
   ·exact S.hk x hx
  have len1:(insL xs (t.put sl).2 (k,r)).length=xs.length+1:=Df _ _ _
  have fill1:∀b,({ (t.put sl).1 with plain:=b }:O1).fill=xs.length+1:=λb=>by
   show(t.put sl).1.place.size+(t.put sl).1.dummies.size=_;rw[T1.dum,<- M3,T1.size,B0,len1];rfl
  dsimp only;generalize (t.put sl).2=p at *;generalize ht1:(t.put sl).1=t1 at *;generalize hes1:SetTable.insertAt es p ((TK prog w).hash k,.ref r)=esN at *;generalize hxs1:insL xs p (k,r)=xs1 at *
  -- what follows, whatever is said of the hash
  have tail:∀b:Bool,A5 (A7 prog w) A (do
      storeSet a esN { t1 with plain:=b }
      if(!false&&({ t1 with plain:=b }:O1).tooFull)=true then do
       setRelay a (Cr (es.size+1))
       pure true
      else pure true) Q E s:=λb=>by
    have ez:esN.size<=B4:=by rw[<- M3,es1,B0,len1,O0];ext
    refine A2 (wpAny_storeSet_of S.ho S.hd ?_ ez);have sb:=V1 s.heap a (Obj.putSet esN { t1 with plain:=b });have hk2:∀x∈xs1,(TK prog w).is (s.heap.update a (Obj.putSet esN { t1 with plain:=b })) x.1 x.2:=λx hx=>Nd (hk1 x hx) S.ho S.ex sb;have ob:=Nf (es':=esN) (t':={ t1 with plain:=b }) S.ho S.hd;have T2:=TOk.pl T1 b
    by_cases c:({ t1 with plain:=b }:O1).tooFull=true
    ·rw[jt (by grind)]
     have c':(xs.length+1)*5>=t.mask*3:=by
      unfold SetTable.tooFull at c;rw[fill1 b] at c;have:=jv c;rw[<- mk1];exact this
     have few:=S.few;refine A2 (relay (n:=es.size+1) ob S.ex rfl es1 hk2 nd1 T2 (by show t1.led=_;rw[p4];exact S.led) (by rw[S.sz,len1]) ?_ λh' o' es' ep' t' xs' sb' S' p'=>?_)
     ·show(t1.mask=7/\_)\/(t1.mask=31/\_);rw[mk1,S.sz];rcases S.tb.mask with z|z|z
      ·ext
      ·ext
      ·ext
     ·exact A9 (h2 n4 _ _ _ _ _ _ (sb.trans sb') S' (p'.trans pm))
    ·rw[ju (by grind)];refine A9 (h2 n4 _ _ _ _ _ xs1 sb ⟨ob,S.ex,rfl,es1,hk2,nd1,T2,?_,by show t1.led=_;rw[p4];exact S.led⟩ pm)
     have:¬((xs.length+1)*5>=t.mask*3):=λz=>c (by
      unfold SetTable.tooFull;rw[fill1 b]
      exact jq (by grind))
     show 5*xs1.length<3*t1.mask;rw[len1,mk1];ext
  split
  ·refine A2 (hbv hk λb=>?_);cases b with
   | true =>
    simp only[↓reduceIte];exact tail t1.plain
   | false =>
    simp only[K8,↓reduceIte];exact tail false
  ·refine A2 (A9 ?_);simp only[↓reduceIte];exact tail t1.plain
 ·rcases l with l|⟨_,l⟩
  ·grind
  ·ext
end
def Holds (prog:C3)(w:B9)(h:B3)(S:A1)(rs:List (List Key×A1)):Prop:=
 ∃o es ep t xs,SetK prog w h S o es ep t xs/\(∀x∈xs,x∈rs)/\∀x∈rs,x.1∈xs.map (·.1)
def Fj (hk:(TK prog w).is h k r)(kp:∀o,h.get? r=some o->h'.get? r=some o):(TK prog w).is h' k r:=by
 obtain⟨ob,items,n,e,c,d,jf⟩:=hk;exact⟨ob,items,n,kp _ e,c,d,jf⟩
def SetK.at' (S:SetK prog w h a o es ep t xs)(k0:h'.get? a=some o)(kp:∀x∈xs,∀o,h.get? x.2=some o->h'.get? x.2=some o):SetK prog w h' a o es ep t xs:=
 ⟨k0,S.ex,S.hd,S.hes,(λx hx=>Fj (S.hk x hx) (kp x hx)),S.nd,S.tb,S.few,S.led⟩
theorem Holds.at' (S:Holds prog w h a rs)(k0:∀o,h.get? a=some o->h'.get? a=some o)(kp:∀x∈rs,∀o,h.get? x.2=some o->h'.get? x.2=some o):Holds prog w h' a rs:=by
 obtain⟨o,es,ep,t,xs,S1,S2,S3⟩:=S;exact⟨o,es,ep,t,xs,S1.at' (k0 o S1.ho) λx hx=>kp x (S2 x hx),S2,S3⟩
def Holds.len {xs rs:List (List Key×A1)}(S:SetK prog w h a o es ep t xs)(hs:∀x∈xs,x∈rs):xs.length<=rs.length:=by
 have n1:xs.Nodup:=(c6.mp S.nd).imp λh e=>h (by rw[e]);exact n1.length_le_of_subset hs
section
variable {prog:C3}{w:B9}{A:D0}{R:Result->A4->Prop}{I:A1}{fp wr:List A1}{G:Array GenState->Array GenState->Prop}{n:Nat}{P:Nat->A3->Prop}{St:Nat->A4->Prop}
def TC {rs:List (List Key×A1)}(hy:rs[i]?=some y)(S1:SetK prog w h S o es ep t xs)(S2:∀x∈xs,x∈rs.take i)(S3:∀x∈rs.take i,x.1∈xs.map (·.1))(hin:y.1∈xs.map (·.1)):Holds prog w h S (rs.take (i+1)):=by
 have e:rs.take (i+1)=rs.take i++[y]:=by rw[List.take_succ,hy];rfl
 rw[e];exact⟨o,es,ep,t,xs,S1,λx hx=>AQ _ (S2 x hx),λx hx=>(D7.mp hx).elim (S3 x) λz=>by rw[E8.mp z];exact hin⟩
def TD (Wk:WalksS prog w A.in1 I fp wr G n P St)(S:A1)(nf:S∉fp)(rs:List (List Key×A1))(hn:rs.length=n)(hv:∀i v,P i v->∃y,rs[i]?=some y/\v=.ref y.2)(ap:∀y∈rs,y.2∉wr/\y.2≠S)(hu:A.in1.units<cLine)(room:n<=63) :
   ∀ (k i : Nat) (s : A4), n - i = k -> i <= n -> St i s -> (∀ y ∈ rs, (TK prog w).is s.heap y.1 y.2) -> Holds prog w s.heap S (rs.take i) ->
     (∀s',Moved (S::wr) G s s'->Holds prog w s'.heap S rs->R (.ok (.ret .none)) s')->
     M1 (A7 prog w) A (.builtin "set.update.loop" ⟨[.ref S,.ref I],[]⟩) R s:=by
 have nw:S∉wr:=λh=>nf (Wk.sub _ h);have sub:∀b∈wr,b∈S::wr:=λb hb=>B6 _ hb;intro k
 induction k with
 | zero =>
  intro i s hk hi st jf so fin;have ei:i=n:=0x0
  subst ei;refine Z9 DT ?_;rw[o6 Ae _];refine A2 (m:=pyNext (.ref I)) (Wk.done s _ _ st λs' mv=>?_);refine A9 (fin s' (mv.mono sub) ?_);rw[b8 0x0] at so;exact so.at' (λo e=>mv.heap S _ nw e) λx hx o e=>mv.heap _ _ (ap x hx).1 e
 | succ k ih =>
  intro i s hk hi st jf so fin;have lt:i<n:=0x0
  refine Z9 DT ?_;rw[o6 Ae _];refine A2 (m:=pyNext (.ref I)) (Wk.item i s _ _ lt st λv s' pv' st' mv=>?_);obtain⟨y,hy,rfl⟩:=hv i v pv';have my:y∈rs:=G4 hy;have its':∀y∈rs,(TK prog w).is s'.heap y.1 y.2:=λy hy=>Fj (jf y hy) λo e=>mv.heap _ _ (ap y hy).1 e;have so':Holds prog w s'.heap S (rs.take i):=so.at' (λo e=>mv.heap S _ nw e) λx hx o e=>mv.heap _ _ (ap x (U7 hx)).1 e;refine A2 (m:=Q3 [.ref y.2] (setAdd S (.ref y.2))) (K5 ?_);unfold setAdd;refine K5 (A2 ((TK prog w).pyHash hu (its' y my) ?_));obtain⟨o,es,ep,t,xs,S1,S2,S3⟩:=so'
  have l63:xs.length+1<=63:=by
   have:=Holds.len S1 S2;rw[J7] at this;omega
  have next:∀h',U5 S s'.heap h'->Holds prog w h' S (rs.take (i+1))->M1 (A7 prog w) A (.builtin "set.update.loop" ⟨[.ref S,.ref I],[]⟩) R { s' with heap:=h',toks:=s'.toks+(TK prog w).draws y.1 }:=λh' sb so3=>by
   refine ih (i+1) _ 0x0 lt (Wk.frame _ s' _ _ st' (Nat.le_add_right _ _) λb hb o e=>?_) (λz hz=>Fj (its' z hz) λo e=>?_) so3 λs2 mv2 so4=>?_
   ·rw[sb.2 b (λz:b=S=>nf (by grind))];exact e
   ·rw[sb.2 z.2 (ap z hz).2];exact e
   ·refine fin s2 (Moved.trans Wk.gtrans ((mv.mono sub).then_heap (Nat.le_add_right _ _) λb o hb e=>?_) mv2) so4;rw[sb.2 b (λz:b=S=>hb (by grind))];exact e
  refine add (s:={ s' with toks:=s'.toks+(TK prog w).draws y.1 }) hu S1 (its' y my) l63 (λhin=>?_) λhin h' o' es' ep' t' xs' sb S1' pm=>?_
  ·exact A9 ⟨k5 Ae _,next s'.heap (Heap.SameBut.refl _ _) (TC hy S1 S2 S3 hin)⟩
  ·refine A9 ⟨k5 Ae _,next h' sb ⟨o',es',ep',t',xs',S1',λx hx=>?_,λx hx=>?_⟩⟩
   ·rw[List.take_succ,hy];rcases B5.mp (pm.mem_iff.mp hx) with rfl|z
    ·grind
    ·grind
   ·rw[List.take_succ,hy] at hx;rw[(pm.map (·.1)).mem_iff,J3];rcases D7.mp hx with z|z
    ·grind
    ·grind
end
section
variable {prog:C3}{w:B9}{A:D0}{E:A3->A4->Prop}{s:A4}
def TF (h:B3)(S:A1)(led:Bool)(hl:led=!(w.params.followText "set-order"))(e:h.get? S=some { cls:=.type "set",dict:=none,data:=.set #[] 0 (.fresh 0 0 led) }):Holds prog w h S []:=by
 refine⟨_,#[],0,.fresh 0 0 led,[],⟨e,⟨rfl,rfl,rfl⟩,rfl,rfl,(λ_ z=>nomatch z),0o0,⟨rfl,rfl,.inl rfl,by unfold Rise;exact Gw,(λ_ z=>nomatch z),(show 0<7 by decide),λi s h e=>?_⟩,(show 5*0<3*7 by decide),hl⟩,(λ_ z=>nomatch z),λ_ z=>nomatch z⟩
 grind
def Ni (hd:A.handled=none)(hu:A.units+64<cLine)(ht:s.heap.IsList a jf\/s.heap.IsTuple a jf)(hv:jf.toList=rs.map λy=>K2 y.2)(hk:∀y∈rs,(TK prog w).is s.heap y.1 y.2)(room:rs.length<=63)
   (fin:∀(h':B3) (tk:Nat),Holds prog w h' s.heap.objs.size rs->
     (∀b o,b<s.heap.objs.size->s.heap.get? b=some o->h'.get? b=some o)->Q (.ref s.heap.objs.size) { s with heap:=h',toks:=tk }):A5 (A7 prog w) A (call (.type "set") [.ref a]) Q E s:=by
 have sz:rs.length=jf.size:=by rw[<- M3,hv,B0]
 have lo:∀y∈rs,y.2<s.heap.objs.size:=λy hy=>by
  obtain⟨ob,items,n,e,_⟩:=hk y hy;exact C4 e
 refine LZ hd ht (λI St fp G s1 R led hl lI Wk nf h0 g1 kp k=>?_) fin;refine TD Wk _ nf rs sz (λi v e=>?_) (λy hy=>⟨λz=>?_,E6 (lo y hy)⟩) (by grind) 0x0 (jf.size-0) 0 s1 rfl (F7 _) h0 (λy hy=>Fj (hk y hy) λo e=>kp _ _ e) (TF _ _ led hl g1) k
 ·rw[<- P5,hv,D4] at e;cases er:rs[i]? with
  |none=>rw[er] at e;cases e
  |some y=>rw[er] at e;cases e;exact⟨y,rfl,rfl⟩
 grind
end
def X5:Slot "set_iterator" "__next__" "set_iterator.__next__":=.of (owner:="set_iterator") (n:="__next__")
 (by rw[typeLookup_type,builtinLookup_eq_fast];kernel_rfl)
 (by decide +kernel)
 (by decide +kernel)
 (by decide +kernel)
 (by first|exact .inl (by decide +kernel)|exact .inr (by grind))
 (by rw[j7];kernel_rfl)
def Nj:Slot "set_iterator" "__iter__" "set_iterator.__iter__":=.of (owner:="set_iterator") (n:="__iter__")
 (by rw[typeLookup_type,builtinLookup_eq_fast];kernel_rfl)
 (by decide +kernel)
 (by decide +kernel)
 (by decide +kernel)
 (by first|exact .inl (by decide +kernel)|exact .inr (by grind))
 (by rw[j7];kernel_rfl)
def Fk:entryFor table "set_iterator.__next__"=some M7.«set_iterator.__next__»:=entryFor_of_tree (by kernel_rfl)
def TJ:entryFor table "set_iterator.__iter__"=some M7.«dict_keyiterator.__iter__»:=
 entryFor_alias (id':="dict_keyiterator.__iter__") (by kernel_rfl) rfl (by decide +kernel) (by kernel_rfl)
def TM:entryFor table "set.__iter__"=some M7.«frozenset.__iter__»:=
 entryFor_alias (id':="frozenset.__iter__") (by kernel_rfl) rfl (by decide +kernel) (by kernel_rfl)
def ow_it:Manifest.owners.lookup (String.ofList (['r','o','t','a','r','e','t','i','_','t','e','s']).reverse)=some Manifest.sig_set_iterator:=by kernel_rfl
def Fm (x:A3):argsOk "set_iterator.__next__" ⟨[x],[]⟩:=rfl
def TN (x:A3):argsOk "set_iterator.__iter__" ⟨[x],[]⟩:=rfl
theorem Fn {α:Type}:∀(l:List α) (i:Nat) (x:α),l[i]?=some x->(x::l.eraseIdx i).Perm l
 |[],i,x,e=>by simp at e
 | y :: l, 0, x, e => by
  have:y=x:=by simpa using e
  rw[this];exact .refl _
 | y :: l, i + 1, x, e => by
  have h:=Fn l i x (by simpa using e);show(x::y::l.eraseIdx i).Perm (y::l);exact(List.Perm.swap y x _).trans (h.cons y)
theorem Nk {α:Type}(next:Nat->Nat):∀(fuel k:Nat) (left:List α) (out:Array α),fuel=left.length->(pickOrder.go next fuel k left out).toList.Perm (out.toList++left)
 | 0, k, left, out, h => by
  have:left=[]:=BX h.symm;subst this;unfold pickOrder.go;rw[W5]
 | fuel + 1, k, left, out, h => by
  have lt:next k%left.length<left.length:=Nat.mod_lt _ 0x0
  have e:left[next k%left.length]?=some left[next k%left.length]:=C9 lt;unfold pickOrder.go;rw[e];dsimp only;have le:(left.eraseIdx (next k%left.length)).length=fuel:=by rw[Gi lt];ext
  refine(Nk next fuel (k+1) _ _ le.symm).trans ?_;rw[Array.toList_push,R8];exact List.Perm.append_left _ (Fn _ _ _ e)
def TQ {α:Type}(next:Nat->Nat)(xs:Array α):(pickOrder next xs).toList.Perm xs.toList:=by
 have:=Nk next xs.size 0 xs.toList #[] 0o0
 exact this
section
variable {prog:C3}{w:B9}{A:D0}{E:A3->A4->Prop}{s:A4}
def chosen (hn:0<n)(h:∀i d,i<n->Q i { s with drawn:=d }):A5 (A7 prog w) A (choose src n) Q E s:=by
 intro Γ p _;unfold choose;rw[Sem.wp];refine⟨0x0,?_⟩;rw[Sem.wp];exact h _ _ (Nat.mod_lt _ hn)
theorem Nl {α:Type}:∀(n:Nat) (xs:List α) (s:A4) (Q:List α->A4->Prop),n=xs.length->(∀ys d,ys.Perm xs->Q ys { s with drawn:=d })->A5 (A7 prog w) A (drawOrder n xs) Q E s
 | 0, xs, s, Q, hn, h => by
  have:xs=[]:=BX hn.symm;subst this;exact A9 (h [] s.drawn (.refl _))
 |n+1,[],s,Q,hn,h=>by simp at hn
 | n + 1, x :: xs, s, Q, hn, h => by
  unfold drawOrder;refine A2 (chosen 0o0 λi d hi=>?_);have e:(x::xs)[i]?=some (x::xs)[i]:=C9 hi;rw[e];dsimp only;have le:((x::xs).eraseIdx i).length=n:=by rw[Gi hi];ext
  refine A2 (Nl n _ _ _ le.symm λys d2 hp=>A9 ?_);exact h _ d2 ((hp.cons _).trans (Fn _ _ _ e))
def O5 (h:B3)(I a:A1)(fst:A3)(i n ep:Nat):Prop:=∃o,h.get? I=some o/\o.cls=.type "set_iterator"/\o.data=.fields #[fst,.int i 0,.ref a,.int n 0,.int ep 0]
def O5.ty (x:O5 s.heap I a fst i n ep):s.TypeIs (.ref I) "set_iterator":=by
 obtain⟨o,ho,hc,_⟩:=x;exact⟨o,ho,hc⟩
def O5.at' (x:O5 h I a fst i n ep)(e:∀o,h.get? I=some o->h'.get? I=some o):O5 h' I a fst i n ep:=by grind [O5]
def O5.put (x:O5 h I a fst i n ep)(k:Nat)(v:A3):∃o,(h.update I (Obj.mapFields (·.setIfInBounds k v))).get? I=some o/\o.cls=.type "set_iterator"/\o.data=.fields (#[fst,.int i 0,.ref a,.int n 0,.int ep 0].setIfInBounds k v):=by
 obtain⟨o,ho,hc,hd⟩:=x;exact⟨_,AN _ ho (Obj.isFreed_of_fields (DW hd _)),(Obj.cls_mapFields ..).trans hc,DW hd _⟩
def Nm (x:O5 s.heap I a fst i n ep)(h:Q (.ref I) s):A5 (A7 prog w) A (pyIter (.ref I)) Q E s:=by
 refine wpAny_pyIter_slot x.ty Nj (N9 Nj x.ty TJ (show A5 (A7 prog w) _ (ret (.ref I)) _ _ s from ?_) (TN _));exact A9 ⟨_,rfl,"set_iterator",_,x.ty,X5.lookup,h⟩
def Nn {Q:Option A3->A4->Prop}(hh:A.handled=none)(h:∀h',(∀b o,h1.get? b=some o->h'.get? b=some o)->Q none { s with heap:=h' }) :
   A5 (A7 prog w) A.in1 ((newExc (.type "StopIteration") []>>=λx=>raiseNew x:Sem PySem.Fin)) Q0 (λe s'=>A5 (A7 prog w) A (do if ← isInstance e (.type "StopIteration") then pure none else throw e) Q E s') { s with heap:=h1 }:=by
 refine A2 ?_;simp only[newExc,newTuple];refine A2 (N7 ?_ (by size_fits));refine A2 (m:=firstArgMember _ _) (P0 (a:=Q6) (by first|rfl|(simp only[firstArgMember];rfl)) ?_);refine N7 ?_ (by size_fits);simp only[raiseNew];refine A2 (wpAny_handled ?_);rw[show A.in1.handled=none from hh];refine A2 (A9 (wpAny_throw ?_));refine A2 (DA (T:="StopIteration") (b:=true) ⟨_,E7 _ rfl,rfl⟩ isSubtype_stop ?_);exact A9 (h _ λb o e=>B7 _ (B7 _ e))
end
section
variable {prog:C3}{w:B9}{A:D0}{E:A3->A4->Prop}{s:A4}{I a:A1}{n i ep:Nat}{o:Obj}{es:Array (Int×A3)}{t:O1}
def TR {slot nx:Nat}(hit:O5 s.heap I a (.int slot 0) i n ep)(ho:s.heap.get? a=some o)(hd:o.data=.set es ep t)(hf:t.fits es.size=true)(hn:es.size=n)
   (hs:∀(A:D0) (E:A3->A4->Prop) (Q':Option (A3×Nat)->A4->Prop),Q' (some (x,nx)) s->A5 (A7 prog w) A (setNext a slot i ep) Q' E s)
   (hQ:∀h',O5 h' I a (.int nx 0) (i+1) n ep->U5 I s.heap h'->Q (some x) { s with heap:=h' }):A5 (A7 prog w) A (pyNext (.ref I)) Q E s:=by
 obtain⟨oi,hoi,hci,hdi⟩:=id hit;unfold pyNext;refine A2 (w8 (T9 (name:=A6 "__next__") hit.ty X5 (N9 X5 hit.ty Fk ?_ (Fm _))));unfold M7.«set_iterator.__next__»;refine A2 (A9 ?_);refine A2 (wpAny_fieldsOf hoi hdi ?_);dsimp only;refine A2 (BS ho hd hf ?_);rw[ju (by grind)];refine A2 (hs _ _ _ ?_);dsimp only;refine A2 (j8 hoi hdi 0o0 ?_);obtain⟨o1,e1,c1,d1⟩:=hit.put 0 (rawInt nx);have h1:O5 (s.heap.update I (Obj.mapFields (·.setIfInBounds 0 (rawInt nx)))) I a (.int nx 0) i n ep:=⟨o1,e1,c1,by rw[d1];simp[rawInt]⟩;refine A2 (j8 (s:={ s with heap:=s.heap.update I (Obj.mapFields (·.setIfInBounds 0 (rawInt nx))) }) e1 d1 0o0 ?_);obtain⟨o2,e2,c2,d2⟩:=h1.put 1 (rawInt (i+1));refine A9 ⟨_,rfl,A9 (hQ _ ⟨o2,e2,c2,by rw[d2];simp[rawInt]⟩ ?_)⟩;exact(V1 s.heap I _).trans (V1 _ I _)
def TV {slot:Nat}(hh:A.handled=none)(hit:O5 s.heap I a (.int slot 0) i n ep)(ho:s.heap.get? a=some o)(hd:o.data=.set es ep t)(hf:t.fits es.size=true)(hn:es.size=n)
   (hs:∀(A:D0) (E:A3->A4->Prop) (Q':Option (A3×Nat)->A4->Prop),Q' none s->A5 (A7 prog w) A (setNext a slot i ep) Q' E s)
   (hQ:∀h',(∀b o,b≠I->s.heap.get? b=some o->h'.get? b=some o)->Q none { s with heap:=h' }):A5 (A7 prog w) A (pyNext (.ref I)) Q E s:=by
 obtain⟨oi,hoi,hci,hdi⟩:=id hit;unfold pyNext;refine A2 (w8 (T9 (name:=A6 "__next__") hit.ty X5 (N9 X5 hit.ty Fk ?_ (Fm _))));unfold M7.«set_iterator.__next__»;refine A2 (A9 ?_);refine A2 (wpAny_fieldsOf hoi hdi ?_);dsimp only;refine A2 (BS ho hd hf ?_);rw[ju (by grind)];refine A2 (hs _ _ _ ?_);dsimp only;refine A2 (j8 hoi hdi 0o0 ?_);exact Nn hh λh' k=>hQ h' λb o hb e=>k b o (((V1 s.heap I _).2 b hb).trans e)
end
section
variable {prog:C3}{w:B9}{A:D0}{E:A3->A4->Prop}{s:A4}{I a tp:A1}{n i ep:Nat}{o:Obj}{es:Array (Int×A3)}{t:O1}{ps:Array A3}
def TW {p:Nat}(hit:O5 s.heap I a (.ref tp) i n ep)(ht:s.heap.IsTuple tp ps)(ho:s.heap.get? a=some o)(hd:o.data=.set es ep t)(hf:t.fits es.size=true)(hn:es.size=n)
   (hp:ps[i]?=some (.int p 0)) (he:es[p]?=some (hx,x))
   (hQ:∀h',O5 h' I a (.ref tp) (i+1) n ep->U5 I s.heap h'->Q (some x) { s with heap:=h' }):A5 (A7 prog w) A (pyNext (.ref I)) Q E s:=by
 obtain⟨oi,hoi,hci,hdi⟩:=id hit;obtain⟨ot,hot,hct,nt,hdt⟩:=ht;unfold pyNext;refine A2 (w8 (T9 (name:=A6 "__next__") hit.ty X5 (N9 X5 hit.ty Fk ?_ (Fm _))));unfold M7.«set_iterator.__next__»;refine A2 (A9 ?_);refine A2 (wpAny_fieldsOf hoi hdi ?_);dsimp only;refine A2 (BS ho hd hf ?_);rw[ju (by grind)];refine A2 (U2 hot hdt ?_);dsimp only;rw[show((i:Int).toNat)=i from rfl,hp];dsimp only;refine A2 (m:=setNextDrawn a _ _) (A2 (U1 ho hd hf ?_));dsimp only;rw[ju 0o0];rw[show((p:Int).toNat)=p from rfl,he];dsimp only;refine A9 ?_;refine A2 (j8 hoi hdi 0o0 ?_);obtain⟨o2,e2,c2,d2⟩:=hit.put 1 (rawInt (i+1));refine A9 ⟨_,rfl,A9 (hQ _ ⟨o2,e2,c2,by rw[d2];simp[rawInt]⟩ ?_)⟩;exact V1 s.heap I _
def TX (hh:A.handled=none)(hit:O5 s.heap I a (.ref tp) i n ep)(ht:s.heap.IsTuple tp ps)(ho:s.heap.get? a=some o)(hd:o.data=.set es ep t)(hf:t.fits es.size=true)(hn:es.size=n)
   (hp:ps[i]?=none)
   (hQ:∀h',(∀b o,b≠I->s.heap.get? b=some o->h'.get? b=some o)->Q none { s with heap:=h' }):A5 (A7 prog w) A (pyNext (.ref I)) Q E s:=by
 obtain⟨oi,hoi,hci,hdi⟩:=id hit;obtain⟨ot,hot,hct,nt,hdt⟩:=ht;unfold pyNext;refine A2 (w8 (T9 (name:=A6 "__next__") hit.ty X5 (N9 X5 hit.ty Fk ?_ (Fm _))));unfold M7.«set_iterator.__next__»;refine A2 (A9 ?_);refine A2 (wpAny_fieldsOf hoi hdi ?_);dsimp only;refine A2 (BS ho hd hf ?_);rw[ju (by grind)];refine A2 (U2 hot hdt ?_);dsimp only;rw[show((i:Int).toNat)=i from rfl,hp];dsimp only;refine A2 (j8 hoi hdi 0o0 ?_);obtain⟨o2,e2,c2,d2⟩:=hit.put 0 (rawInt 0);refine A2 (j8 (s:={ s with heap:=s.heap.update I (Obj.mapFields (·.setIfInBounds 0 (rawInt 0))) }) e2 d2 0o0 ?_);exact Nn hh λh' k=>hQ h' λb o hb e=>k b o (((V1 _ I _).2 b hb).trans (((V1 s.heap I _).2 b hb).trans e))
def TY (hh:A.handled=none){ys:List A3}{sl:Nat->Nat}(hn:es.size=ys.length)(ne:a≠I)(hd:o.data=.set es ep t)(hf:t.fits es.size=true)
   (hs:∀(i:Nat) (s:A4) (A:D0) (E:A3->A4->Prop) (Q':Option (A3×Nat)->A4->Prop),s.heap.get? a=some o->i<=ys.length->Q' (ys[i]?.map λx=>(x,sl (i+1))) s->A5 (A7 prog w) A (setNext a (sl i) i ep) Q' E s) :
   Walks prog w A I [I,a] [I] ys.length (λi v=>ys[i]?=some v) (λi h=>O5 h I a (.int (sl i) 0) i ys.length ep/\h.get? a=some o) where
 sub:=λb hb=>by rw[E8.mp hb];exact B8
 frame:=λ_ _ _ st hk=>⟨st.1.at' λo e=>hk I B8 o e,hk a (B6 _ (E8.mpr rfl)) o st.2⟩
 item:=λi s Q E hi st hQ=>by
  have e:ys[i]?=some ys[i]:=C9 hi;refine TR st.1 st.2 hd hf hn (x:=ys[i]) (nx:=sl (i+1)) (λA E Q' q=>hs i s A E Q' st.2 (l6 hi) (by rw[e];exact q)) λh' hit' sb=>?_;exact hQ _ h' s.toks e ⟨hit',(sb.2 a ne).trans st.2⟩ λb o hb e=>(sb.2 b (λz=>hb (E8.mpr z))).trans e
 done:=λs Q E st hQ=>TV hh st.1 st.2 hd hf hn (λA E Q' q=>hs _ s A E Q' st.2 (B2 _) (by rw[O6 (B2 _)];exact q)) λh' k=>hQ h' s.toks λb o hb e=>k b o (λz=>hb (E8.mpr z)) e
 self:=λ_ _ _ _ st hQ=>Nm st.1 hQ
def TZ (hh:A.handled=none){pl:List Nat}(hn:es.size=pl.length)(ne:a≠I)(nt:tp≠I)(hd:o.data=.set es ep t)(hf:t.fits es.size=true)(hps:ps=(pl.map λ(i:Nat)=>rawInt i).toArray)(hpl:∀p∈pl,p<es.size) :
   Walks prog w A I [I,a,tp] [I] pl.length (λi v=>∃p x,pl[i]?=some p/\es[p]?=some x/\v=x.2) (λi h=>O5 h I a (.ref tp) i pl.length ep/\h.get? a=some o/\h.IsTuple tp ps) where
 sub:=λb hb=>by rw[E8.mp hb];exact B8
 frame:=λ_ _ _ st hk=>⟨st.1.at' λo e=>hk I B8 o e,hk a 0o0 o st.2.1,st.2.2.at λo e=>hk tp 0o0 o e⟩
 item:=λi s Q E hi st hQ=>by
  have e:pl[i]?=some pl[i]:=C9 hi;have lt:=hpl _ (G4 e);have ep':ps[i]?=some (.int (pl[i]:Nat) 0):=by rw[hps,List.getElem?_toArray,D4,e];rfl
  have ex:es[pl[i]]?=some es[pl[i]]:=d9 lt;refine TW st.1 st.2.2 st.2.1 hd hf hn ep' (hx:=es[pl[i]].1) (x:=es[pl[i]].2) ex λh' hit' sb=>?_;exact hQ _ h' s.toks ⟨_,_,e,ex,rfl⟩ ⟨hit',(sb.2 a ne).trans st.2.1,st.2.2.at λo e=>(sb.2 tp nt).trans e⟩ λb o hb e=>(sb.2 b (λz=>hb (E8.mpr z))).trans e
 done:=λs Q E st hQ=>TX hh st.1 st.2.2 st.2.1 hd hf hn (by grind) λh' k=>hQ h' s.toks λb o hb e=>k b o (λz=>hb (E8.mpr z)) e
 self:=λ_ _ _ _ st hQ=>Nm st.1 hQ
end
noncomputable def u6 (pl:Array Nat):Nat->Nat
 |0=>0
 |i+1=>pl.getD i 0+1
def T_ {pl:Array Nat}(hr:Rise pl.toList):∀{i:Nat},i<=pl.size->SetTable.below pl (u6 pl i)=i
 | 0, _ => by
  obtain⟨h1,h2,h3⟩:=Dm pl (u6 pl 0) hr;refine Nat.eq_zero_of_not_pos λc=>?_;have lt:0<pl.size:=0x0
  have:=h2 0 pl[0] c (d9 lt);exact Cf _ this
 | i + 1, hi => by
  have lt:i<pl.size:=hi;have e:u6 pl (i+1)=pl[i]+1:=by show pl.getD i 0+1=_;rw[z9,d9 lt];rfl
  obtain⟨h1,h2,h3⟩:=Dm pl (u6 pl (i+1)) hr;rw[e] at h1 h2 h3 ⊢
  have a1:¬SetTable.below pl (pl[i]+1)<=i:=λc=>by
   have:=h3 i pl[i] c (d9 lt);ext
  have a2:¬i+1<SetTable.below pl (pl[i]+1):=λc=>by
   have l2:i+1<pl.size:=0x0
   have:=h2 (i+1) pl[i+1] c (d9 l2);have l2':i+1<pl.toList.length:=by simpa using l2
   have:=Y3.mp hr i (i+1) 0x0 l2' 0x0;simp only[Array.getElem_toList] at this;omega
  ext
def Dn {α β:Type}{f:α->β}:∀{ys:List β} {xs:List α},ys.Perm (xs.map f)->∃zs:List α,zs.Perm xs/\ys=zs.map f:=by
 intro ys xs h;generalize e:xs.map f=l at h
 induction h generalizing xs with
 | nil =>
  have:xs=[]:=by simpa using e
  subst this;exact⟨[],.refl _,rfl⟩
 | @cons b l1 l2 h1 ih =>
  match xs,e with
  | x :: xs, e =>
   rw[J3] at e;injection e with ea eb;obtain⟨zs,z1,z2⟩:=ih eb;exact⟨x::zs,z1.cons x,by rw[z2,J3,ea]⟩
 | swap a b l =>
  match xs,e with
  | x :: y :: xs, e =>
   rw[J3,J3] at e;injection e with ea eb;injection eb with ec ed;exact⟨y::x::xs,List.Perm.swap x y xs,by rw[J3,J3,ea,ec,ed]⟩
 | trans h1 h2 ih1 ih2 =>
  obtain⟨zs,z1,z2⟩:=ih2 e;obtain⟨us,u1,u2⟩:=ih1 z2.symm;exact⟨us,u1.trans z1,u2⟩
noncomputable def dr (es:Array (Int×A3))(t:O1):Bool:=!t.plain&&decide (es.size>1)
structure SetV (w:B9)(h:B3)(a:A1)(o:Obj)(es:Array (Int×A3))(ep:Nat)(t:O1):Prop where
 ho:h.get? a=some o
 ex:o.ExactSet
 hd:o.data=.set es ep t
 fits:t.fits es.size=true
 few:es.size<=127
 led:t.led=!(w.params.followText "set-order")
 rise:dr es t=false->Rise t.place.toList
abbrev vls (es:Array (Int×A3)):List A3:=es.toList.map (·.2)
section
variable {prog:C3}{w:B9}{A:D0}{E:A3->A4->Prop}{s:A4}{a:A1}{ep:Nat}{o:Obj}{es:Array (Int×A3)}{t:O1}
def SetK.toV (S:SetK prog w h a o es ep t xs):SetV w h a o es ep t:=⟨S.ho,S.ex,S.hd,S.fits,by
 have:=S.few;rw[S.sz]
 rcases S.tb.mask with z|z|z <;> rw[z] at this <;> omega,S.led,λ_=>S.tb.rise⟩
def Fo (h:Q (w.params.followText "set-order") s):A5 (A7 prog w) A setsByText Q E s:=A2 (Dz (A9 h))
def Ua (S:SetV w h0 a o es ep t)(ho:s.heap.get? a=some o)(hb:w.params.followText "set-order"=false)(hd:dr es t=false)(hi:i<=es.size)
   (h:Q ((vls es)[i]?.map λx=>(x,u6 t.place (i+1))) s):A5 (A7 prog w) A (setNext a (u6 t.place i) i ep) Q E s:=by
 have sp:t.place.size=es.size:=by
  have:=S.fits;unfold SetTable.fits at this;simp only[P4,beq_iff_eq] at this;exact this.1
 unfold setNext;refine A2 (U1 ho S.hd S.fits ?_);dsimp only;refine A2 (Fo ?_);rw[hb];simp only[K8,↓reduceIte];have e1:(!t.plain&&decide (es.size>1))=false:=hd;show A5 _ _ (if(!t.plain&&decide (es.size>1))=true then _ else _) _ _ _;rw[e1];simp only[K8,↓reduceIte];have el:t.led=true:=by rw[S.led,hb];rfl
 refine A2 (show A5 _ _ (if(!t.led&&!es.isEmpty)=true then _ else _) _ _ _ from ?_);rw[el];simp only[l7,DN,K8,↓reduceIte];refine A9 ?_;rw[T_ (S.rise hd) 0x0];refine A9 ?_;rw[D4,P5] at h;cases ex:es[i]? with
 |none=>rw[ex] at h;exact h
 | some y =>
  rw[ex] at h;have lt:i<t.place.size:=by rw[sp];exact(Array.getElem?_eq_some_iff.mp ex).1
  rw[d9 lt];have:u6 t.place (i+1)=t.place[i]+1:=by show t.place.getD i 0+1=_;rw[z9,d9 lt];rfl
  rw[this] at h;exact h
def Ub (S:SetV w h0 a o es ep t)(ho:s.heap.get? a=some o)(hb:w.params.followText "set-order"=true)
   (h:Q ((vls (pickOrder (w.params.setOrder a ep) es))[i]?.map λx=>(x,0)) s):A5 (A7 prog w) A (setNext a 0 i ep) Q E s:=by
 unfold setNext;refine A2 (U1 ho S.hd S.fits ?_);dsimp only;refine A2 (Fo ?_);rw[hb];simp only[↓reduceIte];rw[ju 0o0];refine A2 (m:=setWalk a) ?_;unfold setWalk;refine A2 (U1 ho S.hd S.fits ?_);dsimp only;refine A2 (Fo ?_);rw[hb];simp only[↓reduceIte];refine A2 (Dz (A9 (A9 ?_)));rw[D4,P5,Option.map_map] at h;exact h
def Uc (hh:A.handled=none)(S:SetV w s.heap a o es ep t)
   (hQ:∀(h':B3) (d:_) (I:A1) (fp:List A1) (ys:List A3) (P:Nat->A3->Prop) (St:Nat->B3->Prop),(∀b o,s.heap.get? b=some o->h'.get? b=some o)->s.heap.objs.size<=I->I<h'.objs.size->(∀b∈fp,b=a\/s.heap.objs.size<=b)->ys.Perm (vls es)->
     (∀i v,P i v->ys[i]?=some v)->Walks prog w A I fp [I] es.size P St->St 0 h'->Q (.ref I) { s with heap:=h',drawn:=d }):A5 (A7 prog w) A (pyIter (.ref a)) Q E s:=by
 have hT:s.TypeIs (.ref a) "set":=⟨o,S.ho,S.ex.1⟩;have la:a<s.heap.objs.size:=C4 S.ho;refine wpAny_pyIter_slot hT F.slot_set_iter (N9 F.slot_set_iter hT TM ?_ (F.args_set_iter_1 _));unfold M7.«frozenset.__iter__» Builtin.Frozenset.slot0 Builtin.Frozenset.sizeOf;refine A2 (A2 (A9 (A9 ?_)));refine A2 (A2 (BS S.ho S.hd S.fits (A9 ?_)));unfold setDrawn;refine A2 (A2 (U1 S.ho S.hd S.fits ?_));dsimp only;refine A2 (Fo (A9 ?_));show A5 _ _ (if(!(w.params.followText "set-order")&&dr es t)=true then _ else _) _ _ _
 by_cases c:(!(w.params.followText "set-order")&&dr es t)=true
 ·rw[jt c];refine A2 (Nl es.size (C2 es.size) _ _ 0o0 λpl d hp=>?_);have lp:pl.length=es.size:=by rw[hp.length_eq,U8]
  have lt:∀p∈pl,p<es.size:=λp h=>J9.mp (hp.mem_iff.mp h);have few:=S.few;refine A2 (wpAny_newTuple ?_ (by rw[O0,B0];ext));have g1:(s.heap.push { cls:=.type "tuple",data:=.seq (pl.map λ(i:Nat)=>rawInt i).toArray }).get? a=some o:=B7 _ S.ho;refine A2 (m:=setEpoch a) (A2 (U1 (s:={ s with drawn:=d,heap:=s.heap.push { cls:=.type "tuple",data:=.seq (pl.map λ(i:Nat)=>rawInt i).toArray } }) g1 S.hd S.fits (A9 ?_)));refine A2 (N7 (A9 ⟨_,rfl,"set_iterator",_,⟨_,E7 _ rfl,rfl⟩,X5.lookup,?_⟩));have sz1:(s.heap.push { cls:=.type "tuple",data:=.seq (pl.map λ(i:Nat)=>rawInt i).toArray }).objs.size=s.heap.objs.size+1:=W3 ..;refine hQ _ d (s.heap.push { cls:=.type "tuple",data:=.seq (pl.map λ(i:Nat)=>rawInt i).toArray }).objs.size [(s.heap.push { cls:=.type "tuple",data:=.seq (pl.map λ(i:Nat)=>rawInt i).toArray }).objs.size,a,s.heap.objs.size] (pl.map λp=>(vls es).getD p .none) _ _ (λb o e=>B7 _ (B7 _ e)) 0o0 (Nat.lt_of_lt_of_eq (Nat.lt_succ_self _) (W3 ..).symm) (λb hb=>?_) ?_ ?_ (lp▸TZ (es:=es) (o:=o) (t:=t) (ep:=ep) (tp:=s.heap.objs.size) (pl:=pl) hh lp.symm (by grind) 0o0 S.hd S.fits rfl lt) ?_
  ·grind
  ·exact(Nh (vls es) pl .none (by grind)).2
  ·grind
  ·refine⟨⟨_,E7 _ rfl,rfl,?_⟩,B7 _ g1,⟨_,B7 _ (E7 _ rfl),rfl,0,rfl⟩⟩;show Bj _=Bj _
   first|rfl|(rw[lp];rfl)
 ·rw[ju c];refine A2 (A9 ?_);refine A2 (m:=setEpoch a) (A2 (U1 S.ho S.hd S.fits (A9 ?_)));refine A2 (N7 (A9 ⟨_,rfl,"set_iterator",_,⟨_,E7 _ rfl,rfl⟩,X5.lookup,?_⟩))
  have go:∀(ys:List A3) (sl:Nat->Nat),sl 0=0->ys.Perm (vls es)->(∀(i:Nat) (s:A4) (A:D0) (E:A3->A4->Prop) (Q':Option (A3×Nat)->A4->Prop),s.heap.get? a=some o->i<=ys.length->Q' (ys[i]?.map λx=>(x,sl (i+1))) s->A5 (A7 prog w) A (setNext a (sl i) i ep) Q' E s)->Q (.ref s.heap.objs.size) { s with heap:=s.heap.push { cls:=.type "set_iterator",data:=.fields #[rawInt 0,rawInt 0,.ref a,rawInt es.size,rawInt ep] } }:=by
   intro ys sl h0 pm hs;have lp:ys.length=es.size:=by rw[pm.length_eq,B0,M3]
   refine hQ _ s.drawn s.heap.objs.size [s.heap.objs.size,a] ys (λi v=>ys[i]?=some v) _ (λb o e=>B7 _ e) (B2 _) 0o0 (λb hb=>?_) pm (λ_ _ e=>e) (lp▸TY (es:=es) (o:=o) (t:=t) (ep:=ep) (ys:=ys) (sl:=sl) hh lp.symm (E6 la) S.hd S.fits hs) ?_
   ·grind
   ·refine⟨⟨_,E7 _ rfl,rfl,?_⟩,B7 _ S.ho⟩;show Bj _=Bj _;rw[h0]
    rfl
  by_cases cb:w.params.followText "set-order"=true
  ·exact go (vls (pickOrder (w.params.setOrder a ep) es)) (λ_=>0) rfl ((TQ (w.params.setOrder a ep) es).map _) λi s' A E Q' e hi q=>Ub S e cb q
  ·have cb':w.params.followText "set-order"=false:=by simpa using cb
   have cd:dr es t=false:=by
    rw[cb'] at c
    simpa using c
   exact go (vls es) (u6 t.place) rfl (.refl _) λi s' A E Q' e hi q=>Ua S e cb' cd (by grind) q
end
end SeT
end
section
namespace SeT
open PySem PySem.W PySem.Spec PyProof.Rows L2
section
variable {prog:C3}{w:B9}{A:D0}{E:A3->A4->Prop}{s:A4}{a:A1}{ep:Nat}{o:Obj}{es:Array (Int×A3)}{t:O1}
def Ud (hT:s.TypeIs (.ref r) "set")(h:Q false s):A5 (A7 prog w) A (JW (.ref r)) Q E s:=by
 unfold JW;refine A2 (BU hT PySem.F.slot_set_len.lookup ?_);generalize hid:("set.__len__":String)=id0
 wp_delta
 rw[show splitId id0=some ("set","__len__") from by subst hid;decide +kernel];subst hid;refine A2 (DA (T:="set") (b:=true) hT (by rw[j7];kernel_rfl) ?_);refine wpAny_ite_split (λz=>absurd z 0b0) λ_=>?_;refine wpAny_ite_split (λ_=>A2 (k6 hT (A9 h))) λz=>absurd (by decide +kernel) z
def Ue (S:SetV w s.heap a o es ep t)(hh:A.handled=none)(L:A1)(ne:L≠a)(res:A3)(c₀:Nat)(hL:s.heap.get? L=some { cls:=.type "list",data:=.seq #[] c₀ })
   (hR:∀h' d tk c' (ys:List A3),(∀b o,b≠L->s.heap.get? b=some o->h'.get? b=some o)->h'.get? L=some { cls:=.type "list",dict:=none,data:=.seq ys.toArray c',slots:=#[] }->ys.Perm (vls es)->R (.ok (.ret res)) { s with heap:=h',drawn:=d,toks:=tk }) :
   A5 (A7 prog w) A.in1 (JX (.ref L) (.ref a) res)
     (λfin s'=>match fin with|.done f=>R (.ok f) s'|.again c'=>c'.quiet=true/\M1 (A7 prog w) A c' R s') (λe s'=>R (.error e) s') s:=by
 have hT:s.TypeIs (.ref a) "set":=⟨o,S.ho,S.ex.1⟩;have lL:L<s.heap.objs.size:=C4 hL
 have few:es.size<=B4:=by
  have:=S.few;rw[O0];ext
 unfold JX;refine A2 (k6 (T:="set") hT ?_);have h1:Builtin.List.listSameRef (.ref L) (.ref a)=false:=by simp[Builtin.List.listSameRef,ne]
 have h2:(G9 "set" == G9 "list")=false:=0b0
 have h3:(G9 "set" == G9 "tuple")=false:=0b0
 simp only[h1,h2,h3,AY,K8,if_false];refine A2 (Uc (A:=A.in1) hh S λh1 d I fp ys P St k1 hI hI2 hfp pm hP W st=>?_);have nI:L≠I:=E6 (M2 lL hI);have nf:L∉fp:=λz=>(hfp L z).elim ne λz=>absurd lL (Nat.not_lt.mpr z);have hL1:=k1 _ _ hL
 have key:∀(h:B3) (c₁ tk:Nat),St 0 h->(∀b o,b≠L->s.heap.get? b=some o->h.get? b=some o)->
     h.get? L=some { cls:=.type "list",data:=.seq #[] c₁ }->M1 (A7 prog w) A (.builtin "list.extend.loop" ⟨[.ref L,.ref I,res],[]⟩) R { s with heap:=h,drawn:=d,toks:=tk }:=by
   intro h c₁ tk hst hk hS₁;refine codeAny_extend_loopS W.toS few L nf res es.size 0 _ #[] c₁ rfl (F7 _) hst hS₁ (ItemsOf.nil _) λs' acc' c' hm hS' hacc=>?_;rw[Moved.eq_with hm]
   have ea:acc'=ys.toArray:=by
    apply Array.toList_inj.mp
    rw[Gn]
    apply Cb
    intro i;rw[P5];cases e:acc'[i]? with
    | none =>
     apply Eq.symm
     rw[List.getElem?_eq_none_iff,pm.length_eq,B0,M3];have:=Array.getElem?_eq_none_iff.mp e;rw[hacc.1] at this;exact this
    |some v=>exact(hP i v (hacc.2 i v e)).symm
   refine hR s'.heap d s'.toks c' ys (λb o hb e=>hm.heap b o (λhmem=>?_) (hk b o hb e)) (by grind) pm;rcases B5.mp hmem with e'|hmem
   ·grind
   ·exact absurd (C4 e) (by grind)
 refine A2 (K5 (Ud (s:={ s with heap:=h1,drawn:=d }) ⟨o,k1 _ _ S.ho,S.ex.1⟩ ?_));refine wpAny_ite_split (λ_=>?_) (λ_=>A9 ⟨k5 PySem.F.plain_extend_loop _,key _ c₀ _ st (λb o _ e=>k1 b o e) hL1⟩);refine A2 (X8 ?_);refine A2 (show A5 (A7 prog w) _ (updateSeq L (·.push .none)>>=λ_=>updateSeq L (·.pop)) _ _ _ from ?_);refine A2 (wpAny_updateSeq hL1 rfl ?_);have hS₂:=AN (P6 (·.push Q6)) hL1 rfl;refine wpAny_updateSeq (hz:=by seq_fits) hS₂ rfl ?_;have hS₃:=AN (P6 (·.pop)) hS₂ rfl;refine A9 ⟨k5 PySem.F.plain_extend_loop _,key _ _ _ ?_ (λb o hb e=>?_) hS₃⟩
 ·refine W.frame 0 _ _ st λb hb o e=>?_;have hbS:b≠L:=λh=>nf (h▸hb);exact(AM _ _ (Ne.symm hbS)).trans ((AM _ _ (Ne.symm hbS)).trans e)
 ·exact(AM _ _ (Ne.symm hb)).trans ((AM _ _ (Ne.symm hb)).trans (k1 b o e))
def Uf (S:SetV w s.heap a o es ep t)(hh:A.handled=none)
   (h:∀(h':B3) (d:_) (tk:Nat) (ys:List A3),(∀b o,s.heap.get? b=some o->h'.get? b=some o)->s.heap.objs.size<=h'.objs.size->ys.Perm (vls es)->R ys { s with heap:=h',drawn:=d,toks:=tk }) :
   A5 (A7 prog w) A (collect (.ref a)) R E s:=by
 unfold collect;refine A2 (wpAny_runValue (Z9 entry_proto_collect' ?_));rw[o6 PySem.F.plain_proto_collect _];refine(show A5 (A7 prog w) A.in1 (newList []>>=λl=>again (.builtin "list.__iadd__" ⟨[l,.ref a],[]⟩)) _ _ s from ?_);refine A2 (N7 (A9 ⟨k5 PySem.F.plain_list_iadd _,Z9 entry_list_iadd' ?_⟩));rw[o6 PySem.F.plain_list_iadd _];have hS:(s.heap.push { cls:=.type "list",data:=.seq ([]:List A3).toArray }).get? s.heap.objs.size=some { cls:=.type "list",data:=.seq #[] }:=E7 _ rfl;have S1:SetV w (s.heap.push { cls:=.type "list",data:=.seq ([]:List A3).toArray }) a o es ep t:=⟨B7 _ S.ho,S.ex,S.hd,S.fits,S.few,S.led,S.rise⟩
 have key:=Ue (prog:=prog) (A:=A) (s:={ s with heap:=s.heap.push { cls:=.type "list",data:=.seq ([]:List A3).toArray } })
   (R:=λ(q:Result) (s':A4)=>∃(h':B3) (d:_) (tk:Nat) (ys:List A3) (c:Nat),q=.ok (.ret (.ref s.heap.objs.size))/\s'={ s with heap:=h',drawn:=d,toks:=tk }/\
     (∀b o,s.heap.get? b=some o->h'.get? b=some o)/\h'.get? s.heap.objs.size=some { cls:=.type "list",dict:=none,data:=.seq ys.toArray c,slots:=#[] }/\ys.Perm (vls es))
   S1 hh s.heap.objs.size (y9 (C4 S.ho)) (.ref s.heap.objs.size) 0 hS
   (λh' d tk c ys hk hS' hp=>⟨h',d,tk,ys,c,rfl,rfl,λb o e=>hk b o (E6 (C4 e)) (B7 _ e),hS',hp⟩)
 refine G5 key (λfin s' x=>?_) λe s' x=>?_
 ·cases fin with
  | done f =>
   obtain⟨h',d,tk,ys,c,e,rfl,hk,hS',hp⟩:=x;cases e;refine A2 (wpAny_load hS' (A9 ?_));have:=h h' d tk ys hk (l6 (C4 hS')) hp
   simpa using this
  | again c₁ =>
   refine⟨x.1,w9 x.2 λq s₂ y=>?_⟩;obtain⟨h',d,tk,ys,c,rfl,rfl,hk,hS',hp⟩:=y;refine A2 (wpAny_load hS' (A9 ?_));have:=h h' d tk ys hk (l6 (C4 hS')) hp
   simpa using this
 grind
end
abbrev rfs (ys:List (List Key×A1)):List A3:=ys.map λy=>K2 y.2
abbrev kks (ys:List (List Key×A1)):List (List Key):=ys.map (·.1)
section
variable {prog:C3}{w:B9}{A:D0}{E:A3->A4->Prop}{s:A4}{a:A1}{ep:Nat}{o:Obj}{es:Array (Int×A3)}{t:O1}
def Ug {α:Type}{m:Nat}{Q:A3->A4->Prop}(S:SetV w s.heap a o es ep t)(hh:A.handled=none)(xs:List α)(f:α->A3)(g:α->List Key)(ev:vls es=xs.map f)(h64:xs.length<64)(pk:∀x∈xs,Kv1 s.heap m (f x) (g x))(al:u3 (xs.map g))
   (h:∀ys h2 d tk D e,List.Perm ys xs->(∀b o,s.heap.get? b=some o->h2.get? b=some o)->s.heap.objs.size<=D->h2.get? D=some (seqObj "list" (Q9 (ltIx (ys.map g)) (ys.map f)).toArray e)->Q (.ref D) { s with heap:=h2,drawn:=d,toks:=tk }) :
   A5 (A7 prog w) A (call (.builtin "sorted") [.ref a]) Q E s:=by
 refine Calls.call_function_entry kind_sorted plain_sorted entry_sorted (args_sorted1 _) ?_;unfold M7.«sorted»;refine A2 (m:=checkCount "sorted" 1 1 _) (A9 ?_);refine A2 (Uf (A:=A.in1) S hh λh1 d tk vs k1 z1 pv=>?_);rw[ev] at pv;obtain⟨ys,pm,rfl⟩:=Dn pv;have ly:=pm.length_eq;refine A2 (wpAny_newList ?_ (by rw[O0,B0];omega));have hoL:(h1.push (seqObj "list" (ys.map f).toArray 0)).get? h1.objs.size=some (seqObj "list" (ys.map f).toArray 0):=E7 _ rfl;have kL:∀b o,s.heap.get? b=some o->(h1.push (seqObj "list" (ys.map f).toArray 0)).get? b=some o:=λb o e=>B7 _ (k1 b o e);have ne:∀b o,s.heap.get? b=some o->b≠h1.objs.size:=λb o e=>E6 (M2 (C4 e) z1)
 have pk1:Paired (Kv1 s.heap m) (ys.map f) (ys.map g):=by
  have hy:∀y∈ys,Kv1 s.heap m (f y) (g y):=λy hy=>pk y (pm.mem_iff.mp hy);clear hoL kL pm ly pv
  induction ys with
  |nil=>exact .nil
  |cons y ys ih=>exact .cons (hy y B8) (ih λz hz=>hy z (B6 _ hz))
 have al1:u3 (ys.map g):=λx hx y hy=>al x ((pm.map g).mem_iff.mp hx) y ((pm.map g).mem_iff.mp hy);refine A2 (K5 (N9 slot_list_sort ⟨_,hoL,rfl⟩ entry_list_sort ?body (args_list_sort _)))
 case body=>
  refine Mp (lt:=ltIx (ys.map g)) (s:={ s with heap:=h1.push (seqObj "list" (ys.map f).toArray 0),drawn:=d,toks:=tk }) hoL (by grind) (λl2 h3 k3=>?_) λh3 e k3 e3=>?_
  ·exact Mt (s:={ s with drawn:=d }) l2 pk1 al1 _ _ h3 tk λb o x=>k3 b o (ne b o x) (kL b o x)
  ·exact⟨_,rfl,A9 ⟨_,rfl,h ys h3 d tk _ e pm (λb o x=>k3 b o (ne b o x) (kL b o x)) z1 e3⟩⟩
end
def Uh (h:us.length<64):(outV (ltIx jp) us).length<=B4:=by
 rw[O0];unfold outV
 split
 ·ext
 ·rw[B0,M3,(Kr.sort_ok (ER jp) 0x0).2.1];ext
def items_are {prog:C3}{w:B9}:∀{ks:List Key} {vs:List A3},q8 ks vs->ItemsAre (F8 prog w) ks vs:=by
 intro ks vs h
 induction h with
 |nil=>exact .nil
 | @cons k v ks vs h1 _ ih =>
  refine .cons ?_ ih
  match k,h1 with
  |.inl i,⟨t,e⟩=>subst e;exact JZ _ _ _ _
  |.inr z,⟨t,e⟩=>subst e;exact Gx _ _ _ _
def is_of (x:TupK h (.ref r) k):(TK prog w).is h k r:=by
 obtain⟨a,o,items,n,e,ho,hc,hd,hk⟩:=x;cases e;exact⟨o,items,n,ho,hc,hd,items_are hk⟩
section
variable {X:Cx}
def SetO (X:Cx)(p:A1)(rs:List (List Key×A1)):HO:=.ext λh=>∃h0 o es ep t xs,SetK X.prog X.w h0 p o es ep t xs/\h.get? p=some o/\(∀x∈xs,x∈rs)/\∀x∈rs,x.1∈kks xs
def Ui {K:A8}(p:Paired (KM K H 2) ys jp):∃rs:List (List Key×A1),kks rs=jp/\(rs.map λy=>V.ref y.2)=ys/\∀y∈rs,SqT K H y.2 (y.1.map kV)/\y.1≠[]:=by
 induction p with
 |nil=>exact⟨[],rfl,rfl,λ_ z=>nomatch z⟩
 | cons h1 _ ih =>
  obtain⟨rs,e1,e2,e3⟩:=ih;obtain⟨a,rfl,hq,hne⟩:=h1;refine⟨(_,a)::rs,by rw[<- e1];rfl,by rw[<- e2];rfl,λy hy=>?_⟩;rcases B5.mp hy with rfl|hy
  ·grind
  ·grind
theorem Io:∀(rs:List (List Key×A1)) {jf:List A3},Vals (rs.map λy=>V.ref y.2) jf->jf=rfs rs
 |[],_,h=>by cases h;rfl
 | y :: rs, _, h => by
  cases h with
  |cons h1 h2=>rw[Io rs h2,show _=K2 y.2 from h1];rfl
def Uj (hc:X.calm=true)(hu:X.A.units+64<cLine):K3 X (.type "set") (λvs H Q=>∃a ys jp,vs=[.ref a]/\(SqL X.K H a ys\/SqT X.K H a ys)/\Paired (KM X.K H 2) ys jp/\ys.length<=63/\
   ∀p rs,H p=none->kks rs=jp->(rs.map λy=>V.ref y.2)=ys->(∀y∈rs,SqT X.K H y.2 (y.1.map kV)/\y.1≠[])->Q (.ref p) (upd H p (SetO X p rs))):=by
 intro jb s σ H vs us Q I rv h;obtain⟨a,ys,jp,rfl,hq,hp,hl,q⟩:=h;obtain⟨u,rfl,ru⟩:=rv.one;obtain rfl:u=.ref a:=ru;obtain⟨rs,e1,rfl,e3⟩:=Ui hp;have hk:∀y∈rs,(TK X.prog X.w).is s.heap y.1 y.2:=λy hy=>is_of (HM I (e3 y hy).1);rw[B0] at hl
 have fin:∀(h':B3) (tk:Nat),Holds X.prog X.w h' s.heap.objs.size rs->(∀b o,b<s.heap.objs.size->s.heap.get? b=some o->h'.get? b=some o)->EP X jb σ Q (.ref s.heap.objs.size) { s with heap:=h',toks:=tk }:=λh' tk so kp=>by
  obtain⟨o,es,ep,t,xs,S1,S2,S3⟩:=so
  have I1:Inv X jb σ (upd H s.heap.objs.size (SetO X s.heap.objs.size rs)) { s with heap:=h',toks:=tk }:=
   I.laid (fun b o e=>kp b o (C4 e) e) (B2 _) ⟨⟨h',o,es,ep,t,xs,S1,S1.ho,S2,S3⟩,⟨o,S1.ho⟩,fun h1 h2 x k2=>by
    obtain⟨h0,o,es,ep,t,xs,S1,g,S2,S3⟩:=x
    exact⟨h0,o,es,ep,t,xs,S1,k2 o g,S2,S3⟩⟩
  exact⟨.ref s.heap.objs.size,_,I1,rfl,q _ rs (I.hok.fresh (B2 _)) e1 rfl e3⟩
 rcases hq with hq|hq
 ·obtain⟨jf,r,pl,_⟩:=I.list hq;refine Ni (rs:=rs) (I.ok.hd hc) hu (.inl pl.isList) ?_ hk hl fin;rw[Gn];exact Io rs r
 ·obtain⟨jf,r,ht,_⟩:=I.tuple hq;refine Ni (rs:=rs) (I.ok.hd hc) hu (.inr ht) ?_ hk hl fin;rw[Gn];exact Io rs r
def inv_dr (I:Inv X jb σ H s)(d:_):Inv X jb σ H { s with drawn:=d }:=⟨I.ok,I.os,I.bare,I.base,I.loc,I.cell,I.free,I.freeC,I.pin,I.hok,I.len⟩
def Uk (hc:X.calm=true):K3 X (.builtin "sorted") (λvs H Q=>∃p rs,vs=[.ref p]/\H p=some (SetO X p rs)/\rs.length<64/\(∀y∈rs,SqT X.K H y.2 (y.1.map kV)/\y.1≠[])/\u3 (kks rs)/\
   ∀l zs,H l=none->(kks zs).Nodup->(∀z∈zs,z∈rs)->(∀y∈rs,y.1∈kks zs)->Q (.ref l) (upd H l (.lst (outV (ltIx (kks zs)) (zs.map λz=>V.ref z.2))))):=by
 intro jb s σ H vs us Q I rv h;obtain⟨p,rs,rfl,e,h64,hk,al,q⟩:=h;obtain⟨u,rfl,ru⟩:=rv.one;obtain rfl:u=.ref p:=ru;obtain⟨⟨h0,o,es,ep,t,xs,S0,g,S2,S3⟩,_,_⟩:=I.hok p _ e;have tk:∀x∈xs,TupK s.heap (.ref x.2) x.1:=λx hx=>HM I (hk x (S2 x hx)).1;have S:SetK X.prog X.w s.heap p o es ep t xs:=⟨g,S0.ex,S0.hd,S0.hes,(λx hx=>is_of (tk x hx)),S0.nd,S0.tb,S0.few,S0.led⟩;have lx:xs.length<64:=y4 (Holds.len S S2) h64;refine Ug (m:=2) S.toV (I.ok.hd hc) xs (λx=>K2 x.2) (·.1) (by unfold vls;rw[S.hes,R9];rfl) lx (λx hx=>⟨tk x hx,(hk x (S2 x hx)).2⟩) (λx hx y hy=>?_) λys h2 d t2 D e pm k hD ho=>?_
 ·obtain⟨x',hx',rfl⟩:=D2.mp hx;obtain⟨y',hy',rfl⟩:=D2.mp hy;exact al _ (D2.mpr ⟨x',S2 x' hx',rfl⟩) _ (D2.mpr ⟨y',S2 y' hy',rfl⟩)
 ·have vv:Vals (ys.map λy=>V.ref y.2) (rfs ys):=by
   clear pm ho
   induction ys with
   |nil=>exact .nil
   |cons y ys ih=>exact .cons rfl ih
  have vo:=Mu vv (ER (kks ys));have ly:ys.length=xs.length:=pm.length_eq;have hlo:(outV (ltIx (kks ys)) (ys.map λy=>V.ref y.2)).length<=B4:=Uh (by grind);have I1:=inv_dr (I.laid (t':=t2) k hD (show F9 X.prog X.w _ h2 _ (.lst _) from⟨hlo,_,e,vo,ho⟩)) d;exact⟨.ref D,_,I1,rfl,q _ ys (I.hok.fresh hD) ((pm.map (·.1)).nodup_iff.mpr S.nd) (λz hz=>S2 z (pm.mem_iff.mp hz)) λy hy=>(pm.map (·.1)).mem_iff.mpr (S3 y hy)⟩
end
section
variable {X:Cx}
def tMo (t:TE):TE:=λσ H Q=>∃Q',t σ H Q'/\∀v H',Q' v H'->Q v H'
def pe_mo (h:PE X e t):PE X e (tMo t):=by
 intro jb s σ H Q I ⟨Q',h1,h2⟩;exact G5 (h jb s σ H Q' I h1) (λu s' ⟨v,H',I',r,q⟩=>⟨v,H',I',r,h2 _ _ q⟩) λ_ _ e=>e
def Ul (K:A8)(t:TE):TE:=λσ H Q=>∃Q',t σ H Q'/\∀x H1,Q' x H1->∃a ys jp,x=.ref a/\(SqL K H1 a ys\/SqT K H1 a ys)/\Paired (KM K H1 2) ys jp/\ys.length<=63/\u3 jp/\
 ∀H2 l rs zs,Same H1 H2->H2 l=none->kks rs=jp->(rs.map λy=>V.ref y.2)=ys->(kks zs).Nodup->(∀z∈zs,z∈rs)->(∀y∈rs,y.1∈kks zs)->Q (.ref l) (upd H2 l (.lst (outV (ltIx (kks zs)) (zs.map λz=>V.ref z.2))))
def Um {K:A8}(h:SqT K H a xs)(s:Same H H'):SqT K H' a xs:=by
 rcases h with h|h
 ·left;rcases h with h|⟨o,h⟩
  ·exact .inl (s _ _ h)
  ·exact .inr ⟨o,s _ _ h⟩
 ·exact .inr h
def Uo (hc:X.calm=true)(hr:Room k X.A)(g1:Gl X "sorted")(m1:X.mg "sorted"=none)(g2:Gl X "set")(m2:X.mg "set"=none)(he:PE X e t)(hs:D6 [e] X.env=(false,eval e X.env)::D6 [] X.env) :
   PE X (.Call (.Name "sorted" p1) [.Call (.Name "set" p2) [e] [] pos2] [] pos) (Ul X.K t):=by
 have i1:=Bq (p:=p2) (pos:=pos2) (Uj hc hr.units) g2 m2 KQ (E3 (pe_mo he) G0 hs) 0b0 0b0 hs rfl;have i2:=g9 (p:=p1) (pos:=pos) (Uk hc) g1 m1 KP (E3 i1 G0 rfl) 0b0 0b0 rfl rfl;intro jb s σ H Q I ⟨Q',h1,h2⟩;refine i2 jb s σ H Q I ⟨Q',h1,λx H1 hx=>?_⟩;obtain⟨a,ys,jp,rfl,hq,hp,hl,al,q⟩:=h2 x H1 hx;refine⟨a,ys,jp,rfl,hq,hp,hl,λp rs hn ek eu hk=>?_⟩;have sm:Same H1 (upd H1 p (SetO X p rs)):=(Same.refl _).lay hn;refine⟨p,rs,rfl,D9,?_,λy hy=>⟨Um (hk y hy).1 sm,(hk y hy).2⟩,by rw[ek];exact al,λl zs hl nd z1 z2=>q _ l rs zs sm hl ek eu nd z1 z2⟩;have:rs.length=ys.length:=by rw[<- eu,B0]
 ext
end
end SeT
namespace Pu
open PySem PySem.Spec L2
def SetOk (xs:List PV):Prop:=(∀x∈xs,∃ks,x=.tup (ks.map kP)/\ks≠[])/\∀x∈xs,∀y∈xs,Al (keyP x) (keyP y)
def SrtS (ys xs:List PV):Prop:=ys.Nodup/\(∀y,y∈ys↔y∈xs)/\ys.Pairwise λa b=>lexK (keyP b) (keyP a)=false
def wSet (R:List PV->Prop)(xs:List PV):Prop:=xs.length<=63/\SetOk xs/\∀ys,SrtS ys xs->R ys
def Ip (pe:pE):pA:=λenv n R=>pe env n λx jc n1=>match x with|.lst xs=>wSet (λys=>R ys jc n1) xs|.tup xs=>wSet (λys=>R ys jc n1) xs|_=>False
abbrev zP (z:List Key×A1):PV:=.tup (z.1.map kP)
def keyP_z (z:List Key×A1):keyP (zP z)=z.1:=R0 z.1
def zP_inj {ks js:List Key}(h:(PV.tup (ks.map kP))=.tup (js.map kP)):ks=js:=by rw[<- R0 ks,h,R0]
section
variable {T:PotK}{ι:Type}{K:A8}{F:ι->Cx}{e:Expr}{pe:pE}{pos:Pos}
theorem No:∀{xs:List PV} {rs:List (List Key×A1)},Reps K G H xs (rs.map λy=>V.ref y.2)->SeT.kks rs=xs.map keyP->(∀x∈xs,∃ks,x=.tup (ks.map kP)/\ks≠[])->xs=rs.map zP/\∀z∈rs,Rep K G H (zP z) (.ref z.2)
 |[],[],_,_,_=>⟨rfl,λ_ z=>nomatch z⟩
 |[],_::_,h,_,_=>by cases h
 | x :: xs, [], h, _, _ => by
  obtain⟨_,_,e,_⟩:=h;cases e
 | x :: xs, r :: rs, h, hk, hx => by
  obtain⟨v,t,e,h1,h2⟩:=h;rw[J3] at e;injection e with e1 e2;subst e1;subst e2;have hk':r.1::SeT.kks rs=keyP x::xs.map keyP:=hk;injection hk' with k1 k2;obtain⟨a1,a2⟩:=No h2 k2 λy hy=>hx y (B6 _ hy);obtain⟨ks,rfl,_⟩:=hx x B8;rw[R0] at k1;have ez:zP r=.tup (ks.map kP):=by show PV.tup (r.1.map kP)=_;rw[k1]
  refine⟨by rw[J3,ez,<- a1],λz hz=>?_⟩;rcases B5.mp hz with rfl|hz
  ·rw[ez];exact h1
  ·exact a2 z hz
theorem Np {G:Gh}{H:Hp}:∀(zs:List (List Key×A1)),(∀z∈zs,Rep K G H (zP z) (.ref z.2))->Reps K G H (zs.map zP) (zs.map λz=>V.ref z.2)
 |[],_=>rfl
 |z::zs,h=>⟨_,_,rfl,h z B8,Np zs λy hy=>h y (B6 _ hy)⟩
def SrtS.of {rs:List (List Key×A1)}(e:xs=rs.map zP)(nd:(SeT.kks zs).Nodup)(h1:∀z∈zs,z∈rs)(h2:∀y∈rs,y.1∈SeT.kks zs):SrtS (outP (zs.map zP)) xs:=by
 obtain⟨p,pw⟩:=EX (zs.map zP);refine⟨p.nodup_iff.mpr ?_,λy=>?_,pw⟩
 ·rw[List.Nodup,c6];have:zs.Pairwise λa b=>a.1≠b.1:=c6.mp nd;exact this.imp λhab h=>hab (zP_inj h)
 grind
def Up (hc:∀z,(F z).calm=true)(hr:∀z,Room k (F z).A)(hg:∀z,Gl (F z) "sorted")(hm:∀z,(F z).mg "sorted"=none)(hg2:∀z,Gl (F z) "set")(hm2:∀z,(F z).mg "set"=none)(ha:QR T K F e pe)(hs:D8 e=true)(hK:∀z,(F z).K=K) :
   QN T K F (.Call (.Name "sorted" p) [.Call (.Name "set" p2) [e] [] pos2] [] pos) (Ip pe):=by
 obtain⟨t,h1,h2⟩:=ha;refine⟨_,λz=>hK z▸SeT.Uo (hc z) (hr z) (hg z) (hm z) (hg2 z) (hm2 z) (h1 z) (C5 hs),⇑?_⟩;refine⟨λv H1=>∃x jc n1,(match x with|PV.lst xs=>wSet (λys=>R ys jc n1) xs|.tup xs=>wSet (λys=>R ys jc n1) xs|_=>False)/\SR C G σ H1 jc n1/\RdS C G σ H1 jc x v/\Fr G H H1,↥h2 λx jc n1 v H1 p1 S1 r1 f1=>⟨x,jc,n1,p1,S1,r1,f1⟩,λv H1 ⟨x,jc,n1,p1,S1,r1,f1⟩=>?_⟩;have rd:RdV K G H1 x v:=hK▸r1.rd S1
 have main:∀(xs:List PV) (a:A1) (us:List V),wSet (λys=>R ys jc n1) xs->(SqL K H1 a us\/SqT K H1 a us)->Reps K G H1 xs us->∃a' ys jp,V.ref a=.ref a'/\(SqL K H1 a' ys\/SqT K H1 a' ys)/\Paired (KM K H1 2) ys jp/\ys.length<=63/\u3 jp/\
     ∀H2 l rs zs,Same H1 H2->H2 l=none->SeT.kks rs=jp->(rs.map λy=>V.ref y.2)=ys->(SeT.kks zs).Nodup->(∀z∈zs,z∈rs)->(∀y∈rs,y.1∈SeT.kks zs)->Q (.ref l) (upd H2 l (.lst (outV (ltIx (SeT.kks zs)) (zs.map λz=>V.ref z.2)))):=by
   intro xs a us ⟨h63,ok,q⟩ hq r;obtain⟨m,pk,al⟩:=km_of r (.inr (.inr ok))
   have pk2:Paired (KM K H1 2) us (xs.map keyP):=Paired.imp' (λv ks ⟨_,_,hp⟩=>hp) (Dc (P:=λ_ v ks=>KM K H1 2 v ks) xs r λx hx v hv=>by
    obtain⟨ks,rfl,hne⟩:=ok.1 x hx;obtain⟨a,vs,rfl,at',rr⟩:=hv;rw[R0];refine⟨a,rfl,?_,hne⟩;rw[ET ks rr] at at'
    exact SqT.of at'.2)
   refine⟨a,us,xs.map keyP,rfl,hq,pk2,by rw[<- r.length];exact h63,al,λH2 l rs zs sm hl ek eu nd z1 z2=>?_⟩;subst eu;obtain⟨ex,rz⟩:=No r ek ok.1;have rr:Reps K G H2 (zs.map zP) (zs.map λz=>V.ref z.2):=(Np zs λz hz=>rz z (z1 z hz)).same sm;have ro:=Mw rr;have ekz:(zs.map zP).map keyP=SeT.kks zs:=by rw[R9];exact List.map_congr_left λz _=>keyP_z z
   rw[ekz] at ro;exact k _ _ _ _ _ _ (q _ (SrtS.of ex nd z1 z2)) (S1.same sm) (f1.trans (Fr.of sm)) hl ro
 cases x with
 | lst xs =>
  obtain⟨a,us,rfl,hq,r⟩:=rd.lst;exact main xs a us p1 (.inl hq) r
 | tup xs =>
  obtain⟨a,us,rfl,hq,r⟩:=rd.tup;exact main xs a us p1 (.inr hq) r
 |_=>exact p1.elim
end
end Pu
end
section
namespace L2
open PySem PySem.Spec PyProof.Rows
section
variable {X:Cx}
def Uq (hc:X.calm=true):K3 X (.type "set") (λvs H Q=>∃(a:A1) (ys:List Str),vs=[.ref a]/\SqL X.K H a (ys.map V.str)/\ys.length<=1000/\∀p,H p=none->Q (.ref p) (upd H p (SetX X p (λq=>(met (K4 ys) ys.length).any (λy=>decide (y=q))) (met (K4 ys) ys.length).length))):=by
 intro jb s σ H vs us Q I rv h;obtain⟨a,ys,rfl,hq,hl,k⟩:=h;obtain⟨u,rfl,ru⟩:=rv.one;obtain rfl:u=.ref a:=ru;obtain⟨jf,r,ht,_⟩:=I.list hq;have sz:jf.toArray.size=ys.length:=by have:=r.length;rw[B0] at this;simpa using this.symm
 refine Rv (val:=K4 ys) (I.ok.hd hc) (.inl ht.isList) (λi v e=>?_) (by rw[sz];unfold scanBound;ext) λh' tk so kp=>?_
 ·obtain⟨t,rfl⟩:=Rw r (by simpa using e);exact⟨Gx _ _ _ _,rfl⟩
 ·rw[sz] at so
  have I1:Inv X jb σ (upd H s.heap.objs.size (SetX X s.heap.objs.size (λq=>(met (K4 ys) ys.length).any (λy=>decide (y=q))) (met (K4 ys) ys.length).length)) { s with heap:=h',toks:=tk }:=
   I.laid (fun b o e=>kp b o (C4 e) e) (B2 _) ⟨so,by obtain⟨o,_,_,_,e,_⟩:=so;exact⟨o,e⟩,fun h1 h2 x k2=>by
    obtain⟨o,es,ep,t,e,more⟩:=x
    exact⟨o,es,ep,t,k2 o e,more⟩⟩
  exact⟨.ref s.heap.objs.size,_,I1,rfl,k _ (I.hok.fresh (B2 _))⟩
def Ur (K:A8)(t:TE):TE:=λσ H Q=>∃Q',t σ H Q'/\∀x H1,Q' x H1->∃(a:A1) (ys:List Str),x=.ref a/\SqL K H1 a (ys.map V.str)/\ys.length<=1000/\∀H2,Same H1 H2->Q (.int (met (K4 ys) ys.length).length) H2
def Us {e:Expr}{t:TE}{p1 p2 pos pos2:Pos}(hc:X.calm=true)(g1:Gl X "len")(m1:X.mg "len"=none)(g2:Gl X "set")(m2:X.mg "set"=none)(he:PE X e t)(hs:D6 [e] X.env=(false,eval e X.env)::D6 [] X.env) :
   PE X (.Call (.Name "len" p1) [.Call (.Name "set" p2) [e] [] pos2] [] pos) (Ur X.K t):=by
 have i1:=Bq (p:=p2) (pos:=pos2) (Uq hc) g2 m2 KQ (E3 (SeT.pe_mo he) G0 hs) 0b0 0b0 hs rfl;have i2:=g9 (p:=p1) (pos:=pos) Rx g1 m1 Ei (E3 i1 G0 rfl) 0b0 0b0 rfl rfl;intro jb s σ H Q I ⟨Q',h1,h2⟩;refine i2 jb s σ H Q I ⟨Q',h1,λx H1 hx=>?_⟩;obtain⟨a,ys,rfl,hq,hl,k⟩:=h2 x H1 hx;exact⟨a,ys,rfl,hq,hl,λp hn=>⟨p,_,_,rfl,D9,k _ ((Same.refl _).lay hn)⟩⟩
end
end L2
namespace Pu
open PySem PySem.Spec L2
section
variable {T:PotK}{ι:Type}{K:A8}{F:ι->Cx}{pos:Pos}{e:Expr}{pe:pE}
def Do:w1:=λx R=>match x with|.lst xs=>(match V3 xs with|some ys=>ys.length<=1000/\R (.int (met (K4 ys) ys.length).length)|none=>False)|_=>False
def Ut {p1 p2 pos2:Pos}(hc:∀z,(F z).calm=true)(g1:∀z,Gl (F z) "len")(m1:∀z,(F z).mg "len"=none)(g2:∀z,Gl (F z) "set")(m2:∀z,(F z).mg "set"=none)(he:QE T K F e pe)(hs:D8 e=true)(hK:∀z,(F z).K=K) :
   QE T K F (.Call (.Name "len" p1) [.Call (.Name "set" p2) [e] [] pos2] [] pos) (qUn Do pe):=by
 obtain⟨t,h1,h2⟩:=he;refine⟨_,λz=>hK z▸Us (hc z) (g1 z) (m1 z) (g2 z) (m2 z) (h1 z) (C5 hs),⇑?_⟩;refine⟨_,h2 C G σ H env n _ (λv H'=>∃x jh n',Do x (λr=>R r jh n')/\SR C G σ H' jh n'/\Rep K G H' x v/\Fr G H H') hK hT S hp (λx jh n' v H' r S' rv f=>⟨x,jh,n',r,S',rv,f⟩),λv H1 hx=>?_⟩;obtain⟨x,jc,n1,r,S1,rv,f1⟩:=hx;unfold Do at r
 split at r
 ·rename_i xs
  split at r
  ·rename_i ys ey;obtain⟨a,vs,rfl,t,rs⟩:=rv;exact⟨a,ys,rfl,Hl ey rs▸t.sq,r.1,λH2 s2=>k _ _ _ _ _ r.2 (S1.same s2) rfl (f1.trans (Fr.of s2))⟩
  ·exact r.elim
 ·exact r.elim
end
end Pu
end
section
namespace L2
open PySem PySem.Spec PyProof.Rows
section
variable {X:Cx}
def tListR (ta:TA):TE:=λσ H Q=>ta σ H λvs H1=>∃j:Int,vs=[.int j]/\0<=j/\j<=1000000/\∀l,H1 l=none->Q (.ref l) (upd H1 l (.lst ((C2 j.toNat).map λ(k:Nat)=>.int (k:Int))))
def Uu {a:Expr}{ta:TA}{p1 p2 pos1 pos2:Pos}(hc:X.calm=true)(g1:Gl X "list")(m1:X.mg "list"=none)(g2:Gl X "range")(m2:X.mg "range"=none)(ha:PA X [a] ta)(hs:D6 [a] X.env=[(false,eval a X.env)]:=by rfl) :
   PE X (.Call (.Name "list" p1) [.Call (.Name "range" p2) [a] [] pos2] [] pos1) (tListR ta):=by
 intro jb s σ H Q I h;refine BT (Y8 I g1 m1 GT (l8 (Calls.spliced_cons ?_) rfl rfl));refine BT (Y8 I g2 m2 boot_range (l8 (thn (ha pos2 jb s σ H _ I h) λus s1 h1=>?_) hs rfl));obtain⟨vs,H1,I1,r1,j,rfl,j0,j1,q⟩:=h1;cases r1 with
 | cons r rr =>
  cases rr;obtain⟨t,rfl⟩:=r;have hh:X.A.handled=none:=I1.ok.hd hc;refine call_range_1 ?_;refine A9 ?_;have hn:DS 0 j 1=(j.toNat:Int):=by rw[rangeSize_one];split <;> ext
  refine call_list_range (s:={ s1 with heap:=s1.heap.push { cls:=.type "range",data:=.fields #[.int 0 s1.toks,.int j t,.int 1 (s1.toks+1)] },toks:=s1.toks+1+1 }) hh (IsRange.new ..) (small_one 0x0 0x0 0x0 0x0) hn 0x0 λh' tk jm c hk hD hI=>?_;have hs1:s1.heap.objs.size<=(s1.heap.push { cls:=.type "range",data:=.fields #[.int 0 s1.toks,.int j t,.int 1 (s1.toks+1)] }).objs.size:=by rw[W3];exact z0 _
  generalize (s1.heap.push { cls:=.type "range",data:=.fields #[.int 0 s1.toks,.int j t,.int 1 (s1.toks+1)] }).objs.size=D at hs1 hD ⊢
  have va:Vals ((C2 j.toNat).map λ(k:Nat)=>V.int (k:Int)) jm.toList:=by
   refine Mf _ _ (by have:=hI.1;rw[B0,U8,M3];omega) λi x u e1 e2=>?_;obtain⟨w,rfl⟩:=hI.2 i u (by simpa using e2);rw[D4] at e1;cases e:(C2 j.toNat)[i]? with
   |none=>rw[e] at e1;cases e1
   | some k =>
    rw[e] at e1;cases e1;obtain⟨_,ek⟩:=D3.mp e;rw[DI] at ek;subst ek;exact⟨w,0o0⟩
  exact⟨.ref D,_,I1.laid (t':=tk) (o:=.lst ((C2 j.toNat).map λ(k:Nat)=>V.int (k:Int))) (λb o e=>hk b o (B7 _ e)) hs1 ⟨by rw[B0,U8];unfold B4;omega,jm.toList,c,va,by simpa using hD⟩,rfl,q _ (I1.hok.fresh hs1)⟩
end
end L2
namespace Pu
open PySem PySem.Spec L2
section
variable {T:PotK}{ι:Type}{K:A8}{F:ι->Cx}{e:Expr}{pe:pE}{pos pos2 p1 p2:Pos}
def Iq (pe:pE):pA:=λenv n R=>pe env n λx jc n1=>match x with|.int j=>(0<=j/\j<=1000000)/\R ((C2 j.toNat).map λ(k:Nat)=>PV.int (k:Int)) jc n1|_=>False
theorem Nq {G:Gh}{H:Hp}:∀l:List Nat,Reps K G H (l.map λ(k:Nat)=>PV.int (k:Int)) (l.map λ(k:Nat)=>V.int (k:Int))
 |[]=>rfl
 |k::l=>⟨_,_,rfl,rfl,Nq l⟩
def Uv (hc:∀z,(F z).calm=true)(g1:∀z,Gl (F z) "list")(m1:∀z,(F z).mg "list"=none)(g2:∀z,Gl (F z) "range")(m2:∀z,(F z).mg "range"=none)(ha:QE T K F e pe)(hs:D8 e=true):QN T K F (.Call (.Name "list" p1) [.Call (.Name "range" p2) [e] [] pos2] [] pos) (Iq pe):=by
 obtain⟨t,h1,h2⟩:=ha;refine⟨_,λz=>Uu (hc z) (g1 z) (m1 z) (g2 z) (m2 z) (E3 (h1 z) G0 (C5 hs)) (C5 hs),⇑?_⟩;refine ↥h2 λx jc n1 v H1 q1 S1 r1 f1=>?_;cases x with
 | int j =>
  obtain⟨⟨j0,j1⟩,q⟩:=q1;have r1:v=.int j:=r1;subst r1;exact⟨j,rfl,j0,j1,λl hl=>k _ _ _ _ _ _ q S1 f1 hl (Nq _)⟩
 |_=>exact q1.elim
end
variable {T:PotK}{ι:Type}{K:A8}{F:ι->Cx}{e:Expr}{st:List Stmt}{np:Bool}
def Nr:pS:=λ_ _ _=>False
def Uw:QSs T np K F st Nr:=⟨λ_ _ _=>False,λ_ _ _ _ _ _ _ h=>h.elim,λ_ _ _ _ _ _ _ _ _ _ _ _ h=>h.elim⟩
end Pu
end
section
namespace Tb
open PySem L2 Pu
abbrev F5:pF:=At
def Ir:pS:=(qSeq (qPar 2 3 (sV (qC (.str (A6 "abcdefghijklmnopqrstuvwxyz")))) (sV (qC (.str (A6 "")))))
   (qSeq (qSet 4 (qOp wIx (qL (qLst (A0 (qC (.int 1)) (A0 (qC (.int 3)) (A0 (qC (.int 5)) (A0 (qC (.int 7)) (A0 (qC (.int 9)) (A0 (qC (.int 11)) (A0 (qC (.int 15)) (A0 (qC (.int 17)) (A0 (qC (.int 19)) (A0 (qC (.int 21)) qNil)))))))))))) (B1 F5 (A0 (qV 0) (A0 (qC (.int 10)) qNil)))))
   (qSeq (qSet 5 (B1 F5 (A0 (qV 0) (A0 (qC (.int 26)) qNil))))
   (qSeq (qFor (p6 (qC (.int 7))) (gN 6) (qSet 3 (qOp wAdd (qV 3) (qOp wIx (qV 2) (B1 F5 (A0 (qV 0) (A0 (qC (.int 26)) qNil)))))))
   (qSeq (qSet 7 (B1 F5 (A0 (qV 0) (A0 (qC (.int 8)) qNil))))
   (qSeq (qOwn 8 (qLst qNil))
   (qSeq (qFor (p6 (qV 1)) (gN 6) (qSeq (qPar 9 10 (sV (qOp wAdd (qV 7) (B1 F5 (A0 (qV 0) (A0 (qOp wSub (qC (.int 8)) (qV 7)) qNil))))) (sV (qOp wIx (qV 2) (qOp wMod (qOp wAdd (qV 5) (qOp wMul (qV 4) (qV 6))) (qC (.int 26))))))
   (J0 (M4 8 (qOp wAdd (qOp wAdd (qSl (qV 3) qNo (E4 (qV 7))) (qV 10)) (qSl (qV 3) (E4 (qV 7)) (E4 (qV 9))))))))
   (qSeq (qSet 11 (qOp wIx (qL (qLst (A0 (qC (.str (A6 "drop"))) (A0 (qC (.str (A6 "touch"))) (A0 (qC (.str (A6 "none"))) (A0 (qC (.str (A6 "d"))) (A0 (qC (.str (A6 "u"))) (A0 (qC (.str (A6 "t"))) (A0 (qC (.str (A6 "o"))) qNil))))))))) (B1 F5 (A0 (qV 0) (A0 (qC (.int 7)) qNil)))))
   (qSeq (qIfS (qAnd (qB (qOp (wIn 4 true) (qV 11) (qO 8))) (qB (qOp (wEq 4) (B1 F5 (A0 (qV 0) (A0 (qC (.int 3)) qNil))) (qC (.int 0))))) (qPut 8 (qV 11) (B1 F5 (A0 (qV 0) (A0 (qV 1) qNil)))) qNx)
   (qRet (qUn O9 (qO 8))))))))))))
def Iu:pF:=fnP ["_law_draws","_law_many","_law_letters","_law_stem","_law_step","_law_first","_law_k","_law_at_here","_law_found","_law_far","_law_sign","_law_word_here"] ["_law_draws","_law_many"] Ir
def Iv:pS:=(qSeq (qSet 2 (qTup (A0 (qOp wAdd (qC (.int 1)) (B1 F5 (A0 (qV 0) (A0 (qC (.int 8)) qNil)))) (A0 (qOp wIx (qL (qLst (A0 (qC (.int 0)) (A0 (qC (.int 1)) (A0 (qC (.int 7)) (A0 (B1 F5 (A0 (qV 0) (A0 (qC (.int 8)) qNil))) qNil)))))) (B1 F5 (A0 (qV 0) (A0 (qC (.int 4)) qNil)))) qNil))))
   (qSeq (qSet 3 (qOp wIx (qL (qLst (A0 (qOp wAdd (qC (.int 1)) (B1 F5 (A0 (qV 0) (A0 (qV 1) qNil)))) (A0 (qOp wAdd (qC (.int 1)) (B1 F5 (A0 (qV 0) (A0 (qOp wMin (qV 1) (qC (.int 6))) qNil)))) qNil)))) (B1 F5 (A0 (qV 0) (A0 (qC (.int 2)) qNil)))))
   (qRet (qTup (A0 (qV 2) (A0 (B1 Iu (A0 (qV 0) (A0 (qV 3) qNil))) qNil))))))
def Iw:pF:=fnP ["_law_draws","_law_most","_law_meeting","_law_many"] ["_law_draws","_law_most"] Iv
def Ix:pS:=(qSeq (qSet 3 (qOp wIx (qV 0) (qC (.int 0))))
   (qSeq (qSet 4 (qOp wMul (qV 2) (qV 3)))
   (qRet (qTup (A0 (qV 4) (A0 (qIf (qB (qOp wLt (qOp wAdd (qV 4) (qV 3)) (qV 1))) (qOp wAdd (qV 4) (qV 3)) (qOp wSub (qV 1) (qC (.int 1)))) qNil))))))
def Dp:pF:=fnP ["_law_meeting","_law_n","_law_k","_law_size","_law_first"] ["_law_meeting","_law_n","_law_k"] Ix
def Iy:pS:=(qSeq (qPar 2 3 (sO (qLst qNil)) (sO (qLst qNil)))
   (qSeq (qFor (qZip false true (qV 0) (qV 1)) (gTp 2 (gCn (gN 4) (gCn (gN 5) gNl))) (qIfS (qB (qOp (wEq 4) (qV 5) (qC (.str (A6 "t"))))) (J0 (M4 2 (qV 4))) (qIfS (qB (qOp (wEq 4) (qV 5) (qC (.str (A6 "u"))))) (J0 (M4 3 (qTup (A0 (qC (.str (A6 "touch"))) (A0 (qV 4) (A0 (qPop 2) qNil)))))) (qIfS (qB (qOp (wEq 4) (qV 5) (qC (.str (A6 "d"))))) (J0 (M4 3 (qTup (A0 (qC (.str (A6 "drop"))) (A0 (qV 4) qNil))))) qNx))))
   (qRet (qUn O9 (qL (Db (qO 3)))))))
def Iz:pF:=fnP ["_law_start","_law_marks","_law_pile","_law_events","_law_boat","_law_mark"] ["_law_start","_law_marks"] Iy
def IA:pS:=(qRet (qOp Eo (qOp wSub (qOp wAdd (qV 1) (qOp wIx (qV 0) (qC (.int 0)))) (qC (.int 1))) (qOp wIx (qV 0) (qC (.int 0)))))
def u7:pF:=fnP ["_law_meeting","_law_n"] ["_law_meeting","_law_n"] IA
def IB:pS:=(qSeq (qPar 3 4 (sO (qLst qNil)) (sO (qLst qNil)))
   (qSeq (qFor (p6 (qV 1)) (gN 5) (qSeq (Ez (qAnd (qB (qOpR (wNe 4) (qO 4) (qL (qLst qNil)))) (qB (qOp wGt (qOp wSub (qOp wSub (qV 5) (qOpR wIx (qO 4) (qUn wNeg (qC (.int 1))))) (qC (.int 1))) (qV 2)))) (qPut 3 (qC (.str (A6 "d"))) (qPop 4)))
   (qSeq (qSet 6 (B1 F5 (A0 (qV 0) (A0 (qC (.int 5)) qNil))))
   (qIfS (qAnd (qB (qOpR (wNe 4) (qO 4) (qL (qLst qNil)))) (qB (qOp wLt (qV 6) (qC (.int 2))))) (qSeq (qPut 3 (qC (.str (A6 "t"))) (qPop 4))
   (J0 (M4 3 (qC (.str (A6 "u")))))) (qIfS (qOr (qB (qOp (wEq 4) (qV 6) (qC (.int 2)))) (qB (qOp (wEq 4) (qV 6) (qC (.int 3))))) (qSeq (J0 (M4 4 (qV 5)))
   (J0 (M4 3 (qC (.str (A6 "d")))))) (J0 (M4 3 (qIf (qB (qOpR (wNe 4) (qO 4) (qL (qLst qNil)))) (qC (.str (A6 "d"))) (qOp wIx (qL (qLst (A0 (qC (.str (A6 "o"))) (A0 (qC (.str (A6 "o"))) (A0 (qC (.str (A6 "d"))) qNil))))) (B1 F5 (A0 (qV 0) (A0 (qC (.int 3)) qNil))))))))))))
   (As 3)))
def IC:pF:=fnP ["_law_draws","_law_many","_law_reach","_law_marks","_law_pile","_law_k","_law_way"] ["_law_draws","_law_many","_law_reach"] IB
def ID:pS:=(qSeq (qOwn 2 (Aq (qV 0)))
   (qSeq (qFor (qIt (qV 1)) (gN 3) (qIfS (qB (qOp (wEq 4) (qOp wIx (qV 3) (qC (.int 0))) (qC (.str (A6 "touch"))))) (qSeq (qPut 2 (qOp wIx (qV 3) (qC (.int 2))) (N1 (qV 0) (qOp wIx (qV 3) (qC (.int 1)))))
   (qPut 2 (qOp wIx (qV 3) (qC (.int 1))) (N1 (qV 0) (qOp wIx (qV 3) (qC (.int 2)))))) qNx))
   (qRet (qUn O9 (qO 2)))))
def IE:pF:=fnP ["_law_start","_law_sheet_here","_law_found","_law_event"] ["_law_start","_law_sheet_here"] ID
def IF:pS:=(qSeq (qPar 3 4 (sO (qLst qNil)) (sO (qLst qNil)))
   (qSeq (qFor (Dd (B1 u7 (A0 (qV 1) (A0 (qUn wLen (qV 2)) qNil)))) (gN 5) (qSeq (qAsg (B1 Dp (A0 (qV 1) (A0 (qUn wLen (qV 2)) (A0 (qV 5) qNil)))) (gTp 2 (gCn (gN 6) (gCn (gN 7) gNl))))
   (qSeq (qSet 8 (qSl (qV 2) (E4 (qV 6)) (E4 (qOp wAdd (qV 7) (qC (.int 1))))))
   (qSeq (qSet 9 (B1 Iz (A0 (qV 8) (A0 (B1 IC (A0 (qV 0) (A0 (qUn wLen (qV 8)) (A0 (qOp wIx (qV 1) (qC (.int 1))) qNil)))) qNil))))
   (qSeq (qSet 2 (qOp wAdd (qOp wAdd (qSl (qV 2) qNo (E4 (qV 6))) (B1 IE (A0 (qV 8) (A0 (qV 9) qNil)))) (qSl (qV 2) (E4 (qOp wAdd (qV 7) (qC (.int 1)))) qNo)))
   (qSeq (J0 (EY 3 (qC (.int 0)) (qV 9)))
   (J0 (EY 4 (qC (.int 0)) (qV 8)))))))))
   (qRet (qTup (A0 (qUn O9 (qO 3)) (A0 (qUn O9 (qO 4)) (A0 (qV 2) qNil)))))))
def Fp:pF:=fnP ["_law_draws","_law_meeting","_law_row","_law_sheets","_law_starts","_law_k","_law_first","_law_last","_law_start","_law_sheet_here"] ["_law_draws","_law_meeting","_law_row"] IF
def IG:pS:=(qSeq (qSet 3 (B1 F5 (A0 (qV 0) (A0 (qC (.int 6)) qNil))))
   (qSeq (qAsg (B1 Fp (A0 (qV 0) (A0 (qV 1) (A0 (qV 2) qNil)))) (gTp 3 (gCn (gN 4) (gCn (gN 5) (gCn (gN 6) gNl)))))
   (qSeq (qIfS (qB (qOp (wEq 4) (qV 3) (qC (.int 0)))) (qSeq (qPar 7 8 (sO (Aq (qV 2))) (sO (qLst qNil)))
   (qSeq (Ez (qB (qOpR (wNe 4) (qO 7) (qL (qLst qNil)))) (J0 (M4 8 (Hm 7 (B1 F5 (A0 (qV 0) (A0 (qUn wLen (qO 7)) qNil)))))))
   (qRet (qUn O9 (qO 8))))) qNx)
   (qSeq (qOwn 8 (Aq (qV 6)))
   (qSeq (qFor (p6 (qOp wIx (qL (qLst (A0 (qC (.int 0)) (A0 (qC (.int 0)) (A0 (qC (.int 1)) (A0 (qC (.int 1)) (A0 (qC (.int 2)) (A0 (qC (.int 3)) qNil)))))))) (qV 3))) (gN 9) (qSeq (qSet 10 (B1 F5 (A0 (qV 0) (A0 (qUn wLen (qO 8)) qNil))))
   (qSeq (qSet 11 (qOp wIx (qL (qLst (A0 (qOp wMin (qOp wAdd (qOp wAdd (qV 10) (qC (.int 1))) (B1 F5 (A0 (qV 0) (A0 (qC (.int 3)) qNil)))) (qOp wSub (qUn wLen (qO 8)) (qC (.int 1)))) (A0 (B1 F5 (A0 (qV 0) (A0 (qUn wLen (qO 8)) qNil))) qNil)))) (B1 F5 (A0 (qV 0) (A0 (qC (.int 2)) qNil)))))
   (E_ 8 (qOpR wIx (qO 8) (qV 11)) (qOpR wIx (qO 8) (qV 10)) (qV 10) (qV 11)))))
   (qRet (qUn O9 (qO 8))))))))
def Fq:pF:=fnP ["_law_draws","_law_meeting","_law_row","_law_way","_law_day_here","_law_starts","_law_found","_law_left","_law_some","_law_turn","_law_one","_law_two"] ["_law_draws","_law_meeting","_law_row"] IG
def IH:pS:=(qSeq (qSet 3 (qOp wIx (qV 0) (qC (.int 0))))
   (qSeq (qSet 4 (qOp wMul (qV 2) (qV 3)))
   (qRet (qTup (A0 (qV 4) (A0 (qOp wMin (qOp wAdd (qV 4) (qV 3)) (qOp wSub (qV 1) (qC (.int 1)))) qNil))))))
def Fs:pF:=fnP ["meeting","n","k","size","first"] ["meeting","n","k"] IH
def II:pS:=(qSeq (qAsg (B1 Fs (A0 (qV 0) (A0 (qUn wLen (qV 1)) (A0 (qV 2) qNil)))) (gTp 2 (gCn (gN 3) (gCn (gN 4) gNl))))
   (qRet (qSl (qV 1) (E4 (qV 3)) (E4 (qOp wAdd (qV 4) (qC (.int 1)))))))
def j3:pF:=fnP ["meeting","row","k","first","last"] ["meeting","row","k"] II
def IJ:pS:=(qRet (qL (J6 [none,some 1] (qIt (qSl (B1 j3 (A0 (qV 0) (A0 (qV 2) (A0 (qV 3) qNil)))) (E4 (qC (.int 1))) qNo)) (gN 0) (qB (qOp (wIn 4 true) (qV 0) (qV 1))) (qTup (A0 (qC (.str (A6 "from"))) (A0 (qV 0) qNil))))))
def Ft:pF:=fnP ["meeting","start","other","k"] ["meeting","start","other","k"] IJ
def IK:pS:=(qSeq (qSet 4 (qSl (B1 j3 (A0 (qV 0) (A0 (qV 2) (A0 (qV 3) qNil)))) (E4 (qC (.int 1))) qNo))
   (qRet (qOp wAdd (qUn O9 (qL (J6 [none,some 4] (qIt (qV 1)) (gN 0) (qB (qOp (wIn 4 true) (qV 0) (qV 1))) (qV 0)))) (qV 4))))
def BN:pF:=fnP ["meeting","start","other","k","behind"] ["meeting","start","other","k"] IK
def IL:pS:=(qSeq (qSet 3 (qOp wIx (qV 0) (N1 (qV 1) (qV 2))))
   (qRet (qOp (wNe 4) (N1 (qV 1) (qV 3)) (N1 (qV 0) (qV 2)))))
def Fu:pF:=fnP ["start","goal","x","there"] ["start","goal","x"] IL
def IM:pS:=(qRet (qL (J6 [none,some 0,some 1] (qIt (qV 0)) (gN 0) (qB (B1 Fu (A0 (qV 1) (A0 (qV 2) (A0 (qV 0) qNil))))) (qTup (A0 (qC (.str (A6 "round"))) (A0 (qV 0) qNil))))))
def Fv:pF:=fnP ["start","goal"] ["start","goal"] IM
def IN:pS:=(qSeq (qAsg (qL (Db (qL (qLst (A0 (N1 (qV 0) (qOp wIx (qV 1) (qC (.int 1)))) (A0 (N1 (qV 0) (qOp wIx (qV 1) (qC (.int 2)))) qNil)))))) (gTl 2 (gCn (gN 2) (gCn (gN 3) gNl))))
   (qRet (qSl (qV 0) (E4 (qOp wAdd (qV 2) (qC (.int 1)))) (E4 (qV 3)))))
def AD:pF:=fnP ["start","touch","low","high"] ["start","touch"] IN
def IP:pS:=(qRet (qOp wGt (qUn wLen (B1 AD (A0 (qV 0) (A0 (qV 2) qNil)))) (qV 1)))
def Fw:pF:=fnP ["start","reach","touch"] ["start","reach","touch"] IP
def IQ:pS:=(qRet (qL (BK [none,none] (qIt (qV 0)) (gN 0) (qIt (qSl (qV 0) (E4 (qC (.int 1))) qNo)) (gN 1) qTru (qV 1))))
def BO:pF:=fnP ["events"] ["events"] IQ
def IR:pS:=(qSeq (qIfS (qB (qOp (wNe 4) (qUn Do (B1 BO (A0 (qTup (A0 (qV 1) (A0 (qV 2) qNil))) qNil))) (qC (.int 4)))) (qRet (qC (.bl false))) qNx)
   (qSeq (qSet 3 (B1 AD (A0 (qV 0) (A0 (qV 1) qNil))))
   (qRet (qOp (wNe 4) (qOp (wIn 4 false) (qOp wIx (qV 2) (qC (.int 1))) (qV 3)) (qOp (wIn 4 false) (qOp wIx (qV 2) (qC (.int 2))) (qV 3))))))
def Fx:pF:=fnP ["start","one","other","inner"] ["start","one","other"] IR
def IS:pS:=(qSeq (qOwn 3 (J6 [none,some 0,some 1] (qIt (qV 2)) (gN 0) (qB (B1 Fw (A0 (qV 1) (A0 (qV 2) (A0 (qV 0) qNil))))) (qTup (A0 (qC (.str (A6 "far"))) (A0 (qV 0) qNil)))))
   (qSeq (Hz 3 (qL (BK [none,none,some 2,some 0] (qIt (qV 2)) (gN 0) (qIt (qV 2)) (gN 1) (qB (B1 Fx (A0 (qV 3) (A0 (qV 0) (A0 (qV 1) qNil))))) (qTup (A0 (qC (.str (A6 "cross"))) (A0 (qV 0) (A0 (qV 1) qNil)))))))
   (As 3)))
def Fy:pF:=fnP ["start","reach","touches","reasons"] ["start","reach","touches"] IS
def IT:pS:=(qRet (qUn O9 (qL (Ip (qV 0)))))
def IU:pF:=fnP ["events"] ["events"] IT
def IV:pS:=(qRet (B1 IU (A0 (qL (J6 [none,none,some 1,some 0] (qZip false false (qV 1) (qV 0)) (gTp 2 (gCn (gN 0) (gCn (gN 1) gNl))) (qB (qOp wLt (N1 (qV 2) (qV 0)) (N1 (qV 3) (qV 0)))) (qTup (A0 (qC (.str (A6 "touch"))) (A0 (qV 0) (A0 (qV 1) qNil)))))) qNil)))
def BP:pF:=fnP ["start","goal"] ["start","goal"] IV
def IW:pS:=(qSeq (qSet 4 (B1 Ft (A0 (qV 0) (A0 (qV 1) (A0 (qV 2) (A0 (qV 3) qNil))))))
   (qSeq (qIfS (CT (qV 4)) (qRet (qV 4)) qNx)
   (qSeq (qSet 5 (B1 BN (A0 (qV 0) (A0 (qV 1) (A0 (qV 2) (A0 (qV 3) qNil))))))
   (qRet (qOrT (B1 Fv (A0 (qV 1) (A0 (qV 5) qNil))) (B1 Fy (A0 (qV 1) (A0 (qOp wIx (qV 0) (qC (.int 1))) (A0 (B1 BP (A0 (qV 1) (A0 (qV 5) qNil))) qNil)))))))))
def Fz:pF:=fnP ["meeting","start","other","k","reasons","goal"] ["meeting","start","other","k"] IW
def IX:pS:=(qSeq (qAsg (B1 Fs (A0 (qV 0) (A0 (qUn wLen (qV 1)) (A0 (qV 2) qNil)))) (gTp 2 (gCn (gN 4) (gCn (gN 5) gNl))))
   (qRet (qOp wAdd (qOp wAdd (qSl (qV 1) qNo (E4 (qV 4))) (qV 3)) (qSl (qV 1) (E4 (qOp wAdd (qV 5) (qC (.int 1)))) qNo))))
def IY:pF:=fnP ["meeting","row","k","boats","first","last"] ["meeting","row","k","boats"] IX
def IZ:pS:=(qRet (qL (J6 [none] (qIt (qV 0)) (gN 0) (qB (qOp (wEq 4) (qOp wIx (qV 0) (qC (.int 0))) (qC (.str (A6 "touch"))))) (qV 0))))
def I_:pF:=fnP ["events"] ["events"] IZ
def Ja:pS:=(qSeq (qOwn 3 (Aq (qV 0)))
   (qSeq (E_ 3 (qOp wIx (qV 0) (qV 2)) (qOp wIx (qV 0) (qV 1)) (qV 1) (qV 2))
   (qRet (qUn O9 (qO 3)))))
def Jb:pF:=fnP ["row","one","other","boats"] ["row","one","other"] Ja
def Jc:pS:=(qSeq (qSet 2 (qV 0))
   (qSeq (qFor (qIl (B1 I_ (A0 (qV 1) qNil))) (gN 3) (qSet 2 (B1 Jb (A0 (qV 2) (A0 (N1 (qV 0) (qOp wIx (qV 3) (qC (.int 1)))) (A0 (N1 (qV 0) (qOp wIx (qV 3) (qC (.int 2)))) qNil))))))
   (qRet (qV 2))))
def Jd:pF:=fnP ["start","sheet","row","touch"] ["start","sheet"] Jc
def Je:pS:=(qRet (B1 IY (A0 (qV 0) (A0 (qV 1) (A0 (qV 2) (A0 (B1 Jd (A0 (B1 j3 (A0 (qV 0) (A0 (qV 1) (A0 (qV 2) qNil)))) (A0 (qV 3) qNil))) qNil))))))
def FA:pF:=fnP ["meeting","row","k","sheet"] ["meeting","row","k","sheet"] Je
def Jf:pS:=(qSeq (qSet 2 (qOp wIx (qV 0) (qC (.int 0))))
   (qRet (qOp Eo (qOp wSub (qOp wAdd (qV 1) (qV 2)) (qC (.int 1))) (qV 2))))
def Dq:pF:=fnP ["meeting","n","size"] ["meeting","n"] Jf
def Jg:pS:=(qSeq (qSet 2 (B1 BO (A0 (qV 1) qNil)))
   (qSeq (qSet 3 (qL (BK [none,none,some 0] (qIt (qV 1)) (gN 0) (qIt (B1 AD (A0 (qV 2) (A0 (qV 0) qNil)))) (gN 1) qTru (qV 1))))
   (qSeq (qSet 4 (qL (Db (qL (J6 [none,some 2] (qIt (qV 0)) (gN 0) (qB (qOp (wIn 4 true) (qV 0) (qV 1))) (qV 0))))))
   (qSeq (qSet 5 (qL (J6 [none,some 3] (qIl (qV 4)) (gN 0) (qB (qOp (wIn 4 false) (qV 0) (qV 1))) (qV 0))))
   (qSeq (qSet 6 (qL (J6 [none,some 3] (qIl (qV 4)) (gN 0) (qB (qOp (wIn 4 true) (qV 0) (qV 1))) (qV 0))))
   (qRet (qTup (A0 (qV 1) (A0 (qUn O9 (qV 5)) (A0 (qUn O9 (qV 6)) qNil))))))))))
def FB:pF:=fnP ["start","touches","touching","passed","others","drops","free"] ["start","touches"] Jg
def Jh:pS:=(qSeq (qOwn 3 (qLst qNil))
   (qSeq (qSet 4 (qV 1))
   (qSeq (qFor (Dd (B1 Dq (A0 (qV 0) (A0 (qUn wLen (qV 1)) qNil)))) (gN 5) (qSeq (qSet 6 (B1 j3 (A0 (qV 0) (A0 (qV 4) (A0 (qV 5) qNil)))))
   (qSeq (qSet 7 (B1 Fz (A0 (qV 0) (A0 (qV 6) (A0 (qV 2) (A0 (qV 5) qNil))))))
   (qSeq (qIfS (CT (qV 7)) (Bz 3 (qRet (qTup (A0 (qV 3) (A0 (qL (J6 [none,some 5] (qIl (qV 7)) (gN 0) qTru (qTup (A0 (qC (.str (A6 "untold"))) (A0 (qV 1) (A0 (qV 0) qNil)))))) qNil))))) qNx)
   (qSeq (qSet 8 (B1 BP (A0 (qV 6) (A0 (B1 BN (A0 (qV 0) (A0 (qV 6) (A0 (qV 2) (A0 (qV 5) qNil))))) qNil))))
   (qSeq (J0 (M4 3 (B1 FB (A0 (qV 6) (A0 (qV 8) qNil)))))
   (qSet 4 (B1 FA (A0 (qV 0) (A0 (qV 4) (A0 (qV 5) (A0 (qV 8) qNil))))))))))))
   (Bz 3 (qRet (qTup (A0 (qV 3) (A0 (qL (qLst qNil)) qNil))))))))
def FE:pF:=fnP ["meeting","row","other","races","stands","k","start","reasons","touches"] ["meeting","row","other"] Jh
def Ji:pS:=(qSeq (qAsg (B1 FE (A0 (qV 0) (A0 (qV 1) (A0 (qV 2) qNil)))) (gTp 2 (gCn (gN 3) (gCn (gN 4) gNl))))
   (qSeq (qIfS (CT (qV 4)) (qRet (qOp wIx (qV 4) (qC (.int 0)))) qNx)
   (qRet (qTup (A0 (qC (.str (A6 "told"))) (A0 (qUn O9 (qUn wRev (qV 3))) qNil))))))
def FF:pF:=fnP ["meeting","row","other","races","untold"] ["meeting","row","other"] Ji
def Jj:pS:=(qSeq (qSet 3 (qL (qCat (qL (J6 [none,none,some 2] (BD (qV 1)) (gTp 2 (gCn (gN 0) (gCn (gN 1) gNl))) (qB (qOp (wNe 4) (qOp wIx (qV 2) (qV 0)) (qV 1))) (qV 1))) (qL (qLst (A0 (qOp wIx (qV 1) (B1 F5 (A0 (qV 0) (A0 (qUn wLen (qV 1)) qNil)))) qNil))))))
   (qSeq (qOwn 4 (qLst qNil))
   (qSeq (qFor (qIl (qV 3)) (gN 5) (J0 (CY 4 (qL (qLst (A0 (qTup (A0 (qC (.str (A6 "from"))) (A0 (qV 5) qNil))) (A0 (qTup (A0 (qC (.str (A6 "round"))) (A0 (qV 5) qNil))) qNil)))))))
   (qSeq (qOwn 6 (qLst qNil))
   (qSeq (qFor (BD (qV 1)) (gTp 2 (gCn (gN 7) (gCn (gN 5) gNl))) (qSeq (qSet 8 (N1 (qV 2) (qV 5)))
   (J0 (M4 6 (qTup (A0 (qC (.str (A6 "touch"))) (A0 (qOp wIx (qV 1) (qOp wMax (qV 7) (qV 8))) (A0 (qOp wIx (qV 1) (qOp wMin (qV 7) (qV 8))) qNil))))))))
   (qSeq (qOwn 6 (qCat (qSlR (qO 6) qNo (E4 (qC (.int 8)))) (qL (qLst (A0 (qTup (A0 (qC (.str (A6 "touch"))) (A0 (qOp wIx (qV 3) (qC (.int 0))) (A0 (qOp wIx (qV 3) (qUn wNeg (qC (.int 1)))) qNil)))) (A0 (qTup (A0 (qC (.str (A6 "drop"))) (A0 (qOp wIx (qV 3) (qC (.int 0))) qNil))) qNil))))))
   (qSeq (Bz 6 (qFor (qIl (qV 6)) (gN 9) (qSeq (qAsg (qTup (A0 (qOp wIx (qV 6) (B1 F5 (A0 (qV 0) (A0 (qUn wLen (qV 6)) qNil)))) (A0 (qOp wAdd (qSl (qV 9) qNo (E4 (qC (.int 1)))) (qUn wRev (qSl (qV 9) (E4 (qC (.int 1))) qNo))) qNil))) (gTp 2 (gCn (gN 2) (gCn (gN 10) gNl))))
   (qSeq (J0 (CY 4 (qL (qLst (A0 (qTup (A0 (qC (.str (A6 "far"))) (A0 (qV 9) qNil))) (A0 (qTup (A0 (qC (.str (A6 "cross"))) (A0 (qV 9) (A0 (qV 2) qNil)))) (A0 (qTup (A0 (qC (.str (A6 "far"))) (A0 (qV 10) qNil))) qNil)))))))
   (J0 (M4 4 (qOp wIx (qL (qLst (A0 (qTup (A0 (qC (.str (A6 "cross"))) (A0 (qV 10) (A0 (qV 2) qNil)))) (A0 (qTup (A0 (qC (.str (A6 "cross"))) (A0 (qV 2) (A0 (qV 10) qNil)))) qNil)))) (B1 F5 (A0 (qV 0) (A0 (qC (.int 2)) qNil))))))))))
   (As 4))))))))
def Jk:pF:=fnP ["_law_draws","_law_row","_law_other_here","_law_moved","_law_found","_law_boat","_law_touches","_law_p","_law_q","_law_event","_law_turned"] ["_law_draws","_law_row","_law_other_here"] Jj
def Jl:pS:=(qSeq (qIfS (qOr (qNot (qB (qUn (wIsi "int") (qV 0)))) (qB (qUn (wIsi "bool") (qV 0)))) (qRet (qC (.bl false))) qNx)
   (qRet (V7 wLe wLe (qV 1) (qV 0) (qV 2))))
def FG:pF:=fnP ["thing","low","high"] ["thing","low","high"] Jl
def Jm:pS:=(qSeq (qIfS (qOr (qNot (qB (qUn (wIsi "str") (qV 0)))) (qNot (qB (V7 wLe wLe (qC (.int 1)) (qUn wLen (qV 0)) (qC (.int 8)))))) (qRet (qC (.bl false))) qNx)
   (qRet (qUn wAll (qL (J6 [none] (qIs (qV 0)) (gN 0) qTru (V7 wLe wLe (qC (.str (A6 "a"))) (qV 0) (qC (.str (A6 "z")))))))))
def u8:pF:=fnP ["thing"] ["thing"] Jm
def Jn:pS:=(qSeq (qIfS (qOr (qNot (qB (qUn (wIsi "tuple") (qV 0)))) (qB (qOp (wNe 4) (qUn wLen (qV 0)) (qC (.int 3))))) (qRet (qC (.bl false))) qNx)
   (qSeq (qAsg (qV 0) (gTp 3 (gCn (gN 1) (gCn (gN 2) (gCn (gN 3) gNl)))))
   (qSeq (qIfS (qOr (qNot (qB (qUn (wIsi "str") (qV 1)))) (qB (qOp (wNe 4) (qV 1) (qC (.str (A6 "touch")))))) (qRet (qC (.bl false))) qNx)
   (qRet (P9 (B1 u8 (A0 (qV 2) qNil)) (P9 (B1 u8 (A0 (qV 3) qNil)) (qOp (wNe 4) (qV 2) (qV 3))))))))
def FH:pF:=fnP ["thing","word","x","y"] ["thing"] Jn
def Jo:pS:=(qSeq (qIfS (qOr (qNot (qB (qUn (wIsi "tuple") (qV 0)))) (qOr (qNot (qB (V7 wLe wLe (qC (.int 2)) (qUn wLen (qV 0)) (qC (.int 3))))) (qNot (qB (qUn (wIsi "str") (qOp wIx (qV 0) (qC (.int 0)))))))) (qRet (qC (.bl false))) qNx)
   (qRet (qUn wAll (qL (J6 [none] (qIt (qSl (qV 0) (E4 (qC (.int 1))) qNo)) (gN 0) qTru (qOrV (B1 u8 (A0 (qV 0) qNil)) (B1 FH (A0 (qV 0) qNil))))))))
def FI:pF:=fnP ["thing"] ["thing"] Jo
def Jp:pS:=(qSeq (qIfS (qOr (qNot (qB (qUn (wIsi "tuple") (qV 1)))) (qB (qOp (wNe 4) (qUn wLen (qV 1)) (qC (.int 3))))) (qRet (qC (.bl false))) qNx)
   (qSeq (qAsg (qV 1) (gTp 3 (gCn (gN 2) (gCn (gN 3) (gCn (gN 4) gNl)))))
   (qRet (P9 (qUn (wIsi "str") (qV 2)) (P9 (B1 FG (A0 (qV 3) (A0 (qC (.int 0)) (A0 (qOp wSub (qV 0) (qC (.int 1))) qNil)))) (B1 FI (A0 (qV 4) qNil)))))))
def FJ:pF:=fnP ["many","thing","word","k","reason"] ["many","thing"] Jp
def Jq:pS:=(qSeq (qIfS (qNot (qB (B1 FJ (A0 (B1 Dq (A0 (qV 0) (A0 (qUn wLen (qV 1)) qNil))) (A0 (qV 3) qNil))))) (qRet (qC (.bl false))) qNx)
   (qRet (qOp (wIn 4 false) (qV 3) (qOp wIx (B1 FE (A0 (qV 0) (A0 (qV 1) (A0 (qV 2) qNil)))) (qC (.int 1))))))
def FK:pF:=fnP ["meeting","row","other","thing"] ["meeting","row","other","thing"] Jq
def Jr (Dr:pF):pS:=(qSeq (qIfS (qOr (qNot (qB (qUn (wIsi "tuple") (qV 1)))) (qOr (qB (qOp (wEq 8) (qV 1) (qTup qNil))) (qB (qOp (wEq 8) (B1 F5 (A0 (qV 0) (A0 (qC (.int 3)) qNil))) (qC (.int 0)))))) (qSeq (qSet 2 (qL (qLst (A0 (qC .non) (A0 (qC (.bl true)) (A0 (qC (.int 0)) (A0 (qUn wNeg (qC (.int 1))) (A0 (qC (.str (A6 ""))) (A0 (qC (.str (A6 "far"))) (A0 (qTup (A0 (qV 1) qNil)) (A0 (qL (qLst (A0 (qV 1) qNil))) (A0 (qTup (A0 (qC (.str (A6 "untold"))) qNil)) (A0 (qC (.str (A6 "from"))) (A0 (qTup qNil) (A0 (qC (.int 1)) qNil)))))))))))))))
   (qRet (qOp wIx (qV 2) (B1 F5 (A0 (qV 0) (A0 (qC (.int 12)) qNil)))))) qNx)
   (qSeq (qPar 3 4 (sV (B1 F5 (A0 (qV 0) (A0 (qC (.int 5)) qNil)))) (sV (B1 F5 (A0 (qV 0) (A0 (qUn wLen (qV 1)) qNil)))))
   (qSeq (qIfS (qB (qOp (wEq 8) (qV 3) (qC (.int 0)))) (qRet (qOp wAdd (qSl (qV 1) qNo (E4 (qV 4))) (qSl (qV 1) (E4 (qOp wAdd (qV 4) (qC (.int 1)))) qNo))) qNx)
   (qSeq (qIfS (qB (qOp (wEq 8) (qV 3) (qC (.int 1)))) (qRet (qOp wAdd (qOp wAdd (qSl (qV 1) qNo (E4 (qV 4))) (qTup (A0 (qOp wIx (qV 1) (qV 4)) qNil))) (qSl (qV 1) (E4 (qV 4)) qNo))) qNx)
   (qSeq (qIfS (qB (qOp (wEq 8) (qV 3) (qC (.int 2)))) (qRet (qL (Aq (qV 1)))) qNx)
   (qRet (qOp wAdd (qOp wAdd (qSl (qV 1) qNo (E4 (qV 4))) (qTup (A0 (B1 Dr (A0 (qV 0) (A0 (qOp wIx (qV 1) (qV 4)) qNil))) qNil))) (qSl (qV 1) (E4 (qOp wAdd (qV 4) (qC (.int 1)))) qNo))))))))
def BQ:Nat->pF
 |0=>fnP ["_law_draws","_law_thing","_law_some","_law_way","_law_at_here"] ["_law_draws","_law_thing"] Nr
 |d+1=>fnP ["_law_draws","_law_thing","_law_some","_law_way","_law_at_here"] ["_law_draws","_law_thing"] (Jr (BQ d))
abbrev Dr:pF:=BQ 8
def Js:pS:=(qSeq (qAsg (B1 Dp (A0 (qV 0) (A0 (qUn wLen (qV 1)) (A0 (qV 3) qNil)))) (gTp 2 (gCn (gN 4) (gCn (gN 5) gNl))))
   (qSeq (qAsg (qTup (A0 (qSl (qV 1) (E4 (qV 4)) (E4 (qOp wAdd (qV 5) (qC (.int 1))))) (A0 (qSl (qV 2) (E4 (qV 4)) (E4 (qOp wAdd (qV 5) (qC (.int 1))))) qNil))) (gTp 2 (gCn (gN 6) (gCn (gN 7) gNl))))
   (qRet (qTup (A0 (qV 6) (A0 (qV 7) (A0 (qIf (qB (qOp wGt (qV 3) (qC (.int 0)))) (qL (J6 [none,some 6] (qIt (qSl (qV 7) (E4 (qC (.int 1))) qNo)) (gN 0) (qB (qOp (wIn 4 true) (qV 0) (qV 1))) (qV 0))) (qL (qLst qNil))) qNil)))))))
def FM:pF:=fnP ["_law_meeting","_law_row","_law_other_here","_law_k","_law_first","_law_last","_law_start","_law_there"] ["_law_meeting","_law_row","_law_other_here","_law_k"] Js
def Jt:pS:=(qSeq (qOwn 2 (qLst qNil))
   (qSeq (qFor (BD (qV 0)) (gTp 2 (gCn (gN 3) (gCn (gN 4) gNl))) (qSeq (qSet 5 (N1 (qV 1) (qV 4)))
   (qSeq (qIfS (qB (qOp (wNe 4) (qOp wIx (qV 0) (qV 5)) (qOp wIx (qV 1) (qV 3)))) (qRet (qC .non)) qNx)
   (qIfS (qB (qOp wLt (qV 3) (qV 5))) (J0 (M4 2 (qTup (A0 (qV 3) (A0 (qV 5) qNil))))) qNx))))
   (As 2)))
def FN:pF:=fnP ["_law_start","_law_goal_here","_law_found","_law_p","_law_boat","_law_q"] ["_law_start","_law_goal_here"] Jt
def Ju:pS:=(qRet (qOp (wNe 4) (V7 wLt wLt (qOp wIx (qV 0) (qC (.int 0))) (qOp wIx (qV 1) (qC (.int 0))) (qOp wIx (qV 0) (qC (.int 1)))) (V7 wLt wLt (qOp wIx (qV 0) (qC (.int 0))) (qOp wIx (qV 1) (qC (.int 1))) (qOp wIx (qV 0) (qC (.int 1))))))
def FP:pF:=fnP ["_law_one","_law_other_here"] ["_law_one","_law_other_here"] Ju
def Jv:pS:=(qSeq (qFor (qIl (qV 0)) (gN 1) (qIfS (qB (qUn wAny (qL (J6 [none,some 1] (qIl (qV 0)) (gN 0) qTru (B1 FP (A0 (qV 1) (A0 (qV 0) qNil))))))) (qRet (qC (.bl false))) qNx))
   (qRet (qC (.bl true))))
def FQ:pF:=fnP ["_law_pairs_here","_law_one"] ["_law_pairs_here"] Jv
def Jw:pS:=(qSeq (qSet 3 (B1 FN (A0 (qV 0) (A0 (qV 1) qNil))))
   (qSeq (qIfS (qOr (qB (qOp wIsN (qV 3) (qC .non))) (qB (qUn wAny (qL (J6 [none,none,some 2] (qIl (qV 3)) (gTp 2 (gCn (gN 0) (gCn (gN 1) gNl))) qTru (qOp wGt (qOp wSub (qOp wSub (qV 1) (qV 0)) (qC (.int 1))) (qV 2))))))) (qRet (qC (.bl false))) qNx)
   (qRet (B1 FQ (A0 (qV 3) qNil)))))
def FR:pF:=fnP ["_law_start","_law_goal_here","_law_reach","_law_pairs_here"] ["_law_start","_law_goal_here","_law_reach"] Jw
def Jx:pS:=(qSeq (qIfS (qB (qOp (wEq 4) (qV 2) (qC (.int 0)))) (qRet (qV 1)) qNx)
   (qRet (qOp wAdd (qUn O9 (qL (J6 [none,some 1] (qIt (qV 0)) (gN 0) (qB (qOp (wIn 4 true) (qV 0) (qSl (qV 1) (E4 (qC (.int 1))) qNo))) (qV 0)))) (qSl (qV 1) (E4 (qC (.int 1))) qNo))))
def AE:pF:=fnP ["_law_start","_law_there","_law_k"] ["_law_start","_law_there","_law_k"] Jx
def Jy:pS:=(qSeq (qFor (Dd (B1 u7 (A0 (qV 0) (A0 (qUn wLen (qV 1)) qNil)))) (gN 4) (qSeq (qAsg (B1 FM (A0 (qV 0) (A0 (qV 1) (A0 (qV 2) (A0 (qV 4) qNil))))) (gTp 3 (gCn (gN 5) (gCn (gN 6) (gCn (gN 7) gNl)))))
   (qSeq (qIfS (qB (qOp (wEq 4) (qV 4) (qV 3))) (qRet (qTup (A0 (qV 5) (A0 (qV 6) (A0 (qV 7) qNil))))) qNx)
   (qSeq (qIfS (qOr (qB (qOp (wNe 4) (qV 7) (qL (qLst qNil)))) (qNot (qB (B1 FR (A0 (qV 5) (A0 (B1 AE (A0 (qV 5) (A0 (qV 6) (A0 (qV 4) qNil)))) (A0 (qOp wIx (qV 0) (qC (.int 1))) qNil))))))) (qRet (qC .non)) qNx)
   (qSeq (qAsg (B1 Dp (A0 (qV 0) (A0 (qUn wLen (qV 1)) (A0 (qV 4) qNil)))) (gTp 2 (gCn (gN 8) (gCn (gN 9) gNl))))
   (qSet 1 (qOp wAdd (qOp wAdd (qSl (qV 1) qNo (E4 (qV 8))) (B1 AE (A0 (qV 5) (A0 (qV 6) (A0 (qV 4) qNil))))) (qSl (qV 1) (E4 (qOp wAdd (qV 9) (qC (.int 1)))) qNo))))))))
   (qRet (qC .non)))
def Jz:pF:=fnP ["_law_meeting","_law_row","_law_other_here","_law_k","_law_j","_law_start","_law_there","_law_strange","_law_first","_law_last"] ["_law_meeting","_law_row","_law_other_here","_law_k"] Jy
def JA:pS:=(qSeq (qIfS (qOr (qNot (qB (qUn (wIsi "tuple") (qV 2)))) (qOr (qB (qOp (wNe 4) (qUn wLen (qV 2)) (qC (.int 3)))) (qNot (qB (qUn wAll (qL (J6 [none] (qIt (qV 2)) (gN 0) qTru (qUn (wIsi "str") (qV 0))))))))) (qRet (qC .non)) qNx)
   (qSeq (qIfS (qOr (qB (qOp (wNe 4) (qOp wIx (qV 2) (qC (.int 0))) (qC (.str (A6 "touch"))))) (qOr (qB (qOp (wIn 4 true) (qOp wIx (qV 2) (qC (.int 1))) (qV 0))) (qB (qOp (wIn 4 true) (qOp wIx (qV 2) (qC (.int 2))) (qV 0))))) (qRet (qC .non)) qNx)
   (qSeq (qPar 3 4 (sV (N1 (qV 0) (qOp wIx (qV 2) (qC (.int 2))))) (sV (N1 (qV 0) (qOp wIx (qV 2) (qC (.int 1))))))
   (qRet (qIf (qAnd (qB (qOp wLt (qV 3) (qV 4))) (qAnd (qB (qOp (wEq 4) (qOp wIx (qV 1) (qV 3)) (qOp wIx (qV 2) (qC (.int 1))))) (qB (qOp (wEq 4) (qOp wIx (qV 1) (qV 4)) (qOp wIx (qV 2) (qC (.int 2))))))) (qTup (A0 (qV 3) (A0 (qV 4) qNil))) (qC .non))))))
def FS:pF:=fnP ["_law_start","_law_goal_here","_law_thing","_law_p","_law_q"] ["_law_start","_law_goal_here","_law_thing"] JA
def JB:pS:=(qSeq (qAsg (qV 0) (gTp 3 (gCn (gN 4) (gCn (gN 5) (gCn (gN 6) gNl)))))
   (qSeq (qIfS (qOr (qNot (qB (qUn (wIsi "tuple") (qV 3)))) (qOr (qNot (qB (V7 wLe wLe (qC (.int 2)) (qUn wLen (qV 3)) (qC (.int 3))))) (qNot (qB (qUn (wIsi "str") (qOp wIx (qV 3) (qC (.int 0)))))))) (qRet (qC (.bl false))) qNx)
   (qSeq (qIfS (qB (qOp (wEq 4) (qOp wIx (qV 3) (qC (.int 0))) (qC (.str (A6 "from"))))) (qRet (P9 (qOp (wEq 4) (qUn wLen (qV 3)) (qC (.int 2))) (P9 (qUn (wIsi "str") (qOp wIx (qV 3) (qC (.int 1)))) (qOp (wIn 4 false) (qOp wIx (qV 3) (qC (.int 1))) (qV 6))))) qNx)
   (qSeq (qIfS (qB (qOp (wNe 4) (qV 6) (qL (qLst qNil)))) (qRet (qC (.bl false))) qNx)
   (qSeq (qSet 7 (B1 AE (A0 (qV 4) (A0 (qV 5) (A0 (qV 1) qNil)))))
   (qSeq (qSet 8 (qL (J6 [none,none,some 4,some 7] (BD (qV 4)) (gTp 2 (gCn (gN 0) (gCn (gN 1) gNl))) (qB (qOp (wNe 4) (qOp wIx (qV 2) (N1 (qV 3) (qV 1))) (qOp wIx (qV 3) (qV 0)))) (qV 1))))
   (qSeq (qIfS (qB (qOp (wEq 4) (qOp wIx (qV 3) (qC (.int 0))) (qC (.str (A6 "round"))))) (qRet (P9 (qOp (wEq 4) (qUn wLen (qV 3)) (qC (.int 2))) (P9 (qUn (wIsi "str") (qOp wIx (qV 3) (qC (.int 1)))) (qOp (wIn 4 false) (qOp wIx (qV 3) (qC (.int 1))) (qV 8))))) qNx)
   (qSeq (qIfS (qB (qOp (wNe 4) (qV 8) (qL (qLst qNil)))) (qRet (qC (.bl false))) qNx)
   (qSeq (qSet 9 (B1 FS (A0 (qV 4) (A0 (qV 7) (A0 (qOp wIx (qV 3) (qC (.int 1))) qNil)))))
   (qSeq (qIfS (qB (qOp (wEq 4) (qOp wIx (qV 3) (qC (.int 0))) (qC (.str (A6 "far"))))) (qRet (P9 (qOp (wEq 4) (qUn wLen (qV 3)) (qC (.int 2))) (P9 (qOp p5 (qV 9) (qC .non)) (qOp wGt (qOp wSub (qOp wSub (qOp wIx (qV 9) (qC (.int 1))) (qOp wIx (qV 9) (qC (.int 0)))) (qC (.int 1))) (qV 2))))) qNx)
   (qSeq (qIfS (qOr (qB (qOp (wNe 4) (qOp wIx (qV 3) (qC (.int 0))) (qC (.str (A6 "cross"))))) (qB (qOp (wNe 4) (qUn wLen (qV 3)) (qC (.int 3))))) (qRet (qC (.bl false))) qNx)
   (qSeq (qSet 10 (B1 FS (A0 (qV 4) (A0 (qV 7) (A0 (qOp wIx (qV 3) (qC (.int 2))) qNil)))))
   (qRet (P9 (qOp p5 (qV 9) (qC .non)) (P9 (qOp p5 (qV 10) (qC .non)) (B1 FP (A0 (qV 9) (A0 (qV 10) qNil))))))))))))))))))
def FT:pF:=fnP ["_law_stand_here","_law_k","_law_reach","_law_reason","_law_start","_law_there","_law_strange","_law_goal_here","_law_rounds","_law_one","_law_two"] ["_law_stand_here","_law_k","_law_reach","_law_reason"] JB
def JC:pS:=(qSeq (qIfS (qOr (qNot (qB (qUn (wIsi "tuple") (qV 3)))) (qOr (qB (qOp (wNe 4) (qUn wLen (qV 3)) (qC (.int 3)))) (qOr (qNot (qB (qUn (wIsi "str") (qOp wIx (qV 3) (qC (.int 0)))))) (qB (qOp (wNe 4) (qOp wIx (qV 3) (qC (.int 0))) (qC (.str (A6 "untold")))))))) (qRet (qC (.bl false))) qNx)
   (qSeq (qIfS (qOr (qNot (qB (qUn (wIsi "int") (qOp wIx (qV 3) (qC (.int 1)))))) (qB (qUn (wIsi "bool") (qOp wIx (qV 3) (qC (.int 1)))))) (qRet (qC (.bl false))) qNx)
   (qSeq (qIfS (qNot (qB (V7 wLe wLt (qC (.int 0)) (qOp wIx (qV 3) (qC (.int 1))) (B1 u7 (A0 (qV 0) (A0 (qUn wLen (qV 1)) qNil)))))) (qRet (qC (.bl false))) qNx)
   (qSeq (qSet 4 (B1 Jz (A0 (qV 0) (A0 (qV 1) (A0 (qV 2) (A0 (qOp wIx (qV 3) (qC (.int 1))) qNil))))))
   (qRet (P9 (qOp p5 (qV 4) (qC .non)) (B1 FT (A0 (qV 4) (A0 (qOp wIx (qV 3) (qC (.int 1))) (A0 (qOp wIx (qV 0) (qC (.int 1))) (A0 (qOp wIx (qV 3) (qC (.int 2))) qNil)))))))))))
def FU:pF:=fnP ["_law_meeting","_law_row","_law_other_here","_law_thing","_law_stand_here"] ["_law_meeting","_law_row","_law_other_here","_law_thing"] JC
def FV:pS:=(qSeq (HV 1 (qV 0))
   (qSeq (qFor (p6 (qC (.int 2))) (gN 2) (qSeq (qAsg (B1 Iw (A0 (qV 1) (A0 (qOp wIx (qL (qLst (A0 (qC (.int 10)) (A0 (qC (.int 24)) qNil)))) (qUn wInt (qOp (wEq 4) (B1 F5 (A0 (qV 1) (A0 (qC (.int 4)) qNil))) (qC (.int 0))))) qNil))) (gTp 2 (gCn (gN 3) (gCn (gN 4) gNl))))
   (qSeq (qSet 5 (B1 Fq (A0 (qV 1) (A0 (qV 3) (A0 (qV 4) qNil)))))
   (qSeq (HS [6,7,8] (De (sO (qLst qNil)) (De (sV (B1 FF (A0 (qV 3) (A0 (qV 4) (A0 (qV 5) qNil))))) (De (sV (B1 Jk (A0 (qV 1) (A0 (qV 4) (A0 (qV 5) qNil))))) HP))))
   (qSeq (qSet 9 (B1 F5 (A0 (qV 1) (A0 (qUn wLen (qV 8)) qNil))))
   (qSeq (qSet 10 (qL (qCat (qL (qLst (A0 (qUn wNeg (qC (.int 1))) (A0 (qC .non) (A0 (qC (.bl true)) qNil))))) (qL (Iq (qOp wAdd (B1 u7 (A0 (qV 3) (A0 (qUn wLen (qV 4)) qNil))) (qC (.int 1))))))))
   (qSeq (qFor (qIl (qSl (qL (qCat (qSl (qV 8) (E4 (qV 9)) qNo) (qSl (qV 8) qNo (E4 (qV 9))))) qNo (E4 (qC (.int 26))))) (gN 11) (qSeq (J0 (M4 6 (qTup (A0 (qC (.str (A6 "untold"))) (A0 (qOp wIx (qV 10) (B1 F5 (A0 (qV 1) (A0 (qUn wLen (qV 10)) qNil)))) (A0 (qV 11) qNil))))))
   (J0 (M4 6 (qTup (A0 (qC (.str (A6 "untold"))) (A0 (qIf (qB (qOp (wEq 4) (qOp wIx (qV 7) (qC (.int 0))) (qC (.str (A6 "untold"))))) (qOp wIx (qV 7) (qC (.int 1))) (qC (.int 0))) (A0 (qV 11) qNil))))))))
   (qSeq (J0 (M4 6 (qV 7)))
   (qSeq (J0 (CY 6 (qL (J6 [none,some 1,some 7] (p6 (qC (.int 8))) (gN 0) qTru (B1 Dr (A0 (qV 1) (A0 (qV 2) qNil)))))))
   (qSeq (Bz 6 (qSet 12 (qUn BC (qTup (A0 (qV 3) (A0 (qV 4) (A0 (qV 5) (A0 (qV 6) qNil))))))))
   (qSeq (qFor (qIl (qV 6)) (gN 13) (qSeq (qSet 14 (B1 FK (A0 (qV 3) (A0 (qV 4) (A0 (qV 5) (A0 (qV 13) qNil))))))
   (qIfS (qOr (qNot (qB (qUn (wIsi "bool") (qV 14)))) (qB (qOp (wNe 4) (qV 14) (B1 FU (A0 (qV 3) (A0 (qV 4) (A0 (qV 5) (A0 (qV 13) qNil)))))))) (qRet (qC (.bl false))) qNx)))
   (qIfS (qB (qOp (wNe 4) (qUn BC (qTup (A0 (qV 3) (A0 (qV 4) (A0 (qV 5) (A0 (qV 6) qNil)))))) (qV 12))) (qRet (qC (.bl false))) qNx))))))))))))
   (qRet (qC (.bl true)))))
noncomputable def top (i:Nat):Stmt:=PySem.Challenge.pw_touchboats_k27_reasons_of_two_mornings_j.main.body.getD i (.Pass ⟨0,0,0,0⟩)
def FW (a b:Int):eqP (.int a) (.int b)=decide (a=b):=by
 show(a == b)=_;rw[Cj]
def M6 (a b:Str):eqP (.str a) (.str b)=decide (a=b):=by
 show(a == b)=_;rw[Cj]
def Nt (a b:Bool):eqP (.bl a) (.bl b)=decide (a=b):=by
 show(a == b)=_;rw[Cj]
set_option compiler.extract_closed false in
set_option hygiene false in
local macro_rules | `(tactic| walk_at "pd")=>`(tactic| dsimp only [dreduceIte,true_and,and_true,K8,beq_self_eq_true,Nat.reduceLeDiff,Nat.reduceLT,Int.reduceLT,Int.reduceLE,F7,FW,M6,Nt,qSeq,qNx,qSet,qOwn,qAsg,J0,qRet,As,qIfS,qPar,sV,sO,qPut,gAt,Bz,EA,qV,qO,qC,qOp,qOpR,qUn,wI,wI0,wAdd,wSub,wMul,Eo,wMod,wEq,wNe,wLt,wLe,wGt,wIsN,p5,qB,V7,qAnd,qOr,qNot,P9,qOrV,qIf,qNil,A0,qTup,qLst,qL,wIx,qNo,E4,qSl,qSlR,wSl,wLen,wInt,wAll,wAny,O9,Aq,wIsi,wMin,wMax,B1,gN,gNl,gCn,gTp,qIl,qIt,p6,qIs,capV,capS,qTru,J6,qCat,CT,wNeg,M4,Hf,qPop,Hm,Hg,p8,tyP,isT,List.map,List.set,D5,List.length_nil,Gk,BY,c7,l4,List.replicate,Nat.reduceSub,Nat.reduceAdd,Option.bind,l7,Bool.not_false,Bool.true_or,Bool.false_or,AY,Bool.true_and,DN,String.reduceBEq,cmpb,o9,LH,LI,LJ,Qz,decide_true,decide_false,At,EB,CY,wRev,Hz,BD,qZip,qFor,Db,u4,Dd,EY,N1,E_,HV,F5,at2_0,at2_1,at3_0,at3_1,at3_2,grd_t,Ip,wSet,HS,De,HP,setAll,gTl,BK,qOrT,Do,Ez,Iq])
set_option hygiene false in
local macro_rules | `(tactic| walk_at "pu")=>`(tactic| (try walk_at "pd") <;> (try simp only [FW,M6,Nt,decide_true,decide_false,true_and,and_true,reduceIte,Nat.reduceLeDiff,Nat.reduceLT,Int.reduceLT,Int.reduceLE,F7,beq_self_eq_true,K8]))
def Ux (h0:1<=many)(h1:many<=24)(hn:n<=999900000)(h:∀zs n',(zs.length:Int)=many->RowS zs->n'<=n + 100->R (rowP zs) n'):Iu [.pot q,.int many] n R:=by
 mleft;unfold Ir;have ll:LETS.length<=1000000:=by rw[Ma];decide
 have lc:∀c:Nat,(⟨#[c]⟩:Str).length=1:=λ_=>rfl;right;refine⟨0x0,λd d0 d1=>?_⟩;obtain⟨tv,htv,etv⟩:=V9 (xs:=[PV.int 1,PV.int 3,PV.int 5,PV.int 7,PV.int 9,PV.int 11,PV.int 15,PV.int 17,PV.int 19,PV.int 21]) d0 (by simpa using d1)
 obtain⟨t,rfl,ht⟩:∃t:Int,tv=.int t/\t∈Az:=by
  simp only[B5,F6,or_false] at htv;rcases htv with rfl|rfl|rfl|rfl|rfl|rfl|rfl|rfl|rfl|rfl <;> exact⟨_,rfl,0b0⟩
 have t30:=SY ht;rw[etv];dsimp only;refine⟨0x0,λfi f0 f1=>?_⟩;refine O3 (λi env m=>∃z s6,env=[some (.v (.pot q)),some (.v (.int many)),some (.v (.str LETS)),some (.v (.str z)),some (.v (.int t)),some (.v (.int fi)),s6,none,none,none,none,none]/\LsE i z/\m<=n+2+i) _ 0 _ _ ⟨A6 "",none,rfl,⟨rfl,(λc hc=>by rw[show(A6 "").cps.toList=[] from rfl] at hc;cases hc)⟩,0x0⟩ (λi x env m N ex hI hN=>?_) (λenv m hI=>?_)
 ·obtain⟨z,s6,rfl,hz,hm⟩:=hI;obtain⟨hi,rfl⟩:=CU ex;rw[J4] at hz hm hN;have hi7:i<7:=hi;right;refine⟨0x0,λu u0 u1=>⟨ll,?_⟩⟩;rw[Mb u0 u1];dsimp only;have zl:z.length=i:=by rw[Z2];exact hz.1
  refine⟨by rw[zl,lc];omega,?_⟩;exact hN _ _ ⟨_,_,rfl,hz.more ⟨0x0,0x0⟩,0x0⟩
 ·obtain⟨z,s6,rfl,hz,hm⟩:=hI;rw[Au,J4] at hz hm;have hz7:LsE 7 z:=hz
  have hm7:m<=n+9:=by
   have:(7:Int).toNat=7:=rfl;ext
  have zl:z.length=7:=by rw[Z2];exact hz7.1
  right;refine⟨0x0,λat_ a0 a1=>?_⟩;obtain⟨a,rfl⟩:=Aa a0;refine⟨⟨0x0,0x0⟩,?_⟩;refine O3 (λi env m'=>∃zs s6 s9 s10,env=[some (.v (.pot q)),some (.v (.int many)),some (.v (.str LETS)),some (.v (.str z)),some (.v (.int t)),some (.v (.int fi)),s6,some (.v (.int (a:Int))),some (.own (zs.map PV.str)),s9,s10,none]/\NmA fi t a zs i/\m'<=n+10+i) _ 0 _ _ ⟨[],_,_,_,rfl,⟨rfl,List.nodup_nil,(λj z e=>by simp at e),(λ_ z=>nomatch z)⟩,0x0⟩ (λi x env m' N ex hI hN=>?_) (λenv m' hI=>?_)
  ·obtain⟨zs,s6,s9,s10,rfl,hs,hm'⟩:=hI;obtain⟨hi,rfl⟩:=CU ex;rw[J4] at hs hm' hN;have sl:=hs.len;right;refine⟨⟨0x0,0x0,0x0⟩,λu u0 u1=>?_⟩;obtain⟨b,rfl⟩:=Aa u0;have em:fi+t*(0+(i:Int))=fi+(i:Int)*t:=by rw[Int.zero_add,Int.mul_comm]
   rw[em,lt_at];dsimp only;have eab:(a:Int)+(b:Int)=((a+b:Nat):Int):=0x0
   rw[eab];have cl:=S_ hz7 (show a<=a+b by ext) (show a+b<=7 by ext) (lt_ltr (f:=fi) (t:=t) (k:=i));have k1:=Be z none (some (a:Int));have k2:=Be z (some (a:Int)) (some ((a+b:Nat):Int));have k3:(T3 z none (some (a:Int))++⟨#[lt fi t i]⟩).length=(T3 z none (some (a:Int))).length+1:=by rw[Z2,CG,C7,<- Z2];rfl
   refine⟨.inl ⟨0x0,0x0⟩,ll,⟨_,rfl⟩,0x0,by rw[lc];omega,0x0,0x0,by rw[B0];omega,?_⟩;refine hN _ _ ⟨zs++[_],_,_,_,by rw[N5];rfl,hs.more ht f0 0x0 cl.1 cl.2,0x0⟩
  ·obtain⟨zs,s6,s9,s10,rfl,hs,hm'⟩:=hI;rw[Au,J4] at hs hm';have sl:=hs.len;generalize hZ:zs.map PV.str=Z;have Zl:Z.length=zs.length:=by rw[<- hZ,B0]
   right;refine⟨0x0,λe e0 e1=>?_⟩;obtain⟨x,hx,ex⟩:=V9 (xs:=[PV.str (A6 "drop"),PV.str (A6 "touch"),PV.str (A6 "none"),PV.str (A6 "d"),PV.str (A6 "u"),PV.str (A6 "t"),PV.str (A6 "o")]) e0 (by simpa using e1);rw[ex]
   obtain⟨y,rfl,by_⟩:∃z,x=.str z/\L8 z:=by
    simp only[B5,F6,or_false] at hx;rcases hx with rfl|rfl|rfl|rfl|rfl|rfl|rfl <;> exact⟨_,rfl,0b0,0b0,by unfold Ltr;decide⟩
   dsimp only;have fin:∀m2,m2<=n+100->R (.tup Z) m2:=λm2 h2=>by rw[<- hZ];exact h zs m2 0x0 ⟨hs.nd,hs.bt⟩ h2
   refine HW hZ ?_
   by_cases c:y∈zs
   ·exact if_f (by simp[c]) (fin _ 0x0)
   ·refine if_t (by simp[c]) ⟨0x0,λd2 d20 d21=>?_⟩
    by_cases c2:d2=0
    ·refine if_t (jq c2) ⟨⟨_,rfl⟩,⟨0x0,0x0,0x0⟩,λj j0 j1=>?_⟩;rw[X1 j0 0x0];dsimp only;have es:Z.set j.toNat (.str y)=(zs.set j.toNat y).map PV.str:=by rw[<- hZ,AT]
     rw[es];refine h _ _ (by rw[K7];ext) ⟨?_,λw hw=>?_⟩ 0x0
     ·exact RA hs.nd c j.toNat
     ·rcases List.mem_or_eq_of_mem_set hw with hw|hw
      ·exact hs.bt w hw
      ·rw[hw];exact by_
    ·exact if_f (jr c2) (fin _ 0x0)
abbrev pin (p:Nat):PV:=.int (p:Int)
def Nu (ms:List Mk)(p:Nat)(m:Mk):(ms.map mkP).set p (mkP m)=(ms.set p m).map mkP:=(AT).symm
def Uy:atI ((p::ps).reverse.map pin) (-1)=some (pin p):=by
 rw[b9,N5];exact Kv (ps.reverse.map pin) (pin p)
def Nv:((p::ps).reverse.map pin)[((p::ps).reverse.map pin).length-1]?=some (pin p)/\((p::ps).reverse.map pin).dropLast=ps.reverse.map pin:=by
 rw[b9,N5];refine⟨?_,0o0⟩;rw[R6 0o0];simp
abbrev wEnv (q:Nat)(many r:Int)(ms:List Mk)(ps:List Nat)(s5 s6:Option Pu.Slot):Pu.Env:=[some (.v (.pot q)),some (.v (.int many)),some (.v (.int r)),some (.own (ms.map mkP)),some (.own (ps.reverse.map pin)),s5,s6]
theorem Nw {i m:Nat}:∀(ps:List Nat),Seg r ps ms->(∀ps',Seg r ps' ms->(∀p ps'',ps'=p::ps''->(i:Int)-p-1<=r)->D.nx (wEnv q many r ms ps' (some (.v (.int (i:Int)))) s6) m)->
   V8 (qAnd (qB (qOpR (wNe 4) (qO 4) (qL (qLst qNil)))) (qB (qOp wGt (qOp wSub (qOp wSub (qV 5) (qOpR wIx (qO 4) (qUn wNeg (qC (.int 1))))) (qC (.int 1))) (qV 2)))) (qPut 3 (qC (.str (A6 "d"))) (qPop 4)) D (ps.length+1) (wEnv q many r ms ps (some (.v (.int (i:Int)))) s6) m
 | [], hs, h => by
  unfold V8 wEnv;right;exact h [] hs (λ_ _ e=>nomatch e)
 | p :: ps, hs, h => by
  have tp:=Uy (p:=p) (ps:=ps);have pp:=Nv (p:=p) (ps:=ps)
  have pa:((p::ps).reverse.map pin).all (cmpb 3)=true:=by
   have e:(p::ps).reverse.map pin=((p::ps).reverse.map λp=>((p:Nat):Int)).map PV.int:=by rw[R9];rfl
   rw[e];exact MC _ 3
  have pe:eqPs ((p::ps).reverse.map pin) []=false:=by
   cases hh:(p::ps).reverse.map pin with
   |nil=>simp at hh
   |cons a l=>rfl
  have base:=λc=>h (p::ps) hs c;obtain⟨hlt,hset,hs'⟩:=hs.popd;have rec_:=Nw (q:=q) (many:=many) (i:=i) (m:=m) (s6:=s6) (D:=D) ps hs' h;show V8 _ _ _ (ps.length+1+1) _ _;unfold wEnv at *;generalize (p::ps).reverse.map pin=PL at *;generalize hM:ms.map mkP=ML at *;have ml:ML.length=ms.length:=by rw[<- hM,B0]
  have mset:ML.set p (.str (A6 "d"))=ML:=by rw[<- hM];exact(Nu ms p .d).trans (by rw[hset])
  unfold V8;right;refine gd2 pa rfl (if_t (by rw[pe];rfl) ?_);rw[tp];dsimp only
  by_cases c:r<(i:Int)-p-1
  ·refine if_t (jq c) ⟨⟨_,rfl⟩,?_⟩;rw[pp.1];dsimp only;rw[X1 0x0 0x0];dsimp only;rw[T0,mset,pp.2];exact rec_
  ·exact if_f (jr c) (base λp' ps'' e=>by cases e;ext)
def m_word {q n many:Nat}(h24:many<=24)(hn:n<=999900000)(h:∀ms n',ms.length=many->run r 0 [] ms=some []->n'<=n+50->R (.lst (ms.map mkP)) n'):IC [.pot q,.int (many:Int),.int r] n R:=by
 mleft;unfold IB;right;refine⟨⟨0x0,0x0⟩,?_⟩;rw[T0];refine O3 (λi env m=>∃ms ps s5 s6,env=wEnv q many r ms ps s5 s6/\Seg r ps ms/\ms.length=i/\m<=n+2*i) _ 0 _ _ ⟨[],[],none,none,rfl,rfl,rfl,0x0⟩ (λi x env m N ex hI hN=>?_) (λenv m hI=>?_)
 ·obtain⟨ms,ps,s5,s6,rfl,hs,hl,hm⟩:=hI;obtain⟨hi,rfl⟩:=CU ex;rw[J4] at hl hm hN;have ei:(0:Int)+(i:Int)=(i:Int):=0x0
  rw[ei];have w:=λD=>Nw (q:=q) (many:=(many:Int)) (r:=r) (i:=i) (m:=m) (s6:=s6) (ms:=ms) (D:=D) ps hs;unfold wEnv at w ⊢;right;refine⟨ps.length+1,w _ λps' hs' top=>?_⟩;clear w hs;generalize hP:ps'.reverse.map pin=PL;generalize hM:ms.map mkP=ML;have ml:ML.length=ms.length:=by rw[<- hM,B0]
  right;refine⟨0x0,λw w0 w1=>?_⟩
  have pl:PL.length<=24:=by
   rw[<- hP,B0,k7];have:=hs'.len;ext
  have pa:PL.all (cmpb 3)=true:=by
   have e:ps'.reverse.map pin=(ps'.reverse.map λp=>((p:Nat):Int)).map PV.int:=by rw[R9];rfl
   rw[<- hP,e];exact MC _ 3
  have em:∀k:Pu.Mk,ML++[mkP k]=(ms++[k]).map mkP:=λk=>by rw[N5,hM];rfl
  have emd:ML++[PV.str (A6 "d")]=(ms++[Pu.Mk.d]).map mkP:=em Pu.Mk.d;have emo:ML++[PV.str (A6 "o")]=(ms++[Pu.Mk.o]).map mkP:=em Pu.Mk.o
  have push:∀s5 s6 m',m'<=m+2->N [some (.v (.pot q)),some (.v (.int (many:Int))),some (.v (.int r)),some (.own (ML++[PV.str (A6 "d")])),some (.own (PL++[PV.int (i:Int)])),s5,s6] m':=λs5 s6 m' hm'=>by
   have e2:PL++[PV.int (i:Int)]=(ms.length::ps').reverse.map pin:=by rw[b9,N5,hP,hl];rfl
   rw[emd,e2];exact hN _ _ ⟨_,_,_,_,rfl,hs'.push,by rw[C7,hl];rfl,0x0⟩
  have stay:∀s5 s6 m',m'<=m+2->N [some (.v (.pot q)),some (.v (.int (many:Int))),some (.v (.int r)),some (.own (ML++[PV.str (A6 "d")])),some (.own PL),s5,s6] m':=λs5 s6 m' hm'=>by
   rw[emd,<- hP];exact hN _ _ ⟨_,_,_,_,rfl,hs'.drop,by rw[C7,hl];rfl,0x0⟩
  refine gd2 pa rfl ?_;cases ps' with
  | nil =>
   have eP:PL=[]:=by rw[<- hP];rfl
   refine if_f (by rw[eP];rfl) ?_
   by_cases c2:w=2
   ·exact if_t (jq c2) ⟨⟨_,rfl⟩,0x0,⟨_,rfl⟩,0x0,push _ _ _ 0x0⟩
   refine if_f (jr c2) ?_
   by_cases c3:w=3
   ·exact if_t (jq c3) ⟨⟨_,rfl⟩,0x0,⟨_,rfl⟩,0x0,push _ _ _ 0x0⟩
   refine if_f (jr c3) ⟨⟨_,rfl⟩,gd2 pa rfl (if_f (by rw[eP];rfl) ⟨0x0,λd d0 d1=>?_⟩)⟩;obtain⟨z,hz,ez⟩:=V9 (xs:=[PV.str (A6 "o"),PV.str (A6 "o"),PV.str (A6 "d")]) d0 (by simpa using d1);rw[ez];dsimp only;refine⟨0x0,?_⟩
   have hz':z=PV.str (A6 "o")\/z=PV.str (A6 "d"):=by
    simp only[B5,F6,or_false] at hz;rcases hz with h|h|h
    ·exact .inl h
    ·exact .inl h
    ·exact .inr h
   rcases hz' with rfl|rfl
   ·rw[emo,<- hP];exact hN _ _ ⟨_,_,_,_,rfl,hs'.over,by rw[C7,hl];rfl,0x0⟩
   ·exact stay _ _ _ 0x0
  | cons p ps' =>
   have pe:eqPs PL []=false:=by
    rw[<- hP];cases hh:(p::ps').reverse.map pin with
    |nil=>simp at hh
    |cons a l=>rfl
   refine if_t (by rw[pe];rfl) ?_
   by_cases c1:w<2
   ·refine if_t (jq c1) ⟨⟨_,rfl⟩,?_⟩;obtain⟨pp1,pp2⟩:=Nv (p:=p) (ps:=ps');rw[hP] at pp1 pp2;rw[pp1];dsimp only;obtain⟨hlt,hs2⟩:=hs'.popt (by rw[hl];exact top p ps' rfl);rw[X1 0x0 0x0];dsimp only;rw[T0,pp2]
    have e3:ML.set p (PV.str (A6 "t"))++[PV.str (A6 "u")]=(ms.set p Pu.Mk.t++[Pu.Mk.u]).map mkP:=by
     rw[N5,<- Nu,hM];rfl
    rw[e3];refine⟨⟨_,rfl⟩,by rw[K7];omega,?_⟩;exact hN _ _ ⟨_,_,_,_,rfl,hs2,by rw[C7,K7,hl];rfl,0x0⟩
   refine if_f (jr c1) ?_
   by_cases c2:w=2
   ·exact if_t (jq c2) ⟨⟨_,rfl⟩,0x0,⟨_,rfl⟩,0x0,push _ _ _ 0x0⟩
   refine if_f (jr c2) ?_
   by_cases c3:w=3
   ·exact if_t (jq c3) ⟨⟨_,rfl⟩,0x0,⟨_,rfl⟩,0x0,push _ _ _ 0x0⟩
   exact if_f (jr c3) ⟨⟨_,rfl⟩,gd2 pa rfl (if_t (by rw[pe];rfl) ⟨0x0,stay _ _ _ 0x0⟩)⟩
 ·obtain⟨ms,ps,s5,s6,rfl,hs,hl,hm⟩:=hI;rw[J4,Au] at hl hm;have:=h ms m (by simpa using hl) hs.wrd 0x0;unfold wEnv;generalize hM:ms.map mkP=ML at *;right;exact this
def Uz (hk:k<zs.length)(m:Pu.Mk)(ms:List Pu.Mk):zipP ((zs.drop k).map PV.str) ((m::ms).map mkP)=.tup [.str (nm zs k),mkP m]::zipP ((zs.drop (k+1)).map PV.str) (ms.map mkP):=by
 have e:zs.drop k=nm zs k::zs.drop (k+1):=by
  rw[x6 hk];have:=R1 hk;rw[C9 hk] at this;rw[L4 this]
 rw[e];rfl
abbrev pst (zs:List Str)(st:List Nat):List PV:=st.reverse.map λp=>PV.str (nm zs p)
def UA:(pst zs (p::ps))[(pst zs (p::ps)).length-1]?=some (.str (nm zs p))/\(pst zs (p::ps)).dropLast=pst zs ps:=by
 unfold pst;rw[b9,N5];refine⟨?_,0o0⟩;rw[R6 0o0];simp
theorem Nx:∀(ms:List Pu.Mk) (k:Nat) (st:List Nat) (jm:List Ev) (s4 s5:Option Pu.Slot),run r k st ms=some []->k+ms.length=zs.length->jm.length<=k->st.length<=k->zs.length<=24->
   (∀s4 s5 pl,D.nx [some (.v (rowP zs)),some (.v X),some (.own pl),some (.own ((jm++(shE k st ms).map (evOf zs)).map evP)),s4,s5] n)->
   forL (gTp 2 (gCn (gN 4) (gCn (gN 5) gNl))) (qIfS (qB (qOp (wEq 4) (qV 5) (qC (.str (A6 "t"))))) (J0 (M4 2 (qV 4))) (qIfS (qB (qOp (wEq 4) (qV 5) (qC (.str (A6 "u"))))) (J0 (M4 3 (qTup (A0 (qC (.str (A6 "touch"))) (A0 (qV 4) (A0 (qPop 2) qNil)))))) (qIfS (qB (qOp (wEq 4) (qV 5) (qC (.str (A6 "d"))))) (J0 (M4 3 (qTup (A0 (qC (.str (A6 "drop"))) (A0 (qV 4) qNil))))) qNx))) D
     (zipP ((zs.drop k).map PV.str) (ms.map mkP)) [some (.v (rowP zs)),some (.v X),some (.own (pst zs st)),some (.own (jm.map evP)),s4,s5] n
 | [], k, st, jm, s4, s5, hr, hk, _, _, _, h => by
  have:zipP ((zs.drop k).map PV.str) ([]:List PV)=[]:=by unfold zipP;simp
  rw[l5,this];have:=h s4 s5 (pst zs st);simp only[shE,l5,W5] at this;exact this
 | m :: ms, k, st, jm, s4, s5, hr, hk, ha, hs, h24, h => by
  rw[D5] at hk;rw[Uz 0x0];have go:=Nx (zs:=zs) (r:=r) (n:=n) (D:=D) (X:=X) ms (k+1);have pl:(pst zs st).length<=24:=by unfold pst;rw[B0,k7];omega
  have al:(jm.map evP).length<=24:=by rw[B0];ext
  have e1:∀e:Ev,jm.map evP++[evP e]=(jm++[e]).map evP:=λe=>by rw[N5];rfl
  unfold rowP at *;generalize hZ:zs.map PV.str=Z at *;generalize hA:jm.map evP=AL at *;unfold forL;have nt:∀z,(decide (mkS m=z))=decide (mkS m=z):=λ_=>rfl;cases m with
  | t =>
   have h':=go (k::st) jm (some (.v (.str (nm zs k)))) (some (.v (mkP .t))) hr 0x0 0x0 (by rw[D5];ext) h24 h;have e2:pst zs st++[.str (nm zs k)]=pst zs (k::st):=by unfold pst;rw[b9,N5];rfl
   rw[hA,<- e2] at h';generalize pst zs st=PS at *;rw[show mkP .t=.str (mkS .t) from rfl] at *;right;refine(if_t (by rw[mk_t];rfl) ⟨⟨_,rfl⟩,0x0,h'⟩)
  | o =>
   cases st with
   |cons p st=>cases hr
   | nil =>
    have h':=go [] jm (some (.v (.str (nm zs k)))) (some (.v (mkP .o))) hr 0x0 0x0 0o0 h24 h;rw[hA] at h';generalize pst zs []=PS at *;rw[show mkP .o=.str (mkS .o) from rfl] at *;right;refine(if_f (by rw[mk_t];rfl) ((if_f (by rw[mk_u];rfl) ((if_f (by rw[mk_d];rfl) h')))))
  | d =>
   have h':=go st (jm++[.d (nm zs k)]) (some (.v (.str (nm zs k)))) (some (.v (mkP .d))) hr 0x0 (by rw[C7,Q5];ext) 0x0 h24 (by
    intro s4 s5 pl;have:=h s4 s5 pl;rw[R8]
    exact this)
   rw[<- e1] at h';generalize pst zs st=PS at *;rw[show mkP .d=.str (mkS .d) from rfl] at *;right;refine(if_f (by rw[mk_t];rfl) ((if_f (by rw[mk_u];rfl) ((if_t (by rw[mk_d];rfl) ⟨⟨_,rfl⟩,0x0,h'⟩)))))
  | u =>
   cases st with
   |nil=>cases hr
   | cons p st =>
    have hr':run r (k+1) st ms=some []:=by
     have:(if(k:Int)-p-1<=r then run r (k+1) st ms else none)=some []:=hr
     split at this
     ·exact this
     ·cases this
    have h':=go st (jm++[.t (nm zs k) (nm zs p)]) (some (.v (.str (nm zs k)))) (some (.v (mkP .u))) hr' 0x0 (by rw[C7,Q5];omega) (by rw[D5] at hs;omega) h24 (by
     intro s4 s5 pl;have:=h s4 s5 pl;rw[R8]
     exact this)
    rw[<- e1] at h';obtain⟨pp1,pp2⟩:=UA (zs:=zs) (p:=p) (ps:=st);rw[<- pp2] at h';generalize pst zs (p::st)=PS at *;rw[show mkP .u=.str (mkS .u) from rfl] at *;right;refine(if_f (by rw[mk_t];rfl) ((if_t (by rw[mk_u];rfl) ⟨⟨_,rfl⟩,?_⟩)));rw[pp1];dsimp only;exact⟨0x0,h'⟩
theorem BR:∀(m:List Pu.Mk) (k:Nat) (st:List Nat),(shE k st m).length<=m.length
 |[],_,_=>by simp[shE]
 |.t::m,k,st=>by have:=BR m (k+1) (k::st);show(shE (k+1) (k::st) m).length<=m.length+1;ext
 |.d::m,k,st=>by have:=BR m (k+1) st;show(PE.d k::shE (k+1) st m).length<=m.length+1;rw[D5];ext
 |.o::m,k,st=>by have:=BR m (k+1) st;unfold shE;rw[D5];ext
 |.u::m,k,[]=>by have:=BR m (k+1) [];unfold shE;rw[D5];ext
 |.u::m,k,p::st=>by have:=BR m (k+1) st;show(PE.t k p::shE (k+1) st m).length<=m.length+1;rw[D5];ext
def UB {zs:List Str}{ms:List Pu.Mk}{r:Int}{n:Nat}{R:PV->Nat->Prop}(hl:ms.length=zs.length)(h24:zs.length<=24)(hw:run r 0 [] ms=some [])(h:∀es:List Ev,es.Perm ((shE 0 [] ms).map (evOf zs))->Srt (es.map evP) (((shE 0 [] ms).map (evOf zs)).map evP)->R (shP es) n):Iz [rowP zs,.lst (ms.map mkP)] n R:=by
 mleft;unfold Iy;have go:=λD s4 s5=>Nx (zs:=zs) (r:=r) (n:=n) (D:=D) (X:=.lst (ms.map mkP)) ms 0 [] [] s4 s5 hw 0x0 0o0 0o0 h24;simp only[y3,l4] at go;unfold rowP at *;generalize hM:ms.map mkP=ML at *;generalize hZ:zs.map PV.str=Z at *;right;unfold BE;refine go _ _ _ λs4 s5 pl=>?_;have so:=Td ((shE 0 [] ms).map (evOf zs));have sl:=BR ms 0 []
 have hh:∀ys,Srt ys (((shE 0 [] ms).map (evOf zs)).map evP)->R (.tup ys) n:=λys hy=>by
  obtain⟨es,rfl,p⟩:=Te hy;exact h es p hy
 grind
def UC {zs:List Str}{es:List Ev}{n:Nat}{R:PV->Nat->Prop}(h24:zs.length<=1000)(hb:∀b∈es.flatMap evB,b∈zs)(h:R (rowP (aft zs es)) n):IE [rowP zs,shP es] n R:=by
 mleft;unfold ID;unfold rowP shP at *;have hix:∀z∈zs,∀{R:PV->Prop},R (.int (ixS zs z))->Z5 (.tup (zs.map PV.str)) (.str z) R:=λz hz {R} q=>m_ix rfl hz 0x0 q
 have go:∀(D:p7) (hD:∀s3,D.nx [some (.v (.tup (zs.map PV.str))),some (.v (.tup (es.map evP))),some (.own ((es.foldl (setE zs) zs).map PV.str)),s3] n),forL (gN 3) (qIfS (qB (qOp (wEq 4) (qOp wIx (qV 3) (qC (.int 0))) (qC (.str (A6 "touch"))))) (qSeq (qPut 2 (qOp wIx (qV 3) (qC (.int 2))) (N1 (qV 0) (qOp wIx (qV 3) (qC (.int 1))))) (qPut 2 (qOp wIx (qV 3) (qC (.int 1))) (N1 (qV 0) (qOp wIx (qV 3) (qC (.int 2)))))) qNx) D (es.map evP) [some (.v (.tup (zs.map PV.str))),some (.v (.tup (es.map evP))),some (.own (zs.map PV.str)),none] n:=by
  intro D hD;have hbe:∀e∈es,∀b∈evB e,b∈zs:=λe he b hb'=>hb b (d7.mpr ⟨e,he,hb'⟩);generalize hZ:zs.map PV.str=Z at *;generalize hE:es.map evP=E at *;refine O3 (λi env m=>∃s3,env=[some (.v (.tup Z)),some (.v (.tup E)),some (.own (((es.take i).foldl (setE zs) zs).map PV.str)),s3]/\m=n) _ 0 _ _ ⟨none,by rw[List.take_zero,List.foldl_nil,hZ],rfl⟩ (λi x env m N ex hI hN=>?_) (λenv m hI=>?_)
  ·obtain⟨s3,rfl,rfl⟩:=hI;rw[<- hE] at ex;obtain⟨e,ee,rfl⟩:=Dj ex;rw[J4] at hN ⊢;have st:(es.take (i+1)).foldl (setE zs) zs=setE zs ((es.take i).foldl (setE zs) zs) e:=by rw[Fd ee,List.foldl_append];rfl
   have fl:((es.take i).foldl (setE zs) zs).length=zs.length:=Fc zs (es.take i);rw[st] at hN;generalize (es.take i).foldl (setE zs) zs=f at *;have em:=hbe e (G4 ee);generalize hF:f.map PV.str=FL at *;have FLl:FL.length=zs.length:=by rw[<- hF,B0];exact fl
   cases e with
   | d x =>
    rw[HX];right;exact if_f MN (hN _ _ ⟨_,by rw[show setE zs f (.d x)=f from rfl,hF],rfl⟩)
   | t x y =>
    have hx:=em x (by simp[evB]);have hy:=em y (by simp[evB]);have lx:=M5 hx;have ly:=M5 hy;rw[N2];right;refine⟨⟨_,rfl⟩,?_⟩;refine⟨⟨_,rfl⟩,hix x hx ?_⟩;dsimp only;rw[X1 0x0 0x0];dsimp only;refine⟨⟨_,rfl⟩,⟨_,rfl⟩,hix y hy ?_⟩;dsimp only;rw[X1 0x0 (by grind)];dsimp only;rw[T0,T0]
    have e3:(FL.set (ixS zs x) (.str y)).set (ixS zs y) (.str x)=(setE zs f (.t x y)).map PV.str:=by
     show _=((f.set (ixS zs x) y).set (ixS zs y) x).map PV.str;rw[AT,AT,hF]
    rw[e3];exact hN _ _ ⟨_,rfl,rfl⟩
  ·grind
 generalize hE:es.map evP=E at *;generalize hZ:zs.map PV.str=Z at *;right;refine go _ λs3=>?_;have h':=h;unfold aft at h';generalize (es.foldl (setE zs) zs).map PV.str=FL at *;right;exact h'
def FX {R:PV->Nat->Prop}(h1:1<=s)(hn:1<=n)(h:R (.int (((n+s-1)/s:Nat):Int)) m)(h8:s<=8):u7 [.tup [.int (s:Int),.int r],.int (n:Int)] m R:=by
 mleft;unfold IA;right;refine⟨⟨0x0,0x0⟩,?_⟩
 have e:((n:Int)+s-1)/s=(((n+s-1)/s:Nat):Int):=by
  rw[show(n:Int)+s-1=((n+s-1:Nat):Int) by omega]
  rfl
 rw[e];exact h
def JD {R:PV->Nat->Prop}(h8:s<=8)(hn:1<=n)(hk:k<=1000)(h:R (.tup [.int ((k*s:Nat):Int),.int ((hiN s n k:Nat):Int)]) m):Dp [.tup [.int (s:Int),.int r],.int (n:Int),.int (k:Int)] m R:=by
 mleft;unfold Ix;right;refine⟨.inr ⟨0x0,0x0⟩,?_⟩;have e2:(k:Int)*s=((k*s:Nat):Int):=(Int.natCast_mul k s).symm;rw[e2];unfold hiN at h
 by_cases c:k*s+s<n
 ·refine if_t (jq 0x0) ?_
  try dsimp only
  rw[show((k*s:Nat):Int)+(s:Int)=((min (k*s+s) (n-1):Nat):Int) by omega];exact h
 ·refine if_f (jr 0x0) ?_
  try dsimp only
  rw[show(n:Int)-1=((min (k*s+s) (n-1):Nat):Int) by omega];exact h
def Ny {R:PV->Nat->Prop}(h8:s<=8)(hn:1<=n)(hk:k<=1000)(h:R (.tup [.int ((k*s:Nat):Int),.int ((hiN s n k:Nat):Int)]) m):Fs [.tup [.int (s:Int),.int r],.int (n:Int),.int (k:Int)] m R:=by
 mleft;unfold IH;right;refine⟨.inr ⟨0x0,0x0⟩,?_⟩;have e2:(k:Int)*s=((k*s:Nat):Int):=(Int.natCast_mul k s).symm
 have e:(if(n:Int)-1<(k:Int)*s+s then(n:Int)-1 else(k:Int)*s+s)=((hiN s n k:Nat):Int):=by
  rw[e2];unfold hiN
  split <;> ext
 try dsimp only
 rw[e,e2];exact h
def UD (hl:es.length<=1000000)(h:R (.lst ((es.filter isTo).map evP)) n):I_ [shP es] n R:=by
 mleft;unfold IZ shP;generalize hE:es.map evP=E;have El:E.length=es.length:=by rw[<- hE,B0]
 right;refine⟨0x0,?_⟩;rw[<- hE];refine i5 evP isTo _ _ _ _ (λe he m Q hQ=>?_) h;cases e with
 | d x =>
  rw[HX] at *;right;rw[MN];exact hQ
 | t x y =>
  rw[N2] at *;right;exact hQ
def UE {R:PV->Nat->Prop}(hi:i<f.length)(hj:j<f.length)(h:R (rowP (exch f i j)) n):Jb [rowP f,.int (i:Int),.int (j:Int)] n R:=by
 mleft;unfold Ja;unfold rowP at *;have ai:∀{k:Nat},k<f.length->atI (f.map PV.str) (k:Int)=some (.str (nm f k)):=λ{k} hk=>P2 (by rw[D4,R1 hk];rfl);have e:((f.map PV.str).set i (.str (nm f j))).set j (.str (nm f i))=(exch f i j).map PV.str:=by unfold exch;rw[AT,AT]
 generalize hF:f.map PV.str=F at *;have Fl:F.length=f.length:=by rw[<- hF,B0]
 right;rw[ai hj];dsimp only;rw[ai hi];dsimp only;refine⟨⟨_,rfl⟩,?_⟩;rw[X1 0x0 0x0];dsimp only;rw[X1 0x0 (by rw[K7];ext)];dsimp only;rw[T0,T0,e];exact h
def m_rowb (h24:zs.length<=1000)(hl:es.length<=1000)(hb:∀b∈es.flatMap evB,b∈zs)(h:R (rowP (rbh zs es)) n):Jd [rowP zs,shP es] n R:=by
 mleft;unfold Jc;have hix:∀z∈zs,∀{R:PV->Prop},R (.int (ixS zs z))->Z5 (.tup (zs.map PV.str)) (.str z) R:=λz hz {R} q=>m_ix rfl hz 0x0 q;have hbe:∀e∈es,∀b∈evB e,b∈zs:=λe he b hb'=>hb b (d7.mpr ⟨e,he,hb'⟩);generalize hS:shP es=S;have hr0:rowP zs=.tup (zs.map PV.str):=rfl;generalize hZ:zs.map PV.str=Z at *;rw[hr0];right;rw[<- hS];refine UD 0x0 ?_;dsimp only;rw[hS];refine O3 (λi env m=>∃s3,env=[some (.v (.tup Z)),some (.v S),some (.v (rowP (((es.filter isTo).take i).foldl (exE zs) zs))),s3]/\m=n) _ 0 _ _ ⟨none,by rw[List.take_zero,List.foldl_nil,hr0],rfl⟩ (λi x env m N ex hI hN=>?_) (λenv m hI=>?_)
 ·obtain⟨s3,rfl,rfl⟩:=hI;obtain⟨e,ee,rfl⟩:=Dj ex;rw[J4] at hN ⊢;have st:((es.filter isTo).take (i+1)).foldl (exE zs) zs=exE zs (((es.filter isTo).take i).foldl (exE zs) zs) e:=by rw[Fd ee,List.foldl_append];rfl
  have fl:(((es.filter isTo).take i).foldl (exE zs) zs).length=zs.length:=Ig zs _ _;rw[st] at hN;generalize ((es.filter isTo).take i).foldl (exE zs) zs=f at *;obtain⟨he,ht⟩:=G8.mp (G4 ee);have em:=hbe e he;cases e with
  |d x=>cases ht
  | t x y =>
   have hx:=em x (by simp[evB]);have hy:=em y (by simp[evB]);have lx:=M5 hx;have ly:=M5 hy;rw[N2];generalize hF:rowP f=F;right;refine⟨⟨_,rfl⟩,hix x hx ?_⟩;refine⟨⟨_,rfl⟩,hix y hy ?_⟩;rw[<- hF];refine UE 0x0 0x0 ?_;exact hN _ _ ⟨_,rfl,rfl⟩
 ·obtain⟨s3,rfl,rfl⟩:=hI;rw[J4,B0,List.take_length,Ih];have h':R (rowP (es.foldl (exE zs) zs)) m:=h;generalize rowP (es.foldl (exE zs) zs)=F at *;right;exact h'
def u9 (hn:1<=n):hiN s n k+1<=n:=by unfold hiN;ext
def FY {row:List Str}{R:PV->Nat->Prop}(h8:s<=8)(hn:1<=n)(hl:row.length=n)(hk:k<=1000)(h:R (rowP (C0 s n k row)) m):j3 [.tup [.int (s:Int),.int r],rowP row,.int (k:Int)] m R:=by
 mleft;unfold II
 have e:cutP (row.map PV.str) (some ((k*s:Nat):Int)) (some (((hiN s n k:Nat):Int)+1))=(C0 s n k row).map PV.str:=by
  rw[X3,show((hiN s n k:Nat):Int)+1=((hiN s n k+1:Nat):Int) by omega,Fe row (by rw[hl];exact u9 hn)]
  rfl
 unfold rowP at *;generalize hZ:row.map PV.str=Z at *;have Zl:Z.length=n:=by rw[<- hZ,B0];exact hl
 right;rw[Zl];refine Ny h8 hn hk ?_;right;rw[e];exact h
def m_put {row b:List Str}{R:PV->Nat->Prop}(h8:s<=8)(hn:1<=n)(h24:n<=1000)(hl:row.length=n)(hb:b.length<=1000)(hk:k<=1000)(h:R (rowP (putN s n k row b)) m):IY [.tup [.int (s:Int),.int r],rowP row,.int (k:Int),rowP b] m R:=by
 mleft;unfold IX;have e1:cutP (row.map PV.str) none (some ((k*s:Nat):Int))=(row.take (k*s)).map PV.str:=by rw[X3,i8]
 have e2:cutP (row.map PV.str) (some (((hiN s n k:Nat):Int)+1)) none=(row.drop (hiN s n k+1)).map PV.str:=by
  rw[X3,show((hiN s n k:Nat):Int)+1=((hiN s n k+1:Nat):Int) by omega,Z6]
 have l1:((row.take (k*s)).map PV.str).length<=1000:=by rw[B0,J7];ext
 have l2:((row.drop (hiN s n k+1)).map PV.str).length<=1000:=by rw[B0,J8];ext
 have e3:(row.take (k*s)).map PV.str++b.map PV.str++(row.drop (hiN s n k+1)).map PV.str=(putN s n k row b).map PV.str:=by unfold putN;rw[N5,N5]
 unfold rowP at *;generalize hZ:row.map PV.str=Z at *;generalize hB:b.map PV.str=B at *;have Bl:B.length=b.length:=by rw[<- hB,B0]
 have Zl:Z.length=n:=by rw[<- hZ,B0];exact hl
 right;rw[Zl];refine Ny h8 hn hk ?_;right;rw[e1,e2];refine⟨0x0,by rw[C7];omega,?_⟩;rw[e3];exact h
def UF (h8:s<=8)(hn:1<=n)(h24:n<=1000)(hl:row.length=n)(hk:k<=1000)(he:es.length<=1000)(hb:∀b∈es.flatMap evB,b∈C0 s n k row)(h:R (rowP (putN s n k row (rbh (C0 s n k row) es))) m):FA [.tup [.int (s:Int),.int r],rowP row,.int (k:Int),shP es] m R:=by
 mleft;unfold Je;have sl:(C0 s n k row).length<=1000:=by rw[AB hl hn];have:=u9 (s:=s) (k:=k) hn;ext
 have rl:(rbh (C0 s n k row) es).length<=1000:=by rw[show(rbh (C0 s n k row) es).length=_ from Ig _ _ _];exact sl
 generalize hS:shP es=S;generalize hW:rowP row=W;right;rw[<- hW];refine FY h8 hn hl hk ?_;rw[<- hS];refine m_rowb sl he hb ?_;exact m_put h8 hn h24 hl rl hk h
def ins0 {α:Type}(xs:List α)(y:α):insL xs (0:Int).toNat y=y::xs:=rfl
def m_day
   (hP:∀st ms es,RowS st->st.length<=n->ms.length=st.length->run r 0 [] ms=some []->es.Perm ((shE 0 [] ms).map (evOf st))->Srt (es.map evP) (((shE 0 [] ms).map (evOf st)).map evP)->P st es) (hf:∀st es,P st es->Fair st es)
   (h1:1<=s) (h8:s<=8) (hn:1<=n) (h24:n<=24) (hr:RowS row) (hl:row.length=n) (hn0:n0<=999000000)
   (h:∀ess sts r' n',Dy P s n ((n+s-1)/s) row ((n+s-1)/s) ess sts r'->n'<=n0+2000->R (.tup [dayP ess,.tup (sts.map rowP),rowP r']) n'):Fp [.pot q,.tup [.int (s:Int),.int r],rowP row] n0 R:=by
 mleft;unfold IF;have rl:(row.map PV.str).length=n:=by rw[B0];exact hl
 have mle:=MO (s:=s) (n:=n) h1 hn;generalize hW:rowP row=W;have hW':W=.tup (row.map PV.str):=by rw[<- hW]
 right;rw[hW'];simp only[wLen,rl];refine FX h1 hn ?_ h8;generalize hmx:(n+s-1)/s=mx at *;refine⟨⟨0x0,0x0⟩,?_⟩;rw[T0];refine O3 (λi env m=>∃ess sts r' s5 s6 s7 s8 s9,env=[some (.v (.pot q)),some (.v (.tup [.int (s:Int),.int r])),some (.v (rowP r')),some (.own (ess.map shP)),some (.own (sts.map rowP)),s5,s6,s7,s8,s9]/\Dy P s n mx row i ess sts r'/\m<=n0+50*i) _ 0 _ _ ⟨[],[],row,_,_,_,_,_,rfl,.nil,0x0⟩ (λi x env m N ex hI hN=>?_) (λenv m hI=>?_)
 ·obtain⟨ess,sts,r',s5,s6,s7,s8,s9,rfl,hd,hm⟩:=hI;obtain⟨hi,rfl⟩:=Ia ex;rw[J4] at hd hm hN;obtain⟨rS,rL⟩:=hd.rows h1 hn hmx.symm hf hr hl;have el:=hd.len;have ek:(mx:Int)-1-i=((mx-1-i:Nat):Int):=0x0
  have kp:(mx-1-i)*s<=n-1:=Ff h1 hn 0x0;rw[ek];have step:=λes hp=>Dy.cons (es:=es) hd hi hp;generalize mx-1-i=k at *;have kh:=Fg (s:=s) (n:=n) kp;have hh:=u9 (s:=s) (k:=k) hn
  have e1:cutP (r'.map PV.str) (some ((k*s:Nat):Int)) (some (((hiN s n k:Nat):Int)+1))=(C0 s n k r').map PV.str:=by
   rw[X3,show((hiN s n k:Nat):Int)+1=((hiN s n k+1:Nat):Int) by omega,Fe r' (by rw[rL];exact hh)]
   rfl
  have e2:cutP (r'.map PV.str) none (some ((k*s:Nat):Int))=(r'.take (k*s)).map PV.str:=by rw[X3,i8]
  have e3:cutP (r'.map PV.str) (some (((hiN s n k:Nat):Int)+1)) none=(r'.drop (hiN s n k+1)).map PV.str:=by
   rw[X3,show((hiN s n k:Nat):Int)+1=((hiN s n k+1:Nat):Int) by omega,Z6]
  have stS:=Z7 (s:=s) (n:=n) (k:=k) rS;have stL:=AB (s:=s) (k:=k) rL hn;have l1:((r'.take (k*s)).map PV.str).length<=24:=by rw[B0,J7];ext
  have l2:((r'.drop (hiN s n k+1)).map PV.str).length<=24:=by rw[B0,J8];ext
  have aL:∀es,((aft (C0 s n k r') es).map PV.str).length<=24:=λes=>by rw[B0,Fc];ext
  have e4:∀es,(r'.take (k*s)).map PV.str++(aft (C0 s n k r') es).map PV.str++(r'.drop (hiN s n k+1)).map PV.str=(putN s n k r' (aft (C0 s n k r') es)).map PV.str:=λes=>by unfold putN;rw[N5,N5]
  have sl:((C0 s n k r').map PV.str).length=(C0 s n k r').length:=by rw[B0]
  have rl':(r'.map PV.str).length=n:=by rw[B0];exact rL
  have hE:(ess.map shP).length<1000000:=by rw[B0];ext
  have hS:(sts.map rowP).length<1000000:=by rw[B0];ext
  have ec:∀es,shP es::ess.map shP=(es::ess).map shP:=λ_=>rfl;have ed:∀st,rowP st::sts.map rowP=(st::sts).map rowP:=λ_=>rfl;generalize hES:ess.map shP=ES at *;generalize hST:sts.map rowP=ST at *;unfold rowP at *;generalize hZ:r'.map PV.str=Z at *;right;rw[rl'];refine JD h8 hn 0x0 ?_;right;rw[e1];generalize hG:C0 s n k r'=st at *;generalize hQ:st.map PV.str=SP at *;rw[sl];refine m_word 0x0 0x0 λms n' hml hw hn'=>?_;rw[<- hQ];refine UB hml 0x0 hw λes pe se=>?_;have hp:=hP st ms es stS 0x0 hml hw pe se;have fr:=hf st es hp;refine UC 0x0 fr.sub ?_
  try dsimp only
  have aL':=aL es;rw[e2,e3];refine⟨0x0,by rw[C7];omega,?_⟩;rw[e4];refine⟨⟨_,rfl⟩,hE,⟨_,rfl⟩,hS,?_⟩;have stp:=step es hp;have x1:insL ES (0:Int).toNat (shP es)=(es::ess).map shP:=by rw[ins0,<- hES];rfl
  have x2:insL ST (0:Int).toNat (PV.tup (st.map PV.str))=(st::sts).map rowP:=by rw[ins0,<- hST];rfl
  rw[x1,x2];exact hN _ _ ⟨_,_,_,_,_,_,_,_,rfl,stp,0x0⟩
 ·obtain⟨ess,sts,r',s5,s6,s7,s8,s9,rfl,hd,hm⟩:=hI;rw[J4,Ib] at hd hm;have:=h ess sts r' m hd 0x0;unfold dayP at this;generalize ess.map shP=ES at *;generalize sts.map rowP=ST at *;generalize rowP r'=RP at *;right;exact this
def m_meet {q n0:Nat}{mo:Int}{R:PV->Nat->Prop}(mo6:6<=mo)(mo24:mo<=24)(hn0:n0<=999000000)(h:∀(s r:Nat) zs n',1<=s->s<=8->r<=7->1<=zs.length->zs.length<=24->RowS zs->n'<=n0+200->R (.tup [.tup [.int (s:Int),.int (r:Int)],rowP zs]) n'):Iw [.pot q,.int mo] n0 R:=by
 mleft;unfold Iv;right;refine⟨0x0,λd0 d00 d01=>⟨0x0,λd1 d10 d11=>⟨0x0,λd2 d20 d21=>?_⟩⟩⟩;obtain⟨x,hx,ex⟩:=V9 (xs:=[PV.int 0,PV.int 1,PV.int 7,PV.int d1]) d20 (by simpa using d21)
 obtain⟨r,rfl,r0,r7⟩:∃v:Int,x=.int v/\0<=v/\v<=7:=by
  simp only[B5,F6,or_false] at hx;rcases hx with rfl|rfl|rfl|rfl <;> exact⟨_,rfl,0x0,0x0⟩
 rw[ex];dsimp only;obtain⟨s,rfl⟩:=Aa d00;obtain⟨r,rfl⟩:=Aa r0;refine⟨0x0,λd3 d30 d31=>⟨0x0,λd4 d40 d41=>⟨0x0,λd5 d50 d51=>?_⟩⟩⟩
 have d41':d4<6:=by
  have:(if(6:Int)<mo then(6:Int) else mo)<=6:=by split <;> ext
  ext
 obtain⟨y,hy,ey⟩:=V9 (xs:=[PV.int (1+d3),PV.int (1+d4)]) d50 (by simpa using d51)
 obtain⟨many,rfl,m0,m1⟩:∃v:Int,y=.int v/\1<=v/\v<=24:=by
  simp only[B5,F6,or_false] at hy;rcases hy with rfl|rfl <;> exact⟨_,rfl,0x0,0x0⟩
 rw[ey];dsimp only;refine Ux m0 m1 0x0 λzs n' zl zr hn'=>?_;have e:(1:Int)+(s:Int)=((1+s:Nat):Int):=0x0
 rw[e];exact h (1+s) r zs n' 0x0 0x0 0x0 0x0 0x0 zr 0x0
def UG (h:Srt ys [.int a,.int b]):ys=[.int (min a b),.int (max a b)]:=by
 obtain⟨p,q⟩:=h;have l:=p.length_eq
 match ys,l with
 | [u, v], _ =>
  have hq:lexK (keyP v) (keyP u)=false:=by simpa using q
  have two:(u=.int a/\v=.int b)\/(u=.int b/\v=.int a):=by
   have hu:u∈[PV.int a,PV.int b]:=p.mem_iff.mp 0o0;rcases B5.mp hu with e|hu
   ·subst e;exact .inl ⟨rfl,by simpa using(List.perm_cons _).mp p⟩
   ·have e:u=.int b:=by simpa using hu
    subst e;have p2:=p.trans (List.Perm.swap (PV.int b) (PV.int a) []);exact .inr ⟨rfl,by simpa using(List.perm_cons _).mp p2⟩
  rcases two with⟨rfl,rfl⟩|⟨rfl,rfl⟩
  ·have:¬b<a:=by
    intro c
    have e:lexK [M9 b] [M9 a]=true:=by
     show(if(M9 b:Key)=M9 a then lexK [] [] else decide (b<a))=true;rw[ju (by intro z;cases z;ext)];exact jq c
    rw[show keyP (PV.int b)=[M9 b] from rfl,show keyP (PV.int a)=[M9 a] from rfl,e] at hq;cases hq
   rw[show min a b=a by omega,show max a b=b by omega]
  ·have:¬a<b:=by
    intro c
    have e:lexK [M9 a] [M9 b]=true:=by
     show(if(M9 a:Key)=M9 b then lexK [] [] else decide (a<b))=true;rw[ju (by intro z;cases z;ext)];exact jq c
    rw[show keyP (PV.int b)=[M9 b] from rfl,show keyP (PV.int a)=[M9 a] from rfl,e] at hq;cases hq
   rw[show min a b=b by omega,show max a b=a by omega]
def JE (hs:st.length<=100)(hx:x∈st)(hy:y∈st)(h:R (rowP (btwU st x y)) n):AD [rowP st,evP (.t x y)] n R:=by
 mleft;unfold IN;have hix:∀z∈st,∀{R:PV->Prop},R (.int (ixS st z))->Z5 (.tup (st.map PV.str)) (.str z) R:=λz hz {R} q=>m_ix rfl hz 0x0 q;have hr0:rowP st=.tup (st.map PV.str):=rfl;have lx:=M5 hx;have ly:=M5 hy
 have hcut:cutP (st.map PV.str) (some (min (ixS st x:Int) (ixS st y)+1)) (some (max (ixS st x:Int) (ixS st y)))=(btwU st x y).map PV.str:=by
  have:=Fe (st.map PV.str) (a:=min (ixS st x) (ixS st y)+1) (b:=max (ixS st x) (ixS st y)) (by rw[B0];ext);unfold btwU;rw[List.map_drop,List.map_take,<- this]
  congr 2 <;> ext
 generalize hZ:st.map PV.str=Z at *;rw[hr0,N2];right;refine⟨⟨_,rfl⟩,hix x hx ?_⟩;refine⟨⟨_,rfl⟩,hix y hy ?_⟩;refine⟨.inl 0o0,λys hys=>?_⟩;rw[UG hys];mleft;right;rw[hcut];exact h
def m_far (hs:st.length<=100)(hx:x∈st)(hy:y∈st)(h:R (.bl (decide (r<((btwU st x y).length:Int)))) n):Fw [rowP st,.int r,evP (.t x y)] n R:=by
 mleft;unfold IP;generalize hS:rowP st=S;generalize hT:evP (.t x y)=T;right;subst hS hT;refine JE hs hx hy ?_;dsimp only;rw[B0];exact h
def Nz {rest:Pu.Env}{pi:pA}{α:Type}(f:α->PV)(g:α->List PV):∀(xs:List α) (s0 s1:Option Pu.Slot) (n:Nat) (R:List PV->Nat->Prop),(∀x∈xs,∀s1 m Q,Q (g x) (some (.v (f x))::s1::rest) m->pi (some (.v (f x))::s1::rest) m Q)->(∀x∈xs,(g x).length<=1000)->R (xs.flatMap g) n->BJ (gN 0) pi (gN 1) qTru (qV 1) (xs.map f) (s0::s1::rest) n R:=by
 intro xs
 induction xs with
 |nil=>intro _ _ _ _ _ _ h;exact h
 | cons x xs ih =>
  intro s0 s1 n R hp hl h;show pi (some (.v (f x))::s1::rest) n _;refine hp x B8 _ _ _ ⟨hl x B8,?_⟩
  have inner:∀(ys:List PV) (a s1:Option Pu.Slot) (Q:List PV->Pu.Env->Nat->Prop),(∀s1,Q ys (a::s1::rest) n)->Ay (gN 1) qTru (qV 1) ys (a::s1::rest) n Q:=by
   intro ys
   induction ys with
   |nil=>intro a s1 Q q;exact q s1
   |cons y ys ih2=>intro a s1 Q q;exact ih2 a _ _ λs1=>q s1
  exact inner _ _ _ _ λs1'=>ih _ _ _ _ (λu hu=>hp u (B6 _ hu)) (λu hu=>hl u (B6 _ hu)) h
def NA (hl:es.length<=1000)(h:R (.lst ((es.flatMap evB).map PV.str)) n):BO [shP es] n R:=by
 mleft;unfold IQ shP;rw[List.map_flatMap] at h;have El:(es.map evP).length<=1000:=by rw[B0];exact hl
 right;refine⟨El,Nz evP (λe=>(evB e).map PV.str) es _ _ _ _ (λe he s1 m Q q=>?_) (λe _=>?_) h⟩
 ·cases e with
  |d x=>exact q
  |t x y=>exact q
 ·cases e <;> (show _<=1000;simp[evB])
abbrev four (x y x' y':Str):Prop:=((met (K4 [x,y,x',y']) [x,y,x',y'].length).length:Int)=4
def UH {st:List Str}{x y x' y':Str}{n:Nat}{R:PV->Nat->Prop}(hs:st.length<=100)(hx:x∈st)(hy:y∈st)(h:(four x y x' y'->(x'∈btwU st x y↔y'∈btwU st x y))->R (.bl false) n)(h1:four x y x' y'->¬(x'∈btwU st x y↔y'∈btwU st x y)->R (.bl true) n):Fx [rowP st,evP (.t x y),evP (.t x' y')] n R:=by
 mleft;unfold IR;have mb:∀{R:PV->Nat->Prop},R (.lst [.str x,.str y,.str x',.str y']) n->BO [.tup [.tup [.str O4,.str x,.str y],.tup [.str O4,.str x',.str y']]] n R:=λq=>NA (es:=[.t x y,.t x' y']) 0o0 q;have mw:∀{R:PV->Nat->Prop},R (rowP (btwU st x y)) n->AD [rowP st,.tup [.str O4,.str x,.str y]] n R:=λq=>JE hs hx hy q;generalize hW:rowP st=W at *;rw[N2,N2];right;refine mb ?_;have tx:V3 [.str x,.str y,.str x',.str y']=some [x,y,x',y']:=rfl;dsimp only;rw[tx];dsimp only;refine⟨0o0,?_⟩
 by_cases c:four x y x' y'
 ·refine if_f (by rw[jq (show((met (K4 [x,y,x',y']) [x,y,x',y'].length).length:Int)=4 from c)];rfl) ?_;refine mw ?_;refine MD rfl ?_;refine MD rfl ?_;rw[Ho]
  by_cases c2:x'∈btwU st x y↔y'∈btwU st x y
  ·rw[decide_eq_decide.mpr c2];have:=h λ_=>c2;generalize decide (y'∈btwU st x y)=b;cases b <;> exact this
  ·have e:decide (decide (x'∈btwU st x y)=decide (y'∈btwU st x y))=false:=jr λz=>c2 (decide_eq_decide.mp z);rw[e];exact h1 c c2
 ·refine if_t (by rw[jr (show ¬((met (K4 [x,y,x',y']) [x,y,x',y'].length).length:Int)=4 from c)];rfl) ?_;exact h λz=>absurd z c
def JF {st:List Str}{b:Str}(hb:b∈st):∀(es:List Ev) (f:List Str),(∀z∈es.flatMap evB,z∈st)->(∀x y,Ev.t x y∈es->b≠x/\b≠y)->(es.foldl (setE st) f)[ixS st b]?=f[ixS st b]?:=by
 intro es
 induction es with
 |nil=>intro f _ _;rfl
 | cons e es ih =>
  intro f hs hn;rw[W6,ih _ (λz hz=>hs z (by grind)) (λx y h=>hn x y (B6 _ h))];cases e with
  |d x=>rfl
  | t x y =>
   obtain⟨n1,n2⟩:=hn x y B8;have hx:x∈st:=hs x (by simp[evB]);have hy:y∈st:=hs y (by simp[evB]);show((f.set (ixS st x) y).set (ixS st y) x)[ixS st b]?=_;rw[M8 (λz=>n2 (AA hy hb z).symm),M8 (λz=>n1 (AA hx hb z).symm)]
def NB {st:List Str}{x y:Str}:∀(es:List Ev) (f:List Str),f.length=st.length->(es.flatMap evB).Nodup->(∀z∈es.flatMap evB,z∈st)->Ev.t x y∈es->(es.foldl (setE st) f)[ixS st x]?=some y/\(es.foldl (setE st) f)[ixS st y]?=some x:=by
 intro es
 induction es with
 |nil=>intro f _ _ _ h;cases h
 | cons e es ih =>
  intro f hl nd hs he;rw[k8] at nd hs;obtain⟨n1,n2,n3⟩:=DK.mp nd;have hs':∀z∈es.flatMap evB,z∈st:=λz hz=>hs z (U6 _ hz);rw[W6]
  by_cases c:Ev.t x y∈es
  ·exact ih _ (by rw[MJ];exact hl) n2 hs' c
  ·have e1:Ev.t x y=e:=(B5.mp he).resolve_right c;subst e1;have hx:x∈st:=hs x (by simp[evB]);have hy:y∈st:=hs y (by simp[evB]);have lx:=M5 hx;have ly:=M5 hy
   have nxy:x≠y:=by
    have n1':[x,y].Nodup:=n1
    simpa using n1'
   have out:∀b,b∈[x,y]->∀u v,Ev.t u v∈es->b≠u/\b≠v:=λb hb u v h=>
    ⟨λz=>n3 b hb u (d7.mpr ⟨_,h,by simp[evB]⟩) z,λz=>n3 b hb v (d7.mpr ⟨_,h,by simp[evB]⟩) z⟩
   rw[JF hx es _ hs' (out x 0o0),JF hy es _ hs' (out y 0o0)];show((f.set (ixS st x) y).set (ixS st y) x)[ixS st x]?=some y/\((f.set (ixS st x) y).set (ixS st y) x)[ixS st y]?=some x;have ne:ixS st y≠ixS st x:=λz=>nxy (AA hx hy z.symm);constructor
   ·grind
   ·grind
def SrP (xs:List PV):Prop:=xs.Pairwise λa b=>lexK (keyP b) (keyP a)=false
def UI (zs:List Str):∀x∈zs.map PV.str,∀y∈zs.map PV.str,keyP x=keyP y->x=y:=λx hx y hy e=>by
 obtain⟨u,_,rfl⟩:=D2.mp hx;obtain⟨v,_,rfl⟩:=D2.mp hy;have e':[(.inr u:Key)]=[.inr v]:=e;cases e'
 rfl
def inj_ev (es:List Ev):∀x∈es.map evP,∀y∈es.map evP,keyP x=keyP y->x=y:=λx hx y hy e=>by
 obtain⟨u,_,rfl⟩:=D2.mp hx;obtain⟨v,_,rfl⟩:=D2.mp hy;rw[show keyP (evP u)=evK u from R0 _,show keyP (evP v)=evK v from R0 _] at e;rw[MF e]
def UJ (h:SrtS ys xs)(nd:zs.Nodup)(hm:∀y,y∈zs↔y∈xs)(sz:SrP zs)(inj:∀x∈zs,∀y∈zs,keyP x=keyP y->x=y):ys=zs:=
 have p:=(Gg nd h.1).mpr λy=>(hm y).trans (h.2.1 y).symm
 (p.eq_of_pairwise (λa b ha hb e1 e2=>inj a ha b (p.mem_iff.mpr hb) (Mr e2 e1)) sz h.2.2).symm
def JG {tt:pT}{te:pE}{rest:Pu.Env}{α:Type}(u v:α->PV)(c:α->Bool)(f:α->PV):∀(xs:List α) (s0 s1:Option Pu.Slot) (n:Nat) (R:List PV->Nat->Prop),(∀x∈xs,∀m Q,Q (c x) (some (.v (u x))::some (.v (v x))::rest) m->tt (some (.v (u x))::some (.v (v x))::rest) m Q)->(∀x∈xs,∀m Q,Q (f x) (some (.v (u x))::some (.v (v x))::rest) m->te (some (.v (u x))::some (.v (v x))::rest) m Q)->R ((xs.filter c).map f) n->P3 (gTp 2 (gCn (gN 0) (gCn (gN 1) gNl))) tt te (xs.map λx=>.tup [u x,v x]) (s0::s1::rest) n R:=by
 intro xs
 induction xs with
 |nil=>intro _ _ _ _ _ _ h;exact h
 | cons x xs ih =>
  intro s0 s1 n R ht he h;have ht':=λy hy=>ht y (B6 _ hy);have he':=λy hy=>he y (B6 _ hy);mleft;show tt (some (.v (u x))::some (.v (v x))::rest) n _;refine ht x B8 _ _ ?_;cases e:c x with
  | true =>
   rw[BZ (by rw[e])] at h;exact if_t rfl (he x B8 _ _ (ih _ _ _ _ ht' he' h))
  | false =>
   rw[DH (by rw[e];decide)] at h;exact if_f rfl (ih _ _ _ _ ht' he' h)
def UK {L:List Ev}(hl:L.length<=63)(h:∀ys,SrtS ys (L.map evP)->R (.tup ys) n):IU [.lst (L.map evP)] n R:=by
 mleft;unfold IT
 have ok:SetOk (L.map evP):=⟨λx hx=>by
  obtain⟨e,_,rfl⟩:=D2.mp hx;exact⟨evK e,rfl,ev_ne e⟩,λx hx y hy=>by
  obtain⟨e,_,rfl⟩:=D2.mp hx;obtain⟨e',_,rfl⟩:=D2.mp hy;unfold evP tupP;rw[R0,R0]
  exact ev_al e e'⟩
 have ll:(L.map evP).length<=63:=by rw[B0];exact hl
 generalize L.map evP=X at *;right;exact⟨ll,ok,λys hy=>h ys hy⟩
def C1 (h:∀U:pS,U=q->p { D with nx:=λe m=>U D e m } env n):qSeq p q D env n:=h q rfl
def pal (st g:List Str)(y:Str):Str:=nm g (ixS st y)
def org (st g:List Str)(y:Str):Str:=nm st (ixS g y)
noncomputable def rdB (st g:List Str)(y:Str):Bool:=!decide (org st g y=pal st g y)
noncomputable def cT (st g:List Str)(y:Str):Bool:=decide (ixS st y<ixS st (pal st g y))
noncomputable def TL (st g:List Str):List Ev:=(st.filter (cT st g)).map λy=>Ev.t (pal st g y) y
structure Gl (st g:List Str):Prop where
 nd:st.Nodup
 pm:g.Perm st
 l9:st.length<=9
section
variable {st g:List Str}{x y:Str}
def Gl.len (G:Gl st g):g.length=st.length:=G.pm.length_eq
def Gl.ng (G:Gl st g):g.Nodup:=G.pm.nodup_iff.mpr G.nd
def Gl.at (G:Gl st g)(hy:y∈st):g[ixS st y]?=some (pal st g y):=R1 (by rw[G.len];exact M5 hy)
def Gl.pl (G:Gl st g)(hy:y∈st):pal st g y∈st/\ixS g (pal st g y)=ixS st y:=
 have h:=G4 (G.at hy)
 ⟨G.pm.mem_iff.mp h,Dh G.ng (Q1 h).1 (G.at hy)⟩
def Gl.og (G:Gl st g)(hy:y∈st):org st g y∈st/\ixS st (org st g y)=ixS g y:=by
 have h:ixS g y<st.length:=by rw[<- G.len];exact M5 (G.pm.mem_iff.mpr hy)
 exact⟨Di h,Fh G.nd h⟩
def Gl.inj (G:Gl st g)(hx:x∈st)(hy:y∈st)(e:pal st g x=pal st g y):x=y:=AA hx hy (by rw[<- (G.pl hx).2,<- (G.pl hy).2,e])
def NR (st g:List Str):Prop:=∀y∈st,org st g y=pal st g y
def Gl.two (G:Gl st g)(nr:NR st g)(hy:y∈st):pal st g (pal st g y)=y:=by
 rw[<- nr _ (G.pl hy).1];unfold org;rw[(G.pl hy).2];exact L4 ((R1 (M5 hy)).symm.trans (Q1 hy).1)
def NC {st g:List Str}{x y:Str}:Ev.t x y∈TL st g↔y∈st/\x=pal st g y/\ixS st y<ixS st x:=by
 unfold TL;rw[D2];constructor
 ·rintro⟨z,hz,e⟩;cases e;obtain⟨h1,h2⟩:=G8.mp hz;exact⟨h1,rfl,jv h2⟩
 ·rintro⟨h1,rfl,h2⟩;exact⟨y,G8.mpr ⟨h1,jq h2⟩,rfl⟩
def TL_to {e:Ev}(h:e∈TL st g):∃y,y∈st/\e=.t (pal st g y) y/\ixS st y<ixS st (pal st g y):=by
 obtain⟨z,hz,rfl⟩:=D2.mp h;obtain⟨h1,h2⟩:=G8.mp hz;exact⟨z,h1,rfl,jv h2⟩
def Gl.fair (G:Gl st g)(nr:NR st g):Fair st (TL st g):=by
 refine⟨?_,λb hb=>?_⟩
 ·unfold TL;rw[List.flatMap_map];refine List.pairwise_flatMap.mpr ⟨λy hy=>?_,((G.nd.filter _).imp_of_mem ?_)⟩
  ·obtain⟨h1,h2⟩:=G8.mp hy;have:=jv h2;simp only[evB,List.pairwise_cons,E8,forall_eq,F6,false_imp_iff,implies_true,Gw,and_true];exact λe=>by rw[e] at this;omega
  ·intro a b ha hb ab u hu v hv e;obtain⟨a1,a2⟩:=G8.mp ha;obtain⟨b1,b2⟩:=G8.mp hb;have a2:=jv a2;have b2:=jv b2;subst e;simp only[evB,B5,F6,or_false] at hu hv;rcases hu with rfl|rfl
   ·rcases hv with e|e
    ·exact ab (G.inj a1 b1 e)
    ·rw[e] at a2;rw[<- e,G.two nr a1,e] at b2;omega
   ·rcases hv with e|e
    ·rw[e,G.two nr b1] at a2;omega
    ·exact ab e
 ·obtain⟨e,he,hb⟩:=d7.mp hb;obtain⟨y,hy,rfl,_⟩:=TL_to he;rcases B5.mp hb with rfl|hb
  ·exact(G.pl hy).1
  ·rw[E8.mp hb];exact hy
def Gl.rb (G:Gl st g)(nr:NR st g){T:List Ev}(p:T.Perm (TL st g)):rbh st T=g:=by
 have fr:=(G.fair nr).perm p;rw[<- H_ fr]
 apply Cb
 intro i
 by_cases c:i<st.length
 ·have hy:nm st i∈st:=Di c;have ei:i=ixS st (nm st i):=(Fh G.nd c).symm;generalize nm st i=y at hy ei;subst ei;rw[G.at hy];have mT:=λa b=>(p.mem_iff (a:=Ev.t a b)).trans NC;rcases d8 (ixS st y) (ixS st (pal st g y)) with h|h|h
  ·exact(NB T st rfl fr.nd fr.sub ((mT _ _).mpr ⟨hy,rfl,h⟩)).2
  ·have e:=AA hy (G.pl hy).1 h;refine Eq.trans (JF hy T st fr.sub λa b hab=>?_) ((Q1 hy).1.trans (congrArg some e));obtain⟨hb,rfl,hl⟩:=(mT a b).mp hab;constructor
   ·intro z;have:=G.inj hy hb (e.symm.trans z);rw[<- this,<- e] at hl;omega
   ·intro z;rw[<- z,<- e] at hl;omega
  ·exact(NB T st rfl fr.nd fr.sub ((mT y (pal st g y)).mpr ⟨(G.pl hy).1,(G.two nr hy).symm,h⟩)).1
 ·rw[O6 (by rw[Fc];ext),O6 (by rw[G.len];ext)]
end
def Crs (a b c d:Nat):Prop:=¬((a<c/\c<b)↔(a<d/\d<b))
structure Ok (r:Nat)(st g:List Str):Prop where
 nr:NR st g
 near:∀y∈st,ixS st y<ixS st (pal st g y)->ixS st (pal st g y)-ixS st y-1<=r
 plain:∀y∈st,ixS st y<ixS st (pal st g y)->∀z∈st,ixS st z<ixS st (pal st g z)->¬Crs (ixS st y) (ixS st (pal st g y)) (ixS st z) (ixS st (pal st g z))
def btw_len {st:List Str}{x y:Str}(hx:x∈st)(h:ixS st y<ixS st x):(btwU st x y).length=ixS st x-ixS st y-1:=by
 have:=M5 hx;unfold btwU;rw[J8,J7];ext
def UL {x y x' y':Str}(h:[x,y,x',y'].Nodup):four x y x' y':=by
 simp only[O8,B5,F6,or_false,not_or,List.nodup_nil,and_true] at h;obtain⟨⟨h1,h2,h3⟩,⟨h4,h5⟩,h6,_⟩:=h
 have e:met (K4 [x,y,x',y']) 4=[.inr x,.inr y,.inr x',.inr y']:=by
  have k:∀{a b:Str},a≠b->decide ((.inr a:Key)=.inr b)=false:=λh=>jr λz=>h (Sum.inr.inj z);have a1:met (K4 [x,y,x',y']) 1=[.inr x]:=rfl
  have a2:met (K4 [x,y,x',y']) 2=[.inr x,.inr y]:=by
   show(if(met (K4 [x,y,x',y']) 1).any (λz=>decide (z=.inr y)) then met (K4 [x,y,x',y']) 1 else met (K4 [x,y,x',y']) 1++[.inr y])=_;rw[a1];simp[k,h1]
  have a3:met (K4 [x,y,x',y']) 3=[.inr x,.inr y,.inr x']:=by
   show(if(met (K4 [x,y,x',y']) 2).any (λz=>decide (z=.inr x')) then met (K4 [x,y,x',y']) 2 else met (K4 [x,y,x',y']) 2++[.inr x'])=_;rw[a2];simp[k,h2,h4]
  show(if(met (K4 [x,y,x',y']) 3).any (λz=>decide (z=.inr y')) then met (K4 [x,y,x',y']) 3 else met (K4 [x,y,x',y']) 3++[.inr y'])=_;rw[a3];simp[k,h3,h5,h6]
 show((met (K4 [x,y,x',y']) 4).length:Int)=4;rw[e];rfl
def Gl.cross {st g:List Str}(G:Gl st g)(nr:NR st g){y z:Str}(hy:y∈st)(ly:ixS st y<ixS st (pal st g y))(hz:z∈st)(lz:ixS st z<ixS st (pal st g z)):(four (pal st g y) y (pal st g z) z/\¬(pal st g z∈btwU st (pal st g y) y↔z∈btwU st (pal st g y) y))↔Crs (ixS st y) (ixS st (pal st g y)) (ixS st z) (ixS st (pal st g z)):=by
 have bx:=MQ (z:=pal st g z) G.nd (G.pl hy).1 hy;have by_:=MQ (z:=z) G.nd (G.pl hy).1 hy;rw[show min (ixS st (pal st g y)) (ixS st y)=ixS st y by omega,show max (ixS st (pal st g y)) (ixS st y)=ixS st (pal st g y) by omega] at bx by_;rw[bx,by_];simp only[(G.pl hz).1,hz,true_and];unfold Crs;constructor
 ·exact λh e=>h.2 e.symm
 ·intro h;refine⟨UL ?_,λe=>h e.symm⟩;have e1:y≠z:=λe=>by subst e;exact h ⟨λq=>0x0,λq=>0x0⟩
  have p1:pal st g y≠pal st g z:=λe=>e1 (G.inj hy hz e);have e2:pal st g y≠y:=λe=>by rw[e] at ly;omega
  have e3:pal st g z≠z:=λe=>by rw[e] at lz;omega
  have e4:pal st g y≠z:=λe=>by rw[e] at ly;rw[<- e,G.two nr hy,e] at lz;omega
  have e5:y≠pal st g z:=λe=>by rw[e,G.two nr hz] at ly;rw[<- e] at lz ly;omega
  simp[*,e1]
def JH {tt:pT}{te:pE}{rest:Pu.Env}{α:Type}(u:α->PV)(c:α->Bool)(f:α->PV):∀(xs:List α) (s0:Option Pu.Slot) (n:Nat) (R:List PV->Nat->Prop),(∀x∈xs,∀m Q,Q (c x) (some (.v (u x))::rest) m->tt (some (.v (u x))::rest) m Q)->(∀x∈xs,∀m Q,Q (f x) (some (.v (u x))::rest) m->te (some (.v (u x))::rest) m Q)->R ((xs.filter c).map f) n->P3 (gN 0) tt te (xs.map u) (s0::rest) n R:=by
 intro xs
 induction xs with
 |nil=>intro _ _ _ _ _ h;exact h
 | cons x xs ih =>
  intro s0 n R ht he h;have ht':=λy hy=>ht y (B6 _ hy);have he':=λy hy=>he y (B6 _ hy);show tt (some (.v (u x))::rest) n _;refine ht x B8 _ _ ?_;cases e:c x with
  | true =>
   rw[BZ (by rw[e])] at h;exact if_t rfl (he x B8 _ _ (ih _ _ _ ht' he' h))
  | false =>
   rw[DH (by rw[e];decide)] at h;exact if_f rfl (ih _ _ _ ht' he' h)
noncomputable def T8 (w:String)(x:Str):PV:=.tup [.str (A6 w),.str x]
noncomputable def strg (st th:List Str):List Str:=(th.drop 1).filter λx=>!decide (x∈st)
noncomputable def E5 (st th:List Str):List Str:=st.filter (λb=>!decide (b∈th.drop 1))++th.drop 1
def FZ (xs:List Str):cutP (xs.map PV.str) (some 1) none=(xs.drop 1).map PV.str:=by rw[X3];exact congrArg _ (Z6 xs 1)
def m_from {s n k m:Nat}{r:Int}{st row':List Str}{R:PV->Nat->Prop}(h8:s<=8)(hn:1<=n)(h24:n<=24)(hl:row'.length=n)(hk:k<=1000)(h:R (.lst ((strg st (C0 s n k row')).map (T8 "from"))) m):Ft [.tup [.int (s:Int),.int r],rowP st,rowP row',.int (k:Int)] m R:=by
 mleft;unfold IJ;have ms:∀{m:Nat} {R:PV->Nat->Prop},R (rowP (C0 s n k row')) m->j3 [.tup [.int (s:Int),.int r],rowP row',.int (k:Int)] m R:=λq=>FY h8 hn hl hk q;have tl:(C0 s n k row').length<=24:=by rw[AB hl hn];have:=u9 (s:=s) (k:=k) hn;ext
 have dc:=FZ (C0 s n k row');unfold rowP at ms ⊢;generalize hZ:st.map PV.str=Z at *;generalize row'.map PV.str=W at *;generalize hA:(C0 s n k row').map PV.str=A at *;right;refine ms ?_;right;rw[dc];refine⟨by rw[B0,J8];omega,?_⟩;refine JH PV.str (λx=>!decide (x∈st)) (T8 "from") _ _ _ _ (λx hx m Q q=>?_) (λx hx m Q q=>?_) h
 ·right;exact BL hZ q
 ·right;exact q
def ND {s n k m:Nat}{r:Int}{st row':List Str}{R:PV->Nat->Prop}(h8:s<=8)(hn:1<=n)(h24:n<=24)(hl:row'.length=n)(hk:k<=1000)(hst:st.length<=24)(h:R (rowP (E5 st (C0 s n k row'))) m):BN [.tup [.int (s:Int),.int r],rowP st,rowP row',.int (k:Int)] m R:=by
 mleft;unfold IK;have ms:∀{m:Nat} {R:PV->Nat->Prop},R (rowP (C0 s n k row')) m->j3 [.tup [.int (s:Int),.int r],rowP row',.int (k:Int)] m R:=λq=>FY h8 hn hl hk q;have tl:(C0 s n k row').length<=24:=by rw[AB hl hn];have:=u9 (s:=s) (k:=k) hn;ext
 have dc:=FZ (C0 s n k row');unfold E5 rowP at h;unfold rowP at ms ⊢;have Zl:(st.map PV.str).length<=24:=by rw[B0];exact hst
 have Al:(((C0 s n k row').drop 1).map PV.str).length<=24:=by rw[B0,J8];ext
 rw[N5] at h;have fl:=O7 (λb=>!decide (b∈(C0 s n k row').drop 1)) st;generalize hZ:st.map PV.str=Z at *;generalize row'.map PV.str=W at *;generalize hD:((C0 s n k row').drop 1).map PV.str=D at *;generalize hA:(C0 s n k row').map PV.str=A at *;right;refine ms ?_;right;rw[dc];refine⟨0x0,?_⟩;rw[<- hZ];refine i5 PV.str (λb=>!decide (b∈(C0 s n k row').drop 1)) st _ _ _ (λz hz m Q q=>?_) ⟨by rw[B0];omega,h⟩;right;exact BL hD q
section
variable {st g:List Str}{n:Nat}{R:PV->Nat->Prop}
def Gl.ix (G:Gl st g):(∀z∈st,∀{R:PV->Prop},R (.int (ixS st z))->Z5 (.tup (st.map PV.str)) (.str z) R)/\∀z∈st,∀{R:PV->Prop},R (.int (ixS g z))->Z5 (.tup (g.map PV.str)) (.str z) R:=
 have l:=G.l9;have l':=G.len
 ⟨λz hz {R} q=>m_ix rfl hz 0x0 q,λz hz {R} q=>m_ix rfl (G.pm.mem_iff.mpr hz) 0x0 q⟩
def m_goes (G:Gl st g){x:Str}(hx:x∈st)(h:R (.bl (rdB st g x)) n):Fu [rowP st,rowP g,.str x] n R:=by
 mleft;unfold IL;obtain⟨i1,i2⟩:=G.ix;obtain⟨o1,o2⟩:=G.og hx;have a1:atI (st.map PV.str) (ixS g x:Int)=some (.str (org st g x)):=P2 (by rw[D4,R1 (by rw[<- o2];exact M5 o1)];rfl)
 have e:rdB st g x=!decide ((ixS g (org st g x):Int)=(ixS st x:Int)):=by
  unfold rdB
  congr 1
  rw[decide_eq_decide]
  exact⟨λe=>by rw[e,(G.pl hx).2],λe=>by
   have:=(Q1 (G.pm.mem_iff.mpr o1)).1;rw[Int.ofNat.inj e,G.at hx] at this
   exact(L4 this).symm⟩
 unfold rowP;generalize st.map PV.str=Z at *;generalize g.map PV.str=W at *;right;refine⟨⟨_,rfl⟩,i2 x hx ?_⟩;dsimp only;rw[a1];refine⟨⟨_,rfl⟩,i2 _ o1 ⟨⟨_,rfl⟩,i1 x hx ?_⟩⟩;show R (.bl (!eqP (.int _) (.int _))) n;rw[FW,<- e];exact h
def UM (G:Gl st g)(h:R (.lst ((st.filter (rdB st g)).map (T8 "round"))) n):Fv [rowP st,rowP g] n R:=by
 mleft;unfold IM;have go:∀x∈st,∀{m:Nat} {R:PV->Nat->Prop},R (.bl (rdB st g x)) m->Fu [.tup (st.map PV.str),rowP g,.str x] m R:=λx hx {m R} q=>m_goes G hx q;have hS:rowP st=.tup (st.map PV.str):=rfl;have Zl:(st.map PV.str).length<=9:=by rw[B0];exact G.l9
 generalize hZ:st.map PV.str=Z at *;generalize rowP g=W at *;rw[hS];right;refine⟨0x0,?_⟩;rw[<- hZ] at *;refine JH PV.str (rdB st g) (T8 "round") st _ _ _ (λz hz m Q q=>?_) (λz hz m Q q=>?_) h
 ·generalize st.map PV.str=Z at *;right;exact go z hz q
 ·generalize st.map PV.str=Z at *;right;exact q
def g_map (G:Gl st g):g=st.map (pal st g):=by
 apply Cb
 intro i;rw[D4]
 by_cases c:i<st.length
 ·rw[R1 c];show _=some (nm g (ixS st (nm st i)));rw[Fh G.nd c];exact R1 (by rw[G.len];exact c)
 ·rw[O6 (by rw[G.len];ext),O6 0x0];rfl
structure To (st g:List Str)(T:List Ev):Prop where
 p:T.Perm (TL st g)
 s:SrP (T.map evP)
def JI:∃T,To st g T:=by
 obtain⟨p,s⟩:=EX ((TL st g).map evP);obtain⟨T,pT,e⟩:=SeT.Dn p;exact⟨T,pT,e▸s⟩
def TL_nd (G:Gl st g):(TL st g).Nodup:=Fb _ (G.nd.filter _) λa _ b _ e=>(Ev.t.inj e).2
def evs_nd {es:List Ev}(h:es.Nodup):(es.map evP).Nodup:=Fb _ h λa _ b _ e=>Tc e
def To.len {T:List Ev}(G:Gl st g)(t:To st g T):T.length<=9:=by
 rw[t.p.length_eq];unfold TL;rw[B0];exact K1 (O7 _ _) G.l9
def To.mem {T:List Ev}(t:To st g T){e:Ev}(h:e∈T):∃y,y∈st/\e=.t (pal st g y) y/\ixS st y<ixS st (pal st g y):=TL_to (t.p.mem_iff.mp h)
def NE {T:List Ev}(G:Gl st g)(t:To st g T)(h:R (shP T) n):BP [rowP st,rowP g] n R:=by
 mleft;unfold IV;have l9:=G.l9;obtain⟨i1,i2⟩:=G.ix;have fin:∀ys,SrtS ys ((TL st g).map evP)->ys=T.map evP:=λys hy=>UJ hy (evs_nd (t.p.nodup_iff.mpr (TL_nd G))) (λv=>(t.p.map evP).mem_iff) t.s (inj_ev _)
 have ez:zipP (g.map PV.str) (st.map PV.str)=st.map λy=>.tup [.str (pal st g y),.str y]:=by
  unfold zipP;rw[g_map G,R9,List.zip_map',R9,<- g_map G]
  rfl
 have ll:(TL st g).length<=63:=by
  have:=t.len G;rw[t.p.length_eq] at this;omega
 have zl:(st.map λy=>PV.tup [.str (pal st g y),.str y]).length<=24:=by rw[B0];ext
 have fe:((st.filter (cT st g)).map λy=>PV.tup [.str O4,.str (pal st g y),.str y])=(TL st g).map evP:=by unfold TL;rw[R9];rfl
 unfold rowP;generalize hZ:st.map PV.str=Z at *;generalize hG:g.map PV.str=W at *;right;refine(show(zipP W Z).length<=1000000/\P3 _ _ _ (zipP W Z) [none,none,some (.v (.tup W)),some (.v (.tup Z))] n _ from ?_);rw[ez];refine⟨0x0,?_⟩;refine JG (λy=>.str (pal st g y)) PV.str (cT st g) (λy=>.tup [.str O4,.str (pal st g y),.str y]) st _ _ _ _ (λy hy m Q q=>?_) (λy hy m Q q=>?_) ?_
 ·obtain⟨a,b⟩:=G.pl hy;right;refine⟨⟨_,rfl⟩,i2 _ a ⟨⟨_,rfl⟩,i1 _ a ?_⟩⟩;dsimp only;rw[b,show decide ((ixS st y:Int)<(ixS st (pal st g y):Int))=cT st g y from decide_eq_decide.mpr 0x0];exact q
 ·right;exact q
 ·rw[fe];refine UK ll λys hy=>?_;rw[fin ys hy];exact h
end
def v4 {st g:List Str}{x:Str}:x∈st.filter (rdB st g)↔x∈st/\org st g x≠pal st g x:=by
 rw[G8];unfold rdB;rw[DM,decide_eq_false_iff_not]
def NF {α β:Type}{c:Nat}{f:α->List β}:∀(xs:List α),(∀x∈xs,(f x).length<=c)->(xs.flatMap f).length<=c*xs.length:=by
 intro xs
 induction xs with
 |nil=>intro _;exact F7 _
 | cons x xs ih =>
  intro h;rw[k8,C7,D5,Nat.mul_succ];have:=h x B8;have:=ih λy hy=>h y (B6 _ hy);ext
def UN {tt:pT}{te:pE}{rest:Pu.Env}{pi:pA}{α:Type}(f:α->PV)(c:α->α->Bool)(k:α->α->PV)(ys:List α)(hy:ys.length<=1000)(hp:∀s0 s1 n Q,Q (ys.map f) (s0::s1::rest) n->pi (s0::s1::rest) n Q):∀(xs:List α) (s0 s1:Option Pu.Slot) (n:Nat) (R:List PV->Nat->Prop),(∀x∈xs,∀y∈ys,∀m Q,Q (c x y) (some (.v (f x))::some (.v (f y))::rest) m->tt (some (.v (f x))::some (.v (f y))::rest) m Q)->(∀x y,∀m Q,Q (k x y) (some (.v (f x))::some (.v (f y))::rest) m->te (some (.v (f x))::some (.v (f y))::rest) m Q)->R (xs.flatMap λx=>(ys.filter (c x)).map (k x)) n->BJ (gN 0) pi (gN 1) tt te (xs.map f) (s0::s1::rest) n R:=by
 intro xs
 induction xs with
 |nil=>intro _ _ _ _ _ _ h;exact h
 | cons x xs ih =>
  intro s0 s1 n R ht he h;show pi (some (.v (f x))::s1::rest) n _;refine hp _ _ _ _ ⟨by rw[B0];exact hy,?_⟩
  have inner:∀(zs:List α) (s1:Option Pu.Slot) (Q:List PV->Pu.Env->Nat->Prop),(∀z∈zs,z∈ys)->(∀s1,Q ((zs.filter (c x)).map (k x)) (some (.v (f x))::s1::rest) n)->Ay (gN 1) tt te (zs.map f) (some (.v (f x))::s1::rest) n Q:=by
   intro zs
   induction zs with
   |nil=>intro s1 Q _ q;exact q s1
   | cons z zs ih2 =>
    intro s1 Q hz q;show tt (some (.v (f x))::some (.v (f z))::rest) n _;refine ht x B8 z (hz z B8) _ _ ?_;have hz':=λu hu=>hz u (B6 _ hu);cases e:c x z with
    | true =>
     rw[BZ (by rw[e])] at q;exact if_t rfl (he x z _ _ (ih2 _ _ hz' λs1=>q s1))
    | false =>
     rw[DH (by rw[e];decide)] at q;exact if_f rfl (ih2 _ _ hz' q)
  rw[k8] at h;exact inner ys _ _ (λ_ z=>z) λs1'=>ih _ _ _ _ (λu hu=>ht u (B6 _ hu)) he h
noncomputable def farE (r:Nat)(st:List Str):Ev->Bool
 |.t x y=>decide ((r:Int)<((btwU st x y).length:Int))
 |.d _=>false
noncomputable def crE (st:List Str):Ev->Ev->Bool
 |.t x y,.t x' y'=>decide (four x y x' y')&&!decide (x'∈btwU st x y↔y'∈btwU st x y)
 |_,_=>false
noncomputable def farP (e:Ev):PV:=.tup [.str (A6 "far"),evP e]
noncomputable def crP (e e':Ev):PV:=.tup [.str (A6 "cross"),evP e,evP e']
section
variable {st g:List Str}{n r:Nat}{R:PV->Nat->Prop}
def UO {T:List Ev}(G:Gl st g)(t:To st g T)(h:R (.lst ((T.filter (farE r st)).map farP++T.flatMap λe=>(T.filter (crE st e)).map (crP e))) n):Fy [rowP st,.int (r:Int),shP T] n R:=by
 mleft;unfold IS;have t9:=t.len G;have l9:=G.l9
 have mf:∀e∈T,∀{m:Nat} {R:PV->Nat->Prop},R (.bl (farE r st e)) m->Fw [rowP st,.int (r:Int),evP e] m R:=λe he {m R} q=>by
  obtain⟨y,hy,rfl,_⟩:=t.mem he;exact m_far 0x0 (G.pl hy).1 hy q
 have mc:∀e∈T,∀e'∈T,∀{m:Nat} {R:PV->Nat->Prop},R (.bl (crE st e e')) m->Fx [rowP st,evP e,evP e'] m R:=λe he e' he' {m R} q=>by
  obtain⟨y,hy,rfl,_⟩:=t.mem he;obtain⟨z,hz,rfl,_⟩:=t.mem he';have q:R (.bl (decide (four (pal st g y) y (pal st g z) z)&&!decide (pal st g z∈btwU st (pal st g y) y↔z∈btwU st (pal st g y) y))) m:=q;refine UH 0x0 (G.pl hy).1 hy (λh=>?_) λh h'=>?_
  ·by_cases c:four (pal st g y) y (pal st g z) z
   ·rw[jq (h c),l7,Ck] at q;exact q
   ·rw[jr c,DN] at q;exact q
  ·rw[jq h,jr h'] at q;exact q
 have cl:(T.flatMap λe=>(T.filter (crE st e)).map (crP e)).length<=9*T.length:=NF T λe he=>by
  rw[B0];exact K1 (O7 _ _) t9
 unfold shP;have Tl:(T.map evP).length<=9:=by rw[B0];ext
 have fl:=O7 (farE r st) T;generalize rowP st=S at *;generalize hX:T.map evP=X at *;right;refine⟨0x0,?_⟩;rw[<- hX] at Tl ⊢;refine JH evP (farE r st) farP T _ _ _ (λe he m Q q=>?_) (λe he m Q q=>?_) ?_
 ·generalize hp:evP e=E;right;rw[<- hp];exact mf e he q
 ·unfold farP at q;generalize evP e=E at *;right;exact q
 ·have Al:((T.filter (farE r st)).map farP).length<=9:=by rw[B0];ext
  generalize (T.filter (farE r st)).map farP=A at *;right;refine⟨⟨_,rfl⟩,0x0,?_⟩;refine UN evP (crE st) crP T 0x0 (λs0 s1 n Q q=>q) T _ _ _ _ (λe he e' he' m Q q=>?_) (λe e' m Q q=>?_) ⟨0x0,h⟩
  ·generalize hp:evP e=E;generalize hp':evP e'=E';right;rw[<- hp,<- hp'];exact mc e he e' he' q
  ·unfold crP at q;generalize evP e=E at *;generalize evP e'=E' at *;generalize T.map evP=X at *;right;exact q
inductive ReV (r:Nat)(st g:List Str):PV->Prop
 |round {x:Str} (hx:x∈st) (h:org st g x≠pal st g x):ReV r st g (T8 "round" x)
 |far {y:Str} (nr:NR st g) (hy:y∈st) (ly:ixS st y<ixS st (pal st g y)) (h:r<ixS st (pal st g y)-ixS st y-1):ReV r st g (farP (.t (pal st g y) y))
 |cross {y z:Str} (nr:NR st g) (hy:y∈st) (ly:ixS st y<ixS st (pal st g y)) (hz:z∈st) (lz:ixS st z<ixS st (pal st g z)) (h:Crs (ixS st y) (ixS st (pal st g y)) (ixS st z) (ixS st (pal st g z))):ReV r st g (crP (.t (pal st g y) y) (.t (pal st g z) z))
def JJ {th:List Str}(nd:st.Nodup)(nt:th.Nodup)(l9:st.length<=9)(h:strg st th=[]):Gl st (E5 st th):=by
 have nD:(th.drop 1).Nodup:=nt.sublist (List.drop_sublist _ _)
 have hs:∀x∈th.drop 1,x∈st:=λx hx=>by
  have:=AO.mp h x hx
  simpa using this
 unfold E5;refine⟨nd,(Gg ?_ nd).mpr λx=>?_,l9⟩
 ·refine DK.mpr ⟨nd.filter _,nD,λa ha b hb e=>?_⟩;subst e;have:=(G8.mp ha).2;rw[jq hb] at this;cases this
 ·rw[D7,G8];constructor
  ·rintro(h|h)
   ·exact h.1
   ·exact hs x h
  ·intro h
   by_cases c:x∈th.drop 1
   ·exact .inr c
   ·exact .inl ⟨h,by rw[jr c];rfl⟩
def UP {T:List Ev}(G:Gl st g)(t:To st g T)(nr:NR st g):(∀v,v∈(T.filter (farE r st)).map farP++(T.flatMap λe=>(T.filter (crE st e)).map (crP e))↔ReV r st g v)/\((T.filter (farE r st)).map farP++T.flatMap λe=>(T.filter (crE st e)).map (crP e)).length<=1000:=by
 have far:∀y,y∈st->ixS st y<ixS st (pal st g y)->(farE r st (.t (pal st g y) y)=true↔r<ixS st (pal st g y)-ixS st y-1):=λy hy ly=>by
  show decide ((r:Int)<((btwU st (pal st g y) y).length:Int))=true↔_;rw[decide_eq_true_eq,btw_len (G.pl hy).1 ly];ext
 have crs:∀y z,y∈st->z∈st->ixS st y<ixS st (pal st g y)->ixS st z<ixS st (pal st g z)->(crE st (.t (pal st g y) y) (.t (pal st g z) z)=true↔Crs (ixS st y) (ixS st (pal st g y)) (ixS st z) (ixS st (pal st g z))):=λy z hy hz ly lz=>by
  rw[<- G.cross nr hy ly hz lz];show(decide (four (pal st g y) y (pal st g z) z)&&!decide (pal st g z∈btwU st (pal st g y) y↔z∈btwU st (pal st g y) y))=true↔_;rw[P4,decide_eq_true_eq,DM,decide_eq_false_iff_not]
 have mT:∀y,y∈st->ixS st y<ixS st (pal st g y)->Ev.t (pal st g y) y∈T:=λy hy ly=>t.p.mem_iff.mpr (NC.mpr ⟨hy,rfl,ly⟩);have t9:=t.len G
 have cl:(T.flatMap λe=>(T.filter (crE st e)).map (crP e)).length<=9*T.length:=NF T λe he=>by
  rw[B0];exact K1 (O7 _ _) t9
 have fl:=O7 (farE r st) T;refine⟨λv=>⟨λhv=>?_,λhv=>?_⟩,by rw[C7,B0];ext⟩
 ·rcases D7.mp hv with hv|hv
  ·obtain⟨e,he,rfl⟩:=D2.mp hv;obtain⟨he,hf⟩:=G8.mp he;obtain⟨y,hy,rfl,ly⟩:=t.mem he;exact .far nr hy ly ((far y hy ly).mp hf)
  ·obtain⟨e,he,hv⟩:=d7.mp hv;obtain⟨e',he',rfl⟩:=D2.mp hv;obtain⟨y,hy,rfl,ly⟩:=t.mem he;obtain⟨hf',hf⟩:=G8.mp he';obtain⟨z,hz,rfl,lz⟩:=t.mem hf';exact .cross nr hy ly hz lz ((crs y z hy hz ly lz).mp hf)
 ·cases hv with
  |round hx h=>exact absurd (nr _ hx) h
  |far _ hy ly h=>exact AQ _ (D2.mpr ⟨_,G8.mpr ⟨mT _ hy ly,(far _ hy ly).mpr h⟩,rfl⟩)
  |cross _ hy ly hz lz h=>exact U6 _ (d7.mpr ⟨_,mT _ hy ly,D2.mpr ⟨_,G8.mpr ⟨mT _ hz lz,(crs _ _ hy hz ly lz).mpr h⟩,rfl⟩⟩)
def BadV (r:Nat)(st th:List Str)(v:PV):Prop:=(∃x∈strg st th,v=T8 "from" x)\/(strg st th=[]/\ReV r st (E5 st th) v)
def nobad {th:List Str}(h:∀v,¬BadV r st th v):strg st th=[]/\Ok r st (E5 st th):=by
 have e:strg st th=[]:=by
  cases e:strg st th with
  |nil=>rfl
  |cons x L=>exact absurd (.inl ⟨x,by rw[e];exact B8,rfl⟩) (h (T8 "from" x))
 have hr:=λv c=>h v (.inr ⟨e,c⟩);have nr:NR st (E5 st th):=λy hy=>Ad λc=>hr _ (.round hy c);exact⟨e,nr,λy hy ly=>y7 λc=>hr _ (.far nr hy ly c),λy hy ly z hz lz c=>hr _ (.cross nr hy ly hz lz c)⟩
def UQ {s n k m:Nat}{row':List Str}(nd:st.Nodup)(l9:st.length<=9)(nr':row'.Nodup)(h8:s<=8)(hn:1<=n)(h24:n<=24)(hl:row'.length=n)(hk:k<=1000)
   (h:∀L:List PV,(∀v,v∈L↔BadV r st (C0 s n k row') v)->L.length<=1000->R (.lst L) m):Fz [.tup [.int (s:Int),.int (r:Int)],rowP st,rowP row',.int (k:Int)] m R:=by
 mleft;unfold IW;have nt:(C0 s n k row').Nodup:=nr'.sublist ((List.drop_sublist _ _).trans (List.take_sublist _ _));have m1:∀{m:Nat} {R:PV->Nat->Prop},R (.lst ((strg st (C0 s n k row')).map (T8 "from"))) m->Ft [.tup [.int (s:Int),.int (r:Int)],rowP st,rowP row',.int (k:Int)] m R:=λq=>m_from h8 hn h24 hl hk q;have m2:∀{m:Nat} {R:PV->Nat->Prop},R (rowP (E5 st (C0 s n k row'))) m->BN [.tup [.int (s:Int),.int (r:Int)],rowP st,rowP row',.int (k:Int)] m R:=λq=>ND h8 hn h24 hl hk 0x0 q;have tl:(C0 s n k row').length<=24:=by rw[AB hl hn];have:=u9 (s:=s) (k:=k) hn;ext
 generalize C0 s n k row'=th at *;symm;generalize hS:rowP st=S at *;generalize rowP row'=W at *;right;refine m1 ?_;subst hU;symm;right;have h1:(strg st th).length<=(th.drop 1).length:=O7 _ _;rw[J8] at h1
 have hA:strg st th≠[]->R (.lst ((strg st th).map (T8 "from"))) m:=λne=>h _ (λv=>⟨λhv=>by
  obtain⟨x,hx,e⟩:=D2.mp hv;exact .inl ⟨x,hx,e.symm⟩,λhv=>by
  rcases hv with⟨x,hx,rfl⟩|⟨e,_⟩
  ·exact D2.mpr ⟨x,hx,rfl⟩
  ·exact absurd e ne⟩) (by rw[B0];ext)
 cases hs:strg st th with
 |cons x L=>rw[hs] at hA;exact if_t rfl (hA nofun)
 | nil =>
  have G:=JJ nd nt l9 hs
  have h:∀L:List PV,(∀v,v∈L↔ReV r st (E5 st th) v)->L.length<=1000->R (.lst L) m:=λL hv hl=>h L (λv=>(hv v).trans ⟨λc=>.inr ⟨hs,c⟩,λc=>by
   rcases c with⟨x,hx,_⟩|⟨_,c⟩
   ·rw[hs] at hx;cases hx
   ·exact c⟩) hl
  have m3:∀{m:Nat} {R:PV->Nat->Prop},R (.lst ((st.filter (rdB st (E5 st th))).map (T8 "round"))) m->Fv [S,rowP (E5 st th)] m R:=λq=>by rw[<- hS];exact UM G q
  obtain⟨T,t⟩:=@JI st (E5 st th);have m4:∀{m:Nat} {R:PV->Nat->Prop},R (shP T) m->BP [S,rowP (E5 st th)] m R:=λq=>by rw[<- hS];exact NE G t q
  have m5:∀{m:Nat} {R:PV->Nat->Prop},R (.lst ((T.filter (farE r st)).map farP++T.flatMap λe=>(T.filter (crE st e)).map (crP e))) m->Fy [S,.int (r:Int),shP T] m R:=λq=>by rw[<- hS];exact UO G t q
  refine if_f rfl ?_;subst hU;symm;right;refine m2 ?_;generalize E5 st th=g at *;generalize rowP g=Q at *;subst hU;right;refine m3 ?_
  have hB:st.filter (rdB st g)≠[]->R (.lst ((st.filter (rdB st g)).map (T8 "round"))) m:=λne=>h _ (λv=>⟨λhv=>by
   obtain⟨x,hx,rfl⟩:=D2.mp hv;exact .round (v4.mp hx).1 (v4.mp hx).2,λhv=>by
   have no:¬NR st g:=λnr=>ne (AO.mpr λx hx=>by unfold rdB;rw[jq (nr x hx)];decide);cases hv with
   |round hx c=>exact D2.mpr ⟨_,v4.mpr ⟨hx,c⟩,rfl⟩
   |far nr=>exact absurd nr no
   |cross nr=>exact absurd nr no⟩) (by
   have h1:=O7 (rdB st g) st
   rw[B0];ext)
  cases hr:st.filter (rdB st g) with
  |cons x L=>rw[hr] at hB;exact if_t rfl (hB nofun)
  | nil =>
   have nr:NR st g:=λy hy=>by
    have:=AO.mp hr y hy;unfold rdB at this
    simpa using this
   obtain⟨a,b⟩:=UP (r:=r) G t nr;exact if_f rfl (m4 (m5 (h _ a b)))
end
noncomputable def btE (st:List Str)(e:Ev):List Str:=match e with|.t x y=>btwU st x y|.d _=>[]
def witB (st:List Str)(T:List Ev):List Str:=T.flatMap (btE st)
def JK (st:List Str)(T:List Ev)(v:PV):Prop:=∃D F:List Str,v=.tup [shP T,rowP D,rowP F]/\(D.Perm (st.filter λz=>decide (z∈witB st T)&&!decide (z∈T.flatMap evB))/\SrP (D.map PV.str))/\F.Perm (st.filter λz=>!decide (z∈witB st T)&&!decide (z∈T.flatMap evB))/\SrP (F.map PV.str)
def NG {a b:List Str}(h:a.Perm b)(sa:SrP (a.map PV.str))(sb:SrP (b.map PV.str)):rowP a=rowP b:=by
 have p:=h.map PV.str;exact congrArg PV.tup (p.eq_of_pairwise (λx y hx hy e1 e2=>UI a x hx y (p.mem_iff.mpr hy) (Mr e2 e1)) sa sb)
noncomputable def AF (st:List Str) (T:List Ev):PV:=@Classical.epsilon PV ⟨.non⟩ (JK st T)
def NH {st:List Str}{T:List Ev}{v:PV}(h:JK st T v):AF st T=v:=by
 obtain⟨D,F,rfl,⟨d1,d2⟩,f1,f2⟩:=id h;obtain⟨D',F',e,⟨d1',d2'⟩,f1',f2'⟩:=@Classical.epsilon_spec_aux PV ⟨.non⟩ (JK st T) ⟨_,h⟩;refine Eq.trans e ?_;rw[NG (d1'.trans d1.symm) d2' d2,NG (f1'.trans f1.symm) f2' f2]
def UR (zs:List Str):EU (zs.map PV.str):=.inr (.inl λx hx=>by
 obtain⟨z,_,rfl⟩:=D2.mp hx
 exact⟨z,rfl⟩)
section
variable {st g:List Str}{T:List Ev}{n:Nat}{R:PV->Nat->Prop}
def US:∃D F:List Str,AF st T=.tup [shP T,rowP D,rowP F]/\D.length<=st.length/\F.length<=st.length/\(∀z∈D,z∈st)/\∀z∈F,z∈st:=by
 have one:∀p:Str->Bool,∃O:List Str,O.Perm (st.filter p)/\SrP (O.map PV.str):=λp=>by
  obtain⟨a,b⟩:=EX ((st.filter p).map PV.str);obtain⟨O,q,e⟩:=SeT.Dn a;exact⟨O,q,e▸b⟩
 obtain⟨D,d1,d2⟩:=one λz=>decide (z∈witB st T)&&!decide (z∈T.flatMap evB);obtain⟨F,f1,f2⟩:=one λz=>!decide (z∈witB st T)&&!decide (z∈T.flatMap evB);exact⟨D,F,NH ⟨D,F,rfl,⟨d1,d2⟩,f1,f2⟩,by rw[d1.length_eq];exact O7 _ _,by rw[f1.length_eq];exact O7 _ _,λz hz=>(G8.mp (d1.mem_iff.mp hz)).1,λz hz=>(G8.mp (f1.mem_iff.mp hz)).1⟩
def m_race (G:Gl st g)(t:To st g T)(h:R (AF st T) n):FB [rowP st,shP T] n R:=by
 mleft;unfold Jg;have t9:=t.len G;have s9:=G.l9;have mb:∀{m:Nat} {R:PV->Nat->Prop},R (.lst ((T.flatMap evB).map PV.str)) m->BO [shP T] m R:=λq=>NA 0x0 q
 have mw:∀e∈T,∀{m:Nat} {R:PV->Nat->Prop},R (rowP (btE st e)) m->AD [.tup (st.map PV.str),evP e] m R:=λe he {m R} q=>by
  obtain⟨y,hy,rfl,_⟩:=t.mem he;exact JE 0x0 (G.pl hy).1 hy q
 have bl:∀e∈T,(btE st e).length<=9:=λe he=>by
  obtain⟨y,hy,rfl,ly⟩:=t.mem he;show(btwU st (pal st g y) y).length<=9;have:=M5 (G.pl hy).1;rw[btw_len (G.pl hy).1 ly];ext
 have fin:∀O:List Str,O.Perm (st.filter λb=>!decide (b∈T.flatMap evB))->SrP (O.map PV.str)->R (.tup [shP T,rowP (O.filter λb=>decide (b∈witB st T)),rowP (O.filter λb=>!decide (b∈witB st T))]) n:=λO p so=>by
  have so':=c6.mp so;have:=h;rw[NH ⟨_,_,rfl,⟨(p.filter λb=>decide (b∈witB st T)).trans (by rw[List.filter_filter]),c6.mpr (so'.filter _)⟩,(p.filter λb=>!decide (b∈witB st T)).trans (by rw[List.filter_filter]),c6.mpr (so'.filter _)⟩] at this;exact this
 have hS:rowP st=.tup (st.map PV.str):=rfl;have hP:(T.flatMap λe=>(btE st e).map PV.str)=(witB st T).map PV.str:=by unfold witB;rw[List.map_flatMap]
 have hT:shP T=.tup (T.map evP):=rfl;have Zl:(st.map PV.str).length<=9:=by rw[B0];exact s9
 have Fl:∀p:Str->Bool,((st.filter p).map PV.str).length<=9:=λp=>by
  rw[B0];have:=O7 p st;ext
 have ok:=λp:Str->Bool=>UR (st.filter p);generalize hM:(T.flatMap evB).map PV.str=M at *;generalize hZ:st.map PV.str=Z at *;rw[hS];generalize hG:shP T=H at *;right;refine mb ?_;rw[hT];refine⟨by rw[B0];omega,?_⟩;refine Nz evP (λe=>(btE st e).map PV.str) T _ _ _ _ (λe he s1 m Q q=>?_) (λe he=>by rw[B0];have:=bl e he;omega) ?_
 ·generalize hp:evP e=E;right;rw[<- hp];exact mw e he q
 ·rw[hP];generalize hW:(witB st T).map PV.str=W;refine⟨0x0,?_⟩;rw[<- hZ];refine i5 PV.str (λb=>!decide (b∈T.flatMap evB)) st _ _ _ (λz hz m Q q=>?_) ?_
  ·right;exact HW hM q
  ·refine⟨y4 (Fl _) 0b0,ok _,λys hy=>?_⟩;obtain⟨O,po,rfl⟩:=SeT.Dn hy.1;have ol:(O.map PV.str).length<=1000000:=by rw[hy.1.length_eq];exact K1 (Fl _) 0b0
   refine⟨ol,i5 PV.str (λb=>decide (b∈witB st T)) O _ _ _ (λz hz m Q q=>?_) ⟨ol,i5 PV.str (λb=>!decide (b∈witB st T)) O _ _ _ (λz hz m Q q=>?_) ?_⟩⟩
   ·right;exact ME hW q
   ·right;exact HW hW q
   ·rw[<- hT];exact fin O po hy.2
noncomputable def prP (st g:List Str)(y:Str):PV:=.tup [.int (ixS st y:Int),.int (ixS st (pal st g y):Int)]
noncomputable def prs (st g:List Str):List PV:=(st.filter (cT st g)).map (prP st g)
def at_g (G:Gl st g){y:Str}(hy:y∈st):atI (g.map PV.str) (ixS st y:Int)=some (.str (pal st g y)):=P2 (by rw[D4,G.at hy];rfl)
def at_st {y:Str}(hy:y∈st):atI (st.map PV.str) (ixS st y:Int)=some (.str y):=P2 (by rw[D4,(Q1 hy).1];rfl)
def UT (G:Gl st g)(h0:∀x∈st,org st g x≠pal st g x->R .non n)(h1:NR st g->R (.lst (prs st g)) n):FN [rowP st,rowP g] n R:=by
 mleft;unfold Jt;have l9:=G.l9;obtain⟨i1,i2⟩:=G.ix;have ag:=λy hy=>@at_g st g G y hy;have ao:∀y∈st,atI (st.map PV.str) (ixS g y:Int)=some (.str (org st g y)):=λy hy=>by rw[<- (G.og hy).2];exact at_st (G.og hy).1
 have Zl:(st.map PV.str).length=st.length:=B0 ..;unfold rowP;generalize hZ:st.map PV.str=Z at *;generalize g.map PV.str=W at *;right;refine O3 (λi env m=>∃s3 s4 s5,env=[some (.v (.tup Z)),some (.v (.tup W)),some (.own (((st.take i).filter (cT st g)).map (prP st g))),s3,s4,s5]/\m=n/\∀y∈st.take i,org st g y=pal st g y) _ 0 _ _ ⟨none,none,none,rfl,rfl,λy hy=>by simp at hy⟩ (λi x env m N ex hI hN=>?_) (λenv m hI=>?_)
 ·obtain⟨y,ey,rfl⟩:=Lp ex;rw[<- hZ] at ey;obtain⟨z,ez,rfl⟩:=Dj ey;obtain⟨s3,s4,s5,rfl,rfl,hI⟩:=hI;rw[J4] at hN hI ⊢;have hz:=G4 ez;have hi:i=ixS st z:=Dh G.nd ez (Q1 hz).1
  have fl:(((st.take i).filter (cT st g)).map (prP st g)).length<=9:=by
   rw[B0];have a:=O7 (cT st g) (st.take i);rw[J7] at a;omega
  rw[Fd ez,List.filter_append,N5] at hN;generalize ((st.take i).filter (cT st g)).map (prP st g)=A at *;have a1:=ag z hz;have a2:=ao z hz;rw[<- hi] at a1;right;refine⟨⟨_,rfl⟩,i2 z hz ?_⟩;dsimp only;rw[a2,a1];dsimp only
  by_cases c:org st g z=pal st g z
  ·refine if_f (by rw[M6,jq c];rfl) ?_;have eo:ixS g z=ixS st (pal st g z):=by rw[<- c];exact(G.og hz).2.symm
   have nx:∀y∈st.take i++[z],org st g y=pal st g y:=λy hy=>(D7.mp hy).elim (hI y) λe=>by rw[E8.mp e];exact c
   rw[eo]
   by_cases c2:ixS st z<ixS st (pal st g z)
   ·have f1:[z].filter (cT st g)=[z]:=BZ (jq c2);rw[f1,show [z].map (prP st g)=[.tup [.int (i:Int),.int (ixS st (pal st g z):Int)]] by rw[hi];rfl] at hN;exact if_t (jq 0x0) ⟨⟨_,rfl⟩,0x0,hN _ _ ⟨_,_,_,rfl,rfl,nx⟩⟩
   ·have f1:[z].filter (cT st g)=[]:=DH (by rw[show cT st g z=false from jr c2];decide);rw[f1,l5,W5] at hN;exact if_f (jr 0x0) (hN _ _ ⟨_,_,_,rfl,rfl,nx⟩)
  ·exact if_t (by rw[M6,jr c];rfl) (h0 z hz c)
 ·obtain⟨s3,s4,s5,rfl,rfl,hI⟩:=hI;rw[Lq,J4,Zl,List.take_length] at hI ⊢;have:=h1 hI;unfold prs at this;generalize (st.filter (cT st g)).map (prP st g)=A at *;right;exact this
end
def Ds {α:Type}(xs:List α)(f:α->Bool):Z3 (xs.map λx=>PV.bl (f x))=some (xs.map f):=by
 rw[<- Ll (xs.map f),R9];rfl
def NI {α:Type}(xs:List α)(f:α->Bool):(xs.map f).any id=xs.any f:=by rw[List.any_map];rfl
def NJ {a b c d n:Nat}{R:PV->Nat->Prop}(h:R (.bl (!decide ((a<c/\c<b)↔(a<d/\d<b)))) n):FP [.tup [.int (a:Int),.int (b:Int)],.tup [.int (c:Int),.int (d:Int)]] n R:=by
 mleft;unfold Ju
 have fin:∀u v:Bool,(u=true↔a<c/\c<b)->(v=true↔a<d/\d<b)->R (.bl (!decide (u=v))) n:=λu v hu hv=>by
  have e:decide (u=v)=decide ((a<c/\c<b)↔(a<d/\d<b)):=by rw[decide_eq_decide,<- hu,<- hv];exact V0
  rw[e];exact h
 right
 by_cases h1:a<c
 ·refine if_t (jq 0x0) ?_
  by_cases h2:a<d
  ·exact if_t (jq 0x0) (fin _ _ (by simp[h1]) (by simp[h2]))
  ·exact if_f (jr 0x0) (fin _ false (by simp[h1]) (by simp[h2]))
 ·refine if_f (jr 0x0) ?_
  by_cases h2:a<d
  ·exact if_t (jq 0x0) (fin false _ (by simp[h1]) (by simp[h2]))
  ·exact if_f (jr 0x0) (fin false false (by simp[h1]) (by simp[h2]))
section
variable {st g:List Str}{T:List Ev}{n r:Nat}{R:PV->Nat->Prop}
noncomputable def crB (st g:List Str)(y z:Str):Bool:=!decide ((ixS st y<ixS st z/\ixS st z<ixS st (pal st g y))↔(ixS st y<ixS st (pal st g z)/\ixS st (pal st g z)<ixS st (pal st g y)))
def NK (G:Gl st g):(prs st g).length<=9:=by
 unfold prs;rw[B0];exact K1 (O7 _ _) G.l9
def UU (G:Gl st g)(h:R (.bl (decide (∀y∈st.filter (cT st g),∀z∈st.filter (cT st g),crB st g y z=false))) n):FQ [.lst (prs st g)] n R:=by
 mleft;unfold Jv;have pl:=NK G;unfold prs at *;generalize st.filter (cT st g)=Y at *;have hY:(Y.map (prP st g)).length=Y.length:=B0 ..;generalize hX:Y.map (prP st g)=X at *;right;refine O3 (λi env m=>∃s1,env=[some (.v (.lst X)),s1]/\m=n/\∀y∈Y.take i,∀z∈Y,crB st g y z=false) _ 0 _ _ ⟨none,rfl,rfl,λy hy=>by simp at hy⟩ (λi x env m N ex hI hN=>?_) (λenv m hI=>?_)
 ·obtain⟨s1,rfl,rfl,hI⟩:=hI;rw[<- hX] at ex;obtain⟨y,ey,rfl⟩:=Dj ex;rw[J4] at hI hN;rw[Fd ey] at hN;generalize hP:prP st g y=P;right;refine⟨0x0,?_⟩;rw[<- hX];refine HC (prP st g) (λz=>.bl (crB st g y z)) Y _ m _ (λz hz m' Q q=>?_) ?_
  ·generalize hP':prP st g z=P' at *;right;subst hP hP';exact NJ q
  ·rw[Ds];dsimp only;rw[NI,hX];cases ha:Y.any (crB st g y) with
   | true =>
    obtain⟨z,hz,c⟩:=k9.mp ha;refine if_t rfl ?_;rw[jr λq=>by rw[q y (G4 ey) z hz] at c;cases c] at h;exact h
   | false =>
    refine if_f rfl (hN _ _ ⟨_,rfl,rfl,λu hu=>?_⟩);rcases D7.mp hu with hu|hu
    ·exact hI u hu
    ·rw[E8.mp hu];exact λz hz=>by simpa using DJ.mp ha z hz
 ·obtain⟨s1,rfl,rfl,hI⟩:=hI;rw[J4,hY,List.take_length] at hI;right;rw[jq hI] at h;exact h
def m_lcan (G:Gl st g)(h:∀b:Bool,(b=true↔Ok r st g)->R (.bl b) n):FR [rowP st,rowP g,.int (r:Int)] n R:=by
 mleft;unfold Jw;have mp:∀{m:Nat} {R:PV->Nat->Prop},(∀x∈st,org st g x≠pal st g x->R .non m)->(NR st g->R (.lst (prs st g)) m)->FN [rowP st,rowP g] m R:=λa b=>UT G a b;have mn:∀{m:Nat} {R:PV->Nat->Prop},R (.bl (decide (∀y∈st.filter (cT st g),∀z∈st.filter (cT st g),crB st g y z=false))) m->FQ [.lst (prs st g)] m R:=λq=>UU G q;have pl:=NK G;have hX:prs st g=(st.filter (cT st g)).map (prP st g):=rfl;have mY:∀y,y∈st.filter (cT st g)↔y∈st/\ixS st y<ixS st (pal st g y):=λy=>by rw[G8];unfold cT;rw[decide_eq_true_iff]
 generalize rowP st=S at *;generalize rowP g=W at *;symm;right;refine mp (λx hx c=>?_) λnr=>?_
 ·subst hU;right;exact h false ⟨nofun,λo=>absurd (o.nr x hx) c⟩
 ·generalize prs st g=X at *;subst hU;symm;right;refine⟨0x0,?_⟩;rw[hX];refine Mh (λy:Str=>PV.int (ixS st y:Int)) (λy=>PV.int (ixS st (pal st g y):Int)) (λy=>PV.bl (decide (r<ixS st (pal st g y)-ixS st y-1))) (st.filter (cT st g)) _ _ _ _ (λy hy m Q q=>?_) ?_
  ·have:=(mY y).mp hy;right;rw[show decide ((r:Int)<(ixS st (pal st g y):Int)-(ixS st y:Int)-1)=decide (r<ixS st (pal st g y)-ixS st y-1) from decide_eq_decide.mpr 0x0];exact q
  ·rw[Ds];dsimp only;rw[NI,<- hX];cases ha:(st.filter (cT st g)).any λy=>decide (r<ixS st (pal st g y)-ixS st y-1) with
   | true =>
    obtain⟨y,hy,c⟩:=k9.mp ha;have c:=jv c;refine if_t rfl (h false ⟨nofun,λo=>?_⟩);have:=o.near y ((mY y).mp hy).1 ((mY y).mp hy).2;ext
   | false =>
    refine if_f rfl ?_;subst hU;right;refine mn (h _ ?_);rw[decide_eq_true_iff]
    have cr:∀y z,crB st g y z=false↔¬Crs (ixS st y) (ixS st (pal st g y)) (ixS st z) (ixS st (pal st g z)):=λy z=>by
     unfold crB Crs;rw[Bool.not_eq_false',decide_eq_true_iff,Classical.not_not]
    constructor
    ·intro q;refine⟨nr,λy hy ly=>?_,λy hy ly z hz lz=>(cr y z).mp (q y ((mY y).mpr ⟨hy,ly⟩) z ((mY z).mpr ⟨hz,lz⟩))⟩;have:=DJ.mp ha y ((mY y).mpr ⟨hy,ly⟩)
     simpa using this
    ·exact λo y hy z hz=>(cr y z).mpr (o.plain y ((mY y).mp hy).1 ((mY y).mp hy).2 z ((mY z).mp hz).1 ((mY z).mp hz).2)
end
def UV {st g:List Str}{a:Str}(nd:(a::g).Nodup)(p:(a::g).Perm st):st.filter (λb=>!decide (b∈g))=[a]:=by
 have h1:=p.filter (λb=>!decide (b∈g));obtain⟨na,_⟩:=O8.mp nd;rw[BZ (by grind),AO.mpr (λb hb=>by rw[jq hb];decide)] at h1;exact(List.singleton_perm.mp h1).symm
def NL {α:Type}{A B E:List α}{k:Nat}(hA:A.length=k)(hB:1<=B.length):(A++B++E).drop (k+1)=B.drop 1++E:=by
 rw[R8,List.drop_append,R7 0x0,hA,l4,show k+1-k=1 by omega,List.drop_append,show 1-B.length=0 by omega,y3]
structure Se (s n mx:Nat)(row oth:List Str):Prop where
 h1:1<=s
 h8:s<=8
 hn:1<=n
 h24:n<=24
 hl:row.length=n
 hr:RowS row
 hp:oth.Perm row
 hmx:mx=(n+s-1)/s
noncomputable def rowI (s n mx:Nat)(row oth:List Str):Nat->List Str
 |0=>row
 |i+1=>putN s n (mx-1-i) (rowI s n mx row oth i) (E5 (C0 s n (mx-1-i) (rowI s n mx row oth i)) (C0 s n (mx-1-i) oth))
abbrev stI (s n mx:Nat)(row oth:List Str)(i:Nat):List Str:=C0 s n (mx-1-i) (rowI s n mx row oth i)
abbrev thI (s n mx:Nat)(oth:List Str)(i:Nat):List Str:=C0 s n (mx-1-i) oth
abbrev gI (s n mx:Nat)(row oth:List Str)(i:Nat):List Str:=E5 (stI s n mx row oth i) (thI s n mx oth i)
def okI (r s n mx:Nat)(row oth:List Str)(i:Nat):Prop:=strg (stI s n mx row oth i) (thI s n mx oth i)=[]/\Ok r (stI s n mx row oth i) (gI s n mx row oth i)
noncomputable def toT (st g:List Str):List Ev:=Classical.choose (@JI st g)
def F_ {st g:List Str}:To st g (toT st g):=Classical.choose_spec JI
noncomputable def rcI (s n mx:Nat) (row oth:List Str) (i:Nat):PV:=AF (stI s n mx row oth i) (toT (stI s n mx row oth i) (gI s n mx row oth i))
section
variable {s n mx r i:Nat}{row oth:List Str}
def Se.mle (S:Se s n mx row oth):mx<=n:=by rw[S.hmx];exact MO S.h1 S.hn
def Se.ol (S:Se s n mx row oth):oth.length=n:=by rw[S.hp.length_eq,S.hl]
def Se.no (S:Se s n mx row oth):RowS oth:=S.hr.perm S.hp
def Se.kp (S:Se s n mx row oth)(hi:i<mx):(mx-1-i)*s<=n-1/\(mx-1-i)*s<=hiN s n (mx-1-i)/\hiN s n (mx-1-i)+1<=n:=by
 have h:=Ff S.h1 S.hn (k:=mx-1-i) (by have:=S.hmx;ext);exact⟨h,Fg h,u9 S.hn⟩
def Se.slen (S:Se s n mx row oth)(hi:i<mx){q:List Str}(hq:q.length=n):1<=(C0 s n (mx-1-i) q).length/\(C0 s n (mx-1-i) q).length<=9/\(C0 s n (mx-1-i) q).length=hiN s n (mx-1-i)+1-(mx-1-i)*s:=by
 have e:=AB (s:=s) (k:=mx-1-i) hq S.hn;have:=S.kp hi;have:=S.h8;rw[e];unfold hiN at *;omega
def Se.gl (S:Se s n mx row oth)(hi:i<mx)(p:(rowI s n mx row oth i).Perm row)(h:strg (stI s n mx row oth i) (thI s n mx oth i)=[]):Gl (stI s n mx row oth i) (gI s n mx row oth i):=
 JJ (Z7 (S.hr.perm p)).1 (Z7 S.no).1 (S.slen hi (by rw[p.length_eq,S.hl])).2.1 h
def Se.rows (S:Se s n mx row oth):∀(i:Nat),i<=mx->(∀j<i,okI r s n mx row oth j)->(rowI s n mx row oth i).Perm row/\(rowI s n mx row oth i).drop ((mx-i)*s+1)=oth.drop ((mx-i)*s+1):=by
 intro i
 induction i with
 | zero =>
  intro _ _;refine⟨Cq _,?_⟩
  have:n<=mx*s:=by
   have:=S.hmx;have:=Nat.div_add_mod (n+s-1) s;have:=Nat.mod_lt (n+s-1) (show 0<s from S.h1);rw[S.hmx,Nat.mul_comm];ext
  rw[Nat.sub_zero,R7 (by show row.length<=_;rw[S.hl];ext),R7 (by rw[S.ol];ext)]
 | succ i ih =>
  intro hi ok;obtain⟨p,dr⟩:=ih 0x0 λj hj=>ok j 0x0;have hi:i<mx:=0x0
  obtain⟨os,oo⟩:=ok i 0x0;have G:=S.gl hi p os;obtain⟨k1,k2,k3⟩:=S.kp hi;have rl:(rowI s n mx row oth i).length=n:=by rw[p.length_eq,S.hl]
  have sl:(stI s n mx row oth i).length=_:=(S.slen hi rl).2.2;have tl:1<=(thI s n mx oth i).length/\(thI s n mx oth i).length<=9/\(thI s n mx oth i).length=_:=S.slen hi S.ol;have gp:(gI s n mx row oth i).length=(stI s n mx row oth i).length:=G.len;refine⟨(Ie 0x0 G.pm).trans p,?_⟩;show(putN s n (mx-1-i) (rowI s n mx row oth i) (gI s n mx row oth i)).drop _=_;have e0:(mx-i)*s=(mx-1-i)*s+s:=by rw[show mx-i=mx-1-i+1 by omega,Ci,Nat.one_mul]
  rw[show mx-(i+1)=mx-1-i by omega];rw[e0] at dr;unfold gI E5 at gp ⊢;rw[C7,J8] at gp;generalize (stI s n mx row oth i).filter (λb=>!decide (b∈(thI s n mx oth i).drop 1))=F at *
  have fl:F.length=1:=by
   ext
  have dr2:(rowI s n mx row oth i).drop (hiN s n (mx-1-i)+1)=oth.drop (hiN s n (mx-1-i)+1):=by
   by_cases c:(mx-1-i)*s+s<=n-1
   ·rw[show hiN s n (mx-1-i)+1=(mx-1-i)*s+s+1 by unfold hiN;omega];exact dr
   ·rw[R7 (by rw[rl];unfold hiN;ext),R7 (by rw[S.ol];unfold hiN;ext)]
  have rp:=MM (s:=s) (n:=n) (k:=mx-1-i) (row:=oth) 0x0;unfold putN;rw[dr2];have ta:∀{q:List Str},q.length=n->(q.take ((mx-1-i)*s)).length=(mx-1-i)*s:=λh=>by rw[J7];ext
  generalize oth.drop (hiN s n (mx-1-i)+1)=E at *
  conv=>rhs;rw[<- rp]
  rw[NL (ta rl) (by rw[C7];ext),NL (ta S.ol) tl.1,List.drop_append,fl,R7 0x0]
  rfl
def Se.first (S:Se s n mx row oth)(ok:∀j<i,okI r s n mx row oth j)(hi:i<mx)(h0:mx-1-i=0):strg (stI s n mx row oth i) (thI s n mx oth i)=[]/\gI s n mx row oth i=thI s n mx oth i:=by
 obtain⟨p,dr⟩:=S.rows i 0x0 ok;have rl:(rowI s n mx row oth i).length=n:=by rw[p.length_eq,S.hl]
 have pe:(stI s n mx row oth i).Perm (thI s n mx oth i):=by
  unfold stI thI C0;rw[h0,Nat.zero_mul,y3,y3]
  have dr2:(rowI s n mx row oth i).drop (hiN s n 0+1)=oth.drop (hiN s n 0+1):=by
   by_cases c:s<=n-1
   ·rw[show hiN s n 0+1=(mx-i)*s+1 by rw[show mx-i=1 by omega];unfold hiN;omega];exact dr
   ·rw[R7 (by rw[rl];unfold hiN;ext),R7 (by rw[S.ol];unfold hiN;ext)]
  have q:=p.trans S.hp.symm;generalize rowI s n mx row oth i=w at *;rw[<- x8 (hiN s n 0+1) w,<- x8 (hiN s n 0+1) oth,dr2] at q;exact(List.perm_append_right_iff _).mp q
 have tl:=S.slen hi S.ol;have nt:=(Z7 (s:=s) (n:=n) (k:=mx-1-i) S.no).1;unfold gI strg E5;generalize stI s n mx row oth i=st at *;unfold thI at *;generalize C0 s n (mx-1-i) oth=th at *
 match th,tl with
 | a :: D, _ =>
  refine⟨AO.mpr λx hx=>?_,?_⟩
  ·rw[jq (pe.mem_iff.mpr (B6 _ hx))];decide
  ·show st.filter (λb=>!decide (b∈D))++D=a::D;rw[UV nt pe.symm];rfl
end
def NN {R:PV->Nat->Prop}(h1:1<=s)(hn:1<=n)(h8:s<=8)(h:R (.int (((n+s-1)/s:Nat):Int)) m):Dq [.tup [.int (s:Int),.int r],.int (n:Int)] m R:=by
 mleft;unfold Jf;right;refine⟨⟨0x0,0x0⟩,?_⟩
 have e:((n:Int)+s-1)/s=(((n+s-1)/s:Nat):Int):=by
  rw[show(n:Int)+s-1=((n+s-1:Nat):Int) by omega]
  rfl
 rw[e];exact h
section
variable {s n mx r m:Nat}{row oth:List Str}{R:PV->Nat->Prop}
abbrev Bad (r s n mx:Nat)(row oth:List Str)(i:Nat)(v:PV):Prop:=BadV r (stI s n mx row oth i) (thI s n mx oth i) v
def JL {i:Nat}{v:PV}(h:Bad r s n mx row oth i v):¬okI r s n mx row oth i:=λ⟨o1,o2⟩=>by
 rcases h with⟨x,hx,_⟩|⟨_,h⟩
 ·rw[o1] at hx;cases hx
 ·cases h with
  |round hx h=>exact h (o2.nr _ hx)
  |far nr hy ly h=>exact absurd (o2.near _ hy ly) (Nat.not_le_of_lt h)
  |cross nr hy ly hz lz h=>exact o2.plain _ hy ly _ hz lz h
noncomputable def unP (mx i:Nat)(v:PV):PV:=.tup [.str (A6 "untold"),.int ((mx-1-i:Nat):Int),v]
def UW {α:Type}(f:Nat->α)(i:Nat):(C2 (i+1)).map f=(C2 i).map f++[f i]:=by rw[List.range_succ,N5];rfl
def NO (S:Se s n mx row oth)(h0:(∀j<mx,okI r s n mx row oth j)->R (.tup [.lst ((C2 mx).map (rcI s n mx row oth)),.lst []]) m)(h1:∀i X L,i<mx->(∀j<i,okI r s n mx row oth j)->L≠[]->(∀v,v∈L↔Bad r s n mx row oth i v)->R (.tup [X,.lst (L.map (unP mx i))]) m):FE [.tup [.int (s:Int),.int (r:Int)],rowP row,rowP oth] m R:=by
 mleft;unfold Jh;have mle:=S.mle;have n24:=S.h24;have rl:(row.map PV.str).length=n:=by rw[B0];exact S.hl
 have hW':rowP row=.tup (row.map PV.str):=rfl;generalize hW:rowP row=W at *;generalize hO:rowP oth=O;symm;right;subst hU;symm;right;subst hU;symm;walk_at "pd";rw[hW'];dsimp only;rw[rl];refine NN S.h1 S.hn S.h8 ?_;rw[<- S.hmx];refine⟨⟨0x0,0x0⟩,?_⟩;rw[T0,<- hW'];refine O3 (λi env m'=>∃s5 s6 s7 s8,env=[some (.v (.tup [.int (s:Int),.int (r:Int)])),some (.v W),some (.v O),some (.own ((C2 i).map (rcI s n mx row oth))),some (.v (rowP (rowI s n mx row oth i))),s5,s6,s7,s8]/\(∀j<i,okI r s n mx row oth j)/\m'=m) _ 0 _ _ ⟨_,_,_,_,by rw[<- hW];rfl,λj hj=>absurd hj 0x0,rfl⟩ (λi x env m' N ex hI hN=>?_) (λenv m' hI=>?_)
 ·obtain⟨s5,s6,s7,s8,rfl,ok,rfl⟩:=hI;obtain⟨hi,rfl⟩:=Ia ex;rw[J4] at ok hN ⊢;obtain⟨p,_⟩:=S.rows i 0x0 ok;have rL:(rowI s n mx row oth i).length=n:=by rw[p.length_eq,S.hl]
  have rS:=S.hr.perm p;have ek:(mx:Int)-1-i=((mx-1-i:Nat):Int):=0x0
  rw[ek];have sl:=S.slen hi rL;have k24:mx-1-i<=1000:=0x0
  have ns:=(Z7 (s:=s) (n:=n) (k:=mx-1-i) rS).1;have m1:∀{m:Nat} {R:PV->Nat->Prop},R (rowP (stI s n mx row oth i)) m->j3 [.tup [.int (s:Int),.int (r:Int)],rowP (rowI s n mx row oth i),.int ((mx-1-i:Nat):Int)] m R:=λq=>FY S.h8 S.hn rL k24 q
  have m2:∀{m:Nat} {R:PV->Nat->Prop},(∀L:List PV,(∀v,v∈L↔Bad r s n mx row oth i v)->L.length<=1000->R (.lst L) m)->Fz [.tup [.int (s:Int),.int (r:Int)],rowP (stI s n mx row oth i),O,.int ((mx-1-i:Nat):Int)] m R:=λq=>by
   rw[<- hO];exact UQ ns sl.2.1 S.no.1 S.h8 S.hn S.h24 S.ol k24 q
  have m3:∀{m:Nat} {R:PV->Nat->Prop},R (rowP (gI s n mx row oth i)) m->BN [.tup [.int (s:Int),.int (r:Int)],rowP (stI s n mx row oth i),O,.int ((mx-1-i:Nat):Int)] m R:=λq=>by
   rw[<- hO];exact ND S.h8 S.hn S.h24 S.ol k24 (K1 sl.2.1 0b0) q
  have hG:=λo:okI r s n mx row oth i=>S.gl hi p o.1;have m4:okI r s n mx row oth i->∀{m:Nat} {R:PV->Nat->Prop},R (shP (toT (stI s n mx row oth i) (gI s n mx row oth i))) m->BP [rowP (stI s n mx row oth i),rowP (gI s n mx row oth i)] m R:=λo {m R} q=>NE (hG o) F_ q;have m5:okI r s n mx row oth i->∀{m:Nat} {R:PV->Nat->Prop},R (rcI s n mx row oth i) m->FB [rowP (stI s n mx row oth i),shP (toT (stI s n mx row oth i) (gI s n mx row oth i))] m R:=λo {m R} q=>m_race (hG o) F_ q
  have m6:okI r s n mx row oth i->∀{m:Nat} {R:PV->Nat->Prop},R (rowP (rowI s n mx row oth (i+1))) m->FA [.tup [.int (s:Int),.int (r:Int)],rowP (rowI s n mx row oth i),.int ((mx-1-i:Nat):Int),shP (toT (stI s n mx row oth i) (gI s n mx row oth i))] m R:=λo {m R} q=>by
   have t:=@F_ (stI s n mx row oth i) (gI s n mx row oth i);have:=t.len (hG o);exact UF S.h8 S.hn 0x0 rL k24 0x0 (((hG o).fair o.2.nr).perm t.p).sub (by rw[show rbh (C0 s n (mx-1-i) (rowI s n mx row oth i)) _=_ from(hG o).rb o.2.nr t.p];exact q)
  have hN':=λ(o:okI r s n mx row oth i) s5 s6 s7 s8=>hN _ m' ⟨s5,s6,s7,s8,rfl,(λj hj=>(Ch j i).elim (ok j) λz=>by rw[show j=i by omega];exact o),rfl⟩;have h1':=λX L=>h1 i X L hi ok;rw[UW] at hN';have al:((C2 i).map (rcI s n mx row oth)).length=i:=by rw[B0,U8]
  clear hN h1 hG;generalize (C2 i).map (rcI s n mx row oth)=GL at *;generalize rowP (rowI s n mx row oth (i+1))=V2 at *;generalize rcI s n mx row oth i=RV at *;generalize shP (toT (stI s n mx row oth i) (gI s n mx row oth i))=T at *;generalize rowP (gI s n mx row oth i)=G at *;generalize rowP (stI s n mx row oth i)=S at *;generalize rowP (rowI s n mx row oth i)=V at *;symm;right;refine m1 ?_;subst hU;symm;right;refine m2 λL hv hL=>?_;cases L with
  | cons v L =>
   have h1':=λX=>h1' X (v::L) nofun hv;unfold unP at h1';rw[D5] at hL;generalize ((mx-1-i:Nat):Int)=k at *;subst hU;symm;right;refine if_t rfl ⟨0x0,?_⟩;refine EC (λv=>.tup [.str (A6 "untold"),.int k,v]) (v::L) _ _ _ (λu hu m Q q=>?_) (h1' _);right;exact q
  | nil =>
   have o:okI r s n mx row oth i:=nobad λv c=>nomatch (hv v).mpr c
   subst hU;right;exact m3 (m4 o ⟨⟨_,rfl⟩,m5 o ⟨0x0,m6 o (hN' o _ _ _ _)⟩⟩)
 ·obtain⟨s5,s6,s7,s8,rfl,ok,rfl⟩:=hI;rw[J4,Ib] at ok ⊢;have:=h0 ok;generalize (C2 mx).map (rcI s n mx row oth)=GL at *;subst hU;right;exact this
end
noncomputable def Z8 (s n mx:Nat) (row oth:List Str) (i:Nat):List PV:=((C2 i).map (rcI s n mx row oth)).reverse
section
variable {s n mx r m:Nat}{row oth:List Str}{R:PV->Nat->Prop}
def m_told (S:Se s n mx row oth)(h0:(∀j<mx,okI r s n mx row oth j)->R (.tup [.str (A6 "told"),.tup (Z8 s n mx row oth mx)]) m)(h1:∀i v,i<mx->(∀j<i,okI r s n mx row oth j)->Bad r s n mx row oth i v->R (unP mx i v) m):FF [.tup [.int (s:Int),.int (r:Int)],rowP row,rowP oth] m R:=by
 mleft;unfold Ji;have up:=λ{m:Nat} {R:PV->Nat->Prop} q q'=>NO (r:=r) (m:=m) (R:=R) S q q';unfold Z8 at h0;generalize rowP row=W at *;generalize rowP oth=O at *;generalize (C2 mx).map (rcI s n mx row oth)=GL at *;symm;right;refine up (λok=>?_) λi X L hi ok hL hv=>?_
 ·have h0:=h0 ok;subst hU;right;exact h0
 ·cases L with
  |nil=>exact absurd rfl hL
  | cons v L =>
   have h1:=h1 i v hi ok ((hv v).mp B8);subst hU;rw[J3];generalize L.map (unP mx i)=L' at *;generalize unP mx i v=T at *;mleft;right;refine if_t rfl ?_;rw[show atI (T::L') 0=some T from P2 (j:=0) rfl];exact h1
def UX {k:Nat}{w:List Str}(S:Se s n mx row oth)(hw:w.length=n)(hk:k<=24)(h0:k=0->strg (C0 s n k w) (C0 s n k oth)=[])(h:R (.tup [rowP (C0 s n k w),rowP (C0 s n k oth),.lst ((strg (C0 s n k w) (C0 s n k oth)).map PV.str)]) m):FM [.tup [.int (s:Int),.int (r:Int)],rowP w,rowP oth,.int (k:Int)] m R:=by
 mleft;unfold Js;have n24:=S.h24;have hh:=u9 (s:=s) (k:=k) S.hn
 have e:∀{q:List Str},q.length=n->cutP (q.map PV.str) (some ((k*s:Nat):Int)) (some (((hiN s n k:Nat):Int)+1))=(C0 s n k q).map PV.str:=λ{q} hq=>by
  rw[X3,show((hiN s n k:Nat):Int)+1=((hiN s n k+1:Nat):Int) by omega,Fe q (by rw[hq];exact hh)]
  rfl
 have e1:=e hw;have e2:=e S.ol;have dc:=FZ (C0 s n k oth);have tl:(C0 s n k oth).length<=24:=by rw[AB S.ol S.hn];ext
 have wl:(w.map PV.str).length=n:=by rw[B0];exact hw
 unfold rowP at *;generalize w.map PV.str=Z at *;generalize oth.map PV.str=O at *;generalize C0 s n k w=st at *;generalize C0 s n k oth=th at *;generalize hA:st.map PV.str=A at *;generalize hB:th.map PV.str=B at *;right;rw[wl];refine JD S.h8 S.hn 0x0 ?_;right;rw[e1,e2]
 by_cases c:(0:Int)<k
 ·refine if_t (jq c) ?_;rw[dc];refine⟨by rw[B0,J8];omega,?_⟩;refine i5 PV.str (λx=>!decide (x∈st)) (th.drop 1) _ _ _ (λz hz m Q q=>?_) h;right;exact BL hA q
 ·refine if_f (jr c) ?_;rw[h0 0x0] at h;exact h
def NP {k:Nat}{st th:List Str}(hs:st.length<=24)(ht:th.length<=24)(h0:k=0->E5 st th=th)(h:R (rowP (E5 st th)) m):AE [rowP st,rowP th,.int (k:Int)] m R:=by
 mleft;unfold Jx;have dc:=FZ th
 by_cases c:k=0
 ·rw[h0 c] at h;subst c;generalize rowP st=A at *;generalize rowP th=B at *;right;exact h
 ·unfold E5 rowP at h;unfold rowP;rw[N5] at h;have Zl:(st.map PV.str).length<=24:=by rw[B0];exact hs
  have Al:((th.drop 1).map PV.str).length<=24:=by rw[B0,J8];ext
  have fl:=O7 (λb=>!decide (b∈th.drop 1)) st;generalize hZ:st.map PV.str=Z at *;generalize hD:(th.drop 1).map PV.str=D at *;generalize hA:th.map PV.str=A at *;right;refine if_f (jr 0x0) ?_;rw[dc];refine⟨0x0,?_⟩;rw[<- hZ];refine i5 PV.str (λb=>!decide (b∈th.drop 1)) st _ _ _ (λz hz m Q q=>?_) ⟨by rw[B0];omega,h⟩;right;rw[dc];exact BL hD q
end
noncomputable def ascS (z:Str):Bool:=(z.cps.all λc=>decide (c<128))&&decide (z.length<=1000)
noncomputable def okT:Nat->PV->Bool
 |d+1,.tup xs=>xs.all (okT d)
 |_,.str z=>ascS z
 |_,x=>(tyP x).isSome
theorem NQ:∀{d:Nat} {x:PV},okT (d+1) x=true->okT d x=true
 |0,x,h=>by cases x <;> first|rfl|exact h
 | d + 1, x, h => by
  cases x with
  |tup xs=>exact C6.mpr λy hy=>NQ (C6.mp h y hy)
  |_=>exact h
def UY {z:Str}(h:L8 z):ascS z=true:=by
 obtain⟨h1,h2,h3⟩:=h;unfold ascS;rw[P4,decide_eq_true_iff,Z2,<- Array.all_toList];exact⟨C6.mpr λc hc=>jq (y4 (h3 c hc).2 0b0),0x0⟩
def AG {d:Nat}{z:Str}:okT d (.str z)=ascS z:=by cases d <;> rfl
def UZ:∀c:Nat,c<128->(!decide ((⟨#[c]⟩:Str).cps.toList<(A6 "a").cps.toList))=decide (97<=c)/\(!decide ((A6 "z").cps.toList<(⟨#[c]⟩:Str).cps.toList))=decide (c<=122):=by decide +kernel
def JM {α:Type}(xs:List α)(f:α->Bool):(xs.map f).all id=xs.all f:=by rw[List.all_map];rfl
def JN {d:Nat}{T:PV}{n:Nat}{R:PV->Nat->Prop}(hT:okT d T=true)(h:∀c:Bool,(c=true↔∃z,T=.str z/\L8 z)->R (.bl c) n):u8 [T] n R:=by
 mleft;unfold Jm;have no:(∀z,T≠.str z)->R (.bl false) n:=λz=>h false ⟨nofun,λ⟨x,e,_⟩=>absurd e (z _)⟩;symm;cases T with
 | str z =>
  rw[AG] at hT;unfold ascS at hT;rw[P4,decide_eq_true_iff] at hT;have lx:z.length=z.cps.toList.length:=Z2 z
  have asc:∀c∈z.cps.toList,c<128:=λc hc=>by
   have:=hT.1;rw[<- Array.all_toList] at this;exact jv (C6.mp this c hc)
  have bs:(L8 z)↔1<=z.cps.toList.length/\z.cps.toList.length<=8/\∀c∈z.cps.toList,Ltr c:=Iff.rfl;have h:∀c:Bool,(c=true↔L8 z)->R (.bl c) n:=λc hc=>h c (hc.trans ⟨λb=>⟨z,rfl,b⟩,λ⟨z1,e,b⟩=>by cases e;exact b⟩);subst hU;right;refine⟨0x0,?_⟩
  by_cases c1:(1:Int)<=z.length
  ·refine if_t (jq c1) ?_
   by_cases c2:(z.length:Int)<=8
   ·refine if_f (by rw[jq c2];rfl) ⟨hT.1,by rw[B0];omega,?_⟩;refine HC (λc=>PV.str ⟨#[c]⟩) (λc=>PV.bl (decide (97<=c)&&decide (c<=122))) z.cps.toList _ _ _ (λc hc m Q hQ=>?_) ?_
    ·have:=UZ c (asc c hc);right;rw[this.1,this.2];cases h1:decide (97<=c) with
     |true=>rw[h1] at hQ;exact hQ
     |false=>rw[h1] at hQ;exact hQ
    ·rw[Ds];dsimp only;rw[JM];refine h _ ?_;rw[C6,bs];constructor
     ·intro q;refine⟨0x0,0x0,λc hc=>?_⟩;have:=q c hc;rw[P4,decide_eq_true_iff,decide_eq_true_iff] at this;exact this
     ·rintro⟨_,_,q⟩ c hc;have:=q c hc;rw[P4,decide_eq_true_iff,decide_eq_true_iff];exact this
   ·exact if_t (by rw[jr c2];rfl) (h false ⟨nofun,λb=>by have:=b.2.1;ext⟩)
  ·exact if_f (jr c1) (h false ⟨nofun,λb=>by have:=b.1;ext⟩)
 |_=>cases d <;> first|(cases hT;done)|(right;exact no nofun)
def TchS (x y:Str):Prop:=x≠y/\L8 x/\L8 y
def m_istA {d:Nat}{T:PV}{n:Nat}{R:PV->Nat->Prop}(hT:okT (d + 1) T=true)(h:∀c:Bool,(c=true↔∃x y,T=evP (.t x y)/\TchS x y)->R (.bl c) n):FH [T] n R:=by
 mleft;unfold Jn;have no:(∀xs,T≠.tup xs)->R (.bl false) n:=λz=>h false ⟨nofun,λ⟨x,y,e,_⟩=>absurd e (z _)⟩;symm;cases T with
 | tup xs =>
  have hx:∀x∈xs,okT d x=true:=C6.mp hT;have no3:xs.length≠3->R (.bl false) n:=λz=>h false ⟨nofun,λ⟨x,y,e,_⟩=>absurd (by rw[N2] at e;cases e;rfl) z⟩;right
  by_cases c3:xs.length=3
  ·refine if_f (by rw[jq 0x0];rfl) ?_
   match xs,c3 with
   | [a, b, c], _ =>
    have ha:=hx a 0o0;have hb:=hx b 0o0;have hc:=hx c 0o0;have mb:∀{R:PV->Nat->Prop},(∀c:Bool,(c=true↔∃z,b=.str z/\L8 z)->R (.bl c) n)->u8 [b] n R:=λq=>JN hb q;have mc:∀{R:PV->Nat->Prop},(∀d:Bool,(d=true↔∃z,c=.str z/\L8 z)->R (.bl d) n)->u8 [c] n R:=λq=>JN hc q;subst hU;right;have fl:(∀x y,PV.tup [a,b,c]=evP (.t x y)->TchS x y->False)->R (.bl false) n:=λz=>h false ⟨nofun,λ⟨x,y,e,g⟩=>(z x y e g).elim⟩;cases a with
    | str w =>
     refine if_f rfl (X2 rfl ?_);rw[p9]
     by_cases cw:w=A6 "touch"
     ·refine if_f (by rw[jq cw];rfl) (mb λk1 h1=>?_);subst cw;cases k1 with
      |false=>exact if_f rfl (fl λx y e g=>by rw[N2] at e;cases e;cases h1.mpr ⟨x,rfl,g.2.1⟩)
      | true =>
       obtain⟨x,rfl,bx⟩:=h1.mp rfl;refine if_t rfl (mc λk2 h2=>?_);cases k2 with
       |false=>exact if_f rfl (fl λx y e g=>by rw[N2] at e;cases e;cases h2.mpr ⟨y,rfl,g.2.2⟩)
       | true =>
        obtain⟨y,rfl,by_⟩:=h2.mp rfl;refine if_t rfl (gd2 rfl rfl (h _ ?_));rw[p9,DM,decide_eq_false_iff_not];exact⟨λne=>⟨x,y,rfl,ne,bx,by_⟩,λ⟨x',y',e,g⟩=>by rw[N2] at e;cases e;exact g.1⟩
     ·exact if_t (by rw[jr cw];rfl) (fl λx y e _=>by rw[N2] at e;cases e;exact cw rfl)
    |_=>cases d <;> first|(cases ha;done)|exact if_t rfl (fl λx y e _=>by rw[N2] at e;cases e)
  ·exact if_t (by rw[jr 0x0];rfl) (no3 c3)
 |_=>first|(cases hT;done)|(right;exact no nofun)
def Dt (y:PV):Prop:=(∃z,y=.str z/\L8 z)\/∃a b,y=evP (.t a b)/\TchS a b
noncomputable def partB (y:PV):Bool:=@decide (Dt y) (Classical.propDecidable _)
def JO {y:PV}:partB y=true↔Dt y:=@decide_eq_true_iff _ (Classical.propDecidable _)
def AH (V:PV):Prop:=∃w ys,V=.tup (.str w::ys)/\1<=ys.length/\ys.length<=2/\∀y∈ys,Dt y
def U_ {d:Nat}{V:PV}{n:Nat}{R:PV->Nat->Prop}(hV:okT (d + 2) V=true)(h:∀c:Bool,(c=true↔AH V)->R (.bl c) n):FI [V] n R:=by
 mleft;unfold Jo;have no:(∀w ys,V=.tup (.str w::ys)->1<=ys.length->ys.length<=2->False)->R (.bl false) n:=λz=>h false ⟨nofun,λ⟨w,ys,e,h1,h2,_⟩=>(z w ys e h1 h2).elim⟩;symm;cases V with
 | tup xs =>
  have hx:∀x∈xs,okT (d+1) x=true:=C6.mp hV;right
  by_cases c1:(2:Int)<=xs.length
  ·refine if_t (jq c1) ?_
   by_cases c2:(xs.length:Int)<=3
   ·refine if_f (by rw[jq c2];rfl) ?_
    match xs with
    | a :: ys =>
     rw[show atI (a::ys) 0=some a from P2 (j:=0) rfl];have oa:=hx a B8;have oy:∀y∈ys,okT (d+1) y=true:=λy hy=>hx y (B6 _ hy);rw[D5] at c1 c2;have ct:cutP (a::ys) (some 1) none=ys:=Z6 (a::ys) 1;cases a with
     | str w =>
      refine if_f rfl ?_;subst hU;right;rw[ct];refine⟨0x0,?_⟩;refine EC (λy=>.bl (partB y)) ys _ _ _ (λy hy m Q q=>?_) ?_
      ·have m1:∀{R:PV->Nat->Prop},(∀c:Bool,(c=true↔∃z,y=.str z/\L8 z)->R (.bl c) m)->u8 [y] m R:=λq=>JN (oy y hy) q;have m2:∀{R:PV->Nat->Prop},(∀c:Bool,(c=true↔∃a b,y=evP (.t a b)/\TchS a b)->R (.bl c) m)->FH [y] m R:=λq=>m_istA (oy y hy) q;have q:∀c:Bool,(c=true↔Dt y)->Q (.bl c) _ m:=λc hc=>by rw[V0.mpr (hc.trans JO.symm)];exact q
       right;refine m1 λc hc=>?_;cases c with
       |true=>exact q true ⟨λ_=>.inl (hc.mp rfl),λ_=>rfl⟩
       |false=>exact m2 λc' hc'=>q c' (hc'.trans ⟨λz=>.inr z,λz=>z.resolve_left λz=>nomatch hc.mpr z⟩)
      ·rw[Ds];dsimp only;rw[JM];refine h _ ?_;rw[C6];exact⟨λq=>⟨w,ys,rfl,0x0,0x0,λy hy=>JO.mp (q y hy)⟩,λ⟨w',ys',e,_,_,q⟩ y hy=>by cases e;exact JO.mpr (q y hy)⟩
     |_=>first|(cases oa;done)|exact if_t rfl (no λw ys e=>nomatch e)
   ·exact if_t (by rw[jr c2];rfl) (no λw ys e h1 h2=>by cases e;rw[D5] at c2;omega)
  ·exact if_f (jr c1) (no λw ys e h1 h2=>by cases e;rw[D5] at c1;omega)
 |_=>first|(cases hV;done)|(right;exact no nofun)
def Va {T:PV}{lo hi:Int}{n:Nat}{R:PV->Nat->Prop}{d:Nat}(hT:okT d T=true)(h:∀c:Bool,(c=true↔∃k,T=.int k/\lo<=k/\k<=hi)->R (.bl c) n):FG [T,.int lo,.int hi] n R:=by
 mleft;unfold Jl;cases T with
 | int k =>
  have h:∀c:Bool,(c=true↔lo<=k/\k<=hi)->R (.bl c) n:=λc hc=>h c (hc.trans ⟨λq=>⟨k,rfl,q⟩,λ⟨k',e,q⟩=>by cases e;exact q⟩);right
  by_cases c:lo<=k
  ·exact if_t (jq c) (h _ (by rw[decide_eq_true_iff];exact⟨λq=>⟨c,q⟩,λq=>q.2⟩))
  ·exact if_f (jr c) (h false ⟨nofun,λq=>absurd q.1 c⟩)
 |_=>cases d <;> first|(cases hT;done)|(right;exact h false ⟨nofun,λ⟨k,e,_⟩=>nomatch e⟩)
def Vb {d many:Nat}{T:PV}{n:Nat}{R:PV->Nat->Prop}(hT:okT (d + 3) T=true)(h:∀c:Bool,(c=true↔∃w k V,T=.tup [.str w,.int k,V]/\0<=k/\k<=(many:Int) - 1/\AH V)->R (.bl c) n):FJ [.int (many:Int),T] n R:=by
 mleft;unfold Jp;have no:(∀w k V,T=.tup [.str w,.int k,V]->AH V->False)->R (.bl false) n:=λz=>h false ⟨nofun,λ⟨w,k,V,e,_,_,f⟩=>(z w k V e f).elim⟩;symm;cases T with
 | tup xs =>
  have hx:∀x∈xs,okT (d+2) x=true:=C6.mp hT;right
  by_cases c3:xs.length=3
  ·refine if_f (by rw[jq 0x0];rfl) ?_
   match xs,c3 with
   | [a, b, c], _ =>
    have ha:=hx a 0o0;have hb:=hx b 0o0;have hc:=hx c 0o0;have m1:∀{R:PV->Nat->Prop},(∀c:Bool,(c=true↔∃k,b=.int k/\0<=k/\k<=(many:Int)-1)->R (.bl c) n)->FG [b,.int 0,.int ((many:Int)-1)] n R:=λq=>Va hb q;have m2:∀{R:PV->Nat->Prop},(∀k:Bool,(k=true↔AH c)->R (.bl k) n)->FI [c] n R:=λq=>U_ hc q;subst hU;right;cases a with
    | str w =>
     refine if_t rfl (m1 λe he=>?_);cases e with
     |false=>exact if_f rfl (h false ⟨nofun,λ⟨w,k,V,e,q1,q2,f⟩=>by cases e;cases he.mpr ⟨k,rfl,q1,q2⟩⟩)
     | true =>
      obtain⟨k,rfl,q1,q2⟩:=he.mp rfl;exact if_t rfl (m2 λe he=>h e (he.trans ⟨λf=>⟨w,k,c,rfl,q1,q2,f⟩,λ⟨w',k',V,e,_,_,f⟩=>by cases e;exact f⟩))
    |_=>first|(cases ha;done)|exact if_f rfl (no λw k V e _=>nomatch e)
  ·exact if_t (by rw[jr 0x0];rfl) (no λw k V e _=>by cases e;exact c3 rfl)
 |_=>first|(cases hT;done)|(right;exact no nofun)
noncomputable def plS:Nat->PV->Bool
 |_,.str _=>true
 |d+1,.tup xs=>xs.all (plS d)
 |_,_=>false
theorem JP:∀{d:Nat} {x:PV},plS d x=true->cmpb d x=true
 |0,x,h=>by cases x <;> first|rfl|cases h
 | d + 1, x, h => by
  cases x with
  |tup xs=>exact C6.mpr λy hy=>JP (C6.mp h y hy)
  |str z=>rfl
  |_=>cases h
theorem NT:∀{d:Nat} {x:PV},plS d x=true->pln x=true
 |0,x,h=>by cases x <;> first|rfl|cases h
 | d + 1, x, h => by
  cases x with
  | tup xs =>
   have go:∀xs:List PV,(∀x∈xs,pln x=true)->plns xs=true:=λxs=>by
    induction xs with
    |nil=>intro _;rfl
    |cons x xs ih=>intro h;show(pln x&&plns xs)=true;rw[h x B8,ih λy hy=>h y (B6 _ hy)];rfl
   exact go xs λx hx=>NT (C6.mp h x hx)
  |str z=>rfl
  |_=>cases h
def eqP_pl:∀{d:Nat} {a b:PV},plS d a=true->eqP a b=true->b=a:=by
 have st:∀{z:Str} {b:PV},eqP (.str z) b=true->b=.str z:=λ{z b} e=>by
  cases b with
  |str w=>rw[p9] at e;rw[jv e]
  |_=>cases e
 intro d
 induction d with
 | zero =>
  intro a b h e;cases a with
  |str z=>exact st e
  |_=>cases h
 | succ d ih =>
  have go:∀xs ys:List PV,(∀x∈xs,plS d x=true)->eqPs xs ys=true->ys=xs:=λxs=>by
   induction xs with
   |nil=>intro ys _ e;cases ys with|nil=>rfl|cons=>cases e
   | cons x xs ihx =>
    intro ys h e;cases ys with
    |nil=>cases e
    | cons y ys =>
     have e:(eqP x y&&eqPs xs ys)=true:=e;rw[P4] at e;rw[ih (h x B8) e.1,ihx ys (λz hz=>h z (B6 _ hz)) e.2]
  intro a b h e;cases a with
  |str z=>exact st e
  | tup xs =>
   cases b with
   |tup ys=>rw[go xs ys (C6.mp h) e]
   |_=>cases e
  |_=>cases h
section
variable {s n mx r m i:Nat}{row oth:List Str}{R:PV->Nat->Prop}
def Ga {v:PV}(S:Se s n mx row oth)(hi:i<mx)(ok:∀j<i,okI r s n mx row oth j)(h:Bad r s n mx row oth i v):AH v/\plS 2 v=true:=by
 obtain⟨p,_⟩:=S.rows i 0x0 ok;have rs:=(Z7 (s:=s) (n:=n) (k:=mx-1-i) (S.hr.perm p));have rt:=(Z7 (s:=s) (n:=n) (k:=mx-1-i) S.no);have one:∀(w:String) (x:Str),L8 x->AH (T8 w x)/\plS 2 (T8 w x)=true:=λw x bx=>⟨⟨_,[.str x],rfl,B2 _,0o0,λy hy=>by rw[E8.mp hy];exact .inl ⟨x,rfl,bx⟩⟩,rfl⟩;rcases h with⟨x,hx,rfl⟩|⟨e,h⟩
 ·exact one _ x (rt.2 x (Y4 (G8.mp hx).1))
 ·have G:=S.gl hi p e;have tc:∀{y},y∈stI s n mx row oth i->ixS (stI s n mx row oth i) y<ixS (stI s n mx row oth i) (pal (stI s n mx row oth i) (gI s n mx row oth i) y)->Dt (evP (.t (pal (stI s n mx row oth i) (gI s n mx row oth i) y) y)):=λ{y} hy ly=>.inr ⟨_,y,rfl,λz=>by rw[z] at ly;exact absurd ly (U9 _),rs.2 _ (G.pl hy).1,rs.2 _ hy⟩;cases h with
  |@round x hx _=>exact one _ x (rs.2 x hx)
  |@far y nr hy ly c=>exact⟨⟨_,[evP _],rfl,B2 _,0o0,λz hz=>by rw[E8.mp hz];exact tc hy ly⟩,rfl⟩
  |@cross y z nr hy ly hz lz c=>exact⟨⟨_,[evP _,evP _],rfl,0o0,B2 _,λu hu=>by
      rcases B5.mp hu with rfl|hu
      ·exact tc hy ly
      ·rw[E8.mp hu];exact tc hz lz⟩,rfl⟩
def Due (r s n mx:Nat)(row oth:List Str)(T:PV):Prop:=∃i v,T=unP mx i v/\i<mx/\(∀j<i,okI r s n mx row oth j)/\Bad r s n mx row oth i v
def Vc {d:Nat}{T:PV}(S:Se s n mx row oth)(hT:okT (d + 3) T=true)(h:∀c:Bool,(c=true↔Due r s n mx row oth T)->R (.bl c) m):FK [.tup [.int (s:Int),.int (r:Int)],rowP row,rowP oth,T] m R:=by
 mleft;unfold Jq;have up:=λ{m:Nat} {R:PV->Nat->Prop} q q'=>NO (r:=r) (m:=m) (R:=R) S q q';have mu:∀{m:Nat} {R:PV->Nat->Prop},(∀c:Bool,(c=true↔∃w k V,T=.tup [.str w,.int k,V]/\0<=k/\k<=(mx:Int)-1/\AH V)->R (.bl c) m)->FJ [.int (mx:Int),T] m R:=λq=>Vb hT q;have rl:(row.map PV.str).length=n:=by rw[B0];exact S.hl
 have hW':rowP row=.tup (row.map PV.str):=rfl;have mr:∀{m:Nat} {R:PV->Nat->Prop},R (.int (mx:Int)) m->Dq [.tup [.int (s:Int),.int (r:Int)],.int (n:Int)] m R:=λq=>NN S.h1 S.hn S.h8 (by rw[<- S.hmx];exact q);generalize rowP oth=O at *;generalize (C2 mx).map (rcI s n mx row oth)=GL at *;rw[hW'] at up ⊢;generalize row.map PV.str=Z at *;symm;right;rw[rl];refine mr (mu λc hc=>?_);cases c with
 | false =>
  refine if_t rfl (h false ⟨nofun,λ⟨i,v,e,hi,ok,hb⟩=>?_⟩);cases hc.mpr ⟨_,_,v,e,0x0,0x0,(Ga S hi ok hb).1⟩
 | true =>
  obtain⟨w,k,V,rfl,k0,k1,f⟩:=hc.mp rfl;refine if_f rfl ?_;subst hU
  have cT:cmpb 4 (.tup [.str w,.int k,V])=true:=by
   obtain⟨w',ys,rfl,_,_,hy⟩:=f;show(true&&(true&&((true&&ys.all (cmpb 2))&&true)))=true;rw[C6.mpr λy hy'=>?_];rfl;rcases hy y hy' with⟨z,rfl,_⟩|⟨a,b,rfl,_⟩ <;> rfl
  generalize hTT:PV.tup [.str w,.int k,V]=TT at *;right;refine up (λok=>?_) λi X L hi ok ne hv=>?_
  ·right;subst hTT;refine⟨cT,rfl,h false ⟨nofun,λ⟨i,v,_,hi,_,hb⟩=>absurd (ok i hi) (JL hb)⟩⟩
  ·have fv:=λv hv'=>(Ga S hi ok ((hv v).mp hv')).2
   have cL:(L.map (unP mx i)).all (cmpb 4)=true:=C6.mpr λy hy=>by
    obtain⟨v,hv',rfl⟩:=D2.mp hy;show(true&&(true&&(cmpb 3 v&&true)))=true;rw[JP (d:=3) (by have:=fv v hv';cases v <;> first|rfl|exact C6.mpr λz hz=>(by have:=C6.mp this z hz;cases z <;> first|rfl|(cases this)|exact C6.mpr λu hu=>(by have:=C6.mp this u hu;cases u <;> first|rfl|cases this))|cases this)];rfl
   have mm:memP TT (L.map (unP mx i))=true↔Due r s n mx row oth TT:=by
    unfold memP;rw[List.any_map,k9];constructor
    ·rintro⟨v,hv',e⟩;refine⟨i,v,?_,hi,ok,(hv v).mp hv'⟩;subst hTT;have e:(eqP (.str (A6 "untold")) (.str w)&&(eqP (.int ((mx-1-i:Nat):Int)) (.int k)&&(eqP v V&&true)))=true:=e;simp only[P4,p9,LG,decide_eq_true_iff,and_true] at e;rw[<- e.1,<- e.2.1,eqP_pl (fv v hv') e.2.2];rfl
    ·rintro⟨i',v,e,hi',ok',hb⟩
     have ei:i'=i:=by
      have a:=JL hb;obtain⟨u,hu⟩:=List.exists_mem_of_ne_nil L ne;have b:=JL ((hv u).mp hu);rcases d8 i' i with c|c|c
      ·exact absurd (ok i' c) a
      ·exact c
      ·exact absurd (ok' i c) b
     subst ei;refine⟨v,(hv v).mpr hb,?_⟩;rw[e];exact Mg _ (by show(true&&(true&&(pln v&&true)))=true;rw[NT (fv v ((hv v).mpr hb))];rfl)
   generalize L.map (unP mx i)=M at *;right;subst hTT;exact⟨cT,cL,h _ mm⟩
end
section
variable {st g:List Str}{n r:Nat}{R:PV->Nat->Prop}
def NU (nd:st.Nodup):X4 (st.map PV.str)=st.map λz=>.tup [.int (ixS st z:Int),.str z]:=by
 apply Cb
 intro i;unfold X4;rw[D4,D4]
 by_cases c:i<st.length
 ·rw[List.getElem?_zipIdx,D4,R1 c];show some (PV.tup [.int ((0+i:Nat):Int),.str (nm st i)])=some (PV.tup [.int (ixS st (nm st i):Int),.str (nm st i)]);rw[Fh nd c,J4]
 ·rw[O6 (by rw[List.length_zipIdx,B0];ext),O6 0x0];rfl
noncomputable def isS:PV->Bool
 |.str _=>true
 |_=>false
def Vd {d:Nat}{X:PV}(G:Gl st g)(nr:NR st g)(hX:okT (d + 1) X=true)(h0:∀y∈st,ixS st y < ixS st (pal st g y)->X=evP (.t (pal st g y) y)->R (prP st g y) n)(h1:(∀y∈st,ixS st y < ixS st (pal st g y)->X≠evP (.t (pal st g y) y))->R .non n):FS [rowP st,rowP g,X] n R:=by
 mleft;unfold JA;obtain⟨i1,_⟩:=G.ix;have ag:=λy hy=>@at_g st g G y hy;unfold rowP;generalize hZ:st.map PV.str=Z at *;generalize g.map PV.str=W at *;symm;have no:(∀x y,X≠evP (.t x y))->R .non n:=λz=>h1 λy _ _=>z _ _;cases X with
 | tup xs =>
  have hx:∀x∈xs,okT d x=true:=C6.mp hX;right
  by_cases c3:xs.length=3
  ·refine if_f (by rw[jq 0x0];rfl) ⟨0x0,?_⟩;refine EC (λx=>.bl (isS x)) xs _ _ _ (λx hx' m Q q=>?_) ?_
   ·have:=hx x hx';cases x <;> first|(cases d <;> cases this;done)|(right;exact q)
   ·rw[Ds];dsimp only;rw[JM]
    match xs,c3 with
    | [a, b, c], _ =>
     cases hs:[a,b,c].all isS with
     |false=>exact if_t rfl (no λx y e=>by rw[N2] at e;cases e;cases hs)
     | true =>
      have hs:=C6.mp hs
      have one:∀z∈[a,b,c],∃w,z=.str w:=λz hz=>by
       have:=hs z hz;cases z <;> first|exact⟨_,rfl⟩|cases this
      obtain⟨w,rfl⟩:=one a 0o0;obtain⟨x,rfl⟩:=one b 0o0;obtain⟨y,rfl⟩:=one c 0o0;refine if_f rfl ?_;subst hU;have h1:(y∈st->ixS st y<ixS st (pal st g y)->w=O4->x=pal st g y->False)->R .non n:=λz=>h1 λy' hy ly e=>by rw[N2] at e;cases e;exact z hy ly rfl rfl
      right
      by_cases c1:w=O4
      ·refine if_f (by rw[show decide (w=A6 "touch")=true from jq c1];rfl) (BL hZ ?_)
       by_cases cx:x∈st
       ·refine if_f (by rw[jq cx];rfl) (BL hZ ?_)
        by_cases cy:y∈st
        ·refine if_f (by rw[jq cy];rfl) ⟨⟨_,rfl⟩,i1 y cy ⟨⟨_,rfl⟩,i1 x cx ?_⟩⟩;dsimp only
         by_cases lt:ixS st y<ixS st x
         ·refine if_t (jq 0x0) ?_;rw[ag y cy];refine X2 rfl ?_
          by_cases e:pal st g y=x
          ·refine if_t (by rw[M6];exact jq e) ?_;rw[ag x cx];have two:=G.two nr cy;rw[e] at two;refine X2 rfl (if_t (by rw[M6];exact jq two) ?_);have:=h0 y cy (by rw[e];exact lt) (by rw[N2,e,c1]);unfold prP at this;rw[e] at this;exact this
          ·exact if_f (by rw[M6];exact jr e) (h1 λ_ _ _ z=>e z.symm)
         ·exact if_f (jr 0x0) (h1 λ_ l _ z=>lt (by rw[z];exact l))
        ·exact if_t (by rw[jr cy];rfl) (h1 λz=>absurd z cy)
       ·exact if_t (by rw[jr cx];rfl) (h1 λz _ _ e=>cx (by rw[e];exact(G.pl z).1))
      ·exact if_t (by rw[show decide (w=A6 "touch")=false from jr c1];rfl) (h1 λ_ _ z=>absurd z c1)
  ·exact if_t (by rw[jr 0x0];rfl) (no λx y e=>by rw[N2] at e;cases e;exact c3 rfl)
 |_=>first|(cases hX;done)|(right;exact no nofun)
end
noncomputable def WD:Nat->Str
 |0=>A6 "from"|1=>A6 "round"|2=>A6 "far"|_=>A6 "cross"
def WD_inj:∀i<4,∀j<4,WD i=WD j->i=j:=by decide +kernel
section
variable {st th:List Str}{n r:Nat}{R:PV->Nat->Prop}
def BF (r:Nat)(st th:List Str):Nat->List PV->Prop
 |0,ys=>∃x∈strg st th,ys=[.str x]
 |1,ys=>strg st th=[]/\∃x∈st.filter (rdB st (E5 st th)),ys=[.str x]
 |2,ys=>strg st th=[]/\NR st (E5 st th)/\∃y∈st,ixS st y<ixS st (pal st (E5 st th) y)/\r<ixS st (pal st (E5 st th) y)-ixS st y-1/\ys=[evP (.t (pal st (E5 st th) y) y)]
 |_,ys=>strg st th=[]/\NR st (E5 st th)/\∃y∈st,ixS st y<ixS st (pal st (E5 st th) y)/\∃z∈st,ixS st z<ixS st (pal st (E5 st th) z)/\Crs (ixS st y) (ixS st (pal st (E5 st th) y)) (ixS st z) (ixS st (pal st (E5 st th) z))/\ys=[evP (.t (pal st (E5 st th) y) y),evP (.t (pal st (E5 st th) z) z)]
def JQ {v:PV}(h:BadV r st th v):∃i ys,i<4/\v=.tup (.str (WD i)::ys)/\BF r st th i ys:=by
 rcases h with⟨x,hx,rfl⟩|⟨e,h⟩
 ·exact⟨0,_,0b0,rfl,x,hx,rfl⟩
 ·cases h with
  |@round x hx c=>exact⟨1,_,0b0,rfl,e,x,v4.mpr ⟨hx,c⟩,rfl⟩
  |@far y nr hy ly c=>exact⟨2,_,0b0,rfl,e,nr,y,hy,ly,c,rfl⟩
  |@cross y z nr hy ly hz lz c=>exact⟨3,_,0b0,rfl,e,nr,y,hy,ly,z,hz,lz,c,rfl⟩
def i4 {i:Nat}(h:i<4):i=0\/i=1\/i=2\/i=3:=0x0
def bad_at {i:Nat}{ys:List PV}(hi:i<4):BadV r st th (.tup (.str (WD i)::ys))↔BF r st th i ys:=by
 constructor
 ·intro h;obtain⟨j,zs,hj,e,h⟩:=JQ h;obtain⟨e1,e2⟩:=Q7 (PV.tup.inj e);rw[WD_inj i hi j hj (PV.str.inj e1),e2];exact h
 ·intro h;rcases i4 hi with rfl|rfl|rfl|rfl
  ·obtain⟨x,hx,e⟩:=h;exact .inl ⟨x,hx,by rw[e];rfl⟩
  ·obtain⟨e0,x,hx,e⟩:=h;rw[e];exact .inr ⟨e0,.round (v4.mp hx).1 (v4.mp hx).2⟩
  ·obtain⟨e0,nr,y,hy,ly,c,e⟩:=h;rw[e];exact .inr ⟨e0,.far nr hy ly c⟩
  ·obtain⟨e0,nr,y,hy,ly,z,hz,lz,c,e⟩:=h;rw[e];exact .inr ⟨e0,.cross nr hy ly hz lz c⟩
def NV {d:Nat}{b:PV}{SG:List Str}{SL:List PV}{R:PV->Prop}(hb:okT d b=true)(hS:SG.map PV.str=SL)(q:∀c:Bool,(c=true↔∃x∈SG,b=.str x)->R (.bl c)):match tyP b with|some t=>(if(t == "str" || t == "bool" && false)=true then wIn 4 false b (.lst SL) R else R (.bl false))|none=>False:=by
 cases b with
 |str z=>exact ME hS (q _ (by rw[decide_eq_true_iff];exact⟨λh=>⟨z,h,rfl⟩,λ⟨x,h,e⟩=>by cases e;exact h⟩))
 |_=>cases d <;> first|(cases hb;done)|exact q false ⟨nofun,λ⟨x,_,e⟩=>nomatch e⟩
def Ve {d k:Nat}{V:PV}(nd:st.Nodup)(nt:th.Nodup)(l9:st.length<=9)(t9:th.length<=9)(h0:k=0->E5 st th=th)(hV:okT (d + 2) V=true)(h:∀c:Bool,(c=true↔BadV r st th V)->R (.bl c) n):FT [.tup [rowP st,rowP th,.lst ((strg st th).map PV.str)],.int (k:Int),.int (r:Int),V] n R:=by
 mleft;unfold JB;have no:(¬BadV r st th V)->R (.bl false) n:=λz=>h false ⟨nofun,λq=>absurd q z⟩;have cs:∀L:List Str,(L.map PV.str).all (cmpb 3)=true:=λL=>i6 L 3;have es:∀L:List Str,eqPs (L.map PV.str) []=L.isEmpty:=λL=>by cases L <;> rfl
 have mg:∀{m:Nat} {R:PV->Nat->Prop},R (rowP (E5 st th)) m->AE [rowP st,rowP th,.int (k:Int)] m R:=λq=>NP 0x0 0x0 h0 q;have hG:=λe=>JJ nd nt l9 e;have ba:=λi ys hi=>@bad_at st th r i ys hi;have bf:=λv=>@JQ st th r v;symm;generalize hSG:strg st th=SG at *;generalize hSL:SG.map PV.str=SL at *;generalize hB:rowP th=B at *;right;subst hU;symm;cases V with
 | tup xs =>
  have hx:∀x∈xs,okT (d+1) x=true:=C6.mp hV;right
  have no2:¬(xs.length=2\/xs.length=3)->R (.bl false) n:=λz=>no λq=>by
   obtain⟨i,ys,hi,e,q'⟩:=bf _ q;rw[PV.tup.inj e,D5] at z
   have:ys.length=1\/ys.length=2:=by
    clear z e;rcases i4 hi with rfl|rfl|rfl|rfl
    ·obtain⟨x,hx,e⟩:=q';rw[e];exact .inl rfl
    ·obtain⟨e0,x,hx,e⟩:=q';rw[e];exact .inl rfl
    ·obtain⟨e0,nr,y,hy,ly,c,e⟩:=q';rw[e];exact .inl rfl
    ·obtain⟨e0,nr,y,hy,ly,z,hz,lz,c,e⟩:=q';rw[e];exact .inr rfl
   ext
  by_cases c1:(2:Int)<=xs.length
  ·refine if_t (jq c1) ?_
   by_cases c2:(xs.length:Int)<=3
   ·refine if_f (by rw[jq c2];rfl) ?_
    match xs with
    | a :: b :: ys =>
     rw[show atI (a::b::ys) 0=some a from P2 (j:=0) rfl];have a1:atI (a::b::ys) 1=some b:=P2 (j:=1) rfl;have oa:=hx a B8;have ob:=hx b 0o0;have oy:∀y∈ys,okT (d+1) y=true:=λy hy=>hx y (by simp[hy]);have ll:(a::b::ys).length=ys.length+2:=rfl;rw[ll] at c1 c2;cases a with
     | str w =>
      refine if_f rfl ?_;subst hU;symm;have a0:atI (.str w::b::ys) 0=some (.str w):=P2 (j:=0) rfl;generalize hXS:PV.str w::b::ys=XS at *;have lx:(XS.length:Int)=ys.length+2:=by rw[ll];omega
      walk_at "pd";rw[a0];dsimp only;rw[lx,a1];dsimp only;refine X2 rfl ?_
      have le:eqP (.int ((ys.length:Int)+2)) (.int 2)=decide (ys=[]):=by
       rw[FW,decide_eq_decide];cases ys <;> simp
       ext
      have hb:∀{i},i<4->w=WD i->∀c:Bool,(c=true↔BF r st th i (b::ys))->R (.bl c) n:=λ{i} hi e c hc=>h c (by rw[<- hXS,e];exact hc.trans (ba i _ hi).symm)
      have no:(∀i<4,w=WD i->¬BF r st th i (b::ys))->R (.bl false) n:=λz=>no λq=>by
       rw[<- hXS] at q;obtain⟨i,zs,hi,e,q⟩:=bf _ q;obtain⟨e1,e2⟩:=Q7 (PV.tup.inj e);exact z i hi (PV.str.inj e1) (by rw[e2];exact q)
      by_cases w0:w=WD 0
      ·refine if_t (by rw[M6];exact jq w0) ?_;have hb:=λc=>hb (i:=0) 0b0 w0 c
       by_cases ye:ys=[]
       ·subst ye;refine if_t (by rw[le];rfl) (NV ob hSL λc hc=>hb c (hc.trans ?_));rw[<- hSG];exact⟨λ⟨x,hx,e⟩=>⟨x,hx,by rw[e]⟩,λ⟨x,hx,e⟩=>⟨x,hx,(Q7 e).1⟩⟩
       ·exact if_f (by rw[le];exact jr ye) (hb false ⟨nofun,λ⟨x,_,e⟩=>absurd (Q7 e).2 ye⟩)
      refine if_f (by rw[M6];exact jr w0) ?_;subst hU;symm;right;refine gd2 (by rw[<- hSL];exact cs SG) rfl ?_;cases hE:SG with
      | cons x SG' =>
       refine if_t (by rw[<- hSL,hE];rfl) (no λi hi e q=>?_);rw[hE] at hSG;rcases i4 hi with rfl|rfl|rfl|rfl
       ·exact w0 e
       ·exact nomatch hSG.symm.trans q.1
       ·exact nomatch hSG.symm.trans q.1
       ·exact nomatch hSG.symm.trans q.1
      | nil =>
       refine if_f (by rw[<- hSL,hE];rfl) ?_;rw[hE] at hSG;have G:=hG hE;subst hU;symm;right;refine mg ?_;have hne:∀{i} {P:Prop},i<4->w=WD i->(i≠0->P)->P:=λ{i P} hi e q=>q λz=>w0 (by rw[e,z]);subst hU;have F1:=NU nd;obtain⟨i1,i2⟩:=G.ix;have ag:=λy hy=>@at_g st (E5 st th) G y hy;have ao:∀y∈st,atI (st.map PV.str) (ixS (E5 st th) y:Int)=some (.str (org st (E5 st th) y)):=λy hy=>by rw[<- (G.og hy).2];exact at_st (G.og hy).1
       have mp:=λ{X:PV} {m:Nat} {R:PV->Nat->Prop} nr hX=>Vd (d:=d) (X:=X) (n:=m) (R:=R) G nr hX;unfold rowP at mp ⊢;generalize hg:E5 st th=g at *;generalize hZ:st.map PV.str=Z at *;generalize g.map PV.str=W at *;symm;walk_at "pd";refine(show(X4 Z).length<=1000000/\P3 _ _ _ (X4 Z) [none,none,some (.v (.tup Z)),some (.v (.tup W))] n _ from ?_);rw[F1];refine⟨by rw[B0];omega,?_⟩;refine JG (λz=>.int (ixS st z:Int)) PV.str (rdB st g) PV.str st _ _ _ _ (λz hz m Q q=>?_) (λz hz m Q q=>?_) ?_
       ·have a1:=ag z hz;have a2:=ao z hz;right;refine⟨⟨_,rfl⟩,i2 z hz ?_⟩;dsimp only;rw[a2,a1];refine gd2 rfl rfl ?_;rw[M6];exact q
       ·right;exact q
       ·generalize hF:st.filter (rdB st g)=F at *;subst hU;symm;generalize hFL:F.map PV.str=FL at *;walk_at "pd";rw[a0];dsimp only;rw[lx,a1];dsimp only;refine X2 rfl ?_
        by_cases w1:w=WD 1
        ·refine if_t (by rw[M6];exact jq w1) ?_;have hb:=λc=>hb (i:=1) 0b0 w1 c
         by_cases ye:ys=[]
         ·subst ye;refine if_t (by rw[le];rfl) (NV ob hFL λc hc=>hb c (hc.trans ?_));unfold BF;rw[hg,hF];exact⟨λ⟨x,hx,e⟩=>⟨hSG,x,hx,by rw[e]⟩,λ⟨_,x,hx,e⟩=>⟨x,hx,(Q7 e).1⟩⟩
         ·exact if_f (by rw[le];exact jr ye) (hb false ⟨nofun,λ⟨_,x,_,e⟩=>absurd (Q7 e).2 ye⟩)
        refine if_f (by rw[M6];exact jr w1) ?_;subst hU;symm;right;refine gd2 (by rw[<- hFL];exact cs F) rfl ?_
        have no:(∀i<4,1<i->w=WD i->¬BF r st th i (b::ys))->R (.bl false) n:=λz=>no λi hi e q=>by
         by_cases a:i=0
         ·exact w0 (a▸e)
         by_cases b:i=1
         ·exact w1 (b▸e)
         exact z _ hi 0x0 e q
        cases hE':F with
        | cons x F' =>
         have nn:¬NR st g:=λnr=>by
          have:x∈st.filter (rdB st g):=by rw[hF,hE'];exact B8
          exact(v4.mp this).2 (nr x (v4.mp this).1)
         refine if_t (by rw[<- hFL,hE'];rfl) (no λi hi i2 e q=>?_);rcases i4 hi with rfl|rfl|rfl|rfl
         ·exact absurd i2 0b0
         ·exact absurd i2 0b0
         ·exact nn (hg▸q.2.1)
         ·exact nn (hg▸q.2.1)
        | nil =>
         have nr:NR st g:=λy hy=>by
          have:=AO.mp (hF.trans hE') y hy;unfold rdB at this
          simpa using this
         refine if_f (by rw[<- hFL,hE'];rfl) ?_;subst hU;symm;walk_at "pd";rw[a1];dsimp only;have ei:∀{x y x' y':Str},evP (.t x y)=evP (.t x' y')->y'=y:=λe=>by rw[N2,N2] at e;cases e;rfl
         have fin:∀(P:PV),((∃y∈st,ixS st y < ixS st (pal st g y)/\b=evP (.t (pal st g y) y)/\P=prP st g y)\/((∀y∈st,ixS st y < ixS st (pal st g y)->b≠evP (.t (pal st g y) y))/\P=.non))->U { nx:=fun _ m=>R PV.non m,rt:=R } [some (.v (.tup [.tup Z,B,.lst SL])),some (.v (.int (k:Int))),some (.v (.int (r:Int))),some (.v (.tup XS)),some (.v (.tup Z)),some (.v B),some (.v (.lst SL)),some (.v (.tup W)),some (.v (.lst FL)),some (.v P),none] n:=fun P hP=>by
          subst hU;symm
          have b2:BF r st th 2 (b::ys)↔ys=[]/\∃y∈st,ixS st y<ixS st (pal st g y)/\r<ixS st (pal st g y)-ixS st y-1/\b=evP (.t (pal st g y) y):=by
           unfold BF;rw[hg];exact⟨λ⟨_,_,y,hy,ly,c,e⟩=>⟨(Q7 e).2,y,hy,ly,c,(Q7 e).1⟩,λ⟨e0,y,hy,ly,c,e⟩=>⟨hSG,nr,y,hy,ly,c,by rw[e,e0]⟩⟩
          walk_at "pd";rw[a0];dsimp only;rw[lx];refine X2 rfl ?_
          by_cases w2:w=WD 2
          ·refine if_t (by rw[M6];exact jq w2) ?_;have hb:=λc hc=>hb (i:=2) 0b0 w2 c (Iff.trans hc b2.symm)
           by_cases ye:ys=[]
           ·refine if_t (by rw[le];exact jq ye) ?_;rcases hP with⟨y,hy,ly,e,rfl⟩|⟨nb,rfl⟩
            ·refine if_t rfl ?_;unfold prP;right;refine hb _ ?_;rw[decide_eq_true_iff];exact⟨λq=>⟨ye,y,hy,ly,0x0,e⟩,λ⟨_,y',hy',ly',q,e'⟩=>by rw[ei (e.symm.trans e')] at q;omega⟩
            ·exact if_f rfl (hb false ⟨nofun,λ⟨_,y,hy,ly,_,e⟩=>absurd e (nb y hy ly)⟩)
           ·exact if_f (by rw[le];exact jr ye) (hb false ⟨nofun,λq=>absurd q.1 ye⟩)
          refine if_f (by rw[M6];exact jr w2) ?_
          have no:(w=WD 3->¬BF r st th 3 (b::ys))->R (.bl false) n:=λz=>no λi hi i2 e q=>by
           by_cases a:i=2
           ·exact w2 (a▸e)
           obtain rfl:i=3:=0x0
           exact z e q
          subst hU;symm;walk_at "pd";rw[a0];dsimp only;rw[lx];refine X2 rfl ?_
          by_cases w3:w=WD 3
          ·refine if_f (by rw[M6];exact(congrArg (!·) (jq w3))) ?_
           match ys with
           |[]=>exact if_t rfl (no λ_ q=>by obtain⟨_,_,y,_,_,z,_,_,_,e⟩:=q;cases e)
           | [c] =>
            have oc:=oy c 0o0;have hb:=λc hc=>hb (i:=3) 0b0 w3 c hc;have a2:atI XS 2=some c:=by rw[<- hXS];exact P2 (j:=2) rfl
            refine if_f rfl ?_;subst hU;walk_at "pd";rw[a2];dsimp only
            have b3:BF r st th 3 [b,c]↔∃y∈st,ixS st y<ixS st (pal st g y)/\∃z∈st,ixS st z<ixS st (pal st g z)/\Crs (ixS st y) (ixS st (pal st g y)) (ixS st z) (ixS st (pal st g z))/\b=evP (.t (pal st g y) y)/\c=evP (.t (pal st g z) z):=by
             unfold BF;rw[hg]
             exact⟨λ⟨_,_,y,hy,ly,z,hz,lz,q,e⟩=>by
              obtain⟨e1,e2⟩:=Q7 e
              exact⟨y,hy,ly,z,hz,lz,q,e1,(Q7 e2).1⟩,λ⟨y,hy,ly,z,hz,lz,q,e,e'⟩=>⟨hSG,nr,y,hy,ly,z,hz,lz,q,by rw[e,e']⟩⟩
            have hb:=λc hc=>hb c (Iff.trans hc b3.symm);refine mp nr oc (λz hz lz ec=>?_) λnc=>?_
            ·rcases hP with⟨y,hy,ly,eb,rfl⟩|⟨nb,rfl⟩
             ·refine if_t rfl (if_t rfl (NJ (hb _ ?_)));rw[DM,decide_eq_false_iff_not];exact⟨λq=>⟨y,hy,ly,z,hz,lz,q,eb,ec⟩,λ⟨y',_,_,z',_,_,q,e,e'⟩=>by rw[ei (eb.symm.trans e),ei (ec.symm.trans e')] at q;exact q⟩
             ·exact if_f rfl (hb false ⟨nofun,λ⟨y,hy,ly,_,_,_,_,e,_⟩=>absurd e (nb y hy ly)⟩)
            ·have:=hb false ⟨nofun,λ⟨_,_,_,z,hz,lz,_,_,e⟩=>absurd e (nc z hz lz)⟩;rcases hP with⟨y,hy,ly,eb,rfl⟩|⟨nb,rfl⟩
             ·exact if_t rfl (if_f rfl this)
             ·exact if_f rfl this
           |_::_::_=>exact absurd c2 (by simp;ext)
          ·exact if_t (by rw[M6];exact(congrArg (!·) (jr w3))) (no λz=>absurd z w3)
         exact mp nr ob (λy hy ly e=>fin _ (.inl ⟨y,hy,ly,e,rfl⟩)) λz=>fin _ (.inr ⟨z,rfl⟩)
     |_=>first|(cases oa;done)|exact if_t rfl (no λq=>by obtain⟨i,ys,hi,e,q⟩:=bf _ q;cases e)
    |[a]=>exact absurd c1 0o0
    |[]=>exact absurd c1 0o0
   ·exact if_t (by rw[jr c2];rfl) (no2 0x0)
  ·exact if_f (jr c1) (no2 0x0)
 |_=>first|(cases hV;done)|(right;exact no λq=>by obtain⟨i,ys,hi,e,q⟩:=bf _ q;cases e)
end
section
variable {s n mx r m:Nat}{row oth:List Str}{R:PV->Nat->Prop}
def Vf {k:Nat}{w g:List Str}(hw:w.length=n)(hg:g.length<=24)(n24:n<=24):(cutP (w.map PV.str) none (some ((k*s:Nat):Int))).length+(g.map PV.str).length<=1000000/\(cutP (w.map PV.str) none (some ((k*s:Nat):Int))++g.map PV.str).length+(cutP (w.map PV.str) (some (((hiN s n k:Nat):Int)+1)) none).length<=1000000/\cutP (w.map PV.str) none (some ((k*s:Nat):Int))++g.map PV.str++cutP (w.map PV.str) (some (((hiN s n k:Nat):Int)+1)) none=(putN s n k w g).map PV.str:=by
 have e1:cutP (w.map PV.str) none (some ((k*s:Nat):Int))=(w.take (k*s)).map PV.str:=by rw[X3,i8]
 have e2:cutP (w.map PV.str) (some (((hiN s n k:Nat):Int)+1)) none=(w.drop (hiN s n k+1)).map PV.str:=by
  rw[X3,show((hiN s n k:Nat):Int)+1=((hiN s n k+1:Nat):Int) by omega,Z6]
 rw[e1,e2];refine⟨?_,?_,?_⟩
 ·rw[B0,B0,J7];ext
 ·rw[C7,B0,B0,B0,J7,J8];ext
 ·unfold putN;rw[N5,N5]
def Se.gl24 (S:Se s n mx row oth){i:Nat}(hi:i<mx)(p:(rowI s n mx row oth i).Perm row):(gI s n mx row oth i).length<=24:=by
 have a:=(S.slen hi (q:=rowI s n mx row oth i) (by rw[p.length_eq,S.hl])).2.1;have b:=(S.slen hi S.ol).2.1;have f:=O7 (λb=>!decide (b∈(thI s n mx oth i).drop 1)) (stI s n mx row oth i);unfold gI E5;rw[C7,J8];have a:(stI s n mx row oth i).length<=9:=a;have b:(thI s n mx oth i).length<=9:=b;ext
def m_lat {a:Nat}(S:Se s n mx row oth)(ha:a<mx)(h0:(∀j<a,okI r s n mx row oth j)->R (.tup [rowP (stI s n mx row oth a),rowP (thI s n mx oth a),.lst ((strg (stI s n mx row oth a) (thI s n mx oth a)).map PV.str)]) m)(h1:∀j<a,¬okI r s n mx row oth j->R .non m):Jz [.tup [.int (s:Int),.int (r:Int)],rowP row,rowP oth,.int ((mx-1-a:Nat):Int)] m R:=by
 mleft;unfold Jy;have mle:=S.mle;have n24:=S.h24;have rl:(row.map PV.str).length=n:=by rw[B0];exact S.hl
 have hW':rowP row=.tup (row.map PV.str):=rfl;generalize hO:rowP oth=O;symm;generalize hW:rowP row=W at *;walk_at "pd";rw[hW'];dsimp only;rw[rl];refine FX S.h1 S.hn ?_ S.h8;rw[<- S.hmx];refine⟨⟨0x0,0x0⟩,?_⟩;rw[T0,<- hW',<- hW];refine O3 (λi env m'=>∃s4 s5 s6 s7 s8 s9,env=[some (.v (.tup [.int (s:Int),.int (r:Int)])),some (.v (rowP (rowI s n mx row oth i))),some (.v O),some (.v (.int ((mx-1-a:Nat):Int))),s4,s5,s6,s7,s8,s9]/\(∀j<i,okI r s n mx row oth j)/\i<=a/\m'=m) _ 0 _ _ ⟨_,_,_,_,_,_,rfl,λj hj=>absurd hj 0x0,F7 _,rfl⟩ (λi x env m' N ex hI hN=>?_) (λenv m' hI=>?_)
 ·obtain⟨s4,s5,s6,s7,s8,s9,rfl,ok,ia,rfl⟩:=hI;obtain⟨hi,rfl⟩:=Ia ex;rw[J4] at ok hN ia ⊢;obtain⟨p,_⟩:=S.rows i 0x0 ok;have rL:(rowI s n mx row oth i).length=n:=by rw[p.length_eq,S.hl]
  have ek:(mx:Int)-1-i=((mx-1-i:Nat):Int):=0x0
  rw[ek];have sl:(stI s n mx row oth i).length<=9:=(S.slen hi rL).2.1;have tl:(thI s n mx oth i).length<=9:=(S.slen hi S.ol).2.1;have fi:=S.first ok hi
  have hG:=λo=>S.gl hi p o
  have m1:∀{m:Nat} {R:PV->Nat->Prop},R (.tup [rowP (stI s n mx row oth i),rowP (thI s n mx oth i),.lst ((strg (stI s n mx row oth i) (thI s n mx oth i)).map PV.str)]) m->FM [.tup [.int (s:Int),.int (r:Int)],rowP (rowI s n mx row oth i),O,.int ((mx-1-i:Nat):Int)] m R:=λq=>by
   rw[<- hO];exact UX S rL 0x0 (λz=>(fi z).1) q
  have m2:∀{m:Nat} {R:PV->Nat->Prop},R (rowP (gI s n mx row oth i)) m->AE [rowP (stI s n mx row oth i),rowP (thI s n mx oth i),.int ((mx-1-i:Nat):Int)] m R:=λq=>NP 0x0 0x0 (λz=>(fi z).2) q;have m3:strg (stI s n mx row oth i) (thI s n mx oth i)=[]->∀{m:Nat} {R:PV->Nat->Prop},(∀b:Bool,(b=true↔okI r s n mx row oth i)->R (.bl b) m)->FR [rowP (stI s n mx row oth i),rowP (gI s n mx row oth i),.int (r:Int)] m R:=λe {m R} q=>m_lcan (hG e) λb hb=>q b (hb.trans ⟨λo=>⟨e,o⟩,λo=>o.2⟩);obtain⟨p1,p2,p3⟩:=Vf (s:=s) (k:=mx-1-i) (g:=gI s n mx row oth i) rL (S.gl24 hi p) n24;have h0':i=a->R (.tup [rowP (stI s n mx row oth i),rowP (thI s n mx oth i),.lst ((strg (stI s n mx row oth i) (thI s n mx oth i)).map PV.str)]) m':=λe=>by subst e;exact h0 ok
  have hN':=λ(o:okI r s n mx row oth i) (ne:i≠a) s4 s5 s6 s7 s8 s9=>hN _ m' ⟨s4,s5,s6,s7,s8,s9,rfl,(λj hj=>(Ch j i).elim (ok j) λz=>by rw[show j=i by omega];exact o),0x0,rfl⟩;have re:rowP (rowI s n mx row oth (i+1))=.tup ((putN s n (mx-1-i) (rowI s n mx row oth i) (gI s n mx row oth i)).map PV.str):=rfl;rw[re,<- p3] at hN';have h1':=λ(ne:i≠a)=>h1 i 0x0;have rl':((rowI s n mx row oth i).map PV.str).length=n:=by rw[B0];exact rL
  have ro:rowP (rowI s n mx row oth i)=.tup ((rowI s n mx row oth i).map PV.str):=rfl;have go:rowP (gI s n mx row oth i)=.tup ((gI s n mx row oth i).map PV.str):=rfl;rw[go] at m2 m3;rw[ro] at m1 ⊢;have cs:((strg (stI s n mx row oth i) (thI s n mx oth i)).map PV.str).all (cmpb 3)=true:=i6 _ 3;have es:∀L:List Str,eqPs (L.map PV.str) []=L.isEmpty:=λL=>by cases L <;> rfl
  have es:=es (strg (stI s n mx row oth i) (thI s n mx oth i));have eo:(strg (stI s n mx row oth i) (thI s n mx oth i)).isEmpty=false->¬okI r s n mx row oth i:=λe o=>by rw[o.1] at e;cases e
  have ee:(strg (stI s n mx row oth i) (thI s n mx oth i)).isEmpty=true->strg (stI s n mx row oth i) (thI s n mx oth i)=[]:=List.isEmpty_iff.mp;have sp:=λ{m:Nat} {R:PV->Nat->Prop}=>JD (s:=s) (n:=n) (k:=mx-1-i) (m:=m) (r:=(r:Int)) (R:=R) S.h8 S.hn 0x0;have kk:decide (((mx-1-i:Nat):Int)=((mx-1-a:Nat):Int))=decide (i=a):=by rw[decide_eq_decide];ext
  clear hN hG go ro re p3 fi h0 h1;generalize (gI s n mx row oth i).map PV.str=G at *;generalize (rowI s n mx row oth i).map PV.str=V at *;generalize (strg (stI s n mx row oth i) (thI s n mx oth i)).isEmpty=emp at *;generalize (strg (stI s n mx row oth i) (thI s n mx oth i)).map PV.str=SL at *;generalize rowP (stI s n mx row oth i)=A at *;generalize rowP (thI s n mx oth i)=B at *;generalize mx-1-i=k at *;generalize mx-1-a=ka at *;symm;right;refine m1 ⟨rfl,?_⟩;subst hU;symm;right
  by_cases e:i=a
  ·exact if_t (by rw[kk];exact jq e) (h0' e)
  refine if_f (by rw[kk];exact jr e) ?_;subst hU;symm;right;refine gd2 cs rfl ?_;cases emp with
  |false=>exact if_t (by rw[es];rfl) (h1' e (eo rfl))
  | true =>
   refine if_f (by rw[es];rfl) (m2 (m3 (ee rfl) λb hb=>?_));cases b with
   |false=>exact if_t rfl (h1' e λo=>nomatch hb.mpr o)
   | true =>
    have o:=hb.mp rfl;refine if_f rfl ?_;subst hU;symm;right;rw[rl'];refine sp ?_;subst hU;right;exact m2 ⟨p1,p2,hN' o e _ _ _ _ _ _⟩
 ·obtain⟨s4,s5,s6,s7,s8,s9,rfl,ok,ia,rfl⟩:=hI;rw[J4,Ib] at ia;omega
def m_ldue {d:Nat}{T:PV}(S:Se s n mx row oth)(hT:okT (d + 3) T=true)(h:∀c:Bool,(c=true↔Due r s n mx row oth T)->R (.bl c) m):FU [.tup [.int (s:Int),.int (r:Int)],rowP row,rowP oth,T] m R:=by
 mleft;unfold JC;have no:(∀i v,i<mx->T=unP mx i v->False)->R (.bl false) m:=λz=>h false ⟨nofun,λ⟨i,v,e,hi,_⟩=>(z i v hi e).elim⟩;have la:=λ{m:Nat} {R:PV->Nat->Prop} {a:Nat} ha q q'=>m_lat (r:=r) (m:=m) (R:=R) (a:=a) S ha q q';have rl:(row.map PV.str).length=n:=by rw[B0];exact S.hl
 have hW':rowP row=.tup (row.map PV.str):=rfl;have mr:∀{m:Nat} {R:PV->Nat->Prop},R (.int (mx:Int)) m->u7 [.tup [.int (s:Int),.int (r:Int)],.int (n:Int)] m R:=λq=>FX S.h1 S.hn (by rw[<- S.hmx];exact q) S.h8;generalize hO:rowP oth=O at *;rw[hW'] at la ⊢;generalize row.map PV.str=Z at *;symm;cases T with
 | tup xs =>
  have hx:∀x∈xs,okT (d+2) x=true:=C6.mp hT;right
  by_cases c3:xs.length=3
  ·refine if_f (by rw[jq 0x0];rfl) ?_
   match xs,c3 with
   | [a, b, c], _ =>
    have oa:=hx a 0o0;have ob:=hx b 0o0;have oc:=hx c 0o0;cases a with
    | str w =>
     refine if_f rfl (X2 rfl ?_)
     by_cases cw:w=A6 "untold"
     ·subst cw;refine if_f (by rw[M6,jq rfl];rfl) ?_;subst hU;symm;cases b with
      | int k =>
       right;subst hU;symm;right
       by_cases k0:0<=k
       ·refine if_t (jq k0) ?_;rw[rl];refine mr ?_;dsimp only
        by_cases k1:k<(mx:Int)
        ·refine if_f (by rw[jq k1];rfl) ?_;obtain⟨a,ha,rfl⟩:∃a,a<mx/\k=((mx-1-a:Nat):Int):=⟨mx-1-k.toNat,0x0,0x0⟩;have io:∀{i},i<mx->((mx-1-a:Nat):Int)=((mx-1-i:Nat):Int)->i=a:=λhi e=>0x0
         have du:Due r s n mx row oth (.tup [.str (A6 "untold"),.int ((mx-1-a:Nat):Int),c])↔(∀j<a,okI r s n mx row oth j)/\Bad r s n mx row oth a c:=⟨λ⟨i,v,e,hi,ok,hb⟩=>by
          obtain⟨_,e2⟩:=Q7 (PV.tup.inj e);obtain⟨e3,e4⟩:=Q7 e2;have:=io hi (PV.int.inj e3);subst this;rw[(Q7 e4).1]
          exact⟨ok,hb⟩,λ⟨ok,hb⟩=>⟨a,c,rfl,ha,ok,hb⟩⟩
         subst hU;symm;right;refine la ha (λok=>?_) λj hj nok=>?_
         ·have so:∀{m:Nat} {R:PV->Nat->Prop},(∀b:Bool,(b=true↔Bad r s n mx row oth a c)->R (.bl b) m)->FT [.tup [rowP (stI s n mx row oth a),rowP (thI s n mx oth a),.lst ((strg (stI s n mx row oth a) (thI s n mx oth a)).map PV.str)],.int ((mx-1-a:Nat):Int),.int (r:Int),c] m R:=λq=>by
           obtain⟨p,_⟩:=S.rows a 0x0 ok;exact Ve (Z7 (S.hr.perm p)).1 (Z7 S.no).1 (S.slen ha (by rw[p.length_eq,S.hl])).2.1 (S.slen ha S.ol).2.1 (λz=>(S.first ok ha z).2) oc q
          generalize hP:PV.tup [rowP (stI s n mx row oth a),rowP (thI s n mx oth a),.lst ((strg (stI s n mx row oth a) (thI s n mx oth a)).map PV.str)]=P at *;have nP:Eu P=false:=by rw[<- hP];rfl
          subst hU;right;rw[nP];exact so λb hb=>h b (hb.trans ⟨λq=>du.mpr ⟨ok,q⟩,λq=>(du.mp q).2⟩)
         ·subst hU;right;exact h false ⟨nofun,λq=>absurd ((du.mp q).1 j hj) nok⟩
        ·exact if_t (by rw[jr k1];rfl) (no λi v hi e=>by cases e;ext)
       ·exact if_f (jr k0) (no λi v _ e=>by cases e;ext)
      |_=>first|(cases ob;done)|(right;exact no λi v _ e=>nomatch e)
     ·exact if_t (by rw[M6,jr cw];rfl) (no λi v _ e=>by cases e;exact cw rfl)
    |_=>first|(cases oa;done)|exact if_t rfl (no λi v _ e=>nomatch e)
  ·exact if_t (by rw[jr 0x0];rfl) (no λi v _ e=>by cases e;exact c3 rfl)
 |_=>first|(cases hT;done)|(right;exact no λi v _ e=>nomatch e)
end
theorem v5:∀a b:List PV,F3 (a++b)=F3 a+F3 b
 |[],b=>(J4 _).symm
 |x::a,b=>by show cost x+2+F3 (a++b)=cost x+2+F3 a+F3 b;rw[v5 a b];ext
theorem Du {x:PV}:∀{xs:List PV},shws xs->x∈xs->shw x
 |y::xs,h,hx=>(B5.mp hx).elim (λe=>by rw[e];exact h.1) (Du h.2)
theorem Dv {x:PV}:∀{xs:List PV},x∈xs->dep x<=deps xs
 | y :: xs, hx => by
  show _<=max (dep y) (deps xs);rcases B5.mp hx with rfl|hx
  ·ext
  ·have:=Dv hx;ext
theorem Gb:∀{d:Nat} {x:PV},cmpb d x=true->cmpb (d+1) x=true
 |0,x,h=>by cases x <;> first|exact h|cases h
 | d + 1, x, h => by
  cases x with
  |tup xs=>exact C6.mpr λy hy=>Gb (C6.mp h y hy)
  |lst xs=>exact C6.mpr λy hy=>Gb (C6.mp h y hy)
  |_=>exact h
structure Sp (T Y:PV):Prop where
 ok:∀e,okT e T=true->okT e Y=true
 sh:shw Y
 de:dep Y<=dep T+2
 co:cost Y<=2*cost T+200
def NW {xs ys:List PV}(hs:shws xs)(hm:∀y∈ys,y∈xs)(hc:F3 ys<=2*F3 xs+200):Sp (.tup xs) (.tup ys):=by
 refine⟨λe h=>?_,EG _ λy hy=>Du hs (hm y hy),?_,?_⟩
 ·cases e with
  |zero=>rfl
  |succ e=>exact C6.mpr λy hy=>C6.mp h y (hm y hy)
 ·have:=EH (deps xs) ys λy hy=>Dv (hm y hy);show deps ys+1<=deps xs+1+2;ext
 ·show F3 ys+3<=2*(F3 xs+3)+200;ext
theorem NX:∀xs:List PV,xs.length<=F3 xs
 |[]=>B2 _
 |x::xs=>by have:=NX xs;show xs.length+1<=cost x+2+F3 xs;ext
def split_at {α:Type}{xs:List α}{i:Nat}{x:α}(h:xs[i]?=some x):xs=xs.take i++x::xs.drop (i+1):=by
 obtain⟨hi,e⟩:=D3.mp h;rw[<- e,<- x6 hi,x8]
theorem NY {q:Nat}:∀{f:Nat} {T:PV} {m:Nat} {R:PV->Nat->Prop},dep T < f->cmpb 8 T=true->shw T->cost T<=100000->m + 4 * f<=999000000->(∀Y m',Sp T Y->m'<=m + 4 * f->R Y m')->BQ f [.pot q,T] m R
 |0,T,m,R,hd,_,_,_,_,_=>absurd hd (Cf _)
 | f + 1, T, m, R, hd, hc, hs, hk, hm, h => by
  mleft;have ih:=λT' m' (R':PV->Nat->Prop)=>@NY q f T' m' R';show Jr (BQ f) _ _ _;generalize BQ f=B at *;unfold Jr;symm
  have som:∀(m':Nat),m'<=m+1->m'<1000000000/\∀d:Int,0<=d->d<12->match atI [PV.non,.bl true,.int 0,.int (-1),.str (A6 ""),.str (A6 "far"),.tup [T],.lst [T],.tup [.str (A6 "untold")],.str (A6 "from"),.tup [],.int 1] d with|some z=>R z (m'+1)|none=>False:=λm' hm'=>⟨0x0,λd d0 d1=>by
   obtain⟨v,hv,ev⟩:=V9 (xs:=[PV.non,.bl true,.int 0,.int (-1),.str (A6 ""),.str (A6 "far"),.tup [T],.lst [T],.tup [.str (A6 "untold")],.str (A6 "from"),.tup [],.int 1]) d0 d1;rw[ev];refine h v _ ?_ 0x0;have st:∀z:Str,ascS z=true->Show 0 82 (.str z)->Sp T (.str z):=λz a b=>⟨λe _=>by rw[AG];exact a,b.sh,by have:=b.de;omega,by have:=b.co;omega⟩;simp only[B5,F6,or_false] at hv;rcases hv with rfl|rfl|rfl|rfl|rfl|rfl|rfl|rfl|rfl|rfl|rfl|rfl
   ·exact⟨λe _=>by cases e <;> rfl,trivial,F7 _,by show 4<=_;ext⟩
   ·exact⟨λe _=>by cases e <;> rfl,trivial,F7 _,by show 5<=_;ext⟩
   ·exact⟨λe _=>by cases e <;> rfl,by show(0:Int).natAbs<10 ^ 60;decide +kernel,F7 _,by show 61<=_;ext⟩
   ·exact⟨λe _=>by cases e <;> rfl,by show(-1:Int).natAbs<10 ^ 60;decide +kernel,F7 _,by show 61<=_;ext⟩
   ·exact st _ (by decide +kernel) (i9 _ (by decide +kernel) (by decide +kernel))
   ·exact st _ (by decide +kernel) (i9 _ (by decide +kernel) (by decide +kernel))
   ·refine⟨λe he=>?_,⟨hs,trivial⟩,by show max (dep T) 0+1<=_;omega,by show cost T+2+0+3<=_;ext⟩;cases e with
    |zero=>rfl
    |succ e=>show(okT e T&&true)=true;rw[NQ he];rfl
   ·exact⟨λe _=>by cases e <;> rfl,⟨hs,trivial⟩,by show max (dep T) 0+1<=_;omega,by show cost T+2+0+3<=_;ext⟩
   ·refine⟨λe _=>?_,⟨(i9 _ (by decide +kernel) (by decide +kernel)).sh,trivial⟩,by show max 0 0+1<=_;omega,by show(10*(A6 "untold").length+2)+2+0+3<=_;rw[show(A6 "untold").length=6 by decide +kernel];ext⟩;cases e with
    |zero=>rfl
    |succ e=>show(okT e (.str _)&&true)=true;rw[AG];decide +kernel
   ·exact st _ (by decide +kernel) (i9 _ (by decide +kernel) (by decide +kernel))
   ·exact⟨λe _=>by cases e <;> rfl,trivial,by show 0+1<=_;omega,by show 0+3<=_;ext⟩
   ·exact⟨λe _=>by cases e <;> rfl,by show(1:Int).natAbs<10 ^ 60;decide +kernel,F7 _,by show 61<=_;ext⟩⟩
  cases T with
  | tup xs =>
   cases xs with
   | nil =>
    right;exact som m 0x0
   | cons x0 xs0 =>
    generalize hX:x0::xs0=xs at *;have ne:eqPs xs []=false:=by rw[<- hX];rfl
    have xl:xs.length<=100000:=by
     have:=NX xs;have:F3 xs+3<=100000:=hk;ext
    have x1:1<=xs.length:=by rw[<- hX];simp
    right;refine gd2 hc rfl (if_f ne ⟨0x0,λt t0 t1=>?_⟩)
    by_cases c:t=0
    ·exact if_t (jq c) (som (m+1) 0x0)
    refine if_f (jr c) ?_;clear som;subst hU;symm;right;refine⟨0x0,λw w0 w1=>⟨⟨0x0,0x0,0x0⟩,λa a0 a1=>?_⟩⟩;obtain⟨j,rfl⟩:=Aa a0;obtain⟨x,ex⟩:∃x,xs[j]?=some x:=⟨_,C9 0x0⟩;have hx:=G4 ex;have sp:=split_at ex;have ca:F3 xs=F3 (xs.take j)+(cost x+2+F3 (xs.drop (j+1))):=(congrArg F3 sp).trans (v5 _ _);have cb:F3 xs=F3 (xs.take j)+F3 (xs.drop j):=by rw[<- v5,x8]
    have c1:=i8 xs j;have c2:cutP xs (some ((j:Int)+1)) none=xs.drop (j+1):=Z6 xs (j+1);have c3:=Z6 xs j;have l1:(xs.take j).length<=xs.length:=by rw[J7];ext
    have l2:(xs.drop (j+1)).length<=xs.length:=by rw[J8];ext
    have l3:(xs.drop j).length<=xs.length:=by rw[J8];ext
    have hk':F3 xs+3<=100000:=hk;have f0:=h (.tup (xs.take j++xs.drop (j+1))) (m+1+1+1) (NW hs (λy hy=>(D7.mp hy).elim U7 Y4) (by rw[v5];ext)) 0x0
    have f1:=h (.tup (xs.take j++[x]++xs.drop j)) (m+1+1+1) (NW hs (λy hy=>by
     rcases D7.mp hy with hy|hy
     ·rcases D7.mp hy with hy|hy
      ·exact U7 hy
      ·rw[E8.mp hy];exact hx
     ·exact Y4 hy) (by rw[v5,v5];show _+(cost x+2+0)+_<=_;ext)) 0x0
    have f2:=h (.lst xs) (m+1+1+1) ⟨λe _=>by cases e <;> rfl,hs,by show deps xs+1<=deps xs+1+2;omega,by show F3 xs+3<=2*(F3 xs+3)+200;ext⟩ 0x0
    have dx:=Dv hx;have hd':deps xs+1<f+1:=hd
    have f3:∀{R':PV->Nat->Prop},(∀Y m',R (.tup (xs.take j++[Y]++xs.drop (j + 1))) m'->R' Y m')->B [.pot q,x] (m + 1 + 1 + 1) R':=fun {R'} k=>ih x _ R' 0x0 (Gb (C6.mp hc x hx)) (Du hs hx) 0x0 0x0 fun Y m' sY hm'=>k Y m' (h _ m' ⟨fun e he=>by
     cases e with
     |zero=>rfl
     | succ e =>
      have he:=C6.mp he;refine C6.mpr λy hy=>?_;rcases D7.mp hy with hy|hy
      ·rcases D7.mp hy with hy|hy
       ·exact he y (U7 hy)
       ·rw[E8.mp hy];exact sY.ok e (he x hx)
      ·exact he y (Y4 hy),EG _ λy hy=>by
      rcases D7.mp hy with hy|hy
      ·rcases D7.mp hy with hy|hy
       ·exact Du hs (U7 hy)
       ·rw[E8.mp hy];exact sY.sh
      ·exact Du hs (Y4 hy),by
      have:=EH (deps xs+2) (xs.take j++[Y]++xs.drop (j+1)) λy hy=>by
       rcases D7.mp hy with hy|hy
       ·rcases D7.mp hy with hy|hy
        ·have:=Dv (U7 hy);ext
        ·rw[E8.mp hy];have:=sY.de;ext
       ·have:=Dv (Y4 hy);ext
      show deps (xs.take j++[Y]++xs.drop (j+1))+1<=deps xs+1+2
      omega,by
      have:=sY.co;show F3 (xs.take j++[Y]++xs.drop (j+1))+3<=2*(F3 xs+3)+200;rw[v5,v5];show _+(cost Y+2+0)+_+3<=_
      ext⟩ 0x0)
    clear h ih;subst hU;have ax:atI xs (j:Int)=some x:=P2 ex;generalize hA:xs.take j=A at *;generalize hD:xs.drop (j+1)=D at *;generalize hE:xs.drop j=E at *;right;rw[c1,c2,c3,ax];dsimp only
    by_cases v0:w=0
    ·exact if_t (jq v0) ⟨0x0,f0⟩
    refine if_f (jr v0) ?_
    by_cases v1:w=1
    ·exact if_t (jq v1) ⟨0x0,by rw[C7,Q5];omega,f1⟩
    refine if_f (jr v1) ?_
    by_cases v2:w=2
    ·exact if_t (jq v2) f2
    exact if_f (jr v2) (f3 λY m' k=>⟨0x0,by rw[C7,Q5];omega,k⟩)
  |_=>first|(cases hs;done)|(right;exact som m 0x0)
def E0 (x:PV):Prop:=∃z,x=.str z/\ascS z=true/\z.length<=8
def E1 (x:PV):Prop:=E0 x\/∃xs,x=.tup xs/\xs.length<=3/\∀y∈xs,E0 y
def E2 (x:PV):Prop:=∃xs,x=.tup xs/\xs.length<=3/\∀y∈xs,E1 y
def E0.ok {x:PV}(h:E0 x):(∀e,okT e x=true)/\Show 0 82 x:=by
 obtain⟨z,rfl,a,l⟩:=h;refine⟨λe=>by rw[AG];exact a,λc hc=>?_,B2 _,by show 10*z.length+2<=82;omega⟩;unfold ascS at a;rw[P4,<- Array.all_toList] at a;exact y8 (jv (C6.mp a.1 c hc)) (by decide +kernel)
def NZ {P:PV->Prop}{d c:Nat}{xs:List PV}(hl:xs.length<=3)(h:∀x∈xs,P x)(hp:∀x,P x->(∀e,okT e x=true)/\Show d c x):(∀e,okT e (.tup xs)=true)/\Show (d+1) ((c+2)*3+3) (.tup xs):=
 ⟨λe=>by
  cases e with
  |zero=>rfl
  |succ e=>exact C6.mpr λy hy=>(hp y (h y hy)).1 e,Show.tup (λy hy=>(hp y (h y hy)).2) hl⟩
theorem E1.ok {x:PV}(h:E1 x):(∀e,okT e x=true)/\Show 1 260 x:=by
 rcases h with h|⟨xs,rfl,l,h⟩
 ·exact⟨h.ok.1,h.ok.2.le 0b0 0b0⟩
 ·have:=NZ l h λ_=>E0.ok;exact⟨this.1,this.2.le (B2 _) 0b0⟩
theorem E2.ok {x:PV}(h:E2 x):(∀e,okT e x=true)/\Show 2 800 x:=by
 obtain⟨xs,rfl,l,h⟩:=h;have:=NZ l h λ_=>E1.ok;exact⟨this.1,this.2.le (B2 _) 0b0⟩
def Dw {z:Str}(h:L8 z):E0 (.str z):=⟨z,rfl,UY h,by rw[Z2];exact h.2.1⟩
def EV (x:PV):Prop:=∃xs,x=.tup xs/\xs.length<=3/\∀y∈xs,E0 y
def JR {w:Str}{a:PV}(hw:E0 (.str w))(ha:E1 a):E2 (.tup [.str w,a]):=⟨_,rfl,0o0,λy hy=>by
 simp only[B5,F6,or_false] at hy;rcases hy with rfl|rfl
 ·exact .inl hw
 ·exact ha⟩
def JS {w:Str}{a b:PV}(hw:E0 (.str w))(ha:E1 a)(hb:E1 b):E2 (.tup [.str w,a,b]):=⟨_,rfl,0o0,λy hy=>by
 simp only[B5,F6,or_false] at hy;rcases hy with rfl|rfl|rfl
 ·exact .inl hw
 ·exact ha
 ·exact hb⟩
def Vg {q m:Nat}{row oth:List Str}{R:PV->Nat->Prop}(hr:RowS row)(p:oth.Perm row)(l1:1<=row.length)(l24:row.length<=24)(hm:m<=998000000)(h:∀L m',1<=L.length->L.length<=200->(∀y∈L,E2 y)->m'<=m + 100->R (.lst L) m'):Jk [.pot q,rowP row,rowP oth] m R:=by
 mleft;unfold Jj;have ol:oth.length=row.length:=p.length_eq
 have wf:∀w∈[A6 "from",A6 "round",A6 "far",A6 "cross",O4,DROP],E0 (.str w):=λw hw=>⟨w,rfl,by
  simp only[B5,F6,or_false] at hw
  rcases hw with rfl|rfl|rfl|rfl|rfl|rfl <;> decide +kernel⟩
 have ao:∀z∈row,atI (oth.map PV.str) (ixS row z:Int)=some (.str (nm oth (ixS row z))):=λz hz=>P2 (by rw[D4,R1 (by rw[ol];exact M5 hz)];rfl);have io:∀z∈row,∀{R:PV->Prop},R (.int (ixS oth z))->Z5 (.tup (oth.map PV.str)) (.str z) R:=λz hz {R} q=>m_ix rfl (p.mem_iff.mpr hz) 0x0 q;have lo:∀z∈row,ixS oth z<row.length:=λz hz=>by rw[<- ol];exact M5 (p.mem_iff.mpr hz)
 have ar:∀j:Nat,j<row.length->atI (row.map PV.str) (j:Int)=some (.str (nm row j)):=λj hj=>P2 (by rw[D4,R1 hj];rfl);have br:∀j:Nat,j<row.length->E0 (.str (nm row j)):=λj hj=>Dw (hr.2 _ (Di hj));have ee:=NU hr.1;have Zl:(row.map PV.str).length=row.length:=B0 ..;unfold rowP;generalize hZ:row.map PV.str=Z at *;generalize oth.map PV.str=O at *;symm;walk_at "pd";refine(show(X4 Z).length<=1000000/\P3 _ _ _ (X4 Z) [none,none,some (.v (.tup O))] m _ from ?_);rw[ee];refine⟨by rw[B0];omega,?_⟩;refine JG (λz=>.int (ixS row z:Int)) PV.str (λz=>!decide (nm oth (ixS row z)=z)) PV.str row _ _ _ _ (λz hz m Q q=>?_) (λz hz m Q q=>?_) ?_
 ·have a1:=ao z hz;right;rw[a1];refine gd2 rfl rfl ?_;rw[M6];exact q
 ·right;exact q
 have fl:=O7 (λz=>!decide (nm oth (ixS row z)=z)) row
 have fm:∀y∈(row.filter λz=>!decide (nm oth (ixS row z)=z)).map PV.str,E0 y:=λy hy=>by
  obtain⟨z,hz,rfl⟩:=D2.mp hy;exact Dw (hr.2 z (G8.mp hz).1)
 rw[<- B0 (f:=PV.str)] at fl;generalize (row.filter λz=>!decide (nm oth (ixS row z)=z)).map PV.str=F at *;right;refine⟨⟨0x0,0x0,0x0⟩,λd d0 d1=>?_⟩;obtain⟨dn,rfl⟩:=Aa d0;rw[ar dn 0x0];dsimp only;refine⟨0x0,?_⟩;have mv:∀y∈F++[.str (nm row dn)],E0 y:=λy hy=>(D7.mp hy).elim (fm y) λz=>by rw[E8.mp z];exact br dn 0x0
 have ml:1<=(F++[PV.str (nm row dn)]).length/\(F++[PV.str (nm row dn)]).length<=25:=by rw[C7,Q5];ext
 obtain⟨M0,e0,em⟩:∃x,atI (F++[PV.str (nm row dn)]) 0=some x/\x∈F++[PV.str (nm row dn)]:=by
  obtain⟨x,hx,e⟩:=V9 (xs:=F++[PV.str (nm row dn)]) (d:=0) 0b0 0x0;exact⟨x,e,hx⟩
 have e1:atI (F++[PV.str (nm row dn)]) (-1)=some (.str (nm row dn)):=Kv F _;generalize hM:F++[PV.str (nm row dn)]=M at *;subst hU;symm;right;subst hU;symm;right;refine O3 (λi env m'=>∃FD s5,env=[some (.v (.pot q)),some (.v (.tup Z)),some (.v (.tup O)),some (.v (.lst M)),some (.own FD),s5,none,none,none,none,none]/\FD.length=2*i/\(∀y∈FD,E2 y)/\m'=m+1) _ 0 _ _ ⟨[],none,rfl,rfl,(λ_ z=>nomatch z),rfl⟩ (λi x env m' N ex hI hN=>?_) (λenv m' hI=>?_)
 ·obtain⟨FD,s5,rfl,hl,hF,rfl⟩:=hI;have hx:=mv x (G4 ex);have il:i<M.length:=(D3.mp ex).1;right;refine⟨⟨_,rfl⟩,0x0,hN _ _ ⟨_,_,rfl,by rw[C7];show FD.length+2=_;omega,λy hy=>?_,rfl⟩⟩;rcases D7.mp hy with hy|hy
  ·exact hF y hy
  ·simp only[B5,F6,or_false] at hy;rcases hy with rfl|rfl <;> exact JR (wf _ 0o0) (.inl hx)
 ·obtain⟨FD,s5,rfl,hl,hF,rfl⟩:=hI;subst hU;dsimp only;symm;right;subst hU;symm;right;refine O3 (λi env m'=>∃TL s5 s7 s8,env=[some (.v (.pot q)),some (.v (.tup Z)),some (.v (.tup O)),some (.v (.lst M)),some (.own FD),s5,some (.own TL),s7,s8,none,none]/\TL.length=i/\(∀y∈TL,EV y)/\m'=m+1) _ 0 _ _ ⟨[],_,none,none,rfl,rfl,(λ_ z=>nomatch z),rfl⟩ (λi x env m' N ex hI hN=>?_) (λenv m' hI=>?_)
  ·obtain⟨TL,t5,t7,t8,rfl,hl',hT,rfl⟩:=hI;rw[ee] at ex;obtain⟨z,ez,rfl⟩:=Dj ex;have hz:=G4 ez;have il:i<row.length:=(D3.mp ez).1;have lz:=M5 hz;have lq:=lo z hz;have mx:(if(ixS oth z:Int)>(ixS row z:Int) then(ixS oth z:Int) else(ixS row z:Int))=((max (ixS row z) (ixS oth z):Nat):Int):=by split <;> omega
   have mn:(if(ixS oth z:Int)<(ixS row z:Int) then(ixS oth z:Int) else(ixS row z:Int))=((min (ixS row z) (ixS oth z):Nat):Int):=by split <;> ext
   mleft;dsimp only[gCn,gN,gNl,gAt,List.set];symm;right;refine⟨⟨_,rfl⟩,io z hz ?_⟩;subst hU;right;refine⟨⟨_,rfl⟩,?_⟩;rw[mx,mn,ar _ 0x0,ar _ 0x0];refine⟨0x0,hN _ _ ⟨_,_,_,_,rfl,by rw[C7,hl'];rfl,λy hy=>?_,rfl⟩⟩;rcases D7.mp hy with hy|hy
   ·exact hT y hy
   ·rw[E8.mp hy];refine⟨_,rfl,0o0,λu hu=>?_⟩;simp only[B5,F6,or_false] at hu;rcases hu with rfl|rfl|rfl
    ·exact wf O4 0o0
    ·exact br _ 0x0
    ·exact br _ 0x0
  ·obtain⟨TL,t5,t7,t8,rfl,hl',hT,rfl⟩:=hI;have tl24:TL.length<=24:=by rw[hl',J4,ee,B0];exact l24
   have c8:(cutP TL none (some 8)).length<=8:=by
    rw[show cutP TL none (some 8)=TL.take 8 from i8 TL 8,J7];ext
   have cE:∀y∈cutP TL none (some 8),EV y:=λy hy=>hT y (Hn y hy);generalize hC:cutP TL none (some 8)=C at *;subst hU;dsimp only;symm;right;rw[e0,e1];dsimp only;rw[hC];refine⟨0x0,?_⟩
   have hT2:∀y∈C++[.tup [.str O4,M0,.str (nm row dn)],.tup [.str DROP,M0]],EV y:=λy hy=>by
    rcases D7.mp hy with hy|hy
    ·exact cE y hy
    ·have m0:=mv M0 em;have m1:=br dn 0x0;simp only[B5,F6,or_false] at hy;rcases hy with rfl|rfl
     ·exact⟨_,rfl,0o0,λu hu=>by
       simp only[B5,F6,or_false] at hu;rcases hu with rfl|rfl|rfl
       ·exact wf O4 0o0
       ·exact m0
       ·exact m1⟩
     ·exact⟨_,rfl,0o0,λu hu=>by
       simp only[B5,F6,or_false] at hu;rcases hu with rfl|rfl
       ·exact wf DROP 0o0
       ·exact m0⟩
   have N_:1<=(C++[PV.tup [.str O4,M0,.str (nm row dn)],.tup [.str DROP,M0]]).length/\(C++[PV.tup [.str O4,M0,.str (nm row dn)],.tup [.str DROP,M0]]).length<=10:=by rw[C7];show 1<=C.length+2/\C.length+2<=10;ext
   generalize C++[PV.tup [.str O4,M0,.str (nm row dn)],.tup [.str DROP,M0]]=T2 at *;subst hU;symm;right;rw[J4] at hl;have fd50:FD.length<=50/\2<=FD.length:=0x0
   refine O3 (λi env m'=>∃FD' s2 s9 s10,env=[some (.v (.pot q)),some (.v (.tup Z)),s2,some (.v (.lst M)),some (.own FD'),t5,some (.v (.lst T2)),t7,t8,s9,s10]/\FD'.length=FD.length+4*i/\(∀y∈FD',E2 y)/\m'=m+1+2*i) _ 0 _ _ ⟨FD,_,none,none,rfl,rfl,hF,rfl⟩ (λi x env m' N ex hI hN=>?_) (λenv m' hI=>?_)
   ·obtain⟨FD',s2,s9,s10,rfl,fl',hF',rfl⟩:=hI;obtain⟨xs,rfl,x3,hx⟩:=hT2 x (G4 ex);have il:i<T2.length:=(D3.mp ex).1
    have tr:EV (.tup (cutP xs none (some 1)++(cutP xs (some 1) none).reverse)):=by
     refine⟨_,rfl,?_,λy hy=>(D7.mp hy).elim (λz=>hx y (Hn y z)) λz=>hx y (Hn y (List.mem_reverse.mp z))⟩;rw[show cutP xs none (some 1)=xs.take 1 from i8 xs 1,show cutP xs (some 1) none=xs.drop 1 from Z6 xs 1,C7,k7,J7,J8];ext
    have tl:(cutP xs none (some 1)).length+(cutP xs (some 1) none).length<=6:=by
     rw[show cutP xs none (some 1)=xs.take 1 from i8 xs 1,show cutP xs (some 1) none=xs.drop 1 from Z6 xs 1,J7,J8];ext
    have hx':E1 (.tup xs):=.inr ⟨xs,rfl,x3,hx⟩;have tr':E1 _:=.inr tr;generalize hTT:PV.tup xs=XT at *;symm;right;refine⟨⟨0x0,0x0,0x0⟩,λd d0 d1=>?_⟩;obtain⟨v,hv,ev⟩:=V9 d0 d1;have hv':E1 v:=.inr (hT2 v hv);rw[ev];subst hTT;refine⟨by rw[k7];omega,?_⟩;generalize hTU:PV.tup (cutP xs none (some 1)++(cutP xs (some 1) none).reverse)=TU at *;generalize hTT:PV.tup xs=XT at *;subst hU;symm;right;refine⟨⟨_,rfl⟩,0x0,?_⟩;subst hU;right;refine⟨⟨_,rfl⟩,0x0,λc c0 c1=>?_⟩
    have two:∃u,atI [PV.tup [.str (A6 "cross"),TU,v],.tup [.str (A6 "cross"),v,TU]] c=some u/\E2 u:=by
     obtain⟨u,hu,eu⟩:=V9 (xs:=[PV.tup [.str (A6 "cross"),TU,v],.tup [.str (A6 "cross"),v,TU]]) c0 c1;refine⟨u,eu,?_⟩;simp only[B5,F6,or_false] at hu;rcases hu with rfl|rfl
     ·exact JS (wf _ 0o0) tr' hv'
     ·exact JS (wf _ 0o0) hv' tr'
    obtain⟨u,eu,hu⟩:=two;rw[eu];refine⟨by rw[C7];show FD'.length+3<_;omega,hN _ _ ⟨_,_,_,_,rfl,?_,λy hy=>?_,0x0⟩⟩
    ·rw[C7,C7];show FD'.length+3+1=_;ext
    ·rcases D7.mp hy with hy|hy
     ·rcases D7.mp hy with hy|hy
      ·exact hF' y hy
      ·simp only[B5,F6,or_false] at hy;rcases hy with rfl|rfl|rfl
       ·exact JR (wf _ 0o0) hx'
       ·exact JS (wf _ 0o0) hx' hv'
       ·exact JR (wf _ 0o0) tr'
     ·rw[E8.mp hy];exact hu
   ·obtain⟨FD',s2,s9,s10,rfl,fl',hF',rfl⟩:=hI;subst hU;right;exact h FD' _ 0x0 0x0 hF' 0x0
def Oa {d e:Nat}{x:PV}(h:cmpb d x=true)(he:d<=e):cmpb e x=true:=by
 induction he with
 |refl=>exact h
 |step _ ih=>exact Gb ih
section
variable {s n mx r m:Nat}{row oth:List Str}
def Vh {st g:List Str}(G:Gl st g)(hb:RowS st){T:List Ev}(t:To st g T){l:Nat}(hl:st.length<=l):Show 3 (786*l+18) (AF st T)/\okT 1 (AF st T)=true/\cmpb 4 (AF st T)=true:=by
 obtain⟨D,F,e,lD,lF,mD,mF⟩:=@US st T
 have tl:T.length<=st.length:=by
  rw[t.p.length_eq];unfold TL;rw[B0];exact O7 _ _
 have rw_:∀Z:List Str,(∀z∈Z,z∈st)->Z.length<=st.length->Show 2 (262*l+3) (rowP Z):=λZ hZ lZ=>by
  refine(Show.tup (d:=0) (c:=82) (l:=l) (xs:=Z.map PV.str) (λx hx=>?_) (by rw[B0];ext)).le 0b0 0x0;obtain⟨z,hz,rfl⟩:=D2.mp hx;exact Dk (hb.2 z (hZ z hz))
 rw[e];refine⟨(Show.tup (d:=2) (c:=262*l+3) (l:=3) (λy hy=>?_) 0o0).le (B2 _) 0x0,rfl,?_⟩
 ·simp only[B5,F6,or_false] at hy;rcases hy with rfl|rfl|rfl
  ·refine(Show.tup (d:=1) (c:=260) (l:=l) (xs:=T.map evP) (λx hx=>?_) (by rw[B0];ext)).le 0b0 0x0;obtain⟨e,he,rfl⟩:=D2.mp hx;obtain⟨y,hy,rfl,_⟩:=t.mem he;refine Tn λb hb'=>?_;rcases B5.mp hb' with rfl|hb'
   ·exact hb.2 _ (G.pl hy).1
   ·rw[E8.mp hb'];exact hb.2 _ hy
  ·exact rw_ D mD lD
  ·exact rw_ F mF lF
 ·have ce:(T.map evP).all (cmpb 2)=true:=C6.mpr λy hy=>by
   obtain⟨e,_,rfl⟩:=D2.mp hy;cases e <;> rfl
  show((T.map evP).all (cmpb 2)&&((D.map PV.str).all (cmpb 2)&&((F.map PV.str).all (cmpb 2)&&true)))=true;rw[ce,i6 D 2,i6 F 2];rfl
def ToldV (r s n mx:Nat)(row oth:List Str)(v:PV):Prop:=((∀j<mx,okI r s n mx row oth j)/\v=.tup [.str (A6 "told"),.tup (Z8 s n mx row oth mx)])\/∃i w,i<mx/\(∀j<i,okI r s n mx row oth j)/\Bad r s n mx row oth i w/\v=unP mx i w
def bad_E2 {i:Nat}{v:PV}(S:Se s n mx row oth)(hi:i<mx)(ok:∀j<i,okI r s n mx row oth j)(h:Bad r s n mx row oth i v):E2 v:=by
 obtain⟨w,ys,e,l1,l2,hy⟩:=(Ga S hi ok h).1;obtain⟨k,zs,hk,e',_⟩:=JQ h;rw[e] at e';obtain⟨a,b⟩:=Q7 (PV.tup.inj e');cases a;refine⟨_,e,by rw[D5];omega,λy hy'=>?_⟩;rcases B5.mp hy' with rfl|hy'
 ·refine .inl ⟨_,rfl,?_⟩;rcases i4 hk with rfl|rfl|rfl|rfl <;> decide +kernel
 ·rcases hy y hy' with⟨z,rfl,bz⟩|⟨a,b,rfl,_,ba,bb⟩
  ·exact .inl (Dw bz)
  ·refine .inr ⟨[.str O4,.str a,.str b],N2 _ _,B2 _,λu hu=>?_⟩;simp only[B5,F6,or_false] at hu;rcases hu with rfl|rfl|rfl
   ·exact⟨O4,rfl,by decide +kernel⟩
   ·exact Dw ba
   ·exact Dw bb
def Vi {v:PV}(S:Se s n mx row oth)(hv:ToldV r s n mx row oth v):okT 3 v=true/\Show 5 45000 v/\cmpb 8 v=true/\∃w x ys,v=.tup (.str w::x::ys)/\(w=A6 "untold"->okT 2 x=true/\Show 0 61 x):=by
 have mle:=S.mle;have n24:=S.h24;rcases hv with⟨ok,rfl⟩|⟨i,w,hi,ok,hb,rfl⟩
 ·have fr:∀y∈Z8 s n mx row oth mx,Show 3 (786*(s+1)+18) y/\okT 1 y=true/\cmpb 4 y=true:=λy hy=>by
   obtain⟨i,hi,rfl⟩:=D2.mp (List.mem_reverse.mp hy);have hi:=J9.mp hi;obtain⟨p,_⟩:=S.rows i 0x0 λj hj=>ok j 0x0;have sl:=(S.slen hi (q:=rowI s n mx row oth i) (by rw[p.length_eq,S.hl])).2.2
   exact Vh (S.gl hi p (ok i hi).1) (Z7 (S.hr.perm p)) F_ (by
    show(C0 s n (mx-1-i) (rowI s n mx row oth i)).length<=_
    rw[sl];unfold hiN;ext)
  have fl:(Z8 s n mx row oth mx).length=mx:=by unfold Z8;rw[k7,B0,U8]
  have fS:=Show.tup (d:=3) (c:=786*(s+1)+18) (l:=mx) (λy hy=>(fr y hy).1) (by rw[fl];exact B2 _);have b:s*mx<=n+s-1:=by rw[S.hmx];exact Nat.mul_div_le _ _
  have b2:(786*(s+1)+18+2)*mx<=44000:=by
   have h8:=S.h8;rw[show(786*(s+1)+18+2)*mx=786*(s*mx)+806*mx by rw[Nat.mul_add,Ci,Ci,Ci,Nat.mul_assoc];omega];ext
  have w1:=i9 (A6 "told") (by decide +kernel) (by decide +kernel);have c1:=fS.co;have d1:=fS.de;have w2:=w1.co;refine⟨?_,⟨⟨w1.sh,fS.sh,trivial⟩,by show max 0 (max (dep (.tup (Z8 s n mx row oth mx))) 0)+1<=5;omega,by show cost (.str (A6 "told"))+2+(cost (.tup (Z8 s n mx row oth mx))+2+0)+3<=45000;ext⟩,?_,_,_,_,rfl,λz=>absurd z (by decide +kernel)⟩
  ·show(okT 2 (.str (A6 "told"))&&((Z8 s n mx row oth mx).all (okT 1)&&true))=true;rw[C6.mpr λy hy=>(fr y hy).2.1,AG];decide +kernel
  ·show(true&&((Z8 s n mx row oth mx).all (cmpb 6)&&true))=true;rw[C6.mpr λy hy=>Oa (fr y hy).2.2 0b0];rfl
 ·have e2:=bad_E2 S hi ok hb;obtain⟨o,sw⟩:=e2.ok;have si:Show 0 61 (.int ((mx-1-i:Nat):Int)):=Dl 0x0;refine⟨?_,?_,?_,_,_,_,rfl,λ_=>⟨rfl,si⟩⟩
  ·show(okT 2 (.str (A6 "untold"))&&(true&&(okT 2 w&&true)))=true;rw[o 2,AG];decide +kernel
  ·refine(Show.tup (d:=2) (c:=800) (l:=3) (λy hy=>?_) 0o0).le 0b0 0b0;simp only[B5,F6,or_false] at hy;rcases hy with rfl|rfl|rfl
   ·exact(i9 _ (by decide +kernel) (by decide +kernel)).le 0b0 0b0
   ·exact si.le 0b0 0b0
   ·exact sw
  ·show(true&&(true&&(cmpb 7 w&&true)))=true;rw[Oa (JP (Ga S hi ok hb).2) 0b0];rfl
end
def Vj {P:List Str->List Ev->Prop}{s n mx i:Nat}{row:List Str}(h1:1<=s)(hn:1<=n)(hmx:mx=(n+s-1)/s)(hf:∀st es,P st es->Fair st es){ess:List (List Ev)}{sts:List (List Str)}{r:List Str}(h:Dy P s n mx row i ess sts r):r.Perm row:=by
 induction h with
 |nil=>exact Cq _
 | @cons i ess sts r es h hi hp ih =>
  have f:=hf _ _ hp;have kh:=Fg (s:=s) (n:=n) (Ff h1 hn (show mx-1-i<(n+s-1)/s by ext));refine(Ie 0x0 ?_).trans ih;rw[H_ f];exact MK f.sub
def m_mix {q:Nat}{a1 a2 a3 a4 a5 a6:Option Pu.Slot}{D:p7}(N:Nat)(hN:N<=999999000):∀(m:Nat) (left found:List PV) (n:Nat),left.length=m->found.length+left.length<=1000->left.all (cmpb 3)=true->n+left.length<=N->
   (∀ys n',ys.Perm (found++left)->n'<=n+left.length->D.nx [some (.v (.pot q)),a1,a2,a3,a4,a5,a6,some (.own []),some (.own ys),none,none,none] n')->
   V8 (qB (qOpR (wNe 4) (qO 7) (qL (qLst qNil)))) (J0 (M4 8 (Hm 7 (B1 At (A0 (qV 0) (A0 (qUn wLen (qO 7)) qNil)))))) D (m+1) [some (.v (.pot q)),a1,a2,a3,a4,a5,a6,some (.own left),some (.own found),none,none,none] n:=by
 intro m
 induction m with
 | zero =>
  intro left found n hl hs pl hn hD;have:left=[]:=BX hl;subst this;simp only[V8];right;exact hD found n 0o0 0x0
 | succ m ih =>
  intro left found n hl hs pl hn hD;cases left with
  |nil=>cases hl
  | cons y r =>
   rw[V8];have hl':r.length=m:=by simpa using hl
   rw[D5] at hs hn;right;refine gd2 pl rfl (if_t rfl ⟨⟨_,rfl⟩,⟨_,rfl⟩,⟨0x0,0x0,0x0⟩,λd d0 d1=>⟨0x0,?_⟩⟩);rw[X1 (n:=r.length+1) d0 d1];have hk:d.toNat<(y::r).length:=by rw[D5];omega
   dsimp only;rw[C9 hk];refine⟨0x0,?_⟩;have le:((y::r).eraseIdx d.toNat).length=r.length:=by rw[Gi hk];rfl
   refine ih ((y::r).eraseIdx d.toNat) (found++[(y::r)[d.toNat]]) (n+1) 0x0 (by rw[C7,Q5,le];omega) (C6.mpr λz hz=>C6.mp pl z (List.mem_of_mem_eraseIdx hz)) 0x0 λys n' p h'=>?_;rw[le] at h';refine hD ys n' (p.trans ?_) (by rw[D5];omega);rw[R8];exact(SeT.Fn _ _ _ (C9 hk)).append_left found
def Vk {α:Type}{l:List α}{i j:Nat}{a b:α}(hi:l[i]?=some a)(hj:l[j]?=some b):((l.set i b).set j a).Perm l:=by
 obtain⟨h1,e1⟩:=D3.mp hi;obtain⟨h2,e2⟩:=D3.mp hj;rw[<- e1,<- e2];exact List.set_set_perm h1 h2
def Vl {q s n r m:Nat}{row:List Str}{R:PV->Nat->Prop}(h1:1<=s)(h8:s<=8)(hn:1<=n)(h24:n<=24)(hr:RowS row)(hl:row.length=n)(hm:m<=998000000)(h:∀oth n',oth.Perm row->n'<=m+2200->R (rowP oth) n'):Fq [.pot q,.tup [.int (s:Int),.int (r:Int)],rowP row] m R:=by
 mleft;unfold IG;have hW':rowP row=.tup (row.map PV.str):=rfl;have md:∀{m:Nat} {R:PV->Nat->Prop},m<=998000001->(∀X Y oth n',oth.Perm row->n'<=m+2000->R (.tup [X,Y,rowP oth]) n')->Fp [.pot q,.tup [.int (s:Int),.int (r:Int)],rowP row] m R:=λhm h=>m_day (P:=Fair) (n:=n) (λst ms es hs hsl hl' hw p se=>(Tf hs.1 hl').perm p) (λ_ _ p=>p) h1 h8 hn h24 hr hl 0x0 λess sts r' n2 hd hn2=>h _ _ r' n2 (Vj h1 hn rfl (λ_ _ p=>p) hd) hn2;rw[hW'] at md ⊢;have Zl:(row.map PV.str).length=n:=by rw[B0];exact hl
 have cz:=i6 row 3
 have h:∀ys n',ys.Perm (row.map PV.str)->n'<=m+2200->R (.tup ys) n':=λys n' p hn'=>by
  obtain⟨o,po,rfl⟩:=SeT.Dn p;exact h o n' po hn'
 symm;generalize hZ:row.map PV.str=Z at *;right;refine⟨0x0,λw w0 w1=>?_⟩;subst hU;symm;right;refine md 0x0 λX Y fo n1 pf hn1=>⟨rfl,?_⟩;have pf:=pf.map PV.str;rw[hZ] at pf;subst hU;symm
 by_cases c:w=0
 ·subst c;right;exact⟨Z.length+1,m_mix 999000000 0x0 Z.length Z [] n1 rfl (by rw[Zl];simp;ext) cz 0x0 λys n' p hn'=>h ys n' p 0x0⟩
 ·unfold rowP;generalize fo.map PV.str=FO at *;right;refine if_f (jr c) ?_;subst hU;symm;right;subst hU;symm;right;obtain⟨v,hv,ev⟩:=V9 (xs:=[PV.int 0,PV.int 0,PV.int 1,PV.int 1,PV.int 2,PV.int 3]) w0 w1
  obtain⟨t,rfl,t0,t1⟩:∃t:Int,v=.int t/\0<=t/\t<=3:=by
   simp only[B5,F6,or_false] at hv;rcases hv with rfl|rfl|rfl|rfl|rfl|rfl <;> exact⟨_,rfl,0b0,0b0⟩
  rw[ev];refine⟨0x0,?_⟩;refine O3 (λi env m'=>∃S s9 s10 s11,env=[some (.v (.pot q)),some (.v (.tup [.int (s:Int),.int (r:Int)])),some (.v (.tup Z)),some (.v (.int w)),some (.v X),some (.v Y),some (.v (.tup FO)),none,some (.own S),s9,s10,s11]/\S.Perm Z/\m'<=n1+4*i) _ 0 _ _ ⟨FO,none,none,none,rfl,pf,0x0⟩ (λi x env m' N ex hI hN=>?_) (λenv m' hI=>?_)
  ·obtain⟨hi,rfl⟩:=CU ex;obtain⟨S,s9,s10,s11,rfl,pS,hm'⟩:=hI;have Sl:S.length=n:=by rw[pS.length_eq,Zl]
   symm;right;refine⟨⟨0x0,0x0,0x0⟩,λa a0 a1=>?_⟩;subst hU;symm;right;refine⟨0x0,λd d0 d1=>⟨⟨0x0,0x0,0x0⟩,λe e0 e1=>⟨0x0,λf f0 f1=>?_⟩⟩⟩;obtain⟨v,hv,ev⟩:=V9 (xs:=[PV.int (if(S.length:Int)-1<a+1+d then(S.length:Int)-1 else a+1+d),PV.int e]) f0 f1
   obtain⟨b,rfl,b0,b1⟩:∃b:Int,v=.int b/\0<=b/\b<S.length:=by
    simp only[B5,F6,or_false] at hv;rcases hv with rfl|rfl
    ·exact⟨_,rfl,by split <;> omega,by split <;> ext⟩
    ·exact⟨_,rfl,e0,e1⟩
   rw[ev];obtain⟨xa,ea,ta⟩:=Ek a0 a1;obtain⟨xb,eb,tb⟩:=Ek b0 b1;subst hU;right;rw[tb];dsimp only;rw[ta];refine⟨⟨_,rfl⟩,?_⟩;rw[X1 a0 a1];dsimp only;rw[X1 b0 (by rw[K7];exact b1)];exact hN _ _ ⟨_,_,_,_,rfl,(Vk ea eb).trans pS,0x0⟩
  ·obtain⟨S,s9,s10,s11,rfl,pS,hm'⟩:=hI;rw[Au] at hm';subst hU;right;exact h S _ pS 0x0
def TH (x:PV):Prop:=okT 3 x=true/\Show 7 90200 x
def th_un {a y:PV}(ha:okT 2 a=true)(sa:Show 0 61 a)(hy:E2 y):TH (.tup [.str (A6 "untold"),a,y]):=by
 obtain⟨o,sy⟩:=hy.ok;refine⟨?_,(Show.tup (d:=2) (c:=800) (l:=3) (λz hz=>?_) 0o0).le 0b0 0b0⟩
 ·show(okT 2 (.str (A6 "untold"))&&(okT 2 a&&(okT 2 y&&true)))=true;rw[ha,o 2,AG];decide +kernel
 ·simp only[B5,F6,or_false] at hz;rcases hz with rfl|rfl|rfl
  ·exact(i9 _ (by decide +kernel) (by decide +kernel)).le 0b0 0b0
  ·exact sa.le 0b0 0b0
  ·exact sy
def m_law (ns:List Int)(hl:ns.length<=63):FV ⟨λ_ _=>False,λr _=>r=.bl true,λ_ _=>False,λ_ _=>False⟩ (p8 ["_law_script","_law_draws","_law_turn","_law_meeting","_law_row","_law_other_here","_law_things","_law_told","_law_reasons_here","_law_first","_law_numbers","_law_reason","_law_held","_law_thing","_law_found"] [.scr ns]) 0:=by
 unfold FV;symm;right;refine⟨hl,λq=>?_⟩;subst hU;refine C1 λV hV=>?_;simp only[qFor];walk_at "pd";refine⟨0b0,?_⟩;refine O3 (λi env m=>∃s2 s3 s4 s5 s6 s7 s8 s9 s10 s11 s12 s13 s14,env=[some (.v (.scr ns)),some (.v (.pot q)),s2,s3,s4,s5,s6,s7,s8,s9,s10,s11,s12,s13,s14]/\m<=10000*i) _ 0 _ _ ⟨none,none,none,none,none,none,none,none,none,none,none,none,none,rfl,0x0⟩ (λi x env m N ex hI hN=>?_) (λenv m hI=>?_)
 ·obtain⟨s2,s3,s4,s5,s6,s7,s8,s9,s10,s11,s12,s13,s14,rfl,hm⟩:=hI;obtain⟨hj,rfl⟩:=CU ex;rw[J4] at hm hN;have hj3:i<2:=hj;symm;right;refine⟨0x0,λd d0 d1=>?_⟩
  obtain⟨mo,emo,mo6,mo24⟩:∃mo:Int,atI [PV.int 10,PV.int 24] (if decide (d=0)=true then 1 else 0)=some (.int mo)/\6<=mo/\mo<=24:=by
   by_cases c:d=0
   ·rw[jt (jq c)];exact⟨24,rfl,0b0,0b0⟩
   ·rw[ju (by simpa using c)];exact⟨10,rfl,0b0,0b0⟩
  rw[emo];refine m_meet mo6 mo24 0x0 λs r zs n' h1 h8 r7 z1 z24 zr hn'=>?_;have mo:∀{m:Nat} {R:PV->Nat->Prop},m<=998000000->(∀oth n',oth.Perm zs->n'<=m+2200->R (rowP oth) n')->Fq [.pot q,.tup [.int (s:Int),.int (r:Int)],rowP zs] m R:=λhm h=>Vl h1 h8 z1 z24 zr rfl hm h;have se:=λoth (p:oth.Perm zs)=>(⟨h1,h8,z1,z24,rfl,zr,p,rfl⟩:Se s zs.length ((zs.length+s-1)/s) zs oth);have rsh:=MP zr.2 z24;have wl:(zs.map PV.str).length=zs.length:=B0 ..;have mr:∀{m:Nat} {R:PV->Nat->Prop},R (.int (((zs.length+s-1)/s:Nat):Int)) m->u7 [.tup [.int (s:Int),.int (r:Int)],.int (zs.length:Int)] m R:=λq=>FX h1 z1 q h8;have lR:=λ{oth m R} (p:oth.Perm zs)=>@Vg q m zs oth R zr p z1 z24;have hW:rowP zs=.tup (zs.map PV.str):=rfl;mleft;subst hU;symm;generalize hZ:rowP zs=Z at *;right;refine mo 0x0 λoth n2 p hn2=>?_;have S:=se oth p;have mle:=S.mle;generalize (zs.length+s-1)/s=mx at *;have osh:=MP S.no.2 (by rw[S.ol];exact z24)
  have mt:∀{m:Nat} {R:PV->Nat->Prop},(∀v,ToldV r s zs.length mx zs oth v->R v m)->FF [.tup [.int (s:Int),.int (r:Int)],Z,rowP oth] m R:=λq=>by
   rw[<- hZ];exact m_told S (λok=>q _ (.inl ⟨ok,rfl⟩)) λi v hi ok hb=>q _ (.inr ⟨i,v,hi,ok,hb,rfl⟩)
  have ms:∀{T:PV} {m:Nat} {R:PV->Nat->Prop},okT 3 T=true->(∀c:Bool,(c=true↔Due r s zs.length mx zs oth T)->R (.bl c) m)->FK [.tup [.int (s:Int),.int (r:Int)],Z,rowP oth,T] m R:=λhT q=>by
   rw[<- hZ];exact Vc (d:=0) S hT q
  have md:∀{T:PV} {m:Nat} {R:PV->Nat->Prop},okT 3 T=true->(∀c:Bool,(c=true↔Due r s zs.length mx zs oth T)->R (.bl c) m)->FU [.tup [.int (s:Int),.int (r:Int)],Z,rowP oth,T] m R:=λhT q=>by
   rw[<- hZ];exact m_ldue (d:=0) S hT q
  have lR:=λ{m R}=>@lR oth m R p;have tO:=λ{v}=>@Vi s zs.length mx r zs oth v S;generalize rowP oth=O at *;subst hU;symm;right;refine mt λv hv=>lR 0x0 λL n3 L1 L2 hL hn3=>?_;obtain⟨v3,vS,v8,vw,vx,vys,ev,vu⟩:=tO hv;subst hU;symm;right;refine⟨⟨0x0,0x0,0x0⟩,λf f0 f1=>?_⟩;subst hU;symm;rw[hW];generalize zs.map PV.str=W at *;right;rw[wl];refine mr ?_;dsimp only
  have nm_:∀y∈PV.int (-1)::.non::.bl true::(C2 ((mx:Int)+1).toNat).map (λ(k:Nat)=>PV.int (k:Int)),okT 2 y=true/\Show 0 61 y:=λy hy=>by
   simp only[B5] at hy;rcases hy with rfl|rfl|rfl|hy
   ·exact⟨rfl,Dl 0b0⟩
   ·exact⟨rfl,trivial,B2 _,by show 4<=61;decide⟩
   ·exact⟨rfl,trivial,B2 _,by show 5<=61;decide⟩
   ·obtain⟨k,hk,rfl⟩:=D2.mp hy;have:=J9.mp hk;exact⟨rfl,Dl 0x0⟩
  have nl:(PV.int (-1)::.non::.bl true::(C2 ((mx:Int)+1).toNat).map (λ(k:Nat)=>PV.int (k:Int))).length=mx+4:=0o0
  refine⟨⟨0x0,0x0⟩,by rw[B0,U8];omega,?_⟩;generalize PV.int (-1)::.non::.bl true::(C2 ((mx:Int)+1).toNat).map (λ(k:Nat)=>PV.int (k:Int))=NM at *;obtain⟨fn,rfl⟩:=Aa f0;subst hU;symm;walk_at "pd";have ca:=Z6 L fn;have cb:=i8 L fn;rw[ca,cb];refine⟨rfl,by rw[J8,J7];omega,?_⟩;rw[show cutP (L.drop fn++L.take fn) none (some 26)=(L.drop fn++L.take fn).take 26 from i8 _ 26];have hX:∀y∈(L.drop fn++L.take fn).take 26,E2 y:=λy hy=>(D7.mp (U7 hy)).elim (λz=>hL y (Y4 z)) λz=>hL y (U7 z);have lX:((L.drop fn++L.take fn).take 26).length<=26:=by rw[J7];omega
  generalize (L.drop fn++L.take fn).take 26=X at *;have va:∃vs,v=.tup vs/\atI vs 0=some (.str vw)/\atI vs 1=some vx:=⟨_,ev,P2 (j:=0) rfl,P2 (j:=1) rfl⟩;obtain⟨vs,evs,va0,va1⟩:=va;clear ev;refine O3 (λj env m'=>∃TS s11,env=[some (.v (.scr ns)),some (.v (.pot q)),some (.v (.int (0+i))),some (.v (.tup [.int (s:Int),.int (r:Int)])),some (.v (.tup W)),some (.v O),some (.own TS),some (.v v),some (.v (.lst L)),some (.v (.int (fn:Int))),some (.v (.lst NM)),s11,s12,s13,s14]/\TS.length=2*j/\(∀y∈TS,TH y)/\m'=n3+1+j) _ 0 _ _ ⟨[],_,rfl,rfl,(λ_ z=>nomatch z),rfl⟩ (λj x env m' N' ex' hI hN'=>?_) (λenv m' hI=>?_)
  ·obtain⟨TS,t11,rfl,lT,hT,rfl⟩:=hI;have hx:=hX x (G4 ex');have jl:j<X.length:=(D3.mp ex').1;symm;right;refine⟨⟨_,rfl⟩,⟨0x0,0x0,0x0⟩,λc c0 c1=>?_⟩;obtain⟨u,hu,eu⟩:=V9 c0 c1;obtain⟨u2,uS⟩:=nm_ u hu;rw[eu];refine⟨0x0,?_⟩;have t1:=th_un u2 uS hx
   have fin:∀b,okT 2 b=true->Show 0 61 b->N' [some (.v (.scr ns)),some (.v (.pot q)),some (.v (.int (0+i))),some (.v (.tup [.int (s:Int),.int (r:Int)])),some (.v (.tup W)),some (.v O),some (.own (TS++[.tup [.str (A6 "untold"),u,x]]++[.tup [.str (A6 "untold"),b,x]])),some (.v v),some (.v (.lst L)),some (.v (.int (fn:Int))),some (.v (.lst NM)),some (.v x),s12,s13,s14] (n3+1+(0+j)+1):=λb b2 bS=>hN' _ _ ⟨_,_,rfl,by rw[C7,C7,lT];show _+1+1=_;omega,λy hy=>by
    rcases D7.mp hy with hy|hy
    ·rcases D7.mp hy with hy|hy
     ·exact hT y hy
     ·rw[E8.mp hy];exact t1
    ·rw[E8.mp hy];exact th_un b2 bS hx,0x0⟩
   have Tl:(TS++[PV.tup [.str (A6 "untold"),u,x]]).length=TS.length+1:=by rw[C7];rfl
   generalize TS++[PV.tup [.str (A6 "untold"),u,x]]=T1 at *;subst hU;right;refine⟨⟨_,rfl⟩,?_⟩;subst evs;dsimp only;rw[va0];dsimp only;refine X2 rfl ?_
   by_cases cw:vw=A6 "untold"
   ·refine if_t (by rw[M6];exact jq cw) ?_;rw[va1];exact⟨0x0,fin vx (vu cw).1 (vu cw).2⟩
   ·exact if_f (by rw[M6];exact jr cw) ⟨0x0,fin _ rfl (Dl 0b0)⟩
  ·obtain⟨TS,t11,rfl,lT,hT,rfl⟩:=hI;have tv:TH v:=⟨v3,vS.le 0b0 0b0⟩;have sp:∀{m:Nat} {R:PV->Nat->Prop},m<=998000000->(∀Y m',TH Y->m'<=m+32->R Y m')->Dr [.pot q,v] m R:=λhm k=>NY (by have:=vS.de;ext) v8 vS.sh (by have:=vS.co;ext) 0x0 λY m' sY hm'=>k Y m' ⟨sY.ok 3 v3,sY.sh,by have:=sY.de;have:=vS.de;omega,by have:=sY.co;have:=vS.co;ext⟩ 0x0;have T1:∀y∈TS++[v],TH y:=λy hy=>(D7.mp hy).elim (hT y) λz=>by rw[E8.mp z];exact tv
   have Vt:(TS++[v]).length<=53:=by rw[C7,Q5];ext
   subst hU;dsimp only;symm;right;refine⟨⟨_,rfl⟩,0x0,?_⟩;generalize TS++[v]=T1_ at *;subst hU;symm;right;refine⟨⟨_,rfl⟩,by rw[Au];decide,?_⟩;refine LF TH 32 990000000 _ _ _ _ (λy hy m Q hm hQ=>?_) (by rw[Au,show Ab 8=8 from rfl];omega) λys n4 yl hp hn4=>?_
   ·right;exact sp 0x0 λY m' hY hm'=>hQ _ _ hY hm'
   ·rw[Au,show Ab 8=8 from rfl] at yl hn4;have T2:∀y∈T1_++ys,TH y:=λy hy=>(D7.mp hy).elim (T1 y) (hp y);have N_:(T1_++ys).length<=61:=by rw[C7];omega
    refine⟨0x0,?_⟩;generalize T1_++ys=TT at *
    have tS:Show 9 5700000 (.tup [.tup [.int (s:Int),.int (r:Int)],.tup W,O,.lst TT]):=by
     have a:=(Tp (s:=s) (r:=r) 0x0 0x0);have c:=Show.lst (d:=7) (c:=90200) (l:=61) (λy hy=>(T2 y hy).2) N_;have b:=hW▸rsh;refine⟨⟨a.sh,b.sh,osh.sh,c.sh,trivial⟩,?_,?_⟩
     ·show max (dep (.tup [.int (s:Int),.int (r:Int)])) (max (dep (.tup W)) (max (dep O) (max (dep (.lst TT)) 0)))+1<=9;have:=a.de;have:=b.de;have:=osh.de;have:=c.de;ext
     ·show cost (.tup [.int (s:Int),.int (r:Int)])+2+(cost (.tup W)+2+(cost O+2+(cost (.lst TT)+2+0)))+3<=5700000;have:=a.co;have:=b.co;have:=osh.co;have:=c.co;ext
    subst hU;symm;right;refine LW tS.sh (by have:=tS.de;omega) (by have:=tS.co;omega) ?_;generalize hSH:HA (.tup [.tup [.int (s:Int),.int (r:Int)],.tup W,O,.lst TT])=SH at *;subst hU;symm;walk_at "pd";refine O3 (λj env m'=>∃s13 s14,env=[some (.v (.scr ns)),some (.v (.pot q)),some (.v (.int (0+i))),some (.v (.tup [.int (s:Int),.int (r:Int)])),some (.v (.tup W)),some (.v O),some (.v (.lst TT)),some (.v v),some (.v (.lst L)),some (.v (.int (fn:Int))),some (.v (.lst NM)),t11,some (.v (.str SH)),s13,s14]/\m'=n4) _ 0 _ _ ⟨_,_,rfl,rfl⟩ (λj x env m' N' ex' hI hN'=>?_) (λenv m' hI=>?_)
    ·obtain⟨u13,u14,rfl,rfl⟩:=hI;have hx:=(T2 x (G4 ex')).1;have nx:=λa b=>hN' _ m' ⟨a,b,rfl,rfl⟩;clear hN';dsimp only[gN,gAt,List.set];symm;rw[hW] at ms md;right;refine ms hx λc hc=>?_;subst hU;right;refine md hx λc' hc'=>?_;have e:c=c':=V0.mpr (hc.trans hc'.symm);subst e;exact if_f (by rw[Ho];simp) (nx _ _)
    ·obtain⟨u13,u14,rfl,rfl⟩:=hI;subst hU;dsimp only;right;refine LW tS.sh (by have:=tS.de;ext) (by have:=tS.co;ext) ?_;rw[hSH];exact if_f (by rw[p9,jq rfl];rfl) (hN _ _ ⟨_,_,_,_,_,_,_,_,_,_,_,_,_,rfl,0x0⟩)
 ·subst hV
  rfl
end Tb
end
section
namespace Tb
open PySem L2 Pu
section
variable {P:C3}{w:B9}{K:A8}{mg:Str->Option A3}{base:B3}
def Ob (h:SqL K H a xs)(s:Same H H'):SqL K H' a xs:=h.elim (λh=>.inl (Rd.keep h λo e=>s a o e)) .inr
def Vm (s:Same H H')(h:H' c=none):H c=none:=by
 cases e:H c with
 |none=>rfl
 |some o=>rw[s c o e] at h;cases h
def putK_new {jg:List (Key×V)}{k:Key}{v:V}(h:∀kv∈jg,¬kv.1=k):putK jg k v=jg++[(k,v)]:=by
 unfold putK;rw[ju];rw[Bool.not_eq_true,DJ];intro x hx;rw[decide_eq_true_iff];exact h x hx
def Vn:Av [] (dPot c a l s)=dPot c a l s:=by
 unfold Av dPot;simp only[W6,List.foldl_nil];have e1:putK ([]:List (Key×V)) (D1 (A6 "cells")) (V.ref c)=[(D1 (A6 "cells"),V.ref c)]:=putK_new (λ_ z=>nomatch z);have e2:putK [((D1 (A6 "cells"):Key),V.ref c)] (D1 (A6 "at")) (V.int a)=[(D1 (A6 "cells"),V.ref c),(D1 (A6 "at"),V.int a)]:=putK_new (λkv hkv=>by rw[E8.mp hkv];exact i3 0b0)
 have e3:putK [((D1 (A6 "cells"):Key),V.ref c),(D1 (A6 "at"),V.int a)] (D1 (A6 "left")) (V.int l)=[(D1 (A6 "cells"),V.ref c),(D1 (A6 "at"),V.int a),(D1 (A6 "left"),V.int l)]:=putK_new (λkv hkv=>by
  simp only[B5,F6,or_false] at hkv
  rcases hkv with rfl|rfl <;> exact i3 0b0)
 have e4:putK [((D1 (A6 "cells"):Key),V.ref c),(D1 (A6 "at"),V.int a),(D1 (A6 "left"),V.int l)] (D1 (A6 "seed")) (V.int s)=[(D1 (A6 "cells"),V.ref c),(D1 (A6 "at"),V.int a),(D1 (A6 "left"),V.int l),(D1 (A6 "seed"),V.int s)]:=putK_new (λkv hkv=>by
  simp only[B5,F6,or_false] at hkv
  rcases hkv with rfl|rfl|rfl <;> exact i3 0b0)
 rw[e1,e2,e3,e4]
def Vo (F:Fn0 K mg "_law_begin" (top 36))(m_len:mg "len"=none)(m_list:mg "list"=none):Kn P w K mg base "_law_begin" 1 ["_law_script"] (Pu.EZ K):=by
 have sc:Z0 ["_law_script"] ["_law_script"] (G6 (top 36)):=⟨rfl,rfl,rfl,by decide +kernel,rfl,by decide +kernel,by decide +kernel⟩;refine F.ok sc (λvs H Q E h=>?_) (λ_ _ _ _ _ _=>bd1 λ_=>rfl) (λf jo A outer s H vs Q E hr h=>?_)
 ·obtain⟨a,ns,rfl,_⟩:=h
  rfl
 obtain⟨a,ns,rfl,hS,hl63,q⟩:=h;refine⟨_,Cv (Cw (QK (EE K9 (Bq Kz rfl m_list GT (E3 (Eg Eh (pv 0) GH (GI L5)) G0)) (EE K9 L5 (EE K9 L5 (EE K9 (L7 Bo L5 (g9 GO rfl m_len Ei (E3 (Eg Eh (pv 0) GH (GI L5)) G0))) QJ)))) rfl rfl 0o0 0o0)),?_⟩
 have cut:cutV (ns.map V.int) none (some 63)=ns.map V.int:=by
  unfold cutV;rw[HT.sIx_none,show(some (63:Int))=some ((63:Nat):Int) from rfl,HT.sIx_nat,y3,B0,Ce hl63];exact b8 (by rw[B0];ext)
 intro p hp;have sm0:Same H (upd H p (.dK [])):=Same.lay1 hp;refine⟨_,rfl,63,rfl,a,_,rfl,Ob hS sm0,λp0 hp0=>?_⟩;have sm1:=sm0.trans (Same.lay1 (o:=.lst (cutV (ns.map V.int) none (some 63))) hp0);have at1:upd (upd H p (.dK [])) p0 (.lst (cutV (ns.map V.int) none (some 63))) p=some (.dK []):=Same.lay1 hp0 p _ D9;refine⟨p0,_,rfl,.inl (SqL.of D9),λc hc=>?_⟩;have sm2:=sm1.trans (Same.lay1 (o:=.lst (cutV (ns.map V.int) none (some 63))) hc);have at2:=Same.lay1 (o:=.lst (cutV (ns.map V.int) none (some 63))) hc p _ at1;have cn:=Vm sm1 hc;refine⟨_,rfl,63,rfl,a,_,rfl,Ob hS sm2,λp1 hp1=>?_⟩;have sm3:=sm2.trans (Same.lay1 (o:=.lst (cutV (ns.map V.int) none (some 63))) hp1);have at3:=Same.lay1 (o:=.lst (cutV (ns.map V.int) none (some 63))) hp1 p _ at2;have ct3:=Same.lay1 (o:=.lst (cutV (ns.map V.int) none (some 63))) hp1 c _ D9;refine⟨p1,_,rfl,.inl (SqL.of D9),_,_,rfl,rfl,at3,dPot c 0 0 (1000003+((cutV (ns.map V.int) none (some 63)).length:Nat)),rfl,by show 4<=15;decide,?_⟩;rw[Vn];have ncp:c≠p:=λz=>by rw[z] at hc;rw[at1] at hc;cases hc
 refine q _ p c ns 0 0 _ (λb o e=>?_) hp cn D9 (by rw[C8 ncp];rw[ct3,cut]) ⟨hl63,0x0,0x0,0x0,?_⟩
 ·have nbp:b≠p:=λz=>by rw[z,hp] at e;cases e
  rw[C8 nbp];exact sm3 b o e
 ·rw[cut,B0];ext
def upd_id (h:H p=some o):upd H p o=H:=by
 funext b
 by_cases e:b=p
 ·rw[e,D9,h]
 ·rw[C8 e]
def Oc (h:H p=some (.dK (dPot c a l s))):DGet H p (.str (A6 "cells")) (some (.ref c)):=SF (a:=a) (l:=l) (s:=s)▸DGet.k (k:=D1 (A6 "cells")) h
def dgAt (h:H p=some (.dK (dPot c a l s))):DGet H p (.str (A6 "at")) (some (.int a)):=SI (c:=c) (l:=l) (s:=s)▸DGet.k (k:=D1 (A6 "at")) h
def Gc (h:H p=some (.dK (dPot c a l s))):DGet H p (.str (A6 "left")) (some (.int l)):=SJ (c:=c) (a:=a) (s:=s)▸DGet.k (k:=D1 (A6 "left")) h
def Gd (h:H p=some (.dK (dPot c a l s))):DGet H p (.str (A6 "seed")) (some (.int s)):=SK (c:=c) (a:=a) (l:=l)▸DGet.k (k:=D1 (A6 "seed")) h
def JT:(dPot c a l s).length<B4:=by show 4<B4;decide
def dpAt (h:H p=some (.dK (dPot c a l s))):DPut H p (.str (A6 "at")) (.int x) (upd H p (.dK (dPot c x l s))):=SN (c:=c) (a:=a) (l:=l) (s:=s)▸DPut.k (k:=D1 (A6 "at")) h JT
def Od (h:H p=some (.dK (dPot c a l s))):DPut H p (.str (A6 "left")) (.int x) (upd H p (.dK (dPot c a x s))):=SO (c:=c) (a:=a) (l:=l) (s:=s)▸DPut.k (k:=D1 (A6 "left")) h JT
def Oe (h:H p=some (.dK (dPot c a l s))):DPut H p (.str (A6 "seed")) (.int x) (upd H p (.dK (dPot c a l x))):=SQ (c:=c) (a:=a) (l:=l) (s:=s)▸DPut.k (k:=D1 (A6 "seed")) h JT
def Vp (F:Fn0 K mg "_law_next" (top 37))(m_len:mg "len"=none)(m_int:mg "int"=none):Kn P w K mg base "_law_next" 1 ["_law_draws","_law_many"] (Bu K potD At):=by
 refine SS ?_;have sc:Z0 ["_law_draws","_law_many","_law_cell","_law_digit"] ["_law_draws","_law_many"] (G6 (top 37)):=⟨rfl,rfl,rfl,by decide +kernel,rfl,by decide +kernel,by decide +kernel⟩;refine F.ok sc (λvs H Q E h=>?_) (λ_ _ _ _ _ _=>bd2 λ_ _=>rfl) (λf jo A outer s H vs Q E hr h=>?_)
 ·obtain⟨p,c,cells,a,l,s,many,rfl,_⟩:=h
  rfl
 obtain⟨p,c,cells,a,l,sd,many,rfl,hp,hc,⟨c63,a0,l0,s0,s1⟩,n0,n1,q⟩:=h;have hu:=hu_of hr
 refine⟨_,(e9 (GA (PW.pt (Ke (CA op_eq (T7 hu (pv 0) K9 (λ_ _=>rfl)) L5 (Y9 _)) (Kd (CA op_lt (T7 hu (pv 0) K9 (λ_ _=>rfl)) (g9 GO rfl m_len Ei (E3 (T7 hu (pv 0) K9 (λ_ _=>rfl)) G0)) (Y9 _)))))
       (e9 (GB (i:=2) sc.nd rfl (Or.inl rfl) (GN Kw (T7 hu (pv 0) K9 (λ_ _=>rfl)) (T7 hu (pv 0) K9 (λ_ _=>rfl)) (λ_ _=>rfl)))
       (e9 (CV hu (pv 0) K9 (L7 Bo (T7 hu (pv 0) K9 (λ_ _=>rfl)) L5) rfl)
       (e9 (CV hu (pv 0) K9 (L7 Ah (L7 Bo (L7 Bo (L7 Cz (T7 hu (pv 0) K9 (λ_ _=>rfl)) L5) (L7 Ah (pv 2) (L7 Kf L5 L5))) L5) L5) rfl)
       (Cv (CV hu (pv 0) K9 (L7 Cz (pv 2) (Bq Kk rfl m_int GS (E3 (Kh op_ge (pv 2) (L7 Kf L5 L5) (Y9 _)) G0))) rfl))))) Gy)
     (e9 (GA (CA op_gt (T7 hu (pv 0) K9 (λ_ _=>rfl)) L5 (Y9 _))
       (e9 (GB (i:=3) sc.nd rfl (Or.inl rfl) (L7 Ah (T7 hu (pv 0) K9 (λ_ _=>rfl)) (pv 1)))
       (e9 (CV hu (pv 0) K9 (L7 GD (T7 hu (pv 0) K9 (λ_ _=>rfl)) (pv 1)) rfl)
       (Cv (Cw (pv 3))))) Gy)
     (e9 (CV hu (pv 0) K9 (L7 Ah (L7 Bo (L7 Cz (T7 hu (pv 0) K9 (λ_ _=>rfl)) L5) L5) L5) rfl)
     (Cv (Cw (L7 Ah (L7 GD (L7 Ah (L7 Cz (T7 hu (pv 0) K9 (λ_ _=>rfl)) (T7 hu (pv 0) K9 (λ_ _=>rfl))) L5) L5) (pv 1))))))),?_⟩
 have sl:(dPot c a l sd).length<B4:=by show 4<B4;decide
 have cp:c≠p:=λz=>by rw[z,hp] at hc;cases hc
 refine PF (λσ' H'=>∃a' l' s' s2,σ'=[some (.ref p),some (.int many),s2,none]/\Dg cells a' l' s'/\H'=upd H p (.dK (dPot c a' l' s'))) (λkey=>?_) ?_
 ·have stay:=key _ _ ⟨a,l,sd,none,rfl,⟨c63,a0,l0,s0,s1⟩,(upd_id hp).symm⟩;refine⟨_,rfl,p,_,rfl,Gc hp,rfl,_,rfl,?_⟩;refine ite2 (λc1=>?_) (λc1=>stay);refine⟨_,rfl,p,_,rfl,dgAt hp,_,rfl,p,_,rfl,Oc hp,c,_,rfl,.inl (SqL.of hc),_,_,rfl,rfl,_,rfl,?_⟩;refine ite2 (λc2=>?_) (λc2=>stay);have c2':a<(((cells.map V.int).length:Nat):Int):=jv c2;rw[B0] at c2';obtain⟨v,qa⟩:=at_map (ns:=cells) a0 c2';refine⟨_,rfl,p,_,rfl,Oc hp,_,rfl,p,_,rfl,dgAt hp,c,_,_,_,rfl,rfl,SqL.of hc,qa,?_⟩;refine⟨_,rfl,p,_,rfl,dgAt hp,_,_,rfl,rfl,_,rfl,p,_,rfl,dpAt hp,?_⟩;refine⟨_,rfl,p,_,rfl,Gd D9,_,_,rfl,rfl,.inl ⟨0x0,0x0⟩,_,rfl,_,_,rfl,rfl,⟨0b0,0b0,0b0⟩,_,_,rfl,rfl,(by show(0:Int)<10 ^ Ab 30;decide +kernel),_,_,rfl,rfl,_,_,rfl,rfl,_,_,rfl,rfl,(by show(0:Int)<2305843009213693951;decide),_,rfl,p,_,rfl,Oe D9,?_⟩;rw[Ec];refine⟨_,rfl,_,rfl,_,_,rfl,rfl,⟨0b0,0b0,0b0⟩,_,_,rfl,rfl,?_⟩;refine .inr ⟨_,rfl,?_⟩
  have hz:0<=v*(if decide ((10:Int) ^ Ab 18<=v)=true then(1:Int) else 0):=by
   by_cases hb:(10:Int) ^ Ab 18<=v
   ·rw[jt (jq hb),Int.mul_one];exact Int.le_trans (by decide +kernel) hb
   ·rw[ju (by simpa using hb),Int.mul_zero];exact Int.le_refl _
  have hz2:(0:Int)<=(if decide ((10:Int) ^ Ab 18<=v)=true then(1:Int) else 0)/\(if decide ((10:Int) ^ Ab 18<=v)=true then(1:Int) else 0)<2 ^ 64:=by split <;> decide
  refine⟨_,_,rfl,rfl,.inr ⟨by have:=hz2.1;omega,hz2.2⟩,_,rfl,p,_,rfl,Od D9,?_⟩;rw[Ec];exact key _ _ ⟨_,_,_,_,rfl,⟨c63,0x0,hz,Ba _ 0b0,Int.lt_of_lt_of_le (A_ _ 0b0) 0b0⟩,rfl⟩
 rintro σ' H' ⟨a',l',s',s2,rfl,⟨_,a0',l0',s0',s1'⟩,rfl⟩;refine⟨_,rfl,p,_,rfl,Gc D9,_,_,rfl,rfl,_,rfl,?_⟩;refine ite2 (λc1=>?_) (λc1=>?_)
 ·refine⟨_,rfl,p,_,rfl,Gc D9,_,rfl,_,_,rfl,rfl,n0,?_⟩;refine⟨_,rfl,p,_,rfl,Gc D9,_,rfl,_,_,rfl,rfl,⟨n0,0x0⟩,_,rfl,p,_,rfl,Od D9,?_⟩;rw[Ec];refine⟨_,rfl,?_⟩;exact q _ _ _ _ (Ba _ 0x0) (A_ _ n0) ⟨c63,a0',Int.ediv_nonneg l0' 0x0,s0',s1'⟩
 ·refine⟨_,rfl,p,_,rfl,Gd D9,_,_,rfl,rfl,.inl ⟨0x0,0x0⟩,_,_,rfl,rfl,_,_,rfl,rfl,(by show(0:Int)<2305843009213693951;decide),_,rfl,p,_,rfl,Oe D9,?_⟩;rw[Ec];have m0:=Ba (s'*1181783497276652981+12345678910987) (show(2305843009213693951:Int)≠0 by decide);have m1:=A_ (s'*1181783497276652981+12345678910987) (show(0:Int)<2305843009213693951 by decide);generalize (s'*1181783497276652981+12345678910987)%2305843009213693951=z at m0 m1 ⊢;refine⟨_,rfl,p,_,rfl,Gd D9,_,rfl,p,_,rfl,Gd D9,_,_,rfl,rfl,.inl ⟨0x0,0x0⟩,_,_,rfl,rfl,(by show(0:Int)<2305843009213693921;decide),_,_,rfl,rfl,⟨0b0,0b0⟩,_,rfl,_,_,rfl,rfl,n0,?_⟩;exact q _ _ _ _ (Ba _ 0x0) (A_ _ n0) ⟨c63,a0',l0',m0,0x0⟩
end
end Tb
end
section
namespace Pu
open PySem PySem.Spec L2
section
variable {T:PotK}{ι:Type}{K:A8}{F:ι->Cx}{e:Expr}{es:List Expr}{st:Stmt}{pe:pE}{pl:pA}{pos:Pos}{np:Bool}{x:Str}
def qv (i:Nat)(h:∀z,EW (F z) (.Name x pos) (tVar i):=by exact λ_=>vw _):QE T K F (.Name x pos) (qV i):=qe_var i h
def qf {p:Pos}{f:pF}{ps:List Str}{k j:Nat}{P:C3}{w:B9}{K0:A8}{mg:Str->Option A3}{base:B3}{A:D0}(hG:Kn P w K0 mg base x k ps (Bu K T f))(hr:Room j A)(ha:QA T K F (e::es) pl)(hF:∀z,(F z).prog=P/\(F z).w=w/\(F z).K=K0/\(F z).mg=mg/\(F z).base=base/\(F z).A=A)(hk:k<=j)(hg:∀z,Gl (F z) x)(hdb:(x == ("__debug__":Str))=false)(hs:D8 e=true)(hpl:∀z,(backTo pos (D6 es (F z).env)).any (·.1)=false):QE T K F (.Call (.Name x p) (e::es) [] pos) (B1 f pl):=Bv (λz=>by obtain⟨h1,h2,h3,h4,h5,_⟩:=hF z;rw[h1,h2,h3,h4,h5];exact hG) (λz=>by rw[(hF z).2.2.2.2.2];exact hr) hk hg ha hdb hs hpl
def gn (i:Nat){N:List Str}(hN:N.Nodup)(hNF:∀z,(F z).N=N)(hi:∀z,(F z).N[i]?=some x)(hx:∀z,Loc (F z).env.scope x)(hf:∀z,(F z).fn x=true\/(F z).env.scope.names.lookup x=some .local):QG K F (.Name x pos) (gN i):=Qd λz=>Bw i (hNF z▸hN) (hi z) (hx z) (hf z)
def sws (i:Nat){pos':Pos}{N:List Str}(hN:N.Nodup)(hNF:∀z,(F z).N=N:=by exact λ_=>rfl)(hi:∀z,(F z).N[i]?=some x:=by intro _;rfl)(hx:∀z,Loc (F z).env.scope x:=by intro _;first|exact Or.inl rfl|exact Or.inr rfl)(hs:∀z,X9 e (some (.Name x pos')) pos.line (F z).env=pure false:=by intro _;rfl)(hf:∀z,(F z).fn x=true\/(F z).env.scope.names.lookup x=some .local:=by intro _;first|exact .inl rfl|exact .inr rfl|assumption)(z:ι)(te:TE)(h:EW (F z) e te):SW (F z) (.Assign [.Name x pos'] e pos) (tAsg te (L6 i)):=sw_set (hNF z▸hN) (hi z) (hx z) (hs z) (hf z) te h
end
noncomputable def tgN:Expr->List Str
 |.Name x _=>[x]
 |.Tuple es _ _=>es.flatMap λe=>match e with|.Name x _=>[x]|_=>[]
 |_=>[]
noncomputable def capN:List (Option Nat)->List Str->List Str->List Str
 |none::cs,o::os,N=>o::capN cs os N
 |some j::cs,os,N=>N.getD j Str.empty::capN cs os N
 |_,_,_=>[]
section
variable {T:PotK}{ι:Type}{K:A8}{F:ι->Cx}{pg pg1 pg2:pG}{pos:Pos}{N0:List Str}{scope:J1}{cl:ι->List (Str×A1)}{cs:List (Option Nat)}{ji tg iter t1 i1 t2 i2:Expr}{jk:List Expr}{pi pi1 pi2:pA}{ptt:pT}{pte:pE}
abbrev FC (F:ι->Cx)(scope:J1)(cl:ι->List (Str×A1))(N:List Str)(y:ι×List A1×A1×A4×Hp):Cx:=F2 (F y.1) scope (cl y.1) N y.2.1 y.2.2.1 y.2.2.2.1 y.2.2.2.2
def Vq (nd:N0.Nodup)(hi:QI T K F tg iter pi)
   (hg:(capN cs (tgN tg) N0).Nodup->QG K (FC F scope cl (capN cs (tgN tg) N0)) tg pg) (ht:(capN cs (tgN tg) N0).Nodup->QIf T K (FC F scope cl (capN cs (tgN tg) N0)) jk ptt) (he:(capN cs (tgN tg) N0).Nodup->QE T K (FC F scope cl (capN cs (tgN tg) N0)) ji pte)
   (e0:∀z,(F z).N=N0) (S:∀z,V5 (F z) scope (cl z) (capN cs (tgN tg) N0) cs) (h:(capN cs (tgN tg) N0).Nodup) (hc:∀z,(F z).calm=true) (hs:∀z x,N8 iter (F z).env x=pure x):QN T K F (.ListComp ji [⟨tg,iter,jk,0⟩] scope pos) (J6 cs pi pg ptt pte):=Qp S hc hi (hg h) (ht h) (he h) hs
def Vr (nd:N0.Nodup)(hi:QI T K F tg iter pi)
   (hg:(capN cs (tgN tg) N0).Nodup->QG K (FC F scope cl (capN cs (tgN tg) N0)) tg pg) (ht:(capN cs (tgN tg) N0).Nodup->QIf T K (FC F scope cl (capN cs (tgN tg) N0)) jk ptt) (he:(capN cs (tgN tg) N0).Nodup->QE T K (FC F scope cl (capN cs (tgN tg) N0)) ji pte)
   (e0:∀z,(F z).N=N0) (S:∀z,V5 (F z) scope (cl z) (capN cs (tgN tg) N0) cs) (h:(capN cs (tgN tg) N0).Nodup) (hc:∀z,(F z).calm=true) (hs:∀z x,N8 iter (F z).env x=pure x):QNC T K F (.ListComp ji [⟨tg,iter,jk,0⟩] scope pos) (J6 cs pi pg ptt pte):=Ri S hc hi (hg h) (ht h) (he h) hs
def Vs (nd:N0.Nodup)(hi:QI T K F t1 i1 pi1)
   (hg:(capN cs (tgN t1++tgN t2) N0).Nodup->QG K (FC F scope cl (capN cs (tgN t1++tgN t2) N0)) t1 pg1) (hi2:(capN cs (tgN t1++tgN t2) N0).Nodup->QI T K (FC F scope cl (capN cs (tgN t1++tgN t2) N0)) t2 i2 pi2) (hg2:(capN cs (tgN t1++tgN t2) N0).Nodup->QG K (FC F scope cl (capN cs (tgN t1++tgN t2) N0)) t2 pg2) (ht:(capN cs (tgN t1++tgN t2) N0).Nodup->QIf T K (FC F scope cl (capN cs (tgN t1++tgN t2) N0)) jk ptt) (he:(capN cs (tgN t1++tgN t2) N0).Nodup->QE T K (FC F scope cl (capN cs (tgN t1++tgN t2) N0)) ji pte)
   (e0:∀z,(F z).N=N0) (S:∀z,V5 (F z) scope (cl z) (capN cs (tgN t1++tgN t2) N0) cs) (h:(capN cs (tgN t1++tgN t2) N0).Nodup) (hc:∀z,(F z).calm=true) (hs:∀z x,N8 i1 (F z).env x=pure x) (hs2:∀z fp C s H x,N8 i2 (F2 (F z) scope (cl z) (capN cs (tgN t1++tgN t2) N0) fp C s H).env x=pure x):QN T K F (LC2 ji t1 i1 t2 i2 jk scope pos) (BK cs pi1 pg1 pi2 pg2 ptt pte):=SA S hc hi (hg h) (hi2 h) (hg2 h) (ht h) (he h) hs hs2
end
end Pu
end
section
namespace Tb
open PySem L2 Pu
structure HY (P:C3)(w:B9)(K:A8)(mg:Str->Option A3)(base:B3):Prop where
 f0:Fn0 K mg "_law_begin" (top 36)
 f1:Fn0 K mg "_law_next" (top 37)
 f2:Fn0 K mg "_law_names" (top 38)
 f3:Fn0 K mg "_law_meet" (top 45)
 f4:Fn0 K mg "_law_span" (top 39)
 f5:Fn0 K mg "_law_sheet" (top 42)
 f6:Fn0 K mg "_law_races" (top 40)
 f7:Fn0 K mg "_law_word" (top 41)
 f8:Fn0 K mg "_law_after" (top 43)
 f9:Fn0 K mg "_law_day" (top 44)
 f10:Fn0 K mg "_law_other" (top 52)
 f11:Fn0 K mg "span" (top 5)
 f12:Fn0 K mg "start_on" (top 17)
 f13:Fn0 K mg "from_reasons" (top 21)
 f14:Fn0 K mg "goal_of" (top 22)
 f15:Fn0 K mg "goes_round" (top 23)
 f16:Fn0 K mg "round_reasons" (top 24)
 f17:Fn0 K mg "between" (top 12)
 f18:Fn0 K mg "is_far" (top 13)
 f19:Fn0 K mg "boats_of" (top 10)
 f20:Fn0 K mg "is_cross" (top 14)
 f21:Fn0 K mg "touch_reasons" (top 26)
 f22:Fn0 K mg "sheet_of" (top 9)
 f23:Fn0 K mg "touches_to" (top 25)
 f24:Fn0 K mg "reasons_at" (top 27)
 f25:Fn0 K mg "put_on" (top 18)
 f26:Fn0 K mg "touches_of" (top 11)
 f27:Fn0 K mg "exchanged" (top 6)
 f28:Fn0 K mg "row_behind" (top 15)
 f29:Fn0 K mg "raced" (top 19)
 f30:Fn0 K mg "races_of" (top 4)
 f31:Fn0 K mg "race_told" (top 28)
 f32:Fn0 K mg "told_upward" (top 29)
 f33:Fn0 K mg "told_by" (top 30)
 f34:Fn0 K mg "_law_reasons" (top 57)
 f35:Fn0 K mg "is_whole" (top 2)
 f36:Fn0 K mg "is_boat" (top 3)
 f37:Fn0 K mg "is_touch" (top 8)
 f38:Fn0 K mg "has_reason_form" (top 32)
 f39:Fn0 K mg "has_untold_form" (top 33)
 f40:Fn0 K mg "shows_untold" (top 34)
 f41:Fn0 K mg "_law_spoilt" (top 58)
 f42:Fn0 K mg "_law_stand" (top 48)
 f43:Fn0 K mg "_law_pairs" (top 46)
 f44:Fn0 K mg "_law_is_crossed" (top 47)
 f45:Fn0 K mg "_law_no_cross" (top 51)
 f46:Fn0 K mg "_law_can_be" (top 50)
 f47:Fn0 K mg "_law_goal" (top 49)
 f48:Fn0 K mg "_law_at" (top 53)
 f49:Fn0 K mg "_law_pair" (top 54)
 f50:Fn0 K mg "_law_is_so" (top 55)
 f51:Fn0 K mg "_law_due" (top 56)
 f52:Fn0 K mg "law" (top 59)
 m0:mg "all"=none
 m1:mg "any"=none
 m2:mg "bool"=none
 m3:mg "enumerate"=none
 m4:mg "int"=none
 m5:mg "isinstance"=none
 m6:mg "len"=none
 m7:mg "list"=none
 m8:mg "max"=none
 m9:mg "min"=none
 m10:mg "range"=none
 m11:mg "repr"=none
 m12:mg "reversed"=none
 m13:mg "set"=none
 m14:mg "sorted"=none
 m15:mg "str"=none
 m16:mg "tuple"=none
 m17:mg "zip"=none
 c0:Num0 mg "MOST_LETTERS" 8
section
variable {P:C3}{w:B9}{K:A8}{mg:Str->Option A3}{base:B3}(y:HY P w K mg base)
include y
abbrev KK (_:HY P w K mg base)(x:Str)(k:Nat)(ps:List Str)(b:pF):Prop:=Kn P w K mg base x k ps (Bu K potD b)
theorem kA {x:Str}{st:Stmt}{N ps:List Str}{k:Nat}{body:pS}(F0:Fn0 K mg x st)(h:∀{f:A1} {jo:A3} {A:D0} {outer:List PySem.Env} {s:A4} {H:Hp} {E:XK},N.Nodup->Room k (A.deeper (Gp x (G6 st) s.heap.objs.size f jo))->QSs potD false K (λ_:Unit=>(cxOf CX0 P w K mg base N x (G6 st) f jo A outer s H E).nox) (P8 st) body)(sc:Z0 N ps (G6 st):=by exact⟨rfl,rfl,rfl,by decide +kernel,rfl,by decide +kernel,by decide +kernel⟩)(bd:∀(kV doc pm:A3) (an:Option A1) (jo ct:A3) (us:List A3),us.length=ps.length->bindArgs (U4 x x (Z1 st) (P8 st) (G6 st) .none kV doc pm an jo ct) ⟨us,[]⟩=pure (ps.zip us):=by intro _ _ _ _ _ _;first|exact bd1 λ_=>rfl|exact bd2 λ_ _=>rfl|exact bd3 λ_ _ _=>rfl|exact bd4 λ_ _ _ _=>rfl|exact bd5 λ_ _ _ _ _=>rfl):KK y x (k+1) ps (fnP N ps body):=fn_ok F0 sc bd λ_ _ _ _ _ _ _ hr=>h sc.nd hr
local macro_rules | `(tactic| walk_at "s")=>`(tactic| exact fun _=>Po rfl rfl rfl rfl (by first | exact trivial | exact⟨rfl,trivial⟩ | exact⟨rfl,rfl,trivial⟩ | exact⟨rfl,rfl,rfl,trivial⟩ | exact⟨rfl,rfl,rfl,rfl,trivial⟩ | exact⟨rfl,rfl,rfl,rfl,rfl,trivial⟩ | exact⟨rfl,rfl,rfl,rfl,rfl,rfl,trivial⟩) rfl rfl rfl)
set_option hygiene false in
local macro_rules | `(tactic| walk_at "d")=>`(tactic| (first | exact rfl | (show Kn _ _ _ _ _ _ _ _ _;first | exact k_1 y | exact k_2 y | exact k_3 y | exact k_4 y | exact k_5 y | exact k_6 y | exact k_7 y | exact k_8 y | exact k_9 y | exact k_10 y | exact k_11 y | exact k_12 y | exact k_13 y | exact k_14 y | exact k_15 y | exact k_16 y | exact k_17 y | exact k_18 y | exact k_19 y | exact k_20 y | exact k_21 y | exact k_22 y | exact k_23 y | exact k_24 y | exact k_25 y | exact k_26 y | exact k_27 y | exact k_28 y | exact k_29 y | exact k_30 y | exact k_31 y | exact k_32 y | exact k_33 y | exact k_34 y | exact k_35 y | exact k_36 y | exact k_37 y | exact k_38 y | exact k_39 y | exact k_40 y | exact k_41 y | exact k_42 y | exact k_43 y | exact k_44 y | exact k_45 y | exact k_46 y | exact k_47 y | exact k_48 y | exact k_49 y | exact k_50 y | exact k_51 y) | (with_reducible assumption) | (intro _;first | exact rfl | exact vw _ | exact hr | exact y.m6 | exact Ls | exact Qq | exact y.m5 | exact y.m16 | exact y.m10 | exact tyw rfl y.m15 bt_str | exact Hi (i:=_) (j:=_) rfl (by assumption) rfl rfl (by decide) rfl rfl rfl | exact tyw rfl y.m16 GU | exact Hk (vw _) | exact y.m7 | exact y.m9 | exact y.m14 | exact(by assumption) | exact y.m3 | exact y.m12 | exact tyw rfl y.m2 Pz | exact y.m0 | exact y.m17 | exact y.m13 | exact tyw rfl y.m4 GS | exact y.m1 | exact y.m11 | exact gw_two K _ _ rfl (Bw _ (by assumption) rfl (Or.inl rfl)) (Bw _ (by assumption) rfl (Or.inl rfl)) | exact sw_aug (i:=_) (by assumption) rfl (Or.inl rfl) Re | exact y.m8 | exact y.c0 | exact k_0 y | exact y.m4 | exact gw_tup K rfl (HR (Bw _ (by assumption) rfl (Or.inl rfl)) (HR (Bw _ (by assumption) rfl (Or.inr rfl)) (HR (Bw _ (by assumption) rfl (Or.inl rfl)) pgs_n))) | exact⟨rfl,rfl,rfl,rfl,rfl,rfl⟩ | exact PassesOwn.never | exact fun _=>rfl | exact Or.inl rfl | exact Or.inr rfl | exact fun _ _ _ _ _=>rfl | walk_at "r") | exact Y9 _ | exact sws _ (by assumption) | walk_at "r" | exact cNe _ fun _=>hr | exact cEq _ fun _=>hr | exact cLe | exact cLt | exact cNotIn _ fun _=>hr | exact cIn _ fun _=>hr | exact cGt | exact cIsNot | exact fun _ _ _ h1 h2=>SV K rfl (Hk (vw _) (by intro _;rfl) _ h1) (Hk (vw _) (by intro _;rfl) _ h2) | exact cIs | decide | decide +kernel | walk_at "s") <;> walk_at "d")
local macro_rules | `(tactic| walk_at "r")=>`(tactic| first | (with_reducible first | apply qv | apply G7 | apply Q8 | apply T5 | apply Ar | apply qf | apply Ex | apply gn | apply By | apply CJ | apply Bt | apply QN.ee | apply Qg | ((apply Lu;with_unfolding_all exact sws _ (by assumption))) | apply CQ | apply Am | apply G_ | apply CO | apply o8 | apply Ao | apply Lk | apply Ap | apply Qe | apply GZ | apply qe_bl | apply Qr | apply qr_own | apply qg_tup | apply Lf | apply An | apply qe_cmp | apply Ln | apply qs_for | apply qi_tup | apply Le | apply So | apply Vq | apply qs_asg | apply Qb | apply Qo | apply qe_sub | apply qe_and | apply KU | apply Qj | apply ql_o | apply Qn | apply qe_one | ((apply qs_own;with_unfolding_all exact sws _ (by assumption))) | apply ql_v | apply Ql | ((apply Ly;with_unfolding_all exact fun _=>Hi (i:=_) (j:=_) rfl (by assumption) rfl rfl (by decide) rfl rfl rfl)) | apply qw_and | apply qs_put | apply qe_if | apply PZ | apply qe_min | apply PU | apply Qs | apply Lm | apply Vr | apply Qx | apply qn_cat | apply RK | apply PX | apply PY | apply qe_mul | apply Sc | apply qe_ixR | apply LD | apply Sk | apply Vs | apply Qy | apply Rk | apply qe_all | apply Sr | apply qi_zip | apply PQ | apply Qt | apply SX | apply qe_rev | apply qe_any | apply QP | ((apply QB;with_unfolding_all exact fun _=>Ls)) | apply qe_mod | apply qg_lst | apply Ut | apply Rj | apply Rf | apply Up | apply qe_orT | apply qe_max | apply qe_slR | apply qe_num | apply qi_str | apply qe_or | apply SU | apply Qa | apply Ss | apply Sq | apply Uv | apply Lc | apply QE.r | apply QW.qt | apply Bx) | (with_unfolding_all apply Qu) | (with_unfolding_all apply qe_pop) | (with_unfolding_all apply SE) | (with_unfolding_all apply Qw) | (with_unfolding_all apply QZ))
local macro_rules | `(tactic| walk_at "k")=>`(tactic| (show QSs _ _ _ _ (_::_) _;walk_at "d"))
theorem k_0:Kn P w K mg base "_law_begin" 1 ["_law_script"] (EZ K):=Vo (P:=P) (w:=w) (base:=base) y.f0 y.m6 y.m7
theorem k_1:KK y "_law_next" 1 ["_law_draws","_law_many"] At:=Vp (P:=P) (w:=w) (base:=base) y.f1 y.m6 y.m4
theorem k_2:KK y "_law_names" 2 ["_law_draws","_law_many"] Iu:=kA y y.f2 λ_ hr=>by delta Ir;walk_at "k"
theorem k_3:KK y "_law_meet" 3 ["_law_draws","_law_most"] Iw:=kA y y.f3 λ_ hr=>by delta Iv;walk_at "k"
theorem k_4:KK y "_law_span" 1 ["_law_meeting","_law_n","_law_k"] Dp:=kA y y.f4 λ_ hr=>by delta Ix;walk_at "k"
theorem k_5:KK y "_law_sheet" 1 ["_law_start","_law_marks"] Iz:=kA y y.f5 λ_ hr=>by delta Iy;walk_at "k"
theorem k_6:KK y "_law_races" 1 ["_law_meeting","_law_n"] u7:=kA y y.f6 λ_ hr=>by delta IA;walk_at "k"
theorem k_7:KK y "_law_word" 2 ["_law_draws","_law_many","_law_reach"] IC:=kA y y.f7 λ_ hr=>by delta IB;walk_at "k"
theorem k_8:KK y "_law_after" 1 ["_law_start","_law_sheet_here"] IE:=kA y y.f8 λ_ hr=>by delta ID;walk_at "k"
theorem k_9:KK y "_law_day" 3 ["_law_draws","_law_meeting","_law_row"] Fp:=kA y y.f9 λ_ hr=>by delta IF;walk_at "k"
theorem k_10:KK y "_law_other" 4 ["_law_draws","_law_meeting","_law_row"] Fq:=kA y y.f10 λ_ hr=>by delta IG;walk_at "k"
theorem k_11:KK y "span" 1 ["meeting","n","k"] Fs:=kA y y.f11 λ_ hr=>by delta IH;walk_at "k"
theorem k_12:KK y "start_on" 2 ["meeting","row","k"] j3:=kA y y.f12 λ_ hr=>by delta II;walk_at "k"
theorem k_13:KK y "from_reasons" 3 ["meeting","start","other","k"] Ft:=kA y y.f13 λ_ hr=>by delta IJ;walk_at "k"
theorem k_14:KK y "goal_of" 3 ["meeting","start","other","k"] BN:=kA y y.f14 λ_ hr=>by delta IK;walk_at "k"
theorem k_15:KK y "goes_round" 1 ["start","goal","x"] Fu:=kA y y.f15 λ_ hr=>by delta IL;walk_at "k"
theorem k_16:KK y "round_reasons" 2 ["start","goal"] Fv:=kA y y.f16 λ_ hr=>by delta IM;walk_at "k"
theorem k_17:KK y "between" 1 ["start","touch"] AD:=kA y y.f17 λ_ hr=>by delta IN;walk_at "k"
theorem k_18:KK y "is_far" 2 ["start","reach","touch"] Fw:=kA y y.f18 λ_ hr=>by delta IP;walk_at "k"
theorem k_19:KK y "boats_of" 1 ["events"] BO:=kA y y.f19 λ_ hr=>by delta IQ;walk_at "k"
theorem k_20:KK y "is_cross" 2 ["start","one","other"] Fx:=kA y y.f20 λ_ hr=>by delta IR;walk_at "k"
theorem k_21:KK y "touch_reasons" 3 ["start","reach","touches"] Fy:=kA y y.f21 λ_ hr=>by delta IS;walk_at "k"
theorem k_22:KK y "sheet_of" 1 ["events"] IU:=kA y y.f22 λ_ hr=>by delta IT;walk_at "k"
theorem k_23:KK y "touches_to" 2 ["start","goal"] BP:=kA y y.f23 λ_ hr=>by delta IV;walk_at "k"
theorem k_24:KK y "reasons_at" 4 ["meeting","start","other","k"] Fz:=kA y y.f24 λ_ hr=>by delta IW;walk_at "k"
theorem k_25:KK y "put_on" 2 ["meeting","row","k","boats"] IY:=kA y y.f25 λ_ hr=>by delta IX;walk_at "k"
theorem k_26:KK y "touches_of" 1 ["events"] I_:=kA y y.f26 λ_ hr=>by delta IZ;walk_at "k"
theorem k_27:KK y "exchanged" 1 ["row","one","other"] Jb:=kA y y.f27 λ_ hr=>by delta Ja;walk_at "k"
theorem k_28:KK y "row_behind" 2 ["start","sheet"] Jd:=kA y y.f28 λ_ hr=>by delta Jc;walk_at "k"
theorem k_29:KK y "raced" 3 ["meeting","row","k","sheet"] FA:=kA y y.f29 λ_ hr=>by delta Je;walk_at "k"
theorem k_30:KK y "races_of" 1 ["meeting","n"] Dq:=kA y y.f30 λ_ hr=>by delta Jf;walk_at "k"
theorem k_31:KK y "race_told" 2 ["start","touches"] FB:=kA y y.f31 λ_ hr=>by delta Jg;walk_at "k"
theorem k_32:KK y "told_upward" 5 ["meeting","row","other"] FE:=kA y y.f32 λ_ hr=>by delta Jh;walk_at "k"
theorem k_33:KK y "told_by" 6 ["meeting","row","other"] FF:=kA y y.f33 λ_ hr=>by delta Ji;walk_at "k"
theorem k_34:KK y "_law_reasons" 2 ["_law_draws","_law_row","_law_other_here"] Jk:=kA y y.f34 λ_ hr=>by delta Jj;walk_at "k"
theorem k_35:KK y "is_whole" 1 ["thing","low","high"] FG:=kA y y.f35 λ_ hr=>by delta Jl;walk_at "k"
theorem k_36:KK y "is_boat" 1 ["thing"] u8:=kA y y.f36 λ_ hr=>by delta Jm;walk_at "k"
theorem k_37:KK y "is_touch" 2 ["thing"] FH:=kA y y.f37 λ_ hr=>by delta Jn;walk_at "k"
theorem k_38:KK y "has_reason_form" 3 ["thing"] FI:=kA y y.f38 λ_ hr=>by delta Jo;walk_at "k"
theorem k_39:KK y "has_untold_form" 4 ["many","thing"] FJ:=kA y y.f39 λ_ hr=>by delta Jp;walk_at "k"
theorem k_40:KK y "shows_untold" 6 ["meeting","row","other","thing"] FK:=kA y y.f40 λ_ hr=>by delta Jq;walk_at "k"
theorem k_41:KK y "_law_spoilt" 10 ["_law_draws","_law_thing"] Dr:=by
 have go:∀d,KK y "_law_spoilt" (2+d) ["_law_draws","_law_thing"] (BQ d):=λd=>by
  induction d with
  |zero=>exact kA y y.f41 λnd hr=>Uw
  |succ d g=>exact kA (k:=2+d) y y.f41 λnd hr=>(Ar (CQ (QW.qt (GZ (Lf (Lc (Ln (n:="tuple") 0b0 (λ_=>rfl) (λ_=>y.m5) (qv 1) (λ_=>tyw rfl y.m16 GU)))) (GZ (Bt (cEq 8 λ_=>hr) (qv 1) (QE.r (Am Q8)) (Y9 _)) (Le (Bt (cEq 8 λ_=>hr) (Bv (λ_=>(k_1 y)) (λ_=>hr) 0x0 (λ_=>rfl) (G7 (qv 0) (G7 T5 Q8))) (QE.r T5) (Y9 _)))))) (Ar (Lu 2 (sws 2 nd) (QN.ee (G_ (G7 KU (G7 qe_bl (G7 T5 (G7 (LD T5) (G7 CJ (G7 CJ (G7 (Am (G7 (qv 1) Q8)) (G7 (QN.ee (G_ (G7 (qv 1) Q8))) (G7 (Am (G7 CJ Q8)) (G7 CJ (G7 (Am Q8) (G7 T5 Q8)))))))))))))))
  (Bx (By (Ex (qv 2) (Bv (λ_=>(k_1 y)) (λ_=>hr) 0x0 (λ_=>rfl) (G7 (qv 0) (G7 T5 Q8))))))) CO)
  (Ar (Ly 3 4 (λ_=>Hi (i:=3) (j:=4) rfl nd rfl rfl 0b0 rfl rfl rfl) (ql_v (Bv (λ_=>(k_1 y)) (λ_=>hr) 0x0 (λ_=>rfl) (G7 (qv 0) (G7 T5 Q8)))) (ql_v (Bv (λ_=>(k_1 y)) (λ_=>hr) 0x0 (λ_=>rfl) (G7 (qv 0) (G7 (Lk (λ_=>rfl) (λ_=>y.m6) (QE.r (qv 1))) Q8)))))
  (Ar (CQ (Bt (cEq 8 λ_=>hr) (qv 3) (QE.r T5) (Y9 _)) (Bx (By (o8 (Ap (qv 1) An (Ao (qv 4))) (Ap (qv 1) (Ao (o8 (qv 4) T5)) An)))) CO)
  (Ar (CQ (Bt (cEq 8 λ_=>hr) (qv 3) (QE.r T5) (Y9 _)) (Bx (By (o8 (o8 (Ap (qv 1) An (Ao (qv 4))) (Am (G7 (Ex (qv 1) (qv 4)) Q8))) (Ap (qv 1) (Ao (qv 4)) An)))) CO)
  (Ar (CQ (Bt (cEq 8 λ_=>hr) (qv 3) (QE.r T5) (Y9 _)) (Bx (By (QN.ee (Lm (λ_=>rfl) (λ_=>y.m7) (QE.r (qv 1)))))) CO)
  (Bx (By (o8 (o8 (Ap (qv 1) An (Ao (qv 4))) (Am (G7 (Bv (λ_=>g) (λ_=>hr) (B2 _) (λ_=>rfl) (G7 (qv 0) (G7 (Ex (qv 1) (qv 4)) Q8))) Q8))) (Ap (qv 1) (Ao (o8 (qv 4) T5)) An)))))))))
 exact go 8
theorem k_42:KK y "_law_stand" 2 ["_law_meeting","_law_row","_law_other_here","_law_k"] FM:=kA y y.f42 λ_ hr=>by delta Js;walk_at "k"
theorem k_43:KK y "_law_pairs" 1 ["_law_start","_law_goal_here"] FN:=kA y y.f43 λ_ hr=>by delta Jt;walk_at "k"
theorem k_44:KK y "_law_is_crossed" 1 ["_law_one","_law_other_here"] FP:=kA y y.f44 λ_ hr=>by delta Ju;walk_at "k"
theorem k_45:KK y "_law_no_cross" 2 ["_law_pairs_here"] FQ:=kA y y.f45 λ_ hr=>by delta Jv;walk_at "k"
theorem k_46:KK y "_law_can_be" 3 ["_law_start","_law_goal_here","_law_reach"] FR:=kA y y.f46 λ_ hr=>by delta Jw;walk_at "k"
theorem k_47:KK y "_law_goal" 1 ["_law_start","_law_there","_law_k"] AE:=kA y y.f47 λ_ hr=>by delta Jx;walk_at "k"
theorem k_48:KK y "_law_at" 4 ["_law_meeting","_law_row","_law_other_here","_law_k"] Jz:=kA y y.f48 λ_ hr=>by delta Jy;walk_at "k"
theorem k_49:KK y "_law_pair" 1 ["_law_start","_law_goal_here","_law_thing"] FS:=kA y y.f49 λ_ hr=>by delta JA;walk_at "k"
theorem k_50:KK y "_law_is_so" 2 ["_law_stand_here","_law_k","_law_reach","_law_reason"] FT:=kA y y.f50 λ_ hr=>by delta JB;walk_at "k"
theorem k_51:KK y "_law_due" 5 ["_law_meeting","_law_row","_law_other_here","_law_thing"] FU:=kA y y.f51 λ_ hr=>by delta JC;walk_at "k"
theorem k_law:Kn P w K mg base "law" 11 ["_law_script"] (Ej K):=by
 have sc:Z0 ["_law_script","_law_draws","_law_turn","_law_meeting","_law_row","_law_other_here","_law_things","_law_told","_law_reasons_here","_law_first","_law_numbers","_law_reason","_law_held","_law_thing","_law_found"] ["_law_script"] (G6 (top 59)):=⟨rfl,rfl,rfl,by decide +kernel,rfl,by decide +kernel,by decide +kernel⟩;have nd:=sc.nd;exact law_ok (T:=potD) y.f52 sc (λ_ _ _ _ _ _=>bd1 λ_=>rfl) (k:=10) (body:=FV) (λ_ _ _ _ _ _ _ hr=>by delta FV;walk_at "k") m_law
end
end Tb
open PySem PySem.W PyProof.Rows L2 Tb
set_option hygiene false in
local macro_rules | `(tactic| walk_at "F")=>`(tactic| (dsimp only [KOf];refine' fn0_mk KX G ?a ?l ?c ?k;(case a=>k_is);(case l=>k_is);(case c=>k_is);(case k=>k_is)))
set_option hygiene false in
local macro_rules | `(tactic| walk_at "Z")=>`(tactic| (refine PySem.W.mg_none_of (K:=KOf KX) KX G ?_;dsimp only [KOf];k_is))
set_option maxRecDepth 100000 in
set_option maxHeartbeats 0 in
theorem PySem.Challenge.cw_touchboats_k27_reasons_of_two_mornings_j_holds : PySem.Challenge.rw_touchboats_k27_reasons_of_two_mornings_j.Holds := by
 w_on;o_law;k_head;(case hw=>w_witness2)
 k_fill
 refine PB (l:=PySem.Challenge.rw_touchboats_k27_reasons_of_two_mornings_j) (x:="_law_script") (k:=11) rfl rfl ⟨rfl,by decide,by decide,rfl⟩ (λw h Y=>PySem.W.kIn_of Y) ?F
 case F=>
  intro w mg h KX G;refine⟨top 59,by walk_at "F",λ_ _ _ _ _ _ s u=>.of_eq rfl,λbase kb nb=>?_⟩;refine k_law (P:=PySem.Challenge.rw_touchboats_k27_reasons_of_two_mornings_j.prog) (w:=w) (K:=KOf KX) (mg:=mg) (base:=base) ⟨?_,?_,?_,?_,?_,?_,?_,?_,?_,?_,?_,?_,?_,?_,?_,?_,?_,?_,?_,?_,?_,?_,?_,?_,?_,?_,?_,?_,?_,?_,?_,?_,?_,?_,?_,?_,?_,?_,?_,?_,?_,?_,?_,?_,?_,?_,?_,?_,?_,?_,?_,?_,?_,?_,?_,?_,?_,?_,?_,?_,?_,?_,?_,?_,?_,?_,?_,?_,?_,?_,?_,?_⟩ <;> first|walk_at "F"|walk_at "Z"|(refine' PP (K:=KOf KX) KX G ?a;(case a=>(dsimp only[KOf];k_is)))
end
