import PyProof.Rows.All
import Wide.All
import OpenK.AllK
import Wide.FinOn
import PyProof.EqAt
import PyProof.EqKinds
import PyProof.TupleCall
import PyProof.NeKinds
import PyProof.EnumMake
import PyProof.ConsumeWalk
import KE.LcSums
import PyProof.ReprLen
import PyProof.StrLawsRepr
import PyProof.Rows.StrNews2
import PyProof.Rows.SetFrom
import PyProof.WalksMore
import PyProof.StrLawsChain
import PyProof.StrLawsTight
import PyProof.StrLawsIdx
import PyProof.ZipIter
import PyProof.Draws
import PyProof.Rows.FactsT2
import PyProof.ListStr
import PyProof.Rows.StrPartPair
import KE.KSortTup
import KE.KDictSum
import KE.KRevIter
import PyProof.DictItems
import KE.KPairComp
import PyProof.AutoSeq1
import PyProof.SetNew
import KE.KSortKey
import KE.KLam
import KE.KNestM
import PyProof.AttrMissHeap
import KE.KDictOf
import PyProof.SumWalk
import PyProof.ListRange
import PyProof.CollectIter
import PyProof.IsRules
import PyProof.Cells
import PyProof.FactsAll.zip
import Lean
import PySem.Challenge.RW_touchboats_k30_torn_sheets_mended
set_option Elab.async false
set_option linter.all false
set_option maxRecDepth 100000
set_option maxHeartbeats 4000000
namespace PySem.W.Fast
def tw338596683480239533:=0
def tw12102167515786276151:=0
def tw15167818577179146536:=0
def tw6984237713331685839:=0
def tw2569645280788770820:=0
def tw2974713148697905676:=0
def tw8193873838251248843:=0
def tw2091014611106641156:=0
def tw14473040375553784172:=0
def tw12211309653271722100:=0
def tw16077490352013859560:=0
def tw8030715748869238749:=0
def tw10921864047423543218:=0
def tw9601861084503049419:=0
def tw4454836472423712140:=0
def tw13823026944165191050:=0
def tw11996355046331918508:=0
def tw13060751251703683960:=0
def tw15187400340076552002:=0
def tw3818060189218193387:=0
def tw1498452595627398598:=0
def tw7526534441468386476:=0
def tw4151489387495847491:=0
def tw15443482894702067049:=0
def tw11007727780306473626:=0
def tw6301575514812370432:=0
def tw8050074069372819509:=0
def tw3679847707724855747:=0
def tw12978163763437439485:=0
def tw2247358641079875050:=0
def tw9680975776068803957:=0
def tw1558898801938388804:=0
def tw6796500137350407317:=0
def tw4516527466837212144:=0
def tw18326313197874796037:=0
def tw5549114774931451045:=0
def tw16870032144865790078:=0
def tw17709699378530928335:=0
def tw13302628128966858545:=0
def tw17349392533609344391:=0
def tw3488692946201081613:=0
def tw6690693521253436263:=0
def tw5753615562835241521:=0
def tw14688097222478000376:=0
def tw12417270445853832603:=0
end PySem.W.Fast
open PySem renaming wpAny_bind->A2,wpAny_pure->A8,Shared->A4,Value->A1,wpAny->A5,Addr->A0,model->A6,sizeLine->B7,foldedSetIterable->G7,wpAny_newObj_type->N1,Program->C3,wpAny_callSpecial?_slot->X0,wpAny_call_entry->N3,bootBuiltins->J4,wpAny_mono->F7,mem_of_lookup->X3,starEach->E8,wpAny_holding->N4,sizeLine_eq->K9,wpAny_setState_of->X4,Around->C8,wpAny_field->M4,World->B8,wpAny_truthy_bool->j6,wpAny_seqItems->X5,compareOp->L7,assignEach->O5,mainGlobals->T3,wpAny_standAt->j8,letOwnedTupleGo->Ap,cellsFrom->P3,codeAny_builtin->Aq,Heap->B1,wpAny_pyIter_tuple->BD,wpAny_setField_rec->BE,SetTable->N5,wpAny_setField->Ar,sysModules->X6,codeAny->L0,wpAny_typeOf->w6,wpAny_getItem_str_slice->Ef,Builtin->L8,wpAny_attempt->As,wpAny_setEntries_of->CM,Scope->E3,isSubtype_type->AT,binaryOp->Q5,wpAny_rule->j9,wpAny_pyIter_list->CN,behindInMarks->AU,attributeBase->AV,codeAny_mono->AX,swapsWith->k5,wpAny_passesOwn->CO,plainId_quiet->BF,wpAny_newList->BG,sliceBounds->AY,relabel->T4,wpAny_pyIter_enum->Eg,wpAny_of_eq->AZ,holding->U7,wpAny_askSetting->Eh,wpAny_isInstance->Ei,wpAny_forIn_list->Ej,keywordEach->BH,post_val_or_str->Ek,Keyword->Z7,standAt->k6
open List renaming length_map->A9,mem_cons_of_mem->B4,mem_cons_self->B2,getElem?_eq_getElem->C4,getElem?_eq_some_iff->E1,getElem?_map->C6,length_append->D7,length_cons->D2,getD_eq_getElem?_getD->G6,size_toArray->D9,mem_map->C0,mem_cons->C9,all_eq_true->E9,mem_of_getElem?->J5,range->C7,map_map->D8,getElem?_set_self->M5,mem_singleton->J6,getElem?_append_right->Q6,getElem?_append_left->Q7,exists_cons_of_ne_nil->T5,getElem?_cons_succ->P4,mem_range->F8,getElem?_set_ne->N6,getElem?_eq_none->O6,length_singleton->P5,map_append->J7,length_set->K3,mem_append->K6,length_take->M6,pairwise_iff_getElem->Z8,map_cons->J8,getElem?_cons_zero->X7,eq_nil_of_length_eq_zero->w8,cons_append->N7,mem_filter->M7,mem_append_right->X8,nodup_cons->N8,length_range->Q8,nil_append->P6,append_nil->T6,range'->L9,length_nil->U8,mem_flatMap->X9,replicate->T7,append_assoc->Z9,length_reverse->w9,reverse_cons->k7,not_mem_nil->k8,map_congr_left->At,map->J9,mem_append_left->A_,take_length->x4,filterMap_cons->Ba,flatMap_cons->Au,foldl_cons->x5,mem_iff_getElem?->BI,length_zipIdx->Bb,getElem_mem->Av,dropLast_concat->BJ,pairwise_map->Bc,take_of_length_le->CP,length_drop->Bd,drop_eq_getElem_cons->Em,take_succ->Aw,getElem_of_mem->CQ,any_eq_true->BK,zip_cons_cons->CS,getElem?_zipIdx->Eo,mem_of_mem_take->Ep,getElem?_zip_eq_some->Gr,getElem?_range->Er,reverse_append->Es,all_map->Be,set_comm->BL,of_mem_zip->CT,getElem?_replicate->Gs,getLast?_singleton->Gu,ne_nil_of_mem->Et,nodup_append->Eu,Nodup->Ax,ext_getElem?->Ew,foldl_append->Ex,forIn_nil->CU,take_append_drop->Gv,getElem?_toArray->Gw,length_filter_le->Gx,drop_length->Ey,filter_cons->Ez,mem_iff_getElem->Gy,getLast?_append->Gz,set->k9,forIn_cons->EA,toList_toArray->GA,length_zip->EB,toArray->CV,map_set->CW
open PySem.W renaming Frag->A7,kia_one->b8,fnOf->Y0,kas_item->N9,kas_sort->M1,kas_place->U9,kas_rev->O1,kas_asc->T8,kitOne->CY,keepIn->CZ,kas_desc->l5,codeIn->EC,methodObj->GB
open PySem.Heap renaming get?_push_of_some->B6,get?_push_size->E4,lt_size->B9,size_push->T9,get?_update_other->BN,get?_update_self->BO,SameBut->l6
open PySem.Str renaming ofString->B0,empty->C5
open Nat renaming le_refl->B3,lt_of_lt_of_le->G0,ne_of_lt->D6,zero_le->D5,zero_add->E2,le_trans->E5,testBit_mod_two_pow->Y1,testBit->G4,reduceLeDiff->V0,testBit_shiftLeft->x6,pow_le_pow_right->x8,lt_irrefl->Q9,le_succ->O7,lt_succ_of_lt->x9,lt_trichotomy->y0,mul_le_mul_right->Bf,reduceLT->V1,reduceSub->l8,reduceAdd->l9,testBit_or->y3,testBit_shiftRight->C_,sub_self->n6,sub_succ_lt_self->Da,lt_succ_iff_lt_or_eq->ED,le_of_lt->y4,ne_of_gt->y7,le_of_not_lt->BQ,not_lt_zero->BR,le_of_lt_succ->Db,lt_of_le_of_lt->EE,pow_succ->BS,succ_ne_self->EF,lt_trans->Dc,le_of_eq->Dd,mod_lt->BT,add_mul->De
open Bool renaming false_eq_true->F2,false_ne_true->V2,false_and->O8,not_true->R0,true_and->R1,and_eq_true->b9,or_false->V3,not_false->c6,false_or->Y2,true_or->c7,beq_eq_decide_eq->Df,eq_iff_iff->BU,and_false->EG
open Option.some renaming inj->F6,injEq->EH
open Array renaming length_toList->M8,getElem?_toList->U1,getElem?_eq_getElem->o5,getD_eq_getD_getElem?->Ay,perm_iff_toList_perm->Dg,getElem?_eq_none->Dh,toList_inj->EI,replicate->EJ
open Int renaming toNat_natCast->P7,emod_lt_of_pos->y8,emod_nonneg->o6,reduceLT->V4,reduceLE->V5,eq_ofNat_of_zero_le->EK,zero_add->Bg
open PySem.Heap.SameBut renaming update->U2
open PySem.Builtin.SmallTypes renaming nextOf->o7,ownedTupleIsFree->EL,ownedTupleHandOut->Jn
open PySem.Value renaming type->F9,ref->L4,none->Y3
open Classical renaming byContradiction->y9
open PySem.Builtin.Slice renaming slicePlaces->Az,sliceAdjust->Di,sliceApplied->EM,sliceFields->Jo
open PySem.Obj renaming mapSeq->G9,data_mapFields->EN
open Option renaming isSome_iff_exists->AA,bind->o8,getD_some->Dj
open PyProof.Rows renaming slot_tuple_getitem->BV,callWith_type1->Dk,pendingOf->c8,listUpdate_at->BW,get?_update_seq->Dl,SortKind->d5,reverseSlice'->Dm,envOfC->GC
open PySem.Builtin.Tuple renaming tupleExact->AB,tupleItemsOf->GD
open Lean.Macro renaming throwUnsupported->Bh
open String renaming reduceBEq->o9
open PySem.Builtin.Str renaming occurrences->BX
open PySem.PyData renaming showable->p5,showableAll->BY,shownAll->Bi,depth->z0,shown->z9,shownKv->BZ,depthAll->Dn,showableKv->EO,depthKv->EQ
open PySem.StrLaws renaming sliceText->Bj
open ForInStep renaming yield->AD
open PySem.Txt renaming slice->P8,slice_le->B_,mul->V6,join->AE
open PySem.Builtin.List renaming listExtendWith->ER,listTooLong->ES,listLengthHint->Jp
open PySem.F renaming slot_tuple_iterator_next->ET,args_tuple_add_2->GE,entry_tuple_add->GF,plainAttrs_list->GG,slot_tuple_add->GH,slot_zip_next->EU
open PySem.Around renaming under_plainId->Do
open PySem.AutoSeq1 renaming wpAny_loadPart'->EV
open PyProof.Rows.F renaming plain_set_update_loop->EX
open False renaming elim->d7
open Array.Perm renaming refl->Ca
open Std.Legacy.Range renaming forIn_eq_forIn_range'->Jq
open PySem.Calls renaming call_function_entry->GI
open PyProof.Rows.SortSt renaming mk'->Aa
open PySem.SetTable renaming grown->Dp
open PySem.SeqAt renaming RcNeAt->Cb,EqAt->Bk,RcAt->Cc
open PySem.Heap.IsSliceOf renaming new->GJ
open List.Pairwise renaming nil->GK
open Prod.mk renaming inj->Dq
open PySem.Data renaming fields->Dr
open PySem.W.Looks renaming of_pure->EY
theorem jq{p:Prop}[Decidable p](h:p):decide p=true:=decide_eq_true h
theorem jr{p:Prop}[Decidable p](h:¬p):decide p=false:=decide_eq_false h
theorem jt{c:Prop}{h:Decidable c}(i:c){α:Type}{t e:α}:ite c t e=t:=if_pos i
theorem ju{c:Prop}{h:Decidable c}(i:¬c){α:Type}{t e:α}:ite c t e=e:=if_neg i
theorem jv{p:Prop}[Decidable p](h:decide p=true):p:=of_decide_eq_true h
local macro_rules|`(tactic|omega)=>`(tactic|lia)
set_option compiler.extract_closed false in
set_option hygiene false in
local macro_rules | `(tactic| walk_at "p0")=>`(tactic| dsimp only [dreduceIte,true_and,and_true,F2,beq_self_eq_true,V0,V1,V4,V5,D5,CG,AS,CH,qSeq,qNx,qSet,qOwn,qAsg,K2,qRet,U4,qIfS,qPar,sV,sO,qPut,gAt,W0,V9,qV,qO,qC,qOp,qOpR,qUn,wI,wI0,wAdd,wSub,wMul,wMod,wEq,wNe,wLt,wLe,wGt,wIsN,O3,qB,V7,qAnd,qOr,qNot,Q3,qOrV,Y7,qIf,qNil,A3,qTup,qLst,qL,wIx,qNo,L5,qSl,wSl,wLen,wInt,wAll,wAny,K1,V8,wIsi,wMin,B5,gN,gNl,gCn,gTp,qIl,qIt,K7,Y9,capV,capS,qTru,E6,qCat,W3,Z0,U5,wNeg,K8,h9,qPop,P0,tyP,isT,J9,k9,D2,U8,X7,P4,N7,P6,T7,l8,l9,o8,R0,c6,c7,Y2,V3,R1,O8,o9,cmpb,O9,i3,i4,i5,t9,decide_true,decide_false,R7,Z1,W4,Z2,wRev,wInC,Z3,Z4,R9,qZip,qFor,M2,W6,W7,E7,u6,u7,u8,u9,v4,Hf,i8,frz,frzS,noMut,U6,w4])
set_option hygiene false in
local macro_rules | `(tactic| walk_at "p1")=>`(tactic| (try walk_at "p0") <;> (try simp only [CG,AS,CH,decide_true,decide_false,true_and,and_true,reduceIte,V0,V1,V4,V5,D5,beq_self_eq_true,F2]))
set_option hygiene false in
set_option compiler.extract_closed false in
set_option hygiene false in
local macro_rules | `(tactic| walk_at "p2") => do
 let s ← `(tactic| simp only [grdE,qSeq,qNx,qSet,qOwn,qAsg,K2,qRet,U4,qIfS,qPar,sV,sO,qPut,gAt,W0,V9,qV,qO,qC,qOp,qOpR,qUn,wI,wI0,wAdd,wSub,wMul,wMod,wEq,wNe,wLt,wLe,wGt,wIsN,O3,qB,V7,qAnd,qOr,qNot,Q3,qOrV,Y7,qIf,qNil,A3,qTup,qLst,qL,wIx,qNo,L5,qSl,wSl,wLen,wInt,wAll,wAny,K1,V8,wIsi,wMin,B5,gN,gNl,gCn,gTp,qIl,qIt,K7,Y9,capV,capS,qTru,E6,qCat,W3,Z0,U5,wNeg,K8,h9,qPop,P0,tyP,isT,J9,k9,D2,U8,X7,P4,N7,P6,T7,l8,l9,o8,true_and,and_true,reduceIte,R0,c6,beq_self_eq_true,c7,Y2,V3,R1,O8,o9,cmpb,O9,F2,AH,M9,AI,i3,i4,i5,t9,decide_true,decide_false,R7,Z1,W4,Z2,wRev,wInC,Z3,Z4,R9,qZip,qFor,M2,W6,W7,E7,Aj,wSet,u6,u7,u8,u9,v4,V0,V1,V4,V5,D5,i8,frz,frzS,noMut,U6,w4])
 match s with
 | `(tactic| simp only [$xs,*]) => `(tactic| (try dsimp only [dreduceIte, $(⟨xs.elemsAndSeps⟩),*]) <;> (try $s:tactic))
 |_ => Bh
noncomputable section
section
namespace L2
open PySem PySem.Spec PyProof.Rows
abbrev Key:=Sum Int Str
def Cd:Key->A1->Bool
 |.inl k,v=>Value.isInt k v
 |.inr x,v=>Value.isStrOf x v
def keyH (w:B8):Key->Int
 |.inl k=>hashInt k
 |.inr x=>hashStr w x
theorem d8:∀{k:Key} {v:A1},Cd k v=true->(∃i t,k=Sum.inl i/\v=Value.int i t)\/(∃x t,k=Sum.inr x/\v=Value.str x t)
 | .inl i, v, h => by
  obtain⟨t,e⟩:=Value.isInt_shape (k:=i) (v:=v) h;exact .inl ⟨i,t,rfl,e⟩
 | .inr x, v, h => by
  obtain⟨t,e⟩:=Value.isStrOf_shape (x:=x) (v:=v) h;exact .inr ⟨x,t,rfl,e⟩
theorem Nt (i:Int)(t:Tok):Cd (.inl i) (.int i t)=true:=by simp[Cd,Value.isInt]
theorem Nu (x:Str)(t:Tok):Cd (.inr x) (.str x t)=true:=by simp[Cd,Value.isStrOf]
theorem key_ll (a b:Int):decide ((Sum.inl a:Key)=Sum.inl b)=(a == b):=by grind
theorem key_rr (a b:Str):decide ((Sum.inr a:Key)=Sum.inr b)=decide (a=b):=by simp
theorem key_lr (a:Int)(b:Str):decide ((Sum.inl a:Key)=Sum.inr b)=false:=rfl
theorem key_rl (a:Str)(b:Int):decide ((Sum.inr a:Key)=Sum.inl b)=false:=rfl
def Y4 (prog:C3)(w:B8):PySem.KeyKind prog w Key where
 is:=Cd
 hash:=keyH w
 inj:=fun v a b ha hb=>by
  rcases d8 ha with⟨i,t,rfl,rfl⟩|⟨x,t,rfl,rfl⟩
  ·rcases d8 hb with⟨j,u,rfl,e⟩|⟨y,u,rfl,e⟩
   ·injection e with e1 _;rw[e1]
   ·exact nomatch e
  ·rcases d8 hb with⟨j,u,rfl,e⟩|⟨y,u,rfl,e⟩
   ·exact nomatch e
   ·injection e with e1 _;rw[e1]
 byValue:=λk v h=>by
  rcases d8 h with⟨i,t,rfl,rfl⟩|⟨x,t,rfl,rfl⟩ <;> rfl
 pyHash:=λhv h=>by
  rcases d8 hv with⟨i,t,rfl,rfl⟩|⟨x,t,rfl,rfl⟩
  ·exact wpAny_pyHash_int h
  ·exact wpAny_pyHash_str h
 eqBool:=λhu hv h=>by
  rcases d8 hu with⟨i,t,rfl,rfl⟩|⟨x,t,rfl,rfl⟩
  ·rcases d8 hv with⟨j,u,rfl,rfl⟩|⟨y,u,rfl,rfl⟩
   ·rw[key_ll] at h;exact wpAny_eqBool_int h
   ·rw[key_lr] at h;exact SeqAt.EqAt.int_str i t y u _ _ _ _ h
  ·rcases d8 hv with⟨j,u,rfl,rfl⟩|⟨y,u,rfl,rfl⟩
   ·rw[key_rl] at h;exact SeqAt.EqAt.str_int x t j u _ _ _ _ h
   ·rw[key_rr] at h;exact wpAny_eqBool_str h
 «strs»:=λk x t v h=>by
  rcases d8 h with⟨i,u,rfl,e⟩|⟨y,u,rfl,e⟩
  ·exact nomatch e
  ·injection e with e1 _;subst e1;cases v <;> rfl
theorem Jr (prog:C3)(w:B8)(i:Int)(t:Tok):(Y4 prog w).is (.inl i) (.int i t)=true:=Nt i t
theorem Js (prog:C3)(w:B8)(x:Str)(t:Tok):(Y4 prog w).is (.inr x) (.str x t)=true:=Nu x t
inductive V where
 |non|bl (b:Bool)|int (i:Int)|str (x:Str)|byt (b:Array UInt8)|flt (b:UInt64)|ref (a:A0)|ty (n:String)
 deriving DecidableEq
def RelV:V->A1->Prop
 |.non,u=>u=Y3
 |.bl b,u=>u=Value.bool b
 |.int i,u=>∃t,u=Value.int i t
 |.str x,u=>∃t,u=Value.str x t
 |.byt b,u=>∃t,u=Value.bytes b t
 |.flt b,u=>∃t,u=Value.float b t
 |.ref a,u=>u=L4 a
 |.ty n,u=>u=F9 n
abbrev Vals:List V->List A1->Prop:=Paired RelV
theorem Vals.length (r:Vals xs us):xs.length=us.length:=Paired.length r
theorem Vals.get:∀{xs:List V} {us:List A1} {i:Nat} {x:V},Vals xs us->xs[i]?=some x->∃u,us[i]?=some u/\RelV x u
 |_,_,_,_,.nil,e=>by simp at e
 |_,_,0,_,.cons r _,e=>by simp at e;subst e;exact⟨_,rfl,r⟩
 | _, _, i + 1, x, .cons _ t, e => by
  obtain⟨u,h1,h2⟩:=Vals.get (i:=i) (x:=x) t (by grind);exact⟨u,by simpa using h1,h2⟩
theorem Vals.set (r:RelV x u):∀{xs:List V} {us:List A1} (i:Nat),Vals xs us->Vals (xs.set i x) (us.set i u)
 |_,_,_,.nil=>.nil
 |_,_,0,.cons _ t=>.cons r t
 |_,_,i+1,.cons q t=>.cons q (Vals.set r i t)
theorem Vals.append (h:Vals xs us)(s:Vals ys ws):Vals (xs++ys) (us++ws):=by
 induction h with
 |nil=>exact s
 |cons r _ ih=>exact .cons r ih
theorem Vals.take:∀{xs:List V} {us:List A1} (n:Nat),Vals xs us->Vals (xs.take n) (us.take n)
 |_,_,0,_=>.nil
 |_,_,_+1,.nil=>.nil
 |_,_,n+1,.cons r t=>.cons r (Vals.take n t)
theorem Vals.drop:∀{xs:List V} {us:List A1} (n:Nat),Vals xs us->Vals (xs.drop n) (us.drop n)
 |_,_,0,r=>r
 |_,_,_+1,.nil=>.nil
 |_,_,n+1,.cons _ t=>Vals.drop n t
def RelO:Option V->Option A1->Prop
 |some v,some u=>RelV v u
 |none,none=>True
 |_,_=>False
def KV {κ:Type}:List (κ×V)->List (κ×A1)->Prop:=Paired λ(p:κ×V) (q:κ×A1)=>p.1=q.1/\RelV p.2 q.2
def kV:Key->V
 |.inl i=>.int i
 |.inr x=>.str x
inductive HO where
 /-- a list -/
 |lst (xs:List V)
 /-- a tuple (never changes) -/
 |tup (xs:List V)
 /-- a dict whose keys are ints and Y5; one whose keys are tuples of ints and Y5 (the empty one is both) -/
 |dK (jg:List (Key×V))|dT (jg:List (List Key×V))
 /-- a set of ints: jf members, jf size -/
 |set (S:Key->Bool) (n:Nat)
 /-- an instance of the class at C, jf dict at dx, jf attributes -/
 |ins (C dx:A0) (fs:List (Str×V))
 /-- the dict of the instance at x -/
 |own (x:A0)
 /-- the dict of an exception -/
 |xd (fs:List (Str×V))
 /-- a bound method, f of x -/
 |met (f x:A0)
 /-- a range object lo, lo + 1, .. below hi -/
 |rng (lo hi:Int)
 /-- a thing that is known to the object (the script; a dict while a loop walks it): read, never written while it is so -/
 |frz (o:Obj) (u:HO)
 /-- a code object's table -/
 |tbl (ps:Array A1)
 /-- any ja thing, by what is true of jf one object (a def of one's own: SetO a S n := HO.ext fun h => ..) -/
 |ext (φ:B1->Prop)
abbrev Hp:=A0->Option HO
def upd (H:Hp)(a:A0)(o:HO):Hp:=λb=>if b=a then some o else H b
theorem J0:upd H a o a=some o:=by unfold upd;rw[jt rfl]
theorem D0 (h:b≠a):upd H a o b=H b:=by unfold upd;rw[ju h]
theorem d9 {H:Hp}(h:H a=some o)(h':H b=none):a≠b:=by
 intro e;subst e;rw[h] at h';cases h'
def e6 (h:B1)(a:A0)(items:Array A1):Prop:=∃o,h.get? a=some o/\(o.cls,o.dict)=(F9 "tuple",none)/\∃n,o.data=.seq items n
theorem e6.is (x:e6 h a items):IsTup h a items:=let ⟨o,e,c,r⟩:=x;⟨o,e,(Dq c).1,r⟩
theorem e6.lt (x:e6 h a items):a<h.objs.size:=let ⟨_,e,_⟩:=x;B9 e
theorem e6.new (h:B1)(items:Array A1):e6 (h.push { cls:=.type "tuple",data:=.seq items }) h.objs.size items:=⟨_,E4 _ rfl,rfl,_,rfl⟩
section
variable (P:C3)(w:B8)
def J1 (H:Hp)(h:B1)(a:A0):HO->Prop
 |.lst xs=>xs.length<=B7/\∃(jf:List A1) (n:Nat),Vals xs jf/\h.get? a=some { cls:=.type "list",data:=.seq jf.toArray n }
 |.tup xs=>xs.length<=B7/\∃jf:List A1,Vals xs jf/\e6 h a jf.toArray
 |.dK jg=>jg.length<=B7/\(a == X6)=false/\∃vs,KV jg vs/\h.DictOf (Y4 P w) a vs
 |.dT jg=>jg.length<=B7/\(a == X6)=false/\∃xs:List (List Key×A0×A1),
     Paired (λ(p:List Key×V) (q:List Key×A0×A1)=>p.1=q.1/\H q.2.1=some (.tup (p.1.map kV))/\RelV p.2 q.2.2) jg xs/\
     ∃o es ep,h.get? a=some o/\o.ExactDict/\o.data=.dict es ep/\es.toList=xs.map (entryOfKey (tupleKind (Y4 P w)))/\(xs.map (·.1)).Nodup
 |.set S n=>h.SetOf (Y4 P w) a S n
 |.ins C dx fs=>H dx=some (.own a)/\fs.length<=1000/\dx≠a/\h.get? a=some (PySem.W.instObj C dx)/\
     ∃mA,h.Ns1 dx mA/\(∀f,RelO (fs.lookup f) (mA f))/\PySem.Within mA (fs.map (·.1))
 |.own _=>∃o,h.get? a=some o
 |.xd fs=>∃mA,h.Ns1 a mA/\∀f,RelO (fs.lookup f) (mA f)
 |.rng lo hi=>∃t u v,h.get? a=some { cls:=.type "range",data:=.fields #[.int lo t,.int hi u,.int 1 v] }
 |.frz o u=>h.get? a=some o/\J1 H h a u
 |.tbl ps=>h.get? a=some { cls:=.none,data:=.fields ps }
 |.met f x=>h.get? a=some (GB (.ref f) (.ref x))
 |.ext φ=>φ h/\(∃o,h.get? a=some o)/\∀h1 h2:B1,φ h1->(∀o,h1.get? a=some o->h2.get? a=some o)->φ h2
def HOk (H:Hp)(h:B1):Prop:=∀a o,H a=some o->J1 P w H h a o
end
section
variable {P:C3}{w:B8}{H H':Hp}{h h':B1}{a:A0}{o:HO}
theorem J1.lt (x:J1 P w H h a o):a<h.objs.size:=by
 cases o with
 |lst xs=>obtain⟨_,_,_,_,e⟩:=x;exact B9 e
 |tup xs=>obtain⟨_,_,_,p⟩:=x;exact p.lt
 |dK jg=>obtain⟨_,_,_,_,o,_,_,e,_⟩:=x;exact B9 e
 |dT jg=>obtain⟨_,_,_,_,o,_,_,e,_⟩:=x;exact B9 e
 |set S n=>obtain⟨o,_,_,_,e,_⟩:=x;exact B9 e
 |ins C dx fs=>obtain⟨_,_,_,e,_⟩:=x;exact B9 e
 |own y=>obtain⟨_,e⟩:=x;exact B9 e
 |xd fs=>obtain⟨_,⟨_,_,_,e,_⟩,_⟩:=x;exact B9 e
 |rng lo hi=>obtain⟨_,_,_,e⟩:=x;exact B9 e
 |frz ob u=>obtain⟨e,_⟩:=x;exact B9 e
 |tbl ps=>exact B9 (show h.get? a=some _ from x)
 |met f y=>exact B9 (show h.get? a=some _ from x)
 |ext φ=>obtain⟨_,⟨_,e⟩,_⟩:=x;exact B9 e
theorem Paired.mapP {α β:Type}{F G:α->β->Prop}{l₁:List α}{l₂:List β}(h:Paired F l₁ l₂)(f:∀a b,F a b->G a b):Paired G l₁ l₂:=by
 induction h with
 |nil=>exact .nil
 |cons r _ ih=>exact .cons (f _ _ r) ih
theorem Paired.imp' {α β:Type}{F G:α->β->Prop}(f:∀a b,F a b->G a b){l₁:List α}{l₂:List β}(r:Paired F l₁ l₂):Paired G l₁ l₂:=Paired.mapP r f
theorem J1.stay (x:J1 P w H h a o)(k:∀b u,(b=a\/H b=some (.own a))->h.get? b=some u->h'.get? b=some u)
   (ho:∀b,H b=some (.own a)->H' b=some (.own a)) (ht:∀b xs,H b=some (.tup xs)->H' b=some (.tup xs)):J1 P w H' h' a o:=by
 induction o with
 |lst xs=>obtain⟨z,jf,n,r,e⟩:=x;exact⟨z,jf,n,r,k _ _ (.inl rfl) e⟩
 |tup xs=>obtain⟨z,jf,r,ob,e,c⟩:=x;exact⟨z,jf,r,ob,k _ _ (.inl rfl) e,c⟩
 |dK jg=>obtain⟨z,y,vs,r,ob,es,ep,e,c⟩:=x;exact⟨z,y,vs,r,ob,es,ep,k _ _ (.inl rfl) e,c⟩
 | dT jg =>
  obtain⟨z,y,xs,r,ob,es,ep,e,c⟩:=x;exact⟨z,y,xs,Paired.mapP r λp q z=>⟨z.1,ht _ _ z.2.1,z.2.2⟩,ob,es,ep,k _ _ (.inl rfl) e,c⟩
 |set S n=>obtain⟨ob,es,ep,t,e,c⟩:=x;exact⟨ob,es,ep,t,k _ _ (.inl rfl) e,c⟩
 | ins C dx fs =>
  obtain⟨d,z,ne,e,mA,⟨od,es,ep,e2,c⟩,r⟩:=x;exact⟨ho _ d,z,ne,k _ _ (.inl rfl) e,mA,⟨od,es,ep,k _ _ (.inr d) e2,c⟩,r⟩
 |own y=>obtain⟨ob,e⟩:=x;exact⟨ob,k _ _ (.inl rfl) e⟩
 |xd fs=>obtain⟨mA,⟨od,es,ep,e,c⟩,r⟩:=x;exact⟨mA,⟨od,es,ep,k _ _ (.inl rfl) e,c⟩,r⟩
 |rng lo hi=>obtain⟨t,u,v,e⟩:=x;exact⟨t,u,v,k _ _ (.inl rfl) e⟩
 |frz ob u ih=>obtain⟨e,q⟩:=x;exact⟨k _ _ (.inl rfl) e,ih q⟩
 | tbl ps =>
  have e:h.get? a=some { cls:=.none,data:=.fields ps }:=x;show h'.get? a=some { cls:=.none,data:=.fields ps };exact k a _ (.inl rfl) e
 | met f y =>
  have e:h.get? a=some (GB (.ref f) (.ref y)):=x;show h'.get? a=some (GB (.ref f) (.ref y));exact k a _ (.inl rfl) e
 |ext φ=>obtain⟨p,⟨o,e⟩,st⟩:=x;exact⟨st _ _ p λo q=>k _ _ (.inl rfl) q,⟨o,k _ _ (.inl rfl) e⟩,st⟩
theorem HOk.lt (x:HOk P w H h)(e:H a=some o):a<h.objs.size:=(x a o e).lt
theorem HOk.fresh (x:HOk P w H h)(e:h.objs.size<=a):H a=none:=by
 cases q:H a with
 |none=>rfl
 |some u=>exact absurd (G0 (x.lt q) e) (Q9 _)
theorem HOk.kept (x:HOk P w H h)(k:∀b u,h.get? b=some u->h'.get? b=some u):HOk P w H h':=λa o e=>
 (x a o e).stay (λb u _ q=>k b u q) (λ_ q=>q) λ_ _ q=>q
theorem HOk.laid (x:HOk P w H h)(k:∀b u,h.get? b=some u->h'.get? b=some u)(hp:h.objs.size<=a)(new:J1 P w (upd H a o) h' a o):HOk P w (upd H a o) h':=λb u e=>by
 have hn:=x.fresh hp
 by_cases hb:b=a
 ·subst hb;rw[J0] at e;cases e;exact new
 ·rw[D0 hb] at e;exact(x b u e).stay (λc v _ q=>k c v q) (λc q=>by rw[D0 (d9 q hn)];exact q) λc xs q=>by rw[D0 (d9 q hn)];exact q
end
def Rd (H:Hp)(a:A0)(u:HO):Prop:=H a=some u\/∃o,H a=some (.frz o u)
theorem Rd.ok (r:Rd H a u)(x:HOk P w H h):J1 P w H h a u:=by
 rcases r with r|⟨o,r⟩
 ·exact x a u r
 ·obtain⟨_,q⟩:=x a _ r;exact q
def Mut:Option HO->Prop
 |some (.lst _)=>True
 |some (.dK _)=>True
 |some (.dT _)=>True
 |some (.set _ _)=>True
 |some (.ins _ _ _)=>True
 |some (.ext _)=>True
 |_=>False
section
variable {P:C3}{w:B8}{H:Hp}{h h':B1}{x e:A0}{o':HO}
theorem HOk.write (ok:HOk P w H h)(mu:Mut (H x))(he:e=x\/H e=some (.own x))(k:∀b u,b≠e->h.get? b=some u->h'.get? b=some u)(heo:∃u,h'.get? e=some u)
   (new:J1 P w (upd H x o') h' x o'):HOk P w (upd H x o') h':=λb u q=>by
 have nown:∀c y,H c=some (.own y)->c≠x:=λc y r z=>by subst z;rw[r] at mu;exact mu
 have ntup:∀c xs,H c=some (.tup xs)->c≠x:=λc xs r z=>by subst z;rw[r] at mu;exact mu
 by_cases hb:b=x
 ·subst hb;rw[J0] at q;cases q;exact new
 ·rw[D0 hb] at q
  by_cases hbe:b=e
  ·have q':H b=some (.own x):=by
    rcases he with z|z
    ·exact absurd (hbe.trans z) hb
    ·rw[hbe];exact z
   rw[q] at q';cases q';obtain⟨v,hv⟩:=heo;exact⟨v,by rw[hbe];exact hv⟩
  ·refine(ok b u q).stay (λc v hc r=>k c v ?_ r) (λc r=>by rw[D0 (nown c b r)];exact r) λc xs r=>by rw[D0 (ntup c xs r)];exact r
   rcases hc with rfl|hc
   ·exact hbe
   ·rintro rfl;rcases he with z|z
    ·exact nown c b hc z
    ·rw[hc] at z;cases z;exact hb rfl
end
def NS (H:Hp):Prop:=H X6=none\/∃o u,H X6=some (.frz o u)
structure Un (fs ex:List A0)(H H':Hp)(h h':B1):Prop where
 keep:∀b o,h.get? b=some o->H b=none->b∉fs->b∉ex->h'.get? b=some o
 slot:∀b o,h.get? b=some o->H b=none->b∈fs->b∉ex->∃sl,h'.get? b=some { o with slots:=sl }
 free:∀b o,h.get? b=some o->H b=none->b∉ex->H' b=none
 there:∀b o,h.get? b=some o->b∉ex->∃o',h'.get? b=some o'
 tups:∀b xs,H b=some (.tup xs)->H' b=some (.tup xs)
 frzs:∀b o u,H b=some (.frz o u)->H' b=some (.frz o u)
 tbls:∀b ps,H b=some (.tbl ps)->∃more,H' b=some (.tbl (ps++more))
 sys:NS H->NS H'
section
variable {fs fs' ex ex':List A0}{H H1 H2:Hp}{h h1 h2 h':B1}{a x e:A0}{o:HO}
theorem Un.any (u:Un fs ex H H1 h h1)(q:h.get? b=some ob)(n:H b=none)(hx:b∉ex):∃sl,h1.get? b=some { ob with slots:=sl }:=by
 by_cases hb:b∈fs
 ·exact u.slot b ob q n hb hx
 ·exact⟨ob.slots,u.keep b ob q n hb hx⟩
theorem Un.kept (k:∀b u,h.get? b=some u->h'.get? b=some u):Un fs ex H H h h':=
 ⟨λb ob q _ _ _=>k b ob q,λb ob q _ _ _=>⟨ob.slots,k b ob q⟩,λ_ _ _ n _=>n,λb ob q _=>⟨ob,k b ob q⟩,λ_ _ q=>q,λ_ _ _ q=>q,λ_ ps q=>⟨#[],by rw[q];simp⟩,λz=>z⟩
theorem Un.refl:Un fs ex H H h h:=Un.kept λ_ _ q=>q
theorem Un.laid (k:∀b u,h.get? b=some u->h'.get? b=some u)(hp:h.objs.size<=a)(hn:H a=none)(hy:X6<h.objs.size):Un fs ex H (upd H a o) h h' where
 keep:=λb u q _ _ _=>k b u q
 slot:=λb u q _ _ _=>⟨u.slots,k b u q⟩
 free:=λb u q n _=>by rw[D0 (D6 (G0 (B9 q) hp))];exact n
 there:=λb u q _=>⟨u,k b u q⟩
 tups:=λb xs q=>by rw[D0 (d9 q hn)];exact q
 frzs:=λb u xs q=>by rw[D0 (d9 q hn)];exact q
 tbls:=λb ps q=>⟨#[],by rw[D0 (d9 q hn),q];simp⟩
 sys:=λz=>by unfold NS;rw[D0 (D6 (G0 hy hp))];exact z
theorem Un.write (mu:Mut (H x))(he:e=x\/H e=some (.own x))(k:∀b u,b≠e->h.get? b=some u->h'.get? b=some u)(heo:∃u,h'.get? e=some u):Un fs ex H (upd H x o) h h':=by
 have hx:∀b,H b=none->b≠x:=λb n z=>by subst z;rw[n] at mu;exact mu
 have hb:∀b,H b=none->b≠e:=λb n z=>by
  subst z;rcases he with r|r
  ·exact hx b n r
  ·rw[n] at r;cases r
 have hm:∀b u,H b=some u->¬Mut (some u)->b≠x:=λb u q nm z=>by subst z;rw[q] at mu;exact nm mu
 refine⟨λb u q n _ _=>k b u (hb b n) q,λb u q n _ _=>⟨u.slots,k b u (hb b n) q⟩,λb u q n _=>by rw[D0 (hx b n)];exact n,λb u q _=>?_,
  λb xs q=>by rw[D0 (hm b _ q λz=>z)];exact q,λb u xs q=>by rw[D0 (hm b _ q λz=>z)];exact q,λb ps q=>⟨#[],by rw[D0 (hm b _ q λz=>z),q];simp⟩,λz=>by
   rcases z with z|⟨ob,u,z⟩
   ·exact .inl (by rw[D0 (hx _ z)];exact z)
   ·exact .inr ⟨ob,u,by rw[D0 (hm _ _ z λz=>z)];exact z⟩⟩
 by_cases hbe:b=e
 ·subst hbe;exact heo
 ·exact⟨u,k b u hbe q⟩
end
def trk (h:B1)(H:Hp):List A0:=(C7 h.objs.size).filter λa=>(H a).isSome
def hidT (h:B1)(H:Hp):B1:=PySem.W.hideAll h (trk h H)
theorem Nv (h:B1)(H:Hp):(hidT h H).objs.size=h.objs.size:=PySem.W.hideAll_size _ _
theorem Nw (e:h.get? b=some o)(n:H b=none):(hidT h H).get? b=some o:=
 PySem.W.hideAll_get _ e λhm=>by
  have q:(H b).isSome=true:=(M7.mp hm).2;rw[n] at q;simp at q
theorem Nx (e:(hidT h H).get? b=some o):h.get? b=some o/\H b=none:=by
 have e':h.get? b=some o:=PySem.W.of_hideAll (trk h H) e;refine⟨e',?_⟩;cases q:H b with
 |none=>rfl
 | some x =>
  have hm:b∈trk h H:=M7.mpr ⟨F8.mpr (B9 e'),by simp[q]⟩;have z:(hidT h H).get? b=none:=PySem.W.hideAll_none (trk h H) hm;rw[z] at e;cases e
def Ny (g h:B1)(L:A0):List (A0×Obj):=(C7 h.objs.size).filterMap λa=>if a=L\/(g.get? a).isSome=true then none else(h.get? a).map λo=>(a,o)
def rest (g h:B1)(L d:A0):List (A0×Obj):=(Ny g h L).filter λp=>decide (p.1≠d)
structure Mod (K:A7)(mg:Str->Option A1)(base:B1):Prop where
 kin:K.In base
 glob:base.Ns T3 mg
 blt:∃mb,base.Ns builtinsNs mb/\∀x:Str,x≠"__name__"->mb x=J4 x
 nolimit:base.NoLimit
structure Cx where
 prog:C3
 w:B8
 K:A7
 mg:Str->Option A1
 base:B1
 A:C8
 N:List Str
 s₀:A4
 H₀:Hp
 env:Env
 outer:List Env
 stack:List Env
 ex:List A0
 fn:Str->Bool
 calm:Bool
 pn:List (A0×Obj)
 xe:A1->A4->Prop
def frs (l:List Env):List A0:=l.filterMap (·.frame)
abbrev Cx.fs (X:Cx):List A0:=frs X.outer
def Vis (sc:E3)(x:Str):Prop:=sc.names.lookup x=some .local\/sc.names.lookup x=some .cell\/sc.names.lookup x=some .free
def Loc (sc:E3)(x:Str):Prop:=sc.names.lookup x=some .local\/sc.names.lookup x=some .cell
def Look (env:Env)(h:B1)(m:Str->Option A1)(x:Str)(u:A1):Prop:=
 (env.kindOf x=some .local/\m x=some u)\/((env.kindOf x=some .cell\/env.kindOf x=some .free)/\∃c,env.cells.lookup x=some c/\h.IsCell c (some u))
structure Cx.Ok (X:Cx):Prop where
 mod:Mod X.K X.mg X.base
 kind:X.env.scope.kind=.function
 glob:X.env.globals=T3
 blt:X.env.builtins=builtinsNs
 above:X.s₀.heap.objs.size<=X.env.locals
 inj:∀x y c,X.env.cells.lookup x=some c->X.env.cells.lookup y=some c->x=y
 has:∀x,(X.env.kindOf x=some .cell\/X.env.kindOf x=some .free)->∃c,X.env.cells.lookup x=some c
 cab:∀x c,X.fn x=true->X.env.cells.lookup x=some c->X.s₀.heap.objs.size<=c
 hd:X.calm=true->X.A.handled=none
 frames:X.A.frames=some X.stack
 stk:X.stack=X.outer\/(X.stack=X.env::X.outer/\X.env.frame=some X.env.locals)
 exf:∀b∈X.ex,b≠X.env.locals/\∀x c,X.env.cells.lookup x=some c->c≠b
 bs:∀b o,X.base.get? b=some o->X.s₀.heap.get? b=some o/\X.H₀ b=none
 bsz:X.base.objs.size<=X.s₀.heap.objs.size
 noex:∀b o,X.base.get? b=some o->b∉X.ex
 exfs:∀b∈X.ex,b∉X.fs
 funs:X.s₀.heap.FunFrames X.base X.outer
 frf:∀b∈X.fs,X.H₀ b=none
 nos:NS X.H₀
structure Inv (X:Cx)(jb:List (A0×Obj))(σ:List (Option V))(H:Hp)(s:A4):Prop where
 ok:X.Ok
 os:s.os=X.s₀.os
 bare:AllBare s.gens
 base:Un X.fs X.ex X.H₀ H X.s₀.heap s.heap
 loc:∃m,s.heap.Ns X.env.locals m/\∀(i:Nat) (x:Str) (v:V),X.N[i]?=some x->σ[i]?=some (some v)->Vis X.env.scope x->∃u,RelV v u/\Look X.env s.heap m x u
 cell:∀x c,X.env.cells.lookup x=some c->∃v,s.heap.IsCell c v
 free:H X.env.locals=none
 freeC:∀x c,X.env.cells.lookup x=some c->H c=none
 pin:∀p∈X.pn++jb,s.heap.get? p.1=some p.2/\H p.1=none/\p.1≠X.env.locals/\p.1∉X.fs/\∀v,p.2.data≠.cell v
 hok:HOk X.prog X.w H s.heap
 len:σ.length=X.N.length
section
variable {X:Cx}{jb:List (A0×Obj)}{σ:List (Option V)}{H H':Hp}{s:A4}{h':B1}
theorem Cx.Ok.nofr (ok:X.Ok)(e:X.base.get? b=some o):b∉X.fs:=λhb=>by
 have:=(ok.funs.mem hb).1;rw[e] at this;cases this
theorem Inv.bs (I:Inv X jb σ H s):∀b o,X.base.get? b=some o->s.heap.get? b=some o/\H b=none:=λb o e=>
 ⟨I.base.keep b o (I.ok.bs b o e).1 (I.ok.bs b o e).2 (I.ok.nofr e) (I.ok.noex b o e),I.base.free b o (I.ok.bs b o e).1 (I.ok.bs b o e).2 (I.ok.noex b o e)⟩
theorem Inv.bk (I:Inv X jb σ H s):∀b o,X.base.get? b=some o->s.heap.get? b=some o:=λb o e=>(I.bs b o e).1
theorem Inv.mod (I:Inv X jb σ H s):Mod X.K X.mg X.base:=I.ok.mod
theorem Inv.nos (I:Inv X jb σ H s):NS H:=I.base.sys I.ok.nos
theorem Inv.bigS (I:Inv X jb σ H s):X6<s.heap.objs.size:=Dc (by decide) (I.mod.glob.keeps I.bk).lt
theorem Inv.kIn (I:Inv X jb σ H s):X.K.In s.heap:=I.ok.mod.kin.keeps I.bk
theorem Inv.lt (I:Inv X jb σ H s):X.env.locals<s.heap.objs.size:=let ⟨_,hn,_⟩:=I.loc;hn.lt
theorem Inv.sz (I:Inv X jb σ H s):X.s₀.heap.objs.size<=s.heap.objs.size:=E5 I.ok.above (y4 I.lt)
theorem Inv.nofs (I:Inv X jb σ H s)(h:s.heap.objs.size<=a):a∉X.fs:=λhb=>by
 obtain⟨_,o,ho,_⟩:=I.ok.funs.mem hb;exact absurd (G0 (B9 ho) (E5 I.sz h)) (Q9 _)
theorem Inv.cne (I:Inv X jb σ H s):∀x c,X.env.cells.lookup x=some c->c≠X.env.locals:=λx c e z=>by
 obtain⟨v,o,ho,hd⟩:=I.cell x c e;obtain⟨m,⟨o',es,ep,ho',hd',_⟩,_⟩:=I.loc;rw[z,ho'] at ho;cases ho;rw[hd'] at hd;cases hd
theorem Inv.funs (I:Inv X jb σ H s):s.heap.FunFrames X.base X.outer:=by
 have all:∀(l:List Env),(∀b∈frs l,b∈X.fs)->X.s₀.heap.FunFrames X.base l->s.heap.FunFrames X.base l:=by
  intro l
  induction l with
  |nil=>intro _ _;trivial
  | cons env r ih =>
   intro hs hl;obtain⟨hk,⟨L,o,hf,hn,ho,hd⟩,hr⟩:=hl;have hL:L∈X.fs:=hs L (by unfold frs;rw[Ba,hf];exact B2);obtain⟨sl,e⟩:=I.base.slot L o ho (I.ok.frf L hL) hL λz=>I.ok.exfs L z hL;exact⟨hk,⟨L,_,hf,hn,e,hd⟩,ih (λb hb=>hs b (by unfold frs;rw[Ba,hf];exact B4 _ hb)) hr⟩
 exact all X.outer (λ_ hb=>hb) I.ok.funs
theorem Inv.stack (I:Inv X jb σ H s):s.heap.FunFrames X.base X.stack:=by
 rcases I.ok.stk with e|⟨e,hf⟩
 ·rw[e];exact I.funs
 ·rw[e];obtain⟨m,hn,_⟩:=I.loc;refine .cons (by rw[I.ok.kind];decide) hf hn ?_ I.funs;exact Heap.get?_none_of_le (E5 I.ok.bsz I.ok.above)
theorem Inv.stkSub (I:Inv X jb σ H s):∀b∈frs X.stack,b∈X.env.locals::X.fs:=λb hb=>by
 rcases I.ok.stk with e|⟨e,hf⟩
 ·rw[e] at hb;exact B4 _ hb
 ·rw[e] at hb;unfold frs at hb;rw[Ba,hf] at hb;exact hb
theorem Inv.stkFree (I:Inv X jb σ H s):∀b∈frs X.stack,H b=none:=λb hb=>by
 rcases C9.mp (I.stkSub b hb) with e|hb
 ·rw[e];exact I.free
 ·obtain⟨_,o,ho,_⟩:=I.ok.funs.mem hb;exact I.base.free b o ho (I.ok.frf b hb) λz=>I.ok.exfs b z hb
theorem Inv.step {ch:List A0}(I:Inv X jb σ H s)
   (hch:∀b∈ch,(b∈X.ex\/X.s₀.heap.objs.size<=b)/\b≠X.env.locals/\(∀x c,X.env.cells.lookup x=some c->c≠b)/\∀p∈X.pn++jb,p.1≠b)
   (keep:∀b o,b≠X.env.locals->b∉X.fs->b∉ch->s.heap.get? b=some o->H b=none->h'.get? b=some o)
   (slot:∀b o,b≠X.env.locals->b∈X.fs->b∉ch->s.heap.get? b=some o->H b=none->∃sl,h'.get? b=some { o with slots:=sl }) (free:∀b o,b∉ch->s.heap.get? b=some o->H b=none->H' b=none)
   (there:∀b o,b∉ch->s.heap.get? b=some o->∃o',h'.get? b=some o')
   (tups:∀b xs,H b=some (.tup xs)->H' b=some (.tup xs)) (frzs:∀b o u,H b=some (.frz o u)->H' b=some (.frz o u)) (tbls:∀b ps,H b=some (.tbl ps)->∃more,H' b=some (.tbl (ps++more))) (sys:NS H->NS H')
   (ns:∀m,s.heap.Ns X.env.locals m->h'.Ns X.env.locals m) (hok:HOk X.prog X.w H' h') (hg:AllBare g') :
   Inv X jb σ H' { s with heap:=h',gens:=g',drawn:=d',toks:=t' }:=by
 have neL:∀b o,X.s₀.heap.get? b=some o->b≠X.env.locals:=λb o e=>D6 (G0 (B9 e) I.ok.above)
 have neC:∀b o,X.s₀.heap.get? b=some o->b∉X.ex->b∉ch:=λb o e hx hb=>by
  rcases(hch b hb).1 with z|z
  ·exact hx z
  ·exact absurd (G0 (B9 e) z) (Q9 _)
 have cellK:∀x c,X.env.cells.lookup x=some c->∀v,s.heap.IsCell c v->h'.IsCell c v:=λx c e v ⟨o,ho,hd⟩=>by
  have nch:c∉ch:=λz=>(hch c z).2.2.1 x c e rfl
  by_cases hc:c∈X.fs
  ·obtain⟨sl,q⟩:=slot c o (I.cne x c e) hc nch ho (I.freeC x c e);exact⟨_,q,hd⟩
  ·exact⟨o,keep c o (I.cne x c e) hc nch ho (I.freeC x c e),hd⟩
 refine⟨I.ok,I.os,hg,⟨λb o e n hb hx=>?_,λb o e n hb hx=>?_,λb o e n hx=>?_,λb o e hx=>?_,λb xs e=>tups b xs (I.base.tups b xs e),λb o xs e=>frzs b o xs (I.base.frzs b o xs e),λb ps e=>?_,λz=>sys (I.base.sys z)⟩,?_,λx c e=>?_,?_,λx c e=>?_,λp hp=>?_,hok,I.len⟩
 ·exact keep b o (neL b o e) hb (neC b o e hx) (I.base.keep b o e n hb hx) (I.base.free b o e n hx)
 ·obtain⟨sl,e1⟩:=I.base.slot b o e n hb hx;obtain⟨sl',e2⟩:=slot b _ (neL b o e) hb (neC b o e hx) e1 (I.base.free b o e n hx);exact⟨sl',e2⟩
 ·obtain⟨o',e1⟩:=I.base.there b o e hx;exact free b o' (neC b o e hx) e1 (I.base.free b o e n hx)
 ·obtain⟨o',e1⟩:=I.base.there b o e hx;exact there b o' (neC b o e hx) e1
 ·obtain⟨m1,e1⟩:=I.base.tbls b ps e;obtain⟨m2,e2⟩:=tbls b _ e1;exact⟨m1++m2,by rw[e2,Array.append_assoc]⟩
 ·obtain⟨m,hn,hl⟩:=I.loc;refine⟨m,ns m hn,λi x v e1 e2 e3=>?_⟩;obtain⟨u,r,l⟩:=hl i x v e1 e2 e3;refine⟨u,r,?_⟩;rcases l with l|⟨k,c,e,z⟩
  ·exact .inl l
  ·exact .inr ⟨k,c,e,cellK x c e _ z⟩
 ·obtain⟨v,z⟩:=I.cell x c e;exact⟨v,cellK x c e v z⟩
 ·obtain⟨m,⟨o,_,_,ho,_⟩,_⟩:=I.loc;exact free _ o (λz=>(hch _ z).2.1 rfl) ho I.free
 ·obtain⟨v,o,ho,hd⟩:=I.cell x c e;exact free c o (λz=>(hch c z).2.2.1 x c e rfl) ho (I.freeC x c e)
 ·obtain⟨e,n,ne,nf,d⟩:=I.pin p hp;have nch:p.1∉ch:=λz=>(hch p.1 z).2.2.2 p hp rfl;exact⟨keep p.1 p.2 ne nf nch e n,free p.1 p.2 nch e n,ne,nf,d⟩
theorem Inv.un (I:Inv X jb σ H s)(u:Un X.fs [] H H' s.heap h')(hok:HOk X.prog X.w H' h'):Inv X jb σ H' { s with heap:=h',toks:=t' }:=by
 obtain⟨m,⟨o,es,ep,ho,r⟩,_⟩:=id I.loc;obtain⟨sl,hL⟩:=u.any ho I.free (by simp)
 exact I.step (g':=s.gens) (d':=s.drawn) (ch:=[]) (λ_ z=>nomatch z) (λb o _ hb _ e n=>u.keep b o e n hb (by simp)) (λb o _ hb _ e n=>u.slot b o e n hb (by simp)) (λb o _ e n=>u.free b o e n (by simp)) (λb o _ e=>u.there b o e (by simp)) u.tups u.frzs u.tbls u.sys (λm' hm=>by
  obtain⟨o',es',ep',ho',r'⟩:=hm;rw[ho] at ho';cases ho'
  exact⟨_,es',ep',hL,r'⟩) hok I.bare
theorem Inv.call (I:Inv X jb σ H s)(u:Un (frs X.stack) ch H H' s.heap h')(hok:HOk X.prog X.w H' h')(hg:AllBare g')
   (hch:∀b∈ch,(b∈X.ex\/X.s₀.heap.objs.size<=b)/\b≠X.env.locals/\(∀x c,X.env.cells.lookup x=some c->c≠b)/\∀p∈X.pn++jb,p.1≠b) :
   Inv X jb σ H' { s with heap:=h',gens:=g',drawn:=d',toks:=t' }:=by
 obtain⟨m,⟨o,es,ep,ho,r⟩,_⟩:=id I.loc;obtain⟨sl,hL⟩:=u.any ho I.free λz=>(hch _ z).2.1 rfl
 exact I.step (ch:=ch) hch (λb o hL hb hc e n=>u.keep b o e n (λz=>(C9.mp (I.stkSub b z)).elim hL hb) hc) (λb o _ _ hc e n=>u.any e n hc) (λb o hc e n=>u.free b o e n hc) (λb o hc e=>u.there b o e hc) u.tups u.frzs u.tbls u.sys (λm' hm=>by
  obtain⟨o',es',ep',ho',r'⟩:=hm;rw[ho] at ho';cases ho'
  exact⟨_,es',ep',hL,r'⟩) hok hg
theorem Inv.turned {t':Nat}{it:A0}(I:Inv X jb σ H s)(k:∀b o,b≠it->s.heap.get? b=some o->h'.get? b=some o)(hn:H it=none)(hL:it≠X.env.locals)
   (h1:it∈X.ex\/X.s₀.heap.objs.size<=it) (h2:∀x c,X.env.cells.lookup x=some c->c≠it) (h3:∀p∈X.pn++jb,p.1≠it):Inv X jb σ H { s with heap:=h',toks:=t' }:=by
 have nit:∀b u,H b=some u->b≠it:=λb u e z=>by rw[z,hn] at e;cases e
 refine I.step (g':=s.gens) (d':=s.drawn) (ch:=[it]) (λb hb=>?_) (λb o _ _ hc e _=>k b o (λz=>hc (by simp[z])) e) (λb o _ _ hc e _=>⟨o.slots,k b o (λz=>hc (by simp[z])) e⟩) (λ_ _ _ _ n=>n)
   (λb o hc e=>⟨o,k b o (λz=>hc (by simp[z])) e⟩) (λ_ _ e=>e) (λ_ _ _ e=>e) (λb ps e=>⟨#[],by rw[e];simp⟩) (λz=>z) (λm hm=>?_) (λb u e=>?_) I.bare
 ·grind
 ·obtain⟨o,es,ep,ho,r⟩:=hm;exact⟨o,es,ep,k _ o (Ne.symm hL) ho,r⟩
 ·refine(I.hok b u e).stay (λc v hc q=>k c v ?_ q) (λ_ q=>q) λ_ _ q=>q;rcases hc with z|z
  ·grind
  ·grind
theorem Inv.tok (I:Inv X jb σ H s)(t:Nat):Inv X jb σ H { s with toks:=t }:=I.un (h':=s.heap) (t':=t) Un.refl I.hok
theorem Inv.kept (I:Inv X jb σ H s)(k:∀b u,s.heap.get? b=some u->h'.get? b=some u):Inv X jb σ H { s with heap:=h',toks:=t' }:=I.un (Un.kept k) (I.hok.kept k)
theorem Inv.laid (I:Inv X jb σ H s)(k:∀b u,s.heap.get? b=some u->h'.get? b=some u)(hp:s.heap.objs.size<=a)(new:J1 X.prog X.w (upd H a o) h' a o) :
   Inv X jb σ (upd H a o) { s with heap:=h',toks:=t' }:=I.un (Un.laid k hp (I.hok.fresh hp) I.bigS) (I.hok.laid k hp new)
theorem Inv.write (I:Inv X jb σ H s)(mu:Mut (H x))(he:e=x\/H e=some (.own x))(k:∀b u,b≠e->s.heap.get? b=some u->h'.get? b=some u)(heo:∃u,h'.get? e=some u)
   (new:J1 X.prog X.w (upd H x o) h' x o):Inv X jb σ (upd H x o) { s with heap:=h',toks:=t' }:=I.un (Un.write mu he k heo) (I.hok.write mu he k heo new)
theorem Inv.pins_of (I:Inv X jb σ H s)(h:∀p∈pins',s.heap.get? p.1=some p.2/\H p.1=none/\p.1≠X.env.locals/\p.1∉X.fs/\∀v,p.2.data≠.cell v):Inv X pins' σ H s:=
 ⟨I.ok,I.os,I.bare,I.base,I.loc,I.cell,I.free,I.freeC,λp hp=>(K6.mp hp).elim (λz=>I.pin p (A_ _ z)) (h p),I.hok,I.len⟩
theorem nodup_ix {N:List Str}(hN:N.Nodup){i j:Nat}{x:Str}(a:N[i]?=some x)(b:N[j]?=some x):i=j:=by
 obtain⟨h1,e1⟩:=E1.mp a;obtain⟨h2,e2⟩:=E1.mp b;exact(List.getElem_inj hN).mp (e1.trans e2.symm)
theorem Jt (I:Inv X jb σ H s)(hN:X.N.Nodup)(hi:X.N[i]?=some x)(hx:Loc X.env.scope x)(r:RelV v u)
   (h:∀s',Inv X jb (σ.set i (some v)) H s'->(∃a,l6 a s.heap s'.heap/\(a=X.env.locals\/X.env.cells.lookup x=some a))->Q () s') (hf:X.fn x=true\/X.env.scope.names.lookup x=some .local:=by first|exact .inl rfl|exact .inr rfl|assumption):A5 M A (storeName X.env x u) Q E s:=by
 obtain⟨m,hn,hl⟩:=id I.loc;have hcls:(X.env.scope.kind == .class||(X.env.scope.kind == .module&&X.env.locals != X.env.globals))=false:=by rw[I.ok.kind];rfl
 have hiσ:i<σ.length:=by rw[I.len];exact(E1.mp hi).1
 have cne:=I.cne
 have tracked:∀{a:A0} {h':B1},(∃o,s.heap.get? a=some o/\H a=none)->l6 a s.heap h'->HOk X.prog X.w H h':=λ{a h'} ha hs b ob e=>by
  obtain⟨_,_,hfree⟩:=ha;refine(I.hok b ob e).stay (λc w' hc q=>(hs.2 c ?_).trans q) (λ_ q=>q) λ_ _ q=>q;rintro rfl;rcases hc with rfl|hc
  ·rw[hfree] at e;cases e
  ·rw[hfree] at hc;cases hc
 rcases hx with hk|hk
 ·refine wpAny_storeName_local hk hn (λh' hn' hs=>?_) hcls;obtain⟨oL,_,_,hoL,_⟩:=id hn;refine h _ ⟨I.ok,I.os,I.bare,⟨λb o e n hb hx=>?_,λb o e n hb hx=>?_,I.base.free,λb o e hx=>?_,I.base.tups,I.base.frzs,I.base.tbls,I.base.sys⟩,⟨_,hn',λj y v' e1 e2 e3=>?_⟩,λy c e=>?_,I.free,I.freeC,λp hp=>?_,tracked ⟨oL,hoL,I.free⟩ hs,by simpa using I.len⟩ ⟨_,hs,.inl rfl⟩
  ·exact(hs.2 b (D6 (G0 (B9 e) I.ok.above))).trans (I.base.keep b o e n hb hx)
  ·obtain⟨sl,e1⟩:=I.base.slot b o e n hb hx;exact⟨sl,(hs.2 b (D6 (G0 (B9 e) I.ok.above))).trans e1⟩
  ·obtain⟨o',e1⟩:=I.base.there b o e hx;exact⟨o',(hs.2 b (D6 (G0 (B9 e) I.ok.above))).trans e1⟩
  ·by_cases hj:j=i
   ·subst hj;rw[hi] at e1;cases e1;rw[M5 hiσ] at e2;cases e2;exact⟨u,r,.inl ⟨hk,by simp⟩⟩
   ·rw[N6 (Ne.symm hj)] at e2;obtain⟨u',r',q⟩:=hl j y v' e1 e2 e3;refine⟨u',r',?_⟩;rcases q with⟨k,e⟩|⟨k,c,e,z⟩
    ·refine .inl ⟨k,?_⟩;have:y≠x:=λe=>hj (nodup_ix hN e1 (e▸hi));simp[this,e]
    ·exact .inr ⟨k,c,e,z.sameBut hs (cne y c e)⟩
  ·obtain⟨w',z⟩:=I.cell y c e;exact⟨w',z.sameBut hs (cne y c e)⟩
  ·obtain⟨e,n,ne,nf,d⟩:=I.pin p hp;exact⟨(hs.2 p.1 ne).trans e,n,ne,nf,d⟩
 ·have hfn:X.fn x=true:=by
   rcases hf with z|z
   ·exact z
   ·rw[z] at hk;cases hk
  obtain⟨c,hc⟩:=I.ok.has x (.inl hk);obtain⟨w',z⟩:=I.cell x c hc;refine wpAny_storeName_cell I.ok.kind hk hc z (λh' hc' hs=>?_);obtain⟨oc,hoc,hocd⟩:=id z;refine h { s with heap:=h' } ⟨I.ok,I.os,I.bare,⟨λb o e n hb hx=>?_,λb o e n hb hx=>?_,I.base.free,λb o e hx=>?_,I.base.tups,I.base.frzs,I.base.tbls,I.base.sys⟩,⟨m,hn.sameBut hs (Ne.symm (cne x c hc)),λj y v' e1 e2 e3=>?_⟩,λy c' e=>?_,I.free,I.freeC,λp hp=>?_,tracked ⟨oc,hoc,I.freeC x c hc⟩ hs,by simpa using I.len⟩ ⟨c,hs,.inr hc⟩
  ·exact(hs.2 b (D6 (G0 (B9 e) (I.ok.cab x c hfn hc)))).trans (I.base.keep b o e n hb hx)
  ·obtain⟨sl,e1⟩:=I.base.slot b o e n hb hx;exact⟨sl,(hs.2 b (D6 (G0 (B9 e) (I.ok.cab x c hfn hc)))).trans e1⟩
  ·obtain⟨o',e1⟩:=I.base.there b o e hx;exact⟨o',(hs.2 b (D6 (G0 (B9 e) (I.ok.cab x c hfn hc)))).trans e1⟩
  ·by_cases hj:j=i
   ·subst hj;rw[hi] at e1;cases e1;rw[M5 hiσ] at e2;cases e2;exact⟨u,r,.inr ⟨.inl hk,c,hc,hc'⟩⟩
   ·rw[N6 (Ne.symm hj)] at e2;obtain⟨u',r',q⟩:=hl j y v' e1 e2 e3;refine⟨u',r',?_⟩;rcases q with q|⟨k,c',e,z'⟩
    ·exact .inl q
    ·refine .inr ⟨k,c',e,z'.sameBut hs ?_⟩;rintro rfl;exact hj (nodup_ix hN e1 (I.ok.inj _ _ _ e hc▸hi))
  ·by_cases hcc:c'=c
   ·subst hcc;exact⟨_,hc'⟩
   ·obtain⟨w2,z2⟩:=I.cell y c' e;exact⟨w2,z2.sameBut hs hcc⟩
  ·obtain⟨e,n,ne,nf,d⟩:=I.pin p hp;refine⟨(hs.2 p.1 ?_).trans e,n,ne,nf,d⟩;intro q;rw[q,hoc] at e;have q':oc=p.2:=F6 e;exact d w' (by rw[<- q'];exact hocd)
theorem Ds (I:Inv X jb σ H s)(hN:X.N.Nodup)(hi:X.N[i]?=some x)(hx:Loc X.env.scope x)(r:RelV v u)
   (h:∀s',Inv X jb (σ.set i (some v)) H s'->Q () s') (hf:X.fn x=true\/X.env.scope.names.lookup x=some .local:=by first|exact .inl rfl|exact .inr rfl|assumption):A5 M A (storeName X.env x u) Q E s:=
 Jt I hN hi hx r (λs' I' _=>h s' I') hf
end
abbrev XK:=A1->Option A0->Hp->Prop
abbrev St:=List (Option V)
abbrev VK:=V->Hp->Prop
abbrev TE:=St->Hp->VK->Prop
abbrev TT:=St->Hp->(Bool->Hp->Prop)->Prop
abbrev TA:=St->Hp->(List V->Hp->Prop)->Prop
structure Ends where
 nx:St->Hp->Prop
 rt:VK
 bk:St->Hp->Prop:=λ_ _=>False
 ct:St->Hp->Prop:=λ_ _=>False
abbrev TS:=Ends->St->Hp->Prop
def EP (X:Cx)(jb:List (A0×Obj))(σ:St)(Q:VK)(u:A1)(s':A4):Prop:=∃v H',Inv X jb σ H' s'/\RelV v u/\Q v H'
def TP (X:Cx)(jb:List (A0×Obj))(σ:St)(Q:Bool->Hp->Prop)(b:Bool)(s':A4):Prop:=∃H',Inv X jb σ H' s'/\Q b H'
def AP (X:Cx)(jb:List (A0×Obj))(σ:St)(Q:List V->Hp->Prop)(us:List A1)(s':A4):Prop:=∃vs H',Inv X jb σ H' s'/\Vals vs us/\Q vs H'
def SP (X:Cx)(jb:List (A0×Obj))(D:Ends)(f:Flow)(s':A4):Prop:=
 match f with
 |.next=>∃σ' H',Inv X jb σ' H' s'/\D.nx σ' H'
 |.brk=>∃σ' H',Inv X jb σ' H' s'/\D.bk σ' H'
 |.cont=>∃σ' H',Inv X jb σ' H' s'/\D.ct σ' H'
 |.ret u=>∃v σ' H',Inv X jb σ' H' s'/\RelV v u/\D.rt v H'
def PE (X:Cx)(e:Expr)(t:TE):Prop:=
 ∀(jb:List (A0×Obj)) (s:A4) (σ:St) (H:Hp) (Q:VK),Inv X jb σ H s->t σ H Q->A5 (A6 X.prog X.w) X.A (eval e X.env) (EP X jb σ Q) X.xe s
def PT (X:Cx)(e:Expr)(t:TT):Prop:=
 ∀(jb:List (A0×Obj)) (s:A4) (σ:St) (H:Hp) (Q:Bool->Hp->Prop),Inv X jb σ H s->t σ H Q->A5 (A6 X.prog X.w) X.A (isTrue e X.env (eval e X.env)) (TP X jb σ Q) X.xe s
def PW (X:Cx)(e:Expr)(t:TT):Prop:=
 ∀(whole:Sem A1) (jb:List (A0×Obj)) (s:A4) (σ:St) (H:Hp) (Q:Bool->Hp->Prop),Inv X jb σ H s->t σ H Q->A5 (A6 X.prog X.w) X.A (isTrue e X.env whole) (TP X jb σ Q) X.xe s
theorem PW.pt (h:PW X e t):PT X e t:=h _
def PA (X:Cx)(es:List Expr)(t:TA):Prop:=
 ∀(pos:Pos) (jb:List (A0×Obj)) (s:A4) (σ:St) (H:Hp) (Q:List V->Hp->Prop),Inv X jb σ H s->t σ H Q->A5 (A6 X.prog X.w) X.A (spliced (backTo pos (E8 es X.env))) (AP X jb σ Q) X.xe s
def PS (X:Cx)(st:Stmt)(t:TS):Prop:=
 ∀(jb:List (A0×Obj)) (s:A4) (σ:St) (H:Hp) (D:Ends),Inv X jb σ H s->t D σ H->A5 (A6 X.prog X.w) X.A (exec st X.env) (SP X jb D) X.xe s
def PSs (X:Cx)(st:List Stmt)(t:TS):Prop:=
 ∀(jb:List (A0×Obj)) (s:A4) (σ:St) (H:Hp) (D:Ends),Inv X jb σ H s->t D σ H->A5 (A6 X.prog X.w) X.A (execs st X.env) (SP X jb D) X.xe s
theorem thn {α:Type}{t:Sem α}{Q Q':α->A4->Prop}{M:Model}{A:C8}{E:A1->A4->Prop}{s:A4}(h:A5 M A t Q E s)(hQ:∀a s,Q a s->Q' a s):A5 M A t Q' E s:=F7 h hQ λ_ _ x=>x
section
variable {X:Cx}
def tVar (i:Nat):TE:=λσ H Q=>∃v,σ[i]?=some (some v)/\Q v H
def tC (v:V):TE:=λ_ H Q=>Q v H
theorem Ju (hN:X.N[i]?=some x)(hv:Vis X.env.scope x)(hd:(x == ("__debug__":Str))=false:=by decide)(hcd:(x == ("__classdict__":Str))=false:=by decide):PE X (.Name x pos) (tVar i):=by
 intro jb s σ H Q I h;obtain⟨v,e,h⟩:=h;obtain⟨m,hn,hl⟩:=I.loc;obtain⟨u,r,l⟩:=hl i x v hN e hv;have fin:EP X jb σ Q u s:=⟨v,H,I,r,h⟩;rcases l with⟨hk,hm⟩|⟨hk,c,hc,hcell⟩
 ·exact wpAny_Name (wpAny_loadName_local I.ok.kind hk hn hm fin) hd
 ·rcases hk with hk|hk
  ·exact wpAny_Name (wpAny_loadName_cell I.ok.kind hk hc hcell fin) hd
  ·exact wpAny_Name (wpAny_loadName_free I.ok.kind hk hc hcell fin hcd) hd
theorem F4 {i j pos}:PE X (.Constant (.int i) j pos) (tC (.int i)):=λ_ _ _ H _ I h=>wpAny_Constant_int ⟨.int i,H,I.tok _,⟨_,rfl⟩,h⟩
theorem pe_bl {b j pos}:PE X (.Constant (.bool b) j pos) (tC (.bl b)):=λ_ _ _ H _ I h=>Constant_bool ⟨.bl b,H,I,rfl,h⟩
theorem pe_non {j pos}:PE X (.Constant .none j pos) (tC .non):=λ_ _ _ H _ I h=>Constant_none ⟨.non,H,I,rfl,h⟩
theorem pe_str {x j pos}:PE X (.Constant (.str x) j pos) (tC (.str x)):=λ_ _ _ H _ I h=>Calls.Constant_str ⟨.str x,H,I.tok _,⟨_,rfl⟩,h⟩
def Gl (X:Cx)(x:Str):Prop:=X.env.kindOf x=some .globalImplicit
theorem Jv (I:Inv X jb σ H s)(hg:Gl X x)(hm:X.mg x=some u)(h:Q u s)
   (hd:(x == ("__debug__":Str))=false:=by decide):A5 (A6 X.prog X.w) X.A (eval (.Name x pos) X.env) Q E s:=
 Calls.Name_function_global I.ok.kind hg (Calls.loadGlobal_global (by rw[I.ok.glob];exact I.mod.glob.keeps I.bk) hm h) hd
theorem Bl (I:Inv X jb σ H s)(hg:Gl X x)(hm:X.mg x=none)(hv:J4 x=some u)(h:Q u s)
   (hn:x≠"__name__":=by decide) (hd:(x == ("__debug__":Str))=false:=by decide):A5 (A6 X.prog X.w) X.A (eval (.Name x pos) X.env) Q E s:=by
 obtain⟨mb,h1,h2⟩:=I.mod.blt;exact Calls.Name_function_global I.ok.kind hg (Calls.loadGlobal_builtin (by rw[I.ok.glob];exact I.mod.glob.keeps I.bk) hm (by rw[I.ok.blt];exact h1.keeps I.bk) ((h2 x hn).trans hv) h) hd
theorem Jw {x:Str}{v:V}{u:A1}{pos:Pos}(hg:Gl X x)(hm:X.mg x=some u)(r:RelV v u)(hd:(x == ("__debug__":Str))=false:=by decide):PE X (.Name x pos) (tC v):=
 λ_ _ _ H _ I h=>Jv I hg hm ⟨v,H,I,r,h⟩ hd
theorem Nz (hg:Gl X x)(hm:X.mg x=none)(hv:J4 x=some u)(r:RelV v u)(hn:x≠"__name__":=by decide)(hd:(x == ("__debug__":Str))=false:=by decide):PE X (.Name x pos) (tC v):=
 λ_ _ _ H _ I h=>Bl I hg hm hv ⟨v,H,I,r,h⟩ hn hd
variable {a b:Expr}{ta tb:TE}{pos:Pos}
def tB (t:TE):TT:=λσ H Q=>t σ H λx H1=>∃c,x=.bl c/\Q c H1
theorem pt_val (h:PE X e t)(he:∀whole,isTrue e X.env whole=(do let v ← whole;k6 e.pos;U7 [v] (truthy v)):=by intro _;rfl):PT X e (tB t):=by
 intro jb s σ H Q I hw;refine isTrue_plain (thn (h jb s σ H _ I hw) λv s1 ⟨x,H1,I1,r1,q1⟩=>?_) (he _);obtain⟨d,rfl,q⟩:=q1;cases r1;exact j6 ⟨H1,I1,q⟩
variable {tA tB':TT}{rest:List Expr}
def tAnd (t u:TT):TT:=λσ H Q=>t σ H λc H1=>if c=true then u σ H1 Q else Q false H1
def tOr (t u:TT):TT:=λσ H Q=>t σ H λc H1=>if c=true then Q true H1 else u σ H1 Q
def tNot (t:TT):TT:=λσ H Q=>t σ H λc H1=>Q (!c) H1
theorem NA (ha:PT X a tA):PW X (.BoolOp .And [a] pos) tA:=by
 intro wh jb s σ H Q I h;refine isTrue_and (thn (ha jb s σ H Q I h) λc s1 e=>?_);cases c with
 |true=>exact isTrue_and_nil e
 |false=>exact e
theorem pw_or1 (ha:PT X a tA):PW X (.BoolOp .Or [a] pos) tA:=by
 intro wh jb s σ H Q I h;refine isTrue_or (thn (ha jb s σ H Q I h) λc s1 e=>?_);cases c with
 |false=>exact isTrue_or_nil e
 |true=>exact e
theorem pw_and (ha:PT X a tA)(hb:PW X (.BoolOp .And (b::rest) pos) tB'):PW X (.BoolOp .And (a::b::rest) pos) (tAnd tA tB'):=by
 intro wh jb s σ H Q I h;refine isTrue_and (thn (ha jb s σ H _ I h) λc s1 ⟨H1,I1,q1⟩=>?_);cases c with
 |true=>exact hb wh jb s1 σ H1 Q I1 q1
 |false=>exact⟨H1,I1,q1⟩
theorem pw_or (ha:PT X a tA)(hb:PW X (.BoolOp .Or (b::rest) pos) tB'):PW X (.BoolOp .Or (a::b::rest) pos) (tOr tA tB'):=by
 intro wh jb s σ H Q I h;refine isTrue_or (thn (ha jb s σ H _ I h) λc s1 ⟨H1,I1,q1⟩=>?_);cases c with
 |true=>exact⟨H1,I1,q1⟩
 |false=>exact hb wh jb s1 σ H1 Q I1 q1
theorem pt_not (ha:PT X a tA):PT X (.UnaryOp .Not a pos) (tNot tA):=by
 intro jb s σ H Q I h;exact isTrue_not (ha jb s σ H (λc H1=>Q (!c) H1) I h)
def tAndV (ta tb:TE):TE:=λσ H Q=>ta σ H λx H1=>∃c,x=.bl c/\if c=true then tb σ H1 Q else Q (.bl false) H1
def tOrV (ta tb:TE):TE:=λσ H Q=>ta σ H λx H1=>∃c,x=.bl c/\if c=true then Q (.bl true) H1 else tb σ H1 Q
def tNotV (ta:TE):TE:=λσ H Q=>ta σ H λx H1=>∃c,x=.bl c/\Q (.bl (!c)) H1
theorem pe_one {op}{t:TE}(h:PE X a t):PE X (.BoolOp op [a] pos) t:=λjb s σ H Q I hw=>BoolOp_one (h jb s σ H Q I hw)
theorem pe_and (ha:PE X a ta)(hb:PE X (.BoolOp .And (b::rest) pos) tb):PE X (.BoolOp .And (a::b::rest) pos) (tAndV ta tb):=by
 intro jb s σ H Q I h;refine BoolOp_and (thn (ha jb s σ H _ I h) λv s1 ⟨x,H1,I1,r1,q1⟩=>?_);obtain⟨c,rfl,q1⟩:=q1;cases r1;refine j6 ?_;cases c with
 |true=>exact hb jb s1 σ H1 Q I1 q1
 |false=>exact⟨.bl false,H1,I1,rfl,q1⟩
theorem pe_or (ha:PE X a ta)(hb:PE X (.BoolOp .Or (b::rest) pos) tb):PE X (.BoolOp .Or (a::b::rest) pos) (tOrV ta tb):=by
 intro jb s σ H Q I h;refine BoolOp_or (thn (ha jb s σ H _ I h) λv s1 ⟨x,H1,I1,r1,q1⟩=>?_);obtain⟨c,rfl,q1⟩:=q1;cases r1;refine j6 ?_;cases c with
 |false=>exact hb jb s1 σ H1 Q I1 q1
 |true=>exact⟨.bl true,H1,I1,rfl,q1⟩
theorem pe_not (ha:PE X a ta):PE X (.UnaryOp .Not a pos) (tNotV ta):=by
 intro jb s σ H Q I h;refine UnaryOp_ (thn (ha jb s σ H _ I h) λv s1 ⟨x,H1,I1,r1,q1⟩=>?_);obtain⟨c,rfl,q1⟩:=q1;cases r1;exact not_of (j6 ⟨.bl (!c),H1,I1,rfl,q1⟩)
def tIf (t:TT)(ta tb:TE):TE:=λσ H Q=>t σ H λc H1=>if c=true then ta σ H1 Q else tb σ H1 Q
theorem Jx (hc:PT X c tA)(ha:PE X a ta)(hb:PE X b tb):PE X (.IfExp c a b pos) (tIf tA ta tb):=by
 intro jb s σ H Q I h;refine wpAny_IfExp (thn (hc jb s σ H _ I h) λd s1 ⟨H1,I1,q1⟩=>?_);cases d with
 |true=>exact ha jb s1 σ H1 Q I1 q1
 |false=>exact hb jb s1 σ H1 Q I1 q1
end
def SqL (K:A7)(H:Hp)(a:A0)(xs:List V):Prop:=
 Rd H a (.lst xs)\/
   ∃(o:Obj) (jf:Array A1) (n:Nat),K.lookup a=some o/\o.cls=.type "list"/\o.dict=none/\o.data=.seq jf n/\jf.size<=B7/\Vals xs jf.toList
def SqT (K:A7)(H:Hp)(a:A0)(xs:List V):Prop:=
 Rd H a (.tup xs)\/
   ∃(o:Obj) (jf:Array A1) (n:Nat),K.lookup a=some o/\o.cls=.type "tuple"/\o.data=.seq jf n/\jf.size<=B7/\Vals xs jf.toList
noncomputable def absV:A1->Option V
 |.none=>some .non
 |.bool b=>some (.bl b)
 |.int i _=>some (.int i)
 |.str x _=>some (.str x)
 |.bytes b _=>some (.byt b)
 |.float b _=>some (.flt b)
 |.ref a=>some (.ref a)
 |.type n=>some (.ty n)
 |_=>none
theorem RelV.abs {x:V}{u:A1}(r:RelV x u):absV u=some x:=by grind [RelV,V,absV]
theorem RelV.inj {x y:V}{u:A1}(r:RelV x u)(q:RelV y u):x=y:=by grind [RelV,V]
theorem Vals.inj (h:Vals xs us)(h':Vals ys us):xs=ys:=by
 induction h generalizing ys with
 |nil=>cases h';rfl
 |cons r t ih=>cases h' with|cons r' t'=>rw[r.inj r',ih t']
section
variable {X:Cx}{jb:List (A0×Obj)}{σ:St}{H:Hp}{s:A4}{a:A0}{xs ys:List V}
theorem SqL.of {K:A7}(h:H a=some (.lst xs)):SqL K H a xs:=.inl (.inl h)
theorem SqT.of {K:A7}(h:H a=some (.tup xs)):SqT K H a xs:=.inl (.inl h)
theorem Inv.list (I:Inv X jb σ H s)(h:SqL X.K H a xs):∃jf:List A1,Vals xs jf/\PlainL s.heap a jf.toArray/\xs.length<=B7:=by
 rcases h with h|⟨o,jf,n,hk,hc,hd,hs,hz,r⟩
 ·obtain⟨z,jf,n,r,e⟩:=h.ok I.hok;exact⟨jf,r,⟨_,n,e,rfl,rfl,rfl⟩,z⟩
 ·refine⟨jf.toList,r,⟨o,n,I.kIn a o hk,hc,hd,by simpa using hs⟩,?_⟩;have e:=r.length;simp only[M8] at e;omega
theorem Inv.tuple (I:Inv X jb σ H s)(h:SqT X.K H a xs):∃jf:List A1,Vals xs jf/\IsTup s.heap a jf.toArray/\xs.length<=B7:=by
 rcases h with h|⟨o,jf,n,hk,hc,hs,hz,r⟩
 ·obtain⟨z,jf,r,p⟩:=h.ok I.hok;exact⟨jf,r,p.is,z⟩
 ·refine⟨jf.toList,r,⟨o,I.kIn a o hk,hc,n,by simpa using hs⟩,?_⟩;have e:=r.length;simp only[M8] at e;omega
theorem Inv.list_inj (I:Inv X jb σ H s)(h:SqL X.K H a xs)(h':SqL X.K H a ys):xs=ys:=by
 obtain⟨jf,r,⟨o,n,e,_,_,d⟩,_⟩:=I.list h;obtain⟨its',r',⟨o',n',e',_,_,d'⟩,_⟩:=I.list h';rw[e] at e';cases e';rw[d] at d';injection d' with d1 _;have:jf=its':=by simpa using congrArg Array.toList d1
 subst this;exact r.inj r'
theorem Inv.tuple_inj (I:Inv X jb σ H s)(h:SqT X.K H a xs)(h':SqT X.K H a ys):xs=ys:=by
 obtain⟨jf,r,⟨o,e,_,n,d⟩,_⟩:=I.tuple h;obtain⟨its',r',⟨o',e',_,n',d'⟩,_⟩:=I.tuple h';rw[e] at e';cases e';rw[d] at d';injection d' with d1 _;have:jf=its':=by simpa using congrArg Array.toList d1
 subst this;exact r.inj r'
end
abbrev Cx.wish (X:Cx)(E:A1->A4->Prop):Cx:={ X with xe:=E }
abbrev Cx.nox (X:Cx):Cx:=X.wish λ_ _=>False
theorem Cx.Ok.wish {X:Cx}(ok:X.Ok)(E:A1->A4->Prop):(X.wish E).Ok:=
 ⟨ok.mod,ok.kind,ok.glob,ok.blt,ok.above,ok.inj,ok.has,ok.cab,ok.hd,ok.frames,ok.stk,ok.exf,ok.bs,ok.bsz,ok.noex,ok.exfs,ok.funs,ok.frf,ok.nos⟩
theorem Cx.Ok.unwish {X:Cx}(ok:(X.wish E).Ok):X.Ok:=
 ⟨ok.mod,ok.kind,ok.glob,ok.blt,ok.above,ok.inj,ok.has,ok.cab,ok.hd,ok.frames,ok.stk,ok.exf,ok.bs,ok.bsz,ok.noex,ok.exfs,ok.funs,ok.frf,ok.nos⟩
section
variable {X:Cx}{jb:List (A0×Obj)}{σ:St}{H:Hp}{s:A4}{E:A1->A4->Prop}
theorem Inv.wish (I:Inv X jb σ H s)(E:A1->A4->Prop):Inv (X.wish E) jb σ H s:=⟨I.ok.wish E,I.os,I.bare,I.base,I.loc,I.cell,I.free,I.freeC,I.pin,I.hok,I.len⟩
theorem Inv.unwish (I:Inv (X.wish E) jb σ H s):Inv X jb σ H s:=⟨I.ok.unwish,I.os,I.bare,I.base,I.loc,I.cell,I.free,I.freeC,I.pin,I.hok,I.len⟩
theorem SP.unwish (h:SP (X.wish E) jb D f s'):SP X jb D f s':=by
 cases f with
 |next=>obtain⟨σ',H',I,q⟩:=h;exact⟨σ',H',I.unwish,q⟩
 |brk=>obtain⟨σ',H',I,q⟩:=h;exact⟨σ',H',I.unwish,q⟩
 |cont=>obtain⟨σ',H',I,q⟩:=h;exact⟨σ',H',I.unwish,q⟩
 |ret u=>obtain⟨v,σ',H',I,r,q⟩:=h;exact⟨v,σ',H',I.unwish,r,q⟩
theorem PSs.nox {st:List Stmt}(h:PSs X.nox st t):PSs X st t:=λjb s σ H D I hw=>
 F7 (h jb s σ H D (I.wish _) hw) (λ_ _ q=>q.unwish) λ_ _ z=>d7 z
end
section
variable {X:Cx}{st:Stmt}{rest:List Stmt}{t u:TS}{e:Expr}{te:TE}{pos:Pos}
def tNext:TS:=λD σ H=>D.nx σ H
def tSeq (t u:TS):TS:=λD σ H=>t { D with nx:=u D } σ H
theorem GL:PSs X [] tNext:=λ_ _ σ H _ I h=>wpAny_execs_nil ⟨σ,H,I,h⟩
theorem e7 (h1:PS X st t)(h2:PSs X rest u):PSs X (st::rest) (tSeq t u):=by
 intro jb s σ H D I h;refine wpAny_execs_cons (thn (h1 jb s σ H { D with nx:=u D } I h) λf s1 q=>?_);cases f with
 | next =>
  obtain⟨σ',H',I',q⟩:=q;exact h2 jb s1 σ' H' D I' q
 |ret v=>exact q
 |brk=>exact q
 |cont=>exact q
theorem Dt (h1:PS X st t):PSs X [st] t:=by
 intro jb s σ H D I h;refine wpAny_execs_cons (thn (h1 jb s σ H D I h) λf s1 q=>?_);cases f with
 |next=>exact wpAny_execs_nil q
 |ret v=>exact q
 |brk=>exact q
 |cont=>exact q
theorem Inv.quiet (I:Inv X jb σ H s):interactive X.env=false:=by simp[interactive,I.ok.kind]
def GM (te:TE):TS:=λD σ H=>te σ H λ_ H1=>D.nx σ H1
theorem NB (he:PE X e te)(hs:k5 e none pos.line X.env=pure false:=by rfl):PS X (.Expr e pos) (GM te):=by
 intro jb s σ H D I h;exact wpAny_Expr_any (thn (he jb s σ H _ I h) λv s1 ⟨x,H1,I1,r1,q1⟩=>⟨σ,H1,I1,q1⟩) I.quiet hs
def tRet (te:TE):TS:=λD σ H=>te σ H D.rt
theorem Du (he:PE X e te):PS X (.Return (some e) pos) (tRet te):=by
 intro jb s σ H D I h;exact wpAny_Return_some (thn (he jb s σ H _ I h) λv s1 ⟨x,H1,I1,r1,q1⟩=>⟨x,σ,H1,I1,r1,q1⟩)
def tIfS (c:TT)(t u:TS):TS:=λD σ H=>c σ H λb H1=>if b=true then t D σ H1 else u D σ H1
theorem GN (hc:PT X c tc)(ha:PSs X a t)(hb:PSs X b u):PS X (.If c a b pos) (tIfS tc t u):=by
 intro jb s σ H D I h;refine wpAny_If (thn (hc jb s σ H _ I h) λd s1 ⟨H1,I1,q1⟩=>?_);cases d with
 |true=>exact ha jb s1 σ H1 D I1 q1
 |false=>exact hb jb s1 σ H1 D I1 q1
end
abbrev TG:=V->St->Hp->(St->Hp->Prop)->Prop
abbrev TGs:=List V->St->Hp->(St->Hp->Prop)->Prop
def PG (X:Cx)(target:Expr)(t:TG):Prop:=
 ∀ (jb : List (A0 × Obj)) (s : A4) (σ : St) (H : Hp) (v : V) (u : A1) (Q : St -> Hp -> Prop), Inv X jb σ H s -> RelV v u -> t v σ H Q ->
   A5 (A6 X.prog X.w) X.A (assign target X.env u) (λ_ s'=>∃σ' H',Inv X jb σ' H' s'/\Q σ' H') X.xe s
def PGs (X:Cx)(ts:List Expr)(t:TGs):Prop:=
 ∀ (jb : List (A0 × Obj)) (s : A4) (σ : St) (H : Hp) (vs : List V) (us : List A1) (Q : St -> Hp -> Prop), Inv X jb σ H s -> Vals vs us -> t vs σ H Q ->
   A5 (A6 X.prog X.w) X.A (assignInOrder ((O5 ts X.env).map (·.2)) us) (λ_ s'=>∃σ' H',Inv X jb σ' H' s'/\Q σ' H') X.xe s
abbrev TSet:=V->V->V->Hp->(Hp->Prop)->Prop
def PSet (X:Cx)(t:TSet):Prop:=
 ∀ (jb : List (A0 × Obj)) (s : A4) (σ : St) (H : Hp) (o i v : V) (ov iv u : A1) (Q : Hp -> Prop), Inv X jb σ H s -> RelV o ov -> RelV i iv -> RelV v u -> t o i v H Q ->
   A5 (A6 X.prog X.w) X.A (setItem ov iv u) (λ_ s'=>∃H',Inv X jb σ H' s'/\Q H') X.xe s
abbrev TIp:=V->V->Hp->VK->Prop
def PIp (X:Cx)(op:Operator)(t:TIp):Prop:=
 ∀ (jb : List (A0 × Obj)) (s : A4) (σ : St) (H : Hp) (x y : V) (v u : A1) (Q : VK), Inv X jb σ H s -> RelV x v -> RelV y u -> t x y H Q ->
   A5 (A6 X.prog X.w) X.A (inplaceOp op v u) (EP X jb σ Q) X.xe s
section
variable {X:Cx}{pos:Pos}
def P9 (i:Nat):TG:=λv σ H Q=>Q (σ.set i (some v)) H
theorem NC (hN:X.N.Nodup)(hi:X.N[i]?=some x)(hx:Loc X.env.scope x)(hf:X.fn x=true\/X.env.scope.names.lookup x=some .local:=by first|exact .inl rfl|exact .inr rfl|assumption):PG X (.Name x pos) (P9 i):=by
 intro jb s σ H v u Q I r h;exact wpAny_assign_Name (Ds I hN hi hx r (λs' I'=>⟨_,H,I',h⟩) hf)
def gNil:TGs:=λvs σ H Q=>vs=[]/\Q σ H
def Dv (t:TG)(u:TGs):TGs:=λvs σ H Q=>∃v r,vs=v::r/\t v σ H λσ' H'=>u r σ' H' Q
theorem Jy:PGs X [] gNil:=by
 intro jb s σ H vs us Q I r h;obtain⟨e,h⟩:=h;subst e;cases r;exact assignInOrder_nil ⟨σ,H,I,h⟩
theorem GO (h1:PG X e t)(h2:PGs X es u)
   (hs:(O5 (e::es) X.env).map (·.2)=assign e X.env::(O5 es X.env).map (·.2):=by rfl):PGs X (e::es) (Dv t u):=by
 intro jb s σ H vs us Q I r h;obtain⟨v,vr,e1,h⟩:=h;subst e1;cases r with
 | cons r rr =>
  rw[hs];refine assignInOrder_cons (thn (h1 jb s σ H _ _ _ I r h) λ_ s1 ⟨σ1,H1,I1,q1⟩=>?_);exact h2 jb s1 σ1 H1 _ _ Q I1 rr q1
def gTup (K:A7)(n:Nat)(t:TGs):TG:=λv σ H Q=>∃a xs,v=.ref a/\SqT K H a xs/\xs.length=n/\t xs σ H Q
theorem Jz (hc:X.calm=true)(h:PGs X es t)
   (hn:(O5 es X.env).length=n:=by rfl) (hst:(O5 es X.env).findIdx? (·.1)=none:=by rfl):PG X (.Tuple es k pos) (gTup X.K n t):=by
 intro jb s σ H v u Q I r hw;obtain⟨a,xs,e1,hq,hl,hw⟩:=hw;subst e1;cases r;obtain⟨jf,rv,ht,hz⟩:=I.tuple hq;refine assign_Tuple_tuple (I.ok.hd hc) ht (by simp[hn,<- hl,rv.length]) hst λh' hx=>?_;have I1:Inv X jb σ H { s with heap:=h' }:=I.kept (t':=s.toks) λb o e=>hx b o (D6 (B9 e)) e;exact h jb _ σ H xs _ Q I1 (by simpa using rv) hw
def gSub (to ti:TE)(t:TSet):TG:=λv σ H Q=>to σ H λo H1=>ti σ H1 λi H2=>t o i v H2 λH3=>Q σ H3
theorem EZ (ho:PE X o to)(hi:PE X i ti)(hs:PSet X t)
   (ha:∀v,assign (.Subscript o i pos) X.env v=(do
    let ov ← U7 [v] (eval o X.env)
    let iv ← U7 [v,ov] (eval i X.env)
    k6 pos
    U7 [v,ov,iv] (setItem ov iv v)
    release [v,ov,iv] []):=by intro _;rfl):PG X (.Subscript o i pos) (gSub to ti t):=by
 intro jb s σ H v u Q I r h;rw[ha];refine A2 (N4 (thn (ho jb s σ H _ I h) λov s1 ⟨x,H1,I1,r1,q1⟩=>?_));refine A2 (N4 (thn (hi jb s1 σ H1 _ I1 q1) λiv s2 ⟨y,H2,I2,r2,q2⟩=>?_));refine A2 (j8 (A2 (N4 (thn (hs jb s2 σ H2 x y v ov iv u _ I2 r1 r2 r q2) λ_ s3 ⟨H3,I3,q3⟩=>?_))));exact wpAny_release ⟨σ,H3,I3,q3⟩
def tAsg (te:TE)(g:TG):TS:=λD σ H=>te σ H λx H1=>g x σ H1 D.nx
theorem E_ (he:PE X e te)(hg:PG X tg g)(hs:swapsWithSole [tg] e pos.line X.env=pure false:=by rfl)(hw:swappedStores [tg] e X.env=pure none:=by rfl)
   (h1:(O5 [tg] X.env).map (·.2)=[assign tg X.env]:=by rfl):PS X (.Assign [tg] e pos) (tAsg te g):=by
 intro jb s σ H D I h;refine wpAny_Assign_stores (thn (he jb s σ H _ I h) λv s1 ⟨x,H1,I1,r1,q1⟩=>?_) hs hw;rw[h1];exact thn (hg jb s1 σ H1 x v _ I1 r1 q1) λ_ s2 q=>q
theorem Bm (hN:X.N.Nodup)(hi:X.N[i]?=some x)(hx:Loc X.env.scope x)(he:PE X e te)(hs:k5 e (some (.Name x pos')) pos.line X.env=pure false:=by rfl)(hf:X.fn x=true\/X.env.scope.names.lookup x=some .local:=by first|exact .inl rfl|exact .inr rfl|assumption) :
   PS X (.Assign [.Name x pos'] e pos) (tAsg te (P9 i)):=by
 intro jb s σ H D I h;refine wpAny_Assign_Name (thn (he jb s σ H _ I h) λv s1 ⟨y,H1,I1,r1,q1⟩=>?_) hs;exact Ds I1 hN hi hx r1 (λs2 I2=>⟨_,H1,I2,q1⟩) hf
def tPar (i j:Nat)(ta:TA):TS:=λD σ H=>ta σ H λvs H1=>∃v w,vs=[v,w]/\D.nx ((σ.set i (some v)).set j (some w)) H1
theorem ps_par {i j:Nat}{x y:Str}{a b:Expr}{ta:TA}{px py pt:Pos}{kt k2 pt2}(hc:X.calm=true)(hN:X.N.Nodup)(hi:X.N[i]?=some x)(hj:X.N[j]?=some y)(hij:i≠j)
   (hx:X.env.scope.names.lookup x=some .local) (hy:X.env.scope.names.lookup y=some .local) (ha:PA X [a,b] ta)
   (hw:swappedStores [.Tuple [.Name x px,.Name y py] kt pt] (.Tuple [a,b] k2 pt2) X.env=pure (some [x,y]))
   (hs:swapsWithSole [.Tuple [.Name x px,.Name y py] kt pt] (.Tuple [a,b] k2 pt2) pos.line X.env=pure false:=by rfl) :
   PS X (.Assign [.Tuple [.Name x px,.Name y py] kt pt] (.Tuple [a,b] k2 pt2) pos) (tPar i j ta):=by
 intro jb s σ H D I h;rw[exec_Assign_arm];refine A2 (j8 ?_);rw[hs];refine A2 (A8 ?_);rw[ju (by decide)];refine A2 (Tuple_ (thn (ha _ jb s σ H _ I h) λus s1 ⟨vs,H1,I1,r1,q1⟩=>?_));obtain⟨v,w,e1,q1⟩:=q1;subst e1
 obtain⟨u1,u2,rfl,rv,rw'⟩:∃u1 u2,us=[u1,u2]/\RelV v u1/\RelV w u2:=by
  cases r1 with
  | cons p q =>
   cases q with
   | cons p' q' =>
    cases q';exact⟨_,_,rfl,p,p'⟩
 refine N1 ?_ (by show 2<=B7;decide);have I2:Inv X jb σ H1 { s1 with heap:=s1.heap.push { cls:=.type "tuple",data:=.seq [u1,u2].toArray } }:=I1.kept (t':=s1.toks) λb o e=>B6 _ e;rw[hw];refine A2 (A8 ?_);show A5 (A6 X.prog X.w) X.A (do rule "assign.swapped-stores";let items ← unpackItems (.ref s1.heap.objs.size) 2 none;assignInOrder [λv=>bindName X.env y v,λv=>bindName X.env x v] items.reverse;pure Flow.next) _ _ _;refine A2 (j9 (A2 (unpackItems_tuple (items:=#[u1,u2]) (I.ok.hd hc) (IsTup.new s1.heap _) λh' hx'=>?_)));have I3:=I2.kept (h':=h') (t':=s1.toks) λb o e=>hx' b o (D6 (B9 e)) e;show A5 _ _ (assignInOrder [λv=>bindName X.env y v,λv=>bindName X.env x v] [u2,u1]>>=λ_=>pure Flow.next) _ _ _;refine A2 (assignInOrder_cons (wpAny_bindName (Ds I3 hN hj (.inl hy) rw' (λs2 I4=>?_) (.inr hy))));refine assignInOrder_cons (wpAny_bindName (Ds I4 hN hi (.inl hx) rv (λs3 I5=>assignInOrder_nil (A8 ?_)) (.inr hx)));rw[BL _ _ (Ne.symm hij)] at I5;exact⟨_,H1,I5,q1⟩
def tAug (i:Nat)(te:TE)(ti:TIp):TS:=λD σ H=>∃x,σ[i]?=some (some x)/\te σ H λy H1=>ti x y H1 λz H2=>D.nx (σ.set i (some z)) H2
theorem ps_aug (hN:X.N.Nodup)(hi:X.N[i]?=some x)(hx:Loc X.env.scope x)(he:PE X e te)(ho:PIp X op ti)(hf:X.fn x=true\/X.env.scope.names.lookup x=some .local:=by first|exact .inl rfl|exact .inr rfl|assumption) :
   PS X (.AugAssign (.Name x pos') op e pos) (tAug i te ti):=by
 intro jb s σ H D I h;obtain⟨v,e1,h⟩:=h;obtain⟨m,hn,hl⟩:=I.loc;have vis:Vis X.env.scope x:=by rcases hx with k|k;exact .inl k;exact .inr (.inl k)
 obtain⟨u,r,l⟩:=hl i x v hi e1 vis;refine wpAny_AugAssign_Name ?_
 have go:A5 (A6 X.prog X.w) X.A (eval e X.env) (λw s₂=>A5 (A6 X.prog X.w) X.A (inplaceOp op u w) (λr s₃=>A5 (A6 X.prog X.w) X.A (storeName X.env x r) (λ_=>SP X jb D .next) X.xe s₃) X.xe s₂) X.xe s:=by
  refine thn (he jb s σ H _ I h) λw s1 ⟨y,H1,I1,r1,q1⟩=>?_;refine thn (ho jb s1 σ H1 v y u w _ I1 r r1 q1) λz s2 ⟨zv,H2,I2,r2,q2⟩=>?_;exact Ds I2 hN hi hx r2 (λs3 I3=>⟨_,H2,I3,q2⟩) hf
 rcases l with⟨hk,hm⟩|⟨hk,c,hc,hcell⟩
 ·exact wpAny_loadName_local I.ok.kind hk hn hm go
 ·rcases hk with hk|hk
  ·exact wpAny_loadName_cell I.ok.kind hk hc hcell go
  ·rcases hx with k|k
   ·have:X.env.scope.names.lookup x=some .free:=hk;rw[k] at this;cases this
   ·have:X.env.scope.names.lookup x=some .free:=hk;rw[k] at this;cases this
end
structure It where
 go:Nat->Hp->Prop
 yld:Nat->Hp->V->Hp->Prop
 stop:Nat->Hp->Prop
def FpOk (X:Cx)(jb:List (A0×Obj))(H:Hp)(b:A0):Prop:=
 H b=none/\b≠X.env.locals/\b∉X.fs/\(b∈X.ex\/X.s₀.heap.objs.size<=b)/\(∀x c,X.env.cells.lookup x=some c->c≠b)/\∀p∈X.pn++jb,p.1≠b
theorem Inv.fpOk (I:Inv X jb σ H s)(hb:s.heap.objs.size<=b)(hn:H' b=none):FpOk X jb H' b:=by
 refine⟨hn,y7 (G0 I.lt hb),I.nofs hb,.inr (E5 I.sz hb),λx c e z=>?_,λp hp z=>?_⟩
 ·obtain⟨v,q⟩:=I.cell x c e;exact absurd (G0 q.lt (by rw[z];exact hb)) (Q9 _)
 ·exact absurd (G0 (B9 (I.pin p hp).1) (by rw[z];exact hb)) (Q9 _)
structure Turn (P:C3)(w:B8)(K:A7)(tg:Expr)(J:It)(fp:List A0)(it:A0)(tn:Nat->B1->Prop):Prop where
 mem:it∈fp
 obj:∀i h,tn i h->∀b∈fp,∃o,h.get? b=some o/\∀v,o.data≠.cell v
 keep:∀i h h',tn i h->(∀b∈fp,∀o,h.get? b=some o->h'.get? b=some o)->tn i h'
 item:∀(X:Cx),X.prog=P->X.w=w->X.K=K->X.calm=true->∀(i:Nat) (jb:List (A0×Obj)) (s:A4) (σ:St) (H:Hp) (E:A1->A4->Prop),Inv X jb σ H s->(∀b∈fp,FpOk X jb H b)->tn i s.heap->J.go i H->
   A5 (A6 P w) X.A (pyNext (.ref it)) (λr s1=>∃u,r=some u/\
     A5 (A6 P w) X.A (Ap tg (.ref it) u) (λ_ s2=>∃x H',Inv X jb σ H' s2/\RelV x u/\J.yld i H x H'/\tn (i+1) s2.heap/\∀b∈fp,H' b=none) E s1) E s
 done:∀(X:Cx),X.prog=P->X.w=w->X.K=K->X.calm=true->∀(i:Nat) (jb:List (A0×Obj)) (s:A4) (σ:St) (H:Hp) (E:A1->A4->Prop),Inv X jb σ H s->(∀b∈fp,FpOk X jb H b)->tn i s.heap->J.stop i H->
   A5 (A6 P w) X.A (pyNext (.ref it)) (λr s1=>r=none/\Inv X jb σ H s1) E s
 self:∀(A:C8) (i:Nat) (s:A4) (Q:A1->A4->Prop) (E:A1->A4->Prop),tn i s.heap->Q (.ref it) s->A5 (A6 P w) A (pyIter (.ref it)) Q E s
abbrev TI:=St->Hp->(It->Hp->Prop)->Prop
def PIE (X:Cx)(jb:List (A0×Obj))(σ:St)(tg:Expr)(R:It->Hp->Prop)(itv:A1)(s2:A4):Prop:=
 ∃(it:A0) (fp:List A0) (tn:Nat->B1->Prop) (J:It) (H':Hp),itv=.ref it/\Inv X jb σ H' s2/\Turn X.prog X.w X.K tg J fp it tn/\tn 0 s2.heap/\(∀b∈fp,FpOk X jb H' b)/\R J H'
def PI (X:Cx)(tg iter:Expr)(wi:TI):Prop:=
 ∀ (jb : List (A0 × Obj)) (s : A4) (σ : St) (H : Hp) (R : It -> Hp -> Prop), Inv X jb σ H s -> wi σ H R ->
   A5 (A6 X.prog X.w) X.A (eval iter X.env) (λv s1=>A5 (A6 X.prog X.w) X.A (pyIter v) (PIE X jb σ tg R) X.xe s1) X.xe s
theorem GP (ho:s.heap.get? it=some o)(hc:o.cls=.type n)(hd:o.data=.fields vs)
   (hn:["enumerate","zip","dict_itemiterator","dict_reverseitemiterator","odict_iterator","itertools.zip_longest","itertools.pairwise"].contains n=false) (hQ:Q () s):A5 M A (Ap tg (.ref it) u) Q E s:=by
 unfold Ap
 cases tg <;> first
   |exact A8 hQ
   |(cases u <;> first
       |exact A8 hQ
       | (refine A2 (wpAny_load ho ?_)
          rw[hc,hd];show A5 M A (if(["enumerate","zip","dict_itemiterator","dict_reverseitemiterator","odict_iterator","itertools.zip_longest","itertools.pairwise"].contains n&&vs[0]? == some (rawInt _))=true then _ else _) Q E s;rw[ju (by intro h;rw[hn,O8] at h;cases h)]
          exact A8 hQ))
def Itl (K:A7)(a:A0):It:=
 ⟨λi H=>∃xs x,SqL K H a xs/\xs[i]?=some x,λi H x H'=>H'=H/\∀xs,SqL K H a xs->xs[i]?=some x,λi H=>∃xs,SqL K H a xs/\xs.length<=i⟩
def Itt (K:A7)(a:A0):It:=
 ⟨λi H=>∃xs x,SqT K H a xs/\xs[i]?=some x,λi H x H'=>H'=H/\∀xs,SqT K H a xs->xs[i]?=some x,λi H=>∃xs,SqT K H a xs/\xs.length<=i⟩
def Itr (lo:Int)(n:Nat):It:=⟨λi _=>i<n,λi H x H'=>H'=H/\x=.int (lo+i),λi _=>n<=i⟩
theorem ND {K:A7}(a it:A0):Turn P w K tg (Itl K a) [it] it (λi h=>h.IsListIter it a i) where
 mem:=by simp
 obj:=λi h st b hb=>by
  have e:b=it:=by simpa using hb
  subst e;obtain⟨o,e,c,d⟩:=st;exact⟨o,e,λv z=>by rw[d] at z;cases z⟩
 keep:=λi h h' st k=>st.at λo e=>k it (by simp) o e
 item:=by
  intro X hP hw hK hc i jb s σ H E I hf st hg;subst hP hw hK;obtain⟨xs,x,hq,hx⟩:=hg;obtain⟨jf,rv,p,hz⟩:=I.list hq;obtain⟨u,hu,ru⟩:=rv.get hx;obtain⟨f0,f1,f2,f3,f4,f5⟩:=hf it (by simp);refine wpAny_pyNext_list_item st p.isList (x:=u) (by simpa using hu) λh' st' sb=>?_;have I1:Inv X jb σ H { s with heap:=h' }:=I.turned (t':=s.toks) (λb o hb e=>(sb.2 b hb).trans e) f0 f1 f3 f4 f5;obtain⟨o,e,c,d⟩:=id st';exact⟨u,rfl,GP (s:={ s with heap:=h' }) e c d (by decide) ⟨x,H,I1,ru,⟨rfl,λys hy=>by rw[I.list_inj hy hq];exact hx⟩,st',λb hb=>(hf b hb).1⟩⟩
 done:=by
  intro X hP hw hK hc i jb s σ H E I hf st hg;subst hP hw hK;obtain⟨xs,hq,hx⟩:=hg;obtain⟨jf,rv,p,hz⟩:=I.list hq;obtain⟨f0,f1,f2,f3,f4,f5⟩:=hf it (by simp);have hl:=rv.length;exact wpAny_pyNext_list_end (I.ok.hd hc) st p.isList (by simp;omega) λh' eb=>⟨rfl,I.turned (t':=s.toks) (λb o hb e=>eb b o hb e) f0 f1 f3 f4 f5⟩
 self:=λ_ _ _ _ _ st h=>wpAny_pyIter_listiter st h
theorem NE {K:A7}(a it:A0):Turn P w K tg (Itt K a) [it] it (λi h=>h.IsTupleIter it a i) where
 mem:=by simp
 obj:=λi h st b hb=>by
  have e:b=it:=by simpa using hb
  subst e;obtain⟨o,e,c,d⟩:=st;exact⟨o,e,λv z=>by rw[d] at z;cases z⟩
 keep:=λi h h' st k=>st.at λo e=>k it (by simp) o e
 item:=by
  intro X hP hw hK hc i jb s σ H E I hf st hg;subst hP hw hK;obtain⟨xs,x,hq,hx⟩:=hg;obtain⟨jf,rv,p,hz⟩:=I.tuple hq;obtain⟨u,hu,ru⟩:=rv.get hx;obtain⟨f0,f1,f2,f3,f4,f5⟩:=hf it (by simp);refine wpAny_pyNext_tuple_item st (show s.heap.IsTuple a jf.toArray from p) (x:=u) (by simpa using hu) λh' st' sb=>?_;have I1:Inv X jb σ H { s with heap:=h' }:=I.turned (t':=s.toks) (λb o hb e=>(sb.2 b hb).trans e) f0 f1 f3 f4 f5;obtain⟨o,e,c,d⟩:=id st';exact⟨u,rfl,GP (s:={ s with heap:=h' }) e c d (by decide) ⟨x,H,I1,ru,⟨rfl,λys hy=>by rw[I.tuple_inj hy hq];exact hx⟩,st',λb hb=>(hf b hb).1⟩⟩
 done:=by
  intro X hP hw hK hc i jb s σ H E I hf st hg;subst hP hw hK;obtain⟨xs,hq,hx⟩:=hg;obtain⟨jf,rv,p,hz⟩:=I.tuple hq;obtain⟨f0,f1,f2,f3,f4,f5⟩:=hf it (by simp);have hl:=rv.length;exact wpAny_pyNext_tuple_end (I.ok.hd hc) st (show s.heap.IsTuple a jf.toArray from p) (by simp;omega) λh' eb=>⟨rfl,I.turned (t':=s.toks) (λb o hb e=>eb b o hb e) f0 f1 f3 f4 f5⟩
 self:=λ_ _ _ _ _ st h=>wpAny_pyIter_tupleiter st h
theorem NF {K:A7}(it:A0)(lo:Int)(n:Nat):Turn P w K tg (Itr lo n) [it] it (λi h=>IsRangeIter h it (lo+(i:Nat)*1) ((n:Int)-(i:Nat)) 1) where
 mem:=by simp
 obj:=fun i h st b hb=>by
  have e:b=it:=by simpa using hb
  subst e
  exact⟨_,st,λv z=>by
   have z':Dr _=Data.cell v:=z
   cases z'⟩
 keep:=λi h h' st k=>k it (by simp) _ st
 item:=by
  intro X hP hw hK hc i jb s σ H E I hf st hg;subst hP hw hK;obtain⟨f0,f1,f2,f3,f4,f5⟩:=hf it (by simp);have W:=Walks.range (prog:=X.prog) (w:=X.w) (I.ok.hd hc) it lo 1 n;refine W.item i s _ _ hg st λv h' tk hv st' kk=>?_;obtain⟨t,rfl⟩:=hv;have I1:Inv X jb σ H { s with heap:=h',toks:=tk }:=I.turned (λb o hb e=>kk b o (by simpa using hb) e) f0 f1 f3 f4 f5;refine⟨_,rfl,GP (s:={ s with heap:=h',toks:=tk }) (n:="range_iterator") st' rfl rfl (by decide) ⟨.int (lo+i),H,I1,⟨t,?_⟩,⟨rfl,rfl⟩,st',λb hb=>(hf b hb).1⟩⟩;rw[Int.mul_one]
 done:=by
  intro X hP hw hK hc i jb s σ H E I hf st hg;subst hP hw hK;obtain⟨f0,f1,f2,f3,f4,f5⟩:=hf it (by simp);exact wpAny_pyNext_range_end (I.ok.hd hc) st (by have:n<=i:=hg;omega) λh' eb=>⟨rfl,I.turned (t':=s.toks) (λb o hb e=>eb b o hb e) f0 f1 f3 f4 f5⟩
 self:=λ_ _ _ _ _ st h=>wpAny_pyIter_rangeiter st h
section
variable {X:Cx}{tg:Expr}
def iList (K:A7)(tl:TE):TI:=λσ H R=>tl σ H λx H1=>∃a,x=.ref a/\(∃xs,SqL K H1 a xs)/\R (Itl K a) H1
def iTup (K:A7)(tl:TE):TI:=λσ H R=>tl σ H λx H1=>∃a,x=.ref a/\(∃xs,SqT K H1 a xs)/\R (Itt K a) H1
theorem NG (hl:PE X l tl):PI X tg l (iList X.K tl):=by
 intro jb s σ H R I h;refine thn (hl jb s σ H _ I h) λv s1 ⟨x,H1,I1,r1,q1⟩=>?_;obtain⟨a,e,⟨xs,hq⟩,q⟩:=q1;subst e;cases r1;obtain⟨jf,rv,p,hz⟩:=I1.list hq;refine CN p.isList ?_;refine⟨s1.heap.objs.size,[s1.heap.objs.size],_,_,H1,rfl,I1.kept (t':=s1.toks) λb o e=>B6 _ e,ND a _,⟨_,E4 _ rfl,rfl,rfl⟩,λb hb=>?_,q⟩;have e:b=s1.heap.objs.size:=by simpa using hb
 subst e;exact I1.fpOk (B3 _) (I1.hok.fresh (B3 _))
theorem pi_tup (hl:PE X l tl):PI X tg l (iTup X.K tl):=by
 intro jb s σ H R I h;refine thn (hl jb s σ H _ I h) λv s1 ⟨x,H1,I1,r1,q1⟩=>?_;obtain⟨a,e,⟨xs,hq⟩,q⟩:=q1;subst e;cases r1;obtain⟨jf,rv,p,hz⟩:=I1.tuple hq;refine BD (show s1.heap.IsTuple a jf.toArray from p) ?_;refine⟨s1.heap.objs.size,[s1.heap.objs.size],_,_,H1,rfl,I1.kept (t':=s1.toks) λb o e=>B6 _ e,NE a _,⟨_,E4 _ rfl,rfl,rfl⟩,λb hb=>?_,q⟩;have e:b=s1.heap.objs.size:=by simpa using hb
 subst e;exact I1.fpOk (B3 _) (I1.hok.fresh (B3 _))
theorem NH {lo hi:Int}(I:Inv X jb σ H s)(h1:-(2 ^ 62)<=lo)(h2:lo<2 ^ 62)(h3:-(2 ^ 62)<=hi)(h4:hi<2 ^ 62)
   (q:R (Itr lo (hi-lo).toNat) H):A5 (A6 X.prog X.w) X.A (pyIter (.ref s.heap.objs.size)) (PIE X jb σ tg R) E { s with heap:=s.heap.push { cls:=.type "range",data:=.fields #[.int lo t,.int hi u,.int 1 v] },toks:=tk }:=by
 refine wpAny_pyIter_range (IsRange.new ..) (small_one h1 h2 h3 h4) ?_;have I1:Inv X jb σ H { s with heap:=s.heap.push { cls:=.type "range",data:=.fields #[.int lo t,.int hi u,.int 1 v] },toks:=tk }:=I.kept λb o e=>B6 _ e
 refine⟨(s.heap.push { cls:=.type "range",data:=.fields #[.int lo t,.int hi u,.int 1 v] }).objs.size,[(s.heap.push { cls:=.type "range",data:=.fields #[.int lo t,.int hi u,.int 1 v] }).objs.size],_,_,H,rfl,
  I1.kept (t':=tk) λb o e=>B6 _ e,NF _ lo (hi-lo).toNat,?_,λb hb=>?_,q⟩
 ·have e1:lo+((0:Nat):Int)*1=lo:=by simp
  have e2:(((hi-lo).toNat:Nat):Int)-((0:Nat):Int)=Builtin.Range.rangeSize lo hi 1:=by rw[rangeSize_one];split <;> omega
  show IsRangeIter _ _ (lo+((0:Nat):Int)*1) ((((hi-lo).toNat:Nat):Int)-((0:Nat):Int)) 1;rw[e1,e2];exact E4 _ rfl
 ·have e:b=(s.heap.push { cls:=.type "range",data:=.fields #[.int lo t,.int hi u,.int 1 v] }).objs.size:=by simpa using hb
  subst e;exact I1.fpOk (B3 _) (I1.hok.fresh (B3 _))
def iRng1 (ta:TA):TI:=λσ H R=>ta σ H λvs H1=>∃j:Int,vs=[.int j]/\-(2 ^ 62)<=j/\j<2 ^ 62/\R (Itr 0 j.toNat) H1
theorem NI (hg:Gl X "range")(hm:X.mg "range"=none)(ha:PA X [a] ta)(hs:E8 [a] X.env=[(false,eval a X.env)]:=by rfl):PI X tg (.Call (.Name "range" p) [a] [] pos) (iRng1 ta):=by
 intro jb s σ H R I h;refine Call_ (Bl I hg hm boot_range (Dk (thn (ha pos jb s σ H _ I h) λus s1 ⟨vs,H1,I1,r1,q1⟩=>?_) hs rfl));obtain⟨j,e,q1,q2,q⟩:=q1;subst e;cases r1 with
 | cons r rr =>
  cases rr;obtain⟨t,rfl⟩:=r;exact call_range_1 (NH I1 (by omega) (by omega) q1 q2 (by simpa using q))
def tFor (wi:TI)(g:TG)(tb:TS):TS:=λD σ H=>wi σ H λJ H1=>∃W:Nat->Nat->St->Hp->Prop,(∃m,W 0 m σ H1)/\∀i m σ H,W i m σ H->
 (J.stop i H/\D.nx σ H)\/(J.go i H/\∃N:St->Hp->Prop,(∀σ' H',N σ' H'->∃m',m'<m/\W (i+1) m' σ' H')/\∀x H',J.yld i H x H'->g x σ H' λσ2 H2=>tb { D with nx:=N,ct:=N,bk:=D.nx } σ2 H2)
def Ce (fp:List A0)(h:B1):List (A0×Obj):=fp.filterMap λb=>(h.get? b).map λo=>(b,o)
theorem GQ (hb:b∈fp)(e:h.get? b=some o):(b,o)∈Ce fp h:=List.mem_filterMap.mpr ⟨b,hb,by rw[e];rfl⟩
theorem NJ (hp:p∈Ce fp h):p.1∈fp/\h.get? p.1=some p.2:=by
 obtain⟨b,hb,e⟩:=List.mem_filterMap.mp hp;cases q:h.get? b with
 |none=>rw[q] at e;cases e
 | some o =>
  rw[q] at e;have e':(b,o)=p:=F6 e;subst e';exact⟨hb,q⟩
theorem Inv.pinned (I:Inv X jb σ H s)(hf:∀b∈fp,FpOk X jb H b)(ho:∀b∈fp,∃o,s.heap.get? b=some o/\∀v,o.data≠.cell v):Inv X (jb++Ce fp s.heap) σ H s:=
 I.pins_of fun p hp=>(K6.mp hp).elim (fun z=>I.pin p (X8 _ z)) fun z=>by
  obtain⟨hb,e⟩:=NJ z;obtain⟨f0,f1,f2,_⟩:=hf p.1 hb;obtain⟨o,e',d⟩:=ho p.1 hb;rw[e] at e';cases e';exact⟨e,f0,f1,f2,d⟩
theorem Inv.unpinned (I:Inv X (jb++pl) σ H s):Inv X jb σ H s:=I.pins_of λp hp=>I.pin p (X8 _ (A_ _ hp))
theorem ps_for (hp:PassesOwn (A6 X.prog X.w) X.A X.env X.xe)(hc:X.calm=true)(hi:PI X tg iter wi)(hg:PG X tg g)(hb:PSs X body tb)
   (hs:∀x,G7 iter X.env x=pure x:=by intro _;rfl):PS X (.For tg iter body [] pos) (tFor wi g tb):=by
 intro jb s σ H D I h;refine wpAny_For (thn (hi jb s σ H _ I h) λv s1 h1=>thn h1 λitv s2 h2=>?_) hs;obtain⟨it,fp,tn,J,H2,e,I2,T,st2,f2,W,⟨m0,w0⟩,turn⟩:=h2;subst e
 -- what stays true of the iterator's objects through the loop
 have stat:∀{H':Hp},(∀b∈fp,H' b=none)->∀b∈fp,FpOk X jb H' b:=λhn b hb=>⟨hn b hb,(f2 b hb).2⟩;refine codeAny_forLoop_any (λn s'=>∃i σ' H',Inv X jb σ' H' s'/\tn i s'.heap/\(∀b∈fp,H' b=none)/\W i n σ' H') ?_ m0 ⟨0,σ,H2,I2,st2,λb hb=>(f2 b hb).1,w0⟩;rintro n s3 ⟨i,σ3,H3,I3,st3,fr3,w3⟩;rcases turn i n σ3 H3 w3 with⟨stop,qn⟩|⟨go,N,hN,step⟩
 ·refine CO hp (thn (T.done X rfl rfl rfl hc i jb s3 σ3 H3 X.xe I3 (stat fr3) st3 stop) λr s4 ⟨hr,I4⟩=>?_);subst hr;exact wpAny_execs_nil ⟨σ3,H3,I4,qn⟩
 ·refine CO hp (thn (T.item X rfl rfl rfl hc i jb s3 σ3 H3 X.xe I3 (stat fr3) st3 go) λr s4 ⟨u,hr,h4⟩=>?_);subst hr;refine CO hp (thn h4 λ_ s5 ⟨x,H5,I5,r5,y5,st5,fr5⟩=>?_);have I5':=I5.pinned (stat fr5) (T.obj _ _ st5);refine CO hp (thn (hg _ s5 σ3 H5 x u _ I5' r5 (step x H5 y5)) λ_ s6 ⟨σ6,H6,I6,q6⟩=>?_);refine CO hp (thn (hb _ s6 σ6 H6 _ I6 q6) λf s7 q7=>?_)
  have again:∀{σ7:St} {H7:Hp},Inv X (jb++Ce fp s5.heap) σ7 H7 s7->N σ7 H7->∃m,m<n/\∃i σ' H',Inv X jb σ' H' s7/\tn i s7.heap/\(∀b∈fp,H' b=none)/\W i m σ' H':=λ{σ7 H7} I7 n7=>by
   obtain⟨m',hm,w7⟩:=hN σ7 H7 n7;refine⟨m',hm,i+1,σ7,H7,I7.unpinned,T.keep _ _ _ st5 λb hb o e=>(I7.pin (b,o) (X8 _ (X8 _ (GQ hb e)))).1,λb hb=>?_,w7⟩;obtain⟨o,e,d⟩:=T.obj _ _ st5 b hb;exact(I7.pin (b,o) (X8 _ (X8 _ (GQ hb e)))).2.1
  cases f with
  |next=>obtain⟨σ7,H7,I7,n7⟩:=q7;exact again I7 n7
  |cont=>obtain⟨σ7,H7,I7,n7⟩:=q7;exact again I7 n7
  |brk=>obtain⟨σ7,H7,I7,q7⟩:=q7;exact⟨σ7,H7,I7.unpinned,q7⟩
  |ret v=>obtain⟨x7,σ7,H7,I7,r7,q7⟩:=q7;exact⟨x7,σ7,H7,I7.unpinned,r7,q7⟩
end
abbrev R2:=V->V->Hp->VK->Prop
def OpR (X:Cx)(f:A1->A1->Sem A1)(r:R2):Prop:=
 ∀ (jb : List (A0 × Obj)) (s : A4) (σ : St) (H : Hp) (x y : V) (v u : A1) (Q : VK), Inv X jb σ H s -> RelV x v -> RelV y u -> r x y H Q ->
   A5 (A6 X.prog X.w) X.A (f v u) (EP X jb σ Q) X.xe s
def UnR (X:Cx)(f:A1->Sem A1)(r:V->Hp->VK->Prop):Prop:=
 ∀ (jb : List (A0 × Obj)) (s : A4) (σ : St) (H : Hp) (x : V) (v : A1) (Q : VK), Inv X jb σ H s -> RelV x v -> r x H Q ->
   A5 (A6 X.prog X.w) X.A (f v) (EP X jb σ Q) X.xe s
def K4 (X:Cx)(f:A1)(r:List V->Hp->VK->Prop):Prop:=
 ∀ (jb : List (A0 × Obj)) (s : A4) (σ : St) (H : Hp) (xs : List V) (us : List A1) (Q : VK), Inv X jb σ H s -> Vals xs us -> r xs H Q ->
   A5 (A6 X.prog X.w) X.A (call f us) (EP X jb σ Q) X.xe s
def TruR (X:Cx)(r:V->Hp->(Bool->Hp->Prop)->Prop):Prop:=
 ∀ (jb : List (A0 × Obj)) (s : A4) (σ : St) (H : Hp) (x : V) (v : A1) (Q : Bool -> Hp -> Prop), Inv X jb σ H s -> RelV x v -> r x H Q ->
   A5 (A6 X.prog X.w) X.A (truthy v) (TP X jb σ Q) X.xe s
def tOp (r:R2)(ta tb:TE):TE:=λσ H Q=>ta σ H λx H1=>tb σ H1 λy H2=>r x y H2 Q
def tUn (r:V->Hp->VK->Prop)(ta:TE):TE:=λσ H Q=>ta σ H λx H1=>r x H1 Q
def rI (C:Int->Int->Prop)(g:Int->Int->V):R2:=λx y H Q=>∃i j,x=.int i/\y=.int j/\C i j/\Q (g i j) H
def rI0 (g:Int->Int->V):R2:=λx y H Q=>∃i j,x=.int i/\y=.int j/\Q (g i j) H
def rU (g:Int->V):V->Hp->VK->Prop:=λx H Q=>∃i,x=.int i/\Q (g i) H
section
variable {X:Cx}{a b c:Expr}{ta tb tc:TE}{pos:Pos}
theorem binT (ha:PE X a ta)(hb:PE X b tb){R:V->V->Hp->Prop}(I:Inv X jb σ H s)
   (h:ta σ H λx H1=>tb σ H1 λy H2=>R x y H2) {f:A1->A1->Sem A1}
   (hf:∀v u s2 x y H2,Inv X jb σ H2 s2->RelV x v->RelV y u->R x y H2->A5 (A6 X.prog X.w) X.A (f v u) Q X.xe s2) :
   A5 (A6 X.prog X.w) X.A (eval a X.env) (λv s₁=>A5 (A6 X.prog X.w) X.A (eval b X.env) (λu s₂=>A5 (A6 X.prog X.w) X.A (f v u) Q X.xe s₂) X.xe s₁) X.xe s:=by
 refine thn (ha jb s σ H _ I h) λv s1 ⟨x,H1,I1,r1,q1⟩=>?_;refine thn (hb jb s1 σ H1 _ I1 q1) λu s2 ⟨y,H2,I2,r2,q2⟩=>?_;exact hf v u s2 x y H2 I2 r1 r2 q2
theorem G8 (ho:OpR X (Q5 op) r)(ha:PE X a ta)(hb:PE X b tb):PE X (.BinOp a op b pos) (tOp r ta tb):=by
 intro jb s σ H Q I h;exact wpAny_BinOp (binT ha hb I h λv u s2 x y H2 I2 rx ry q=>ho jb s2 σ H2 x y v u Q I2 rx ry q)
theorem pe_un (ho:UnR X (unaryOp op) r)(ha:PE X a ta):PE X (.UnaryOp op a pos) (tUn r ta):=by
 intro jb s σ H Q I h;exact UnaryOp_ (thn (ha jb s σ H _ I h) λv s1 ⟨x,H1,I1,r1,q1⟩=>ho jb s1 σ H1 x v Q I1 r1 q1)
theorem opI {g:Int->Int->Int}
   (rule:∀(i j:Int) (t u:Tok) (s:A4) (Q:A1->A4->Prop) (E:A1->A4->Prop),C i j->Q (.int (g i j) s.toks) { s with toks:=s.toks+1 }->A5 (A6 X.prog X.w) X.A (f (.int i t) (.int j u)) Q E s) :
   OpR X f (rI C λi j=>.int (g i j)):=by
 intro jb s σ H x y v u Q I rx ry h;obtain⟨i,j,rfl,rfl,hc,q⟩:=h;obtain⟨t,rfl⟩:=rx;obtain⟨t',rfl⟩:=ry;exact rule i j t t' s _ _ hc ⟨.int (g i j),H,I.tok _,⟨_,rfl⟩,q⟩
theorem opI0 {g:Int->Int->Int}
   (rule:∀(i j:Int) (t u:Tok) (s:A4) (Q:A1->A4->Prop) (E:A1->A4->Prop),Q (.int (g i j) s.toks) { s with toks:=s.toks+1 }->A5 (A6 X.prog X.w) X.A (f (.int i t) (.int j u)) Q E s) :
   OpR X f (rI0 λi j=>.int (g i j)):=by
 intro jb s σ H x y v u Q I rx ry h;obtain⟨i,j,rfl,rfl,q⟩:=h;obtain⟨t,rfl⟩:=rx;obtain⟨t',rfl⟩:=ry;exact rule i j t t' s _ _ ⟨.int (g i j),H,I.tok _,⟨_,rfl⟩,q⟩
theorem opB0 {g:Int->Int->Bool}
   (rule:∀(i j:Int) (t u:Tok) (s:A4) (Q:A1->A4->Prop) (E:A1->A4->Prop),Q (.bool (g i j)) s->A5 (A6 X.prog X.w) X.A (f (.int i t) (.int j u)) Q E s) :
   OpR X f (rI0 λi j=>.bl (g i j)):=by
 intro jb s σ H x y v u Q I rx ry h;obtain⟨i,j,rfl,rfl,q⟩:=h;obtain⟨t,rfl⟩:=rx;obtain⟨t',rfl⟩:=ry;exact rule i j t t' s _ _ ⟨.bl (g i j),H,I,rfl,q⟩
def CDiv (i j:Int):Prop:=0<j/\j<1073741824
def CPow (i j:Int):Prop:=0<=j/\j<=1000000/\i.natAbs<2 ^ 64
def CMul (i j:Int):Prop:=(-(2 ^ 64)<i/\i<2 ^ 64)\/(-(2 ^ 64)<j/\j<2 ^ 64)
theorem CMul.ok (h:CMul i j):IntMulOk i j:=by
 rcases h with⟨h1,h2⟩|⟨h1,h2⟩
 ·exact .of_left (intBits_le_64 h1 h2)
 ·exact .of_right (intBits_le_64 h1 h2)
theorem Bn:OpR X (Q5 .Add) (rI0 λi j=>.int (i+j)):=opI0 λ_ _ _ _ _ _ _ q=>add_int q
theorem op_sub:OpR X (Q5 .Sub) (rI0 λi j=>.int (i-j)):=opI0 λ_ _ _ _ _ _ _ q=>sub_int q
theorem Cf:OpR X (Q5 .Mult) (rI CMul λi j=>.int (i*j)):=opI λ_ _ _ _ _ _ _ hc q=>mul_int q hc.ok
theorem JA:OpR X (Q5 .FloorDiv) (rI CDiv λi j=>.int (i/j)):=opI λi j _ _ _ _ _ hc q=>by
 have h1:(0:Int)<j:=hc.1;have h2:j<1073741824:=hc.2;exact floordiv_int (by omega) (by rw[Int.fdiv_eq_ediv_of_nonneg i (by omega)];exact q) (.inl (PyProof.noPylong_small (by omega)))
theorem AF:OpR X (Q5 .Mod) (rI (λ_ j=>0<j) λi j=>.int (i%j)):=opI λi j _ _ _ _ _ hc q=>by
 have h1:(0:Int)<j:=hc;exact mod_int' (by omega) (by rw[Int.fmod_eq_emod_of_nonneg i (by omega)];exact q)
theorem JB:OpR X (Q5 .Pow) (rI CPow λi j=>.int (i ^ j.toNat)):=opI λ_ _ _ _ _ _ _ hc q=>pow_int_small hc.1 hc.2.1 hc.2.2 q
theorem unI {g:Int->Int}
   (rule:∀(i:Int) (t:Tok) (s:A4) (Q:A1->A4->Prop) (E:A1->A4->Prop),Q (.int (g i) s.toks) { s with toks:=s.toks+1 }->A5 (A6 X.prog X.w) X.A (f (.int i t)) Q E s) :
   UnR X f (rU λi=>.int (g i)):=by
 intro jb s σ H x v Q I rx h;obtain⟨i,rfl,q⟩:=h;obtain⟨t,rfl⟩:=rx;exact rule i t s _ _ ⟨.int (g i),H,I.tok _,⟨_,rfl⟩,q⟩
theorem JC:UnR X (unaryOp .USub) (rU λi=>.int (-i)):=unI λ_ _ _ _ _ q=>neg_int q
end
section
variable {X:Cx}{a b c:Expr}{ta tb tc:TE}{pos:Pos}
theorem Fa (I:Inv X jb σ H s)(q:Q (.bl k) H)(e:k=k'):EP X jb σ Q (.bool k') s:=by
 subst e;exact⟨.bl k,H,I,rfl,q⟩
theorem op_lt:OpR X (L7 .Lt) (rI0 λi j=>.bl (decide (i<j))):=opB0 λ_ _ _ _ _ _ _ q=>lt_int q
theorem op_le:OpR X (L7 .LtE) (rI0 λi j=>.bl (decide (i<=j))):=opB0 λ_ _ _ _ _ _ _ q=>le_int q
theorem op_gt:OpR X (L7 .Gt) (rI0 λi j=>.bl (decide (j<i))):=opB0 λ_ _ _ _ _ _ _ q=>gt_int q
theorem op_ge:OpR X (L7 .GtE) (rI0 λi j=>.bl (decide (j<=i))):=opB0 λ_ _ _ _ _ _ _ q=>ge_int q
theorem NK:OpR X (L7 .Lt) (λx y H Q=>∃i j,x=.str i/\y=.str j/\Q (.bl (decide (i.cps.toList<j.cps.toList))) H):=by
 intro jb s σ H x y v u Q I rx ry h;obtain⟨i,j,rfl,rfl,q⟩:=h;obtain⟨t,rfl⟩:=rx;obtain⟨t',rfl⟩:=ry;exact lt_str (Fa I q rfl)
theorem NL:OpR X (L7 .In) (λx y H Q=>∃i j,x=.str i/\y=.str j/\Q (.bl (!(BX j i 0 j.length 1).isEmpty)) H):=by
 intro jb s σ H x y v u Q I rx ry h;obtain⟨i,j,rfl,rfl,q⟩:=h;obtain⟨t,rfl⟩:=rx;obtain⟨t',rfl⟩:=ry;exact in_str (Fa I q rfl)
theorem op_isN:OpR X (L7 .Is) (λx y H Q=>y=.non/\Q (.bl (decide (x=.non))) H):=by
 intro jb s σ H x y v u Q I rx ry h;obtain⟨rfl,q⟩:=h;cases ry;refine is_none_gen (Fa I q ?_)
 cases x <;> first
   |(cases rx;rfl)
   |(obtain⟨t,rfl⟩:=rx;rfl)
theorem NM:OpR X (L7 .IsNot) (λx y H Q=>y=.non/\Q (.bl (!decide (x=.non))) H):=by
 intro jb s σ H x y v u Q I rx ry h;obtain⟨rfl,q⟩:=h;cases ry;refine isnot_none_gen (Fa I q ?_)
 cases x <;> first
   |(cases rx;rfl)
   |(obtain⟨t,rfl⟩:=rx;rfl)
theorem OpR.or (h:OpR X f r)(h':OpR X f r'):OpR X f (λx y H Q=>r x y H Q\/r' x y H Q):=by
 intro jb s σ H x y v u Q I rx ry q;rcases q with q|q
 ·exact h jb s σ H x y v u Q I rx ry q
 ·exact h' jb s σ H x y v u Q I rx ry q
theorem Cg (b:Expr)(h:op≠.In:=by decide)(h2:op≠.NotIn:=by decide):AU op b=false:=by
 have e1:(op == CmpOp.In)=false:=by cases op <;> first|rfl|exact absurd rfl h
 have e2:(op == CmpOp.NotIn)=false:=by cases op <;> first|rfl|exact absurd rfl h2
 cases b <;> simp[AU,e1,e2]
theorem JD (ho:OpR X (L7 op) r)(ha:PE X a ta)(hb:PE X b tb)(hm:AU op b=false):PE X (.Compare a [op] [b] pos) (tOp r ta tb):=by
 intro jb s σ H Q I h;exact wpAny_Compare1 (binT ha hb I h λv u s2 x y H2 I2 rx ry q=>ho jb s2 σ H2 x y v u Q I2 rx ry q) hm
def GR (t:TE):TT:=λσ H Q=>t σ H λx H'=>∃k,x=.bl k/\Q k H'
theorem Fb (ho:OpR X (L7 op) r)(ha:PE X a ta)(hb:PE X b tb)(hm:AU op b=false):PT X (.Compare a [op] [b] pos) (GR (tOp r ta tb)):=by
 intro jb s σ H Q I h
 refine wpAny_isTrue_Compare1 (thn (ha jb s σ H _ I h) λv s1 ⟨x,H1,I1,r1,q1⟩=>thn (hb jb s1 σ H1 _ I1 q1) λu s2 ⟨y,H2,I2,r2,q2⟩=>
  thn (ho jb s2 σ H2 x y v u _ I2 r1 r2 q2) λc s3 ⟨z,H3,I3,r3,k,e,q3⟩=>?_) hm
 subst e;cases r3;exact j6 ⟨H3,I3,q3⟩
def JE (r r':R2)(ta tb tc:TE):TE:=λσ H Q=>ta σ H λx H1=>tb σ H1 λy H2=>r x y H2 λz H3=>∃k,z=.bl k/\
 (if k=true then tc σ H3 λw' H4=>r' y w' H4 Q else Q (.bl false) H3)
theorem NN (ho:OpR X (L7 op) r)(ho':OpR X (L7 op') r')(ha:PE X a ta)(hb:PE X b tb)(hc:PE X c tc)
   (hm:lastMarks [op,op'] [b,c]=false:=by with_unfolding_all rfl):PT X (.Compare a [op,op'] [b,c] pos) (GR (JE r r' ta tb tc)):=by
 intro jb s σ H Q I h
 refine isTrue_chain (thn (ha jb s σ H _ I h) λv s1 ⟨x,H1,I1,r1,q1⟩=>test_link (thn (hb jb s1 σ H1 _ I1 q1) λu s2 ⟨y,H2,I2,r2,q2⟩=>
  thn (ho jb s2 σ H2 x y v u _ I2 r1 r2 q2) λd s3 ⟨z,H3,I3,r3,k,e,q3⟩=>?_)) hm
 subst e;cases r3;refine j6 ?_;cases k with
 | false =>
  obtain⟨k',e',q'⟩:=q3;cases e';exact ite_ff ⟨H3,I3,q'⟩
 | true =>
  refine ite_tt (test_last (thn (hc jb s3 σ H3 _ I3 q3) λw' s4 ⟨z',H4,I4,r4,q4⟩=>thn (ho' jb s4 σ H4 y z' u w' _ I4 r2 r4 q4) λd' s5 ⟨z2,H5,I5,r5,k2,e2,q5⟩=>?_));subst e2;cases r5;exact j6 ⟨H5,I5,q5⟩
def TruV (K:A7)(x:V)(H:Hp)(k:Bool):Prop:=
 match x with
 |.non=>k=false
 |.bl b=>k=b
 |.int i=>k=(i != 0)
 |.str y=>y.length<=B7/\k=((y.length:Int) != 0)
 |.byt y=>y.size<=B7/\k=((y.size:Int) != 0)
 |.ref p=>(∃xs,SqL K H p xs/\k=!xs.isEmpty)\/(∃xs,SqT K H p xs/\k=!xs.isEmpty)\/∃jg,H p=some (.dK jg)/\k=!jg.isEmpty
 |_=>False
theorem NO {κ:Type}{jg:List (κ×V)}{vs:List (κ×A1)}(r:KV jg vs):(!vs.isEmpty)=!jg.isEmpty:=by
 cases r <;> rfl
theorem JF (r:Vals xs jf):(!jf.toArray.isEmpty)=!xs.isEmpty:=by
 cases r <;> simp
theorem Bo:(B7:Nat)<2 ^ 63:=by rw[K9];decide
theorem JG:TruR X (λx H Q=>∃k,TruV X.K x H k/\Q k H):=by
 intro jb s σ H x v Q I rx h;obtain⟨k,e,q⟩:=h;have hl:=Bo;have hs:B7=16777216:=K9;cases x with
 | non =>
  cases rx;have e':k=false:=e;subst e';exact truthy_none ⟨H,I,q⟩
 | bl b =>
  cases rx;have e':k=b:=e;subst e';exact j6 ⟨H,I,q⟩
 | int i =>
  obtain⟨t,rfl⟩:=rx;have e':k=(i != 0):=e;subst e';exact PySem.P.truthy_int ⟨H,I,q⟩
 | str y =>
  obtain⟨t,rfl⟩:=rx;obtain⟨hy,e'⟩:y.length<=B7/\k=((y.length:Int) != 0):=e;subst e';exact PySem.P.truthy_str (by omega) ⟨H,I.tok _,q⟩
 | byt y =>
  obtain⟨t,rfl⟩:=rx;obtain⟨hy,e'⟩:y.size<=B7/\k=((y.size:Int) != 0):=e;subst e';exact PySem.W.truthy_bytes (by omega) ⟨H,I.tok _,q⟩
 | ref p =>
  cases rx;have e':(∃xs,SqL X.K H p xs/\k=!xs.isEmpty)\/(∃xs,SqT X.K H p xs/\k=!xs.isEmpty)\/∃jg,H p=some (.dK jg)/\k=!jg.isEmpty:=e;rcases e' with⟨xs,hx,e'⟩|⟨xs,hx,e'⟩|⟨jg,hx,e'⟩
  ·subst e';obtain⟨jf,r,pl,hz⟩:=I.list hx;have hlen:=r.length;exact wpAny_truthy_list pl.isList (by simp only[D9];omega) ⟨H,I.tok _,by rw[JF r];exact q⟩
  ·subst e';obtain⟨jf,r,pl,hz⟩:=I.tuple hx;have hlen:=r.length;exact truthy_tuple pl (by simp only[D9];omega) ⟨H,I.tok _,by rw[JF r];exact q⟩
  ·subst e';obtain⟨hz,hS,vs,r,m⟩:jg.length<=B7/\(p == X6)=false/\∃vs,KV jg vs/\s.heap.DictOf (Y4 X.prog X.w) p vs:=I.hok p _ hx;have hlen:jg.length=vs.length:=Paired.length r;exact wpAny_truthy_dict hS m (by omega) ⟨H,I.tok _,by rw[NO r];exact q⟩
 |_=>exact(show False from e).elim
theorem NP (ha:PE X a ta)(he:∀whole,isTrue a X.env whole=(do let v ← whole;k6 a.pos;U7 [v] (truthy v))) :
   PT X a (λσ H Q=>ta σ H λx H'=>∃k,TruV X.K x H' k/\Q k H'):=by
 intro jb s σ H Q I h;exact isTrue_plain (thn (ha jb s σ H _ I h) λv s1 ⟨x,H1,I1,r1,q1⟩=>JG jb s1 σ H1 x v Q I1 r1 q1) (he _)
theorem NQ:OpR X (Q5 .Add) (λx y H Q=>∃i j,x=.str i/\y=.str j/\i.length+j.length<=B7/\Q (.str (i++j)) H):=by
 intro jb s σ H x y v u Q I rx ry h;obtain⟨i,j,rfl,rfl,hz,q⟩:=h;obtain⟨t,rfl⟩:=rx;obtain⟨t',rfl⟩:=ry;exact add_str (λt' tk=>⟨.str (i++j),H,I.tok _,⟨_,rfl⟩,q⟩) hz
theorem Ab (r:Vals [x] us):∃u,us=[u]/\RelV x u:=by
 cases r with
 |cons r1 r2=>cases r2;exact⟨_,rfl,r1⟩
theorem vals2 (r:Vals [x,y] us):∃u w',us=[u,w']/\RelV x u/\RelV y w':=by
 cases r with
 | cons r1 r2 =>
  cases r2 with
  |cons r3 r4=>cases r4;exact⟨_,_,rfl,r1,r3⟩
theorem NR:K4 X (.builtin "abs") (λxs H Q=>∃i,xs=[.int i]/\Q (.int (if i<0 then -i else i)) H):=by
 intro jb s σ H xs us Q I r h;obtain⟨i,rfl,q⟩:=h;obtain⟨u,rfl,t,rfl⟩:=Ab r;exact call_abs_int λu tk=>⟨.int (if i<0 then -i else i),H,I.tok _,⟨_,rfl⟩,q⟩
theorem NT (hc:X.calm=true):K4 X (.builtin "min") (λxs H Q=>∃i j,xs=[.int i,.int j]/\Q (.int (if j<i then j else i)) H):=by
 intro jb s σ H xs us Q I r h;obtain⟨i,j,rfl,q⟩:=h;obtain⟨u,w',rfl,⟨t,rfl⟩,⟨t',rfl⟩⟩:=vals2 r;refine min_two_ints (I.ok.hd hc) λh' tk k=>⟨_,H,I.kept k,?_,q⟩
 by_cases hj:j<i
 ·rw[jt hj,jt hj];exact⟨_,rfl⟩
 ·rw[ju hj,ju hj];exact⟨_,rfl⟩
theorem NU:K4 X (.type "int") (λxs H Q=>(∃i,xs=[.int i]/\Q (.int i) H)\/∃k,xs=[.bl k]/\Q (.int (if k then 1 else 0)) H):=by
 intro jb s σ H xs us Q I r h;rcases h with⟨i,rfl,q⟩|⟨k,rfl,q⟩
 ·obtain⟨u,rfl,t,rfl⟩:=Ab r;exact call_int_int ⟨.int i,H,I,⟨_,rfl⟩,q⟩
 ·obtain⟨u,rfl,r1⟩:=Ab r;cases r1;exact call_int_bool ⟨.int (if k then 1 else 0),H,I.tok _,⟨_,rfl⟩,q⟩
end
structure ObjM (h:B1)(x dx C:A0)(mA:Str->Option A1):Prop where
 obj:h.get? x=some (PySem.W.instObj C dx)
 ns:h.Ns1 dx mA
 ne:dx≠x
theorem NV {h:B1}(n:h.Ns1 dx mA):∃od,h.get? dx=some od/\∀name,PySem.W.lookIn name od=some (mA name):=by
 obtain⟨o,es,ep,ho,hd,hk,_,hm⟩:=n;refine⟨o,ho,λname=>?_⟩;have e:=hm name;unfold nsFind findBy at e;rw[<- Array.find?_toList] at e;unfold PySem.W.lookIn;rw[hd];dsimp only
 split
 ·grind
 ·rename_i q;rw[q] at e
  have a:es.toList.any (·.refKey)=false:=by
   rw[List.any_eq_false];intro y hy;obtain⟨z,t,hkey⟩:=hk y (Array.mem_toList_iff.mp hy);simp[DictEntry.refKey,hkey]
  have a':¬es.toList.any (·.refKey)=true:=by rw[a];exact V2
  rw[ju a'];exact congrArg some e
theorem ObjM.look (I:ObjM h x dx C mA):∃od,PySem.W.InstAt h x (PySem.W.instObj C dx) C (some od)/\∀name,PySem.W.lookIn name od=some (mA name):=
 let ⟨od,ho,hl⟩:=NV I.ns
 ⟨od,⟨I.obj,rfl,rfl,ho⟩,hl⟩
section
variable {P:C3}{w:B8}{H H':Hp}{h h':B1}{a C dx:A0}{fs fs':List (Str×V)}
theorem NW (hok:HOk P w H h)(e:H a=some (.ins C dx fs)):∃mA,ObjM h a dx C mA/\(∀f,RelO (fs.lookup f) (mA f))/\PySem.Within mA (fs.map (·.1))/\fs.length<=1000/\H dx=some (.own a):=by
 obtain⟨d,z,ne,ob,mA,n,r,q⟩:=(show J1 P w H h a (.ins C dx fs) from hok a _ e);exact⟨mA,⟨ob,n,ne⟩,r,q,z,d⟩
end
structure Cls (K:A7)(C:A0):Prop where
 pg:PySem.W.plainGet K C C5=true
 hd:PySem.W.hasDictIn K C=true
 po:PySem.W.plainOver K C=true
 sa:PySem.W.findIn K (.ref C) "__setattr__"=some (some (.builtin "object.__setattr__"))
theorem Cls.get {K:A7}(c:Cls K C)(f:Str):PySem.W.plainGet K C f=true:=c.pg
section
variable {X:Cx}{jb:List (A0×Obj)}{σ:St}{H:Hp}{s:A4}{A:C8}{E:A1->A4->Prop}{Q:A1->A4->Prop}{c:A1}{b:Bool}
inductive TyOf (K:A7)(H:Hp):V->A1->Prop where
 |non:TyOf K H .non (.type "NoneType")
 |bl (x:Bool):TyOf K H (.bl x) (.type "bool")
 |int (i:Int):TyOf K H (.int i) (.type "int")
 |str (x:Str):TyOf K H (.str x) (.type "str")
 |flt (x:UInt64):TyOf K H (.flt x) (.type "float")
 |lst {a:A0} {xs:List V} (e:H a=some (.lst xs)):TyOf K H (.ref a) (.type "list")
 |frz {a:A0} {o:Obj} {xs:List V} (e:H a=some (.frz o (.lst xs))):TyOf K H (.ref a) (.type "list")
 |tup {a:A0} {xs:List V} (e:H a=some (.tup xs)):TyOf K H (.ref a) (.type "tuple")
 |dK {a:A0} {jg:List (Key×V)} (e:H a=some (.dK jg)):TyOf K H (.ref a) (.type "dict")
 |dT {a:A0} {jg:List (List Key×V)} (e:H a=some (.dT jg)):TyOf K H (.ref a) (.type "dict")
 |ins {a C dx:A0} {fs:List (Str×V)} (e:H a=some (.ins C dx fs)) (cl:Cls K C) (ha:PySem.W.findIn K (.ref C) "__class__"=some (some (.builtin "object.__class__")))
     (hn:PySem.W.specialIn K (.builtin "object.__class__") "__get__"=some (some (.builtin "getset_descriptor.__get__"))) (htk:PySem.W.takesIn K (.builtin "object.__class__")=some true)
     (hm:PySem.W.mroIn K C (.type "object")=some true):TyOf K H (.ref a) (.ref C)
theorem NX (I:Inv X jb σ H s)(rx:RelV x u)(ty:TyOf X.K H x t)(e:CY X.K t c=some b)(h:∀tk,Q (.bool b) { s with toks:=tk }) :
   A5 (A6 X.prog X.w) A (call (.builtin "isinstance") [u,c]) Q E s:=by
 cases ty with
 |non=>cases(show u=Y3 from rx);exact b8 PySem.W.kitx_none I.kIn True.intro e (λz=>nomatch z) h
 |bl y=>cases(show u=Value.bool y from rx);exact b8 PySem.W.kitx_bool I.kIn True.intro e (λz=>nomatch z) h
 |int i=>obtain⟨t,q⟩:=(show ∃t,u=Value.int i t from rx);cases q;exact b8 PySem.W.kitx_int I.kIn True.intro e (λz=>nomatch z) h
 |str y=>obtain⟨t,q⟩:=(show ∃t,u=Value.str y t from rx);cases q;exact b8 PySem.W.kitx_str I.kIn True.intro e (λz=>nomatch z) h
 |flt y=>obtain⟨t,q⟩:=(show ∃t,u=Value.float y t from rx);cases q;exact b8 PySem.W.kitx_float I.kIn True.intro e (λz=>nomatch z) h
 | @lst a xs ea =>
  cases(show u=L4 a from rx);obtain⟨_,_,n,_,h1⟩:=(show J1 X.prog X.w H s.heap a (.lst xs) from I.hok a _ ea);exact b8 PySem.W.kitx_list I.kIn ⟨_,h1,rfl⟩ e (λz=>nomatch z) h
 | @frz a ob xs ea =>
  cases(show u=L4 a from rx);obtain⟨_,_,_,n,_,h1⟩:=(show J1 X.prog X.w H s.heap a (.frz ob (.lst xs)) from I.hok a _ ea);exact b8 PySem.W.kitx_list I.kIn ⟨_,h1,rfl⟩ e (λz=>nomatch z) h
 | @tup a xs ea =>
  cases(show u=L4 a from rx);obtain⟨_,_,_,p⟩:=(show J1 X.prog X.w H s.heap a (.tup xs) from I.hok a _ ea);obtain⟨o,h1,h2,_⟩:=p;exact b8 PySem.W.kitx_tuple I.kIn ⟨o,h1,(Dq h2).1⟩ e (λz=>nomatch z) h
 | @dK a jg ea =>
  cases(show u=L4 a from rx);obtain⟨_,_,vs,_,p⟩:=(show J1 X.prog X.w H s.heap a (.dK jg) from I.hok a _ ea);obtain⟨o,es,ep,h1,h2,_⟩:=p;exact b8 PySem.W.kitx_dict I.kIn ⟨o,h1,h2.1⟩ e (λz=>nomatch z) h
 | @dT a jg ea =>
  cases(show u=L4 a from rx);obtain⟨_,_,xs,_,o,es,ep,h1,h2,_⟩:=(show J1 X.prog X.w H s.heap a (.dT jg) from I.hok a _ ea);exact b8 PySem.W.kitx_dict I.kIn ⟨o,h1,h2.1⟩ e (λz=>nomatch z) h
 | @ins a C dx fs ea cl ha hn htk hm =>
  cases(show u=L4 a from rx);obtain⟨mA,O,_⟩:=NW I.hok ea;obtain⟨od,J,_⟩:=O.look;exact b8 (PySem.W.kitx_own (cl.get _) cl.hd ha hn htk hm) I.kIn J e (λz=>nomatch z) h
end
structure Room (k:Nat)(A:C8):Prop where
 hd:A.handled=none
 dp:A.depth+3*k+5<recursionLimit
 un:A.units+16*k+200<cLine
 gd:A.guards=some []
theorem Room.mono (r:Room k A)(h:j<=k):Room j A:=⟨r.hd,by have:=r.dp;omega,by have:=r.un;omega,r.gd⟩
theorem Room.deeper (r:Room (k+1) A)(env:Env):Room k (A.deeper env):=
 ⟨r.hd,by have:=r.dp;show A.depth+1+3*k+5<_;omega,by have:=r.un;show A.units+3+16*k+200<_;omega,r.gd⟩
theorem Room.depth (r:Room k A):A.depth<recursionLimit:=by have:=r.dp;omega
theorem Room.units (r:Room k A):A.units+64<cLine:=by have:=r.un;omega
def tNil:TA:=λ_ H Q=>Q [] H
def p6 (ta:TE)(tr:TA):TA:=λσ H Q=>ta σ H λx H1=>tr σ H1 λxs H2=>Q (x::xs) H2
section
variable {X:Cx}{e:Expr}{es:List Expr}{te:TE}{t:TA}{pos:Pos}
theorem K5:PA X [] tNil:=λ_ _ _ _ H Q I h=>Calls.spliced_nil ⟨[],H,I,.nil,h⟩
theorem F5 (ha:PE X e te)(hr:PA X es t)(hs:E8 (e::es) X.env=(false,eval e X.env)::E8 es X.env:=by rfl):PA X (e::es) (p6 te t):=by
 intro pos jb s σ H Q I h;rw[hs];show A5 _ _ (spliced ((false,eval e X.env)::backTo pos (E8 es X.env))) _ _ s;refine Calls.spliced_cons (thn (ha jb s σ H _ I h) λu s1 ⟨x,H1,I1,r1,q1⟩=>?_);exact thn (hr pos jb s1 σ H1 _ I1 q1) λus s2 ⟨xs,H2,I2,r2,q2⟩=>⟨x::xs,H2,I2,.cons r1 r2,q2⟩
def tTup (t:TA):TE:=λσ H Q=>t σ H λxs H1=>xs.length<=B7/\∀p,H1 p=none->Q (.ref p) (upd H1 p (.tup xs))
def tLst (t:TA):TE:=λσ H Q=>t σ H λxs H1=>xs.length<=B7/\∀p,H1 p=none->Q (.ref p) (upd H1 p (.lst xs))
theorem JH {x1}(h:PA X es t):PE X (.Tuple es x1 pos) (tTup t):=by
 intro jb s σ H Q I hq;refine wpAny_Tuple_spliced (thn (h pos jb s σ H _ I hq) λus s1 ⟨xs,H1,I1,r,z,q⟩=>⟨by rw[<- r.length];exact z,?_⟩);have hf:H1 s1.heap.objs.size=none:=I1.hok.fresh (B3 _);refine⟨.ref s1.heap.objs.size,upd H1 s1.heap.objs.size (.tup xs),I1.laid (t':=s1.toks) (λb u e=>B6 _ e) (B3 _) ?_,rfl,q _ hf⟩;exact⟨z,us,r,⟨_,E4 _ rfl,rfl,_,rfl⟩⟩
theorem JI (h:PA X es t):PE X (.List es pos) (tLst t):=by
 intro jb s σ H Q I hq;refine wpAny_List_spliced (thn (h pos jb s σ H _ I hq) λus s1 ⟨xs,H1,I1,r,z,q⟩=>⟨by rw[<- r.length];exact z,?_⟩);have hf:H1 s1.heap.objs.size=none:=I1.hok.fresh (B3 _);refine⟨.ref s1.heap.objs.size,upd H1 s1.heap.objs.size (.lst xs),I1.laid (t':=s1.toks) (λb u e=>B6 _ e) (B3 _) ?_,rfl,q _ hf⟩;exact⟨z,us,0,r,E4 _ rfl⟩
end
abbrev Sp:=List V->Hp->VK->XK->Prop
abbrev CXT:=List Env->Hp->A4->XK->A1->A4->Prop
structure Env0 (P:C3)(w:B8)(K:A7)(mg:Str->Option A1)(base:B1)(A:C8)(outer:List Env)(s:A4)(H:Hp):Prop where
 frames:A.frames=some outer
 mod:Mod K mg base
 bs:∀b o,base.get? b=some o->s.heap.get? b=some o/\H b=none
 bsz:base.objs.size<=s.heap.objs.size
 funs:s.heap.FunFrames base outer
 frf:∀b∈frs outer,H b=none
 hok:HOk P w H s.heap
 bare:AllBare s.gens
 nos:NS H
def CE (outer:List Env)(P:C3)(w:B8)(H:Hp)(s:A4)(Q:VK)(u:A1)(s':A4):Prop:=
 ∃v H',s'.os=s.os/\AllBare s'.gens/\Un (frs outer) [] H H' s.heap s'.heap/\HOk P w H' s'.heap/\RelV v u/\Q v H'
def CR (CX:CXT)(outer:List Env)(P:C3)(w:B8)(H:Hp)(s:A4)(Q:VK)(E:XK)(r:Result)(s':A4):Prop:=
 match r with
 |.ok (.ret u)=>CE outer P w H s Q u s'
 |.ok _=>False
 |.error e=>CX outer H s E e s'
structure FnOk (P:C3)(w:B8)(K:A7)(mg:Str->Option A1)(base:B1)(CX:CXT)(k:Nat)(f:A0)(fd:FuncData)(ps:List Str)(sp:Sp):Prop where
 len:∀vs H Q E,sp vs H Q E->vs.length=ps.length
 run:∀(A:C8) (outer:List Env) (s:A4) (H:Hp) (args:Args) (us:List A1) (vs:List V) (Q:VK) (E:XK),Room k A->Env0 P w K mg base A outer s H->BindsTo s fd args (ps.zip us)->Vals vs us->sp vs H Q E->
   L0 (A6 P w) A (.call (.ref f) args) (CR CX outer P w H s Q E) s
theorem FnOk.imp {K:A7}(F:FnOk P w K mg base CX k f fd ps sp)
   (h:∀vs H Q E,sp' vs H Q E->sp vs H Q E):FnOk P w K mg base CX k f fd ps sp':=
 ⟨λvs H Q E q=>F.len vs H Q E (h _ _ _ _ q),λA outer s H args us vs Q E hr he hb hv hs=>F.run A outer s H args us vs Q E hr he hb hv (h _ _ _ _ hs)⟩
section
variable {X:Cx}{jb:List (A0×Obj)}{σ:St}{H:Hp}{s s':A4}
theorem Inv.env0 (I:Inv X jb σ H s):Env0 X.prog X.w X.K X.mg X.base X.A X.stack s H:=
 ⟨I.ok.frames,I.ok.mod,I.bs,E5 I.ok.bsz I.sz,I.stack,I.stkFree,I.hok,I.bare,I.nos⟩
theorem Inv.after (I:Inv X jb σ H s)(h:CE X.stack X.prog X.w H s Q u s'):EP X jb σ Q u s':=by
 obtain⟨v,H',os,bare,un,hok,r,q⟩:=h;obtain⟨hh,g,d,t,os'⟩:=s';obtain rfl:os'=s.os:=os;exact⟨v,H',I.call (h':=hh) (g':=g) (d':=d) (t':=t) (ch:=[]) un hok bare (λb z=>absurd z (by simp)),r,q⟩
end
def tCall (sp:Sp)(dvs:List V)(E:XK)(t:TA):TE:=λσ H Q=>t σ H λvs H1=>sp (vs++dvs) H1 Q E
def Ch (K:A7)(fd:FuncData)(ps:List Str)(ds:List A1):Prop:=
 ∀(s:A4) (us:List A1),K.In s.heap->(us++ds).length=ps.length->BindsTo s fd ⟨us,[]⟩ (ps.zip (us++ds))
theorem Ch.all {K:A7}(h:∀us:List A1,us.length=ps.length->bindArgs fd ⟨us,[]⟩=pure (ps.zip us)):Ch K fd ps []:=λs us _ hl=>by
 rw[T6] at hl ⊢;exact .of_eq (h us hl)
def GS (CX:CXT)(X:Cx)(E:XK):Prop:=∀(jb:List (A0×Obj)) (σ:St) (H:Hp) (s:A4) (e:A1) (s':A4),Inv X jb σ H s->CX X.stack H s E e s'->X.xe e s'
section
variable {X:Cx}{CX:CXT}{k:Nat}{f C:A0}{fd:FuncData}{ps:List Str}{sp:Sp}{dvs:List V}{ds:List A1}{E:XK}{x m:Str}{p pos apos:Pos}{e o:Expr}{es:List Expr}{ta:TE}{t:TA}
theorem run_fn (F:FnOk X.prog X.w X.K X.mg X.base CX k f fd ps sp)(hr:Room k X.A)(hb:Ch X.K fd ps ds)(hd:Vals dvs ds)(hx:GS CX X E)
   (I:Inv X jb σ H s) (r:Vals vs us) (h:sp (vs++dvs) H Q E):A5 (A6 X.prog X.w) X.A (call (.ref f) us) (EP X jb σ Q) X.xe s:=by
 have r2:Vals (vs++dvs) (us++ds):=r.append hd;have hl:(us++ds).length=ps.length:=by rw[<- r2.length];exact F.len _ _ _ _ h
 refine wpAny_call (AX (F.run X.A X.stack s H ⟨us,[]⟩ (us++ds) (vs++dvs) Q E hr I.env0 (hb s us I.kIn hl) r2 h) λr s' hq=>?_);cases r with
 |error e=>exact hx jb σ H s e s' I hq
 | ok fl =>
  cases fl with
  |ret u=>exact I.after hq
  |next=>exact d7 hq
  |brk=>exact d7 hq
  |cont=>exact d7 hq
theorem NY (F:FnOk X.prog X.w X.K X.mg X.base CX k f fd ps sp)(hr:Room k X.A)(hg:Gl X x)(hm:X.mg x=some (.ref f))(hk:CZ X.K (.ref f)=true)(hb:Ch X.K fd ps ds)(hd:Vals dvs ds)(hx:GS CX X E)
   (ha:PA X (e::es) t) (hdb:(x == ("__debug__":Str))=false:=by decide) (he:E8 (e::es) X.env=(false,eval e X.env)::E8 es X.env:=by rfl) (hpl:(backTo pos (E8 es X.env)).any (·.1)=false:=by rfl) :
   PE X (.Call (.Name x p) (e::es) [] pos) (tCall sp dvs E t):=by
 intro jb s σ H Q I h;refine wpAny_Call_Name_kw (Jv I hg hm ?_ hdb);refine PySem.W.callWith_K (h₀:=X.base) I.ok.mod.kin hk (thn (ha pos jb s σ H _ I h) λus s1 ⟨vs,H1,I1,r,q⟩=>⟨I1.kIn,?_⟩) he hpl;exact run_fn F hr hb hd hx I1 r q
end
def PK (X:Cx)(kws:List Z7)(t:TA):Prop:=
 ∀(pos:Pos) (jb:List (A0×Obj)) (s:A4) (σ:St) (H:Hp) (Q:List V->Hp->Prop),Inv X jb σ H s->t σ H Q->A5 (A6 X.prog X.w) X.A (evalAll ((backToKw pos (BH kws X.env)).map (·.2))) (AP X jb σ Q) X.xe s
structure p7 (N P:List Str)(sc:E3):Prop where
 kind:sc.kind=.function
 co:sc.isCoroutine=false
 gen:sc.isGenerator=false
 nd:N.Nodup
 pre:N.take P.length=P
 par:∀x∈P,sc.names.lookup x=some .local\/sc.names.lookup x=some .cell
 nofree:∀y∈sc.names,y.2≠.free
theorem JJ {kindOf:Str->Option NameKind}:∀{binds:List (Str×A1)} {m:Str->Option A1},(∀v,(x,v)∉binds)->bindL kindOf binds m x=m x
 |[],_,_=>rfl
 | (n, v) :: r, m, h => by
  unfold bindL;rw[JJ λw hw=>h w (B4 _ hw)]
  split
  ·have:x≠n:=by rintro rfl;exact h v B2
   simp[this]
  ·rfl
theorem JK {kindOf:Str->Option NameKind}:∀{binds:List (Str×A1)} {m:Str->Option A1},(∀v,(x,v)∉binds)->bindC kindOf binds m x=m x
 |[],_,_=>rfl
 | (n, v) :: r, m, h => by
  unfold bindC;rw[JK λw hw=>h w (B4 _ hw)]
  split
  ·rfl
  ·have:x≠n:=by rintro rfl;exact h v B2
   simp[this]
theorem JL {kindOf:Str->Option NameKind}:∀{P:List Str} {vs:List A1} {i:Nat} {m:Str->Option A1},P.Nodup->P[i]?=some x->vs[i]?=some v->kindOf x=some .local->
   bindL kindOf (P.zip vs) m x=some v
 |[],_,_,_,_,h,_,_=>by simp at h
 |_::_,[],_,_,_,_,h,_=>by simp at h
 | p :: P, w :: vs, 0, m, nd, h1, h2, hk => by
  simp at h1 h2;subst h1;subst h2;show bindL kindOf ((p,w)::P.zip vs) m p=_;unfold bindL;rw[JJ λv hv=>(N8.mp nd).1 (CT hv).1,jt hk];simp
 | p :: P, w :: vs, i + 1, m, nd, h1, h2, hk => by
  show bindL kindOf ((p,w)::P.zip vs) m x=_;unfold bindL;exact JL (i:=i) (N8.mp nd).2 (by simpa using h1) (by simpa using h2) hk
theorem JM {kindOf:Str->Option NameKind}:∀{P:List Str} {vs:List A1} {i:Nat} {m:Str->Option A1},P.Nodup->P[i]?=some x->vs[i]?=some v->kindOf x≠some .local->
   bindC kindOf (P.zip vs) m x=some v
 |[],_,_,_,_,h,_,_=>by simp at h
 |_::_,[],_,_,_,_,h,_=>by simp at h
 | p :: P, w :: vs, 0, m, nd, h1, h2, hk => by
  simp at h1 h2;subst h1;subst h2;show bindC kindOf ((p,w)::P.zip vs) m p=_;unfold bindC;rw[JK λv hv=>(N8.mp nd).1 (CT hv).1,ju hk];simp
 | p :: P, w :: vs, i + 1, m, nd, h1, h2, hk => by
  show bindC kindOf ((p,w)::P.zip vs) m x=_;unfold bindC;exact JM (i:=i) (N8.mp nd).2 (by simpa using h1) (by simpa using h2) hk
def start (N:List Str)(vs:List V):St:=vs.map some++T7 (N.length-vs.length) none
def cxOf (CX:CXT)(P:C3)(w:B8)(K:A7)(mg:Str->Option A1)(base:B1)(N:List Str)(qual:Str)(scope:E3)(f:A0)(cd:A1)(A:C8)(outer:List Env)(s:A4)(H:Hp)(E:XK):Cx where
 prog:=P
 w:=w
 K:=K
 mg:=mg
 base:=base
 A:=A.deeper (envOfC qual scope s.heap.objs.size f cd)
 N:=N
 s₀:=s
 H₀:=H
 env:=envOfC qual scope s.heap.objs.size f cd
 outer:=outer
 stack:=envOfC qual scope s.heap.objs.size f cd::outer
 ex:=[]
 calm:=true
 fn:=λ_=>true
 pn:=[]
 xe:=λe s'=>A5 (A6 P w) (A.deeper (envOfC qual scope s.heap.objs.size f cd)) (leaving (envOfC qual scope s.heap.objs.size f cd) e) (λ_ s''=>CX outer H s E e s'') (λe' s''=>CX outer H s E e' s'') s'
theorem JN {sc:E3}(h:sc.names.lookup x=some .cell):∃c,(P3 n sc.names []).lookup x=some c:=by
 have q:=PySem.W.cellsFrom_some sc.names n [] (.inl h);exact AA.mp q
theorem NZ {K:A7}
   (S:p7 N ps scope) (hd:A.handled=none) (e0:Env0 P w K mg base A outer s H) (hl:vs.length=ps.length) (r:Vals vs us)
   (x:InCallC s s.heap.objs.size (bindL (envOfC qual scope s.heap.objs.size f cd).kindOf (ps.zip us) λ_=>none) (P3 (s.heap.objs.size+1) scope.names []) (bindC (envOfC qual scope s.heap.objs.size f cd).kindOf (ps.zip us) λ_=>none) s1) :
   Inv (cxOf CX P w K mg base N qual scope f cd A outer s H E) [] (start N vs) H s1:=by
 have hpl:ps.length<=N.length:=by have:=congrArg List.length S.pre;rw[M6] at this;omega
 obtain⟨h1,tk,rfl,hk⟩:=x.done;have noA:∀b:A0,b∉(cxOf CX P w K mg base N qual scope f cd A outer s H E).ex:=λb z=>absurd (show b∈([]:List A0) from z) (by simp)
 refine⟨⟨e0.mod,S.kind,rfl,rfl,B3 _,λy z c h1 h2=>?_,λy hy=>?_,λy c _ h=>?_,λ_=>hd,Around.frames_deeper e0.frames,.inr ⟨rfl,rfl⟩,λb z=>absurd z (noA b),e0.bs,e0.bsz,λb _ _=>noA b,λb z=>absurd z (noA b),e0.funs,e0.frf,e0.nos⟩,
  rfl,e0.bare,Un.kept hk,⟨_,x.toInCall.ns,λi y v h1 h2 h3=>?_⟩,λy c h=>⟨_,x.cell y c h⟩,e0.hok.fresh (B3 _),λy c h=>?_,λp hp=>absurd (show p∈([]:List (A0×Obj)) from hp) (by simp),e0.hok.kept hk,?_⟩
 ·exact name_of_addr x.apart (X3 h1) (X3 h2)
 ·have hy:scope.names.lookup y=some .cell\/scope.names.lookup y=some .free:=hy;rcases hy with hy|hy
  ·exact JN hy
  ·exact absurd rfl (S.nofree _ (X3 hy))
 ·exact y4 (x.above y c (X3 h))
 ·have hi:i<vs.length:=by
   unfold start at h2
   by_cases hi:i<vs.length
   ·exact hi
   ·rw[Q6 (by simpa using hi)] at h2;rw[Gs] at h2
    split at h2 <;> cases h2
  have ha:vs[i]?=some v:=by
   unfold start at h2;rw[Q7 (by simpa using hi),C6] at h2;cases e:vs[i]? with
   |none=>rw[e] at h2;cases h2
   |some a=>rw[e] at h2;cases h2;rfl
  obtain⟨u,hu,rv⟩:=r.get ha
  have hp:ps[i]?=some y:=by
   rw[<- S.pre,List.getElem?_take_of_lt (by omega)];exact h1
  have ndP:ps.Nodup:=by rw[<- S.pre];exact S.nd.sublist (List.take_sublist _ _)
  refine⟨u,rv,?_⟩;rcases S.par y (J5 hp) with k|k
  ·exact .inl ⟨k,JL ndP hp hu k⟩
  ·obtain⟨c,e⟩:=JN (n:=s.heap.objs.size+1) k;refine .inr ⟨.inl k,c,e,?_⟩;have q:=x.cell y c e;rw[JM ndP hp hu (by show scope.names.lookup y≠_;rw[k];decide)] at q;exact q
 ·exact e0.hok.fresh (y4 (x.above y c (X3 h)))
 ·unfold start;show _=N.length;rw[D7,A9,List.length_replicate];omega
theorem fn_of {K:A7}{dV kV doc pm jo ct oc:A1}
 (lk:K.lookup f=some ⟨oc,od,.func (Y0 name qual params body scope dV kV doc pm an jo ct),osl⟩) (hcd:EC K jo qual=true) (S:p7 N ps scope)
   (len:∀vs H Q E,sp vs H Q E->vs.length=ps.length)
   (hbody:∀(A:C8) (outer:List Env) (s:A4) (H:Hp) (vs:List V) (Q:VK) (E:XK),Room k (A.deeper (envOfC qual scope s.heap.objs.size f jo))->sp vs H Q E->
     ∃t,PSs (cxOf CX P w K mg base N qual scope f jo A outer s H E) body t/\t { nx:=λ_ H'=>Q .non H',rt:=Q } (start N vs) H) :
   FnOk P w K mg base CX (k+1) f (Y0 name qual params body scope dV kV doc pm an jo ct) ps sp:=by
 refine⟨len,λA outer s H args us vs Q E hr e0 hb r hsp=>?_⟩;have hl:=len _ _ _ _ hsp;have KX:K.In s.heap:=e0.mod.kin.keeps λb o e=>(e0.bs b o e).1;have lim:s.heap.NoLimit:=e0.mod.nolimit.keeps λb o e=>(e0.bs b o e).1
 have hkind:∀y∈ps.zip us,scope.names.lookup y.1=some .local\/(scope.names.lookup y.1=some .cell/\((P3 (s.heap.objs.size+1) scope.names []).lookup y.1).isSome=true):=λ⟨n,v⟩ hy=>by
  rcases S.par n (CT hy).1 with q|q
  ·exact .inl q
  ·exact .inr ⟨q,PySem.W.cellsFrom_some _ _ _ (.inl q)⟩
 refine codeAny_call_function hr.depth (KX _ _ lk) rfl S.co S.gen rfl (PySem.W.codeRec_of KX hcd) (hb _ _ _ _ ?_);refine wpAny_newFunctionEnv_cells S.kind hkind λenv he s1 x=>?_;subst he;refine⟨lim.keeps x.toInCall.keep,codeAny_func ?_⟩;obtain⟨t,ht,hq⟩:=hbody A outer s H vs Q E (hr.deeper _) hsp;have I:Inv (cxOf CX P w K mg base N qual scope f jo A outer s H E) [] (start N vs) H s1:=NZ S hr.hd e0 hl r x;refine F7 (ht [] s1 (start N vs) H _ I hq) (λfl s' hs=>?_) λe s' hs=>hs
 have fin:∀{σ':St} {H':Hp} {v:V} {u:A1},Inv (cxOf CX P w K mg base N qual scope f jo A outer s H E) [] σ' H' s'->RelV v u->Q v H'->CE outer P w H s Q u s':=
  λ{σ' H' v u} J rv q=>⟨v,H',J.os,J.bare,J.base,J.hok,rv,q⟩
 cases fl with
 | ret u =>
  obtain⟨v,σ',H',J,rv,q⟩:=hs;exact fin J rv q
 | next =>
  obtain⟨σ',H',J,q⟩:=hs;exact fin (v:=V.non) (u:=Y3) J rfl q
 | brk =>
  obtain⟨_,_,_,q⟩:=hs;exact d7 q
 | cont =>
  obtain⟨_,_,_,q⟩:=hs;exact d7 q
section
variable {X:Cx}{x:Str}{p pos:Pos}{e:Expr}{es:List Expr}{t:TA}{id T:String}{r:List V->Hp->VK->Prop}
def tCB (r:List V->Hp->VK->Prop)(t:TA):TE:=λσ H Q=>t σ H λvs H1=>r vs H1 Q
theorem Bp (hc:K4 X (.builtin id) r)(hg:Gl X x)(hm:X.mg x=none)(hv:J4 x=some (.builtin id))(ha:PA X (e::es) t)(hn:x≠"__name__":=by decide)(hdb:(x == ("__debug__":Str))=false:=by decide)
   (he:E8 (e::es) X.env=(false,eval e X.env)::E8 es X.env:=by rfl) (hpl:(backTo pos (E8 es X.env)).any (·.1)=false:=by rfl):PE X (.Call (.Name x p) (e::es) [] pos) (tCB r t):=by
 intro jb s σ H Q I h;refine wpAny_Call_Name_kw (Bl I hg hm hv ?_ hn hdb);exact PyProof.Rows.callWith_builtin1 (thn (ha pos jb s σ H _ I h) λus s1 ⟨vs,H1,I1,r1,q1⟩=>hc jb s1 σ H1 vs us Q I1 r1 q1) he hpl
theorem GT (hc:K4 X (.type T) r)(hg:Gl X x)(hm:X.mg x=none)(hv:J4 x=some (.type T))(ha:PA X (e::es) t)(hn:x≠"__name__":=by decide)(hdb:(x == ("__debug__":Str))=false:=by decide)
   (he:E8 (e::es) X.env=(false,eval e X.env)::E8 es X.env:=by rfl) (hpl:(backTo pos (E8 es X.env)).any (·.1)=false:=by rfl):PE X (.Call (.Name x p) (e::es) [] pos) (tCB r t):=by
 intro jb s σ H Q I h;refine wpAny_Call_Name_kw (Bl I hg hm hv ?_ hn hdb);exact Dk (thn (ha pos jb s σ H _ I h) λus s1 ⟨vs,H1,I1,r1,q1⟩=>hc jb s1 σ H1 vs us Q I1 r1 q1) he hpl
end
end L2
namespace HT
open PySem PyProof.Rows
section
variable {prog:C3}{w:B8}{A:C8}{E:A1->A4->Prop}{s:A4}
theorem cat_tup (ht:IsTup s.heap t vs.toArray)(hb:IsTup s.heap b ws.toArray)(hv:vs≠[])
   (h1:ws=[]->Q (.ref t) s) (h2:ws≠[]->Q (.ref s.heap.objs.size) { s with heap:=s.heap.push { cls:=.type "tuple",data:=.seq (vs++ws).toArray } })
   (hsz:vs.length+ws.length<=B7):A5 (A6 prog w) A (Q5 .Add (.ref t) (.ref b)) Q E s:=by
 obtain⟨⟨cls,dd,data,sl⟩,ho,hc,n,hd⟩:=id ht;obtain⟨⟨cls2,dd2,data2,sl2⟩,ho2,hc2,n2,hd2⟩:=id hb;simp only at hc hd hc2 hd2;subst hc hd hc2 hd2;have e:vs.toArray++ws.toArray=(vs++ws).toArray:=by simp
 by_cases hw:ws=[]
 ·exact concat_meets ⟨_,ho,rfl⟩ ⟨_,ho2,rfl⟩ noFill_tuple_add seq_tuple_add GH GF (GE _ _)
    (tuple_addW1 t b vs.toArray ws.toArray n n2 dd dd2 sl sl2 (by simpa using hv) (by simp[hw])) ⟨ho,ho2,h1 hw⟩
 ·refine concat_meets ⟨_,ho,rfl⟩ ⟨_,ho2,rfl⟩ noFill_tuple_add seq_tuple_add GH GF (GE _ _)
    (tuple_addW2 t b vs.toArray ws.toArray n n2 dd dd2 sl sl2 (by simpa using hv) (by simpa using hw) (by rw[D9,D9];exact hsz)) ⟨ho,ho2,?_⟩
  rw[e];exact h2 hw
def sIx (n d:Nat):Option Int->Nat
 |none=>d
 |some v=>if v<0 then(v+(n:Int)).toNat else min v.toNat n
theorem sIx_none (n d:Nat):sIx n d none=d:=rfl
theorem sIx_nat (n d k:Nat):sIx n d (some (k:Int))=min k n:=by
 show(if(k:Int)<0 then((k:Int)+(n:Int)).toNat else min (k:Int).toNat n)=min k n;rw[ju (by omega),P7]
theorem sIx_le (n d:Nat)(hd:d<=n)(o:Option Int):sIx n d o<=n:=by
 cases o with
 |none=>exact hd
 | some v =>
  show(if v<0 then(v+(n:Int)).toNat else min v.toNat n)<=n
  by_cases hv:v<0
  ·rw[jt hv];omega
  ·rw[ju hv];exact Nat.min_le_right _ _
theorem JO (v:Int)(n d:Nat):(if v<0 then max (v+(n:Int)) 0 else min v (n:Int))=((sIx n d (some v):Nat):Int):=by
 show(if v<0 then max (v+(n:Int)) 0 else min v (n:Int))=(((if v<0 then(v+(n:Int)).toNat else min v.toNat n):Nat):Int)
 by_cases hv:v<0
 ·simp only[jt hv];omega
 ·simp only[ju hv];omega
theorem N_ (lo hi:Option Int)(n:Nat):Di lo hi 1 (n:Int)=(((sIx n 0 lo:Nat):Int),((sIx n n hi:Nat):Int)):=by
 have h1:¬((1:Int)<0):=by omega
 unfold Di;simp only[h1,if_false];refine Prod.ext ?_ ?_
 ·cases lo with
  |none=>rfl
  |some v=>exact JO v n 0
 ·cases hi with
  |none=>rfl
  |some v=>exact JO v n n
theorem Oa (i j:Nat):Az (i:Int) (j:Int) 1=j-i:=by
 unfold Az;have h1:(1:Int)>0:=by omega
 simp only[h1,if_true,Int.ediv_one]
 split <;> omega
theorem Dw (p:IsPart v o)(h:Q o s):A5 (A6 prog w) A (Builtin.Slice.slicePartIndex v) Q E s:=by
 cases p with
 |none=>exact slicePart_none h
 |int i t=>exact slicePart_int h
theorem JP {lo hi:Option Int}{n:Nat}{Q:Int×Int×Nat->A4->Prop}(hs:s.heap.IsSliceOf sl vl vu .none)(pl:IsPart vl lo)(pu:IsPart vu hi)
   (h:Q (((sIx n 0 lo:Nat):Int),1,sIx n n hi-sIx n 0 lo) s):A5 (A6 prog w) A (EM (.ref sl) (pure (n:Int))) Q E s:=by
 obtain⟨os,hos,hcs,hds⟩:=id hs;unfold EM Jo;refine A2 (A2 (M4 hos hds (x:=vl) rfl (A2 (M4 hos hds (x:=vu) rfl (A2 (M4 hos hds (x:=.none) rfl (A8 ?_)))))));refine A2 (slicePart_none ?_);show A5 _ _ (if((1:Int) == 0)=true then _ else _) _ _ s;rw[ju (by decide)];refine A2 (Dw pl (A2 (Dw pu (A2 (A8 ?_)))));show A5 _ _ (match Di lo hi 1 (n:Int) with|(lo,hi)=>pure (lo,(1:Int),Az lo hi 1)) _ _ s;rw[N_ lo hi n];show A5 _ _ (pure (((sIx n 0 lo:Nat):Int),(1:Int),Az ((sIx n 0 lo:Nat):Int) ((sIx n n hi:Nat):Int) 1)) _ _ s;rw[Oa];exact A8 h
theorem Ob (xs:Array A1)(i k:Nat):((C7 k).filterMap λ(m:Nat)=>xs[((i:Int)+(m:Int)*1).toNat]?).toArray=((xs.toList.drop i).take k).toArray:=by
 have e:(λ(m:Nat)=>xs[((i:Int)+(m:Int)*1).toNat]?)=λm=>xs[i+m]?:=by
  funext m
  have:((i:Int)+(m:Int)*1).toNat=i+m:=by omega
  rw[this]
 rw[e];have:=pick_run xs i k;rw[List.filterMap_map] at this;have e2:((λx=>xs[x]?)∘λx=>i+x)=λm=>xs[i+m]?:=rfl
 grind
theorem getItem_tuple_cut {lo hi:Option Int}(ht:IsTup s.heap t items)(hs:s.heap.IsSliceOf sl vl vu .none)(pl:IsPart vl lo)(pu:IsPart vu hi)
   (hw:¬(sIx items.size 0 lo=0/\sIx items.size items.size hi=items.size))
   (h:Q (.ref s.heap.objs.size) { s with heap:=s.heap.push { cls:=.type "tuple",data:=.seq ((items.toList.drop (sIx items.size 0 lo)).take (sIx items.size items.size hi-sIx items.size 0 lo)).toArray } })
   (hsz:items.size<=B7):A5 (A6 prog w) A (getItem (.ref t) (.ref sl)) Q E s:=by
 have htake:sizeOk (.seq ((items.toList.drop (sIx items.size 0 lo)).take (sIx items.size items.size hi-sIx items.size 0 lo)).toArray):=by
  show((items.toList.drop (sIx items.size 0 lo)).take (sIx items.size items.size hi-sIx items.size 0 lo)).toArray.size<=B7;rw[D9,M6,Bd,M8];omega
 have hj:sIx items.size items.size hi<=items.size:=sIx_le _ _ (B3 _) hi;obtain⟨os,hos,hcs,hds⟩:=id hs;have hTs:s.TypeIs (.ref sl) "slice":=⟨os,hos,hcs⟩;unfold getItem
 try with_reducible refine N4 ?_
 first|refine A2 (A8 ?_)|skip
 refine A2 (wpAny_sequenceKey ht.typeIs (by decide) ?_)
 refine A2 (X0 (name:=B0 "__getitem__") ht.typeIs BV
   (N3 BV ht.typeIs entry_tuple_getitem ?_ (args_tuple_getitem _ _)))
 show A5 _ _ (GD (.ref t)>>=_) _ _ s;refine A2 (tupleItemsOf_ ht ?_);refine A2 (w6 hTs ?_);rw[jt (by decide)];refine A2 (JP hs pl pu ?_)
 have hno:¬((((sIx items.size 0 lo:Nat):Int) == 0&&(1:Int) == 1&&(sIx items.size items.size hi-sIx items.size 0 lo) == items.size)=true):=by
  intro q;rw[b9,b9] at q;have q1:((sIx items.size 0 lo:Nat):Int)=0:=eq_of_beq q.1.1;have q2:sIx items.size items.size hi-sIx items.size 0 lo=items.size:=eq_of_beq q.2;exact hw ⟨by omega,by omega⟩
 show A5 _ _ (if(((sIx items.size 0 lo:Nat):Int) == 0&&(1:Int) == 1&&(sIx items.size items.size hi-sIx items.size 0 lo) == items.size)=true then _ else _) _ _ s;rw[ju hno,Ob]
 first
   |exact A2 (m:=AB _) (N1 (A8 ⟨_,rfl,A8 h⟩) htake)
   |exact A2 (m:=AB _) (N1 (A2 (A8 (A8 ⟨_,rfl,A8 h⟩))) htake)
   |exact A2 (A2 (m:=AB _) (N1 (A8 (A8 ⟨_,rfl,A8 h⟩)) htake))
   |exact A2 (A2 (m:=AB _) (N1 (A8 ⟨_,rfl,A8 h⟩) htake))
end
end HT
namespace L2
open PySem PySem.Spec PyProof.Rows
abbrev TO:=St->Hp->(Option Int->Hp->Prop)->Prop
def PO (X:Cx)(e:Option Expr)(t:TO):Prop:=
 ∀ (jb : List (A0 × Obj)) (s : A4) (σ : St) (H : Hp) (Q : Option Int -> Hp -> Prop), Inv X jb σ H s -> t σ H Q ->
   A5 (A6 X.prog X.w) X.A (evalPart e X.env) (λu s'=>∃o H',Inv X jb σ H' s'/\IsPart u o/\Q o H') X.xe s
def Oc:TO:=λ_ H Q=>Q none H
def tPart (t:TE):TO:=λσ H Q=>t σ H λx H1=>∃i,x=.int i/\Q (some i) H1
section
variable {X:Cx}{e:Expr}{te:TE}{lo hi:Option Expr}{tl th:TO}{pos p2:Pos}
theorem Od:PO X none Oc:=by
 intro jb s σ H Q I h;rw[evalPart_none];exact A8 ⟨none,H,I,.none,h⟩
theorem Oe (h:PE X e te):PO X (some e) (tPart te):=by
 intro jb s σ H Q I hw;rw[evalPart_some];refine thn (h jb s σ H _ I hw) λu s1 ⟨x,H1,I1,r1,q1⟩=>?_;obtain⟨i,rfl,q⟩:=q1;obtain⟨t,rfl⟩:=r1;exact⟨some i,H1,I1,.int i t,q⟩
def SlR (X:Cx)(r:V->Option Int->Option Int->Hp->VK->Prop):Prop:=
 ∀ (jb : List (A0 × Obj)) (s : A4) (σ : St) (H : Hp) (x : V) (v vl vu : A1) (lo hi : Option Int) (sl : A0) (Q : VK), Inv X jb σ H s -> RelV x v -> s.heap.IsSliceOf sl vl vu .none -> IsPart vl lo -> IsPart vu hi -> r x lo hi H Q ->
   ∃T id,typeLookup (.type T) "__getitem__"=pure (some (.builtin id))/\s.TypeIs v T/\A5 (A6 X.prog X.w) X.A (getItem v (.ref sl)) (EP X jb σ Q) X.xe s
theorem SlR.or (h:SlR X r)(h':SlR X r'):SlR X (λx lo hi H Q=>r x lo hi H Q\/r' x lo hi H Q):=by
 intro jb s σ H x v vl vu lo hi sl Q I rx hs pl pu q;rcases q with q|q
 ·exact h jb s σ H x v vl vu lo hi sl Q I rx hs pl pu q
 ·exact h' jb s σ H x v vl vu lo hi sl Q I rx hs pl pu q
def tSl (r:V->Option Int->Option Int->Hp->VK->Prop)(te:TE)(tl th:TO):TE:=λσ H Q=>te σ H λx H1=>tl σ H1 λl H2=>th σ H2 λu H3=>r x l u H3 Q
theorem Of (hr:SlR X r)(he:PE X e te)(hl:PO X lo tl)(hu:PO X hi th):PE X (.Subscript e (.Slice lo hi none p2) pos) (tSl r te tl th):=by
 intro jb s σ H Q I h;refine Subscript_ (thn (he jb s σ H _ I h) λv s1 ⟨x,H1,I1,r1,q1⟩=>?_);refine wpAny_Slice (thn (hl jb s1 σ H1 _ I1 q1) λvl s2 ⟨l,H2,I2,pl,q2⟩=>thn (hu jb s2 σ H2 _ I2 q2) λvu s3 ⟨u,H3,I3,pu,q3⟩=>?_);rw[evalPart_none];refine A8 ?_;have I4:Inv X jb σ H3 { s3 with heap:=s3.heap.push { cls:=.type "slice",data:=.fields #[vl,vu,.none] } }:=I3.kept (t':=s3.toks) λb ob q=>B6 _ q;obtain⟨T,id,hT,ht,hg⟩:=hr jb { s3 with heap:=s3.heap.push { cls:=.type "slice",data:=.fields #[vl,vu,.none] } } σ H3 x v vl vu l u s3.heap.objs.size Q I4 r1 (GJ ..) pl pu q3;show A5 (A6 X.prog X.w) X.A (subscriptTail e (.Slice lo hi none p2) v (.ref s3.heap.objs.size)) (EP X jb σ Q) X.xe { s3 with heap:=s3.heap.push { cls:=.type "slice",data:=.fields #[vl,vu,.none] } };exact tail_any (ops:=[.ref s3.heap.objs.size,v]) ht hT hg (by with_unfolding_all rfl)
def cutV (xs:List V)(lo hi:Option Int):List V:=(xs.drop (HT.sIx xs.length 0 lo)).take (HT.sIx xs.length xs.length hi-HT.sIx xs.length 0 lo)
theorem JQ (xs:List V)(lo hi:Option Int):(cutV xs lo hi).length<=xs.length:=by
 unfold cutV;rw[M6,Bd];omega
def rSlT (K:A7):V->Option Int->Option Int->Hp->VK->Prop:=λx lo hi H Q=>∃a xs,x=.ref a/\SqT K H a xs/\
 ¬(HT.sIx xs.length 0 lo=0/\HT.sIx xs.length xs.length hi=xs.length)/\∀p,H p=none->Q (.ref p) (upd H p (.tup (cutV xs lo hi)))
theorem sl_tup:SlR X (rSlT X.K):=by
 intro jb s σ H x v vl vu lo hi sl Q I rx hs pl pu h;obtain⟨a,xs,rfl,hx,hw,q⟩:=h;cases rx;obtain⟨jf,r,ht,hz⟩:=I.tuple hx;have hlen:jf.toArray.size=xs.length:=by rw[D9];exact r.length.symm
 refine⟨"tuple",_,PyProof.Rows.slot_tuple_getitem.lookup,ht.typeIs,?_⟩;refine HT.getItem_tuple_cut ht hs pl pu (by rw[hlen];exact hw) ?_ (by rw[hlen];exact hz);rw[hlen];refine⟨.ref s.heap.objs.size,_,I.laid (t':=s.toks) (o:=.tup (cutV xs lo hi)) (λb ob q=>B6 _ q) (B3 _) ?_,rfl,q _ (I.hok.fresh (B3 _))⟩;exact⟨E5 (JQ xs lo hi) hz,_,(r.drop (HT.sIx xs.length 0 lo)).take (HT.sIx xs.length xs.length hi-HT.sIx xs.length 0 lo),e6.new _ _⟩
def rCatT (K:A7):R2:=λx y H Q=>∃a b xs ys,x=.ref a/\y=.ref b/\SqT K H a xs/\SqT K H b ys/\xs≠[]/\xs.length+ys.length<=B7/\
 (ys=[]->Q (.ref a) H)/\(ys≠[]->∀p,H p=none->Q (.ref p) (upd H p (.tup (xs++ys))))
theorem Vals.nil_iff (r:Vals xs us):us=[]↔xs=[]:=by
 cases r with
 |nil=>simp
 |cons _ _=>simp
theorem Og:OpR X (Q5 .Add) (rCatT X.K):=by
 intro jb s σ H x y v u Q I rx ry h;obtain⟨a,b,xs,ys,rfl,rfl,ha,hb,hx,hz,q1,q2⟩:=h;cases rx;cases ry;obtain⟨jf,r1,p1,_⟩:=I.tuple ha;obtain⟨its2,r2,p2,_⟩:=I.tuple hb;refine HT.cat_tup p1 p2 (λz=>hx (r1.nil_iff.mp z)) (λz=>⟨.ref a,H,I,rfl,q1 (r2.nil_iff.mp z)⟩) (λz=>?_) (by rw[<- r1.length,<- r2.length];exact hz);refine⟨.ref s.heap.objs.size,_,I.laid (t':=s.toks) (o:=.tup (xs++ys)) (λb ob q=>B6 _ q) (B3 _) ?_,rfl,q2 (λw=>z (r2.nil_iff.mpr w)) _ (I.hok.fresh (B3 _))⟩;exact⟨by rw[D7];exact hz,_,r1.append r2,e6.new _ _⟩
end
def ixN (n:Nat)(i:Int):Option Nat:=if 0<=i then(if i<n then some i.toNat else none) else if -(n:Int)<=i then some (i+n).toNat else none
def atI {α:Type}(xs:List α)(i:Int):Option α:=(ixN xs.length i).bind λj=>xs[j]?
theorem JR (h:ixN n i=some j):seqIndex? i n=some j/\j<n/\-(n:Int)<=i/\i<n:=by
 unfold ixN at h
 by_cases h0:0<=i
 ·rw[jt h0] at h
  by_cases h1:i<n
  ·rw[jt h1] at h;have e:i.toNat=j:=F6 h;exact⟨by rw[seqIndex_of h0 h1,e],by omega,by omega,h1⟩
  ·rw[ju h1] at h;cases h
 ·rw[ju h0] at h
  by_cases h1:-(n:Int)<=i
  ·rw[jt h1] at h;have e:(i+n).toNat=j:=F6 h;exact⟨by rw[seqIndex_neg (by omega) h1,e],by omega,h1,by omega⟩
  ·rw[ju h1] at h;cases h
theorem GU {α:Type}{xs:List α}{i:Int}{v:α}(h:atI xs i=some v):∃j,seqIndex? i xs.length=some j/\xs[j]?=some v/\j<xs.length/\-(xs.length:Int)<=i/\i<xs.length:=by
 unfold atI at h;cases e:ixN xs.length i with
 |none=>rw[e] at h;cases h
 | some j =>
  rw[e] at h;obtain⟨h1,h2,h3,h4⟩:=JR e;exact⟨j,h1,h,h2,h3,h4⟩
theorem e9 {α:Type}{xs:List α}{j:Nat}{v:α}(h:xs[j]?=some v):atI xs (j:Int)=some v:=by
 have hj:j<xs.length:=(E1.mp h).1
 have e:ixN xs.length (j:Int)=some j:=by
  unfold ixN;rw[jt (by omega),jt (by omega)];simp
 unfold atI;rw[e];exact h
theorem Oh {α:Type}(xs:List α)(v:α):atI (xs++[v]) (-1)=some v:=by
 have hl:(xs++[v]).length=xs.length+1:=by simp
 have e:ixN (xs++[v]).length (-1)=some xs.length:=by
  unfold ixN;rw[hl,ju (by decide),jt (by omega)]
  congr 1
  omega
 unfold atI;rw[e];show(xs++[v])[xs.length]?=some v;simp
def GV (b:Expr):Prop:=∀o i,subscripted b false o i=operate [o,i] (getItem o i)
def IxR (X:Cx)(r:R2):Prop:=
 ∀ (value slice : Expr) (jb : List (A0 × Obj)) (s : A4) (σ : St) (H : Hp) (x y : V) (v u : A1) (Q : VK), Inv X jb σ H s -> RelV x v -> RelV y u -> r x y H Q ->
   subscripted slice false v u=operate [v,u] (getItem v u)->A5 (A6 X.prog X.w) X.A (subscriptTail value slice v u) (EP X jb σ Q) X.xe s
def MtR (X:Cx)(id:String)(r:V->List V->Hp->VK->Prop):Prop:=
 ∀ (jb : List (A0 × Obj)) (s : A4) (σ : St) (H : Hp) (x : V) (xs : List V) (v : A1) (us : List A1) (Q : VK), Inv X jb σ H s -> RelV x v -> Vals xs us -> r x xs H Q ->
   A5 (A6 X.prog X.w) X.A (call (.builtin id) (v::us)) (EP X jb σ Q) X.xe s
section
variable {X:Cx}{a b:Expr}{ta tb:TE}{pos:Pos}
theorem IxR.or (h:IxR X r)(h':IxR X r'):IxR X (λx y H Q=>r x y H Q\/r' x y H Q):=by
 intro value slice jb s σ H x y v u Q I rx ry q hs;rcases q with q|q
 ·exact h value slice jb s σ H x y v u Q I rx ry q hs
 ·exact h' value slice jb s σ H x y v u Q I rx ry q hs
theorem p8 (hr:IxR X r)(ha:PE X a ta)(hb:PE X b tb)(hs:GV b):PE X (.Subscript a b pos) (tOp r ta tb):=by
 intro jb s σ H Q I h;exact Subscript_ (binT ha hb I h λv u s2 x y H2 I2 rx ry q=>hr a b jb s2 σ H2 x y v u Q I2 rx ry q (hs _ _))
def rIxL (K:A7):R2:=λx y H Q=>∃p xs i v,x=.ref p/\y=.int i/\SqL K H p xs/\atI xs i=some v/\Q v H
def rIxT (K:A7):R2:=λx y H Q=>∃p xs i v,x=.ref p/\y=.int i/\SqT K H p xs/\atI xs i=some v/\Q v H
def rIxS:R2:=λx y H Q=>∃z i c,x=.str z/\y=.int i/\z.length<=B7/\atI z.cps.toList i=some c/\Q (.str ⟨#[c]⟩) H
theorem Ac:IxR X (rIxL X.K):=by
 intro value slice jb s σ H x y v u Q I rx ry h hs;obtain⟨p,xs,i,z,rfl,rfl,hq,he,q⟩:=h;cases rx;obtain⟨t,rfl⟩:=ry;obtain⟨jf,r,pl,hz⟩:=I.list hq;obtain⟨j,h1,h2,h3,h4,h5⟩:=GU he;obtain⟨w,ew,rw'⟩:=r.get h2;have hl:=r.length;have hn:=Bo;have fin:EP X jb σ Q w s:=⟨z,H,I,rw',q⟩
 by_cases h0:0<=i
 ·have hj:i.toNat=j:=by
   rw[seqIndex_of h0 h5] at h1;exact F6 h1
  exact item_listR pl.isList h0 (by omega) (by rw[hj];simpa using ew) fin hs
 ·have hj:(i+(jf.toArray.size:Int)).toNat=j:=by
   rw[seqIndex_neg (by omega) h4] at h1;rw[D9,<- hl];exact F6 h1
  exact subscriptTail_builtinR (x:=w) pl.isList.typeIs slot_list_getitem.lookup
    (wpAny_getItem_list_neg (Q:=λr s'=>r=w/\EP X jb σ Q r s') pl.isList (by omega) (by rw[D9] <;> omega) (by omega) (by rw[hj];simpa using ew) ⟨rfl,fin⟩) hs
theorem ix_tup:IxR X (rIxT X.K):=by
 intro value slice jb s σ H x y v u Q I rx ry h hs;obtain⟨p,xs,i,z,rfl,rfl,hq,he,q⟩:=h;cases rx;obtain⟨t,rfl⟩:=ry;obtain⟨jf,r,pl,hz⟩:=I.tuple hq;obtain⟨j,h1,h2,h3,h4,h5⟩:=GU he;obtain⟨w,ew,rw'⟩:=r.get h2;have hl:=r.length;have hn:=Bo;have fin:EP X jb σ Q w s:=⟨z,H,I,rw',q⟩
 exact subscriptTail_builtinR (x:=w) pl.typeIs slot_tuple_getitem.lookup
   (getItem_tuple (j:=j) (Q:=λr s'=>r=w/\EP X jb σ Q r s') pl (by omega) (by omega) (by grind) (by grind) ⟨rfl,fin⟩) hs
theorem ix_str:IxR X rIxS:=by
 intro value slice jb s σ H x y v u Q I rx ry h hs;obtain⟨z,i,c,rfl,rfl,hz,he,q⟩:=h;obtain⟨t,rfl⟩:=rx;obtain⟨t',rfl⟩:=ry;obtain⟨j,h1,h2,h3,h4,h5⟩:=GU he;have hl:z.cps.toList.length=z.length:=by simp[Str.length]
 rw[hl] at h1 h4 h5;have hn:=Bo
 exact tail_any (typeIs_str s z t) slot_str_getitem.lookup (getItem_str (c:=c) (by
  have e1:decide (i < -(2 ^ 63:Int))=false:=jr (by omega);have e2:decide (i>=2 ^ 63)=false:=jr (by omega)
  rw[e1,e2,V3]) (by grind) ⟨.str ⟨#[c]⟩,H,I.tok _,⟨_,rfl⟩,q⟩) hs
def rIx (K:A7):R2:=λx y H Q=>rIxL K x y H Q\/rIxT K x y H Q\/rIxS x y H Q
theorem JS:IxR X (rIx X.K):=Ac.or (ix_tup.or ix_str)
theorem Oi (jf:List A1)(n j:Nat)(u:A1):G9 (·.setIfInBounds j u) { cls:=.type "list",data:=.seq jf.toArray n }={ cls:=.type "list",data:=.seq (jf.set j u).toArray n }:=by
 simp[G9]
theorem Inv.lst (I:Inv X jb σ H s)(h:H p=some (.lst xs)) :
   ∃(jf:List A1) (n:Nat),Vals xs jf/\s.heap.get? p=some { cls:=.type "list",data:=.seq jf.toArray n }/\xs.length<=B7:=by
 obtain⟨z,jf,n,r,e⟩:=I.hok p _ h;exact⟨jf,n,r,e,z⟩
theorem Inv.lstUpd {jf its':List A1}(I:Inv X jb σ H s)(h:H p=some (.lst xs))
   (ho:s.heap.get? p=some { cls:=.type "list",data:=.seq jf.toArray n }) (hf:f { cls:=.type "list",data:=.seq jf.toArray n }={ cls:=.type "list",data:=.seq its'.toArray n' }) (r:Vals ys its') (hz:ys.length<=B7) (t:Nat) :
   Inv X jb σ (upd H p (.lst ys)) { s with heap:=s.heap.update p f,toks:=t }:=by
 have e:(s.heap.update p f).get? p=some { cls:=.type "list",data:=.seq its'.toArray n' }:=by
  rw[BO f ho (by rw[hf] <;> rfl),hf]
 refine I.write (x:=p) (e:=p) (by rw[h];trivial) (.inl rfl) (λb u hb q=>(BN _ _ (Ne.symm hb)).trans q) ⟨_,e⟩ ?_;exact⟨hz,its',n',r,e⟩
def Dx:V->V->V->Hp->(Hp->Prop)->Prop:=λo i v H Q=>∃p xs k j,o=.ref p/\i=.int k/\H p=some (.lst xs)/\ixN xs.length k=some j/\Q (upd H p (.lst (xs.set j v)))
theorem Fc:PSet X Dx:=by
 intro jb s σ H o i v ov iv u Q I ro ri rv h;obtain⟨p,xs,k,j,rfl,rfl,hp,hj,q⟩:=h;cases ro;obtain⟨t,rfl⟩:=ri;obtain⟨jf,n,r,ho,hz⟩:=I.lst hp;obtain⟨h1,h2,h3,h4⟩:=JR hj;have hl:=r.length;have hn:=Bo
 have I':Inv X jb σ (upd H p (.lst (xs.set j v))) { s with heap:=s.heap.update p (G9 (·.setIfInBounds j u)) }:=
  I.lstUpd hp ho (Oi jf n j u) (r.set rv j) (by grind) s.toks
 by_cases h0:0<=k
 ·have hk:k.toNat=j:=by
   rw[seqIndex_of h0 h4] at h1;exact F6 h1
  exact PySem.W.ki_setAt ho h0 (by omega) (by grind) (by grind)
 ·have hk:(k+(jf.toArray.size:Int)).toNat=j:=by
   rw[seqIndex_neg (by omega) h3] at h1;rw[D9,<- hl];exact F6 h1
  exact PySem.W.ki_setBack ho (by omega) (by rw[D9,<- hl];exact h3) (by omega) (by rw[hk];exact⟨_,I',q⟩)
theorem Oj (lo hi:Option Int)(n:Nat):(AY lo hi none n).1=((HT.sIx n 0 lo:Nat):Int)/\(AY lo hi none n).2.1=((HT.sIx n n hi:Nat):Int)/\(AY lo hi none n).2.2=1:=by
 refine⟨?_,?_,rfl⟩
 ·cases lo with
  |none=>simp[AY,HT.sIx]
  | some i =>
   simp only[AY,HT.sIx,Option.getD_none,show(1:Int)>0 by decide,if_true]
   by_cases h:i<0
   ·simp only[h,if_true] <;> omega
   ·simp only[h,if_false] <;> omega
 ·cases hi with
  |none=>simp[AY,HT.sIx]
  | some i =>
   simp only[AY,HT.sIx,Option.getD_none,show(1:Int)>0 by decide,if_true]
   by_cases h:i<0
   ·simp only[h,if_true] <;> omega
   ·simp only[h,if_false] <;> omega
theorem Ol (jf:List A1)(lo hi:Option Int):slicePick jf.toArray lo hi none=((jf.drop (HT.sIx jf.length 0 lo)).take (HT.sIx jf.length jf.length hi-HT.sIx jf.length 0 lo)).toArray:=by
 obtain⟨h1,h2,h3⟩:=Oj lo hi jf.toArray.size;unfold slicePick;rw[h1,h2,h3];simp only[sliceRange_one,pick_run,D9] <;> rfl
def rSlL (K:A7):V->Option Int->Option Int->Hp->VK->Prop:=λx lo hi H Q=>∃a xs,x=.ref a/\SqL K H a xs/\∀p,H p=none->Q (.ref p) (upd H p (.lst (cutV xs lo hi)))
theorem Om:SlR X (rSlL X.K):=by
 intro jb s σ H x v vl vu lo hi sl Q I rx hs pl pu h;obtain⟨a,xs,rfl,hx,q⟩:=h;cases rx;obtain⟨jf,r,ht,hz⟩:=I.list hx;have hlen:=r.length;refine⟨"list",_,slot_list_getitem.lookup,ht.isList.typeIs,?_⟩;refine wpAny_getItem_list_slice ht.isList hs pl pu .none (by simp) ?_ (by rw[D9] <;> omega)
 rw[Ol,<- hlen];refine⟨.ref s.heap.objs.size,_,I.laid (t':=s.toks) (o:=.lst (cutV xs lo hi)) (λb ob q=>B6 _ q) (B3 _) ?_,rfl,q _ (I.hok.fresh (B3 _))⟩;exact⟨E5 (JQ xs lo hi) hz,_,0,(r.drop (HT.sIx xs.length 0 lo)).take (HT.sIx xs.length xs.length hi-HT.sIx xs.length 0 lo),E4 _ rfl⟩
def R3:V->Bool
 |.non=>true
 |.bl _=>true
 |.int _=>true
 |.str _=>true
 |_=>false
noncomputable def eqV:V->V->Bool
 |.non,.non=>true
 |.bl a,.bl b=>a == b
 |.bl a,.int b=>(if a then 1 else 0) == b
 |.int a,.bl b=>a == (if b then 1 else 0)
 |.int a,.int b=>a == b
 |.str a,.str b=>a == b
 |_,_=>false
theorem JT (ry:RelV y u)(rx:RelV x v)(fy:R3 y=true)(fx:R3 x=true):Bk A s u v (eqV y x):=by
 cases y with
 | non =>
  cases ry;cases x with
  |non=>cases rx;exact SeqAt.EqAt.same _
  |bl b=>cases rx;exact SeqAt.EqAt.none_bool b
  |int b=>obtain⟨t,rfl⟩:=rx;exact SeqAt.EqAt.none_int b t
  |str b=>obtain⟨t,rfl⟩:=rx;exact SeqAt.EqAt.none_str b t
  |_=>exact absurd (show false=true from fx) V2
 | bl a =>
  cases ry;cases x with
  |non=>cases rx;exact SeqAt.EqAt.bool_none a
  |bl b=>cases rx;exact SeqAt.EqAt.bool_bool a b
  |int b=>obtain⟨t,rfl⟩:=rx;exact SeqAt.EqAt.bool_int a b t
  |str b=>obtain⟨t,rfl⟩:=rx;exact SeqAt.EqAt.bool_str a b t
  |_=>exact absurd (show false=true from fx) V2
 | int a =>
  obtain⟨t',rfl⟩:=ry;cases x with
  |non=>cases rx;exact SeqAt.EqAt.int_none a t'
  |bl b=>cases rx;exact SeqAt.EqAt.int_bool a t' b
  |int b=>obtain⟨t,rfl⟩:=rx;exact SeqAt.EqAt.int_int a t' b t
  |str b=>obtain⟨t,rfl⟩:=rx;exact SeqAt.EqAt.int_str a t' b t
  |_=>exact absurd (show false=true from fx) V2
 | str a =>
  obtain⟨t',rfl⟩:=ry;cases x with
  |non=>cases rx;exact SeqAt.EqAt.str_none a t'
  |bl b=>cases rx;exact SeqAt.EqAt.str_bool a t' b
  |int b=>obtain⟨t,rfl⟩:=rx;exact SeqAt.EqAt.str_int a t' b t
  |str b=>obtain⟨t,rfl⟩:=rx;exact SeqAt.EqAt.str_str a t' b t
  |_=>exact absurd (show false=true from fx) V2
 |_=>exact absurd (show false=true from fy) V2
theorem On:OpR X (L7 .NotIn) (λx y H Q=>∃i j,x=.str i/\y=.str j/\Q (.bl (!(!(BX j i 0 j.length 1).isEmpty))) H):=by
 intro jb s σ H x y v u Q I rx ry h;obtain⟨i,j,rfl,rfl,q⟩:=h;obtain⟨t,rfl⟩:=rx;obtain⟨t',rfl⟩:=ry;exact notIn_str ⟨.bl _,H,I,rfl,q⟩
theorem JU:K4 X (.builtin "len") (λxs H Q=>∃p ys,xs=[.ref p]/\(SqL X.K H p ys\/SqT X.K H p ys)/\Q (.int ys.length) H):=by
 intro jb s σ H xs us Q I r h;obtain⟨p,ys,rfl,hq,q⟩:=h;obtain⟨u,rfl,rx⟩:=Ab r;cases rx;have hn:=Bo;rcases hq with hq|hq
 ·obtain⟨jf,r',pl,hz⟩:=I.list hq;have hlen:=r'.length;exact Calls.call_len_list pl.isList (by simp only[D9] <;> omega) ⟨.int ys.length,H,I.tok _,⟨s.toks+1,by rw[D9,hlen]⟩,q⟩
 ·obtain⟨jf,r',pl,hz⟩:=I.tuple hq;have hlen:=r'.length;exact len_tuple pl (by simp only[D9] <;> omega) ⟨.int ys.length,H,I.tok _,⟨s.toks+1,by rw[D9,hlen]⟩,q⟩
theorem Oo:K4 X (.builtin "len") (λxs H Q=>∃z,xs=[.str z]/\z.length<=B7/\Q (.int z.length) H):=by
 intro jb s σ H xs us Q I r h;obtain⟨z,rfl,hz,q⟩:=h;obtain⟨u,rfl,t,rfl⟩:=Ab r;have hn:=Bo;exact len_str (by omega) ⟨.int z.length,H,I.tok _,⟨_,rfl⟩,q⟩
theorem K4.or (h:K4 X f r)(h':K4 X f r'):K4 X f (λxs H Q=>r xs H Q\/r' xs H Q):=by
 intro jb s σ H xs us Q I rs q;rcases q with q|q
 ·exact h jb s σ H xs us Q I rs q
 ·exact h' jb s σ H xs us Q I rs q
theorem Op:K4 X (.type "list") (λxs H Q=>∃p ys,xs=[.ref p]/\(SqL X.K H p ys\/SqT X.K H p ys)/\∀l,H l=none->Q (.ref l) (upd H l (.lst ys))):=by
 intro jb s σ H xs us Q I r h;obtain⟨p,ys,rfl,hq,q⟩:=h;obtain⟨u,rfl,rx⟩:=Ab r;cases rx
 have fin:∀(jf:List A1),Vals ys jf->ys.length<=B7->∀(h':B1) (c':Nat),(∀b o',s.heap.get? b=some o'->h'.get? b=some o')->
     h'.get? s.heap.objs.size=some { cls:=.type "list",dict:=none,data:=.seq jf.toArray c',slots:=#[] }->EP X jb σ Q (.ref s.heap.objs.size) { s with heap:=h' }:=λjf r' hz h' c' kp e=>
   ⟨.ref s.heap.objs.size,_,I.laid (t':=s.toks) kp (B3 _) (show J1 X.prog X.w _ h' _ (.lst ys) from⟨hz,jf,c',r',e⟩),rfl,q _ (I.hok.fresh (B3 _))⟩
 rcases hq with hq|hq
 ·obtain⟨jf,r',pl,hz⟩:=I.list hq;have hlen:=r'.length;obtain⟨o,ho,hc,n,hd⟩:=pl.isList;exact call_list_seq p (.inl rfl) ho hc hd (λh' c' kp e=>fin jf r' hz h' c' kp e) (by simp only[D9] <;> omega)
 ·obtain⟨jf,r',pl,hz⟩:=I.tuple hq;have hlen:=r'.length;obtain⟨o,ho,hc,n,hd⟩:=pl;exact call_list_seq p (.inr rfl) ho hc hd (λh' c' kp e=>fin jf r' hz h' c' kp e) (by simp only[D9] <;> omega)
theorem Oq:K4 X (.type "tuple") (λxs H Q=>∃p ys,xs=[.ref p]/\((SqL X.K H p ys/\∀l,H l=none->Q (.ref l) (upd H l (.tup ys)))\/(SqT X.K H p ys/\Q (.ref p) H))):=by
 intro jb s σ H xs us Q I r h;obtain⟨p,ys,rfl,h⟩:=h;obtain⟨u,rfl,rx⟩:=Ab r;cases rx;rcases h with⟨hq,q⟩|⟨hq,q⟩
 ·obtain⟨jf,r',pl,hz⟩:=I.list hq;have hlen:=r'.length;refine call_tuple_list pl.isList (λh' kp=>?_) (by simp only[D9] <;> omega)
  have I1:Inv X jb σ H { s with heap:=h' }:=I.kept (t':=s.toks) kp
  have I2:Inv X jb σ (upd H h'.objs.size (.tup ys)) { s with heap:=h'.push { cls:=.type "tuple",data:=.seq jf.toArray } }:=
   I1.laid (t':=s.toks) (λb o e=>B6 _ e) (B3 _) (show J1 X.prog X.w _ _ _ (.tup ys) from⟨hz,jf,r',e6.new _ _⟩)
  exact⟨.ref h'.objs.size,_,I2,rfl,q _ (I1.hok.fresh (B3 _))⟩
 ·obtain⟨jf,r',pl,hz⟩:=I.tuple hq;exact call_tuple_same pl ⟨.ref p,H,I,rfl,q⟩
def tyV (K:A7)(T:String)(x:V)(H:Hp):Prop:=match x with
 |.str _=>T="str"
 |.int _=>T="int"
 |.ref p=>(T="list"/\∃xs,SqL K H p xs)\/(T="tuple"/\((∃o,K.lookup p=some o/\o.cls=.type "tuple"/\o.dict=none)\/∃xs,H p=some (.tup xs)))\/
     (T="dict"/\((∃jg,H p=some (.dK jg))\/∃jg,H p=some (.dT jg)))\/(T="set"/\∃S n,H p=some (.set S n))
 |_=>False
theorem JV (I:Inv X jb σ H s)(r:RelV x v)(ty:tyV X.K T x H) :
   s.TypeIs v T/\∀a,v=.ref a->∃ob,s.heap.get? a=some ob/\ob.dict=none:=by
 cases x with
 | str z =>
  obtain⟨t,rfl⟩:=r;cases(show T="str" from ty);exact⟨typeIs_str s z t,λ_ e=>nomatch e⟩
 | int i =>
  obtain⟨t,rfl⟩:=r;cases(show T="int" from ty);exact⟨typeIs_int s i t,λ_ e=>nomatch e⟩
 | ref p =>
  cases r;rcases ty with⟨rfl,xs,hq⟩|⟨rfl,hk⟩|⟨rfl,hk⟩|⟨rfl,S,n,hk⟩
  ·obtain⟨jf,_,pl,_⟩:=I.list hq;refine⟨pl.isList.typeIs,λa e=>?_⟩;cases e;obtain⟨o,n,e,c,hd,_⟩:=pl;exact⟨o,e,hd⟩
  ·rcases hk with⟨o,hk,hc,hd⟩|⟨xs,hk⟩
   ·refine⟨⟨o,I.kIn p o hk,hc⟩,λa e=>?_⟩;cases e;exact⟨o,I.kIn _ o hk,hd⟩
   ·obtain⟨_,_,_,o,e,c,_⟩:=(show J1 X.prog X.w H s.heap p (.tup xs) from I.hok p _ hk);refine⟨⟨o,e,(Dq c).1⟩,λa e2=>?_⟩;cases e2;exact⟨o,e,(Dq c).2⟩
  ·have z:∃o,s.heap.get? p=some o/\o.ExactDict:=by
    rcases hk with⟨jg,hk⟩|⟨jg,hk⟩
    ·obtain⟨_,_,_,_,o,_,_,e,ex,_⟩:=I.hok p _ hk;exact⟨o,e,ex⟩
    ·obtain⟨_,_,_,_,o,_,_,e,ex,_⟩:=I.hok p _ hk;exact⟨o,e,ex⟩
   obtain⟨o,e,ex⟩:=z;refine⟨⟨o,e,ex.1⟩,λa e2=>?_⟩;cases e2;exact⟨o,e,ex.2.1⟩
  ·obtain⟨o,_,_,_,e,ex,_⟩:=I.hok p _ hk;refine⟨⟨o,e,ex.1⟩,λa e2=>?_⟩;cases e2;exact⟨o,e,ex.2.1⟩
 |_=>exact d7 ty
def tBM0 (K:A7)(T:String)(r:V->List V->Hp->VK->Prop)(to:TE):TE:=λσ H Q=>to σ H λx H1=>tyV K T x H1/\r x [] H1 Q
def tBM (K:A7)(T:String)(r:V->List V->Hp->VK->Prop)(to:TE)(t:TA):TE:=λσ H Q=>to σ H λx H1=>tyV K T x H1/\t σ H1 λxs H2=>r x xs H2 Q
variable {o e:Expr}{es:List Expr}{to:TE}{t:TA}{name:Str}{apos cpos:Pos}{T id:String}{r:V->List V->Hp->VK->Prop}
theorem pe_bm0 (pa:PlainAttrs T)(slot:Slot T name id)(hty:typeOf (.builtin id)=pure (.type "method_descriptor"))(hm:MtR X id r)(ho:PE X o to)
   (hbase:AV o name X.env (eval o X.env)=eval o X.env:=by rfl) (hline:(apos.endLine == cpos.line)=true:=by rfl):PE X (.Call (.Attribute o name apos) [] [] cpos) (tBM0 X.K T r to):=by
 intro jb s σ H Q I h;refine wpAny_Call_method0_late hbase hline (thn (ho jb s σ H _ I h) λv s1 ⟨x,H1,I1,r1,ty,q1⟩=>?_);obtain⟨h1,h2⟩:=JV I1 r1 ty;exact⟨T,id,pa,slot,hty,h1,h2,Calls.callWith_builtin rfl (PySem.evalArgs_none (hm jb s1 σ H1 x [] v [] Q I1 r1 .nil q1))⟩
theorem Fd (pa:PlainAttrs T)(slot:Slot T name id)(hty:typeOf (.builtin id)=pure (.type "method_descriptor"))(hm:MtR X id r)(ho:PE X o to)(ha:PA X (e::es) t)
   (hbase:AV o name X.env (eval o X.env)=eval o X.env:=by rfl)
   (hfew:((backTo cpos (E8 (e::es) X.env)).all (λx=>!x.1)&&(backToKw cpos (BH [] X.env)).all (λx=>x.1.isSome)
     && decide ((e::es).length+([]:List Z7).length+(if([]:List Z7).isEmpty then 0 else 1)<30))=true:=by rfl)
   (hline:(apos.endLine == cpos.line)=true:=by rfl) (hs:E8 (e::es) X.env=(false,eval e X.env)::E8 es X.env:=by rfl) (hplain:(backTo cpos (E8 es X.env)).any (·.1)=false:=by rfl) :
   PE X (.Call (.Attribute o name apos) (e::es) [] cpos) (tBM X.K T r to t):=by
 intro jb s σ H Q I h;refine wpAny_Call_method_late hbase hfew hline rfl (thn (ho jb s σ H _ I h) λv s1 ⟨x,H1,I1,r1,ty,q1⟩=>?_);obtain⟨h1,h2⟩:=JV I1 r1 ty;refine⟨T,id,pa,slot,hty,h1,h2,?_⟩;have hA:=ha cpos jb s1 σ H1 _ I1 q1;rw[hs] at hA ⊢;refine Calls.callWith_builtin (by show(false||(backTo cpos (E8 es X.env)).any (·.1))=false;rw[hplain] <;> rfl) (Calls.evalArgs_plain ?_)
 exact thn hA λus s2 ⟨vs,H2,I2,r2,q2⟩=>hm jb s2 σ H2 x vs v us Q I2 r1 r2 q2
end
def MtM (X:Cx)(id:String)(r:V->List V->Hp->VK->Prop):Prop:=
 ∀ (jb : List (A0 × Obj)) (s : A4) (σ : St) (H : Hp) (x : V) (xs : List V) (v : A1) (us : List A1) (Q : VK), Inv X jb σ H s -> RelV x v -> Vals xs us -> r x xs H Q ->
   A5 (A6 X.prog X.w) X.A (call (.builtin id) (v::us)) (EP X jb σ Q) X.xe s
theorem Vals.one (h:Vals [x] us):∃u,us=[u]/\RelV x u:=by
 cases h with|cons r h=>cases h;exact⟨_,rfl,r⟩
theorem Vals.two (h:Vals [x,y] us):∃u v,us=[u,v]/\RelV x u/\RelV y v:=by
 cases h with|cons r h=>cases h with|cons q h=>cases h;exact⟨_,_,rfl,r,q⟩
theorem Vals.zero:∀{us:List A1},Vals [] us->us=[]
 |_,.nil=>rfl
theorem Vals.dropLast (h:Vals xs us):Vals xs.dropLast us.dropLast:=by
 induction h with
 |nil=>exact .nil
 | cons r t ih =>
  cases t with
  |nil=>exact .nil
  |cons q t'=>exact .cons r ih
theorem Os {α:Type}(l:List α):l.eraseIdx (l.length-1)=l.dropLast:=by simp
section
variable {X:Cx}{jb:List (A0×Obj)}{σ:St}{H:Hp}{s:A4}{l b:A0}{xs ys zs:List V}
theorem Inv.lset {jf its':List A1}(I:Inv X jb σ H s)(hH:H l=some (.lst xs))
   (e:s.heap.get? l=some { cls:=.type "list",data:=.seq jf.toArray n }) (hf:f jf.toArray=its'.toArray) (hv:Vals ys its') (hz:ys.length<=B7) :
   Inv X jb σ (upd H l (.lst ys)) { s with heap:=s.heap.update l (G9 f),toks:=t' }:=by
 have q:=PySem.IsL.update e f;rw[hf] at q;refine I.write (x:=l) (e:=l) (by rw[hH];exact trivial) (.inl rfl) (λb' u hb hu=>(BN s.heap (G9 f) (Ne.symm hb)).trans hu) ⟨_,q⟩ ?_;exact⟨hz,its',_,hv,q⟩
theorem Inv.lnew {jf:List A1}{t':Nat}(I:Inv X jb σ H s)(hv:Vals ys jf)(hz:ys.length<=B7) :
   Inv X jb σ (upd H s.heap.objs.size (.lst ys)) { s with heap:=s.heap.push { cls:=.type "list",data:=.seq jf.toArray },toks:=t' }:=
 I.laid (λ_ _ q=>B6 _ q) (B3 _) ⟨hz,jf,0,hv,E4 _ rfl⟩
theorem Inv.fresh (I:Inv X jb σ H s):H s.heap.objs.size=none:=I.hok.fresh (B3 _)
theorem Inv.lstM (I:Inv X jb σ H s)(hH:H l=some (.lst xs)):xs.length<=B7/\∃(jf:List A1) (n:Nat),Vals xs jf/\xs.length=jf.length/\s.heap.get? l=some { cls:=.type "list",data:=.seq jf.toArray n }:=by
 obtain⟨z,jf,n,r,e⟩:=I.hok l _ hH;exact⟨z,jf,n,r,r.length,e⟩
theorem JW (h:n<=B7):ES n=false:=by
 unfold ES;exact jr (by omega)
end
section
variable {X:Cx}
def JX:V->List V->Hp->VK->Prop:=λx vs H Q=>∃l xs y,x=.ref l/\vs=[y]/\H l=some (.lst xs)/\xs.length<B7/\Q .non (upd H l (.lst (xs++[y])))
theorem JY:MtM X "list.append" JX:=by
 intro jb s σ H x vs v us Q I rx rv h;obtain⟨l,xs,y,rfl,rfl,hH,hz,q⟩:=h;cases rx;obtain⟨u,rfl,ru⟩:=rv.one;obtain⟨z,jf,n,r,hl,e⟩:=I.lstM hH;refine call_meets F.slot_list_append ⟨_,e,rfl⟩ F.entry_list_append (F.args_list_append_2 _ _) (PySem.list_append l jf.toArray n u (by rw[D9];omega)) ⟨e,?_⟩;refine⟨.non,_,I.lset (its':=jf++[u]) hH e (by simp) (r.append (.cons ru .nil)) ?_,rfl,q⟩;rw[D7,P5];omega
def JZ:V->List V->Hp->VK->Prop:=λx vs H Q=>∃l b xs zs,x=.ref l/\vs=[.ref b]/\H l=some (.lst xs)/\H b=some (.lst zs)/\xs.length+zs.length<=B7/\Q .non (upd H l (.lst (xs++zs)))
theorem Ot:MtM X "list.extend" JZ:=by
 intro jb s σ H x vs v us Q I rx rv h;obtain⟨l,b,xs,zs,rfl,rfl,hH,hB,hz,q⟩:=h;cases rx;obtain⟨u,rfl,ru⟩:=rv.one;cases ru;obtain⟨z,jf,n,r,hl,e⟩:=I.lstM hH;obtain⟨z2,its2,n2,r2,hl2,e2⟩:=I.lstM hB;have hsz:jf.toArray.size+its2.toArray.size<=B7:=by rw[D9,D9];omega
 have hlong:¬(!jf.toArray.isEmpty&&ES (jf.toArray.size+its2.toArray.size))=true:=by
  rw[JW hsz,EG];exact V2
 refine call_meets F.slot_list_extend ⟨_,e,rfl⟩ F.entry_list_extend (F.args_list_extend_2 _ _)
   (AutoSeq1.list_extend_list_list_0 l jf.toArray n b its2.toArray n2 hlong (by grind) (by omega)) ⟨e,e2,?_⟩
 refine⟨.non,_,I.lset (its':=jf++its2) hH e (by simp) (r.append r2) ?_,rfl,q⟩
 grind
def rPop:V->List V->Hp->VK->Prop:=λx vs H Q=>∃l xs y,x=.ref l/\vs=[]/\H l=some (.lst xs)/\xs[xs.length-1]?=some y/\Q y (upd H l (.lst xs.dropLast))
theorem mt_pop:MtM X "list.pop" rPop:=by
 intro jb s σ H x vs v us Q I rx rv h;obtain⟨l,xs,y,rfl,rfl,hH,hy,q⟩:=h;cases rx;have hus:=rv.zero;subst hus;obtain⟨z,jf,n,r,hl,e⟩:=I.lstM hH;obtain⟨u,hu,ru⟩:=r.get hy
 have hy':jf.toArray[jf.toArray.size-1]?=some u:=by
  show jf.toArray[jf.length-1]?=some u;rw[<- U1,<- hl];exact hu
 refine call_meets F.slot_list_pop ⟨_,e,rfl⟩ F.entry_list_pop (F.args_list_pop_1 _) (MeetsSeq.list_pop_last l jf.toArray n u hy' (by rw[D9];omega)) ⟨e,?_⟩;refine⟨y,_,I.lset (its':=jf.dropLast) hH e ?_ r.dropLast ?_,ru,q⟩
 ·show jf.toArray.eraseIdxIfInBounds (jf.toArray.size-1)=jf.dropLast.toArray;rw[D9,List.eraseIdxIfInBounds_toArray,Os]
 ·rw[List.length_dropLast];omega
def rCat:R2:=λx y H Q=>∃l b xs zs,x=.ref l/\y=.ref b/\H l=some (.lst xs)/\H b=some (.lst zs)/\xs.length+zs.length<=B7/\∀p,H p=none->Q (.ref p) (upd H p (.lst (xs++zs)))
theorem op_cat:OpR X (Q5 .Add) rCat:=by
 intro jb s σ H x y v u Q I rx ry h;obtain⟨l,b,xs,zs,rfl,rfl,hH,hB,hz,q⟩:=h;cases rx;cases ry;obtain⟨z,jf,n,r,hl,e⟩:=I.lstM hH;obtain⟨z2,its2,n2,r2,hl2,e2⟩:=I.lstM hB;refine PySem.P.add_list e e2 ?_ (by rw[D9,D9];omega);have ea:jf.toArray++its2.toArray=(jf++its2).toArray:=by simp
 rw[ea];exact⟨.ref _,_,I.lnew (t':=s.toks) (r.append r2) (by rw[D7];omega),rfl,q _ I.fresh⟩
end
end L2
namespace Att
open PySem PySem.W PySem.Calls PyProof.Rows
theorem Ou:∀(ns:List Int) (vs:List A1),WellAll P h vs (ns.map WData.int)->IntsAre vs ns:=by
 intro ns
 induction ns with
 | nil =>
  intro vs w;rw[List.map_nil] at w;cases w;exact .nil
 | cons n ns ih =>
  intro vs w;rw[J8] at w;cases w with
  | cons a b =>
   cases a;exact .cons _ _ (ih _ b)
theorem Ov {l:OpenLaw}(hn:l.most=some n)
   (hpre:l.row.toRowW.claim.pre args=true) (hwl:WellAll P h vals args) :
   ∃a vs ns,vals=[L4 a]/\args=[WData.list (ns.map WData.int)]/\h.get? a=some { cls:=.type "list",data:=.seq vs.toArray }/\IntsAre vs ns/\ns.length<=n:=by
 have hsh:WShape.hasAll [] args [.list .int]=true:=(pre_splitW hpre).1;have hc:l.pre.holds [] { args:=args }=true:=(pre_splitW hpre).2;obtain⟨d,r,rfl,h1,h2⟩:=hasAllW_cons hsh;obtain rfl:=hasAllW_nil h2;obtain⟨xs,rfl,h3⟩:=hasW_list h1;obtain⟨ns,rfl⟩:=items_int h3
 have hlen:ns.length<=n:=by
  unfold OpenLaw.pre at hc
  have h4:(WTm.not (.lt (.lit (.int (n:Int))) (.len (.arg 0)))).holds [] { args:=[.list (ns.map .int)] }=true:=by
   have h4:=(holds_andW hc).1;rw[hn] at h4;exact h4
  have h5:=condW_of h4 (w_not (w_lt w_lit (w_len_list (w_arg rfl))));rw[A9] at h5;refine BQ λq=>?_;have q':(n:Int)<((ns.length:Nat):Int):=by omega
  first
    |(rw[jq q'] at h5;exact absurd h5 (by decide))
    |(simp at h5;omega)
 cases hwl with
 | cons w1 w2 =>
  cases w2;cases w1 with
  |list ho hall=>exact⟨_,_,ns,rfl,rfl,ho,Ou ns _ hall,hlen⟩
theorem Ow (l:OpenLaw)(args:List WData):l.row.toRowW.claim.post args (.bool true) args=true:=
 postW_of (r:=l.row.toRowW) (X:=(true == true))
   (show WShape.has [] (.bool true) .bool=true by first|rfl|decide|simp[WShape.has,WShape.arms,WShape.armsAll])
   (show(WTm.eq .res (.lit (.bool true))).value [] { args:=args,res:=some (.bool true),after:=args }=some (.bool (true == true)) from w_eq_bool (w_res rfl) w_lit) rfl
theorem attach_call {l:OpenLaw}
   (hn:l.most=some n) (hdf:d.params.defaults=[])
   (call:∀(w:B8) (s₀ s₁:A4) (mg mb:Str->Option A1) (fa:A0) (o:Obj) (pm cd doc:A1) (a:A0) (vs:List A1) (ns:List Int),
    Ground q loose [] XP w s₀ mg mb s₁.heap->YP w s₁.heap->
    s₁.heap.get? fa=some o->o.data=.func (docDef d.name d.params d.body d.scope pm cd doc)->s₁.heap.CodeRec cd d.name->mg d.name=some (.ref fa)->
    s₁.heap.get? a=some { cls:=.type "list",data:=.seq vs.toArray }->IntsAre vs ns->ns.length<=n->s₁.gens=#[]->
    L0 (A6 l.prog w) callerA (.call (.ref fa) ⟨[.ref a],[]⟩) (λr s'=>r=.ok (.ret (.bool true))/\OldK s₁.heap s'.heap/\s'.os=s₁.os/\AllBare s'.gens) s₁) :
   WalkO q loose XP YP l.row.toRowW d [] (λf vs=>PySem.call f vs):=by
 intro w s₀ s₁ mg mb G Y fa o pm cd doc dV kV ho hd hcd hD hmg hg args vals as hpre hlay hrd hwl hlo;obtain rfl:dV=.none:=Dflts.none hD hdf;obtain rfl:kV=.none:=Dflts.noKw hD;obtain⟨a,vs,ns,rfl,rfl,hobj,hints,hlen⟩:=Ov hn hpre hwl;refine enter_call (AX (call w s₀ s₁ mg mb fa o pm cd doc a vs ns G Y ho (fd_plain hd) hcd hmg hobj hints hlen hg) λr s' hq=>?_);obtain⟨rfl,h2,h3,h4⟩:=hq;exact⟨.inl ⟨.bool true,.bool true,[],rfl,λ_=>rfl,.bool true,Ow l _,λ_=>⟨GK,λ_ hm=>(nomatch hm)⟩⟩,h2,h3,h4⟩
end Att
namespace L2
open PySem PySem.Spec PyProof.Rows
theorem Ox (h:IntsAre vs ns):Vals (ns.map V.int) vs:=by
 induction h with
 |nil=>exact .nil
 |cons n t _ ih=>exact .cons ⟨t,rfl⟩ ih
def Only (H:Hp):Prop:=∀b,H b=none\/∃o xs,H b=some (.frz o (.lst xs))
theorem Oy {K:A7}
   (KX:K.In s₁.heap) (hns:s₁.heap.Ns T3 mg) (hb:s₁.heap.Ns builtinsNs mb) (hbb:∀x:Str,x≠"__name__"->mb x=J4 x) (hlim:s₁.heap.NoLimit) (hg:s₁.gens=#[])
   (ha:s₁.heap.get? a=some { cls:=.type "list",data:=.seq vs.toArray }) (hi:IntsAre vs ns) (hl:ns.length<=B7) (hr:Room k callerA)
   (F:∀base:B1,K.In base->base.Ns T3 mg->FnOk P w K mg base CX k fa fd [x] sp) (hbind:∀(s:A4) (u:A1),BindsTo s fd ⟨[u],[]⟩ [(x,u)])
   (hsp:∀H:Hp,Only H->SqL K H a (ns.map V.int)->sp [.ref a] H (λv _=>v=.bl true) λ_ _ _=>False)
   (hCX:∀H e s',CX [] H s₁ (λ_ _ _=>False) e s'->False) :
   L0 (A6 P w) callerA (.call (.ref fa) ⟨[.ref a],[]⟩) (λr s'=>r=.ok (.ret (.bool true))/\OldK s₁.heap s'.heap/\s'.os=s₁.os/\AllBare s'.gens) s₁:=by
 have rv:=Ox hi;have lenV:=hi.length
 -- from an abstract heap in which nothing but the script may be tracked
 have core:∀H:Hp,Only H->SqL K H a (ns.map V.int)->HOk P w H s₁.heap->(∀b,H b≠none->b=a)->(H a≠none->K.lookup a=none)->
     L0 (A6 P w) callerA (.call (.ref fa) ⟨[.ref a],[]⟩) (λr s'=>r=.ok (.ret (.bool true))/\OldK s₁.heap s'.heap/\s'.os=s₁.os/\AllBare s'.gens) s₁:=by
   intro H hO hS hok hA hK;have base_of:∀{b:A0} {o:Obj},s₁.heap.get? b=some o->H b=none->(hidT s₁.heap H).get? b=some o:=λe n=>Nw e n
   have noA:∀{b:A0} {o:Obj} {es:Array DictEntry} {ep:Nat},s₁.heap.get? b=some o->o.data=.dict es ep->H b=none:=λ{b o es ep} e d=>by
    cases q:H b with
    |none=>rfl
    | some u =>
     have e':b=a:=hA b (by rw[q];simp);subst e';rw[ha] at e;cases e;have d':Data.seq vs.toArray _=Data.dict es ep:=d;cases d'
   have nsK:∀{b:A0} {m:Str->Option A1},s₁.heap.Ns b m->(hidT s₁.heap H).Ns b m:=λ{b m} ⟨o,es,ep,e,d,r⟩=>⟨o,es,ep,base_of e (noA e d),d,r⟩
   have hKb:K.In (hidT s₁.heap H):=λb o e=>base_of (KX b o e) (by
    cases q:H b with
    |none=>rfl
    | some u =>
     have e':b=a:=hA b (by rw[q];simp);subst e'
     rw[hK (by rw[q];simp)] at e;cases e)
   have hM:Mod K mg (hidT s₁.heap H):=⟨hKb,nsK hns,⟨mb,nsK hb,hbb⟩,let ⟨mc,h1,h2⟩:=hlim;⟨mc,nsK h1,h2⟩⟩;have e0:Env0 P w K mg (hidT s₁.heap H) callerA [] s₁ H:=⟨rfl,hM,λb o e=>Nx e,Dd (Nv _ _),trivial,λb hb=>absurd (show b∈([]:List A0) from hb) (by simp),hok,.of_eq hg,(hO X6).imp id λ⟨o,xs,e⟩=>⟨o,_,e⟩⟩;refine AX ((F _ hKb (nsK hns)).run callerA [] s₁ H ⟨[.ref a],[]⟩ [.ref a] [.ref a] _ _ hr e0 (hbind s₁ (.ref a)) (.cons rfl .nil) (hsp H hO hS)) λr s' h=>?_;cases r with
   |error e=>exact(hCX H e s' h).elim
   | ok fl =>
    cases fl with
    |next=>exact d7 h
    |brk=>exact d7 h
    |cont=>exact d7 h
    | ret u =>
     obtain⟨v,H',os,bare,un,hok',r',q⟩:=h;have q':v=.bl true:=q;subst q';obtain rfl:u=Value.bool true:=r';refine⟨rfl,OldK.of_keep λb o e=>?_,os,bare⟩;cases q:H b with
     |none=>exact un.keep b o e q (by intro z;exact absurd (show b∈([]:List A0) from z) (by simp)) (by simp)
     | some u =>
      rcases hO b with z|⟨ob,xs,z⟩
      ·rw[q] at z;cases z
      ·have z2:=un.frzs b ob _ z;obtain⟨e1,_⟩:=hok b _ z;obtain⟨e2,_⟩:=hok' b _ z2;rw[e] at e1;cases e1;exact e2
 cases hk:K.lookup a with
 | some o =>
  -- the script is one of the module's own objects
  have e:=KX a o hk;rw[ha] at e;cases e;refine core (λ_=>none) (λ_=>.inl rfl) (.inr ⟨_,vs.toArray,_,hk,rfl,rfl,rfl,by rw[D9,lenV];exact hl,by simpa using rv⟩) (λb u z=>by have z':(none:Option HO)=some u:=z;cases z') (λb z=>absurd rfl z) λz=>absurd rfl z
 | none =>
  refine core (λb=>if b=a then some (.frz { cls:=.type "list",data:=.seq vs.toArray } (.lst (ns.map V.int))) else none) (λb=>?_) (.inl (.inr ⟨{ cls:=.type "list",data:=.seq vs.toArray },jt rfl⟩)) (λb u z=>?_) (λb z=>?_) λ_=>hk
  ·by_cases hb:b=a
   ·exact .inr ⟨_,_,jt hb⟩
   ·exact .inl (ju hb)
  ·by_cases hb:b=a
   ·have z':=(jt hb).symm.trans z;cases z';subst hb;exact⟨ha,by rw[A9];exact hl,vs,_,rv,ha⟩
   ·have z':=(ju hb).symm.trans z;cases z'
  ·by_cases hb:b=a
   ·exact hb
   ·exact absurd (ju hb) z
abbrev KOf {K:A7}{h:B1}(_:K.In h):A7:=K
theorem Oz {l:PySem.W.OpenLaw}{K:Params->A7}{CX:B8->CXT}{sp:B8->Sp}
   (hn:l.most=some n) (hn2:n<=B7) (hdf:d.params.defaults=[]) (hr:Room k callerA)
   (hY:∀(w:B8) (h:B1),YP w h->(K w.params).In h)
   (F:∀(w:B8) (mg:Str->Option A1) (fa:A0) (h:B1),(K w.params).In h->h.Ns T3 mg->mg d.name=some (.ref fa)->
     ∃ fd : FuncData, (∀ (s : A4) (u : A1), BindsTo s fd ⟨[u], []⟩ [(x, u)]) /\
       ∀base:B1,(K w.params).In base->base.Ns T3 mg->FnOk l.prog w (K w.params) mg base (CX w) k fa fd [x] (sp w))
   (hsp:∀(w:B8) (H:Hp) (a:A0) (ns:List Int),ns.length<=n->Only H->SqL (K w.params) H a (ns.map V.int)->sp w [.ref a] H (λv _=>v=.bl true) λ_ _ _=>False)
   (hCX:∀(w:B8) (H:Hp) (s:A4) (e:A1) (s':A4),CX w [] H s (λ_ _ _=>False) e s'->False) :
   PySem.W.WalkO q loose XP YP l.row.toRowW d [] (λf vs=>PySem.call f vs):=by
 refine Att.attach_call hn hdf λw s₀ s₁ mg mb fa o pm cd doc a vs ns G Y ho hd hcd hmg hobj hints hlen hg=>?_;have KX:=hY w _ Y;obtain⟨fd,hb,hF⟩:=F w mg fa _ KX G.T.g hmg;exact Oy KX G.T.g G.T.b G.T.builtins G.T.nolimit hg hobj hints (E5 hlen hn2) hr hF hb (λH hO hS=>hsp w H a ns hlen hO hS) λH e s'=>hCX w H s₁ e s'
def p9 (s:Stmt):Arguments:=match s with
 |.FunctionDef _ a _ _ _ _ _ _ _ _=>a
 |_=>{ posonlyargs:=[],args:=[],vararg:=none,kwonlyargs:=[],kw_defaults:=[],kwarg:=none,defaults:=[] }
def R4 (s:Stmt):List Stmt:=match s with
 |.FunctionDef _ _ b _ _ _ _ _ _ _=>b
 |_=>[]
def G5 (s:Stmt):E3:=match s with
 |.FunctionDef _ _ _ _ _ _ sc _ _ _=>sc
 |_=>{ kind:=.function,names:=[],isGenerator:=false,isCoroutine:=false }
abbrev CX0:CXT:=λ_ _ _ _ _ _=>False
abbrev E0:XK:=λ_ _ _=>False
theorem pass0:GS CX0 X E0:=λ_ _ _ _ _ _ _ h=>h.elim
structure Fun (K:A7)(x qual:Str)(st:Stmt)(f:A0)(fd:FuncData):Prop where
 ex:∃(oc:A1) (od:Option A0) (kV doc pm:A1) (an:Option A0) (jo ct:A1) (osl:Array (Option A1)),
  fd=Y0 x qual (p9 st) (R4 st) (G5 st) .none kV doc pm an jo ct/\K.lookup f=some ⟨oc,od,.func fd,osl⟩/\EC K jo qual=true
 kp:CZ K (.ref f)=true
section
variable {P:C3}{w:B8}{K:A7}{mg:Str->Option A1}{base:B1}
theorem Fun.ok {st:Stmt}(F:Fun K x qual st f fd)(S:p7 N ps (G5 st))(len:∀vs H Q E,sp vs H Q E->vs.length=ps.length)
   (hbody:∀(jo:A1) (A:C8) (outer:List Env) (s:A4) (H:Hp) (vs:List V) (Q:VK) (E:XK),Room k (A.deeper (envOfC qual (G5 st) s.heap.objs.size f jo))->sp vs H Q E->
     ∃t,PSs (cxOf CX0 P w K mg base N qual (G5 st) f jo A outer s H E).nox (R4 st) t/\t { nx:=λ_ H'=>Q .non H',rt:=Q } (start N vs) H):FnOk P w K mg base CX0 (k+1) f fd ps sp:=by
 obtain⟨oc,od,kV,doc,pm,an,jo,ct,osl,rfl,lk,hcd⟩:=F.ex;refine fn_of lk hcd S len λA outer s H vs Q E hr hsp=>?_;obtain⟨t,h,q⟩:=hbody jo A outer s H vs Q E hr hsp;exact⟨t,h.nox,q⟩
theorem Fun.binds {st:Stmt}{f:A0}{fd:FuncData}{ps:List Str}(F:Fun K x qual st f fd)
   (h:∀(kV doc pm:A1) (an:Option A0) (jo ct:A1) (us:List A1),us.length=ps.length->bindArgs (Y0 x qual (p9 st) (R4 st) (G5 st) .none kV doc pm an jo ct) ⟨us,[]⟩=pure (ps.zip us)):Ch K fd ps []:=by
 obtain⟨oc,od,kV,doc,pm,an,jo,ct,osl,rfl,lk,hcd⟩:=F.ex;exact .all (h kV doc pm an jo ct)
theorem fun_mk {x qual:Str}{st:Stmt}{f:A0}{oc:A1}{od an:Option A0}{osl:Array (Option A1)}{kV doc pm jo ct:A1}(l:K.lookup f=some ⟨oc,od,.func (Y0 x qual (p9 st) (R4 st) (G5 st) .none kV doc pm an jo ct),osl⟩)
   (c:EC K jo qual=true) (k:CZ K (.ref f)=true):Fun K x qual st f (Y0 x qual (p9 st) (R4 st) (G5 st) .none kV doc pm an jo ct):=⟨⟨oc,od,kV,doc,pm,an,jo,ct,osl,rfl,l,c⟩,k⟩
end
section
variable {X:Cx}
theorem pv (i:Nat){x:Str}{pos:Pos}(hN:X.N[i]?=some x:=by rfl)(hv:Vis X.env.scope x:=by first|exact Or.inl rfl|exact Or.inr (Or.inl rfl)|exact Or.inr (Or.inr rfl))(hd:(x == ("__debug__":Str))=false:=by decide)
   (hcd:(x == ("__classdict__":Str))=false:=by decide):PE X (.Name x pos) (tVar i):=Ju hN hv hd hcd
end
theorem ite2 {c A B:Prop}[Decidable c](h1:c->A)(h2:¬c->B):if c then A else B:=by grind
def Same (H H':Hp):Prop:=∀b o,H b=some o->H' b=some o
theorem Same.refl (H:Hp):Same H H:=λ_ _ h=>h
theorem GX {prog:C3}{w:B8}{A:C8}{R:Result->A4->Prop}{s:A4}{ji target iter:Expr}{jk:List Expr}{scope:E3}{pos:Pos}{it jm:A1}{env:Env}(I:Nat->A4->Prop)
   (turn:∀n s,I n s->A5 (A6 prog w) A (pyNext it) (fun r s₁=>match r with
    |none=>R (.ok .next) s₁
    |some v=>A5 (A6 prog w) A (Ap target it v) (λ_ s₁'=>A5 (A6 prog w) A (assign target env v) (λ_ s₂=>
        A5 (A6 prog w) A (forIn jk true fun c r=>if r=true then do let ok ← isTrue c env (eval c env);pure (AD ok) else pure (AD r)) (fun ok s₃=>
         if ok=true then A5 (A6 prog w) A (eval ji env) (λx s₄=>
          A5 (A6 prog w) A (call (.builtin "list.append") [jm,x]) (λ_ s₅=>∃m,m<n/\I m s₅) (λ_ _=>False) s₄) (λ_ _=>False) s₃
         else ∃m,m<n/\I m s₃) (λ_ _=>False) s₂) (λ_ _=>False) s₁') (λ_ _=>False) s₁) (λ_ _=>False) s)
   (n:Nat) (h:I n s) :
   L0 (A6 prog w) A (.compLoop (.ListComp ji [⟨target,iter,jk,0⟩] scope pos) 0 it jm env) R s:=by
 refine codeAny_loop rfl I (λn s hI=>?_) n h;show A5 _ A ((compTurn (.ListComp ji [⟨target,iter,jk,0⟩] scope pos) 0 it jm env).onRaise (λx=>do noteFrame x env;theTreesLotGoes x)) _ _ s;refine wpAny_noted ?_;rw[compTurn_list];refine A2 (j8 (A2 (F7 (turn n s hI) (λr s₁ h₁=>?_) λ_ _ h'=>h'.elim)));cases r with
 |none=>exact A8 h₁
 | some v =>
  refine A2 (F7 h₁ (λ_ s₁' h₁'=>?_) λ_ _ h'=>h'.elim);refine A2 (F7 h₁' (λ_ s₂ h₂=>A2 (F7 h₂ (λok s₃ h₃=>?_) λ_ _ h'=>h'.elim)) λ_ _ h'=>h'.elim);cases ok with
  |false=>exact A8 ⟨rfl,h₃⟩
  | true =>
   exact A2 (A2 (F7 h₃ (λx s₄ h₄=>A2 (F7 h₄ (λ_ s₅ h₅=>A8 (A8 ⟨rfl,h₅⟩)) λ_ _ h'=>h'.elim)) λ_ _ h'=>h'.elim))
def D1 (X:Cx)(scope:E3)(cl:List (Str×A0))(N:List Str)(fp:List A0)(C:A0)(s:A4)(H:Hp):Cx where
 prog:=X.prog
 w:=X.w
 K:=X.K
 mg:=X.mg
 base:=X.base
 A:=X.A
 N:=N
 s₀:=s
 H₀:=H
 env:=compEnvC scope cl C X.env
 outer:=X.stack
 stack:=X.stack
 ex:=fp
 fn:=λ_=>false
 calm:=X.calm
 pn:=X.pn
 xe:=λ_ _=>False
structure R5 (X:Cx)(scope:E3)(cl:List (Str×A0))(N:List Str)(cs:List (Option Nat)):Prop where
 clos:closureFor scope X.env=pure cl
 kind:scope.kind=.function
 nocell:∀y∈scope.names,y.2≠.cell
 names:∀y∈scope.names,y.2=.local->scope.names.lookup y.1=some .local
 sub:∀x c,cl.lookup x=some c->X.env.cells.lookup x=some c
 has:∀x,((T4 scope X.env).names.lookup x=some .cell\/(T4 scope X.env).names.lookup x=some .free)->∃c,cl.lookup x=some c
 len:cs.length=N.length
 cap:∀(k j:Nat) (x:Str),cs[k]?=some (some j)->N[k]?=some x->X.N[j]?=some x/\Vis X.env.scope x/\X.env.kindOf x≠some .local/\(∃c,cl.lookup x=some c)/\((T4 scope X.env).names.lookup x=some .cell\/(T4 scope X.env).names.lookup x=some .free)
def Ci:List (Str×A0)->List (Str×A0)->Prop
 |[],_=>True
 |y::r,cells=>cells.lookup y.1=some y.2/\Ci r cells
theorem Ci.get:∀{cl cells:List (Str×A0)},Ci cl cells->∀x c,cl.lookup x=some c->cells.lookup x=some c:=by intro a;induction a <;> intros <;> grind [Ci]
theorem GY {X:Cx}{scope:E3}{cl:List (Str×A0)}{N:List Str}{cs:List (Option Nat)}(clos:closureFor scope X.env=pure cl)(kind:scope.kind=.function)(nocell:(scope.names.all λy=>!(y.2 == .cell))=true)
   (names:(scope.names.all λy=>!(y.2 == .local)||scope.names.lookup y.1 == some .local)=true) (sub:Ci cl X.env.cells)
   (has:((T4 scope X.env).names.all λy=>!(y.2 == .cell||y.2 == .free)||(cl.lookup y.1).isSome)=true) (len:cs.length=N.length)
   (cap:((cs.zip N).all λy=>match y.1 with|none=>true|some j=>X.N[j]? == some y.2&&(X.env.scope.names.lookup y.2 == some .cell||X.env.scope.names.lookup y.2 == some .free)&&(cl.lookup y.2).isSome &&
     ((T4 scope X.env).names.lookup y.2 == some .cell||(T4 scope X.env).names.lookup y.2 == some .free))=true):R5 X scope cl N cs:=by
 refine⟨clos,kind,λy hy=>?_,λy hy e=>?_,sub.get,λx hx=>?_,len,λk j x hk hN=>?_⟩
 ·have:=E9.mp nocell y hy;intro z;rw[z] at this;cases this
 ·have:=E9.mp names y hy;rw[e] at this
  simpa using this
 ·rcases hx with hx|hx
  ·have:=E9.mp has _ (X3 hx);exact AA.mp (by simpa using this)
  ·have:=E9.mp has _ (X3 hx);exact AA.mp (by simpa using this)
 ·have hz:(cs.zip N)[k]?=some (some j,x):=by rw[Gr];exact⟨hk,hN⟩
  have:=E9.mp cap _ (J5 hz);simp only[b9,Bool.or_eq_true,beq_iff_eq] at this;obtain⟨⟨⟨h1,h2⟩,h3⟩,h4⟩:=this;refine⟨h1,?_,?_,AA.mp h3,h4⟩
  ·rcases h2 with h2|h2
   ·exact .inr (.inl h2)
   ·exact .inr (.inr h2)
  ·intro z;have z':X.env.scope.names.lookup x=some .local:=z;rw[z'] at h2;rcases h2 with h2|h2 <;> cases h2
def q8 (cs:List (Option Nat))(σ:St):St:=cs.map λo=>o.bind λj=>(σ[j]?).bind id
def PIf (X:Cx)(jk:List Expr)(t:TT):Prop:=
 ∀ (jb : List (A0 × Obj)) (s : A4) (σ : St) (H : Hp) (Q : Bool -> Hp -> Prop), Inv X jb σ H s -> t σ H Q ->
   A5 (A6 X.prog X.w) X.A (forIn jk true λc r=>if r=true then do let ok ← isTrue c X.env (eval c X.env);pure (AD ok) else pure (AD r)) (TP X jb σ Q) X.xe s
def tTru:TT:=λ_ H Q=>Q true H
theorem OA {X:Cx}:PIf X [] tTru:=λjb s σ H Q I h=>wpAny_tests_nil ⟨H,I,h⟩
theorem OB {X:Cx}{c:Expr}{t:TT}(h:PT X c t):PIf X [c] t:=λjb s σ H Q I hq=>wpAny_tests_one (h jb s σ H Q I hq)
def CompW (J:It)(g:TG)(tt:TT)(te:TE)(Q:VK)(D:A0)(σc:St)(H1:Hp):Prop:=∃W:Nat->Nat->St->Hp->Prop,(∃m,W 0 m σc H1)/\
 ∀i m σ' H',W i m σ' H'->(J.stop i H'/\Q (.ref D) H')\/(J.go i H'/\∀x H2,J.yld i H' x H2->g x σ' H2 fun σ3 H3=>tt σ3 H3 fun b H4=>
    if b=true then te σ3 H4 λv H5=>∃ys,H5 D=some (.lst ys)/\ys.length<B7/\∃m',m'<m/\W (i+1) m' σ3 (upd H5 D (.lst (ys++[v])))
    else ∃m',m'<m/\W (i+1) m' σ3 H4)
def GZ (cs:List (Option Nat))(wi:TI)(g:TG)(tt:TT)(te:TE):TE:=λσ H Q=>wi σ H λJ H1=>∀D,H1 D=none->CompW J g tt te Q D (q8 cs σ) (upd H1 D (.lst []))
theorem OC {X:Cx}{scope:E3}{cl:List (Str×A0)}{N:List Str}{cs:List (Option Nat)}(S:R5 X scope cl N cs){jb:List (A0×Obj)}{σ:St}{H:Hp}{s:A4}{fp:List A0}{h₁:B1}{tk:Nat}
   (I:Inv X jb σ H s) (f2:∀b∈fp,FpOk X jb H b) (ho:∀b∈fp,∃o,s.heap.get? b=some o)
   (old:∀b o,s.heap.get? b=some o->h₁.get? b=some o) (hns:h₁.Ns (s.heap.objs.size+1) (λx=>([]:List (Str×A1)).reverse.lookup x))
   (hD:h₁.get? s.heap.objs.size=some { cls:=.type "list",data:=.seq ([]:List A1).toArray }) :
   Inv (D1 X scope cl N fp (s.heap.objs.size+1) s H) jb (q8 cs σ) (upd H s.heap.objs.size (.lst [])) { s with heap:=h₁,toks:=tk }:=by
 have lt:∀b o,s.heap.get? b=some o->b<s.heap.objs.size:=λb o e=>B9 e;have neC:∀b o,s.heap.get? b=some o->b≠s.heap.objs.size+1:=λb o e=>D6 (x9 (lt b o e));have neD:∀b o,s.heap.get? b=some o->b≠s.heap.objs.size:=λb o e=>D6 (lt b o e);have nstk:∀b,b≠X.env.locals->b∉X.fs->b∉frs X.stack:=λb h1 h2 hb=>(C9.mp (I.stkSub b hb)).elim h1 h2
 have cellO:∀x c,cl.lookup x=some c->∃v o,s.heap.get? c=some o/\s.heap.IsCell c v:=λx c e=>by
  obtain⟨v,q⟩:=I.cell x c (S.sub x c e);obtain⟨o,h1,_⟩:=id q;exact⟨v,o,h1,q⟩
 refine⟨⟨I.ok.mod,S.kind,I.ok.glob,I.ok.blt,O7 _,λx y c h1 h2=>I.ok.inj x y c (S.sub x c h1) (S.sub y c h2),λx hx=>S.has x hx,λx c hx=>(by cases hx),I.ok.hd,I.ok.frames,.inl rfl,λb hb=>?_,I.bs,E5 I.ok.bsz I.sz,λb o e hb=>?_,λb hb=>?_,I.stack,I.stkFree,I.nos⟩,
  rfl,I.bare,Un.laid old (B3 _) I.fresh I.bigS,⟨_,hns,λi x v e1 e2 e3=>?_⟩,λx c e=>?_,?_,λx c e=>?_,λp hp=>?_,I.hok.laid old (B3 _) ⟨D5 _,[],0,.nil,hD⟩,?_⟩
 ·obtain⟨o,e⟩:=ho b hb;exact⟨neC b o e,λx c ec=>(f2 b hb).2.2.2.2.1 x c (S.sub x c ec)⟩
 ·rcases(f2 b hb).2.2.2.1 with z|z
  ·exact I.ok.noex b o e z
  ·exact absurd (G0 (B9 e) (E5 I.ok.bsz z)) (Q9 _)
 ·exact nstk b (f2 b hb).2.1 (f2 b hb).2.2.1
 ·have e2':(cs.map λo=>o.bind λj=>(σ[j]?).bind id)[i]?=some (some v):=e2;rw[C6] at e2';cases ec:cs[i]? with
  |none=>rw[ec] at e2';cases e2'
  | some o =>
   rw[ec] at e2';cases o with
   |none=>cases e2'
   | some j =>
    have e2'':(σ[j]?).bind id=some v:=by simpa using e2'
    cases es:σ[j]? with
    |none=>rw[es] at e2'';cases e2''
    | some ov =>
     rw[es] at e2'';have e4:ov=some v:=by simpa using e2''
     subst e4;obtain⟨hN,hv,hnl,⟨c,hc⟩,hk⟩:=S.cap i j x ec e1;obtain⟨m,hn,hl⟩:=I.loc;obtain⟨u,r,l⟩:=hl j x v hN es hv;refine⟨u,r,?_⟩;rcases l with⟨hk',_⟩|⟨_,c',hc',z⟩
     ·grind
     ·have ecc:c'=c:=by
       have:=S.sub x c hc;rw[hc'] at this;exact F6 this
      subst ecc;obtain⟨o,h1,h2⟩:=z;exact .inr ⟨hk,c',hc,⟨o,old _ o h1,h2⟩⟩
 ·obtain⟨v,o,h1,o',h2,h3⟩:=cellO x c e;exact⟨v,o',old _ o' h2,h3⟩
 ·show upd H s.heap.objs.size (.lst []) (s.heap.objs.size+1)=none;rw[D0 (EF _)];exact I.hok.fresh (O7 _)
 ·obtain⟨v,o,h1,_⟩:=cellO x c e;rw[D0 (neD c o h1)];exact I.freeC x c (S.sub x c e)
 ·obtain⟨e,n,ne,nf,d⟩:=I.pin p hp;exact⟨old _ _ e,by rw[D0 (neD _ _ e)];exact n,neC _ _ e,nstk _ ne nf,d⟩
 ·show(cs.map _).length=N.length;rw[A9];exact S.len
theorem Inv.uncomp
   (I:Inv X jb σ H s) (f2:∀b∈fp,FpOk X jb H b)
   (J:Inv (D1 X scope cl N fp (s.heap.objs.size+1) s H) jb σ' H' s') (hs:∀b,b≠s.heap.objs.size+1->h'.get? b=s'.heap.get? b) :
   Inv X jb σ H' { s' with heap:=h' }:=by
 obtain⟨hh,g,d,t,os'⟩:=s';obtain rfl:os'=s.os:=J.os;have U:Un (frs X.stack) fp H H' s.heap hh:=J.base;have old:∀b o,s.heap.get? b=some o->b≠s.heap.objs.size+1:=λb o e=>D6 (x9 (B9 e));have hs':∀b,b≠s.heap.objs.size+1->h'.get? b=hh.get? b:=hs
 have trC:∀b u,H' b=some u->b≠s.heap.objs.size+1:=λb u e z=>by
  have q:H' (s.heap.objs.size+1)=none:=J.free;rw[z,q] at e;cases e
 show Inv X jb σ H' { s with heap:=h',gens:=g,drawn:=d,toks:=t };refine I.call (h':=h') (g':=g) (d':=d) (t':=t) (ch:=fp) ⟨λb o e n hb hx=>?_,λb o e n hb hx=>?_,U.free,λb o e hx=>?_,U.tups,U.frzs,U.tbls,U.sys⟩ (λb u e=>?_) J.bare λb hb=>?_
 ·rw[hs' b (old b o e)];exact U.keep b o e n hb hx
 ·rw[hs' b (old b o e)];exact U.slot b o e n hb hx
 ·rw[hs' b (old b o e)];exact U.there b o e hx
 ·refine(J.hok b u e).stay (λc v hc q=>?_) (λ_ q=>q) λ_ _ q=>q
  have ne:c≠s.heap.objs.size+1:=by
   rcases hc with z|z
   ·rw[z];exact trC b u e
   ·exact trC c _ z
  rw[hs' c ne];exact q
 ·exact⟨(f2 b hb).2.2.2.1,(f2 b hb).2.1,(f2 b hb).2.2.2.2.1,(f2 b hb).2.2.2.2.2⟩
theorem G_ {K:A7}{W:Nat->Nat->St->Hp->Prop}{s5 s7:A4}(T:Turn P w K tg J fp it tn)(st5:tn (i+1) s5.heap)(I7:Inv Y (jb++Ce fp s5.heap) σ7 H7 s7)(n7:∃m',m'<n/\W (i+1) m' σ7 H7):∃m,m<n/\∃i σ' H',Inv Y jb σ' H' s7/\tn i s7.heap/\(∀b∈fp,H' b=none)/\W i m σ' H':=by
 obtain⟨m',hm,w7⟩:=n7;have pn:∀b∈fp,∀o,s5.heap.get? b=some o->_:=λb hb o e=>I7.pin (b,o) (X8 _ (X8 _ (GQ hb e)));refine⟨m',hm,i+1,σ7,H7,I7.unpinned,T.keep _ _ _ st5 λb hb o e=>(pn b hb o e).1,λb hb=>?_,w7⟩;obtain⟨o,e,d⟩:=T.obj _ _ st5 b hb;exact(pn b hb o e).2.1
theorem Fe {Y:Cx}{jb:List (A0×Obj)}{tg ji:Expr}{jk:List Expr}{g:TG}{tt:TT}{te:TE}{J:It}{fp:List A0}{it D:A0}{tn:Nat->B1->Prop}{W:Nat->Nat->St->Hp->Prop}{N:St->Hp->Prop}{Rn:A4->Prop}(T:Turn Y.prog Y.w Y.K tg J fp it tn)(hc:Y.calm=true)(stat:∀{H':Hp},(∀b∈fp,H' b=none)->∀b∈fp,FpOk Y jb H' b)(hg:PG Y tg g)(hf:PIf Y jk tt)(he:PE Y ji te)(fin:∀s σ H,Inv Y jb σ H s->N σ H->Rn s)
   (turn:∀i m σ' H',W i m σ' H'->(J.stop i H'/\N σ' H')\/(J.go i H'/\∀x H2,J.yld i H' x H2->g x σ' H2 λσ3 H3=>tt σ3 H3 λb H4=>
    if b=true then te σ3 H4 λv H5=>∃ys,H5 D=some (.lst ys)/\ys.length<B7/\∃m',m'<m/\W (i+1) m' σ3 (upd H5 D (.lst (ys++[v])))
    else ∃m',m'<m/\W (i+1) m' σ3 H4)) (n:Nat) (s:A4) (hI:∃i σ' H',Inv Y jb σ' H' s/\tn i s.heap/\(∀b∈fp,H' b=none)/\W i n σ' H') :
   A5 (A6 Y.prog Y.w) Y.A (pyNext (.ref it)) (λr s₁=>match r with
    |none=>Rn s₁
    |some v=>A5 (A6 Y.prog Y.w) Y.A (Ap tg (.ref it) v) (λ_ s₁'=>A5 (A6 Y.prog Y.w) Y.A (assign tg Y.env v) (λ_ s₂=>
        A5 (A6 Y.prog Y.w) Y.A (forIn jk true fun c r=>if r=true then do let ok ← isTrue c Y.env (eval c Y.env);pure (AD ok) else pure (AD r)) (fun ok s₃=>
         if ok=true then A5 (A6 Y.prog Y.w) Y.A (eval ji Y.env) (λx s₄=>
          A5 (A6 Y.prog Y.w) Y.A (call (.builtin "list.append") [.ref D,x]) (λ_ s₅=>∃m,m<n/\∃i σ' H',Inv Y jb σ' H' s₅/\tn i s₅.heap/\(∀b∈fp,H' b=none)/\W i m σ' H') Y.xe s₄) Y.xe s₃
         else ∃m,m<n/\∃i σ' H',Inv Y jb σ' H' s₃/\tn i s₃.heap/\(∀b∈fp,H' b=none)/\W i m σ' H') Y.xe s₂) Y.xe s₁') Y.xe s₁) Y.xe s:=by
 obtain⟨i,σ3,H3,I3,st3,fr3,w3⟩:=hI;rcases turn i n σ3 H3 w3 with⟨stop,qn⟩|⟨go,step⟩
 ·refine thn (T.done Y rfl rfl rfl hc i jb s σ3 H3 Y.xe I3 (stat fr3) st3 stop) λr s4 ⟨hr,I4⟩=>?_;subst hr;exact fin s4 σ3 H3 I4 qn
 ·refine thn (T.item Y rfl rfl rfl hc i jb s σ3 H3 Y.xe I3 (stat fr3) st3 go) λr s4 ⟨u,hr,h4⟩=>?_;subst hr;refine thn h4 λ_ s5 ⟨x,H5,I5,r5,y5,st5,fr5⟩=>?_;refine thn (hg _ s5 σ3 H5 x u _ (I5.pinned (stat fr5) (T.obj _ _ st5)) r5 (step x H5 y5)) λ_ s6 ⟨σ6,H6,I6,q6⟩=>?_;refine thn (hf _ s6 σ6 H6 _ I6 q6) λok s7 ⟨H7,I7,q7⟩=>?_;cases ok with
  |false=>exact G_ T st5 I7 q7
  | true =>
   refine thn (he _ s7 σ6 H7 _ I7 q7) λy s8 ⟨v8,H8,I8,r8,ys,e8,z8,n8⟩=>?_;have ma:=JY (X:=Y) _ s8 σ6 H8 (.ref D) [v8] (.ref D) [y] (λv H9=>∃m',m'<n/\W (i+1) m' σ6 H9) I8 rfl (.cons r8 .nil) ⟨_,ys,v8,rfl,rfl,e8,z8,n8⟩;exact thn ma λ_ s9 ⟨v9,H9,I9,_,q9⟩=>G_ T st5 I9 q9
theorem Ff {X:Cx}{scope:E3}{cl:List (Str×A0)}{N:List Str}{cs:List (Option Nat)}{ji tg iter:Expr}{jk:List Expr}{gs:List Comprehension}{pos p0:Pos}{wi:TI}{use:Option (A1->Sem Unit)}{Qf:A1->A4->Prop}{QQ:It->A0->St->Hp->Prop}(S:R5 X scope cl N cs)(hc:X.calm=true)(hi:PI X tg iter wi)
   (hs:∀x,G7 iter X.env x=pure x) {jb:List (A0×Obj)} {s:A4} {σ:St} {H:Hp} (I:Inv X jb σ H s) (h:wi σ H λJ H1=>∀D,H1 D=none->QQ J D (q8 cs σ) (upd H1 D (.lst [])))
   (loop:∀(fp:List A0) (it:A0) (tn:Nat->B1->Prop) (J:It) (s2:A4) (H2:Hp) (s₃:A4),Turn X.prog X.w X.K tg J fp it tn->(∀{H':Hp},(∀b∈fp,H' b=none)->∀b∈fp,FpOk (D1 X scope cl N fp (s2.heap.objs.size+1) s2 H2) jb H' b)->Inv X jb σ H2 s2->(∀b∈fp,FpOk X jb H2 b)->QQ J s2.heap.objs.size (q8 cs σ) (upd H2 s2.heap.objs.size (.lst []))->
     Inv (D1 X scope cl N fp (s2.heap.objs.size+1) s2 H2) jb (q8 cs σ) (upd H2 s2.heap.objs.size (.lst [])) s₃->tn 0 s₃.heap->(∀b∈fp,upd H2 s2.heap.objs.size (.lst []) b=none)->
     L0 (A6 X.prog X.w) X.A (.compLoop (.ListComp ji (⟨tg,iter,jk,0⟩::gs) scope pos) 0 (.ref it) (.ref s2.heap.objs.size) (compEnvC scope cl (s2.heap.objs.size+1) X.env)) (compPost (A6 X.prog X.w) X.A X.xe use Qf (.ref s2.heap.objs.size) (s2.heap.objs.size+1)) s₃) :
   A5 (A6 X.prog X.w) X.A (comprehension (.ListComp ji (⟨tg,iter,jk,0⟩::gs) scope pos) scope X.env p0 (newList []) false (eval iter X.env) use) Qf X.xe s:=by
 refine wpAny_comprehension_free rfl hs S.clos S.kind S.names (thn (hi jb s σ H _ I h) λv s1 h1=>thn h1 λitv s2 h2=>?_);obtain⟨it,fp,tn,J,H2,rfl,I2,T,st2,f2,q⟩:=h2
 have ho:∀b∈fp,∃o,s2.heap.get? b=some o:=λb hb=>by
  obtain⟨o,e,_⟩:=T.obj 0 _ st2 b hb;exact⟨o,e⟩
 refine N1 (wpAny_newFunctionEnv S.nocell (by intro y hy;simp at hy) (λh₁ hns₁ hsb₁=>?_) S.kind);dsimp only at hns₁ hsb₁ ⊢;have hC:(s2.heap.push { cls:=.type "list",dict:=none,data:=.seq ([]:List A1).toArray }).objs.size=s2.heap.objs.size+1:=by rw[T9]
 generalize hH2:s2.heap.push { cls:=.type "list",dict:=none,data:=.seq ([]:List A1).toArray }=hp2 at hns₁ hsb₁ hC ⊢;have lt:∀{b o},s2.heap.get? b=some o->b<s2.heap.objs.size+1:=λe=>x9 (B9 e);have old:∀b o,s2.heap.get? b=some o->h₁.get? b=some o:=λb o e=>hsb₁.extBut b o (by rw[hC];exact D6 (lt e)) (B6 _ (hH2▸B6 _ e));have hD:h₁.get? s2.heap.objs.size=some { cls:=.type "list",data:=.seq ([]:List A1).toArray }:=hsb₁.extBut _ _ (by rw[hC];exact D6 (Nat.lt_succ_self _)) (B6 _ (hH2▸E4 _ rfl));rw[hC] at hns₁ ⊢;have st1:tn 0 h₁:=T.keep _ _ _ st2 λb hb o e=>old b o e
 have L:=loop fp it tn J s2 H2 _ T (λhn b hb=>by
  obtain⟨o,e⟩:=ho b hb
  exact⟨hn b hb,D6 (lt e),λz=>(C9.mp (I2.stkSub b z)).elim (f2 b hb).2.1 (f2 b hb).2.2.1,.inl hb,λx c ec=>(f2 b hb).2.2.2.2.1 x c (S.sub x c ec),(f2 b hb).2.2.2.2.2⟩) I2 f2 (q _ I2.fresh) (OC S (tk:=s2.toks+([]:List (Str×A1)).length) I2 f2 ho old hns₁ hD) st1 λb hb=>by
  obtain⟨o,e⟩:=ho b hb;rw[D0 (D6 (B9 e))];exact(f2 b hb).1
 exact codeAny_compStart_list L (T.self _ 0 _ _ _ st1 L)
theorem J_ {X:Cx}{scope:E3}{cl:List (Str×A0)}{N:List Str}{jb:List (A0×Obj)}{σ σ3:St}{H2 H3:Hp}{s2 s4:A4}{fp:List A0}{Q:VK}(I2:Inv X jb σ H2 s2)(f2:∀b∈fp,FpOk X jb H2 b)(I4:Inv (D1 X scope cl N fp (s2.heap.objs.size+1) s2 H2) jb σ3 H3 s4)(qn:Q (.ref s2.heap.objs.size) H3) :
   compPost (A6 X.prog X.w) X.A X.xe none (EP X jb σ Q) (.ref s2.heap.objs.size) (s2.heap.objs.size+1) (.ok .next) s4:=by
 obtain⟨m4,hn4,_⟩:=I4.loc;exact⟨m4,hn4,λh' hs'=>⟨.ref s2.heap.objs.size,H3,Inv.uncomp I2 f2 I4 λb hb=>hs'.2 b hb,rfl,qn⟩⟩
theorem Ka {X:Cx}{scope:E3}{cl:List (Str×A0)}{N:List Str}{cs:List (Option Nat)}{ji tg iter:Expr}{jk:List Expr}{pos:Pos}{wi:TI}{g:TG}{tt:TT}{te:TE}(S:R5 X scope cl N cs)(hc:X.calm=true)(hi:PI X tg iter wi)
   (hb:∀(fp:List A0) (C:A0) (s:A4) (H:Hp),PG (D1 X scope cl N fp C s H) tg g/\PIf (D1 X scope cl N fp C s H) jk tt/\PE (D1 X scope cl N fp C s H) ji te)
   (hs:∀x,G7 iter X.env x=pure x:=by intro _;rfl) :
   PE X (.ListComp ji [⟨tg,iter,jk,0⟩] scope pos) (GZ cs wi g tt te):=by
 intro jb s σ H Q I h;rw[eval_ListComp];refine Ff S hc hi hs I h λfp it tn J s2 H2 s₃ T stat I2 f2 q Ic st1 fr1=>?_;obtain⟨W,⟨m0,w0⟩,turn⟩:=q;obtain⟨hg,hf,he⟩:=hb fp (s2.heap.objs.size+1) s2 H2;exact GX _ (Fe (Y:=D1 X scope cl N fp (s2.heap.objs.size+1) s2 H2) T hc stat hg hf he (λs4 σ3 H3 I4 qn=>J_ I2 f2 I4 qn) turn) m0 ⟨0,_,_,Ic,st1,fr1,w0⟩
section
variable {X:Cx}
theorem Vals.getE (r:Vals xs us)(h:j<us.length):∃x,xs[j]?=some x/\RelV x us[j]:=by
 have hl:=r.length;have h':j<xs.length:=by omega
 obtain⟨u,e,q⟩:=r.get (i:=j) (x:=xs[j]) (by simp[h']);refine⟨xs[j],by simp[h'],?_⟩;have e':us[j]?=some us[j]:=by simp[h]
 rw[e'] at e;cases e;exact q
theorem Kb (h:R3 x=true):eqV x x=true:=by
 cases x <;> simp_all [R3,eqV]
theorem OD:K4 X (.builtin "isinstance") (λvs H Q=>∃x n t b,vs=[x,.ty n]/\TyOf X.K H x t/\CY X.K t (.type n)=some b/\Q (.bl b) H):=by
 intro jb s σ H vs us Q I rv h;obtain⟨x,n,t,b,rfl,ty,e,q⟩:=h;obtain⟨u,v,rfl,r1,r2⟩:=rv.two;cases r2;exact NX I r1 ty e λtk=>⟨.bl b,H,I.tok tk,rfl,q⟩
theorem Kc:∀{bs:List Bool} {us:List A1} {j:Nat} {u:A1},Vals (bs.map V.bl) us->us[j]?=some u->∃b,bs[j]?=some b/\u=Value.bool b:=by
 intro bs us j u r e
 have hj:j<us.length:=by
  obtain⟨h,_⟩:=E1.mp e;exact h
 obtain⟨x,e1,q1⟩:=r.getE hj;rw[C6] at e1;cases eb:bs[j]? with
 |none=>rw[eb] at e1;cases e1
 | some b =>
  rw[eb] at e1;cases e1;have e2:us[j]?=some us[j]:=by simp[hj]
  rw[e2] at e;cases e;exact⟨b,rfl,q1⟩
theorem OE (bs:List Bool):((C7 bs.length).all λi=>(bs[i]?).getD true)=bs.all id:=by
 rw[BU,E9,E9];constructor
 ·intro h b hb;obtain⟨i,hi,rfl⟩:=CQ hb;have:=h i (F8.mpr hi)
  simpa[C4 hi] using this
 ·intro h i hi;have hi':=F8.mp hi;simp only[C4 hi',Dj];exact h _ (Av hi')
theorem OF (bs:List Bool):((C7 bs.length).any λi=>(bs[i]?).getD false)=bs.any id:=by
 rw[BU,BK,BK];constructor
 ·rintro⟨i,hi,e⟩;have hi':=F8.mp hi;simp only[C4 hi',Dj] at e;exact⟨_,Av hi',e⟩
 ·rintro⟨b,hb,e⟩;obtain⟨i,hi,rfl⟩:=CQ hb;exact⟨i,F8.mpr hi,by simp only[C4 hi,Dj];exact e⟩
theorem Kd {s:A4}{h':B1}{o:Obj}(hk:∀b x,b∉[s.heap.objs.size]->(s.heap.push o).get? b=some x->h'.get? b=some x):∀b x,s.heap.get? b=some x->h'.get? b=some x:=
 λb x e=>hk b x (λhm=>by rw[J6.mp hm] at e;exact Q9 _ (B9 e)) (B6 _ e)
def rAll (K:A7):List V->Hp->VK->Prop:=λvs H Q=>∃(p:A0) (bs:List Bool),vs=[.ref p]/\SqL K H p (bs.map V.bl)/\Q (.bl (bs.all id)) H
def rAny (K:A7):List V->Hp->VK->Prop:=λvs H Q=>∃(p:A0) (bs:List Bool),vs=[.ref p]/\SqL K H p (bs.map V.bl)/\Q (.bl (bs.any id)) H
theorem OG (hc:X.calm=true):K4 X (.builtin "all") (rAll X.K):=by
 intro jb s σ H vs us Q I rv h;obtain⟨p,bs,rfl,hq,q⟩:=h;obtain⟨u,rfl,r1⟩:=rv.one;cases r1;obtain⟨jf,r,pl,hz⟩:=I.list hq;have hl:=pl.isList;have hlt:p<s.heap.objs.size:=by obtain⟨_,e,_⟩:=hl;exact B9 e
 have len:jf.toArray.size=bs.length:=by simpa using r.length.symm
 refine call_all_walk (CN hl ?_)
 refine⟨s.heap.objs.size,[s.heap.objs.size,p],[s.heap.objs.size],jf.toArray.size,_,_,λi=>(bs[i]?).getD true,rfl,Walks.list (A:=X.A.in1) (I.ok.hd hc) _ p (D6 hlt) jf.toArray,
  ⟨⟨_,E4 _ rfl,rfl,rfl⟩,hl.push _⟩,λi v s' Q' E' hP hQ=>?_,λh' tk hk=>?_⟩
 ·obtain⟨b,e,rfl⟩:=Kc r (j:=i) (u:=v) (by grind);simp only[e,Dj] at hQ;exact j6 hQ
 ·rw[len,OE];exact⟨.bl _,H,I.kept (Kd hk),rfl,q⟩
theorem OH (hc:X.calm=true):K4 X (.builtin "any") (rAny X.K):=by
 intro jb s σ H vs us Q I rv h;obtain⟨p,bs,rfl,hq,q⟩:=h;obtain⟨u,rfl,r1⟩:=rv.one;cases r1;obtain⟨jf,r,pl,hz⟩:=I.list hq;have hl:=pl.isList;have hlt:p<s.heap.objs.size:=by obtain⟨_,e,_⟩:=hl;exact B9 e
 have len:jf.toArray.size=bs.length:=by simpa using r.length.symm
 refine call_any_walk (CN hl ?_)
 refine⟨s.heap.objs.size,[s.heap.objs.size,p],[s.heap.objs.size],jf.toArray.size,_,_,λi=>(bs[i]?).getD false,rfl,Walks.list (A:=X.A.in1) (I.ok.hd hc) _ p (D6 hlt) jf.toArray,
  ⟨⟨_,E4 _ rfl,rfl,rfl⟩,hl.push _⟩,λi v s' Q' E' hP hQ=>?_,λh' tk hk=>?_⟩
 ·obtain⟨b,e,rfl⟩:=Kc r (j:=i) (u:=v) (by simpa using hP);simp only[e,Dj] at hQ;exact j6 hQ
 ·rw[len,OF];exact⟨.bl _,H,I.kept (Kd hk),rfl,q⟩
def Ite (K:A7)(a:A0):It:=
 ⟨λi H=>∃xs x,SqL K H a xs/\xs[i]?=some x,λi H x H'=>∃p v,H p=none/\x=.ref p/\H'=upd H p (.tup [.int i,v])/\∀xs,SqL K H a xs->xs[i]?=some v,λi H=>∃xs,SqL K H a xs/\xs.length<=i⟩
theorem Inv.turnedNew {ch:List A0}(I:Inv X jb σ H s)(k:∀b o,b∉ch->s.heap.get? b=some o->h'.get? b=some o)
   (hf:∀b∈ch,FpOk X jb H b) (new:J1 X.prog X.w (upd H s.heap.objs.size (.tup xs)) h' s.heap.objs.size (.tup xs)):Inv X jb σ (upd H s.heap.objs.size (.tup xs)) { s with heap:=h',toks:=t' }:=by
 have nch:∀b u,H b=some u->b∉ch:=λb u e z=>by rw[(hf b z).1] at e;cases e
 have nD:∀b o,s.heap.get? b=some o->b≠s.heap.objs.size:=λb o e=>D6 (B9 e)
 refine I.step (g':=s.gens) (d':=s.drawn) (ch:=ch) (λb hb=>⟨(hf b hb).2.2.2.1,(hf b hb).2.1,(hf b hb).2.2.2.2.1,(hf b hb).2.2.2.2.2⟩) (λb o _ _ hc e _=>k b o hc e) (λb o _ _ hc e _=>⟨o.slots,k b o hc e⟩) (λb o _ e n=>by rw[D0 (nD b o e)];exact n)
   (λb o hc e=>⟨o,k b o hc e⟩) (λb ys e=>by rw[D0 (d9 e I.fresh)];exact e) (λb o u e=>by rw[D0 (d9 e I.fresh)];exact e) (λb ps e=>⟨#[],by rw[D0 (d9 e I.fresh),e];simp⟩) (λz=>by unfold NS;rw[D0 (D6 I.bigS)];exact z) (λm hm=>?_) (λb u e=>?_) I.bare
 ·obtain⟨o,es,ep,ho,r⟩:=hm;exact⟨o,es,ep,k _ o (λz=>(hf _ z).2.1 rfl) ho,r⟩
 ·by_cases hb:b=s.heap.objs.size
  ·subst hb;rw[J0] at e;cases e;exact new
  ·rw[D0 hb] at e;refine(I.hok b u e).stay (λc v hc q=>k c v ?_ q) (λc q=>by rw[D0 (d9 q I.fresh)];exact q) λc ys q=>by rw[D0 (d9 q I.fresh)];exact q
   rcases hc with z|z
   ·rw[z];exact nch b u e
   ·exact nch c _ z
theorem OI {P:C3}{w:B8}{K:A7}{elts:List Expr}{x1}{pos:Pos}(a e it:A0)(hne:e≠it) :
   Turn P w K (.Tuple elts x1 pos) (Ite K a) [e,it] e (λi h=>(∃old,IsEnum h e it i old)/\h.IsListIter it a i) where
 mem:=by simp
 obj:=λi h st b hb=>by
  obtain⟨⟨old,he⟩,o,e1,c,d⟩:=st;have hb':b=e\/b=it:=by simpa using hb
  rcases hb' with rfl|rfl
  ·exact⟨_,he,λv z=>by cases z⟩
  ·exact⟨o,e1,λv z=>by rw[d] at z;cases z⟩
 keep:=λi h h' st k=>by
  obtain⟨⟨old,he⟩,st⟩:=st;exact⟨⟨old,k e (by simp) _ he⟩,st.at λo e=>k it (by simp) o e⟩
 item:=by
  intro X hP hw hK hc i jb s σ H E I hf st hg;subst hP hw hK;obtain⟨⟨old,he⟩,st⟩:=st;obtain⟨xs,x,hq,hx⟩:=hg;obtain⟨jf,rv,p,hz⟩:=I.list hq;obtain⟨u,hu,ru⟩:=rv.get hx;refine wpAny_pyNext_enum_item he st p.isList (x:=u) (by simpa using hu) hne λh' he' st' ht hz' k=>?_;refine⟨_,rfl,wpAny_letOwnedTupleGo_enum (s:={ s with heap:=h',toks:=s.toks+1 }) he' λh'' he'' sb=>?_⟩;have hpe:s.heap.objs.size≠e:=y7 (B9 he);have ht'':h''.get? s.heap.objs.size=some { cls:=.type "tuple",data:=.seq #[.int i s.toks,u] }:=(sb.2 _ hpe).trans ht
  have k':∀b o,b∉[e,it]->s.heap.get? b=some o->h''.get? b=some o:=λb o hb q=>by
   have hb1:b≠e:=λz=>hb (by simp[z]);have hb2:b≠it:=λz=>hb (by simp[z]);exact(sb.2 b hb1).trans (k b o hb1 hb2 q)
  have I1:Inv X jb σ (upd H s.heap.objs.size (.tup [.int i,x])) { s with heap:=h'',toks:=s.toks+1 }:=
   I.turnedNew k' hf ⟨by show 2<=B7;decide,[.int i s.toks,u],.cons ⟨_,rfl⟩ (.cons ru .nil),⟨_,ht'',rfl,_,rfl⟩⟩
  refine⟨.ref s.heap.objs.size,_,I1,rfl,⟨_,x,I.fresh,rfl,rfl,λys hy=>by rw[I.list_inj hy hq];exact hx⟩,⟨⟨u,he''⟩,?_⟩,λb hb=>?_⟩
  ·obtain⟨o,e1,c,d⟩:=st';exact⟨o,(sb.2 it (Ne.symm hne)).trans e1,c,d⟩
  ·have hb':b=e\/b=it:=by simpa using hb
   have hbs:b≠s.heap.objs.size:=by
    rcases hb' with rfl|rfl
    ·exact Ne.symm hpe
    ·obtain⟨o,e1,_⟩:=st;exact D6 (B9 e1)
   rw[D0 hbs];exact(hf b hb).1
 done:=by
  intro X hP hw hK hc i jb s σ H E I hf st hg;subst hP hw hK;obtain⟨⟨old,he⟩,st⟩:=st;obtain⟨xs,hq,hx⟩:=hg;obtain⟨jf,rv,p,hz⟩:=I.list hq;obtain⟨f0,f1,f2,f3,f4,f5⟩:=hf it (by simp);have hl:=rv.length;exact wpAny_pyNext_enum_end (I.ok.hd hc) he st p.isList (by simp;omega) λh' eb=>⟨rfl,I.turned (t':=s.toks) (λb o hb e=>eb b o hb e) f0 f1 f3 f4 f5⟩
 self:=λ_ _ _ _ _ st h=>by
  obtain⟨⟨old,he⟩,_⟩:=st;exact Eg he h
def iEnum (K:A7)(ta:TA):TI:=λσ H R=>ta σ H λvs H1=>∃a,vs=[.ref a]/\(∃xs,SqL K H1 a xs)/\R (Ite K a) H1
theorem OJ {l:Expr}{ta:TA}{p pos:Pos}{elts:List Expr}{x1}{tpos:Pos}(hg:Gl X "enumerate")(hm:X.mg "enumerate"=none)(ha:PA X [l] ta)(hs:E8 [l] X.env=[(false,eval l X.env)]:=by rfl) :
   PI X (.Tuple elts x1 tpos) (.Call (.Name "enumerate" p) [l] [] pos) (iEnum X.K ta):=by
 intro jb s σ H R I h;refine Call_ (Bl I hg hm boot_enumerate (Dk (thn (ha pos jb s σ H _ I h) λus s1 ⟨vs,H1,I1,r1,q1⟩=>?_) hs rfl));obtain⟨a,e,⟨xs,hq⟩,q⟩:=q1;subst e;obtain⟨u,rfl,ru⟩:=r1.one;obtain rfl:u=L4 a:=ru;obtain⟨jf,rv,pl,hz⟩:=I1.list hq;refine call_enumerate_list pl.isList λh' hE hI hsz hk=>?_;refine Eg hE ?_;have I2:Inv X jb σ H1 { s1 with heap:=h' }:=I1.kept (t':=s1.toks) hk;refine⟨s1.heap.objs.size+1,[s1.heap.objs.size+1,s1.heap.objs.size],_,_,H1,rfl,I2,OI a _ _ (EF _),⟨⟨_,hE⟩,hI⟩,λb hb=>?_,q⟩;have hb':b=s1.heap.objs.size+1\/b=s1.heap.objs.size:=by simpa using hb
 rcases hb' with rfl|rfl
 ·exact I1.fpOk (O7 _) (I1.hok.fresh (O7 _))
 ·exact I1.fpOk (B3 _) (I1.hok.fresh (B3 _))
end
theorem Ke:J4 "len"=some (.builtin "len"):=by decide +kernel
theorem bt_abs:J4 "abs"=some (.builtin "abs"):=by decide +kernel
theorem bt_min:J4 "min"=some (.builtin "min"):=by decide +kernel
theorem bt_all:J4 "all"=some (.builtin "all"):=by decide +kernel
theorem bt_any:J4 "any"=some (.builtin "any"):=by decide +kernel
theorem OL:J4 "isinstance"=some (.builtin "isinstance"):=by decide +kernel
theorem Kf:J4 "sorted"=some (.builtin "sorted"):=by decide +kernel
theorem bt_repr:J4 "repr"=some (.builtin "repr"):=by decide +kernel
theorem bt_int:J4 "int"=some (.type "int"):=by decide +kernel
theorem bt_str:J4 "str"=some (.type "str"):=by decide +kernel
theorem OM:J4 "bool"=some (.type "bool"):=by decide +kernel
theorem ON:J4 "list"=some (.type "list"):=by decide +kernel
theorem Kg:J4 "tuple"=some (.type "tuple"):=by decide +kernel
theorem bt_set:J4 "set"=some (.type "set"):=by decide +kernel
theorem OR (p:V->Prop)(h:(∀v,p v->R v H)->tIf tA ta tb σ H R)(hp:∀v,p v->R v H):tIf tA ta tb σ H R:=h hp
theorem at_map {ns:List Int}(h0:0<=k)(h:k<(ns.length:Int)):∃v,atI (ns.map V.int) k=some (.int v):=by
 have hk:k.toNat<ns.length:=by omega
 have q:atI (ns.map V.int) ((k.toNat:Nat):Int)=some (.int ns[k.toNat]):=e9 (by rw[C6,C4 hk] <;> rfl)
 rw[show((k.toNat:Nat):Int)=k by omega] at q;exact⟨_,q⟩
theorem kit_of {K:A7}(h:(if(F9 T == F9 S)=true then some true else if PySem.W.kitMeta S=true then(fastBuiltinMro T).map (·.contains (.type S)) else none)=some b):CY K (.type T) (.type S)=some b:=h
structure Kn (P:C3)(w:B8)(K:A7)(mg:Str->Option A1)(base:B1)(x:Str)(k:Nat)(ps:List Str)(sp:Sp):Prop where
 ex:∃(f:A0) (fd:FuncData),FnOk P w K mg base CX0 k f fd ps sp/\Ch K fd ps []/\CZ K (.ref f)=true/\mg x=some (.ref f)/\∃oc od osl,K.lookup f=some ⟨oc,od,.func fd,osl⟩
structure Fn0 (K:A7)(mg:Str->Option A1)(x:Str)(st:Stmt):Prop where
 ex:∃(f:A0) (fd:FuncData),Fun K x x st f fd/\mg x=some (.ref f)
theorem fn0_mk {K:A7}{st:Stmt}(X:K.In h)(G:h.Ns T3 mg){kV doc pm jo ct:A1}
   (a:PySem.W.nsIn K T3 x=some (some (.ref f))) (l:K.lookup f=some ⟨oc,od,.func (Y0 x x (p9 st) (R4 st) (G5 st) .none kV doc pm an jo ct),osl⟩)
   (c:EC K jo x=true) (k:CZ K (.ref f)=true):Fn0 K mg x st:=⟨f,_,fun_mk l c k,PySem.W.mg_of X G a⟩
section
variable {P:C3}{w:B8}{K:A7}{mg:Str->Option A1}{base:B1}
theorem Fn0.ok {st:Stmt}{N ps:List Str}{k:Nat}{sp:Sp}(F:Fn0 K mg x st)(S:p7 N ps (G5 st))(len:∀vs H Q E,sp vs H Q E->vs.length=ps.length)
   (bd:∀(kV doc pm:A1) (an:Option A0) (jo ct:A1) (us:List A1),us.length=ps.length->bindArgs (Y0 x x (p9 st) (R4 st) (G5 st) .none kV doc pm an jo ct) ⟨us,[]⟩=pure (ps.zip us))
   (hbody:∀(f:A0) (jo:A1) (A:C8) (outer:List Env) (s:A4) (H:Hp) (vs:List V) (Q:VK) (E:XK),Room k (A.deeper (envOfC x (G5 st) s.heap.objs.size f jo))->sp vs H Q E->
     ∃t,PSs (cxOf CX0 P w K mg base N x (G5 st) f jo A outer s H E).nox (R4 st) t/\t { nx:=λ_ H'=>Q .non H',rt:=Q } (start N vs) H):Kn P w K mg base x (k+1) ps sp:=by
 obtain⟨f,fd,F1,m⟩:=F.ex
 have lk:∃oc od osl,K.lookup f=some ⟨oc,od,.func fd,osl⟩:=by
  obtain⟨oc,od,kV,doc,pm,an,jo,ct,osl,_,lk,hcd⟩:=F1.ex;exact⟨oc,od,osl,lk⟩
 exact⟨f,fd,F1.ok S len λjo A outer s H vs Q E hr h=>hbody f jo A outer s H vs Q E hr h,F1.binds bd,F1.kp,m,lk⟩
theorem Kn.imp {x:Str}{k:Nat}{ps:List Str}{sp sp':Sp}(G:Kn P w K mg base x k ps sp)(h:∀vs H Q E,sp' vs H Q E->sp vs H Q E):Kn P w K mg base x k ps sp':=by
 obtain⟨f,fd,a,b,c,d⟩:=G.ex;exact⟨f,fd,a.imp h,b,c,d⟩
end
section
variable {X:Cx}{x:Str}{p pos:Pos}{e:Expr}{es:List Expr}{t:TA}{ps:List Str}{sp:Sp}{j k:Nat}
theorem pe_fn (G:Kn X.prog X.w X.K X.mg X.base x k ps sp)(hr:Room j X.A)(hk:k<=j)(hg:Gl X x)(ha:PA X (e::es) t)(hdb:(x == ("__debug__":Str))=false:=by decide)
   (he:E8 (e::es) X.env=(false,eval e X.env)::E8 es X.env:=by rfl) (hpl:(backTo pos (E8 es X.env)).any (·.1)=false:=by rfl) :
   PE X (.Call (.Name x p) (e::es) [] pos) (tCall sp [] E0 t):=by
 intro jb s σ H Q I h;obtain⟨f,fd,F,hb,hkp,hm,_⟩:=G.ex;exact NY F (hr.mono hk) hg hm hkp hb .nil pass0 ha hdb he hpl jb s σ H Q I h
end
def Fg (K:A7):Sp:=λvs H Q _=>∃(a:A0) (ns:List Int),vs=[.ref a]/\SqL K H a (ns.map V.int)/\ns.length<=63/\Only H/\∀H',Q (.bl true) H'
theorem OS {l:PySem.W.OpenLaw}{q:C3}{loose:List Str}{XP:(Str->Option A1)->B1->Prop}{YP:B8->B1->Prop}{d:DefRec}{K:Params->A7}{x:Str}{k:Nat}(hn:l.most=some 63)(hdf:d.params.defaults=[])(hk:Room k callerA)
   (hY:∀(w:B8) (h:B1),YP w h->(K w.params).In h)
   (F:∀(w:B8) (mg:Str->Option A1) (h:B1),(K w.params).In h->h.Ns T3 mg->∃st,Fn0 (K w.params) mg d.name st/\
     (∀(kV doc pm:A1) (an:Option A0) (jo ct:A1) (s:A4) (u:A1),BindsTo s (Y0 d.name d.name (p9 st) (R4 st) (G5 st) .none kV doc pm an jo ct) ⟨[u],[]⟩ [(x,u)])/\
     ∀base:B1,(K w.params).In base->base.Ns T3 mg->Kn l.prog w (K w.params) mg base d.name k [x] (Fg (K w.params))) :
   PySem.W.WalkO q loose XP YP l.row.toRowW d [] (λf vs=>PySem.call f vs):=by
 refine L2.Oz (n:=63) (k:=k) (x:=x) (CX:=λ_=>CX0) (sp:=λw=>Fg (K w.params)) hn (by decide) hdf hk hY (λw mg fa h KX G hmg=>?_) (λ_ _ a ns hl hO hS=>⟨a,ns,rfl,hS,hl,hO,λ_=>rfl⟩) λ_ _ _ _ _ z=>z;obtain⟨st,F0,hb,hF⟩:=F w mg h KX G;obtain⟨f,fd,F1,m⟩:=F0.ex;have e:=hmg.symm.trans m;cases e;refine⟨fd,λs u=>?_,λbase kb nb=>?_⟩
 ·obtain⟨oc,od,kV,doc,pm,an,jo,ct,osl,rfl,lk,hcd⟩:=F1.ex;exact hb kV doc pm an jo ct s u
 ·obtain⟨f',fd',a,b,c,m',oc',od',osl',lk'⟩:=(hF base kb nb).ex;have e:=m.symm.trans m';cases e;obtain⟨oc,od,kV,doc,pm,an,jo,ct,osl,_,lk,hcd⟩:=F1.ex;have e2:=lk.symm.trans lk';cases e2;exact a
section
variable {X:Cx}
theorem OT:OpR X (Q5 .Mult) (λx y H Q=>∃i n,x=.str i/\y=.int n/\i.length<=100/\0<=n/\n<=1000/\Q (.str (V6 i n)) H):=by
 intro jb s σ H x y v u Q I rx ry h;obtain⟨i,n,rfl,rfl,h1,h2,h3,q⟩:=h;obtain⟨t,rfl⟩:=rx;obtain⟨t',rfl⟩:=ry;exact SB.mul (mulOk_of 100 1000 h1 h3 (by omega) (by decide) (by decide)) λt' tk=>⟨.str _,H,I.tok _,⟨_,rfl⟩,q⟩
theorem OU:∀{ys:List Str} {us:List A1},Vals (ys.map V.str) us->StrsAre us ys:=by
 intro ys
 induction ys with
 | nil => intro us r; cases us with
  |nil=>exact .nil
  |cons a b=>cases r
 | cons y ys ih =>
  intro us r;cases us with
  |nil=>cases r
  | cons u us =>
   have r':Vals (V.str y::ys.map V.str) (u::us):=r;cases r' with
   | cons h t =>
    obtain⟨tk,rfl⟩:=h;exact .cons y tk (ih t)
theorem OV:MtR X "str.join" (λx vs H Q=>∃(sep:Str) (l:A0) (ys:List Str),x=.str sep/\vs=[.ref l]/\SqL X.K H l (ys.map V.str)/\(ys.map (·.length)).sum+ys.length*sep.length<=16777216/\Q (.str (AE sep ys)) H):=by
 intro jb s σ H x vs v us Q I rx rv h;obtain⟨sep,l,ys,rfl,rfl,hq,hz,q⟩:=h;obtain⟨t,rfl⟩:=rx;obtain⟨u,rfl,ru⟩:=rv.one;obtain rfl:u=L4 l:=ru;obtain⟨jf,r,pl,_⟩:=I.list hq;exact join_list pl.isList (by simpa using OU r) hz λt' k=>⟨.str _,H,I.tok _,⟨_,rfl⟩,q⟩
theorem Dy (x y:Str):(x++y).cps.toList=x.cps.toList++y.cps.toList:=by
 show(x.cps++y.cps).toList=_;simp
theorem OW (l:List (Array Nat)):∀jm:Array Nat,(l.foldl (·++·) jm).toList=jm.toList++(l.map (·.toList)).flatten:=by induction l <;> grind
theorem Kh (x:Str)(n:Int):(V6 x n).cps.toList=(T7 n.toNat x.cps.toList).flatten:=by
 unfold V6
 split
 ·rename_i h;rw[show n.toNat=0 by omega]
  rfl
 ·split
  ·rename_i h0 h;rw[Bool.or_eq_true] at h;rcases h with h|h
   ·simp_all
   ·have hz:x.cps.toList=[]:=by
     have:x.length=0:=by simpa using h
     have h2:x.cps.size=0:=this;exact w8 (by grind)
    rw[hz];simp
  ·show((T7 n.toNat x.cps).foldl (·++·) #[]).toList=_;rw[OW];simp
theorem OX:∀ys:List Str,(AE (B0 "") ys).cps.toList=(ys.map (·.cps.toList)).flatten:=by
 have h:∀ys:List Str,(Str.join (B0 "") ys).cps.toList=(ys.map (·.cps.toList)).flatten:=by
  intro ys
  induction ys with
  |nil=>rfl
  | cons a r ih =>
   cases r with
   |nil=>simp[Str.join]
   | cons b r =>
    show((a++B0 "")++Str.join (B0 "") (b::r)).cps.toList=_;rw[Dy,Dy,ih];have z:(B0 "").cps.toList=[]:=by decide
    rw[z];simp
 intro ys;show(Builtin.Str.glued (B0 "") ys).cps.toList=_;rw[StrLaws.glued_eq_join];exact h ys
theorem Ad (x:Str):x.length=x.cps.toList.length:=by
 show x.cps.size=_;simp
def Low (l:List Nat):Prop:=∀c∈l,97<=c/\c<=122
theorem Low.app {a b:List Nat}(h:Low a)(h':Low b):Low (a++b):=by grind [Low]
end
theorem Same.lay {H H':Hp}{p:A0}{o:HO}(s:Same H H')(h:H' p=none):Same H (upd H' p o):=λb u e=>by
 rw[D0 (d9 (s b u e) h)];exact s b u e
theorem OY {c:TT}{t u:TS}{D:Ends}{σ:St}{H:Hp}(p:St->Hp->Prop)(h:(∀σ' H',p σ' H'->D.nx σ' H')->tIfS c t u D σ H)(hp:∀σ' H',p σ' H'->D.nx σ' H'):tIfS c t u D σ H:=h hp
theorem Ae {n:Nat}{d:Int}(h0:0<=d)(h1:d<n):ixN n d=some d.toNat:=by grind [ixN]
theorem Dz {α:Type}{xs:List α}{d:Int}(h0:0<=d)(h1:d<xs.length):∃x,xs[d.toNat]?=some x/\atI xs d=some x:=by
 have hk:d.toNat<xs.length:=by omega
 refine⟨xs[d.toNat],C4 hk,?_⟩;unfold atI;rw[Ae h0 h1];simp
section
variable {X:Cx}
theorem OZ:OpR X (L7 .LtE) (λx y H Q=>∃i j,x=.str i/\y=.str j/\Q (.bl (!decide (j.cps.toList<i.cps.toList))) H):=by
 intro jb s σ H x y v u Q I rx ry h;obtain⟨i,j,rfl,rfl,q⟩:=h;obtain⟨t,rfl⟩:=rx;obtain⟨t',rfl⟩:=ry;exact PySem.P.le_str ⟨.bl _,H,I,rfl,q⟩
def rSlS:V->Option Int->Option Int->Hp->VK->Prop:=λx lo hi H Q=>∃z,x=.str z/\z.length<=B7/\Q (.str (P8 z lo hi)) H
theorem sl_str:SlR X rSlS:=by
 intro jb s σ H x v vl vu lo hi sl Q I rx hs pl pu h;obtain⟨z,rfl,hz,q⟩:=h;obtain⟨t,rfl⟩:=rx;refine⟨"str",_,F.slot_str_getitem.lookup,typeIs_str _ _ _,?_⟩;cases pl with
 | none =>
  cases pu with
  |none=>exact Ef (l:=none) (u:=none) (st:=none) hs rfl (Ek ⟨E5 (B_ z _ _) hz,λt' k=>⟨.str _,H,I.tok _,⟨_,rfl⟩,q⟩⟩)
  |int j tj=>exact Ef (l:=none) (u:=some (j,tj)) (st:=none) hs rfl (Ek ⟨E5 (B_ z _ _) hz,λt' k=>⟨.str _,H,I.tok _,⟨_,rfl⟩,q⟩⟩)
 | int i ti =>
  cases pu with
  |none=>exact Ef (l:=some (i,ti)) (u:=none) (st:=none) hs rfl (Ek ⟨E5 (B_ z _ _) hz,λt' k=>⟨.str _,H,I.tok _,⟨_,rfl⟩,q⟩⟩)
  |int j tj=>exact Ef (l:=some (i,ti)) (u:=some (j,tj)) (st:=none) hs rfl (Ek ⟨E5 (B_ z _ _) hz,λt' k=>⟨.str _,H,I.tok _,⟨_,rfl⟩,q⟩⟩)
def rCatA (K:A7):R2:=λx y H Q=>∃a b xs ys,x=.ref a/\y=.ref b/\SqT K H a xs/\SqT K H b ys/\xs.length+ys.length<=B7/\
 (xs=[]->Q (.ref b) H)/\(xs≠[]->ys=[]->Q (.ref a) H)/\(xs≠[]->ys≠[]->∀p,H p=none->Q (.ref p) (upd H p (.tup (xs++ys))))
theorem O_:OpR X (Q5 .Add) (rCatA X.K):=by
 intro jb s σ H x y v u Q I rx ry h;obtain⟨a,b,xs,ys,rfl,rfl,ha,hb,hz,q0,q1,q2⟩:=h
 by_cases hx:xs=[]
 ·cases rx;cases ry;obtain⟨jf,r1,p1,_⟩:=I.tuple ha;obtain⟨its2,r2,p2,_⟩:=I.tuple hb;obtain⟨⟨cls,dd,data,sl⟩,ho,hc,n,hd⟩:=id p1;obtain⟨⟨cls2,dd2,data2,sl2⟩,ho2,hc2,n2,hd2⟩:=id p2;simp only at hc hd hc2 hd2;subst hc hd hc2 hd2;have he:jf=[]:=r1.nil_iff.mpr hx
  exact concat_meets ⟨_,ho,rfl⟩ ⟨_,ho2,rfl⟩ noFill_tuple_add seq_tuple_add GH GF (GE _ _)
    (tuple_addW0 a b jf.toArray its2.toArray n n2 dd dd2 sl sl2 (by simp[he])) ⟨ho,ho2,⟨.ref b,H,I,rfl,q0 hx⟩⟩
 ·exact Og jb s σ H _ _ v u Q I rx ry ⟨a,b,xs,ys,rfl,rfl,ha,hb,hx,hz,q1 hx,q2 hx⟩
end
structure Num0 (mg:Str->Option A1)(x:Str)(i:Int):Prop where
 ex:∃t,mg x=some (.int i t)
theorem Pa {K:A7}{h:B1}{mg:Str->Option A1}{x:Str}{i:Int}{t:Tok}(X:K.In h)(G:h.Ns T3 mg)(a:PySem.W.nsIn K T3 x=some (some (.int i t))):Num0 mg x i:=⟨t,PySem.W.mg_of X G a⟩
theorem pe_num {X:Cx}{x:Str}{i:Int}{pos:Pos}(n:Num0 X.mg x i)(hg:Gl X x)(hd:(x == ("__debug__":Str))=false:=by decide):PE X (.Name x pos) (tC (.int i)):=λjb s σ H Q I h=>by
 obtain⟨t,e⟩:=n.ex;exact Jw (v:=.int i) hg e ⟨t,rfl⟩ hd jb s σ H Q I h
end L2
end
section
namespace Pu
open PySem PySem.Spec L2
inductive PV where
 |non|bl (b:Bool)|int (i:Int)|str (x:Str)|ty (n:String)|pot (k:Nat)
 |tup (xs:List PV)|lst (xs:List PV)|dct (ks:List Key) (xs:List PV)
 /-- the script -/
 |scr (ns:List Int)
 /-- a dict by tuples that nothing changes any more -/
 |fdt (ks:List (List Key)) (xs:List PV)
structure Gh where
 M:List A0
 pots:List A0
def KLst (K:A7)(a:A0)(xs:List V):Prop:=∃(o:Obj) (jf:Array A1) (n:Nat),K.lookup a=some o/\o.cls=.type "list"/\o.dict=none/\o.data=.seq jf n/\jf.size<=B7/\Vals xs jf.toList
def AtL (M:List A0)(H:Hp)(a:A0)(xs:List V):Prop:=a∉M/\H a=some (.lst xs)
def AtT (M:List A0)(H:Hp)(a:A0)(xs:List V):Prop:=a∉M/\H a=some (.tup xs)
theorem AtL.sq {K:A7}{M:List A0}{H:Hp}{a:A0}{xs:List V}(h:AtL M H a xs):SqL K H a xs:=SqL.of h.2
theorem AtT.sq {K:A7}{M:List A0}{H:Hp}{a:A0}{xs:List V}(h:AtT M H a xs):SqT K H a xs:=SqT.of h.2
mutual
def Rep (K:A7)(G:Gh)(H:Hp):PV->V->Prop
 |.non,v=>v=.non
 |.bl b,v=>v=.bl b
 |.int i,v=>v=.int i
 |.str x,v=>v=.str x
 |.ty n,v=>v=.ty n
 |.pot k,v=>∃p,G.pots[k]?=some p/\v=.ref p
 |.tup xs,v=>∃a vs,v=.ref a/\AtT G.M H a vs/\Reps K G H xs vs
 |.lst xs,v=>∃a vs,v=.ref a/\AtL G.M H a vs/\Reps K G H xs vs
 |.scr ns,v=>∃a,v=.ref a/\((a∉G.M/\∃o,H a=some (.frz o (.lst (ns.map V.int))))\/KLst K a (ns.map V.int))
 |.dct ks xs,v=>∃a jg,v=.ref a/\a∉G.M/\H a=some (.dK jg)/\jg.map (·.1)=ks/\Reps K G H xs (jg.map (·.2))
 |.fdt ks xs,v=>∃a jg,v=.ref a/\a∉G.M/\Rd H a (.dT jg)/\jg.map (·.1)=ks/\Reps K G H xs (jg.map (·.2))
def Reps (K:A7)(G:Gh)(H:Hp):List PV->List V->Prop
 |[],vs=>vs=[]
 |x::xs,vs=>∃v r,vs=v::r/\Rep K G H x v/\Reps K G H xs r
end
section
variable {K:A7}{G G':Gh}{H H':Hp}
theorem Rd.keep {a:A0}{u:HO}(h:Rd H a u)(k:∀o,H a=some o->H' a=some o):Rd H' a u:=by grind [HO,Rd]
theorem Rd.ne {a:A0}{u:HO}(h:Rd H a u):H a≠none:=by grind [HO,Rd]
mutual
theorem Rep.mono (hk:∀b o,b∉G.M->H b=some o->H' b=some o)(hM:∀a∈G'.M,a∈G.M\/H a=none)(hp:∀(k:Nat) (p:A0),G.pots[k]?=some p->G'.pots[k]?=some p):∀(x:PV) (v:V),Rep K G H x v->Rep K G' H' x v
 |.non,v,h=>h
 |.bl b,v,h=>h
 |.int i,v,h=>h
 |.str x,v,h=>h
 |.ty n,v,h=>h
 | .pot k, v, h => by
  obtain⟨p,e,r⟩:=h;exact⟨p,hp k p e,r⟩
 | .tup xs, v, h => by
  obtain⟨a,vs,e,t,r⟩:=h;refine⟨a,vs,e,?_,Reps.mono hk hM hp xs vs r⟩;obtain⟨n,t⟩:=t;exact⟨λz=>(hM a z).elim n (λz=>by rw[z] at t;cases t),hk a _ n t⟩
 | .lst xs, v, h => by
  obtain⟨a,vs,e,t,r⟩:=h;refine⟨a,vs,e,?_,Reps.mono hk hM hp xs vs r⟩;obtain⟨n,t⟩:=t;exact⟨λz=>(hM a z).elim n (λz=>by rw[z] at t;cases t),hk a _ n t⟩
 | .scr ns, v, h => by
  obtain⟨a,e,h⟩:=h;refine⟨a,e,?_⟩;rcases h with⟨n,o,t⟩|h
  ·exact .inl ⟨λz=>(hM a z).elim n (λz=>by rw[z] at t;cases t),o,hk a _ n t⟩
  ·exact .inr h
 | .dct ks xs, v, h => by
  obtain⟨a,jg,e,n,t,ek,r⟩:=h;exact⟨a,jg,e,λz=>(hM a z).elim n (λz=>by rw[z] at t;cases t),hk a _ n t,ek,Reps.mono hk hM hp xs _ r⟩
 | .fdt ks xs, v, h => by
  obtain⟨a,jg,e,n,t,ek,r⟩:=h;exact⟨a,jg,e,λz=>(hM a z).elim n (λz=>Rd.ne (u:=.dT jg) t z),Rd.keep (u:=.dT jg) t (λo e=>hk a o n e),ek,Reps.mono hk hM hp xs _ r⟩
theorem Reps.mono (hk:∀b o,b∉G.M->H b=some o->H' b=some o)(hM:∀a∈G'.M,a∈G.M\/H a=none)(hp:∀(k:Nat) (p:A0),G.pots[k]?=some p->G'.pots[k]?=some p):∀(xs:List PV) (vs:List V),Reps K G H xs vs->Reps K G' H' xs vs
 |[],vs,h=>h
 | x :: xs, vs, h => by
  obtain⟨v,r,e,hx,hr⟩:=h;exact⟨v,r,e,Rep.mono hk hM hp x v hx,Reps.mono hk hM hp xs r hr⟩
end
theorem Rep.same (h:Rep K G H x v)(s:Same H H'):Rep K G H' x v:=Rep.mono (λb o _ e=>s b o e) (λa z=>.inl z) (λ_ _ e=>e) x v h
theorem Reps.same (h:Reps K G H x v)(s:Same H H'):Reps K G H' x v:=Reps.mono (λb o _ e=>s b o e) (λa z=>.inl z) (λ_ _ e=>e) x v h
def Fr (G:Gh)(H H':Hp):Prop:=∀b o,b∉G.M->H b=some o->H' b=some o
theorem Fr.refl:Fr G H H:=λ_ _ _ e=>e
theorem Fr.trans (a:Fr G H H')(b:Fr G H' H2):Fr G H H2:=λc o n e=>b c o n (a c o n e)
theorem Fr.of (s:Same H H'):Fr G H H':=λb o _ e=>s b o e
theorem Rep.fr (h:Rep K G H x v)(s:Fr G H H'):Rep K G H' x v:=Rep.mono s (λa z=>.inl z) (λ_ _ e=>e) x v h
theorem Reps.fr (h:Reps K G H x v)(s:Fr G H H'):Reps K G H' x v:=Reps.mono s (λa z=>.inl z) (λ_ _ e=>e) x v h
theorem Reps.length:∀{xs:List PV} {vs:List V},Reps K G H xs vs->xs.length=vs.length
 |[],vs,h=>by cases(show vs=[] from h);rfl
 | x :: xs, vs, h => by
  obtain⟨v,r,e,hx,hr⟩:=h;subst e;simp[Reps.length hr]
theorem Reps.get:∀{xs:List PV} {vs:List V} {i:Nat} {v:V},Reps K G H xs vs->vs[i]?=some v->∃x,xs[i]?=some x/\Rep K G H x v
 |[],vs,i,v,h,e=>by cases(show vs=[] from h);simp at e
 | x :: xs, vs, i, v, h, e => by
  obtain⟨w,r,e1,hx,hr⟩:=h;subst e1;cases i with
  |zero=>simp at e;subst e;exact⟨x,rfl,hx⟩
  |succ i=>simpa using Reps.get (i:=i) hr (by grind)
theorem Reps.get':∀{xs:List PV} {vs:List V} {i:Nat} {x:PV},Reps K G H xs vs->xs[i]?=some x->∃v,vs[i]?=some v/\Rep K G H x v:=λ{xs vs i x} h e=>by
 obtain⟨hi,_⟩:=E1.mp e;have hl:=h.length;have e2:vs[i]?=some (vs[i]'(by omega)):=C4 (by omega);obtain⟨y,ey,r⟩:=h.get e2;rw[e] at ey;cases ey;exact⟨_,e2,r⟩
theorem Reps.append:∀{xs ys:List PV} {vs us:List V},Reps K G H xs vs->Reps K G H ys us->Reps K G H (xs++ys) (vs++us)
 |[],ys,vs,us,h,h'=>by cases(show vs=[] from h);exact h'
 | x :: xs, ys, vs, us, h, h' => by
  obtain⟨w,r,e1,hx,hr⟩:=h;subst e1;exact⟨w,r++us,rfl,hx,Reps.append hr h'⟩
theorem Reps.take:∀{xs:List PV} {vs:List V} (n:Nat),Reps K G H xs vs->Reps K G H (xs.take n) (vs.take n)
 |xs,vs,0,h=>by simp[Reps]
 |[],vs,n+1,h=>by cases(show vs=[] from h);exact rfl
 | x :: xs, vs, n + 1, h => by
  obtain⟨w,r,e1,hx,hr⟩:=h;subst e1;exact⟨w,r.take n,rfl,hx,Reps.take n hr⟩
theorem Reps.drop:∀{xs:List PV} {vs:List V} (n:Nat),Reps K G H xs vs->Reps K G H (xs.drop n) (vs.drop n)
 |xs,vs,0,h=>by simpa using h
 |[],vs,n+1,h=>by cases(show vs=[] from h);exact rfl
 | x :: xs, vs, n + 1, h => by
  obtain⟨w,r,e1,hx,hr⟩:=h;subst e1;exact Reps.drop n hr
theorem Reps.one (h:Rep K G H x v):Reps K G H [x] [v]:=⟨v,[],rfl,h,rfl⟩
theorem Reps.set:∀{xs:List PV} {vs:List V} (n:Nat) {x:PV} {v:V},Reps K G H xs vs->Rep K G H x v->Reps K G H (xs.set n x) (vs.set n v)
 |[],vs,n,x,v,h,_=>by cases(show vs=[] from h);exact rfl
 | y :: xs, vs, 0, x, v, h, h' => by
  obtain⟨w,r,e1,hx,hr⟩:=h;subst e1;exact⟨v,r,rfl,h',hr⟩
 | y :: xs, vs, n + 1, x, v, h, h' => by
  obtain⟨w,r,e1,hx,hr⟩:=h;subst e1;exact⟨w,r.set n v,rfl,hx,Reps.set n hr h'⟩
mutual
def noMut:PV->Bool
 |.lst _=>false
 |.dct _ _=>false
 |.fdt _ _=>false
 |.tup xs=>g9 xs
 |_=>true
def g9:List PV->Bool
 |[]=>true
 |x::xs=>noMut x&&g9 xs
end
def MutO:HO->Prop
 |.lst _=>True
 |.dK _=>True
 |.dT _=>True
 |.set _ _=>True
 |.tbl _=>True
 |_=>False
mutual
theorem Rep.noMut {M':List A0}(hm:∀a∈G.M,∃o,H a=some o/\MutO o):∀(x:PV) (v:V),Pu.noMut x=true->Rep K ⟨M',G.pots⟩ H x v->Rep K G H x v
 |.non,v,_,h=>h
 |.bl b,v,_,h=>h
 |.int i,v,_,h=>h
 |.str x,v,_,h=>h
 |.ty n,v,_,h=>h
 |.pot k,v,_,h=>h
 | .tup xs, v, e, h => by
  obtain⟨a,vs,ev,t,r⟩:=h;refine⟨a,vs,ev,?_,Reps.noMut hm xs vs (by simpa[Pu.noMut] using e) r⟩;obtain⟨n,t⟩:=t;refine⟨λz=>?_,t⟩;obtain⟨o,e1,e2⟩:=hm a z;rw[e1] at t;cases t;exact e2
 | .scr ns, v, _, h => by
  obtain⟨a,e,h⟩:=h;refine⟨a,e,?_⟩;rcases h with⟨n,o,t⟩|h
  ·refine .inl ⟨λz=>?_,o,t⟩;obtain⟨o',e1,e2⟩:=hm a z;rw[e1] at t;cases t;exact e2
  ·exact .inr h
theorem Reps.noMut {M':List A0}(hm:∀a∈G.M,∃o,H a=some o/\MutO o):∀(xs:List PV) (vs:List V),Pu.g9 xs=true->Reps K ⟨M',G.pots⟩ H xs vs->Reps K G H xs vs
 |[],vs,_,h=>h
 | x :: xs, vs, e, h => by
  obtain⟨v,r,ev,hx,hr⟩:=h;have e':Pu.noMut x=true/\Pu.g9 xs=true:=by simpa[Pu.g9] using e
  exact⟨v,r,ev,Rep.noMut hm x v e'.1 hx,Reps.noMut hm xs r e'.2 hr⟩
end
end
inductive OK where
 |lst|dk (ks:List Key)|dt (ks:List (List Key))|st (zs:List Key)
def memS (zs:List Key)(k:Key):Bool:=zs.any λz=>decide (z=k)
def mkO:OK->List V->HO
 |.lst,vs=>.lst vs
 |.dk ks,vs=>.dK (ks.zip vs)
 |.dt ks,vs=>.dT (ks.zip vs)
 |.st zs,_=>.set (memS zs) zs.length
theorem Ki (k:OK)(vs:List V):MutO (mkO k vs):=by cases k <;> trivial
inductive Slot where
 |v (x:PV)
 |ow (k:OK) (xs:List PV)
abbrev Slot.own (xs:List PV):Slot:=.ow .lst xs
abbrev Env:=List (Option Slot)
structure PotK where
 at_:List A0->Hp->A0->Nat->Prop
 mono:∀{M H p n m},at_ M H p n->n<=m->at_ M H p m
 keep:∀{M H H' p n},at_ M H p n->H' p=H p->(∀b o,b∉M->H b=some o->H' b=some o)->at_ M H' p n
 more:∀{M M' H p n},at_ M H p n->(∀a∈M',a∈M\/H a=none)->at_ M' H p n
 mu:∀{M H p n},at_ M H p n->∃o,H p=some o/\MutO o
 /-- what is known of all pots together -/
 has:List A0->Prop:=λ_=>True
 hasM:∀{l:List A0} {p:A0},has l->p∉l->has (l++[p]):=by intro _ _ _ _;trivial
structure Ct where
 K:A7
 T:PotK
 M0:List A0
 pots0:List A0
 H0:Hp
 np:Bool
def Ha (C:Ct)(G:Gh)(H:Hp)(o:Option (Option V)):Slot->Prop
 |.v x=>∃v,o=some (some v)/\Rep C.K G H x v
 |.ow k xs=>∃a vs,o=some (some (.ref a))/\a∈G.M/\a∉C.M0/\a∉G.pots/\H a=some (mkO k vs)/\Reps C.K G H xs vs
structure SR (C:Ct)(G:Gh)(σ:St)(H:Hp)(env:Env)(n:Nat):Prop where
 frame:∀b o,b∉C.pots0->C.H0 b=some o->H b=some o
 sub:∀a∈G.M,a∈C.M0\/C.H0 a=none
 sup:∀a∈C.M0,a∈G.M
 pots:∀p∈G.pots,p∈G.M/\C.T.at_ G.M H p n
 pre:∃l,G.pots=C.pots0++l/\(l=[]\/C.np=true)
 mu:∀a∈G.M,∃o,H a=some o/\MutO o
 slots:∀(i:Nat) (s:Slot),env[i]?=some (some s)->Ha C G H (σ[i]?) s
 inj:∀(i j:Nat) (xs ys:OK×List PV) (a:A0),env[i]?=some (some (.ow xs.1 xs.2))->env[j]?=some (some (.ow ys.1 ys.2))->σ[i]?=some (some (.ref a))->σ[j]?=some (some (.ref a))->i=j
 p0:(∀p∈C.pots0,p∈C.M0)/\C.T.has G.pots
 len:env.length=σ.length
 newp:∀p∈G.pots,p∉C.pots0->p∈C.M0->False
section
variable {C:Ct}{G G':Gh}{σ:St}{H H':Hp}{env:Env}{n:Nat}
theorem SR.hasG (S:SR C G σ H env n):C.T.has G.pots:=S.p0.2
theorem SR.fresh (S:SR C G σ H env n)(h:H p=none):p∉G.M:=λz=>by
 obtain⟨o,e,_⟩:=S.mu p z;rw[h] at e;cases e
theorem SR.same (S:SR C G σ H env n)(s:Same H H'):SR C G σ H' env n where
 frame b o hb e:=s b o (S.frame b o hb e)
 sub:=S.sub
 sup:=S.sup
 pots p hp:=⟨(S.pots p hp).1,C.T.keep (S.pots p hp).2 (by
  obtain⟨o,e,_⟩:=C.T.mu (S.pots p hp).2
  rw[e,s p o e]) λb o _ e=>s b o e⟩
 pre:=S.pre
 mu a ha:=by
  obtain⟨o,e,m⟩:=S.mu a ha;exact⟨o,s a o e,m⟩
 slots i x e:=by
  have:=S.slots i x e;cases x with
  | v x =>
   obtain⟨v,e1,r⟩:=this;exact⟨v,e1,r.same s⟩
  | ow kk xs =>
   obtain⟨a,vs,e1,h1,h2,h3,h4,r⟩:=this;exact⟨a,vs,e1,h1,h2,h3,s _ _ h4,r.same s⟩
 inj:=S.inj
 p0:=S.p0
 len:=S.len
 newp:=S.newp
theorem Same.lay1 (h:H p=none):Same H (upd H p o):=(Same.refl H).lay h
end
abbrev PK:=PV->Env->Nat->Prop
abbrev pE:=Env->Nat->PK->Prop
abbrev pT:=Env->Nat->(Bool->Env->Nat->Prop)->Prop
abbrev pA:=Env->Nat->(List PV->Env->Nat->Prop)->Prop
abbrev pF:=List PV->Nat->(PV->Nat->Prop)->Prop
def RdV (K:A7)(G:Gh)(H:Hp)(x:PV)(v:V):Prop:=Rep K G H x v\/∃a vs xs,x=.lst xs/\v=.ref a/\H a=some (.lst vs)/\Reps K G H xs vs
def RdS (C:Ct)(G:Gh)(σ:St)(H:Hp)(env:Env)(x:PV)(v:V):Prop:=Rep C.K G H x v\/∃(i:Nat) (a:A0) (xs:List PV),env[i]?=some (some (.ow .lst xs))/\σ[i]?=some (some (.ref a))/\x=.lst xs/\v=.ref a
def EOk (K:A7)(T:PotK)(t:TE)(pe:pE):Prop:=∀(C:Ct) (G:Gh) (σ:St) (H:Hp) (env:Env) (n:Nat) (R:PK) (Q:VK),C.K=K->C.T=T->SR C G σ H env n->pe env n R->
 (∀x jh n' v H',R x jh n'->SR C G σ H' jh n'->Rep K G H' x v->Fr G H H'->Q v H')->t σ H Q
def ROk (K:A7)(T:PotK)(t:TE)(pe:pE):Prop:=∀(C:Ct) (G:Gh) (σ:St) (H:Hp) (env:Env) (n:Nat) (R:PK) (Q:VK),C.K=K->C.T=T->SR C G σ H env n->pe env n R->
 (∀x jh n' v H',R x jh n'->SR C G σ H' jh n'->RdS C G σ H' jh x v->Fr G H H'->Q v H')->t σ H Q
def NOk (K:A7)(T:PotK)(t:TE)(pn:pA):Prop:=∀(C:Ct) (G:Gh) (σ:St) (H:Hp) (env:Env) (n:Nat) (R:List PV->Env->Nat->Prop) (Q:VK),C.K=K->C.T=T->SR C G σ H env n->pn env n R->
 (∀xs jh n' a vs Hb,R xs jh n'->SR C G σ Hb jh n'->Fr G H Hb->Hb a=none->Reps K G Hb xs vs->Q (.ref a) (upd Hb a (.lst vs)))->t σ H Q
def TOk (K:A7)(T:PotK)(t:TT)(pt:pT):Prop:=∀(C:Ct) (G:Gh) (σ:St) (H:Hp) (env:Env) (n:Nat) (R:Bool->Env->Nat->Prop) (Q:Bool->Hp->Prop),C.K=K->C.T=T->SR C G σ H env n->pt env n R->
 (∀b jh n' H',R b jh n'->SR C G σ H' jh n'->Fr G H H'->Q b H')->t σ H Q
def AOk (K:A7)(T:PotK)(t:TA)(pa:pA):Prop:=∀(C:Ct) (G:Gh) (σ:St) (H:Hp) (env:Env) (n:Nat) (R:List PV->Env->Nat->Prop) (Q:List V->Hp->Prop),C.K=K->C.T=T->SR C G σ H env n->pa env n R->
 (∀xs jh n' vs H',R xs jh n'->SR C G σ H' jh n'->Reps K G H' xs vs->Fr G H H'->Q vs H')->t σ H Q
structure EW (X:Cx)(e:Expr)(t:TE):Prop where
 h:PE X e t
structure SW (X:Cx)(st:Stmt)(t:TS):Prop where
 h:PS X st t
structure GW (X:Cx)(e:Expr)(g:TG):Prop where
 h:PG X e g
theorem vw (i:Nat)(hN:X.N[i]?=some x:=by rfl)(hv:Vis X.env.scope x:=by first|exact Or.inl rfl|exact Or.inr (Or.inl rfl)|exact Or.inr (Or.inr rfl))(hd:(x == ("__debug__":Str))=false:=by decide)(hcd:(x == ("__classdict__":Str))=false:=by decide):EW X (.Name x pos) (tVar i):=⟨Ju hN hv hd hcd⟩
inductive QE {ι:Type}(T:PotK)(K:A7)(F:ι->Cx)(e:Expr)(pe:pE):Prop
 |mk t (a:(∀z,PE (F z) e t)) (b:EOk K T t pe):QE T K F e pe
inductive QR {ι:Type}(T:PotK)(K:A7)(F:ι->Cx)(e:Expr)(pe:pE):Prop
 |mk t (a:(∀z,PE (F z) e t)) (b:ROk K T t pe):QR T K F e pe
inductive QN {ι:Type}(T:PotK)(K:A7)(F:ι->Cx)(e:Expr)(pn:pA):Prop
 |mk t (a:(∀z,PE (F z) e t)) (b:NOk K T t pn):QN T K F e pn
inductive QT {ι:Type}(T:PotK)(K:A7)(F:ι->Cx)(e:Expr)(pt:pT):Prop
 |mk t (a:(∀z,PT (F z) e t)) (b:TOk K T t pt):QT T K F e pt
inductive QW {ι:Type}(T:PotK)(K:A7)(F:ι->Cx)(e:Expr)(pt:pT):Prop
 |mk t (a:(∀z,PW (F z) e t)) (b:TOk K T t pt):QW T K F e pt
inductive QA {ι:Type}(T:PotK)(K:A7)(F:ι->Cx)(es:List Expr)(pa:pA):Prop
 |mk t (a:(∀z,PA (F z) es t)) (b:AOk K T t pa):QA T K F es pa
section
variable {T:PotK}{ι:Type}{K:A7}{F:ι->Cx}{e a b:Expr}{es:List Expr}{pe pa pb:pE}
theorem Reps.nil:Reps K G H [] []:=rfl
theorem Reps.cons (h:Rep K G H x v)(h':Reps K G H xs vs):Reps K G H (x::xs) (v::vs):=⟨v,vs,rfl,h,h'⟩
theorem RdS.rd (S:SR C G σ H env n)(h:RdS C G σ H env x v):RdV C.K G H x v:=by
 rcases h with h|⟨i,a,xs,e1,e2,ex,ev⟩
 ·exact .inl h
 ·obtain⟨a',vs,e3,_,_,_,h4,r⟩:=S.slots i _ e1;rw[e2] at e3;cases e3;exact .inr ⟨a,vs,xs,ex,ev,h4,r⟩
theorem RdS.fr (h:RdS C G σ H env x v)(f:Fr G H H'):RdS C G σ H' env x v:=by
 rcases h with h|h
 ·exact .inl (h.fr f)
 ·exact .inr h
theorem RdV.lst (h:RdV K G H (.lst xs) v):∃a vs,v=.ref a/\SqL K H a vs/\Reps K G H xs vs:=by
 rcases h with⟨a,vs,e,t,r⟩|⟨a,vs,ys,ex,ev,h4,r⟩
 ·exact⟨a,vs,e,t.sq,r⟩
 ·cases ex;exact⟨a,vs,ev,SqL.of h4,r⟩
theorem RdV.rep {K:A7}{G:Gh}{H:Hp}{x:PV}{v:V}(h:RdV K G H x v)(hx:∀xs,x≠.lst xs):Rep K G H x v:=by simp_all [Gh,Hp,PV,RdV,V]
theorem RdV.tup (h:RdV K G H (.tup xs) v):∃a vs,v=.ref a/\SqT K H a vs/\Reps K G H xs vs:=by
 obtain⟨a,vs,e,t,r⟩:=h.rep (λ_ z=>nomatch z);exact⟨a,vs,e,t.sq,r⟩
theorem RdV.int (h:RdV K G H (.int i) v):v=.int i:=h.rep (λ_ z=>nomatch z)
theorem RdV.str (h:RdV K G H (.str i) v):v=.str i:=h.rep (λ_ z=>nomatch z)
theorem RdV.bl (h:RdV K G H (.bl i) v):v=.bl i:=h.rep (λ_ z=>nomatch z)
theorem RdV.non (h:RdV K G H .non v):v=.non:=h.rep (λ_ z=>nomatch z)
def qV (i:Nat):pE:=λenv n R=>match env[i]? with|some (some (.v x))=>R x env n|_=>False
def qO (i:Nat):pE:=λenv n R=>match env[i]? with|some (some (.ow .lst xs))=>R (.lst xs) env n|_=>False
def qC (c:PV):pE:=λenv n R=>R c env n
theorem qV_ex (h:qV i env n R):∃x,env[i]?=some (some (.v x))/\R x env n:=by
 unfold qV at h
 split at h
 ·exact⟨_,by assumption,h⟩
 ·exact h.elim
theorem qO_ex (h:qO i env n R):∃xs,env[i]?=some (some (.ow .lst xs))/\R (.lst xs) env n:=by
 unfold qO at h
 split at h
 ·exact⟨_,by assumption,h⟩
 ·exact h.elim
theorem qe_var (i:Nat)(h:∀z,EW (F z) (.Name x pos) (tVar i)):QE T K F (.Name x pos) (qV i):=by
 refine⟨_,λz=>(h z).h,λC G σ H env n R Q hK hT S hp k=>?_⟩;obtain⟨x,e,r⟩:=qV_ex hp;obtain⟨v,ev,rv⟩:=S.slots i _ e;exact⟨v,ev,k _ _ _ _ _ r S (hK▸rv) Fr.refl⟩
theorem qr_own (i:Nat)(h:∀z,EW (F z) (.Name x pos) (tVar i)):QR T K F (.Name x pos) (qO i):=by
 refine⟨_,λz=>(h z).h,λC G σ H env n R Q hK hT S hp k=>?_⟩;obtain⟨xs,e,r⟩:=qO_ex hp;obtain⟨a,vs,ev,_,_,_,_,rv⟩:=S.slots i _ e;exact⟨.ref a,ev,k _ _ _ _ _ r S (.inr ⟨i,a,xs,e,ev,rfl,rfl⟩) Fr.refl⟩
theorem QE.r (h:QE T K F e pe):QR T K F e pe:=by
 obtain⟨t,h1,h2⟩:=h;exact⟨t,h1,λC G σ H env n R Q hK hT S hp k=>h2 C G σ H env n R Q hK hT S hp λx jh n' v H' r S' rp f=>k x jh n' v H' r S' (.inl (by rw[hK];exact rp)) f⟩
theorem ok_c (h:∀G H,Rep K G H c v):EOk K T (tC v) (qC c):=λC G σ H env n R Q hK hT S hp k=>k _ _ _ _ _ hp S (h G H) Fr.refl
theorem DA {i j pos}:QE T K F (.Constant (.int i) j pos) (qC (.int i)):=⟨_,λz=>F4,ok_c λ_ _=>rfl⟩
theorem qe_bl {i j pos}:QE T K F (.Constant (.bool i) j pos) (qC (.bl i)):=⟨_,λz=>pe_bl,ok_c λ_ _=>rfl⟩
theorem qe_str {i j pos}:QE T K F (.Constant (.str i) j pos) (qC (.str i)):=⟨_,λz=>pe_str,ok_c λ_ _=>rfl⟩
theorem Hc {j pos}:QE T K F (.Constant .none j pos) (qC .non):=⟨_,λz=>pe_non,ok_c λ_ _=>rfl⟩
theorem qe_num {x:Str}{i:Int}{pos:Pos}(n:∀z,Num0 (F z).mg x i)(hg:∀z,Gl (F z) x)(hd:(x == ("__debug__":Str))=false):QE T K F (.Name x pos) (qC (.int i)):=⟨_,λz=>pe_num (n z) (hg z) hd,ok_c λ_ _=>rfl⟩
abbrev w1:=PV->(PV->Prop)->Prop
abbrev w2:=PV->PV->(PV->Prop)->Prop
def W2 (K:A7)(r:R2)(w:w2):Prop:=∀(G:Gh) (H:Hp) (x y:PV) (v u:V) (R:PV->Prop) (Q:VK),(∀p,H p=none->p∉G.M)->RdV K G H x v->RdV K G H y u->w x y R->
 (∀z v' H',R z->Same H H'->Rep K G H' z v'->Q v' H')->r v u H Q
def W1 (K:A7)(r:V->Hp->VK->Prop)(w:w1):Prop:=∀(G:Gh) (H:Hp) (x:PV) (v:V) (R:PV->Prop) (Q:VK),(∀p,H p=none->p∉G.M)->RdV K G H x v->w x R->
 (∀z v' H',R z->Same H H'->Rep K G H' z v'->Q v' H')->r v H Q
def qOp (w:w2)(pa pb:pE):pE:=λenv n R=>pa env n λx jc n1=>pb jc n1 λy jd n2=>w x y λz=>R z jd n2
def qOpR (w:w2)(pa pb:pE):pE:=λenv n R=>pa env n λx jc n1=>pb jc n1 λy jd n2=>jd=jc/\w x y λz=>R z jd n2
def qUn (w:w1)(pa:pE):pE:=λenv n R=>pa env n λx jc n1=>w x λz=>R z jc n1
theorem DB (hw:W2 K r w)(ha:EOk K T ta pa)(hb:ROk K T tb pb):EOk K T (tOp r ta tb) (qOp w pa pb):=λC G σ H env n R Q hK hT S hp k=>by
 refine ha C G σ H env n _ _ hK hT S hp λx jc n1 v H1 p1 S1 r1 f1=>?_;refine hb C G σ H1 jc n1 _ _ hK hT S1 p1 λy jd n2 u H2 p2 S2 r2 f2=>?_;subst hK;exact hw G H2 x y v u _ _ (λp hp=>S2.fresh hp) (.inl (r1.fr f2)) (r2.rd S2) p2 λz v' H' rz s rv=>k _ _ _ _ _ rz (S2.same s) rv ((f1.trans f2).trans (Fr.of s))
theorem ok_opR (hw:W2 K r w)(ha:ROk K T ta pa)(hb:ROk K T tb pb):EOk K T (tOp r ta tb) (qOpR w pa pb):=λC G σ H env n R Q hK hT S hp k=>by
 refine ha C G σ H env n _ _ hK hT S hp λx jc n1 v H1 p1 S1 r1 f1=>?_;refine hb C G σ H1 jc n1 _ _ hK hT S1 p1 λy jd n2 u H2 p2 S2 r2 f2=>?_;subst hK;obtain⟨e,p2⟩:=p2;subst e;exact hw G H2 x y v u _ _ (λp hp=>S2.fresh hp) ((r1.fr f2).rd S2) (r2.rd S2) p2 λz v' H' rz s rv=>k _ _ _ _ _ rz (S2.same s) rv ((f1.trans f2).trans (Fr.of s))
theorem ok_un (hw:W1 K r w)(ha:ROk K T ta pa):EOk K T (tUn r ta) (qUn w pa):=λC G σ H env n R Q hK hT S hp k=>by
 refine ha C G σ H env n _ _ hK hT S hp λx jc n1 v H1 p1 S1 r1 f1=>?_;subst hK;exact hw G H1 x v _ _ (λp hp=>S1.fresh hp) (r1.rd S1) p1 λz v' H' rz s rv=>k _ _ _ _ _ rz (S1.same s) rv (f1.trans (Fr.of s))
def wI (C:Int->Int->Prop)(g:Int->Int->PV):w2:=λx y R=>match x,y with|.int i,.int j=>C i j/\R (g i j)|_,_=>False
theorem W2.I (hg:∀i j G H,Rep K G H (g' i j) (g i j)):W2 K (rI C g) (wI C g'):=by
 intro G H x y v u R Q hf rx ry hw k;unfold wI at hw
 split at hw
 ·exact⟨_,_,rx.int,ry.int,hw.1,k _ _ _ hw.2 (Same.refl _) (hg _ _ _ _)⟩
 ·exact hw.elim
def wI0 (g:Int->Int->PV):w2:=λx y R=>match x,y with|.int i,.int j=>R (g i j)|_,_=>False
theorem W2.I0 (hg:∀i j G H,Rep K G H (g' i j) (g i j)):W2 K (rI0 g) (wI0 g'):=by
 intro G H x y v u R Q hf rx ry hw k;unfold wI0 at hw
 split at hw
 ·exact⟨_,_,rx.int,ry.int,k _ _ _ hw (Same.refl _) (hg _ _ _ _)⟩
 ·exact hw.elim
def wAdd:w2:=λx y R=>match x,y with
 |.int i,.int j=>R (.int (i+j))
 |.str i,.str j=>i.length+j.length<=1000000/\R (.str (i++j))
 |.tup xs,.tup ys=>xs.length+ys.length<=1000000/\R (.tup (xs++ys))
 |_,_=>False
theorem mil (h:n<=1000000):n<=B7:=E5 h (by rw[K9];decide)
theorem mil' (h:n<=1000000):n<B7:=EE h (by rw[K9];decide)
theorem AG (hf:p∉G.M)(hn:H p=none)(r:Reps K G H xs vs):Rep K G (upd H p (.tup vs)) (.tup xs) (.ref p):=
 ⟨p,vs,rfl,⟨hf,J0⟩,r.same (Same.lay1 hn)⟩
theorem DC (hf:p∉G.M)(hn:H p=none)(r:Reps K G H xs vs):Rep K G (upd H p (.lst vs)) (.lst xs) (.ref p):=
 ⟨p,vs,rfl,⟨hf,J0⟩,r.same (Same.lay1 hn)⟩
theorem W2.add:W2 K (λx y H Q=>(rI0 λi j=>.int (i+j)) x y H Q\/(∃i j,x=.str i/\y=.str j/\i.length+j.length<=B7/\Q (.str (i++j)) H)\/rCatA K x y H Q) wAdd:=by
 intro G H x y v u R Q hf rx ry hw k;unfold wAdd at hw
 split at hw
 ·exact .inl ⟨_,_,rx.int,ry.int,k _ _ _ hw (Same.refl _) rfl⟩
 ·exact .inr (.inl ⟨_,_,rx.str,ry.str,mil hw.1,k _ _ _ hw.2 (Same.refl _) rfl⟩)
 ·rename_i xs ys;obtain⟨a,vs,ea,ta,ra⟩:=rx.rep (λ_ z=>nomatch z);obtain⟨b,us,eb,tb,rb⟩:=ry.rep (λ_ z=>nomatch z);refine .inr (.inr ⟨a,b,vs,us,ea,eb,ta.sq,tb.sq,?_,λz=>?_,λz1 z2=>?_,λz1 z2 p hp=>?_⟩)
  ·rw[<- ra.length,<- rb.length];exact mil hw.1
  ·subst z;have:xs=[]:=w8 ra.length;subst this;exact k _ _ _ hw.2 (Same.refl _) ⟨b,us,rfl,tb,rb⟩
  ·subst z2;have:ys=[]:=w8 rb.length;subst this;exact k _ _ _ hw.2 (Same.refl _) (by rw[T6];exact⟨a,vs,rfl,ta,ra⟩)
  ·exact k _ _ _ hw.2 (Same.lay1 hp) (AG (hf p hp) hp (ra.append rb))
 ·exact hw.elim
theorem qe_add (ha:QE T K F a pa)(hb:QE T K F b pb)(hK:∀z,(F z).K=K):QE T K F (.BinOp a .Add b pos) (qOp wAdd pa pb):=by
 obtain⟨ta,h1,h2⟩:=ha;obtain⟨tb,h3,h4⟩:=hb.r;exact⟨_,λz=>G8 (Bn.or (NQ.or (hK z▸O_))) (h1 z) (h3 z),DB W2.add h2 h4⟩
theorem Hd (ho:∀z,OpR (F z) (Q5 op) r)(hw:W2 K r w)(ha:QE T K F a pa)(hb:QE T K F b pb):QE T K F (.BinOp a op b pos) (qOp w pa pb):=by
 obtain⟨ta,h1,h2⟩:=ha;obtain⟨tb,h3,h4⟩:=hb.r;exact⟨_,λz=>G8 (ho z) (h1 z) (h3 z),DB hw h2 h4⟩
def wSub:w2:=wI0 λi j=>.int (i-j)
def wMul:w2:=λx y R=>match x,y with
 |.int i,.int j=>CMul i j/\R (.int (i*j))
 |.str i,.int n=>i.length<=100/\0<=n/\n<=1000/\R (.str (V6 i n))
 |_,_=>False
def wMod:w2:=wI (λ_ j=>0<j) λi j=>.int (i%j)
theorem W2.mul:W2 K (λx y H Q=>(rI CMul λi j=>.int (i*j)) x y H Q\/(∃i n,x=.str i/\y=.int n/\i.length<=100/\0<=n/\n<=1000/\Q (.str (V6 i n)) H)) wMul:=by
 intro G H x y v u R Q hf rx ry hw k;unfold wMul at hw
 split at hw
 ·exact .inl ⟨_,_,rx.int,ry.int,hw.1,k _ _ _ hw.2 (Same.refl _) rfl⟩
 ·exact .inr ⟨_,_,rx.str,ry.int,hw.1,hw.2.1,hw.2.2.1,k _ _ _ hw.2.2.2 (Same.refl _) rfl⟩
 ·exact hw.elim
theorem qe_sub (ha:QE T K F a pa)(hb:QE T K F b pb):QE T K F (.BinOp a .Sub b pos) (qOp wSub pa pb):=Hd (λ_=>op_sub) (W2.I0 λ_ _ _ _=>rfl) ha hb
theorem qe_mul (ha:QE T K F a pa)(hb:QE T K F b pb):QE T K F (.BinOp a .Mult b pos) (qOp wMul pa pb):=Hd (λ_=>Cf.or OT) W2.mul ha hb
theorem qe_mod (ha:QE T K F a pa)(hb:QE T K F b pb):QE T K F (.BinOp a .Mod b pos) (qOp wMod pa pb):=Hd (λ_=>AF) (W2.I λ_ _ _ _=>rfl) ha hb
end
end Pu
end
section
namespace L2
open PySem PySem.Spec PyProof.Rows
def EqD (K:A7)(H:Hp):Nat->V->V->Bool->Prop
 |0,x,y,b=>R3 x=true/\R3 y=true/\b=eqV x y
 | d + 1, x, y, b => (R3 x = true /\ R3 y = true /\ b = eqV x y) \/
   (∃p q xs ys,∃f:Nat->Bool,x=.ref p/\y=.ref q/\SqT K H p xs/\SqT K H q ys/\(∀(j:Nat) x' y',xs[j]?=some x'->ys[j]?=some y'->EqD K H d x' y' (f j))/\b=((C7 (min xs.length ys.length)).all f&&xs.length == ys.length))\/
   (∃p q xs ys,∃f:Nat->Bool,x=.ref p/\y=.ref q/\SqL K H p xs/\SqL K H q ys/\(∀(j:Nat) x' y',xs[j]?=some x'->ys[j]?=some y'->EqD K H d x' y' (f j))/\b=((C7 (min xs.length ys.length)).all f&&xs.length == ys.length))\/
   (b=false/\((∃p xs,x=.ref p/\(SqT K H p xs\/SqL K H p xs)/\R3 y=true)\/(∃p xs,y=.ref p/\(SqT K H p xs\/SqL K H p xs)/\R3 x=true)\/
     (∃p q xs ys,x=.ref p/\y=.ref q/\SqT K H p xs/\SqL K H q ys)\/(∃p q xs ys,x=.ref p/\y=.ref q/\SqL K H p xs/\SqT K H q ys)))
section
variable {X:Cx}{jb:List (A0×Obj)}{σ:St}{H:Hp}{s:A4}
theorem Y6 (I:Inv X jb σ H s)(h:SqT X.K H p xs)(h':SqL X.K H p ys):False:=by
 obtain⟨jf,r,⟨o,e,c,n,d⟩,_⟩:=I.tuple h;obtain⟨its',r',⟨o',n',e',c',_,d'⟩,_⟩:=I.list h';rw[e] at e';cases e';rw[c] at c';injection c' with c';exact absurd c' (by decide)
theorem EqD.refl (I:Inv X jb σ H s):∀(d:Nat) (x:V) (b:Bool),EqD X.K H d x x b->b=true:=by
 intro d
 induction d with
 | zero =>
  intro x b h;obtain⟨h1,_,rfl⟩:=h;exact Kb h1
 | succ d ih =>
  intro x b h;rcases h with⟨h1,_,rfl⟩|⟨p,q,xs,ys,f,e1,e2,s1,s2,hf,rfl⟩|⟨p,q,xs,ys,f,e1,e2,s1,s2,hf,rfl⟩|⟨rfl,h⟩
  ·exact Kb h1
  ·subst e1;cases e2;have:=I.tuple_inj s1 s2;subst this;simp only[Nat.min_self,beq_self_eq_true,Bool.and_true,E9,F8];intro j hj;exact ih _ _ (hf j xs[j] xs[j] (by simp[hj]) (by simp[hj]))
  ·subst e1;cases e2;have:=I.list_inj s1 s2;subst this;simp only[Nat.min_self,beq_self_eq_true,Bool.and_true,E9,F8];intro j hj;exact ih _ _ (hf j xs[j] xs[j] (by simp[hj]) (by simp[hj]))
  ·rcases h with⟨p,xs,rfl,_,h⟩|⟨p,xs,rfl,_,h⟩|⟨p,q,xs,ys,e1,e2,s1,s2⟩|⟨p,q,xs,ys,e1,e2,s1,s2⟩
   ·cases h
   ·cases h
   ·subst e1;cases e2;exact(Y6 I s1 s2).elim
   ·subst e1;cases e2;exact(Y6 I s2 s1).elim
theorem Inv.sqL (I:Inv X jb σ H s)(h:SqL X.K H p xs):∃jf:List A1,Vals xs jf/\s.heap.IsList p jf.toArray:=by
 obtain⟨jf,r,pl,_⟩:=I.list h;exact⟨jf,r,pl.isList⟩
theorem Inv.sqT (I:Inv X jb σ H s)(h:SqT X.K H p xs):∃jf:List A1,Vals xs jf/\s.heap.IsTuple p jf.toArray:=by
 obtain⟨jf,r,pl,_⟩:=I.tuple h;exact⟨jf,r,pl⟩
theorem Kj (I:Inv X jb σ H s)(hu:A.units<cLine)(hq:SqT X.K H p xs\/SqL X.K H p xs)(ry:RelV y w)(fy:R3 y=true) :
   Cc A s (.ref p) w false/\Cb A s (.ref p) w true/\Cc A s w (.ref p) false/\Cb A s w (.ref p) true/\Bk A s (.ref p) w false/\Bk A s w (.ref p) false:=by
 rcases hq with hq|hq
 ·obtain⟨jf,r,il⟩:=I.sqT hq;cases y with
  |non=>cases ry;exact⟨.tuple_none il hu,.tuple_none il hu,.none_tuple il hu,.none_tuple il hu,.tuple_none il hu,.none_tuple il hu⟩
  |bl b=>cases ry;exact⟨.tuple_bool b il hu,.tuple_bool b il hu,.bool_tuple b il hu,.bool_tuple b il hu,.tuple_bool b il hu,.bool_tuple b il hu⟩
  |int i=>obtain⟨t,rfl⟩:=ry;exact⟨.tuple_int i t il hu,.tuple_int i t il hu,.int_tuple i t il hu,.int_tuple i t il hu,.tuple_int i t il hu,.int_tuple i t il hu⟩
  |str i=>obtain⟨t,rfl⟩:=ry;exact⟨.tuple_str i t il hu,.tuple_str i t il hu,.str_tuple i t il hu,.str_tuple i t il hu,.tuple_str i t il hu,.str_tuple i t il hu⟩
  |_=>cases fy
 ·obtain⟨jf,r,il⟩:=I.sqL hq;cases y with
  |non=>cases ry;exact⟨.list_none il hu,.list_none il hu,.none_list il hu,.none_list il hu,.list_none il hu,.none_list il hu⟩
  |bl b=>cases ry;exact⟨.list_bool b il hu,.list_bool b il hu,.bool_list b il hu,.bool_list b il hu,.list_bool b il hu,.bool_list b il hu⟩
  |int i=>obtain⟨t,rfl⟩:=ry;exact⟨.list_int i t il hu,.list_int i t il hu,.int_list i t il hu,.int_list i t il hu,.list_int i t il hu,.int_list i t il hu⟩
  |str i=>obtain⟨t,rfl⟩:=ry;exact⟨.list_str i t il hu,.list_str i t il hu,.str_list i t il hu,.str_list i t il hu,.list_str i t il hu,.str_list i t il hu⟩
  |_=>cases fy
theorem Kk (rx:RelV x u)(ry:RelV y w)(fx:R3 x=true)(fy:R3 y=true):Cc A s u w (eqV x y)/\Cb A s u w (!eqV x y):=by
 cases x with
 | non =>
  cases rx;cases y with
  |non=>cases ry;exact⟨.none_none,.none_none⟩
  |bl j=>cases ry;exact⟨.none_bool j,.none_bool j⟩
  |int j=>obtain⟨t,rfl⟩:=ry;exact⟨.none_int j t,.none_int j t⟩
  |str j=>obtain⟨t,rfl⟩:=ry;exact⟨.none_str j t,.none_str j t⟩
  |_=>cases fy
 | bl i =>
  cases rx;cases y with
  |non=>cases ry;exact⟨.bool_none i,.bool_none i⟩
  |bl j=>cases ry;exact⟨.bool_bool i j,.bool_bool i j⟩
  |int j=>obtain⟨t,rfl⟩:=ry;exact⟨.bool_int i j t,.bool_int i j t⟩
  |str j=>obtain⟨t,rfl⟩:=ry;exact⟨.bool_str i j t,.bool_str i j t⟩
  |_=>cases fy
 | int i =>
  obtain⟨ti,rfl⟩:=rx;cases y with
  |non=>cases ry;exact⟨.int_none i ti,.int_none i ti⟩
  |bl j=>cases ry;exact⟨.int_bool i ti j,.int_bool i ti j⟩
  |int j=>obtain⟨t,rfl⟩:=ry;exact⟨.int_int i ti j t,.int_int i ti j t⟩
  |str j=>obtain⟨t,rfl⟩:=ry;exact⟨.int_str i ti j t,.int_str i ti j t⟩
  |_=>cases fy
 | str i =>
  obtain⟨ti,rfl⟩:=rx;cases y with
  |non=>cases ry;exact⟨.str_none i ti,.str_none i ti⟩
  |bl j=>cases ry;exact⟨.str_bool i ti j,.str_bool i ti j⟩
  |int j=>obtain⟨t,rfl⟩:=ry;exact⟨.str_int i ti j t,.str_int i ti j t⟩
  |str j=>obtain⟨t,rfl⟩:=ry;exact⟨.str_str i ti j t,.str_str i ti j t⟩
  |_=>cases fy
 |_=>cases fx
theorem DE (A:C8):A.in1.units=A.units+1:=rfl
theorem EqD.at (I:Inv X jb σ H s):∀(d:Nat) (A:C8) (x y:V) (u w:A1) (b:Bool),A.units+d<cLine->RelV x u->RelV y w->EqD X.K H d x y b->Bk A s u w b/\Cc A s u w b/\Cb A s u w (!b):=by
 intro d
 induction d with
 | zero =>
  intro A x y u w b hu rx ry h;obtain⟨h1,h2,rfl⟩:=h;exact⟨JT rx ry h1 h2,Kk rx ry h1 h2⟩
 | succ d ih =>
  intro A x y u w b hu rx ry h;have hu0:A.units<cLine:=by omega
  have hu1:A.in1.units+d<cLine:=by rw[DE];omega
  have hrefl:=EqD.refl I (d+1) x b;rcases h with⟨h1,h2,rfl⟩|⟨p,q,xs,ys,f,e1,e2,s1,s2,hf,eb⟩|⟨p,q,xs,ys,f,e1,e2,s1,s2,hf,eb⟩|⟨rfl,h⟩
  ·exact⟨JT rx ry h1 h2,Kk rx ry h1 h2⟩
  ·subst e1 e2;cases rx;cases ry;obtain⟨jf,r1,t1⟩:=I.sqT s1;obtain⟨its2,r2,t2⟩:=I.sqT s2;have z1:jf.toArray.size=xs.length:=by simpa using r1.length.symm
   have z2:its2.toArray.size=ys.length:=by simpa using r2.length.symm
   have he:∀j (h1:j<jf.toArray.size) (h2:j<its2.toArray.size),Bk A.in1 s jf.toArray[j] its2.toArray[j] (f j):=by
    intro j h1 h2;obtain⟨x',e1,q1⟩:=r1.getE (j:=j) (by omega);obtain⟨y',e2,q2⟩:=r2.getE (j:=j) (by grind);exact(ih A.in1 x' y' _ _ (f j) hu1 (by grind) (by grind) (hf j x' y' e1 e2)).1
   have rc:Cc A s (.ref p) (.ref q) b:=by
    rw[eb,<- z1,<- z2];exact SeqAt.RcAt.tuples t1 t2 hu0 he
   have rn:Cb A s (.ref p) (.ref q) (!b):=by
    rw[eb,<- z1,<- z2];exact SeqAt.RcNeAt.tuples t1 t2 hu0 he
   refine⟨?_,rc,rn⟩
   by_cases hpq:p=q
   ·subst hpq;rw[hrefl (.inr (.inl ⟨p,p,xs,ys,f,rfl,rfl,s1,s2,hf,eb⟩))];exact .same _
   ·exact .of_refs hpq rc
  ·subst e1 e2;cases rx;cases ry;obtain⟨jf,r1,t1⟩:=I.sqL s1;obtain⟨its2,r2,t2⟩:=I.sqL s2;have z1:jf.toArray.size=xs.length:=by simpa using r1.length.symm
   have z2:its2.toArray.size=ys.length:=by simpa using r2.length.symm
   have he:∀j (h1:j<jf.toArray.size) (h2:j<its2.toArray.size),Bk A.in1 s jf.toArray[j] its2.toArray[j] (f j):=by
    intro j h1 h2;obtain⟨x',e1,q1⟩:=r1.getE (j:=j) (by omega);obtain⟨y',e2,q2⟩:=r2.getE (j:=j) (by grind);exact(ih A.in1 x' y' _ _ (f j) hu1 (by grind) (by grind) (hf j x' y' e1 e2)).1
   have rr:Cc A s (.ref p) (.ref q) b/\Cb A s (.ref p) (.ref q) (!b):=by
    by_cases hl:xs.length=ys.length
    ·have e3:b=(C7 jf.toArray.size).all f:=by rw[eb,hl,Nat.min_self,beq_self_eq_true,Bool.and_true,z1,hl]
     rw[e3];exact⟨SeqAt.RcAt.lists t1 t2 (by grind) hu0 he,SeqAt.RcNeAt.lists t1 t2 (by grind) hu0 he⟩
    ·have e3:b=false:=by
      rw[eb];have:(xs.length == ys.length)=false:=by simpa using hl
      rw[this,EG]
     rw[e3];have e4:(jf.toArray.size != its2.toArray.size)=true:=by rw[z1,z2];simpa using hl
     exact⟨SeqAt.RcAt.lists_lengths t1 t2 e4 hu0,SeqAt.RcNeAt.lists_lengths t1 t2 e4 hu0⟩
   refine⟨?_,rr⟩
   by_cases hpq:p=q
   ·subst hpq;rw[hrefl (.inr (.inr (.inl ⟨p,p,xs,ys,f,rfl,rfl,s1,s2,hf,eb⟩)))];exact .same _
   ·exact .of_refs hpq rr.1
  ·rcases h with⟨p,xs,rfl,hq,fy⟩|⟨p,xs,rfl,hq,fx⟩|⟨p,q,xs,ys,e1,e2,s1,s2⟩|⟨p,q,xs,ys,e1,e2,s1,s2⟩
   ·cases rx;obtain⟨a1,a2,a3,a4,a5,a6⟩:=Kj I hu0 hq ry fy;exact⟨a5,a1,a2⟩
   ·cases ry;obtain⟨a1,a2,a3,a4,a5,a6⟩:=Kj I hu0 hq rx fx;exact⟨a6,a3,a4⟩
   ·subst e1 e2;cases rx;cases ry;obtain⟨jf,r1,t1⟩:=I.sqT s1;obtain⟨its2,r2,t2⟩:=I.sqL s2;exact⟨.tuple_list t1 t2 hu0,.tuple_list t1 t2 hu0,.tuple_list t1 t2 hu0⟩
   ·subst e1 e2;cases rx;cases ry;obtain⟨jf,r1,t1⟩:=I.sqL s1;obtain⟨its2,r2,t2⟩:=I.sqT s2;exact⟨.list_tuple t1 t2 hu0,.list_tuple t1 t2 hu0,.list_tuple t1 t2 hu0⟩
end
section
variable {X:Cx}
def rEqD (K:A7)(d:Nat)(neg:Bool):R2:=λx y H Q=>∃b,EqD K H d x y b/\Q (.bl (if neg then !b else b)) H
theorem op_eqD (d:Nat)(hu:X.A.units+d<cLine):OpR X (L7 .Eq) (rEqD X.K d false):=by
 intro jb s σ H x y v u Q I rx ry h;obtain⟨b,hb,q⟩:=h;exact(hb.at I d X.A x y v u b hu rx ry).2.1 X.prog X.w X.xe _ ⟨.bl _,H,I,rfl,q⟩
theorem op_neD (d:Nat)(hu:X.A.units+d<cLine):OpR X (L7 .NotEq) (rEqD X.K d true):=by
 intro jb s σ H x y v u Q I rx ry h;obtain⟨b,hb,q⟩:=h;exact(hb.at I d X.A x y v u b hu rx ry).2.2 X.prog X.w X.xe _ ⟨.bl _,H,I,rfl,q⟩
def rInD (K:A7)(d:Nat)(neg:Bool):R2:=λx y H Q=>∃p ys,∃f:Nat->Bool,y=.ref p/\(SqL K H p ys\/SqT K H p ys)/\(∀(j:Nat) z,ys[j]?=some z->EqD K H d z x (f j))/\Q (.bl (if neg then !((C7 ys.length).any f) else(C7 ys.length).any f)) H
theorem Kl (h:∀j,j<n->f j=g j):(C7 n).all f=(C7 n).all g:=by
 rw[BU,E9,E9];constructor
 ·intro k j hj;rw[<- h j (F8.mp hj)];exact k j hj
 ·intro k j hj;rw[h j (F8.mp hj)];exact k j hj
theorem EqD.det (I:Inv X jb σ H s):∀(d:Nat) (x y:V) (b b':Bool),EqD X.K H d x y b->EqD X.K H d x y b'->b=b':=by
 intro d
 induction d with
 | zero =>
  intro x y b b' h h';rw[h.2.2,h'.2.2]
 | succ d ih =>
  intro x y b b' h h';rcases h with⟨h1,h2,rfl⟩|⟨p,q,xs,ys,f,rfl,rfl,s1,s2,hf,rfl⟩|⟨p,q,xs,ys,f,rfl,rfl,s1,s2,hf,rfl⟩|⟨rfl,h⟩
  ·rcases h' with⟨h1',h2',rfl⟩|⟨p,q,xs,ys,f,rfl,rfl,s1,s2,hf,rfl⟩|⟨p,q,xs,ys,f,rfl,rfl,s1,s2,hf,rfl⟩|⟨rfl,h⟩
   ·rfl
   ·cases h1
   ·cases h1
   ·rcases h with⟨p,xs,rfl,_,h⟩|⟨p,xs,rfl,_,h⟩|⟨p,q,xs,ys,rfl,rfl,s1,s2⟩|⟨p,q,xs,ys,rfl,rfl,s1,s2⟩
    ·cases h1
    ·cases h2
    ·cases h1
    ·cases h1
  ·rcases h' with⟨h1',h2',rfl⟩|⟨p',q',xs',ys',f',e1,e2,s1',s2',hf',rfl⟩|⟨p',q',xs',ys',f',e1,e2,s1',s2',hf',rfl⟩|⟨rfl,h⟩
   ·cases h1'
   ·cases e1;cases e2;have:=I.tuple_inj s1 s1';subst this;have:=I.tuple_inj s2 s2';subst this;rw[Kl λj hj=>ih _ _ _ _ (hf j (xs[j]'(by omega)) (ys[j]'(by omega)) (C4 _) (C4 _)) (hf' j (xs[j]'(by omega)) (ys[j]'(by omega)) (C4 _) (C4 _))]
   ·cases e1;exact(Y6 I s1 s1').elim
   ·rcases h with⟨p',xs',e1,_,h⟩|⟨p',xs',e1,_,h⟩|⟨p',q',xs',ys',e1,e2,s1',s2'⟩|⟨p',q',xs',ys',e1,e2,s1',s2'⟩
    ·cases h
    ·cases h
    ·cases e2;exact(Y6 I s2 s2').elim
    ·cases e1;exact(Y6 I s1 s1').elim
  ·rcases h' with⟨h1',h2',rfl⟩|⟨p',q',xs',ys',f',e1,e2,s1',s2',hf',rfl⟩|⟨p',q',xs',ys',f',e1,e2,s1',s2',hf',rfl⟩|⟨rfl,h⟩
   ·cases h1'
   ·cases e1;exact(Y6 I s1' s1).elim
   ·cases e1;cases e2;have:=I.list_inj s1 s1';subst this;have:=I.list_inj s2 s2';subst this;rw[Kl λj hj=>ih _ _ _ _ (hf j (xs[j]'(by omega)) (ys[j]'(by omega)) (C4 _) (C4 _)) (hf' j (xs[j]'(by omega)) (ys[j]'(by omega)) (C4 _) (C4 _))]
   ·rcases h with⟨p',xs',e1,_,h⟩|⟨p',xs',e1,_,h⟩|⟨p',q',xs',ys',e1,e2,s1',s2'⟩|⟨p',q',xs',ys',e1,e2,s1',s2'⟩
    ·cases h
    ·cases h
    ·cases e1;exact(Y6 I s1' s1).elim
    ·cases e2;exact(Y6 I s2' s2).elim
  ·rcases h' with⟨h1',h2',rfl⟩|⟨p',q',xs',ys',f',rfl,rfl,s1',s2',hf',rfl⟩|⟨p',q',xs',ys',f',rfl,rfl,s1',s2',hf',rfl⟩|⟨rfl,h'⟩
   ·rcases h with⟨p,xs,rfl,_,h⟩|⟨p,xs,rfl,_,h⟩|⟨p,q,xs,ys,rfl,rfl,s1,s2⟩|⟨p,q,xs,ys,rfl,rfl,s1,s2⟩
    ·cases h1'
    ·cases h2'
    ·cases h1'
    ·cases h1'
   ·rcases h with⟨p,xs,e1,_,h⟩|⟨p,xs,e1,_,h⟩|⟨p,q,xs,ys,e1,e2,s1,s2⟩|⟨p,q,xs,ys,e1,e2,s1,s2⟩
    ·cases h
    ·cases h
    ·cases e2;exact(Y6 I s2' s2).elim
    ·cases e1;exact(Y6 I s1' s1).elim
   ·rcases h with⟨p,xs,e1,_,h⟩|⟨p,xs,e1,_,h⟩|⟨p,q,xs,ys,e1,e2,s1,s2⟩|⟨p,q,xs,ys,e1,e2,s1,s2⟩
    ·cases h
    ·cases h
    ·cases e1;exact(Y6 I s1 s1').elim
    ·cases e2;exact(Y6 I s2 s2').elim
   ·rfl
open Classical in
theorem Fh (I:Inv X jb σ H s)(hu:A.units+d<cLine)(r:Vals ys jf)(rx:RelV x v)(hf:∀(j:Nat) z,ys[j]?=some z->EqD X.K H d z x (f j)) :
   ∃e:A1->Bool,(∀y,y∈jf->Bk A s y v (e y))/\jf.any e=(C7 ys.length).any f:=by
 have key:∀(j j':Nat) (z:A1),jf[j]?=some z->jf[j']?=some z->f j=f j':=by
  intro j j' z h h';obtain⟨hj,_⟩:=E1.mp h;obtain⟨hj',_⟩:=E1.mp h';obtain⟨w1,a1,b1⟩:=r.getE hj;obtain⟨w2,a2,b2⟩:=r.getE hj';rw[C4 hj] at h;rw[C4 hj'] at h';cases h;rw[F6 h'] at b2;have:=b1.inj b2;subst this;exact EqD.det I d _ _ _ _ (hf j _ a1) (hf j' _ a2)
 let e:A1->Bool:=λy=>decide (∃j,jf[j]?=some y/\f j=true)
 have he:∀(j:Nat) (y:A1),jf[j]?=some y->e y=f j:=by
  intro j y h;show decide _=_;cases hb:f j with
  |true=>exact jq ⟨j,h,hb⟩
  |false=>exact jr λ⟨j',h1,h2⟩=>by rw[key j j' y h h1,h2] at hb;cases hb
 refine⟨e,λy hy=>?_,?_⟩
 ·obtain⟨j,hj,rfl⟩:=CQ hy;obtain⟨w1,a1,b1⟩:=r.getE hj;rw[he j _ (C4 hj)];exact((hf j w1 a1).at I d A w1 x _ v (f j) hu b1 rx).1
 ·have hl:=r.length;rw[BU,BK,BK];constructor
  ·rintro⟨y,hy,h⟩;obtain⟨j,hj,rfl⟩:=CQ hy;exact⟨j,F8.mpr (by omega),by rw[<- he j _ (C4 hj)];exact h⟩
  ·rintro⟨j,hj,h⟩;have hj':j<jf.length:=by have:=F8.mp hj;omega
   exact⟨jf[j],Av hj',by rw[he j _ (C4 hj')];exact h⟩
theorem Km (d:Nat)(hu:X.A.units+(d+1)<cLine):OpR X (L7 .In) (rInD X.K d false):=by
 intro jb s σ H x y v u Q I rx ry h;obtain⟨p,ys,f,rfl,hq,hf,q⟩:=h;cases ry;rcases hq with hq|hq
 ·obtain⟨jf,r,il⟩:=I.sqL hq;obtain⟨e,h1,h2⟩:=Fh I (A:=X.A.in1) (by rw[DE];omega) r rx hf;refine SeqAt.in_listAt e il (λy hy=>h1 y (by simpa using hy)) ⟨.bl _,H,I,rfl,?_⟩;rw[show jf.toArray.any e=jf.any e by simp,h2];exact q
 ·obtain⟨jf,r,il⟩:=I.sqT hq;obtain⟨e,h1,h2⟩:=Fh I (A:=X.A.in1) (by rw[DE];omega) r rx hf;refine SeqAt.in_tupleAt e il (λy hy=>h1 y (by simpa using hy)) ⟨.bl _,H,I,rfl,?_⟩;rw[show jf.toArray.any e=jf.any e by simp,h2];exact q
theorem Pb (d:Nat)(hu:X.A.units+(d+1)<cLine):OpR X (L7 .NotIn) (rInD X.K d true):=by
 intro jb s σ H x y v u Q I rx ry h;obtain⟨p,ys,f,rfl,hq,hf,q⟩:=h;cases ry;rcases hq with hq|hq
 ·obtain⟨jf,r,il⟩:=I.sqL hq;obtain⟨e,h1,h2⟩:=Fh I (A:=X.A.in1) (by rw[DE];omega) r rx hf;refine SeqAt.notIn_listAt e il (λy hy=>h1 y (by simpa using hy)) ⟨.bl _,H,I,rfl,?_⟩;rw[show jf.toArray.any e=jf.any e by simp,h2];exact q
 ·obtain⟨jf,r,il⟩:=I.sqT hq;obtain⟨e,h1,h2⟩:=Fh I (A:=X.A.in1) (by rw[DE];omega) r rx hf;refine SeqAt.notIn_tupleAt e il (λy hy=>h1 y (by simpa using hy)) ⟨.bl _,H,I,rfl,?_⟩;rw[show jf.toArray.any e=jf.any e by simp,h2];exact q
end
end L2
namespace Pu
open PySem PySem.Spec L2
def O9:PV->Bool
 |.non=>true
 |.bl _=>true
 |.int _=>true
 |.str _=>true
 |_=>false
def cmpb:Nat->PV->Bool
 |0,x=>O9 x
 |d+1,.tup xs=>xs.all (cmpb d)
 |d+1,.lst xs=>xs.all (cmpb d)
 |_+1,x=>O9 x
mutual
def eqP:PV->PV->Bool
 |.non,.non=>true
 |.bl a,.bl b=>a == b
 |.bl a,.int b=>(if a then 1 else 0) == b
 |.int a,.bl b=>a == (if b then 1 else 0)
 |.int a,.int b=>a == b
 |.str a,.str b=>a == b
 |.tup xs,.tup ys=>eqPs xs ys
 |.lst xs,.lst ys=>eqPs xs ys
 |_,_=>false
def eqPs:List PV->List PV->Bool
 |[],[]=>true
 |x::xs,y::ys=>eqP x y&&eqPs xs ys
 |_,_=>false
end
theorem He:∀(xs ys:List PV),((C7 (min xs.length ys.length)).all (λj=>match xs[j]?,ys[j]? with|some x,some y=>eqP x y|_,_=>false)&&xs.length == ys.length)=eqPs xs ys
 |[],[]=>rfl
 |[],_::_=>rfl
 |_::_,[]=>rfl
 | x :: xs, y :: ys => by
  have ih:=He xs ys;show _=(eqP x y&&eqPs xs ys);rw[<- ih];simp only[D2,Nat.succ_min_succ,List.range_succ_eq_map,List.all_cons,Be,Function.comp_def,X7,P4];rw[Bool.and_assoc]
  congr 1
  simp
section
variable {K:A7}{G:Gh}{H:Hp}
inductive Sort3 (K:A7)(G:Gh)(H:Hp)(d:Nat)(x:PV)(v:V):Prop where
 |fl (h:R3 v=true) (s:O9 x=true)
 |tp (p:A0) (xs:List PV) (vs:List V) (e:x=.tup xs) (ev:v=.ref p) (h:SqT K H p vs) (r:Reps K G H xs vs) (c:xs.all (cmpb d)=true)
 |ls (p:A0) (xs:List PV) (vs:List V) (e:x=.lst xs) (ev:v=.ref p) (h:SqL K H p vs) (r:Reps K G H xs vs) (c:xs.all (cmpb d)=true)
theorem Cj (s:O9 x=true)(h:RdV K G H x v):R3 v=true:=by
 cases x with
 |non=>rw[h.non];rfl
 |bl b=>rw[h.bl];rfl
 |int b=>rw[h.int];rfl
 |str b=>rw[h.str];rfl
 |_=>cases s
theorem Fi (c:cmpb (d+1) x=true)(h:RdV K G H x v):Sort3 K G H d x v:=by
 cases x with
 | tup xs =>
  obtain⟨a,vs,e,t,r⟩:=h.tup;exact .tp a xs vs rfl e t r c
 | lst xs =>
  obtain⟨a,vs,e,t,r⟩:=h.lst;exact .ls a xs vs rfl e t r c
 |non=>exact .fl (Cj c h) c
 |bl _=>exact .fl (Cj c h) c
 |int _=>exact .fl (Cj c h) c
 |str _=>exact .fl (Cj c h) c
 |ty _=>cases c
 |pot _=>cases c
 |scr _=>cases c
 |dct _ _=>cases c
 |fdt _ _=>cases c
theorem Ko (sx:O9 x=true)(sy:O9 y=true)(hx:RdV K G H x v)(hy:RdV K G H y u):eqP x y=eqV v u:=by
 cases x with
 | non =>
  cases hx.non;cases y with
  |non=>cases hy.non;rfl
  |bl j=>cases hy.bl;rfl
  |int j=>cases hy.int;rfl
  |str j=>cases hy.str;rfl
  |_=>cases sy
 | bl i =>
  cases hx.bl;cases y with
  |non=>cases hy.non;rfl
  |bl j=>cases hy.bl;rfl
  |int j=>cases hy.int;rfl
  |str j=>cases hy.str;rfl
  |_=>cases sy
 | int i =>
  cases hx.int;cases y with
  |non=>cases hy.non;rfl
  |bl j=>cases hy.bl;rfl
  |int j=>cases hy.int;rfl
  |str j=>cases hy.str;rfl
  |_=>cases sy
 | str i =>
  cases hx.str;cases y with
  |non=>cases hy.non;rfl
  |bl j=>cases hy.bl;rfl
  |int j=>cases hy.int;rfl
  |str j=>cases hy.str;rfl
  |_=>cases sy
 |_=>cases sx
theorem Fj (sy:O9 y=true):eqP (.tup xs) y=false/\eqP (.lst xs) y=false/\eqP y (.tup xs)=false/\eqP y (.lst xs)=false:=by
 cases y <;> first|exact⟨rfl,rfl,rfl,rfl⟩|cases sy
theorem Fk:∀(d:Nat) (x y:PV) (v u:V),cmpb d x=true->cmpb d y=true->RdV K G H x v->RdV K G H y u->EqD K H d v u (eqP x y):=by
 intro d
 induction d with
 |zero=>intro x y v u cx cy hx hy;exact⟨Cj cx hx,Cj cy hy,Ko cx cy hx hy⟩
 | succ d ih =>
  intro x y v u cx cy hx hy
  have el:∀(xs ys:List PV) (vs us:List V),Reps K G H xs vs->Reps K G H ys us->xs.all (cmpb d)=true->ys.all (cmpb d)=true->∀(j:Nat) x' y',vs[j]?=some x'->us[j]?=some y'->EqD K H d x' y' (match xs[j]?,ys[j]? with|some x,some y=>eqP x y|_,_=>false):=by
   intro xs ys vs us r1 r2 c1 c2 j x' y' e1 e2;obtain⟨x1,ex,rx⟩:=r1.get e1;obtain⟨y1,ey,ry⟩:=r2.get e2;rw[ex,ey];exact ih x1 y1 x' y' (E9.mp c1 x1 (J5 ex)) (E9.mp c2 y1 (J5 ey)) (.inl rx) (.inl ry)
  cases Fi cx hx with
  | fl fx sx =>
   cases Fi cy hy with
   |fl fy sy=>exact .inl ⟨fx,fy,Ko sx sy hx hy⟩
   |tp q ys us e ev h r c=>subst e;exact .inr (.inr (.inr ⟨(Fj sx).2.2.1,.inr (.inl ⟨q,us,ev,.inl h,fx⟩)⟩))
   |ls q ys us e ev h r c=>subst e;exact .inr (.inr (.inr ⟨(Fj sx).2.2.2,.inr (.inl ⟨q,us,ev,.inr h,fx⟩)⟩))
  | tp p xs vs e ev h r c =>
   subst e;cases Fi cy hy with
   |fl fy sy=>exact .inr (.inr (.inr ⟨(Fj sy).1,.inl ⟨p,vs,ev,.inl h,fy⟩⟩))
   | tp q ys us e2 ev2 h2 r2 c2 =>
    subst e2;refine .inr (.inl ⟨p,q,vs,us,_,ev,ev2,h,h2,el xs ys vs us r r2 c c2,?_⟩);rw[<- r.length,<- r2.length];exact(He xs ys).symm
   |ls q ys us e2 ev2 h2 r2 c2=>subst e2;exact .inr (.inr (.inr ⟨rfl,.inr (.inr (.inl ⟨p,q,vs,us,ev,ev2,h,h2⟩))⟩))
  | ls p xs vs e ev h r c =>
   subst e;cases Fi cy hy with
   |fl fy sy=>exact .inr (.inr (.inr ⟨(Fj sy).2.1,.inl ⟨p,vs,ev,.inr h,fy⟩⟩))
   |tp q ys us e2 ev2 h2 r2 c2=>subst e2;exact .inr (.inr (.inr ⟨rfl,.inr (.inr (.inr ⟨p,q,vs,us,ev,ev2,h,h2⟩))⟩))
   | ls q ys us e2 ev2 h2 r2 c2 =>
    subst e2;refine .inr (.inr (.inl ⟨p,q,vs,us,_,ev,ev2,h,h2,el xs ys vs us r r2 c c2,?_⟩));rw[<- r.length,<- r2.length];exact(He xs ys).symm
end
section
variable {T:PotK}{ι:Type}{K:A7}{F:ι->Cx}{e a b c:Expr}{es rest:List Expr}{pe pa pb pc:pE}{pos:Pos}
def grd (b:Bool)(P:Prop):Prop:=match b with|true=>P|false=>False
theorem Hf {P:Prop}:grd true P=P:=rfl
theorem U3 {b:Bool}{P:Prop}(h:b=true)(p:P):grd b P:=by subst h;exact p
theorem DF {b:Bool}{P:Prop}(h:grd b P):b=true:=by grind [grd]
theorem Bq {b:Bool}{P:Prop}(h:grd b P):P:=by cases b;exact h.elim;exact h
def wEq (d:Nat):w2:=λx y R=>grd (cmpb d x) (grd (cmpb d y) (R (.bl (eqP x y))))
def wNe (d:Nat):w2:=λx y R=>grd (cmpb d x) (grd (cmpb d y) (R (.bl (!eqP x y))))
theorem W2.eq (d:Nat):W2 K (rEqD K d false) (wEq d):=λG H x y v u R Q hf rx ry hw k=>⟨_,Fk d x y v u (DF hw) (DF (Bq hw)) rx ry,k _ _ _ (Bq (Bq hw)) (Same.refl _) rfl⟩
theorem W2.ne (d:Nat):W2 K (rEqD K d true) (wNe d):=λG H x y v u R Q hf rx ry hw k=>⟨_,Fk d x y v u (DF hw) (DF (Bq hw)) rx ry,k _ _ _ (Bq (Bq hw)) (Same.refl _) rfl⟩
def memP (x:PV)(ys:List PV):Bool:=ys.any λy=>eqP y x
def wIn (d:Nat)(neg:Bool):w2:=λx y R=>match x,y with
 |.str i,.str j=>R (.bl (if neg then !(!(BX j i 0 j.length 1).isEmpty) else !(BX j i 0 j.length 1).isEmpty))
 |x,.lst ys=>cmpb d x=true/\ys.all (cmpb d)=true/\R (.bl (if neg then !memP x ys else memP x ys))
 |x,.tup ys=>cmpb d x=true/\ys.all (cmpb d)=true/\R (.bl (if neg then !memP x ys else memP x ys))
 |_,_=>False
theorem Hg {x:PV}:∀ys:List PV,((C7 ys.length).any λj=>match ys[j]? with|some y=>eqP y x|none=>false)=memP x ys
 |[]=>rfl
 | y :: ys => by
  have ih:=Hg (x:=x) ys;show _=(eqP y x||memP x ys);rw[<- ih];simp only[D2,List.range_succ_eq_map,List.any_cons,List.any_map,Function.comp_def,X7,P4]
theorem W2.in_ {K:A7}(d:Nat)(neg:Bool){r:R2}(hr:∀x y H Q,(∃i j,x=.str i/\y=.str j/\Q (.bl (if neg then !(!(BX j i 0 j.length 1).isEmpty) else !(BX j i 0 j.length 1).isEmpty)) H)\/rInD K d neg x y H Q->r x y H Q):W2 K r (wIn d neg):=by
 intro G H x y v u R Q hf rx ry hw k;refine hr _ _ _ _ ?_
 have seq:∀(ys:List PV) (p:A0) (us:List V),u=.ref p->(SqL K H p us\/SqT K H p us)->Reps K G H ys us->cmpb d x=true/\ys.all (cmpb d)=true/\R (.bl (if neg then !memP x ys else memP x ys))->rInD K d neg v u H Q:=by
  intro ys p us eu hq r h;refine⟨p,us,λj=>match ys[j]? with|some y=>eqP y x|none=>false,eu,hq,λj z ez=>?_,?_⟩
  ·obtain⟨y1,ey,ry⟩:=r.get ez;dsimp only;rw[ey];exact Fk d y1 x z v (E9.mp h.2.1 y1 (J5 ey)) h.1 (.inl ry) rx
  ·rw[<- r.length,Hg];exact k _ _ _ h.2.2 (Same.refl _) rfl
 unfold wIn at hw
 split at hw
 ·exact .inl ⟨_,_,rx.str,ry.str,k _ _ _ hw (Same.refl _) rfl⟩
 ·obtain⟨p,us,eu,hq,r⟩:=ry.lst;exact .inr (seq _ p us eu (.inl hq) r hw)
 ·obtain⟨p,us,eu,hq,r⟩:=ry.tup;exact .inr (seq _ p us eu (.inr hq) r hw)
 ·exact hw.elim
def wLt:w2:=λx y R=>match x,y with|.int i,.int j=>R (.bl (decide (i<j)))|.str i,.str j=>R (.bl (decide (i.cps.toList<j.cps.toList)))|_,_=>False
def wLe:w2:=λx y R=>match x,y with|.int i,.int j=>R (.bl (decide (i<=j)))|.str i,.str j=>R (.bl (!decide (j.cps.toList<i.cps.toList)))|_,_=>False
def wGt:w2:=wI0 λi j=>.bl (decide (j<i))
theorem W2.lt:W2 K (λx y H Q=>(rI0 λi j=>.bl (decide (i<j))) x y H Q\/∃i j,x=.str i/\y=.str j/\Q (.bl (decide (i.cps.toList<j.cps.toList))) H) wLt:=by
 intro G H x y v u R Q hf rx ry hw k;unfold wLt at hw
 split at hw
 ·exact .inl ⟨_,_,rx.int,ry.int,k _ _ _ hw (Same.refl _) rfl⟩
 ·exact .inr ⟨_,_,rx.str,ry.str,k _ _ _ hw (Same.refl _) rfl⟩
 ·exact hw.elim
theorem W2.le:W2 K (λx y H Q=>(rI0 λi j=>.bl (decide (i<=j))) x y H Q\/∃i j,x=.str i/\y=.str j/\Q (.bl (!decide (j.cps.toList<i.cps.toList))) H) wLe:=by
 intro G H x y v u R Q hf rx ry hw k;unfold wLe at hw
 split at hw
 ·exact .inl ⟨_,_,rx.int,ry.int,k _ _ _ hw (Same.refl _) rfl⟩
 ·exact .inr ⟨_,_,rx.str,ry.str,k _ _ _ hw (Same.refl _) rfl⟩
 grind
def Hh:PV->Bool
 |.non=>true
 |_=>false
def wIsN:w2:=λx y R=>match y with|.non=>R (.bl (Hh x))|_=>False
def O3:w2:=λx y R=>match y with|.non=>R (.bl (!Hh x))|_=>False
theorem isnon {K:A7}{G:Gh}{H:Hp}{x:PV}{v:V}(h:RdV K G H x v):decide (v=.non)=Hh x:=by
 cases x with
 |non=>rw[h.non];rfl
 |bl b=>rw[h.bl];rfl
 |int b=>rw[h.int];rfl
 |str b=>rw[h.str];rfl
 |tup xs=>obtain⟨a,vs,e,_⟩:=h.tup;rw[e];rfl
 |lst xs=>obtain⟨a,vs,e,_⟩:=h.lst;rw[e];rfl
 |ty n=>rw[show v=.ty n from h.rep (λ_ z=>nomatch z)];rfl
 |pot k=>obtain⟨p,_,e⟩:=h.rep (λ_ z=>nomatch z);rw[e];rfl
 |scr k=>obtain⟨p,e,_⟩:=h.rep (λ_ z=>nomatch z);rw[e];rfl
 |dct ks xs=>obtain⟨a,jg,e,_⟩:=h.rep (λ_ z=>nomatch z);rw[e];rfl
 |fdt ks xs=>obtain⟨a,jg,e,_⟩:=h.rep (λ_ z=>nomatch z);rw[e];rfl
theorem W2.isN {K:A7}:W2 K (λx y H Q=>y=.non/\Q (.bl (decide (x=.non))) H) wIsN:=by
 intro G H x y v u R Q hf rx ry hw k;unfold wIsN at hw
 split at hw
 ·exact⟨ry.non,k _ _ _ hw (Same.refl _) (by rw[isnon rx];rfl)⟩
 ·exact hw.elim
theorem W2.notN {K:A7}:W2 K (λx y H Q=>y=.non/\Q (.bl (!decide (x=.non))) H) O3:=by
 intro G H x y v u R Q hf rx ry hw k;unfold O3 at hw
 split at hw
 ·refine⟨ry.non,k _ _ _ hw (Same.refl _) ?_⟩;rw[isnon rx]
  rfl
 ·exact hw.elim
structure Cmp {ι:Type}(K:A7)(F:ι->Cx)(op:CmpOp)(w:w2):Prop where
 ex:∃r,(∀z,OpR (F z) (L7 op) r)/\W2 K r w
theorem cEq (d:Nat)(hr:∀z,Room k (F z).A)(hd:d<=30:=by decide)(hK:∀z,(F z).K=K:=by intro _;rfl):Cmp K F .Eq (wEq d):=⟨_,λz=>hK z▸op_eqD d (by have:=(hr z).units;omega),W2.eq d⟩
theorem cNe (d:Nat)(hr:∀z,Room k (F z).A)(hd:d<=30:=by decide)(hK:∀z,(F z).K=K:=by intro _;rfl):Cmp K F .NotEq (wNe d):=⟨_,λz=>hK z▸op_neD d (by have:=(hr z).units;omega),W2.ne d⟩
theorem cIn (d:Nat)(hr:∀z,Room k (F z).A)(hd:d<=30:=by decide)(hK:∀z,(F z).K=K:=by intro _;rfl):Cmp K F .In (wIn d false):=⟨_,λz=>NL.or (hK z▸Km d (by have:=(hr z).units;omega)),W2.in_ d false λ_ _ _ _ h=>h⟩
theorem cNotIn (d:Nat)(hr:∀z,Room k (F z).A)(hd:d<=30:=by decide)(hK:∀z,(F z).K=K:=by intro _;rfl):Cmp K F .NotIn (wIn d true):=⟨_,λz=>On.or (hK z▸Pb d (by have:=(hr z).units;omega)),W2.in_ d true λ_ _ _ _ h=>h⟩
theorem cLt:Cmp K F .Lt wLt:=⟨_,λ_=>op_lt.or NK,W2.lt⟩
theorem cLe:Cmp K F .LtE wLe:=⟨_,λ_=>op_le.or OZ,W2.le⟩
theorem cGt:Cmp K F .Gt wGt:=⟨_,λ_=>op_gt,W2.I0 λ_ _ _ _=>rfl⟩
theorem cIs:Cmp K F .Is wIsN:=⟨_,λ_=>op_isN,W2.isN⟩
theorem cIsNot:Cmp K F .IsNot O3:=⟨_,λ_=>NM,W2.notN⟩
theorem Hi (hc:Cmp K F op w)(ha:QE T K F a pa)(hb:QR T K F b pb)(hm:AU op b=false):QE T K F (.Compare a [op] [b] pos) (qOp w pa pb):=by
 obtain⟨r,ho,hw⟩:=hc.ex;obtain⟨ta,h1,h2⟩:=ha;obtain⟨tb,h3,h4⟩:=hb;exact⟨_,λz=>JD (ho z) (h1 z) (h3 z) hm,DB hw h2 h4⟩
def qB (pe:pE):pT:=λenv n R=>pe env n λx jh n'=>match x with|.bl b=>R b jh n'|_=>False
theorem ok_b (h:EOk K T t pe):TOk K T (tB t) (qB pe):=λC G σ H env n R Q hK hT S hp k=>by
 refine h C G σ H env n _ _ hK hT S hp λx jh n' v H' r S' rp f=>?_;cases x with
 |bl b=>exact⟨b,rp,k _ _ _ _ r S' f⟩
 |_=>exact r.elim
theorem Kp (h:EOk K T t pe):TOk K T (GR t) (qB pe):=λC G σ H env n R Q hK hT S hp k=>by
 refine h C G σ H env n _ _ hK hT S hp λx jh n' v H' r S' rp f=>?_;cases x with
 |bl b=>exact⟨b,rp,k _ _ _ _ r S' f⟩
 |_=>exact r.elim
theorem Hj (h:QE T K F e pe)(he:∀z whole,isTrue e (F z).env whole=(do let v ← whole;k6 e.pos;U7 [v] (truthy v)):=by intro _ _;rfl):QT T K F e (qB pe):=by
 obtain⟨t,h1,h2⟩:=h;exact⟨_,λz=>pt_val (h1 z) (he z),ok_b h2⟩
theorem qt_cmp (hc:Cmp K F op w)(ha:QE T K F a pa)(hb:QR T K F b pb)(hm:AU op b=false):QT T K F (.Compare a [op] [b] pos) (qB (qOp w pa pb)):=by
 obtain⟨r,ho,hw⟩:=hc.ex;obtain⟨ta,h1,h2⟩:=ha;obtain⟨tb,h3,h4⟩:=hb;exact⟨_,λz=>Fb (ho z) (h1 z) (h3 z) hm,Kp (DB hw h2 h4)⟩
def V7 (w w':w2)(pa pb pc:pE):pE:=λenv n R=>pa env n λx jc n1=>pb jc n1 λy jd n2=>w x y λz=>match z with|.bl k=>if k=true then pc jd n2 λu je n3=>w' y u λz=>R z je n3 else R (.bl false) jd n2|_=>False
theorem Pc (hw:W2 K r w)(hw':W2 K r' w')(ha:EOk K T ta pa)(hb:EOk K T tb pb)(hc:EOk K T tc pc):EOk K T (JE r r' ta tb tc) (V7 w w' pa pb pc):=λC G σ H env n R Q hK hT S hp k=>by
 refine ha C G σ H env n _ _ hK hT S hp λx jc n1 v H1 p1 S1 r1 f1=>?_;refine hb C G σ H1 jc n1 _ _ hK hT S1 p1 λy jd n2 u H2 p2 S2 r2 f2=>?_;subst hK;refine hw G H2 x y v u _ _ (λp hp=>S2.fresh hp) (.inl (r1.fr f2)) (.inl r2) p2 λz v' H' rz s rv=>?_;cases z with
 | bl kk =>
  refine⟨kk,rv,?_⟩;cases kk with
  |false=>exact k _ _ _ _ _ rz (S2.same s) rfl ((f1.trans f2).trans (Fr.of s))
  | true =>
   refine hc C G σ H' jd n2 _ _ rfl hT (S2.same s) rz λc3 je n3 v3 H3 p3 S3 r3 f3=>?_;exact hw' G H3 y c3 u v3 _ _ (λp hp=>S3.fresh hp) (.inl ((r2.same s).fr f3)) (.inl r3) p3 λz v' H4 rz s4 rv=>k _ _ _ _ _ rz (S3.same s4) rv ((((f1.trans f2).trans (Fr.of s)).trans f3).trans (Fr.of s4))
 |_=>exact rz.elim
theorem Pd (hc:Cmp K F op w)(hc':Cmp K F op' w')(ha:QE T K F a pa)(hb:QE T K F b pb)(hcc:QE T K F c pc)(hm:lastMarks [op,op'] [b,c]=false):QT T K F (.Compare a [op,op'] [b,c] pos) (qB (V7 w w' pa pb pc)):=by
 obtain⟨r,ho,hw⟩:=hc.ex;obtain⟨r',ho',hw'⟩:=hc'.ex;obtain⟨ta,a1,a2⟩:=ha;obtain⟨tb,b1,b2⟩:=hb;obtain⟨tc,c1,c2⟩:=hcc;exact⟨_,λz=>NN (ho z) (ho' z) (a1 z) (b1 z) (c1 z) hm,Kp (Pc hw hw' a2 b2 c2)⟩
variable {pt pu:pT}
def qAnd (t u:pT):pT:=λenv n R=>t env n λb jc n1=>if b=true then u jc n1 R else R false jc n1
def qOr (t u:pT):pT:=λenv n R=>t env n λb jc n1=>if b=true then R true jc n1 else u jc n1 R
def qNot (t:pT):pT:=λenv n R=>t env n λb jc n1=>R (!b) jc n1
theorem ok_and (h:TOk K T t pt)(h':TOk K T u pu):TOk K T (tAnd t u) (qAnd pt pu):=λC G σ H env n R Q hK hT S hp k=>by
 refine h C G σ H env n _ _ hK hT S hp λb jc n1 H1 p1 S1 f1=>?_;cases b with
 |true=>exact h' C G σ H1 jc n1 _ _ hK hT S1 p1 λb jd n2 H2 p2 S2 f2=>k _ _ _ _ p2 S2 (f1.trans f2)
 |false=>exact k _ _ _ _ p1 S1 f1
theorem ok_or (h:TOk K T t pt)(h':TOk K T u pu):TOk K T (tOr t u) (qOr pt pu):=λC G σ H env n R Q hK hT S hp k=>by
 refine h C G σ H env n _ _ hK hT S hp λb jc n1 H1 p1 S1 f1=>?_;cases b with
 |false=>exact h' C G σ H1 jc n1 _ _ hK hT S1 p1 λb jd n2 H2 p2 S2 f2=>k _ _ _ _ p2 S2 (f1.trans f2)
 |true=>exact k _ _ _ _ p1 S1 f1
theorem ok_not {K:A7}{t:TT}(h:TOk K T t pt):TOk K T (tNot t) (qNot pt):=λC G σ H env n R Q hK hT S hp k=>h C G σ H env n _ _ hK hT S hp λb jc n1 H1 p1 S1 f1=>k _ _ _ _ p1 S1 f1
theorem Pe (ha:QT T K F a pt):QW T K F (.BoolOp .And [a] pos) pt:=let ⟨t,h1,h2⟩:=ha;⟨t,λz=>NA (h1 z),h2⟩
theorem qw_or1 (ha:QT T K F a pt):QW T K F (.BoolOp .Or [a] pos) pt:=let ⟨t,h1,h2⟩:=ha;⟨t,λz=>pw_or1 (h1 z),h2⟩
theorem qw_and (ha:QT T K F a pt)(hb:QW T K F (.BoolOp .And (b::rest) pos) pu):QW T K F (.BoolOp .And (a::b::rest) pos) (qAnd pt pu):=let ⟨t,h1,h2⟩:=ha;let ⟨u,h3,h4⟩:=hb;⟨_,λz=>pw_and (h1 z) (h3 z),ok_and h2 h4⟩
theorem qw_or (ha:QT T K F a pt)(hb:QW T K F (.BoolOp .Or (b::rest) pos) pu):QW T K F (.BoolOp .Or (a::b::rest) pos) (qOr pt pu):=let ⟨t,h1,h2⟩:=ha;let ⟨u,h3,h4⟩:=hb;⟨_,λz=>pw_or (h1 z) (h3 z),ok_or h2 h4⟩
theorem QW.qt (h:QW T K F e pt):QT T K F e pt:=let ⟨t,h1,h2⟩:=h;⟨t,λz=>(h1 z).pt,h2⟩
theorem qt_not (ha:QT T K F a pt):QT T K F (.UnaryOp .Not a pos) (qNot pt):=let ⟨t,h1,h2⟩:=ha;⟨_,λz=>pt_not (h1 z),ok_not h2⟩
def Q3 (pa pb:pE):pE:=λenv n R=>pa env n λx jc n1=>match x with|.bl b=>if b=true then pb jc n1 R else R (.bl false) jc n1|_=>False
def qOrV (pa pb:pE):pE:=λenv n R=>pa env n λx jc n1=>match x with|.bl b=>if b=true then R (.bl true) jc n1 else pb jc n1 R|_=>False
def Y7 (pa:pE):pE:=λenv n R=>pa env n λx jc n1=>match x with|.bl b=>R (.bl (!b)) jc n1|_=>False
theorem qe_one {op}(h:QE T K F a pa):QE T K F (.BoolOp op [a] pos) pa:=let ⟨t,h1,h2⟩:=h;⟨t,λz=>pe_one (h1 z),h2⟩
theorem qe_and (ha:QE T K F a pa)(hb:QE T K F (.BoolOp .And (b::rest) pos) pb):QE T K F (.BoolOp .And (a::b::rest) pos) (Q3 pa pb):=by
 obtain⟨t,h1,h2⟩:=ha;obtain⟨u,h3,h4⟩:=hb;refine⟨_,λz=>pe_and (h1 z) (h3 z),λC G σ H env n R Q hK hT S hp k=>?_⟩;refine h2 C G σ H env n _ _ hK hT S hp λx jc n1 v H1 p1 S1 r1 f1=>?_;cases x with
 | bl c =>
  refine⟨c,r1,?_⟩;cases c with
  |true=>exact h4 C G σ H1 jc n1 _ _ hK hT S1 p1 λx jd n2 v H2 p2 S2 r2 f2=>k _ _ _ _ _ p2 S2 r2 (f1.trans f2)
  |false=>exact k _ _ _ _ _ p1 S1 rfl f1
 |_=>exact p1.elim
theorem qe_or (ha:QE T K F a pa)(hb:QE T K F (.BoolOp .Or (b::rest) pos) pb):QE T K F (.BoolOp .Or (a::b::rest) pos) (qOrV pa pb):=by
 obtain⟨t,h1,h2⟩:=ha;obtain⟨u,h3,h4⟩:=hb;refine⟨_,λz=>pe_or (h1 z) (h3 z),λC G σ H env n R Q hK hT S hp k=>?_⟩;refine h2 C G σ H env n _ _ hK hT S hp λx jc n1 v H1 p1 S1 r1 f1=>?_;cases x with
 | bl c =>
  refine⟨c,r1,?_⟩;cases c with
  |false=>exact h4 C G σ H1 jc n1 _ _ hK hT S1 p1 λx jd n2 v H2 p2 S2 r2 f2=>k _ _ _ _ _ p2 S2 r2 (f1.trans f2)
  |true=>exact k _ _ _ _ _ p1 S1 rfl f1
 |_=>exact p1.elim
theorem qe_not (ha:QE T K F a pa):QE T K F (.UnaryOp .Not a pos) (Y7 pa):=by
 obtain⟨t,h1,h2⟩:=ha;refine⟨_,λz=>pe_not (h1 z),λC G σ H env n R Q hK hT S hp k=>?_⟩;refine h2 C G σ H env n _ _ hK hT S hp λx jc n1 v H1 p1 S1 r1 f1=>?_;cases x with
 |bl c=>exact⟨c,r1,k _ _ _ _ _ p1 S1 rfl f1⟩
 |_=>exact p1.elim
def qIf (t:pT)(pa pb:pE):pE:=λenv n R=>t env n λb jc n1=>if b=true then pa jc n1 R else pb jc n1 R
theorem Hk (hc:QT T K F c pt)(ha:QE T K F a pa)(hb:QE T K F b pb):QE T K F (.IfExp c a b pos) (qIf pt pa pb):=by
 obtain⟨tc,c1,c2⟩:=hc;obtain⟨t,h1,h2⟩:=ha;obtain⟨u,h3,h4⟩:=hb;refine⟨_,λz=>Jx (c1 z) (h1 z) (h3 z),λC G σ H env n R Q hK hT S hp k=>?_⟩;refine c2 C G σ H env n _ _ hK hT S hp λd jc n1 H1 p1 S1 f1=>?_;cases d with
 |true=>exact h2 C G σ H1 jc n1 _ _ hK hT S1 p1 λx jd n2 v H2 p2 S2 r2 f2=>k _ _ _ _ _ p2 S2 r2 (f1.trans f2)
 |false=>exact h4 C G σ H1 jc n1 _ _ hK hT S1 p1 λx jd n2 v H2 p2 S2 r2 f2=>k _ _ _ _ _ p2 S2 r2 (f1.trans f2)
variable {pl pr:pA}
def qNil:pA:=λenv n R=>R [] env n
def A3 (pe:pE)(pr:pA):pA:=λenv n R=>pe env n λx jc n1=>pr jc n1 λxs jd n2=>R (x::xs) jd n2
theorem qa_nil:QA T K F [] qNil:=⟨_,λ_=>K5,λC G σ H env n R Q hK hT S hp k=>k _ _ _ _ _ hp S Reps.nil Fr.refl⟩
theorem Pf (h:EOk K T t pe)(h':AOk K T u pr):AOk K T (p6 t u) (A3 pe pr):=λC G σ H env n R Q hK hT S hp k=>by
 refine h C G σ H env n _ _ hK hT S hp λx jc n1 v H1 p1 S1 r1 f1=>?_;exact h' C G σ H1 jc n1 _ _ hK hT S1 p1 λxs jd n2 vs H2 p2 S2 r2 f2=>k _ _ _ _ _ p2 S2 (.cons (r1.fr f2) r2) (f1.trans f2)
def F3:Expr->Bool
 |.Starred ..=>false
 |_=>true
theorem D4 (h:F3 e=true):E8 (e::es) env=(false,eval e env)::E8 es env:=by
 cases e <;> first|rfl|cases h
theorem Pg (ha:QE T K F e pe)(hr:QA T K F es pr)(h:F3 e=true):QA T K F (e::es) (A3 pe pr):=by
 obtain⟨t,h1,h2⟩:=ha;obtain⟨u,h3,h4⟩:=hr;exact⟨_,λz=>F5 (h1 z) (h3 z) (D4 h),Pf h2 h4⟩
def qTup (pa:pA):pE:=λenv n R=>pa env n λxs jc n1=>xs.length<=1000000/\R (.tup xs) jc n1
def qLst (pa:pA):pA:=λenv n R=>pa env n λxs jc n1=>xs.length<=1000000/\R xs jc n1
def qL (pn:pA):pE:=λenv n R=>pn env n λxs jc n1=>R (.lst xs) jc n1
theorem qe_tup {x1}(h:QA T K F es pl):QE T K F (.Tuple es x1 pos) (qTup pl):=by
 obtain⟨t,h1,h2⟩:=h;refine⟨_,λz=>JH (h1 z),λC G σ H env n R Q hK hT S hp k=>?_⟩;refine h2 C G σ H env n _ _ hK hT S hp λxs jc n1 vs H1 p1 S1 r1 f1=>⟨by rw[<- r1.length];exact mil p1.1,λp hp=>?_⟩;exact k _ _ _ _ _ p1.2 (S1.same (Same.lay1 hp)) (AG (S1.fresh hp) hp r1) (f1.trans (Fr.of (Same.lay1 hp)))
theorem qn_lst (h:QA T K F es pl):QN T K F (.List es pos) (qLst pl):=by
 obtain⟨t,h1,h2⟩:=h;refine⟨_,λz=>JI (h1 z),λC G σ H env n R Q hK hT S hp k=>?_⟩;exact h2 C G σ H env n _ _ hK hT S hp λxs jc n1 vs H1 p1 S1 r1 f1=>⟨by rw[<- r1.length];exact mil p1.1,λp hp=>k _ _ _ _ _ _ p1.2 S1 f1 hp r1⟩
theorem QN.ee (h:QN T K F e pl):QE T K F e (qL pl):=by
 obtain⟨t,h1,h2⟩:=h;refine⟨t,h1,λC G σ H env n R Q hK hT S hp k=>?_⟩;refine h2 C G σ H env n _ _ hK hT S hp λxs jc n1 a vs Hb p1 S1 f1 hn r1=>?_;exact k _ _ _ _ _ p1 (S1.same (Same.lay1 hn)) (DC (S1.fresh hn) hn r1) (f1.trans (Fr.of (Same.lay1 hn)))
theorem DG (h:ROk K T t pe)(hK:C.K=K)(hT:C.T=T)(S:SR C G σ H env n)(hp:pe env n R)
   (k:∀x jh n' v H',R x jh n'->SR C G σ H' jh n'->RdS C G σ H' jh x v->Fr G H H'->Q [v] H'):p6 t tNil σ H Q:=
 h C G σ H env n _ _ hK hT S hp λx jc n1 v H1 p1 S1 r1 f1=>k _ _ _ _ _ p1 S1 r1 f1
end
end Pu
end
section
namespace HT
open PySem PySem.Spec PyProof.Rows
section
variable {prog:C3}{w:B8}{A:C8}{E:A1->A4->Prop}{s:A4}
theorem getItem_tuple_whole {lo hi:Option Int}(ht:IsTup s.heap t items)(hs:s.heap.IsSliceOf sl vl vu .none)(pl:IsPart vl lo)(pu:IsPart vu hi)
   (hw:sIx items.size 0 lo=0/\sIx items.size items.size hi=items.size) (h:Q (.ref t) s):A5 (A6 prog w) A (getItem (.ref t) (.ref sl)) Q E s:=by
 obtain⟨os,hos,hcs,hds⟩:=id hs;have hTs:s.TypeIs (.ref sl) "slice":=⟨os,hos,hcs⟩;have hTt:s.TypeIs (.ref t) "tuple":=ht.typeIs;unfold getItem
 try with_reducible refine N4 ?_
 first|refine A2 (A8 ?_)|skip
 refine A2 (wpAny_sequenceKey ht.typeIs (by decide) ?_)
 refine A2 (X0 (name:=B0 "__getitem__") ht.typeIs BV
   (N3 BV ht.typeIs entry_tuple_getitem ?_ (args_tuple_getitem _ _)))
 show A5 _ _ (GD (.ref t)>>=_) _ _ s;refine A2 (tupleItemsOf_ ht ?_);refine A2 (w6 hTs ?_);rw[jt (by decide)];refine A2 (JP hs pl pu ?_)
 have hyes:(((sIx items.size 0 lo:Nat):Int) == 0&&(1:Int) == 1&&(sIx items.size items.size hi-sIx items.size 0 lo) == items.size)=true:=by
  rw[hw.1,hw.2];simp
 show A5 _ _ (if(((sIx items.size 0 lo:Nat):Int) == 0&&(1:Int) == 1&&(sIx items.size items.size hi-sIx items.size 0 lo) == items.size)=true then _ else _) _ _ s;rw[jt hyes];unfold Builtin.Tuple.tupleIsExact;refine A2 (A2 (w6 hTt (A8 ?_)));rw[jt (by rfl)];exact A2 (j9 (A8 ⟨_,rfl,A8 h⟩))
end
end HT
namespace L2
open PySem PySem.Spec PyProof.Rows
section
variable {X:Cx}
def rSlTA (K:A7):V->Option Int->Option Int->Hp->VK->Prop:=λx lo hi H Q=>∃a xs,x=.ref a/\SqT K H a xs/\
 (cutV xs lo hi=xs->Q (.ref a) H)/\∀p,H p=none->Q (.ref p) (upd H p (.tup (cutV xs lo hi)))
theorem Ph:SlR X (rSlTA X.K):=by
 intro jb s σ H x v vl vu lo hi sl Q I rx hs pl pu h;obtain⟨a,xs,rfl,hx,h1,h2⟩:=h
 by_cases hw:HT.sIx xs.length 0 lo=0/\HT.sIx xs.length xs.length hi=xs.length
 ·cases rx;obtain⟨jf,r,ht,hz⟩:=I.tuple hx;have hlen:jf.toArray.size=xs.length:=by rw[D9];exact r.length.symm
  refine⟨"tuple",_,PyProof.Rows.slot_tuple_getitem.lookup,ht.typeIs,?_⟩;refine HT.getItem_tuple_whole ht hs pl pu (by rw[hlen];exact hw) ⟨.ref a,H,I,rfl,h1 ?_⟩;unfold cutV;rw[hw.1,hw.2];simp
 ·exact sl_tup jb s σ H (.ref a) v vl vu lo hi sl Q I rx hs pl pu ⟨a,xs,rfl,hx,hw,h2⟩
end
end L2
namespace Pu
open PySem PySem.Spec L2
section
variable {T:PotK}{ι:Type}{K:A7}{F:ι->Cx}{e a b c:Expr}{es rest:List Expr}{pe pa pb pc:pE}{pos:Pos}{pl pr:pA}
def wIx:w2:=λx y R=>match x,y with
 |.lst xs,.int i=>match atI xs i with|some z=>R z|none=>False
 |.tup xs,.int i=>match atI xs i with|some z=>R z|none=>False
 |.scr ns,.int i=>match atI ns i with|some z=>R (.int z)|none=>False
 |.str z,.int i=>z.length<=1000000/\match atI z.cps.toList i with|some c=>R (.str ⟨#[c]⟩)|none=>False
 |_,_=>False
theorem Kq (r:Reps K G H xs vs)(h:atI xs i=some z):∃v,atI vs i=some v/\Rep K G H z v:=by
 unfold atI at h ⊢;rw[<- r.length];cases e:ixN xs.length i with
 |none=>rw[e] at h;cases h
 | some j =>
  rw[e] at h;exact r.get' h
theorem DH (h:RdV K G H (.scr ns) v):∃a,v=.ref a/\SqL K H a (ns.map V.int):=by
 obtain⟨a,e,h⟩:=h.rep (λ_ z=>nomatch z);refine⟨a,e,?_⟩;rcases h with⟨_,o,h⟩|h
 ·exact .inl (.inr ⟨o,h⟩)
 ·exact .inr h
theorem W2.ix:W2 K (rIx K) wIx:=by
 intro G H x y v u R Q hf rx ry hw k;unfold wIx at hw
 split at hw
 ·rename_i xs i;obtain⟨a,vs,ev,hq,r⟩:=rx.lst;cases ez:atI xs i with
  |none=>rw[ez] at hw;exact hw.elim
  | some z =>
   rw[ez] at hw;obtain⟨v',e1,r1⟩:=Kq r ez;exact .inl ⟨a,vs,i,v',ev,ry.int,hq,e1,k _ _ _ hw (Same.refl _) r1⟩
 ·rename_i xs i;obtain⟨a,vs,ev,hq,r⟩:=rx.tup;cases ez:atI xs i with
  |none=>rw[ez] at hw;exact hw.elim
  | some z =>
   rw[ez] at hw;obtain⟨v',e1,r1⟩:=Kq r ez;exact .inr (.inl ⟨a,vs,i,v',ev,ry.int,hq,e1,k _ _ _ hw (Same.refl _) r1⟩)
 ·rename_i ns i;obtain⟨a,ev,hq⟩:=DH rx;cases ez:atI ns i with
  |none=>rw[ez] at hw;exact hw.elim
  | some z =>
   rw[ez] at hw;refine .inl ⟨a,_,i,.int z,ev,ry.int,hq,?_,k _ _ _ hw (Same.refl _) rfl⟩;unfold atI at ez ⊢;rw[A9];cases e:ixN ns.length i with
   |none=>rw[e] at ez;cases ez
   | some j =>
    rw[e] at ez;show(ns.map V.int)[j]?=_;rw[C6,show ns[j]?=some z from ez]
    rfl
 ·rename_i z i;obtain⟨hz,hw⟩:=hw;cases ez:atI z.cps.toList i with
  |none=>rw[ez] at hw;exact hw.elim
  | some c =>
   rw[ez] at hw;exact .inr (.inr ⟨z,i,c,rx.str,ry.int,mil hz,ez,k _ _ _ hw (Same.refl _) rfl⟩)
 ·exact hw.elim
theorem Af (ha:QE T K F a pa)(hb:QE T K F b pb)(hs:GV b:=by exact λ_ _=>rfl)(hK:∀z,(F z).K=K:=by intro _;rfl):QE T K F (.Subscript a b pos) (qOp wIx pa pb):=by
 obtain⟨ta,h1,h2⟩:=ha;obtain⟨tb,h3,h4⟩:=hb.r;exact⟨_,λz=>p8 (hK z▸JS) (h1 z) (h3 z) hs,DB W2.ix h2 h4⟩
theorem qe_ixR (ha:QR T K F a pa)(hb:QE T K F b pb)(hs:GV b)(hK:∀z,(F z).K=K):QE T K F (.Subscript a b pos) (qOpR wIx pa pb):=by
 obtain⟨ta,h1,h2⟩:=ha;obtain⟨tb,h3,h4⟩:=hb.r;exact⟨_,λz=>p8 (hK z▸JS) (h1 z) (h3 z) hs,ok_opR W2.ix h2 h4⟩
abbrev pO:=Env->Nat->(Option Int->Env->Nat->Prop)->Prop
def qNo:pO:=λenv n R=>R none env n
def L5 (pe:pE):pO:=λenv n R=>pe env n λx jc n1=>match x with|.int i=>R (some i) jc n1|_=>False
def OOk (K:A7)(T:PotK)(t:TO)(po:pO):Prop:=∀(C:Ct) (G:Gh) (σ:St) (H:Hp) (env:Env) (n:Nat) (R:Option Int->Env->Nat->Prop) (Q:Option Int->Hp->Prop),C.K=K->C.T=T->SR C G σ H env n->po env n R->
 (∀x jh n' H',R x jh n'->SR C G σ H' jh n'->Fr G H H'->Q x H')->t σ H Q
inductive QO {ι:Type}(T:PotK)(K:A7)(F:ι->Cx)(e:Option Expr)(po:pO):Prop
 |mk t (a:(∀z,PO (F z) e t)) (b:OOk K T t po):QO T K F e po
theorem qo_no:QO T K F none qNo:=⟨_,λ_=>Od,λC G σ H env n R Q hK hT S hp k=>k _ _ _ _ hp S Fr.refl⟩
theorem Pi (h:QE T K F e pe):QO T K F (some e) (L5 pe):=by
 obtain⟨t,h1,h2⟩:=h;refine⟨_,λz=>Oe (h1 z),λC G σ H env n R Q hK hT S hp k=>?_⟩;refine h2 C G σ H env n _ _ hK hT S hp λx jc n1 v H1 p1 S1 r1 f1=>?_;cases x with
 |int i=>exact⟨i,r1,k _ _ _ _ p1 S1 f1⟩
 |_=>exact p1.elim
def cutP {α:Type}(xs:List α)(lo hi:Option Int):List α:=(xs.drop (HT.sIx xs.length 0 lo)).take (HT.sIx xs.length xs.length hi-HT.sIx xs.length 0 lo)
theorem Reps.cut (r:Reps K G H xs vs)(lo hi:Option Int):Reps K G H (cutP xs lo hi) (cutV vs lo hi):=by
 unfold cutP cutV;rw[<- r.length];exact(r.drop _).take _
def wSl (x:PV)(lo hi:Option Int)(R:PV->Prop):Prop:=match x with
 |.lst xs=>R (.lst (cutP xs lo hi))
 |.scr ns=>R (.lst ((cutP ns lo hi).map PV.int))
 |.tup xs=>R (.tup (cutP xs lo hi))
 |.str z=>z.length<=1000000/\R (.str (P8 z lo hi))
 |_=>False
def qSl (pe:pE)(pl ph:pO):pE:=λenv n R=>pe env n λx jc n1=>pl jc n1 λlo jd n2=>ph jd n2 λhi je n3=>wSl x lo hi λz=>R z je n3
theorem Hl {K:A7}{G:Gh}{H:Hp}:∀ns:List Int,Reps K G H (ns.map PV.int) (ns.map V.int)
 |[]=>rfl
 |i::ns=>⟨.int i,ns.map V.int,rfl,rfl,Hl ns⟩
theorem Pj {α β:Type}(f:α->β)(xs:List α)(lo hi:Option Int):cutP (xs.map f) lo hi=(cutP xs lo hi).map f:=by simp[cutP]
theorem sl_ok (hf:∀p,H p=none->p∉G.M)(rx:RdV K G H x v)(hw:wSl x lo hi R)(k:∀z v' H',R z->Same H H'->Rep K G H' z v'->Q v' H') :
   rSlL K v lo hi H Q\/rSlTA K v lo hi H Q\/rSlS v lo hi H Q:=by
 unfold wSl at hw
 split at hw
 ·obtain⟨a,vs,ev,hq,r⟩:=rx.lst;exact .inl ⟨a,vs,ev,hq,λp hp=>k _ _ _ hw (Same.lay1 hp) (DC (hf p hp) hp (r.cut lo hi))⟩
 ·rename_i ns;obtain⟨a,ev,hq⟩:=DH rx;refine .inl ⟨a,_,ev,hq,λp hp=>k _ _ _ hw (Same.lay1 hp) (DC (hf p hp) hp ?_)⟩;have:=(Hl (K:=K) (G:=G) (H:=H) ns).cut lo hi;rw[Pj] at this;exact this
 ·obtain⟨a,vs,ev,t,r⟩:=rx.rep (λ_ z=>nomatch z);refine .inr (.inl ⟨a,vs,ev,t.sq,λz=>k _ _ _ hw (Same.refl _) ?_,λp hp=>k _ _ _ hw (Same.lay1 hp) (AG (hf p hp) hp (r.cut lo hi))⟩);have rc:=r.cut lo hi;rw[z] at rc;exact⟨a,vs,rfl,t,rc⟩
 ·exact .inr (.inr ⟨_,rx.str,mil hw.1,k _ _ _ hw.2 (Same.refl _) rfl⟩)
 ·exact hw.elim
theorem qe_sl (he:QE T K F e pe)(hl:QO T K F lo ql)(hh:QO T K F hi qh)(hK:∀z,(F z).K=K):QE T K F (.Subscript e (.Slice lo hi none p2) pos) (qSl pe ql qh):=by
 obtain⟨t,h1,h2⟩:=he;obtain⟨tl,l1,l2⟩:=hl;obtain⟨th,u1,u2⟩:=hh;refine⟨_,λz=>Of ((hK z▸Om).or ((hK z▸Ph).or sl_str)) (h1 z) (l1 z) (u1 z),λC G σ H env n R Q hK hT S hp k=>?_⟩;refine h2 C G σ H env n _ _ hK hT S hp λx jc n1 v H1 p1 S1 r1 f1=>?_;refine l2 C G σ H1 jc n1 _ _ hK hT S1 p1 λlo jd n2 H2 p2 S2 f2=>?_;refine u2 C G σ H2 jd n2 _ _ hK hT S2 p2 λhi je n3 H3 p3 S3 f3=>?_;exact sl_ok (λp hp=>S3.fresh hp) (.inl ((r1.fr f2).fr f3)) p3 λz v' H' rz s rv=>k _ _ _ _ _ rz (S3.same s) rv (((f1.trans f2).trans f3).trans (Fr.of s))
def WA1 (K:A7)(r:List V->Hp->VK->Prop)(w:w1):Prop:=∀(G:Gh) (H:Hp) (x:PV) (v:V) (R:PV->Prop) (Q:VK),(∀p,H p=none->p∉G.M)->RdV K G H x v->w x R->
 (∀z v' H',R z->Same H H'->Rep K G H' z v'->Q v' H')->r [v] H Q
theorem Ks (hw:WA1 K r w)(h:ROk K T t pe):EOk K T (tCB r (p6 t tNil)) (qUn w pe):=λC G σ H env n R Q hK hT S hp k=>by
 refine DG h hK hT S hp λx jc n1 v H1 p1 S1 r1 f1=>?_;subst hK;exact hw G H1 x v _ _ (λp hp=>S1.fresh hp) (r1.rd S1) p1 λz v' H' rz s rv=>k _ _ _ _ _ rz (S1.same s) rv (f1.trans (Fr.of s))
theorem Fm {id:String}(hc:∀z,K4 (F z) (.builtin id) r)(hw:WA1 K r w)(hg:∀z,Gl (F z) x)(hm:∀z,(F z).mg x=none)(hv:J4 x=some (.builtin id))(ha:QR T K F e pe)(hs:F3 e=true:=by rfl)(hn:x≠"__name__":=by decide)(hdb:(x == ("__debug__":Str))=false:=by decide) :
   QE T K F (.Call (.Name x p) [e] [] pos) (qUn w pe):=by
 obtain⟨t,h1,h2⟩:=ha;exact⟨_,λz=>Bp (hc z) (hg z) (hm z) hv (F5 (h1 z) K5 (D4 hs)) hn hdb (D4 hs),Ks hw h2⟩
theorem Kt {id:String}(hc:∀z,K4 (F z) (.type id) r)(hw:WA1 K r w)(hg:∀z,Gl (F z) x)(hm:∀z,(F z).mg x=none)(hv:J4 x=some (.type id))(ha:QR T K F e pe)(hs:F3 e=true:=by rfl)(hn:x≠"__name__":=by decide)(hdb:(x == ("__debug__":Str))=false:=by decide) :
   QE T K F (.Call (.Name x p) [e] [] pos) (qUn w pe):=by
 obtain⟨t,h1,h2⟩:=ha;exact⟨_,λz=>GT (hc z) (hg z) (hm z) hv (F5 (h1 z) K5 (D4 hs)) hn hdb (D4 hs),Ks hw h2⟩
def wLen:w1:=λx R=>match x with
 |.lst xs=>R (.int xs.length)
 |.tup xs=>R (.int xs.length)
 |.scr xs=>R (.int xs.length)
 |.str z=>z.length<=1000000/\R (.int z.length)
 |_=>False
theorem WA1.len:WA1 K (λxs H Q=>(∃p ys,xs=[.ref p]/\(SqL K H p ys\/SqT K H p ys)/\Q (.int ys.length) H)\/∃z,xs=[.str z]/\z.length<=B7/\Q (.int z.length) H) wLen:=by
 intro G H x v R Q hf rx hw k;unfold wLen at hw
 split at hw
 ·obtain⟨a,vs,ev,hq,r⟩:=rx.lst;exact .inl ⟨a,vs,by rw[ev],.inl hq,k _ _ _ hw (Same.refl _) (by rw[r.length];rfl)⟩
 ·obtain⟨a,vs,ev,hq,r⟩:=rx.tup;exact .inl ⟨a,vs,by rw[ev],.inr hq,k _ _ _ hw (Same.refl _) (by rw[r.length];rfl)⟩
 ·obtain⟨a,ev,hq⟩:=DH rx;exact .inl ⟨a,_,by rw[ev],.inl hq,k _ _ _ hw (Same.refl _) (by rw[A9];rfl)⟩
 ·exact .inr ⟨_,by rw[rx.str],mil hw.1,k _ _ _ hw.2 (Same.refl _) rfl⟩
 ·exact hw.elim
theorem Ku (hg:∀z,Gl (F z) "len")(hm:∀z,(F z).mg "len"=none)(ha:QR T K F e pe)(hs:F3 e=true:=by rfl)(hK:∀z,(F z).K=K:=by intro _;rfl):QE T K F (.Call (.Name "len" p) [e] [] pos) (qUn wLen pe):=Fm (λz=>(hK z▸JU).or Oo) WA1.len hg hm Ke ha hs
def wInt:w1:=λx R=>match x with|.int i=>R (.int i)|.bl b=>R (.int (if b then 1 else 0))|_=>False
theorem Pl {p:Pos}(hg:∀z,Gl (F z) "int")(hm:∀z,(F z).mg "int"=none)(ha:QR T K F e pe)(hs:F3 e=true):QE T K F (.Call (.Name "int" p) [e] [] pos) (qUn wInt pe):=Kt (λ_=>NU) (λG H x v R Q hf rx hw k=>by
 unfold wInt at hw
 split at hw
 ·exact .inl ⟨_,by rw[rx.int],k _ _ _ hw (Same.refl _) rfl⟩
 ·exact .inr ⟨_,by rw[rx.bl],k _ _ _ hw (Same.refl _) rfl⟩
 ·exact hw.elim) hg hm bt_int ha hs
def t7:List PV->Option (List Bool)
 |[]=>some []
 |.bl b::xs=>(t7 xs).map (b::·)
 |_=>none
theorem Hm {K:A7}{G:Gh}{H:Hp}:∀{xs:List PV} {vs:List V} {bs:List Bool},t7 xs=some bs->Reps K G H xs vs->vs=bs.map V.bl
 |[],vs,bs,h,r=>by cases h;exact r
 | .bl b :: xs, vs, bs, h, r => by
  obtain⟨v,t,e,rv,rt⟩:=r;cases e1:t7 xs with
  |none=>simp[t7,e1] at h
  | some cs =>
   have:b::cs=bs:=by simpa[t7,e1] using h
   subst this;rw[e,show v=.bl b from rv,Hm e1 rt]
   rfl
 |.non::_,_,_,h,_=>by cases h
 |.int _::_,_,_,h,_=>by cases h
 |.str _::_,_,_,h,_=>by cases h
 |.ty _::_,_,_,h,_=>by cases h
 |.pot _::_,_,_,h,_=>by cases h
 |.tup _::_,_,_,h,_=>by cases h
 |.lst _::_,_,_,h,_=>by cases h
 |.dct _ _::_,_,_,h,_=>by cases h
 |.fdt _ _::_,_,_,h,_=>by cases h
 |.scr _::_,_,_,h,_=>by cases h
theorem Ag:∀bs:List Bool,t7 (bs.map PV.bl)=some bs
 |[]=>rfl
 |b::bs=>by simp[t7,Ag bs]
def wAll:w1:=λx R=>match x with|.lst xs=>(match t7 xs with|some bs=>R (.bl (bs.all id))|none=>False)|_=>False
def wAny:w1:=λx R=>match x with|.lst xs=>(match t7 xs with|some bs=>R (.bl (bs.any id))|none=>False)|_=>False
theorem Hn (hc:∀z,(F z).calm=true)(hg:∀z,Gl (F z) "all")(hm:∀z,(F z).mg "all"=none)(ha:QR T K F e pe)(hs:F3 e=true:=by rfl)(hK:∀z,(F z).K=K:=by intro _;rfl):QE T K F (.Call (.Name "all" p) [e] [] pos) (qUn wAll pe):=Fm (λz=>hK z▸OG (hc z)) (λG H x v R Q hf rx hw k=>by
 unfold wAll at hw
 split at hw
 ·rename_i xs;obtain⟨a,vs,ev,hq,r⟩:=rx.lst
  split at hw
  ·rename_i bs eb;exact⟨a,bs,by rw[ev],Hm eb r▸hq,k _ _ _ hw (Same.refl _) rfl⟩
  ·exact hw.elim
 ·exact hw.elim) hg hm bt_all ha hs
theorem qe_any {p:Pos}(hc:∀z,(F z).calm=true)(hg:∀z,Gl (F z) "any")(hm:∀z,(F z).mg "any"=none)(ha:QR T K F e pe)(hs:F3 e=true)(hK:∀z,(F z).K=K):QE T K F (.Call (.Name "any" p) [e] [] pos) (qUn wAny pe):=Fm (λz=>hK z▸OH (hc z)) (λG H x v R Q hf rx hw k=>by
 unfold wAny at hw
 split at hw
 ·rename_i xs;obtain⟨a,vs,ev,hq,r⟩:=rx.lst
  split at hw
  ·rename_i bs eb;exact⟨a,bs,by rw[ev],Hm eb r▸hq,k _ _ _ hw (Same.refl _) rfl⟩
  ·exact hw.elim
 ·exact hw.elim) hg hm bt_any ha hs
def K1:w1:=λx R=>match x with|.lst xs=>R (.tup xs)|.tup xs=>R (.tup xs)|_=>False
theorem Ho (hg:∀z,Gl (F z) "tuple")(hm:∀z,(F z).mg "tuple"=none)(ha:QR T K F e pe)(hs:F3 e=true:=by rfl)(hK:∀z,(F z).K=K:=by intro _;rfl):QE T K F (.Call (.Name "tuple" p) [e] [] pos) (qUn K1 pe):=Kt (λz=>hK z▸Oq) (λG H x v R Q hf rx hw k=>by
 unfold K1 at hw
 split at hw
 ·obtain⟨a,vs,ev,hq,r⟩:=rx.lst;exact⟨a,vs,by rw[ev],.inl ⟨hq,λl hl=>k _ _ _ hw (Same.lay1 hl) (AG (hf l hl) hl r)⟩⟩
 ·obtain⟨a,vs,ev,t,r⟩:=rx.rep (λ_ z=>nomatch z);exact⟨a,vs,by rw[ev],.inr ⟨t.sq,k _ _ _ hw (Same.refl _) ⟨a,vs,rfl,t,r⟩⟩⟩
 ·exact hw.elim) hg hm Kg ha hs
def V8 (pe:pE):pA:=λenv n R=>pe env n λx jc n1=>match x with|.lst xs=>R xs jc n1|.tup xs=>R xs jc n1|.scr ns=>R (ns.map PV.int) jc n1|_=>False
theorem Pm (hg:∀z,Gl (F z) "list")(hm:∀z,(F z).mg "list"=none)(ha:QR T K F e pe)(hs:F3 e=true)(hK:∀z,(F z).K=K):QN T K F (.Call (.Name "list" p) [e] [] pos) (V8 pe):=by
 obtain⟨t,h1,h2⟩:=ha;refine⟨_,λz=>GT (hK z▸Op) (hg z) (hm z) ON (F5 (h1 z) K5 (D4 hs)) (by decide) (by decide) (D4 hs),λC G σ H env n R Q hK hT S hp k=>?_⟩;refine DG h2 hK hT S hp λx jc n1 v H1 p1 S1 r1 f1=>?_;have rd:RdV K G H1 x v:=hK▸r1.rd S1;cases x with
 | lst xs =>
  obtain⟨a,vs,ev,hq,r⟩:=rd.lst;exact⟨a,vs,by rw[ev],.inl hq,λl hl=>k _ _ _ _ _ _ p1 S1 f1 hl r⟩
 | tup xs =>
  obtain⟨a,vs,ev,hq,r⟩:=rd.tup;exact⟨a,vs,by rw[ev],.inr hq,λl hl=>k _ _ _ _ _ _ p1 S1 f1 hl r⟩
 | scr ns =>
  obtain⟨a,ev,hq⟩:=DH rd;exact⟨a,_,by rw[ev],.inl hq,λl hl=>k _ _ _ _ _ _ p1 S1 f1 hl (Hl ns)⟩
 |_=>exact p1.elim
theorem tyw (hg:Gl X x)(hm:X.mg x=none)(hv:J4 x=some (.type m))(hn:x≠"__name__":=by decide)(hd:(x == ("__debug__":Str))=false:=by decide):EW X (.Name x pos) (tC (.ty m)):=⟨Nz (v:=.ty m) hg hm hv rfl hn hd⟩
def tyP:PV->Option String
 |.non=>some "NoneType"
 |.bl _=>some "bool"
 |.int _=>some "int"
 |.str _=>some "str"
 |.tup _=>some "tuple"
 |.lst _=>some "list"
 |.dct _ _=>some "dict"
 |_=>none
def isT (t n:String):Bool:=t == n||(t == "bool" && n == "int")
def wIsi (n:String):w1:=λx R=>match tyP x with|some t=>R (.bl (isT t n))|none=>False
theorem Pn (ht:t∈["NoneType","bool","int","str","tuple","list","dict"])(hn:n∈["bool","int","str","tuple","list"]):CY K (.type t) (.type n)=some (isT t n):=by
 refine kit_of ?_;have:∀t∈["NoneType","bool","int","str","tuple","list","dict"],∀n∈["bool","int","str","tuple","list"],(if(F9 t == F9 n)=true then some true else if PySem.W.kitMeta n=true then(fastBuiltinMro t).map (·.contains (.type n)) else none)=some (isT t n):=by decide +kernel
 exact this t ht n hn
theorem qe_isi (hn:n∈["bool","int","str","tuple","list"])(hg:∀z,Gl (F z) "isinstance")(hm:∀z,(F z).mg "isinstance"=none)(ha:QE T K F a pa)(hb:∀z,EW (F z) b (tC (.ty n)))(hs:F3 a=true)(hs2:F3 b=true)(hK:∀z,(F z).K=K):QE T K F (.Call (.Name "isinstance" p) [a,b] [] pos) (qUn (wIsi n) pa):=by
 obtain⟨t,h1,h2⟩:=ha;refine⟨_,λz=>Bp (hK z▸OD) (hg z) (hm z) OL (F5 (h1 z) (F5 (hb z).h K5 (D4 hs2)) (D4 hs)) (by decide) (by decide) (D4 hs) (by rw[D4 hs2];rfl),λC G σ H env n' R Q hK hT S hp k=>?_⟩;refine h2 C G σ H env n' _ _ hK hT S hp λx jc n1 v H1 p1 S1 r1 f1=>?_;unfold wIsi at p1
 have fin:∀t,TyOf K H1 v (.type t)->tyP x=some t->t∈["NoneType","bool","int","str","tuple","list","dict"]->∃x' n'' t' b',[v,V.ty n]=[x',.ty n'']/\TyOf K H1 x' t'/\CY K t' (.type n'')=some b'/\Q (.bl b') H1:=by
  intro t ty e m;rw[e] at p1;exact⟨v,n,_,_,rfl,ty,Pn m hn,k _ _ _ _ _ p1 S1 rfl f1⟩
 cases x with
 |non=>cases(show v=.non from r1);exact fin _ .non rfl (by decide)
 |bl b=>cases(show v=.bl b from r1);exact fin _ (.bl b) rfl (by decide)
 |int b=>cases(show v=.int b from r1);exact fin _ (.int b) rfl (by decide)
 |str b=>cases(show v=.str b from r1);exact fin _ (.str b) rfl (by decide)
 |tup xs=>obtain⟨a,vs,rfl,t,r⟩:=r1;exact fin _ (.tup t.2) rfl (by decide)
 |lst xs=>obtain⟨a,vs,rfl,t,r⟩:=r1;exact fin _ (.lst t.2) rfl (by decide)
 |dct ks xs=>obtain⟨a,jg,rfl,_,t,r⟩:=r1;exact fin _ (.dK t) rfl (by decide)
 |ty n=>exact p1.elim
 |pot k=>exact p1.elim
 |fdt ks xs=>exact p1.elim
 |scr ns=>exact p1.elim
def wMin:w2:=λx y R=>match x,y with|.int i,.int j=>R (.int (if j<i then j else i))|_,_=>False
theorem ok_cb2 (hw:W2 K (λx y H Q=>r [x,y] H Q) w)(h:EOk K T t pa)(h':EOk K T u pb):EOk K T (tCB r (p6 t (p6 u tNil))) (qOp w pa pb):=λC G σ H env n R Q hK hT S hp k=>by
 refine h C G σ H env n _ _ hK hT S hp λx jc n1 v H1 p1 S1 r1 f1=>?_;refine h' C G σ H1 jc n1 _ _ hK hT S1 p1 λy jd n2 u H2 p2 S2 r2 f2=>?_;exact hw G H2 x y v u _ _ (λp hp=>S2.fresh hp) (.inl (r1.fr f2)) (.inl r2) p2 λz v' H' rz s rv=>k _ _ _ _ _ rz (S2.same s) rv ((f1.trans f2).trans (Fr.of s))
theorem qe_min (hc:∀z,(F z).calm=true)(hg:∀z,Gl (F z) "min")(hm:∀z,(F z).mg "min"=none)(ha:QE T K F a pa)(hb:QE T K F b pb)(hs:F3 a=true)(hs2:F3 b=true):QE T K F (.Call (.Name "min" p) [a,b] [] pos) (qOp wMin pa pb):=by
 obtain⟨t,h1,h2⟩:=ha;obtain⟨u,h3,h4⟩:=hb;refine⟨_,λz=>Bp (NT (hc z)) (hg z) (hm z) bt_min (F5 (h1 z) (F5 (h3 z) K5 (D4 hs2)) (D4 hs)) (by decide) (by decide) (D4 hs) (by rw[D4 hs2];rfl),ok_cb2 (λG H x y v u R Q hf rx ry hw k=>?_) h2 h4⟩;unfold wMin at hw
 split at hw
 ·exact⟨_,_,by rw[rx.int,ry.int],k _ _ _ hw (Same.refl _) rfl⟩
 ·exact hw.elim
def Ck (K:A7)(T:PotK)(f:pF):Sp:=λvs H Q _=>∃(G:Gh) (xs:List PV) (n:Nat) (R:PV->Nat->Prop),(∀p∈G.pots,p∈G.M/\T.at_ G.M H p n)/\(∀a∈G.M,∃o,H a=some o/\MutO o)/\T.has G.pots/\Reps K G H xs vs/\f xs n R/\
 ∀r n' v H',R r n'->Rep K G H' r v->(∀p∈G.pots,T.at_ G.M H' p n')->(∀b o,b∉G.pots->H b=some o->H' b=some o)->Q v H'
def B5 (f:pF)(pa:pA):pE:=λenv n R=>pa env n λxs jc n1=>f xs n1 λr n2=>R r jc n2
theorem SR.call (S:SR C G σ H env n)(hk:∀b o,b∉G.pots->H b=some o->H' b=some o)(hp:∀p∈G.pots,C.T.at_ G.M H' p n'):SR C G σ H' env n' where
 frame b o hb e:=by
  by_cases hp:b∈G.pots
  ·-- a pot that is new since the entry has no old object
   obtain⟨l,el,_⟩:=S.pre;rw[el] at hp;rcases K6.mp hp with z|z
   ·exact absurd z hb
   ·have hM:=(S.pots b (by rw[el];exact hp)).1;rcases S.sub b hM with z2|z2
    ·exact(S.newp b (by rw[el];exact hp) hb z2).elim
    ·rw[z2] at e;cases e
  ·exact hk b o hp (S.frame b o hb e)
 sub:=S.sub
 sup:=S.sup
 pots p h:=⟨(S.pots p h).1,hp p h⟩
 pre:=S.pre
 mu a ha:=by
  by_cases h:a∈G.pots
  ·exact C.T.mu (hp a h)
  ·obtain⟨o,e,m⟩:=S.mu a ha;exact⟨o,hk a o h e,m⟩
 slots i x e:=by
  have f:Fr G H H':=λb o hb he=>hk b o (λz=>hb (S.pots b z).1) he;have:=S.slots i x e;cases x with
  | v x =>
   obtain⟨v,e1,r⟩:=this;exact⟨v,e1,r.fr f⟩
  | ow kk xs =>
   obtain⟨a,vs,e1,h1,h2,h3,h4,r⟩:=this;exact⟨a,vs,e1,h1,h2,h3,hk _ _ h3 h4,r.fr f⟩
 inj:=S.inj
 p0:=S.p0
 len:=S.len
 newp:=S.newp
theorem qe_fn (hG:∀z,Kn (F z).prog (F z).w (F z).K (F z).mg (F z).base x k ps (Ck K T f))(hr:∀z,Room j (F z).A)(hk:k<=j)(hg:∀z,Gl (F z) x)(ha:QA T K F (e::es) pl)(hdb:(x == ("__debug__":Str))=false:=by decide)
   (hs:F3 e=true:=by rfl) (hpl:∀z,(backTo pos (E8 es (F z).env)).any (·.1)=false:=by intro _;rfl):QE T K F (.Call (.Name x p) (e::es) [] pos) (B5 f pl):=by
 obtain⟨t,h1,h2⟩:=ha;refine⟨_,λz=>pe_fn (hG z) (hr z) hk (hg z) (h1 z) hdb (D4 hs) (hpl z),λC G σ H env n R Q hK hT S hp k=>?_⟩;refine h2 C G σ H env n _ _ hK hT S hp λxs jc n1 vs H1 p1 S1 r1 f1=>?_;subst hT;rw[T6];refine⟨G,xs,n1,_,λp hp=>S1.pots p hp,S1.mu,S1.hasG,r1,p1,λr n' v H' rr rv hp hk'=>?_⟩;exact k _ _ _ _ _ rr (S1.call hk' hp) rv (f1.trans λb o hb e=>hk' b o (λz=>hb (S1.pots b z).1) e)
end
abbrev pG:=PV->Env->(Env->Prop)->Prop
abbrev pGs:=List PV->Env->(Env->Prop)->Prop
def GOk (K:A7)(g:TG)(pg:pG):Prop:=∀(C:Ct) (G:Gh) (σ:St) (H:Hp) (env:Env) (n:Nat) (x:PV) (v:V) (R:Env->Prop) (Q:St->Hp->Prop),C.K=K->SR C G σ H env n->Rep K G H x v->pg x env R->
 (∀jh σ',R jh->SR C G σ' H jh n->Q σ' H)->g v σ H Q
def GsOk (K:A7)(g:TGs)(pg:pGs):Prop:=∀(C:Ct) (G:Gh) (σ:St) (H:Hp) (env:Env) (n:Nat) (x:List PV) (v:List V) (R:Env->Prop) (Q:St->Hp->Prop),C.K=K->SR C G σ H env n->Reps K G H x v->pg x env R->
 (∀jh σ',R jh->SR C G σ' H jh n->Q σ' H)->g v σ H Q
inductive QG {ι:Type}(K:A7)(F:ι->Cx)(e:Expr)(pg:pG):Prop
 |mk g (a:(∀z,PG (F z) e g)) (b:GOk K g pg):QG K F e pg
inductive QGs {ι:Type}(K:A7)(F:ι->Cx)(e:List Expr)(pg:pGs):Prop
 |mk g (a:(∀z,PGs (F z) e g)) (b:GsOk K g pg):QGs K F e pg
def gN (i:Nat):pG:=λx env R=>R (env.set i (some (.v x)))
def gNl:pGs:=λxs env R=>match xs with|[]=>R env|_=>False
def gCn (g:pG)(r:pGs):pGs:=λxs env R=>match xs with|x::xs=>g x env λjc=>r xs jc R|[]=>False
def gTp (k:Nat)(g:pGs):pG:=λx env R=>match x with|.tup xs=>xs.length=k/\g xs env R|_=>False
theorem SR.set (S:SR C G σ H env n)(i:Nat)(r:Rep C.K G H x v):SR C G (σ.set i (some v)) H (env.set i (some (.v x))) n where
 frame:=S.frame
 sub:=S.sub
 sup:=S.sup
 pots:=S.pots
 pre:=S.pre
 mu:=S.mu
 slots j s e:=by
  by_cases h:i=j
  ·subst h
   by_cases hl:i<env.length
   ·rw[M5 hl] at e;cases e;exact⟨v,by rw[M5 (by rw[<- S.len];exact hl)],r⟩
   ·rw[O6 (by rw[K3];omega)] at e;cases e
  ·rw[N6 h] at e ⊢;exact S.slots j s e
 inj j k xs ys a e1 e2 e3 e4:=by
  have nj:∀(j:Nat) (xs:OK×List PV),(env.set i (some (.v x)))[j]?=some (some (Slot.ow xs.1 xs.2))->i≠j:=by
   intro j xs e h;subst h
   by_cases hl:i<env.length
   ·rw[M5 hl] at e;cases e
   ·rw[O6 (by rw[K3];omega)] at e;cases e
  have n1:=nj j xs e1;have n2:=nj k ys e2;rw[N6 n1] at e1 e3;rw[N6 n2] at e2 e4;exact S.inj j k xs ys a e1 e2 e3 e4
 p0:=S.p0
 len:=by rw[K3,K3];exact S.len
 newp:=S.newp
section
variable {T:PotK}{ι:Type}{K:A7}{F:ι->Cx}{e a b c:Expr}{es rest:List Expr}{pe pa pb pc:pE}{pos:Pos}{pl pr:pA}{pg:pG}{pgs:pGs}{pt:pT}
theorem Po (i:Nat)(hN:X.N.Nodup)(hi:X.N[i]?=some x)(hx:Loc X.env.scope x)(hf:X.fn x=true\/X.env.scope.names.lookup x=some .local:=by first|exact .inl rfl|exact .inr rfl|assumption):GW X (.Name x pos) (P9 i):=⟨NC hN hi hx hf⟩
theorem Pp (h:∀z,GW (F z) (.Name x pos) (P9 i)):QG K F (.Name x pos) (gN i):=⟨_,λz=>(h z).h,λC G σ H env n x v R Q hK S r hp k=>k _ _ hp (S.set i (hK▸r))⟩
theorem Kv:QGs K F [] gNl:=⟨_,λ_=>Jy,λC G σ H env n x v R Q hK S r hp k=>by
 cases x with
 |nil=>exact⟨r,k _ _ hp S⟩
 |cons _ _=>exact hp.elim⟩
theorem Hq (h1:QG K F e pg)(h2:QGs K F es pgs)(hs:∀z,(O5 (e::es) (F z).env).map (·.2)=assign e (F z).env::(O5 es (F z).env).map (·.2):=by intro _;rfl):QGs K F (e::es) (gCn pg pgs):=by
 obtain⟨g,a1,a2⟩:=h1;obtain⟨gs,b1,b2⟩:=h2;refine⟨_,λz=>GO (a1 z) (b1 z) (hs z),λC G σ H env n x v R Q hK S r hp k=>?_⟩;cases x with
 |nil=>exact hp.elim
 | cons x xs =>
  obtain⟨u,us,rfl,ru,rs⟩:=r;exact⟨u,us,rfl,a2 C G σ H env n x u _ _ hK S ru hp λjh σ' re S'=>b2 C G σ' H jh n xs us _ _ hK S' rs re k⟩
theorem Kw (hc:∀z,(F z).calm=true)(h:QGs K F es pgs)(hn:∀z,(O5 es (F z).env).length=m:=by intro _;rfl)(hst:∀z,(O5 es (F z).env).findIdx? (·.1)=none:=by intro _;rfl)(hK:∀z,(F z).K=K:=by intro _;rfl):QG K F (.Tuple es k pos) (gTp m pgs):=by
 obtain⟨g,a1,a2⟩:=h;refine⟨_,λz=>hK z▸Jz (hc z) (a1 z) (hn z) (hst z),λC G σ H env n x v R Q hK S r hp k=>?_⟩;cases x with
 | tup xs =>
  obtain⟨a,vs,rfl,t,rs⟩:=r;exact⟨a,vs,rfl,t.sq,by rw[<- rs.length];exact hp.1,a2 C G σ H env n xs vs _ _ hK S rs hp.2 k⟩
 |_=>exact hp.elim
def ItR (K:A7)(G:Gh)(H:Hp)(J:It)(xs:List PV):Prop:=∀(G2:Gh) (H2:Hp),(∀b o,b∉G.M->H b=some o->H2 b=some o)->(∀a∈G2.M,a∈G.M\/H a=none)->(∀(k:Nat) (p:A0),G.pots[k]?=some p->G2.pots[k]?=some p)->(∀p,H2 p=none->p∉G2.M)->
 (∀(i:Nat) x,xs[i]?=some x->J.go i H2/\∀v H3,J.yld i H2 v H3->Same H2 H3/\Rep K G2 H3 x v)/\∀i,xs.length<=i->J.stop i H2
def IOk (K:A7)(T:PotK)(wi:TI)(pi:pA):Prop:=∀(C:Ct) (G:Gh) (σ:St) (H:Hp) (env:Env) (n:Nat) (R:List PV->Env->Nat->Prop) (Q:It->Hp->Prop),C.K=K->C.T=T->SR C G σ H env n->pi env n R->
 (∀xs jh n' J H',R xs jh n'->SR C G σ H' jh n'->Fr G H H'->ItR K G H' J xs->Q J H')->wi σ H Q
inductive QI {ι:Type}(T:PotK)(K:A7)(F:ι->Cx)(tg iter:Expr)(pi:pA):Prop
 |mk wi (a:(∀z,PI (F z) tg iter wi)) (b:IOk K T wi pi):QI T K F tg iter pi
variable {tg:Expr}
theorem Pq {a:A0}(t:AtL G.M H a vs)(r:Reps K G H xs vs):ItR K G H (Itl K a) xs:=by
 intro G2 H2 hk hM hp hf;have hq:SqL K H2 a vs:=SqL.of (hk a _ t.1 t.2);have r2:Reps K G2 H2 xs vs:=Reps.mono hk hM hp _ _ r;refine⟨λi x e=>?_,λi hi=>⟨vs,hq,by rw[<- r.length];exact hi⟩⟩;obtain⟨v,ev,rv⟩:=r2.get' e;refine⟨⟨vs,v,hq,ev⟩,λv' H3 y=>?_⟩;obtain⟨e3,y⟩:=y;subst e3;have:=y vs hq;rw[ev] at this;cases this;exact⟨Same.refl _,rv⟩
theorem Pr {a:A0}(t:AtT G.M H a vs)(r:Reps K G H xs vs):ItR K G H (Itt K a) xs:=by
 intro G2 H2 hk hM hp hf;have hq:SqT K H2 a vs:=SqT.of (hk a _ t.1 t.2);have r2:Reps K G2 H2 xs vs:=Reps.mono hk hM hp _ _ r;refine⟨λi x e=>?_,λi hi=>⟨vs,hq,by rw[<- r.length];exact hi⟩⟩;obtain⟨v,ev,rv⟩:=r2.get' e;refine⟨⟨vs,v,hq,ev⟩,λv' H3 y=>?_⟩;obtain⟨e3,y⟩:=y;subst e3;have:=y vs hq;rw[ev] at this;cases this;exact⟨Same.refl _,rv⟩
def qIl (pe:pE):pA:=λenv n R=>pe env n λx jc n1=>match x with|.lst xs=>R xs jc n1|_=>False
def qIt (pe:pE):pA:=λenv n R=>pe env n λx jc n1=>match x with|.tup xs=>R xs jc n1|_=>False
theorem Hr (h:QE T K F e pe)(hK:∀z,(F z).K=K:=by intro _;rfl):QI T K F tg e (qIl pe):=by
 obtain⟨t,h1,h2⟩:=h;refine⟨_,λz=>hK z▸NG (h1 z),λC G σ H env n R Q hK hT S hp k=>?_⟩;refine h2 C G σ H env n _ _ hK hT S hp λx jc n1 v H1 p1 S1 r1 f1=>?_;cases x with
 | lst xs =>
  obtain⟨a,vs,rfl,t,r⟩:=r1;exact⟨a,rfl,⟨vs,t.sq⟩,k _ _ _ _ _ p1 S1 f1 (Pq t r)⟩
 |_=>exact p1.elim
theorem qi_tup (h:QE T K F e pe)(hK:∀z,(F z).K=K):QI T K F tg e (qIt pe):=by
 obtain⟨t,h1,h2⟩:=h;refine⟨_,λz=>hK z▸pi_tup (h1 z),λC G σ H env n R Q hK hT S hp k=>?_⟩;refine h2 C G σ H env n _ _ hK hT S hp λx jc n1 v H1 p1 S1 r1 f1=>?_;cases x with
 | tup xs =>
  obtain⟨a,vs,rfl,t,r⟩:=r1;exact⟨a,rfl,⟨vs,t.sq⟩,k _ _ _ _ _ p1 S1 f1 (Pr t r)⟩
 |_=>exact p1.elim
theorem Ps (lo:Int)(m:Nat):ItR K G H (Itr lo m) ((C7 m).map λ(k:Nat)=>PV.int (lo+k)):=by
 intro G2 H2 hk hM hp hf;refine⟨λi x e=>?_,λi hi=>(show m<=i by simpa using hi)⟩;rw[C6] at e;cases e1:(C7 m)[i]? with
 |none=>rw[e1] at e;cases e
 | some j =>
  rw[e1] at e;cases e;obtain⟨hi,e2⟩:=E1.mp e1;rw[List.getElem_range] at e2;subst e2;refine⟨(show i<m by simpa using hi),λv H3 y=>?_⟩;obtain⟨e3,y⟩:=y;subst e3 y;exact⟨Same.refl _,rfl⟩
def K7 (pe:pE):pA:=λenv n R=>pe env n λx jc n1=>match x with|.int j=>(-1000000<=j/\j<=1000000)/\R ((C7 j.toNat).map λ(k:Nat)=>PV.int (0+k)) jc n1|_=>False
theorem Kx (hg:∀z,Gl (F z) "range")(hm:∀z,(F z).mg "range"=none)(h:QE T K F e pe)(hs:F3 e=true:=by rfl):QI T K F tg (.Call (.Name "range" p) [e] [] pos) (K7 pe):=by
 obtain⟨t,h1,h2⟩:=h;refine⟨_,λz=>NI (hg z) (hm z) (F5 (h1 z) K5 (D4 hs)) (by rw[D4 hs];rfl),λC G σ H env n R Q hK hT S hp k=>?_⟩;refine DG (pe:=pe) (λC G σ H env n R Q hK hT S hp k=>h2 C G σ H env n R Q hK hT S hp λx jh n' v H' r S' rp f=>k x jh n' v H' r S' (.inl (hK▸rp)) f) hK hT S hp λx jc n1 v H1 p1 S1 r1 f1=>?_;cases x with
 |int j=>exact⟨j,by rw[(r1.rd S1).int],by omega,by omega,k _ _ _ _ _ p1.2 S1 f1 (Ps 0 _)⟩
 |_=>exact p1.elim
def Y8 (xs:List PV):List PV:=xs.zipIdx.map λy=>.tup [.int (y.2:Nat),y.1]
def Y9 (pe:pE):pA:=λenv n R=>pe env n λx jc n1=>match x with|.lst xs=>R (Y8 xs) jc n1|_=>False
theorem Fn {xs:List PV}{i:Nat}{x:PV}(h:(Y8 xs)[i]?=some x):∃y,xs[i]?=some y/\x=.tup [.int (i:Nat),y]:=by
 unfold Y8 at h;rw[C6,Eo] at h;cases e:xs[i]? with
 |none=>rw[e] at h;cases h
 | some y =>
  rw[e] at h;cases h;exact⟨y,rfl,by simp⟩
theorem DI (xs:List PV):(Y8 xs).length=xs.length:=by unfold Y8;simp
theorem Pt {p:Pos}{elts:List Expr}{x1:Nat}{tpos:Pos}(hg:∀z,Gl (F z) "enumerate")(hm:∀z,(F z).mg "enumerate"=none)(h:QE T K F e pe)(hs:F3 e=true)(hK:∀z,(F z).K=K):QI T K F (.Tuple elts x1 tpos) (.Call (.Name "enumerate" p) [e] [] pos) (Y9 pe):=by
 obtain⟨t,h1,h2⟩:=h;refine⟨_,λz=>hK z▸OJ (hg z) (hm z) (F5 (h1 z) K5 (D4 hs)) (by rw[D4 hs];rfl),λC G σ H env n R Q hK hT S hp k=>?_⟩;refine h2 C G σ H env n _ _ hK hT S hp λx jc n1 v H1 p1 S1 r1 f1=>?_;cases x with
 | lst xs =>
  obtain⟨a,vs,rfl,t,r⟩:=r1;refine⟨a,rfl,⟨vs,t.sq⟩,k _ _ _ _ _ p1 S1 f1 ?_⟩;intro G2 H2 hk hM hp hf;have hq:SqL K H2 a vs:=SqL.of (hk a _ t.1 t.2);have r2:Reps K G2 H2 xs vs:=Reps.mono hk hM hp _ _ r;refine⟨λi x e=>?_,λi hi=>⟨vs,hq,by rw[<- r.length,<- DI];exact hi⟩⟩;obtain⟨y,ey,rfl⟩:=Fn e;obtain⟨v,ev,rv⟩:=r2.get' ey;refine⟨⟨vs,v,hq,ev⟩,λv' H3 y=>?_⟩;obtain⟨p,w,hn,rfl,rfl,y⟩:=y;have:=y vs hq;rw[ev] at this;cases this;exact⟨Same.lay1 hn,AG (hf p hn) hn (.cons rfl (.one rv))⟩
 |_=>exact p1.elim
def capS:Option (Option Slot)->Option Slot
 |some (some (.v x))=>some (.v x)
 |_=>none
def capV (cs:List (Option Nat))(env:Env):Env:=cs.map λo=>o.bind λj=>capS (env[j]?)
def R6 (g:pG)(tt:pT)(te:pE):List PV->Env->Nat->(List PV->Nat->Prop)->Prop
 |[],_,n,R=>R [] n
 |x::xs,env,n,R=>g x env λjc=>tt jc n λb jd n2=>if b=true then te jd n2 λy je n3=>R6 g tt te xs je n3 λys n4=>R (y::ys) n4 else R6 g tt te xs jd n2 R
def qTru:pT:=λenv n R=>R true env n
def E6 (cs:List (Option Nat))(pi:pA)(g:pG)(tt:pT)(te:pE):pA:=λenv n R=>pi env n λxs jc n1=>xs.length<=1000000/\R6 g tt te xs (capV cs jc) n1 λys n2=>R ys jc n2
structure Inn (K:A7)(T:PotK)(G:Gh)(σ:St)(H:Hp)(env:Env)(n:Nat):Prop where
 pots:∀p∈G.pots,p∈G.M/\T.at_ G.M H p n
 has:T.has G.pots
 mu:∀a∈G.M,∃o,H a=some o/\MutO o
 slots:∀(i:Nat) (s:Slot),env[i]?=some (some s)->∃x v,s=.v x/\σ[i]?=some (some v)/\Rep K G H x v
 len:env.length=σ.length
theorem Inn.sr (I:Inn K T G σ H env n):SR ⟨K,T,G.M,G.pots,H,false⟩ G σ H env n where
 frame b o _ e:=e
 sub a ha:=.inl ha
 sup a ha:=ha
 pots:=I.pots
 pre:=⟨[],by simp,.inl rfl⟩
 mu:=I.mu
 slots i s e:=by
  obtain⟨x,v,rfl,ev,r⟩:=I.slots i s e;exact⟨v,ev,r⟩
 inj i j xs ys a e1:=by
  obtain⟨x,v,z,_⟩:=I.slots i _ e1;cases z
 p0:=⟨λp hp=>(I.pots p hp).1,I.has⟩
 len:=I.len
 newp p hp hn:=absurd hp hn
theorem SR.inn (S:SR ⟨K,T,G.M,G.pots,H0,false⟩ G σ H env n):Inn K T G σ H env n where
 pots:=S.pots
 has:=S.hasG
 mu:=S.mu
 slots i s e:=by
  cases s with
  | v x =>
   obtain⟨v,ev,r⟩:=S.slots i _ e;exact⟨x,v,rfl,ev,r⟩
  | ow kk xs =>
   obtain⟨a,vs,ev,h1,h2,_⟩:=S.slots i _ e;exact absurd h1 h2
 len:=S.len
theorem Pv:TOk K T tTru qTru:=λC G σ H env n R Q hK hT S hp k=>k _ _ _ _ hp S Fr.refl
structure CI (K:A7)(T:PotK)(G:Gh)(H1:Hp)(D:A0)(σ:St)(H:Hp)(env:Env)(n:Nat)(jm:List PV)(us:List V):Prop where
 inn:Inn K T ⟨D::G.M,G.pots⟩ σ H env n
 kp:∀b o,b∉G.pots->H1 b=some o->H b=some o
 eD:H D=some (.lst us)
 ra:Reps K ⟨D::G.M,G.pots⟩ H jm us
theorem CI.start {K:A7}{T:PotK}{G:Gh}{H1:Hp}{D:A0}{σ:St}{env:Env}{n:Nat}(hD:H1 D=none)(I0:Inn K T G σ H1 env n):CI K T G H1 D σ (upd H1 D (.lst [])) env n [] []:=by
 have lay:∀b o,H1 b=some o->upd H1 D (.lst []) b=some o:=λb o e=>Same.lay1 hD b o e;have new:∀a,a∈D::G.M->a∈G.M\/H1 a=none:=λa ha=>(C9.mp ha).elim (λz=>.inr (z▸hD)) .inl;refine⟨⟨λp hp=>⟨B4 _ (I0.pots p hp).1,?_⟩,I0.has,λa ha=>?_,λi s e=>?_,I0.len⟩,λb o _ e=>lay b o e,J0,rfl⟩
 ·have h1:=T.more (M':=D::G.M) (I0.pots p hp).2 new;obtain⟨o,e,_⟩:=T.mu h1;exact T.keep h1 (by rw[e,lay p o e]) λb o _ e=>lay b o e
 ·rcases C9.mp ha with rfl|ha
  ·exact⟨_,J0,trivial⟩
  ·obtain⟨o,e,m⟩:=I0.mu a ha;exact⟨o,lay a o e,m⟩
 ·obtain⟨x,v,rfl,ev,r⟩:=I0.slots i s e;exact⟨x,v,rfl,ev,Rep.mono (G':=⟨D::G.M,G.pots⟩) (λb o _ e=>lay b o e) new (λ_ _ e=>e) _ _ r⟩
theorem CI.go {K:A7}{T:PotK}{G:Gh}{H1:Hp}{D:A0}{σ σ':St}{H H':Hp}{env jh:Env}{n n':Nat}{jm:List PV}{us:List V}(c:CI K T G H1 D σ H env n jm us)(nD:D∉G.pots)(S:SR ⟨K,T,D::G.M,G.pots,H,false⟩ ⟨D::G.M,G.pots⟩ σ' H' jh n'):CI K T G H1 D σ' H' jh n' jm us:=
 ⟨S.inn,λb o hb e=>S.frame b o hb (c.kp b o hb e),S.frame D _ nD c.eD,Reps.mono (λb o hb e=>S.frame b o (λz=>hb (c.inn.pots b z).1) e) (λa ha=>.inl ha) (λ_ _ e=>e) _ _ c.ra⟩
theorem CI.fD {G:Gh}(o:HO):Fr ⟨D::G.M,G.pots⟩ H (upd H D o):=λb u hb e=>by
 rw[D0 (λz=>hb (by rw[z];exact B2))];exact e
theorem CI.add {K:A7}{T:PotK}{G:Gh}{H1:Hp}{D:A0}{σ:St}{H:Hp}{env:Env}{n:Nat}{jm:List PV}{us:List V}{y:PV}{u:V}(c:CI K T G H1 D σ H env n jm us)(nD:D∉G.pots)(hD:H1 D=none)(r:Rep K ⟨D::G.M,G.pots⟩ H y u):CI K T G H1 D σ (upd H D (.lst (us++[u]))) env n (jm++[y]) (us++[u]):=by
 refine⟨⟨λp hp=>⟨(c.inn.pots p hp).1,T.keep (c.inn.pots p hp).2 (D0 λz=>nD (by rw[<- z];exact hp)) (CI.fD _)⟩,c.inn.has,λa ha=>?_,λq s e=>?_,c.inn.len⟩,λb o hb e=>?_,J0,(c.ra.append (.one r)).fr (CI.fD _)⟩
 ·by_cases haD:a=D
  ·subst haD;exact⟨_,J0,trivial⟩
  ·rw[D0 haD];exact c.inn.mu a ha
 ·obtain⟨x,v,rfl,ev,r⟩:=c.inn.slots q s e;exact⟨x,v,rfl,ev,r.fr (CI.fD _)⟩
 ·rw[D0 (λz=>by rw[z,hD] at e;cases e)];exact c.kp b o hb e
theorem CI.it {K:A7}{T:PotK}{G:Gh}{H1:Hp}{D:A0}{σ:St}{H:Hp}{env:Env}{n:Nat}{jm:List PV}{us:List V}{J:It}{xs:List PV}(c:CI K T G H1 D σ H env n jm us)(hD:H1 D=none)(hJ:ItR K G H1 J xs):(∀(i:Nat) x,xs[i]?=some x->J.go i H/\∀v H3,J.yld i H v H3->Same H H3/\Rep K ⟨D::G.M,G.pots⟩ H3 x v)/\∀i,xs.length<=i->J.stop i H:=
 hJ ⟨D::G.M,G.pots⟩ H (fun b o hb e=>by
  by_cases z:b∈G.pots
  ·obtain⟨h1,_⟩:=c.inn.pots b z;rcases C9.mp h1 with rfl|h1
   ·rw[hD] at e;cases e
   ·exact absurd h1 hb
  ·exact c.kp b o z e) (λa ha=>(C9.mp (show a∈D::G.M from ha)).elim (λz=>.inr (z▸hD)) .inl) (λ_ _ e=>e) λp hp=>c.inn.sr.fresh hp
theorem Hs {K:A7}{T:PotK}{J:It}{g:TG}{tt:TT}{te:TE}{pg:pG}{ptt:pT}{pte:pE}(hg:GOk K g pg)(ht:TOk K T tt ptt)(he:EOk K T te pte){G:Gh}{H1:Hp}{xs:List PV}(hJ:ItR K G H1 J xs)(hl:xs.length<=1000000)
   {σc:St} {env:Env} {n:Nat} {R:List PV->Nat->Prop} {Q:VK} {D:A0} (hD:H1 D=none) (I0:Inn K T G σc H1 env n) (hp:R6 pg ptt pte xs env n R)
   (hQ:∀ys n' us H',R ys n'->(∀p∈G.pots,T.at_ (D::G.M) H' p n')->(∀b o,b∉G.pots->H1 b=some o->H' b=some o)->H' D=some (.lst us)->Reps K ⟨D::G.M,G.pots⟩ H' ys us->Q (.ref D) H') :
   CompW J g tt te Q D σc (upd H1 D (.lst [])):=by
 have nD:D∉G.pots:=λz=>I0.sr.fresh hD (I0.pots D z).1;refine⟨λi m σ H=>m=xs.length-i/\i<=xs.length/\∃env n jm us,CI K T G H1 D σ H env n jm us/\jm.length<=i/\R6 pg ptt pte (xs.drop i) env n λys n'=>R (jm++ys) n',⟨xs.length,rfl,D5 _,env,n,[],[],.start hD I0,B3 _,hp⟩,?_⟩;rintro i m σ H ⟨rfl,hi,env,n,jm,us,c,la,hc⟩;obtain⟨hgo,hstop⟩:=c.it hD hJ
 by_cases hlt:i<xs.length
 ·obtain⟨g1,g2⟩:=hgo i _ (C4 hlt);refine .inr ⟨g1,λv H2 y=>?_⟩;obtain⟨s2,rv⟩:=g2 v H2 y;rw[Em hlt] at hc;refine hg _ _ σ H2 env n xs[i] v _ _ rfl (c.inn.sr.same s2) rv hc λjc σ1 hc1 S2=>?_;refine ht _ _ σ1 H2 jc n _ _ rfl rfl S2 hc1 λb jd n2 H4 hc2 S4 f4=>?_;cases b with
  |false=>exact⟨xs.length-(i+1),Da _ _ hlt,rfl,hlt,jd,n2,jm,us,c.go nD S4,Nat.le_succ_of_le la,hc2⟩
  | true =>
   refine he _ _ σ1 H4 jd n2 _ _ rfl rfl S4 hc2 λy je n3 u H5 hc3 S5 r5 f5=>?_;have c5:=c.go nD S5;refine⟨us,c5.eD,by rw[<- c.ra.length];exact mil' (by omega),xs.length-(i+1),Da _ _ hlt,rfl,hlt,je,n3,jm++[y],us++[u],c5.add nD hD r5,by rw[D7,P5];omega,?_⟩;simp only[Z9];exact hc3
 ·obtain rfl:i=xs.length:=Nat.le_antisymm hi (BQ hlt);refine .inl ⟨hstop _ (B3 _),?_⟩;rw[Ey] at hc;have hc':R (jm++[]) n:=hc;rw[T6] at hc';exact hQ _ n us H hc' (λp hp=>(c.inn.pots p hp).2) c.kp c.eD c.ra
end
section
variable {T:PotK}{ι:Type}{K:A7}{F:ι->Cx}{e a b c:Expr}{es rest:List Expr}{pe pa pb pc:pE}{pos:Pos}{pl pr:pA}{pg:pG}{pgs:pGs}{pt:pT}
inductive QIf {ι:Type}(T:PotK)(K:A7)(F:ι->Cx)(jk:List Expr)(pt:pT):Prop
 |mk t (a:(∀z,PIf (F z) jk t)) (b:TOk K T t pt):QIf T K F jk pt
theorem DJ:QIf T K F [] qTru:=⟨_,λ_=>OA,Pv⟩
theorem Pw (h:QT T K F c pt):QIf T K F [c] pt:=let ⟨t,h1,h2⟩:=h;⟨t,λz=>OB (h1 z),h2⟩
theorem DK {C:Ct}{G:Gh}{σ:St}{H:Hp}{env:Env}{n:Nat}(S:SR C G σ H env n)(cs:List (Option Nat)):Inn C.K C.T G (q8 cs σ) H (capV cs env) n where
 pots:=S.pots
 has:=S.hasG
 mu:=S.mu
 len:=by simp[capV,q8]
 slots i s e:=by
  unfold capV at e;rw[C6] at e;cases ec:cs[i]? with
  |none=>rw[ec] at e;cases e
  | some o =>
   rw[ec] at e;cases o with
   |none=>cases e
   | some j =>
    have e':capS (env[j]?)=some s:=by simpa using e
    unfold capS at e'
    split at e'
    ·rename_i x ex;cases e';obtain⟨v,ev,r⟩:=S.slots j _ ex;refine⟨x,v,rfl,?_,r⟩;unfold q8;rw[C6,ec];simp[ev]
    ·cases e'
def cutH (H:Hp)(D:A0):Hp:=λb=>if b=D then none else H b
theorem L6 {H:Hp}{D b:A0}(h:b≠D):cutH H D b=H b:=ju h
theorem DL {H:Hp}{D:A0}{o:HO}(h:H D=some o):upd (cutH H D) D o=H:=by
 funext b
 by_cases hb:b=D
 ·subst hb;rw[J0,h]
 ·rw[D0 hb,L6 hb]
theorem Ht {scope:E3}{cl:ι->List (Str×A0)}{N:List Str}{cs:List (Option Nat)}{ji tg iter:Expr}{jk:List Expr}{pi:pA}{ptt:pT}{pte:pE}(S:∀z,R5 (F z) scope (cl z) N cs)(hc:∀z,(F z).calm=true)(hi:QI T K F tg iter pi)
   (hg:QG K (λy:ι×List A0×A0×A4×Hp=>D1 (F y.1) scope (cl y.1) N y.2.1 y.2.2.1 y.2.2.2.1 y.2.2.2.2) tg pg) (ht:QIf T K (λy:ι×List A0×A0×A4×Hp=>D1 (F y.1) scope (cl y.1) N y.2.1 y.2.2.1 y.2.2.2.1 y.2.2.2.2) jk ptt)
   (he:QE T K (λy:ι×List A0×A0×A4×Hp=>D1 (F y.1) scope (cl y.1) N y.2.1 y.2.2.1 y.2.2.2.1 y.2.2.2.2) ji pte)
   (hs:∀z x,G7 iter (F z).env x=pure x:=by intro _ _;rfl):QN T K F (.ListComp ji [⟨tg,iter,jk,0⟩] scope pos) (E6 cs pi pg ptt pte):=by
 obtain⟨wi,i1,i2⟩:=hi;obtain⟨g,hg0,hg⟩:=hg;obtain⟨tt,ht0,ht⟩:=ht;obtain⟨te,he0,he⟩:=he;refine⟨_,λz=>Ka (S z) (hc z) (i1 z) (λfp C s H=>⟨hg0 (z,fp,C,s,H),ht0 (z,fp,C,s,H),he0 (z,fp,C,s,H)⟩) (hs z),λC G σ H env n R Q hK hT S hp k=>?_⟩;refine i2 C G σ H env n _ _ hK hT S hp λxs jc n1 J H1 p1 S1 f1 hJ=>?_;intro D hD;have hDM:=S1.fresh hD;refine Hs (G:=G) hg ht he hJ p1.1 hD (hT▸hK▸DK S1 cs) p1.2 λys n2 us H' rr hpots hk eD ry=>?_
 -- the heap without D
 have nD:∀b o,H1 b=some o->b≠D:=λb o e z=>by rw[z,hD] at e;cases e
 have hD0:C.H0 D=none:=by
  cases z:C.H0 D with
  |none=>rfl
  | some o =>
   by_cases hp:D∈C.pots0
   ·exact absurd (S1.sup D (S1.p0.1 D hp)) hDM
   ·have:=S1.frame D o hp z;rw[hD] at this;cases this
 have hk2:∀b o,b∉G.pots->H1 b=some o->cutH H' D b=some o:=λb o hb e=>by rw[L6 (nD b o e)];exact hk b o hb e
 have nc:∀b,b∉D::G.M->b≠D:=λb hb z=>hb (by rw[z];exact B2);have np:∀p∈G.pots,p≠D:=λp hp z=>hDM (z▸(S1.pots p hp).1)
 have Sb:SR C G σ (cutH H' D) jc n2:=S1.call hk2 λp hp=>by
  subst hT;have h2:=C.T.keep (hpots p hp) (H':=cutH H' D) (L6 (np p hp)) λb o hb e=>by rw[L6 (nc b hb)];exact e
  exact C.T.more h2 λa ha=>.inl (B4 _ ha)
 have:=k ys jc n2 D us (cutH H' D) rr Sb (f1.trans λb o hb e=>hk2 b o (λz=>hb (S1.pots b z).1) e) (by unfold cutH;rw[jt rfl]) ?_
 ·rw[DL eD] at this;exact this
 ·exact Reps.mono (G:=⟨D::G.M,G.pots⟩) (λb o hb e=>by rw[L6 (nc b hb)];exact e) (λa ha=>.inl (B4 _ ha)) (λ_ _ e=>e) _ _ ry
end
structure Cm where
 nx:Env->Nat->Prop
 rt:PV->Nat->Prop
 bk:Env->Nat->Prop:=λ_ _=>False
 ct:Env->Nat->Prop:=λ_ _=>False
abbrev pS:=Cm->Env->Nat->Prop
structure Ext (G:Gh)(H:Hp)(G':Gh)(H':Hp):Prop where
 keep:∀b o,b∉G.M->H b=some o->H' b=some o
 new:∀a∈G'.M,a∈G.M\/H a=none
 pot:∀(k:Nat) (p:A0),G.pots[k]?=some p->G'.pots[k]?=some p
theorem Ext.refl:Ext G H G H:=⟨λ_ _ _ e=>e,λ_ h=>.inl h,λ_ _ e=>e⟩
theorem Ext.fr (f:Fr G H H'):Ext G H G H':=⟨f,λ_ h=>.inl h,λ_ _ e=>e⟩
theorem Ext.trans (a:Ext G H G1 H1)(b:Ext G1 H1 G2 H2):Ext G H G2 H2 where
 keep c o hc e:=b.keep c o (λz=>(a.new c z).elim hc λz=>by rw[z] at e;cases e) (a.keep c o hc e)
 new c hc:=(b.new c hc).elim (fun z=>a.new c z) fun z=>by
  by_cases hM:c∈G.M
  ·exact .inl hM
  ·refine .inr ?_;cases e:H c with
   |none=>rfl
   |some o=>rw[a.keep c o hM e] at z;cases z
 pot k p e:=b.pot k p (a.pot k p e)
structure Link (C:Ct)(G:Gh)(H:Hp)(PD:Cm)(D:Ends):Prop where
 nx:∀env n G' σ H',PD.nx env n->SR C G' σ H' env n->Ext G H G' H'->D.nx σ H'
 rt:∀x n v G' σ H' env,PD.rt x n->SR C G' σ H' env n->Rep C.K ⟨C.M0,G'.pots⟩ H' x v->Ext G H G' H'->D.rt v H'
 bk:∀env n G' σ H',PD.bk env n->SR C G' σ H' env n->Ext G H G' H'->D.bk σ H'
 ct:∀env n G' σ H',PD.ct env n->SR C G' σ H' env n->Ext G H G' H'->D.ct σ H'
theorem Link.ext (L:Link C G H PD D)(x:Ext G H G' H'):Link C G' H' PD D:=
 ⟨λenv n G2 σ H2 p S e=>L.nx env n G2 σ H2 p S (x.trans e),λy n v G2 σ H2 env p S r e=>L.rt y n v G2 σ H2 env p S r (x.trans e),λenv n G2 σ H2 p S e=>L.bk env n G2 σ H2 p S (x.trans e),λenv n G2 σ H2 p S e=>L.ct env n G2 σ H2 p S (x.trans e)⟩
def SOk (K:A7)(T:PotK)(np:Bool)(t:TS)(ps:pS):Prop:=∀(C:Ct) (G:Gh) (σ:St) (H:Hp) (env:Env) (n:Nat) (PD:Cm) (D:Ends),C.K=K->C.T=T->C.np=np->SR C G σ H env n->ps PD env n->Link C G H PD D->t D σ H
inductive QS {ι:Type}(T:PotK)(np:Bool)(K:A7)(F:ι->Cx)(st:Stmt)(ps:pS):Prop
 |mk t (a:(∀z,PS (F z) st t)) (b:SOk K T np t ps):QS T np K F st ps
inductive QSs {ι:Type}(T:PotK)(np:Bool)(K:A7)(F:ι->Cx)(st:List Stmt)(ps:pS):Prop
 |mk t (a:(∀z,PSs (F z) st t)) (b:SOk K T np t ps):QSs T np K F st ps
theorem SR.out (S:SR C G σ H env n)(r:Rep C.K G H x v):Rep C.K ⟨C.M0,G.pots⟩ H x v:=
 Rep.mono (G':=⟨C.M0,G.pots⟩) (λ_ _ _ e=>e) (λa ha=>.inl (S.sup a ha)) (λ_ _ e=>e) _ _ r
theorem SR.old (S:SR C G σ H env n)(h:H a=none):C.H0 a=none:=by
 cases z:C.H0 a with
 |none=>rfl
 | some o =>
  by_cases hp:a∈C.pots0
  ·exact absurd (S.sup a (S.p0.1 a hp)) (S.fresh h)
  ·have:=S.frame a o hp z;rw[h] at this;cases this
theorem SR.moreO (S:SR C G σ H env n)(mo:MutO ob)(h:H a=none):SR C ⟨a::G.M,G.pots⟩ σ (upd H a ob) env n where
 frame b o hb e:=Same.lay1 h b o (S.frame b o hb e)
 sub b hb:=(C9.mp hb).elim (λz=>.inr (z▸S.old h)) (S.sub b)
 sup b hb:=B4 _ (S.sup b hb)
 pots p hp:=⟨B4 _ (S.pots p hp).1,by
  have h1:=C.T.more (M':=a::G.M) (S.pots p hp).2 (λc hc=>(C9.mp hc).elim (λz=>.inr (z▸h)) .inl);obtain⟨o,e,_⟩:=C.T.mu h1
  exact C.T.keep h1 (by rw[e,Same.lay1 h p o e]) λb o _ e=>Same.lay1 h b o e⟩
 pre:=S.pre
 mu b hb:=by
  rcases C9.mp hb with rfl|hb
  ·exact⟨_,J0,mo⟩
  ·obtain⟨o,e,m⟩:=S.mu b hb;exact⟨o,Same.lay1 h b o e,m⟩
 slots i s e:=by
  have mm:∀{x:PV} {v:V},Rep C.K G H x v->Rep C.K ⟨a::G.M,G.pots⟩ (upd H a ob) x v:=λr=>Rep.mono (G':=⟨a::G.M,G.pots⟩) (H':=upd H a ob) (λb o _ e=>Same.lay1 h b o e) (λc hc=>(C9.mp (show c∈a::G.M from hc)).elim (λz=>.inr (z▸h)) .inl) (λ_ _ e=>e) _ _ r;have:=S.slots i s e;cases s with
  | v x =>
   obtain⟨v,e1,r⟩:=this;exact⟨v,e1,mm r⟩
  | ow kk xs =>
   obtain⟨b,us,e1,h1,h2,h3,h4,r⟩:=this;exact⟨b,us,e1,B4 _ h1,h2,h3,Same.lay1 h _ _ h4,Reps.mono (G':=⟨a::G.M,G.pots⟩) (H':=upd H a ob) (λb o _ e=>Same.lay1 h b o e) (λc hc=>(C9.mp (show c∈a::G.M from hc)).elim (λz=>.inr (z▸h)) .inl) (λ_ _ e=>e) _ _ r⟩
 inj:=S.inj
 p0:=S.p0
 len:=S.len
 newp:=S.newp
theorem SR.more (S:SR C G σ H env n)(h:H a=none):SR C ⟨a::G.M,G.pots⟩ σ (upd H a (.lst vs)) env n:=S.moreO (ob:=.lst vs) trivial h
theorem SR.ow (S:SR C G σ H env n)(i:Nat)(kk:OK)(h:H a=none)(r:Reps C.K G H xs vs) :
   SR C ⟨a::G.M,G.pots⟩ (σ.set i (some (.ref a))) (upd H a (mkO kk vs)) (env.set i (some (.ow kk xs))) n:=by
 have S1:=S.moreO (Ki kk vs) h;have aM:a∉G.M:=S.fresh h;have r1:Reps C.K ⟨a::G.M,G.pots⟩ (upd H a (mkO kk vs)) xs vs:=Reps.mono (G':=⟨a::G.M,G.pots⟩) (H':=upd H a (mkO kk vs)) (λb o _ e=>Same.lay1 h b o e) (λc hc=>(C9.mp (show c∈a::G.M from hc)).elim (λz=>.inr (z▸h)) .inl) (λ_ _ e=>e) _ _ r
 have ja:∀(j:Nat) (ys:OK×List PV),env[j]?=some (some (Slot.ow ys.1 ys.2))->σ[j]?≠some (some (.ref a)):=by
  intro j ys e z;obtain⟨b,us,e1,h1,_⟩:=S.slots j _ e;rw[z] at e1;cases e1;exact aM h1
 exact {
  frame:=S1.frame
  sub:=S1.sub
  sup:=S1.sup
  pots:=S1.pots
  pre:=S1.pre
  mu:=S1.mu
  slots:=λj s e=>by
   by_cases hj:i=j
   ·subst hj
    by_cases hl:i<env.length
    ·rw[M5 hl] at e;cases e;exact⟨a,vs,by rw[M5 (by rw[<- S.len];exact hl)],B2,λz=>aM (S.sup a z),λz=>aM (S.pots a z).1,J0,r1⟩
    ·rw[O6 (by rw[K3];omega)] at e;cases e
   ·rw[N6 hj] at e ⊢;exact S1.slots j s e
  inj:=fun j k xs' ys b e1 e2 e3 e4=>by
   by_cases hj:i=j
   ·by_cases hk:i=k
    ·omega
    ·subst hj;rw[N6 hk] at e2 e4
     by_cases hl:i<σ.length
     ·rw[M5 hl] at e3;cases e3;exact absurd e4 (ja k ys e2)
     ·rw[O6 (by rw[K3];omega)] at e3;cases e3
   ·rw[N6 hj] at e1 e3
    by_cases hk:i=k
    ·subst hk
     by_cases hl:i<σ.length
     ·rw[M5 hl] at e4;cases e4;exact absurd e3 (ja j xs' e1)
     ·rw[O6 (by rw[K3];omega)] at e4;cases e4
    ·rw[N6 hk] at e2 e4;exact S.inj j k xs' ys b e1 e2 e3 e4
  p0:=S.p0
  len:=by rw[K3,K3];exact S.len
  newp:=S.newp }
theorem SR.own (S:SR C G σ H env n)(i:Nat)(h:H a=none)(r:Reps C.K G H xs vs) :
   SR C ⟨a::G.M,G.pots⟩ (σ.set i (some (.ref a))) (upd H a (.lst vs)) (env.set i (some (.ow .lst xs))) n:=S.ow i .lst h r
theorem SR.putO {C:Ct}{G:Gh}{σ:St}{H:Hp}{env:Env}{n:Nat}(S:SR C G σ H env n){i:Nat}{kk:OK}(k':OK){a:A0}{xs ys:List PV}{vs:List V}(e:env[i]?=some (some (.ow kk xs)))(ea:σ[i]?=some (some (.ref a)))(r:Reps C.K G H ys vs) :
   SR C G σ (upd H a (mkO k' vs)) (env.set i (some (.ow k' ys))) n/\Fr G H (upd H a (mkO k' vs)):=by
 obtain⟨a',us,ea',aM,a0,ap,eH,_⟩:=S.slots i _ e;rw[ea] at ea';cases ea';have f:Fr G H (upd H a (mkO k' vs)):=λb o hb he=>by rw[D0 (λz=>hb (by grind))];exact he
 refine⟨{
  frame:=λb o hb he=>?_
  sub:=S.sub
  sup:=S.sup
  pots:=λp hp=>⟨(S.pots p hp).1,C.T.keep (S.pots p hp).2 (D0 λz=>ap (by grind)) f⟩
  pre:=S.pre
  mu:=λb hb=>?_
  slots:=λj s es=>?_
  inj:=λj k xs' ys' b e1 e2 e3 e4=>?_
  p0:=S.p0
  len:=by rw[K3];exact S.len
  newp:=S.newp },f⟩
 ·have hb2:b≠a:=λz=>by
   rcases S.sub a aM with z2|z2
   ·grind
   ·grind
  rw[D0 hb2];exact S.frame b o hb he
 ·by_cases hba:b=a
  ·subst hba;exact⟨_,J0,Ki k' vs⟩
  ·obtain⟨o,he,m⟩:=S.mu b hb;exact⟨o,by rw[D0 hba];exact he,m⟩
 ·by_cases hj:i=j
  ·subst hj;have hl:i<env.length:=(E1.mp e).1;rw[M5 hl] at es;cases es;exact⟨a,vs,ea,aM,a0,ap,J0,r.fr f⟩
  ·rw[N6 hj] at es;have:=S.slots j s es;cases s with
   | v x =>
    obtain⟨v,e1,r⟩:=this;exact⟨v,e1,r.fr f⟩
   | ow kz zs =>
    obtain⟨b,us',e1,h1,h2,h3,h4,r⟩:=this;have hba:b≠a:=λz=>hj (S.inj i j (kk,xs) (kz,zs) a e es ea (by rw[e1,z]));exact⟨b,us',e1,h1,h2,h3,by rw[D0 hba];exact h4,r.fr f⟩
 ·have back:∀(j:Nat) (zs:OK×List PV),(env.set i (some (.ow k' ys)))[j]?=some (some (Slot.ow zs.1 zs.2))->∃zs':OK×List PV,env[j]?=some (some (.ow zs'.1 zs'.2)):=by
   intro j zs h
   by_cases hj:i=j
   ·simp_all
   ·grind
  obtain⟨z1,e1'⟩:=back j xs' e1;obtain⟨z2,e2'⟩:=back k ys' e2;exact S.inj j k z1 z2 b e1' e2' e3 e4
theorem SR.put (S:SR C G σ H env n)(e:env[i]?=some (some (.ow .lst xs)))(ea:σ[i]?=some (some (.ref a)))(r:Reps C.K G H ys vs) :
   SR C G σ (upd H a (.lst vs)) (env.set i (some (.ow .lst ys))) n/\Fr G H (upd H a (.lst vs)):=S.putO .lst e ea r
section
variable {T:PotK}{np:Bool}{ι:Type}{K:A7}{F:ι->Cx}{e a b c:Expr}{es:List Expr}{st:Stmt}{rest:List Stmt}{pe pa pb pc:pE}{pos:Pos}{pl pr:pA}{pg:pG}{pt:pT}{p1 p2:pS}
def qNx:pS:=λD env n=>D.nx env n
def qSeq (p q:pS):pS:=λD env n=>p { D with nx:=λe m=>q D e m } env n
theorem Px:QSs T np K F [] qNx:=⟨_,λ_=>GL,λC G σ H env n PD D hK hT hn S hp L=>L.nx _ _ _ _ _ hp S Ext.refl⟩
theorem Hu (h:QS T np K F st p1):QSs T np K F [st] p1:=let ⟨t,h1,h2⟩:=h;⟨t,λz=>Dt (h1 z),h2⟩
theorem Ky (h:QS T np K F st p1)(h':QSs T np K F rest p2):QSs T np K F (st::rest) (qSeq p1 p2):=by
 obtain⟨t,a1,a2⟩:=h;obtain⟨u,b1,b2⟩:=h';refine⟨_,λz=>e7 (a1 z) (b1 z),λC G σ H env n PD D hK hT hn S hp L=>?_⟩;refine a2 C G σ H env n _ _ hK hT hn S hp ⟨λjc n1 G1 σ1 H1 q1 S1 x1=>?_,L.rt,L.bk,L.ct⟩;exact b2 C G1 σ1 H1 jc n1 PD D hK hT hn S1 q1 (L.ext x1)
theorem sw_set (hN:X.N.Nodup)(hi:X.N[i]?=some x)(hx:Loc X.env.scope x)(hs:k5 e (some (.Name x pos')) pos.line X.env=pure false:=by rfl)(hf:X.fn x=true\/X.env.scope.names.lookup x=some .local:=by first|exact .inl rfl|exact .inr rfl|assumption)(te:TE)(h:EW X e te):SW X (.Assign [.Name x pos'] e pos) (tAsg te (P9 i)):=⟨Bm hN hi hx h.h hs hf⟩
theorem sw_asg (hs:swapsWithSole [tg] e pos.line X.env=pure false:=by rfl)(hw:swappedStores [tg] e X.env=pure none:=by rfl)(h1:(O5 [tg] X.env).map (·.2)=[assign tg X.env]:=by rfl)(te:TE)(g:TG)(h:EW X e te)(hg:GW X tg g):SW X (.Assign [tg] e pos) (tAsg te g):=⟨E_ h.h hg.h hs hw h1⟩
theorem Py (hs:k5 e none pos.line X.env=pure false:=by rfl)(te:TE)(h:EW X e te):SW X (.Expr e pos) (GM te):=⟨NB h.h hs⟩
def qSet (i:Nat)(pe:pE):pS:=λD env n=>pe env n λx jc n1=>D.nx (jc.set i (some (.v x))) n1
theorem Kz (i:Nat)(h:∀z te,EW (F z) e te->SW (F z) st (tAsg te (P9 i)))(he:QE T K F e pe):QS T np K F st (qSet i pe):=by
 obtain⟨t,a1,a2⟩:=he;refine⟨_,λz=>(h z _ ⟨a1 z⟩).h,λC G σ H env n PD D hK hT hn S hp L=>?_⟩;refine a2 C G σ H env n _ _ hK hT S hp λx jc n1 v H1 q1 S1 r1 f1=>?_;exact L.nx _ _ _ _ _ q1 (S1.set i (hK▸r1)) (Ext.fr f1)
def qOwn (i:Nat)(pn:pA):pS:=λD env n=>pn env n λxs jc n1=>D.nx (jc.set i (some (.ow .lst xs))) n1
theorem Fo {a:A0}(h:H a=none):Ext G H ⟨a::G.M,G.pots⟩ (upd H a o):=⟨λb u _ e=>Same.lay1 h b u e,λc hc=>(C9.mp (show c∈a::G.M from hc)).elim (λz=>.inr (z▸h)) .inl,λ_ _ e=>e⟩
theorem qs_own (i:Nat)(h:∀z te,EW (F z) e te->SW (F z) st (tAsg te (P9 i)))(he:QN T K F e pl):QS T np K F st (qOwn i pl):=by
 obtain⟨t,a1,a2⟩:=he;refine⟨_,λz=>(h z _ ⟨a1 z⟩).h,λC G σ H env n PD D hK hT hn S hp L=>?_⟩;refine a2 C G σ H env n _ _ hK hT S hp λxs jc n1 a vs Hb q1 S1 f1 hn1 r1=>?_;exact L.nx _ _ _ _ _ q1 (S1.own i hn1 (hK▸r1)) ((Ext.fr f1).trans (Fo hn1))
def qAsg (pe:pE)(g:pG):pS:=λD env n=>pe env n λx jc n1=>g x jc λjd=>D.nx jd n1
theorem qs_asg (h:∀z te g,EW (F z) e te->GW (F z) tg g->SW (F z) st (tAsg te g))(he:QE T K F e pe)(hg:QG K F tg pg):QS T np K F st (qAsg pe pg):=by
 obtain⟨t,a1,a2⟩:=he;obtain⟨g,b1,b2⟩:=hg;refine⟨_,λz=>(h z _ _ ⟨a1 z⟩ ⟨b1 z⟩).h,λC G σ H env n PD D hK hT hn S hp L=>?_⟩;refine a2 C G σ H env n _ _ hK hT S hp λx jc n1 v H1 q1 S1 r1 f1=>?_;exact b2 C G σ H1 jc n1 x v _ _ hK S1 r1 q1 λjh σ' re S'=>L.nx _ _ _ _ _ re S' (Ext.fr f1)
def K2 (pe:pE):pS:=λD env n=>pe env n λ_ jc n1=>D.nx jc n1
theorem Pz (h:∀z te,EW (F z) e te->SW (F z) st (GM te))(he:QE T K F e pe):QS T np K F st (K2 pe):=by
 obtain⟨t,a1,a2⟩:=he;refine⟨_,λz=>(h z _ ⟨a1 z⟩).h,λC G σ H env n PD D hK hT hn S hp L=>?_⟩;exact a2 C G σ H env n _ _ hK hT S hp λx jc n1 v H1 q1 S1 r1 f1=>L.nx _ _ _ _ _ q1 S1 (Ext.fr f1)
def qRet (pe:pE):pS:=λD env n=>pe env n λx _ n1=>D.rt x n1
theorem Hv (he:QE T K F e pe):QS T np K F (.Return (some e) pos) (qRet pe):=by
 obtain⟨t,a1,a2⟩:=he;refine⟨_,λz=>Du (a1 z),λC G σ H env n PD D hK hT hn S hp L=>?_⟩;exact a2 C G σ H env n _ _ hK hT S hp λx jc n1 v H1 q1 S1 r1 f1=>L.rt _ _ _ _ _ _ _ q1 S1 (S1.out (hK▸r1)) (Ext.fr f1)
def U4 (i:Nat):pS:=λD env n=>match env[i]? with|some (some (.ow .lst xs))=>D.rt (.lst xs) n|_=>False
theorem PB (i:Nat)(h:∀z,EW (F z) (.Name x p) (tVar i)):QS T np K F (.Return (some (.Name x p)) pos) (U4 i):=by
 refine⟨_,λz=>Du (h z).h,λC G σ H env n PD D hK hT hn S hp L=>?_⟩;unfold U4 at hp
 split at hp
 ·rename_i xs ex;obtain⟨a,vs,ev,h1,h2,h3,h4,r⟩:=S.slots i _ ex;refine⟨.ref a,ev,L.rt _ _ _ _ _ _ _ hp S ⟨a,vs,rfl,⟨h2,h4⟩,?_⟩ Ext.refl⟩;exact Reps.mono (G':=⟨C.M0,G.pots⟩) (λ_ _ _ e=>e) (λa ha=>.inl (S.sup a ha)) (λ_ _ e=>e) _ _ r
 ·exact hp.elim
def qIfS (t:pT)(p q:pS):pS:=λD env n=>t env n λb jc n1=>if b=true then p D jc n1 else q D jc n1
theorem qs_if (hc:QT T K F c pt)(h1:QSs T np K F x p1)(h2:QSs T np K F y p2):QS T np K F (.If c x y pos) (qIfS pt p1 p2):=by
 obtain⟨tc,c1,c2⟩:=hc;obtain⟨t,a1,a2⟩:=h1;obtain⟨u,b1,b2⟩:=h2;refine⟨_,λz=>GN (c1 z) (a1 z) (b1 z),λC G σ H env n PD D hK hT hn S hp L=>?_⟩;refine c2 C G σ H env n _ _ hK hT S hp λd jc n1 H1 q1 S1 f1=>?_;cases d with
 |true=>exact a2 C G σ H1 jc n1 PD D hK hT hn S1 q1 (L.ext (Ext.fr f1))
 |false=>exact b2 C G σ H1 jc n1 PD D hK hT hn S1 q1 (L.ext (Ext.fr f1))
def forL (g:pG)(b:pS)(D:Cm):List PV->Env->Nat->Prop
 |[],env,n=>D.nx env n
 |x::xs,env,n=>g x env λjc=>b { D with nx:=λe m=>forL g b D xs e m,ct:=λe m=>forL g b D xs e m,bk:=D.nx } jc n
def qFor (pi:pA)(g:pG)(b:pS):pS:=λD env n=>pi env n λxs jc n1=>forL g b D xs jc n1
theorem qs_for (hc:∀z,(F z).calm=true)(hi:QI T K F tg iter pl)(hg:QG K F tg pg)(hb:QSs T np K F body p1)(hp:∀z,PassesOwn (A6 (F z).prog (F z).w) (F z).A (F z).env (F z).xe)(hs:∀z x,G7 iter (F z).env x=pure x):QS T np K F (.For tg iter body [] pos) (qFor pl pg p1):=by
 obtain⟨wi,i1,i2⟩:=hi;obtain⟨g,g1,g2⟩:=hg;obtain⟨t,b1,b2⟩:=hb;refine⟨_,λz=>ps_for (hp z) (hc z) (i1 z) (g1 z) (b1 z) (hs z),λC G σ H env n PD D hK hT hn S hp L=>?_⟩;refine i2 C G σ H env n _ _ hK hT S hp λxs jc n1 J H1 q1 S1 f1 hJ=>?_;have L1:=L.ext (Ext.fr f1);refine⟨λi m σ H=>m=xs.length-i/\i<=xs.length/\∃G' env n,SR C G' σ H env n/\Ext G H1 G' H/\forL pg p1 PD (xs.drop i) env n,⟨xs.length,by simp,D5 _,G,jc,n1,S1,Ext.refl,by simpa using q1⟩,?_⟩;rintro i m σ' H' ⟨rfl,hi,G',jh,n',S',x',q'⟩;have hf:∀p,H' p=none->p∉G'.M:=λp hp=>S'.fresh hp;obtain⟨hgo,hstop⟩:=hJ G' H' x'.keep x'.new x'.pot hf
 by_cases hlt:i<xs.length
 ·obtain⟨go1,go2⟩:=hgo i _ (C4 hlt);rw[Em hlt] at q';refine .inr ⟨go1,λσ H=>∃G' env n,SR C G' σ H env n/\Ext G H1 G' H/\forL pg p1 PD (xs.drop (i+1)) env n,λσ2 H2 h2=>⟨xs.length-(i+1),by omega,rfl,hlt,h2⟩,λv H2 y=>?_⟩;obtain⟨s2,rv⟩:=go2 v H2 y;have x2:Ext G' H' G' H2:=Ext.fr (Fr.of s2);refine g2 C G' σ' H2 jh n' _ v _ _ hK (S'.same s2) rv q' λjd σ2 q2 S2=>?_;refine b2 C G' σ2 H2 jd n' _ _ hK hT hn S2 q2 ⟨λe3 n3 G3 σ3 H3 q3 S3 x3=>?_,λy n3 v G3 σ3 H3 e3 q3 S3 r3 x3=>?_,λe3 n3 G3 σ3 H3 q3 S3 x3=>?_,λe3 n3 G3 σ3 H3 q3 S3 x3=>?_⟩
  ·exact⟨G3,e3,n3,S3,(x'.trans x2).trans x3,q3⟩
  ·exact L1.rt _ _ _ _ _ _ _ q3 S3 r3 ((x'.trans x2).trans x3)
  ·exact L1.nx _ _ _ _ _ q3 S3 ((x'.trans x2).trans x3)
  ·exact⟨G3,e3,n3,S3,(x'.trans x2).trans x3,q3⟩
 ·have ei:i=xs.length:=by omega
  subst ei;rw[Ey] at q';exact .inl ⟨hstop _ (B3 _),L1.nx _ _ _ _ _ q' S' x'⟩
def h9 (i:Nat)(pe:pE):pE:=λenv n R=>pe env n λy jc n1=>match jc[i]? with|some (some (.ow .lst xs))=>xs.length<1000000/\R .non (jc.set i (some (.ow .lst (xs++[y])))) n1|_=>False
theorem PC (i:Nat)(hv:∀z,EW (F z) (.Name x p) (tVar i))(he:QE T K F e pe)(hs:F3 e=true)(hbase:∀z,AV (.Name x p) "append" (F z).env (eval (.Name x p) (F z).env)=eval (.Name x p) (F z).env)(hline:(ap.endLine == pos.line)=true)
   (hfew:∀z,((backTo pos (E8 [e] (F z).env)).all (λx=>!x.1)&&(backToKw pos (BH [] (F z).env)).all (λx=>x.1.isSome)&&decide (([e]:List Expr).length+([]:List Z7).length+(if([]:List Z7).isEmpty then 0 else 1)<30))=true) (hK:∀z,(F z).K=K):QE T K F (.Call (.Attribute (.Name x p) "append" ap) [e] [] pos) (λenv n R=>(∃xs,env[i]?=some (some (.ow .lst xs)))/\h9 i pe env n R):=by
 obtain⟨t,a1,a2⟩:=he;refine⟨tBM K "list" JX (tVar i) (p6 t tNil),λz=>hK z▸Fd GG PySem.F.slot_list_append PySem.F.type_list_append JY (hv z).h (F5 (a1 z) K5 (D4 hs)) (hbase z) (hfew z) hline (D4 hs),λC G σ H env n R Q hK hT S hp k=>?_⟩;obtain⟨⟨xs0,e0⟩,hp⟩:=hp;obtain⟨a,vs,ev,h1,h2,h3,h4,r⟩:=S.slots i _ e0;refine⟨.ref a,ev,.inl ⟨rfl,vs,SqL.of h4⟩,?_⟩;refine a2 C G σ H env n _ _ hK hT S hp λy jc n1 v H1 q1 S1 r1 f1=>?_
 split at q1
 ·rename_i xs ex;obtain⟨a',us,ev',g1,g2,g3,g4,r'⟩:=S1.slots i _ ex;rw[ev] at ev';cases ev';subst hK;obtain⟨S2,f2⟩:=S1.put ex ev (r'.append (.one r1));exact⟨a,us,v,rfl,rfl,g4,by rw[<- r'.length];exact mil' (by omega),k _ _ _ _ _ q1.2 S2 rfl (f1.trans f2)⟩
 ·exact q1.elim
def qPop (i:Nat):pE:=λenv n R=>match env[i]? with|some (some (.ow .lst xs))=>(match xs[xs.length-1]? with|some y=>R y (env.set i (some (.ow .lst xs.dropLast))) n|none=>False)|_=>False
theorem PF (r:Reps K G H xs vs):Reps K G H xs.dropLast vs.dropLast:=by
 rw[List.dropLast_eq_take,List.dropLast_eq_take,<- r.length];exact r.take _
theorem qe_pop (i:Nat)(hv:∀z,EW (F z) (.Name x p) (tVar i))(hbase:∀z,AV (.Name x p) "pop" (F z).env (eval (.Name x p) (F z).env)=eval (.Name x p) (F z).env)(hline:(ap.endLine == pos.line)=true)(hK:∀z,(F z).K=K):QE T K F (.Call (.Attribute (.Name x p) "pop" ap) [] [] pos) (qPop i):=by
 refine⟨tBM0 K "list" rPop (tVar i),λz=>hK z▸pe_bm0 GG PySem.F.slot_list_pop PySem.F.type_list_pop mt_pop (hv z).h (hbase z) hline,λC G σ H env n R Q hK hT S hp k=>?_⟩;unfold qPop at hp
 split at hp
 ·rename_i xs ex
  split at hp
  ·rename_i y ey;obtain⟨a,vs,ev,h1,h2,h3,h4,r⟩:=S.slots i _ ex;obtain⟨v,e1,rv⟩:=r.get' ey;obtain⟨S2,f2⟩:=S.put ex ev (PF r);subst hK;exact⟨.ref a,ev,.inl ⟨rfl,vs,SqL.of h4⟩,a,vs,v,rfl,rfl,h4,by rw[<- r.length];exact e1,k _ _ _ _ _ hp S2 (rv.fr f2) f2⟩
  ·exact hp.elim
 ·exact hp.elim
end
abbrev pSl:=Env->Nat->(Slot->Env->Nat->Prop)->Prop
def DM (σ:St)(env:Env)(a:A0):Prop:=∃(j:Nat) (ys:OK×List PV),env[j]?=some (some (.ow ys.1 ys.2))/\σ[j]?=some (some (.ref a))
theorem SR.slot (S:SR C G σ H env n)(i:Nat)(r:Ha C G H (some (some v)) s)(h:∀(xs:OK×List PV) a,s=.ow xs.1 xs.2->v=.ref a->¬DM σ env a):SR C G (σ.set i (some v)) H (env.set i (some s)) n where
 frame:=S.frame
 sub:=S.sub
 sup:=S.sup
 pots:=S.pots
 pre:=S.pre
 mu:=S.mu
 slots j t e:=by
  by_cases hj:i=j
  ·subst hj
   by_cases hl:i<env.length
   ·rw[M5 hl] at e;cases e;rw[M5 (by rw[<- S.len];exact hl)];exact r
   ·rw[O6 (by rw[K3];omega)] at e;cases e
  ·rw[N6 hj] at e ⊢;exact S.slots j t e
 inj j k xs ys b e1 e2 e3 e4:=by
  by_cases hj:i=j
  ·by_cases hk:i=k
   ·omega
   ·subst hj;rw[N6 hk] at e2 e4
    by_cases hl:i<env.length
    ·rw[M5 hl] at e1;rw[M5 (by rw[<- S.len];exact hl)] at e3;cases e1;cases e3;exact absurd ⟨k,ys,e2,e4⟩ (h xs b rfl rfl)
    ·rw[O6 (by rw[K3];omega)] at e1;cases e1
  ·rw[N6 hj] at e1 e3
   by_cases hk:i=k
   ·subst hk
    by_cases hl:i<env.length
    ·rw[M5 hl] at e2;rw[M5 (by rw[<- S.len];exact hl)] at e4;cases e2;cases e4;exact absurd ⟨j,xs,e1,e3⟩ (h ys b rfl rfl)
    ·rw[O6 (by rw[K3];omega)] at e2;cases e2
   ·rw[N6 hk] at e2 e4;exact S.inj j k xs ys b e1 e2 e3 e4
 p0:=S.p0
 len:=by rw[K3,K3];exact S.len
 newp:=S.newp
def Ct.guard (C:Ct)(a:A0)(vs:List V):Ct:={ C with M0:=a::C.M0,H0:=upd C.H0 a (.lst vs) }
theorem SR.guard (S:SR C G σ H env n)(vs:List V)(h:H a=none):SR (C.guard a vs) ⟨a::G.M,G.pots⟩ σ (upd H a (.lst vs)) env n:=by
 have S1:=S.more (vs:=vs) h;have aM:=S.fresh h
 exact {
  frame:=λb o hb e=>by
   by_cases hba:b=a
   ·subst hba;have e':upd C.H0 b (.lst vs) b=some o:=e;rw[J0] at e' ⊢;exact e'
   ·have e':upd C.H0 a (.lst vs) b=some o:=e;rw[D0 hba] at e';exact S1.frame b o hb e'
  sub:=fun b hb=>by
   by_cases hba:b=a
   ·exact .inl (by rw[hba];exact B2)
   ·rcases S1.sub b hb with z|z
    ·exact .inl (B4 _ z)
    ·refine .inr ?_;show upd C.H0 a (.lst vs) b=none;rw[D0 hba];exact z
  sup:=λb hb=>by
   rcases C9.mp (show b∈a::C.M0 from hb) with rfl|z
   ·exact B2
   ·exact S1.sup b z
  pots:=S1.pots
  pre:=S1.pre
  mu:=S1.mu
  slots:=λi s e=>by
   cases s with
   | v x =>
    obtain⟨v,ev,r⟩:=S1.slots i _ e;exact⟨v,ev,r⟩
   | ow kk xs =>
    obtain⟨b,us,ev,h1,h2,h3,h4,r⟩:=S1.slots i _ e;obtain⟨b',us',ev',g1,_⟩:=S.slots i _ e;rw[ev] at ev';cases ev';refine⟨b,us,ev,h1,λz=>?_,h3,h4,r⟩;rcases C9.mp (show b∈a::C.M0 from z) with rfl|z
    ·exact aM g1
    ·exact h2 z
  inj:=S1.inj
  p0:=⟨λp hp=>B4 _ (S1.p0.1 p hp),S1.p0.2⟩
  len:=S1.len
  newp:=λp hp hn hM=>by
   rcases C9.mp (show p∈a::C.M0 from hM) with rfl|z
   ·exact aM (S.pots p hp).1
   ·exact S1.newp p hp hn z }
theorem SR.unguard (S:SR (C.guard a vs) G σ H env n)(ha:a∉C.M0)(hp0:∀p∈C.pots0,p∈C.M0)(h0:C.H0 a=none):SR C G σ H env n/\H a=some (.lst vs)/\¬DM σ env a:=by
 have hap:a∉C.pots0:=λz=>ha (hp0 a z)
 refine⟨{
  frame:=λb o hb e=>S.frame b o hb (by
   show upd C.H0 a (.lst vs) b=some o
   rw[D0 (λz=>by rw[z,h0] at e;cases e)];exact e)
  sub:=fun b hb=>by
   by_cases hba:b=a
   ·exact .inr (hba▸h0)
   ·rcases S.sub b hb with z|z
    ·rcases C9.mp (show b∈a::C.M0 from z) with z|z
     ·exact absurd z hba
     ·exact .inl z
    ·have z':upd C.H0 a (.lst vs) b=none:=z;rw[D0 hba] at z';exact .inr z'
  sup:=λb hb=>S.sup b (B4 _ hb)
  pots:=S.pots
  pre:=S.pre
  mu:=S.mu
  slots:=λi s e=>by
   cases s with
   | v x =>
    obtain⟨v,ev,r⟩:=S.slots i _ e;exact⟨v,ev,r⟩
   | ow kk xs =>
    obtain⟨b,us,ev,h1,h2,h3,h4,r⟩:=S.slots i _ e;exact⟨b,us,ev,h1,λz=>h2 (B4 _ z),h3,h4,r⟩
  inj:=S.inj
  p0:=⟨hp0,S.p0.2⟩
  len:=S.len
  newp:=λp hp hn hM=>S.newp p hp hn (B4 _ hM) },S.frame a _ hap J0,?_⟩
 rintro⟨j,ys,e1,e2⟩;obtain⟨b,us,ev,h1,h2,_⟩:=S.slots j _ e1;rw[e2] at ev;cases ev;exact h2 B2
def LOk (K:A7)(T:PotK)(t:TE)(pl:pSl):Prop:=∀(C:Ct) (G:Gh) (σ:St) (H:Hp) (env:Env) (n:Nat) (R:Slot->Env->Nat->Prop) (Q:VK),C.K=K->C.T=T->SR C G σ H env n->pl env n R->
 (∀x jh n' v H',R (.v x) jh n'->SR C G σ H' jh n'->Rep K G H' x v->Fr G H H'->Q v H')->
 (∀xs jh n' a vs Hb,R (.ow .lst xs) jh n'->SR C G σ Hb jh n'->Fr G H Hb->Hb a=none->Reps K G Hb xs vs->Q (.ref a) (upd Hb a (.lst vs)))->t σ H Q
inductive QL {ι:Type}(T:PotK)(K:A7)(F:ι->Cx)(e:Expr)(pl:pSl):Prop
 |mk t (a:(∀z,PE (F z) e t)) (b:LOk K T t pl):QL T K F e pl
def sV (pe:pE):pSl:=λenv n R=>pe env n λx jc n1=>R (.v x) jc n1
def sO (pn:pA):pSl:=λenv n R=>pn env n λxs jc n1=>R (.ow .lst xs) jc n1
section
variable {T:PotK}{np:Bool}{ι:Type}{K:A7}{F:ι->Cx}{e a b c:Expr}{es:List Expr}{st:Stmt}{rest:List Stmt}{pe pa pb pc:pE}{pos:Pos}{pl pr:pA}{pg:pG}{pt:pT}{p1 p2:pS}{s1 s2 s3:pSl}
theorem ql_v (h:QE T K F e pe):QL T K F e (sV pe):=let ⟨t,h1,h2⟩:=h;⟨t,h1,λC G σ H env n R Q hK hT S hp k _=>h2 C G σ H env n _ _ hK hT S hp λx jh n' v H' r S' rp f=>k x jh n' v H' r S' rp f⟩
theorem ql_o (h:QN T K F e pl):QL T K F e (sO pl):=let ⟨t,h1,h2⟩:=h;⟨t,h1,λC G σ H env n R Q hK hT S hp _ k=>h2 C G σ H env n _ _ hK hT S hp λxs jh n' a vs Hb r S' f hn rs=>k xs jh n' a vs Hb r S' f hn rs⟩
def Got (C:Ct)(G:Gh)(H:Hp)(σ:St)(env:Env)(s:Slot)(v:V):Prop:=Ha C G H (some (some v)) s/\∀(xs:OK×List PV) a,s=.ow xs.1 xs.2->v=.ref a->¬DM σ env a
theorem KA (h:LOk K T t s1)(hK:C.K=K)(hT:C.T=T)(S:SR C G σ H env n)(hp:s1 env n R)
   (k:∀s jh n' v G' H',R s jh n'->SR C G' σ H' jh n'->Ext G H G' H'->Got C G' H' σ jh s v->Q v H'):t σ H Q:=by
 refine h C G σ H env n _ _ hK hT S hp (λx jh n' v H' r S' rp f=>?_) λxs jh n' a vs Hb r S' f hn rs=>?_
 ·exact k _ _ _ _ _ _ r S' (Ext.fr f) ⟨⟨v,rfl,hK▸rp⟩,λ_ _ z=>nomatch z⟩
 ·have aM:=S'.fresh hn;have S1:=S'.more (vs:=vs) hn;refine k _ _ _ _ _ _ r S1 ((Ext.fr f).trans (Fo hn)) ⟨⟨a,vs,rfl,B2,λz=>aM (S'.sup a z),λz=>aM (S'.pots a z).1,J0,?_⟩,λys b e1 e2=>?_⟩
  ·exact Reps.mono (G':=⟨a::G.M,G.pots⟩) (H':=upd Hb a (.lst vs)) (λb o _ e=>Same.lay1 hn b o e) (λc hc=>(C9.mp (show c∈a::G.M from hc)).elim (λz=>.inr (z▸hn)) .inl) (λ_ _ e=>e) _ _ (hK▸rs)
  ·cases e2;rintro⟨j,zs,z1,z2⟩;obtain⟨b,us,ev,g1,_⟩:=S'.slots j _ z1;rw[z2] at ev;cases ev;exact aM g1
theorem PH {R:Slot->Slot->Env->Nat->Prop}{Q:V->V->Hp->Prop}(h:LOk K T t s1)(h':LOk K T u s2)(hK:C.K=K)(hT:C.T=T)(S:SR C G σ H env n)(hp:s1 env n λx jc n1=>s2 jc n1 λy jd n2=>R x y jd n2)
   (k:∀x y jh n' v w G' H',R x y jh n'->SR C G' σ H' jh n'->Ext G H G' H'->Got C G' H' σ jh x v->Got C G' H' σ jh y w->(∀(xs ys:OK×List PV) a,x=.ow xs.1 xs.2->y=.ow ys.1 ys.2->v=.ref a->w≠.ref a)->Q v w H'):t σ H λv H1=>u σ H1 λw H2=>Q v w H2:=by
 refine h C G σ H env n _ _ hK hT S hp (λx jc n1 v H1 q1 S1 r1 f1=>?_) λxs jc n1 a vs Hb q1 S1 f1 hn rs=>?_
 ·refine KA h' hK hT S1 q1 λy jd n2 w G2 H2 q2 S2 x2 g2=>?_;exact k _ _ _ _ _ _ _ _ q2 S2 ((Ext.fr f1).trans x2) ⟨⟨v,rfl,Rep.mono x2.keep x2.new x2.pot _ _ (hK▸r1)⟩,λ_ _ z=>nomatch z⟩ g2 (λ_ _ _ z=>nomatch z)
 ·have aM:=S1.fresh hn;have PJ:=S1.guard vs hn;have a0:a∉C.M0:=λz=>aM (S1.sup a z);have aH:=S1.old hn;have x1:Ext G H ⟨a::G.M,G.pots⟩ (upd Hb a (.lst vs)):=(Ext.fr f1).trans (Fo hn);have r1:Reps C.K ⟨a::G.M,G.pots⟩ (upd Hb a (.lst vs)) xs vs:=Reps.mono (G':=⟨a::G.M,G.pots⟩) (H':=upd Hb a (.lst vs)) (λb o _ e=>Same.lay1 hn b o e) (λc hc=>(C9.mp (show c∈a::G.M from hc)).elim (λz=>.inr (z▸hn)) .inl) (λ_ _ e=>e) _ _ (hK▸rs);refine KA (C:=C.guard a vs) h' hK hT PJ q1 λy jd n2 w G2 H2 q2 S2 x2 g2=>?_;obtain⟨S3,e3,no⟩:=S2.unguard a0 S1.p0.1 aH;have aM2:a∈G2.M:=S2.sup a B2
  have ap2:a∉G2.pots:=λz=>by
   by_cases hz:a∈C.pots0
   ·exact a0 (S1.p0.1 a hz)
   ·exact S2.newp a z hz B2
  have gy:Got C G2 H2 σ jd y w:=by
   refine⟨?_,g2.2⟩;cases y with
   |v x=>exact g2.1
   | ow kk ys =>
    obtain⟨b,us,ev,h1,h2,h3,h4,r⟩:=g2.1;exact⟨b,us,ev,h1,λz=>h2 (B4 _ z),h3,h4,r⟩
  refine k _ _ _ _ _ _ _ _ q2 S3 (x1.trans x2) ⟨⟨a,vs,rfl,aM2,a0,ap2,e3,Reps.mono x2.keep x2.new x2.pot _ _ r1⟩,λ_ _ _ e=>by cases e;exact no⟩ gy λxs' ys b ex ey ev ew=>?_;subst ey;cases ev;obtain⟨b,us,ev,h1,h2,_⟩:=g2.1;rw[ew] at ev;cases ev;exact h2 B2
structure AW (X:Cx)(es:List Expr)(t:TA):Prop where
 h:PA X es t
theorem KB {X:Cx}{i j:Nat}{x y:Str}{a b:Expr}{px py pt:Pos}{kt k2 pt2}{pos:Pos}(hc:X.calm=true)(hN:X.N.Nodup)(hi:X.N[i]?=some x)(hj:X.N[j]?=some y)(hij:i≠j)
   (hx:X.env.scope.names.lookup x=some .local) (hy:X.env.scope.names.lookup y=some .local) (hw:swappedStores [.Tuple [.Name x px,.Name y py] kt pt] (.Tuple [a,b] k2 pt2) X.env=pure (some [x,y]))
   (hs:swapsWithSole [.Tuple [.Name x px,.Name y py] kt pt] (.Tuple [a,b] k2 pt2) pos.line X.env=pure false:=by rfl) (ta:TA) (h:AW X [a,b] ta) :
   SW X (.Assign [.Tuple [.Name x px,.Name y py] kt pt] (.Tuple [a,b] k2 pt2) pos) (tPar i j ta):=⟨ps_par hc hN hi hj hij hx hy h.h hw hs⟩
def qPar (i j:Nat)(s1 s2:pSl):pS:=λD env n=>s1 env n λa jc n1=>s2 jc n1 λb jd n2=>D.nx ((jd.set i (some a)).set j (some b)) n2
theorem KC {a:A0}(hl:env.length=σ.length)(h:DM (σ.set i (some v)) (env.set i (some s)) a):DM σ env a\/((∃xs:OK×List PV,s=.ow xs.1 xs.2)/\v=.ref a):=by
 obtain⟨j,ys,e1,e2⟩:=h
 by_cases hj:i=j
 ·subst hj
  by_cases hl':i<env.length
  ·rw[M5 hl'] at e1;rw[M5 (by omega)] at e2;cases e1;cases e2;exact .inr ⟨⟨_,rfl⟩,rfl⟩
  ·rw[O6 (by rw[K3];omega)] at e1;cases e1
 ·rw[N6 hj] at e1 e2;exact .inl ⟨j,ys,e1,e2⟩
theorem qs_par (i j:Nat)(h:∀z ta,AW (F z) [a,b] ta->SW (F z) st (tPar i j ta))(h1:QL T K F a s1)(h2:QL T K F b s2)(n1:F3 a=true)(n2:F3 b=true):QS T np K F st (qPar i j s1 s2):=by
 obtain⟨t,a1,a2⟩:=h1;obtain⟨u,b1,b2⟩:=h2;refine⟨_,λz=>(h z _ ⟨F5 (a1 z) (F5 (b1 z) K5 (D4 n2)) (D4 n1)⟩).h,λC G σ H env n PD D hK hT hn S hp L=>?_⟩;refine PH (Q:=λv w H2=>∃v' w',[v,w]=[v',w']/\D.nx ((σ.set i (some v')).set j (some w')) H2) a2 b2 hK hT S hp λx y jd n2 v w G2 H2 q S2 x2 gx gy ne=>?_;refine⟨v,w,rfl,L.nx _ _ _ _ _ q ((S2.slot i gx.1 gx.2).slot j gy.1 λys b e1 e2 z=>?_) x2⟩;rcases KC S2.len z with z|⟨⟨xs,ex⟩,ev⟩
 ·exact gy.2 ys b e1 e2 z
 ·exact ne xs ys b ex e1 ev e2
theorem Hw (ho:EW X o (tVar i))(ha:∀v,assign (.Subscript o ix pos) X.env v=(do
     let ov ← U7 [v] (eval o X.env)
     let iv ← U7 [v,ov] (eval ix X.env)
     k6 pos
     U7 [v,ov,iv] (setItem ov iv v)
     release [v,ov,iv] []):=by intro _;rfl) (ti:TE) (hi:EW X ix ti):GW X (.Subscript o ix pos) (gSub (tVar i) ti Dx):=⟨EZ ho.h hi.h Fc ha⟩
def gAt (i:Nat)(pe:pE):PV->Env->Nat->(Env->Nat->Prop)->Prop:=λx env n R=>pe env n λy jc n1=>match jc[i]?,y with|some (some (.ow .lst xs)),.int d=>(match ixN xs.length d with|some j=>R (jc.set i (some (.ow .lst (xs.set j x)))) n1|none=>False)|_,_=>False
def qPut (i:Nat)(pv:pE)(pe:pE):pS:=λD env n=>pv env n λx jc n1=>(∃xs,jc[i]?=some (some (.ow .lst xs)))/\gAt i pe x jc n1 D.nx
theorem qs_put (i:Nat){pv:pE}(h:∀z te g,EW (F z) v te->GW (F z) (.Subscript o ix pos) g->SW (F z) st (tAsg te g))(hv:QE T K F v pv)(hg:∀z ti,EW (F z) ix ti->GW (F z) (.Subscript o ix pos) (gSub (tVar i) ti Dx))(he:QE T K F ix pe):QS T np K F st (qPut i pv pe):=by
 obtain⟨tv,v1,v2⟩:=hv;obtain⟨ti,i1,i2⟩:=he;refine⟨_,λz=>(h z _ _ ⟨v1 z⟩ (hg z _ ⟨i1 z⟩)).h,λC G σ H env n PD D hK hT hn S hp L=>?_⟩;refine v2 C G σ H env n _ _ hK hT S hp λx jc n1 v H1 q1 S1 r1 f1=>?_;obtain⟨⟨xs0,e0⟩,q1⟩:=q1;obtain⟨a,vs,ev,h1,h2,h3,h4,r⟩:=S1.slots i _ e0;refine⟨.ref a,ev,?_⟩;refine i2 C G σ H1 jc n1 _ _ hK hT S1 q1 λy jd n2 w H2 q2 S2 r2 f2=>?_
 split at q2
 ·rename_i xs d ex
  split at q2
  ·rename_i j ej;obtain⟨a',us,ev',g1,g2,g3,g4,r'⟩:=S2.slots i _ ex;rw[ev] at ev';cases ev';subst hK;obtain⟨S3,f3⟩:=S2.put ex ev (r'.set j (r1.fr f2));exact⟨a,us,d,j,rfl,r2,g4,by rw[<- r'.length];exact ej,L.nx _ _ _ _ _ q2 S3 (Ext.fr ((f1.trans f2).trans f3))⟩
  ·exact q2.elim
 ·exact q2.elim
def V9 (i:Nat)(env:Env):Env:=match env[i]? with|some (some (.ow .lst xs))=>env.set i (some (.v (.lst xs)))|_=>env
theorem SR.freeze (S:SR C G σ H env n)(i:Nat):∃G',SR C G' σ H (V9 i env) n/\Ext G H G' H:=by
 unfold V9
 split
 ·rename_i xs ex;obtain⟨a,vs,ev,h1,h2,h3,h4,r⟩:=S.slots i _ ex
  let G':Gh:=⟨G.M.filter (·≠a),G.pots⟩
  have sub:∀b∈G'.M,b∈G.M:=λb hb=>(M7.mp hb).1;have mm:∀{x:PV} {v:V},Rep C.K G H x v->Rep C.K G' H x v:=λr=>Rep.mono (G':=G') (λ_ _ _ e=>e) (λb hb=>.inl (sub b hb)) (λ_ _ e=>e) _ _ r;have mms:∀{x:List PV} {v:List V},Reps C.K G H x v->Reps C.K G' H x v:=λr=>Reps.mono (G':=G') (λ_ _ _ e=>e) (λb hb=>.inl (sub b hb)) (λ_ _ e=>e) _ _ r
  refine⟨G',{
   frame:=S.frame
   sub:=λb hb=>S.sub b (sub b hb)
   sup:=λb hb=>M7.mpr ⟨S.sup b hb,jq (show b≠a from λz=>h2 (by grind))⟩
   pots:=λp hp=>⟨M7.mpr ⟨(S.pots p hp).1,jq (show p≠a from λz=>h3 (by grind))⟩,C.T.more (S.pots p hp).2 λb hb=>.inl (sub b hb)⟩
   pre:=S.pre
   mu:=λb hb=>S.mu b (sub b hb)
   slots:=λj s es=>?_
   inj:=λj k xs' ys b e1 e2 e3 e4=>?_
   p0:=S.p0
   len:=by rw[K3];exact S.len
   newp:=S.newp },⟨λ_ _ _ e=>e,λb hb=>.inl (sub b hb),λ_ _ e=>e⟩⟩
  ·by_cases hj:i=j
   ·subst hj;rw[M5 (E1.mp ex).1] at es;cases es;exact⟨.ref a,ev,a,vs,rfl,⟨λz=>by simpa using(M7.mp z).2,h4⟩,mms r⟩
   ·rw[N6 hj] at es;have:=S.slots j s es;cases s with
    | v x =>
     obtain⟨v,e1,r⟩:=this;exact⟨v,e1,mm r⟩
    | ow kz zs =>
     obtain⟨b,us,e1,g1,g2,g3,g4,r⟩:=this;have hba:b≠a:=λz=>hj (S.inj i j (.lst,xs) (kz,zs) a ex es ev (by rw[e1,z]));exact⟨b,us,e1,M7.mpr ⟨g1,by simpa using hba⟩,g2,g3,g4,mms r⟩
  ·have back:∀(j:Nat) (zs:OK×List PV),(env.set i (some (.v (.lst xs))))[j]?=some (some (Slot.ow zs.1 zs.2))->env[j]?=some (some (.ow zs.1 zs.2)):=by
    intro j zs h
    by_cases hj:i=j
    ·grind
    ·grind
   exact S.inj j k xs' ys b (back j _ e1) (back k _ e2) e3 e4
 ·exact⟨G,S,Ext.refl⟩
def W0 (i:Nat)(p:pS):pS:=λD env n=>p D (V9 i env) n
theorem PL (i:Nat)(h:QS T np K F st p1):QS T np K F st (W0 i p1):=by
 obtain⟨t,a1,a2⟩:=h;refine⟨t,a1,λC G σ H env n PD D hK hT hn S hp L=>?_⟩;obtain⟨G',S',x'⟩:=S.freeze i;exact a2 C G' σ H _ n PD D hK hT hn S' hp (L.ext x')
end
def P0 (N:List Str)(xs:List PV):Env:=xs.map (λx=>some (.v x))++T7 (N.length-xs.length) none
def fnP (N ps:List Str)(body:pS):pF:=λxs n R=>xs.length=ps.length/\body ⟨λ_ m=>R .non m,R,λ_ _=>False,λ_ _=>False⟩ (P0 N xs) n
theorem KD (hp:∀p∈G.pots,p∈G.M/\T.at_ G.M H p n)(hm:∀a∈G.M,∃o,H a=some o/\MutO o)(hh:T.has G.pots)(r:Reps K G H xs vs) :
   SR ⟨K,T,G.M,G.pots,H,np⟩ G (L2.start N vs) H (P0 N xs) n where
 frame b o _ e:=e
 sub a ha:=.inl ha
 sup a ha:=ha
 pots:=hp
 pre:=⟨[],by simp,.inl rfl⟩
 mu:=hm
 slots i s e:=by
  unfold P0 at e
  by_cases hi:i<xs.length
  ·rw[Q7 (by simpa using hi),C6] at e;cases ex:xs[i]? with
   |none=>rw[ex] at e;cases e
   | some x =>
    rw[ex] at e;cases e;obtain⟨v,ev,rv⟩:=r.get' ex;refine⟨v,?_,rv⟩;unfold L2.start;rw[Q7 (by rw[A9,<- r.length];exact hi),C6,ev]
    rfl
  ·rw[Q6 (by simpa using hi),Gs] at e
   split at e <;> cases e
 inj i j xs' ys a e1:=by
  exfalso
  unfold P0 at e1
  by_cases hi:i<xs.length
  ·rw[Q7 (by simpa using hi),C6] at e1;cases ex:xs[i]? with
   |none=>rw[ex] at e1;cases e1
   |some x=>rw[ex] at e1;cases e1
  ·rw[Q6 (by simpa using hi),Gs] at e1
   split at e1 <;> cases e1
 p0:=⟨λp h=>(hp p h).1,hh⟩
 len:=by unfold P0 L2.start;simp[r.length]
 newp p h hn:=absurd h hn
section
variable {P:C3}{w:B8}{K:A7}{mg:Str->Option A1}{base:B1}{T:PotK}
theorem bd1 {P:List A1->Prop}(h:∀a,P [a])(us:List A1)(e:us.length=1):P us:=by
 obtain⟨a,rfl⟩:=List.length_eq_one_iff.mp e;exact h a
theorem bdS {P:List A1->Prop}(h:∀a us,us.length=n->P (a::us))(us:List A1)(e:us.length=n+1):P us:=by
 obtain⟨a,us,rfl⟩:=List.exists_cons_of_length_eq_add_one e;exact h a us (Nat.succ.inj e)
theorem bd2 {P:List A1->Prop}(h:∀a b,P [a,b])(us:List A1)(e:us.length=2):P us:=bdS (λa us e=>bd1 (P:=λus=>P (a::us)) (h a) us e) us e
theorem bd3 {P:List A1->Prop}(h:∀a b c,P [a,b,c])(us:List A1)(e:us.length=3):P us:=bdS (λa us e=>bd2 (P:=λus=>P (a::us)) (h a) us e) us e
theorem bd4 {P:List A1->Prop}(h:∀a b c d,P [a,b,c,d])(us:List A1)(e:us.length=4):P us:=bdS (λa us e=>bd3 (P:=λus=>P (a::us)) (h a) us e) us e
theorem bd5 {P:List A1->Prop}(h:∀a b c d e,P [a,b,c,d,e])(us:List A1)(e:us.length=5):P us:=bdS (λa us e=>bd4 (P:=λus=>P (a::us)) (h a) us e) us e
theorem fn_ok (F0:Fn0 K mg x st)(sc:p7 N ps (G5 st))
   (bd:∀(kV doc pm:A1) (an:Option A0) (jo ct:A1) (us:List A1),us.length=ps.length->bindArgs (Y0 x x (p9 st) (R4 st) (G5 st) .none kV doc pm an jo ct) ⟨us,[]⟩=pure (ps.zip us))
   (h:∀(f:A0) (jo:A1) (A:C8) (outer:List PySem.Env) (s:A4) (H:Hp) (E:XK),Room k (A.deeper (GC x (G5 st) s.heap.objs.size f jo))->
     QSs T false K (λ_:Unit=>(cxOf CX0 P w K mg base N x (G5 st) f jo A outer s H E).nox) (R4 st) body) :
   Kn P w K mg base x (k+1) ps (Ck K T (fnP N ps body)):=by
 refine F0.ok sc (λvs H Q E h=>?_) bd (λf jo A outer s H vs Q E hr hsp=>?_)
 ·obtain⟨G,xs,n,R,_,_,_,r,hf,_⟩:=h;rw[<- r.length];exact hf.1
 ·obtain⟨t,h1,h2⟩:=h f jo A outer s H E hr;obtain⟨G,xs,n,R,hp,hm,hh,r,hf,k'⟩:=hsp;refine⟨t,h1 (),?_⟩;have S0:=KD (N:=N) (np:=false) hp hm hh r
  have fin:∀(x:PV) (n':Nat) (v:V) (G':Gh) (σ:St) (H':Hp) (env:Env),R x n'->SR ⟨K,T,G.M,G.pots,H,false⟩ G' σ H' env n'->Rep K ⟨G.M,G'.pots⟩ H' x v->Q v H':=by
   intro x n' v G' σ H' env rr S' rv
   have ep:G'.pots=G.pots:=by
    obtain⟨l,el,hl⟩:=S'.pre;rcases hl with hl|hl
    ·rw[el,hl,T6]
    ·cases hl
   rw[ep] at rv;exact k' _ _ _ _ rr rv (λp hp'=>T.more (S'.pots p (by rw[ep];exact hp')).2 λa ha=>.inl (S'.sup a ha)) S'.frame
  refine h2 _ G _ H _ n _ _ rfl rfl rfl S0 hf.2 ⟨λenv n' G' σ H' q S' _=>?_,λx n' v G' σ H' env q S' rv _=>fin x n' v G' σ H' env q S' rv,λ_ _ _ _ _ q=>q.elim,λ_ _ _ _ _ q=>q.elim⟩;exact fin .non n' .non G' σ H' env q S' rfl
theorem law_ok (F0:Fn0 K mg x st)(sc:p7 N [y] (G5 st))
   (bd:∀(kV doc pm:A1) (an:Option A0) (jo ct:A1) (us:List A1),us.length=[y].length->bindArgs (Y0 x x (p9 st) (R4 st) (G5 st) .none kV doc pm an jo ct) ⟨us,[]⟩=pure ([y].zip us))
   (h:∀(f:A0) (jo:A1) (A:C8) (outer:List PySem.Env) (s:A4) (H:Hp) (E:XK),Room k (A.deeper (GC x (G5 st) s.heap.objs.size f jo))->
     QSs T true K (λ_:Unit=>(cxOf CX0 P w K mg base N x (G5 st) f jo A outer s H E).nox) (R4 st) body)
   (hlaw:∀ns:List Int,ns.length<=63->body ⟨λ_ _=>False,λr _=>r=.bl true,λ_ _=>False,λ_ _=>False⟩ (P0 N [.scr ns]) 0) (h0:T.has []:=by trivial) :
   Kn P w K mg base x (k+1) [y] (Fg K):=by
 refine F0.ok sc (λvs H Q E h=>?_) bd (λf jo A outer s H vs Q E hr hsp=>?_)
 ·obtain⟨a,ns,rfl,_⟩:=h
  rfl
 ·obtain⟨t,h1,h2⟩:=h f jo A outer s H E hr;obtain⟨a,ns,rfl,hS,hl,hO,q⟩:=hsp;refine⟨t,h1 (),?_⟩
  let G:Gh:=⟨[],[]⟩
  have r:Reps K G H [.scr ns] [.ref a]:=by
   refine .one ⟨a,rfl,?_⟩;rcases hS with(hS|⟨o,hS⟩)|hS
   ·rcases hO a with z|⟨o,xs,z⟩
    ·rw[z] at hS;cases hS
    ·rw[z] at hS;cases hS
   ·exact .inl ⟨by simp[G],o,hS⟩
   ·exact .inr hS
  have S0:=KD (T:=T) (N:=N) (np:=true) (n:=0) (G:=G) (λp hp=>nomatch hp) (λa ha=>nomatch ha) h0 r;refine h2 _ G _ H _ 0 _ _ rfl rfl rfl S0 (hlaw ns hl) ⟨λ_ _ _ _ _ q=>q.elim,λx n' v G' σ H' env qq S' rv _=>?_,λ_ _ _ _ _ q=>q.elim,λ_ _ _ _ _ q=>q.elim⟩;subst qq;obtain rfl:v=.bl true:=rv;exact q H'
end
structure Cn (own seed go:Int):Prop where
 o0:0<=own
 s0:0<=seed
 s1:seed<2 ^ 62
 g0:0<=go
 g1:go<=2 ^ 40
def PotAt (H:Hp)(p:A0)(n:Nat):Prop:=∃own seed go,H p=some (.lst [.int own,.int seed,.int go])/\Cn own seed go/\go<=(n:Int)
def potL:PotK where
 at_:=λ_ H p n=>PotAt H p n
 mono:=λ⟨own,seed,go,a,b,c⟩ h=>⟨own,seed,go,a,b,by omega⟩
 keep:=λ⟨own,seed,go,a,b,c⟩ e _=>⟨own,seed,go,e.trans a,b,c⟩
 more:=λh _=>h
 mu:=λ⟨own,seed,go,a,b,c⟩=>⟨_,a,trivial⟩
def R7:pF:=λxs n R=>match xs with|[.pot _,.int m]=>(0<m/\m<1000000/\n<1000000000)/\∀d:Int,0<=d->d<m->R (.int d) (n+1)|_=>False
section
variable {P:C3}{w:B8}{K:A7}{mg:Str->Option A1}{base:B1}
def spDraw:Sp:=λvs H Q _=>∃(p:A0) (own seed go many:Int),vs=[.ref p,.int many]/\H p=some (.lst [.int own,.int seed,.int go])/\Cn own seed go/\go<2 ^ 40/\0<many/\many<1000000/\
 ∀d own' seed' go',0<=d->d<many->Cn own' seed' go'->go'<=go+1->Q (.int d) (upd H p (.lst [.int own',.int seed',.int go']))
theorem PM (G:Kn P w K mg base x k ps spDraw):Kn P w K mg base x k ps (Ck K potL R7):=G.imp λvs H Q E h=>by
 obtain⟨G,xs,n,R,hp,hm,_,r,hf,k⟩:=h;unfold R7 at hf
 split at hf
 ·rename_i kk m;obtain⟨v,rr,rfl,rv,u,r2,rfl,ru,rfl⟩:=r;obtain⟨p,ep,rfl⟩:=rv;obtain rfl:u=.int m:=ru;have pin:p∈G.pots:=J5 ep;obtain⟨pM,own,seed,go,e,ok,hg⟩:=hp p pin;refine⟨p,own,seed,go,m,rfl,e,ok,by omega,hf.1.1,hf.1.2.1,λd own' seed' go' d0 d1 ok' g'=>?_⟩;refine k _ _ _ _ (hf.2 d d0 d1) rfl (λq hq=>?_) λb o hb eb=>?_
  ·by_cases hqp:q=p
   ·subst hqp;exact⟨own',seed',go',J0,ok',by omega⟩
   ·obtain⟨_,o2,s2,g2,e2,ok2,hg2⟩:=hp q hq;exact⟨o2,s2,g2,by rw[D0 hqp];exact e2,ok2,by omega⟩
  ·rw[D0 (λz=>hb (by grind))];exact eb
 ·grind
def spPot (K:A7):Sp:=λvs H Q _=>∃(a:A0) (ns:List Int) (k:Int),vs=[.ref a,.int k]/\SqL K H a (ns.map V.int)/\0<=k/\k<=1000/\
 ∀p own seed,H p=none->Cn own seed 0->Q (.ref p) (upd H p (.lst [.int own,.int seed,.int 0]))
end
section
variable {ι:Type}{K:A7}{F:ι->Cx}{e:Expr}{es:List Expr}{st:Stmt}{pos:Pos}{pl:pA}{pe pa pb:pE}
theorem SR.pot {C:Ct}{G:Gh}{σ:St}{H:Hp}{env:Env}{n:Nat}(S:SR C G σ H env n)(hn:C.np=true)(hT:C.T=potL){p:A0}{own seed:Int}(h:H p=none)(ok:Cn own seed 0) :
   SR C ⟨p::G.M,G.pots++[p]⟩ σ (upd H p (.lst [.int own,.int seed,.int 0])) env n:=by
 have S1:=S.more (vs:=[.int own,.int seed,.int 0]) h
 have mm:∀{x:PV} {v:V} {H:Hp},Rep C.K ⟨p::G.M,G.pots⟩ H x v->Rep C.K ⟨p::G.M,G.pots++[p]⟩ H x v:=λr=>Rep.mono (G:=⟨p::G.M,G.pots⟩) (G':=⟨p::G.M,G.pots++[p]⟩) (λ_ _ _ e=>e) (λ_ ha=>.inl ha) (λk q e=>by
  obtain⟨hk,_⟩:=E1.mp e;show(G.pots++[p])[k]?=_
  rw[Q7 hk];exact e) _ _ r
 have mms:∀{x:List PV} {v:List V} {H:Hp},Reps C.K ⟨p::G.M,G.pots⟩ H x v->Reps C.K ⟨p::G.M,G.pots++[p]⟩ H x v:=λr=>Reps.mono (G:=⟨p::G.M,G.pots⟩) (G':=⟨p::G.M,G.pots++[p]⟩) (λ_ _ _ e=>e) (λ_ ha=>.inl ha) (λk q e=>by
  obtain⟨hk,_⟩:=E1.mp e;show(G.pots++[p])[k]?=_
  rw[Q7 hk];exact e) _ _ r
 have pM:=S.fresh h
 exact {
  frame:=S1.frame
  sub:=S1.sub
  sup:=S1.sup
  pots:=λq hq=>by
   rcases K6.mp hq with z|z
   ·exact S1.pots q z
   ·rw[J6.mp z];refine⟨B2,?_⟩;rw[hT];exact⟨own,seed,0,J0,ok,by omega⟩
  pre:=by
   obtain⟨l,el,_⟩:=S1.pre;have el':G.pots=C.pots0++l:=el;exact⟨l++[p],by rw[el',Z9],.inr hn⟩
  mu:=S1.mu
  slots:=λi s e=>by
   cases s with
   | v x =>
    obtain⟨v,ev,r⟩:=S1.slots i _ e;exact⟨v,ev,mm r⟩
   | ow kk xs =>
    obtain⟨b,us,ev,h1,h2,h3,h4,r⟩:=S1.slots i _ e;obtain⟨b',us',ev',g1,_⟩:=S.slots i _ e;rw[ev] at ev';cases ev';refine⟨b,us,ev,h1,h2,λz=>?_,h4,mms r⟩;rcases K6.mp z with z|z
    ·exact h3 z
    ·rw[J6.mp z] at g1;exact pM g1
  inj:=S1.inj
  p0:=⟨S1.p0.1,C.T.hasM S1.p0.2 λz=>pM (S.pots p z).1⟩
  len:=S1.len
  newp:=λq hq hn' hM=>by
   rcases K6.mp hq with z|z
   ·exact S1.newp q z hn' hM
   ·rw[J6.mp z] at hM
    exact pM (S.sup p hM) }
end
section
variable {T:PotK}{np:Bool}{ι:Type}{K:A7}{F:ι->Cx}{e a b c:Expr}{es:List Expr}{pe pa pb pc:pE}{pos:Pos}{pl pr:pA}
theorem RdV.lst' {G:Gh}{H:Hp}{xs:List PV}{v:V}(h:RdV K G H (.lst xs) v):∃a vs,v=.ref a/\H a=some (.lst vs)/\Reps K G H xs vs:=by
 rcases h with⟨a,vs,e,t,r⟩|⟨a,vs,ys,ex,ev,h4,r⟩
 ·exact⟨a,vs,e,t.2,r⟩
 ·cases ex;exact⟨a,vs,ev,h4,r⟩
def qCat (pa pb:pE):pA:=λenv n R=>pa env n λx jc n1=>pb jc n1 λy jd n2=>match x,y with|.lst xs,.lst ys=>jd=jc/\xs.length+ys.length<=1000000/\R (xs++ys) jd n2|_,_=>False
theorem qn_cat (ha:QR T K F a pa)(hb:QR T K F b pb):QN T K F (.BinOp a .Add b pos) (qCat pa pb):=by
 obtain⟨t,a1,a2⟩:=ha;obtain⟨u,b1,b2⟩:=hb;refine⟨_,λz=>G8 op_cat (a1 z) (b1 z),λC G σ H env n R Q hK hT S hp k=>?_⟩;refine a2 C G σ H env n _ _ hK hT S hp λx jc n1 v H1 q1 S1 r1 f1=>?_;refine b2 C G σ H1 jc n1 _ _ hK hT S1 q1 λy jd n2 w H2 q2 S2 r2 f2=>?_
 split at q2
 ·rename_i xs ys;obtain⟨e1,hl,q2⟩:=q2;subst e1;obtain⟨l,vs,ev,e1,rx⟩:=RdV.lst' ((r1.fr f2).rd S2);obtain⟨m,us,ew,e2,ry⟩:=RdV.lst' (r2.rd S2);exact⟨l,m,vs,us,ev,ew,e1,e2,by rw[<- rx.length,<- ry.length];exact mil hl,λp hn=>k _ _ _ _ _ _ q2 S2 (f1.trans f2) hn (hK▸rx.append ry)⟩
 ·exact q2.elim
def Y5:List PV->Option (List Str)
 |[]=>some []
 |.str b::xs=>(Y5 xs).map (b::·)
 |_=>none
theorem Hx:∀{xs:List PV} {vs:List V} {bs:List Str},Y5 xs=some bs->Reps K G H xs vs->vs=bs.map V.str
 |[],vs,bs,h,r=>by cases h;exact r
 | .str b :: xs, vs, bs, h, r => by
  obtain⟨v,t,e,rv,rt⟩:=r;cases e1:Y5 xs with
  |none=>simp[Y5,e1] at h
  | some cs =>
   have:b::cs=bs:=by simpa[Y5,e1] using h
   subst this;rw[e,show v=.str b from rv,Hx e1 rt]
   rfl
 |.non::_,_,_,h,_=>by cases h
 |.int _::_,_,_,h,_=>by cases h
 |.bl _::_,_,_,h,_=>by cases h
 |.ty _::_,_,_,h,_=>by cases h
 |.pot _::_,_,_,h,_=>by cases h
 |.tup _::_,_,_,h,_=>by cases h
 |.lst _::_,_,_,h,_=>by cases h
 |.dct _ _::_,_,_,h,_=>by cases h
 |.fdt _ _::_,_,_,h,_=>by cases h
 |.scr _::_,_,_,h,_=>by cases h
theorem Hy:∀bs:List Str,Y5 (bs.map PV.str)=some bs
 |[]=>rfl
 |b::bs=>by simp[Y5,Hy bs]
def Z0:w2:=λx y R=>match x,y with|.str sep,.lst xs=>(match Y5 xs with|some ys=>(ys.map (·.length)).sum+ys.length*sep.length<=1000000/\R (.str (AE sep ys))|none=>False)|_,_=>False
def W3 (pa pb:pE):pE:=λenv n R=>pa env n λx jc n1=>match x with|.str sep=>pb jc n1 λy jd n2=>Z0 (.str sep) y λz=>R z jd n2|_=>False
theorem PN (ha:QE T K F a pa)(hb:QR T K F b pb)(hs:F3 b=true)(hbase:∀z,AV a "join" (F z).env (eval a (F z).env)=eval a (F z).env)(hline:(ap.endLine == pos.line)=true)
   (hfew:∀z,((backTo pos (E8 [b] (F z).env)).all (λx=>!x.1)&&(backToKw pos (BH [] (F z).env)).all (λx=>x.1.isSome)&&decide (([b]:List Expr).length+([]:List Z7).length+(if([]:List Z7).isEmpty then 0 else 1)<30))=true)
   (hK:∀z,(F z).K=K):QE T K F (.Call (.Attribute a "join" ap) [b] [] pos) (W3 pa pb):=by
 obtain⟨t,a1,a2⟩:=ha;obtain⟨u,b1,b2⟩:=hb
 refine⟨tBM K "str" (λx vs H Q=>∃(sep:Str) (l:A0) (ys:List Str),x=.str sep/\vs=[.ref l]/\SqL K H l (ys.map V.str)/\(ys.map (·.length)).sum+ys.length*sep.length<=16777216/\Q (.str (AE sep ys)) H) t (p6 u tNil),
  λz=>hK z▸Fd PySem.F.plainAttrs_str PySem.F.slot_str_join PySem.F.type_str_join OV (a1 z) (F5 (b1 z) K5 (D4 hs)) (hbase z) (hfew z) hline (D4 hs),λC G σ H env n R Q hK hT S hp k=>?_⟩
 refine a2 C G σ H env n _ _ hK hT S hp λx jc n1 v H1 q1 S1 r1 f1=>?_;cases x with
 | str sep =>
  obtain rfl:v=.str sep:=r1;refine⟨rfl,DG b2 hK hT S1 q1 λy jd n2 w H2 q2 S2 r2 f2=>?_⟩;unfold Z0 at q2
  split at q2
  ·rename_i sep' xs e1;cases e1
   split at q2
   ·rename_i ys ey;have rd:RdV K G H2 (.lst xs) w:=hK▸r2.rd S2;obtain⟨l,vs,ev,hq,rs⟩:=rd.lst;exact⟨sep,l,ys,rfl,by rw[ev],Hx ey rs▸hq,by omega,k _ _ _ _ _ q2.2 S2 rfl (f1.trans f2)⟩
   ·grind
  ·grind
 |_=>exact q1.elim
noncomputable def W4:PV->Option Bool
 |.non=>some false
 |.bl b=>some b
 |.int i=>some (i != 0)
 |.str z=>if z.length<=1000000 then some ((z.length:Int) != 0) else none
 |.lst xs=>some (!xs.isEmpty)
 |.tup xs=>some (!xs.isEmpty)
 |_=>none
def U5 (pe:pE):pT:=λenv n R=>pe env n λx jc n1=>match W4 x with|some b=>R b jc n1|none=>False
theorem KF (r:Reps K G H xs vs):(!vs.isEmpty)=!xs.isEmpty:=by
 have:=r.length;cases xs <;> cases vs <;> simp_all
theorem KG {b:Bool}(h:W4 x=some b)(r:RdV K G H x v):TruV K v H b:=by
 cases x with
 |non=>rw[r.non];cases h;rfl
 |bl c=>rw[r.bl];cases h;rfl
 |int i=>rw[r.int];cases h;rfl
 | str z =>
  rw[r.str]
  by_cases hz:z.length<=1000000
  ·have h':(if z.length<=1000000 then some ((z.length:Int) != 0) else none)=some b:=h;rw[jt hz] at h';cases h';exact⟨mil hz,rfl⟩
  ·have h':(if z.length<=1000000 then some ((z.length:Int) != 0) else none)=some b:=h;rw[ju hz] at h';cases h'
 |lst xs=>obtain⟨a,vs,ev,hq,rs⟩:=r.lst;rw[ev];cases h;exact .inl ⟨vs,hq,(KF rs).symm⟩
 |tup xs=>obtain⟨a,vs,ev,hq,rs⟩:=r.tup;rw[ev];cases h;exact .inr (.inl ⟨vs,hq,(KF rs).symm⟩)
 |_=>cases h
theorem PP (h:QR T K F e pe)(he:∀z whole,isTrue e (F z).env whole=(do let v ← whole;k6 e.pos;U7 [v] (truthy v)))(hK:∀z,(F z).K=K):QT T K F e (U5 pe):=by
 obtain⟨t,a1,a2⟩:=h;refine⟨_,λz=>hK z▸NP (a1 z) (he z),λC G σ H env n R Q hK hT S hp k=>?_⟩;refine a2 C G σ H env n _ _ hK hT S hp λx jc n1 v H1 q1 S1 r1 f1=>?_
 split at q1
 ·rename_i b eb;exact⟨b,hK▸KG eb (r1.rd S1),k _ _ _ _ q1 S1 f1⟩
 grind
def wNeg:w1:=λx R=>match x with|.int i=>R (.int (-i))|_=>False
theorem qe_neg (h:QE T K F a pa):QE T K F (.UnaryOp .USub a pos) (qUn wNeg pa):=by
 obtain⟨t,a1,a2⟩:=h.r;refine⟨_,λz=>pe_un JC (a1 z),ok_un (λG H x v R Q hf rx hw k=>?_) a2⟩;unfold wNeg at hw
 split at hw
 ·exact⟨_,rx.int,k _ _ _ hw (Same.refl _) rfl⟩
 ·exact hw.elim
end
def K8 (i:Nat)(pe:pE):pE:=λenv n R=>(∃xs,env[i]?=some (some (.ow .lst xs)))/\h9 i pe env n R
theorem KH {te:pE}{rest:Env}(f:PV->PV):∀(xs:List PV) (s0:Option Slot) (n:Nat) (R:List PV->Nat->Prop),(∀x∈xs,∀m Q,Q (f x) (some (.v x)::rest) m->te (some (.v x)::rest) m Q)->R (xs.map f) n->R6 (gN 0) qTru te xs (s0::rest) n R
 |[],_,_,_,_,h=>h
 | x :: xs, s0, n, R, ht, h => by
  show te (some (.v x)::rest) n _;refine ht x B2 n _ ?_;exact KH f xs _ n _ (λy hy=>ht y (B4 _ hy)) h
theorem Fp {te:pE}{rest:Env}(P:PV->Prop)(c N:Nat):∀(xs:List PV) (s0:Option Slot) (n:Nat) (R:List PV->Nat->Prop),
   (∀x∈xs,∀m Q,m<=N->(∀y m',P y->m'<=m+c->Q y (some (.v x)::rest) m')->te (some (.v x)::rest) m Q)->n+c*xs.length<=N->(∀ys n',ys.length=xs.length->(∀y∈ys,P y)->n'<=n+c*xs.length->R ys n')->R6 (gN 0) qTru te xs (s0::rest) n R
 |[],_,n,_,_,_,h=>h [] n rfl (λ_ z=>nomatch z) (by omega)
 | x :: xs, s0, n, R, ht, hN, h => by
  have hl:c*(x::xs).length=c*xs.length+c:=by rw[D2,Nat.mul_succ]
  show te (some (.v x)::rest) n _;refine ht x B2 n _ (by omega) λy m' py hm=>?_;refine Fp P c N xs _ m' _ (λy hy=>ht y (B4 _ hy)) (by omega) λys n' e p hn=>?_;exact h (y::ys) n' (by simp[e]) (λz hz=>(C9.mp hz).elim (λe=>e▸py) (p z)) (by omega)
theorem R8 {g:pG}{b:pS}{D:Cm}(I:Nat->Env->Nat->Prop):∀(xs:List PV) (k:Nat) (env:Env) (n:Nat),I k env n->
   (∀(i:Nat) x env n (N:Env->Nat->Prop),xs[i]?=some x->I (k+i) env n->(∀e m,I (k+i+1) e m->N e m)->g x env λjc=>b { D with nx:=N,ct:=N,bk:=D.nx } jc n)->(∀env n,I (k+xs.length) env n->D.nx env n)->forL g b D xs env n
 |[],k,env,n,h0,_,hd=>hd env n h0
 | x :: xs, k, env, n, h0, hs, hd => by
  show g x env λjc=>b { D with nx:=λe m=>forL g b D xs e m,ct:=λe m=>forL g b D xs e m,bk:=D.nx } jc n;refine hs 0 x env n _ rfl h0 λe m h1=>?_;refine R8 I xs (k+1) e m h1 (λi y env n N e1 h2 h3=>?_) λenv n h2=>hd env n (by rw[D2,show k+(xs.length+1)=k+1+xs.length by omega];exact h2);refine hs (i+1) y env n N (by simpa using e1) (by rw[show k+(i+1)=k+1+i by omega];exact h2) λe m h4=>h3 e m (by rw[show k+1+i+1=k+(i+1)+1 by omega];exact h4)
theorem Co {j i:Nat}{lo:Int}{x:PV}(h:((C7 j).map λ(k:Nat)=>PV.int (lo+k))[i]?=some x):i<j/\x=.int (lo+i):=by grind
theorem Ah:((C7 j).map λ(k:Nat)=>PV.int (lo+k)).length=j:=by simp
theorem Fq {α:Type}{xs:List α}{d:Int}(h0:0<=d)(h1:d<xs.length):∃x,x∈xs/\atI xs d=some x:=by
 obtain⟨x,e1,e2⟩:=Dz h0 h1;exact⟨x,J5 e1,e2⟩
theorem sx_int (h:0<=k):HT.sIx n d (some k)=min k.toNat n:=by
 obtain⟨j,rfl⟩:=EK h;exact HT.sIx_nat n d j
theorem AH (a b:Int):eqP (.int a) (.int b)=decide (a=b):=rfl
theorem M9 (a b:Str):eqP (.str a) (.str b)=decide (a=b):=rfl
theorem AI (a b:Bool):eqP (.bl a) (.bl b)=decide (a=b):=rfl
theorem i3 (xs ys:List PV):eqP (.lst xs) (.lst ys)=eqPs xs ys:=rfl
theorem i4 (xs ys:List PV):eqP (.tup xs) (.tup ys)=eqPs xs ys:=rfl
theorem i5 (x y:PV)(xs ys:List PV):eqPs (x::xs) (y::ys)=(eqP x y&&eqPs xs ys):=rfl
theorem t9:eqPs [] []=true:=rfl
theorem if_t {A B:Prop}(h:b=true)(q:A):if b=true then A else B:=by rw[jt h];exact q
theorem if_f {A B:Prop}{b:Bool}(h:b=false)(q:B):if b=true then A else B:=by grind
end Pu
end
section
namespace L2
open PySem PySem.Spec PyProof.Rows
def keyD:Key->PyData
 |.inl i=>.int i
 |.inr x=>.str x
mutual
def RdD (H:Hp):PyData->V->Prop
 |.none,v=>v=.non
 |.bool b,v=>v=.bl b
 |.int i,v=>v=.int i
 |.str x,v=>v=.str x
 |.list xs,v=>∃a vs,v=.ref a/\H a=some (.lst vs)/\RdDs H xs vs
 |.tuple xs,v=>∃a vs,v=.ref a/\H a=some (.tup vs)/\RdDs H xs vs
 |.dict jg,v=>∃a ws,v=.ref a/\H a=some (.dK ws)/\RdKv H jg ws
def RdDs (H:Hp):List PyData->List V->Prop
 |[],vs=>vs=[]
 |d::ds,vs=>∃v r,vs=v::r/\RdD H d v/\RdDs H ds r
def RdKv (H:Hp):List (PyData×PyData)->List (Key×V)->Prop
 |[],ws=>ws=[]
 |(k,d)::r,ws=>∃q w ws',ws=(q,w)::ws'/\k=keyD q/\RdD H d w/\RdKv H r ws'
end
section
variable {P:C3}{w:B8}{H:Hp}{h:B1}
mutual
theorem Hz (hok:HOk P w H h)(sy:NS H):∀(d:PyData) (v:V) (u:A1),RdD H d v->RelV v u->∃as,Reads h u d as/\X6∉as
 | .none, v, u, r, e => by
  obtain rfl:v=.non:=r;obtain rfl:u=.none:=e;exact⟨[],.none,nofun⟩
 | .bool b, v, u, r, e => by
  obtain rfl:v=.bl b:=r;obtain rfl:u=.bool b:=e;exact⟨[],.bool b,nofun⟩
 | .int i, v, u, r, e => by
  obtain rfl:v=.int i:=r;obtain⟨t,rfl⟩:=e;exact⟨[],.int i t,nofun⟩
 | .str x, v, u, r, e => by
  obtain rfl:v=.str x:=r;obtain⟨t,rfl⟩:=e;exact⟨[],.str x t,nofun⟩
 | .list xs, v, u, r, e => by
  obtain⟨a,vs,rfl,ha,rs⟩:=r;obtain rfl:u=.ref a:=e;obtain⟨_,jf,n,rv,ho⟩:=hok a _ ha;obtain⟨as,rr,ns⟩:=HA hok sy xs vs jf rs rv;refine⟨a::as,.list ho rfl rfl rr,λz=>?_⟩;rcases C9.mp z with z|z
  ·rw[<- z] at ha;rcases sy with sy|⟨o,u,sy⟩ <;> rw[sy] at ha <;> cases ha
  ·exact ns z
 | .tuple xs, v, u, r, e => by
  obtain⟨a,vs,rfl,ha,rs⟩:=r;obtain rfl:u=.ref a:=e;obtain⟨_,jf,rv,ho⟩:=hok a _ ha;obtain⟨as,rr,ns⟩:=HA hok sy xs vs jf rs rv;obtain⟨o,e1,e2,n,e3⟩:=ho;exact⟨as,.tuple e1 (Dq e2).1 e3 rr,ns⟩
 | .dict jg, v, u, r, e => by
  obtain⟨a,ws,rfl,ha,rs⟩:=r;obtain rfl:u=.ref a:=e;obtain⟨_,hs,us,rv,o,es,ep,e1,e2,e3,_,e5,_⟩:=hok a _ ha;obtain⟨as,bs,r1,r2,n1,n2⟩:=KI hok sy jg ws us es.toList rs rv e5;refine⟨a::as++bs,.dict e1 e2.1 e3 r1 r2,λz=>?_⟩;rcases K6.mp z with z|z
  ·rcases C9.mp z with z|z
   ·rw[<- z] at hs;exact absurd hs (by decide)
   ·exact n1 z
  ·exact n2 z
theorem HA (hok:HOk P w H h)(sy:NS H):∀(ds:List PyData) (vs:List V) (us:List A1),RdDs H ds vs->Vals vs us->∃as,ReadsAll h us ds as/\X6∉as
 | [], vs, us, r, e => by
  obtain rfl:vs=[]:=r;cases e;exact⟨[],.nil,nofun⟩
 | d :: ds, vs, us, r, e => by
  obtain⟨v,r',rfl,r1,r2⟩:=r;cases e with
  | cons e1 e2 =>
   obtain⟨as,a1,a2⟩:=Hz hok sy d v _ r1 e1;obtain⟨bs,b1,b2⟩:=HA hok sy ds r' _ r2 e2;exact⟨as++bs,.cons a1 b1,λz=>(K6.mp z).elim a2 b2⟩
theorem KI (hok:HOk P w H h)(sy:NS H):∀(jg:List (PyData×PyData)) (ws:List (Key×V)) (us:List (Key×A1)) (es:List DictEntry),RdKv H jg ws->KV ws us->Pairs (Y4 P w) es us->
   ∃as bs,ReadsAll h (es.map (·.key)) (jg.map (·.1)) as/\ReadsAll h (es.map (·.val)) (jg.map (·.2)) bs/\X6∉as/\X6∉bs
 | [], ws, us, es, r, e, p => by
  obtain rfl:ws=[]:=r;cases e;cases p;exact⟨[],[],.nil,.nil,nofun,nofun⟩
 | (k, d) :: jg, ws, us, es, r, e, p => by
  obtain⟨q,w1,ws',rfl,rfl,r1,r2⟩:=r;cases e with
  | cons e1 e2 =>
   cases p with
   | cons p1 p2 p3 =>
    obtain⟨as,bs,a1,a2,a3,a4⟩:=KI hok sy jg ws' _ _ r2 e2 p3;obtain⟨e1,e1'⟩:=e1;dsimp only at e1 e1';obtain⟨cs,c1,c2⟩:=Hz hok sy d w1 _ r1 e1';rw[<- e1] at p1;refine⟨[]++as,cs++bs,.cons ?_ a1,.cons (by dsimp only;rw[p2];exact c1) a2,a3,λz=>(K6.mp z).elim c2 a4⟩;rcases d8 p1 with⟨i,t,rfl,e⟩|⟨x,t,rfl,e⟩
    ·dsimp only;rw[e];exact .int i t
    ·dsimp only;rw[e];exact .str x t
end
end
section
variable {X:Cx}{jb:List (A0×Obj)}{σ:St}{H:Hp}{s:A4}
theorem PQ (hr:Room k X.A):K4 X (.builtin "repr") (λvs H Q=>∃v d,vs=[v]/\RdD H d v/\d.showable=true/\d.depth<=40/\d.shown.length<=B7/\Q (.str d.shown) H):=by
 intro jb s σ H vs us Q I rv h;obtain⟨v,d,rfl,r,h1,h2,h3,q⟩:=h;obtain⟨u,rfl,ru⟩:=rv.one;obtain⟨as,rr,ns⟩:=Hz I.hok I.nos d v u r ru;have fin:∀(h':B1) (t:Tok) (tk:Tok),(∀b o,s.heap.get? b=some o->h'.get? b=some o)->∃v' H',Inv X jb σ H' { s with heap:=h',toks:=tk }/\RelV v' (.str d.shown t)/\Q v' H':=λh' t tk kp=>⟨.str d.shown,H,I.kept kp,⟨t,rfl⟩,q⟩;cases rr with
 |none=>exact P.repr_of_none (fin s.heap _ _ λ_ _ z=>z)
 |bool b=>exact P.repr_of_bool (by cases b <;> exact fin s.heap _ _ λ_ _ z=>z)
 |int i t=>exact P.repr_of_int (by simpa[p5] using h1) (fin s.heap _ _ λ_ _ z=>z)
 |str x t=>exact P.repr_of_str (fin s.heap _ _ λ_ _ z=>z) h3
 |list e1 e2 e3 e4=>exact repr_of_reads' (.list e1 e2 e3 e4) h1 (λ_=>ns) hr.gd (by have:=hr.units;omega) (λ_ _ z=>z) (λh' u tk kp=>fin h' u tk kp) h3
 |tuple e1 e2 e3 e4=>exact repr_of_reads' (.tuple e1 e2 e3 e4) h1 (λ_=>ns) hr.gd (by have:=hr.units;omega) (λ_ _ z=>z) (λh' u tk kp=>fin h' u tk kp) h3
 |dict e1 e2 e3 e4 e5=>exact repr_of_reads' (.dict e1 e2 e3 e4 e5) h1 (λ_=>ns) hr.gd (by have:=hr.units;omega) (λ_ _ z=>z) (λh' u tk kp=>fin h' u tk kp) h3
end
end L2
namespace Pu
open PySem PySem.Spec L2
mutual
/-- what a thing holds, for repr -/
def dat:PV->Option PyData
 |.non=>some .none
 |.bl b=>some (.bool b)
 |.int i=>some (.int i)
 |.str x=>some (.str x)
 |.tup xs=>match dats xs with|some ds=>some (.tuple ds)|none=>none
 |.lst xs=>match dats xs with|some ds=>some (.list ds)|none=>none
 |.dct ks xs=>match dats xs with|some ds=>some (.dict ((ks.map keyD).zip ds))|none=>none
 |_=>none
def dats:List PV->Option (List PyData)
 |[]=>some []
 |x::xs=>match dat x,dats xs with|some d,some ds=>some (d::ds)|_,_=>none
end
theorem kv_rd:∀(jg:List (Key×V)) (ds:List PyData),RdDs H ds (jg.map (·.2))->RdKv H (((jg.map (·.1)).map keyD).zip ds) jg
 | [], ds, r => by
  cases ds with
  |nil=>exact rfl
  |cons d ds=>obtain⟨v,r',e,_⟩:=r;cases e
 | (q, w) :: jg, ds, r => by
  cases ds with
  |nil=>exact(List.cons_ne_nil _ _ r).elim
  | cons d ds =>
   obtain⟨v,r',e,r1,r2⟩:=r;cases e;exact⟨q,w,jg,rfl,rfl,r1,kv_rd jg ds r2⟩
section
variable {K:A7}{G:Gh}{H:Hp}
mutual
theorem KJ:∀(x:PV) (v:V) (d:PyData),Rep K G H x v->dat x=some d->RdD H d v
 |.non,v,d,r,e=>by cases e;exact r
 |.bl b,v,d,r,e=>by cases e;exact r
 |.int i,v,d,r,e=>by cases e;exact r
 |.str x,v,d,r,e=>by cases e;exact r
 | .tup xs, v, d, r, e => by
  obtain⟨a,vs,rfl,t,rs⟩:=r;rw[dat] at e;cases ed:dats xs with
  |none=>rw[ed] at e;cases e
  |some ds=>rw[ed] at e;cases e;exact⟨a,vs,rfl,t.2,DN xs vs ds rs ed⟩
 | .lst xs, v, d, r, e => by
  obtain⟨a,vs,rfl,t,rs⟩:=r;rw[dat] at e;cases ed:dats xs with
  |none=>rw[ed] at e;cases e
  |some ds=>rw[ed] at e;cases e;exact⟨a,vs,rfl,t.2,DN xs vs ds rs ed⟩
 |.ty _,v,d,r,e=>by cases e
 |.pot _,v,d,r,e=>by cases e
 |.scr _,v,d,r,e=>by cases e
 |.fdt _ _,v,d,r,e=>by cases e
 | .dct ks xs, v, d, r, e => by
  obtain⟨a,jg,rfl,_,ha,hk,rs⟩:=r;rw[dat] at e;cases ed:dats xs with
  |none=>rw[ed] at e;cases e
  |some ds=>rw[ed] at e;cases e;exact⟨a,jg,rfl,ha,hk▸kv_rd jg ds (DN xs _ ds rs ed)⟩
theorem DN:∀(xs:List PV) (vs:List V) (ds:List PyData),Reps K G H xs vs->dats xs=some ds->RdDs H ds vs
 |[],vs,ds,r,e=>by cases e;exact r
 | x :: xs, vs, ds, r, e => by
  obtain⟨v,r',rfl,r1,r2⟩:=r;rw[dats] at e;cases e1:dat x with
  |none=>rw[e1] at e;cases e
  | some d =>
   cases e2:dats xs with
   |none=>rw[e1,e2] at e;cases e
   |some ds'=>rw[e1,e2] at e;cases e;exact⟨v,r',rfl,KJ x v d r1 e1,DN xs r' ds' r2 e2⟩
end
end
def Br:w1:=λx R=>match dat x with|some d=>d.showable=true/\d.depth<=40/\d.shown.length<=B7/\R (.str d.shown)|none=>False
theorem bt_repr:J4 "repr"=some (.builtin "repr"):=by decide +kernel
section
variable {T:PotK}{ι:Type}{K:A7}{F:ι->Cx}{e:Expr}{pe:pE}{pos:Pos}
theorem PR (hr:∀z,Room k (F z).A)(hg:∀z,Gl (F z) "repr")(hm:∀z,(F z).mg "repr"=none)(ha:QR T K F e pe)(hs:F3 e=true):QE T K F (.Call (.Name "repr" p) [e] [] pos) (qUn Br pe):=Fm (λz=>PQ (hr z)) (λG H x v R Q hf rx hw k=>by
 unfold Br at hw;cases ed:dat x with
 |none=>rw[ed] at hw;exact hw.elim
 | some d =>
  rw[ed] at hw;obtain⟨h1,h2,h3,q⟩:=hw;refine⟨v,d,rfl,?_,h1,h2,h3,k _ _ _ q (Same.refl _) rfl⟩;rcases rx with rx|⟨a,vs,xs,rfl,rfl,hv,rs⟩
  ·exact KJ x v d rx ed
  ·rw[dat] at ed;cases es:dats xs with
   |none=>rw[es] at ed;cases ed
   |some ds=>rw[es] at ed;cases ed;exact⟨a,vs,rfl,hv,DN xs vs ds rs es⟩) hg hm bt_repr ha hs
end
end Pu
end
section
namespace HT
open PySem PySem.Spec PyProof.Rows
section
variable {prog:C3}{w:B8}{A:C8}{E:A1->A4->Prop}{s:A4}
theorem PU (n:Nat):Di none none (-1) (n:Int)=((n:Int)-1,-1):=rfl
theorem PX (n:Nat):Az ((n:Int)-1) (-1) (-1)=n:=by
 unfold Az;rw[ju (by decide)];have h1:(- -1:Int)=1:=by decide
 rw[h1]
 by_cases h:(n:Int)-1 > -1
 ·rw[jt h,Int.ediv_one];omega
 ·rw[ju h];omega
theorem PY {n:Nat}(hs:s.heap.IsSliceOf sl .none .none vk)(pk:IsPart vk (some (-1)))
   (h:Q ((n:Int)-1,-1,n) s):A5 (A6 prog w) A (EM (.ref sl) (pure (n:Int))) Q E s:=by
 obtain⟨os,hos,hcs,hds⟩:=id hs;unfold EM Jo;refine A2 (A2 (M4 hos hds (x:=.none) rfl (A2 (M4 hos hds (x:=.none) rfl (A2 (M4 hos hds (x:=vk) rfl (A8 ?_)))))));refine A2 (Dw pk ?_);show A5 _ _ (if((-1:Int) == 0)=true then _ else _) _ _ s;rw[ju (by decide)];refine A2 (Dw .none (A2 (Dw .none (A2 (A8 ?_)))));show A5 _ _ (match Di none none (-1) (n:Int) with|(lo,hi)=>pure (lo,(-1:Int),Az lo hi (-1))) _ _ s;rw[PU];show A5 _ _ (pure ((n:Int)-1,(-1:Int),Az ((n:Int)-1) (-1) (-1))) _ _ s;rw[PX];exact A8 h
theorem KL {α β:Type}{f g:α->Option β}:∀l:List α,(∀m∈l,f m=g m)->l.filterMap f=l.filterMap g
 |[],_=>rfl
 |x::l,h=>by rw[Ba,Ba,h x B2,KL l λm hm=>h m (B4 _ hm)]
theorem PZ (xs:Array A1):((C7 xs.size).filterMap λ(m:Nat)=>xs[((xs.size:Int)-1+(m:Int) * -1).toNat]?).toArray=xs.toList.reverse.toArray:=by
 congr 1
 have e:(C7 xs.size).filterMap (λ(m:Nat)=>xs[((xs.size:Int)-1+(m:Int) * -1).toNat]?)=((C7 xs.size).map λk=>xs.size-1-k).filterMap (xs[·]?):=by
  rw[List.filterMap_map];refine KL _ λm hm=>?_;have:=F8.mp hm;show _=xs[xs.size-1-m]?
  congr 1
  omega
 rw[e,PySem.W.krv_range,List.filterMap_reverse,PySem.W.krv_all]
theorem getItem_tuple_rev (ht:IsTup s.heap t items)(hs:s.heap.IsSliceOf sl .none .none vk)(pk:IsPart vk (some (-1)))
   (h:Q (.ref s.heap.objs.size) { s with heap:=s.heap.push { cls:=.type "tuple",data:=.seq items.toList.reverse.toArray } })
   (hsz:items.size<=B7):A5 (A6 prog w) A (getItem (.ref t) (.ref sl)) Q E s:=by
 have htake:sizeOk (.seq items.toList.reverse.toArray):=by
  show items.toList.reverse.toArray.size<=B7;rw[D9,w9,M8];omega
 obtain⟨os,hos,hcs,hds⟩:=id hs;have hTs:s.TypeIs (.ref sl) "slice":=⟨os,hos,hcs⟩;unfold getItem
 try with_reducible refine N4 ?_
 first|refine A2 (A8 ?_)|skip
 refine A2 (wpAny_sequenceKey ht.typeIs (by decide) ?_)
 refine A2 (X0 (name:=B0 "__getitem__") ht.typeIs BV
   (N3 BV ht.typeIs entry_tuple_getitem ?_ (args_tuple_getitem _ _)))
 show A5 _ _ (GD (.ref t)>>=_) _ _ s;refine A2 (tupleItemsOf_ ht ?_);refine A2 (w6 hTs ?_);rw[jt (by decide)];refine A2 (PY hs pk ?_)
 have hno:¬((((items.size:Int)-1) == 0&&(-1:Int) == 1&&items.size == items.size)=true):=by
  intro q;rw[b9,b9] at q;exact absurd (eq_of_beq q.1.2) (by decide)
 show A5 _ _ (if(((items.size:Int)-1) == 0&&(-1:Int) == 1&&items.size == items.size)=true then _ else _) _ _ s;rw[ju hno,PZ]
 first
   |exact A2 (m:=AB _) (N1 (A8 ⟨_,rfl,A8 h⟩) htake)
   |exact A2 (m:=AB _) (N1 (A2 (A8 (A8 ⟨_,rfl,A8 h⟩))) htake)
   |exact A2 (A2 (m:=AB _) (N1 (A8 (A8 ⟨_,rfl,A8 h⟩)) htake))
   |exact A2 (A2 (m:=AB _) (N1 (A8 ⟨_,rfl,A8 h⟩) htake))
end
end HT
namespace L2
open PySem PySem.Spec PyProof.Rows
section
variable {X:Cx}{e st:Expr}{te:TE}{ts:TE}{pos p2:Pos}
def rRev (K:A7):V->Hp->VK->Prop:=λx H Q=>∃a xs,x=.ref a/\((SqL K H a xs/\∀p,H p=none->Q (.ref p) (upd H p (.lst xs.reverse)))\/(SqT K H a xs/\∀p,H p=none->Q (.ref p) (upd H p (.tup xs.reverse))))
def tRev (K:A7)(te ts:TE):TE:=λσ H Q=>te σ H λx H1=>ts σ H1 λy H2=>y=.int (-1)/\rRev K x H2 Q
theorem Vals.rev (r:Vals xs us):Vals xs.reverse us.reverse:=by
 induction r with
 |nil=>exact .nil
 | cons r1 _ ih =>
  rw[k7,k7];exact ih.append (.cons r1 .nil)
theorem pe_rev (he:PE X e te)(hs:PE X st ts):PE X (.Subscript e (.Slice none none (some st) p2) pos) (tRev X.K te ts):=by
 intro jb s σ H Q I h;refine Subscript_ (thn (he jb s σ H _ I h) λv s1 ⟨x,H1,I1,r1,q1⟩=>?_);refine wpAny_Slice ?_;rw[evalPart_none];refine A8 (A8 ?_);rw[evalPart_some];refine thn (hs jb s1 σ H1 _ I1 q1) λvk s3 ⟨y,H3,I3,ry,q3⟩=>?_;obtain⟨rfl,a,xs,rfl,q⟩:=q3;obtain⟨t,rfl⟩:=ry;obtain rfl:v=.ref a:=r1;have I4:Inv X jb σ H3 { s3 with heap:=s3.heap.push { cls:=.type "slice",data:=.fields #[.none,.none,.int (-1) t] } }:=I3.kept (t':=s3.toks) λb ob q=>B6 _ q;show A5 (A6 X.prog X.w) X.A (subscriptTail e (.Slice none none (some st) p2) (.ref a) (.ref s3.heap.objs.size)) (EP X jb σ Q) X.xe { s3 with heap:=s3.heap.push { cls:=.type "slice",data:=.fields #[.none,.none,.int (-1) t] } };rcases q with⟨hq,q⟩|⟨hq,q⟩
 ·obtain⟨jf,r,ht,hz⟩:=I4.list hq;refine tail_any (ops:=[.ref a,.ref s3.heap.objs.size]) ht.isList.typeIs slot_list_getitem.lookup ?_ (by with_unfolding_all rfl);refine wpAny_getItem_list_slice ht.isList (GJ ..) .none .none (.int (-1) t) (by decide) ?_ (by rw[D9];have:=r.length;omega);rw[PySem.W.krv_pick];refine⟨.ref _,_,I4.laid (t':=s3.toks) (o:=.lst xs.reverse) (λb ob q=>B6 _ q) (B3 _) ?_,rfl,q _ (I4.hok.fresh (B3 _))⟩;exact⟨by rw[w9];exact hz,jf.reverse,0,r.rev,E4 _ rfl⟩
 ·obtain⟨jf,r,ht,hz⟩:=I4.tuple hq;refine tail_any (ops:=[.ref a,.ref s3.heap.objs.size]) ht.typeIs PyProof.Rows.slot_tuple_getitem.lookup ?_ (by with_unfolding_all rfl);refine HT.getItem_tuple_rev ht (GJ ..) (.int (-1) t) ?_ (by rw[D9];have:=r.length;omega);refine⟨.ref _,_,I4.laid (t':=s3.toks) (o:=.tup xs.reverse) (λb ob q=>B6 _ q) (B3 _) ?_,rfl,q _ (I4.hok.fresh (B3 _))⟩;exact⟨by rw[w9];exact hz,jf.reverse,r.rev,e6.new _ _⟩
end
end L2
namespace Pu
open PySem PySem.Spec L2
section
variable {T:PotK}{ι:Type}{K:A7}{F:ι->Cx}{e:Expr}{pe:pE}{pos p2 p3 p4:Pos}
theorem Reps.rev:∀{xs:List PV} {vs:List V},Reps K G H xs vs->Reps K G H xs.reverse vs.reverse
 |[],vs,r=>by obtain rfl:vs=[]:=r;exact rfl
 | x :: xs, vs, r => by
  obtain⟨v,r',rfl,r1,r2⟩:=r;rw[k7,k7];exact(Reps.rev r2).append ⟨v,[],rfl,r1,rfl⟩
def wRev:w1:=λx R=>match x with|.lst xs=>R (.lst xs.reverse)|.tup xs=>R (.tup xs.reverse)|_=>False
theorem qe_rev {i:Nat}(he:QR T K F e pe)(hK:∀z,(F z).K=K):QE T K F (.Subscript e (.Slice none none (some (.UnaryOp .USub (.Constant (.int 1) i p3) p4)) p2) pos) (qUn wRev pe):=by
 obtain⟨t,h1,h2⟩:=he;refine⟨_,λz=>hK z▸pe_rev (h1 z) (pe_un JC F4),λC G σ H env n R Q hK hT S hp k=>?_⟩;refine h2 C G σ H env n _ _ hK hT S hp λx jc n1 v H1 p1 S1 r1 f1=>?_;subst hK;have rx:=r1.rd S1;refine⟨1,rfl,rfl,?_⟩;unfold wRev at p1
 split at p1
 ·obtain⟨a,vs,ev,hq,r⟩:=rx.lst;exact⟨a,vs,ev,.inl ⟨hq,λp hn=>k _ _ _ _ _ p1 (S1.same (Same.lay1 hn)) (DC (S1.fresh hn) hn r.rev) (f1.trans (Fr.of (Same.lay1 hn)))⟩⟩
 ·obtain⟨a,vs,ev,hq,r⟩:=rx.tup;exact⟨a,vs,ev,.inr ⟨hq,λp hn=>k _ _ _ _ _ p1 (S1.same (Same.lay1 hn)) (AG (S1.fresh hn) hn r.rev) (f1.trans (Fr.of (Same.lay1 hn)))⟩⟩
 grind
end
end Pu
end
section
namespace L2
open PySem PySem.Spec PyProof.Rows
structure Tup0 (K:A7)(mg:Str->Option A1)(x:Str)(cs:List Str):Prop where
 ex:∃a,mg x=some (.ref a)/\∀H,SqT K H a (cs.map V.str)
theorem P_ {K:A7}{h:B1}{mg:Str->Option A1}{x:Str}{cs:List Str}(X:K.In h)(G:h.Ns T3 mg){f:A0}{od:Option A0}{jf:Array A1}{n:Nat}{osl:Array (Option A1)}
   (a:PySem.W.nsIn K T3 x=some (some (.ref f))) (l:K.lookup f=some ⟨.type "tuple",od,.seq jf n,osl⟩) (v:Vals (cs.map V.str) jf.toList) (z:cs.length<=1000):Tup0 K mg x cs:=
 ⟨f,PySem.W.mg_of X G a,λH=>.inr ⟨_,jf,n,l,rfl,rfl,(show cs.length=jf.size by simpa using v.length)▸E5 z (by decide),v⟩⟩
theorem Qa:Vals [] []:=.nil
theorem Fs {x:Str}{t:Tok}{vs:List V}{us:List A1}(h:Vals vs us):Vals (.str x::vs) (.str x t::us):=.cons ⟨t,rfl⟩ h
end L2
namespace Pu
open PySem PySem.Spec L2
section
variable {T:PotK}{ι:Type}{K:A7}{F:ι->Cx}{e:Expr}{pe:pE}{pos p2:Pos}
def wInC (d:Nat)(cs:List Str):w1:=λx R=>grd (cmpb d x) (R (.bl (memP x (cs.map PV.str))))
theorem qe_inC (d:Nat){x:Str}{cs:List Str}{k:Nat}(hr:∀z,Room k (F z).A){mg:Str->Option A1}(hT:Tup0 K mg x cs)(hg:∀z,Gl (F z) x)(ha:QE T K F e pe)(hd:d<=30)(hn:(x == ("__debug__":Str))=false)(hK:∀z,(F z).K=K)(hmg:∀z,(F z).mg=mg)(hm:AU .In (.Name x p2)=false) :
   QE T K F (.Compare e [.In] [.Name x p2] pos) (qUn (wInC d cs) pe):=by
 obtain⟨t,h1,h2⟩:=ha;obtain⟨a,m0,sq⟩:=hT.ex;refine⟨_,λz=>JD (hK z▸Km d (by have:=(hr z).units;omega)) (h1 z) (Jw (v:=.ref a) (hg z) (by rw[hmg z];exact m0) rfl hn) hm,λC G σ H env n R Q hK hT S hp k=>?_⟩;refine h2 C G σ H env n _ _ hK hT S hp λx jc n1 v H1 p1 S1 r1 f1=>?_;subst hK;refine⟨a,cs.map V.str,λj=>match(cs.map PV.str)[j]? with|some y=>eqP y x|none=>false,rfl,.inr (sq _),λj z ez=>?_,?_⟩
 ·rw[C6] at ez;cases ec:cs[j]? with
  |none=>rw[ec] at ez;cases ez
  | some c =>
   rw[ec] at ez;cases ez;dsimp only;rw[C6,ec];exact Fk d (.str c) x (.str c) v (by cases d <;> rfl) (DF p1) (.inl rfl) (.inl r1)
 ·have e1:(cs.map V.str).length=(cs.map PV.str).length:=by rw[A9,A9]
  have e2:((C7 (cs.map PV.str).length).any λj=>match(cs.map PV.str)[j]? with|some y=>eqP y x|none=>false)=memP x (cs.map PV.str):=Hg _;rw[e1,e2];exact k _ _ _ _ _ (Bq p1) S1 rfl f1
end
end Pu
end
section
namespace L2
open PySem PySem.Spec PyProof.Rows
section
variable {X:Cx}{a:Expr}{ta:TE}{pos:Pos}
theorem Qb (ha:PE X a ta):PE X (.UnaryOp .Not a pos) (λσ H Q=>ta σ H λx H'=>∃k,TruV X.K x H' k/\Q (.bl (!k)) H'):=by
 intro jb s σ H Q I h;refine UnaryOp_ (thn (ha jb s σ H _ I h) λv s1 ⟨x,H1,I1,r1,q1⟩=>?_);exact not_of (thn (JG jb s1 σ H1 x v (λk H=>Q (.bl (!k)) H) I1 r1 q1) λb s2 ⟨H2,I2,q2⟩=>⟨.bl (!b),H2,I2,rfl,q2⟩)
end
end L2
namespace Pu
open PySem PySem.Spec L2
section
variable {T:PotK}{ι:Type}{K:A7}{F:ι->Cx}{e:Expr}{pe:pE}{pos:Pos}
def Z1 (pe:pE):pE:=λenv n R=>pe env n λx jc n1=>match W4 x with|some b=>R (.bl (!b)) jc n1|none=>False
theorem Qc (h:QR T K F e pe)(hK:∀z,(F z).K=K):QE T K F (.UnaryOp .Not e pos) (Z1 pe):=by
 obtain⟨t,a1,a2⟩:=h;refine⟨_,λz=>hK z▸Qb (a1 z),λC G σ H env n R Q hK hT S hp k=>?_⟩;refine a2 C G σ H env n _ _ hK hT S hp λx jc n1 v H1 q1 S1 r1 f1=>?_
 split at q1
 ·rename_i b eb;subst hK;exact⟨b,KG eb (r1.rd S1),k _ _ _ _ _ q1 S1 rfl f1⟩
 ·exact q1.elim
def Z2 (i:Nat)(pe:pE):pE:=λenv n R=>(∃xs,env[i]?=some (some (.ow .lst xs)))/\pe env n λy jc n1=>match jc[i]?,y with|some (some (.ow .lst xs)),.lst ys=>xs.length+ys.length<=1000000/\R .non (jc.set i (some (.ow .lst (xs++ys)))) n1|_,_=>False
theorem Qd (i:Nat)(hv:∀z,EW (F z) (.Name x p) (tVar i))(he:QE T K F e pe)(hs:F3 e=true)(hbase:∀z,AV (.Name x p) "extend" (F z).env (eval (.Name x p) (F z).env)=eval (.Name x p) (F z).env)(hline:(ap.endLine == pos.line)=true)
   (hfew:∀z,((backTo pos (E8 [e] (F z).env)).all (λx=>!x.1)&&(backToKw pos (BH [] (F z).env)).all (λx=>x.1.isSome)&&decide (([e]:List Expr).length+([]:List Z7).length+(if([]:List Z7).isEmpty then 0 else 1)<30))=true) (hK:∀z,(F z).K=K):QE T K F (.Call (.Attribute (.Name x p) "extend" ap) [e] [] pos) (Z2 i pe):=by
 obtain⟨t,a1,a2⟩:=he;refine⟨tBM K "list" JZ (tVar i) (p6 t tNil),λz=>hK z▸Fd GG PySem.F.slot_list_extend PySem.F.type_list_extend Ot (hv z).h (F5 (a1 z) K5 (D4 hs)) (hbase z) (hfew z) hline (D4 hs),λC G σ H env n R Q hK hT S hp k=>?_⟩;obtain⟨⟨xs0,e0⟩,hp⟩:=hp;obtain⟨a,vs,ev,h1,h2,h3,h4,r⟩:=S.slots i _ e0;refine⟨.ref a,ev,.inl ⟨rfl,vs,SqL.of h4⟩,?_⟩;refine a2 C G σ H env n _ _ hK hT S hp λy jc n1 v H1 q1 S1 r1 f1=>?_
 split at q1
 ·rename_i xs ys ex;obtain⟨a',us,ev',g1,g2,g3,g4,r'⟩:=S1.slots i _ ex;rw[ev] at ev';cases ev';subst hK;obtain⟨b,ws,rfl,tb,rb⟩:=r1;obtain⟨S2,f2⟩:=S1.put ex ev (r'.append rb);exact⟨a,b,us,ws,rfl,rfl,g4,tb.2,by rw[<- r'.length,<- rb.length];exact mil q1.1,k _ _ _ _ _ q1.2 S2 rfl (f1.trans f2)⟩
 ·exact q1.elim
end
end Pu
end
section
namespace L2
open PySem PySem.Spec PyProof.Rows
theorem KN:∀{ys:List Str} {us:List A1},Vals (ys.map V.str) us->StrsAre us ys
 |[],us,r=>by rw[List.map_nil] at r;cases r;exact .nil
 | y :: ys, us, r => by
  rw[J8] at r;cases r with
  | cons r1 r2 =>
   obtain⟨t,e⟩:=r1;subst e;exact .cons y t (KN r2)
section
variable {X:Cx}{pos:Pos}
theorem Qe:seqSlot? (.type "list") (dunderI "add")=pure (some (.builtin "list.__iadd__")):=rfl
theorem Qg:fillsInplaceSlot (.type "list") "add" (Operator.Add == .Add)=pure false:=rfl
def KO:R2:=λx y H Q=>∃l b xs zs,x=.ref l/\y=.ref b/\H l=some (.lst xs)/\H b=some (.lst zs)/\xs.length+zs.length<=B7/\Q (.ref l) (upd H l (.lst (xs++zs)))
theorem Qh:OpR X (inplaceOp .Add) KO:=by
 intro jb s σ H x y v u Q I rx ry h;obtain⟨l,b,xs,zs,rfl,rfl,hH,hB,hz,q⟩:=h;cases rx;cases ry;obtain⟨z,jf,n,r,hl,e⟩:=I.lstM hH;obtain⟨z2,its2,n2,r2,hl2,e2⟩:=I.lstM hB;have hsz:jf.toArray.size+its2.toArray.size<=B7:=by rw[D9,D9];omega
 have hlong:¬(!jf.toArray.isEmpty&&ES (jf.toArray.size+its2.toArray.size))=true:=by
  rw[JW hsz,EG];exact V2
 have ha:s.TypeIs (.ref l) "list":=⟨_,e,rfl⟩;have hb:s.TypeIs (.ref b) "list":=⟨_,e2,rfl⟩;unfold inplaceOp;refine N4 ?_;refine A2 (w6 ha (A2 (AZ Qg ?_)));show A5 _ _ (if false=true then _ else _) _ _ s;rw[ju V2];refine A2 (binaryOp1_none (nm:="add") ha hb noFill_list_add ?_);refine A2 (AZ Qe ?_);refine A2 (j9 ?_)
 refine call_meets F.slot_list_iadd ha F.entry_list_iadd (F.args_list_iadd_2 _ _)
   (AutoSeq1.list___iadd___list_list_0 l jf.toArray n b its2.toArray n2 hlong (by omega) (by omega)) ⟨e,e2,?_⟩
 refine⟨.ref l,_,I.lset (its':=jf++its2) hH e (by simp) (r.append r2) ?_,rfl,q⟩;rw[D7];omega
end
end L2
namespace Pu
open PySem PySem.Spec L2
section
variable {T:PotK}{np:Bool}{ι:Type}{K:A7}{F:ι->Cx}{e:Expr}{st:Stmt}{pe:pE}{pos:Pos}
theorem sw_aug {X:Cx}{i:Nat}{x:Str}{e:Expr}{op:Operator}{ti:TIp}{pos' pos:Pos}(hN:X.N.Nodup)(hi:X.N[i]?=some x)(hx:Loc X.env.scope x)(ho:OpR X (inplaceOp op) ti)(hf:X.fn x=true\/X.env.scope.names.lookup x=some .local:=by first|exact .inl rfl|exact .inr rfl|assumption)(te:TE)(h:EW X e te):SW X (.AugAssign (.Name x pos') op e pos) (tAug i te ti):=⟨ps_aug hN hi hx h.h ho hf⟩
def Z3 (i:Nat)(pe:pE):pS:=λD env n=>(∃xs,env[i]?=some (some (.ow .lst xs)))/\pe env n λy jc n1=>match jc[i]?,y with|some (some (.ow .lst xs)),.lst ys=>xs.length+ys.length<=1000000/\D.nx (jc.set i (some (.ow .lst (xs++ys)))) n1|_,_=>False
theorem Qi (i:Nat)(h:∀z te,EW (F z) e te->SW (F z) st (tAug i te KO))(he:QE T K F e pe):QS T np K F st (Z3 i pe):=by
 obtain⟨t,a1,a2⟩:=he;refine⟨_,λz=>(h z _ ⟨a1 z⟩).h,λC G σ H env n PD D hK hT hn S hp L=>?_⟩;obtain⟨⟨xs0,e0⟩,hp⟩:=hp;obtain⟨a,vs,ev,h1,h2,h3,h4,r⟩:=S.slots i _ e0;refine⟨.ref a,ev,?_⟩;refine a2 C G σ H env n _ _ hK hT S hp λy jc n1 v H1 q1 S1 r1 f1=>?_
 split at q1
 ·rename_i xs ys ex;obtain⟨a',us,ev',g1,g2,g3,g4,r'⟩:=S1.slots i _ ex;rw[ev] at ev';cases ev';subst hK;obtain⟨b,ws,rfl,tb,rb⟩:=r1;obtain⟨S2,f2⟩:=S1.put ex ev (r'.append rb);refine⟨a,b,us,ws,rfl,rfl,g4,tb.2,by rw[<- r'.length,<- rb.length];exact mil q1.1,?_⟩
  have es:σ.set i (some (.ref a))=σ:=by
   obtain⟨hi,e⟩:=E1.mp ev;rw[<- e];exact List.set_getElem_self hi
  show D.nx (σ.set i (some (.ref a))) _;rw[es];exact L.nx _ _ _ _ _ q1.2 S2 (Ext.fr (f1.trans f2))
 ·exact q1.elim
end
section
variable {ι:Type}{K:A7}{F:ι->Cx}{a b:Expr}{pos pos':Pos}{pa pb:pE}
def DO (K:A7):Sp:=λvs H Q _=>∃(a:A0) (ns:List Int) (k:Int),vs=[.ref a,.int k]/\SqL K H a (ns.map V.int)/\ns.length<=63/\0<=k/\k<=1000/\
 ∀H1,Same H H1->∀p own seed,H1 p=none->Cn own seed 0->Q (.ref p) (upd H1 p (.lst [.int own,.int seed,.int 0]))
theorem Qj {P:C3}{w:B8}{mg:Str->Option A1}{base:B1}{x:Str}{k:Nat}{ps:List Str}(G:Kn P w K mg base x k ps (spPot K)):Kn P w K mg base x k ps (DO K):=G.imp λvs H Q E h=>by
 obtain⟨a,ns,k,e,hs,_,h0,h1,q⟩:=h;exact⟨a,ns,k,e,hs,h0,h1,q H (Same.refl _)⟩
def Z4 (i:Nat)(pa pb:pE):pS:=λD env n=>pa env n λx jc n1=>pb jc n1 λy jd n2=>match x,y with|.scr ns,.int k=>(ns.length<=63/\0<=k/\k<=1000)/\∀q:Nat,D.nx (jd.set i (some (.v (.pot q)))) n2|_,_=>False
theorem Qk (i:Nat){st:Stmt}{x:Str}{p:Pos}{k j:Nat}{ps:List Str}(h:∀z te,EW (F z) (.Call (.Name x p) [a,b] [] pos) te->SW (F z) st (tAsg te (P9 i)))(hG:∀z,Kn (F z).prog (F z).w (F z).K (F z).mg (F z).base x k ps (DO K))(hr:∀z,Room j (F z).A)(hk:k<=j)(hg:∀z,Gl (F z) x)
   (ha:QE potL K F a pa) (hb:QE potL K F b pb) (n1:F3 a=true) (n2:F3 b=true) (hdb:(x == ("__debug__":Str))=false):QS potL true K F st (Z4 i pa pb):=by
 obtain⟨t,a1,a2⟩:=ha;obtain⟨u,b1,b2⟩:=hb;refine⟨_,λz=>(h z _ ⟨pe_fn (hG z) (hr z) hk (hg z) (F5 (a1 z) (F5 (b1 z) K5 (D4 n2)) (D4 n1)) hdb (D4 n1) (by rw[D4 n2];rfl)⟩).h,λC G σ H env n PD D hK hT hn S hp L=>?_⟩;refine a2 C G σ H env n _ _ hK hT S hp λx jc n1 v H1 q1 S1 r1 f1=>?_;refine b2 C G σ H1 jc n1 _ _ hK hT S1 q1 λy jd n2 w H2 q2 S2 r2 f2=>?_
 split at q2
 ·rename_i ns kk;obtain⟨a,ev,hq⟩:=DH (.inl (r1.fr f2));refine(show DO K [v,w] H2 (λx H1=>P9 i x σ H1 D.nx) E0 from ?_);refine⟨a,ns,kk,by rw[ev,show w=.int kk from r2],hq,q2.1.1,q2.1.2.1,q2.1.2.2,λH3 sm p own seed hn' ok=>?_⟩;have S3:=(S2.same sm).pot hn hT hn' ok;have S4:=S3.set i (x:=.pot G.pots.length) (v:=.ref p) ⟨p,by simp,rfl⟩;refine L.nx _ _ _ _ _ (q2.2 _) S4 ((Ext.fr ((f1.trans f2).trans (Fr.of sm))).trans ⟨λb o _ e=>Same.lay1 hn' b o e,λc hc=>(C9.mp (show c∈p::G.M from hc)).elim (λz=>.inr (z▸hn')) .inl,λk q e=>?_⟩);obtain⟨hk,_⟩:=E1.mp e;show(G.pots++[p])[k]?=_;rw[Q7 hk];exact e
 ·exact q2.elim
end
end Pu
end
section
namespace L2
open PySem PySem.Spec PyProof.Rows
theorem KP {X:Cx}{scope:E3}{cl:List (Str×A0)}{N:List Str}{jb:List (A0×Obj)}{σ σ3:St}{H2 H3:Hp}{s2 s4:A4}{fp:List A0}{i:Nat}{y:Str}{py:Pos}{DD:Ends}(hN:X.N.Nodup)(hiy:X.N[i]?=some y)(hy:Loc X.env.scope y)(hff:X.fn y=true\/X.env.scope.names.lookup y=some .local)(I2:Inv X jb σ H2 s2)(f2:∀b∈fp,FpOk X jb H2 b)(I4:Inv (D1 X scope cl N fp (s2.heap.objs.size+1) s2 H2) jb σ3 H3 s4)(qn:DD.nx (σ.set i (some (.ref s2.heap.objs.size))) H3) :
   compPost (A6 X.prog X.w) X.A X.xe (some (assign (.Name y py) X.env)) (λ_ s'=>SP X jb DD .next s') (.ref s2.heap.objs.size) (s2.heap.objs.size+1) (.ok .next) s4:=by
 obtain⟨m4,hn4,_⟩:=I4.loc;have I5:Inv X jb σ H3 s4:=Inv.uncomp (h':=s4.heap) I2 f2 I4 λb hb=>rfl;have fr:H3 (s2.heap.objs.size+1)=none:=I4.free;have oldne:∀{b o},s2.heap.get? b=some o->b≠s2.heap.objs.size+1:=λe=>D6 (x9 (B9 e));have locne:X.env.locals≠s2.heap.objs.size+1:=D6 (x9 I2.lt)
 have cellne:∀x c,X.env.cells.lookup x=some c->c≠s2.heap.objs.size+1:=λx c e=>by
  obtain⟨v,o,h1,_⟩:=I2.cell x c e;exact oldne h1
 have pinne:∀p∈X.pn++jb,p.1≠s2.heap.objs.size+1:=λp hp=>oldne (I2.pin p hp).1;have sz:X.s₀.heap.objs.size<=s2.heap.objs.size+1:=Nat.le_succ_of_le I2.sz;clear I4 I2;generalize s2.heap.objs.size+1=C at *;refine wpAny_assign_Name (Jt I5 hN hiy hy (v:=.ref s2.heap.objs.size) rfl (λs6 I6 ⟨a6,sb6,ha6⟩=>?_) hff);refine⟨m4,hn4.sameBut sb6 (ha6.elim (λz=>by rw[z];exact Ne.symm locne) λz=>Ne.symm (cellne _ _ z)),λh' hs'=>⟨_,H3,?_,qn⟩⟩;have U0:Un (frs X.stack) [C] H3 H3 s6.heap s6.heap:=Un.refl;have hx':∀{b},b∉[C]->h'.get? b=s6.heap.get? b:=λ{b} hx=>hs'.2 b λz=>hx (by rw[z];simp)
 have trC:∀{b u},H3 b=some u->b∉[C]:=λ{b u} e z=>by
  rw[J6.mp z,fr] at e;cases e
 obtain⟨hh6,g6,d6,t6,os6⟩:=s6;refine I6.call (h':=h') (g':=g6) (d':=d6) (t':=t6) (ch:=[C]) ⟨λb o e n hb hx=>?_,λb o e n hb hx=>?_,U0.free,λb o e hx=>?_,U0.tups,U0.frzs,U0.tbls,U0.sys⟩ (λb u e=>?_) I6.bare λb hb=>?_
 ·rw[hx' hx];exact U0.keep b o e n hb hx
 ·rw[hx' hx];exact U0.slot b o e n hb hx
 ·rw[hx' hx];exact U0.there b o e hx
 ·refine(I6.hok b u e).stay (λc v hc q=>?_) (λ_ q=>q) λ_ _ q=>q;rw[hx' (hc.elim (λz=>by rw[z];exact trC e) trC)];exact q
 ·rw[J6.mp hb];exact⟨.inr sz,Ne.symm locne,cellne,pinne⟩
theorem Ql {X:Cx}{scope:E3}{cl:List (Str×A0)}{N:List Str}{cs:List (Option Nat)}{ji tg iter:Expr}{jk:List Expr}{pos spos py:Pos}{wi:TI}{g:TG}{tt:TT}{te:TE}{i:Nat}{y:Str}(hN:X.N.Nodup)(hiy:X.N[i]?=some y)(hy:Loc X.env.scope y)(S:R5 X scope cl N cs)(hc:X.calm=true)(hi:PI X tg iter wi)
   (hb:∀(fp:List A0) (C:A0) (s:A4) (H:Hp),PG (D1 X scope cl N fp C s H) tg g/\PIf (D1 X scope cl N fp C s H) jk tt/\PE (D1 X scope cl N fp C s H) ji te)
   (hsw:k5 (.ListComp ji [⟨tg,iter,jk,0⟩] scope pos) (some (.Name y py)) spos.line X.env=pure true:=by rfl)
   (hs:∀x,G7 iter X.env x=pure x:=by intro _;rfl) (hff:X.fn y=true\/X.env.scope.names.lookup y=some .local:=by first|exact .inl rfl|exact .inr rfl|assumption) :
   PS X (.Assign [.Name y py] (.ListComp ji [⟨tg,iter,jk,0⟩] scope pos) spos) (tAsg (GZ cs wi g tt te) (P9 i)):=by
 intro jb s σ H DD I h;rw[exec_Assign_Name_used _ _ _ _ hsw];refine A2 (j8 (A2 (A2 (F7 (Q:=λ_ s'=>SP X jb DD .next s') (Ff S hc hi hs I h λfp it tn J s2 H2 s₃ T stat I2 f2 q Ic st1 fr1=>?_) (λ_ s' hq=>A8 (A8 hq)) λ_ _ e=>e))));obtain⟨W,⟨m0,w0⟩,turn⟩:=q;obtain⟨hg,hf,he⟩:=hb fp (s2.heap.objs.size+1) s2 H2;exact GX _ (Fe (Y:=D1 X scope cl N fp (s2.heap.objs.size+1) s2 H2) T hc stat hg hf he (λs4 σ3 H3 I4 qn=>KP hN hiy hy hff I2 f2 I4 qn) turn) m0 ⟨0,_,_,Ic,st1,fr1,w0⟩
end L2
namespace Pu
open PySem PySem.Spec L2
def SwOk (X:Cx)(e:Expr)(t:TE):Prop:=∀(i:Nat) (y:Str) (py spos:Pos),X.N.Nodup->X.N[i]?=some y->Loc X.env.scope y->k5 e (some (.Name y py)) spos.line X.env=pure true->(X.fn y=true\/X.env.scope.names.lookup y=some .local)->PS X (.Assign [.Name y py] e spos) (tAsg t (P9 i))
inductive QNC {ι:Type}(T:PotK)(K:A7)(F:ι->Cx)(e:Expr)(pn:pA):Prop
 |mk t (a:(∀z,PE (F z) e t)) (b:(∀z,SwOk (F z) e t)) (c:NOk K T t pn):QNC T K F e pn
section
variable {T:PotK}{np:Bool}{ι:Type}{K:A7}{F:ι->Cx}{e:Expr}{pl:pA}{pg:pG}{pos:Pos}
theorem Qm {scope:E3}{cl:ι->List (Str×A0)}{N:List Str}{cs:List (Option Nat)}{ji tg iter:Expr}{jk:List Expr}{pi:pA}{ptt:pT}{pte:pE}(S:∀z,R5 (F z) scope (cl z) N cs)(hc:∀z,(F z).calm=true)(hi:QI T K F tg iter pi)
   (hg:QG K (λy:ι×List A0×A0×A4×Hp=>D1 (F y.1) scope (cl y.1) N y.2.1 y.2.2.1 y.2.2.2.1 y.2.2.2.2) tg pg) (ht:QIf T K (λy:ι×List A0×A0×A4×Hp=>D1 (F y.1) scope (cl y.1) N y.2.1 y.2.2.1 y.2.2.2.1 y.2.2.2.2) jk ptt)
   (he:QE T K (λy:ι×List A0×A0×A4×Hp=>D1 (F y.1) scope (cl y.1) N y.2.1 y.2.2.1 y.2.2.2.1 y.2.2.2.2) ji pte)
   (hs:∀z x,G7 iter (F z).env x=pure x:=by intro _ _;rfl):QNC T K F (.ListComp ji [⟨tg,iter,jk,0⟩] scope pos) (E6 cs pi pg ptt pte):=by
 obtain⟨wi,i1,i2⟩:=hi;obtain⟨g,hg0,hg⟩:=hg;obtain⟨tt,ht0,ht⟩:=ht;obtain⟨te,he0,he⟩:=he;refine⟨_,λz=>Ka (S z) (hc z) (i1 z) (λfp C s H=>⟨hg0 (z,fp,C,s,H),ht0 (z,fp,C,s,H),he0 (z,fp,C,s,H)⟩) (hs z),λz i y py spos hN hi hy hsw hf=>Ql hN hi hy (S z) (hc z) (i1 z) (λfp C s H=>⟨hg0 (z,fp,C,s,H),ht0 (z,fp,C,s,H),he0 (z,fp,C,s,H)⟩) hsw (hs z) hf,λC G σ H env n R Q hK hT S hp k=>?_⟩;refine i2 C G σ H env n _ _ hK hT S hp λxs jc n1 J H1 p1 S1 f1 hJ=>?_;intro D hD;have hDM:=S1.fresh hD;refine Hs (G:=G) hg ht he hJ p1.1 hD (hT▸hK▸DK S1 cs) p1.2 λys n2 us H' rr hpots hk eD ry=>?_
 -- the heap without D
 have nD:∀b o,H1 b=some o->b≠D:=λb o e z=>by rw[z,hD] at e;cases e
 have hD0:C.H0 D=none:=by
  cases z:C.H0 D with
  |none=>rfl
  | some o =>
   by_cases hp:D∈C.pots0
   ·exact absurd (S1.sup D (S1.p0.1 D hp)) hDM
   ·have:=S1.frame D o hp z;rw[hD] at this;cases this
 have hk2:∀b o,b∉G.pots->H1 b=some o->cutH H' D b=some o:=λb o hb e=>by rw[L6 (nD b o e)];exact hk b o hb e
 have nc:∀b,b∉D::G.M->b≠D:=λb hb z=>hb (by rw[z];exact B2);have np:∀p∈G.pots,p≠D:=λp hp z=>hDM (z▸(S1.pots p hp).1)
 have Sb:SR C G σ (cutH H' D) jc n2:=S1.call hk2 λp hp=>by
  subst hT;have h2:=C.T.keep (hpots p hp) (H':=cutH H' D) (L6 (np p hp)) λb o hb e=>by rw[L6 (nc b hb)];exact e
  exact C.T.more h2 λa ha=>.inl (B4 _ ha)
 have:=k ys jc n2 D us (cutH H' D) rr Sb (f1.trans λb o hb e=>hk2 b o (λz=>hb (S1.pots b z).1) e) (by unfold cutH;rw[jt rfl]) ?_
 ·rw[DL eD] at this;exact this
 ·exact Reps.mono (G:=⟨D::G.M,G.pots⟩) (λb o hb e=>by rw[L6 (nc b hb)];exact e) (λa ha=>.inl (B4 _ ha)) (λ_ _ e=>e) _ _ ry
theorem Qn (i:Nat){y:Str}{py spos:Pos}(h:QNC T K F e pl)(hN:∀z,(F z).N.Nodup)(hi:∀z,(F z).N[i]?=some y)(hy:∀z,Loc (F z).env.scope y)(hsw:∀z,k5 e (some (.Name y py)) spos.line (F z).env=pure true)(hf:∀z,(F z).fn y=true\/(F z).env.scope.names.lookup y=some .local):QS T np K F (.Assign [.Name y py] e spos) (qOwn i pl):=by
 obtain⟨t,a1,a3,a2⟩:=h;refine⟨_,λz=>a3 z i y py spos (hN z) (hi z) (hy z) (hsw z) (hf z),λC G σ H env n PD D hK hT hn S hp L=>?_⟩;refine a2 C G σ H env n _ _ hK hT S hp λxs jc n1 a vs Hb q1 S1 f1 hn1 r1=>?_;exact L.nx _ _ _ _ _ q1 (S1.own i hn1 (hK▸r1)) ((Ext.fr f1).trans (Fo hn1))
theorem Qo (i:Nat){y:Str}{py spos:Pos}(h:QNC T K F e pl)(hN:∀z,(F z).N.Nodup)(hi:∀z,(F z).N[i]?=some y)(hy:∀z,Loc (F z).env.scope y)(hsw:∀z,k5 e (some (.Name y py)) spos.line (F z).env=pure true)(hf:∀z,(F z).fn y=true\/(F z).env.scope.names.lookup y=some .local):QS T np K F (.Assign [.Name y py] e spos) (qSet i (qL pl)):=by
 obtain⟨t,a1,a3,a2⟩:=h
 have he:EOk K T t (qL pl):=λC G σ H env n R Q hK hT S hp k=>by
  refine a2 C G σ H env n _ _ hK hT S hp λxs jc n1 a vs Hb p1 S1 f1 hn r1=>?_;exact k _ _ _ _ _ p1 (S1.same (Same.lay1 hn)) (DC (S1.fresh hn) hn r1) (f1.trans (Fr.of (Same.lay1 hn)))
 refine⟨_,λz=>a3 z i y py spos (hN z) (hi z) (hy z) (hsw z) (hf z),λC G σ H env n PD D hK hT hn S hp L=>?_⟩;refine he C G σ H env n _ _ hK hT S hp λx jc n1 v H1 q1 S1 r1 f1=>?_;exact L.nx _ _ _ _ _ q1 (S1.set i (hK▸r1)) (Ext.fr f1)
end
def shK:Key->Prop
 |.inl i=>i.natAbs<10 ^ 60
 |.inr x=>∀c∈x.cps.toList,c<16 ^ 8
def DP:Key->Nat
 |.inl _=>61
 |.inr x=>10*x.length+2
mutual
def shw:PV->Prop
 |.non=>True
 |.bl _=>True
 |.int i=>i.natAbs<10 ^ 60
 |.str x=>∀c∈x.cps.toList,c<16 ^ 8
 |.tup xs=>shws xs
 |.lst xs=>shws xs
 |.dct ks xs=>(∀k∈ks,shK k)/\shws xs
 |_=>False
def shws:List PV->Prop
 |[]=>True
 |x::xs=>shw x/\shws xs
end
mutual
def cost:PV->Nat
 |.non=>4
 |.bl _=>5
 |.int _=>61
 |.str x=>10*x.length+2
 |.tup xs=>u3 xs+3
 |.lst xs=>u3 xs+3
 |.dct ks xs=>(ks.map λk=>DP k+4).sum+u3 xs+3
 |_=>0
def u3:List PV->Nat
 |[]=>0
 |x::xs=>cost x+2+u3 xs
end
mutual
def dep:PV->Nat
 |.tup xs=>deps xs+1
 |.lst xs=>deps xs+1
 |.dct _ xs=>deps xs+1
 |_=>0
def deps:List PV->Nat
 |[]=>0
 |x::xs=>max (dep x) (deps xs)
end
theorem KQ {i:Int}(h:i.natAbs<10 ^ 60):(B0 (toString i)).length<=61:=by
 have e:=int_text_length_le10 (k:=60) (by decide) h;rw[ofString_length];omega
theorem KR {i:Int}(h:i.natAbs<10 ^ 60):i.natAbs.log2<1920:=by
 by_cases h0:i.natAbs=0
 ·simp_all
 ·exact(Nat.log2_lt h0).mpr (Dc h (by grind))
theorem key_ok {k:Key}(h:shK k):(keyD k).showable=true/\(keyD k).depth=0/\(keyD k).shown.length<=DP k:=by
 cases k with
 |inl i=>exact⟨by simpa[keyD,p5] using KR h,by simp[keyD,z0],by simpa[keyD,z9,DP] using KQ h⟩
 |inr x=>exact⟨by simp[keyD,p5],by simp[keyD,z0],by simpa[keyD,z9,DP] using StrLaws.reprText_len x h⟩
theorem kv_ok:∀(ks:List Key) (ds:List PyData),(∀k∈ks,shK k)->BY ds=true->EO ((ks.map keyD).zip ds)=true/\EQ ((ks.map keyD).zip ds)<=Dn ds/\((BZ ((ks.map keyD).zip ds)).map (·.length)).sum+2*(BZ ((ks.map keyD).zip ds)).length<=(ks.map λk=>DP k+4).sum+((Bi ds).map (·.length)).sum+2*ds.length
 |[],ds,_,_=>by simp[EO,EQ,BZ]
 |k::ks,[],_,_=>by simp[EO,EQ,BZ]
 | k :: ks, d :: ds, hk, hd => by
  have hd':d.showable=true/\BY ds=true:=by simpa[BY] using hd
  obtain⟨h1,h2,h3⟩:=kv_ok ks ds (λx hx=>hk x (B4 _ hx)) hd'.2;obtain⟨g1,g2,g3⟩:=key_ok (hk k B2);refine⟨?_,?_,?_⟩
  ·simp[EO,g1,hd'.1,h1]
  ·simp only[J8,CS,EQ,Dn,g2];omega
  ·simp only[J8,CS,BZ,Bi,List.sum_cons,D2];rw[strLen_append,strLen_append];have:(B0 ": ").length=2:=rfl;omega
theorem Qp (ps:List Str):(dictText ps).length<=(ps.map (·.length)).sum+2*ps.length+3:=by
 have h:(Str.join ", " ps).length<=(ps.map (·.length)).sum+ps.length*2:=StrLaws.join_length_le ", " ps
 have e:(dictText ps).length=1+(Str.join ", " ps).length+1:=by
  unfold dictText;rw[strLen_append,strLen_append];rfl
 omega
mutual
theorem KS:∀(x:PV),shw x->∃d,dat x=some d/\d.showable=true/\d.depth<=dep x/\d.shown.length<=cost x
 |.non,_=>⟨_,rfl,by simp[p5],by simp[z0],by simp only[z9,cost];decide⟩
 |.bl b,_=>⟨_,rfl,by simp[p5],by simp[z0],by simp only[z9,cost];cases b <;> decide⟩
 |.int i,h=>⟨_,rfl,by simpa[p5] using KR h,by simp[z0],by simpa[z9,cost] using KQ h⟩
 |.str x,h=>⟨_,rfl,by simp[p5],by simp[z0],by simpa[z9,cost] using StrLaws.reprText_len x h⟩
 | .tup xs, h => by
  obtain⟨ds,e,h1,h2,h3,h4⟩:=Ft xs h;refine⟨.tuple ds,by rw[dat,e],by simpa[p5] using h1,by simp only[z0,dep];omega,?_⟩;have:=tupleText_len_le (Bi ds);have e2:=PyData.shownAll_length ds;simp only[z9,cost];omega
 | .lst xs, h => by
  obtain⟨ds,e,h1,h2,h3,h4⟩:=Ft xs h;refine⟨.list ds,by rw[dat,e],by simpa[p5] using h1,by simp only[z0,dep];omega,?_⟩;have:=listText_len_le (Bi ds);have e2:=PyData.shownAll_length ds;simp only[z9,cost];omega
 | .dct ks xs, h => by
  have h':(∀k∈ks,shK k)/\shws xs:=h;obtain⟨ds,e,h1,h2,h3,h4⟩:=Ft xs h'.2;obtain⟨g1,g2,g3⟩:=kv_ok ks ds h'.1 h1;refine⟨.dict ((ks.map keyD).zip ds),by rw[dat,e],by simpa[p5] using g1,by simp only[z0,dep];omega,?_⟩;have:=Qp (BZ ((ks.map keyD).zip ds));simp only[z9,cost];omega
 |.ty _,h=>h.elim
 |.pot _,h=>h.elim
 |.scr _,h=>h.elim
 |.fdt _ _,h=>h.elim
theorem Ft:∀(xs:List PV),shws xs->∃ds,dats xs=some ds/\BY ds=true/\Dn ds<=deps xs/\ds.length=xs.length/\((Bi ds).map (·.length)).sum+2*ds.length<=u3 xs
 |[],_=>⟨[],rfl,by simp[BY],by simp[Dn],rfl,by simp[Bi,u3]⟩
 | x :: xs, h => by
  have h':shw x/\shws xs:=h;obtain⟨d,e,a1,a2,a3⟩:=KS x h'.1;obtain⟨ds,e2,b1,b2,b3,b4⟩:=Ft xs h'.2;refine⟨d::ds,by rw[dats,e,e2],by simp[BY,a1,b1],by simp only[Dn,deps];omega,by simp[b3],?_⟩;simp only[Bi,u3,J8,List.sum_cons,D2];omega
end
def DQ (x:PV):Str:=match dat x with|some d=>d.shown|none=>B0 ""
theorem KT {x:PV}{R:PV->Prop}(h:shw x)(h1:dep x<=40)(h2:cost x<=10000000)(q:R (.str (DQ x))):Br x R:=by
 obtain⟨d,e,a1,a2,a3⟩:=KS x h;unfold Br DQ at *;rw[e] at q ⊢;exact⟨a1,by omega,by unfold B7;omega,q⟩
theorem KU:∀(xs:List PV),(∀x∈xs,shw x)->shws xs
 |[],_=>trivial
 |x::xs,h=>⟨h x B2,KU xs λy hy=>h y (B4 _ hy)⟩
theorem KW (k:Nat):∀(xs:List PV),(∀x∈xs,dep x<=k)->deps xs<=k
 |[],_=>D5 _
 | x :: xs, h => by
  have:=h x B2;have:=KW k xs λy hy=>h y (B4 _ hy);simp only[deps];omega
theorem KY (k:Nat):∀(xs:List PV),(∀x∈xs,cost x<=k)->u3 xs<=(k+2)*xs.length
 |[],_=>D5 _
 | x :: xs, h => by
  have h1:=h x B2;have h2:=KY k xs λy hy=>h y (B4 _ hy);simp only[u3,D2,Nat.mul_succ];omega
end Pu
end
section
namespace L2
open PySem PySem.Spec PyProof.Rows
def met (val:Nat->Key):Nat->List Key
 |0=>[]
 |i+1=>if(met val i).any (λy=>decide (y=val i)) then met val i else met val i++[val i]
section
variable {prog:C3}{w:B8}{A:C8}{E:A1->A4->Prop}{s:A4}
theorem Qq:isSubtype (.type "tuple") (.type "set")=pure false:=by rw[AT] <;> kernel_rfl
theorem Qr:isSubtype (.type "tuple") (.type "frozenset")=pure false:=by rw[AT] <;> kernel_rfl
theorem Qs:isSubtype (.type "list") (.type "set")=pure false:=by rw[AT] <;> kernel_rfl
theorem Qt:isSubtype (.type "list") (.type "frozenset")=pure false:=by rw[AT] <;> kernel_rfl
theorem Qu (x:A1){Q₁:A1->A4->Prop}
   (h:∀led:Bool,led=(!(w.params.followText "set-order"))->Q₁ (.ref s.heap.objs.size) { s with heap:=s.heap.push { cls:=.type "set",dict:=none,data:=.set #[] 0 (.fresh 0 0 led) } }) :
   L0 (A6 prog w) A (.call (.builtin "set.__new__") ⟨[.type "set",x],[]⟩) (wants Q₁ E) s:=by
 refine codeAny_of_tree (show A5 (A6 prog w) A.in1 (checkBuiltinCall "set.__new__" ⟨[.type "set",x],[]⟩>>=λ_=>again (.builtin "set.__new__" ⟨[.type "set",x],[]⟩)) _ _ s from ?_);refine A2 (AZ (F.newCall_set_1 x) (A8 ⟨BF F.plain_set_new _,Aq F.entry_set_new ?_⟩));rw[Do F.plain_set_new _];unfold L8.«set.__new__» Builtin.Frozenset.newClass;have ss:=sub_set_self;obtain⟨hp,gs,dr,tk,sy⟩:=s;dsimp only
 wp_walk
 refine Eh (A8 ?_);dsimp only;unfold newObj;refine A2 (wpAny_alloc (A8 (A8 (h _ ?_))))
 first|rfl|simp
abbrev soN (led:Bool):Obj:={ cls:=.type "set",dict:=none,data:=.set #[] 0 (.fresh 0 0 led) }
theorem Qv {a:A0}{jf:Array A1}{Z:B1->Prop}{Q:A1->A4->Prop}(hd:A.handled=none)(ht:s.heap.IsList a jf\/s.heap.IsTuple a jf)
   (lp:∀(I:A0) (St:Nat->A4->Prop) (fp:List A0) (G:Array GenState->Array GenState->Prop) (s1:A4) (R:Result->A4->Prop) (led:Bool),led=(!(w.params.followText "set-order"))->s.heap.objs.size<I->
     WalksS prog w A.in1.in1.in1 I fp [I] G jf.size (λi v=>jf[i]?=some v) St->s.heap.objs.size∉fp->St 0 s1->s1.heap.get? s.heap.objs.size=some (soN led)->(∀b o,s.heap.get? b=some o->s1.heap.get? b=some o)->
     (∀s',Moved [s.heap.objs.size,I] G s1 s'->Z s'.heap->R (.ok (.ret .none)) s')->L0 (A6 prog w) A.in1.in1 (.builtin "set.update.loop" ⟨[.ref s.heap.objs.size,.ref I],[]⟩) R s1)
   (fin:∀(h':B1) (tk:Nat),Z h'->(∀b o,b<s.heap.objs.size->s.heap.get? b=some o->h'.get? b=some o)->Q (.ref s.heap.objs.size) { s with heap:=h',toks:=tk }):A5 (A6 prog w) A (call (.type "set") [.ref a]) Q E s:=by
 obtain⟨c,tl,mr⟩:=PySem.F.called_set.mro;have md:=PySem.F.called_set.made;have sb:=PySem.F.called_set.sub;refine wpAny_call (codeAny_of_tree (show A5 (A6 prog w) _ (callAny (.type "set") _) _ _ s from ?_));refine A8 ⟨Code.quiet_builtin _ (by decide +kernel),Aq PySem.F.entry_type_call ?_⟩;rw[Around.under_plain (weight_type_call_type "set" [.ref a] []) rfl];have x1:=PySem.F.called_set.notType;have x2:=PySem.F.called_set.canCreate;have x3:=PySem.F.typeCall_set_1 (.ref a)
 repeat (any_goals (first|wp_step|assumption))
 refine AX (Qu (.ref a) (E:=E) (Q₁:=λob s₁=>∃led:Bool,led=(!(w.params.followText "set-order"))/\ob=.ref s.heap.objs.size/\s₁={ s with heap:=s.heap.push (soN led) }) λled hl=>⟨led,hl,rfl,rfl⟩) λr s₁ hr=>?_;cases r with
 |error e=>exact hr
 | ok fl =>
  cases fl with
  | ret ob =>
   obtain⟨led,hled,rfl,rfl⟩:=hr;have g0:(s.heap.push (soN led)).get? s.heap.objs.size=some (soN led):=E4 _ rfl;have ty:Shared.TypeIs { s with heap:=s.heap.push (soN led) } (.ref s.heap.objs.size) "set":=⟨_,g0,rfl⟩;have y1:=PySem.F.called_set.init.lookup;have y2:=PySem.F.called_set.init.bind (.ref s.heap.objs.size)
   repeat (any_goals (first|wp_step|assumption))
   refine AX (codeAny_call_builtin (R:=wants (λr s₂=>r=.none/\∃h' tk,s₂={ s with heap:=h',toks:=tk }/\Z h'/\
       (∀b o,b<s.heap.objs.size->s.heap.get? b=some o->h'.get? b=some o)) E) PySem.F.called_set.init.plain PySem.F.entry_set_init (PySem.check_set_init_1 ty ?_)) λr₂ s₂ hr₂=>?_
   ·clear fin;have h3:A.in1.in1.in1.handled=none:=by simp[hd]
    unfold L8.«set.__init__» noKeywords Builtin.Frozenset.updateFrom;generalize hP:pyIter=PI;rcases ht with⟨⟨oc,od,odt,os⟩,ho,hc,nl,hdl⟩|⟨⟨oc,od,odt,os⟩,ho,hc,nl,hdl⟩ <;>
    ·cases hc;cases hdl;have ho':=B6 (soN led) ho;have z1:=Qs;have z2:=Qt;have z3:(F9 "list" == F9 "dict")=false:=by decide
     have z4:=Qq;have z5:=Qr;have z6:(F9 "tuple" == F9 "dict")=false:=by decide
     wp_walk
     subst hP;have la:a<s.heap.objs.size:=B9 ho;have n1:a≠(s.heap.push (soN led)).objs.size:=by rw[T9];exact D6 (x9 la)
     have lI:s.heap.objs.size<(s.heap.push (soN led)).objs.size:=by rw[T9];exact Nat.lt_succ_self _
     have n2:s.heap.objs.size∉[(s.heap.push (soN led)).objs.size,a]:=λz=>by
      rcases C9.mp z with z|z
      ·exact D6 lI z
      ·exact y7 la (J6.mp z)
     have en:∀{s1 s':A4} {G},Moved [s.heap.objs.size,(s.heap.push (soN led)).objs.size] G s1 s'->Z s'.heap->s1.gens=s.gens->s1.drawn=s.drawn->s1.os=s.os->(∀b o,s.heap.get? b=some o->s1.heap.get? b=some o)->(∀x y,G x y->y=x)->∃h' tk,s'={ s with heap:=h',toks:=tk }/\Z h'/\(∀b o,b<s.heap.objs.size->s.heap.get? b=some o->h'.get? b=some o):=by
      intro s1 s' G mv zz e1 e2 e3 kp hG;obtain⟨h',g',d',tk',os'⟩:=s';obtain rfl:g'=s.gens:=(hG _ _ mv.gens).trans e1;obtain rfl:d'=s.drawn:=mv.drawn.trans e2;obtain rfl:os'=s.os:=mv.os.trans e3;refine⟨h',tk',rfl,zz,λb o hb e=>mv.heap b o (λz=>?_) (kp _ _ e)⟩;rcases C9.mp z with z|z
      ·exact D6 hb z
      ·exact D6 (Dc hb lI) (J6.mp z)
     first
       | (refine CN ⟨_,ho',rfl,nl,rfl⟩ (A2 (wpAny_runValue ?_))
          refine lp _ _ _ _ _ _ led hled lI ((Walks.list h3 _ a n1 jf).toS) n2 ⟨⟨_,E4 _ rfl,rfl,rfl⟩,⟨_,B6 _ ho',rfl,nl,rfl⟩⟩ (B6 _ g0) (λb o e=>B6 _ (B6 _ e)) λs' mv zz=>A8 (A8 ⟨rfl,?_⟩))
       | (refine BD ⟨_,ho',rfl,nl,rfl⟩ (A2 (wpAny_runValue ?_))
          refine lp _ _ _ _ _ _ led hled lI ((Walks.tuple h3 _ a n1 jf).toS) n2 ⟨⟨_,E4 _ rfl,rfl,rfl⟩,⟨_,B6 _ ho',rfl,nl,rfl⟩⟩ (B6 _ g0) (λb o e=>B6 _ (B6 _ e)) λs' mv zz=>A8 (A8 ⟨rfl,?_⟩))
     exact en mv zz rfl rfl rfl (λb o e=>B6 _ (B6 _ e)) λ_ _ e=>e
   ·cases r₂ with
    |error e=>exact hr₂
    | ok fl₂ =>
     cases fl₂ with
     | ret r =>
      obtain⟨rfl,h',tk,rfl,so',kp⟩:=hr₂
      repeat (any_goals (first|wp_step|assumption))
      exact fin _ _ so' kp
     |_=>exact hr₂.elim
  |_=>exact hr.elim
end
end L2
end
section
namespace Pu
open PySem PySem.Spec L2
theorem KZ (x:Str)(l u:Option Int):P8 x l u=Bj x l u:=rfl
theorem Qw (x:Str){p:Nat}(h:p<=x.length):(P8 x none (some (p:Int))).cps.toList=x.cps.toList.take p:=by
 rw[KZ]
 have e:Bj x none (some (p:Int))=Bj x (some ((0:Nat):Int)) (some (p:Int)):=by
  unfold Bj;rw[StrLaws.sliceIdx_none_lo];rfl
 rw[e,StrLaws.sliceText_nat x (D5 _) h];simp
theorem Qx (x:Str){p:Nat}(h:p<=x.length):(P8 x (some (p:Int)) none).cps.toList=x.cps.toList.drop p:=by
 rw[KZ]
 have e:Bj x (some (p:Int)) none=Bj x (some (p:Int)) (some ((x.length:Nat):Int)):=by
  unfold Bj;rw[StrLaws.sliceIdx_none_hi]
 rw[e,StrLaws.sliceText_nat x h (B3 _)];have:x.length=x.cps.toList.length:=Ad x;simp only;rw[CP (by rw[Bd];omega)]
def Ltr (c:Nat):Prop:=97<=c/\c<=122
def W5 (z:Str):Prop:=1<=z.cps.toList.length/\z.cps.toList.length<=8/\∀c∈z.cps.toList,Ltr c
abbrev LETS:Str:=B0 "abcdefghijklmnopqrstuvwxyz"
theorem Qy:LETS.cps.toList=(C7 26).map (97 + ·):=by decide +kernel
theorem K_:LETS.length=26:=by decide +kernel
theorem HB {d:Int}(d0:0<=d)(d1:d<26):atI LETS.cps.toList d=some (97+d.toNat):=by
 obtain⟨x,e1,e2⟩:=Dz (xs:=LETS.cps.toList) d0 (by rw[<- Ad,K_];exact d1);rw[e2,<- e1,Qy,C6,Er (by omega)]
 rfl
theorem Qz {α:Type}{zs:List α}(h:zs.Nodup){z:α}(hz:z∉zs)(j:Nat):(zs.set j z).Nodup:=by
 refine Z8.mpr λa b ha hb hab=>?_;rw[K3] at ha hb;rw[List.getElem_set,List.getElem_set]
 split
 ·split
  ·omega
  ·intro e;exact hz (e▸Av hb)
 ·split
  ·intro e;exact hz (e▸Av ha)
  ·exact Z8.mp h a b ha hb hab
end Pu
end
section
namespace L2
open PySem PySem.Spec PyProof.Rows
def ItB (b:Bool)(h:B1)(it l:A0)(i:Nat):Prop:=match b with|true=>h.IsListIter it l i|false=>h.IsTupleIter it l i
def SeB (b:Bool)(h:B1)(l:A0)(items:Array A1):Prop:=match b with|true=>h.IsList l items|false=>h.IsTuple l items
theorem ItB.at {b:Bool}{h h':B1}{it l:A0}{i:Nat}(x:ItB b h it l i)(e:∀o,h.get? it=some o->h'.get? it=some o):ItB b h' it l i:=by
 cases b with
 |true=>exact(show h.IsListIter it l i from x).at e
 |false=>exact(show h.IsTupleIter it l i from x).at e
theorem SeB.at (x:SeB b h l items)(e:∀o,h.get? l=some o->h'.get? l=some o):SeB b h' l items:=by
 cases b with
 |true=>exact(show h.IsList l items from x).at e
 |false=>exact(show h.IsTuple l items from x).at e
theorem ItB.obj (x:ItB b h it l i):∃o,h.get? it=some o/\(o.cls=.type "list_iterator"\/o.cls=.type "tuple_iterator")/\∀v,o.data≠.cell v:=by
 cases b with
 |true=>obtain⟨o,e,c,d⟩:=(show h.IsListIter it l i from x);exact⟨o,e,.inl c,λv z=>by rw[d] at z;cases z⟩
 |false=>obtain⟨o,e,c,d⟩:=(show h.IsTupleIter it l i from x);exact⟨o,e,.inr c,λv z=>by rw[d] at z;cases z⟩
theorem SeB.obj (x:SeB b h l items):∃o,h.get? l=some o/\(o.cls=.type "list"\/o.cls=.type "tuple"):=by
 cases b with
 |true=>obtain⟨o,e,c,d⟩:=(show h.IsList l items from x);exact⟨o,e,.inl c⟩
 |false=>obtain⟨o,e,c,d⟩:=(show h.IsTuple l items from x);exact⟨o,e,.inr c⟩
theorem ItB.ne (x:ItB b h it l i)(y:SeB b' h a items):a≠it:=λz=>by
 obtain⟨o,e,c,_⟩:=x.obj;obtain⟨o',e',c'⟩:=y.obj;rw[z,e] at e';cases e';rcases c with c|c <;> rcases c' with c'|c' <;> (rw[c] at c';exact absurd c' (by decide))
section
variable {prog:C3}{w:B8}{A:C8}{E:A1->A4->Prop}{s:A4}
theorem QB (hit:s.heap.IsTupleIter it t i)(ht:s.heap.IsTuple t items)(hx:items[i]?=some x)
   (hQ:∀h',h'.IsTupleIter it t (i+1)->l6 it s.heap h'->Q x { s with heap:=h' }):A5 (A6 prog w) A (o7 (.ref it)) Q E s:=by
 obtain⟨oi,hoi,hci,hdi⟩:=id hit;obtain⟨ot,hot,_,nt,hdt⟩:=ht;have ty:=hit.typeIs;unfold o7
 refine A2 (X0 (name:=B0 "__next__") ty ET
   (N3 ET ty F.entry_tuple_iterator_next ?_ (F.args_tuple_iterator_next_1 _)))
 show A5 _ _ (field (.ref it) 0>>=_) _ _ s;refine A2 (M4 hoi hdi (x:=.ref t) rfl ?_);show A5 _ _ (if(L4 t == Y3)=true then _ else _) _ _ s;rw[ju (show ¬((L4 t == Y3)=true) from V2)];show A5 _ _ (field (.ref it) 1>>=_) _ _ s;refine A2 (M4 hoi hdi (x:=.int i 0) rfl ?_);show A5 _ _ (seqItems? (.ref t)>>=_) _ _ s;refine A2 (X5 hot hdt ?_);simp only[P7,hx];refine A2 (Ar hoi hdi (by simp) (A8 ⟨x,rfl,A8 (hQ _ ?_ (U2 ..))⟩));exact⟨_,BO _ hoi (Obj.isFreed_of_fields (EN hdi _)),(Obj.cls_mapFields ..).trans hci,by rw[EN hdi];simp[rawInt]⟩
theorem QC (hh:A.handled=none)(hit:s.heap.IsTupleIter it t i)(ht:s.heap.IsTuple t items)(hx:items[i]?=none)
   (hE:∀h' e,Heap.ExtBut it s.heap h'->(∃o,h'.get? e=some o/\o.cls=.type "StopIteration")->E (.ref e) { s with heap:=h' }):A5 (A6 prog w) A (o7 (.ref it)) Q E s:=by
 obtain⟨oi,hoi,hci,hdi⟩:=id hit;obtain⟨ot,hot,_,nt,hdt⟩:=ht;have ty:=hit.typeIs;unfold o7
 refine A2 (X0 (name:=B0 "__next__") ty ET
   (N3 ET ty F.entry_tuple_iterator_next ?_ (F.args_tuple_iterator_next_1 _)))
 show A5 _ _ (field (.ref it) 0>>=_) _ _ s;refine A2 (M4 hoi hdi (x:=.ref t) rfl ?_);show A5 _ _ (if(L4 t == Y3)=true then _ else _) _ _ s;rw[ju (show ¬((L4 t == Y3)=true) from V2)];show A5 _ _ (field (.ref it) 1>>=_) _ _ s;refine A2 (M4 hoi hdi (x:=.int i 0) rfl ?_);show A5 _ _ (seqItems? (.ref t)>>=_) _ _ s;refine A2 (X5 hot hdt ?_);simp only[P7,hx];refine A2 (j9 (A2 (Ar hoi hdi (by simp) ?_)));show A5 _ _ (newExc (.type "StopIteration") []>>=_) _ _ _;refine A2 ?_;simp only[newExc,newTuple];refine A2 (N1 ?_ (by size_fits));refine A2 (m:=firstArgMember _ _) (AZ (a:=Y3) (by first|rfl|(simp only[firstArgMember];rfl)) ?_);refine N1 ?_ (by size_fits);simp only[raiseNew];refine A2 (wpAny_handled ?_)
 first|rw[show A.in1.handled=none from hh]|rw[hh]
 refine A2 (A8 (wpAny_throw ?_));exact hE _ _ (((U2 ..).extBut.push _).push _) ⟨_,E4 _ rfl,rfl⟩
theorem Fu (hit:ItB b s.heap it t i)(ht:SeB b s.heap t items)(hx:items[i]?=some x)
   (hQ:∀h',ItB b h' it t (i+1)->l6 it s.heap h'->Q x { s with heap:=h' }):A5 (A6 prog w) A (o7 (.ref it)) Q E s:=by
 cases b with
 |true=>exact wpAny_nextOf_list_item hit ht hx hQ
 |false=>exact QB hit ht hx hQ
theorem Fv (hh:A.handled=none)(hit:ItB b s.heap it t i)(ht:SeB b s.heap t items)(hx:items[i]?=none)
   (hE:∀h' e,Heap.ExtBut it s.heap h'->(∃o,h'.get? e=some o/\o.cls=.type "StopIteration")->E (.ref e) { s with heap:=h' }):A5 (A6 prog w) A (o7 (.ref it)) Q E s:=by
 cases b with
 |true=>exact wpAny_nextOf_list_end hh hit ht hx hE
 |false=>exact QC hh hit ht hx hE
theorem drawsB {b:Bool}(hh:A.handled=none)(it l:A0)(hne:l≠it)(items:Array A1):Draws prog w A it [it,l] items.size (λi v=>items[i]?=some v) (λi h=>ItB b h it l i/\SeB b h l items) where
 live:=λ_ _ st=>let ⟨o,ho,_⟩:=st.1.obj;⟨o,ho⟩
 frame:=λ_ _ _ st hk=>⟨st.1.at λo e=>hk it (by simp) o e,st.2.at λo e=>hk l (by simp) o e⟩
 item:=λi s Q E hi st hQ=>by
  refine Fu st.1 st.2 (x:=items[i]) (by simp[hi]) λh' hit' hs'=>?_;exact hQ _ h' s.toks (by simp[hi]) ⟨hit',st.2.at λo e=>hs'.extBut _ o hne e⟩ hs'
 done:=λs Q E st hE=>Fv hh st.1 st.2 (by simp) hE
theorem QD (l:A0)(items:Array A1)(n:Nat)(dct:Option A0)(sl:Array (Option A1)) :
   Meets (L8.«enumerate.__new__» ⟨[.type "enumerate",.ref l],[]⟩) (λ_ R s=>s.heap.get? l=some { cls:=.type "tuple",dict:=dct,data:=.seq items n,slots:=sl }/\
     R (.ok (.ret (.ref (s.heap.push { cls := .type "tuple_iterator", data := .fields #[.ref l, .int 0 0] }).objs.size)))
       { s with heap:=(s.heap.push { cls:=.type "tuple_iterator",data:=.fields #[.ref l,.int 0 0] }).push { cls:=.type "enumerate",data:=.fields #[.none,.bool false,.ref s.heap.objs.size,rawInt 0,.none,.none] } }):=
 .of_wp λprog w A R s hyp=>by
  obtain⟨hp,g,d,tk,os⟩:=s;obtain⟨hl,fin⟩:=hyp;have hsub:=sub_enumerate;have hL:Heap.IsTuple (Shared.heap ⟨hp,g,d,tk,os⟩) l items:=⟨_,hl,rfl,n,rfl⟩
  wp_walk using EV hl
  refine wpAny_stack_any λst=>A8 ?_
  split
  ·rename_i c _ _ _ _ _;cases(c == F9 "enumerate")
   ·wp_walk using EV hl,BD hL
    exact⟨_,rfl,fin⟩
   ·wp_walk using EV hl,BD hL
    exact⟨_,rfl,fin⟩
  ·wp_walk using EV hl,BD hL
   exact⟨_,rfl,fin⟩
theorem enumT {l:A0}{items:Array A1}{Q:A1->A4->Prop}(hL:s.heap.IsTuple l items)
   (h:∀h',IsEnum h' (s.heap.objs.size+1) s.heap.objs.size 0 .none->h'.IsTupleIter s.heap.objs.size l 0->(∀b o,s.heap.get? b=some o->h'.get? b=some o)->Q (.ref (s.heap.objs.size+1)) { s with heap:=h' }) :
   A5 (A6 prog w) A (call (.type "enumerate") [.ref l]) Q E s:=by
 obtain⟨⟨c,dct,dt,sl⟩,hl,hc,n,hd⟩:=hL
 replace hc:c=.type "tuple":=hc
 replace hd:dt=.seq items n:=hd
 subst hc hd;refine callType_new F.called_enumerate (by decide) (F.typeCall_enumerate_1 _) (F.newCall_enumerate_1 _) (λobj=>F.args_object_init_2 obj _) F.entry_enumerate_new (QD l items n dct sl) ⟨hl,?_⟩;have hz:(s.heap.push { cls:=.type "tuple_iterator",data:=.fields #[.ref l,.int 0 0] }).objs.size=s.heap.objs.size+1:=T9 ..;show _/\_;rw[hz]
 have he:IsEnum ((s.heap.push { cls:=.type "tuple_iterator",data:=.fields #[.ref l,.int 0 0] }).push { cls:=.type "enumerate",data:=.fields #[.none,.bool false,.ref s.heap.objs.size,rawInt 0,.none,.none] }) (s.heap.objs.size+1) s.heap.objs.size 0 .none:=by
  have:=E4 (s.heap.push { cls:=.type "tuple_iterator",data:=.fields #[.ref l,.int 0 0] }) (o:={ cls:=.type "enumerate",data:=.fields #[.none,.bool false,.ref s.heap.objs.size,rawInt 0,.none,.none] }) rfl;rw[hz] at this;exact this
 exact⟨⟨_,he,rfl⟩,h _ he ⟨_,B6 _ (E4 _ rfl),rfl,rfl⟩ λb o x=>B6 _ (B6 _ x)⟩
theorem enumB {b:Bool}{l:A0}{items:Array A1}{Q:A1->A4->Prop}(hL:SeB b s.heap l items)
   (h:∀h',IsEnum h' (s.heap.objs.size+1) s.heap.objs.size 0 .none->ItB b h' s.heap.objs.size l 0->(∀b o,s.heap.get? b=some o->h'.get? b=some o)->Q (.ref (s.heap.objs.size+1)) { s with heap:=h' }) :
   A5 (A6 prog w) A (call (.type "enumerate") [.ref l]) Q E s:=by
 cases b with
 |true=>exact call_enumerate_list hL λh' a b _ c=>h h' a b c
 |false=>exact enumT hL h
theorem QF {b:Bool}{e it l:A0}{j:Nat}{i:Int}{items:Array A1}{old:A1}{Q:Option A1->A4->Prop}(hh:A.handled=none)(he:IsEnum s.heap e it i old)(hit:ItB b s.heap it l j)(ht:SeB b s.heap l items)(hx:items[j]?=none)
   (hQ:∀h',Heap.ExtBut it s.heap h'->Q none { s with heap:=h' }):A5 (A6 prog w) A (pyNext (.ref e)) Q E s:=by
 have ty:s.TypeIs (.ref e) "enumerate":=⟨_,he,rfl⟩;unfold pyNext;refine A2 (As (X0 (name:=B0 "__next__") ty F.slot_enumerate_next (N3 F.slot_enumerate_next ty F.entry_enumerate_next ?_ (F.args_enumerate_next_1 _))));show A5 _ _ (field (.ref e) 2>>=_) _ _ _;refine A2 (M4 he rfl (x:=.ref it) rfl ?_);refine A2 (Fv (A:=A.in1) hh hit ht hx λh' x he' hx'=>?_);obtain⟨o,ho,hc⟩:=hx';exact A2 (Ei (T:="StopIteration") (b:=true) ⟨o,ho,hc⟩ isSubtype_stop (A8 (hQ _ he')))
end
def SqB (b:Bool)(K:A7)(H:Hp)(a:A0)(xs:List V):Prop:=match b with|true=>SqL K H a xs|false=>SqT K H a xs
section
variable {X:Cx}
theorem Inv.seqB (I:Inv X jb σ H s)(h:SqB b X.K H a xs):∃jf:List A1,Vals xs jf/\SeB b s.heap a jf.toArray/\xs.length<=B7:=by
 cases b with
 |true=>obtain⟨jf,r,p,z⟩:=I.list h;exact⟨jf,r,p.isList,z⟩
 |false=>obtain⟨jf,r,p,z⟩:=I.tuple h;exact⟨jf,r,p,z⟩
theorem Inv.seqB_inj (I:Inv X jb σ H s)(h:SqB b X.K H a xs)(h':SqB b X.K H a ys):xs=ys:=by
 cases b with
 |true=>exact I.list_inj h h'
 |false=>exact I.tuple_inj h h'
def IteB (b:Bool)(K:A7)(a:A0):It:=
 ⟨λi H=>∃xs x,SqB b K H a xs/\xs[i]?=some x,λi H x H'=>∃p v,H p=none/\x=.ref p/\H'=upd H p (.tup [.int i,v])/\∀xs,SqB b K H a xs->xs[i]?=some v,λi H=>∃xs,SqB b K H a xs/\xs.length<=i⟩
theorem QH {b:Bool}{P:C3}{w:B8}{K:A7}{elts:List Expr}{x1}{pos:Pos}(a e it:A0)(hne:e≠it) :
   Turn P w K (.Tuple elts x1 pos) (IteB b K a) [e,it] e (λi h=>(∃old,IsEnum h e it i old)/\ItB b h it a i) where
 mem:=by simp
 obj:=λi h st c hc=>by
  obtain⟨⟨old,he⟩,st⟩:=st;obtain⟨o,e1,_,d⟩:=st.obj;have hc':c=e\/c=it:=by simpa using hc
  rcases hc' with rfl|rfl
  ·exact⟨_,he,λv z=>by cases z⟩
  ·exact⟨o,e1,d⟩
 keep:=λi h h' st k=>by
  obtain⟨⟨old,he⟩,st⟩:=st;exact⟨⟨old,k e (by simp) _ he⟩,st.at λo e=>k it (by simp) o e⟩
 item:=by
  intro X hP hw hK hc i jb s σ H E I hf st hg;subst hP hw hK;obtain⟨⟨old,he⟩,st⟩:=st;obtain⟨xs,x,hq,hx⟩:=hg;obtain⟨jf,rv,p,hz⟩:=I.seqB hq;obtain⟨u,hu,ru⟩:=rv.get hx;have nla:a≠it:=st.ne p
  have nea:e≠a:=λz=>by
   obtain⟨o,e1,c1⟩:=p.obj;rw[<- z,he] at e1;cases e1;rcases c1 with c1|c1
   ·exact absurd (show F9 "enumerate"=F9 "list" from c1) (by decide)
   ·exact absurd (show F9 "enumerate"=F9 "tuple" from c1) (by decide)
  have hi:i<jf.toArray.size:=by
   obtain⟨h1,_⟩:=E1.mp hu
   simpa using h1
  refine wpAny_pyNext_enum_itemD (drawsB (A:=X.A.in1) (I.ok.hd hc) it a nla jf.toArray) he ⟨st,p⟩ hi hne (by simp[hne,nea]) λy h' tk hy he' st' ht hz' k=>?_
  have ey:y=u:=by
   have:jf[i]?=some y:=by simpa using hy
   rw[hu] at this;exact(F6 this).symm
  subst ey;refine⟨_,rfl,wpAny_letOwnedTupleGo_enum (s:={ s with heap:=h',toks:=tk+1 }) he' λh'' he'' sb=>?_⟩;have hpe:s.heap.objs.size≠e:=y7 (B9 he);have ht'':h''.get? s.heap.objs.size=some { cls:=.type "tuple",data:=.seq #[.int i tk,y] }:=(sb.2 _ hpe).trans ht
  have k':∀c o,c∉[e,it]->s.heap.get? c=some o->h''.get? c=some o:=λc o hb q=>by
   have hb1:c≠e:=λz=>hb (by simp[z]);have hb2:c≠it:=λz=>hb (by simp[z]);exact(sb.2 c hb1).trans (k c o hb1 hb2 q)
  have I1:Inv X jb σ (upd H s.heap.objs.size (.tup [.int i,x])) { s with heap:=h'',toks:=tk+1 }:=
   I.turnedNew k' hf ⟨by show 2<=B7;decide,[.int i tk,y],.cons ⟨_,rfl⟩ (.cons ru .nil),⟨_,ht'',rfl,_,rfl⟩⟩
  refine⟨.ref s.heap.objs.size,_,I1,rfl,⟨_,x,I.fresh,rfl,rfl,λys hy=>by rw[I.seqB_inj hy hq];exact hx⟩,⟨⟨y,he''⟩,st'.1.at λo q=>(sb.2 it (Ne.symm hne)).trans q⟩,λc hb=>?_⟩;have hb':c=e\/c=it:=by simpa using hb
  have hbs:c≠s.heap.objs.size:=by
   rcases hb' with rfl|rfl
   ·exact Ne.symm hpe
   ·obtain⟨o,e1,_⟩:=st.obj;exact D6 (B9 e1)
  rw[D0 hbs];exact(hf c hb).1
 done:=by
  intro X hP hw hK hc i jb s σ H E I hf st hg;subst hP hw hK;obtain⟨⟨old,he⟩,st⟩:=st;obtain⟨xs,hq,hx⟩:=hg;obtain⟨jf,rv,p,hz⟩:=I.seqB hq;obtain⟨f0,f1,f2,f3,f4,f5⟩:=hf it (by simp);have hl:=rv.length;refine QF (I.ok.hd hc) he st p (Dh (by rw[D9];omega)) λh' eb=>⟨rfl,I.turned (t':=s.toks) (λc o hb e=>eb c o hb e) f0 f1 f3 f4 f5⟩
 self:=λ_ _ _ _ _ st h=>by
  obtain⟨⟨old,he⟩,_⟩:=st;exact Eg he h
def iEnumB (b:Bool)(K:A7)(ta:TA):TI:=λσ H R=>ta σ H λvs H1=>∃a,vs=[.ref a]/\(∃xs,SqB b K H1 a xs)/\R (IteB b K a) H1
theorem QJ (b:Bool){l:Expr}{ta:TA}{p pos:Pos}{elts:List Expr}{x1}{tpos:Pos}(hg:Gl X "enumerate")(hm:X.mg "enumerate"=none)(ha:PA X [l] ta)(hs:E8 [l] X.env=[(false,eval l X.env)]:=by rfl) :
   PI X (.Tuple elts x1 tpos) (.Call (.Name "enumerate" p) [l] [] pos) (iEnumB b X.K ta):=by
 intro jb s σ H R I h;refine Call_ (Bl I hg hm boot_enumerate (Dk (thn (ha pos jb s σ H _ I h) λus s1 ⟨vs,H1,I1,r1,q1⟩=>?_) hs rfl));obtain⟨a,e,⟨xs,hq⟩,q⟩:=q1;subst e;obtain⟨u,rfl,ru⟩:=r1.one;obtain rfl:u=L4 a:=ru;obtain⟨jf,rv,pl,hz⟩:=I1.seqB hq;refine enumB pl λh' hE hI hk=>?_;refine Eg hE ?_;have I2:Inv X jb σ H1 { s1 with heap:=h' }:=I1.kept (t':=s1.toks) hk;refine⟨s1.heap.objs.size+1,[s1.heap.objs.size+1,s1.heap.objs.size],_,_,H1,rfl,I2,QH a _ _ (EF _),⟨⟨_,hE⟩,hI⟩,λc hb=>?_,q⟩;have hb':c=s1.heap.objs.size+1\/c=s1.heap.objs.size:=by simpa using hb
 rcases hb' with rfl|rfl
 ·exact I1.fpOk (O7 _) (I1.hok.fresh (O7 _))
 ·exact I1.fpOk (B3 _) (I1.hok.fresh (B3 _))
end
section
variable {prog:C3}{w:B8}{A:C8}{E:A1->A4->Prop}{s:A4}
structure ZAp (z TI TO i1 i2:A0):Prop where
 a1:TI≠z
 a2:TO≠z
 a3:i1≠z
 a4:i2≠z
 a5:TI≠TO
 a6:TI≠i1
 a7:TI≠i2
 a8:TO≠i1
 a9:TO≠i2
 a10:i1≠i2
theorem QK {z TI TO i1 i2 l1 l2:A0}{Q:A1->A4->Prop}(D:ZAp z TI TO i1 i2)(m1:l1≠z)(m2:l2≠z)(m3:l1≠TO)(m4:l2≠TO)(m5:l1≠i1)(m6:l2≠i1)
   (hz:IsZip s.heap z TI TO .none) (hTI:IsPair s.heap TI (.ref i1) (.ref i2)) (hTO:IsPair s.heap TO a b) (h1:ItB b1 s.heap i1 l1 k) (h2:ItB b2 s.heap i2 l2 k) (hl1:SeB b1 s.heap l1 xs) (hl2:SeB b2 s.heap l2 ys) (hx:xs[k]?=some x) (hy:ys[k]?=some y)
   (hQ:∀h',IsZip h' z TI TO (rawInt s.heap.objs.size)->IsPair h' TO x y->ItB b1 h' i1 l1 (k+1)->ItB b2 h' i2 l2 (k+1)->IsPair h' s.heap.objs.size x y->
     (∀c o,c≠z->c≠TO->c≠i1->c≠i2->s.heap.get? c=some o->h'.get? c=some o)->Q (.ref s.heap.objs.size) { s with heap:=h' }) :
   A5 (A6 prog w) A (L8.«zip.__next__» ⟨[.ref z],[]⟩) (λfin s'=>∃v,fin=.done (.ret v)/\Q v s') E s:=by
 show A5 _ _ (field (.ref z) 2>>=_) _ _ _;refine A2 (M4 hz rfl (x:=.bool false) rfl ?_);show A5 _ _ (field (.ref z) 3>>=_) _ _ _;refine A2 (M4 hz rfl (x:=.ref TI) rfl (A2 (X5 hTI rfl ?_)));show A5 _ _ (EL (.ref z)>>=_) _ _ _;refine A2 ?_;unfold EL;refine A2 (M4 hz rfl (x:=.none) rfl (A8 ?_));simp only[if_true];refine A2 (j9 (A2 (M4 hz rfl (x:=.ref TO) rfl (A2 (BE hz (by simp) λg1 z1 s1=>?_)))))
 replace z1:IsZip g1 z TI TO .ellipsis:=z1
 refine A2 ?_;simp only[List.zipIdx_cons,List.zipIdx_nil,EA,CU];refine A2 (A2 (wpAny_onRaise ?_));show A5 _ _ (o7 (.ref i1)>>=_) _ _ _;refine A2 (Fu (s:={ s with heap:=g1 }) (h1.at λo e=>s1.extBut _ o D.a3 e) (hl1.at λo e=>s1.extBut _ o m1 e) hx λg2 j2 s2=>A8 ?_);have t2:IsPair g2 TO a b:=s2.extBut _ _ D.a8 (s1.extBut _ _ D.a2 hTO);refine A2 (X5 t2 rfl (A2 (wpAny_updateSeq_pair (s:={ s with heap:=g2 }) t2 λg3 t3 s3=>A2 (wpAny_letGo (A8 ?_)))))
 replace t3:IsPair g3 TO x b:=t3
 refine A2 (A2 (wpAny_onRaise ?_));show A5 _ _ (o7 (.ref i2)>>=_) _ _ _;have up3:∀c o,c≠z->c≠i1->c≠TO->s.heap.get? c=some o->g3.get? c=some o:=λc o c1 c2 c3 e=>s3.extBut _ o c3 (s2.extBut _ o c2 (s1.extBut _ o c1 e));refine A2 (Fu (s:={ s with heap:=g3 }) (h2.at λo e=>up3 _ o D.a4 D.a10.symm D.a9.symm e) (hl2.at λo e=>up3 _ o m2 m6 m4 e) hy λg4 j4 s4=>A8 ?_);have t4:IsPair g4 TO x b:=s4.extBut _ _ D.a9 t3;refine A2 (X5 t4 rfl (A2 (wpAny_updateSeq_pair (s:={ s with heap:=g4 }) t4 λg5 t5 s5=>A2 (wpAny_letGo (A8 (A8 ?_))))))
 replace t5:IsPair g5 TO x y:=t5
 refine A2 (X5 t5 rfl (A2 (wpAny_newTuple ?_)));have hsz:g5.objs.size=s.heap.objs.size:=by rw[s5.1,s4.1,s3.1,s2.1,s1.1]
 have z5:IsZip g5 z TI TO .ellipsis:=s5.extBut _ _ D.a2.symm (s4.extBut _ _ D.a4.symm (s3.extBut _ _ D.a2.symm (s2.extBut _ _ D.a3.symm z1)));have up5:∀c o,c≠z->c≠TO->c≠i1->c≠i2->s.heap.get? c=some o->g5.get? c=some o:=λc o c1 c2 c3 c4 e=>s5.extBut _ _ c2 (s4.extBut _ _ c4 (up3 c o c1 c3 c2 e));have j1:ItB b1 g5 i1 l1 (k+1):=j2.at λo e=>s5.extBut _ o D.a8.symm (s4.extBut _ o D.a10 (s3.extBut _ o D.a8.symm e));have j5:ItB b2 g5 i2 l2 (k+1):=j4.at λo e=>s5.extBut _ o D.a9.symm e;have zlt:z<g5.objs.size:=B9 z5;show A5 _ _ (Jn (.ref z) (.ref g5.objs.size)>>=_) _ _ _;refine A2 ?_;unfold Jn;have z6:IsZip (g5.push { cls:=.type "tuple",data:=.seq #[x,y] }) z TI TO .ellipsis:=B6 _ z5;refine A2 (BE z6 (by simp) λg7 z7 s7=>?_)
 replace z7:IsZip g7 z TI TO (rawInt g5.objs.size):=z7
 refine BE z7 (by simp) λg8 z8 s8=>?_
 replace z8:IsZip g8 z TI TO (rawInt g5.objs.size):=z8
 have up8:∀c o,c≠z->g5.get? c=some o->g8.get? c=some o:=λc o c1 e=>s8.extBut _ _ c1 (s7.extBut _ _ c1 (B6 _ e));have t8:IsPair g8 g5.objs.size x y:=s8.extBut _ _ (y7 zlt) (s7.extBut _ _ (y7 zlt) (E4 _ rfl));rw[hsz] at z8 t8;refine A8 ⟨_,rfl,?_⟩;show Q (.ref g5.objs.size) _;rw[hsz];exact hQ g8 z8 (up8 _ _ D.a2 t5) (j1.at λo e=>up8 _ o D.a3 e) (j5.at λo e=>up8 _ o D.a4 e) t8 λc o c1 c2 c3 c4 e=>up8 c o c1 (up5 c o c1 c2 c3 c4 e)
theorem zipEnd {z TI TO i1 i2 l1 l2:A0}(hh:A.handled=none)(D:ZAp z TI TO i1 i2)(m1:l1≠z)(m2:l2≠z)(m3:l1≠TO)(m4:l2≠TO)(m5:l1≠i1)(m6:l2≠i1)
   (hz:IsZip s.heap z TI TO .none) (hTI:IsPair s.heap TI (.ref i1) (.ref i2)) (hTO:IsPair s.heap TO a b) (h1:ItB b1 s.heap i1 l1 k) (h2:ItB b2 s.heap i2 l2 k) (hl1:SeB b1 s.heap l1 xs) (hl2:SeB b2 s.heap l2 ys) (hend:xs[k]?=none\/ys[k]?=none)
   (hE:∀h' e,(∀c o,c≠z->c≠TO->c≠i1->c≠i2->s.heap.get? c=some o->h'.get? c=some o)->(∃o,h'.get? e=some o/\o.cls=.type "StopIteration")->E (.ref e) { s with heap:=h' }) :
   A5 (A6 prog w) A (L8.«zip.__next__» ⟨[.ref z],[]⟩) Q E s:=by
 show A5 _ _ (field (.ref z) 2>>=_) _ _ _;refine A2 (M4 hz rfl (x:=.bool false) rfl ?_);show A5 _ _ (field (.ref z) 3>>=_) _ _ _;refine A2 (M4 hz rfl (x:=.ref TI) rfl (A2 (X5 hTI rfl ?_)));show A5 _ _ (EL (.ref z)>>=_) _ _ _;refine A2 ?_;unfold EL;refine A2 (M4 hz rfl (x:=.none) rfl (A8 ?_));simp only[if_true];refine A2 (j9 (A2 (M4 hz rfl (x:=.ref TO) rfl (A2 (BE hz (by simp) λg1 z1 s1=>?_)))))
 replace z1:IsZip g1 z TI TO .ellipsis:=z1
 refine A2 ?_;simp only[List.zipIdx_cons,List.zipIdx_nil,EA,CU];refine A2 (A2 (wpAny_onRaise ?_));show A5 _ _ (o7 (.ref i1)>>=_) _ _ _;have h1':ItB b1 g1 i1 l1 k:=h1.at λo e=>s1.extBut _ o D.a3 e;have hl1':SeB b1 g1 l1 xs:=hl1.at λo e=>s1.extBut _ o m1 e
 have nz:∀{g:B1} {e:A0} {o:Obj},IsZip g z TI TO .ellipsis->g.get? e=some o->o.cls=.type "StopIteration"->e≠z:=λ{g e o} hz ho hc x=>by
  subst x;rw[hz] at ho;cases ho;exact absurd (show F9 "zip"=F9 "StopIteration" from hc) (by decide)
 cases hx:xs[k]? with
 | none =>
  refine A2 (Fv (s:={ s with heap:=g1 }) hh h1' hl1' hx λg2 e s2 ⟨oe,hoe,hce⟩=>?_);have z2:IsZip g2 z TI TO .ellipsis:=s2 _ _ D.a3.symm z1;exact BE z2 (by simp) λg3 _ s3=>hE g3 e (λc o c1 _ c3 _ x=>s3.extBut _ _ c1 (s2 _ _ c3 (s1.extBut _ _ c1 x))) ⟨oe,s3.extBut _ _ (nz z2 hoe hce) hoe,hce⟩
 | some x =>
  have hy:ys[k]?=none:=hend.elim (λh=>by rw[hx] at h;cases h) id;refine A2 (Fu (s:={ s with heap:=g1 }) h1' hl1' hx λg2 j2 s2=>A8 ?_);have t2:IsPair g2 TO a b:=s2.extBut _ _ D.a8 (s1.extBut _ _ D.a2 hTO);refine A2 (X5 t2 rfl (A2 (wpAny_updateSeq_pair (s:={ s with heap:=g2 }) t2 λg3 t3 s3=>A2 (wpAny_letGo (A8 ?_)))));refine A2 (A2 (wpAny_onRaise ?_));show A5 _ _ (o7 (.ref i2)>>=_) _ _ _;have up3:∀c o,c≠z->c≠i1->c≠TO->s.heap.get? c=some o->g3.get? c=some o:=λc o c1 c2 c3 e=>s3.extBut _ o c3 (s2.extBut _ o c2 (s1.extBut _ o c1 e));refine A2 (Fv (s:={ s with heap:=g3 }) hh (h2.at λo e=>up3 _ o D.a4 D.a10.symm D.a9.symm e) (hl2.at λo e=>up3 _ o m2 m6 m4 e) hy λg4 e s4 ⟨oe,hoe,hce⟩=>?_);have z4:IsZip g4 z TI TO .ellipsis:=s4 _ _ D.a4.symm (s3.extBut _ _ D.a2.symm (s2.extBut _ _ D.a3.symm z1));exact BE z4 (by simp) λg5 _ s5=>hE g5 e (λc o c1 c2 c3 c4 x=>s5.extBut _ _ c1 (s4 _ _ c4 (up3 c o c1 c3 c2 x))) ⟨oe,s5.extBut _ _ (nz z4 hoe hce) hoe,hce⟩
end
noncomputable def itO (b:Bool)(l:A0):Obj:=match b with|true=>{ cls:=.type "list_iterator",data:=.fields #[.ref l,.int 0 0] }|false=>{ cls:=.type "tuple_iterator",data:=.fields #[.ref l,.int 0 0] }
theorem La (b:Bool)(l:A0):(itO b l).isFreed=false:=by cases b <;> rfl
theorem Lb (e:h.get? a=some (itO b l)):ItB b h a l 0:=by
 cases b with
 |true=>exact⟨_,e,rfl,rfl⟩
 |false=>exact⟨_,e,rfl,rfl⟩
theorem iterO (ht:SeB b s.heap t items)(hQ:Q (.ref s.heap.objs.size) { s with heap:=s.heap.push (itO b t) }):A5 (A6 prog w) A (pyIter (.ref t)) Q E s:=by
 cases b with
 |true=>exact CN ht hQ
 |false=>exact BD ht hQ
abbrev zh2 (h:B1)(b1 b2:Bool)(l1 l2:A0):B1:=(h.push (itO b1 l1)).push (itO b2 l2)
abbrev zh3 (h:B1)(b1 b2:Bool)(l1 l2:A0):B1:=(zh2 h b1 b2 l1 l2).push { cls:=.type "tuple",data:=.seq #[.ref h.objs.size,.ref (h.push (itO b1 l1)).objs.size] }
abbrev zh4 (h:B1)(b1 b2:Bool)(l1 l2:A0):B1:=(zh3 h b1 b2 l1 l2).push { cls:=.type "tuple",data:=.seq #[.none,.none] }
abbrev zh5 (h:B1)(b1 b2:Bool)(l1 l2:A0):B1:=(zh4 h b1 b2 l1 l2).push { cls:=.type "zip",data:=.fields #[.none,.bool false,.bool false,.ref (zh2 h b1 b2 l1 l2).objs.size,.ref (zh3 h b1 b2 l1 l2).objs.size] }
theorem zipNew (b1 b2:Bool)(l1 l2:A0)(xs ys:Array A1) :
   Meets (L8.«zip.__new__» ⟨[.type "zip",.ref l1,.ref l2],[]⟩) (λ_ R s=>SeB b1 s.heap l1 xs/\SeB b2 s.heap l2 ys/\R (.ok (.ret (.ref (zh4 s.heap b1 b2 l1 l2).objs.size))) { s with heap:=zh5 s.heap b1 b2 l1 l2 }):=
 .of_wp λprog w A R s hyp=>by
  obtain⟨hp,g,d,tk,os⟩:=s;obtain⟨k1,k2,fin⟩:=hyp;have hsub:=sub_zip;have L1:SeB b1 (Shared.heap ⟨hp,g,d,tk,os⟩) l1 xs:=k1;have L2:SeB b2 (Shared.heap ⟨hp.push (itO b1 l1),g,d,tk,os⟩) l2 ys:=k2.at λo e=>B6 _ e
  wp_walk using iterO L1,iterO L2
  exact⟨_,rfl,fin⟩
section
variable {prog:C3}{w:B8}{A:C8}{E:A1->A4->Prop}{s:A4}
theorem zipB (hl1:SeB b1 s.heap l1 xs)(hl2:SeB b2 s.heap l2 ys)
   (h:∀h',IsZip h' (s.heap.objs.size+4) (s.heap.objs.size+2) (s.heap.objs.size+3) .none->IsPair h' (s.heap.objs.size+2) (.ref s.heap.objs.size) (.ref (s.heap.objs.size+1))->
     IsPair h' (s.heap.objs.size+3) .none .none->ItB b1 h' s.heap.objs.size l1 0->ItB b2 h' (s.heap.objs.size+1) l2 0->(∀c o,s.heap.get? c=some o->h'.get? c=some o)->Q (.ref (s.heap.objs.size+4)) { s with heap:=h' }) :
   A5 (A6 prog w) A (call (.type "zip") [.ref l1,.ref l2]) Q E s:=by
 refine callType_new F.called_zip (by decide) (F.typeCall_zip_2 _ _) (F.newCall_zip_2 _ _) (λobj=>F.args_object_init_3 obj _ _) F.entry_zip_new (zipNew b1 b2 l1 l2 xs ys) ⟨hl1,hl2,?_⟩;have z1:(s.heap.push (itO b1 l1)).objs.size=s.heap.objs.size+1:=T9 ..;have z2:(zh2 s.heap b1 b2 l1 l2).objs.size=s.heap.objs.size+2:=by rw[T9,z1]
 have z3:(zh3 s.heap b1 b2 l1 l2).objs.size=s.heap.objs.size+3:=by rw[T9,z2]
 have z4:(zh4 s.heap b1 b2 l1 l2).objs.size=s.heap.objs.size+4:=by rw[T9,z3]
 have g5:(zh5 s.heap b1 b2 l1 l2).get? (zh4 s.heap b1 b2 l1 l2).objs.size=some _:=E4 _ rfl;have g4:(zh5 s.heap b1 b2 l1 l2).get? (zh3 s.heap b1 b2 l1 l2).objs.size=some _:=B6 _ (E4 _ rfl);have g3:(zh5 s.heap b1 b2 l1 l2).get? (zh2 s.heap b1 b2 l1 l2).objs.size=some _:=B6 _ (B6 _ (E4 _ rfl));have g2:(zh5 s.heap b1 b2 l1 l2).get? (s.heap.push (itO b1 l1)).objs.size=some _:=B6 _ (B6 _ (B6 _ (E4 _ (La b2 l2))));have g1:(zh5 s.heap b1 b2 l1 l2).get? s.heap.objs.size=some _:=B6 _ (B6 _ (B6 _ (B6 _ (E4 _ (La b1 l1)))));show _/\_;rw[z2,z3,z4] at g5;rw[z1,z2] at g3;rw[z3] at g4;rw[z1] at g2;rw[z4];exact⟨⟨_,g5,rfl⟩,h _ g5 g3 g4 (Lb g1) (Lb g2) λc o x=>B6 _ (B6 _ (B6 _ (B6 _ (B6 _ x))))⟩
end
section
variable {X:Cx}
def ItzB (b1 b2:Bool)(K:A7)(a c:A0):It:=
 ⟨λi H=>∃xs ys x y,SqB b1 K H a xs/\SqB b2 K H c ys/\xs[i]?=some x/\ys[i]?=some y,
  λi H x H'=>∃p u v,H p=none/\x=.ref p/\H'=upd H p (.tup [u,v])/\(∀xs,SqB b1 K H a xs->xs[i]?=some u)/\∀ys,SqB b2 K H c ys->ys[i]?=some v,
  λi H=>∃xs ys,SqB b1 K H a xs/\SqB b2 K H c ys/\min xs.length ys.length<=i⟩
theorem Fw (p:SeB b h l items)(he:h.get? e=some o)(hc:o.cls=.type n)(h1:n≠"list")(h2:n≠"tuple"):l≠e:=λz=>by
 obtain⟨o',e1,c1⟩:=p.obj;rw[z,he] at e1;cases e1;rw[hc] at c1;rcases c1 with c1|c1
 ·exact h1 (Value.type.inj c1)
 ·exact h2 (Value.type.inj c1)
theorem Fx {l z TI TO i1 i2:A0}(I:Inv X jb σ H s)(hf:∀d∈[z,TI,TO,i1,i2],FpOk X jb H d)(hTO:IsPair s.heap TO p q)(hq:SqB b X.K H l xs):l≠TO:=λzz=>by
 obtain⟨f0,f1,f2,f3,f4,f5⟩:=hf TO (by simp);subst zz;cases b with
 | true =>
  obtain⟨jf,_,pl,_⟩:=I.list hq;obtain⟨o,e,c1,_⟩:=pl.isList;rw[hTO] at e;cases e;exact absurd (show F9 "tuple"=F9 "list" from c1) (by decide)
 | false =>
  rcases hq with hq|⟨o,jf,n,hk,hc1,hs,hz,r⟩
  ·rcases hq with e|⟨o,e⟩
   ·rw[f0] at e;cases e
   ·rw[f0] at e;cases e
  ·have eb:X.base.get? l=some o:=I.ok.mod.kin l o hk;rcases f3 with f3|f3
   ·exact I.ok.noex l o eb f3
   ·exact absurd (G0 (B9 eb) (E5 I.ok.bsz f3)) (Q9 _)
theorem Inv.turnedAll {ch:List A0}(I:Inv X jb σ H s)(k:∀b o,b∉ch->s.heap.get? b=some o->h'.get? b=some o)(hf:∀b∈ch,FpOk X jb H b):Inv X jb σ H { s with heap:=h',toks:=t' }:=by
 have nch:∀b u,H b=some u->b∉ch:=λb u e z=>by rw[(hf b z).1] at e;cases e
 refine I.step (g':=s.gens) (d':=s.drawn) (ch:=ch) (λb hb=>⟨(hf b hb).2.2.2.1,(hf b hb).2.1,(hf b hb).2.2.2.2.1,(hf b hb).2.2.2.2.2⟩) (λb o _ _ hc e _=>k b o hc e) (λb o _ _ hc e _=>⟨o.slots,k b o hc e⟩) (λ_ _ _ _ n=>n)
   (λb o hc e=>⟨o,k b o hc e⟩) (λ_ _ e=>e) (λ_ _ _ e=>e) (λb ps e=>⟨#[],by rw[e];simp⟩) (λz=>z) (λm hm=>?_) (λb u e=>?_) I.bare
 ·obtain⟨o,es,ep,ho,r⟩:=hm;exact⟨o,es,ep,k _ o (λz=>(hf _ z).2.1 rfl) ho,r⟩
 ·refine(I.hok b u e).stay (λc v hc q=>k c v ?_ q) (λc q=>q) λc ys q=>q;rcases hc with z|z
  ·rw[z];exact nch b u e
  ·exact nch c _ z
theorem QM {b1 b2:Bool}{P:C3}{w:B8}{K:A7}{elts:List Expr}{x1}{pos:Pos}(a c z TI TO i1 i2:A0)(D:ZAp z TI TO i1 i2) :
   Turn P w K (.Tuple elts x1 pos) (ItzB b1 b2 K a c) [z,TI,TO,i1,i2] z (λi h=>IsZip h z TI TO .none/\IsPair h TI (.ref i1) (.ref i2)/\(∃p q,IsPair h TO p q)/\ItB b1 h i1 a i/\ItB b2 h i2 c i) where
 mem:=by simp
 obj:=λi h st e he=>by
  obtain⟨hz,h1,⟨p,q,h2⟩,h3,h4⟩:=st;obtain⟨o3,e3,_,d3⟩:=h3.obj;obtain⟨o4,e4,_,d4⟩:=h4.obj;have he':e=z\/e=TI\/e=TO\/e=i1\/e=i2:=by simpa using he
  rcases he' with rfl|rfl|rfl|rfl|rfl
  ·exact⟨_,hz,λv z=>by cases z⟩
  ·exact⟨_,h1,λv z=>by cases z⟩
  ·exact⟨_,h2,λv z=>by cases z⟩
  ·exact⟨_,e3,d3⟩
  ·exact⟨_,e4,d4⟩
 keep:=λi h h' st k=>by
  obtain⟨hz,h1,⟨p,q,h2⟩,h3,h4⟩:=st;exact⟨k z (by simp) _ hz,k TI (by simp) _ h1,⟨p,q,k TO (by simp) _ h2⟩,h3.at λo e=>k i1 (by simp) o e,h4.at λo e=>k i2 (by simp) o e⟩
 item:=by
  intro X hP hw hK hc i jb s σ H E I hf st hg;subst hP hw hK;obtain⟨hz,hTI,⟨p,q,hTO⟩,h3,h4⟩:=st;obtain⟨xs,ys,x,y,hq1,hq2,hx,hy⟩:=hg;obtain⟨is1,rv1,p1,hz1⟩:=I.seqB hq1;obtain⟨is2,rv2,p2,hz2⟩:=I.seqB hq2;obtain⟨u,hu,ru⟩:=rv1.get hx;obtain⟨v,hv,rv⟩:=rv2.get hy;have ty:s.TypeIs (.ref z) "zip":=⟨_,hz,rfl⟩;unfold pyNext;refine A2 (As (X0 (name:=B0 "__next__") ty EU (N3 EU ty F.entry_zip_next (QK D (Fw p1 hz rfl (by decide) (by decide)) (Fw p2 hz rfl (by decide) (by decide)) (Fx I hf hTO hq1) (Fx I hf hTO hq2) (h3.ne p1) (h3.ne p2) hz hTI hTO h3 h4 p1 p2 (by simpa using hu) (by simpa using hv) λh' a1 a2 a3 a4 a5 k=>A8 ?_) (F.args_zip_next_1 _))));refine⟨_,rfl,wpAny_letOwnedTupleGo_zip (s:={ s with heap:=h' }) a1 λh'' z'' sb=>?_⟩;have lt:∀{d:A0} {o:Obj},s.heap.get? d=some o->s.heap.objs.size≠d:=λe=>y7 (B9 e);have ht'':h''.get? s.heap.objs.size=some { cls:=.type "tuple",data:=.seq #[u,v] }:=(sb.2 _ (lt hz)).trans a5
  have k':∀d o,d∉[z,TI,TO,i1,i2]->s.heap.get? d=some o->h''.get? d=some o:=λd o hb q=>by
   have hb1:d≠z:=λe=>hb (by simp[e]);exact(sb.2 d hb1).trans (k d o hb1 (λe=>hb (by simp[e])) (λe=>hb (by simp[e])) (λe=>hb (by simp[e])) q)
  have I1:Inv X jb σ (upd H s.heap.objs.size (.tup [x,y])) { s with heap:=h'' }:=
   I.turnedNew (t':=s.toks) k' hf ⟨by show 2<=B7;decide,[u,v],.cons ru (.cons rv .nil),⟨_,ht'',rfl,_,rfl⟩⟩
  obtain⟨o3,e3,_,_⟩:=h3.obj;obtain⟨o4,e4,_,_⟩:=h4.obj
  refine⟨.ref s.heap.objs.size,_,I1,rfl,⟨_,x,y,I.fresh,rfl,rfl,λzs hzs=>by rw[I.seqB_inj hzs hq1];exact hx,λzs hzs=>by rw[I.seqB_inj hzs hq2];exact hy⟩,
   ⟨z'',sb.extBut _ _ D.a1 (k _ _ D.a1 D.a5 D.a6 D.a7 hTI),⟨u,v,sb.extBut _ _ D.a2 a2⟩,a3.at λo e=>sb.extBut _ o D.a3 e,a4.at λo e=>sb.extBut _ o D.a4 e⟩,λd hd=>?_⟩
  have hd':d=z\/d=TI\/d=TO\/d=i1\/d=i2:=by simpa using hd
  have hds:d≠s.heap.objs.size:=by
   rcases hd' with rfl|rfl|rfl|rfl|rfl
   ·exact(lt hz).symm
   ·exact(lt hTI).symm
   ·exact(lt hTO).symm
   ·exact(lt e3).symm
   ·exact(lt e4).symm
  rw[D0 hds];exact(hf d hd).1
 done:=by
  intro X hP hw hK hc i jb s σ H E I hf st hg;subst hP hw hK;obtain⟨hz,hTI,⟨p,q,hTO⟩,h3,h4⟩:=st;obtain⟨xs,ys,hq1,hq2,hmin⟩:=hg;obtain⟨is1,rv1,p1,hz1⟩:=I.seqB hq1;obtain⟨is2,rv2,p2,hz2⟩:=I.seqB hq2;have l1:=rv1.length;have l2:=rv2.length;have ty:s.TypeIs (.ref z) "zip":=⟨_,hz,rfl⟩
  have hend:is1.toArray[i]?=none\/is2.toArray[i]?=none:=by
   rcases Nat.le_total xs.length ys.length with h|h
   ·exact .inl (Dh (by rw[D9];omega))
   ·exact .inr (Dh (by rw[D9];omega))
  unfold pyNext;refine A2 (As (X0 (name:=B0 "__next__") ty EU (N3 EU ty F.entry_zip_next (zipEnd (A:=X.A.in1) (I.ok.hd hc) D (Fw p1 hz rfl (by decide) (by decide)) (Fw p2 hz rfl (by decide) (by decide)) (Fx I hf hTO hq1) (Fx I hf hTO hq2) (h3.ne p1) (h3.ne p2) hz hTI hTO h3 h4 p1 p2 hend λh' e k he=>?_) (F.args_zip_next_1 _))));obtain⟨o,ho,hce⟩:=he;refine A2 (Ei (T:="StopIteration") (b:=true) ⟨o,ho,hce⟩ isSubtype_stop (A8 ⟨rfl,?_⟩));exact I.turnedAll (t':=s.toks) (ch:=[z,TI,TO,i1,i2]) (λd o hd e=>k d o (λz=>hd (by simp[z])) (λz=>hd (by simp[z])) (λz=>hd (by simp[z])) (λz=>hd (by simp[z])) e) hf
 self:=λ_ _ _ _ _ st h=>wpAny_pyIter_zip st.1 h
end
section
variable {X:Cx}
def iZipB (b1 b2:Bool)(K:A7)(ta:TA):TI:=λσ H R=>ta σ H λvs H1=>∃a c,vs=[.ref a,.ref c]/\(∃xs,SqB b1 K H1 a xs)/\(∃ys,SqB b2 K H1 c ys)/\R (ItzB b1 b2 K a c) H1
theorem QP (b1 b2:Bool){a b:Expr}{ta:TA}{p pos:Pos}{elts:List Expr}{x1}{tpos:Pos}(hg:Gl X "zip")(hm:X.mg "zip"=none)(ha:PA X [a,b] ta)(hs:E8 [a,b] X.env=[(false,eval a X.env),(false,eval b X.env)]:=by rfl)(hs2:E8 [b] X.env=[(false,eval b X.env)]:=by rfl) :
   PI X (.Tuple elts x1 tpos) (.Call (.Name "zip" p) [a,b] [] pos) (iZipB b1 b2 X.K ta):=by
 intro jb s σ H R I h;refine Call_ (Bl I hg hm boot_zip (Dk (thn (ha pos jb s σ H _ I h) λus s1 ⟨vs,H1,I1,r1,q1⟩=>?_) (by rw[hs,hs2]) (by rw[hs2];rfl)));obtain⟨a,c,e,⟨xs,h1⟩,⟨ys,h2⟩,q⟩:=q1;subst e;cases r1 with
 | cons r rr =>
  cases rr with
  | cons r' rr =>
   cases rr;cases r;cases r';obtain⟨is1,rv1,p1,hz1⟩:=I1.seqB h1;obtain⟨is2,rv2,p2,hz2⟩:=I1.seqB h2;refine zipB p1 p2 λh' e1 e2 e3 e4 e5 hk=>?_;refine wpAny_pyIter_zip e1 ?_;have I2:Inv X jb σ H1 { s1 with heap:=h' }:=I1.kept (t':=s1.toks) hk;refine⟨s1.heap.objs.size+4,[s1.heap.objs.size+4,s1.heap.objs.size+2,s1.heap.objs.size+3,s1.heap.objs.size,s1.heap.objs.size+1],_,_,H1,rfl,I2,QM a c _ _ _ _ _ ⟨by simp,by simp,by simp,by simp,by simp,by simp,by simp,by simp,by simp,by simp⟩,⟨e1,e2,⟨_,_,e3⟩,e4,e5⟩,λd hd=>?_,q⟩
   have hd':s1.heap.objs.size<=d:=by
    simp only[C9,k8,or_false] at hd;rcases hd with rfl|rfl|rfl|rfl|rfl <;> omega
   exact I1.fpOk hd' (I1.hok.fresh hd')
end
end L2
namespace Pu
open PySem PySem.Spec L2
section
variable {T:PotK}{ι:Type}{K:A7}{F:ι->Cx}{e a b tg:Expr}{pe pa pb:pE}{pos:Pos}
def R9 (pe:pE):pA:=λenv n R=>pe env n λx jc n1=>match x with|.tup xs=>R (Y8 xs) jc n1|_=>False
theorem Lc {p:Pos}{elts:List Expr}{x1:Nat}{tpos:Pos}(hg:∀z,Gl (F z) "enumerate")(hm:∀z,(F z).mg "enumerate"=none)(h:QE T K F e pe)(hs:F3 e=true:=by rfl)(hK:∀z,(F z).K=K:=by intro _;rfl):QI T K F (.Tuple elts x1 tpos) (.Call (.Name "enumerate" p) [e] [] pos) (R9 pe):=by
 obtain⟨t,h1,h2⟩:=h;refine⟨_,λz=>hK z▸QJ false (hg z) (hm z) (F5 (h1 z) K5 (D4 hs)) (by rw[D4 hs];rfl),λC G σ H env n R Q hK hT S hp k=>?_⟩;refine h2 C G σ H env n _ _ hK hT S hp λx jc n1 v H1 p1 S1 r1 f1=>?_;cases x with
 | tup xs =>
  obtain⟨a,vs,rfl,t,r⟩:=r1;refine⟨a,rfl,⟨vs,t.sq⟩,k _ _ _ _ _ p1 S1 f1 ?_⟩;intro G2 H2 hk hM hp hf;have hq:SqB false K H2 a vs:=SqT.of (hk a _ t.1 t.2);have r2:Reps K G2 H2 xs vs:=Reps.mono hk hM hp _ _ r;refine⟨λi x e=>?_,λi hi=>⟨vs,hq,by rw[<- r.length,<- DI];exact hi⟩⟩;obtain⟨y,ey,rfl⟩:=Fn e;obtain⟨v,ev,rv⟩:=r2.get' ey;refine⟨⟨vs,v,hq,ev⟩,λv' H3 y=>?_⟩;obtain⟨p,w,hn,rfl,rfl,y⟩:=y;have:=y vs hq;rw[ev] at this;cases this;exact⟨Same.lay1 hn,AG (hf p hn) hn (.cons rfl (.one rv))⟩
 |_=>exact p1.elim
def zipP (xs ys:List PV):List PV:=(xs.zip ys).map λy=>.tup [y.1,y.2]
def i6 (b:Bool):PV->Option (List PV)
 |.lst xs=>if b then some xs else none
 |.tup xs=>if b then none else some xs
 |_=>none
theorem QU {b:Bool}(h:i6 b x=some xs):x=(match b with|true=>.lst xs|false=>.tup xs):=by
 cases x <;> cases b <;> simp[i6] at h <;> simp[h]
theorem Ld {b:Bool}(h:i6 b x=some xs)(r:Rep K G H x v):∃a vs,v=.ref a/\a∉G.M/\Reps K G H xs vs/\∀H2,(∀c o,c∉G.M->H c=some o->H2 c=some o)->SqB b K H2 a vs:=by
 rw[QU h] at r;cases b with
 | true =>
  obtain⟨a,vs,e,t,r⟩:=r;exact⟨a,vs,e,t.1,r,λH2 hk=>SqL.of (hk a _ t.1 t.2)⟩
 | false =>
  obtain⟨a,vs,e,t,r⟩:=r;exact⟨a,vs,e,t.1,r,λH2 hk=>SqT.of (hk a _ t.1 t.2)⟩
def qZip (b1 b2:Bool)(pa pb:pE):pA:=λenv n R=>pa env n λx jc n1=>pb jc n1 λy jd n2=>match i6 b1 x,i6 b2 y with|some xs,some ys=>R (zipP xs ys) jd n2|_,_=>False
theorem QV (xs ys:List PV):(zipP xs ys).length=min xs.length ys.length:=by simp[zipP]
theorem QX {xs ys:List PV}{i:Nat}{x:PV}(h:(zipP xs ys)[i]?=some x):∃u v,xs[i]?=some u/\ys[i]?=some v/\x=.tup [u,v]:=by grind [PV,zipP]
theorem qi_zip (b1 b2:Bool)(hg:∀z,Gl (F z) "zip")(hm:∀z,(F z).mg "zip"=none)(ha:QE T K F a pa)(hb:QE T K F b pb)(hs:F3 a=true)(hs2:F3 b=true)(hK:∀z,(F z).K=K):QI T K F (.Tuple elts x1 tpos) (.Call (.Name "zip" p) [a,b] [] pos) (qZip b1 b2 pa pb):=by
 obtain⟨t,h1,h2⟩:=ha;obtain⟨u,h3,h4⟩:=hb;refine⟨_,λz=>hK z▸QP b1 b2 (hg z) (hm z) (F5 (h1 z) (F5 (h3 z) K5 (D4 hs2)) (D4 hs)) (by rw[D4 hs,D4 hs2];rfl) (by rw[D4 hs2];rfl),λC G σ H env n R Q hK hT S hp k=>?_⟩;refine h2 C G σ H env n _ _ hK hT S hp λx jc n1 v H1 p1 S1 r1 f1=>?_;refine h4 C G σ H1 jc n1 _ _ hK hT S1 p1 λy jd n2 w H2 p2 S2 r2 f2=>?_
 split at p2
 ·rename_i xs ys ex ey;obtain⟨a,vs,rfl,na,ra,sa⟩:=Ld ex (r1.fr f2);obtain⟨c,us,rfl,nc,rc,scq⟩:=Ld ey r2;refine⟨a,c,rfl,⟨vs,sa H2 λ_ _ _ e=>e⟩,⟨us,scq H2 λ_ _ _ e=>e⟩,k _ _ _ _ _ p2 S2 (f1.trans f2) ?_⟩;intro G2 H3 hk hM hp hf;have ra':Reps K G2 H3 xs vs:=Reps.mono hk hM hp _ _ ra;have rc':Reps K G2 H3 ys us:=Reps.mono hk hM hp _ _ rc;refine⟨λi x e=>?_,λi hi=>⟨vs,us,sa H3 hk,scq H3 hk,by rw[<- ra.length,<- rc.length,<- QV];exact hi⟩⟩;obtain⟨u,v,eu,ev,rfl⟩:=QX e;obtain⟨u',eu',ru⟩:=ra'.get' eu;obtain⟨v',ev',rv⟩:=rc'.get' ev;refine⟨⟨vs,us,u',v',sa H3 hk,scq H3 hk,eu',ev'⟩,λx' H4 y=>?_⟩;obtain⟨p,u2,v2,hn,rfl,rfl,y1,y2⟩:=y;have q1:=y1 vs (sa H3 hk);have q2:=y2 us (scq H3 hk);rw[eu'] at q1;rw[ev'] at q2;cases q1;cases q2;exact⟨Same.lay1 hn,AG (hf p hn) hn (.cons ru (.one rv))⟩
 ·exact p2.elim
end
mutual
def pln:PV->Bool
 |.non=>true
 |.bl _=>true
 |.int _=>true
 |.str _=>true
 |.tup xs=>plns xs
 |.lst xs=>plns xs
 |_=>false
def plns:List PV->Bool
 |[]=>true
 |x::xs=>pln x&&plns xs
end
mutual
theorem Le:∀x:PV,pln x=true->eqP x x=true
 |.non,_=>rfl
 |.bl b,_=>by rw[AI];exact jq rfl
 |.int i,_=>by rw[AH];exact jq rfl
 |.str z,_=>by rw[M9];exact jq rfl
 |.tup xs,h=>by rw[i4];exact DR xs (by simpa[pln] using h)
 |.lst xs,h=>by rw[i3];exact DR xs (by simpa[pln] using h)
 |.ty _,h=>by simp[pln] at h
 |.pot _,h=>by simp[pln] at h
 |.scr _,h=>by simp[pln] at h
 |.fdt _ _,h=>by simp[pln] at h
 |.dct _ _,h=>by simp[pln] at h
theorem DR:∀xs:List PV,plns xs=true->eqPs xs xs=true
 |[],_=>rfl
 | x :: xs, h => by
  have h':pln x=true/\plns xs=true:=by simpa[plns] using h
  rw[i5,Le x h'.1,DR xs h'.2];rfl
end
theorem Fy:∀xs:List PV,(∀x∈xs,pln x=true)->plns xs=true
 |[],_=>rfl
 | x :: xs, h => by
  simp only[plns,b9];exact⟨h x B2,Fy xs λy hy=>h y (B4 _ hy)⟩
theorem Cp {te:pE}{rest:Env}{α:Type}(f:α->PV)(g:α->PV):∀(xs:List α) (s0:Option Slot) (n:Nat) (R:List PV->Nat->Prop),(∀x∈xs,∀m Q,Q (g x) (some (.v (f x))::rest) m->te (some (.v (f x))::rest) m Q)->R (xs.map g) n->R6 (gN 0) qTru te (xs.map f) (s0::rest) n R
 |[],_,_,_,_,h=>h
 | x :: xs, s0, n, R, ht, h => by
  show te (some (.v (f x))::rest) n _;refine ht x B2 n _ ?_;exact Cp f g xs _ n _ (λy hy=>ht y (B4 _ hy)) h
theorem Bs {te:pE}{rest:Env}{α:Type}(u v g:α->PV):∀(xs:List α) (s0 s1:Option Slot) (n:Nat) (R:List PV->Nat->Prop),(∀x∈xs,∀m Q,Q (g x) (some (.v (u x))::some (.v (v x))::rest) m->te (some (.v (u x))::some (.v (v x))::rest) m Q)->R (xs.map g) n->R6 (gTp 2 (gCn (gN 0) (gCn (gN 1) gNl))) qTru te (xs.map λx=>.tup [u x,v x]) (s0::s1::rest) n R
 |[],_,_,_,_,_,h=>h
 | x :: xs, s0, s1, n, R, ht, h => by
  refine⟨rfl,?_⟩;show te (some (.v (u x))::some (.v (v x))::rest) n _;refine ht x B2 n _ ?_;exact Bs u v g xs _ _ n _ (λy hy=>ht y (B4 _ hy)) h
end Pu
end
section
namespace L2
open PySem PySem.W PyProof.Rows
namespace Kr
noncomputable def run {α:Type}(lt:Nat->Nat->Bool):KasT α->α
 |.ret a=>a
 |.ask i j k=>run lt (k (lt i j))
theorem Cq {α β:Type}(lt:Nat->Nat->Bool)(f:α->KasT β):∀t:KasT α,run lt (t.bind f)=run lt (f (run lt t))
 |.ret a=>rfl
 |.ask i j k=>Cq lt f (k (lt i j))
structure Ord (lt:Nat->Nat->Bool):Prop where
 ir:∀a,lt a a=false
 tr:∀a b c,lt a b=true->lt b c=true->lt a c=true
 nt:∀a b c,lt a c=true->lt a b=true\/lt b c=true
variable {lt:Nat->Nat->Bool}(O:Ord lt)
include O
theorem Ord.as (h:lt a b=true):lt b a=false:=by
 cases e:lt b a with
 |false=>rfl
 |true=>have:=O.tr _ _ _ h e;rw[O.ir] at this;cases this
theorem Ord.le (h1:lt b a=false)(h2:lt c b=false):lt c a=false:=by
 cases e:lt c a with
 |false=>rfl
 |true=>rcases O.nt c b a e with h|h <;> simp_all
theorem Ord.l1 (h1:lt a b=true)(h2:lt c b=false):lt a c=true:=by
 rcases O.nt a c b h1 with h|h
 ·exact h
 ·rw[h2] at h;cases h
theorem Ord.l2 (h1:lt b a=false)(h2:lt b c=true):lt a c=true:=by
 rcases O.nt b a c h2 with h|h
 ·rw[h1] at h;cases h
 ·exact h
omit O
def g (p:Array Nat)(i:Nat):Nat:=p.getD i 0
theorem g_eq (p:Array Nat)(i:Nat):g p i=(p[i]?).getD 0:=by unfold g;rw[Ay]
theorem u4 (h:j<=p.size)(k:Nat):g (O1 p i j) k=if i<=k/\k<j then g p (i+j-1-k) else g p k:=by
 unfold O1;rw[g_eq,getElem?_mirror_all h]
 split <;> rw[g_eq]
theorem g_bub (h:k<p.size)(hl:l<=k)(i:Nat):g (bubble p k (k-l)) i=if i=l then g p k else if l<i/\i<=k then g p (i-1) else g p i:=by
 rw[g_eq,getElem?_bubble h (k-l) (by omega),show k-(k-l)=l by omega]
 split
 ·rw[g_eq]
 ·split <;> rw[g_eq]
theorem Bt (p:Array Nat)(i j:Nat):(O1 p i j).size=p.size:=mirror_size _ _ _ _
theorem DS (p:Array Nat)(i j:Nat):(O1 p i j).Perm p:=mirror_perm _ _ _ _
def S (lt:Nat->Nat->Bool)(p:Array Nat)(k:Nat):Prop:=∀i j,i<=j->j<k->lt (g p j) (g p i)=false
def D (lt:Nat->Nat->Bool)(p:Array Nat)(k:Nat):Prop:=∀i j,i<=j->j<k->lt (g p i) (g p j)=false
def B (lt:Nat->Nat->Bool)(p:Array Nat)(a k:Nat):Prop:=∀i j,a<=i->i<k->a<=j->j<k->lt (g p i) (g p j)=false
include O
theorem S_succ (h:S lt p n)(hn:1<=n)(hl:lt (g p n) (g p (n-1))=false):S lt p (n+1):=by
 intro i j hij hj;rcases ED.mp hj with h1|h1
 ·exact h i j hij h1
 ·subst h1;rcases Nat.lt_or_eq_of_le hij with h2|h2
  ·exact O.le (h i (j-1) (by omega) (by omega)) hl
  ·rw[h2];exact O.ir _
theorem HC (p:Array Nat):∀(f n:Nat),1<=n->S lt p n->n<=run lt (T8 p f n)/\run lt (T8 p f n)<=n+f/\S lt p (run lt (T8 p f n))/\(run lt (T8 p f n)=n+f\/lt (g p (run lt (T8 p f n))) (g p (run lt (T8 p f n)-1))=true)
 |0,n,hn,h=>⟨B3 _,B3 _,h,.inl rfl⟩
 | f + 1, n, hn, h => by
  show n<=run lt (if lt (g p n) (g p (n-1))=true then .ret n else T8 p f (n+1))/\run lt (if lt (g p n) (g p (n-1))=true then .ret n else T8 p f (n+1))<=n+(f+1)/\S lt p (run lt (if lt (g p n) (g p (n-1))=true then .ret n else T8 p f (n+1)))/\(run lt (if lt (g p n) (g p (n-1))=true then .ret n else T8 p f (n+1))=n+(f+1)\/lt (g p (run lt (if lt (g p n) (g p (n-1))=true then .ret n else T8 p f (n+1)))) (g p (run lt (if lt (g p n) (g p (n-1))=true then .ret n else T8 p f (n+1))-1))=true);cases e:lt (g p n) (g p (n-1)) with
  | true =>
   rw[jt rfl];exact⟨B3 _,by show n<=_;omega,h,.inr e⟩
  | false =>
   rw[ju (by simp)];obtain⟨h1,h2,h3,h4⟩:=HC p f (n+1) (by omega) (S_succ O h hn e);exact⟨by omega,by omega,h3,h4.imp (λx=>by omega) id⟩
theorem D_rev (hn:n<=p.size)(h:D lt p n)(hb:B lt p a n):D lt (O1 p a n) n:=by
 intro i j hij hj;rw[u4 hn,u4 hn]
 by_cases c1:a<=i
 ·rw[jt ⟨c1,by omega⟩,jt ⟨by omega,hj⟩];exact hb _ _ (by omega) (by omega) (by omega) (by omega)
 ·rw[ju (by omega)]
  by_cases c2:a<=j
  ·rw[jt ⟨c2,hj⟩];exact h _ _ (by omega) (by omega)
  ·rw[ju (by omega)];exact h _ _ hij hj
theorem DT (h:D lt p n)(hn:1<=n)(hl:lt (g p (n-1)) (g p n)=false):D lt p (n+1):=by
 intro i j hij hj;rcases ED.mp hj with h1|h1
 ·exact h i j hij h1
 ·subst h1;rcases Nat.lt_or_eq_of_le hij with h2|h2
  ·exact O.le hl (h i (j-1) (by omega) (by omega))
  ·rw[h2];exact O.ir _
theorem Fz:∀(f:Nat) (p:Array Nat) (n q:Nat),q + 1<=n->n + f<=p.size->D lt p n->B lt p (n - (q + 1)) n->
   ∃p' n' q',run lt (l5 f p n q)=(p',n',q')/\p'.Perm p/\p'.size=p.size/\n<=n'/\n'<=n+f/\q'+1<=n'/\D lt p' n'/\B lt p' (n'-(q'+1)) n'
 |0,p,n,q,hq,hs,h,hb=>⟨p,n,q,rfl,Ca _,rfl,B3 _,B3 _,hq,h,hb⟩
 | f + 1, p, n, q, hq, hs, h, hb => by
  have one:∀p n,B lt p (n+1-(0+1)) (n+1):=λp n i j h1 h2 h3 h4=>by
   have:i=j:=by omega
   rw[this];exact O.ir _
  cases e:lt (g p n) (g p (n-1)) with
  | true =>
   by_cases c:q>0
   ·have hd:=D_rev O (by omega:n<=p.size) h hb;have e1:g (O1 p (n-(q+1)) n) n=g p n:=by rw[u4 (by omega),ju (by omega)]
    have e2:g (O1 p (n-(q+1)) n) (n-1)=g p (n-(q+1)):=by rw[u4 (by omega),jt (by omega)];congr 1;omega
    have e3:lt (g p (n-(q+1))) (g p n)=false:=O.as (O.l1 e (hb _ _ (by omega) (by omega) (by omega) (by omega)));obtain⟨p',n',q',a1,a2,a3,a4,a5,a6,a7,a8⟩:=Fz f (O1 p (n-(q+1)) n) (n+1) 0 (by omega) (by rw[Bt];omega) (DT O hd (by omega) (by rw[e1,e2];exact e3)) (one _ _);refine⟨p',n',q',?_,a2.trans (DS _ _ _),by rw[a3,Bt],by omega,by omega,a6,a7,a8⟩;show run lt (if lt (g p n) (g p (n-1))=true then(if q>0 then l5 f (O1 p (n-(q+1)) n) (n+1) 0 else l5 f p (n+1) 0) else _)=_;rw[jt e,jt c];exact a1
   ·obtain⟨p',n',q',a1,a2,a3,a4,a5,a6,a7,a8⟩:=Fz f p (n+1) 0 (by omega) (by omega) (DT O h (by omega) (O.as e)) (one _ _);refine⟨p',n',q',?_,a2,a3,by omega,by omega,a6,a7,a8⟩;show run lt (if lt (g p n) (g p (n-1))=true then(if q>0 then l5 f (O1 p (n-(q+1)) n) (n+1) 0 else l5 f p (n+1) 0) else _)=_;rw[jt e,ju c];exact a1
  | false =>
   cases e':lt (g p (n-1)) (g p n) with
   | true =>
    refine⟨p,n,q,?_,Ca _,rfl,B3 _,by omega,hq,h,hb⟩;show run lt (if lt (g p n) (g p (n-1))=true then _ else KasT.ask (g p (n-1)) (g p n) λd=>if d=true then .ret (p,n,q) else l5 f p (n+1) (q+1))=_;rw[ju (by rw[e];simp)];show run lt (if lt (g p (n-1)) (g p n)=true then .ret (p,n,q) else l5 f p (n+1) (q+1))=_;rw[jt e'];rfl
   | false =>
    have hb':B lt p (n+1-(q+1+1)) (n+1):=by
     have up:∀i,n-(q+1)<=i->i<n->lt (g p i) (g p n)=false/\lt (g p n) (g p i)=false:=λi h1 h2=>
      ⟨O.le e' (hb i (n-1) h1 h2 (by omega) (by omega)),O.le (hb (n-1) i (by omega) (by omega) h1 h2) e⟩
     intro i j h1 h2 h3 h4
     by_cases ci:i<n
     ·by_cases cj:j<n
      ·exact hb i j (by omega) ci (by omega) cj
      ·rw[show j=n by omega];exact(up i (by omega) ci).1
     ·rw[show i=n by omega]
      by_cases cj:j<n
      ·exact(up j (by omega) cj).2
      ·rw[show j=n by omega];exact O.ir _
    obtain⟨p',n',q',a1,a2,a3,a4,a5,a6,a7,a8⟩:=Fz f p (n+1) (q+1) (by omega) (by omega) (DT O h (by omega) e') hb';refine⟨p',n',q',?_,a2,a3,by omega,by omega,a6,a7,a8⟩;show run lt (if lt (g p n) (g p (n-1))=true then _ else KasT.ask (g p (n-1)) (g p n) λd=>if d=true then .ret (p,n,q) else l5 f p (n+1) (q+1))=_;rw[ju (by rw[e];simp)];show run lt (if lt (g p (n-1)) (g p n)=true then .ret (p,n,q) else l5 f p (n+1) (q+1))=_;rw[ju (by rw[e'];simp)];exact a1
theorem S_of_D (hn:n<=p.size)(h:D lt p n):S lt (O1 p 0 n) n:=by
 intro i j hij hj;rw[u4 hn,u4 hn,jt ⟨by omega,hj⟩,jt ⟨by omega,by omega⟩];exact h _ _ (by omega) (by omega)
theorem Lf (h1:1<=n)(hn:n<=nrem)(hs:nrem<=p.size)(h:D lt p n) :
   ∃m p',run lt (kas_tail3 n nrem p)=(m,p')/\p'.Perm p/\p'.size=p.size/\1<=m/\m<=nrem/\S lt p' m:=by
 obtain⟨a1,a2,a3,_⟩:=HC O (O1 p 0 n) (nrem-n) n h1 (S_of_D O (by omega) h);refine⟨_,O1 p 0 n,?_,DS _ _ _,Bt _ _ _,?_,?_,a3⟩
 ·unfold kas_tail3;rw[Cq];rfl
 ·omega
 ·omega
theorem Lg (h1:1<=n)(hn:n+1<=nrem)(hs:nrem<=p.size)(h:D lt p (n+1)) :
   ∃m p',run lt (kas_descPart n nrem p)=(m,p')/\p'.Perm p/\p'.size=p.size/\1<=m/\m<=nrem/\S lt p' m:=by
 obtain⟨p',n',q',a1,a2,a3,a4,a5,a6,a7,a8⟩:=Fz O (nrem-(n+1)) p (n+1) 0 (by omega) (by omega) h (λi j h1 h2 h3 h4=>by
  have:i=j:=by omega
  rw[this];exact O.ir _)
 unfold kas_descPart;rw[Cq,a1];dsimp only
 by_cases c:q'>0
 ·rw[jt c];obtain⟨m,p2,b1,b2,b3,b4,b5,b6⟩:=Lf O (p:=O1 p' (n'-(q'+1)) n') (n:=n') (nrem:=nrem) (by omega) (by omega) (by rw[Bt];omega) (D_rev O (by omega) a7 a8);exact⟨m,p2,b1,(b2.trans (DS _ _ _)).trans a2,by rw[b3,Bt,a3],b4,b5,b6⟩
 ·rw[ju c];obtain⟨m,p2,b1,b2,b3,b4,b5,b6⟩:=Lf O (p:=p') (n:=n') (nrem:=nrem) (by omega) (by omega) (by omega) a7;exact⟨m,p2,b1,b2.trans a2,by rw[b3,a3],b4,b5,b6⟩
theorem QY (h1:1<=n)(hs:p.size=n):∃m p',run lt (kas_count n p)=(m,p')/\p'.Perm p/\p'.size=p.size/\1<=m/\m<=n/\S lt p' m:=by
 have s1:S lt p 1:=λi j h2 h3=>by
  have:i=j:=by omega
  rw[this];exact O.ir _
 obtain⟨a1,a2,a3,a4⟩:=HC O p (n-1) 1 (B3 _) s1;unfold kas_count;rw[Cq];generalize run lt (T8 p (n-1) 1)=k at a1 a2 a3 a4 ⊢
 by_cases c:k=n
 ·rw[jt (by rw[c];exact beq_self_eq_true n)];exact⟨k,p,rfl,Ca _,rfl,a1,by omega,a3⟩
 ·rw[ju (by simpa using c)];have a5:lt (g p k) (g p (k-1))=true:=a4.resolve_left (by omega)
  by_cases c1:k>1
  ·rw[jt c1];show ∃m p',run lt (if lt (g p 0) (g p (k-1))=true then .ret (k,p) else kas_descPart k n (O1 p 0 k))=(m,p')/\_;cases e:lt (g p 0) (g p (k-1)) with
   |true=>rw[jt rfl];exact⟨k,p,rfl,Ca _,rfl,a1,by omega,a3⟩
   | false =>
    rw[ju (by simp)]
    have al:∀i j,i<k->j<k->lt (g p i) (g p j)=false:=λi j hi hj=>by
     have x1:=a3 j (k-1) (by omega) (by omega);have x2:=a3 0 i (by omega) hi;exact O.le (O.le x1 e) x2
    have hd:D lt (O1 p 0 k) (k+1):=by
     refine DT O (λi j hij hj=>?_) a1 ?_
     ·rw[u4 (by omega),u4 (by omega),jt ⟨by omega,by omega⟩,jt ⟨by omega,hj⟩];exact al _ _ (by omega) (by omega)
     ·rw[u4 (by omega),u4 (by omega),jt ⟨by omega,by omega⟩,ju (by omega)];exact O.as (O.l1 a5 (al _ _ (by omega) (by omega)))
    obtain⟨m,p2,b1,b2,b3,b4,b5,b6⟩:=Lg O (p:=O1 p 0 k) (n:=k) (nrem:=n) a1 (by omega) (by rw[Bt];omega) hd;exact⟨m,p2,b1,b2.trans (DS _ _ _),by rw[b3,Bt],b4,b5,b6⟩
  ·rw[ju c1];have hk:k=1:=by omega
   subst hk
   exact Lg O (B3 _) (by omega) (by omega) (DT O (λi j h2 h3=>by
    have:i=j:=by omega
    rw[this];exact O.ir _) (B3 _) (O.as a5))
theorem HD {p:Array Nat}{k:Nat}(h:S lt p k):∀(f l r:Nat),l<=r->r<=k->r-l<=f->(∀i,i<l->lt (g p k) (g p i)=false)->(∀i,r<=i->i<k->lt (g p k) (g p i)=true)->
   run lt (U9 p k f l r)<=k/\(∀i,i<run lt (U9 p k f l r)->lt (g p k) (g p i)=false)/\(∀i,run lt (U9 p k f l r)<=i->i<k->lt (g p k) (g p i)=true)
 | 0, l, r, h1, h2, h3, h4, h5 => by
  have:l=r:=by omega
  subst this;exact⟨h2,h4,h5⟩
 | f + 1, l, r, h1, h2, h3, h4, h5 => by
  by_cases c:l>=r
  ·have:l=r:=by omega
   subst this;unfold U9;rw[jt c];exact⟨h2,h4,h5⟩
  ·have e:run lt (U9 p k (f+1) l r)=run lt (if lt (g p k) (g p ((l+r)/2))=true then U9 p k f l ((l+r)/2) else U9 p k f ((l+r)/2+1) r):=by
    conv=>lhs;unfold U9
    rw[ju c];rfl
   rw[e];cases e2:lt (g p k) (g p ((l+r)/2)) with
   | true =>
    rw[jt rfl];exact HD h f l ((l+r)/2) (by omega) (by omega) (by omega) h4 λi i1 i2=>O.l1 e2 (h _ _ i1 i2)
   | false =>
    rw[ju (by simp)];exact HD h f ((l+r)/2+1) r (by omega) h2 (by omega) (λi i1=>O.le (h i ((l+r)/2) (by omega) (by omega)) e2) h5
theorem Lh:∀(f:Nat) (p:Array Nat) (k:Nat),k + f<=p.size->S lt p k->(run lt (kas_bin f p k)).Perm p/\(run lt (kas_bin f p k)).size=p.size/\S lt (run lt (kas_bin f p k)) (k + f)
 |0,p,k,_,h=>⟨Ca _,rfl,h⟩
 | f + 1, p, k, hs, h => by
  obtain⟨a1,a2,a3⟩:=HD O h k 0 k (by omega) (B3 _) (by omega) (λi z=>by omega) (λi z z2=>by omega)
  have e:run lt (kas_bin (f+1) p k)=run lt (kas_bin f (bubble p k (k-run lt (U9 p k k 0 k))) (k+1)):=by
   show run lt ((U9 p k k 0 k).bind λl=>kas_bin f (bubble p k (k-l)) (k+1))=_;rw[Cq]
  rw[e];generalize run lt (U9 p k k 0 k)=l at a1 a2 a3 ⊢
  have hS:S lt (bubble p k (k - l)) (k + 1):=by
   intro i j hij hj;rw[g_bub (by omega) a1,g_bub (by omega) a1]
   by_cases ci:i=l
   ·rw[jt ci]
    by_cases cj:j=l
    ·rw[jt cj];exact O.ir _
    ·rw[ju cj,jt ⟨by omega,by omega⟩];exact O.as (a3 _ (by omega) (by omega))
   ·rw[ju ci]
    by_cases cj:j=l
    ·rw[jt cj,ju (by omega)];exact a2 _ (by omega)
    ·rw[ju cj]
     by_cases c2:l<j
     ·rw[jt ⟨c2,by omega⟩]
      by_cases c3:l<i
      ·rw[jt ⟨c3,by omega⟩];exact h _ _ (by omega) (by omega)
      ·rw[ju (by omega)];exact h _ _ (by omega) (by omega)
     ·rw[ju (by omega),ju (by omega)];exact h _ _ hij (by omega)
  obtain⟨b1,b2,b3⟩:=Lh f (bubble p k (k-l)) (k+1) (by rw[bubble_size];omega) hS;exact⟨b1.trans (bubble_perm _ _ _),by rw[b2,bubble_size],by rw[show k+(f+1)=k+1+f by omega];exact b3⟩
theorem sort_ok (h1:1<=n):(run lt (M1 n)).Perm (CV (C7 n))/\(run lt (M1 n)).size=n/\S lt (run lt (M1 n)) n:=by
 have hz:(CV (C7 n)).size=n:=by simp
 obtain⟨m,p,a1,a2,a3,a4,a5,a6⟩:=QY O (p:=CV (C7 n)) h1 hz;unfold M1;rw[Cq,a1];dsimp only
 by_cases c:m<n
 ·rw[jt c,Nat.max_eq_left a4];obtain⟨b1,b2,b3⟩:=Lh O (n-m) p m (by omega) a6;rw[show m+(n-m)=n by omega] at b3;exact⟨b1.trans a2,by rw[b2,a3,hz],b3⟩
 ·rw[ju c];have:m=n:=by omega
  subst this;exact⟨a2,by rw[<- hz,<- a3];rfl,a6⟩
omit O
def InQ {α:Type}(n:Nat)(Q:α->Prop):KasT α->Prop
 |.ret a=>Q a
 |.ask i j k=>i<n/\j<n/\∀b,InQ n Q (k b)
theorem Cr {α β:Type}{n:Nat}{Q:α->Prop}{R:β->Prop}{f:α->KasT β}(hf:∀a,Q a->InQ n R (f a)):∀t:KasT α,InQ n Q t->InQ n R (t.bind f)
 |.ret a,h=>hf a h
 |.ask _ _ k,h=>⟨h.1,h.2.1,λb=>Cr hf (k b) (h.2.2 b)⟩
def En (n:Nat)(p:Array Nat):Prop:=0<n/\p.Perm (CV (C7 n))
theorem En.g {n:Nat}{p:Array Nat}(h:En n p)(i:Nat):p.getD i 0<n:=by
 by_cases c:i<p.size
 ·rw[show p.getD i 0=p[i] by simp[Array.getD,c]]
  simpa using h.2.mem_iff.mp (Array.getElem_mem c)
 ·rw[show p.getD i 0=0 by simp[Array.getD,c]];exact h.1
theorem En.perm {n:Nat}{p q:Array Nat}(h:En n p)(hp:q.Perm p):En n q:=⟨h.1,hp.trans h.2⟩
theorem En.rev (h:En n p)(i j:Nat):En n (O1 p i j):=h.perm (DS _ _ _)
theorem HE {n:Nat}{p:Array Nat}(h:En n p):∀f m,InQ n (λ_=>True) (T8 p f m)
 |0,_=>trivial
 | f + 1, m => ⟨h.g _, h.g _, fun b => by
  cases b with
  |true=>exact trivial
  |false=>exact HE h f (m+1)⟩
theorem FA {n:Nat}:∀f p m q,En n p->InQ n (λr=>En n r.1) (l5 f p m q)
 |0,_,_,_,h=>h
 | f + 1, p, m, q, h => ⟨h.g _, h.g _, fun b => by
  cases b with
  | true =>
   show InQ n _ (if q>0 then _ else _)
   by_cases c:q>0
   ·rw[jt c];exact FA f _ _ _ (h.rev _ _)
   ·rw[ju c];exact FA f _ _ _ h
  | false =>
   refine⟨h.g _,h.g _,λd=>?_⟩;cases d with
   |true=>exact h
   |false=>exact FA f _ _ _ h⟩
theorem Li (h:En n p):InQ n (λr=>En n r.2) (kas_tail3 m k p):=by
 unfold kas_tail3;refine Cr (Q:=λ_=>True) (λa _=>?_) _ (HE (h.rev _ _) _ _);exact(h.rev _ _:En n _)
theorem Lj (h:En n p):InQ n (λr=>En n r.2) (kas_descPart m k p):=Cr (λr hr=>by
   by_cases c:r.2.2>0
   ·rw[jt c];exact Li (hr.rev _ _)
   ·rw[ju c];exact Li hr) _ (FA _ _ _ _ h)
theorem QZ (h:En n p):InQ n (λr=>En n r.2) (kas_count k p):=Cr (λm _=>by
   by_cases c:(m == k)=true
   ·rw[jt c];exact h
   ·rw[ju c]
    by_cases c1:m>1
    ·rw[jt c1];refine⟨h.g _,h.g _,λb=>?_⟩;cases b with
     |true=>exact h
     |false=>exact Lj (h.rev _ _)
    ·rw[ju c1];exact Lj h) _ (HE h _ _)
theorem HF {n k:Nat}{p:Array Nat}(h:En n p):∀f l r,InQ n (λ_=>True) (U9 p k f l r)
 |0,_,_=>trivial
 | f + 1, l, r => by
  unfold U9
  by_cases c:l>=r
  ·rw[jt c];exact trivial
  ·rw[ju c];refine⟨h.g _,h.g _,λb=>?_⟩;cases b with
   |true=>exact HF h f _ _
   |false=>exact HF h f _ _
theorem Lk {n:Nat}:∀f p k,En n p->InQ n (En n) (kas_bin f p k)
 |0,_,_,h=>h
 |f+1,p,k,h=>Cr (λl _=>Lk f _ _ (h.perm (bubble_perm _ _ _))) _ (HF h k 0 k)
theorem sort_in {n:Nat}(h1:1<=n):InQ n (En n) (M1 n):=Cr (λr hr=>by
   by_cases c:r.1<n
   ·rw[jt c];exact Lk _ _ _ hr
   ·rw[ju c];exact hr) _ (QZ ⟨h1,Ca _⟩)
theorem Ll {α:Type}{lt:Nat->Nat->Bool}{n:Nat}{Q:α->Prop}:∀t:KasT α,InQ n Q t->Q (run lt t)
 |.ret a,h=>h
 |.ask i j k,h=>Ll (k (lt i j)) (h.2.2 _)
theorem sort_perm {lt:Nat->Nat->Bool}{n:Nat}(h1:1<=n):(run lt (M1 n)).Perm (CV (C7 n)):=(Ll _ (sort_in h1)).2
theorem wp_run {α:Type}{lt:Nat->Nat->Bool}{n:Nat}{P:α->Prop}{ask:Nat->Nat->(Bool->A4->Prop)->A4->Prop}{Q:α->A4->Prop}{s:A4}(h:∀i j C,i<n->j<n->C (lt i j) s->ask i j C s):∀t:KasT α,InQ n P t->Q (run lt t) s->t.kasWp ask Q s
 |.ret a,_,q=>q
 |.ask i j k,hi,q=>h i j _ hi.1 hi.2.1 (wp_run h (k (lt i j)) (hi.2.2 _) q)
theorem out_ok {α:Type}(lt:α->α->Bool)(O:(∀a,lt a a=false)/\(∀a b c,lt a b=true->lt b c=true->lt a c=true)/\(∀a b c,lt a c=true->lt a b=true\/lt b c=true))(d:α)(xs:List α)(h1:1<=xs.length) :
   let p:=run (λi j=>lt (xs.getD i d) (xs.getD j d)) (M1 xs.length)
   (p.toList.map λi=>xs.getD i d).Perm xs/\(p.toList.map λi=>xs.getD i d).Pairwise (λa b=>lt b a=false):=by
 intro p;have OO:Ord λi j=>lt (xs.getD i d) (xs.getD j d):=⟨λa=>O.1 _,λa b c=>O.2.1 _ _ _,λa b c=>O.2.2 _ _ _⟩;obtain⟨a1,a2,a3⟩:=sort_ok OO h1;constructor
 ·have hp:p.toList.Perm (C7 xs.length):=Dg.mp a1;have:=hp.map λi=>xs.getD i d;refine this.trans (List.Perm.of_eq ?_)
  apply List.ext_getElem (by simp)
  intro i h2 h3;simp[h3]
 ·rw[Z8];intro i j hi hj hij;have hi':i<p.size:=by simpa using hi
  have hj':j<p.size:=by simpa using hj
  have:=a3 i j (y4 hij) (by rw[<- a2];exact hj');simp only[List.getElem_map,Array.getElem_toList];have e1:g p i=p[i]:=by unfold g;simp[Array.getD,hi']
  have e2:g p j=p[j]:=by unfold g;simp[Array.getD,hj']
  have this':lt (xs.getD (g p j) d) (xs.getD (g p i) d)=false:=this;rw[e1,e2] at this';exact this'
end Kr
end L2
end
section
namespace L2
open PySem PySem.W PySem.Spec PyProof.Rows
def Q4 (lt:Nat->Nat->Bool)(vs:List A1):List A1:=if vs.length<2 then vs else(Kr.run lt (M1 vs.length)).toList.map λi=>vs.getD i Y3
section
variable {prog:C3}{w:B8}{A:C8}{E:A1->A4->Prop}{s:A4}
def AJ (h h1:B1)(a:A0):Prop:=∀b o,b≠a->h.get? b=some o->h1.get? b=some o
theorem Lm {a:A0}{vs:List A1}{n:Nat}{lt:Nat->Nat->Bool}{P:PySem.Fin->A4->Prop}(ho:s.heap.get? a=some (seqObj "list" vs.toArray n))(h64:vs.length<64)
   (hk:2<=vs.length->∀h1,AJ s.heap h1 a->∃κ,(∀Q:d5->A4->Prop,Q κ { s with heap:=h1 }->A5 (A6 prog w) A (keyKind' vs.toArray) Q E { s with heap:=h1 })/\∀i j (C:Bool->A4->Prop),i<vs.length->j<vs.length->C (lt i j) { s with heap:=h1 }->kas_ask prog w A κ vs i j C { s with heap:=h1 })
   (h:∀h2 e,AJ s.heap h2 a->h2.get? a=some (seqObj "list" (Q4 lt vs).toArray e)->P (.done (.ret .none)) { s with heap:=h2 }):A5 (A6 prog w) A (L8.«list.sort» ⟨[.ref a],[]⟩) P E s:=by
 have ha:a<s.heap.objs.size:=B9 ho;have hsz:vs.toArray.size=vs.length:=by simp
 rw[list_sort_plain];refine A2 (listItems_at ho rfl ?_);refine A2 (BW ho rfl ?_ (by rw[hsz,K9];omega) (D5 _));obtain⟨e1,ho1⟩:∃e1,(s.heap.update a (G9 λ_=>(#[]:Array A1))).get? a=some (seqObj "list" #[] e1):=⟨_,Dl ho λ_=>#[]⟩;refine A2 (seqEpoch_at ho1 rfl ?_);refine A2 (wpAny_newTuple ?_ (by show vs.length<=_;rw[K9];omega));refine A2 (BG ?_ (D5 _));refine N4 ?_;show A5 (A6 prog w) A _ P E { s with heap:=((s.heap.update a (G9 λ_=>(#[]:Array A1))).push (seqObj "tuple" vs.toArray 0)).push (seqObj "list" #[] 0) };have ho3:=B6 (seqObj "list" #[] 0) (B6 (seqObj "tuple" vs.toArray 0) ho1)
 have k3:AJ s.heap (((s.heap.update a (G9 λ_=>(#[]:Array A1))).push (seqObj "tuple" vs.toArray 0)).push (seqObj "list" #[] 0)) a:=λb o hb e=>
  B6 _ (B6 _ (((U2 s.heap a (G9 λ_=>(#[]:Array A1))).2 b hb).trans e))
 generalize ((s.heap.update a (G9 λ_=>(#[]:Array A1))).push (seqObj "tuple" vs.toArray 0)).push (seqObj "list" #[] 0)=h3 at ho3 k3 ⊢;dsimp only
 have last:∀out:Array A1,out.size=vs.length->out=(Q4 lt vs).toArray->∃e,(h3.update a (G9 λ_=>out)).get? a=some (seqObj "list" (Q4 lt vs).toArray e)/\AJ s.heap (h3.update a (G9 λ_=>out)) a:=λout _ eo=>
  ⟨_,by rw[<- eo];exact Dl ho3 λ_=>out,λb o hb e=>((U2 h3 a (G9 λ_=>out)).2 b hb).trans (k3 b o hb e)⟩
 by_cases h2:vs.toArray.size<2
 ·rw[jt h2,jt h2];refine A2 (A8 ?_);rw[StateT.run_pure];refine A2 (A8 ?_);dsimp only
  have eo:(arrOf (Aa general' (vs.toArray.zip vs.toArray) #[] 7 none)).map (·.2)=(Q4 lt vs).toArray:=by
   have e2:(arrOf (Aa general' (vs.toArray.zip vs.toArray) #[] 7 none))=vs.toArray.zip vs.toArray:=rfl;rw[e2];unfold Q4;rw[jt (by omega)]
   apply EI.mp
   rw[Array.toList_map,Array.toList_zip];exact List.map_snd_zip (B3 _)
  obtain⟨e,x1,x2⟩:=last _ (by rw[eo];unfold Q4;rw[jt (by omega)];simp) eo;refine A2 (seqEpoch_at ho3 rfl ?_);refine A2 (BW ho3 rfl ?_ (D5 _) (by rw[eo];unfold Q4;rw[jt (by omega),hsz,K9];omega));simp only[bne_self_eq_false,F2,if_false];exact A8 (h _ e x2 x1)
 ·rw[ju h2,ju h2];have l2:2<=vs.length:=by omega
  obtain⟨κ,q1,q2⟩:=hk l2 h3 k3;refine A2 (q1 _ ?_);have wp:=Kr.wp_run (Q:=λp s'=>p=Kr.run lt (M1 vs.length)/\s'={ s with heap:=h3 }) (P:=Kr.En vs.length) q2 (M1 vs.length) (Kr.sort_in (by omega)) ⟨rfl,rfl⟩;refine A2 (F7 (kat_run (E:=E) (Q:=λst' s'=>∃p:Array Nat,p.size=vs.length/\arrOf st'=p.map (N9 (vs.toArray.zip vs.toArray))/\failedOf st'=none/\p=Kr.run lt (M1 vs.length)/\s'={ s with heap:=h3 }) rfl l2 h64 (λp' st' s' a1 a2 a3 a4=>⟨p',a1,a2,a3,a4⟩) wp) ?_ λ_ _ e=>e);rintro⟨⟨⟩,st'⟩ s' ⟨p,hp,har,hf,ep,rfl⟩;dsimp only
  have eo:(arrOf st').map (·.2)=(Q4 lt vs).toArray:=by
   rw[kat_snds rfl har,ep];unfold Q4;rw[ju (by omega)]
  have so:((arrOf st').map (·.2)).size=vs.length:=by rw[eo];unfold Q4;rw[ju (by omega),D9,A9,M8,<- ep,hp]
  obtain⟨e,x1,x2⟩:=last _ so eo;refine A2 (seqEpoch_at ho3 rfl ?_);refine A2 (BW ho3 rfl ?_ (D5 _) (by rw[so,K9];omega));rw[hf];simp only[bne_self_eq_false,F2,if_false];exact A8 (h _ e x2 x1)
theorem Q_ (h64:vs.length<64)
   (hcol:∀(R:List A1->A4->Prop),(∀h1 tk,(∀b o,s.heap.get? b=some o->h1.get? b=some o)->s.heap.objs.size<=h1.objs.size->R vs { s with heap:=h1,toks:=tk })->A5 (A6 prog w) A.in1 (collect v) R E s)
   (hk:2<=vs.length->∀(A:C8) (E:A1->A4->Prop) h1 tk,(∀b o,s.heap.get? b=some o->h1.get? b=some o)->∃κ,(∀Q:d5->A4->Prop,Q κ { s with heap:=h1,toks:=tk }->A5 (A6 prog w) A (keyKind' vs.toArray) Q E { s with heap:=h1,toks:=tk })/\∀i j (C:Bool->A4->Prop),i<vs.length->j<vs.length->C (lt i j) { s with heap:=h1,toks:=tk }->kas_ask prog w A κ vs i j C { s with heap:=h1,toks:=tk })
   (h:∀h2 tk D e,(∀b o,s.heap.get? b=some o->h2.get? b=some o)->s.heap.objs.size<=D->h2.get? D=some (seqObj "list" (Q4 lt vs).toArray e)->Q (.ref D) { s with heap:=h2,toks:=tk }) :
   A5 (A6 prog w) A (call (.builtin "sorted") [v]) Q E s:=by
 refine GI kind_sorted plain_sorted entry_sorted (args_sorted1 _) ?_;unfold L8.«sorted»;refine A2 (m:=checkCount "sorted" 1 1 _) (A8 ?_);refine A2 (hcol _ λh1 tk k1 z1=>?_);refine A2 (BG ?_ (by rw[K9];omega));have hoL:(h1.push (seqObj "list" vs.toArray 0)).get? h1.objs.size=some (seqObj "list" vs.toArray 0):=E4 _ rfl;have kL:∀b o,s.heap.get? b=some o->(h1.push (seqObj "list" vs.toArray 0)).get? b=some o:=λb o e=>B6 _ (k1 b o e);have ne:∀b o,s.heap.get? b=some o->b≠h1.objs.size:=λb o e=>D6 (G0 (B9 e) z1);refine A2 (N4 (N3 slot_list_sort ⟨_,hoL,rfl⟩ entry_list_sort ?body (args_list_sort _)))
 case body=>
  refine Lm (lt:=lt) (s:={ s with heap:=h1.push (seqObj "list" vs.toArray 0),toks:=tk }) hoL h64 (λl2 h3 k3=>?_) λh3 e k3 e3=>?_
  ·exact hk l2 _ _ h3 tk λb o x=>k3 b o (ne b o x) (kL b o x)
  ·exact⟨_,rfl,A8 ⟨_,rfl,h h3 tk _ e (λb o x=>k3 b o (ne b o x) (kL b o x)) z1 e3⟩⟩
end
def J3:Key->Key->Bool
 |.inl a,.inl b=>decide (a<b)
 |.inr a,.inr b=>decide (a.cps.toList<b.cps.toList)
 |.inl _,.inr _=>true
 |.inr _,.inl _=>false
def lexK:List Key->List Key->Bool
 |[],[]=>false
 |[],_::_=>true
 |_::_,[]=>false
 |x::xs,y::ys=>if x=y then lexK xs ys else J3 x y
theorem Ra {a b:Str}(h:a.cps.toList=b.cps.toList):a=b:=by
 cases a;cases b
 congr 1
 exact EI.mp h
theorem HG (x:Key):J3 x x=false:=by
 cases x with
 |inl a=>exact jr (Int.lt_irrefl a)
 |inr a=>exact jr (List.lt_irrefl _)
theorem Rb (h1:J3 x y=true)(h2:J3 y z=true):J3 x z=true:=by
 cases x <;> cases y <;> cases z <;> simp only[J3,decide_eq_true_eq,reduceCtorEq] at * <;> first|omega|exact List.lt_trans h1 h2|skip
theorem Rc (h:x≠y):J3 x y=true\/J3 y x=true:=by
 cases x with
 | inl a =>
  cases y with
  | inl b =>
   have:a≠b:=λe=>h (by rw[e]);simp only[J3,decide_eq_true_eq];omega
  |inr b=>exact .inl rfl
 | inr a =>
  cases y with
  |inl b=>exact .inr rfl
  | inr b =>
   have hn:a.cps.toList≠b.cps.toList:=λe=>h (by rw[Ra e]);simp only[J3,decide_eq_true_eq]
   by_cases c:a.cps.toList<b.cps.toList
   ·exact .inl c
   ·by_cases c2:b.cps.toList<a.cps.toList
    ·exact .inr c2
    ·exact absurd (List.le_antisymm (List.not_lt.mp c2) (List.not_lt.mp c)) hn
theorem HH:∀x:List Key,lexK x x=false
 |[]=>rfl
 |x::xs=>by show(if x=x then lexK xs xs else _)=false;rw[jt rfl,HH xs]
theorem FB:∀{x y z:List Key},lexK x y=true->lexK y z=true->lexK x z=true
 |[],[],_,h,_=>by cases h
 |[],_::_,[],_,h=>by cases h
 |[],_::_,_::_,_,_=>rfl
 |_::_,[],_,h,_=>by cases h
 |_::_,_::_,[],_,h=>by cases h
 | x :: xs, y :: ys, z :: zs, h1, h2 => by
  change (if x=y then lexK xs ys else J3 x y)=true at h1
  change (if y=z then lexK ys zs else J3 y z)=true at h2
  show(if x=z then lexK xs zs else J3 x z)=true
  by_cases c1:x=y
  ·rw[jt c1] at h1;subst c1
   by_cases c2:x=z
   ·rw[jt c2] at h2 ⊢;exact FB h1 h2
   ·rw[ju c2] at h2 ⊢;exact h2
  ·rw[ju c1] at h1
   by_cases c2:y=z
   ·subst c2;rw[ju c1];exact h1
   ·rw[ju c2] at h2;have h3:=Rb h1 h2
    by_cases c3:x=z
    ·rw[c3,HG] at h3;cases h3
    ·rw[ju c3];exact h3
theorem Ln:∀{x y:List Key},x≠y->lexK x y=true\/lexK y x=true
 |[],[],h=>absurd rfl h
 |[],_::_,_=>.inl rfl
 |_::_,[],_=>.inr rfl
 | x :: xs, y :: ys, h => by
  show(if x=y then lexK xs ys else J3 x y)=true\/(if y=x then lexK ys xs else J3 y x)=true
  by_cases c:x=y
  ·rw[jt c,jt c.symm];exact Ln λe=>h (by rw[c,e])
  ·rw[ju c,ju (λe=>c e.symm)];exact Rc c
theorem Lo {x y z:List Key}(h:lexK x z=true):lexK x y=true\/lexK y z=true:=by
 by_cases c:x=y
 ·grind
 ·rcases Ln c with h1|h1
  ·grind
  ·exact .inr (FB h1 h)
def Al:List Key->List Key->Prop
 |.inl _::xs,.inl _::ys=>Al xs ys
 |.inr _::xs,.inr _::ys=>Al xs ys
 |_::_,_::_=>False
 |_,_=>True
def KeyV:Key->A1->Prop
 |.inl i,v=>∃t,v=.int i t
 |.inr z,v=>∃t,v=.str z t
inductive AK:List Key->List A1->Prop
 |nil:AK [] []
 |cons {k v ks vs} (h:KeyV k v) (t:AK ks vs):AK (k::ks) (v::vs)
section
variable {prog:C3}{w:B8}{A:C8}{E:A1->A4->Prop}{s:A4}
theorem Re (hx:KeyV x u)(hy:KeyV y v)(al:Al (x::xs) (y::ys))(h:Q (decide (x=y)) s):A5 (A6 prog w) A (eqBool u v) Q E s:=by
 cases x with
 | inl a =>
  cases y with
  | inl b =>
   obtain⟨t,rfl⟩:=hx;obtain⟨t',rfl⟩:=hy;refine wpAny_eqBool_int ?_
   have e:(a == b)=decide ((Sum.inl a:Key)=.inl b):=by
    rw[Df];exact decide_eq_decide.mpr ⟨λe=>by rw[e],λe=>by injection e⟩
   rw[e];exact h
  |inr b=>exact al.elim
 | inr a =>
  cases y with
  |inl b=>exact al.elim
  | inr b =>
   obtain⟨t,rfl⟩:=hx;obtain⟨t',rfl⟩:=hy;refine eqBool_str ?_
   have e:(a == b)=decide ((Sum.inr a:Key)=.inr b):=by
    rw[Df];exact decide_eq_decide.mpr ⟨λe=>by rw[e],λe=>by injection e⟩
   rw[e];exact h
theorem lt_key (hx:KeyV x u)(hy:KeyV y v)(al:Al (x::xs) (y::ys))(h:Q (.bool (J3 x y)) s):A5 (A6 prog w) A (L7 .Lt u v) Q E s:=by
 cases x with
 | inl a =>
  cases y with
  | inl b =>
   obtain⟨t,rfl⟩:=hx;obtain⟨t',rfl⟩:=hy;exact PyProof.Rows.lt_int h
  |inr b=>exact al.elim
 | inr a =>
  cases y with
  |inl b=>exact al.elim
  | inr b =>
   obtain⟨t,rfl⟩:=hx;obtain⟨t',rfl⟩:=hy;exact PyProof.Rows.lt_str h
theorem FD (hx:KeyV x u)(hy:KeyV y v)(al:Al (x::xs) (y::ys))(h:Q (J3 x y) s):A5 (A6 prog w) A (oneLt' b u v) Q E s:=by
 cases b with
 |false=>exact kat_one u v (lt_key hx hy al h)
 | true =>
  cases x with
  | inl a =>
   cases y with
   | inl b =>
    obtain⟨t,rfl⟩:=hx;obtain⟨t',rfl⟩:=hy;exact oneLt_int h
   |inr b=>exact al.elim
  | inr a =>
   cases y with
   |inl b=>exact al.elim
   | inr b =>
    obtain⟨t,rfl⟩:=hx;obtain⟨t',rfl⟩:=hy;exact oneLt_str h
theorem Rf:∀{xs ys:List Key} {us vs:List A1} (i:Nat),AK xs us->AK ys vs->Al xs ys->fin=decide (us.length<vs.length)->Q (lexK xs ys) s->KatLex prog w A b fin Q (us.zip vs) i s:=by
 intro xs
 induction xs with
 | nil =>
  intro ys us vs i hx hy al hf h;cases hx;refine kat_nil ?_;cases hy with
  |nil=>rw[hf];exact h
  |cons _ _=>rw[hf];exact h
 | cons x xs ih =>
  intro ys us vs i hx hy al hf h;cases hx with
  | @cons _ u _ us' hx1 hx2 =>
   cases hy with
   |nil=>rw[List.zip_nil_right];refine kat_nil ?_;rw[hf];exact h
   | @cons y v ys' vs' hy1 hy2 =>
    rw[CS];refine kat_cons (Re hx1 hy1 al ?_);have h':Q (if x=y then lexK xs ys' else J3 x y) s:=h
    by_cases c:x=y
    ·rw[jq c];rw[jt c] at h';refine kat_yes (ih (i+1) hx2 hy2 ?_ ?_ h')
     ·cases x <;> cases y <;> first|exact al|exact al.elim
     ·rw[hf,D2,D2];exact decide_eq_decide.mpr (by omega)
    ·rw[jr c];rw[ju c] at h';exact kat_no (FD hx1 hy1 al h')
def TupK (h:B1)(v:A1)(ks:List Key):Prop:=∃a o items n,v=.ref a/\h.get? a=some o/\o.cls=.type "tuple"/\o.data=.seq items n/\AK ks items.toList
theorem Rg (hx:TupK s.heap u xs)(hy:TupK s.heap v ys)(al:Al xs ys)(h:Q (lexK xs ys) s):A5 (A6 prog w) A (keyLt' (tuples' b) u v) Q E s:=by
 obtain⟨a,o,items,n,rfl,ho,hc,hd,hk⟩:=hx;obtain⟨a',o',jn,n',rfl,ho',hc',hd',hk'⟩:=hy;exact kat_lt ho hd ho' hd' (Rf 0 hk hk' al (by rw[M8,M8]) h)
end
theorem HI:∀{ks:List Key} {us:List A1},Vals (ks.map kV) us->AK ks us
 |[],_,h=>by cases h;exact .nil
 | .inl i :: ks, _, h => by
  cases h with
  |cons h1 h2=>exact .cons h1 (HI h2)
 | .inr z :: ks, _, h => by
  cases h with
  |cons h1 h2=>exact .cons h1 (HI h2)
section
variable {X:Cx}
theorem HJ (I:Inv X jb σ H s)(h:SqT X.K H a (ks.map kV)):TupK s.heap (.ref a) ks:=by
 obtain⟨jf,r,⟨o,ho,hc,n,hd⟩,_⟩:=I.tuple h;exact⟨a,o,jf.toArray,n,rfl,ho,hc,hd,HI r⟩
theorem TupK.keep (t:TupK h v ks)(k:∀b o,h.get? b=some o->h'.get? b=some o):TupK h' v ks:=by
 obtain⟨a,o,jf,n,e,ho,hc,hd,hk⟩:=t;exact⟨a,o,jf,n,e,k _ _ ho,hc,hd,hk⟩
def KM (K:A7)(H:Hp):Nat->V->List Key->Prop
 |0,y,ks=>∃i,y=.int i/\ks=[.inl i]
 |1,y,ks=>∃z,y=.str z/\ks=[.inr z]
 |_,y,ks=>∃a,y=.ref a/\SqT K H a (ks.map kV)/\ks≠[]
def Kv1 (h:B1):Nat->A1->List Key->Prop
 |0,u,ks=>∃i t,u=.int i t/\ks=[.inl i]
 |1,u,ks=>∃z t,u=.str z t/\ks=[.inr z]
 |_,u,ks=>TupK h u ks/\ks≠[]
def ltIx (jp:List (List Key))(i j:Nat):Bool:=lexK (jp.getD i []) (jp.getD j [])
theorem HK (jp:List (List Key)):Kr.Ord (ltIx jp):=⟨λ_=>HH _,λ_ _ _ h1 h2=>FB h1 h2,λ_ _ _ h=>Lo h⟩
def AL (jp:List (List Key)):Prop:=∀x∈jp,∀y∈jp,Al x y
theorem kv1_of (I:Inv X jb σ H s)(m:Nat)(a:Vals ys vs)(b:Paired (KM X.K H m) ys jp):Paired (Kv1 s.heap m) vs jp:=by
 induction a generalizing jp with
 |nil=>cases b;exact .nil
 | cons h1 _ ih => cases b with
  | cons h2 r2 =>
   refine .cons ?_ (ih r2);rcases m with _|_|m
   ·obtain⟨i,e1,e2⟩:=h2;subst e1;obtain⟨t,rfl⟩:=h1;exact⟨i,t,rfl,e2⟩
   ·obtain⟨i,e1,e2⟩:=h2;subst e1;obtain⟨t,rfl⟩:=h1;exact⟨i,t,rfl,e2⟩
   ·obtain⟨a,e1,e2,e3⟩:=h2;subst e1;cases h1;exact⟨HJ I e2,e3⟩
theorem Kv1.keep (k:∀b o,h.get? b=some o->h'.get? b=some o)(m:Nat)(x:Kv1 h m u ks):Kv1 h' m u ks:=by
 match m,x with
 |0,x=>exact x
 |1,x=>exact x
 |_+2,x=>exact⟨x.1.keep k,x.2⟩
theorem Ai {α β:Type}{F:α->β->Prop}{xs:List α}{ys:List β}(h:Paired F xs ys)(d:α)(e:β):∀i,i<xs.length->F (xs.getD i d) (ys.getD i e):=by
 induction h with
 |nil=>intro i hi;exact absurd hi (BR _)
 | cons h1 _ ih =>
  intro i hi;cases i with
  |zero=>exact h1
  |succ i=>exact ih i (Nat.lt_of_succ_lt_succ hi)
theorem Lp {α β:Type}{F:α->β->Prop}{xs:List α}{ys:List β}(h:Paired F xs ys):∀x∈xs,∃y∈ys,F x y:=by
 induction h with
 |nil=>intro x hx;cases hx
 | cons h1 _ ih =>
  intro x hx;rcases C9.mp hx with rfl|hx
  ·exact⟨_,B2,h1⟩
  ·obtain⟨y,hy,hf⟩:=ih x hx;exact⟨y,B4 _ hy,hf⟩
theorem Rh (p:Paired (Kv1 h (m+2)) vs jp):∃fs,KatTups h vs fs/\fs.length=vs.length/\∀f∈fs,∃k r,(k::r)∈jp/\KeyV k f:=by
 induction p with
 |nil=>exact⟨[],trivial,rfl,λ_ z=>nomatch z⟩
 | cons h1 _ ih =>
  obtain⟨⟨a,o,jf,n,rfl,ho,hc,hd,hk⟩,hne⟩:=h1;obtain⟨fs,t,hl,hf⟩:=ih;cases e:jf.toList with
  |nil=>rw[e] at hk;cases hk;exact absurd rfl hne
  | cons f us =>
   rw[e] at hk;cases hk with
   | @cons k _ ks _ h2 h3 =>
    have ef:jf[0]?=some f:=by rw[<- U1,e];rfl
    refine⟨f::fs,KatTups.cons ho hc hd ef t,by rw[D2,D2,hl],λg hg=>?_⟩;rcases C9.mp hg with rfl|hg
    ·exact⟨k,ks,B2,h2⟩
    ·obtain⟨k',r',h4,h5⟩:=hf g hg;exact⟨k',r',B4 _ h4,h5⟩
theorem Lq {s:A4}(h2:2<=vs.length)(p:Paired (Kv1 s.heap m) vs jp)(al:AL jp)(A:C8)(E:A1->A4->Prop)(h1:B1)(tk:Nat)(k:∀b o,s.heap.get? b=some o->h1.get? b=some o) :
   ∃κ,(∀Q:d5->A4->Prop,Q κ { s with heap:=h1,toks:=tk }->A5 (A6 prog w) A (keyKind' vs.toArray) Q E { s with heap:=h1,toks:=tk })/\∀i j (C:Bool->A4->Prop),i<vs.length->j<vs.length->C (ltIx jp i j) { s with heap:=h1,toks:=tk }->kas_ask prog w A κ vs i j C { s with heap:=h1,toks:=tk }:=by
 have p1:Paired (Kv1 h1 m) vs jp:=Paired.imp' (λ_ _ x=>x.keep k m) p;have lk:=Paired.length p1
 have mem:∀i,i<vs.length->jp.getD i []∈jp:=λi hi=>by
  rw[G6,C4 (by omega)];exact Av _
 match m,p1 with
 | 0, p1 =>
  refine⟨oneType',λQ q=>kas_kind (T:=.type "int") h2 (λv hv=>?_) rfl rfl q,λi j C hi hj c=>?_⟩
  ·obtain⟨ks,_,i,t,rfl,_⟩:=Lp p1 v hv;exact EY rfl
  ·obtain⟨a,t,e1,e2⟩:=Ai p1 .none [] i hi;obtain⟨b,t',e3,e4⟩:=Ai p1 .none [] j hj;unfold kas_ask;unfold ltIx at c;rw[e1,e3,keyLt'_oneType];rw[e2,e4] at c;refine FD (x:=.inl a) (y:=.inl b) (xs:=[]) (ys:=[]) ⟨t,rfl⟩ ⟨t',rfl⟩ trivial ?_
   have e:lexK [.inl a] [.inl b]=J3 (.inl a) (.inl b):=by
    show(if(Sum.inl a:Key)=.inl b then false else J3 (.inl a) (.inl b))=_
    by_cases c:(Sum.inl a:Key)=.inl b
    ·rw[jt c,c,HG]
    ·rw[ju c]
   rw[<- e];exact c
 | 1, p1 =>
  refine⟨oneType',λQ q=>kas_kind (T:=.type "str") h2 (λv hv=>?_) rfl rfl q,λi j C hi hj c=>?_⟩
  ·obtain⟨ks,_,i,t,rfl,_⟩:=Lp p1 v hv;exact EY rfl
  ·obtain⟨a,t,e1,e2⟩:=Ai p1 .none [] i hi;obtain⟨b,t',e3,e4⟩:=Ai p1 .none [] j hj;unfold kas_ask;unfold ltIx at c;rw[e1,e3,keyLt'_oneType];rw[e2,e4] at c;refine FD (x:=.inr a) (y:=.inr b) (xs:=[]) (ys:=[]) ⟨t,rfl⟩ ⟨t',rfl⟩ trivial ?_
   have e:lexK [.inr a] [.inr b]=J3 (.inr a) (.inr b):=by
    show(if(Sum.inr a:Key)=.inr b then false else J3 (.inr a) (.inr b))=_
    by_cases c:(Sum.inr a:Key)=.inr b
    ·rw[jt c,c,HG]
    ·rw[ju c]
   rw[<- e];exact c
 | m' + 2, p1 =>
  obtain⟨fs,kt,fl,hf⟩:=Rh p1
  have asks:∀b i j (C:Bool->A4->Prop),i<vs.length->j<vs.length->C (ltIx jp i j) { s with heap:=h1,toks:=tk }->kas_ask prog w A (tuples' b) vs i j C { s with heap:=h1,toks:=tk }:=λb i j C hi hj c=>by
   have x1:=Ai p1 .none [] i hi;have x2:=Ai p1 .none [] j hj;exact Rg (s:={ s with heap:=h1,toks:=tk }) x1.1 x2.1 (al _ (mem i hi) _ (mem j hj)) c
  obtain⟨f0,fr,rfl⟩:∃f0 fr,fs=f0::fr:=by
   cases fs with
   |nil=>rw[<- fl] at h2;exact absurd h2 (by simp)
   |cons a r=>exact⟨a,r,rfl⟩
  obtain⟨k0,r0,m0,v0⟩:=hf f0 B2
  have all:∀T:String,(∀f k r,(k::r)∈jp->KeyV k f->typeOf f=pure (.type T))->∀v∈f0::fr,Looks (A6 prog w) h1 (typeOf v) (.type T):=λT hT v hv=>by
   obtain⟨k,r,h3,h4⟩:=hf v hv;exact EY (hT v k r h3 h4)
  cases k0 with
  | inl i0 =>
   refine⟨tuples' (F9 "int" != F9 "tuple"),λQ q=>kat_kind (s:={ s with heap:=h1,toks:=tk }) kt (by simp) (all "int" λf k r h3 h4=>?_) rfl q,asks _⟩;cases k with
   |inl i=>obtain⟨t,rfl⟩:=h4;rfl
   |inr z=>exact(al _ m0 _ h3).elim
  | inr i0 =>
   refine⟨tuples' (F9 "str" != F9 "tuple"),λQ q=>kat_kind (s:={ s with heap:=h1,toks:=tk }) kt (by simp) (all "str" λf k r h3 h4=>?_) rfl q,asks _⟩;cases k with
   |inr i=>obtain⟨t,rfl⟩:=h4;rfl
   |inl z=>exact(al _ m0 _ h3).elim
def outV (lt:Nat->Nat->Bool)(ys:List V):List V:=if ys.length<2 then ys else(Kr.run lt (M1 ys.length)).toList.map λi=>ys.getD i .non
theorem Ri (r:Vals ys vs)(O:Kr.Ord lt):Vals (outV lt ys) (Q4 lt vs):=by
 unfold outV Q4;rw[r.length]
 by_cases c:vs.length<2
 ·rw[jt c,jt c];exact r
 ·rw[ju c,ju c];obtain⟨a1,a2,_⟩:=Kr.sort_ok O (n:=vs.length) (by omega)
  have hm:∀i∈(Kr.run lt (M1 vs.length)).toList,i<vs.length:=λi hi=>by
   have:=(Dg.mp a1).mem_iff.mp hi
   simpa using this
  generalize (Kr.run lt (M1 vs.length)).toList=is at hm
  induction is with
  |nil=>exact .nil
  | cons i is ih =>
   refine .cons ?_ (ih λj hj=>hm j (B4 _ hj));exact Ai r .non .none i (by rw[r.length];exact hm i B2)
end
end L2
end
section
namespace Pu
open PySem PySem.Spec L2
def kP:Key->PV
 |.inl i=>.int i
 |.inr z=>.str z
def M2:List PV->Option (List Key)
 |[]=>some []
 |.int i::r=>(M2 r).map (.inl i::·)
 |.str z::r=>(M2 r).map (.inr z::·)
 |_=>none
def keyP:PV->List Key
 |.int i=>[.inl i]
 |.str z=>[.inr z]
 |.tup xs=>(M2 xs).getD []
 |_=>[]
theorem HL:∀ks:List Key,M2 (ks.map kP)=some ks
 |[]=>rfl
 |.inl i::r=>by show(M2 (r.map kP)).map _=_;rw[HL r];rfl
 |.inr i::r=>by show(M2 (r.map kP)).map _=_;rw[HL r];rfl
theorem u5 (ks:List Key):keyP (.tup (ks.map kP))=ks:=by show(M2 (ks.map kP)).getD []=_;rw[HL];rfl
theorem FE:∀(ks:List Key) {us:List V},Reps K G H (ks.map kP) us->us=ks.map kV
 |[],_,h=>h
 | .inl i :: r, _, h => by
  obtain⟨v,t,rfl,h1,h2⟩:=h;rw[FE r h2,show v=.int i from h1];rfl
 | .inr i :: r, _, h => by
  obtain⟨v,t,rfl,h1,h2⟩:=h;rw[FE r h2,show v=.str i from h1];rfl
section
variable {T:PotK}{ι:Type}{K:A7}{F:ι->Cx}{e:Expr}{pe:pE}{pos:Pos}
def FF (xs:List PV):Prop:=(∀x∈xs,∃i,x=.int i)\/(∀x∈xs,∃z,x=.str z)\/((∀x∈xs,∃ks,x=.tup (ks.map kP)/\ks≠[])/\∀x∈xs,∀y∈xs,Al (keyP x) (keyP y))
def Srt (ys xs:List PV):Prop:=ys.Perm xs/\ys.Pairwise λa b=>lexK (keyP b) (keyP a)=false
theorem DU {G:Gh}{H:Hp}{P:PV->V->List Key->Prop}:∀(xs:List PV) {us:List V},Reps K G H xs us->(∀x∈xs,∀v,Rep K G H x v->P x v (keyP x))->Paired (λv ks=>∃x,x∈xs/\P x v ks) us (xs.map keyP)
 |[],_,h,_=>by cases h;exact .nil
 | x :: xs, _, h, hP => by
  obtain⟨v,t,rfl,h1,h2⟩:=h;refine .cons ⟨x,B2,hP x B2 v h1⟩ ?_;exact Paired.imp' (λv ks ⟨y,hy,hp⟩=>⟨y,B4 _ hy,hp⟩) (DU xs h2 λy hy=>hP y (B4 _ hy))
theorem km_of (r:Reps K G H xs us)(h:FF xs):∃m,Paired (KM K H m) us (xs.map keyP)/\AL (xs.map keyP):=by
 rcases h with h|h|⟨h,h'⟩
 ·refine⟨0,Paired.imp' (λv ks ⟨_,_,hp⟩=>hp) (DU (P:=λ_ v ks=>KM K H 0 v ks) xs r λx hx v hv=>?_),λa ha b hb=>?_⟩
  ·obtain⟨i,rfl⟩:=h x hx;exact⟨i,hv,rfl⟩
  ·obtain⟨x,hx,rfl⟩:=C0.mp ha;obtain⟨y,hy,rfl⟩:=C0.mp hb;obtain⟨i,rfl⟩:=h x hx;obtain⟨j,rfl⟩:=h y hy;exact trivial
 ·refine⟨1,Paired.imp' (λv ks ⟨_,_,hp⟩=>hp) (DU (P:=λ_ v ks=>KM K H 1 v ks) xs r λx hx v hv=>?_),λa ha b hb=>?_⟩
  ·obtain⟨i,rfl⟩:=h x hx;exact⟨i,hv,rfl⟩
  ·obtain⟨x,hx,rfl⟩:=C0.mp ha;obtain⟨y,hy,rfl⟩:=C0.mp hb;obtain⟨i,rfl⟩:=h x hx;obtain⟨j,rfl⟩:=h y hy;exact trivial
 ·refine⟨2,Paired.imp' (λv ks ⟨_,_,hp⟩=>hp) (DU (P:=λ_ v ks=>KM K H 2 v ks) xs r λx hx v hv=>?_),λa ha b hb=>?_⟩
  ·obtain⟨ks,rfl,hne⟩:=h x hx;obtain⟨a,vs,rfl,at',rr⟩:=hv;rw[u5];refine⟨a,rfl,?_,hne⟩;rw[FE ks rr] at at';exact SqT.of at'.2
  ·obtain⟨x,hx,rfl⟩:=C0.mp ha;obtain⟨y,hy,rfl⟩:=C0.mp hb;exact h' x hx y hy
def outP (xs:List PV):List PV:=if xs.length<2 then xs else(Kr.run (ltIx (xs.map keyP)) (M1 xs.length)).toList.map λi=>xs.getD i .non
theorem Lr (xs:List PV)(i:Nat):(xs.map keyP).getD i []=keyP (xs.getD i .non):=by grind [PV,keyP]
theorem Rj (xs:List PV):Srt (outP xs) xs:=by
 unfold outP
 by_cases c:xs.length<2
 ·rw[jt c];refine⟨List.Perm.refl _,?_⟩
  match xs,c with
  |[],_=>exact .nil
  |[x],_=>exact List.pairwise_singleton _ _
 ·rw[ju c]
  have e:ltIx (xs.map keyP)=λi j=>lexK (keyP (xs.getD i .non)) (keyP (xs.getD j .non)):=by
   funext i j
   unfold ltIx;rw[Lr,Lr]
  rw[e];exact Kr.out_ok (λa b:PV=>lexK (keyP a) (keyP b)) ⟨λ_=>HH _,λ_ _ _ h1 h2=>FB h1 h2,λ_ _ _ h=>Lo h⟩ .non xs (by omega)
theorem Ls (r:Reps K G H xs us)(i:Nat)(hi:i<xs.length):Rep K G H (xs.getD i .non) (us.getD i .non):=by
 induction xs generalizing us i with
 |nil=>exact absurd hi (BR _)
 | cons x xs ih =>
  obtain⟨v,t,rfl,h1,h2⟩:=r;cases i with
  |zero=>exact h1
  |succ i=>exact ih h2 i (Nat.lt_of_succ_lt_succ hi)
theorem Rl (r:Reps K G H xs us):Reps K G H (outP xs) (outV (ltIx (xs.map keyP)) us):=by
 unfold outP outV;have hl:us.length=xs.length:=r.length.symm;rw[hl]
 by_cases c:xs.length<2
 ·rw[jt c,jt c];exact r
 ·rw[ju c,ju c];obtain⟨a1,a2,_⟩:=Kr.sort_ok (HK (xs.map keyP)) (n:=xs.length) (by omega)
  have hm:∀i∈(Kr.run (ltIx (xs.map keyP)) (M1 xs.length)).toList,i<xs.length:=λi hi=>by
   have:=(Dg.mp a1).mem_iff.mp hi
   simpa using this
  generalize (Kr.run (ltIx (xs.map keyP)) (M1 xs.length)).toList=is at hm
  induction is with
  |nil=>exact rfl
  |cons i is ih=>exact⟨_,_,rfl,Ls r i (hm i B2),ih λj hj=>hm j (B4 _ hj)⟩
end
end Pu
end
section
namespace L2
open PySem PySem.Spec PyProof.Rows
section
variable {κ:Type}[DecidableEq κ]
def valV (jg:List (κ×V))(k:κ):Option V:=(jg.find? λkv=>decide (kv.1=k)).map (·.2)
def putK (jg:List (κ×V))(k:κ)(v:V):List (κ×V):=
 if(jg.any λkv=>decide (kv.1=k))=true then jg.map (λkv=>if kv.1=k then(kv.1,v) else kv) else jg++[(k,v)]
theorem KV.keys {jg:List (κ×V)}{vs:List (κ×A1)}(r:KV jg vs):jg.map (·.1)=vs.map (·.1):=by induction r <;> grind
end
theorem kV_is (r:RelV (kV k) u):(Y4 P w).is k u=true:=by
 cases k with
 |inl i=>obtain⟨t,e⟩:=(show ∃t,u=Value.int i t from r);subst e;exact Jr P w i t
 |inr x=>obtain⟨t,e⟩:=(show ∃t,u=Value.str x t from r);subst e;exact Js P w x t
theorem items_are {P:C3}{w:B8}:∀{ks:List Key} {us:List A1},Vals (ks.map kV) us->ItemsAre (Y4 P w) ks us
 |[],_,r=>by rw[List.map_nil] at r;cases r;exact .nil
 | k :: ks, _, r => by
  rw[J8] at r;cases r with
  |cons h t=>exact .cons (kV_is h) (items_are t)
def DGet (H:Hp)(a:A0)(y:V)(r:Option V):Prop:=
 (∃jg k,Rd H a (.dK jg)/\y=kV k/\r=valV jg k)\/∃jg k b,Rd H a (.dT jg)/\y=.ref b/\H b=some (.tup (k.map kV))/\r=valV jg k
def DPut (H:Hp)(a:A0)(y v:V)(H':Hp):Prop:=
 (∃jg k,H a=some (.dK jg)/\y=kV k/\jg.length<B7/\H'=upd H a (.dK (putK jg k v)))\/
 ∃jg k b,H a=some (.dT jg)/\y=.ref b/\H b=some (.tup (k.map kV))/\jg.length<B7/\H'=upd H a (.dT (putK jg k v))
theorem DGet.k {k:Key}(e:H a=some (.dK jg)):DGet H a (kV k) (valV jg k):=.inl ⟨jg,k,.inl e,rfl,rfl⟩
theorem DGet.t {k:List Key}(e:H a=some (.dT jg))(eb:H b=some (.tup (k.map kV))):DGet H a (.ref b) (valV jg k):=.inr ⟨jg,k,b,.inl e,rfl,eb,rfl⟩
theorem DPut.k {k:Key}(e:H a=some (.dK jg))(hl:jg.length<B7):DPut H a (kV k) v (upd H a (.dK (putK jg k v))):=.inl ⟨jg,k,e,rfl,hl,rfl⟩
theorem DPut.t {k:List Key}(e:H a=some (.dT jg))(eb:H b=some (.tup (k.map kV)))(hl:jg.length<B7) :
   DPut H a (.ref b) v (upd H a (.dT (putK jg k v))):=.inr ⟨jg,k,b,e,rfl,eb,hl,rfl⟩
end L2
end
section
namespace Pu
open PySem PySem.Spec L2
def tupP (ks:List Key):PV:=.tup (ks.map kP)
end Pu
end
section
namespace L2
open PySem PySem.Spec PyProof.Rows
def insL {α:Type}(xs:List α)(k:Nat)(y:α):List α:=xs.take k++y::xs.drop k
theorem FG {α:Type}(xs:List α)(k:Nat)(y:α):(insL xs k y).length=xs.length+1:=by
 unfold insL;rw[D7,D2,M6,Bd];omega
section
variable {prog:C3}{w:B8}{A:C8}{E:A1->A4->Prop}{s:A4}
theorem Rm {j:Nat}(ht:s.heap.IsTuple t jf)(hS:StrsAre jf.toList ys)(hj:ys[j]?=some k)(hlt:∀i,i<j->ys[i]?≠some k)(hsm:ys.length<=1000000)
   (h:∀tk,Q (.int j tk) { s with toks:=s.toks+1 }):A5 (A6 prog w) A (call (.builtin "tuple.index") [.ref t,.str k tok]) Q E s:=by
 obtain⟨o,ho,hc,n,hd⟩:=id ht;have hT:s.TypeIs (.ref t) "tuple":=⟨o,ho,hc⟩;refine N3 F.slot_tuple_index hT F.entry_tuple_index ?_ (F.args_tuple_index_2 _ _);unfold L8.«tuple.index»;refine A2 (AZ (a:=(L4 t,[Value.str k tok])) rfl ?_);refine A2 (wpAny_tupleItemsOf ho hd ?_);dsimp only;refine A2 (A8 (A2 (A8 ?_)));refine A2 ?_;have hlen:ys.length=jf.toList.length:=(StrsAre.length hS).symm
 have at_:∀(i:Nat) (y:Str),ys[i]?=some y->∃u,jf[i]?=some (.str y u):=by
  intro i y hy
  have:∀{us:List A1} {zs:List Str},StrsAre us zs->∀(i:Nat),zs[i]?=some y->∃u,us[i]?=some (.str y u):=by
   intro us zs hh
   induction hh with
   |nil=>intro i h;cases h
   | cons x t _ ih =>
    intro i h;cases i with
    |zero=>cases h;exact⟨t,rfl⟩
    |succ i=>exact ih i (by simpa using h)
  obtain⟨u,hu⟩:=this hS i hy;exact⟨u,by rw[<- U1];exact hu⟩
 have hjl:j<jf.size:=by
  have:=(E1.mp hj).1;rw[hlen,M8] at this;exact this
 rw[Jq];refine Ej _ (λrest r s'=>r.1=none/\s'=s/\∃i,rest=L9 i (jf.size-i)/\i<=j) _ ?_ ?_ _ _ ⟨rfl,rfl,0,?_,D5 _⟩
 ·rintro x rest ⟨r1,r2⟩ s' ⟨hr,rfl,i0,hi,hij⟩;have hil:jf.size-i0=(jf.size-i0-1)+1:=by omega
  rw[hil,List.range'_succ] at hi;obtain⟨i,hxi⟩:∃i,x=i:=⟨x,rfl⟩;injection hi with h1 h2;subst h2;have hi0:i0=i:=by rw[<- hxi,h1]
  subst hi0;subst hxi;clear h1
  revert hij hil
  generalize x=i;intro hij hil;have hiy:i<ys.length:=by rw[hlen,M8];omega
  obtain⟨u,hu⟩:=at_ i ys[i] (C4 hiy);rw[hu];dsimp only;refine A2 (eqBool_str ?_)
  by_cases c:i=j
  ·subst c
   have:ys[i]=k:=by
    have:=C4 hiy;rw[hj] at this;exact(F6 this).symm
   rw[this,beq_self_eq_true,jt rfl];refine A2 (A2 (wpAny_mkInt (A8 (A8 ?_))));exact A8 ⟨_,rfl,h _⟩
  ·have:ys[i]≠k:=λe=>hlt i (by omega) (by rw[C4 hiy,e]);rw[beq_eq_false_iff_ne.mpr this,ju V2];refine A8 ⟨rfl,rfl,i+1,?_,by omega⟩;rw[show jf.size-(i+1)=jf.size-i-1 by omega]
 ·rintro⟨r1,r2⟩ s' ⟨hr,rfl,i,hi,hij⟩;have hil:jf.size-i=(jf.size-i-1)+1:=by omega
  rw[hil,List.range'_succ] at hi;cases hi
 ·simp[Std.Legacy.Range.size]
end
section
variable {X:Cx}
def Lu (K:A7):V->List V->Hp->VK->Prop:=λx vs H Q=>∃(l:A0) (k:Str) (ys:List Str) (j:Nat),x=.ref l/\vs=[.str k]/\SqT K H l (ys.map V.str)/\ys.length<=1000000/\ys[j]?=some k/\(∀i,i<j->ys[i]?≠some k)/\Q (.int j) H
theorem Ro:MtM X "tuple.index" (Lu X.K):=by
 intro jb s σ H x vs v us Q I rx rv h;obtain⟨l,k,ys,j,rfl,rfl,hq,hz0,hj,hlt,q⟩:=h;cases rx;obtain⟨u,rfl,ru⟩:=rv.one;obtain⟨t,rfl⟩:=ru;obtain⟨jf,r,p,hz⟩:=I.tuple hq;exact Rm p (KN r) hj hlt hz0 λtk=>⟨.int j,H,I.tok _,⟨_,rfl⟩,q⟩
end
end L2
end
section
namespace Pu
open PySem PySem.Spec PyProof.Rows L2
section
variable {T:PotK}{ι:Type}{K:A7}{F:ι->Cx}{e c:Expr}{pe pc:pE}{pos:Pos}
def DV:w2:=λx y R=>match x,y with|.tup xs,.str k=>(match Y5 xs with|some ys=>ys.length<=1000000/\∃j:Nat,ys[j]?=some k/\(∀i,i<j->ys[i]?≠some k)/\R (.int j)|none=>False)|_,_=>False
def W6 (pe pc:pE):pE:=λenv n R=>pe env n λx jc n1=>(∃xs,x=.tup xs)/\pc jc n1 λy jd n2=>DV x y λz=>R z jd n2
theorem Rp (he:QE T K F e pe)(hc:QE T K F c pc)(hs:F3 c=true)(hbase:∀z,AV e "index" (F z).env (eval e (F z).env)=eval e (F z).env)(hline:(ap.endLine == pos.line)=true)
   (hfew:∀z,((backTo pos (E8 [c] (F z).env)).all (λx=>!x.1)&&(backToKw pos (BH [] (F z).env)).all (λx=>x.1.isSome)&&decide (([c]:List Expr).length+([]:List Z7).length+(if([]:List Z7).isEmpty then 0 else 1)<30))=true) (hK:∀z,(F z).K=K):QE T K F (.Call (.Attribute e "index" ap) [c] [] pos) (W6 pe pc):=by
 obtain⟨t,a1,a2⟩:=he;obtain⟨u,b1,b2⟩:=hc;refine⟨tBM K "tuple" (Lu K) t (p6 u tNil),λz=>hK z▸Fd PySem.F.plainAttrs_tuple PySem.F.slot_tuple_index PySem.F.type_tuple_index Ro (a1 z) (F5 (b1 z) K5 (D4 hs)) (hbase z) (hfew z) hline (D4 hs),λC G σ H env n R Q hK hT S hp k=>?_⟩;refine a2 C G σ H env n _ _ hK hT S hp λx jc n1 v H1 q1 S1 r1 f1=>?_;obtain⟨⟨xs,rfl⟩,q1⟩:=q1;obtain⟨a,vs,rfl,ta,ra⟩:=r1;refine⟨?_,?_⟩
 ·exact .inr (.inl ⟨rfl,.inr ⟨vs,ta.2⟩⟩)
 refine b2 C G σ H1 jc n1 _ _ hK hT S1 q1 λy jd n2 w H2 q2 S2 r2 f2=>?_;unfold DV at q2
 split at q2
 ·rename_i xs' kk e1;cases e1
  split at q2
  ·rename_i ys ey;obtain⟨hz,j,hj,hlt,q3⟩:=q2;obtain⟨a',vs',e3,ta',ra'⟩:=(show Rep K G H1 (.tup xs) (.ref a) from⟨a,vs,rfl,ta,ra⟩).fr f2;cases e3;exact⟨a,kk,ys,j,rfl,by rw[show w=.str kk from r2],Hx ey ra'▸SqT.of ta'.2,hz,hj,hlt,k _ _ _ _ _ q3 S2 rfl (f1.trans f2)⟩
  ·exact q2.elim
 ·exact q2.elim
end
end Pu
end
section
namespace Pu
open PySem PySem.Spec L2
section
variable {T:PotK}{np:Bool}{ι:Type}{K:A7}{F:ι->Cx}{a b ea eb:Expr}{st:Stmt}{pos:Pos}{pa pb pi pj:pE}
theorem Rq (K:A7)(hc:X.calm=true)(h1:GW X x gx)(h2:GW X y gy)(hn:(O5 [x,y] X.env).length=2:=by rfl)(hst:(O5 [x,y] X.env).findIdx? (·.1)=none:=by rfl)
   (hs:(O5 [x,y] X.env).map (·.2)=assign x X.env::(O5 [y] X.env).map (·.2):=by rfl) (hs2:(O5 [y] X.env).map (·.2)=assign y X.env::(O5 [] X.env).map (·.2):=by rfl) (hK:X.K=K:=by rfl) :
   GW X (.Tuple [x,y] k pos) (gTup K 2 (Dv gx (Dv gy gNil))):=⟨hK▸Jz hc (GO h1.h (GO h2.h Jy hs2) hs) hn hst⟩
def W7 (i:Nat)(pa pb pi pj:pE):pS:=λD env n=>pa env n λx jc n1=>pb jc n1 λy jd n2=>(∃xs,jd[i]?=some (some (.ow .lst xs)))/\gAt i pi x jd n2 λje n3=>gAt i pj y je n3 D.nx
theorem Rr (i:Nat){tg:Expr}{k:Nat}{p:Pos}(h:∀z te g,EW (F z) (.Tuple [a,b] k p) te->GW (F z) tg g->SW (F z) st (tAsg te g))(hg:∀z ti tj,EW (F z) ea ti->EW (F z) eb tj->GW (F z) tg (gTup K 2 (Dv (gSub (tVar i) ti Dx) (Dv (gSub (tVar i) tj Dx) gNil))))(h1:QE T K F a pa)(h2:QE T K F b pb)(h3:QE T K F ea pi)(h4:QE T K F eb pj)(n1:F3 a=true)(n2:F3 b=true):QS T np K F st (W7 i pa pb pi pj):=by
 obtain⟨t,a1,a2⟩:=h1;obtain⟨u,b1,b2⟩:=h2;obtain⟨ti,i1,i2⟩:=h3;obtain⟨tj,j1,j2⟩:=h4;refine⟨_,λz=>(h z _ _ ⟨JH (F5 (a1 z) (F5 (b1 z) K5 (D4 n2)) (D4 n1))⟩ (hg z _ _ ⟨i1 z⟩ ⟨j1 z⟩)).h,λC G σ H env n PD D hK hT hn S hp L=>?_⟩;refine a2 C G σ H env n _ _ hK hT S hp λx jc n1 v H1 q1 S1 r1 f1=>?_;refine b2 C G σ H1 jc n1 _ _ hK hT S1 q1 λy jd n2 w H2 q2 S2 r2 f2=>?_;obtain⟨⟨xs0,e0⟩,q2⟩:=q2;refine⟨by show 2<=B7;decide,λp hn'=>⟨p,[v,w],rfl,SqT.of J0,rfl,v,[w],rfl,?_⟩⟩;have sm:Same H2 (upd H2 p (.tup [v,w])):=Same.lay1 hn';generalize upd H2 p (.tup [v,w])=H3 at sm ⊢;have S3:=S2.same sm;obtain⟨a,vs,ev,h1,h2,h3,h4,r⟩:=S3.slots i _ e0;refine⟨.ref a,ev,?_⟩;refine i2 C G σ H3 jd n2 _ _ hK hT S3 q2 λd je n3 ud H4 q3 S4 r4 f4=>?_
 split at q3
 ·rename_i xs d ex
  split at q3
  ·rename_i jj ej;obtain⟨a',us,ev',g1,g2,g3,g4,r'⟩:=S4.slots i _ ex;rw[ev] at ev';cases ev';subst hK;obtain⟨S5,f5⟩:=S4.put ex ev (r'.set jj (((r1.fr f2).same sm).fr f4));refine⟨a,us,d,jj,rfl,r4,g4,by rw[<- r'.length];exact ej,?_⟩;refine⟨w,[],rfl,.ref a,ev,?_⟩;refine j2 C G σ _ _ n3 _ _ rfl hT S5 q3 λd2 env5 n5 ud2 H5 q5 S6 r6 f6=>?_
   split at q5
   ·rename_i xs2 d2 ex2
    split at q5
    ·rename_i jj2 ej2;obtain⟨a',us2,ev',k1,k2,k3,k4,r7⟩:=S6.slots i _ ex2;rw[ev] at ev';cases ev';obtain⟨S7,f7⟩:=S6.put ex2 ev (r7.set jj2 ((((r2.same sm).fr f4).fr f5).fr f6));exact⟨a,us2,d2,jj2,rfl,r6,k4,by rw[<- r7.length];exact ej2,rfl,L.nx _ _ _ _ _ q5 S7 (Ext.fr ((((((f1.trans f2).trans (Fr.of sm)).trans f4).trans f5).trans f6).trans f7))⟩
    ·grind
   ·grind
  ·grind
 grind
end
end Pu
end
section
namespace Pu
open PySem L2
theorem DW {tt:pT}{rest:Pu.Env}{α:Type}(f:α->PV)(c:α->Bool):∀(xs:List α) (s0:Option Slot) (n:Nat) (R:List PV->Nat->Prop),(∀x∈xs,∀m Q,Q (c x) (some (.v (f x))::rest) m->tt (some (.v (f x))::rest) m Q)->R ((xs.filter c).map f) n->R6 (gN 0) tt (qV 0) (xs.map f) (s0::rest) n R
 |[],_,_,_,_,h=>h
 | x :: xs, s0, n, R, ht, h => by
  show tt (some (.v (f x))::rest) n _;refine ht x B2 n _ ?_
  by_cases hc:c x=true
  ·rw[jt hc];rw[Ez,jt hc] at h;show R6 (gN 0) tt (qV 0) (xs.map f) (some (.v (f x))::rest) n _;exact DW f c xs _ n _ (λy hy=>ht y (B4 _ hy)) h
  ·rw[ju hc];rw[Ez,ju hc] at h;exact DW f c xs _ n _ (λy hy=>ht y (B4 _ hy)) h
end Pu
end
section
namespace Pu
open PySem PySem.Spec L2
def lt (f t:Int)(k:Nat):Nat:=97+((f+(k:Int)*t)%26).toNat
theorem lt_ltr:Ltr (lt f t k):=by
 unfold lt Ltr;have:=o6 (f+(k:Int)*t) (show(26:Int)≠0 by decide);have:=y8 (f+(k:Int)*t) (show(0:Int)<26 by decide);omega
theorem lt_at {k:Nat}:atI LETS.cps.toList ((f+(k:Int)*t)%26)=some (lt f t k):=
 HB (o6 _ (by decide)) (y8 _ (by decide))
theorem mem_str {zs:List Str}:memP (.str z) (zs.map PV.str)=decide (z∈zs):=by
 unfold memP;rw[List.any_map,BU,BK,decide_eq_true_iff];constructor
 ·rintro⟨y,hy,e⟩;have e':decide (y=z)=true:=by rw[<- M9];exact e
  rw[<- jv e'];exact hy
 ·intro h;refine⟨z,h,?_⟩;show eqP (.str z) (.str z)=true;rw[M9];exact jq rfl
def RowS (zs:List Str):Prop:=zs.Nodup/\∀z∈zs,W5 z
abbrev rowP (zs:List Str):PV:=.tup (zs.map PV.str)
inductive Ev where
 |d (x:Str)|t (x y:Str)
abbrev DROP:Str:=B0 "drop"
abbrev TOUCH:Str:=B0 "touch"
def evK:Ev->List Key
 |.d x=>[.inr DROP,.inr x]
 |.t x y=>[.inr TOUCH,.inr x,.inr y]
def evP (e:Ev):PV:=tupP (evK e)
theorem evP_d (x:Str):evP (.d x)=.tup [.str DROP,.str x]:=rfl
theorem evP_t (x y:Str):evP (.t x y)=.tup [.str TOUCH,.str x,.str y]:=rfl
def shP (es:List Ev):PV:=.tup (es.map evP)
theorem ev_al (a b:Ev):Al (evK a) (evK b):=by grind [Al,Ev,evK]
theorem ev_inj (h:evK a=evK b):a=b:=by grind [Ev,evK]
theorem ev_ne (e:Ev):evK e≠[]:=by cases e <;> simp[evK]
theorem Rs (h:tupP a=tupP b):a=b:=by
 have:=congrArg keyP h;unfold tupP at this;rw[u5,u5] at this;exact this
theorem Rt (h:evP a=evP b):a=b:=ev_inj (Rs h)
theorem Lv (es:List Ev):∀ys:List PV,(∀y∈ys,y∈es.map evP)->∃es':List Ev,ys=es'.map evP/\∀e∈es',e∈es
 |[],_=>⟨[],rfl,λ_ z=>nomatch z⟩
 | y :: ys, h => by
  obtain⟨e,he,rfl⟩:=C0.mp (h y B2);obtain⟨es',rfl,h2⟩:=Lv es ys λz hz=>h z (B4 _ hz);exact⟨e::es',rfl,λz hz=>(C9.mp hz).elim (λe'=>e'▸he) (h2 z)⟩
def evB:Ev->List Str
 |.d x=>[x]
 |.t x y=>[x,y]
theorem Lw {es es':List Ev}(h:es'.Perm es):(es'.flatMap evB).Perm (es.flatMap evB):=h.flatMap_right evB
theorem nd_ix {zs:List Str}(nd:zs.Nodup){i j:Nat}(h1:zs[i]?=some z)(h2:zs[j]?=some z):i=j:=by
 obtain⟨l1,e1⟩:=E1.mp h1;obtain⟨l2,e2⟩:=E1.mp h2;rcases y0 i j with h|h|h
 ·exact absurd (e1.trans e2.symm) (Z8.mp nd i j l1 l2 h)
 ·exact h
 ·exact absurd (e2.trans e1.symm) (Z8.mp nd j i l2 l1 h)
def ixS (zs:List Str)(z:Str):Nat:=zs.findIdx λy=>decide (y=z)
theorem Bu (h:z∈zs):zs[ixS zs z]?=some z/\∀i,i<ixS zs z->zs[i]?≠some z:=by
 unfold ixS;have hl:zs.findIdx (λy=>decide (y=z))<zs.length:=List.findIdx_lt_length_of_exists ⟨z,h,by simp⟩;refine⟨?_,λi hi e=>?_⟩
 ·rw[C4 hl];have:=List.findIdx_getElem (w:=hl);rw[jv this]
 ·have:=List.not_of_lt_findIdx hi;obtain⟨l1,e1⟩:=E1.mp e;rw[e1] at this;simp at this
theorem FI (h:z∈zs):ixS zs z<zs.length:=(E1.mp (Bu h).1).1
theorem m_ix (hP:zs.map PV.str=P)(h:z∈zs)(hl:zs.length<=1000000)(q:R (.int (ixS zs z))):DV (.tup P) (.str z) R:=by
 subst hP;unfold DV;dsimp only;rw[Hy];exact⟨hl,ixS zs z,(Bu h).1,(Bu h).2,q⟩
inductive Mk where
 |d|o|t|u
 deriving DecidableEq
def mkS:Mk->Str
 |.d=>B0 "d"
 |.o=>B0 "o"
 |.t=>B0 "t"
 |.u=>B0 "u"
def mkP (m:Mk):PV:=.str (mkS m)
theorem mk_t (m:Mk):decide (mkS m=B0 "t")=decide (m=.t):=by cases m <;> decide +kernel
theorem mk_u (m:Mk):decide (mkS m=B0 "u")=decide (m=.u):=by cases m <;> decide +kernel
theorem mk_d (m:Mk):decide (mkS m=B0 "d")=decide (m=.d):=by cases m <;> decide +kernel
theorem mk_o (m:Mk):decide (mkS m=B0 "o")=decide (m=.o):=by cases m <;> decide +kernel
noncomputable def run (r:Int):Nat->List Nat->List Mk->Option (List Nat)
 |_,st,[]=>some st
 |k,st,.t::m=>run r (k+1) (k::st) m
 |k,st,.d::m=>run r (k+1) st m
 |k,[],.o::m=>run r (k+1) [] m
 |_,_::_,.o::_=>none
 |_,[],.u::_=>none
 |k,p::st,.u::m=>if(k:Int)-p-1<=r then run r (k+1) st m else none
theorem Z5:∀(a:List Mk) (k:Nat) (st:List Nat) (b:List Mk),run r k st (a++b)=(run r k st a).bind λst'=>run r (k+a.length) st' b
 |[],k,st,b=>rfl
 | .t :: a, k, st, b => by
  rw[N7];show run r (k+1) (k::st) (a++b)=(run r (k+1) (k::st) a).bind _;rw[Z5 a,D2,show k+1+a.length=k+(a.length+1) by omega]
 | .d :: a, k, st, b => by
  rw[N7];show run r (k+1) st (a++b)=(run r (k+1) st a).bind _;rw[Z5 a,D2,show k+1+a.length=k+(a.length+1) by omega]
 | .o :: a, k, [], b => by
  rw[N7];show run r (k+1) [] (a++b)=(run r (k+1) [] a).bind _;rw[Z5 a,D2,show k+1+a.length=k+(a.length+1) by omega]
 |.o::a,k,p::st,b=>rfl
 |.u::a,k,[],b=>rfl
 | .u :: a, k, p :: st, b => by
  rw[N7];show(if(k:Int)-p-1<=r then run r (k+1) st (a++b) else none)=(if(k:Int)-p-1<=r then run r (k+1) st a else none).bind _
  split
  ·rw[Z5 a,D2,show k+1+a.length=k+(a.length+1) by omega]
  ·rfl
def Cl (r:Int)(k:Nat)(m:List Mk):Prop:=∀st,run r k st m=some st
theorem Cl.app (h1:Cl r k a)(h2:Cl r (k+a.length) b):Cl r k (a++b):=λst=>by rw[Z5,h1 st];exact h2 st
theorem Cl.d (h:Cl r (k+1) m):Cl r k (.d::m):=λst=>h st
def Seg (r:Int):List Nat->List Mk->Prop
 |[],m=>run r 0 [] m=some []
 |p::ps,m=>∃m1 m2,m=m1++.d::m2/\m1.length=p/\Cl r (p+1) m2/\Seg r ps m1
theorem Seg.app {r:Int}:∀{ps:List Nat} {m b:List Mk},Seg r ps m->Cl r m.length b->Seg r ps (m++b)
 | [], m, b, h, hb => by
  show run r 0 [] (m++b)=some [];rw[Z5,show run r 0 [] m=some [] from h,E2];exact hb []
 | p :: ps, m, b, h, hb => by
  obtain⟨m1,m2,rfl,e,h2,h3⟩:=h;refine⟨m1,m2++b,by simp,e,h2.app ?_,h3⟩;rw[D7,D2,e] at hb;rw[show p+1+m2.length=p+(m2.length+1) by omega];exact hb
inductive PE where
 |d (i:Nat)|t (i j:Nat)
def peB:PE->List Nat
 |.d i=>[i]
 |.t i j=>[i,j]
noncomputable def shE:Nat->List Nat->List Mk->List PE
 |_,_,[]=>[]
 |k,st,.t::m=>shE (k+1) (k::st) m
 |k,st,.d::m=>.d k::shE (k+1) st m
 |k,st,.o::m=>shE (k+1) st m
 |k,[],.u::m=>shE (k+1) [] m
 |k,p::st,.u::m=>.t k p::shE (k+1) st m
theorem Cs:∀(m:List Mk) (k:Nat) (st:List Nat),st.Nodup->(∀p∈st,p<k)->((shE k st m).flatMap peB).Nodup/\∀q∈(shE k st m).flatMap peB,q∈st\/(k<=q/\q<k+m.length)
 |[],k,st,_,_=>⟨by simp[shE],λq hq=>by simp[shE] at hq⟩
 | .t :: m, k, st, nd, hs => by
  obtain⟨h1,h2⟩:=Cs m (k+1) (k::st) (N8.mpr ⟨λz=>absurd (hs k z) (Q9 k),nd⟩) (λp hp=>(C9.mp hp).elim (λe=>by omega) λhp=>by have:=hs p hp;omega);refine⟨h1,λq hq=>?_⟩;rw[D2];rcases h2 q hq with h|h
  ·grind
  ·omega
 | .d :: m, k, st, nd, hs => by
  obtain⟨h1,h2⟩:=Cs m (k+1) st nd (λp hp=>by have:=hs p hp;omega);show((PE.d k::shE (k+1) st m).flatMap peB).Nodup/\∀q∈(PE.d k::shE (k+1) st m).flatMap peB,_;simp only[Au,peB,N7,P6];refine⟨N8.mpr ⟨λz=>?_,h1⟩,λq hq=>?_⟩
  ·grind
  ·grind
 | .o :: m, k, st, nd, hs => by
  obtain⟨h1,h2⟩:=Cs m (k+1) st nd (λp hp=>by have:=hs p hp;omega);refine⟨by unfold shE;exact h1,λq hq=>?_⟩;unfold shE at hq;rw[D2];rcases h2 q hq with h|h
  ·grind
  ·grind
 | .u :: m, k, [], nd, hs => by
  obtain⟨h1,h2⟩:=Cs m (k+1) [] nd (λp hp=>by have:=hs p hp;omega);refine⟨by unfold shE;exact h1,λq hq=>?_⟩;unfold shE at hq;rw[D2];rcases h2 q hq with h|h
  ·grind
  ·grind
 | .u :: m, k, p :: st, nd, hs => by
  obtain⟨np,nd'⟩:=N8.mp nd;have hp:=hs p B2;obtain⟨h1,h2⟩:=Cs m (k+1) st nd' (λq hq=>by have:=hs q (B4 _ hq);omega);show((PE.t k p::shE (k+1) st m).flatMap peB).Nodup/\∀q∈(PE.t k p::shE (k+1) st m).flatMap peB,_;simp only[Au,peB,N7,P6];refine⟨N8.mpr ⟨λz=>?_,N8.mpr ⟨λz=>?_,h1⟩⟩,λq hq=>?_⟩
  ·grind
  ·grind
  ·grind
def nm (zs:List Str)(i:Nat):Str:=zs.getD i (B0 "")
def evOf (zs:List Str):PE->Ev
 |.d i=>.d (nm zs i)
 |.t i j=>.t (nm zs i) (nm zs j)
theorem evB_of (zs:List Str)(e:PE):evB (evOf zs e)=(peB e).map (nm zs):=by cases e <;> rfl
theorem Ly (zs:List Str)(es:List PE):(es.map (evOf zs)).flatMap evB=(es.flatMap peB).map (nm zs):=by induction es <;> grind [PE,evB,evOf,nm,peB]
theorem Bv {zs:List Str}{i:Nat}(h:i<zs.length):zs[i]?=some (nm zs i):=by grind [nm]
theorem Lz (h:i<zs.length):nm zs i∈zs:=J5 (Bv h)
theorem nm_inj (nd:zs.Nodup)(hi:i<zs.length)(hj:j<zs.length)(h:nm zs i=nm zs j):i=j:=nd_ix nd (Bv hi) (by rw[h];exact Bv hj)
structure Fair (zs:List Str)(es:List Ev):Prop where
 nd:(es.flatMap evB).Nodup
 sub:∀b∈es.flatMap evB,b∈zs
theorem LA {α β:Type}(f:α->β):∀{l:List α},l.Nodup->(∀a∈l,∀b∈l,f a=f b->a=b)->(l.map f).Nodup
 |[],_,_=>by simp
 | a :: l, h, hf => by
  obtain⟨h1,h2⟩:=N8.mp h;rw[J8,N8];refine⟨λz=>?_,LA f h2 λx hx y hy=>hf x (B4 _ hx) y (B4 _ hy)⟩;obtain⟨b,hb,e⟩:=C0.mp z;exact h1 (hf b (B4 _ hb) a B2 e▸hb)
theorem LB (nd:zs.Nodup)(hl:m.length=zs.length):Fair zs ((shE 0 [] m).map (evOf zs)):=by
 obtain⟨h1,h2⟩:=Cs m 0 [] (by simp) (λ_ z=>nomatch z)
 have h3:∀q∈(shE 0 [] m).flatMap peB,q<zs.length:=λq hq=>by
  rcases h2 q hq with h|h
  ·cases h
  ·omega
 refine⟨?_,λb hb=>?_⟩
 ·rw[Ly];exact LA _ h1 λa ha b hb e=>nm_inj nd (h3 a ha) (h3 b hb) e
 ·rw[Ly] at hb;obtain⟨q,hq,rfl⟩:=C0.mp hb;exact Lz (h3 q hq)
theorem Fair.perm (h:Fair zs es)(p:es'.Perm es):Fair zs es':=
 ⟨(Lw p).nodup_iff.mpr h.nd,λb hb=>h.sub b ((Lw p).mem_iff.mp hb)⟩
def setE (st f:List Str):Ev->List Str
 |.d _=>f
 |.t x y=>(f.set (ixS st x) y).set (ixS st y) x
def exch (f:List Str)(i j:Nat):List Str:=(f.set i (nm f j)).set j (nm f i)
def exE (st f:List Str):Ev->List Str
 |.d _=>f
 |.t x y=>exch f (ixS st x) (ixS st y)
def aft (st:List Str)(es:List Ev):List Str:=es.foldl (setE st) st
def rbh (st:List Str)(es:List Ev):List Str:=es.foldl (exE st) st
theorem HM (hx:x∈zs)(hy:y∈zs)(h:ixS zs x=ixS zs y):x=y:=by
 have h1:=(Bu hx).1;rw[h,(Bu hy).1] at h1;exact(F6 h1).symm
theorem HN:∀(es:List Ev) (f:List Str),(es.flatMap evB).Nodup->(∀b∈es.flatMap evB,b∈st/\f[ixS st b]?=some b)->es.foldl (setE st) f=es.foldl (exE st) f
 |[],f,_,_=>rfl
 | .d x :: es, f, nd, h => by
  simp only[Au,evB,N7,P6] at nd h;exact HN es f (N8.mp nd).2 λb hb=>h b (B4 _ hb)
 | .t x y :: es, f, nd, h => by
  simp only[Au,evB,N7,P6] at nd h;obtain⟨nx,nd1⟩:=N8.mp nd;obtain⟨ny,nd2⟩:=N8.mp nd1;obtain⟨hx1,hx2⟩:=h x B2;obtain⟨hy1,hy2⟩:=h y (B4 _ B2)
  have e:setE st f (.t x y)=exE st f (.t x y):=by
   show(f.set (ixS st x) y).set (ixS st y) x=exch f (ixS st x) (ixS st y);unfold exch nm;rw[G6,G6,hx2,hy2];rfl
  rw[x5,x5,e];refine HN es _ nd2 λb hb=>?_;obtain⟨hb1,hb2⟩:=h b (B4 _ (B4 _ hb));refine⟨hb1,?_⟩;rw[<- e];show((f.set (ixS st x) y).set (ixS st y) x)[ixS st b]?=some b;have bx:ixS st x≠ixS st b:=λz=>nx (by rw[HM hx1 hb1 z];exact B4 _ hb);have by_:ixS st y≠ixS st b:=λz=>ny (by rw[HM hy1 hb1 z];exact hb);rw[N6 by_,N6 bx];exact hb2
theorem LC (h:Fair st es):aft st es=rbh st es:=HN es st h.nd λb hb=>⟨h.sub b hb,(Bu (h.sub b hb)).1⟩
theorem Ru (st f:List Str)(e:Ev):(setE st f e).length=f.length:=by cases e <;> simp[setE]
theorem Cu (st:List Str)(es:List Ev):(aft st es).length=st.length:=by
 unfold aft
 have:∀(es:List Ev) (f:List Str),(es.foldl (setE st) f).length=f.length:=by
  intro es
  induction es with
  |nil=>intro f;rfl
  |cons e es ih=>intro f;rw[x5,ih,Ru]
 exact this es st
theorem Rv (hi:i<f.length)(hj:j<f.length):(exch f i j).Perm f:=by
 unfold exch nm;rw[G6,G6,C4 hi,C4 hj];show((f.set i f[j]).set j f[i]).Perm f;exact List.set_set_perm hi hj
theorem Rw (h:∀b∈es.flatMap evB,b∈st):(rbh st es).Perm st:=by
 unfold rbh
 have:∀(es:List Ev) (f:List Str),(∀b∈es.flatMap evB,b∈st)->f.length=st.length->(es.foldl (exE st) f).Perm f:=by
  intro es
  induction es with
  |nil=>intro f _ _;exact List.Perm.refl _
  | cons e es ih =>
   intro f hb hl;rw[x5]
   have p:(exE st f e).Perm f:=by
    cases e with
    |d x=>exact List.Perm.refl _
    |t x y=>exact Rv (by rw[hl];exact FI (hb x (by simp[evB]))) (by rw[hl];exact FI (hb y (by simp[evB])))
   exact(ih _ (λb h=>hb b (by rw[Au];exact X8 _ h)) (by rw[p.length_eq,hl])).trans p
 exact this es st h rfl
theorem Rx {α β:Type}{f:α->β}{l:List α}{i:Nat}{y:β}(h:(l.map f)[i]?=some y):∃x,l[i]?=some x/\y=f x:=by
 rw[C6] at h;cases e:l[i]? with
 |none=>rw[e] at h;cases h
 |some x=>rw[e] at h;exact⟨x,rfl,(F6 h).symm⟩
theorem Ry {α:Type}{l:List α}{i:Nat}{x:α}(h:l[i]?=some x):l.take (i+1)=l.take i++[x]:=by
 rw[List.take_add_one,h];rfl
theorem cut_hd {α:Type}(xs:List α)(b:Nat):cutP xs none (some (b:Int))=xs.take b:=by
 unfold cutP;rw[HT.sIx_none,HT.sIx_nat,List.drop_zero,Nat.sub_zero];rcases Nat.le_total b xs.length with h2|h2
 ·rw[Nat.min_eq_left h2]
 ·rw[Nat.min_eq_right h2,CP (B3 _),CP h2]
theorem u6 {α:Type}{a b:α}:atI [a,b] 0=some a:=rfl
theorem u7 {α:Type}{a b:α}:atI [a,b] 1=some b:=rfl
theorem u8 {α:Type}{a b c:α}:atI [a,b,c] 0=some a:=rfl
theorem u9 {α:Type}{a b c:α}:atI [a,b,c] 1=some b:=rfl
theorem v4 {α:Type}{a b c:α}:atI [a,b,c] 2=some c:=rfl
theorem Rz:decide (DROP=B0 "touch")=false:=by decide +kernel
def isTo:Ev->Bool
 |.d _=>false
 |.t _ _=>true
theorem RA (st f:List Str)(e:Ev):(exE st f e).length=f.length:=by cases e <;> simp[exE,exch]
theorem LD (st:List Str):∀(es:List Ev) (f:List Str),(es.foldl (exE st) f).length=f.length
 |[],f=>rfl
 |e::es,f=>by rw[x5,LD st es,RA]
theorem HP (st:List Str):∀(es:List Ev) (f:List Str),(es.filter isTo).foldl (exE st) f=es.foldl (exE st) f
 |[],f=>rfl
 |.d x::es,f=>HP st es f
 | .t x y :: es, f => by
  rw[Ez,jt (show isTo (.t x y)=true from rfl),x5,x5];exact HP st es _
section
variable {P:List Str->List Ev->Prop}{s n mx:Nat}{row:List Str}
theorem places (h1:1<=s)(hn:1<=n)(hk:k<(n+s-1)/s):k*s<=n-1:=by
 have:(n+s-1)/s*s<=n+s-1:=Nat.div_mul_le_self _ _;have h2:(k+1)*s<=(n+s-1)/s*s:=Bf s hk;rw[De,Nat.one_mul] at h2;omega
end
theorem RB (h:W5 z):shw (.str z):=λc hc=>by
 have:=(h.2.2 c hc).2;omega
theorem RC (h:W5 z):cost (.str z)<=82:=by
 have:=h.2.1;have e:z.length=z.cps.toList.length:=Ad z;show 10*z.length+2<=82;omega
structure Show (d c:Nat)(x:PV):Prop where
 sh:shw x
 de:dep x<=d
 co:cost x<=c
theorem Show.tup (h:∀x∈xs,Show d c x)(hl:xs.length<=l):Show (d+1) ((c+2)*l+3) (.tup xs):=by
 refine⟨KU _ λx hx=>(h x hx).sh,?_,?_⟩
 ·have:=KW d xs λx hx=>(h x hx).de;show deps xs+1<=d+1;omega
 ·have:=KY c xs λx hx=>(h x hx).co;have h2:=Nat.mul_le_mul_left (c+2) hl;show u3 xs+3<=_;omega
theorem Show.le {d c d' c':Nat}{x:PV}(h:Show d c x)(hd:d<=d')(hc:c<=c'):Show d' c' x:=by grind [PV,Show]
theorem LF (h:W5 z):Show 0 82 (.str z):=⟨RB h,B3 _,RC h⟩
theorem RD {zs:List Str}(h:∀z∈zs,W5 z)(hl:zs.length<=24):Show 1 2100 (rowP zs):=
 (Show.tup (d:=0) (c:=82) (l:=24) (xs:=zs.map PV.str) (λx hx=>by obtain⟨z,hz,rfl⟩:=C0.mp hx;exact LF (h z hz)) (by grind)).le (B3 _) (by decide)
theorem LG (z:Str)(h1:∀c∈z.cps.toList,c<16 ^ 8)(h2:z.length<=8):Show 0 82 (.str z):=⟨h1,B3 _,by show 10*z.length+2<=82;omega⟩
end Pu
end
section
namespace SeT
open PySem PySem.SetTable L2
def lp (mask:Nat)(h:Int):Nat->Nat×Nat
 |0=>(bits h%(mask+1),bits h)
 |k+1=>leap mask (lp mask h k).1 (lp mask h k).2
def rn (mask i:Nat):Nat:=runEnd mask i-i
def vs (mask:Nat)(h:Int)(k off:Nat):Nat:=(lp mask h k).1+off
theorem HQ (mask:Nat)(h:Int):∀k,(lp mask h k).1<=mask
 |0=>Db (BT _ (Nat.succ_pos mask))
 |k+1=>Db (BT _ (Nat.succ_pos mask))
theorem rn_9 (mask i:Nat):rn mask i<=9:=by unfold rn runEnd;split <;> omega
theorem HR {mask:Nat}(ho:off<=rn mask (lp mask h k).1):vs mask h k off<=mask:=by
 have:=HQ mask h k;unfold rn runEnd at ho;unfold vs
 grind
theorem LH (mask:Nat)(h:Int):∀k,(lp mask h k).2=bits h/32 ^ k
 |0=>by simp[lp]
 | k + 1 => by
  show(lp mask h k).2/32=_;rw[LH mask h k,Nat.div_div_eq_div_mul,BS]
theorem RE (h:Int):bits h<2 ^ 64:=by
 unfold bits
 grind
theorem pert_0 (mask:Nat)(h:Int)(k:Nat)(hk:13<=k):(lp mask h k).2=0:=by
 rw[LH];refine Nat.div_eq_of_lt (G0 (RE h) ?_);exact E5 (by decide) (x8 (by decide) hk)
def orb (M:Nat):Nat->Nat
 |0=>0
 |m+1=>(orb M m*5+1)%M
def itr (M a:Nat):Nat->Nat
 |0=>a
 |m+1=>(itr M a m*5+1)%M
theorem HS (M m0:Nat):∀m,itr M (orb M m0) m=orb M (m0+m)
 |0=>rfl
 | m + 1 => by
  show(itr M (orb M m0) m*5+1)%M=(orb M (m0+m)*5+1)%M;rw[HS M m0 m]
theorem LI {M:Nat}(h:orb M M=0):∀m,orb M (M+m)=orb M m
 |0=>h
 | m + 1 => by
  show(orb M (M+m)*5+1)%M=(orb M m*5+1)%M;rw[LI h m]
theorem HU (mask:Nat)(h:Int):∀m,(lp mask h (13+m)).1=itr (mask+1) (lp mask h 13).1 m
 |0=>rfl
 | m + 1 => by
  show((lp mask h (13+m)).1*5+1+(lp mask h (13+m)).2/32)%(mask+1)=(itr (mask+1) (lp mask h 13).1 m*5+1)%(mask+1);rw[pert_0 mask h (13+m) (by omega),HU mask h m,Nat.zero_div,Nat.add_zero]
def Msk (mask:Nat):Prop:=mask=7\/mask=31\/mask=127
def chk (M:Nat):Bool:=(C7 M).all λe=>(C7 M).any λm=>orb M m == e
theorem chk8:chk 8=true:=by decide +kernel
theorem chk32:chk 32=true:=by decide +kernel
theorem chk128:chk 128=true:=by decide +kernel
theorem LJ (h:chk M=true)(he:e<M):∃m,m<M/\orb M m=e:=by simp_all [chk,orb]
theorem goes {mask:Nat}(hm:Msk mask)(h:Int)(he:e<=mask):∃K,K<=mask+14/\(lp mask h K).1=e:=by
 have ck:chk (mask+1)=true/\orb (mask+1) (mask+1)=0:=by
  rcases hm with rfl|rfl|rfl
  ·exact⟨chk8,by decide +kernel⟩
  ·exact⟨chk32,by decide +kernel⟩
  ·exact⟨chk128,by decide +kernel⟩
 obtain⟨m0,h0,e0⟩:=LJ ck.1 (Nat.lt_succ_of_le (HQ mask h 13));obtain⟨m1,h1,e1⟩:=LJ ck.1 (Nat.lt_succ_of_le he)
 by_cases c:m0<=m1
 ·refine⟨13+(m1-m0),by omega,?_⟩;rw[HU,<- e0,HS,show m0+(m1-m0)=m1 by omega,e1]
 ·refine⟨13+(mask+1+m1-m0),by omega,?_⟩;rw[HU,<- e0,HS,show m0+(mask+1+m1-m0)=mask+1+m1 by omega,LI ck.2,e1]
def Rise (xs:List Nat):Prop:=xs.Pairwise (· < ·)
theorem HV (xs:Array Nat)(j:Nat)(hr:Rise xs.toList):∀(fuel lo hi:Nat),lo<=hi->hi<=xs.size->hi-lo<=fuel->(∀(i:Nat) x,i<lo->xs[i]?=some x->x<j)->(∀(i:Nat) x,hi<=i->xs[i]?=some x->j<=x)->
   ∃p,below.go xs j fuel lo hi=p/\p<=xs.size/\(∀(i:Nat) x,i<p->xs[i]?=some x->x<j)/\(∀(i:Nat) x,p<=i->xs[i]?=some x->j<=x)
 |0,lo,hi,h1,h2,h3,h4,h5=>⟨lo,rfl,by omega,h4,λi x hi' e=>h5 i x (by omega) e⟩
 | fuel + 1, lo, hi, h1, h2, h3, h4, h5 => by
  unfold below.go
  by_cases c:lo<hi
  ·rw[jt c];have hm:(lo+hi)/2<xs.size:=by omega
   have hm1:lo<=(lo+hi)/2:=by omega
   have hm2:(lo+hi)/2<hi:=by omega
   dsimp only;generalize (lo+hi)/2=mid at hm hm1 hm2 ⊢;have eg:xs.getD mid j=xs[mid]:=by simp[Array.getD,hm]
   have em:xs[mid]?=some xs[mid]:=o5 hm
   have up:∀(a b:Nat) x y,a<b->xs[a]?=some x->xs[b]?=some y->x<y:=λa b x y hab ea eb=>by
    rw[<- U1] at ea eb;obtain⟨la,ea⟩:=E1.mp ea;obtain⟨lb,eb⟩:=E1.mp eb;rw[<- ea,<- eb];exact Z8.mp hr a b la lb hab
   rw[eg]
   by_cases c2:xs[mid]<j
   ·rw[jt c2];refine HV xs j hr fuel (mid+1) hi (by omega) h2 (by omega) (λi x hi' e=>?_) h5;rcases Nat.lt_or_ge i mid with h|h
    ·exact Dc (up i mid x _ h e em) c2
    ·have:i=mid:=by omega
     subst this;rw[em] at e;cases e;exact c2
   ·rw[ju c2];refine HV xs j hr fuel lo mid (by omega) (by omega) (by omega) h4 λi x hi' e=>?_;rcases Nat.lt_or_ge mid i with h|h
    ·exact y4 (EE (BQ c2) (up mid i _ x h em e))
    ·have:i=mid:=by omega
     subst this;rw[em] at e;cases e;exact BQ c2
  ·rw[ju c];exact⟨lo,rfl,by omega,h4,λi x hi' e=>h5 i x (by omega) e⟩
theorem DX (xs:Array Nat)(j:Nat)(hr:Rise xs.toList):below xs j<=xs.size/\(∀(i:Nat) x,i<below xs j->xs[i]?=some x->x<j)/\(∀(i:Nat) x,below xs j<=i->xs[i]?=some x->j<=x):=by
 obtain⟨p,e,h⟩:=HV xs j hr xs.size 0 xs.size (D5 _) (B3 _) (B3 _) (λi x hi _=>by omega) (λi x hi e=>by
  rw[Dh hi] at e;cases e)
 unfold below
 grind
theorem RF (hr:Rise xs.toList)(h:xs[i]?=some j):below xs j=i:=by
 obtain⟨h1,h2,h3⟩:=DX xs j hr;rcases y0 (below xs j) i with c|c|c
 ·have hb:below xs j<xs.size:=Dc c (by
   obtain⟨l,_⟩:=Array.getElem?_eq_some_iff.mp h;exact l)
  have e:=o5 hb;have a1:=h3 _ _ (B3 _) e;have e':=e;rw[<- U1] at e' h;obtain⟨la,ea⟩:=E1.mp e';obtain⟨lb,eb⟩:=E1.mp h;have:=Z8.mp hr _ _ la lb c;rw[ea,eb] at this;omega
 ·exact c
 grind
theorem LK {α:Type}(xs:Array α)(p:Nat)(x:α)(hp:p<=xs.size):(insertAt xs p x).toList=insL xs.toList p x:=by
 unfold insertAt insL;simp;exact CP (by grind)
theorem RG (hr:Rise xs.toList)(hj:j∉xs.toList):Rise (insL xs.toList (below xs j) j):=by
 obtain⟨h1,h2,h3⟩:=DX xs j hr;unfold insL
 have mt:∀a∈xs.toList.take (below xs j),a<j:=λa ha=>by
  obtain⟨i,hi,e⟩:=Gy.mp ha;rw[List.getElem_take] at e;rw[M6] at hi;exact h2 i a (by omega) (by grind)
 have md:∀a∈xs.toList.drop (below xs j),j<a:=λa ha=>by
  obtain⟨i,hi,e⟩:=Gy.mp ha;rw[List.getElem_drop] at e;rw[Bd] at hi;have hle:=h3 (below xs j+i) a (by omega) (by grind);have hne:a≠j:=λz=>hj (by grind);omega
 refine List.pairwise_append.mpr ⟨hr.sublist (List.take_sublist _ _),List.pairwise_cons.mpr ⟨md,hr.sublist (List.drop_sublist _ _)⟩,λa ha b hb=>?_⟩
 grind
def Lx (k' o' k o:Nat):Prop:=k'<k\/(k'=k/\o'<o)
def Rch (mask:Nat)(O:Nat->Prop)(s:Nat)(h:Int):Prop:=∃k o,o<=rn mask (lp mask h k).1/\vs mask h k o=s/\∀k' o',o'<=rn mask (lp mask h k').1->Lx k' o' k o->O (vs mask h k' o')
theorem Rch.mono {mask:Nat}(r:Rch mask O s h)(f:∀x,O x->O' x):Rch mask O' s h:=by grind [Rch]
structure TOk (t:N5)(hs:List Int):Prop where
 size:t.place.toList.length=hs.length
 dum:t.dummies=#[]
 mask:Msk t.mask
 rise:Rise t.place.toList
 lim:∀s∈t.place.toList,s<=t.mask
 room:hs.length<t.mask
 reach:∀(i:Nat) s h,t.place.toList[i]?=some s->hs[i]?=some h->Rch t.mask (·∈t.place.toList) s h
section
variable {t:N5}{hs:List Int}{h:Int}
theorem TOk.fits (T:TOk t hs):t.fits hs.length=true:=by
 have h1:=T.size;have h2:=T.room;unfold SetTable.fits SetTable.fill;rw[T.dum]
 grind
theorem TOk.odd (T:TOk t hs):t.gaveWay=false:=by
 unfold SetTable.gaveWay;rcases T.mask with e|e|e <;> rw[e] <;> decide
theorem LL (j:Nat):has #[] j=false:=by unfold has;simp
theorem TOk.slot_live (T:TOk t hs)(e:t.place.toList[i]?=some j):t.slot j=.live i:=by
 unfold SetTable.slot;have e':t.place[i]?=some j:=by rw[<- U1];exact e
 rw[RF T.rise e'];simp[e']
theorem TOk.slot_empty (T:TOk t hs)(e:j∉t.place.toList):t.slot j=.empty:=by
 unfold SetTable.slot
 have:¬(t.place[below t.place j]? == some j)=true:=λz=>by
  have z':t.place[below t.place j]?=some j:=by simpa using z
  rw[<- U1] at z';exact e (J5 z')
 dsimp only;rw[ju this,T.dum,LL]
 rfl
theorem TOk.free (T:TOk t hs):∃e,e<=t.mask/\e∉t.place.toList:=by
 refine y9 λz=>?_
 have sub:C7 (t.mask+1) ⊆ t.place.toList:=λx hx=>by
  refine y9 λy=>z ⟨x,Db (F8.mp hx),y⟩
 have:=(List.nodup_range (n:=t.mask+1)).length_le_of_subset sub;rw[Q8,T.size] at this;have:=T.room;omega
def pb (mask:Nat)(h:Int)(k o:Nat):Probe:={ j:=vs mask h k o,more:=rn mask (lp mask h k).1-o,i:=(lp mask h k).1,perturb:=(lp mask h k).2,dummy:=none }
theorem pb_adv (t:N5)(h:Int)(k o:Nat):t.advance (pb t.mask h k o)=if o<rn t.mask (lp t.mask h k).1 then pb t.mask h k (o+1) else pb t.mask h (k+1) 0:=by
 unfold SetTable.advance
 by_cases c:o<rn t.mask (lp t.mask h k).1
 ·rw[jt c,jt (show(pb t.mask h k o).more>0 by show rn t.mask (lp t.mask h k).1-o>0;omega)];unfold pb vs
  congr 1
 ·rw[ju c,ju (show ¬(pb t.mask h k o).more>0 by show ¬rn t.mask (lp t.mask h k).1-o>0;omega)]
  rfl
def nx (mask:Nat)(h:Int)(k o:Nat):Nat×Nat:=if o<rn mask (lp mask h k).1 then(k,o+1) else(k+1,0)
theorem pb_nx (t:N5)(h:Int)(k o:Nat):t.advance (pb t.mask h k o)=pb t.mask h (nx t.mask h k o).1 (nx t.mask h k o).2:=by
 rw[pb_adv];unfold nx;split <;> rfl
theorem nx_ok {mask:Nat}(ho:o<=rn mask (lp mask h k).1):(nx mask h k o).2<=rn mask (lp mask h (nx mask h k o).1).1:=by grind [lp,nx,rn]
theorem nx_lx {mask:Nat}(ho:o<=rn mask (lp mask h k).1)(ho':o'<=rn mask (lp mask h k').1)(l:Lx k' o' (nx mask h k o).1 (nx mask h k o).2):Lx k' o' k o\/(k'=k/\o'=o):=by grind [Lx,lp,nx,rn]
def far (K k o:Nat):Nat:=10*(K-k)+1-o
theorem LM {mask:Nat}(ho:o<=rn mask (lp mask h k).1)(hk:k<K):far K (nx mask h k o).1 (nx mask h k o).2<far K k o/\(nx mask h k o).1<=K/\((nx mask h k o).1=K->(nx mask h k o).2=0):=by
 have r9:=rn_9 mask (lp mask h k).1;unfold nx far
 grind
theorem LN (T:TOk t hs)(at_:Nat->Int)(ha:∀(i:Nat) x,hs[i]?=some x->at_ i=x){K e:Nat}(hK:(lp t.mask h K).1=e)(he:e∉t.place.toList):∀(fuel k o:Nat),k<=K->(k=K->o=0)->o<=rn t.mask (lp t.mask h k).1->far K k o<=fuel->
   ∃ k2 o2, o2 <= rn t.mask (lp t.mask h k2).1 /\ k2 <= K /\ (k2 = K -> o2 = 0) /\ ¬ Lx k2 o2 k o /\ (∀ k' o', o' <= rn t.mask (lp t.mask h k').1 -> ¬ Lx k' o' k o -> Lx k' o' k2 o2 -> ∃ (i : Nat) (x : Int), t.place.toList[i]? = some (vs t.mask h k' o') /\ hs[i]? = some x /\ x ≠ h) /\
     ((vs t.mask h k2 o2∉t.place.toList/\probe.go t at_ h fuel (pb t.mask h k o)=some (.empty (vs t.mask h k2 o2) none))\/
       ∃i,k2<K/\t.place.toList[i]?=some (vs t.mask h k2 o2)/\hs[i]?=some h/\probe.go t at_ h fuel (pb t.mask h k o)=some (.candidate (vs t.mask h k2 o2) i (pb t.mask h (nx t.mask h k2 o2).1 (nx t.mask h k2 o2).2)))
 | 0, k, o, h1, h2, h3, h4 => by
  have r9:=rn_9 t.mask (lp t.mask h k).1;unfold far at h4;have:¬k=K:=λz=>by have:=h2 z;omega
  omega
 | fuel + 1, k, o, h1, h2, h3, h4 => by
  have irr:¬Lx k o k o:=λz=>z.elim (Q9 k) λz=>Q9 o z.2
  by_cases hm:vs t.mask h k o∈t.place.toList
  ·obtain⟨i,hi⟩:=BI.mp hm
   obtain⟨x,hx⟩:∃x,hs[i]?=some x:=by
    have:=(E1.mp hi).1;rw[T.size] at this;exact⟨_,C4 this⟩
   have hkK:k<K:=by
    refine Nat.lt_of_le_of_ne h1 λz=>?_;have o0:=h2 z;subst z;subst o0;exact he (by rw[<- hK];exact hm)
   have sl:=T.slot_live hi
   by_cases c:x=h
   ·subst c;refine⟨k,o,h3,h1,h2,irr,λk' o' _ n l=>absurd l n,.inr ⟨i,hkK,hi,hx,?_⟩⟩;unfold probe.go;rw[show(pb t.mask x k o).j=vs t.mask x k o from rfl,sl];dsimp only;rw[ha i x hx,beq_self_eq_true,jt rfl,pb_nx]
   ·obtain⟨f1,f2,f3⟩:=LM (K:=K) h3 hkK;obtain⟨k2,o2,a1,a2,a3,a4,a5,a6⟩:=LN T at_ ha hK he fuel (nx t.mask h k o).1 (nx t.mask h k o).2 f2 f3 (nx_ok h3) (by omega)
    have step:probe.go t at_ h (fuel+1) (pb t.mask h k o)=probe.go t at_ h fuel (pb t.mask h (nx t.mask h k o).1 (nx t.mask h k o).2):=by
     rw[<- pb_nx]
     conv=>lhs;unfold probe.go
     rw[show(pb t.mask h k o).j=vs t.mask h k o from rfl,sl];dsimp only;rw[ha i x hx,ju (by simpa using c)]
    rw[step];refine⟨k2,o2,a1,a2,a3,λz=>a4 ?_,λk' o' p1 p2 p3=>?_,a6⟩
    ·unfold nx
     split
     ·rcases z with z|⟨rfl,z⟩
      ·exact .inl z
      ·exact .inr ⟨rfl,by show o2<o+1;omega⟩
     ·rcases z with z|⟨rfl,z⟩
      ·exact .inl (by show k2<k+1;omega)
      ·exact .inl (by show k2<k2+1;omega)
    ·by_cases c2:Lx k' o' (nx t.mask h k o).1 (nx t.mask h k o).2
     ·rcases nx_lx h3 p1 c2 with c3|⟨rfl,rfl⟩
      ·exact absurd c3 p2
      ·exact⟨i,x,hi,hx,c⟩
     ·exact a5 k' o' p1 c2 p3
  ·refine⟨k,o,h3,h1,h2,irr,λk' o' _ n l=>absurd l n,.inl ⟨hm,?_⟩⟩;unfold probe.go;rw[show(pb t.mask h k o).j=vs t.mask h k o from rfl,T.slot_empty hm]
   rfl
theorem TOk.put (T:TOk t hs)(hs1:s∉t.place.toList)(hl:s<=t.mask)(hr:Rch t.mask (·∈t.place.toList) s h)(hroom:hs.length+1<t.mask) :
   (t.put s).2=below t.place s/\(t.put s).2<=hs.length/\(t.put s).1.plain=t.plain/\(t.put s).1.led=t.led/\TOk (t.put s).1 (insL hs (t.put s).2 h):=by
 have p1:=(DX t.place s T.rise).1;have sz:t.place.size=hs.length:=by rw[<- T.size,M8]
 have pl:(t.put s).1.place.toList=insL t.place.toList (below t.place s) s:=LK _ _ _ p1;have mk:(t.put s).1.mask=t.mask:=rfl
 have dm:(t.put s).1.dummies=#[]:=by
  show(if has t.dummies s then eraseAt t.dummies (below t.dummies s) else t.dummies)=#[];rw[T.dum,LL];rfl
 refine⟨rfl,by show below t.place s<=_;omega,rfl,rfl,?_⟩;have hp:(t.put s).2=below t.place s:=rfl;rw[hp]
 have mem:∀x,x∈t.place.toList->x∈insL t.place.toList (below t.place s) s:=λx hx=>by
  unfold insL;rw[<- Gv (below t.place s) t.place.toList] at hx;rcases K6.mp hx with hx|hx
  ·grind
  ·grind
 refine⟨?_,dm,by rw[mk];exact T.mask,by rw[pl];exact RG T.rise hs1,λx hx=>?_,by rw[mk,FG];exact hroom,λi x y ex ey=>?_⟩
 ·rw[pl,FG,FG,T.size]
 ·rw[pl] at hx;rw[mk];unfold insL at hx;rcases K6.mp hx with hx|hx
  ·exact T.lim x (Ep hx)
  ·rcases C9.mp hx with rfl|hx
   ·exact hl
   ·exact T.lim x (List.mem_of_mem_drop hx)
 ·rw[pl] at ex ⊢;rw[mk];generalize below t.place s=p at *;have lt:(t.place.toList.take p).length=p:=by rw[M6,T.size];omega
  have lh:(hs.take p).length=p:=by rw[M6];omega
  unfold insL at ex ey;rcases y0 i p with c|c|c
  ·rw[Q7 (by omega),List.getElem?_take,jt c] at ex ey;exact(T.reach i x y ex ey).mono mem
  ·subst c;rw[Q6 (by omega),lt,n6] at ex;rw[Q6 (by omega),lh,n6] at ey;cases ex;cases ey;exact hr.mono mem
  ·rw[Q6 (by omega),lt,show i-p=(i-p-1)+1 by omega,P4,List.getElem?_drop,show p+(i-p-1)=i-1 by omega] at ex;rw[Q6 (by omega),lh,show i-p=(i-p-1)+1 by omega,P4,List.getElem?_drop,show p+(i-p-1)=i-1 by omega] at ey;exact(T.reach (i-1) x y ex ey).mono mem
end
structure Own (mask:Nat)(ow:Array (Option Nat))(sl:List Nat):Prop where
 size:ow.size=mask+1
 nd:sl.Nodup
 lim:∀s∈sl,s<=mask
 has:∀(k s:Nat),sl[k]?=some s->ow[s]?=some (some k)
 no:∀s,s<=mask->s∉sl->ow[s]?=some none
theorem Own.none {mask:Nat}(O:Own mask ow sl)(hs:s<=mask):(ow.getD s (some 0)).isNone=decide (s∉sl):=by
 rw[Ay]
 by_cases c:s∈sl
 ·obtain⟨k,hk⟩:=BI.mp c;rw[O.has k s hk,jr (not_not_intro c)];rfl
 ·rw[O.no s hs c,jq c];rfl
theorem LO {mask:Nat}{ow:Array (Option Nat)}{sl:List Nat}{h:Int}(O:Own mask ow sl){K e:Nat}(hK:(lp mask h K).1=e)(he:e∉sl):∀(fuel k:Nat),k<=K->K-k<fuel->
   ∃k2 o2,o2<=rn mask (lp mask h k2).1/\layClean.free mask ow fuel (lp mask h k).1 (lp mask h k).2=some (vs mask h k2 o2)/\vs mask h k2 o2∉sl/\∀k' o',o'<=rn mask (lp mask h k').1->k<=k'->Lx k' o' k2 o2->vs mask h k' o'∈sl
 |0,k,_,h2=>absurd h2 (BR _)
 | fuel + 1, k, h1, h2 => by
  have le:=HQ mask h k;have ge:(lp mask h k).1<=runEnd mask (lp mask h k).1:=by unfold runEnd;split <;> omega
  have er:runEnd mask (lp mask h k).1+1-(lp mask h k).1=rn mask (lp mask h k).1+1:=by unfold rn;omega
  have isn:∀o,o<=rn mask (lp mask h k).1->(ow.getD ((lp mask h k).1+o) (some 0)).isNone=decide (vs mask h k o∉sl):=λo ho=>O.none (HR ho);unfold layClean.free;rw[er];cases ef:(C7 (rn mask (lp mask h k).1+1)).find? (λo=>(ow.getD ((lp mask h k).1+o) (some 0)).isNone) with
  | some o2 =>
   obtain⟨p1,p2,p3⟩:=List.find?_range_eq_some.mp ef;have ho2:o2<=rn mask (lp mask h k).1:=by have:=F8.mp p2;omega
   rw[isn o2 ho2] at p1;refine⟨k,o2,ho2,rfl,jv p1,λk' o' q1 q2 q3=>?_⟩;rcases q3 with q3|⟨rfl,q3⟩
   ·omega
   ·have:=p3 o' q3;rw[isn o' (by omega)] at this;exact y9 λz=>by rw[jq z] at this;cases this
  | none =>
   have all:∀o,o<=rn mask (lp mask h k).1->vs mask h k o∈sl:=λo ho=>by
    have:=List.find?_eq_none.mp ef o (F8.mpr (by omega));rw[isn o ho] at this;exact y9 λz=>this (jq z)
   have hkK:k<K:=by
    refine Nat.lt_of_le_of_ne h1 λz=>?_;subst z;exact he (by rw[<- hK];exact all 0 (D5 _))
   obtain⟨k2,o2,a1,a2,a3,a4⟩:=LO O hK he fuel (k+1) hkK (by omega);refine⟨k2,o2,a1,a2,a3,λk' o' q1 q2 q3=>?_⟩;rcases Nat.lt_or_ge k k' with c|c
   ·exact a4 k' o' q1 c q3
   ·have:k'=k:=by omega
    subst this;exact all o' q1
theorem Own.put {mask:Nat}{ow:Array (Option Nat)}{sl:List Nat}(O:Own mask ow sl){s:Nat}(hs:s<=mask)(hn:s∉sl):Own mask (ow.setIfInBounds s (some sl.length)) (sl++[s]) where
 size:=by rw[Array.size_setIfInBounds];exact O.size
 nd:=Eu.mpr ⟨O.nd,by simp,λa ha b hb e=>hn (by grind)⟩
 lim:=λx hx=>(K6.mp hx).elim (O.lim x) λz=>by rw[J6.mp z];exact hs
 has:=λk x e=>by
  have hsz:s<ow.size:=by rw[O.size];omega
  by_cases c:k<sl.length
  ·rw[Q7 c] at e;have hx:x∈sl:=J5 e;rw[Array.getElem?_setIfInBounds_ne (λz=>hn (by grind))];exact O.has k x e
  ·grind
 no:=λx hx hx'=>by
  have n1:x∉sl:=λz=>hx' (A_ _ z);have n2:s≠x:=λz=>hx' (X8 _ (by grind));rw[Array.getElem?_setIfInBounds_ne n2];exact O.no x hx n1
theorem Own.nil (mask:Nat):Own mask (EJ (mask+1) (Option.none:Option Nat)) []:=by grind [Own]
noncomputable def FJ (mask:Nat)(jm:Option (Array (Option Nat)×Nat))(h:Int):Option (Array (Option Nat)×Nat):=do
 let (owner,k) ← jm
 let j ← layClean.free mask owner (turns mask) (bits h%(mask+1)) (bits h)
 pure (owner.setIfInBounds j (some k),k+1)
theorem LP {mask:Nat}(hm:Msk mask):∀(rest done:List Int) (ow:Array (Option Nat)) (sl:List Nat),Own mask ow sl->sl.length=done.length->done.length+rest.length<=mask->(∀(k s:Nat) h,sl[k]?=some s->done[k]?=some h->Rch mask (·∈sl) s h)->
   ∃ow' sl',rest.foldl (FJ mask) (some (ow,done.length))=some (ow',(done++rest).length)/\Own mask ow' sl'/\sl'.length=(done++rest).length/\∀(k s:Nat) h,sl'[k]?=some s->(done++rest)[k]?=some h->Rch mask (·∈sl') s h
 |[],done,ow,sl,O,hl,hle,hr=>⟨ow,sl,by simp,O,by simpa using hl,λk s h e1 e2=>hr k s h e1 (by simpa using e2)⟩
 | h :: rest, done, ow, sl, O, hl, hle, hr => by
  rw[D2] at hle
  obtain⟨e,he1,he2⟩:∃e,e<=mask/\e∉sl:=by
   refine y9 λz=>?_;have sub:C7 (mask+1) ⊆ sl:=λx hx=>y9 λy=>z ⟨x,Db (F8.mp hx),y⟩;have:=(List.nodup_range (n:=mask+1)).length_le_of_subset sub;rw[Q8,hl] at this;omega
  obtain⟨K,hK1,hK2⟩:=goes hm h he1;obtain⟨k2,o2,a1,a2,a3,a4⟩:=LO O hK2 he2 (turns mask) 0 (D5 _) (by unfold turns;omega);have O':=O.put (HR a1) a3
  have st:FJ mask (some (ow,done.length)) h=some (ow.setIfInBounds (vs mask h k2 o2) (some sl.length),(done++[h]).length):=by
   unfold FJ;show(layClean.free mask ow (turns mask) (lp mask h 0).1 (lp mask h 0).2).bind _=_;rw[a2,hl,D7]
   rfl
  have mem:∀x,x∈sl->x∈sl++[vs mask h k2 o2]:=λx hx=>A_ _ hx
  obtain⟨ow',sl',b1,b2,b3,b4⟩:=LP hm rest (done++[h]) _ _ O' (by rw[D7,D7,hl];rfl) (by rw[D7,P5];omega) λk s x e1 e2=>by
   by_cases c:k<sl.length
   ·rw[Q7 c] at e1;rw[Q7 (by omega)] at e2;exact(hr k s x e1 e2).mono mem
   ·have hk:k=sl.length:=by
     have:=(E1.mp e1).1;rw[D7,P5] at this;omega
    subst hk;rw[Q6 (B3 _),n6] at e1;rw[Q6 (by omega),hl,n6] at e2;cases e1;cases e2;exact⟨k2,o2,a1,rfl,λk' o' q1 q2=>mem _ (a4 k' o' q1 (D5 _) q2)⟩
  refine⟨ow',sl',?_,b2,by rw[b3,Z9];rfl,λk s x e1 e2=>b4 k s x e1 (by rw[Z9];exact e2)⟩;rw[x5,st,b1,Z9];rfl
theorem RH (mask:Nat)(hs:Array Int):layClean mask hs=(hs.toList.foldl (FJ mask) (some (EJ (mask+1) none,0))).map (·.1):=by
 unfold layClean;rw[<- Array.foldl_toList]
 rfl
def live (mask:Nat)(ow:Array (Option Nat)):List (Nat×Nat):=(C7 (mask+1)).filterMap λj=>(ow.getD j none).map (j,·)
theorem Bw {mask:Nat}(O:Own mask ow sl):(j,k)∈live mask ow↔sl[k]?=some j:=by
 unfold live;rw[List.mem_filterMap];constructor
 ·rintro⟨x,hx,e⟩;have hxm:x<=mask:=Db (F8.mp hx)
  by_cases c:x∈sl
  ·obtain⟨q,hq⟩:=BI.mp c;rw[Ay,O.has q x hq] at e;have e':(x,q)=(j,k):=by simpa using e
   cases e';exact hq
  ·rw[Ay,O.no x hxm c] at e;cases e
 ·intro h;have hj:=O.lim j (J5 h);refine⟨j,F8.mpr (by omega),?_⟩;rw[Ay,O.has k j h];rfl
theorem LQ (mask:Nat)(ow:Array (Option Nat)):Rise ((live mask ow).map (·.1)):=by
 unfold live Rise;rw[Bc];refine List.Pairwise.filterMap _ (R:=(· < ·)) (λa b hab x hx y hy=>?_) List.pairwise_lt_range;cases e1:ow.getD a none with
 |none=>rw[e1] at hx;cases hx
 | some p =>
  cases e2:ow.getD b none with
  |none=>rw[e2] at hy;cases hy
  | some q =>
   rw[e1] at hx;rw[e2] at hy;have hx':(a,p)=x:=by simpa using hx
   have hy':(b,q)=y:=by simpa using hy
   rw[<- hx',<- hy'];exact hab
theorem RI {mask:Nat}(O:Own mask ow sl):((live mask ow).map (·.2)).Perm (C7 sl.length):=by
 have nd:((live mask ow).map (·.2)).Nodup:=by
  have h1:(live mask ow).Pairwise λa b=>a.1<b.1:=Bc.mp (LQ mask ow);rw[Ax,Bc];refine List.Pairwise.imp_of_mem (λ{a b} ha hb hab e=>?_) h1;have x1:=(Bw (j:=a.1) (k:=a.2) O).mp ha;have x2:=(Bw (j:=b.1) (k:=b.2) O).mp hb;rw[e] at x1;rw[x1] at x2;have:=F6 x2;omega
 refine(List.perm_ext_iff_of_nodup nd List.nodup_range).mpr λk=>?_;rw[F8,C0];constructor
 ·rintro⟨⟨j,k'⟩,h,rfl⟩;exact(E1.mp ((Bw O).mp h)).1
 ·intro h;exact⟨(sl[k],k),(Bw O).mpr (C4 h),rfl⟩
theorem RJ {mask fi mo:Nat}{led pl:Bool}(hm:Msk mask)(hs:Array Int)(hl:hs.toList.length<mask) :
   ∃t' order,laid mask fi mo led pl hs=some (t',order)/\order.toList.Perm (C7 hs.toList.length)/\t'.led=led/\t'.plain=pl/\t'.mask=mask/\TOk t' (order.toList.map λk=>hs.toList.getD k 0):=by
 obtain⟨ow,sl,e,O,l,r⟩:=LP hm hs.toList [] _ [] (Own.nil mask) rfl (by grind) (λk s h e=>by simp at e);rw[P6] at e l r
 have el:laid mask fi mo led pl hs=some ({ mask,place:=((live mask ow).map (·.1)).toArray,dummies:=#[],finger:=fi,led,moves:=mo,plain:=pl },((live mask ow).map (·.2)).toArray):=by
  unfold laid;rw[RH,show(some (EJ (mask+1) (none:Option Nat),0))=some (EJ (mask+1) none,([]:List Int).length) from rfl,e]
  rfl
 have po:=RI O;rw[l] at po;refine⟨_,_,el,po,rfl,rfl,rfl,?_⟩
 have ml:∀x,x∈(live mask ow).map (·.1)↔x∈sl:=λx=>by
  rw[C0];constructor
  ·rintro⟨⟨j,k⟩,h,rfl⟩;exact J5 ((Bw O).mp h)
  ·intro h;obtain⟨k,hk⟩:=BI.mp h;exact⟨(x,k),(Bw O).mpr hk,rfl⟩
 refine⟨by simp,rfl,hm,LQ mask ow,λs h=>O.lim s ((ml s).mp h),?_,λi s h e1 e2=>?_⟩
 ·rw[A9,po.length_eq,Q8];exact hl
 ·have e1':((live mask ow).map (·.1))[i]?=some s:=e1;have e2':(((live mask ow).map (·.2)).map λk=>hs.toList.getD k 0)[i]?=some h:=e2;rw[C6] at e1';rw[C6,C6] at e2';cases ex:(live mask ow)[i]? with
  |none=>rw[ex] at e1';cases e1'
  | some y =>
   rw[ex] at e1' e2';have a1:y.1=s:=by simpa using e1'
   have a2:hs.toList.getD y.2 0=h:=by simpa using e2'
   have my:=(Bw (j:=y.1) (k:=y.2) O).mp (J5 ex);have lk:y.2<hs.toList.length:=by rw[<- l];exact(E1.mp my).1
   have hk:hs.toList[y.2]?=some h:=by rw[<- a2,G6,C4 lk];rfl
   rw[a1] at my;exact(r y.2 s h my hk).mono λx hx=>(ml x).mpr hx
end SeT
end
section
namespace SeT
open PySem PySem.Spec PyProof.Rows L2
section
variable (prog:C3)(w:B8)
abbrev TK:HeapKind prog w (List Key):=tupleKind (Y4 prog w)
def enS (x:List Key×A0):Int×A1:=((TK prog w).hash x.1,.ref x.2)
structure SetK (h:B1)(a:A0)(o:Obj)(es:Array (Int×A1))(ep:Nat)(t:N5)(xs:List (List Key×A0)):Prop where
 ho:h.get? a=some o
 ex:o.ExactSet
 hd:o.data=.set es ep t
 hes:es.toList=xs.map (enS prog w)
 hk:∀x∈xs,(TK prog w).is h x.1 x.2
 nd:(xs.map (·.1)).Nodup
 tb:TOk t (xs.map λx=>(TK prog w).hash x.1)
 few:5*xs.length<3*t.mask
 led:t.led=!(w.params.followText "set-order")
end
section
variable {prog:C3}{w:B8}{A:C8}{E:A1->A4->Prop}{s:A4}{a:A0}{o:Obj}{es:Array (Int×A1)}{ep:Nat}{t:N5}{xs:List (List Key×A0)}
theorem SetK.sz (S:SetK prog w h a o es ep t xs):es.size=xs.length:=by rw[<- M8,S.hes,A9]
theorem SetK.fits (S:SetK prog w h a o es ep t xs):t.fits es.size=true:=by
 have:=S.tb.fits;rw[A9] at this;rw[S.sz];exact this
theorem SetK.at (S:SetK prog w h a o es ep t xs){i:Nat}(e:xs[i]?=some y):es[i]?=some (enS prog w y):=by
 rw[<- U1,S.hes,C6,e];rfl
theorem LR {vs:List A1}(h:ItemsAre (Y4 prog w) ks vs):∀v∈vs,(∃i t,v=.int i t)\/∃x t,v=.str x t:=by
 induction h with
 |nil=>intro v hv;cases hv
 | @cons k v ks vs h1 _ ih =>
  intro u hu;rcases C9.mp hu with rfl|hu
  ·rcases d8 h1 with⟨i,t,_,rfl⟩|⟨x,t,_,rfl⟩
   ·simp
   ·simp
  ·grind
theorem LS (hk:(TK prog w).is s.heap k r)(h:Q false s):A5 (A6 prog w) A (ofAClassStatement 8 (.ref r)) Q E s:=by
 obtain⟨ob,items,n,e,c,d,jf⟩:=hk;unfold ofAClassStatement;refine A2 (w6 (⟨ob,e,c⟩:s.TypeIs (.ref r) "tuple") ?_);dsimp only;simp only[beq_self_eq_true,↓reduceIte];refine A2 (A8 ?_);simp only[R0,F2,↓reduceIte];refine A2 (X5 e d ?_);dsimp only;refine A2 ?_;rw[<- Array.forIn_toList];refine Ej _ (λrest r s'=>r.1=none/\s'=s/\∀v∈rest,(∃i t,v=.int i t)\/∃x t,v=.str x t) _ ?_ ?_ _ _ ⟨rfl,rfl,LR jf⟩
 ·rintro v rest r s' ⟨hr,rfl,all⟩
  have e0:ofAClassStatement 7 v=pure false:=by
   rcases all v B2 with⟨i,t,rfl⟩|⟨x,t,rfl⟩ <;> rfl
  rw[e0];refine A2 (A8 ?_);simp only[F2,↓reduceIte];exact A8 ⟨rfl,rfl,λu hu=>all u (B4 _ hu)⟩
 ·rintro⟨r1,r2⟩ s' ⟨hr,rfl,_⟩;simp only at hr;subst hr;exact A8 h
theorem RK (hu:A.units<cLine)(hk:(TK prog w).is s.heap k r):∀(l:List A1),(∀v∈l,∃b kb,v=.ref b/\(TK prog w).is s.heap kb b)->∀{Q:Bool->A4->Prop},Q false s->A5 (A6 prog w) A (searchCouldBeSeen (.ref r) l) Q E s:=by
 intro l hl Q h;unfold searchCouldBeSeen;refine A2 ?_;refine Ej _ (λrest r s'=>r.1=none/\s'=s/\∀v∈rest,∃b kb,v=.ref b/\(TK prog w).is s.heap kb b) _ ?_ ?_ _ _ ⟨rfl,rfl,hl⟩
 ·rintro v rest q s' ⟨hr,rfl,all⟩;obtain⟨b,kb,rfl,hb⟩:=all v B2;have fin:∀v∈rest,∃b kb,v=L4 b/\(TK prog w).is s'.heap kb b:=λu hu=>all u (B4 _ hu);dsimp only
  split
  ·exact A8 ⟨rfl,rfl,fin⟩
  ·refine A2 ((TK prog w).quiet hk ?_);simp only[R0,F2,↓reduceIte];refine A2 ((TK prog w).quiet hb ?_);simp only[R0,F2,↓reduceIte];refine A2 (LS hk ?_);simp only[F2,↓reduceIte];refine A2 (LS hb ?_);simp only[F2,↓reduceIte];exact A8 ⟨rfl,rfl,fin⟩
 ·rintro⟨r1,r2⟩ s' ⟨hr,rfl,_⟩;simp only at hr;subst hr;exact A8 h
theorem RL (h:Q true s):A5 (A6 prog w) A (isSame (.ref b) (.ref b)) Q E s:=by
 show A5 _ A (if(b == b)=true then pure true else _) Q E s;rw[jt (by simp)];exact A8 h
theorem RM {α:Type}{b:Bool}{m:Sem Bool}{u v:Sem α}{Q:α->A4->Prop}(hm:∀Q':Bool->A4->Prop,Q' false s->A5 (A6 prog w) A m Q' E s)(hv:A5 (A6 prog w) A v Q E s):A5 (A6 prog w) A (if b=true then(do let x ← m;if x=true then u else v) else v) Q E s:=by
 split
 ·refine A2 (hm _ ?_);simp only[F2,↓reduceIte];exact hv
 ·exact hv
theorem LU {r:A0}{k:List Key}(hu:A.units < cLine)(S:SetK prog w s.heap a o es ep t xs)(hk:(TK prog w).is s.heap k r){K e:Nat}(hK:(lp t.mask ((TK prog w).hash k) K).1=e)(he:e∉t.place.toList)(hK2:K<=t.mask + 14){Q:SetFound->A4->Prop}
   (hQ1:k∈xs.map (·.1)->Q (.there none) s) (hQ2:∀sl,sl∉t.place.toList->sl<=t.mask->Rch t.mask (·∈t.place.toList) sl ((TK prog w).hash k)->k∉xs.map (·.1)->Q (.free sl false) s) :
   ∀ (fuel kk oo : Nat) (st : Option SetTable.Probe), st.getD (t.probeStart ((TK prog w).hash k)) = pb t.mask ((TK prog w).hash k) kk oo -> kk <= K -> (kk = K -> oo = 0) -> oo <= rn t.mask (lp t.mask ((TK prog w).hash k) kk).1 -> far K kk oo <= fuel ->
     (∀k' o',o'<=rn t.mask (lp t.mask ((TK prog w).hash k) k').1->Lx k' o' kk oo->∃(i:Nat) (y:List Key×A0),t.place.toList[i]?=some (vs t.mask ((TK prog w).hash k) k' o')/\xs[i]?=some y/\y.1≠k)->
     A5 (A6 prog w) A (setSearchFrom a (.ref r) ((TK prog w).hash k) true fuel st) Q E s
 | 0, kk, oo, st, _, h1, h2, h3, h4, _ => by
  have r9:=rn_9 t.mask (lp t.mask ((TK prog w).hash k) kk).1;unfold far at h4;have:¬kk=K:=λz=>by have:=h2 z;omega
  omega
 | fuel + 1, kk, oo, st, hst, h1, h2, h3, h4, done => by
  have farK:far K kk oo<=10*SetTable.turns t.mask:=by unfold far SetTable.turns;omega
  have hat:∀(i:Nat) x,(xs.map λx=>(TK prog w).hash x.1)[i]?=some x->(es[i]?.map (·.1)).getD 0=x:=λi x e=>by
   rw[C6] at e;cases ex:xs[i]? with
   |none=>rw[ex] at e;cases e
   | some y =>
    rw[ex] at e;rw[S.at ex];exact F6 e
  obtain⟨k2,o2,a1,a2,a3,a4,a5,a6⟩:=LN S.tb (λi=>(es[i]?.map (·.1)).getD 0) hat hK he (10*SetTable.turns t.mask) kk oo h1 h2 h3 farK
  have done2:∀k' o',o'<=rn t.mask (lp t.mask ((TK prog w).hash k) k').1->Lx k' o' k2 o2->∃(i:Nat) (y:List Key×A0),t.place.toList[i]?=some (vs t.mask ((TK prog w).hash k) k' o')/\xs[i]?=some y/\y.1≠k:=λk' o' p1 p2=>by
   by_cases c:Lx k' o' kk oo
   ·exact done k' o' p1 c
   ·obtain⟨i,x,q1,q2,q3⟩:=a5 k' o' p1 c p2;rw[C6] at q2;cases ex:xs[i]? with
    |none=>rw[ex] at q2;cases q2
    | some y =>
     rw[ex] at q2;have q2':(TK prog w).hash y.1=x:=by simpa using q2
     exact⟨i,y,q1,ex,λz=>q3 (by rw[<- q2',z])⟩
  unfold setSearchFrom;refine A2 (X4 S.ho S.hd S.fits ?_);dsimp only;rw[S.tb.odd];simp only[F2,↓reduceIte];refine A2 (A8 ?_);rw[hst];generalize hpr:t.probe _ ((TK prog w).hash k) (pb t.mask ((TK prog w).hash k) kk oo)=pr;rcases a6 with⟨em,ep2⟩|⟨i,hkK,pi,hi,ep2⟩
  ·have epr:pr=some (.empty (vs t.mask ((TK prog w).hash k) k2 o2) none):=by rw[<- hpr];exact ep2
   rw[epr];dsimp only;refine A8 (hQ2 _ em (HR a1) ⟨k2,o2,a1,rfl,λk' o' p1 p2=>?_⟩ λhin=>?_)
   ·obtain⟨i,y,q1,_⟩:=done2 k' o' p1 p2;exact J5 q1
   ·obtain⟨y,hy,ey⟩:=C0.mp hin;obtain⟨iy,hiy⟩:=BI.mp hy
    obtain⟨sy,hsy⟩:∃sy,t.place.toList[iy]?=some sy:=by
     have:=(E1.mp hiy).1;have h2:=S.tb.size;rw[A9] at h2;exact⟨_,C4 (by omega)⟩
    obtain⟨ky,oy,b1,b2,b3⟩:=S.tb.reach iy sy ((TK prog w).hash k) hsy (by rw[C6,hiy];show some ((TK prog w).hash y.1)=_;rw[ey])
    -- the empty place is not ahead of y's
    have nl:¬Lx k2 o2 ky oy:=λz=>em (b3 k2 o2 a1 z);have ne:¬(k2=ky/\o2=oy):=λ⟨z1,z2⟩=>em (by rw[z1,z2,b2];exact J5 hsy)
    have lt:Lx ky oy k2 o2:=by
     rcases y0 ky k2 with c|c|c
     ·exact .inl c
     ·subst c;rcases y0 oy o2 with d|d|d
      ·exact .inr ⟨rfl,d⟩
      ·exact absurd ⟨rfl,d.symm⟩ ne
      ·exact absurd (.inr ⟨rfl,d⟩) nl
     ·exact absurd (.inl c) nl
    obtain⟨i',y',q1,q2,q3⟩:=done2 ky oy b1 lt;rw[b2] at q1
    have ii:i'=iy:=by
     obtain⟨l1,e1⟩:=E1.mp q1;obtain⟨l2,e2⟩:=E1.mp hsy;rcases y0 i' iy with c|c|c
     ·have:=Z8.mp S.tb.rise _ _ l1 l2 c;omega
     ·exact c
     ·have:=Z8.mp S.tb.rise _ _ l2 l1 c;omega
    rw[ii,hiy] at q2;cases q2;exact q3 ey
  ·have epr:pr=some (.candidate (vs t.mask ((TK prog w).hash k) k2 o2) i (pb t.mask ((TK prog w).hash k) (nx t.mask ((TK prog w).hash k) k2 o2).1 (nx t.mask ((TK prog w).hash k) k2 o2).2)):=by rw[<- hpr];exact ep2
   rw[epr];dsimp only
   obtain⟨y,hy⟩:∃y,xs[i]?=some y:=by
    rw[C6] at hi;cases ex:xs[i]? with
    |none=>rw[ex] at hi;cases hi
    |some y=>exact⟨y,rfl⟩
   have hyk:=S.hk y (J5 hy);have hey:=S.at hy;refine RM (λQ' h=>RK hu hk _ (λv hv=>?_) h) ?_
   ·obtain⟨z,hz,rfl⟩:=C0.mp hv
    have hz':z∈es.toList:=by
     rw[Array.toList_filter] at hz;exact(M7.mp hz).1
    rw[S.hes] at hz';obtain⟨y',hy',rfl⟩:=C0.mp hz';exact⟨y'.2,y'.1,rfl,S.hk y' hy'⟩
   rw[hey];show A5 (A6 prog w) A (U7 [.ref y.2] (eqBool (.ref y.2) (.ref r))>>=_) Q E s;refine A2 (N4 ((TK prog w).eqBool hu hyk hk ?_));refine A2 (X4 S.ho S.hd S.fits ?_);dsimp only
   by_cases c:y.1=k
   ·rw[jq c];simp only[Bool.and_self,↓reduceIte];exact A8 (hQ1 (C0.mpr ⟨y,J5 hy,c⟩))
   ·rw[jr c];simp only[EG,F2,↓reduceIte];have sm:t.sameMemory t.moves t.mask=some true:=by unfold SetTable.sameMemory;simp
    rw[sm];simp only[↓reduceIte];rw[S.tb.slot_live pi];dsimp only;rw[hey];show A5 (A6 prog w) A (isSame (.ref y.2) (.ref y.2)>>=_) Q E s;refine A2 (RL ?_);refine A2 (A8 ?_);simp only[↓reduceIte];obtain⟨f1,f2,f3⟩:=LM (K:=K) a1 hkK
    have fle:far K k2 o2<=far K kk oo:=by
     unfold far;have r9:=rn_9 t.mask (lp t.mask ((TK prog w).hash k) kk).1;rcases y0 k2 kk with c|c|c
     ·exact absurd (.inl c) a4
     ·subst c;have:¬o2<oo:=λz=>a4 (.inr ⟨rfl,z⟩);omega
     ·omega
    refine LU hu S hk hK he hK2 hQ1 hQ2 fuel _ _ _ rfl f2 f3 (nx_ok a1) (by omega) λk' o' p1 p2=>?_;rcases nx_lx a1 p1 p2 with q|⟨rfl,rfl⟩
    ·exact done2 k' o' p1 q
    ·exact⟨i,y,pi,hy,c⟩
end
section
variable {prog:C3}{w:B8}{A:C8}{E:A1->A4->Prop}{s:A4}{a:A0}{o:Obj}{es:Array (Int×A1)}{ep:Nat}{t:N5}{xs:List (List Key×A0)}
theorem hbv (hk:(TK prog w).is s.heap k r)(h:∀b,Q b s):A5 (A6 prog w) A (hashByValue 8 (.ref r)) Q E s:=by
 have hT:s.TypeIs (.ref r) "tuple":=IsTupleKey.typeIs hk;obtain⟨ob,items,n,e,c,d,jf⟩:=hk;unfold hashByValue;refine A2 (wpAny_specialOf hT F.slot_tuple_hash.lookup ?_);dsimp only;refine A2 (X5 e d ?_);refine A2 ?_;show A5 _ _ (forIn items _ _) _ _ s;rw[<- Array.forIn_toList];refine Ej _ (λrest q s'=>q.1=none/\s'=s/\∀v∈rest,(∃i t,v=.int i t)\/∃x t,v=.str x t) _ ?_ ?_ _ _ ⟨rfl,rfl,LR jf⟩
 ·rintro v rest q s' ⟨hr,rfl,all⟩
  have e0:∃b,hashByValue 7 v=pure b:=by
   rcases all v B2 with⟨i,t,rfl⟩|⟨x,t,rfl⟩
   ·exact⟨true,rfl⟩
   ·exact⟨false,rfl⟩
  obtain⟨b,e0⟩:=e0;rw[e0];refine A2 (A8 ?_);cases b with
  | true =>
   simp only[R0,F2,↓reduceIte];exact A8 ⟨rfl,rfl,λu hu=>all u (B4 _ hu)⟩
  | false =>
   simp only[c6,↓reduceIte];exact A8 (A8 (h _))
 ·rintro⟨r1,r2⟩ s' ⟨hr,rfl,_⟩;simp only at hr;subst hr;exact A8 (h _)
theorem LV (hk:(TK prog w).is h k r)(ho:h.get? a=some o)(ex:o.ExactSet)(sb:l6 a h h'):(TK prog w).is h' k r:=by
 obtain⟨ob,items,n,e,c,d,jf⟩:=hk
 have ne:r≠a:=λz=>by
  rw[z,ho] at e;cases e;rw[ex.1] at c;exact absurd c (by decide)
 exact⟨ob,items,n,(sb.2 r ne).trans e,c,d,jf⟩
theorem TOk.pl (T:TOk t hs)(b:Bool):TOk { t with plain:=b } hs:=⟨T.size,T.dum,T.mask,T.rise,T.lim,T.room,T.reach⟩
theorem RN (hm:Msk m)(h:5*n<3*m):n+1<m:=by grind [Msk]
theorem LW {h:B1}(ho:h.get? a=some o)(hd:o.data=.set es ep t):(h.update a (Obj.putSet es' t')).get? a=some { o with data:=.set es' (ep+1) t' }:=by
 have:=BO (Obj.putSet es' t') ho (by rw[putSet_of es' t' hd];rfl);rw[putSet_of es' t' hd] at this;exact this
theorem LX {α β:Type}(f:α->β)(l:List α)(p:Nat)(x:α):(insL l p x).map f=insL (l.map f) p (f x):=by simp[insL]
theorem RO {α:Type}(l:List α)(p:Nat)(x:α):(insL l p x).Perm (x::l):=by
 unfold insL;have h1:(l.take p++x::l.drop p).Perm (x::(l.take p++l.drop p)):=List.perm_middle
 simp_all
theorem LY {α:Type}(l:List α)(ord:List Nat)(d:α)(p:ord.Perm (C7 l.length)):ord.filterMap (λk=>l[k]?)=ord.map (λk=>l.getD k d)/\(ord.map λk=>l.getD k d).Perm l:=by
 have lt:∀k∈ord,k<l.length:=λk hk=>F8.mp (p.mem_iff.mp hk);constructor
 ·clear p
  induction ord with
  |nil=>rfl
  | cons k ord ih =>
   have hk:=lt k B2;rw[Ba,C4 hk,J8,ih λj hj=>lt j (B4 _ hj),G6,C4 hk]
   rfl
 ·have h1:=p.map λk=>l.getD k d
  have h2:(C7 l.length).map (λk=>l.getD k d)=l:=by
   apply Ew
   intro i;rw[C6]
   by_cases c:i<l.length
   ·grind
   ·grind
  rw[h2] at h1;exact h1
theorem relay (ho:s.heap.get? a=some o)(ex:o.ExactSet)(hd:o.data=.set es ep t)(hes:es.toList=xs.map (enS prog w))(hk:∀x∈xs,(TK prog w).is s.heap x.1 x.2)(nd:(xs.map (·.1)).Nodup)(tb:TOk t (xs.map λx=>(TK prog w).hash x.1))(led:t.led=!(w.params.followText "set-order"))
   (hn:n=xs.length) (hfull:(t.mask=7/\n=5)\/(t.mask=31/\n=19))
   (h:∀h' o' es' ep' t' xs',l6 a s.heap h'->SetK prog w h' a o' es' ep' t' xs'->xs'.Perm xs->Q () { s with heap:=h' }):A5 (A6 prog w) A (setRelay a (Dp n)) Q E s:=by
 have sz:es.size=xs.length:=by rw[<- M8,hes,A9]
 have fit:t.fits es.size=true:=by
  have:=tb.fits;rw[A9] at this;rw[sz];exact this
 obtain⟨m',hm',sa,fewm,lt⟩:∃m',Msk m'/\SetTable.sizeAbove (Dp n)-1=m'/\5*n<3*m'/\SetTable.sizeAbove (Dp n)<=128:=by
  rcases hfull with⟨_,rfl⟩|⟨_,rfl⟩
  ·exact⟨31,.inr (.inl rfl),by decide,by decide,by decide⟩
  ·exact⟨127,.inr (.inr rfl),by decide,by decide,by decide⟩
 have hsl:(es.map (·.1)).toList=xs.map λx=>(TK prog w).hash x.1:=by
  rw[Array.toList_map,hes,D8];rfl
 have hll:(es.map (·.1)).toList.length=n:=by rw[hsl,A9,hn]
 obtain⟨t',ord,el,po,l1,l2,l3,T'⟩:=RJ (fi:=t.finger) (mo:=t.movedTo m') (led:=t.led) (pl:=t.plain) hm' (es.map (·.1)) (by grind)
 have er:t.relaid (es.map (·.1)) (Dp n)=some (t',ord):=by
  unfold SetTable.relaid;rw[sa];exact el
 rw[hll] at po;have po':ord.toList.Perm (C7 xs.length):=by rw[<- hn];exact po
 obtain⟨x0,hx0⟩:∃x0:List Key×A0,True:=⟨([],0),trivial⟩;have ol:=LY xs ord.toList x0 po';have lt2:∀k∈ord.toList,k<xs.length:=λk hk=>F8.mp (po'.mem_iff.mp hk)
 have es2:(ord.filterMap (es[·]?)).toList=(ord.toList.map λk=>xs.getD k x0).map (enS prog w):=by
  rw[Array.toList_filterMap,D8]
  have:∀l:List Nat,(∀k∈l,k < xs.length)->l.filterMap (fun k=>es[k]?)=l.map ((enS prog w)∘fun k=>xs.getD k x0):=by
   intro l
   induction l with
   |nil=>intro _;rfl
   | cons k l ih =>
    intro hl;have hk:=hl k B2
    have e1:es[k]?=some (enS prog w (xs.getD k x0)):=by
     rw[<- U1,hes,C6,C4 hk,G6,C4 hk];rfl
    rw[Ba,e1,J8,ih λj hj=>hl j (B4 _ hj)]
    rfl
  exact this ord.toList lt2
 have z2:(ord.filterMap (es[·]?)).size=es.size:=by
  rw[<- M8,es2,A9,A9,po'.length_eq,Q8,sz]
 unfold setRelay;refine A2 (X4 ho hd fit ?_);dsimp only;rw[ju (by rw[K9];omega),er]
 show A5 (A6 prog w) A ((do
  let es':=ord.filterMap (es[·]?)
  if es'.size != es.size then unsupported "internal:set-table-lost-an-element"
  pure (es',t'))>>=λ(x:Array (Int×A1)×N5)=>storeSet a x.1 x.2) Q E s
 dsimp only;rw[ju (by grind)];refine A2 (A2 (A8 (A8 ?_)));have fz:(ord.filterMap (es[·]?)).size<=B7:=by rw[z2,sz,<- hn,K9];rcases hfull with⟨_,rfl⟩|⟨_,rfl⟩ <;> decide
 refine wpAny_storeSet_of ho hd ?_ fz;have sb:=U2 s.heap a (Obj.putSet (ord.filterMap (es[·]?)) t');have pk:=po';refine h _ _ _ _ _ (ord.toList.map λk=>xs.getD k x0) sb ⟨LW ho hd,ex,rfl,es2,λx hx=>?_,?_,?_,?_,by rw[l1];exact led⟩ ol.2
 ·exact LV (hk x (ol.2.mem_iff.mp hx)) ho ex sb
 ·grind
 ·have e3:(ord.toList.map λk=>xs.getD k x0).map (λx=>(TK prog w).hash x.1)=ord.toList.map λk=>(es.map (·.1)).toList.getD k 0:=by
   rw[D8,hsl];refine At λk hk=>?_;have hk':=lt2 k hk;show(TK prog w).hash (xs.getD k x0).1=_;rw[G6,G6,C6,C4 hk'];rfl
  rw[e3];exact T'
 ·rw[A9,po'.length_eq,Q8,<- hn];show 5*n<3*t'.mask;omega
theorem add (hu:A.units<cLine)(S:SetK prog w s.heap a o es ep t xs)(hk:(TK prog w).is s.heap k r)(h63:xs.length+1<=63)
   (h1:k∈xs.map (·.1)->Q false s) (h2:k∉xs.map (·.1)->∀h' o' es' ep' t' xs',l6 a s.heap h'->SetK prog w h' a o' es' ep' t' xs'->xs'.Perm ((k,r)::xs)->Q true { s with heap:=h' }) :
   A5 (A6 prog w) A (setAddHashed a (.ref r) ((TK prog w).hash k)) Q E s:=by
 unfold setAddHashed setAddHashedIn;refine N4 (A2 (X4 S.ho S.hd S.fits ?_));dsimp only;have nb:byScan (.ref r) es=false:=by unfold byScan Value.scannable;simp
 rw[nb];simp only[F2,↓reduceIte];obtain⟨e,he1,he2⟩:=S.tb.free;obtain⟨K,hK1,hK2⟩:=goes S.tb.mask ((TK prog w).hash k) he1
 have f0:far K 0 0<=100000:=by
  unfold far;rcases S.tb.mask with z|z|z <;> rw[z] at hK1 <;> omega
 refine A2 ?_;unfold setSearch;refine LU hu S hk hK2 he2 hK1 (λhin=>?_) (λsl n1 n2 n3 n4=>?_) 100000 0 0 none rfl (D5 _) (λ_=>rfl) (D5 _) f0 (λk' o' _ l=>?_)
 ·exact A8 (h1 hin)
 ·dsimp only;refine A2 (X4 S.ho S.hd S.fits ?_);have hr:=RN S.tb.mask (by have:=S.few;exact this);obtain⟨p1,p2,p3,p4,T1⟩:=S.tb.put n1 n2 n3 (by grind);rw[A9] at p2;have ek:insL (xs.map λx=>(TK prog w).hash x.1) (t.put sl).2 ((TK prog w).hash k)=(insL xs (t.put sl).2 (k,r)).map λx=>(TK prog w).hash x.1:=(LX (λx:List Key×A0=>(TK prog w).hash x.1) xs (t.put sl).2 (k,r)).symm;rw[ek] at T1
  have es1:(SetTable.insertAt es (t.put sl).2 ((TK prog w).hash k,.ref r)).toList=(insL xs (t.put sl).2 (k,r)).map (enS prog w):=by
   rw[LK _ _ _ (by rw[S.sz];exact p2),S.hes,LX];rfl
  have pm:=RO xs (t.put sl).2 (k,r);have mk1:(t.put sl).1.mask=t.mask:=rfl
  have nd1:((insL xs (t.put sl).2 (k,r)).map (·.1)).Nodup:=by
   refine((pm.map (·.1)).nodup_iff).mpr ?_;rw[J8,N8];exact⟨n4,S.nd⟩
  have hk1:∀x∈insL xs (t.put sl).2 (k,r),(TK prog w).is s.heap x.1 x.2:=λx hx=>by
   rcases C9.mp (pm.mem_iff.mp hx) with rfl|hx
   ·exact hk
   ·exact S.hk x hx
  have len1:(insL xs (t.put sl).2 (k,r)).length=xs.length+1:=FG _ _ _
  have fill1:∀b,({ (t.put sl).1 with plain:=b }:N5).fill=xs.length+1:=λb=>by
   show(t.put sl).1.place.size+(t.put sl).1.dummies.size=_;rw[T1.dum,<- M8,T1.size,A9,len1];rfl
  dsimp only;generalize (t.put sl).2=p at *;generalize ht1:(t.put sl).1=t1 at *;generalize hes1:SetTable.insertAt es p ((TK prog w).hash k,.ref r)=esN at *;generalize hxs1:insL xs p (k,r)=xs1 at *
  -- what follows, whatever is said of the hash
  have tail:∀b:Bool,A5 (A6 prog w) A (do
      storeSet a esN { t1 with plain:=b }
      if(!false&&({ t1 with plain:=b }:N5).tooFull)=true then do
       setRelay a (Dp (es.size+1))
       pure true
      else pure true) Q E s:=λb=>by
    have ez:esN.size<=B7:=by rw[<- M8,es1,A9,len1,K9];omega
    refine A2 (wpAny_storeSet_of S.ho S.hd ?_ ez);have sb:=U2 s.heap a (Obj.putSet esN { t1 with plain:=b });have hk2:∀x∈xs1,(TK prog w).is (s.heap.update a (Obj.putSet esN { t1 with plain:=b })) x.1 x.2:=λx hx=>LV (hk1 x hx) S.ho S.ex sb;have ob:=LW (es':=esN) (t':={ t1 with plain:=b }) S.ho S.hd;have T2:=TOk.pl T1 b
    by_cases c:({ t1 with plain:=b }:N5).tooFull=true
    ·rw[jt (by grind)]
     have c':(xs.length+1)*5>=t.mask*3:=by
      unfold SetTable.tooFull at c;rw[fill1 b] at c;have:=jv c;rw[<- mk1];exact this
     have few:=S.few;refine A2 (relay (n:=es.size+1) ob S.ex rfl es1 hk2 nd1 T2 (by show t1.led=_;rw[p4];exact S.led) (by rw[S.sz,len1]) ?_ λh' o' es' ep' t' xs' sb' S' p'=>?_)
     ·show(t1.mask=7/\_)\/(t1.mask=31/\_);rw[mk1,S.sz];rcases S.tb.mask with z|z|z
      ·omega
      ·omega
      ·omega
     ·exact A8 (h2 n4 _ _ _ _ _ _ (sb.trans sb') S' (p'.trans pm))
    ·rw[ju (by grind)];refine A8 (h2 n4 _ _ _ _ _ xs1 sb ⟨ob,S.ex,rfl,es1,hk2,nd1,T2,?_,by show t1.led=_;rw[p4];exact S.led⟩ pm)
     have:¬((xs.length+1)*5>=t.mask*3):=λz=>c (by
      unfold SetTable.tooFull;rw[fill1 b]
      exact jq (by grind))
     show 5*xs1.length<3*t1.mask;rw[len1,mk1];omega
  split
  ·refine A2 (hbv hk λb=>?_);cases b with
   | true =>
    simp only[↓reduceIte];exact tail t1.plain
   | false =>
    simp only[F2,↓reduceIte];exact tail false
  ·refine A2 (A8 ?_);simp only[↓reduceIte];exact tail t1.plain
 ·rcases l with l|⟨_,l⟩
  ·grind
  ·omega
end
def Holds (prog:C3)(w:B8)(h:B1)(S:A0)(rs:List (List Key×A0)):Prop:=
 ∃o es ep t xs,SetK prog w h S o es ep t xs/\(∀x∈xs,x∈rs)/\∀x∈rs,x.1∈xs.map (·.1)
theorem FK (hk:(TK prog w).is h k r)(kp:∀o,h.get? r=some o->h'.get? r=some o):(TK prog w).is h' k r:=by
 obtain⟨ob,items,n,e,c,d,jf⟩:=hk;exact⟨ob,items,n,kp _ e,c,d,jf⟩
theorem SetK.at' (S:SetK prog w h a o es ep t xs)(k0:h'.get? a=some o)(kp:∀x∈xs,∀o,h.get? x.2=some o->h'.get? x.2=some o):SetK prog w h' a o es ep t xs:=
 ⟨k0,S.ex,S.hd,S.hes,(λx hx=>FK (S.hk x hx) (kp x hx)),S.nd,S.tb,S.few,S.led⟩
theorem Holds.at' (S:Holds prog w h a rs)(k0:∀o,h.get? a=some o->h'.get? a=some o)(kp:∀x∈rs,∀o,h.get? x.2=some o->h'.get? x.2=some o):Holds prog w h' a rs:=by
 obtain⟨o,es,ep,t,xs,S1,S2,S3⟩:=S;exact⟨o,es,ep,t,xs,S1.at' (k0 o S1.ho) λx hx=>kp x (S2 x hx),S2,S3⟩
theorem Holds.len {xs rs:List (List Key×A0)}(S:SetK prog w h a o es ep t xs)(hs:∀x∈xs,x∈rs):xs.length<=rs.length:=by
 have n1:xs.Nodup:=(Bc.mp S.nd).imp λh e=>h (by rw[e]);exact n1.length_le_of_subset hs
section
variable {prog:C3}{w:B8}{A:C8}{R:Result->A4->Prop}{I:A0}{fp wr:List A0}{G:Array GenState->Array GenState->Prop}{n:Nat}{P:Nat->A1->Prop}{St:Nat->A4->Prop}
theorem RP {rs:List (List Key×A0)}(hy:rs[i]?=some y)(S1:SetK prog w h S o es ep t xs)(S2:∀x∈xs,x∈rs.take i)(S3:∀x∈rs.take i,x.1∈xs.map (·.1))(hin:y.1∈xs.map (·.1)):Holds prog w h S (rs.take (i+1)):=by
 have e:rs.take (i+1)=rs.take i++[y]:=by rw[Aw,hy];rfl
 rw[e];exact⟨o,es,ep,t,xs,S1,λx hx=>A_ _ (S2 x hx),λx hx=>(K6.mp hx).elim (S3 x) λz=>by rw[J6.mp z];exact hin⟩
theorem RQ (Wk:WalksS prog w A.in1 I fp wr G n P St)(S:A0)(nf:S∉fp)(rs:List (List Key×A0))(hn:rs.length=n)(hv:∀i v,P i v->∃y,rs[i]?=some y/\v=.ref y.2)(ap:∀y∈rs,y.2∉wr/\y.2≠S)(hu:A.in1.units<cLine)(room:n<=63) :
   ∀ (k i : Nat) (s : A4), n - i = k -> i <= n -> St i s -> (∀ y ∈ rs, (TK prog w).is s.heap y.1 y.2) -> Holds prog w s.heap S (rs.take i) ->
     (∀s',Moved (S::wr) G s s'->Holds prog w s'.heap S rs->R (.ok (.ret .none)) s')->
     L0 (A6 prog w) A (.builtin "set.update.loop" ⟨[.ref S,.ref I],[]⟩) R s:=by
 have nw:S∉wr:=λh=>nf (Wk.sub _ h);have sub:∀b∈wr,b∈S::wr:=λb hb=>B4 _ hb;intro k
 induction k with
 | zero =>
  intro i s hk hi st jf so fin;have ei:i=n:=by omega
  subst ei;refine Aq F.entry_set_update_loop ?_;rw[Do EX _];refine A2 (m:=pyNext (.ref I)) (Wk.done s _ _ st λs' mv=>?_);refine A8 (fin s' (mv.mono sub) ?_);rw[CP (by omega)] at so;exact so.at' (λo e=>mv.heap S _ nw e) λx hx o e=>mv.heap _ _ (ap x hx).1 e
 | succ k ih =>
  intro i s hk hi st jf so fin;have lt:i<n:=by omega
  refine Aq F.entry_set_update_loop ?_;rw[Do EX _];refine A2 (m:=pyNext (.ref I)) (Wk.item i s _ _ lt st λv s' pv' st' mv=>?_);obtain⟨y,hy,rfl⟩:=hv i v pv';have my:y∈rs:=J5 hy;have its':∀y∈rs,(TK prog w).is s'.heap y.1 y.2:=λy hy=>FK (jf y hy) λo e=>mv.heap _ _ (ap y hy).1 e;have so':Holds prog w s'.heap S (rs.take i):=so.at' (λo e=>mv.heap S _ nw e) λx hx o e=>mv.heap _ _ (ap x (Ep hx)).1 e;refine A2 (m:=U7 [.ref y.2] (setAdd S (.ref y.2))) (N4 ?_);unfold setAdd;refine N4 (A2 ((TK prog w).pyHash hu (its' y my) ?_));obtain⟨o,es,ep,t,xs,S1,S2,S3⟩:=so'
  have l63:xs.length+1<=63:=by
   have:=Holds.len S1 S2;rw[M6] at this;omega
  have next:∀h',l6 S s'.heap h'->Holds prog w h' S (rs.take (i+1))->L0 (A6 prog w) A (.builtin "set.update.loop" ⟨[.ref S,.ref I],[]⟩) R { s' with heap:=h',toks:=s'.toks+(TK prog w).draws y.1 }:=λh' sb so3=>by
   refine ih (i+1) _ (by omega) lt (Wk.frame _ s' _ _ st' (Nat.le_add_right _ _) λb hb o e=>?_) (λz hz=>FK (its' z hz) λo e=>?_) so3 λs2 mv2 so4=>?_
   ·rw[sb.2 b (λz:b=S=>nf (by grind))];exact e
   ·rw[sb.2 z.2 (ap z hz).2];exact e
   ·refine fin s2 (Moved.trans Wk.gtrans ((mv.mono sub).then_heap (Nat.le_add_right _ _) λb o hb e=>?_) mv2) so4;rw[sb.2 b (λz:b=S=>hb (by grind))];exact e
  refine add (s:={ s' with toks:=s'.toks+(TK prog w).draws y.1 }) hu S1 (its' y my) l63 (λhin=>?_) λhin h' o' es' ep' t' xs' sb S1' pm=>?_
  ·exact A8 ⟨BF EX _,next s'.heap (Heap.SameBut.refl _ _) (RP hy S1 S2 S3 hin)⟩
  ·refine A8 ⟨BF EX _,next h' sb ⟨o',es',ep',t',xs',S1',λx hx=>?_,λx hx=>?_⟩⟩
   ·rw[Aw,hy];rcases C9.mp (pm.mem_iff.mp hx) with rfl|z
    ·grind
    ·grind
   ·rw[Aw,hy] at hx;rw[(pm.map (·.1)).mem_iff,J8];rcases K6.mp hx with z|z
    ·grind
    ·grind
end
section
variable {prog:C3}{w:B8}{A:C8}{E:A1->A4->Prop}{s:A4}
theorem RR (h:B1)(S:A0)(led:Bool)(hl:led=!(w.params.followText "set-order"))(e:h.get? S=some { cls:=.type "set",dict:=none,data:=.set #[] 0 (.fresh 0 0 led) }):Holds prog w h S []:=by
 refine⟨_,#[],0,.fresh 0 0 led,[],⟨e,⟨rfl,rfl,rfl⟩,rfl,rfl,(λ_ z=>nomatch z),by simp,⟨rfl,rfl,.inl rfl,by unfold Rise;exact GK,(λ_ z=>nomatch z),(show 0<7 by decide),λi s h e=>?_⟩,(show 5*0<3*7 by decide),hl⟩,(λ_ z=>nomatch z),λ_ z=>nomatch z⟩
 grind
theorem LZ (hd:A.handled=none)(hu:A.units+64<cLine)(ht:s.heap.IsList a jf\/s.heap.IsTuple a jf)(hv:jf.toList=rs.map λy=>L4 y.2)(hk:∀y∈rs,(TK prog w).is s.heap y.1 y.2)(room:rs.length<=63)
   (fin:∀(h':B1) (tk:Nat),Holds prog w h' s.heap.objs.size rs->
     (∀b o,b<s.heap.objs.size->s.heap.get? b=some o->h'.get? b=some o)->Q (.ref s.heap.objs.size) { s with heap:=h',toks:=tk }):A5 (A6 prog w) A (call (.type "set") [.ref a]) Q E s:=by
 have sz:rs.length=jf.size:=by rw[<- M8,hv,A9]
 have lo:∀y∈rs,y.2<s.heap.objs.size:=λy hy=>by
  obtain⟨ob,items,n,e,_⟩:=hk y hy;exact B9 e
 refine Qv hd ht (λI St fp G s1 R led hl lI Wk nf h0 g1 kp k=>?_) fin;refine RQ Wk _ nf rs sz (λi v e=>?_) (λy hy=>⟨λz=>?_,D6 (lo y hy)⟩) (by grind) (by omega) (jf.size-0) 0 s1 rfl (D5 _) h0 (λy hy=>FK (hk y hy) λo e=>kp _ _ e) (RR _ _ led hl g1) k
 ·rw[<- U1,hv,C6] at e;cases er:rs[i]? with
  |none=>rw[er] at e;cases e
  |some y=>rw[er] at e;cases e;exact⟨y,rfl,rfl⟩
 grind
end
theorem i7:Slot "set_iterator" "__next__" "set_iterator.__next__":=.of (owner:="set_iterator") (n:="__next__")
 (by rw[typeLookup_type,builtinLookup_eq_fast];kernel_rfl)
 (by decide +kernel)
 (by decide +kernel)
 (by decide +kernel)
 (by first|exact .inl (by decide +kernel)|exact .inr (by grind))
 (by rw[AT];kernel_rfl)
theorem L_:Slot "set_iterator" "__iter__" "set_iterator.__iter__":=.of (owner:="set_iterator") (n:="__iter__")
 (by rw[typeLookup_type,builtinLookup_eq_fast];kernel_rfl)
 (by decide +kernel)
 (by decide +kernel)
 (by decide +kernel)
 (by first|exact .inl (by decide +kernel)|exact .inr (by grind))
 (by rw[AT];kernel_rfl)
theorem FL:entryFor table "set_iterator.__next__"=some L8.«set_iterator.__next__»:=entryFor_of_tree (by kernel_rfl)
theorem RS:entryFor table "set_iterator.__iter__"=some L8.«dict_keyiterator.__iter__»:=
 entryFor_alias (id':="dict_keyiterator.__iter__") (by kernel_rfl) rfl (by decide +kernel) (by kernel_rfl)
theorem RT:entryFor table "set.__iter__"=some L8.«frozenset.__iter__»:=
 entryFor_alias (id':="frozenset.__iter__") (by kernel_rfl) rfl (by decide +kernel) (by kernel_rfl)
theorem ow_it:Manifest.owners.lookup (String.ofList (['r','o','t','a','r','e','t','i','_','t','e','s']).reverse)=some Manifest.sig_set_iterator:=by kernel_rfl
theorem FN (x:A1):argsOk "set_iterator.__next__" ⟨[x],[]⟩:=rfl
theorem RU (x:A1):argsOk "set_iterator.__iter__" ⟨[x],[]⟩:=rfl
theorem HW {α:Type}:∀(l:List α) (i:Nat) (x:α),l[i]?=some x->(x::l.eraseIdx i).Perm l
 |[],i,x,e=>by simp at e
 | y :: l, 0, x, e => by
  have:y=x:=by simpa using e
  rw[this];exact .refl _
 | y :: l, i + 1, x, e => by
  have h:=HW l i x (by simpa using e);show(x::y::l.eraseIdx i).Perm (y::l);exact(List.Perm.swap y x _).trans (h.cons y)
theorem Ma {α:Type}(next:Nat->Nat):∀(fuel k:Nat) (left:List α) (out:Array α),fuel=left.length->(pickOrder.go next fuel k left out).toList.Perm (out.toList++left)
 | 0, k, left, out, h => by
  have:left=[]:=w8 h.symm;subst this;unfold pickOrder.go;rw[T6]
 | fuel + 1, k, left, out, h => by
  have lt:next k%left.length<left.length:=BT _ (by omega)
  have e:left[next k%left.length]?=some left[next k%left.length]:=C4 lt;unfold pickOrder.go;rw[e];dsimp only;have le:(left.eraseIdx (next k%left.length)).length=fuel:=by rw[List.length_eraseIdx_of_lt lt];omega
  refine(Ma next fuel (k+1) _ _ le.symm).trans ?_;rw[Array.toList_push,Z9];exact List.Perm.append_left _ (HW _ _ _ e)
theorem RV {α:Type}(next:Nat->Nat)(xs:Array α):(pickOrder next xs).toList.Perm xs.toList:=by
 have:=Ma next xs.size 0 xs.toList #[] (by simp)
 exact this
section
variable {prog:C3}{w:B8}{A:C8}{E:A1->A4->Prop}{s:A4}
theorem chosen (hn:0<n)(h:∀i d,i<n->Q i { s with drawn:=d }):A5 (A6 prog w) A (choose src n) Q E s:=by
 intro Γ p _;unfold choose;rw[Sem.wp];refine⟨by omega,?_⟩;rw[Sem.wp];exact h _ _ (BT _ hn)
theorem Mb {α:Type}:∀(n:Nat) (xs:List α) (s:A4) (Q:List α->A4->Prop),n=xs.length->(∀ys d,ys.Perm xs->Q ys { s with drawn:=d })->A5 (A6 prog w) A (drawOrder n xs) Q E s
 | 0, xs, s, Q, hn, h => by
  have:xs=[]:=w8 hn.symm;subst this;exact A8 (h [] s.drawn (.refl _))
 |n+1,[],s,Q,hn,h=>by simp at hn
 | n + 1, x :: xs, s, Q, hn, h => by
  unfold drawOrder;refine A2 (chosen (by simp) λi d hi=>?_);have e:(x::xs)[i]?=some (x::xs)[i]:=C4 hi;rw[e];dsimp only;have le:((x::xs).eraseIdx i).length=n:=by rw[List.length_eraseIdx_of_lt hi];omega
  refine A2 (Mb n _ _ _ le.symm λys d2 hp=>A8 ?_);exact h _ d2 ((hp.cons _).trans (HW _ _ _ e))
def O4 (h:B1)(I a:A0)(fst:A1)(i n ep:Nat):Prop:=∃o,h.get? I=some o/\o.cls=.type "set_iterator"/\o.data=.fields #[fst,.int i 0,.ref a,.int n 0,.int ep 0]
theorem O4.ty (x:O4 s.heap I a fst i n ep):s.TypeIs (.ref I) "set_iterator":=by
 obtain⟨o,ho,hc,_⟩:=x;exact⟨o,ho,hc⟩
theorem O4.at' (x:O4 h I a fst i n ep)(e:∀o,h.get? I=some o->h'.get? I=some o):O4 h' I a fst i n ep:=by grind [O4]
theorem O4.put (x:O4 h I a fst i n ep)(k:Nat)(v:A1):∃o,(h.update I (Obj.mapFields (·.setIfInBounds k v))).get? I=some o/\o.cls=.type "set_iterator"/\o.data=.fields (#[fst,.int i 0,.ref a,.int n 0,.int ep 0].setIfInBounds k v):=by
 obtain⟨o,ho,hc,hd⟩:=x;exact⟨_,BO _ ho (Obj.isFreed_of_fields (EN hd _)),(Obj.cls_mapFields ..).trans hc,EN hd _⟩
theorem Mc (x:O4 s.heap I a fst i n ep)(h:Q (.ref I) s):A5 (A6 prog w) A (pyIter (.ref I)) Q E s:=by
 refine wpAny_pyIter_slot x.ty L_ (N3 L_ x.ty RS (show A5 (A6 prog w) _ (ret (.ref I)) _ _ s from ?_) (RU _));exact A8 ⟨_,rfl,"set_iterator",_,x.ty,i7.lookup,h⟩
theorem Md {Q:Option A1->A4->Prop}(hh:A.handled=none)(h:∀h',(∀b o,h1.get? b=some o->h'.get? b=some o)->Q none { s with heap:=h' }) :
   A5 (A6 prog w) A.in1 ((newExc (.type "StopIteration") []>>=λx=>raiseNew x:Sem PySem.Fin)) Q0 (λe s'=>A5 (A6 prog w) A (do if ← isInstance e (.type "StopIteration") then pure none else throw e) Q E s') { s with heap:=h1 }:=by
 refine A2 ?_;simp only[newExc,newTuple];refine A2 (N1 ?_ (by size_fits));refine A2 (m:=firstArgMember _ _) (AZ (a:=Y3) (by first|rfl|(simp only[firstArgMember];rfl)) ?_);refine N1 ?_ (by size_fits);simp only[raiseNew];refine A2 (wpAny_handled ?_);rw[show A.in1.handled=none from hh];refine A2 (A8 (wpAny_throw ?_));refine A2 (Ei (T:="StopIteration") (b:=true) ⟨_,E4 _ rfl,rfl⟩ isSubtype_stop ?_);exact A8 (h _ λb o e=>B6 _ (B6 _ e))
end
section
variable {prog:C3}{w:B8}{A:C8}{E:A1->A4->Prop}{s:A4}{I a:A0}{n i ep:Nat}{o:Obj}{es:Array (Int×A1)}{t:N5}
theorem RW {slot nx:Nat}(hit:O4 s.heap I a (.int slot 0) i n ep)(ho:s.heap.get? a=some o)(hd:o.data=.set es ep t)(hf:t.fits es.size=true)(hn:es.size=n)
   (hs:∀(A:C8) (E:A1->A4->Prop) (Q':Option (A1×Nat)->A4->Prop),Q' (some (x,nx)) s->A5 (A6 prog w) A (setNext a slot i ep) Q' E s)
   (hQ:∀h',O4 h' I a (.int nx 0) (i+1) n ep->l6 I s.heap h'->Q (some x) { s with heap:=h' }):A5 (A6 prog w) A (pyNext (.ref I)) Q E s:=by
 obtain⟨oi,hoi,hci,hdi⟩:=id hit;unfold pyNext;refine A2 (As (X0 (name:=B0 "__next__") hit.ty i7 (N3 i7 hit.ty FL ?_ (FN _))));unfold L8.«set_iterator.__next__»;refine A2 (A8 ?_);refine A2 (wpAny_fieldsOf hoi hdi ?_);dsimp only;refine A2 (CM ho hd hf ?_);rw[ju (by grind)];refine A2 (hs _ _ _ ?_);dsimp only;refine A2 (Ar hoi hdi (by simp) ?_);obtain⟨o1,e1,c1,d1⟩:=hit.put 0 (rawInt nx);have h1:O4 (s.heap.update I (Obj.mapFields (·.setIfInBounds 0 (rawInt nx)))) I a (.int nx 0) i n ep:=⟨o1,e1,c1,by rw[d1];simp[rawInt]⟩;refine A2 (Ar (s:={ s with heap:=s.heap.update I (Obj.mapFields (·.setIfInBounds 0 (rawInt nx))) }) e1 d1 (by simp) ?_);obtain⟨o2,e2,c2,d2⟩:=h1.put 1 (rawInt (i+1));refine A8 ⟨_,rfl,A8 (hQ _ ⟨o2,e2,c2,by rw[d2];simp[rawInt]⟩ ?_)⟩;exact(U2 s.heap I _).trans (U2 _ I _)
theorem RX {slot:Nat}(hh:A.handled=none)(hit:O4 s.heap I a (.int slot 0) i n ep)(ho:s.heap.get? a=some o)(hd:o.data=.set es ep t)(hf:t.fits es.size=true)(hn:es.size=n)
   (hs:∀(A:C8) (E:A1->A4->Prop) (Q':Option (A1×Nat)->A4->Prop),Q' none s->A5 (A6 prog w) A (setNext a slot i ep) Q' E s)
   (hQ:∀h',(∀b o,b≠I->s.heap.get? b=some o->h'.get? b=some o)->Q none { s with heap:=h' }):A5 (A6 prog w) A (pyNext (.ref I)) Q E s:=by
 obtain⟨oi,hoi,hci,hdi⟩:=id hit;unfold pyNext;refine A2 (As (X0 (name:=B0 "__next__") hit.ty i7 (N3 i7 hit.ty FL ?_ (FN _))));unfold L8.«set_iterator.__next__»;refine A2 (A8 ?_);refine A2 (wpAny_fieldsOf hoi hdi ?_);dsimp only;refine A2 (CM ho hd hf ?_);rw[ju (by grind)];refine A2 (hs _ _ _ ?_);dsimp only;refine A2 (Ar hoi hdi (by simp) ?_);exact Md hh λh' k=>hQ h' λb o hb e=>k b o (((U2 s.heap I _).2 b hb).trans e)
end
section
variable {prog:C3}{w:B8}{A:C8}{E:A1->A4->Prop}{s:A4}{I a tp:A0}{n i ep:Nat}{o:Obj}{es:Array (Int×A1)}{t:N5}{ps:Array A1}
theorem RY {p:Nat}(hit:O4 s.heap I a (.ref tp) i n ep)(ht:s.heap.IsTuple tp ps)(ho:s.heap.get? a=some o)(hd:o.data=.set es ep t)(hf:t.fits es.size=true)(hn:es.size=n)
   (hp:ps[i]?=some (.int p 0)) (he:es[p]?=some (hx,x))
   (hQ:∀h',O4 h' I a (.ref tp) (i+1) n ep->l6 I s.heap h'->Q (some x) { s with heap:=h' }):A5 (A6 prog w) A (pyNext (.ref I)) Q E s:=by
 obtain⟨oi,hoi,hci,hdi⟩:=id hit;obtain⟨ot,hot,hct,nt,hdt⟩:=ht;unfold pyNext;refine A2 (As (X0 (name:=B0 "__next__") hit.ty i7 (N3 i7 hit.ty FL ?_ (FN _))));unfold L8.«set_iterator.__next__»;refine A2 (A8 ?_);refine A2 (wpAny_fieldsOf hoi hdi ?_);dsimp only;refine A2 (CM ho hd hf ?_);rw[ju (by grind)];refine A2 (X5 hot hdt ?_);dsimp only;rw[show((i:Int).toNat)=i from rfl,hp];dsimp only;refine A2 (m:=setNextDrawn a _ _) (A2 (X4 ho hd hf ?_));dsimp only;rw[ju (by simp)];rw[show((p:Int).toNat)=p from rfl,he];dsimp only;refine A8 ?_;refine A2 (Ar hoi hdi (by simp) ?_);obtain⟨o2,e2,c2,d2⟩:=hit.put 1 (rawInt (i+1));refine A8 ⟨_,rfl,A8 (hQ _ ⟨o2,e2,c2,by rw[d2];simp[rawInt]⟩ ?_)⟩;exact U2 s.heap I _
theorem RZ (hh:A.handled=none)(hit:O4 s.heap I a (.ref tp) i n ep)(ht:s.heap.IsTuple tp ps)(ho:s.heap.get? a=some o)(hd:o.data=.set es ep t)(hf:t.fits es.size=true)(hn:es.size=n)
   (hp:ps[i]?=none)
   (hQ:∀h',(∀b o,b≠I->s.heap.get? b=some o->h'.get? b=some o)->Q none { s with heap:=h' }):A5 (A6 prog w) A (pyNext (.ref I)) Q E s:=by
 obtain⟨oi,hoi,hci,hdi⟩:=id hit;obtain⟨ot,hot,hct,nt,hdt⟩:=ht;unfold pyNext;refine A2 (As (X0 (name:=B0 "__next__") hit.ty i7 (N3 i7 hit.ty FL ?_ (FN _))));unfold L8.«set_iterator.__next__»;refine A2 (A8 ?_);refine A2 (wpAny_fieldsOf hoi hdi ?_);dsimp only;refine A2 (CM ho hd hf ?_);rw[ju (by grind)];refine A2 (X5 hot hdt ?_);dsimp only;rw[show((i:Int).toNat)=i from rfl,hp];dsimp only;refine A2 (Ar hoi hdi (by simp) ?_);obtain⟨o2,e2,c2,d2⟩:=hit.put 0 (rawInt 0);refine A2 (Ar (s:={ s with heap:=s.heap.update I (Obj.mapFields (·.setIfInBounds 0 (rawInt 0))) }) e2 d2 (by simp) ?_);exact Md hh λh' k=>hQ h' λb o hb e=>k b o (((U2 _ I _).2 b hb).trans (((U2 s.heap I _).2 b hb).trans e))
theorem R_ (hh:A.handled=none){ys:List A1}{sl:Nat->Nat}(hn:es.size=ys.length)(ne:a≠I)(hd:o.data=.set es ep t)(hf:t.fits es.size=true)
   (hs:∀(i:Nat) (s:A4) (A:C8) (E:A1->A4->Prop) (Q':Option (A1×Nat)->A4->Prop),s.heap.get? a=some o->i<=ys.length->Q' (ys[i]?.map λx=>(x,sl (i+1))) s->A5 (A6 prog w) A (setNext a (sl i) i ep) Q' E s) :
   Walks prog w A I [I,a] [I] ys.length (λi v=>ys[i]?=some v) (λi h=>O4 h I a (.int (sl i) 0) i ys.length ep/\h.get? a=some o) where
 sub:=λb hb=>by rw[J6.mp hb];exact B2
 frame:=λ_ _ _ st hk=>⟨st.1.at' λo e=>hk I B2 o e,hk a (B4 _ (J6.mpr rfl)) o st.2⟩
 item:=λi s Q E hi st hQ=>by
  have e:ys[i]?=some ys[i]:=C4 hi;refine RW st.1 st.2 hd hf hn (x:=ys[i]) (nx:=sl (i+1)) (λA E Q' q=>hs i s A E Q' st.2 (y4 hi) (by rw[e];exact q)) λh' hit' sb=>?_;exact hQ _ h' s.toks e ⟨hit',(sb.2 a ne).trans st.2⟩ λb o hb e=>(sb.2 b (λz=>hb (J6.mpr z))).trans e
 done:=λs Q E st hQ=>RX hh st.1 st.2 hd hf hn (λA E Q' q=>hs _ s A E Q' st.2 (B3 _) (by rw[O6 (B3 _)];exact q)) λh' k=>hQ h' s.toks λb o hb e=>k b o (λz=>hb (J6.mpr z)) e
 self:=λ_ _ _ _ st hQ=>Mc st.1 hQ
theorem Sa (hh:A.handled=none){pl:List Nat}(hn:es.size=pl.length)(ne:a≠I)(nt:tp≠I)(hd:o.data=.set es ep t)(hf:t.fits es.size=true)(hps:ps=(pl.map λ(i:Nat)=>rawInt i).toArray)(hpl:∀p∈pl,p<es.size) :
   Walks prog w A I [I,a,tp] [I] pl.length (λi v=>∃p x,pl[i]?=some p/\es[p]?=some x/\v=x.2) (λi h=>O4 h I a (.ref tp) i pl.length ep/\h.get? a=some o/\h.IsTuple tp ps) where
 sub:=λb hb=>by rw[J6.mp hb];exact B2
 frame:=λ_ _ _ st hk=>⟨st.1.at' λo e=>hk I B2 o e,hk a (by simp) o st.2.1,st.2.2.at λo e=>hk tp (by simp) o e⟩
 item:=λi s Q E hi st hQ=>by
  have e:pl[i]?=some pl[i]:=C4 hi;have lt:=hpl _ (J5 e);have ep':ps[i]?=some (.int (pl[i]:Nat) 0):=by rw[hps,Gw,C6,e];rfl
  have ex:es[pl[i]]?=some es[pl[i]]:=o5 lt;refine RY st.1 st.2.2 st.2.1 hd hf hn ep' (hx:=es[pl[i]].1) (x:=es[pl[i]].2) ex λh' hit' sb=>?_;exact hQ _ h' s.toks ⟨_,_,e,ex,rfl⟩ ⟨hit',(sb.2 a ne).trans st.2.1,st.2.2.at λo e=>(sb.2 tp nt).trans e⟩ λb o hb e=>(sb.2 b (λz=>hb (J6.mpr z))).trans e
 done:=λs Q E st hQ=>RZ hh st.1 st.2.2 st.2.1 hd hf hn (by grind) λh' k=>hQ h' s.toks λb o hb e=>k b o (λz=>hb (J6.mpr z)) e
 self:=λ_ _ _ _ st hQ=>Mc st.1 hQ
end
def AM (pl:Array Nat):Nat->Nat
 |0=>0
 |i+1=>pl.getD i 0+1
theorem Sc {pl:Array Nat}(hr:Rise pl.toList):∀{i:Nat},i<=pl.size->SetTable.below pl (AM pl i)=i
 | 0, _ => by
  obtain⟨h1,h2,h3⟩:=DX pl (AM pl 0) hr;refine Nat.eq_zero_of_not_pos λc=>?_;have lt:0<pl.size:=by omega
  have:=h2 0 pl[0] c (o5 lt);exact BR _ this
 | i + 1, hi => by
  have lt:i<pl.size:=hi;have e:AM pl (i+1)=pl[i]+1:=by show pl.getD i 0+1=_;rw[Ay,o5 lt];rfl
  obtain⟨h1,h2,h3⟩:=DX pl (AM pl (i+1)) hr;rw[e] at h1 h2 h3 ⊢
  have a1:¬SetTable.below pl (pl[i]+1)<=i:=λc=>by
   have:=h3 i pl[i] c (o5 lt);omega
  have a2:¬i+1<SetTable.below pl (pl[i]+1):=λc=>by
   have l2:i+1<pl.size:=by omega
   have:=h2 (i+1) pl[i+1] c (o5 l2);have l2':i+1<pl.toList.length:=by simpa using l2
   have:=Z8.mp hr i (i+1) (by omega) l2' (by omega);simp only[Array.getElem_toList] at this;omega
  omega
theorem Sd {α β:Type}{f:α->β}:∀{ys:List β} {xs:List α},ys.Perm (xs.map f)->∃zs:List α,zs.Perm xs/\ys=zs.map f:=by
 intro ys xs h;generalize e:xs.map f=l at h
 induction h generalizing xs with
 | nil =>
  have:xs=[]:=by simpa using e
  subst this;exact⟨[],.refl _,rfl⟩
 | @cons b l1 l2 h1 ih =>
  match xs,e with
  | x :: xs, e =>
   rw[J8] at e;injection e with ea eb;obtain⟨zs,z1,z2⟩:=ih eb;exact⟨x::zs,z1.cons x,by rw[z2,J8,ea]⟩
 | swap a b l =>
  match xs,e with
  | x :: y :: xs, e =>
   rw[J8,J8] at e;injection e with ea eb;injection eb with ec ed;exact⟨y::x::xs,List.Perm.swap x y xs,by rw[J8,J8,ea,ec,ed]⟩
 | trans h1 h2 ih1 ih2 =>
  obtain⟨zs,z1,z2⟩:=ih2 e;obtain⟨us,u1,u2⟩:=ih1 z2.symm;exact⟨us,u1.trans z1,u2⟩
def dr (es:Array (Int×A1))(t:N5):Bool:=!t.plain&&decide (es.size>1)
structure SetV (w:B8)(h:B1)(a:A0)(o:Obj)(es:Array (Int×A1))(ep:Nat)(t:N5):Prop where
 ho:h.get? a=some o
 ex:o.ExactSet
 hd:o.data=.set es ep t
 fits:t.fits es.size=true
 few:es.size<=127
 led:t.led=!(w.params.followText "set-order")
 rise:dr es t=false->Rise t.place.toList
abbrev vls (es:Array (Int×A1)):List A1:=es.toList.map (·.2)
section
variable {prog:C3}{w:B8}{A:C8}{E:A1->A4->Prop}{s:A4}{a:A0}{ep:Nat}{o:Obj}{es:Array (Int×A1)}{t:N5}
theorem SetK.toV (S:SetK prog w h a o es ep t xs):SetV w h a o es ep t:=⟨S.ho,S.ex,S.hd,S.fits,by
 have:=S.few;rw[S.sz]
 rcases S.tb.mask with z|z|z <;> rw[z] at this <;> omega,S.led,λ_=>S.tb.rise⟩
theorem FO (h:Q (w.params.followText "set-order") s):A5 (A6 prog w) A setsByText Q E s:=A2 (Eh (A8 h))
theorem Se (S:SetV w h0 a o es ep t)(ho:s.heap.get? a=some o)(hb:w.params.followText "set-order"=false)(hd:dr es t=false)(hi:i<=es.size)
   (h:Q ((vls es)[i]?.map λx=>(x,AM t.place (i+1))) s):A5 (A6 prog w) A (setNext a (AM t.place i) i ep) Q E s:=by
 have sp:t.place.size=es.size:=by
  have:=S.fits;unfold SetTable.fits at this;simp only[b9,beq_iff_eq] at this;exact this.1
 unfold setNext;refine A2 (X4 ho S.hd S.fits ?_);dsimp only;refine A2 (FO ?_);rw[hb];simp only[F2,↓reduceIte];have e1:(!t.plain&&decide (es.size>1))=false:=hd;show A5 _ _ (if(!t.plain&&decide (es.size>1))=true then _ else _) _ _ _;rw[e1];simp only[F2,↓reduceIte];have el:t.led=true:=by rw[S.led,hb];rfl
 refine A2 (show A5 _ _ (if(!t.led&&!es.isEmpty)=true then _ else _) _ _ _ from ?_);rw[el];simp only[R0,O8,F2,↓reduceIte];refine A8 ?_;rw[Sc (S.rise hd) (by omega)];refine A8 ?_;rw[C6,U1] at h;cases ex:es[i]? with
 |none=>rw[ex] at h;exact h
 | some y =>
  rw[ex] at h;have lt:i<t.place.size:=by rw[sp];exact(Array.getElem?_eq_some_iff.mp ex).1
  rw[o5 lt];have:AM t.place (i+1)=t.place[i]+1:=by show t.place.getD i 0+1=_;rw[Ay,o5 lt];rfl
  rw[this] at h;exact h
theorem Sf (S:SetV w h0 a o es ep t)(ho:s.heap.get? a=some o)(hb:w.params.followText "set-order"=true)
   (h:Q ((vls (pickOrder (w.params.setOrder a ep) es))[i]?.map λx=>(x,0)) s):A5 (A6 prog w) A (setNext a 0 i ep) Q E s:=by
 unfold setNext;refine A2 (X4 ho S.hd S.fits ?_);dsimp only;refine A2 (FO ?_);rw[hb];simp only[↓reduceIte];rw[ju (by simp)];refine A2 (m:=setWalk a) ?_;unfold setWalk;refine A2 (X4 ho S.hd S.fits ?_);dsimp only;refine A2 (FO ?_);rw[hb];simp only[↓reduceIte];refine A2 (Eh (A8 (A8 ?_)));rw[C6,U1,Option.map_map] at h;exact h
theorem Sg (hh:A.handled=none)(S:SetV w s.heap a o es ep t)
   (hQ:∀(h':B1) (d:_) (I:A0) (fp:List A0) (ys:List A1) (P:Nat->A1->Prop) (St:Nat->B1->Prop),(∀b o,s.heap.get? b=some o->h'.get? b=some o)->s.heap.objs.size<=I->I<h'.objs.size->(∀b∈fp,b=a\/s.heap.objs.size<=b)->ys.Perm (vls es)->
     (∀i v,P i v->ys[i]?=some v)->Walks prog w A I fp [I] es.size P St->St 0 h'->Q (.ref I) { s with heap:=h',drawn:=d }):A5 (A6 prog w) A (pyIter (.ref a)) Q E s:=by
 have hT:s.TypeIs (.ref a) "set":=⟨o,S.ho,S.ex.1⟩;have la:a<s.heap.objs.size:=B9 S.ho;refine wpAny_pyIter_slot hT F.slot_set_iter (N3 F.slot_set_iter hT RT ?_ (F.args_set_iter_1 _));unfold L8.«frozenset.__iter__» Builtin.Frozenset.slot0 Builtin.Frozenset.sizeOf;refine A2 (A2 (A8 (A8 ?_)));refine A2 (A2 (CM S.ho S.hd S.fits (A8 ?_)));unfold setDrawn;refine A2 (A2 (X4 S.ho S.hd S.fits ?_));dsimp only;refine A2 (FO (A8 ?_));show A5 _ _ (if(!(w.params.followText "set-order")&&dr es t)=true then _ else _) _ _ _
 by_cases c:(!(w.params.followText "set-order")&&dr es t)=true
 ·rw[jt c];refine A2 (Mb es.size (C7 es.size) _ _ (by simp) λpl d hp=>?_);have lp:pl.length=es.size:=by rw[hp.length_eq,Q8]
  have lt:∀p∈pl,p<es.size:=λp h=>F8.mp (hp.mem_iff.mp h);have few:=S.few;refine A2 (wpAny_newTuple ?_ (by rw[K9,A9];omega));have g1:(s.heap.push { cls:=.type "tuple",data:=.seq (pl.map λ(i:Nat)=>rawInt i).toArray }).get? a=some o:=B6 _ S.ho;refine A2 (m:=setEpoch a) (A2 (X4 (s:={ s with drawn:=d,heap:=s.heap.push { cls:=.type "tuple",data:=.seq (pl.map λ(i:Nat)=>rawInt i).toArray } }) g1 S.hd S.fits (A8 ?_)));refine A2 (N1 (A8 ⟨_,rfl,"set_iterator",_,⟨_,E4 _ rfl,rfl⟩,i7.lookup,?_⟩));have sz1:(s.heap.push { cls:=.type "tuple",data:=.seq (pl.map λ(i:Nat)=>rawInt i).toArray }).objs.size=s.heap.objs.size+1:=T9 ..;refine hQ _ d (s.heap.push { cls:=.type "tuple",data:=.seq (pl.map λ(i:Nat)=>rawInt i).toArray }).objs.size [(s.heap.push { cls:=.type "tuple",data:=.seq (pl.map λ(i:Nat)=>rawInt i).toArray }).objs.size,a,s.heap.objs.size] (pl.map λp=>(vls es).getD p .none) _ _ (λb o e=>B6 _ (B6 _ e)) (by simp) (Nat.lt_of_lt_of_eq (Nat.lt_succ_self _) (T9 ..).symm) (λb hb=>?_) ?_ ?_ (lp▸Sa (es:=es) (o:=o) (t:=t) (ep:=ep) (tp:=s.heap.objs.size) (pl:=pl) hh lp.symm (by grind) (by simp) S.hd S.fits rfl lt) ?_
  ·grind
  ·exact(LY (vls es) pl .none (by grind)).2
  ·grind
  ·refine⟨⟨_,E4 _ rfl,rfl,?_⟩,B6 _ g1,⟨_,B6 _ (E4 _ rfl),rfl,0,rfl⟩⟩;show Dr _=Dr _
   first|rfl|(rw[lp];rfl)
 ·rw[ju c];refine A2 (A8 ?_);refine A2 (m:=setEpoch a) (A2 (X4 S.ho S.hd S.fits (A8 ?_)));refine A2 (N1 (A8 ⟨_,rfl,"set_iterator",_,⟨_,E4 _ rfl,rfl⟩,i7.lookup,?_⟩))
  have go:∀(ys:List A1) (sl:Nat->Nat),sl 0=0->ys.Perm (vls es)->(∀(i:Nat) (s:A4) (A:C8) (E:A1->A4->Prop) (Q':Option (A1×Nat)->A4->Prop),s.heap.get? a=some o->i<=ys.length->Q' (ys[i]?.map λx=>(x,sl (i+1))) s->A5 (A6 prog w) A (setNext a (sl i) i ep) Q' E s)->Q (.ref s.heap.objs.size) { s with heap:=s.heap.push { cls:=.type "set_iterator",data:=.fields #[rawInt 0,rawInt 0,.ref a,rawInt es.size,rawInt ep] } }:=by
   intro ys sl h0 pm hs;have lp:ys.length=es.size:=by rw[pm.length_eq,A9,M8]
   refine hQ _ s.drawn s.heap.objs.size [s.heap.objs.size,a] ys (λi v=>ys[i]?=some v) _ (λb o e=>B6 _ e) (B3 _) (by simp) (λb hb=>?_) pm (λ_ _ e=>e) (lp▸R_ (es:=es) (o:=o) (t:=t) (ep:=ep) (ys:=ys) (sl:=sl) hh lp.symm (D6 la) S.hd S.fits hs) ?_
   ·grind
   ·refine⟨⟨_,E4 _ rfl,rfl,?_⟩,B6 _ S.ho⟩;show Dr _=Dr _;rw[h0]
    rfl
  by_cases cb:w.params.followText "set-order"=true
  ·exact go (vls (pickOrder (w.params.setOrder a ep) es)) (λ_=>0) rfl ((RV (w.params.setOrder a ep) es).map _) λi s' A E Q' e hi q=>Sf S e cb q
  ·have cb':w.params.followText "set-order"=false:=by simpa using cb
   have cd:dr es t=false:=by
    rw[cb'] at c
    simpa using c
   exact go (vls es) (AM t.place) rfl (.refl _) λi s' A E Q' e hi q=>Se S e cb' cd (by grind) q
end
end SeT
end
section
namespace SeT
open PySem PySem.W PySem.Spec PyProof.Rows L2
section
variable {prog:C3}{w:B8}{A:C8}{E:A1->A4->Prop}{s:A4}{a:A0}{ep:Nat}{o:Obj}{es:Array (Int×A1)}{t:N5}
theorem Sh (hT:s.TypeIs (.ref r) "set")(h:Q false s):A5 (A6 prog w) A (Jp (.ref r)) Q E s:=by
 unfold Jp;refine A2 (wpAny_specialOf hT PySem.F.slot_set_len.lookup ?_);generalize hid:("set.__len__":String)=id0
 wp_delta
 rw[show splitId id0=some ("set","__len__") from by subst hid;decide +kernel];subst hid;refine A2 (Ei (T:="set") (b:=true) hT (by rw[AT];kernel_rfl) ?_);refine wpAny_ite_split (λz=>absurd z (by decide)) λ_=>?_;refine wpAny_ite_split (λ_=>A2 (w6 hT (A8 h))) λz=>absurd (by decide +kernel) z
theorem Si (S:SetV w s.heap a o es ep t)(hh:A.handled=none)(L:A0)(ne:L≠a)(res:A1)(c₀:Nat)(hL:s.heap.get? L=some { cls:=.type "list",data:=.seq #[] c₀ })
   (hR:∀h' d tk c' (ys:List A1),(∀b o,b≠L->s.heap.get? b=some o->h'.get? b=some o)->h'.get? L=some { cls:=.type "list",dict:=none,data:=.seq ys.toArray c',slots:=#[] }->ys.Perm (vls es)->R (.ok (.ret res)) { s with heap:=h',drawn:=d,toks:=tk }) :
   A5 (A6 prog w) A.in1 (ER (.ref L) (.ref a) res)
     (λfin s'=>match fin with|.done f=>R (.ok f) s'|.again c'=>c'.quiet=true/\L0 (A6 prog w) A c' R s') (λe s'=>R (.error e) s') s:=by
 have hT:s.TypeIs (.ref a) "set":=⟨o,S.ho,S.ex.1⟩;have lL:L<s.heap.objs.size:=B9 hL
 have few:es.size<=B7:=by
  have:=S.few;rw[K9];omega
 unfold ER;refine A2 (w6 (T:="set") hT ?_);have h1:Builtin.List.listSameRef (.ref L) (.ref a)=false:=by simp[Builtin.List.listSameRef,ne]
 have h2:(F9 "set" == F9 "list")=false:=by decide
 have h3:(F9 "set" == F9 "tuple")=false:=by decide
 simp only[h1,h2,h3,V3,F2,if_false];refine A2 (Sg (A:=A.in1) hh S λh1 d I fp ys P St k1 hI hI2 hfp pm hP W st=>?_);have nI:L≠I:=D6 (G0 lL hI);have nf:L∉fp:=λz=>(hfp L z).elim ne λz=>absurd lL (Nat.not_lt.mpr z);have hL1:=k1 _ _ hL
 have key:∀(h:B1) (c₁ tk:Nat),St 0 h->(∀b o,b≠L->s.heap.get? b=some o->h.get? b=some o)->
     h.get? L=some { cls:=.type "list",data:=.seq #[] c₁ }->L0 (A6 prog w) A (.builtin "list.extend.loop" ⟨[.ref L,.ref I,res],[]⟩) R { s with heap:=h,drawn:=d,toks:=tk }:=by
   intro h c₁ tk hst hk hS₁;refine codeAny_extend_loopS W.toS few L nf res es.size 0 _ #[] c₁ rfl (D5 _) hst hS₁ (ItemsOf.nil _) λs' acc' c' hm hS' hacc=>?_;rw[Moved.eq_with hm]
   have ea:acc'=ys.toArray:=by
    apply EI.mp
    rw[GA]
    apply Ew
    intro i;rw[U1];cases e:acc'[i]? with
    | none =>
     symm
     rw[List.getElem?_eq_none_iff,pm.length_eq,A9,M8];have:=Array.getElem?_eq_none_iff.mp e;rw[hacc.1] at this;exact this
    |some v=>exact(hP i v (hacc.2 i v e)).symm
   refine hR s'.heap d s'.toks c' ys (λb o hb e=>hm.heap b o (λhmem=>?_) (hk b o hb e)) (by grind) pm;rcases C9.mp hmem with e'|hmem
   ·grind
   ·exact absurd (B9 e) (by grind)
 refine A2 (N4 (Sh (s:={ s with heap:=h1,drawn:=d }) ⟨o,k1 _ _ S.ho,S.ex.1⟩ ?_));refine wpAny_ite_split (λ_=>?_) (λ_=>A8 ⟨BF PySem.F.plain_extend_loop _,key _ c₀ _ st (λb o _ e=>k1 b o e) hL1⟩);refine A2 (j9 ?_);refine A2 (show A5 (A6 prog w) _ (updateSeq L (·.push .none)>>=λ_=>updateSeq L (·.pop)) _ _ _ from ?_);refine A2 (wpAny_updateSeq hL1 rfl ?_);have hS₂:=BO (G9 (·.push Y3)) hL1 rfl;refine wpAny_updateSeq (hz:=by seq_fits) hS₂ rfl ?_;have hS₃:=BO (G9 (·.pop)) hS₂ rfl;refine A8 ⟨BF PySem.F.plain_extend_loop _,key _ _ _ ?_ (λb o hb e=>?_) hS₃⟩
 ·refine W.frame 0 _ _ st λb hb o e=>?_;have hbS:b≠L:=λh=>nf (h▸hb);exact(BN _ _ (Ne.symm hbS)).trans ((BN _ _ (Ne.symm hbS)).trans e)
 ·exact(BN _ _ (Ne.symm hb)).trans ((BN _ _ (Ne.symm hb)).trans (k1 b o e))
theorem Sj (S:SetV w s.heap a o es ep t)(hh:A.handled=none)
   (h:∀(h':B1) (d:_) (tk:Nat) (ys:List A1),(∀b o,s.heap.get? b=some o->h'.get? b=some o)->s.heap.objs.size<=h'.objs.size->ys.Perm (vls es)->R ys { s with heap:=h',drawn:=d,toks:=tk }) :
   A5 (A6 prog w) A (collect (.ref a)) R E s:=by
 unfold collect;refine A2 (wpAny_runValue (Aq entry_proto_collect' ?_));rw[Do PySem.F.plain_proto_collect _];refine(show A5 (A6 prog w) A.in1 (newList []>>=λl=>again (.builtin "list.__iadd__" ⟨[l,.ref a],[]⟩)) _ _ s from ?_);refine A2 (N1 (A8 ⟨BF PySem.F.plain_list_iadd _,Aq entry_list_iadd' ?_⟩));rw[Do PySem.F.plain_list_iadd _];have hS:(s.heap.push { cls:=.type "list",data:=.seq ([]:List A1).toArray }).get? s.heap.objs.size=some { cls:=.type "list",data:=.seq #[] }:=E4 _ rfl;have S1:SetV w (s.heap.push { cls:=.type "list",data:=.seq ([]:List A1).toArray }) a o es ep t:=⟨B6 _ S.ho,S.ex,S.hd,S.fits,S.few,S.led,S.rise⟩
 have key:=Si (prog:=prog) (A:=A) (s:={ s with heap:=s.heap.push { cls:=.type "list",data:=.seq ([]:List A1).toArray } })
   (R:=λ(q:Result) (s':A4)=>∃(h':B1) (d:_) (tk:Nat) (ys:List A1) (c:Nat),q=.ok (.ret (.ref s.heap.objs.size))/\s'={ s with heap:=h',drawn:=d,toks:=tk }/\
     (∀b o,s.heap.get? b=some o->h'.get? b=some o)/\h'.get? s.heap.objs.size=some { cls:=.type "list",dict:=none,data:=.seq ys.toArray c,slots:=#[] }/\ys.Perm (vls es))
   S1 hh s.heap.objs.size (y7 (B9 S.ho)) (.ref s.heap.objs.size) 0 hS
   (λh' d tk c ys hk hS' hp=>⟨h',d,tk,ys,c,rfl,rfl,λb o e=>hk b o (D6 (B9 e)) (B6 _ e),hS',hp⟩)
 refine F7 key (λfin s' x=>?_) λe s' x=>?_
 ·cases fin with
  | done f =>
   obtain⟨h',d,tk,ys,c,e,rfl,hk,hS',hp⟩:=x;cases e;refine A2 (wpAny_load hS' (A8 ?_));have:=h h' d tk ys hk (y4 (B9 hS')) hp
   simpa using this
  | again c₁ =>
   refine⟨x.1,AX x.2 λq s₂ y=>?_⟩;obtain⟨h',d,tk,ys,c,rfl,rfl,hk,hS',hp⟩:=y;refine A2 (wpAny_load hS' (A8 ?_));have:=h h' d tk ys hk (y4 (B9 hS')) hp
   simpa using this
 grind
end
abbrev rfs (ys:List (List Key×A0)):List A1:=ys.map λy=>L4 y.2
abbrev kks (ys:List (List Key×A0)):List (List Key):=ys.map (·.1)
section
variable {prog:C3}{w:B8}{A:C8}{E:A1->A4->Prop}{s:A4}{a:A0}{ep:Nat}{o:Obj}{es:Array (Int×A1)}{t:N5}
theorem Sk {α:Type}{m:Nat}{Q:A1->A4->Prop}(S:SetV w s.heap a o es ep t)(hh:A.handled=none)(xs:List α)(f:α->A1)(g:α->List Key)(ev:vls es=xs.map f)(h64:xs.length<64)(pk:∀x∈xs,Kv1 s.heap m (f x) (g x))(al:AL (xs.map g))
   (h:∀ys h2 d tk D e,List.Perm ys xs->(∀b o,s.heap.get? b=some o->h2.get? b=some o)->s.heap.objs.size<=D->h2.get? D=some (seqObj "list" (Q4 (ltIx (ys.map g)) (ys.map f)).toArray e)->Q (.ref D) { s with heap:=h2,drawn:=d,toks:=tk }) :
   A5 (A6 prog w) A (call (.builtin "sorted") [.ref a]) Q E s:=by
 refine GI kind_sorted plain_sorted entry_sorted (args_sorted1 _) ?_;unfold L8.«sorted»;refine A2 (m:=checkCount "sorted" 1 1 _) (A8 ?_);refine A2 (Sj (A:=A.in1) S hh λh1 d tk vs k1 z1 pv=>?_);rw[ev] at pv;obtain⟨ys,pm,rfl⟩:=Sd pv;have ly:=pm.length_eq;refine A2 (BG ?_ (by rw[K9,A9];omega));have hoL:(h1.push (seqObj "list" (ys.map f).toArray 0)).get? h1.objs.size=some (seqObj "list" (ys.map f).toArray 0):=E4 _ rfl;have kL:∀b o,s.heap.get? b=some o->(h1.push (seqObj "list" (ys.map f).toArray 0)).get? b=some o:=λb o e=>B6 _ (k1 b o e);have ne:∀b o,s.heap.get? b=some o->b≠h1.objs.size:=λb o e=>D6 (G0 (B9 e) z1)
 have pk1:Paired (Kv1 s.heap m) (ys.map f) (ys.map g):=by
  have hy:∀y∈ys,Kv1 s.heap m (f y) (g y):=λy hy=>pk y (pm.mem_iff.mp hy);clear hoL kL pm ly pv
  induction ys with
  |nil=>exact .nil
  |cons y ys ih=>exact .cons (hy y B2) (ih λz hz=>hy z (B4 _ hz))
 have al1:AL (ys.map g):=λx hx y hy=>al x ((pm.map g).mem_iff.mp hx) y ((pm.map g).mem_iff.mp hy);refine A2 (N4 (N3 slot_list_sort ⟨_,hoL,rfl⟩ entry_list_sort ?body (args_list_sort _)))
 case body=>
  refine Lm (lt:=ltIx (ys.map g)) (s:={ s with heap:=h1.push (seqObj "list" (ys.map f).toArray 0),drawn:=d,toks:=tk }) hoL (by grind) (λl2 h3 k3=>?_) λh3 e k3 e3=>?_
  ·exact Lq (s:={ s with drawn:=d }) l2 pk1 al1 _ _ h3 tk λb o x=>k3 b o (ne b o x) (kL b o x)
  ·exact⟨_,rfl,A8 ⟨_,rfl,h ys h3 d tk _ e pm (λb o x=>k3 b o (ne b o x) (kL b o x)) z1 e3⟩⟩
end
theorem Sl (h:us.length<64):(outV (ltIx jp) us).length<=B7:=by
 rw[K9];unfold outV
 split
 ·omega
 ·rw[A9,M8,(Kr.sort_ok (HK jp) (by omega)).2.1];omega
theorem items_are {prog:C3}{w:B8}:∀{ks:List Key} {vs:List A1},AK ks vs->ItemsAre (Y4 prog w) ks vs:=by
 intro ks vs h
 induction h with
 |nil=>exact .nil
 | @cons k v ks vs h1 _ ih =>
  refine .cons ?_ ih
  match k,h1 with
  |.inl i,⟨t,e⟩=>subst e;exact Jr _ _ _ _
  |.inr z,⟨t,e⟩=>subst e;exact Js _ _ _ _
theorem is_of (x:TupK h (.ref r) k):(TK prog w).is h k r:=by
 obtain⟨a,o,items,n,e,ho,hc,hd,hk⟩:=x;cases e;exact⟨o,items,n,ho,hc,hd,items_are hk⟩
section
variable {X:Cx}
def SetO (X:Cx)(p:A0)(rs:List (List Key×A0)):HO:=.ext λh=>∃h0 o es ep t xs,SetK X.prog X.w h0 p o es ep t xs/\h.get? p=some o/\(∀x∈xs,x∈rs)/\∀x∈rs,x.1∈kks xs
theorem Sm {K:A7}(p:Paired (KM K H 2) ys jp):∃rs:List (List Key×A0),kks rs=jp/\(rs.map λy=>V.ref y.2)=ys/\∀y∈rs,SqT K H y.2 (y.1.map kV)/\y.1≠[]:=by
 induction p with
 |nil=>exact⟨[],rfl,rfl,λ_ z=>nomatch z⟩
 | cons h1 _ ih =>
  obtain⟨rs,e1,e2,e3⟩:=ih;obtain⟨a,rfl,hq,hne⟩:=h1;refine⟨(_,a)::rs,by rw[<- e1];rfl,by rw[<- e2];rfl,λy hy=>?_⟩;rcases C9.mp hy with rfl|hy
  ·grind
  ·grind
theorem HX:∀(rs:List (List Key×A0)) {jf:List A1},Vals (rs.map λy=>V.ref y.2) jf->jf=rfs rs
 |[],_,h=>by cases h;rfl
 | y :: rs, _, h => by
  cases h with
  |cons h1 h2=>rw[HX rs h2,show _=L4 y.2 from h1];rfl
theorem Sn (hc:X.calm=true)(hu:X.A.units+64<cLine):K4 X (.type "set") (λvs H Q=>∃a ys jp,vs=[.ref a]/\(SqL X.K H a ys\/SqT X.K H a ys)/\Paired (KM X.K H 2) ys jp/\ys.length<=63/\
   ∀p rs,H p=none->kks rs=jp->(rs.map λy=>V.ref y.2)=ys->(∀y∈rs,SqT X.K H y.2 (y.1.map kV)/\y.1≠[])->Q (.ref p) (upd H p (SetO X p rs))):=by
 intro jb s σ H vs us Q I rv h;obtain⟨a,ys,jp,rfl,hq,hp,hl,q⟩:=h;obtain⟨u,rfl,ru⟩:=rv.one;obtain rfl:u=.ref a:=ru;obtain⟨rs,e1,rfl,e3⟩:=Sm hp;have hk:∀y∈rs,(TK X.prog X.w).is s.heap y.1 y.2:=λy hy=>is_of (HJ I (e3 y hy).1);rw[A9] at hl
 have fin:∀(h':B1) (tk:Nat),Holds X.prog X.w h' s.heap.objs.size rs->(∀b o,b<s.heap.objs.size->s.heap.get? b=some o->h'.get? b=some o)->EP X jb σ Q (.ref s.heap.objs.size) { s with heap:=h',toks:=tk }:=λh' tk so kp=>by
  obtain⟨o,es,ep,t,xs,S1,S2,S3⟩:=so
  have I1:Inv X jb σ (upd H s.heap.objs.size (SetO X s.heap.objs.size rs)) { s with heap:=h',toks:=tk }:=
   I.laid (fun b o e=>kp b o (B9 e) e) (B3 _) ⟨⟨h',o,es,ep,t,xs,S1,S1.ho,S2,S3⟩,⟨o,S1.ho⟩,fun h1 h2 x k2=>by
    obtain⟨h0,o,es,ep,t,xs,S1,g,S2,S3⟩:=x
    exact⟨h0,o,es,ep,t,xs,S1,k2 o g,S2,S3⟩⟩
  exact⟨.ref s.heap.objs.size,_,I1,rfl,q _ rs (I.hok.fresh (B3 _)) e1 rfl e3⟩
 rcases hq with hq|hq
 ·obtain⟨jf,r,pl,_⟩:=I.list hq;refine LZ (rs:=rs) (I.ok.hd hc) hu (.inl pl.isList) ?_ hk hl fin;rw[GA];exact HX rs r
 ·obtain⟨jf,r,ht,_⟩:=I.tuple hq;refine LZ (rs:=rs) (I.ok.hd hc) hu (.inr ht) ?_ hk hl fin;rw[GA];exact HX rs r
theorem inv_dr (I:Inv X jb σ H s)(d:_):Inv X jb σ H { s with drawn:=d }:=⟨I.ok,I.os,I.bare,I.base,I.loc,I.cell,I.free,I.freeC,I.pin,I.hok,I.len⟩
theorem call_sortedS (hc:X.calm=true):K4 X (.builtin "sorted") (λvs H Q=>∃p rs,vs=[.ref p]/\H p=some (SetO X p rs)/\rs.length<64/\(∀y∈rs,SqT X.K H y.2 (y.1.map kV)/\y.1≠[])/\AL (kks rs)/\
   ∀l zs,H l=none->(kks zs).Nodup->(∀z∈zs,z∈rs)->(∀y∈rs,y.1∈kks zs)->Q (.ref l) (upd H l (.lst (outV (ltIx (kks zs)) (zs.map λz=>V.ref z.2))))):=by
 intro jb s σ H vs us Q I rv h;obtain⟨p,rs,rfl,e,h64,hk,al,q⟩:=h;obtain⟨u,rfl,ru⟩:=rv.one;obtain rfl:u=.ref p:=ru;obtain⟨⟨h0,o,es,ep,t,xs,S0,g,S2,S3⟩,_,_⟩:=I.hok p _ e;have tk:∀x∈xs,TupK s.heap (.ref x.2) x.1:=λx hx=>HJ I (hk x (S2 x hx)).1;have S:SetK X.prog X.w s.heap p o es ep t xs:=⟨g,S0.ex,S0.hd,S0.hes,(λx hx=>is_of (tk x hx)),S0.nd,S0.tb,S0.few,S0.led⟩;have lx:xs.length<64:=EE (Holds.len S S2) h64;refine Sk (m:=2) S.toV (I.ok.hd hc) xs (λx=>L4 x.2) (·.1) (by unfold vls;rw[S.hes,D8];rfl) lx (λx hx=>⟨tk x hx,(hk x (S2 x hx)).2⟩) (λx hx y hy=>?_) λys h2 d t2 D e pm k hD ho=>?_
 ·obtain⟨x',hx',rfl⟩:=C0.mp hx;obtain⟨y',hy',rfl⟩:=C0.mp hy;exact al _ (C0.mpr ⟨x',S2 x' hx',rfl⟩) _ (C0.mpr ⟨y',S2 y' hy',rfl⟩)
 ·have vv:Vals (ys.map λy=>V.ref y.2) (rfs ys):=by
   clear pm ho
   induction ys with
   |nil=>exact .nil
   |cons y ys ih=>exact .cons rfl ih
  have vo:=Ri vv (HK (kks ys));have ly:ys.length=xs.length:=pm.length_eq;have hlo:(outV (ltIx (kks ys)) (ys.map λy=>V.ref y.2)).length<=B7:=Sl (by grind);have I1:=inv_dr (I.laid (t':=t2) k hD (show J1 X.prog X.w _ h2 _ (.lst _) from⟨hlo,_,e,vo,ho⟩)) d;exact⟨.ref D,_,I1,rfl,q _ ys (I.hok.fresh hD) ((pm.map (·.1)).nodup_iff.mpr S.nd) (λz hz=>S2 z (pm.mem_iff.mp hz)) λy hy=>(pm.map (·.1)).mem_iff.mpr (S3 y hy)⟩
end
section
variable {X:Cx}
def tMo (t:TE):TE:=λσ H Q=>∃Q',t σ H Q'/\∀v H',Q' v H'->Q v H'
theorem pe_mo (h:PE X e t):PE X e (tMo t):=by
 intro jb s σ H Q I ⟨Q',h1,h2⟩;exact F7 (h jb s σ H Q' I h1) (λu s' ⟨v,H',I',r,q⟩=>⟨v,H',I',r,h2 _ _ q⟩) λ_ _ e=>e
def So (K:A7)(t:TE):TE:=λσ H Q=>∃Q',t σ H Q'/\∀x H1,Q' x H1->∃a ys jp,x=.ref a/\(SqL K H1 a ys\/SqT K H1 a ys)/\Paired (KM K H1 2) ys jp/\ys.length<=63/\AL jp/\
 ∀H2 l rs zs,Same H1 H2->H2 l=none->kks rs=jp->(rs.map λy=>V.ref y.2)=ys->(kks zs).Nodup->(∀z∈zs,z∈rs)->(∀y∈rs,y.1∈kks zs)->Q (.ref l) (upd H2 l (.lst (outV (ltIx (kks zs)) (zs.map λz=>V.ref z.2))))
theorem Sq {K:A7}(h:SqT K H a xs)(s:Same H H'):SqT K H' a xs:=by
 rcases h with h|h
 ·left;rcases h with h|⟨o,h⟩
  ·exact .inl (s _ _ h)
  ·exact .inr ⟨o,s _ _ h⟩
 ·exact .inr h
theorem Sr (hc:X.calm=true)(hr:Room k X.A)(g1:Gl X "sorted")(m1:X.mg "sorted"=none)(g2:Gl X "set")(m2:X.mg "set"=none)(he:PE X e t)(hs:E8 [e] X.env=(false,eval e X.env)::E8 [] X.env) :
   PE X (.Call (.Name "sorted" p1) [.Call (.Name "set" p2) [e] [] pos2] [] pos) (So X.K t):=by
 have i1:=GT (p:=p2) (pos:=pos2) (Sn hc hr.units) g2 m2 bt_set (F5 (pe_mo he) K5 hs) (by decide) (by decide) hs rfl;have i2:=Bp (p:=p1) (pos:=pos) (call_sortedS hc) g1 m1 Kf (F5 i1 K5 rfl) (by decide) (by decide) rfl rfl;intro jb s σ H Q I ⟨Q',h1,h2⟩;refine i2 jb s σ H Q I ⟨Q',h1,λx H1 hx=>?_⟩;obtain⟨a,ys,jp,rfl,hq,hp,hl,al,q⟩:=h2 x H1 hx;refine⟨a,ys,jp,rfl,hq,hp,hl,λp rs hn ek eu hk=>?_⟩;have sm:Same H1 (upd H1 p (SetO X p rs)):=(Same.refl _).lay hn;refine⟨p,rs,rfl,J0,?_,λy hy=>⟨Sq (hk y hy).1 sm,(hk y hy).2⟩,by rw[ek];exact al,λl zs hl nd z1 z2=>q _ l rs zs sm hl ek eu nd z1 z2⟩;have:rs.length=ys.length:=by rw[<- eu,A9]
 omega
end
end SeT
namespace Pu
open PySem PySem.Spec L2
def SetOk (xs:List PV):Prop:=(∀x∈xs,∃ks,x=.tup (ks.map kP)/\ks≠[])/\∀x∈xs,∀y∈xs,Al (keyP x) (keyP y)
def SrtS (ys xs:List PV):Prop:=ys.Nodup/\(∀y,y∈ys↔y∈xs)/\ys.Pairwise λa b=>lexK (keyP b) (keyP a)=false
def wSet (R:List PV->Prop)(xs:List PV):Prop:=xs.length<=63/\SetOk xs/\∀ys,SrtS ys xs->R ys
def Aj (pe:pE):pA:=λenv n R=>pe env n λx jc n1=>match x with|.lst xs=>wSet (λys=>R ys jc n1) xs|.tup xs=>wSet (λys=>R ys jc n1) xs|_=>False
abbrev zP (z:List Key×A0):PV:=.tup (z.1.map kP)
theorem keyP_z (z:List Key×A0):keyP (zP z)=z.1:=u5 z.1
theorem zP_inj {ks js:List Key}(h:(PV.tup (ks.map kP))=.tup (js.map kP)):ks=js:=by rw[<- u5 ks,h,u5]
section
variable {T:PotK}{ι:Type}{K:A7}{F:ι->Cx}{e:Expr}{pe:pE}{pos:Pos}
theorem Me:∀{xs:List PV} {rs:List (List Key×A0)},Reps K G H xs (rs.map λy=>V.ref y.2)->SeT.kks rs=xs.map keyP->(∀x∈xs,∃ks,x=.tup (ks.map kP)/\ks≠[])->xs=rs.map zP/\∀z∈rs,Rep K G H (zP z) (.ref z.2)
 |[],[],_,_,_=>⟨rfl,λ_ z=>nomatch z⟩
 |[],_::_,h,_,_=>by cases h
 | x :: xs, [], h, _, _ => by
  obtain⟨_,_,e,_⟩:=h;cases e
 | x :: xs, r :: rs, h, hk, hx => by
  obtain⟨v,t,e,h1,h2⟩:=h;rw[J8] at e;injection e with e1 e2;subst e1;subst e2;have hk':r.1::SeT.kks rs=keyP x::xs.map keyP:=hk;injection hk' with k1 k2;obtain⟨a1,a2⟩:=Me h2 k2 λy hy=>hx y (B4 _ hy);obtain⟨ks,rfl,_⟩:=hx x B2;rw[u5] at k1;have ez:zP r=.tup (ks.map kP):=by show PV.tup (r.1.map kP)=_;rw[k1]
  refine⟨by rw[J8,ez,<- a1],λz hz=>?_⟩;rcases C9.mp hz with rfl|hz
  ·rw[ez];exact h1
  ·exact a2 z hz
theorem Mf {G:Gh}{H:Hp}:∀(zs:List (List Key×A0)),(∀z∈zs,Rep K G H (zP z) (.ref z.2))->Reps K G H (zs.map zP) (zs.map λz=>V.ref z.2)
 |[],_=>rfl
 |z::zs,h=>⟨_,_,rfl,h z B2,Mf zs λy hy=>h y (B4 _ hy)⟩
theorem SrtS.of {rs:List (List Key×A0)}(e:xs=rs.map zP)(nd:(SeT.kks zs).Nodup)(h1:∀z∈zs,z∈rs)(h2:∀y∈rs,y.1∈SeT.kks zs):SrtS (outP (zs.map zP)) xs:=by
 obtain⟨p,pw⟩:=Rj (zs.map zP);refine⟨p.nodup_iff.mpr ?_,λy=>?_,pw⟩
 ·rw[Ax,Bc];have:zs.Pairwise λa b=>a.1≠b.1:=Bc.mp nd;exact this.imp λhab h=>hab (zP_inj h)
 grind
theorem Ss (hc:∀z,(F z).calm=true)(hr:∀z,Room k (F z).A)(hg:∀z,Gl (F z) "sorted")(hm:∀z,(F z).mg "sorted"=none)(hg2:∀z,Gl (F z) "set")(hm2:∀z,(F z).mg "set"=none)(ha:QR T K F e pe)(hs:F3 e=true)(hK:∀z,(F z).K=K) :
   QN T K F (.Call (.Name "sorted" p) [.Call (.Name "set" p2) [e] [] pos2] [] pos) (Aj pe):=by
 obtain⟨t,h1,h2⟩:=ha;refine⟨_,λz=>hK z▸SeT.Sr (hc z) (hr z) (hg z) (hm z) (hg2 z) (hm2 z) (h1 z) (D4 hs),λC G σ H env n R Q hK hT S hp k=>?_⟩;refine⟨λv H1=>∃x jc n1,(match x with|PV.lst xs=>wSet (λys=>R ys jc n1) xs|.tup xs=>wSet (λys=>R ys jc n1) xs|_=>False)/\SR C G σ H1 jc n1/\RdS C G σ H1 jc x v/\Fr G H H1,h2 C G σ H env n _ _ hK hT S hp λx jc n1 v H1 p1 S1 r1 f1=>⟨x,jc,n1,p1,S1,r1,f1⟩,λv H1 ⟨x,jc,n1,p1,S1,r1,f1⟩=>?_⟩;have rd:RdV K G H1 x v:=hK▸r1.rd S1
 have main:∀(xs:List PV) (a:A0) (us:List V),wSet (λys=>R ys jc n1) xs->(SqL K H1 a us\/SqT K H1 a us)->Reps K G H1 xs us->∃a' ys jp,V.ref a=.ref a'/\(SqL K H1 a' ys\/SqT K H1 a' ys)/\Paired (KM K H1 2) ys jp/\ys.length<=63/\AL jp/\
     ∀H2 l rs zs,Same H1 H2->H2 l=none->SeT.kks rs=jp->(rs.map λy=>V.ref y.2)=ys->(SeT.kks zs).Nodup->(∀z∈zs,z∈rs)->(∀y∈rs,y.1∈SeT.kks zs)->Q (.ref l) (upd H2 l (.lst (outV (ltIx (SeT.kks zs)) (zs.map λz=>V.ref z.2)))):=by
   intro xs a us ⟨h63,ok,q⟩ hq r;obtain⟨m,pk,al⟩:=km_of r (.inr (.inr ok))
   have pk2:Paired (KM K H1 2) us (xs.map keyP):=Paired.imp' (λv ks ⟨_,_,hp⟩=>hp) (DU (P:=λ_ v ks=>KM K H1 2 v ks) xs r λx hx v hv=>by
    obtain⟨ks,rfl,hne⟩:=ok.1 x hx;obtain⟨a,vs,rfl,at',rr⟩:=hv;rw[u5];refine⟨a,rfl,?_,hne⟩;rw[FE ks rr] at at'
    exact SqT.of at'.2)
   refine⟨a,us,xs.map keyP,rfl,hq,pk2,by rw[<- r.length];exact h63,al,λH2 l rs zs sm hl ek eu nd z1 z2=>?_⟩;subst eu;obtain⟨ex,rz⟩:=Me r ek ok.1;have rr:Reps K G H2 (zs.map zP) (zs.map λz=>V.ref z.2):=(Mf zs λz hz=>rz z (z1 z hz)).same sm;have ro:=Rl rr;have ekz:(zs.map zP).map keyP=SeT.kks zs:=by rw[D8];exact At λz _=>keyP_z z
   rw[ekz] at ro;exact k _ _ _ _ _ _ (q _ (SrtS.of ex nd z1 z2)) (S1.same sm) (f1.trans (Fr.of sm)) hl ro
 cases x with
 | lst xs =>
  obtain⟨a,us,rfl,hq,r⟩:=rd.lst;exact main xs a us p1 (.inl hq) r
 | tup xs =>
  obtain⟨a,us,rfl,hq,r⟩:=rd.tup;exact main xs a us p1 (.inr hq) r
 |_=>exact p1.elim
end
def frzS:Slot->Option Slot
 |.v x=>some (.v x)
 |.ow .lst xs=>some (.v (.lst xs))
 |.ow (.dk ks) xs=>if ks.length=xs.length then some (.v (.dct ks xs)) else none
 |.ow (.dt _) _=>none
 |.ow (.st _) _=>none
def frz (env:Env):Env:=env.map λo=>o.bind frzS
def HZ (T:PotK):Prop:=∀M M' H p n,T.at_ M H p n->(∀a∈M',a∈M\/∃o,H a=some o/\MutO o)->T.at_ M' H p n
theorem SR.lend (S:SR C G σ H env n):SR ⟨C.K,C.T,G.pots,G.pots,H,C.np⟩ ⟨G.pots,G.pots⟩ σ H (frz env) n where
 frame _ _ _ e:=e
 sub a ha:=.inl ha
 sup a ha:=ha
 pots p hp:=⟨hp,C.T.more (S.pots p hp).2 λb hb=>.inl (S.pots b hb).1⟩
 pre:=⟨[],(T6 _).symm,.inl rfl⟩
 mu a ha:=S.mu a (S.pots a ha).1
 slots i s e:=by
  have mm:∀{x:PV} {v:V},Rep C.K G H x v->Rep C.K ⟨G.pots,G.pots⟩ H x v:=λr=>Rep.mono (G':=⟨G.pots,G.pots⟩) (λ_ _ _ e=>e) (λb hb=>.inl (S.pots b hb).1) (λ_ _ e=>e) _ _ r;have mms:∀{x:List PV} {v:List V},Reps C.K G H x v->Reps C.K ⟨G.pots,G.pots⟩ H x v:=λr=>Reps.mono (G':=⟨G.pots,G.pots⟩) (λ_ _ _ e=>e) (λb hb=>.inl (S.pots b hb).1) (λ_ _ e=>e) _ _ r;unfold frz at e;rw[C6] at e;cases h:env[i]? with
  |none=>rw[h] at e;cases e
  | some o =>
   rw[h] at e;cases o with
   |none=>cases e
   | some t =>
    have q:=S.slots i t h;have e':frzS t=some s:=by simpa using e
    cases t with
    | v x =>
     cases e';obtain⟨v,e1,r⟩:=q;exact⟨v,e1,mm r⟩
    | ow k xs =>
     obtain⟨a,vs,ev,h1,h2,h3,h4,r⟩:=q;cases k with
     |lst=>cases e';exact⟨.ref a,ev,a,vs,rfl,⟨h3,h4⟩,mms r⟩
     | dk ks =>
      have e':(if ks.length=xs.length then some (Slot.v (.dct ks xs)) else none)=some s:=e'
      split at e'
      ·rename_i hl;cases e';have hlv:ks.length=vs.length:=by rw[hl];exact r.length
       refine⟨.ref a,ev,a,ks.zip vs,rfl,h3,h4,List.map_fst_zip (Dd hlv),?_⟩;rw[List.map_snd_zip (Dd hlv.symm)];exact mms r
      ·cases e'
     |dt ks=>cases e'
     |st ks=>cases e'
 inj i j xs ys a e1:=by
  have:∀o:Option Slot,o.bind frzS≠some (.ow xs.1 xs.2):=by
   intro o z;cases o with
   |none=>cases z
   | some t =>
    cases t with
    |v x=>cases z
    | ow k ys =>
     cases k with
     |lst=>cases z
     | dk ks =>
      have z:(if ks.length=ys.length then some (Slot.v (.dct ks ys)) else none)=some (.ow xs.1 xs.2):=z
      split at z <;> cases z
     |dt ks=>cases z
     |st ks=>cases z
  unfold frz at e1;rw[C6] at e1;cases h:env[i]? with
  |none=>rw[h] at e1;cases e1
  |some o=>rw[h] at e1;exact absurd (F6 e1) (this o)
 p0:=⟨λp hp=>hp,S.hasG⟩
 len:=by unfold frz;rw[A9];exact S.len
 newp p hp h:=absurd hp h
theorem Su:HZ potL:=λ_ _ _ _ _ h _=>h
abbrev pSlN:=Env->Nat->(List Slot->Env->Nat->Prop)->Prop
def Gots (C:Ct)(G:Gh)(H:Hp)(σ:St)(env:Env):List Slot->List V->Prop
 |[],vs=>vs=[]
 |s::ss,vs=>∃v r,vs=v::r/\Got C G H σ env s v/\(∀(xs:OK×List PV) a,s=.ow xs.1 xs.2->v=.ref a->∀(ys:OK×List PV) w,(Slot.ow ys.1 ys.2,w)∈ss.zip r->w≠.ref a)/\Gots C G H σ env ss r
section
variable {T:PotK}{np:Bool}{ι:Type}{K:A7}{F:ι->Cx}{e:Expr}{es:List Expr}{st:Stmt}{s1:pSl}{sl:pSlN}{pos:Pos}
theorem Gots.set (hl:env.length=σ.length):∀{ss:List Slot} {vs:List V},Gots C G H σ env ss vs->(∀(xs:OK×List PV) a,s0=.ow xs.1 xs.2->v0=.ref a->∀(ys:OK×List PV) w,(Slot.ow ys.1 ys.2,w)∈ss.zip vs->w≠.ref a)->Gots C G H (σ.set i (some v0)) (env.set i (some s0)) ss vs
 |[],_,h,_=>h
 | s :: ss, vs, h, no => by
  obtain⟨v,r,rfl,g,ne,h⟩:=h;refine⟨v,r,rfl,⟨g.1,λxs a e1 e2 z=>?_⟩,ne,Gots.set hl h λxs a e1 e2 ys w hw=>no xs a e1 e2 ys w (by rw[CS];exact B4 _ hw)⟩;rcases KC hl z with z|⟨⟨zs,ez⟩,ev⟩
  ·exact g.2 xs a e1 e2 z
  ·exact no zs a ez ev xs v (by rw[CS,e1];exact B2) e2
end
end Pu
end
section
namespace L2
open PySem PySem.Spec PyProof.Rows
abbrev LC2 (ji t1 i1 t2 i2:Expr)(jk:List Expr)(scope:E3)(pos:Pos):Expr:=.ListComp ji [⟨t1,i1,[],0⟩,⟨t2,i2,jk,0⟩] scope pos
theorem Sv (ji t1 i1 t2 i2:Expr)(jk:List Expr)(scope:E3)(pos:Pos)(it jm:A1)(env:Env) :
   compTurn (LC2 ji t1 i1 t2 i2 jk scope pos) 1 it jm env=(do
    k6 i2.pos
    match ← pyNext it with
    |none=>pure (.done .next)
    | some v =>
     Ap t2 it v
     assign t2 env v
     let mut ok:=true
     for c in jk do
      if ok then ok ← isTrue c env (eval c env)
     if ok then
      (do let _ ← call (.builtin "list.append") [jm,<- eval ji env])
     again (.compLoop (LC2 ji t1 i1 t2 i2 jk scope pos) 1 it jm env)):=by rfl
section
variable {prog:C3}{w:B8}{A:C8}{R:Result->A4->Prop}{s:A4}{ji t1 i1 t2 i2:Expr}{jk:List Expr}{scope:E3}{pos:Pos}{it jm:A1}{env:Env}
theorem loop_i (I:Nat->A4->Prop)
   (turn:∀n s,I n s->A5 (A6 prog w) A (pyNext it) (fun r s₁=>match r with
    |none=>R (.ok .next) s₁
    |some v=>A5 (A6 prog w) A (Ap t2 it v) (λ_ s₁'=>A5 (A6 prog w) A (assign t2 env v) (λ_ s₂=>
        A5 (A6 prog w) A (forIn jk true fun c r=>if r=true then do let ok ← isTrue c env (eval c env);pure (AD ok) else pure (AD r)) (fun ok s₃=>
         if ok=true then A5 (A6 prog w) A (eval ji env) (λx s₄=>
          A5 (A6 prog w) A (call (.builtin "list.append") [jm,x]) (λ_ s₅=>∃m,m<n/\I m s₅) (λ_ _=>False) s₄) (λ_ _=>False) s₃
         else ∃m,m<n/\I m s₃) (λ_ _=>False) s₂) (λ_ _=>False) s₁') (λ_ _=>False) s₁) (λ_ _=>False) s)
   (n:Nat) (h:I n s):L0 (A6 prog w) A (.compLoop (LC2 ji t1 i1 t2 i2 jk scope pos) 1 it jm env) R s:=by
 refine codeAny_loop rfl I (λn s hI=>?_) n h;show A5 _ A ((compTurn (LC2 ji t1 i1 t2 i2 jk scope pos) 1 it jm env).onRaise (λx=>do noteFrame x env;theTreesLotGoes x)) _ _ s;refine wpAny_noted ?_;rw[Sv];refine A2 (j8 (A2 (F7 (turn n s hI) (λr s₁ h₁=>?_) λ_ _ h'=>h'.elim)));cases r with
 |none=>exact A8 h₁
 | some v =>
  refine A2 (F7 h₁ (λ_ s₁' h₁'=>?_) λ_ _ h'=>h'.elim);refine A2 (F7 h₁' (λ_ s₂ h₂=>A2 (F7 h₂ (λok s₃ h₃=>?_) λ_ _ h'=>h'.elim)) λ_ _ h'=>h'.elim);cases ok with
  |false=>exact A8 ⟨rfl,h₃⟩
  | true =>
   exact A2 (A2 (F7 h₃ (λx s₄ h₄=>A2 (F7 h₄ (λ_ s₅ h₅=>A8 (A8 ⟨rfl,h₅⟩)) λ_ _ h'=>h'.elim)) λ_ _ h'=>h'.elim))
theorem Sx (h0:L0 (A6 prog w) A (.compLoop (LC2 ji t1 i1 t2 i2 jk scope pos) 1 it jm env) R s)
   (h:A5 (A6 prog w) A (pyIter it) (λit' s'=>L0 (A6 prog w) A (.compLoop (LC2 ji t1 i1 t2 i2 jk scope pos) 1 it' jm env) R s') (λ_ _=>False) s) :
   L0 (A6 prog w) A (.compStart (LC2 ji t1 i1 t2 i2 jk scope pos) 1 it jm env) R s:=by
 refine codeAny_of_tree ?_;show A5 _ _ ((compStart (LC2 ji t1 i1 t2 i2 jk scope pos) 1 it jm env).onRaise (λx=>do noteFrame x env;k6 theWindowsPlace)) _ _ s;refine wpAny_notedAt ?_;unfold compStart;show A5 _ _ (ask>>=_) _ _ s;refine A2 (Eh (wpAny_ite ?_))
 split
 ·first
    |exact A2 (A8 (A8 (And.intro rfl h0)))
    |exact A8 (And.intro rfl h0)
 ·first
    |exact A2 (j9 (A2 (j8 (A2 (F7 h (λit' s' h'=>A8 (And.intro rfl h')) λ_ _ x=>x.elim)))))
    |(refine A2 (j9 ?_);show A5 _ _ (k6 i2.pos>>=_) _ _ s;exact A2 (j8 (A2 (F7 h (λit' s' h'=>A8 (And.intro rfl h')) λ_ _ x=>x.elim))))
theorem loop_o (hs:∀x,G7 i2 env x=pure x)(I:Nat->A4->Prop)
   (turn:∀n s,I n s->A5 (A6 prog w) A (pyNext it) (fun r s₁=>match r with
    |none=>R (.ok .next) s₁
    |some v=>A5 (A6 prog w) A (Ap t1 it v) (λ_ s₁'=>A5 (A6 prog w) A (assign t1 env v) (λ_ s₂=>
        A5 (A6 prog w) A (eval i2 env) (λx s₃=>A5 (A6 prog w) A (pyIter x) (λit2 s₄=>
         L0 (A6 prog w) A (.compStart (LC2 ji t1 i1 t2 i2 jk scope pos) 1 it2 jm env) (λr s'=>r=.ok .next/\∃m,m<n/\I m s') s₄) (λ_ _=>False) s₃) (λ_ _=>False) s₂) (λ_ _=>False) s₁') (λ_ _=>False) s₁) (λ_ _=>False) s)
   (n:Nat) (h:I n s):L0 (A6 prog w) A (.compLoop (LC2 ji t1 i1 t2 i2 jk scope pos) 0 it jm env) R s:=by
 refine codeAny_loop rfl I (λn s hI=>?_) n h;show A5 _ A ((compTurn (LC2 ji t1 i1 t2 i2 jk scope pos) 0 it jm env).onRaise (λx=>do noteFrame x env;theTreesLotGoes x)) _ _ s;refine wpAny_noted ?_;unfold compTurn;show A5 _ _ (k6 i1.pos>>=_) _ _ s;refine A2 (j8 ?_);refine A2 (F7 (turn n s hI) (λr s₁ h₁=>?_) λ_ _ h'=>h'.elim);cases r with
 |none=>exact A8 h₁
 | some v =>
  refine A2 (F7 h₁ (λ_ s₁' h₁'=>?_) λ_ _ h'=>h'.elim);refine A2 (F7 h₁' (λ_ s₂ h₂=>A2 (wpAny_tests_nil ?_)) λ_ _ h'=>h'.elim);refine A2 (F7 h₂ (λx s₃ h₃=>?_) λ_ _ h'=>h'.elim);refine A2 (j8 ?_);show A5 _ _ (G7 i2 env x>>=λx=>(U7 [x] (pyIter x)>>=λit2=>(runOwn (.compStart (LC2 ji t1 i1 t2 i2 jk scope pos) 1 it2 jm env) env>>=λ_=>again (.compLoop (LC2 ji t1 i1 t2 i2 jk scope pos) 0 it jm env)))) _ _ _;refine A2 (AZ (hs x) (A2 (N4 (F7 h₃ (λit2 s₄ h₄=>?_) λ_ _ h'=>h'.elim))));refine A2 (wpAny_runOwn ?_);rw[Around.mark_none];refine AX h₄ λr s' hr=>?_;obtain⟨rfl,hr⟩:=hr;exact A8 ⟨rfl,hr⟩
end
def Mg (J:It)(g:TG)(tt:TT)(te:TE)(D:A0)(N:St->Hp->Prop)(σ:St)(H:Hp):Prop:=∃W:Nat->Nat->St->Hp->Prop,(∃m,W 0 m σ H)/\
 ∀i m σ' H',W i m σ' H'->(J.stop i H'/\N σ' H')\/(J.go i H'/\∀x H2,J.yld i H' x H2->g x σ' H2 fun σ3 H3=>tt σ3 H3 fun b H4=>
    if b=true then te σ3 H4 λv H5=>∃ys,H5 D=some (.lst ys)/\ys.length<B7/\∃m',m'<m/\W (i+1) m' σ3 (upd H5 D (.lst (ys++[v])))
    else ∃m',m'<m/\W (i+1) m' σ3 H4)
def H_ (J:It)(g1:TG)(wi2:TI)(g2:TG)(tt:TT)(te:TE)(Q:VK)(D:A0)(σc:St)(H1:Hp):Prop:=∃W:Nat->Nat->St->Hp->Prop,(∃m,W 0 m σc H1)/\
 ∀i m σ' H',W i m σ' H'->(J.stop i H'/\Q (.ref D) H')\/(J.go i H'/\∀x H2,J.yld i H' x H2->g1 x σ' H2 λσ3 H3=>wi2 σ3 H3 λJ2 H4=>Mg J2 g2 tt te D (λσ5 H5=>∃m',m'<m/\W (i+1) m' σ5 H5) σ3 H4)
def Mh (cs:List (Option Nat))(wi:TI)(g1:TG)(wi2:TI)(g2:TG)(tt:TT)(te:TE):TE:=λσ H Q=>wi σ H λJ H1=>∀D,H1 D=none->H_ J g1 wi2 g2 tt te Q D (q8 cs σ) (upd H1 D (.lst []))
theorem loop2 {Y:Cx}{scope:E3}{ji t1 i1 t2 i2:Expr}{jk:List Expr}{pos:Pos}{wi2:TI}{g1 g2:TG}{tt:TT}{te:TE}{fp:List A0}{it D:A0}{tn:Nat->B1->Prop}{J:It}{s₃:A4}{H3:Hp}{σ3:St}{jb:List (A0×Obj)}{Q:VK}{R:Result->A4->Prop}(hx:Y.xe=λ_ _=>False)(hc:Y.calm=true)
   (hb:PG Y t1 g1/\PI Y t2 i2 wi2/\PG Y t2 g2/\PIf Y jk tt/\PE Y ji te) (hs2:∀x,G7 i2 Y.env x=pure x) (T:Turn Y.prog Y.w Y.K t1 J fp it tn) (stat:∀{H':Hp},(∀b∈fp,H' b=none)->∀b∈fp,FpOk Y jb H' b) (q:H_ J g1 wi2 g2 tt te Q D σ3 H3)
   (fin:∀s4 σ4 H4,Inv Y jb σ4 H4 s4->Q (.ref D) H4->R (.ok .next) s4) (Ic:Inv Y jb σ3 H3 s₃) (st1:tn 0 s₃.heap) (fr1:∀b∈fp,H3 b=none) :
   L0 (A6 Y.prog Y.w) Y.A (.compLoop (LC2 ji t1 i1 t2 i2 jk scope pos) 0 (.ref it) (.ref D) Y.env) R s₃:=by
 obtain⟨W,⟨m0,w0⟩,turn⟩:=q;obtain⟨hg,hi2,hg2,hf,he⟩:=hb;refine loop_o hs2 (λn s'=>∃i σ' H',Inv Y jb σ' H' s'/\tn i s'.heap/\(∀b∈fp,H' b=none)/\W i n σ' H') ?_ m0 ⟨0,_,_,Ic,st1,fr1,w0⟩;rintro n s3 ⟨i,σ3,H3,I3,st3,fr3,w3⟩;rcases turn i n σ3 H3 w3 with⟨stop,qn⟩|⟨go,step⟩
 ·refine thn (T.done Y rfl rfl rfl hc i jb s3 σ3 H3 (λ_ _=>False) I3 (stat fr3) st3 stop) λr s4 ⟨hr,I4⟩=>?_;subst hr;exact fin s4 _ _ I4 qn
 ·refine thn (T.item Y rfl rfl rfl hc i jb s3 σ3 H3 (λ_ _=>False) I3 (stat fr3) st3 go) λr s4 ⟨u,hr,h4⟩=>?_;subst hr;refine thn h4 λ_ s5 ⟨x,H5,I5,r5,y5,st5,fr5⟩=>?_;refine thn (hx▸hg _ s5 σ3 H5 x u _ (I5.pinned (stat fr5) (T.obj _ _ st5)) r5 (step x H5 y5)) λ_ s6 ⟨σ6,H6,I6,q6⟩=>?_;refine thn (hx▸hi2 _ s6 σ6 H6 _ I6 q6) λv7 s7 h7=>thn h7 λitv s8 h8=>?_;obtain⟨it2,fp2,tn2,J2,H8,rfl,I8,T2,st8,f8,W2,⟨m2,w2⟩,turn2⟩:=h8
  have inner:L0 (A6 Y.prog Y.w) Y.A (.compLoop (LC2 ji t1 i1 t2 i2 jk scope pos) 1 (.ref it2) (.ref D) Y.env) (λr s'=>r=.ok .next/\∃m,m<n/\∃i σ' H',Inv Y jb σ' H' s'/\tn i s'.heap/\(∀b∈fp,H' b=none)/\W i m σ' H') s8:=
   loop_i (λn s'=>∃i σ' H',Inv Y (jb++Ce fp s5.heap) σ' H' s'/\tn2 i s'.heap/\(∀b∈fp2,H' b=none)/\W2 i n σ' H') (by rw[<- hx];exact Fe T2 hc (λhn b hb=>⟨hn b hb,(f8 b hb).2⟩) hg2 hf he (λs10 σ9 H9 I10 qn2=>⟨rfl,G_ T st5 I10 qn2⟩) turn2) m2 ⟨0,σ6,H8,I8,st8,λb hb=>(f8 b hb).1,w2⟩
  exact Sx inner (T2.self _ 0 _ _ _ st8 inner)
theorem Mi {X:Cx}{scope:E3}{cl:List (Str×A0)}{N:List Str}{cs:List (Option Nat)}{ji t1 i1 t2 i2:Expr}{jk:List Expr}{pos:Pos}{wi1 wi2:TI}{g1 g2:TG}{tt:TT}{te:TE}(S:R5 X scope cl N cs)(hc:X.calm=true)(hi:PI X t1 i1 wi1)
   (hb:∀(fp:List A0) (C:A0) (s:A4) (H:Hp),PG (D1 X scope cl N fp C s H) t1 g1/\PI (D1 X scope cl N fp C s H) t2 i2 wi2/\PG (D1 X scope cl N fp C s H) t2 g2/\PIf (D1 X scope cl N fp C s H) jk tt/\PE (D1 X scope cl N fp C s H) ji te)
   (hs2:∀fp C s H x,G7 i2 (D1 X scope cl N fp C s H).env x=pure x)
   (hs:∀x,G7 i1 X.env x=pure x:=by intro _;rfl) :
   PE X (LC2 ji t1 i1 t2 i2 jk scope pos) (Mh cs wi1 g1 wi2 g2 tt te):=by
 intro jb s σ H Q I h;rw[eval_ListComp];exact Ff S hc hi hs I h λfp it tn J s2 H2 s₃ T stat I2 f2 q Ic st1 fr1=>loop2 (Y:=D1 X scope cl N fp (s2.heap.objs.size+1) s2 H2) rfl hc (hb _ _ _ _) (hs2 _ _ _ _) T stat q (λs4 σ3 H3 I4 qn=>J_ I2 f2 I4 qn) Ic st1 fr1
end L2
end
section
namespace Pu
open PySem PySem.Spec L2
def Cv (g:pG)(tt:pT)(te:pE):List PV->Env->Nat->(List PV->Env->Nat->Prop)->Prop
 |[],env,n,R=>R [] env n
 |x::xs,env,n,R=>g x env λjc=>tt jc n λb jd n2=>if b=true then te jd n2 λy je n3=>Cv g tt te xs je n3 λys e m=>R (y::ys) e m else Cv g tt te xs jd n2 R
def DY (g1:pG)(pi2:pA)(g2:pG)(tt:pT)(te:pE):List PV->Env->Nat->(List PV->Nat->Prop)->Prop
 |[],_,n,R=>R [] n
 |x::xs,env,n,R=>g1 x env λjc=>pi2 jc n λys jd n2=>ys.length<=1000/\Cv g2 tt te ys jd n2 λzs je n3=>DY g1 pi2 g2 tt te xs je n3 λws n4=>R (zs++ws) n4
def U6 (cs:List (Option Nat))(pi1:pA)(g1:pG)(pi2:pA)(g2:pG)(tt:pT)(te:pE):pA:=λenv n R=>pi1 env n λxs jc n1=>xs.length<=1000/\DY g1 pi2 g2 tt te xs (capV cs jc) n1 λys n2=>R ys jc n2
theorem Sy {K:A7}{T:PotK}{J:It}{g:TG}{tt:TT}{te:TE}{pg:pG}{ptt:pT}{pte:pE}(hg:GOk K g pg)(ht:TOk K T tt ptt)(he:EOk K T te pte){G:Gh}{H1 H4:Hp}{ys:List PV}{D:A0}(hJ:ItR K ⟨D::G.M,G.pots⟩ H4 J ys)(nD:D∉G.pots)(hD:H1 D=none){σ:St}{env:Env}{n:Nat}{jm:List PV}{us:List V}{P:List PV->Env->Nat->Prop}{N:St->Hp->Prop}(c:CI K T G H1 D σ H4 env n jm us)(hl:jm.length+ys.length<=1001000)(hc:Cv pg ptt pte ys env n P)
   (hN:∀zs env n us σ H,P zs env n->CI K T G H1 D σ H env n (jm++zs) us->zs.length<=ys.length->N σ H):Mg J g tt te D N σ H4:=by
 refine⟨λj m σ H'=>m=ys.length-j/\j<=ys.length/\∃env n zs us2,CI K T G H1 D σ H' env n (jm++zs) us2/\Fr ⟨D::G.M,G.pots⟩ H4 H'/\zs.length<=j/\Cv pg ptt pte (ys.drop j) env n λws e m=>P (zs++ws) e m,⟨ys.length,rfl,D5 _,env,n,[],us,by rw[T6];exact c,Fr.refl,B3 _,hc⟩,?_⟩;rintro j m σ5 H5 ⟨rfl,hj,env5,n5,zs,us5,c5,fr5,la5,hc5⟩;obtain⟨hgo5,hstop5⟩:=hJ _ H5 fr5 (λa ha=>.inl ha) (λ_ _ e=>e) λp hp=>c5.inn.sr.fresh hp
 by_cases hlt5:j<ys.length
 ·obtain⟨u1,u2⟩:=hgo5 j _ (C4 hlt5);refine .inr ⟨u1,λv6 H6 y6=>?_⟩;obtain⟨s6,rv6⟩:=u2 v6 H6 y6;rw[Em hlt5] at hc5;have np:∀b,b∉D::G.M->b∉G.pots:=λb hb z=>hb (c5.inn.pots b z).1;refine hg _ _ σ5 H6 env5 n5 ys[j] v6 _ _ rfl (c5.inn.sr.same s6) rv6 hc5 λenv7 σ7 hc7 S7=>?_;refine ht _ _ σ7 H6 env7 n5 _ _ rfl rfl S7 hc7 λb env8 n8 H8 hc8 S8 f8=>?_;cases b with
  |false=>exact⟨ys.length-(j+1),Da _ _ hlt5,rfl,hlt5,env8,n8,zs,us5,c5.go nD S8,λb o hb e=>S8.frame b o (np b hb) (fr5 b o hb e),Nat.le_succ_of_le la5,hc8⟩
  | true =>
   refine he _ _ σ7 H8 env8 n8 _ _ rfl rfl S8 hc8 λy env9 n9 u H9 hc9 S9 r9 f9=>?_;have c9:=c5.go nD S9;have c10:=c9.add nD hD r9;rw[Z9] at c10;refine⟨us5,c9.eD,by rw[<- c5.ra.length,D7];exact EE (show _<=1001000 by omega) (by rw[K9];decide),ys.length-(j+1),Da _ _ hlt5,rfl,hlt5,env9,n9,zs++[y],us5++[u],c10,Fr.trans (λb o hb e=>S9.frame b o (np b hb) (fr5 b o hb e)) (CI.fD _),by rw[D7];exact Nat.succ_le_succ la5,?_⟩;simp only[Z9];exact hc9
 ·obtain rfl:j=ys.length:=Nat.le_antisymm hj (BQ hlt5);rw[Ey] at hc5;have h5:P (zs++[]) env5 n5:=hc5;rw[T6] at h5;exact .inl ⟨hstop5 _ (B3 _),hN zs env5 n5 us5 σ5 H5 h5 c5 la5⟩
theorem Mj {K:A7}{T:PotK}{J:It}{g1 g2:TG}{wi2:TI}{tt:TT}{te:TE}{pg1 pg2:pG}{pi2:pA}{ptt:pT}{pte:pE}(hg1:GOk K g1 pg1)(hi2:IOk K T wi2 pi2)(hg2:GOk K g2 pg2)(ht:TOk K T tt ptt)(he:EOk K T te pte){G:Gh}{H1:Hp}{xs:List PV}(hJ:ItR K G H1 J xs)(hl:xs.length<=1000)
   {σc:St} {env:Env} {n:Nat} {R:List PV->Nat->Prop} {Q:VK} {D:A0} (hD:H1 D=none) (I0:Inn K T G σc H1 env n) (hp:DY pg1 pi2 pg2 ptt pte xs env n R)
   (hQ:∀ys n' us H',R ys n'->(∀p∈G.pots,T.at_ (D::G.M) H' p n')->(∀b o,b∉G.pots->H1 b=some o->H' b=some o)->H' D=some (.lst us)->Reps K ⟨D::G.M,G.pots⟩ H' ys us->Q (.ref D) H') :
   H_ J g1 wi2 g2 tt te Q D σc (upd H1 D (.lst [])):=by
 have nD:D∉G.pots:=λz=>I0.sr.fresh hD (I0.pots D z).1;refine⟨λi m σ H=>m=xs.length-i/\i<=xs.length/\∃env n jm us,CI K T G H1 D σ H env n jm us/\jm.length<=1000*i/\DY pg1 pi2 pg2 ptt pte (xs.drop i) env n λys n'=>R (jm++ys) n',⟨xs.length,rfl,D5 _,env,n,[],[],.start hD I0,B3 _,hp⟩,?_⟩;rintro i m σ H ⟨rfl,hi,env,n,jm,us,c,la,hc⟩;obtain⟨hgo,hstop⟩:=c.it hD hJ
 by_cases hlt:i<xs.length
 ·obtain⟨gg1,gg2⟩:=hgo i _ (C4 hlt);refine .inr ⟨gg1,λv H2 y=>?_⟩;obtain⟨s2,rv⟩:=gg2 v H2 y;rw[Em hlt] at hc;refine hg1 _ _ σ H2 env n xs[i] v _ _ rfl (c.inn.sr.same s2) rv hc λjc σ1 hc1 S2=>?_;refine hi2 _ _ σ1 H2 jc n _ _ rfl rfl S2 hc1 λys jd n2 J2 H4 q4 S4 f4 hJ2=>?_;refine Sy hg2 ht he hJ2 nD hD (c.go nD S4) (by have:=q4.1;omega) q4.2 λzs env5 n5 us5 σ5 H5 h5 c5 lz=>⟨xs.length-(i+1),Da _ _ hlt,rfl,hlt,env5,n5,jm++zs,us5,c5,by rw[D7];have:=q4.1;omega,?_⟩;simp only[Z9];exact h5
 ·obtain rfl:i=xs.length:=Nat.le_antisymm hi (BQ hlt);rw[Ey] at hc;have hc':R (jm++[]) n:=hc;rw[T6] at hc';exact .inl ⟨hstop _ (B3 _),hQ _ n us H hc' (λp hp=>(c.inn.pots p hp).2) c.kp c.eD c.ra⟩
section
variable {T:PotK}{ι:Type}{K:A7}{F:ι->Cx}{pg1 pg2:pG}{pos:Pos}
theorem Sz {scope:E3}{cl:ι->List (Str×A0)}{N:List Str}{cs:List (Option Nat)}{ji t1 i1 t2 i2:Expr}{jk:List Expr}{pi1 pi2:pA}{ptt:pT}{pte:pE}(S:∀z,R5 (F z) scope (cl z) N cs)(hc:∀z,(F z).calm=true)(hi:QI T K F t1 i1 pi1)
   (hg:QG K (λy:ι×List A0×A0×A4×Hp=>D1 (F y.1) scope (cl y.1) N y.2.1 y.2.2.1 y.2.2.2.1 y.2.2.2.2) t1 pg1)
   (hi2:QI T K (λy:ι×List A0×A0×A4×Hp=>D1 (F y.1) scope (cl y.1) N y.2.1 y.2.2.1 y.2.2.2.1 y.2.2.2.2) t2 i2 pi2)
   (hg2:QG K (λy:ι×List A0×A0×A4×Hp=>D1 (F y.1) scope (cl y.1) N y.2.1 y.2.2.1 y.2.2.2.1 y.2.2.2.2) t2 pg2)
   (ht:QIf T K (λy:ι×List A0×A0×A4×Hp=>D1 (F y.1) scope (cl y.1) N y.2.1 y.2.2.1 y.2.2.2.1 y.2.2.2.2) jk ptt)
   (he:QE T K (λy:ι×List A0×A0×A4×Hp=>D1 (F y.1) scope (cl y.1) N y.2.1 y.2.2.1 y.2.2.2.1 y.2.2.2.2) ji pte)
   (hs:∀z x,G7 i1 (F z).env x=pure x:=by intro _ _;rfl) (hs2:∀z fp C s H x,G7 i2 (D1 (F z) scope (cl z) N fp C s H).env x=pure x:=by intro _ _ _ _ _ _;rfl):QN T K F (LC2 ji t1 i1 t2 i2 jk scope pos) (U6 cs pi1 pg1 pi2 pg2 ptt pte):=by
 obtain⟨wi,i1',i2'⟩:=hi;obtain⟨g,hg0,hg⟩:=hg;obtain⟨wj,j1,j2⟩:=hi2;obtain⟨g2,hg20,hg2⟩:=hg2;obtain⟨tt,ht0,ht⟩:=ht;obtain⟨te,he0,he⟩:=he;refine⟨_,λz=>Mi (S z) (hc z) (i1' z) (λfp C s H=>⟨hg0 (z,fp,C,s,H),j1 (z,fp,C,s,H),hg20 (z,fp,C,s,H),ht0 (z,fp,C,s,H),he0 (z,fp,C,s,H)⟩) (hs2 z) (hs z),λC G σ H env n R Q hK hT S hp k=>?_⟩;refine i2' C G σ H env n _ _ hK hT S hp λxs jc n1 J H1 p1 S1 f1 hJ=>?_;intro D hD;have hDM:=S1.fresh hD;refine Mj (G:=G) hg j2 hg2 ht he hJ p1.1 hD (hT▸hK▸DK S1 cs) p1.2 λys n2 us H' rr hpots hk eD ry=>?_;have nD:∀b o,H1 b=some o->b≠D:=λb o e z=>by rw[z,hD] at e;cases e
 have hk2:∀b o,b∉G.pots->H1 b=some o->cutH H' D b=some o:=λb o hb e=>by rw[L6 (nD b o e)];exact hk b o hb e
 have nc:∀b,b∉D::G.M->b≠D:=λb hb z=>hb (by rw[z];exact B2);have np:∀p∈G.pots,p≠D:=λp hp z=>hDM (z▸(S1.pots p hp).1)
 have Sb:SR C G σ (cutH H' D) jc n2:=S1.call hk2 λp hp=>by
  subst hT;have h2:=C.T.keep (hpots p hp) (H':=cutH H' D) (L6 (np p hp)) λb o hb e=>by rw[L6 (nc b hb)];exact e
  exact C.T.more h2 λa ha=>.inl (B4 _ ha)
 have:=k ys jc n2 D us (cutH H' D) rr Sb (f1.trans λb o hb e=>hk2 b o (λz=>hb (S1.pots b z).1) e) (by unfold cutH;rw[jt rfl]) ?_
 ·rw[DL eD] at this;exact this
 ·exact Reps.mono (G:=⟨D::G.M,G.pots⟩) (λb o hb e=>by rw[L6 (nc b hb)];exact e) (λa ha=>.inl (B4 _ ha)) (λ_ _ e=>e) _ _ ry
end
end Pu
end
section
namespace L2
namespace Tm
open PySem PySem.W PyProof.Rows
structure Pk where
 v:Nat
 n:Nat
abbrev El:=Fin 1024
namespace Pk
def at' (q:Pk)(i:Nat):El:=⟨(q.v >>> (10*i))%1024,BT _ (by decide)⟩
def size (q:Pk):Nat:=q.n
def push (q:Pk)(x:El):Pk:=⟨q.v%2 ^ (10*q.n) ||| x.val <<< (10*q.n),q.n+1⟩
def extract (q:Pk)(i j:Nat):Pk:=⟨q.v >>> (10*i),min j q.n-i⟩
def app (a b:Pk):Pk:=⟨a.v%2 ^ (10*a.n) ||| b.v <<< (10*a.n),a.n+b.n⟩
instance:Append Pk:=⟨app⟩
def one (x:El):Pk:=⟨x.val,1⟩
def ofF (f:Nat->El):Nat->Pk
 |0=>⟨0,0⟩
 |n+1=>(ofF f n).push (f n)
def reverse (q:Pk):Pk:=ofF (λi=>q.at' (q.n-1-i)) q.n
theorem tb (v i j:Nat)(h:j<10):G4 ((v >>> (10*i))%1024) j=G4 v (10*i+j):=by
 rw[show(1024:Nat)=2 ^ 10 from rfl,Y1,C_,jq h,R1]
theorem AN {q r:Pk}(h:∀j,j<10->G4 q.v (10*i+j)=G4 r.v (10*k+j)):q.at' i=r.at' k:=by
 refine Fin.ext (Nat.eq_of_testBit_eq λj=>?_);show G4 ((q.v >>> (10*i))%1024) j=G4 ((r.v >>> (10*k))%1024) j
 by_cases c:j<10
 ·rw[tb _ _ _ c,tb _ _ _ c,h j c]
 ·rw[show(1024:Nat)=2 ^ 10 from rfl,Y1,Y1,jr c];rfl
theorem at_val {q:Pk}(h:∀j,j<10->G4 q.v (10*i+j)=G4 x.val j):q.at' i=x:=by
 refine Fin.ext (Nat.eq_of_testBit_eq λj=>?_);show G4 ((q.v >>> (10*i))%1024) j=_
 by_cases c:j<10
 ·rw[tb _ _ _ c,h j c]
 ·have z:G4 ((q.v >>> (10*i))%1024) j=false:=by
   rw[show(1024:Nat)=2 ^ 10 from rfl,Y1,jr c,O8]
  rw[z];exact(Nat.testBit_lt_two_pow (G0 x.isLt (x8 (show 0<2 by decide) (show 10<=j by omega)))).symm
theorem at_push_lt (q:Pk)(x:El)(h:i<q.n):(q.push x).at' i=q.at' i:=AN λj hj=>by
 show G4 (q.v%2 ^ (10*q.n) ||| x.val <<< (10*q.n)) _=_;rw[y3,Y1,x6,jq (by omega),jr (by omega)];simp
theorem at_push (q:Pk)(x:El):(q.push x).at' q.n=x:=at_val λj hj=>by
 show G4 (q.v%2 ^ (10*q.n) ||| x.val <<< (10*q.n)) _=_;rw[y3,Y1,x6,jr (by omega),jq (by omega),O8,Y2,R1]
 congr 1;omega
theorem at_ext (q:Pk)(i j k:Nat):(q.extract i j).at' k=q.at' (i+k):=AN λl hl=>by
 show G4 (q.v >>> (10*i)) _=_;rw[C_]
 congr 1;omega
theorem at_app_lt (a b:Pk)(h:i<a.n):(a++b).at' i=a.at' i:=AN λj hj=>by
 show G4 (a.v%2 ^ (10*a.n) ||| b.v <<< (10*a.n)) _=_;rw[y3,Y1,x6,jq (by omega),jr (by omega)];simp
theorem at_app_ge (a b:Pk)(i:Nat):(a++b).at' (a.n+i)=b.at' i:=AN λj hj=>by
 show G4 (a.v%2 ^ (10*a.n) ||| b.v <<< (10*a.n)) _=_;rw[y3,Y1,x6,jr (by omega),jq (by omega),O8,Y2,R1]
 congr 1;omega
theorem ofF_n (f:Nat->El):∀n,(ofF f n).n=n
 |0=>rfl
 |n+1=>by show(ofF f n).n+1=_;rw[ofF_n f n]
theorem ofF_at (f:Nat->El):∀(n:Nat) {i:Nat},i<n->(ofF f n).at' i=f i
 |0,_,h=>absurd h (BR _)
 | n + 1, i, h => by
  show((ofF f n).push (f n)).at' i=_
  by_cases c:i=n
  ·subst c;have:=at_push (ofF f i) (f i);rw[ofF_n] at this;exact this
  ·rw[at_push_lt _ _ (by rw[ofF_n];omega)];exact ofF_at f n (by omega)
noncomputable def down (p:Pk)(k l:Nat):Pk:=⟨p.v%2 ^ (10*l) ||| (p.at' k).val <<< (10*l) ||| ((p.v >>> (10*l))%2 ^ (10*(k-l))) <<< (10*(l+1)) ||| (p.v >>> (10*(k+1))) <<< (10*(k+1)),p.n⟩
theorem Mm {x:El}{j:Nat}(h:10<=j):G4 x.val j=false:=Nat.testBit_lt_two_pow (G0 x.isLt (x8 (show 0<2 by decide) h))
theorem at_down (p:Pk){k l:Nat}(h:l<=k)(i:Nat):(p.down k l).at' i=if i=l then p.at' k else if l<i/\i<=k then p.at' (i-1) else p.at' i:=by
 have e:∀j,j<10->G4 (p.down k l).v (10*i+j)=((decide (10*i+j<10*l)&&G4 p.v (10*i+j))||(decide (10*i+j>=10*l)&&G4 (p.at' k).val (10*i+j-10*l))||(decide (10*i+j>=10*(l+1))&&(decide (10*i+j-10*(l+1)<10*(k-l))&&G4 p.v (10*l+(10*i+j-10*(l+1)))))||(decide (10*i+j>=10*(k+1))&&G4 p.v (10*(k+1)+(10*i+j-10*(k+1))))):=λj hj=>by
  show G4 (p.v%2 ^ (10*l) ||| (p.at' k).val <<< (10*l) ||| ((p.v >>> (10*l))%2 ^ (10*(k-l))) <<< (10*(l+1)) ||| (p.v >>> (10*(k+1))) <<< (10*(k+1))) _=_;rw[y3,y3,y3,Y1,x6,x6,x6,Y1,C_,C_]
 by_cases c1:i=l
 ·rw[jt c1];subst c1;refine at_val λj hj=>?_;rw[e j hj,jr (show ¬10*i+j<10*i by omega),jq (show 10*i+j>=10*i by omega),jr (show ¬10*i+j>=10*(i+1) by omega),jr (show ¬10*i+j>=10*(k+1) by omega),show 10*i+j-10*i=j by omega];simp
 ·rw[ju c1]
  by_cases c2:l<i/\i<=k
  ·rw[jt c2];refine AN λj hj=>?_;rw[e j hj,jr (show ¬10*i+j<10*l by omega),Mm (show 10<=10*i+j-10*l by omega),jq (show 10*i+j>=10*(l+1) by omega),jq (show 10*i+j-10*(l+1)<10*(k-l) by omega),jr (show ¬10*i+j>=10*(k+1) by omega),show 10*l+(10*i+j-10*(l+1))=10*(i-1)+j by omega];simp
  ·rw[ju c2];refine AN λj hj=>?_
   by_cases c3:i<l
   ·rw[e j hj,jq (show 10*i+j<10*l by omega),jr (show ¬10*i+j>=10*l by omega),jr (show ¬10*i+j>=10*(l+1) by omega),jr (show ¬10*i+j>=10*(k+1) by omega)];simp
   ·rw[e j hj,jr (show ¬10*i+j<10*l by omega),Mm (show 10<=10*i+j-10*l by omega),jr (show ¬10*i+j-10*(l+1)<10*(k-l) by omega),jq (show 10*i+j>=10*(k+1) by omega),show 10*(k+1)+(10*i+j-10*(k+1))=10*i+j by omega];simp
def over (p:Pk)(x:Nat)(r:Pk):Pk:=⟨p.v%2 ^ (10*x) ||| (r.v%2 ^ (10*r.n)) <<< (10*x) ||| (p.v >>> (10*(x+r.n))) <<< (10*(x+r.n)),p.n⟩
theorem at_over (p r:Pk)(x i:Nat):(p.over x r).at' i=if x<=i/\i<x+r.n then r.at' (i-x) else p.at' i:=by
 have e:∀j,j<10->G4 (p.over x r).v (10*i+j)=((decide (10*i+j<10*x)&&G4 p.v (10*i+j))||(decide (10*i+j>=10*x)&&(decide (10*i+j-10*x<10*r.n)&&G4 r.v (10*i+j-10*x)))||(decide (10*i+j>=10*(x+r.n))&&G4 p.v (10*(x+r.n)+(10*i+j-10*(x+r.n))))):=λj hj=>by
  show G4 (p.v%2 ^ (10*x) ||| (r.v%2 ^ (10*r.n)) <<< (10*x) ||| (p.v >>> (10*(x+r.n))) <<< (10*(x+r.n))) _=_;rw[y3,y3,Y1,x6,x6,Y1,C_]
 by_cases c:x<=i/\i<x+r.n
 ·rw[jt c];refine AN λj hj=>?_;rw[e j hj,jr (show ¬10*i+j<10*x by omega),jq (show 10*i+j>=10*x by omega),jq (show 10*i+j-10*x<10*r.n by omega),jr (show ¬10*i+j>=10*(x+r.n) by omega),show 10*i+j-10*x=10*(i-x)+j by omega];simp
 ·rw[ju c];refine AN λj hj=>?_
  by_cases c3:i<x
  ·rw[e j hj,jq (show 10*i+j<10*x by omega),jr (show ¬10*i+j>=10*x by omega),jr (show ¬10*i+j>=10*(x+r.n) by omega)];simp
  ·rw[e j hj,jr (show ¬10*i+j<10*x by omega),jr (show ¬10*i+j-10*x<10*r.n by omega),jq (show 10*i+j>=10*(x+r.n) by omega),show 10*(x+r.n)+(10*i+j-10*(x+r.n))=10*i+j by omega];simp
end Pk
end Tm
end L2
end
section
namespace L2
namespace Tm
open PySem PySem.W PyProof.Rows
def ls (it:Array Keyed)(q:Pk):List Keyed:=(C7 q.n).map λi=>N9 it (q.at' i).val
abbrev mp (it:Array Keyed)(q:Pk):Array Keyed:=(ls it q).toArray
theorem Ak (q:Pk)(i:Nat):(ls it q)[i]?=if i<q.n then some (N9 it (q.at' i).val) else none:=by
 unfold ls;rw[C6]
 by_cases c:i<q.n
 ·rw[jt c,Er c];rfl
 ·rw[ju c,O6 (by rw[Q8];omega)];rfl
theorem Z6 (q:Pk):(ls it q).length=q.n:=by unfold ls;rw[A9,Q8]
theorem Cw (q:Pk)(h:∀i,l[i]?=if i<q.n then some (N9 it (q.at' i).val) else none):l=ls it q:=Ew λi=>by rw[h,Ak]
theorem SA (q:Pk)(x:El):(mp it q).push (N9 it x.val)=mp it (q.push x):=by
 have:ls it q++[N9 it x.val]=ls it (q.push x):=Cw _ λi=>by
  show _=if i<q.n+1 then _ else _
  by_cases c:i<q.n
  ·rw[Q7 (by rw[Z6];exact c),Ak,jt c,jt (by omega),Pk.at_push_lt _ _ c]
  ·rw[Q6 (by rw[Z6];omega),Z6]
   by_cases c2:i=q.n
   ·subst c2;rw[n6,jt (by omega),Pk.at_push];rfl
   ·rw[ju (by omega),O6 (by rw[P5];omega)]
 show(ls it q).toArray.push _=(ls it (q.push x)).toArray;rw[<- this,List.push_toArray]
theorem mp_app (q r:Pk):mp it q++mp it r=mp it (q++r):=by
 have:ls it q++ls it r=ls it (q++r):=Cw _ λi=>by
  show _=if i<q.n+r.n then _ else _
  by_cases c:i<q.n
  ·rw[Q7 (by rw[Z6];exact c),Ak,jt c,jt (by omega),Pk.at_app_lt _ _ c]
  ·rw[Q6 (by rw[Z6];omega),Z6,Ak];obtain⟨k,rfl⟩:∃k,i=q.n+k:=⟨i-q.n,by omega⟩;rw[Pk.at_app_ge,show q.n+k-q.n=k by omega]
   by_cases c2:k<r.n
   ·rw[jt c2,jt (by omega)]
   ·rw[ju c2,ju (by omega)]
 show(ls it q).toArray++(ls it r).toArray=(ls it (q++r)).toArray;rw[<- this];exact(List.append_toArray _ _)
theorem DZ (q:Pk)(i j:Nat):(mp it q).extract i j=mp it (q.extract i j):=by
 have:(ls it q).extract i j=ls it (q.extract i j):=Cw _ λk=>by
  show((ls it q).drop i |>.take (j-i))[k]?=if k<min j q.n-i then _ else _;rw[List.getElem?_take,List.getElem?_drop,Ak,Pk.at_ext]
  by_cases c:k<j-i
  ·rw[jt c]
   by_cases c2:i+k<q.n
   ·rw[jt c2,jt (by omega)]
   ·rw[ju c2,ju (by omega)]
  ·rw[ju c,ju (by omega)]
 show(ls it q).toArray.extract i j=(ls it (q.extract i j)).toArray;rw[<- this,List.extract_toArray]
theorem mp_rev (q:Pk):(mp it q).reverse=mp it q.reverse:=by
 have:(ls it q).reverse=ls it q.reverse:=Cw _ λk=>by
  have hn:q.reverse.n=q.n:=Pk.ofF_n _ _;rw[hn]
  by_cases c:k<q.n
  ·rw[List.getElem?_reverse (by rw[Z6];exact c),Z6,Ak,jt (by omega),jt c,show q.reverse.at' k=q.at' (q.n-1-k) from Pk.ofF_at _ _ c]
  ·rw[ju c,O6 (by rw[w9,Z6];omega)]
 show(ls it q).toArray.reverse=(ls it q.reverse).toArray;rw[<- this,List.reverse_toArray]
theorem Cy {it:Array Keyed}(q:Pk):(mp it q).size=q.size:=by
 show(ls it q).toArray.size=q.n;rw[D9,Z6]
abbrev arr1 (x:Keyed):Array Keyed:=#[x]
theorem mp_one (x:El):arr1 (N9 it x.val)=mp it (Pk.one x):=by
 have:[N9 it x.val]=ls it (Pk.one x):=Cw _ λi=>by
  show _=if i<1 then _ else _
  by_cases c:i<1
  ·obtain rfl:i=0:=by omega
   rw[jt (by decide),show(Pk.one x).at' 0=x from Pk.at_val λj hj=>by show G4 x.val _=_;congr 1;omega];rfl
  ·rw[ju c,O6 (by rw[P5];omega)]
 show [N9 it x.val].toArray=_;rw[this]
structure S where
 p:Pk
 pend:Array (Nat×Nat×Nat)
 g:Nat
abbrev N:=StateT S Option
def toSt (κ:d5)(it:Array Keyed)(s:S):SortSt:=Aa κ (mp it s.p) s.pend s.g none
def Sim (prog:C3)(w:B8)(A:C8)(E:A1->A4->Prop)(sh:A4)(κ:d5)(it:Array Keyed){α β:Type}(F:β->α)(P:StateT SortSt Sem α)(m:N β):Prop:=
 ∀(s:S) (b:β) (s':S),m s=some (b,s')->∀Q:α->SortSt->Prop,Q (F b) (toSt κ it s')->wpS (A6 prog w) A E sh P Q (toSt κ it s)
section
variable {prog:C3}{w:B8}{A:C8}{E:A1->A4->Prop}{sh:A4}{κ:d5}{it:Array Keyed}{α β γ δ:Type}
theorem T0 {F:β->α}(b:β){a:α}(h:a=F b):Sim prog w A E sh κ it F (pure a) (pure b):=λs b' s' e Q q=>by
 cases e;exact wpS_pure (by rw[h];exact q)
theorem D3 {F:β->α}{G:δ->γ}{P:StateT SortSt Sem γ}{m:N δ}{f:γ->StateT SortSt Sem α}{g:δ->N β}(h1:Sim prog w A E sh κ it G P m)(h2:∀d,Sim prog w A E sh κ it F (f (G d)) (g d)):Sim prog w A E sh κ it F (P>>=f) (m>>=g):=λs b s' e Q q=>by
 cases h:m s with
 | none =>
  have:(m>>=g) s=none:=by show(m s).bind _=none;rw[h];rfl
  rw[this] at e;cases e
 | some r =>
  obtain⟨d,s1⟩:=r;have:(m>>=g) s=g d s1:=by show(m s).bind _=_;rw[h];rfl
  rw[this] at e;exact wpS_bind (h1 s d s1 h _ (h2 d s1 b s' e Q q))
theorem Bx:Sim prog w A E sh κ it (toSt κ it) get get:=λs b s' e Q q=>by
 cases e;exact wpS_get q
theorem Mn {f:SortSt->SortSt}{g:S->S}(h:∀s,f (toSt κ it s)=toSt κ it (g s)):Sim prog w A E sh κ it id (modify f) (modify g):=λs b s' e Q q=>by
 cases e;refine wpS_modify ?_;rw[h];exact q
theorem SC {st:SortSt}{s0:S}(h:st=toSt κ it s0):Sim prog w A E sh κ it id (set st) (set s0):=λs b s' e Q q=>by
 cases e;subst h;exact A8 ⟨rfl,q⟩
theorem SD {x:String}:Sim prog w A E sh κ it id (liftM (rule x):StateT SortSt Sem Unit) (pure ()):=λs b s' e Q q=>by
 cases e;exact wpS_lift (j9 ⟨rfl,q⟩)
theorem By {F:β->α}{P:StateT SortSt Sem α}:Sim prog w A E sh κ it F P (λ_=>none):=λs b s' e=>nomatch e
theorem v5 {F:β->α}{c:Prop}[Decidable c]{P1 P2:StateT SortSt Sem α}{m1 m2:N β}(h1:c->Sim prog w A E sh κ it F P1 m1)(h2:¬c->Sim prog w A E sh κ it F P2 m2):Sim prog w A E sh κ it F (if c then P1 else P2) (if c then m1 else m2):=by
 by_cases h:c
 ·rw[jt h,jt h];exact h1 h
 ·rw[ju h,ju h];exact h2 h
def stepF (F:β->α):ForInStep β->ForInStep α
 |.done d=>.done (F d)
 |.yield d=>.yield (F d)
theorem Mo {F:β->α}{f:Nat->α->StateT SortSt Sem (ForInStep α)}{g:Nat->β->N (ForInStep β)}(h:∀i d,Sim prog w A E sh κ it (stepF F) (f i (F d)) (g i d)):∀(l:List Nat) (d:β),Sim prog w A E sh κ it F (forIn l (F d) f) (forIn l d g)
 |[],d=>by rw[CU,CU];exact T0 d rfl
 | x :: l, d => by
  rw[EA,EA];refine D3 (h x d) λr=>?_;cases r with
  |done d'=>exact T0 d' rfl
  |yield d'=>exact Mo h l d'
theorem Cz {F:β->α}{a b:Nat}{c:α}{d:β}(hc:c=F d){f:Nat->α->StateT SortSt Sem (ForInStep α)}{g:Nat->β->N (ForInStep β)}(h:∀i d,Sim prog w A E sh κ it (stepF F) (f i (F d)) (g i d)):Sim prog w A E sh κ it F (forIn [a:b] c f) (forIn (L9 a (b-a)) d g):=by
 rw[Jq];have hsz:([a:b]:Std.Legacy.Range).size=b-a:=by simp[Std.Legacy.Range.size]
 show Sim prog w A E sh κ it F (forIn (L9 a ([a:b]:Std.Legacy.Range).size 1) c f) _;rw[hsz,hc];exact Mo h _ d
def elM (q:Pk)(i:Nat):N El:=if i<q.n then pure (q.at' i) else λ_=>none
abbrev ite' (it:Array Keyed)(x:El):Keyed:=N9 it x.val
theorem CA (q:Pk)(i:Nat):Sim prog w A E sh κ it (ite' it) (elem' (mp it q) i) (elM q i):=by
 rw[elem'_eq];unfold elM;rw[Gw,Ak]
 by_cases c:i<q.n
 ·rw[jt c,jt c];exact T0 _ rfl
 ·rw[ju c,ju c];exact By
def ltM (lt:Nat->Nat->Bool)(n:Nat)(i j:El):N (Option Bool):=if i.val<n/\j.val<n then pure (some (lt i.val j.val)) else λ_=>none
variable {lt:Nat->Nat->Bool}{n:Nat}
def Asks (prog:C3)(w:B8)(A:C8)(sh:A4)(κ:d5)(it:Array Keyed)(lt:Nat->Nat->Bool)(n:Nat):Prop:=∀i j (C:Bool->A4->Prop),i<n->j<n->C (lt i j) sh->A5 (A6 prog w) A (keyLt' κ (N9 it i).1 (N9 it j).1) C (λ_ _=>False) sh
theorem D_ (hA:Asks prog w A sh κ it lt n)(i j:El):Sim prog w A E sh κ it id (lt' (ite' it i) (ite' it j)) (ltM lt n i j):=by
 unfold ltM
 by_cases c:i.val<n/\j.val<n
 ·rw[jt c];intro s b s' e Q q;cases e;rw[lt'_eq];refine wpS_bind (wpS_get ?_);refine wpS_bind (wpS_lift (As ?_));refine F7 (hA i.val j.val (λb s2=>b=lt i.val j.val/\s2=sh) c.1 c.2 ⟨rfl,rfl⟩) (λb s2 hb=>?_) λ_ _ z=>z.elim;obtain⟨rfl,rfl⟩:=hb;exact⟨rfl,wpS_pure q⟩
 ·rw[ju c];exact By
def AO:Bool->Keyed->Array Keyed->Nat->Nat->Nat->StateT SortSt Sem (Option Nat):=sortPriv% PySem.Builtin.gallop
def Ia:Array Keyed->Array Keyed->StateT SortSt Sem (Array Keyed):=sortPriv% PySem.Builtin.mergeLo
def Ib:Array Keyed->Array Keyed->StateT SortSt Sem (Array Keyed):=sortPriv% PySem.Builtin.mergeHi
noncomputable def beyM (lt:Nat->Nat->Bool)(n:Nat)(l:Bool)(x:El)(q:Pk)(o i:Nat):N (Option Bool):=do
 let y ← elM q (o+i)
 if l=true then ltM lt n y x
 else do
  let r ← ltM lt n x y
  pure (Option.map (λx=>!x) r)
noncomputable def galM (lt:Nat->Nat->Bool)(n:Nat)(l:Bool)(x:El)(q:Pk)(o z h:Nat):N (Option Nat):=do
 let mut u:=0
 let mut v:=1
 let mut a:=0
 let mut b:=0
 let some r ← beyM lt n l x q o h|return none
 if r then
  let t:=z-h
  for _ in L9 0 (z-0) do
   if v>=t then break
   let some m ← beyM lt n l x q o (h+v)|return none
   if !m then break
   u:=v
   v:=2*v+1
  a:=h+u+1
  b:=h+min v t
 else
  let t:=h+1
  for _ in L9 0 (z-0) do
   if v>=t then break
   let some m ← beyM lt n l x q o (h-v)|return none
   if m then break
   u:=v
   v:=2*v+1
  a:=h+1-min v t
  b:=h-u
 for _ in L9 0 (z-0) do
  if a>=b then break
  let c:=a+(b-a)/2
  let some m ← beyM lt n l x q o c|return none
  if m then a:=c+1 else b:=c
 return some b
noncomputable def beyK (l:Bool)(x:Keyed)(q:Array Keyed)(o i:Nat):StateT SortSt Sem (Option Bool):=do
 let y ← elem' q (o+i)
 if l=true then lt' y x
 else do
  let r ← lt' x y
  pure (Option.map (λx=>!x) r)
theorem gal_eq (l:Bool)(x:Keyed)(q:Array Keyed)(o z h:Nat):AO l x q o z h=(do
 let mut u:=0
 let mut v:=1
 let mut a:=0
 let mut b:=0
 let some r ← beyK l x q o h|return none
 if r then
  let t:=z-h
  for _ in [0:z] do
   if v>=t then break
   let some m ← beyK l x q o (h+v)|return none
   if !m then break
   u:=v
   v:=2*v+1
  a:=h+u+1
  b:=h+min v t
 else
  let t:=h+1
  for _ in [0:z] do
   if v>=t then break
   let some m ← beyK l x q o (h-v)|return none
   if m then break
   u:=v
   v:=2*v+1
  a:=h+1-min v t
  b:=h-u
 for _ in [0:z] do
  if a>=b then break
  let c:=a+(b-a)/2
  let some m ← beyK l x q o c|return none
  if m then a:=c+1 else b:=c
 return some b):=rfl
theorem SE (hA:Asks prog w A sh κ it lt n)(l:Bool)(x:El)(q:Pk)(o i:Nat):Sim prog w A E sh κ it id (beyK l (ite' it x) (mp it q) o i) (beyM lt n l x q o i):=by
 unfold beyM beyK;refine D3 (CA q _) λy=>?_;refine v5 (λ_=>D_ hA y x) λ_=>?_;exact D3 (D_ hA x y) λr=>T0 _ rfl
theorem Ie (hA:Asks prog w A sh κ it lt n)(l:Bool)(x:El)(q:Pk)(o z h:Nat):Sim prog w A E sh κ it id (AO l (ite' it x) (mp it q) o z h) (galM lt n l x q o z h):=by
 have bey:=λi=>SE (E:=E) hA l x q o i;rw[gal_eq];unfold galM;generalize beyK l (ite' it x) (mp it q) o=B at *;generalize beyM lt n l x q o=BM at *;dsimp only
 repeat' first
   |exact T0 _ rfl
   |refine v5 (λ_=>?_) λ_=>?_
   |(refine D3 (bey _) λy=>?_;cases y <;> dsimp only[id])
   |(refine D3 (Cz (F:=id) rfl λi d=>?_) λd=>?_ <;> obtain⟨r,d⟩:=d <;> cases r <;> dsimp only[id])
end
end Tm
end L2
end
section
namespace L2
namespace Tm
open PySem PySem.W PyProof.Rows
section
variable {prog:C3}{w:B8}{A:C8}{E:A1->A4->Prop}{sh:A4}{κ:d5}{it:Array Keyed}{α β γ δ:Type}{lt:Nat->Nat->Bool}{n:Nat}
def CB:Nat->StateT SortSt Sem Unit:=sortPriv% PySem.Builtin.setMinGallop
theorem SF (m:Nat):CB m=modify λs=>Aa (kindOf s) (arrOf s) (c8 s) m (failedOf s):=rfl
def sgM (m:Nat):N Unit:=modify λs=>{ s with g:=m }
theorem Mp (m:Nat):Sim prog w A E sh κ it id (CB m) (sgM m):=by
 rw[SF];exact Mn λ_=>rfl
def nopM:N Unit:=pure ()
theorem FP {x:String}:Sim prog w A E sh κ it id (liftM (rule x):StateT SortSt Sem Unit) nopM:=SD
abbrev FM (it:Array Keyed){ρ:Type}(d:Option Pk×Pk×ρ):Option (Array Keyed)×Array Keyed×ρ:=(d.1.map (mp it),mp it d.2.1,d.2.2)
abbrev FH (it:Array Keyed){ρ:Type}(d:Option Pk×Nat×Nat×Pk×ρ):Option (Array Keyed)×Nat×Nat×Array Keyed×ρ:=(d.1.map (mp it),d.2.1,d.2.2.1,mp it d.2.2.2.1,d.2.2.2.2)
theorem mlo_eq (a b:Array Keyed):Ia a b=(do
 rule "list.sort.merge-lo"
 let t:=a.size+b.size
 let dn (o:Array Keyed) (i j:Nat):=o++a.extract i a.size++b.extract j b.size
 let la (o:Array Keyed) (i j:Nat):=o++b.extract j b.size++a.extract i a.size
 let mut o:Array Keyed:=arr1 (← elem' b 0)
 let mut i:=0
 let mut j:=1
 if j == b.size then return dn o i j
 if i+1 == a.size then return la o i j
 let mut m:=gallopOf (← get)
 for _ in [0:t] do
  let mut c:=0
  let mut d:=0
  for _ in [0:t] do
   let some y ← lt' (← elem' b j) (← elem' a i)|return dn o i j
   if y then
    o:=o.push (← elem' b j)
    j:=j+1
    d:=d+1
    c:=0
    if j == b.size then return dn o i j
    if d>=m then break
   else
    o:=o.push (← elem' a i)
    i:=i+1
    c:=c+1
    d:=0
    if i+1 == a.size then return la o i j
    if c>=m then break
  rule "list.sort.gallop"
  m:=m+1
  for _ in [0:t] do
   if m>1 then m:=m-1
   CB m
   let some k ← AO false (← elem' b j) a i (a.size-i) 0|return dn o i j
   c:=k
   if k>0 then
    o:=o++a.extract i (i+k)
    i:=i+k
    if i+1 == a.size then return la o i j
    if i == a.size then return dn o i j
   o:=o.push (← elem' b j)
   j:=j+1
   if j == b.size then return dn o i j
   let some k ← AO true (← elem' a i) b j (b.size-j) 0|return dn o i j
   d:=k
   if k>0 then
    o:=o++b.extract j (j+k)
    j:=j+k
    if j == b.size then return dn o i j
   o:=o.push (← elem' a i)
   i:=i+1
   if i+1 == a.size then return la o i j
   if c<7&&d<7 then break
  m:=m+1
  CB m
 unsupported "internal:list.sort.merge-bound"):=rfl
noncomputable def mloM (lt:Nat->Nat->Bool)(n:Nat)(a b:Pk):N Pk:=do
 nopM
 let t:=a.size+b.size
 let dn (o:Pk) (i j:Nat):=o++a.extract i a.size++b.extract j b.size
 let la (o:Pk) (i j:Nat):=o++b.extract j b.size++a.extract i a.size
 let mut o:Pk:=Pk.one (← elM b 0)
 let mut i:=0
 let mut j:=1
 if j == b.size then return dn o i j
 if i+1 == a.size then return la o i j
 let mut m:=S.g (← get)
 for _ in L9 (0) (t - 0) do
  let mut c:=0
  let mut d:=0
  for _ in L9 (0) (t - 0) do
   let some y ← ltM lt n (← elM b j) (← elM a i)|return dn o i j
   if y then
    o:=o.push (← elM b j)
    j:=j+1
    d:=d+1
    c:=0
    if j == b.size then return dn o i j
    if d>=m then break
   else
    o:=o.push (← elM a i)
    i:=i+1
    c:=c+1
    d:=0
    if i+1 == a.size then return la o i j
    if c>=m then break
  nopM
  m:=m+1
  for _ in L9 (0) (t - 0) do
   if m>1 then m:=m-1
   sgM m
   let some k ← galM lt n false (← elM b j) a i (a.size-i) 0|return dn o i j
   c:=k
   if k>0 then
    o:=o++a.extract i (i+k)
    i:=i+k
    if i+1 == a.size then return la o i j
    if i == a.size then return dn o i j
   o:=o.push (← elM b j)
   j:=j+1
   if j == b.size then return dn o i j
   let some k ← galM lt n true (← elM a i) b j (b.size-j) 0|return dn o i j
   d:=k
   if k>0 then
    o:=o++b.extract j (j+k)
    j:=j+k
    if j == b.size then return dn o i j
   o:=o.push (← elM a i)
   i:=i+1
   if i+1 == a.size then return la o i j
   if c<7&&d<7 then break
  m:=m+1
  sgM m
 (λ_=>none)
theorem mhi_eq (a b:Array Keyed):Ib a b=(do
 rule "list.sort.merge-hi"
 let t:=a.size+b.size
 let dn (o:Array Keyed) (i j:Nat):=a.extract 0 i++b.extract 0 j++o.reverse
 let fb (o:Array Keyed) (i j:Nat):=b.extract 0 j++a.extract 0 i++o.reverse
 let mut i:=a.size-1
 let mut j:=b.size
 let mut o:Array Keyed:=arr1 (← elem' a i)
 if i == 0 then return dn o i j
 if j == 1 then return fb o i j
 let mut m:=gallopOf (← get)
 for _ in [0:t] do
  let mut c:=0
  let mut d:=0
  for _ in [0:t] do
   let some y ← lt' (← elem' b (j-1)) (← elem' a (i-1))|return dn o i j
   if y then
    i:=i-1
    o:=o.push (← elem' a i)
    c:=c+1
    d:=0
    if i == 0 then return dn o i j
    if c>=m then break
   else
    j:=j-1
    o:=o.push (← elem' b j)
    d:=d+1
    c:=0
    if j == 1 then return fb o i j
    if d>=m then break
  rule "list.sort.gallop"
  m:=m+1
  for _ in [0:t] do
   if m>1 then m:=m-1
   CB m
   let some e ← AO false (← elem' b (j-1)) a 0 i (i-1)|return dn o i j
   let k:=i-e
   c:=k
   if k>0 then
    o:=o++(a.extract e i).reverse
    i:=e
    if i == 0 then return dn o i j
   j:=j-1
   o:=o.push (← elem' b j)
   if j == 1 then return fb o i j
   let some e ← AO true (← elem' a (i-1)) b 0 j (j-1)|return dn o i j
   let k:=j-e
   d:=k
   if k>0 then
    o:=o++(b.extract e j).reverse
    j:=e
    if j == 1 then return fb o i j
    if j == 0 then return dn o i j
   i:=i-1
   o:=o.push (← elem' a i)
   if i == 0 then return dn o i j
   if c<7&&d<7 then break
  m:=m+1
  CB m
 unsupported "internal:list.sort.merge-bound"):=rfl
noncomputable def mhiM (lt:Nat->Nat->Bool)(n:Nat)(a b:Pk):N Pk:=do
 nopM
 let t:=a.size+b.size
 let dn (o:Pk) (i j:Nat):=a.extract 0 i++b.extract 0 j++o.reverse
 let fb (o:Pk) (i j:Nat):=b.extract 0 j++a.extract 0 i++o.reverse
 let mut i:=a.size-1
 let mut j:=b.size
 let mut o:Pk:=Pk.one (← elM a i)
 if i == 0 then return dn o i j
 if j == 1 then return fb o i j
 let mut m:=S.g (← get)
 for _ in L9 (0) (t - 0) do
  let mut c:=0
  let mut d:=0
  for _ in L9 (0) (t - 0) do
   let some y ← ltM lt n (← elM b (j-1)) (← elM a (i-1))|return dn o i j
   if y then
    i:=i-1
    o:=o.push (← elM a i)
    c:=c+1
    d:=0
    if i == 0 then return dn o i j
    if c>=m then break
   else
    j:=j-1
    o:=o.push (← elM b j)
    d:=d+1
    c:=0
    if j == 1 then return fb o i j
    if d>=m then break
  nopM
  m:=m+1
  for _ in L9 (0) (t - 0) do
   if m>1 then m:=m-1
   sgM m
   let some e ← galM lt n false (← elM b (j-1)) a 0 i (i-1)|return dn o i j
   let k:=i-e
   c:=k
   if k>0 then
    o:=o++(a.extract e i).reverse
    i:=e
    if i == 0 then return dn o i j
   j:=j-1
   o:=o.push (← elM b j)
   if j == 1 then return fb o i j
   let some e ← galM lt n true (← elM a (i-1)) b 0 j (j-1)|return dn o i j
   let k:=j-e
   d:=k
   if k>0 then
    o:=o++(b.extract e j).reverse
    j:=e
    if j == 1 then return fb o i j
    if j == 0 then return dn o i j
   i:=i-1
   o:=o.push (← elM a i)
   if i == 0 then return dn o i j
   if c<7&&d<7 then break
  m:=m+1
  sgM m
 (λ_=>none)
local macro_rules | `(tactic| walk_at "mpZ")=>`(tactic| ((try simp only [SA,mp_app,DZ,mp_rev,mp_one]) <;> rfl))
theorem SG (hA:Asks prog w A sh κ it lt n)(a b:Pk):Sim prog w A E sh κ it (mp it) (Ia (mp it a) (mp it b)) (mloM lt n a b):=by
 have el:=λq i=>CA (prog:=prog) (w:=w) (A:=A) (E:=E) (sh:=sh) (κ:=κ) (it:=it) q i;have gl:=λl x q o z h=>Ie (E:=E) hA l x q o z h;have lq:=λi j=>D_ (E:=E) hA i j;rw[mlo_eq];unfold mloM;dsimp only;simp only[Cy,DZ]
 repeat' first
   |exact T0 _ (by walk_at "mpZ")
   |exact By
   |refine v5 (λ_=>?_) λ_=>?_
   |refine D3 FP λ_=>?_
   |refine D3 (el _ _) λx=>?_
   |(refine D3 (lq _ _) λy=>?_;cases y <;> dsimp only[id])
   |refine D3 Bx λs=>?_
   |refine D3 (Mp _) λ_=>?_
   |(refine D3 (gl _ _ _ _ _ _) λy=>?_;cases y <;> dsimp only[id])
   |(refine D3 (Cz (F:=FM it) (by walk_at "mpZ") λi d=>?_) λd=>?_;(obtain⟨r,d⟩:=d;dsimp only[FM];rotate_left);(obtain⟨r,d⟩:=d;cases r <;> dsimp only[FM,Option.map]))
theorem SJ (hA:Asks prog w A sh κ it lt n)(a b:Pk):Sim prog w A E sh κ it (mp it) (Ib (mp it a) (mp it b)) (mhiM lt n a b):=by
 have el:=λq i=>CA (prog:=prog) (w:=w) (A:=A) (E:=E) (sh:=sh) (κ:=κ) (it:=it) q i;have gl:=λl x q o z h=>Ie (E:=E) hA l x q o z h;have lq:=λi j=>D_ (E:=E) hA i j;rw[mhi_eq];unfold mhiM;dsimp only;simp only[Cy,DZ]
 repeat' first
   |exact T0 _ (by walk_at "mpZ")
   |exact By
   |refine v5 (λ_=>?_) λ_=>?_
   |refine D3 FP λ_=>?_
   |refine D3 (el _ _) λx=>?_
   |(refine D3 (lq _ _) λy=>?_;cases y <;> dsimp only[id])
   |refine D3 Bx λs=>?_
   |refine D3 (Mp _) λ_=>?_
   |(refine D3 (gl _ _ _ _ _ _) λy=>?_;cases y <;> dsimp only[id])
   |(refine D3 (Cz (F:=FH it) (by walk_at "mpZ") λi d=>?_) λd=>?_;(obtain⟨r,d⟩:=d;dsimp only[FH];rotate_left);(obtain⟨r,d⟩:=d;cases r <;> dsimp only[FH,Option.map]))
end
end Tm
end L2
end
section
namespace L2
namespace Tm
open PySem PySem.W PyProof.Rows
section
variable {prog:C3}{w:B8}{A:C8}{E:A1->A4->Prop}{sh:A4}{κ:d5}{it:Array Keyed}{α β γ δ:Type}{lt:Nat->Nat->Bool}{n:Nat}
abbrev setP (s:S)(p:Array (Nat×Nat×Nat)):S:=⟨s.p,p,s.g⟩
abbrev setA (s:S)(p:Pk):S:=⟨p,s.pend,s.g⟩
def AQ (lt:Nat->Nat->Bool)(n i j:Nat):N (Option Bool):=do
 let a:=S.p (← get)
 ltM lt n (← elM a i) (← elM a j)
theorem Mq (hA:Asks prog w A sh κ it lt n)(i j:Nat):Sim prog w A E sh κ it id (ltAt' i j) (AQ lt n i j):=by
 rw[ltAt'_eq];unfold AQ;refine D3 Bx λs=>?_;exact D3 (CA _ _) λx=>D3 (CA _ _) λy=>D_ hA x y
theorem Ig {F:β->α}{P:StateT SortSt Sem α}{m:N β}(h:∀s b s',m s=some (b,s')->∀Q:α->SortSt->Prop,Q (F b) (toSt κ it s')->wpS (A6 prog w) A E sh P Q (toSt κ it s)):Sim prog w A E sh κ it F P m:=h
theorem FQ {xs:Array Keyed}{q:Pk}(h:∀i,xs[i]?=if i<q.n then some (N9 it (q.at' i).val) else none):xs=mp it q:=by
 apply EI.mp
 exact Cw q λi=>by rw[U1];exact h i
theorem CC (q:Pk)(i:Nat):(mp it q)[i]?=if i<q.n then some (N9 it (q.at' i).val) else none:=by rw[Gw,Ak]
def revP (p:Pk)(i j:Nat):Pk:=Pk.ofF (λk=>if i<=k/\k<j then p.at' (i+j-1-k) else p.at' k) p.n
def revM (i j:Nat):N Unit:=λs=>if j<=s.p.n then some ((),setA s (revP s.p i j)) else none
theorem SK (i j:Nat):Sim prog w A E sh κ it id (Dm i j) (revM i j):=Ig λs b s' e Q q=>by
 unfold revM at e
 by_cases c:j<=s.p.n
 ·rw[jt c] at e;cases e;rw[reverseSlice'_eq];refine wpS_modify ?_;have hs:j<=(mp it s.p).size:=by rw[Cy];exact c
  have e1:mirror (mp it s.p) i j ((j-i)/2)=mp it (revP s.p i j):=FQ λk=>by
   rw[getElem?_mirror_all hs,CC,CC,show(revP s.p i j).n=s.p.n from Pk.ofF_n _ _]
   by_cases c2:k<s.p.n
   ·rw[jt c2,jt c2,show(revP s.p i j).at' k=_ from Pk.ofF_at _ _ c2]
    by_cases c3:i<=k/\k<j
    ·rw[jt c3,jt c3,jt (by omega)]
    ·rw[ju c3,ju c3]
   ·rw[ju c2,ju c2,ju (by omega)]
  show Q () (Aa κ (mirror (mp it s.p) i j ((j-i)/2)) s.pend s.g none);rw[e1];exact q
 ·rw[ju c] at e;cases e
def Ih (k l:Nat):N Unit:=λs=>if k<s.p.n/\l<=k then some ((),setA s (s.p.down k l)) else none
theorem SL (k l:Nat):Sim prog w A E sh κ it id (moveDown' k l) (Ih k l):=Ig λs b s' e Q q=>by
 unfold Ih at e
 by_cases c:k<s.p.n/\l<=k
 ·rw[jt c] at e;cases e;rw[moveDown'_eq];refine wpS_modify ?_;have hs:k<(mp it s.p).size:=by rw[Cy];exact c.1
  have e1:bubble (mp it s.p) k (k-l)=mp it (s.p.down k l):=FQ λi=>by
   rw[getElem?_bubble hs (k-l) (by omega),show k-(k-l)=l by omega,CC,CC,CC,Pk.at_down _ c.2,show(s.p.down k l).n=s.p.n from rfl]
   by_cases c2:i=l
   ·rw[jt c2,jt c.1,jt c2,jt (by omega)]
   ·rw[ju c2,ju c2]
    by_cases c3:l<i/\i<=k
    ·rw[jt c3,jt c3,jt (by omega),jt (by omega)]
    ·rw[ju c3,ju c3]
  show Q () (Aa κ (bubble (mp it s.p) k (k-l)) s.pend s.g none);rw[e1];exact q
 ·rw[ju c] at e;cases e
def wbK (x:Nat)(r:Array Keyed):StateT SortSt Sem Unit:=modify λs=>setArr s (r.toList.zipIdx.foldl (λa (p,j)=>a.setIfInBounds (x+j) p) (arrOf s))
def wbM (x:Nat)(r:Pk):N Unit:=λs=>if x+r.n<=s.p.n then some ((),setA s (s.p.over x r)) else none
theorem Mr (x:Nat):∀(l:List Keyed) (k:Nat) (a:Array Keyed) (i:Nat),x+k+l.length<=a.size->((l.zipIdx k).foldl (λa e=>a.setIfInBounds (x+e.2) e.1) a)[i]?=if x+k<=i/\i<x+k+l.length then l[i-(x+k)]? else a[i]?
 | [], k, a, i, h => by
  rw[ju (by rw[U8];omega)];rfl
 | y :: l, k, a, i, h => by
  rw[D2] at h;rw[List.zipIdx_cons,x5,Mr x l (k+1) _ i (by rw[Array.size_setIfInBounds];omega),D2,Array.getElem?_setIfInBounds]
  by_cases c:x+k=i
  ·subst c;rw[ju (by omega),jt rfl,jt (by omega),jt (by omega),n6];rfl
  ·by_cases c2:x+(k+1)<=i/\i<x+(k+1)+l.length
   ·rw[jt c2,jt (by omega),show i-(x+k)=(i-(x+(k+1)))+1 by omega,P4]
   ·rw[ju c2,ju c,ju (by omega)]
theorem sim_wb (x:Nat)(r:Pk):Sim prog w A E sh κ it id (wbK x (mp it r)) (wbM x r):=Ig λs b s' e Q q=>by
 unfold wbM at e
 by_cases c:x+r.n<=s.p.n
 ·rw[jt c] at e;cases e;refine wpS_modify ?_
  have e1:(ls it r).zipIdx.foldl (λa e=>a.setIfInBounds (x+e.2) e.1) (mp it s.p)=mp it (s.p.over x r):=FQ λi=>by
   rw[Mr x (ls it r) 0 (mp it s.p) i (by rw[Cy,Z6];exact c),Z6,Ak,CC,Pk.at_over,show(s.p.over x r).n=s.p.n from rfl]
   by_cases c2:x<=i/\i<x+r.n
   ·rw[jt (by omega),jt (by omega),jt c2,jt (by omega)];rfl
   ·rw[ju (by omega),ju c2]
  show Q () (Aa κ ((ls it r).zipIdx.foldl (λa e=>a.setIfInBounds (x+e.2) e.1) (mp it s.p)) s.pend s.g none);rw[e1];exact q
 ·rw[ju c] at e;cases e
theorem cr_eq (o z:Nat):countRun' o z=(do
 let mut k:=1
 for _ in [1:z] do
  let some y ← ltAt' (o+k) (o+k-1)|return none
  if y then break
  k:=k+1
 if k == z then return some k
 if k>1 then
  let some y ← ltAt' o (o+k-1)|return none
  if y then return some k
  Dm o (o+k)
 rule "list.sort.descending-run"
 k:=k+1
 let mut e:=0
 for _ in [k:z] do
  let some y ← ltAt' (o+k) (o+k-1)|return none
  if y then
   if e>0 then Dm (o+k-(e+1)) (o+k)
   e:=0
  else
   let some y ← ltAt' (o+k-1) (o+k)|return none
   if y then break
   e:=e+1
  k:=k+1
 if e>0 then Dm (o+k-(e+1)) (o+k)
 Dm o (o+k)
 for _ in [k:z] do
  let some y ← ltAt' (o+k) (o+k-1)|return none
  if y then break
  k:=k+1
 return some k):=rfl
noncomputable def crM (lt:Nat->Nat->Bool)(n o z:Nat):N (Option Nat):=do
 let mut k:=1
 for _ in L9 (1) (z-1) do
  let some y ← AQ lt n (o+k) (o+k-1)|return none
  if y then break
  k:=k+1
 if k == z then return some k
 if k>1 then
  let some y ← AQ lt n o (o+k-1)|return none
  if y then return some k
  revM o (o+k)
 nopM
 k:=k+1
 let mut e:=0
 for _ in L9 (k) (z - k) do
  let some y ← AQ lt n (o+k) (o+k-1)|return none
  if y then
   if e>0 then revM (o+k-(e+1)) (o+k)
   e:=0
  else
   let some y ← AQ lt n (o+k-1) (o+k)|return none
   if y then break
   e:=e+1
  k:=k+1
 if e>0 then revM (o+k-(e+1)) (o+k)
 revM o (o+k)
 for _ in L9 (k) (z-k) do
  let some y ← AQ lt n (o+k) (o+k-1)|return none
  if y then break
  k:=k+1
 return some k
theorem bs_eq (o z c:Nat):binarySort' o z c=(do
 for k in [max c 1:z] do
  let mut l:=0
  let mut r:=k
  for _ in [0:k] do
   if l>=r then break
   let m:=(l+r)/2
   let some y ← ltAt' (o+k) (o+m)|return false
   if y then r:=m else l:=m+1
  moveDown' (o+k) (o+l)
 return true):=rfl
noncomputable def bsM (lt:Nat->Nat->Bool)(n o z c:Nat):N Bool:=do
 for k in L9 (max c 1) (z - max c 1) do
  let mut l:=0
  let mut r:=k
  for _ in L9 (0) (k-0) do
   if l>=r then break
   let m:=(l+r)/2
   let some y ← AQ lt n (o+k) (o+m)|return false
   if y then r:=m else l:=m+1
  Ih (o+k) (o+l)
 return true
theorem ma_eq (i:Nat):mergeAt' i=(do
 let s ← get
 let (some (x,y,pw),some (u,v,_)):=((c8 s)[i]?,(c8 s)[i+1]?)|unsupported "internal:list.sort.pending"
 set (setPending s (((c8 s).setIfInBounds i (x,y+v,pw)).eraseIdxIfInBounds (i+1)))
 let some k ← AO false (← elem' (arrOf s) u) (arrOf s) x y 0|return false
 let (x,y):=(x+k,y-k)
 if y == 0 then return true
 let some v ← AO true (← elem' (arrOf s) (x+y-1)) (arrOf s) u v (v-1)|return false
 if v == 0 then return true
 let e:=(arrOf s).extract x u
 let f:=(arrOf s).extract u (u+v)
 let r ← if y<=v then Ia e f else Ib e f
 wbK x r
 return (λs=>(failedOf s).isNone) (← get)):=rfl
noncomputable def maM (lt:Nat->Nat->Bool)(n i:Nat):N Bool:=do
 let s ← get
 let (some (x,y,pw),some (u,v,_)):=((S.pend s)[i]?,(S.pend s)[i+1]?)|(λ_=>none)
 set (setP s (((S.pend s).setIfInBounds i (x,y+v,pw)).eraseIdxIfInBounds (i+1)))
 let some k ← galM lt n false (← elM (S.p s) u) (S.p s) x y 0|return false
 let (x,y):=(x+k,y-k)
 if y == 0 then return true
 let some v ← galM lt n true (← elM (S.p s) (x+y-1)) (S.p s) u v (v-1)|return false
 if v == 0 then return true
 let e:=(S.p s).extract x u
 let f:=(S.p s).extract u (u+v)
 let r ← if y<=v then mloM lt n e f else mhiM lt n e f
 wbM x r
 return (λ_=>true) (← get)
theorem sr_eq:sortRuns'=(do
 let z:=(arrOf (← get)).size
 let mr:=minRun' z z 0
 let mut o:=0
 for _ in [0:z] do
  if o>=z then break
  let some q ← countRun' o (z-o)|return
  let mut k:=q
  if k<mr then
   rule "list.sort.binary-insertion"
   let f:=min (z-o) mr
   if !(← binarySort' o f k) then return
   k:=f
  if let some (s1,n1,_):=(c8 (← get)).back? then
   let pw:=power' z (2*s1+n1) (2*s1+n1+n1+k) z
   for _ in [0:z] do
    let p:=c8 (← get)
    let some (_,_,b):=(if p.size>1 then p[p.size-2]? else none)|break
    if b<=pw then break
    if !(← mergeAt' (p.size-2)) then return
   modify λs=>setPending s ((c8 s).modify ((c8 s).size-1) λ(st,len,_)=>(st,len,pw))
  modify λs=>setPending s ((c8 s).push (o,k,0))
  o:=o+k
 for _ in [0:z] do
  let p:=c8 (← get)
  if p.size<=1 then break
  let i:=p.size-2
  let b:=if i>0 then p[i-1]?.map (·.2.1) else none
  let i:=if b.any (· < (p[i+1]?.elim 0 (·.2.1))) then i-1 else i
  if !(← mergeAt' i) then return):=rfl
noncomputable def srM (lt:Nat->Nat->Bool)(n:Nat):N Unit:=do
 let z:=(S.p (← get)).size
 let mr:=minRun' z z 0
 let mut o:=0
 for _ in L9 (0) (z - 0) do
  if o>=z then break
  let some q ← crM lt n o (z-o)|return
  let mut k:=q
  if k<mr then
   nopM
   let f:=min (z-o) mr
   if !(← bsM lt n o f k) then return
   k:=f
  if let some (s1,n1,_):=(S.pend (← get)).back? then
   let pw:=power' z (2*s1+n1) (2*s1+n1+n1+k) z
   for _ in L9 (0) (z-0) do
    let p:=S.pend (← get)
    let some (_,_,b):=(if p.size>1 then p[p.size-2]? else none)|break
    if b<=pw then break
    if !(← maM lt n (p.size-2)) then return
   modify λs=>setP s ((S.pend s).modify ((S.pend s).size-1) λ(st,len,_)=>(st,len,pw))
  modify λs=>setP s ((S.pend s).push (o,k,0))
  o:=o+k
 for _ in L9 (0) (z-0) do
  let p:=S.pend (← get)
  if p.size<=1 then break
  let i:=p.size-2
  let b:=if i>0 then p[i-1]?.map (·.2.1) else none
  let i:=if b.any (· < (p[i+1]?.elim 0 (·.2.1))) then i-1 else i
  if !(← maM lt n i) then return
theorem sim_cr (hA:Asks prog w A sh κ it lt n)(o z:Nat):Sim prog w A E sh κ it id (countRun' o z) (crM lt n o z):=by
 have lq:=λi j=>Mq (E:=E) hA i j;rw[cr_eq];unfold crM;dsimp only
 repeat' first
   |exact T0 _ rfl
   |refine v5 (λ_=>?_) λ_=>?_
   |refine D3 FP λ_=>?_
   |refine D3 (SK _ _) λ_=>?_
   |(refine D3 (lq _ _) λy=>?_;cases y <;> dsimp only[id])
   |(refine D3 (Cz (F:=id) rfl λi d=>?_) λd=>?_ <;> obtain⟨r,d⟩:=d <;> cases r <;> dsimp only[id])
theorem sim_bs (hA:Asks prog w A sh κ it lt n)(o z c:Nat):Sim prog w A E sh κ it id (binarySort' o z c) (bsM lt n o z c):=by
 have lq:=λi j=>Mq (E:=E) hA i j;rw[bs_eq];unfold bsM;dsimp only
 repeat' first
   |exact T0 _ rfl
   |refine v5 (λ_=>?_) λ_=>?_
   |refine D3 (SL _ _) λ_=>?_
   |(refine D3 (lq _ _) λy=>?_;cases y <;> dsimp only[id])
   |(refine D3 (Cz (F:=id) rfl λi d=>?_) λd=>?_ <;> obtain⟨r,d⟩:=d <;> cases r <;> try dsimp only[id])
theorem sim_ma (hA:Asks prog w A sh κ it lt n)(i:Nat):Sim prog w A E sh κ it id (mergeAt' i) (maM lt n i):=by
 have el:=λq i=>CA (prog:=prog) (w:=w) (A:=A) (E:=E) (sh:=sh) (κ:=κ) (it:=it) q i;have gl:=λl x q o z h=>Ie (E:=E) hA l x q o z h;rw[ma_eq];unfold maM;refine D3 Bx λs=>?_;dsimp only[toSt];generalize s.pend[i]?=e1;generalize s.pend[i+1]?=e2;rcases e1 with _|⟨x,y,pw⟩ <;> rcases e2 with _|⟨u,v,_⟩
 ·exact By
 ·exact By
 ·exact By
 dsimp only;refine D3 (SC rfl) λ_=>?_;refine D3 (el _ _) λa=>?_;refine D3 (gl _ _ _ _ _ _) λk=>?_;cases k with
 |none=>exact T0 _ rfl
 | some k =>
  dsimp only[id];refine v5 (λ_=>T0 _ rfl) λ_=>?_;refine D3 (el _ _) λb=>?_;refine D3 (gl _ _ _ _ _ _) λv=>?_;cases v with
  |none=>exact T0 _ rfl
  | some v =>
   dsimp only[id];refine v5 (λ_=>T0 _ rfl) λ_=>?_;rw[show(mp it s.p).extract (x+k) u=mp it (s.p.extract (x+k) u) from DZ _ _ _,show(mp it s.p).extract u (u+v)=mp it (s.p.extract u (u+v)) from DZ _ _ _]
   have tl:∀r:Pk,Sim prog w A E sh κ it id (do
       wbK (x+k) (mp it r)
       let s ← get
       pure (failedOf s).isNone) (do
       wbM (x+k) r
       let _ ← get
       pure true):=λr=>D3 (sim_wb _ _) λ_=>D3 Bx λs=>T0 _ rfl
   exact v5 (λ_=>D3 (SG hA _ _) tl) λ_=>D3 (SJ hA _ _) tl
theorem arr_of (s:S):arrOf (toSt κ it s)=mp it s.p:=rfl
theorem SM (s:S):c8 (toSt κ it s)=s.pend:=rfl
theorem sim_sr (hA:Asks prog w A sh κ it lt n):Sim prog w A E sh κ it id sortRuns' (srM lt n):=by
 have ma:=λi=>sim_ma (E:=E) hA i;have cr:=λo z=>sim_cr (E:=E) hA o z;have bs:=λo z c=>sim_bs (E:=E) hA o z c;rw[sr_eq];unfold srM;dsimp only;refine D3 Bx λs=>?_;dsimp only[arr_of];simp only[Cy];generalize Pk.size s.p=z
 repeat' first
   |exact T0 _ rfl
   |refine v5 (λ_=>?_) λ_=>?_
   |refine D3 FP λ_=>?_
   |(refine D3 (cr _ _) λy=>?_;cases y <;> dsimp only[id])
   |(refine D3 (bs _ _ _) λy=>?_;dsimp only[id])
   |(refine D3 (ma _) λy=>?_;dsimp only[id])
   |(refine D3 Bx λs=>?_;dsimp only[SM];by_cases hp:s.pend.size>1 <;> try simp only[hp,if_true,if_false])
   |refine D3 (Mn λs=>rfl) λ_=>?_
   |(generalize Array.back? _=e;rcases e with _|⟨s1,n1,_⟩ <;> dsimp only)
   |(generalize getElem? (Array.mk _) _=e;rcases e with _|⟨s1,n1,b⟩ <;> dsimp only)
   |split
   |(refine D3 (Cz (F:=id) rfl λi d=>?_) λd=>?_ <;> obtain⟨r,d⟩:=d <;> cases r <;> try dsimp only[id])
end
end Tm
end L2
end
section
namespace L2
namespace Tm
open PySem PySem.W PySem.Spec PyProof.Rows
def places (q:Pk):List Nat:=(C7 q.n).map λi=>(q.at' i).val
def idP (n:Nat):Pk:=Pk.ofF (λi=>⟨i%1024,BT _ (by decide)⟩) n
def tsort (lt:Nat->Nat->Bool)(n:Nat):Option (List Nat):=(srM lt n ⟨idP n,#[],7⟩).map λr=>places r.2.p
theorem SN {it:Array Keyed}(q:Pk):mp it q=(places q).toArray.map (N9 it):=by
 unfold places;rw[List.map_toArray,D8]
 rfl
theorem mp_id {it:Array Keyed}(h:it.size<=1024):mp it (idP it.size)=it:=by
 refine(FQ λi=>?_).symm;rw[show(idP it.size).n=it.size from Pk.ofF_n _ _]
 by_cases c:i<it.size
 ·rw[jt c,show(idP it.size).at' i=_ from Pk.ofF_at _ _ c];show it[i]?=some (N9 it (i%1024));rw[Nat.mod_eq_of_lt (by omega)];unfold N9;rw[Ay,o5 c];rfl
 ·rw[ju c,Dh (by omega)]
def outB (ps:List Nat)(vs:List A1):List A1:=ps.map λi=>vs.getD i Y3
section
variable {prog:C3}{w:B8}{A:C8}{E:A1->A4->Prop}{s:A4}
theorem SO {ps:List Nat}{a:A0}{vs:List A1}{n:Nat}{lt:Nat->Nat->Bool}{P:PySem.Fin->A4->Prop}(ho:s.heap.get? a=some (seqObj "list" vs.toArray n))(l2:2<=vs.length)(hm:vs.length<=1000)(ht:tsort lt vs.length=some ps)(pl:ps.length=vs.length)
   (hk:∀h1,AJ s.heap h1 a->∃κ,(∀Q:d5->A4->Prop,Q κ { s with heap:=h1 }->A5 (A6 prog w) A (keyKind' vs.toArray) Q E { s with heap:=h1 })/\∀i j (C:Bool->A4->Prop),i<vs.length->j<vs.length->C (lt i j) { s with heap:=h1 }->kas_ask prog w A κ vs i j C { s with heap:=h1 })
   (h:∀h2 e,AJ s.heap h2 a->h2.get? a=some (seqObj "list" (outB ps vs).toArray e)->P (.done (.ret .none)) { s with heap:=h2 }):A5 (A6 prog w) A (L8.«list.sort» ⟨[.ref a],[]⟩) P E s:=by
 have ha:a<s.heap.objs.size:=B9 ho;have hsz:vs.toArray.size=vs.length:=by simp
 rw[list_sort_plain];refine A2 (listItems_at ho rfl ?_);refine A2 (BW ho rfl ?_ (by rw[hsz,K9];omega) (D5 _));obtain⟨e1,ho1⟩:∃e1,(s.heap.update a (G9 λ_=>(#[]:Array A1))).get? a=some (seqObj "list" #[] e1):=⟨_,Dl ho λ_=>#[]⟩;refine A2 (seqEpoch_at ho1 rfl ?_);refine A2 (wpAny_newTuple ?_ (by show vs.length<=_;rw[K9];omega));refine A2 (BG ?_ (D5 _));refine N4 ?_;show A5 (A6 prog w) A _ P E { s with heap:=((s.heap.update a (G9 λ_=>(#[]:Array A1))).push (seqObj "tuple" vs.toArray 0)).push (seqObj "list" #[] 0) };have ho3:=B6 (seqObj "list" #[] 0) (B6 (seqObj "tuple" vs.toArray 0) ho1)
 have k3:AJ s.heap (((s.heap.update a (G9 λ_=>(#[]:Array A1))).push (seqObj "tuple" vs.toArray 0)).push (seqObj "list" #[] 0)) a:=λb o hb e=>
  B6 _ (B6 _ (((U2 s.heap a (G9 λ_=>(#[]:Array A1))).2 b hb).trans e))
 generalize ((s.heap.update a (G9 λ_=>(#[]:Array A1))).push (seqObj "tuple" vs.toArray 0)).push (seqObj "list" #[] 0)=h3 at ho3 k3 ⊢;dsimp only
 have last:∀out:Array A1,out.size=vs.length->out=(outB ps vs).toArray->∃e,(h3.update a (G9 λ_=>out)).get? a=some (seqObj "list" (outB ps vs).toArray e)/\AJ s.heap (h3.update a (G9 λ_=>out)) a:=λout _ eo=>
  ⟨_,by rw[<- eo];exact Dl ho3 λ_=>out,λb o hb e=>((U2 h3 a (G9 λ_=>out)).2 b hb).trans (k3 b o hb e)⟩
 have h2:¬vs.toArray.size<2:=by omega
 rw[ju h2,ju h2];obtain⟨κ,q1,q2⟩:=hk h3 k3;refine A2 (q1 _ ?_)
 have hA:Asks prog w A { s with heap:=h3 } κ (vs.toArray.zip vs.toArray) lt vs.length:=λi j C hi hj c=>by
  have:=q2 i j C hi hj c;rw[kas_ask_eq] at this;exact this
 unfold tsort at ht;cases hr:srM lt vs.length ⟨idP vs.length,#[],7⟩ with
 |none=>rw[hr] at ht;cases ht
 |some r=>
 obtain⟨⟨⟩,sF⟩:=r;rw[hr] at ht;have ep:places sF.p=ps:=F6 ht;have hz:(vs.toArray.zip vs.toArray).size=vs.length:=by simp
 have st0:Aa κ (vs.toArray.zip vs.toArray) #[] 7 none=toSt κ (vs.toArray.zip vs.toArray) ⟨idP vs.length,#[],7⟩:=by
  unfold toSt;have:=mp_id (it:=vs.toArray.zip vs.toArray) (by omega);rw[hz] at this;show _=Aa κ (mp (vs.toArray.zip vs.toArray) (idP vs.length)) #[] 7 none;rw[this]
 have wp:=sim_sr (E:=E) hA _ _ _ hr (λ_ st'=>∃p:Array Nat,p.size=vs.length/\arrOf st'=p.map (N9 (vs.toArray.zip vs.toArray))/\failedOf st'=none/\p.toList=ps) ⟨ps.toArray,by rw[D9,pl],by rw[<- ep];exact SN sF.p,rfl,by simp⟩;rw[<- st0] at wp;refine A2 (F7 wp ?_ λ_ _ e=>e);rintro⟨⟨⟩,st'⟩ s' ⟨rfl,p,hp,har,hf,ep⟩;dsimp only
 have eo:(arrOf st').map (·.2)=(outB ps vs).toArray:=by
  rw[kat_snds rfl har,ep]
  rfl
 have so:((arrOf st').map (·.2)).size=vs.length:=by rw[eo];unfold outB;rw[D9,A9,pl]
 obtain⟨e,x1,x2⟩:=last _ so eo;refine A2 (seqEpoch_at ho3 rfl ?_);refine A2 (BW ho3 rfl ?_ (D5 _) (by rw[so,K9];omega));rw[hf];simp only[bne_self_eq_false,F2,if_false];exact A8 (h _ e x2 x1)
theorem SQ {ps:List Nat}{v:A1}{vs:List A1}{lt:Nat->Nat->Bool}{Q:A1->A4->Prop}(l2:2<=vs.length)(hm:vs.length<=1000)(ht:tsort lt vs.length=some ps)(pl:ps.length=vs.length)
   (hcol:∀(R:List A1->A4->Prop),(∀h1 tk,(∀b o,s.heap.get? b=some o->h1.get? b=some o)->s.heap.objs.size<=h1.objs.size->R vs { s with heap:=h1,toks:=tk })->A5 (A6 prog w) A.in1 (collect v) R E s)
   (hk:∀(A:C8) (E:A1->A4->Prop) h1 tk,(∀b o,s.heap.get? b=some o->h1.get? b=some o)->∃κ,(∀Q:d5->A4->Prop,Q κ { s with heap:=h1,toks:=tk }->A5 (A6 prog w) A (keyKind' vs.toArray) Q E { s with heap:=h1,toks:=tk })/\∀i j (C:Bool->A4->Prop),i<vs.length->j<vs.length->C (lt i j) { s with heap:=h1,toks:=tk }->kas_ask prog w A κ vs i j C { s with heap:=h1,toks:=tk })
   (h:∀h2 tk D e,(∀b o,s.heap.get? b=some o->h2.get? b=some o)->s.heap.objs.size<=D->h2.get? D=some (seqObj "list" (outB ps vs).toArray e)->Q (.ref D) { s with heap:=h2,toks:=tk }) :
   A5 (A6 prog w) A (call (.builtin "sorted") [v]) Q E s:=by
 refine GI kind_sorted plain_sorted entry_sorted (args_sorted1 _) ?_;unfold L8.«sorted»;refine A2 (m:=checkCount "sorted" 1 1 _) (A8 ?_);refine A2 (hcol _ λh1 tk k1 z1=>?_);refine A2 (BG ?_ (by rw[K9];omega));have hoL:(h1.push (seqObj "list" vs.toArray 0)).get? h1.objs.size=some (seqObj "list" vs.toArray 0):=E4 _ rfl;have kL:∀b o,s.heap.get? b=some o->(h1.push (seqObj "list" vs.toArray 0)).get? b=some o:=λb o e=>B6 _ (k1 b o e);have ne:∀b o,s.heap.get? b=some o->b≠h1.objs.size:=λb o e=>D6 (G0 (B9 e) z1);refine A2 (N4 (N3 slot_list_sort ⟨_,hoL,rfl⟩ entry_list_sort ?body (args_list_sort _)))
 case body=>
  refine SO (lt:=lt) (s:={ s with heap:=h1.push (seqObj "list" vs.toArray 0),toks:=tk }) hoL l2 hm ht pl (λh3 k3=>?_) λh3 e k3 e3=>?_
  ·exact hk _ _ h3 tk λb o x=>k3 b o (ne b o x) (kL b o x)
  ·exact⟨_,rfl,A8 ⟨_,rfl,h h3 tk _ e (λb o x=>k3 b o (ne b o x) (kL b o x)) z1 e3⟩⟩
end
end Tm
end L2
end
section
namespace L2
open PySem PySem.W PySem.Spec PyProof.Rows Tm
section
variable {X:Cx}
def outW (ps:List Nat)(ys:List V):List V:=ps.map λi=>ys.getD i .non
theorem SS {ps:List Nat}{ys:List V}{vs:List A1}(r:Vals ys vs)(hm:∀i∈ps,i<vs.length):Vals (outW ps ys) (outB ps vs):=by
 unfold outW outB
 induction ps with
 |nil=>exact .nil
 |cons i is ih=>exact .cons (Ai r .non .none i (by rw[r.length];exact hm i B2)) (ih λj hj=>hm j (B4 _ hj))
theorem UJ:K4 X (.builtin "sorted") (λxs H Q=>∃p ys m jp lt ps,xs=[.ref p]/\SqL X.K H p ys/\2<=ys.length/\ys.length<=1000/\(∀i j,i<ys.length->j<ys.length->lt i j=ltIx jp i j)/\tsort lt ys.length=some ps/\ps.length=ys.length/\(∀i∈ps,i<ys.length)/\Paired (KM X.K H m) ys jp/\AL jp/\∀l,H l=none->Q (.ref l) (upd H l (.lst (outW ps ys)))):=by
 intro jb s σ H xs us Q I r h;obtain⟨p,ys,m,jp,lt,ps,rfl,hq,h2,hm,el,ht,pl,hi,hp,al,q⟩:=h;obtain⟨u,rfl,rx⟩:=Ab r;cases rx;obtain⟨jf,r',pq,hz⟩:=I.list hq;have hlen:=r'.length;have pk:=kv1_of I m r' hp;rw[hlen] at h2 hm el ht pl hi;refine SQ (vs:=jf) (lt:=lt) h2 hm ht pl (λR hR=>?_) (λA E h1 tk k=>let ⟨κ,q1,q2⟩:=Lq h2 pk al A E h1 tk k;⟨κ,q1,λi j C hi hj c=>q2 i j C hi hj (by rw[<- el i j hi hj];exact c)⟩) λh2 tk D e k hD ho=>?_
 ·refine collect_list pq.isList (hR _ s.toks (λb o e=>?_) ?_) (by omega)
  ·have hlt:b<s.heap.objs.size:=B9 e;rw[Heap.get?_update_ne _ _ _ _ (D6 hlt)];exact B6 _ e
  ·rw[Heap.size_update,size_push'];omega
 ·have vo:=SS (ps:=ps) r' hi
  have hl:(outW ps ys).length<=B7:=by
   unfold outW;rw[A9,pl,<- hlen];omega
  exact⟨.ref D,_,I.laid (t':=tk) k hD (show J1 X.prog X.w _ h2 _ (.lst (outW ps ys)) from⟨hl,_,e,vo,ho⟩),rfl,q _ (I.hok.fresh hD)⟩
end
end L2
namespace Pu
open PySem PySem.Spec L2 Tm
def w4 (pe:pE):pA:=λenv n R=>pe env n λx jc n1=>match x with
 |.lst xs=>(2<=xs.length/\xs.length<=1000)/\FF xs/\∃lt ps,(∀i j,i<xs.length->j<xs.length->lt i j=ltIx (xs.map keyP) i j)/\tsort lt xs.length=some ps/\ps.length=xs.length/\(∀i∈ps,i<xs.length)/\R (ps.map λi=>xs.getD i .non) jc n1
 |_=>False
section
variable {T:PotK}{ι:Type}{K:A7}{F:ι->Cx}{e:Expr}{pe:pE}{pos:Pos}
theorem SU {G:Gh}{H:Hp}{ps:List Nat}{xs:List PV}{us:List V}(r:Reps K G H xs us)(hm:∀i∈ps,i<xs.length):Reps K G H (ps.map λi=>xs.getD i .non) (outW ps us):=by
 unfold outW
 induction ps with
 |nil=>exact rfl
 |cons i is ih=>exact⟨_,_,rfl,Ls r i (hm i B2),ih λj hj=>hm j (B4 _ hj)⟩
theorem SV {p:Pos}(hg:∀z,Gl (F z) "sorted")(hm:∀z,(F z).mg "sorted"=none)(ha:QR T K F e pe)(hs:F3 e=true)(hK:∀z,(F z).K=K):QN T K F (.Call (.Name "sorted" p) [e] [] pos) (w4 pe):=by
 obtain⟨t,h1,h2⟩:=ha;refine⟨_,λz=>Bp (hK z▸UJ) (hg z) (hm z) Kf (F5 (h1 z) K5 (D4 hs)) (by decide) (by decide) (D4 hs),λC G σ H env n R Q hK hT S hp k=>?_⟩;refine DG h2 hK hT S hp λx jc n1 v H1 p1 S1 r1 f1=>?_;have rd:RdV K G H1 x v:=hK▸r1.rd S1;cases x with
 | lst xs =>
  obtain⟨hl,so,q⟩:=p1;obtain⟨a,us,rfl,hq,r⟩:=rd.lst;obtain⟨m,pk,al⟩:=km_of r so;have lu:us.length=xs.length:=r.length.symm;obtain⟨lt,ps,el,ht,pl,pi,q⟩:=q;exact⟨a,us,m,xs.map keyP,lt,ps,rfl,hq,by omega,by omega,by rw[lu];exact el,by rw[lu];exact ht,by rw[lu];exact pl,by rw[lu];exact pi,pk,al,λl hl=>k _ _ _ _ _ _ q S1 f1 hl (SU r pi)⟩
 |_=>exact p1.elim
end
end Pu
end
section
namespace L2
open PySem PySem.Spec PyProof.Rows
theorem SX {X:Cx}{scope:E3}{cl:List (Str×A0)}{N:List Str}{cs:List (Option Nat)}{ji t1 i1 t2 i2:Expr}{jk:List Expr}{pos spos py:Pos}{wi1 wi2:TI}{g1 g2:TG}{tt:TT}{te:TE}{i:Nat}{y:Str}(hN:X.N.Nodup)(hiy:X.N[i]?=some y)(hy:Loc X.env.scope y)(S:R5 X scope cl N cs)(hc:X.calm=true)(hi:PI X t1 i1 wi1)
   (hb:∀(fp:List A0) (C:A0) (s:A4) (H:Hp),PG (D1 X scope cl N fp C s H) t1 g1/\PI (D1 X scope cl N fp C s H) t2 i2 wi2/\PG (D1 X scope cl N fp C s H) t2 g2/\PIf (D1 X scope cl N fp C s H) jk tt/\PE (D1 X scope cl N fp C s H) ji te)
   (hs2:∀fp C s H x,G7 i2 (D1 X scope cl N fp C s H).env x=pure x)
   (hsw:k5 (LC2 ji t1 i1 t2 i2 jk scope pos) (some (.Name y py)) spos.line X.env=pure true:=by rfl)
   (hs:∀x,G7 i1 X.env x=pure x:=by intro _;rfl) (hff:X.fn y=true\/X.env.scope.names.lookup y=some .local:=by first|exact .inl rfl|exact .inr rfl|assumption) :
   PS X (.Assign [.Name y py] (LC2 ji t1 i1 t2 i2 jk scope pos) spos) (tAsg (Mh cs wi1 g1 wi2 g2 tt te) (P9 i)):=by
 intro jb s σ H DD I h;rw[exec_Assign_Name_used _ _ _ _ hsw];exact A2 (j8 (A2 (A2 (F7 (Q:=λ_ s'=>SP X jb DD .next s') (Ff S hc hi hs I h λfp it tn J s2 H2 s₃ T stat I2 f2 q Ic st1 fr1=>loop2 (Y:=D1 X scope cl N fp (s2.heap.objs.size+1) s2 H2) rfl hc (hb _ _ _ _) (hs2 _ _ _ _) T stat q (λs4 σ3 H3 I4 qn=>KP hN hiy hy hff I2 f2 I4 qn) Ic st1 fr1) (λ_ s' hq=>A8 (A8 hq)) λ_ _ e=>e))))
end L2
end
section
namespace Pu
open PySem PySem.Spec L2
section
variable {T:PotK}{ι:Type}{K:A7}{F:ι->Cx}{pg1 pg2:pG}{pos:Pos}
theorem SY {scope:E3}{cl:ι->List (Str×A0)}{N:List Str}{cs:List (Option Nat)}{ji t1 i1 t2 i2:Expr}{jk:List Expr}{pi1 pi2:pA}{ptt:pT}{pte:pE}(S:∀z,R5 (F z) scope (cl z) N cs)(hc:∀z,(F z).calm=true)(hi:QI T K F t1 i1 pi1)
   (hg:QG K (λy:ι×List A0×A0×A4×Hp=>D1 (F y.1) scope (cl y.1) N y.2.1 y.2.2.1 y.2.2.2.1 y.2.2.2.2) t1 pg1)
   (hi2:QI T K (λy:ι×List A0×A0×A4×Hp=>D1 (F y.1) scope (cl y.1) N y.2.1 y.2.2.1 y.2.2.2.1 y.2.2.2.2) t2 i2 pi2)
   (hg2:QG K (λy:ι×List A0×A0×A4×Hp=>D1 (F y.1) scope (cl y.1) N y.2.1 y.2.2.1 y.2.2.2.1 y.2.2.2.2) t2 pg2)
   (ht:QIf T K (λy:ι×List A0×A0×A4×Hp=>D1 (F y.1) scope (cl y.1) N y.2.1 y.2.2.1 y.2.2.2.1 y.2.2.2.2) jk ptt)
   (he:QE T K (λy:ι×List A0×A0×A4×Hp=>D1 (F y.1) scope (cl y.1) N y.2.1 y.2.2.1 y.2.2.2.1 y.2.2.2.2) ji pte)
   (hs:∀z x,G7 i1 (F z).env x=pure x:=by intro _ _;rfl) (hs2:∀z fp C s H x,G7 i2 (D1 (F z) scope (cl z) N fp C s H).env x=pure x:=by intro _ _ _ _ _ _;rfl):QNC T K F (LC2 ji t1 i1 t2 i2 jk scope pos) (U6 cs pi1 pg1 pi2 pg2 ptt pte):=by
 obtain⟨wi,i1',i2'⟩:=hi;obtain⟨g,hg0,hg⟩:=hg;obtain⟨wj,j1,j2⟩:=hi2;obtain⟨g2,hg20,hg2⟩:=hg2;obtain⟨tt,ht0,ht⟩:=ht;obtain⟨te,he0,he⟩:=he;refine⟨_,λz=>Mi (S z) (hc z) (i1' z) (λfp C s H=>⟨hg0 (z,fp,C,s,H),j1 (z,fp,C,s,H),hg20 (z,fp,C,s,H),ht0 (z,fp,C,s,H),he0 (z,fp,C,s,H)⟩) (hs2 z) (hs z),λz i y py spos hN hi hy hsw hf=>SX hN hi hy (S z) (hc z) (i1' z) (λfp C s H=>⟨hg0 (z,fp,C,s,H),j1 (z,fp,C,s,H),hg20 (z,fp,C,s,H),ht0 (z,fp,C,s,H),he0 (z,fp,C,s,H)⟩) (hs2 z) hsw (hs z) hf,λC G σ H env n R Q hK hT S hp k=>?_⟩;refine i2' C G σ H env n _ _ hK hT S hp λxs jc n1 J H1 p1 S1 f1 hJ=>?_;intro D hD;have hDM:=S1.fresh hD;refine Mj (G:=G) hg j2 hg2 ht he hJ p1.1 hD (hT▸hK▸DK S1 cs) p1.2 λys n2 us H' rr hpots hk eD ry=>?_;have nD:∀b o,H1 b=some o->b≠D:=λb o e z=>by rw[z,hD] at e;cases e
 have hk2:∀b o,b∉G.pots->H1 b=some o->cutH H' D b=some o:=λb o hb e=>by rw[L6 (nD b o e)];exact hk b o hb e
 have nc:∀b,b∉D::G.M->b≠D:=λb hb z=>hb (by rw[z];exact B2);have np:∀p∈G.pots,p≠D:=λp hp z=>hDM (z▸(S1.pots p hp).1)
 have Sb:SR C G σ (cutH H' D) jc n2:=S1.call hk2 λp hp=>by
  subst hT;have h2:=C.T.keep (hpots p hp) (H':=cutH H' D) (L6 (np p hp)) λb o hb e=>by rw[L6 (nc b hb)];exact e
  exact C.T.more h2 λa ha=>.inl (B4 _ ha)
 have:=k ys jc n2 D us (cutH H' D) rr Sb (f1.trans λb o hb e=>hk2 b o (λz=>hb (S1.pots b z).1) e) (by unfold cutH;rw[jt rfl]) ?_
 ·rw[DL eD] at this;exact this
 ·exact Reps.mono (G:=⟨D::G.M,G.pots⟩) (λb o hb e=>by rw[L6 (nc b hb)];exact e) (λa ha=>.inl (B4 _ ha)) (λ_ _ e=>e) _ _ ry
end
def Lent (σ:St)(env:Env)(a:A0):Prop:=∃(i:Nat) (k:OK) (xs:List PV),env[i]?=some (some (.ow k xs))/\σ[i]?=some (some (.ref a))
open Classical in
noncomputable def W8 (σ:St) (env:Env) (M:List A0):List A0:=M.filter λa=>decide (¬Lent σ env a)
open Classical in
theorem Am {σ:St}{env:Env}{M:List A0}{a:A0}:a∈W8 σ env M↔a∈M/\¬Lent σ env a:=by
 unfold W8;rw[M7];constructor
 ·rintro⟨h1,h2⟩;exact⟨h1,jv h2⟩
 ·rintro⟨h1,h2⟩;exact⟨h1,jq h2⟩
section
variable {C:Ct}{G:Gh}{σ:St}{H H':Hp}{env jh:Env}{n n':Nat}
theorem SR.lendM (S:SR C G σ H env n):SR ⟨C.K,C.T,W8 σ env G.M,G.pots,H,C.np⟩ ⟨W8 σ env G.M,G.pots⟩ σ H (frz env) n where
 frame _ _ _ e:=e
 sub a ha:=.inl ha
 sup a ha:=ha
 pots p hp:=by
  refine⟨Am.mpr ⟨(S.pots p hp).1,λ⟨i,k,xs,e1,e2⟩=>?_⟩,C.T.more (S.pots p hp).2 λb hb=>.inl (Am.mp hb).1⟩;obtain⟨a,vs,ev,_,_,h3,_⟩:=S.slots i _ e1;rw[e2] at ev;cases ev;exact h3 hp
 pre:=⟨[],(T6 _).symm,.inl rfl⟩
 mu a ha:=S.mu a (Am.mp ha).1
 slots i s e:=by
  have mm:∀{x:PV} {v:V},Rep C.K G H x v->Rep C.K ⟨W8 σ env G.M,G.pots⟩ H x v:=λr=>Rep.mono (G':=⟨W8 σ env G.M,G.pots⟩) (λ_ _ _ e=>e) (λb hb=>.inl (Am.mp hb).1) (λ_ _ e=>e) _ _ r;have mms:∀{x:List PV} {v:List V},Reps C.K G H x v->Reps C.K ⟨W8 σ env G.M,G.pots⟩ H x v:=λr=>Reps.mono (G':=⟨W8 σ env G.M,G.pots⟩) (λ_ _ _ e=>e) (λb hb=>.inl (Am.mp hb).1) (λ_ _ e=>e) _ _ r;unfold frz at e;rw[C6] at e;cases h:env[i]? with
  |none=>rw[h] at e;cases e
  | some o =>
   rw[h] at e;cases o with
   |none=>cases e
   | some t =>
    have q:=S.slots i t h;have e':frzS t=some s:=by simpa using e
    cases t with
    | v x =>
     cases e';obtain⟨v,e1,r⟩:=q;exact⟨v,e1,mm r⟩
    | ow k xs =>
     obtain⟨a,vs,ev,h1,h2,h3,h4,r⟩:=q;have na:a∉W8 σ env G.M:=λz=>(Am.mp z).2 ⟨i,k,xs,h,ev⟩;cases k with
     |lst=>cases e';exact⟨.ref a,ev,a,vs,rfl,⟨na,h4⟩,mms r⟩
     | dk ks =>
      have e':(if ks.length=xs.length then some (Slot.v (.dct ks xs)) else none)=some s:=e'
      split at e'
      ·rename_i hl;cases e';have hlv:ks.length=vs.length:=by rw[hl];exact r.length
       refine⟨.ref a,ev,a,ks.zip vs,rfl,na,h4,List.map_fst_zip (Dd hlv),?_⟩;rw[List.map_snd_zip (Dd hlv.symm)];exact mms r
      ·cases e'
     |dt ks=>cases e'
     |st ks=>cases e'
 inj:=S.lend.inj
 p0:=⟨λp hp=>by
  refine Am.mpr ⟨(S.pots p hp).1,λ⟨i,k,xs,e1,e2⟩=>?_⟩;obtain⟨a,vs,ev,_,_,h3,_⟩:=S.slots i _ e1;rw[e2] at ev;cases ev
  exact h3 hp,S.hasG⟩
 len:=by unfold frz;rw[A9];exact S.len
 newp p hp h:=absurd hp h
theorem SR.backM (hT:HZ C.T)(S:SR C G σ H env n)(S':SR ⟨C.K,C.T,W8 σ env G.M,G.pots,H,C.np⟩ ⟨W8 σ env G.M,G.pots⟩ σ H' jh n'):SR C G σ H' env n':=
 S.call (fun b o hb e=>S'.frame b o hb e) fun p hp=>hT _ _ _ _ _ (S'.pots p hp).2 fun a ha=>by
  by_cases h:a∈G.pots
  ·exact .inl (Am.mpr ⟨ha,λ⟨i,k,xs,e1,e2⟩=>by
    obtain⟨b,vs,ev,_,_,h3,_⟩:=S.slots i _ e1;rw[e2] at ev;cases ev
    exact h3 h⟩)
  ·obtain⟨o,e,m⟩:=S.mu a ha;exact .inr ⟨o,S'.frame a o h e,m⟩
end
def lsts (env:Env):Prop:=∀(i:Nat) (xs:List PV),env[i]?=some (some (.ow .lst xs))->∃l r,xs=.lst l::r
def i8 (pe:pE):pE:=λenv n R=>lsts env/\pe (frz env) n λx jh n'=>match x with
 |.lst (.tup y::ys)=>noMut (.tup y)=true/\g9 ys=true/\R x env n'
 |_=>False
section
variable {T:PotK}{ι:Type}{K:A7}{F:ι->Cx}{e:Expr}{pe:pE}
theorem SZ (hT:HZ T)(h:QE T K F e pe):QE T K F e (i8 pe):=by
 obtain⟨t,h1,h2⟩:=h;refine⟨t,h1,λC G σ H env n R Q hK hT' S hp k=>?_⟩;obtain⟨hl,hp⟩:=hp;refine h2 ⟨C.K,C.T,W8 σ env G.M,G.pots,H,C.np⟩ ⟨W8 σ env G.M,G.pots⟩ σ H (frz env) n _ _ hK hT' S.lendM hp λx jh n' v H' r S' rp f=>?_;have S2:=S.backM (by rw[hT'];exact hT) S'
 split at r
 ·rename_i y ys;obtain⟨r1,r2,r3⟩:=r;obtain⟨b,vs,rfl,⟨nb,hb⟩,rs⟩:=rp
  have bM:b∉G.M:=λz=>by
   have le:Lent σ env b:=y9 λw=>nb (Am.mpr ⟨z,w⟩);obtain⟨i,kk,zs,e1,e2⟩:=le;obtain⟨a,us,ev,g1,g2,g3,g4,rz⟩:=S.slots i _ e1;rw[e2] at ev;cases ev;have hb':=S'.frame b _ g3 g4;have hb:H' b=some (.lst vs):=hb;rw[hb] at hb';cases kk with
   | lst =>
    have eu:vs=us:=by
     have:HO.lst vs=HO.lst us:=F6 hb';cases this;rfl
    subst eu;obtain⟨l,r',rfl⟩:=hl i zs e1;obtain⟨u,t',rfl,ru,_⟩:=rz;obtain⟨u',t'',eq,ru',_⟩:=rs;cases eq;obtain⟨c,ws,rfl,⟨nc,hc⟩,_⟩:=ru;obtain⟨c',ws',eq',⟨_,hc'⟩,_⟩:=ru';cases eq';have:=S'.frame c _ (λw=>nc (S.pots c w).1) hc;rw[show H' c=some (.tup ws') from hc'] at this;cases this
   |dk ks=>cases hb'
   |dt ks=>cases hb'
   |st ks=>cases hb'
  refine k _ _ _ _ _ r3 S2 ⟨b,vs,rfl,⟨bM,hb⟩,?_⟩ λb o hb e=>S'.frame b o (λz=>hb (S.pots b z).1) e
  have nm:g9 (.tup y::ys)=true:=by
   show(noMut (.tup y)&&g9 ys)=true;rw[r1,r2];rfl
  subst hK;exact Reps.noMut S2.mu _ _ nm rs
 ·exact r.elim
end
end Pu
end
section
namespace Pu
open PySem PySem.Spec L2
theorem nodup_ix {α:Type}{l:List α}(nd:l.Nodup){k m:Nat}(h1:k<l.length)(h2:m<l.length)(e:l[k]=l[m]):k=m:=by
 have pw:=Z8.mp nd;rcases y0 k m with c|c|c
 ·exact absurd e (pw k m h1 h2 c)
 ·exact c
 ·exact absurd e.symm (pw m k h2 h1 c)
abbrev pD:=List Key->(Env->Nat->List (List PV)->Prop)->Env->Nat->List (List PV)->Prop
structure KE (K:A7)(T:PotK)(G:Gh)(H1:Hp)(D:A0)(M:List A0)(as:List A0)(ks:List Key)(yss:List (List PV))(H:Hp):Prop where
 mem:∀c,c∈M↔c∈as\/c=D\/c∈G.M
 keep:∀b o,b∉G.pots->H1 b=some o->H b=some o
 dic:H D=some (.dK (ks.zip (as.map V.ref)))
 lk:ks.length=as.length
 ly:yss.length=as.length
 nd:(D::as).Nodup
 new:∀b∈as,H1 b=none
 inn:∀(k:Nat) (b:A0) (ys:List PV),as[k]?=some b->yss[k]?=some ys->∃vs,H b=some (.lst vs)/\Reps K ⟨M,G.pots⟩ H ys vs
theorem Fair.tx {st:List Str}{es:List Ev}(h:Fair st es){x y:Str}(he:Ev.t x y∈es):x∈st/\y∈st:=
 ⟨h.sub x (X9.mpr ⟨_,he,by simp[evB]⟩),h.sub y (X9.mpr ⟨_,he,by simp[evB]⟩)⟩
section
variable {T:PotK}{ι:Type}{K:A7}{F:ι->Cx}{e:Expr}{es:List Expr}{st:Stmt}{pe:pE}{pl:pA}{pos:Pos}{np:Bool}{x:Str}
theorem qv (i:Nat)(h:∀z,EW (F z) (.Name x pos) (tVar i):=by exact λ_=>vw _):QE T K F (.Name x pos) (qV i):=qe_var i h
theorem qf {p:Pos}{f:pF}{ps:List Str}{k j:Nat}{P:C3}{w:B8}{K0:A7}{mg:Str->Option A1}{base:B1}{A:C8}(hG:Kn P w K0 mg base x k ps (Ck K T f))(hr:Room j A)(ha:QA T K F (e::es) pl)(hF:∀z,(F z).prog=P/\(F z).w=w/\(F z).K=K0/\(F z).mg=mg/\(F z).base=base/\(F z).A=A)(hk:k<=j)(hg:∀z,Gl (F z) x)(hdb:(x == ("__debug__":Str))=false)(hs:F3 e=true)(hpl:∀z,(backTo pos (E8 es (F z).env)).any (·.1)=false):QE T K F (.Call (.Name x p) (e::es) [] pos) (B5 f pl):=qe_fn (λz=>by obtain⟨h1,h2,h3,h4,h5,_⟩:=hF z;rw[h1,h2,h3,h4,h5];exact hG) (λz=>by rw[(hF z).2.2.2.2.2];exact hr) hk hg ha hdb hs hpl
theorem gn (i:Nat){N:List Str}(hN:N.Nodup)(hNF:∀z,(F z).N=N:=by exact λ_=>rfl)(hi:∀z,(F z).N[i]?=some x:=by intro _;rfl)(hx:∀z,Loc (F z).env.scope x:=by intro _;first|exact Or.inl rfl|exact Or.inr rfl)(hf:∀z,(F z).fn x=true\/(F z).env.scope.names.lookup x=some .local:=by intro _;first|exact .inl rfl|exact .inr rfl|assumption):QG K F (.Name x pos) (gN i):=Pp λz=>Po i (hNF z▸hN) (hi z) (hx z) (hf z)
theorem sws (i:Nat){pos':Pos}{N:List Str}(hN:N.Nodup)(hNF:∀z,(F z).N=N:=by exact λ_=>rfl)(hi:∀z,(F z).N[i]?=some x:=by intro _;rfl)(hx:∀z,Loc (F z).env.scope x:=by intro _;first|exact Or.inl rfl|exact Or.inr rfl)(hs:∀z,k5 e (some (.Name x pos')) pos.line (F z).env=pure false:=by intro _;rfl)(hf:∀z,(F z).fn x=true\/(F z).env.scope.names.lookup x=some .local:=by intro _;first|exact .inl rfl|exact .inr rfl|assumption)(z:ι)(te:TE)(h:EW (F z) e te):SW (F z) (.Assign [.Name x pos'] e pos) (tAsg te (P9 i)):=sw_set (hNF z▸hN) (hi z) (hx z) (hs z) (hf z) te h
end
end Pu
end
section
namespace L2
open PySem PySem.Spec PyProof.Rows
theorem Ii:∀(names:List (Str×NameKind)) (n:Nat) (a b:List (Str×A0)),P3 n names (a++b)=P3 n names a++b
 |[],_,_,_=>rfl
 | (x, k) :: r, n, a, b => by
  unfold P3
  split
  ·exact Ii r (n+1) ((x,n)::a) b
  ·exact Ii r n a b
section
variable {M:Model}{A:C8}{E:A1->A4->Prop}{s:A4}
theorem S_ {scope:E3}{globals:A0}{cl:List (Str×A0)}{qual:Str}{outer:Env}{Q:Env->A4->Prop}
   (hQ:Q (newEnv scope s.heap.objs.size globals (P3 (s.heap.objs.size+1) scope.names cl) qual none .none (some outer) builtinsNs) { s with heap:=pushCells (s.heap.push { cls:=.type "dict",data:=.dict #[] }) scope.names }) :
   A5 M A (newFunctionEnv scope globals cl [] qual none .none (some outer)) Q E s:=by
 simp only[newFunctionEnv,Option.isSome_some,if_true];refine A2 (wpAny_alloc ?_);refine A2 (wpAny_layCells _ (λname kind cells=>by cases hkc:kind == NameKind.cell <;> simp[hkc]) _ _ _ _ ?_)
 rw[show({ s with heap:=s.heap.push { cls:=.type "dict",data:=.dict #[] } }:A4).heap.objs.size=s.heap.objs.size+1 from T9 ..];rw[CU];exact A2 (A8 (A8 hQ))
end
def ownC (scope:E3)(C:A0):List (Str×A0):=P3 (C+1) scope.names []
noncomputable def i9 (X:Cx)(scope:E3)(cl:List (Str×A0))(N:List Str)(fp:List A0)(C:A0)(s:A4)(H:Hp):Cx:=
 { D1 X scope (P3 (C+1) scope.names cl) N fp C s H with fn:=λx=>((ownC scope C).lookup x).isSome }
structure FR (X:Cx)(scope:E3)(cl:List (Str×A0))(N:List Str)(cs:List (Option Nat)):Prop where
 clos:closureFor scope X.env=pure cl
 kind:scope.kind=.function
 names:∀y∈scope.names,y.2=.local->scope.names.lookup y.1=some .local
 sub:∀x c,cl.lookup x=some c->X.env.cells.lookup x=some c
 has:∀(C:A0) x,((T4 scope X.env).names.lookup x=some .cell\/(T4 scope X.env).names.lookup x=some .free)->∃c,(P3 (C+1) scope.names cl).lookup x=some c
 len:cs.length=N.length
 cap:∀(k j:Nat) (x:Str),cs[k]?=some (some j)->N[k]?=some x->X.N[j]?=some x/\Vis X.env.scope x/\X.env.kindOf x≠some .local/\(∃c,cl.lookup x=some c)/\((T4 scope X.env).names.lookup x=some .cell\/(T4 scope X.env).names.lookup x=some .free)/\∀C,(ownC scope C).lookup x=none
theorem Mt {X:Cx}{scope:E3}{cl:List (Str×A0)}{N:List Str}{cs:List (Option Nat)}(clos:closureFor scope X.env=pure cl)(kind:scope.kind=.function)
   (names:(scope.names.all λy=>!(y.2 == .local)||scope.names.lookup y.1 == some .local)=true) (sub:Ci cl X.env.cells)
   (has:∀C:A0,((T4 scope X.env).names.all λy=>!(y.2 == .cell||y.2 == .free)||((P3 (C+1) scope.names cl).lookup y.1).isSome)=true) (len:cs.length=N.length)
   (cap:∀C:A0,((cs.zip N).all λy=>match y.1 with|none=>true|some j=>X.N[j]? == some y.2&&(X.env.scope.names.lookup y.2 == some .cell||X.env.scope.names.lookup y.2 == some .free)&&(cl.lookup y.2).isSome &&
     ((T4 scope X.env).names.lookup y.2 == some .cell||(T4 scope X.env).names.lookup y.2 == some .free)&&((ownC scope C).lookup y.2).isNone)=true):FR X scope cl N cs:=by
 refine⟨clos,kind,λy hy e=>?_,sub.get,λC x hx=>?_,len,λk j x hk hN=>?_⟩
 ·have:=E9.mp names y hy;rw[e] at this
  simpa using this
 ·rcases hx with hx|hx
  ·have:=E9.mp (has C) _ (X3 hx);exact AA.mp (by simpa using this)
  ·have:=E9.mp (has C) _ (X3 hx);exact AA.mp (by simpa using this)
 ·have hz:(cs.zip N)[k]?=some (some j,x):=by rw[Gr];exact⟨hk,hN⟩
  have all:=λC=>by
   have:=E9.mp (cap C) _ (J5 hz);simp only[b9,Bool.or_eq_true,beq_iff_eq] at this;exact this
  obtain⟨⟨⟨⟨h1,h2⟩,h3⟩,h4⟩,_⟩:=all 0;refine⟨h1,?_,?_,AA.mp h3,h4,λC=>Option.isNone_iff_eq_none.mp (all C).2⟩
  ·rcases h2 with h2|h2
   ·exact .inr (.inl h2)
   ·exact .inr (.inr h2)
  ·intro z;have z':X.env.scope.names.lookup x=some .local:=z;rw[z'] at h2;rcases h2 with h2|h2 <;> cases h2
theorem lkA {scope:E3}{cl:List (Str×A0)}{C:A0}{x:Str}:(P3 (C+1) scope.names cl).lookup x=((ownC scope C).lookup x).or (cl.lookup x):=by
 have:=Ii scope.names (C+1) [] cl;rw[P6] at this;rw[this,List.lookup_append];rfl
theorem lkK {scope:E3}{cl:List (Str×A0)}{C c:A0}{x:Str}(h:(P3 (C+1) scope.names cl).lookup x=some c):(ownC scope C).lookup x=some c\/cl.lookup x=some c:=by
 rw[lkA] at h;cases e:(ownC scope C).lookup x with
 |some d=>rw[e] at h;exact .inl h
 |none=>rw[e] at h;exact .inr h
theorem Ta {X:Cx}{scope:E3}{cl:List (Str×A0)}{N:List Str}{cs:List (Option Nat)}(S:FR X scope cl N cs){jb:List (A0×Obj)}{σ:St}{H:Hp}{s:A4}{fp:List A0}{h₁:B1}{tk:Nat}
   (I:Inv X jb σ H s) (f2:∀b∈fp,FpOk X jb H b) (ho:∀b∈fp,∃o,s.heap.get? b=some o)
   (old:∀b o,s.heap.get? b=some o->h₁.get? b=some o) (hns:h₁.Ns (s.heap.objs.size+1) (λx=>([]:List (Str×A1)).reverse.lookup x))
   (hD:h₁.get? s.heap.objs.size=some { cls:=.type "list",data:=.seq ([]:List A1).toArray }) (okC:CellsOk h₁ (s.heap.objs.size+1+1) (ownC scope (s.heap.objs.size+1))) :
   Inv (i9 X scope cl N fp (s.heap.objs.size+1) s H) jb (q8 cs σ) (upd H s.heap.objs.size (.lst [])) { s with heap:=h₁,toks:=tk }:=by
 have lt:∀b o,s.heap.get? b=some o->b<s.heap.objs.size:=λb o e=>B9 e;have neC:∀b o,s.heap.get? b=some o->b≠s.heap.objs.size+1:=λb o e=>D6 (x9 (lt b o e));have neD:∀b o,s.heap.get? b=some o->b≠s.heap.objs.size:=λb o e=>D6 (lt b o e);have nstk:∀b,b≠X.env.locals->b∉X.fs->b∉frs X.stack:=λb h1 h2 hb=>(C9.mp (I.stkSub b hb)).elim h1 h2
 have cellO:∀x c,cl.lookup x=some c->∃v o,s.heap.get? c=some o/\s.heap.IsCell c v:=λx c e=>by
  obtain⟨v,q⟩:=I.cell x c (S.sub x c e);obtain⟨o,h1,_⟩:=id q;exact⟨v,o,h1,q⟩
 have ownO:∀x c,(ownC scope (s.heap.objs.size+1)).lookup x=some c->h₁.IsCell c none/\s.heap.objs.size+1+1<=c:=λx c e=>okC.empty x c (X3 e);have cls:∀x c,(i9 X scope cl N fp (s.heap.objs.size+1) s H).env.cells.lookup x=some c->(ownC scope (s.heap.objs.size+1)).lookup x=some c\/cl.lookup x=some c:=λx c e=>lkK e
 have clt:∀x c,cl.lookup x=some c->c<s.heap.objs.size:=λx c e=>by
  obtain⟨v,o,h1,_⟩:=cellO x c e;exact lt c o h1
 have apt:∀{x y:Str} {c:A0},(ownC scope (s.heap.objs.size+1)).lookup x=some c->cl.lookup y=some c->False:=λ{x y c} h1 h2=>
  absurd (G0 (clt y c h2) (E5 (E5 (O7 _) (O7 _)) (ownO x c h1).2)) (Q9 _)
 refine⟨⟨I.ok.mod,S.kind,I.ok.glob,I.ok.blt,O7 _,λx y c h1 h2=>?_,λx hx=>S.has _ x hx,λx c hf hx=>?_,I.ok.hd,I.ok.frames,.inl rfl,λb hb=>?_,I.bs,E5 I.ok.bsz I.sz,λb o e hb=>?_,λb hb=>?_,I.stack,I.stkFree,I.nos⟩,
  rfl,I.bare,Un.laid old (B3 _) I.fresh I.bigS,⟨_,hns,λi x v e1 e2 e3=>?_⟩,λx c e=>?_,?_,λx c e=>?_,λp hp=>?_,I.hok.laid old (B3 _) ⟨D5 _,[],0,.nil,hD⟩,?_⟩
 ·rcases cls x c h1 with h1|h1 <;> rcases cls y c h2 with h2|h2
  ·exact name_of_addr okC.apart (X3 h1) (X3 h2)
  ·exact(apt h1 h2).elim
  ·exact(apt h2 h1).elim
  ·exact I.ok.inj x y c (S.sub x c h1) (S.sub y c h2)
 ·obtain⟨d,hd⟩:=AA.mp hf;rcases cls x c hx with h1|h1
  ·exact E5 (E5 (O7 _) (O7 _)) (ownO x c h1).2
  ·have e:(P3 (s.heap.objs.size+1+1) scope.names cl).lookup x=some c:=hx;rw[lkA,hd] at e;cases e;exact E5 (E5 (O7 _) (O7 _)) (ownO x c hd).2
 ·obtain⟨o,e⟩:=ho b hb;refine⟨neC b o e,λx c ec z=>?_⟩;rcases cls x c ec with h1|h1
  ·exact absurd (G0 (lt b o e) (E5 (E5 (O7 _) (O7 _)) (z▸(ownO x c h1).2))) (Q9 _)
  ·exact(f2 b hb).2.2.2.2.1 x c (S.sub x c h1) z
 ·rcases(f2 b hb).2.2.2.1 with z|z
  ·exact I.ok.noex b o e z
  ·exact absurd (G0 (B9 e) (E5 I.ok.bsz z)) (Q9 _)
 ·exact nstk b (f2 b hb).2.1 (f2 b hb).2.2.1
 ·have e2':(cs.map λo=>o.bind λj=>(σ[j]?).bind id)[i]?=some (some v):=e2;rw[C6] at e2';cases ec:cs[i]? with
  |none=>rw[ec] at e2';cases e2'
  | some o =>
   rw[ec] at e2';cases o with
   |none=>cases e2'
   | some j =>
    have e2'':(σ[j]?).bind id=some v:=by simpa using e2'
    cases es:σ[j]? with
    |none=>rw[es] at e2'';cases e2''
    | some ov =>
     rw[es] at e2'';have e4:ov=some v:=by simpa using e2''
     subst e4;obtain⟨hN,hv,hnl,⟨c,hc⟩,hk,hno⟩:=S.cap i j x ec e1;obtain⟨m,hn,hl⟩:=I.loc;obtain⟨u,r,l⟩:=hl j x v hN es hv;refine⟨u,r,?_⟩;rcases l with⟨hk',_⟩|⟨_,c',hc',z⟩
     ·exact absurd hk' hnl
     ·have ecc:c'=c:=by
       have:=S.sub x c hc;rw[hc'] at this;exact F6 this
      subst ecc;obtain⟨o,h1,h2⟩:=z;exact .inr ⟨hk,c',(by show(P3 (s.heap.objs.size+1+1) scope.names cl).lookup x=some c';rw[lkA,hno];exact hc),⟨o,old _ o h1,h2⟩⟩
 ·rcases cls x c e with e|e
  ·exact⟨none,(ownO x c e).1⟩
  ·obtain⟨v,o,h1,o',h2,h3⟩:=cellO x c e;exact⟨v,o',old _ o' h2,h3⟩
 ·show upd H s.heap.objs.size (.lst []) (s.heap.objs.size+1)=none;rw[D0 (EF _)];exact I.hok.fresh (O7 _)
 ·rcases cls x c e with e|e
  ·have ge:=E5 (O7 _) (ownO x c e).2;rw[D0 (y7 ge)];exact I.hok.fresh (y4 ge)
  ·obtain⟨v,o,h1,_⟩:=cellO x c e;rw[D0 (neD c o h1)];exact I.freeC x c (S.sub x c e)
 ·obtain⟨e,n,ne,nf,d⟩:=I.pin p hp;exact⟨old _ _ e,by rw[D0 (neD _ _ e)];exact n,neC _ _ e,nstk _ ne nf,d⟩
 ·show(cs.map _).length=N.length;rw[A9];exact S.len
theorem Inv.uncompK {X:Cx}{scope:E3}{cl:List (Str×A0)}{N:List Str}{jb:List (A0×Obj)}{σ σ':St}{H H':Hp}{s s':A4}{fp:List A0}{h':B1}
   (I:Inv X jb σ H s) (f2:∀b∈fp,FpOk X jb H b)
   (J:Inv (i9 X scope cl N fp (s.heap.objs.size+1) s H) jb σ' H' s') (hs:∀b,b≠s.heap.objs.size+1->h'.get? b=s'.heap.get? b) :
   Inv X jb σ H' { s' with heap:=h' }:=by
 obtain⟨hh,g,d,t,os'⟩:=s';obtain rfl:os'=s.os:=J.os;have U:Un (frs X.stack) fp H H' s.heap hh:=J.base;have old:∀b o,s.heap.get? b=some o->b≠s.heap.objs.size+1:=λb o e=>D6 (x9 (B9 e));have hs':∀b,b≠s.heap.objs.size+1->h'.get? b=hh.get? b:=hs
 have trC:∀b u,H' b=some u->b≠s.heap.objs.size+1:=λb u e z=>by
  have q:H' (s.heap.objs.size+1)=none:=J.free;rw[z,q] at e;cases e
 show Inv X jb σ H' { s with heap:=h',gens:=g,drawn:=d,toks:=t };refine I.call (h':=h') (g':=g) (d':=d) (t':=t) (ch:=fp) ⟨λb o e n hb hx=>?_,λb o e n hb hx=>?_,U.free,λb o e hx=>?_,U.tups,U.frzs,U.tbls,U.sys⟩ (λb u e=>?_) J.bare λb hb=>?_
 ·rw[hs' b (old b o e)];exact U.keep b o e n hb hx
 ·rw[hs' b (old b o e)];exact U.slot b o e n hb hx
 ·rw[hs' b (old b o e)];exact U.there b o e hx
 ·refine(J.hok b u e).stay (λc v hc q=>?_) (λ_ q=>q) λ_ _ q=>q
  have ne:c≠s.heap.objs.size+1:=by
   rcases hc with z|z
   ·rw[z];exact trC b u e
   ·exact trC c _ z
  rw[hs' c ne];exact q
 ·exact⟨(f2 b hb).2.2.2.1,(f2 b hb).2.1,(f2 b hb).2.2.2.2.1,(f2 b hb).2.2.2.2.2⟩
theorem Tc {X:Cx}{scope:E3}{cl:List (Str×A0)}{N:List Str}{cs:List (Option Nat)}{ji tg iter:Expr}{jk:List Expr}{pos:Pos}{wi:TI}{g:TG}{tt:TT}{te:TE}(S:FR X scope cl N cs)(hc:X.calm=true)(hi:PI X tg iter wi)
   (hb:∀(fp:List A0) (C:A0) (s:A4) (H:Hp),PG (i9 X scope cl N fp C s H) tg g/\PIf (i9 X scope cl N fp C s H) jk tt/\PE (i9 X scope cl N fp C s H) ji te)
   (hs:∀x,G7 iter X.env x=pure x:=by intro _;rfl) :
   PE X (.ListComp ji [⟨tg,iter,jk,0⟩] scope pos) (GZ cs wi g tt te):=by
 intro jb s σ H Q I h;rw[eval_ListComp];refine wpAny_comprehension_free (use:=none) rfl hs S.clos S.kind S.names (thn (hi jb s σ H _ I h) λv s1 h1=>thn h1 λitv s2 h2=>?_);obtain⟨it,fp,tn,J,H2,rfl,I2,T,st2,f2,q⟩:=h2
 have ho:∀b∈fp,∃o,s2.heap.get? b=some o:=λb hb=>by
  obtain⟨o,e,_⟩:=T.obj 0 _ st2 b hb;exact⟨o,e⟩
 refine N1 (S_ ?_);dsimp only;have hC:(s2.heap.push { cls:=.type "list",dict:=none,data:=.seq ([]:List A1).toArray }).objs.size=s2.heap.objs.size+1:=by rw[T9]
 generalize hH2:s2.heap.push { cls:=.type "list",dict:=none,data:=.seq ([]:List A1).toArray }=hp2 at hC ⊢;have okC:=cellsFrom_ok scope.names (hp2.push { cls:=.type "dict",data:=.dict #[] }) (s2.heap.objs.size+1+1) [] ⟨λ_ _ hm=>(nomatch hm),GK⟩ (by rw[T9,hC];exact B3 _);rw[T9,hC] at okC;have hns₁:=(Heap.Ns.new hp2 (.type "dict")).keeps (pushCells_keeps scope.names _);have old:∀b o,s2.heap.get? b=some o->(pushCells (hp2.push { cls:=.type "dict",data:=.dict #[] }) scope.names).get? b=some o:=λb o e=>pushCells_keeps _ _ b o (B6 _ (hH2▸B6 _ e));have hD:(pushCells (hp2.push { cls:=.type "dict",data:=.dict #[] }) scope.names).get? s2.heap.objs.size=some { cls:=.type "list",data:=.seq ([]:List A1).toArray }:=pushCells_keeps _ _ _ _ (B6 _ (hH2▸E4 _ rfl));generalize pushCells (hp2.push { cls:=.type "dict",data:=.dict #[] }) scope.names=h₁ at *;rw[hC] at hns₁ ⊢;obtain⟨W,⟨m0,w0⟩,turn⟩:=q s2.heap.objs.size I2.fresh;have Ic:=Ta S (tk:=s2.toks) I2 f2 ho old hns₁ hD okC;have nstk:∀b,b≠X.env.locals->b∉X.fs->b∉frs X.stack:=λb h1 h2 hb=>(C9.mp (I2.stkSub b hb)).elim h1 h2
 have stat:∀{H':Hp},(∀b∈fp,H' b=none)->∀b∈fp,FpOk (i9 X scope cl N fp (s2.heap.objs.size+1) s2 H2) jb H' b:=λhn b hb=>by
  obtain⟨o,e⟩:=ho b hb;exact⟨hn b hb,D6 (x9 (B9 e)),nstk b (f2 b hb).2.1 (f2 b hb).2.2.1,.inl hb,λx c ec=>(Ic.ok.exf b hb).2 x c ec,(f2 b hb).2.2.2.2.2⟩
 obtain⟨hg,hf,he⟩:=hb fp (s2.heap.objs.size+1) s2 H2;have st1:tn 0 h₁:=T.keep _ _ _ st2 λb hb o e=>old b o e
 have fr1:∀b∈fp,upd H2 s2.heap.objs.size (.lst []) b=none:=λb hb=>by
  obtain⟨o,e⟩:=ho b hb;rw[D0 (D6 (B9 e))];exact(f2 b hb).1
 have loop:∀s₃:A4,s₃={ s2 with heap:=h₁ }->
     L0 (A6 X.prog X.w) X.A (.compLoop (.ListComp ji [⟨tg,iter,jk,0⟩] scope pos) 0 (.ref it) (.ref s2.heap.objs.size) (compEnvC scope (P3 (s2.heap.objs.size+1+1) scope.names cl) (s2.heap.objs.size+1) X.env))
       (compPost (A6 X.prog X.w) X.A X.xe none (EP X jb σ Q) (.ref s2.heap.objs.size) (s2.heap.objs.size+1)) s₃:=by
   rintro s₃ rfl;refine GX _ (Fe (Y:=i9 X scope cl N fp (s2.heap.objs.size+1) s2 H2) T hc stat hg hf he (λs4 σ3 H3 I4 qn=>?_) turn) m0 ⟨0,_,_,Ic,st1,fr1,w0⟩;obtain⟨m4,hn4,_⟩:=I4.loc;exact⟨m4,hn4,λh' hs'=>⟨.ref s2.heap.objs.size,H3,Inv.uncompK I2 f2 I4 λb hb=>hs'.2 b hb,rfl,qn⟩⟩
 exact codeAny_compStart_list (loop _ rfl) (T.self _ 0 _ _ _ st1 (loop _ rfl))
end L2
namespace Pu
open PySem PySem.Spec L2
section
variable {T:PotK}{ι:Type}{K:A7}{F:ι->Cx}{e a b c:Expr}{es rest:List Expr}{pe pa pb pc:pE}{pos:Pos}{pl pr:pA}{pg:pG}{pgs:pGs}{pt:pT}
theorem Mu {scope:E3}{cl:ι->List (Str×A0)}{N:List Str}{cs:List (Option Nat)}{ji tg iter:Expr}{jk:List Expr}{pi:pA}{ptt:pT}{pte:pE}(S:∀z,FR (F z) scope (cl z) N cs)(hc:∀z,(F z).calm=true)(hi:QI T K F tg iter pi)
   (hg:QG K (λy:ι×List A0×A0×A4×Hp=>i9 (F y.1) scope (cl y.1) N y.2.1 y.2.2.1 y.2.2.2.1 y.2.2.2.2) tg pg) (ht:QIf T K (λy:ι×List A0×A0×A4×Hp=>i9 (F y.1) scope (cl y.1) N y.2.1 y.2.2.1 y.2.2.2.1 y.2.2.2.2) jk ptt)
   (he:QE T K (λy:ι×List A0×A0×A4×Hp=>i9 (F y.1) scope (cl y.1) N y.2.1 y.2.2.1 y.2.2.2.1 y.2.2.2.2) ji pte)
   (hs:∀z x,G7 iter (F z).env x=pure x:=by intro _ _;rfl):QN T K F (.ListComp ji [⟨tg,iter,jk,0⟩] scope pos) (E6 cs pi pg ptt pte):=by
 obtain⟨wi,i1,i2⟩:=hi;obtain⟨g,hg0,hg⟩:=hg;obtain⟨tt,ht0,ht⟩:=ht;obtain⟨te,he0,he⟩:=he;refine⟨_,λz=>Tc (S z) (hc z) (i1 z) (λfp C s H=>⟨hg0 (z,fp,C,s,H),ht0 (z,fp,C,s,H),he0 (z,fp,C,s,H)⟩) (hs z),λC G σ H env n R Q hK hT S hp k=>?_⟩;refine i2 C G σ H env n _ _ hK hT S hp λxs jc n1 J H1 p1 S1 f1 hJ=>?_;intro D hD;have hDM:=S1.fresh hD;refine Hs (G:=G) hg ht he hJ p1.1 hD (hT▸hK▸DK S1 cs) p1.2 λys n2 us H' rr hpots hk eD ry=>?_
 -- the heap without D
 have nD:∀b o,H1 b=some o->b≠D:=λb o e z=>by rw[z,hD] at e;cases e
 have hD0:C.H0 D=none:=by
  cases z:C.H0 D with
  |none=>rfl
  | some o =>
   by_cases hp:D∈C.pots0
   ·exact absurd (S1.sup D (S1.p0.1 D hp)) hDM
   ·have:=S1.frame D o hp z;rw[hD] at this;cases this
 have hk2:∀b o,b∉G.pots->H1 b=some o->cutH H' D b=some o:=λb o hb e=>by rw[L6 (nD b o e)];exact hk b o hb e
 have nc:∀b,b∉D::G.M->b≠D:=λb hb z=>hb (by rw[z];exact B2);have np:∀p∈G.pots,p≠D:=λp hp z=>hDM (z▸(S1.pots p hp).1)
 have Sb:SR C G σ (cutH H' D) jc n2:=S1.call hk2 λp hp=>by
  subst hT;have h2:=C.T.keep (hpots p hp) (H':=cutH H' D) (L6 (np p hp)) λb o hb e=>by rw[L6 (nc b hb)];exact e
  exact C.T.more h2 λa ha=>.inl (B4 _ ha)
 have:=k ys jc n2 D us (cutH H' D) rr Sb (f1.trans λb o hb e=>hk2 b o (λz=>hb (S1.pots b z).1) e) (by unfold cutH;rw[jt rfl]) ?_
 ·rw[DL eD] at this;exact this
 ·exact Reps.mono (G:=⟨D::G.M,G.pots⟩) (λb o hb e=>by rw[L6 (nc b hb)];exact e) (λa ha=>.inl (B4 _ ha)) (λ_ _ e=>e) _ _ ry
end
end Pu
end
section
namespace L2
open PySem PySem.W PySem.Spec PyProof.Rows
section
variable {prog:C3}{w:B8}{A:C8}{E:A1->A4->Prop}{s:A4}
theorem Td {l:A0}{vs:List A1}{Q:List A1->A4->Prop}(hl:IsTup s.heap l vs.toArray)
   (h:Q vs { s with heap:=(s.heap.push (seqObj "list" #[] 0)).update s.heap.objs.size (G9 (·++vs.toArray)) }) (hsz:vs.length<=B7) :
   A5 (A6 prog w) A (collect (.ref l)) Q E s:=by
 obtain⟨o,ho,hc,n,hd⟩:=hl;unfold collect;refine A2 (wpAny_runValue (Aq entry_proto_collect' ?_));show A5 _ _ (newList []>>=λa=>again (.builtin "list.__iadd__" ⟨[a,.ref l],[]⟩)) _ _ s;refine A2 (BG (A8 ⟨Code.quiet_builtin _ (by decide +kernel),Aq entry_list_iadd' ?_⟩));show A5 _ _ (ER (.ref s.heap.objs.size) (.ref l) (.ref s.heap.objs.size)) _ _ { s with heap:=s.heap.push (seqObj "list" #[] 0) };unfold ER;have ho':(s.heap.push (seqObj "list" #[] 0)).get? l=some o:=B6 _ ho;refine A2 (w6 (T:="tuple") ⟨o,ho',hc⟩ ?_);rw[jt (by rw[show(F9 "tuple" == F9 "tuple")=true by rfl];simp)];refine A2 (listItems_at ho' hd (A2 (listItems_at (xs:=#[]) (n:=0) (E4 _ rfl) rfl ?_)));rw[ju (by simp)];refine A2 (BW (xs:=#[]) (n:=0) (E4 _ rfl) rfl ?_ (D5 _) (by show(#[]++vs.toArray).size<=B7+1;simp only[Array.size_append,D9,U8];omega));refine A8 ?_;show A5 (A6 prog w) A (load s.heap.objs.size>>=_) Q E { s with heap:=(s.heap.push (seqObj "list" #[] 0)).update s.heap.objs.size (G9 (·++vs.toArray)) };refine A2 (wpAny_load (Dl (E4 _ rfl) _) ?_);show A5 _ _ (pure ((#[]:Array A1)++vs.toArray).toList) Q E _
 rw[show((#[]:Array A1)++vs.toArray).toList=vs by simp];exact A8 h
end
def nthS (zs:List Str)(i:Nat):Str:=zs.getD i (B0 "")
def ltS (zs:List Str)(i j:Nat):Bool:=J3 (.inr (nthS zs i)) (.inr (nthS zs j))
def outS (zs:List Str):List Str:=if zs.length<2 then zs else(Kr.run (ltS zs) (M1 zs.length)).toList.map (nthS zs)
theorem Te (zs:List Str):(outS zs).Perm zs:=by
 unfold outS
 by_cases c:zs.length<2
 ·rw[jt c]
 ·rw[ju c];refine((Dg.mp (Kr.sort_perm (by omega))).map (nthS zs)).trans (List.Perm.of_eq ?_)
  apply List.ext_getElem (by simp)
  intro i h2 h3;simp[nthS,h3]
section
variable {X:Cx}
theorem call_sortedS:K4 X (.builtin "sorted") (λxs H Q=>∃p zs,xs=[.ref p]/\SqT X.K H p (zs.map V.str)/\zs.length<64/\∀l,H l=none->Q (.ref l) (upd H l (.lst ((outS zs).map V.str)))):=by
 intro jb s σ H xs us Q I r h;obtain⟨p,zs,rfl,hq,h64,q⟩:=h;obtain⟨u,rfl,rx⟩:=Ab r;cases rx;obtain⟨jf,r',pl,hz⟩:=I.tuple hq;have hlen:=r'.length;rw[A9] at hlen hz
 have nth:∀i,i<jf.length->∃t,jf.getD i .none=.str (nthS zs i) t:=λi hi=>by
  have:=Ai r' .non .none i (by rw[A9];omega);rw[G6,C6,C4 (show i<zs.length by omega)] at this;have e:nthS zs i=zs[i]:=by unfold nthS;rw[G6,C4 (show i<zs.length by omega)];rfl
  rw[e];exact this
 refine Q_ (vs:=jf) (lt:=ltS zs) (by omega) (λR hR=>?_) (λh2 A E h1 tk k=>?_) λh2 tk D e k hD ho=>?_
 ·refine Td pl (hR _ s.toks (λb o e=>?_) ?_) (by omega)
  ·rw[Heap.get?_update_ne _ _ _ _ (D6 (B9 e))];exact B6 _ e
  ·rw[Heap.size_update,size_push'];omega
 ·refine⟨oneType',λQ q=>kas_kind (T:=.type "str") h2 (λv hv=>?_) rfl rfl q,λi j C hi hj c=>?_⟩
  ·obtain⟨i,hi,rfl⟩:=CQ hv;obtain⟨t,e⟩:=nth i hi;rw[G6,C4 hi] at e;have e:jf[i]=.str (nthS zs i) t:=e;rw[e];exact EY rfl
  ·obtain⟨t,e1⟩:=nth i hi;obtain⟨t',e3⟩:=nth j hj;unfold kas_ask;rw[e1,e3,keyLt'_oneType];exact FD (x:=.inr (nthS zs i)) (y:=.inr (nthS zs j)) (xs:=[]) (ys:=[]) ⟨t,rfl⟩ ⟨t',rfl⟩ trivial c
 ·have ol:=(Te zs).length_eq
  have vo:Vals ((outS zs).map V.str) (Q4 (ltS zs) jf):=by
   unfold outS Q4;rw[<- hlen]
   by_cases c:zs.length<2
   ·rw[jt c,jt c];exact r'
   ·rw[ju c,ju c,D8]
    have hm:∀i∈(Kr.run (ltS zs) (M1 zs.length)).toList,i<jf.length:=λi hi=>by
     have:=(Dg.mp (Kr.sort_perm (by omega))).mem_iff.mp hi;rw[<- hlen];simpa using this
    generalize (Kr.run (ltS zs) (M1 zs.length)).toList=is at hm
    induction is with
    |nil=>exact .nil
    |cons i is ih=>exact .cons (nth i (hm i B2)) (ih λj hj=>hm j (B4 _ hj))
  exact⟨.ref D,_,I.laid (t':=tk) k hD (show J1 X.prog X.w _ h2 _ (.lst ((outS zs).map V.str)) from⟨by rw[A9];omega,_,e,vo,ho⟩),rfl,q _ (I.hok.fresh hD)⟩
end
end L2
end
section
namespace Tb
open PySem L2 Pu
abbrev E7:pF:=R7
def Ij:pS:=(qSeq (qSet 2 (qC (.str (B0 "abcdefghijklmnopqrstuvwxyz"))))
   (qSeq (qPar 3 4 (sV (B5 E7 (A3 (qV 0) (A3 (qC (.int 26)) qNil)))) (sV (qOp wIx (qL (qLst (A3 (qC (.int 1)) (A3 (qC (.int 3)) (A3 (qC (.int 5)) (A3 (qC (.int 7)) (A3 (qC (.int 9)) (A3 (qC (.int 11)) (A3 (qC (.int 15)) (A3 (qC (.int 17)) (A3 (qC (.int 19)) (A3 (qC (.int 21)) (A3 (qC (.int 23)) (A3 (qC (.int 25)) qNil)))))))))))))) (B5 E7 (A3 (qV 0) (A3 (qC (.int 12)) qNil))))))
   (qSeq (qPar 5 6 (sV (B5 E7 (A3 (qV 0) (A3 (qC (.int 3)) qNil)))) (sV (W3 (qC (.str (B0 ""))) (qL (E6 [none,some 2,some 0] (K7 (B5 E7 (A3 (qV 0) (A3 (qC (.int 8)) qNil)))) (gN 0) qTru (qOp wIx (qV 1) (B5 E7 (A3 (qV 2) (A3 (qC (.int 26)) qNil)))))))))
   (qSeq (qPar 7 8 (sV (B5 E7 (A3 (qV 0) (A3 (qOp wAdd (qUn wLen (qV 6)) (qC (.int 1))) qNil)))) (sO (qLst qNil)))
   (qSeq (qFor (K7 (qV 1)) (gN 9) (qSeq (qSet 10 (qOp wIx (qV 2) (qOp wMod (qOp wAdd (qV 3) (qOp wMul (qV 9) (qV 4))) (qC (.int 26)))))
   (qSeq (qSet 11 (qOp wAdd (qOp wAdd (qSl (qV 6) qNo (L5 (qV 7))) (qV 10)) (qSl (qV 6) (L5 (qV 7)) qNo)))
   (qSeq (qIfS (qB (qOp (wEq 4) (qV 5) (qC (.int 0)))) (qSeq (qSet 12 (W3 (qC (.str (B0 ""))) (qL (E6 [none,some 2,some 0] (K7 (B5 E7 (A3 (qV 0) (A3 (qC (.int 8)) qNil)))) (gN 0) qTru (qOp wIx (qV 1) (B5 E7 (A3 (qV 2) (A3 (qC (.int 26)) qNil))))))))
   (qSeq (qSet 13 (B5 E7 (A3 (qV 0) (A3 (qOp wAdd (qUn wLen (qV 12)) (qC (.int 1))) qNil))))
   (qSet 11 (qOp wAdd (qOp wAdd (qSl (qV 12) qNo (L5 (qV 13))) (qV 10)) (qSl (qV 12) (L5 (qV 13)) qNo))))) qNx)
   (K2 (K8 8 (qIf (qB (qOp (wIn 4 false) (qV 11) (qO 8))) (qOp wMul (qV 10) (qC (.int 8))) (qV 11))))))))
   (qSeq (qIfS (qB (qOp (wEq 4) (B5 E7 (A3 (qV 0) (A3 (qC (.int 4)) qNil))) (qC (.int 0)))) (qSeq (qPar 14 13 (sV (qOp wIx (qL (qLst (A3 (qC (.str (B0 "drop"))) (A3 (qC (.str (B0 "touch"))) (A3 (qC (.str (B0 "none"))) (A3 (qC (.str (B0 "some"))) (A3 (qC (.str (B0 "d"))) (A3 (qC (.str (B0 "u"))) (A3 (qC (.str (B0 "t"))) (A3 (qC (.str (B0 "o"))) qNil)))))))))) (B5 E7 (A3 (qV 0) (A3 (qC (.int 8)) qNil))))) (sV (B5 E7 (A3 (qV 0) (A3 (qV 1) qNil)))))
   (qPut 8 (qIf (qB (qOp (wIn 4 false) (qV 14) (qO 8))) (qOpR wIx (qO 8) (qV 13)) (qV 14)) (qV 13))) qNx)
   (qRet (qUn K1 (qO 8)))))))))
def Ik:pF:=fnP ["_law_hand_here","_law_many","_law_letters","_law_first","_law_turn","_law_alike_here","_law_base","_law_place","_law_found","_law_k","_law_own","_law_name","_law_text","_law_at","_law_word_here"] ["_law_hand_here","_law_many"] Ij
def Il:pS:=(qSeq (qAsg (qTup (A3 (B5 E7 (A3 (qV 0) (A3 (qC (.int 6)) qNil))) (A3 (B5 E7 (A3 (qV 0) (A3 (qC (.int 3)) qNil))) qNil))) (gTp 2 (gCn (gN 4) (gCn (gN 5) gNl))))
   (qSeq (qOwn 6 (E6 [none,some 4,some 0] (qIt (qV 2)) (gN 0) qTru (qIf (qB (qOp wLt (B5 E7 (A3 (qV 2) (A3 (qC (.int 5)) qNil))) (qV 1))) (qV 0) (qC .non))))
   (qSeq (qOwn 7 (E6 [none,some 4,some 0] (qIt (qV 3)) (gN 0) qTru (qIf (qB (qOp wLt (B5 E7 (A3 (qV 2) (A3 (qC (.int 5)) qNil))) (qV 1))) (qV 0) (qC .non))))
   (qSeq (qSet 8 (B5 E7 (A3 (qV 0) (A3 (qUn wLen (qV 3)) qNil))))
   (qSeq (qIfS (qAnd (qB (qOp (wEq 4) (qV 5) (qC (.int 0)))) (qB (qOp (wEq 4) (B5 E7 (A3 (qV 0) (A3 (qC (.int 2)) qNil))) (qC (.int 0))))) (qPut 6 (qOp wIx (qC (.str (B0 "utdo"))) (B5 E7 (A3 (qV 0) (A3 (qC (.int 4)) qNil)))) (qV 8)) (qIfS (qB (qOp (wEq 4) (qV 5) (qC (.int 0)))) (qPut 7 (qOp wIx (qV 1) (B5 E7 (A3 (qV 0) (A3 (qUn wLen (qV 1)) qNil)))) (qV 8)) qNx))
   (qRet (qTup (A3 (qUn K1 (qO 6)) (A3 (qUn K1 (qO 7)) qNil)))))))))
def Im:pF:=fnP ["_law_hand_here","_law_boats_here","_law_marks","_law_row","_law_known","_law_other","_law_some","_law_behind","_law_at"] ["_law_hand_here","_law_boats_here","_law_marks","_law_row"] Il
def Io:pS:=(qSeq (qIfS (qB (qOp (wEq 4) (qV 1) (qC (.str (B0 "t"))))) (qRet (qL (qCat (qV 0) (qL (qLst (A3 (qV 2) qNil)))))) qNx)
   (qSeq (qIfS (qB (qOp (wEq 4) (qV 1) (qC (.str (B0 "u"))))) (qRet (qIf (qAnd (qB (qOp (wNe 4) (qV 0) (qL (qLst qNil)))) (qB (qOp wLe (qOp wSub (qOp wSub (qV 2) (qOp wIx (qV 0) (qUn wNeg (qC (.int 1))))) (qC (.int 1))) (qV 3)))) (qSl (qV 0) qNo (L5 (qUn wNeg (qC (.int 1))))) (qC .non))) qNx)
   (qRet (qIf (qOr (qB (qOp (wEq 4) (qV 1) (qC (.str (B0 "d"))))) (qB (qOp (wEq 4) (qV 0) (qL (qLst qNil))))) (qV 0) (qC .non)))))
def FS:pF:=fnP ["_law_opened_here","_law_mark","_law_place","_law_reach"] ["_law_opened_here","_law_mark","_law_place","_law_reach"] Io
def Ip:pS:=(qSeq (qIfS (qB (qOp wGt (qUn wLen (qV 0)) (qOp wSub (qV 2) (qV 1)))) (qRet (qC (.bl false))) qNx)
   (qRet (qUn wAll (qL (E6 [none,none,some 3,some 1] (Y9 (qUn wRev (qV 0))) (gTp 2 (gCn (gN 0) (gCn (gN 1) gNl))) qTru (qOp wLe (qOp wSub (qOp wSub (qOp wAdd (qV 3) (qV 0)) (qV 1)) (qC (.int 1))) (qV 2)))))))
def CD:pF:=fnP ["_law_opened_here","_law_place","_law_many","_law_reach"] ["_law_opened_here","_law_place","_law_many","_law_reach"] Ip
def Iq:pS:=(qSeq (qPar 3 4 (sO (qLst qNil)) (sV (qL (qLst qNil))))
   (qSeq (qFor (K7 (qV 1)) (gN 5) (qSeq (qOwn 6 (qLst qNil))
   (qSeq (qFor (qIt (qTup (A3 (qC (.str (B0 "o"))) (A3 (qC (.str (B0 "t"))) (A3 (qC (.str (B0 "d"))) (A3 (qC (.str (B0 "u"))) (A3 (qC (.str (B0 "o"))) (A3 (qC (.str (B0 "t"))) (A3 (qC (.str (B0 "u"))) qNil))))))))) (gN 7) (qSeq (qSet 8 (B5 FS (A3 (qV 4) (A3 (qV 7) (A3 (qV 5) (A3 (qV 2) qNil))))))
   (qIfS (qAnd (qB (qOp O3 (qV 8) (qC .non))) (qB (B5 CD (A3 (qV 8) (A3 (qOp wAdd (qV 5) (qC (.int 1))) (A3 (qV 1) (A3 (qV 2) qNil))))))) (K2 (K8 6 (qTup (A3 (qV 7) (A3 (qV 8) qNil))))) qNx)))
   (qSeq (qAsg (qOpR wIx (qO 6) (B5 E7 (A3 (qV 0) (A3 (qUn wLen (qO 6)) qNil)))) (gTp 2 (gCn (gN 7) (gCn (gN 4) gNl))))
   (K2 (K8 3 (qV 7)))))))
   (qRet (qUn K1 (qO 3)))))
def Ir:pF:=fnP ["_law_hand_here","_law_many","_law_reach","_law_marks","_law_opened_here","_law_place","_law_some","_law_mark","_law_after"] ["_law_hand_here","_law_many","_law_reach"] Iq
def Iu:pS:=(qSeq (qPar 2 3 (sO (V8 (qV 0))) (sO (qLst qNil)))
   (qSeq (qFor (R9 (qV 1)) (gTp 2 (gCn (gN 4) (gCn (gN 5) gNl))) (qSeq (qIfS (qB (qOp (wEq 4) (qV 5) (qC (.str (B0 "t"))))) (K2 (K8 3 (qV 4))) qNx)
   (qIfS (qB (qOp (wEq 4) (qV 5) (qC (.str (B0 "u"))))) (qSeq (qSet 6 (qPop 3))
   (W7 2 (qOp wIx (qV 0) (qV 4)) (qOp wIx (qV 0) (qV 6)) (qV 6) (qV 4))) qNx)))
   (qRet (qUn K1 (qO 2)))))
def AR:pF:=fnP ["_law_start","_law_marks","_law_row","_law_opened_here","_law_place","_law_mark","_law_at"] ["_law_start","_law_marks"] Iu
def Iv:pS:=(qSeq (qSet 2 (qL (qLst (A3 (qTup (A3 (qTup qNil) (A3 (qL (qLst qNil)) qNil))) qNil))))
   (qSeq (qFor (K7 (qV 0)) (gN 3) (qSeq (qOwn 4 (qLst qNil))
   (qSeq (qFor (qIl (qV 2)) (gTp 2 (gCn (gN 5) (gCn (gN 6) gNl))) (qFor (qIt (qTup (A3 (qC (.str (B0 "u"))) (A3 (qC (.str (B0 "t"))) (A3 (qC (.str (B0 "d"))) (A3 (qC (.str (B0 "o"))) qNil)))))) (gN 7) (qSeq (qSet 8 (B5 FS (A3 (qV 6) (A3 (qV 7) (A3 (qV 3) (A3 (qV 1) qNil))))))
   (qIfS (qAnd (qB (qOp O3 (qV 8) (qC .non))) (qB (B5 CD (A3 (qV 8) (A3 (qOp wAdd (qV 3) (qC (.int 1))) (A3 (qV 0) (A3 (qV 1) qNil))))))) (K2 (K8 4 (qTup (A3 (qOp wAdd (qV 5) (qTup (A3 (qV 7) qNil))) (A3 (qV 8) qNil))))) qNx))))
   (W0 4 (qSet 2 (qV 4))))))
   (qRet (qL (E6 [none,none] (qIl (qV 2)) (gTp 2 (gCn (gN 0) (gCn (gN 1) gNl))) qTru (qV 0))))))
def Iw:pF:=fnP ["_law_many","_law_reach","_law_found","_law_place","_law_longer","_law_marks","_law_opened_here","_law_mark","_law_after"] ["_law_many","_law_reach"] Iv
def Ix:pS:=(qSeq (qIfS (qB (qUn wAny (qL (E6 [none,none] (qZip false false (qOp wIx (qV 1) (qC (.int 0))) (qV 2)) (gTp 2 (gCn (gN 0) (gCn (gN 1) gNl))) qTru (Q3 (qOp O3 (qV 0) (qC .non)) (qOp (wNe 4) (qV 0) (qV 1))))))) (qRet (qC (.bl false))) qNx)
   (qRet (Y7 (qUn wAny (qL (E6 [none,none] (qZip false false (qOp wIx (qV 1) (qC (.int 1))) (B5 AR (A3 (qV 0) (A3 (qV 2) qNil)))) (gTp 2 (gCn (gN 0) (gCn (gN 1) gNl))) qTru (Q3 (qOp O3 (qV 0) (qC .non)) (qOp (wNe 4) (qV 0) (qV 1)))))))))
def Iy:pF:=fnP ["_law_start","_law_torn","_law_marks"] ["_law_start","_law_torn","_law_marks"] Ix
def Mv:pS:=(qRet (qUn K1 (qL (E6 [none,some 0] (K7 (qUn wLen (qOp wIx (qV 0) (qC (.int 0))))) (gN 0) qTru (qIf (qB (qUn wAll (qL (E6 [none,some 0,some 1] (qIl (qV 1)) (gN 0) qTru (qOp (wEq 4) (qOp wIx (qV 0) (qV 1)) (qOp wIx (qOp wIx (qV 2) (qC (.int 0))) (qV 1))))))) (qOp wIx (qOp wIx (qV 1) (qC (.int 0))) (qV 0)) (qC .non))))))
def FT:pF:=fnP ["_law_rows"] ["_law_rows"] Mv
def Iz:pS:=(qSeq (qIfS (qOr (qNot (qB (qUn (wIsi "tuple") (qV 3)))) (qOr (qB (qOp (wNe 4) (qUn wLen (qV 3)) (qC (.int 4)))) (qOr (qB (qOp (wNe 4) (qSl (qV 3) qNo (L5 (qC (.int 2)))) (qV 2))) (qB (qUn (wIsi "bool") (qOp wIx (qV 3) (qC (.int 1)))))))) (qRet (qC (.bl false))) qNx)
   (qSeq (qAsg (qSl (qV 3) (L5 (qC (.int 2))) qNo) (gTp 2 (gCn (gN 4) (gCn (gN 5) gNl))))
   (qSeq (qIfS (qOr (qB (qOp (wIn 4 true) (qV 4) (qV 1))) (qB (qOp (wIn 4 true) (qV 5) (qV 1)))) (qRet (qC (.bl false))) qNx)
   (qSeq (qIfS (qB (qOp (wEq 4) (qOp wIx (qV 2) (qC (.int 0))) (qC (.str (B0 "mark"))))) (qRet (qOp (wNe 4) (qOp wIx (qV 4) (qOp wIx (qV 2) (qC (.int 1)))) (qOp wIx (qV 5) (qOp wIx (qV 2) (qC (.int 1)))))) qNx)
   (qRet (qOp (wNe 4) (qOp wIx (B5 AR (A3 (qV 0) (A3 (qV 4) qNil))) (qOp wIx (qV 2) (qC (.int 1)))) (qOp wIx (B5 AR (A3 (qV 0) (A3 (qV 5) qNil))) (qOp wIx (qV 2) (qC (.int 1))))))))))
def CF:pF:=fnP ["_law_start","_law_words","_law_due","_law_paper","_law_one","_law_other"] ["_law_start","_law_words","_law_due","_law_paper"] Iz
def FU:pS:=(qSeq (qIfS (qB (qOp (wEq 4) (qV 1) (qL (qLst qNil)))) (qRet (qOp (wEq 4) (qV 2) (qTup (A3 (qC (.str (B0 "none"))) qNil)))) qNx)
   (qSeq (qAsg (qTup (A3 (B5 FT (A3 (qV 1) qNil)) (A3 (B5 FT (A3 (qL (E6 [none,some 0] (qIl (qV 1)) (gN 0) qTru (B5 AR (A3 (qV 1) (A3 (qV 0) qNil))))) qNil)) qNil))) (gTp 2 (gCn (gN 3) (gCn (gN 4) gNl))))
   (qSeq (qIfS (qOr (qNot (qB (qUn (wIsi "tuple") (qV 2)))) (qOr (qB (qOp (wNe 4) (qUn wLen (qV 2)) (qC (.int 4)))) (qB (qOp (wNe 4) (qSl (qV 2) qNo (L5 (qC (.int 3)))) (qTup (A3 (qC (.str (B0 "some"))) (A3 (qV 3) (A3 (qV 4) qNil)))))))) (qRet (qC (.bl false))) qNx)
   (qSeq (qOwn 5 (E6 [none,some 3] (K7 (qUn wLen (qV 0))) (gN 0) (qB (qOp wIsN (qOp wIx (qV 1) (qV 0)) (qC .non))) (qTup (A3 (qC (.str (B0 "mark"))) (A3 (qV 0) qNil)))))
   (qSeq (K2 (Z2 5 (qL (E6 [none,some 4] (K7 (qUn wLen (qV 0))) (gN 0) (qB (qOp wIsN (qOp wIx (qV 1) (qV 0)) (qC .non))) (qTup (A3 (qC (.str (B0 "boat"))) (A3 (qV 0) qNil)))))))
   (qSeq (qIfS (qOr (qNot (qB (qUn (wIsi "tuple") (qOp wIx (qV 2) (qC (.int 3)))))) (qB (qOp (wNe 4) (qUn wLen (qOp wIx (qV 2) (qC (.int 3)))) (qUn wLen (qO 5))))) (qRet (qC (.bl false))) qNx)
   (W0 5 (qRet (qUn wAll (qL (E6 [none,none,some 0,some 1] (qZip true false (qV 5) (qOp wIx (qV 2) (qC (.int 3)))) (gTp 2 (gCn (gN 0) (gCn (gN 1) gNl))) qTru (B5 CF (A3 (qV 2) (A3 (qV 3) (A3 (qV 0) (A3 (qV 1) qNil))))))))))))))))
def FV:pF:=fnP ["_law_start","_law_words","_law_found","_law_marks","_law_row","_law_dues"] ["_law_start","_law_words","_law_found"] FU
def IA:pS:=(qSeq (qSet 4 (qUn wLen (qV 2)))
   (qSeq (qOwn 5 (U6 [none,none,some 2,some 4] (qIt (qV 0)) (gN 0) (qIl (qOp wIx (qV 2) (qOp wSub (qV 3) (qC (.int 1))))) (gN 1) qTru (qOp wAdd (qTup (A3 (qV 0) qNil)) (qV 1))))
   (qSeq (qFor (K7 (qOp wAdd (qOp wMin (qV 3) (qOp wSub (qV 4) (qC (.int 2)))) (qC (.int 1)))) (gN 6) (Z3 5 (qL (U6 [none,none,some 2,some 6,some 4] (qIl (qOp wIx (qV 1) (qV 6))) (gN 0) (qIl (qOp wIx (qV 2) (qOp wSub (qOp wSub (qV 4) (qC (.int 2))) (qV 3)))) (gN 1) qTru (qOp wAdd (qOp wAdd (qOp wAdd (qTup (A3 (qC (.str (B0 "t"))) qNil)) (qV 0)) (qTup (A3 (qC (.str (B0 "u"))) qNil))) (qV 1))))))
   (U4 5))))
def FW:pF:=fnP ["singles","closed","shorter","reach","many","words","inner"] ["singles","closed","shorter","reach"] IA
def IB:pS:=(qSeq (qOwn 2 (qLst (A3 (qL (qLst (A3 (qTup qNil) qNil))) qNil)))
   (qSeq (qOwn 3 (qLst (A3 (qL (qLst (A3 (qTup qNil) qNil))) qNil)))
   (qSeq (qFor (K7 (qV 0)) (gN 4) (qSeq (K2 (K8 2 (i8 (B5 FW (A3 (qTup (A3 (qC (.str (B0 "d"))) qNil)) (A3 (qV 2) (A3 (qV 2) (A3 (qV 1) qNil))))))))
   (K2 (K8 3 (i8 (B5 FW (A3 (qTup (A3 (qC (.str (B0 "d"))) (A3 (qC (.str (B0 "o"))) qNil))) (A3 (qV 2) (A3 (qV 3) (A3 (qV 1) qNil))))))))))
   (qRet (qUn K1 (qL (w4 (qOpR wIx (qO 3) (qV 0)))))))))
def FX:pF:=fnP ["many","reach","closed","words","length"] ["many","reach"] IB
def IC:pS:=(qRet (qUn wAll (qL (E6 [none,none] (qZip false false (qV 0) (qV 1)) (gTp 2 (gCn (gN 0) (gCn (gN 1) gNl))) qTru (qOrV (qOp wIsN (qV 0) (qC .non)) (qOp (wEq 4) (qV 0) (qV 1)))))))
def FY:pF:=fnP ["torn","whole"] ["torn","whole"] IC
def ID:pS:=(qRet (Q3 (qUn (wIsi "str") (qV 0)) (qUn (wInC 4 [B0 "d",B0 "o",B0 "t",B0 "u"]) (qV 0))))
def IE:pF:=fnP ["thing"] ["thing"] ID
def IF:pS:=(qSeq (qIfS (qOr (qNot (qB (qUn (wIsi "tuple") (qV 1)))) (qNot (qB (V7 wLe wLe (qC (.int 1)) (qUn wLen (qV 1)) (qC (.int 24)))))) (qRet (qC (.bl false))) qNx)
   (qSeq (qIfS (qNot (qB (qUn wAll (qL (E6 [none] (qIt (qV 1)) (gN 0) qTru (B5 IE (A3 (qV 0) qNil))))))) (qRet (qC (.bl false))) qNx)
   (qSeq (qOwn 2 (qLst qNil))
   (qSeq (qFor (R9 (qV 1)) (gTp 2 (gCn (gN 3) (gCn (gN 4) gNl))) (qIfS (qB (qOp (wEq 4) (qV 4) (qC (.str (B0 "t"))))) (K2 (K8 2 (qV 3))) (qIfS (qAnd (qB (qOp (wEq 4) (qV 4) (qC (.str (B0 "o"))))) (U5 (qO 2))) (qRet (qC (.bl false))) (qIfS (qB (qOp (wEq 4) (qV 4) (qC (.str (B0 "u"))))) (qIfS (qOr (qNot (U5 (qO 2))) (qB (qOp wGt (qOp wSub (qOp wSub (qV 3) (qPop 2)) (qC (.int 1))) (qV 0)))) (qRet (qC (.bl false))) qNx) qNx))))
   (qRet (Z1 (qO 2)))))))
def FZ:pF:=fnP ["reach","thing","unclosed","place","mark"] ["reach","thing"] IF
def IG:pS:=(qRet (qL (E6 [none] (qIt (qV 0)) (gN 0) (qB (qOp (wEq 4) (qOp wIx (qV 0) (qC (.int 0))) (qC (.str (B0 "touch"))))) (qV 0))))
def IH:pF:=fnP ["events"] ["events"] IG
def II:pS:=(qSeq (qOwn 3 (V8 (qV 0)))
   (qSeq (W7 3 (qOp wIx (qV 0) (qV 2)) (qOp wIx (qV 0) (qV 1)) (qV 1) (qV 2))
   (qRet (qUn K1 (qO 3)))))
def IJ:pF:=fnP ["row","one","other","boats"] ["row","one","other"] II
def IK:pS:=(qSeq (qSet 2 (qV 0))
   (qSeq (qFor (qIl (B5 IH (A3 (qV 1) qNil))) (gN 3) (qSet 2 (B5 IJ (A3 (qV 2) (A3 (W6 (qV 0) (qOp wIx (qV 3) (qC (.int 1)))) (A3 (W6 (qV 0) (qOp wIx (qV 3) (qC (.int 2)))) qNil))))))
   (qRet (qV 2))))
def IL:pF:=fnP ["start","sheet","row","touch"] ["start","sheet"] IK
def IM:pS:=(qRet (qUn K1 (qL (Aj (qV 0)))))
def Mw:pF:=fnP ["events"] ["events"] IM
def IN:pS:=(qSeq (qOwn 2 (qLst qNil))
   (qSeq (qOwn 3 (qLst qNil))
   (qSeq (qFor (qZip false false (qV 0) (qV 1)) (gTp 2 (gCn (gN 4) (gCn (gN 5) gNl))) (qIfS (qB (qOp (wEq 4) (qV 5) (qC (.str (B0 "d"))))) (K2 (K8 2 (qTup (A3 (qC (.str (B0 "drop"))) (A3 (qV 4) qNil))))) (qIfS (qB (qOp (wEq 4) (qV 5) (qC (.str (B0 "t"))))) (K2 (K8 3 (qV 4))) (qIfS (qB (qOp (wEq 4) (qV 5) (qC (.str (B0 "u"))))) (K2 (K8 2 (qTup (A3 (qC (.str (B0 "touch"))) (A3 (qV 4) (A3 (qPop 3) qNil)))))) qNx))))
   (qRet (B5 Mw (A3 (qUn K1 (qO 2)) qNil))))))
def IP:pF:=fnP ["start","word","events","unclosed","boat","mark"] ["start","word"] IN
def IQ:pS:=(qRet (B5 IL (A3 (qV 0) (A3 (B5 IP (A3 (qV 0) (A3 (qV 1) qNil))) qNil))))
def Ea:pF:=fnP ["start","word"] ["start","word"] IQ
def IR:pS:=(qSeq (qIfS (qOr (qNot (qB (B5 FZ (A3 (qV 1) (A3 (qV 3) qNil))))) (qB (qOp (wNe 4) (qUn wLen (qV 3)) (qUn wLen (qV 0))))) (qRet (qC (.bl false))) qNx)
   (qSeq (qAsg (qV 2) (gTp 2 (gCn (gN 4) (gCn (gN 5) gNl))))
   (qRet (Q3 (B5 FY (A3 (qV 4) (A3 (qV 3) qNil))) (B5 FY (A3 (qV 5) (A3 (B5 Ea (A3 (qV 0) (A3 (qV 3) qNil))) qNil)))))))
def IS:pF:=fnP ["start","reach","torn","thing","marks","behind"] ["start","reach","torn","thing"] IR
def IT:pS:=(qRet (qL (E6 [none,some 0,some 1,some 2] (qIt (B5 FX (A3 (qUn wLen (qV 0)) (A3 (qV 1) qNil)))) (gN 0) (qB (B5 IS (A3 (qV 1) (A3 (qV 2) (A3 (qV 3) (A3 (qV 0) qNil)))))) (qV 0))))
def IU:pF:=fnP ["start","reach","torn"] ["start","reach","torn"] IT
def Mx:pS:=(qSeq (qSet 1 (qOp wIx (qV 0) (qC (.int 0))))
   (qRet (qUn K1 (qL (E6 [none,none,some 0] (R9 (qV 1)) (gTp 2 (gCn (gN 0) (gCn (gN 1) gNl))) qTru (qIf (qB (qUn wAll (qL (E6 [none,some 1,some 0] (qIl (qV 2)) (gN 0) qTru (qOp (wEq 4) (qOp wIx (qV 0) (qV 2)) (qV 1)))))) (qV 1) (qC .non)))))))
def Eb:pF:=fnP ["tuples","first"] ["tuples"] Mx
def IV:pS:=(qSeq (qOwn 3 (qLst qNil))
   (qSeq (qFor (R9 (B5 Eb (A3 (qV 2) qNil))) (gTp 2 (gCn (gN 4) (gCn (gN 5) gNl))) (qIfS (qB (qOp wIsN (qV 5) (qC .non))) (qSeq (qSet 6 (qL (E6 [none,none,some 4,some 2] (qZip true true (qV 1) (qV 2)) (gTp 2 (gCn (gN 0) (gCn (gN 1) gNl))) (qB (qOp (wNe 4) (qOp wIx (qV 1) (qV 2)) (qOp wIx (qOp wIx (qV 3) (qC (.int 0))) (qV 2)))) (qV 0))))
   (K2 (K8 3 (qTup (A3 (qV 0) (A3 (qV 4) (A3 (qOp wIx (qV 1) (qC (.int 0))) (A3 (qOp wIx (qV 6) (qC (.int 0))) qNil)))))))) qNx))
   (U4 3)))
def F_:pF:=fnP ["kind","words","tuples","papers","place","part","unlike"] ["kind","words","tuples"] IV
def IW:pS:=(qSeq (qSet 3 (B5 IU (A3 (qV 0) (A3 (qV 1) (A3 (qV 2) qNil)))))
   (qSeq (qIfS (qNot (U5 (qV 3))) (qRet (qTup (A3 (qC (.str (B0 "none"))) qNil))) qNx)
   (qSeq (qSet 4 (qL (E6 [none,some 0] (qIl (qV 3)) (gN 0) qTru (B5 Ea (A3 (qV 1) (A3 (qV 0) qNil))))))
   (qSeq (qSet 5 (qL (qCat (B5 F_ (A3 (qC (.str (B0 "mark"))) (A3 (qV 3) (A3 (qV 3) qNil)))) (B5 F_ (A3 (qC (.str (B0 "boat"))) (A3 (qV 3) (A3 (qV 4) qNil)))))))
   (qRet (qTup (A3 (qC (.str (B0 "some"))) (A3 (B5 Eb (A3 (qV 3) qNil)) (A3 (B5 Eb (A3 (qV 4) qNil)) (A3 (qUn K1 (qV 5)) qNil))))))))))
def IX:pF:=fnP ["start","reach","torn","words","rows","papers"] ["start","reach","torn"] IW
def Ga:pS:=(qSeq (qFor (K7 (qOp wAdd (qC (.int 1)) (qUn wLen (qSl (qV 0) qNo (L5 (qC (.int 3))))))) (gN 1) (qSeq (Z4 2 (qV 0) (qV 1))
   (qSeq (qPar 3 4 (sV (qOp wIx (qL (qLst (A3 (qOp wAdd (qC (.int 1)) (B5 E7 (A3 (qV 2) (A3 (qC (.int 5)) qNil)))) (A3 (qOp wAdd (qC (.int 6)) (B5 E7 (A3 (qV 2) (A3 (qC (.int 2)) qNil)))) qNil)))) (qUn wInt (qOp (wEq 4) (B5 E7 (A3 (qV 2) (A3 (qC (.int 8)) qNil))) (qC (.int 0)))))) (sV (B5 E7 (A3 (qV 2) (A3 (qC (.int 8)) qNil)))))
   (qSeq (qSet 5 (B5 Ik (A3 (qV 2) (A3 (qOp wAdd (qV 3) (qC (.int 1))) qNil))))
   (qSeq (qAsg (qTup (A3 (qSl (qV 5) qNo (L5 (qV 3))) (A3 (B5 Ir (A3 (qV 2) (A3 (qV 3) (A3 (qV 4) qNil)))) qNil))) (gTp 2 (gCn (gN 6) (gCn (gN 7) gNl))))
   (qSeq (qSet 8 (B5 Im (A3 (qV 2) (A3 (qV 5) (A3 (qV 7) (A3 (B5 AR (A3 (qV 6) (A3 (qV 7) qNil))) qNil))))))
   (qSeq (qSet 9 (qL (E6 [none,some 6,some 8] (qIl (B5 Iw (A3 (qV 3) (A3 (qV 4) qNil)))) (gN 0) (qB (B5 Iy (A3 (qV 1) (A3 (qV 2) (A3 (qV 0) qNil))))) (qV 0))))
   (qSeq (qSet 10 (qUn Br (qTup (A3 (qV 6) (A3 (qV 8) qNil)))))
   (qIfS (qOr (qNot (qB (B5 FV (A3 (qV 6) (A3 (qV 9) (A3 (B5 IX (A3 (qV 6) (A3 (qV 4) (A3 (qV 8) qNil)))) qNil)))))) (qB (qOp (wNe 4) (qUn Br (qTup (A3 (qV 6) (A3 (qV 8) qNil)))) (qV 10)))) (qRet (qC (.bl false))) qNx)))))))))
   (qRet (qC (.bl true))))
def top (i:Nat):Stmt:=PySem.Challenge.pw_touchboats_k30_torn_sheets_mended.main.body.getD i (.Pass ⟨0,0,0,0⟩)
end Tb
end
section
namespace Wd
abbrev Mk:=Pu.Mk
def S (f:Nat->Mk):Nat->List Nat
 |0=>[]
 |n+1=>match f n with|.t=>n::S f n|.u=>(S f n).tail|_=>S f n
def okAt (f:Nat->Mk)(reach:Int)(j:Nat):Prop:=(f j=.o->S f j=[])/\(f j=.u->∃a,(S f j).head?=some a/\(j:Int)-a-1<=reach)
end Wd
namespace Tb
open PySem L2 Pu
theorem grdE {c:Bool}{P:Prop}:grd c P=(c=true/\P):=by cases c <;> simp[grd]
set_option compiler.extract_closed false in
set_option hygiene false in
local macro_rules | `(tactic| walk_at "pu") => do
 let s ← `(tactic| simp only [grdE,qSeq,qNx,qSet,qOwn,qAsg,K2,qRet,U4,qIfS,qPar,sV,sO,qPut,gAt,W0,V9,qV,qO,qC,qOp,qOpR,qUn,wI,wI0,wAdd,wSub,wMul,wMod,wEq,wNe,wLt,wLe,wGt,wIsN,O3,qB,V7,qAnd,qOr,qNot,Q3,qOrV,Y7,qIf,qNil,A3,qTup,qLst,qL,wIx,qNo,L5,qSl,wSl,wLen,wInt,wAll,wAny,K1,V8,wIsi,wMin,B5,gN,gNl,gCn,gTp,qIl,qIt,K7,Y9,capV,capS,qTru,E6,qCat,W3,Z0,U5,wNeg,K8,h9,qPop,P0,tyP,isT,J9,k9,D2,U8,X7,P4,N7,P6,T7,l8,l9,o8,true_and,and_true,reduceIte,R0,c6,beq_self_eq_true,c7,Y2,V3,R1,O8,o9,cmpb,O9,F2,AH,M9,AI,i3,i4,i5,t9,decide_true,decide_false,R7,Z1,W4,Z2,wRev,wInC,Z3,Z4,R9,qZip,qFor,M2,W6,W7,E7,Aj,wSet,u6,u7,u8,u9,v4,V0,V1,V4,V5,D5])
 match s with
 | `(tactic| simp only [$xs,*]) => `(tactic| (try dsimp only [dreduceIte, $(⟨xs.elemsAndSeps⟩),*]) <;> (try $s:tactic))
 |_ => Bh
set_option compiler.extract_closed false in
set_option hygiene false in
local macro_rules | `(tactic| walk_at "pv") => do
 let s ← `(tactic| simp only [grdE,qSeq,qNx,qSet,qOwn,qAsg,qRet,U4,qIfS,qPar,sV,sO,qPut,gAt,W0,V9,qV,qO,qC,qOp,qOpR,qUn,wI,wI0,wAdd,wSub,wMul,wMod,wEq,wNe,wLt,wLe,wGt,wIsN,O3,qB,V7,qAnd,qOr,qNot,Q3,qOrV,Y7,qIf,qNil,A3,qTup,qLst,qL,wIx,qNo,L5,qSl,wSl,wLen,wInt,wAll,wAny,K1,V8,wIsi,wMin,B5,gN,gNl,gCn,gTp,qIl,qIt,K7,Y9,capV,capS,qTru,E6,qCat,W3,Z0,U5,wNeg,qPop,P0,tyP,isT,J9,k9,D2,U8,X7,P4,N7,P6,T7,l8,l9,o8,true_and,and_true,reduceIte,R0,c6,beq_self_eq_true,c7,Y2,V3,R1,O8,o9,cmpb,O9,F2,AH,M9,AI,i3,i4,i5,t9,decide_true,decide_false,R7,Z1,W4,Z2,wRev,wInC,Z3,Z4,R9,qZip,qFor,M2,W6,W7,E7,Aj,wSet,u6,u7,u8,u9,v4,V0,V1,V4,V5,D5])
 match s with
 | `(tactic| simp only [$xs,*]) => `(tactic| (try dsimp only [dreduceIte, $(⟨xs.elemsAndSeps⟩),*]) <;> (try $s:tactic))
 |_ => Bh
def fN (ms:List Mk):Nat->Mk:=λn=>ms.getD n .d
theorem fN_at {ms:List Mk}{i:Nat}{m:Mk}(h:ms[i]?=some m):fN ms i=m:=by
 unfold fN;rw[List.getD,h];rfl
noncomputable def isMk (x:PV):Bool:=match x with|.str z=>decide (z=B0 "d")||(decide (z=B0 "o")||(decide (z=B0 "t")||decide (z=B0 "u")))|_=>false
theorem Tf (m:Mk):isMk (mkP m)=true:=by cases m <;> decide +kernel
theorem Tg (x:PV):memP x []=false:=rfl
theorem My (x y:PV)(ys:List PV):memP x (y::ys)=(eqP y x||memP x ys):=rfl
theorem Gb (a b:Str):decide (a=b)=decide (b=a):=decide_eq_decide.mpr ⟨Eq.symm,Eq.symm⟩
theorem Th {x:PV}{n:Nat}{R:PV->Nat->Prop}(hx:shw x)(h:R (.bl (isMk x)) n):IE [x] n R:=by
 refine⟨rfl,?_⟩;unfold ID;cases x with
 | str z =>
  walk_at "pu"
  have e:memP (.str z) [PV.str (B0 "d"),PV.str (B0 "o"),PV.str (B0 "t"),PV.str (B0 "u")]=isMk (.str z):=by
   simp only[My,Tg,M9,V3,isMk];rw[Gb _ z,Gb _ z,Gb _ z,Gb _ z]
  rw[e];exact h
 |_=>first|exact hx.elim|(walk_at "pu";exact h)
def isF (y:PV):PV:=.bl (isMk y)
theorem Ti (xs:List PV):t7 (xs.map isF)=some (xs.map isMk):=by
 have:xs.map isF=(xs.map isMk).map PV.bl:=by rw[D8];rfl
 rw[this,Ag]
theorem allid (xs:List PV):(xs.map isMk).all id=xs.all isMk:=by rw[Be];rfl
def pin (a:Nat):PV:=.int (a:Int)
theorem S_t {f:Nat->Mk}{i:Nat}(h:f i=.t):Wd.S f (i+1)=i::Wd.S f i:=by show(match f i with|.t=>i::Wd.S f i|.u=>(Wd.S f i).tail|_=>Wd.S f i)=_;rw[h]
theorem S_u {f:Nat->Mk}{i:Nat}(h:f i=.u):Wd.S f (i+1)=(Wd.S f i).tail:=by show(match f i with|.t=>i::Wd.S f i|.u=>(Wd.S f i).tail|_=>Wd.S f i)=_;rw[h]
theorem S_d {f:Nat->Mk}{i:Nat}(h:f i=.d):Wd.S f (i+1)=Wd.S f i:=by show(match f i with|.t=>i::Wd.S f i|.u=>(Wd.S f i).tail|_=>Wd.S f i)=_;rw[h]
theorem S_o {f:Nat->Mk}{i:Nat}(h:f i=.o):Wd.S f (i+1)=Wd.S f i:=by show(match f i with|.t=>i::Wd.S f i|.u=>(Wd.S f i).tail|_=>Wd.S f i)=_;rw[h]
theorem S_le (f:Nat->Mk):∀n,(Wd.S f n).length<=n
 |0=>B3 _
 | n + 1 => by
  have:=S_le f n;cases e:f n with
  |t=>rw[S_t e,D2];omega
  |u=>rw[S_u e,List.length_tail];omega
  |d=>rw[S_d e];omega
  |o=>rw[S_o e];omega
def OK (r:Int)(ms:List Mk):Prop:=(∀j,j<ms.length->Wd.okAt (fN ms) r j)/\Wd.S (fN ms) ms.length=[]
theorem W1 {ms:List Mk}{r:Int}(h1:1<=ms.length)(h24:ms.length<=24)(b:Bool)(hb:b=true↔OK r ms){n:Nat}{R:PV->Nat->Prop}(h:R (.bl b) n):FZ [.int r,.tup (ms.map mkP)] n R:=by
 refine⟨rfl,?_⟩;unfold IF
 have no:∀i,i<ms.length->¬Wd.okAt (fN ms) r i->b=false:=λi hi hn=>by
  cases b with
  |false=>rfl
  |true=>exact absurd ((hb.mp rfl).1 i hi) hn
 walk_at "pu";rw[A9];refine if_t (jq (by omega)) (if_f (by rw[jq (by omega)];rfl) ⟨by omega,?_⟩);refine KH isF _ _ _ _ (λy hy m Q hQ=>?_) ?_
 ·obtain⟨m',_,rfl⟩:=C0.mp hy;walk_at "pu";refine Th (x:=mkP m') ?_ hQ;cases m' <;> (show ∀c∈_,c<16 ^ 8) <;> decide +kernel
 rw[Ti];dsimp only;rw[allid,show(ms.map mkP).all isMk=true from E9.mpr λx hx=>by obtain⟨m,_,rfl⟩:=C0.mp hx;exact Tf m];refine if_f rfl ?_;refine R8 (λi env m=>∃s3 s4,env=[some (.v (.int r)),some (.v (.tup (ms.map mkP))),some (.own ((Wd.S (fN ms) i).reverse.map pin)),s3,s4]/\(∀j,j<i->Wd.okAt (fN ms) r j)/\m=n) _ 0 _ _ ⟨none,none,rfl,(λj hj=>by omega),rfl⟩ (λi x env m N ex hI hN=>?_) (λenv m hI=>?_)
 ·obtain⟨s3,s4,rfl,hok,rfl⟩:=hI;rw[E2] at hN hok;obtain⟨v,ev,rfl⟩:=Fn ex;rw[C6] at ev;cases em:ms[i]? with
  |none=>rw[em] at ev;cases ev
  | some mk =>
   rw[em] at ev;cases ev;have hi:i<ms.length:=(E1.mp em).1;have fi:=fN_at em;have sl:=S_le (fN ms) i;have ll:((Wd.S (fN ms) (0+i)).reverse.map pin).length<=24:=by rw[A9,w9,E2];omega
   have go:∀own s3 s4,own=(Wd.S (fN ms) (i+1)).reverse.map pin->Wd.okAt (fN ms) r i->N [some (.v (.int r)),some (.v (.tup (ms.map mkP))),some (.own own),s3,s4] m:=λown s3 s4 e ho=>by
    rw[e];exact hN _ _ ⟨_,_,rfl,λj hj=>(ED.mp hj).elim (hok j) (λe=>e▸ho),rfl⟩
   have ret:¬Wd.okAt (fN ms) r i->R (.bl false) m:=λhn=>by rw[no i hi hn] at h;exact h
   have ok0:fN ms i≠.o->fN ms i≠.u->Wd.okAt (fN ms) r i:=λh1 h2=>⟨λe=>absurd e h1,λe=>absurd e h2⟩;simp only[E2] at ll ⊢;unfold mkP;walk_at "pu";simp only[mk_t,mk_o,mk_u];cases mk with
   | t =>
    refine if_t rfl ⟨⟨_,rfl⟩,by omega,go _ _ _ ?_ (ok0 (by rw[fi];simp) (by rw[fi];simp))⟩;rw[S_t fi,k7,J7];rfl
   | d =>
    refine if_f rfl (if_f rfl (if_f rfl (go _ _ _ ?_ (ok0 (by rw[fi];simp) (by rw[fi];simp)))));rw[S_d fi]
   | o =>
    refine if_f rfl (if_t rfl ?_);cases es:Wd.S (fN ms) i with
    | nil =>
     refine if_f rfl (if_f rfl (go _ _ _ ?_ ⟨λ_=>es,λe=>by rw[fi] at e;cases e⟩));rw[S_o fi,es]
    | cons a t =>
     refine if_t (by simp) (ret λho=>?_);have:=ho.1 fi;rw[es] at this;cases this
   | u =>
    refine if_f rfl (if_f rfl (if_t rfl ?_));cases es:Wd.S (fN ms) i with
    | nil =>
     refine if_t rfl (ret λho=>?_);obtain⟨a,ha,_⟩:=ho.2 fi;rw[es] at ha;cases ha
    | cons a t =>
     refine if_f (by simp) ?_;have el:J9 pin (a::t).reverse=J9 pin t.reverse++[.int (a:Int)]:=by rw[k7,J7];rfl
     rw[el]
     have e1:(J9 pin t.reverse++[PV.int (a:Int)])[(J9 pin t.reverse++[PV.int (a:Int)]).length-1]?=some (.int (a:Int)):=by
      rw[D7,P5,Nat.add_sub_cancel,Q6 (B3 _),n6];rfl
     rw[e1,BJ];dsimp only;have hd:(Wd.S (fN ms) i).head?=some a:=by rw[es];rfl
     by_cases c:(i:Int)-a-1<=r
     ·refine if_f (jr (by omega)) (go _ _ _ ?_ ⟨(λe=>by rw[fi] at e;cases e),λ_=>⟨a,hd,c⟩⟩);rw[S_u fi,es];rfl
     ·refine if_t (jq (by omega)) (ret λho=>?_);obtain⟨a',ha,hc⟩:=ho.2 fi;rw[hd] at ha;cases ha;exact c hc
 ·obtain⟨s3,s4,rfl,hok,rfl⟩:=hI;rw[DI,A9,E2] at hok ⊢;walk_at "pu"
  have hb':b=(Wd.S (fN ms) ms.length).isEmpty:=by
   cases es:Wd.S (fN ms) ms.length with
   |nil=>exact hb.mpr ⟨hok,es⟩
   | cons a t =>
    cases b with
    |false=>rfl
    |true=>have:=(hb.mp rfl).2;rw[es] at this;cases this
  rw[hb'] at h
  have e2:(!!(J9 pin (Wd.S (fN ms) ms.length).reverse).isEmpty)=(Wd.S (fN ms) ms.length).isEmpty:=by
   cases es:Wd.S (fN ms) ms.length with
   |nil=>rfl
   |cons a t=>simp
  rw[e2];exact h
theorem Mz {r:Int}{ms:List Mk}:∀q,q<=ms.length->∀st,run r 0 [] (ms.take q)=some st->(∀j,j < q->Wd.okAt (fN ms) r j)/\Wd.S (fN ms) q=st
 |0,_,st,h=>⟨λj hj=>absurd hj (BR _),F6 h⟩
 | q + 1, hq, st, h => by
  have eq:ms[q]?=some (fN ms q):=by unfold fN;rw[G6,C4 (by omega)];rfl
  have lq:(ms.take q).length=q:=by rw[M6];omega
  rw[Aw,eq] at h;have h:run r 0 [] (ms.take q++[fN ms q])=some st:=h;rw[Z5] at h;cases e0:run r 0 [] (ms.take q) with
  |none=>rw[e0] at h;cases h
  | some s0 =>
   rw[e0] at h;obtain⟨ok,es⟩:=Mz q (by omega) s0 e0;have h:run r (0+(ms.take q).length) s0 [fN ms q]=some st:=h;rw[lq,E2,<- es] at h
   have go:Wd.okAt (fN ms) r q/\Wd.S (fN ms) (q+1)=st:=by
    cases e:fN ms q with
    |t=>rw[e] at h;rw[S_t e];exact⟨⟨(λz=>by rw[e] at z;cases z),(λz=>by rw[e] at z;cases z)⟩,F6 h⟩
    |d=>rw[e] at h;rw[S_d e];exact⟨⟨(λz=>by rw[e] at z;cases z),(λz=>by rw[e] at z;cases z)⟩,F6 h⟩
    | o =>
     rw[e] at h;rw[S_o e];cases es2:Wd.S (fN ms) q with
     |nil=>rw[es2] at h;exact⟨⟨λ_=>es2,(λz=>by rw[e] at z;cases z)⟩,F6 h⟩
     |cons a t=>rw[es2] at h;cases h
    | u =>
     rw[e] at h;rw[S_u e];cases es2:Wd.S (fN ms) q with
     |nil=>rw[es2] at h;cases h
     | cons a t =>
      rw[es2] at h;have h:(if(q:Int)-a-1<=r then some t else none)=some st:=h
      by_cases c:(q:Int)-a-1<=r
      ·rw[jt c] at h;exact⟨⟨(λz=>by rw[e] at z;cases z),λ_=>⟨a,by rw[es2];rfl,c⟩⟩,F6 h⟩
      ·rw[ju c] at h;cases h
   exact⟨λj hj=>(ED.mp hj).elim (ok j) (λe=>e▸go.1),go.2⟩
theorem Tj {ms:List Mk}{r:Int}(h1:1<=ms.length)(h24:ms.length<=24)(h:run r 0 [] ms=some []){n:Nat}{R:PV->Nat->Prop}(q:R (.bl true) n):FZ [.int r,.tup (ms.map mkP)] n R:=by
 have:=Mz (r:=r) ms.length (B3 _) [] (by rw[x4];exact h);exact W1 h1 h24 true ⟨λ_=>⟨this.1,this.2⟩,λ_=>rfl⟩ q
def clo (r:Int)(O:List Nat)(place many:Nat):Prop:=O.length+place<=many/\∀(k a:Nat),O.reverse[k]?=some a->((place+k:Nat):Int)-a-1<=r
theorem Tl (O:List Nat):Y8 ((O.map pin).reverse)=O.reverse.zipIdx.map (λy=>.tup [.int ((y.2:Nat):Int),pin y.1]):=by
 unfold Y8;rw[<- List.map_reverse,List.zipIdx_map,D8];rfl
theorem Gc {r:Int}{O:List Nat}{place many n:Nat}{R:PV->Nat->Prop}(hO:O.length<=100)(b:Bool)(hb:b=true↔clo r O place many)(h:R (.bl b) n):CD [.lst (O.map pin),.int (place:Int),.int (many:Int),.int r] n R:=by
 refine⟨rfl,?_⟩;unfold Ip;walk_at "pu";rw[A9]
 by_cases c:O.length+place<=many
 ·refine if_f (jr (by omega)) ⟨by rw[DI,w9,A9];omega,?_⟩;rw[Tl];refine Bs (λy:Nat×Nat=>.int ((y.2:Nat):Int)) (λy=>pin y.1) (λy=>.bl (decide (((place:Int)+(y.2:Int))-(y.1:Int)-1<=r))) _ _ _ _ _ (λy hy m Q hQ=>?_) ?_
  ·unfold pin;walk_at "pu";exact hQ
  ·have e:O.reverse.zipIdx.map (λy=>PV.bl (decide (((place:Int)+(y.2:Int))-(y.1:Int)-1<=r)))=(O.reverse.zipIdx.map λy=>decide (((place:Int)+(y.2:Int))-(y.1:Int)-1<=r)).map PV.bl:=by rw[D8];rfl
   rw[e,Ag];dsimp only
   have e2:(O.reverse.zipIdx.map λy=>decide (((place:Int)+(y.2:Int))-(y.1:Int)-1<=r)).all id=b:=by
    rw[Be]
    have hiff:O.reverse.zipIdx.all (id∘λy=>decide (((place:Int)+(y.2:Int))-(y.1:Int)-1<=r))=true↔clo r O place many:=by
     rw[E9];constructor
     ·intro hh;refine⟨c,λk a hk=>?_⟩;have:=hh (a,k) (BI.mpr ⟨k,by rw[Eo,hk];simp⟩);have:=jv this;dsimp only at this;omega
     ·rintro⟨_,hh⟩ ⟨a,k⟩ hy;have:=List.mk_mem_zipIdx_iff_getElem?.mp hy;have:=hh k a this;exact jq (by dsimp only;omega)
    cases b with
    |true=>exact hiff.mpr (hb.mp rfl)
    | false =>
     rw[Bool.eq_false_iff];intro hh;exact absurd (hb.mpr (hiff.mp hh)) V2
   rw[e2];exact h
 ·refine if_t (jq (by omega)) ?_;cases b with
  |false=>exact h
  |true=>exact absurd (hb.mp rfl).1 c
noncomputable def opn (r:Int)(O:List Nat)(place:Nat):Mk->Option (List Nat)
 |.t=>some (O++[place])
 |.u=>match O.getLast? with|some a=>if(place:Int)-(a:Int)-1<=r then some O.dropLast else none|none=>none
 |.d=>some O
 |.o=>if O=[] then some O else none
def oP:Option (List Nat)->PV
 |some O=>.lst (O.map pin)
 |none=>.non
theorem Tn (O:List Nat):(O.map pin).all (cmpb 3)=true:=E9.mpr λx hx=>by obtain⟨a,_,rfl⟩:=C0.mp hx;rfl
theorem IY (O:List Nat):eqPs (O.map pin) []=decide (O=[]):=by
 cases O <;> rfl
theorem To {α:Type}(xs:List α)(x:α):cutP (xs++[x]) none (some (-1))=xs:=by
 unfold cutP
 have e:HT.sIx (xs++[x]).length (xs++[x]).length (some (-1))=xs.length:=by
  show(if(-1:Int)<0 then((-1:Int)+((xs++[x]).length:Int)).toNat else min (-1:Int).toNat (xs++[x]).length)=_;rw[jt (by decide),D7,P5];omega
 rw[e,HT.sIx_none,List.drop_zero,Nat.sub_zero,List.take_left]
theorem Gd (O:List Nat):O=[]\/∃O' a,O=O'++[a]:=by
 rcases List.eq_nil_or_concat O with h|⟨O',a,h⟩
 ·exact .inl h
 ·exact .inr ⟨O',a,by rw[h,List.concat_eq_append]⟩
theorem MA {r:Int}{O:List Nat}{place n:Nat}{m:Mk}{R:PV->Nat->Prop}(hO:O.length<=100)(h:R (oP (opn r O place m)) n):FS [.lst (O.map pin),mkP m,.int (place:Int),.int r] n R:=by
 refine⟨rfl,?_⟩;unfold Io mkP;generalize hL:O.map pin=L;walk_at "pu";rw[mk_t,mk_u,mk_d];subst hL;have cm:=Tn O;cases m with
 | t =>
  refine if_t rfl ⟨by rw[A9];omega,?_⟩;rw[show O.map pin++[PV.int (place:Int)]=(O++[place]).map pin by rw[J7];rfl];exact h
 | u =>
  refine if_f rfl (if_t rfl ⟨cm,rfl,?_⟩);rcases Gd O with rfl|⟨O',a,rfl⟩
  ·exact h
  ·refine if_t (by rw[IY];simp) ?_;rw[J7,show [a].map pin=[pin a] from rfl,Oh,To];unfold pin;dsimp only
   have e:opn r (O'++[a]) place .u=if(place:Int)-(a:Int)-1<=r then some O' else none:=by
    simp only[opn,Gz,Gu,Option.some_or,BJ]
   rw[e] at h
   by_cases c:(place:Int)-(a:Int)-1<=r
   ·rw[jt c] at h;exact if_t (jq c) h
   ·rw[ju c] at h;exact if_f (jr c) h
 |d=>exact if_f rfl (if_f rfl (if_t rfl h))
 | o =>
  refine if_f rfl (if_f rfl (if_f rfl ⟨cm,rfl,?_⟩))
  by_cases c:O=[]
  ·refine if_t (by rw[IY];exact jq c) ?_;simp only[opn,jt c] at h;exact h
  ·refine if_f (by rw[IY];exact jr c) ?_;simp only[opn,ju c] at h;exact h
theorem clo_u {r:Int}{O:List Nat}{place many:Nat}(h:clo r O place many)(hO:O≠[]):∃O',opn r O place .u=some O'/\clo r O' (place+1) many:=by
 rcases Gd O with rfl|⟨O',a,rfl⟩
 ·exact absurd rfl hO
 ·have h0:=h.2 0 a (by simp);refine⟨O',?_,?_,λk b hk=>?_⟩
  ·simp only[opn,Gz,Gu,Option.some_or,BJ];rw[jt (by omega)]
  ·have:=h.1;rw[D7,P5] at this;omega
  ·have:=h.2 (k+1) b (by simp only[Es,List.reverse_singleton,List.singleton_append,P4];exact hk);omega
theorem IZ {r:Int}{O O':List Nat}{place:Nat}{m:Mk}(h:opn r O place m=some O'):O'.length<=O.length+1:=by
 cases m with
 |t=>simp only[opn,EH] at h;subst h;simp
 |d=>simp only[opn,EH] at h;subst h;omega
 | o =>
  simp only[opn] at h
  split at h
  ·cases h;omega
  ·cases h
 | u =>
  simp only[opn] at h
  split at h
  ·split at h
   ·cases h;rw[List.length_dropLast];omega
   ·cases h
  ·cases h
theorem MB {r:Int}{O O':List Nat}{ms:List Mk}{i:Nat}{m:Mk}(h:run r 0 [] ms=some O.reverse)(hi:ms.length=i)(ho:opn r O i m=some O'):run r 0 [] (ms++[m])=some O'.reverse:=by
 rw[Z5,h];show run r (0+ms.length) O.reverse [m]=_;rw[E2,hi];cases m with
 | t =>
  simp only[opn,EH] at ho;subst ho;rw[Es];rfl
 | d =>
  simp only[opn,EH] at ho;subst ho
  rfl
 | o =>
  simp only[opn] at ho
  split at ho
  ·rename_i c;cases ho;subst c
   rfl
  ·cases ho
 | u =>
  rcases Gd O with rfl|⟨P,a,rfl⟩
  ·simp[opn] at ho
  ·simp only[opn,Gz,Gu,Option.some_or,BJ] at ho
   split at ho
   ·rename_i c;cases ho;rw[Es];show(if(i:Int)-a-1<=r then some O'.reverse else none)=_;rw[jt c]
   ·cases ho
def enc (p:Mk×List Nat):PV:=.tup [mkP p.1,.lst (p.2.map pin)]
theorem seven {j:Nat}{x:PV}(h:[mkP .o,mkP .t,mkP .d,mkP .u,mkP .o,mkP .t,mkP .u][j]?=some x):∃m,x=mkP m/\(j=0->m=.o)/\(j=3->m=.u)/\j<7:=by
 match j,h with
 |0,h=>exact⟨.o,by cases h;rfl,λ_=>rfl,(λz=>by omega),by omega⟩
 |1,h=>exact⟨.t,by cases h;rfl,(λz=>by omega),(λz=>by omega),by omega⟩
 |2,h=>exact⟨.d,by cases h;rfl,(λz=>by omega),(λz=>by omega),by omega⟩
 |3,h=>exact⟨.u,by cases h;rfl,(λz=>by omega),λ_=>rfl,by omega⟩
 |4,h=>exact⟨.o,by cases h;rfl,(λz=>by omega),(λz=>by omega),by omega⟩
 |5,h=>exact⟨.t,by cases h;rfl,(λz=>by omega),(λz=>by omega),by omega⟩
 |6,h=>exact⟨.u,by cases h;rfl,(λz=>by omega),(λz=>by omega),by omega⟩
 |j+7,h=>cases h
theorem m_word {q:Nat}{r:Int}{many n:Nat}{R:PV->Nat->Prop}(hm:many<=24)(hn:n<=999999000)(h:∀(ms:List Mk) n',ms.length=many->run r 0 [] ms=some []->n'<=n+many->R (.tup (ms.map mkP)) n'):Ir [.pot q,.int (many:Int),.int r] n R:=by
 refine⟨rfl,?_⟩;unfold Iq;walk_at "pu";refine⟨⟨by omega,by omega⟩,?_⟩;refine R8 (λi env m=>∃(ms:List Mk) (O:List Nat) (s5 s6 s7 s8:Option Slot),env=[some (.v (.pot q)),some (.v (.int (many:Int))),some (.v (.int r)),some (.own (ms.map mkP)),some (.v (.lst (O.map pin))),s5,s6,s7,s8]/\ms.length=i/\clo r O i many/\O.length<=i/\run r 0 [] ms=some O.reverse/\m=n+i) _ 0 _ _ ⟨[],[],_,_,_,_,rfl,rfl,⟨by simp,by simp⟩,by simp,rfl,rfl⟩ (λi x env m N ex hI hN=>?_) (λenv m hI=>?_)
 ·obtain⟨ms,O,s5,s6,s7,s8,rfl,hms,hcl,hOl,hrun,rfl⟩:=hI;obtain⟨hi,rfl⟩:=Co ex;rw[P7] at hi;rw[E2] at hms hcl hOl hN;simp only[Bg,E2];generalize eMs:ms.map mkP=Ms;generalize eO:O.map pin=OP;walk_at "pu";rw[<- eO];refine R8 (λj env m=>∃(jm:List (Mk×List Nat)) (s7 s8:Option Slot),env=[some (.v (.pot q)),some (.v (.int (many:Int))),some (.v (.int r)),some (.own Ms),some (.v (.lst (O.map pin))),some (.v (.int (i:Int))),some (.own (jm.map enc)),s7,s8]/\jm.length<=j/\(∀p∈jm,clo r p.2 (i+1) many/\p.2.length<=i+1/\opn r O i p.1=some p.2)/\(O=[]->1<=j->jm≠[])/\(O≠[]->4<=j->jm≠[])/\m=n+i) _ 0 _ _ ⟨[],_,_,rfl,by simp,by simp,(λ_ z=>by omega),(λ_ z=>by omega),rfl⟩ (λj x env m N' ex' hJ hN'=>?_) (λenv m hJ=>?_)
  ·obtain⟨jm,s7,s8,rfl,hal,hac,ha1,ha2,rfl⟩:=hJ;rw[E2] at hal ha1 ha2 hN';obtain⟨mk,rfl,j0,j3,j7⟩:=seven ex';generalize eP:O.map pin=OP;generalize eA:jm.map enc=A;have cA:A.length<=7:=by rw[<- eA,A9];omega
   have no:¬(∃O',opn r O i mk=some O'/\clo r O' (i+1) many)->∀s7 s8,N' [some (.v (.pot q)),some (.v (.int (many:Int))),some (.v (.int r)),some (.own Ms),some (.v (.lst OP)),some (.v (.int (i:Int))),some (.own A),s7,s8] (n+i):=λhno s7 s8=>by
    rw[<- eP,<- eA];refine hN' _ _ ⟨jm,_,_,rfl,by omega,hac,λh0 _=>?_,λh0 _=>?_,rfl⟩
    ·by_cases c:j=0
     ·rw[j0 c] at hno;refine absurd ⟨O,by simp only[opn,jt h0],by rw[h0];simp;omega,by rw[h0];simp⟩ hno
     ·exact ha1 h0 (by omega)
    ·by_cases c:j=3
     ·rw[j3 c] at hno;exact absurd (clo_u hcl h0) hno
     ·exact ha2 h0 (by omega)
   walk_at "pu";rw[<- eP];refine MA (by omega) ?_;cases eo:opn r O i mk with
   | none =>
    refine if_f rfl ?_;rw[eP];exact no (λ⟨O',h1,_⟩=>by rw[eo] at h1;cases h1) _ _
   | some O' =>
    refine if_t rfl ?_;have lo:=IZ eo;have ei:((i:Int)+1)=((i+1:Nat):Int):=by omega
    show CD [PV.lst (O'.map pin),PV.int ((i:Int)+1),PV.int (many:Int),PV.int r] (n+i) _;rw[ei]
    by_cases c:clo r O' (i+1) many
    ·refine Gc (by omega) true ⟨λ_=>c,λ_=>rfl⟩ ?_;refine if_t rfl ⟨⟨_,rfl⟩,by omega,?_⟩;rw[show A++[PV.tup [mkP mk,oP (some O')]]=(jm++[(mk,O')]).map enc by rw[J7,eA];rfl];refine hN' _ _ ⟨_,_,_,rfl,by rw[D7,P5];omega,λp hp=>?_,(λ_ _=>by simp),(λ_ _=>by simp),rfl⟩;rcases K6.mp hp with hp|hp
     ·exact hac p hp
     ·rw[J6.mp hp];exact⟨c,(by show O'.length<=i+1;omega),eo⟩
    ·refine Gc (by omega) false ⟨(λz=>nomatch z),λz=>absurd z c⟩ ?_;refine if_f rfl ?_;rw[eP];exact no (λ⟨O2,h1,h2⟩=>by rw[eo] at h1;cases h1;exact c h2) _ _
  ·obtain⟨jm,s7,s8,rfl,hal,hac,ha1,ha2,rfl⟩:=hJ
   have ne:jm≠[]:=by
    by_cases c:O=[]
    ·exact ha1 c (by simp)
    ·exact ha2 c (by simp)
   have nl:0<jm.length:=List.length_pos_iff.mpr ne;have hal':jm.length<=7:=hal;generalize eA:jm.map enc=A;have lA:A.length=jm.length:=by rw[<- eA,A9]
   generalize eP:O.map pin=OP;walk_at "pu";refine⟨⟨by omega,by omega,by omega⟩,λd d0 d1=>?_⟩;obtain⟨y,hy,ey⟩:=Fq d0 d1;rw[ey];rw[<- eA] at hy;obtain⟨⟨mk,O'⟩,hp,rfl⟩:=C0.mp hy;obtain⟨h1,h2,h3⟩:=hac _ hp;unfold enc;generalize eQ:O'.map pin=OQ;walk_at "pu";refine⟨⟨_,rfl⟩,by rw[<- eMs,A9];omega,?_⟩;rw[<- eQ,show Ms++[mkP mk]=(ms++[mk]).map mkP by rw[J7,eMs];rfl];exact hN _ _ ⟨_,_,_,_,_,_,rfl,by rw[D7,P5];omega,h1,h2,MB hrun hms h3,by omega⟩
 ·obtain⟨ms,O,s5,s6,s7,s8,rfl,hms,hcl,hOl,hrun,rfl⟩:=hI;rw[Ah] at hms hcl ⊢;walk_at "pu";have O0:O=[]:=w8 (by have:=hcl.1;omega);subst O0;exact h _ _ (by omega) hrun (by omega)
def lt (f t:Int)(k:Nat):Nat:=97+((f+(k:Int)*t)%26).toNat
noncomputable def Bz:List Int:=[1,3,5,7,9,11,15,17,19,21,23,25]
theorem lt_ne (ht:t∈Bz)(f0:0<=f)(hjk:j<k)(hk:k<26):lt f t j≠lt f t k:=λh=>by
 have inv:∀t∈Bz,∃u∈Bz,t*u=26*(t*u/26)+1:=by decide
 obtain⟨u,_,hu⟩:=inv t ht;have e:(f+(j:Int)*t)%26=(f+(k:Int)*t)%26:=by unfold lt at h;omega
 have d:(26:Int) ∣ ((k:Int)-j)*t:=by
  have:=Int.dvd_of_emod_eq_zero (Int.emod_eq_emod_iff_emod_sub_eq_zero.mp e.symm);rw[show f+(k:Int)*t-(f+(j:Int)*t)=((k:Int)-j)*t by rw[Int.sub_mul];omega] at this;exact this
 have d2:(26:Int) ∣ ((k:Int)-j)*t*u:=Int.dvd_trans d (Int.dvd_mul_right _ _);rw[Int.mul_assoc,hu,Int.mul_add,Int.mul_one,<- Int.mul_assoc,Int.mul_comm _ 26,Int.mul_assoc] at d2;have d3:(26:Int) ∣ (k:Int)-j:=(Int.dvd_add_right (Int.dvd_mul_right _ _)).mp d2;omega
theorem lt_ltr:Ltr (lt f t k):=by
 unfold lt Ltr;have:=o6 (f+(k:Int)*t) (show(26:Int)≠0 by decide);have:=y8 (f+(k:Int)*t) (show(0:Int)<26 by decide);omega
theorem lt_at {k:Nat}:atI LETS.cps.toList ((f+(k:Int)*t)%26)=some (lt f t k):=
 HB (o6 _ (by decide)) (y8 _ (by decide))
def LsN (m:Nat)(z:Str):Prop:=z.cps.toList.length<=m/\∀c∈z.cps.toList,Ltr c
def isLt (y:PV):Prop:=∃c,Ltr c/\y=.str ⟨#[c]⟩
theorem MC:∀ys:List PV,(∀y∈ys,isLt y)->∃zs:List Str,Y5 ys=some zs/\zs.length=ys.length/\(zs.map (·.length)).sum=ys.length/\LsN ys.length (AE (B0 "") zs):=by
 intro ys h
 have:∃cs:List Nat,ys=cs.map (λc=>PV.str ⟨#[c]⟩)/\∀c∈cs,Ltr c:=by
  induction ys with
  |nil=>exact⟨[],rfl,λ_ z=>nomatch z⟩
  | cons y ys ih =>
   obtain⟨cs,rfl,hc⟩:=ih λz hz=>h z (B4 _ hz);obtain⟨c,c1,rfl⟩:=h y B2;exact⟨c::cs,rfl,λd hd=>(C9.mp hd).elim (λe=>e▸c1) (hc d)⟩
 obtain⟨cs,rfl,hc⟩:=this;have e1:cs.map (λc=>PV.str ⟨#[c]⟩)=(cs.map λc=>(⟨#[c]⟩:Str)).map PV.str:=by rw[D8];rfl
 have e2:(AE (B0 "") (cs.map λc=>(⟨#[c]⟩:Str))).cps.toList=cs:=by
  rw[OX,D8]
  induction cs with
  |nil=>rfl
  |cons c cs ih=>simp_all
 refine⟨cs.map λc=>⟨#[c]⟩,by rw[e1,Hy],by simp,?_,?_,?_⟩
 ·rw[D8,A9];clear hc e1 e2 h
  induction cs with
  |nil=>rfl
  | cons c cs ih =>
   rw[J8,List.sum_cons,ih,D2];show 1+cs.length=_;omega
 ·rw[e2,A9];exact B3 _
 ·rw[e2];exact hc
theorem MD {x:Str}{p c:Nat}(hx:LsN 7 x)(hp:p<=x.length)(hc:Ltr c) :
   W5 (P8 x none (some (p:Int))++⟨#[c]⟩++P8 x (some (p:Int)) none)/\c∈(P8 x none (some (p:Int))++⟨#[c]⟩++P8 x (some (p:Int)) none).cps.toList:=by
 have e:(P8 x none (some (p:Int))++⟨#[c]⟩++P8 x (some (p:Int)) none).cps.toList=x.cps.toList.take p++c::x.cps.toList.drop p:=by
  rw[Dy,Dy,Qw x hp,Qx x hp];simp
 have hl:(x.cps.toList.take p++c::x.cps.toList.drop p).length=x.cps.toList.length+1:=by
  rw[D7,D2,M6,Bd];have:=Ad x;omega
 refine⟨⟨by rw[e];omega,by rw[e,hl];have:=hx.1;omega,λd hd=>?_⟩,by rw[e];simp⟩;rw[e] at hd;rcases K6.mp hd with hd|hd
 ·exact hx.2 d (Ep hd)
 ·rcases C9.mp hd with hd|hd
  ·rw[hd];exact hc
  ·exact hx.2 d (List.mem_of_mem_drop hd)
theorem eight {c:Nat}(hc:Ltr c):W5 (V6 ⟨#[c]⟩ 8)/\∀d∈(V6 ⟨#[c]⟩ 8).cps.toList,d=c:=by
 have e:(V6 ⟨#[c]⟩ 8).cps.toList=[c,c,c,c,c,c,c,c]:=by rw[Kh];rfl
 have h2:∀d∈(V6 ⟨#[c]⟩ 8).cps.toList,d=c:=λd hd=>by rw[e] at hd;simpa using hd
 exact⟨⟨by rw[e];simp,by rw[e];simp,λd hd=>by rw[h2 d hd];exact hc⟩,h2⟩
structure Nms (f t:Int)(zs:List Str)(i:Nat):Prop where
 len:zs.length=i
 nd:zs.Nodup
 own:∀(j:Nat) (z:Str),zs[j]?=some z->lt f t j∈z.cps.toList
 bt:∀z∈zs,W5 z
theorem mem_str {zs:List Str}:memP (.str z) (zs.map PV.str)=decide (z∈zs):=by
 unfold memP;rw[List.any_map,BU,BK,decide_eq_true_iff];constructor
 ·rintro⟨y,hy,e⟩;have e':decide (y=z)=true:=by rw[<- M9];exact e
  rw[<- jv e'];exact hy
 ·intro h;refine⟨z,h,?_⟩;show eqP (.str z) (.str z)=true;rw[M9];exact jq rfl
theorem Nms.more {f t:Int}{zs:List Str}{i:Nat}(h:Nms f t zs i)(ht:t∈Bz)(f0:0<=f)(hi:i<26){z:Str}(hz:W5 z)(hc:lt f t i∈z.cps.toList) :
   Nms f t (zs++[if z∈zs then V6 ⟨#[lt f t i]⟩ 8 else z]) (i+1):=by
 have e8:=eight (lt_ltr (f:=f) (t:=t) (k:=i))
 have new:(if z∈zs then V6 ⟨#[lt f t i]⟩ 8 else z)∉zs:=by
  split
  ·intro hm;obtain⟨j,hj,e⟩:=Gy.mp hm;have:=h.own j _ (by rw[C4 hj]);rw[e] at this;exact lt_ne ht f0 (show j<i by rw[<- h.len];exact hj) hi (e8.2 _ this)
  ·assumption
 refine⟨by rw[D7,h.len];rfl,?_,λj y e=>?_,λy hy=>?_⟩
 ·rw[Eu];refine⟨h.nd,by simp,λa ha b hb=>?_⟩;rw[J6.mp hb];exact λz=>new (z▸ha)
 ·by_cases hj:j<zs.length
  ·rw[Q7 hj] at e;exact h.own j y e
  ·have hl:=h.len
   have:j=i:=by
    obtain⟨hh,_⟩:=E1.mp e;rw[D7,P5] at hh;omega
   subst this;rw[Q6 (by omega),hl,n6] at e;have e':(if z∈zs then V6 ⟨#[lt f t j]⟩ 8 else z)=y:=by simpa using e
   rw[<- e']
   split
   ·rw[Kh];simp
   ·exact hc
 ·rcases K6.mp hy with hy|hy
  ·exact h.bt y hy
  ·rw[J6.mp hy]
   split
   ·exact e8.1
   ·exact hz
def RowS (zs:List Str):Prop:=zs.Nodup/\∀z∈zs,W5 z
theorem Tp {q n:Nat}{many:Int}{R:PV->Nat->Prop}(h0:1<=many)(h1:many<=24)(hn:n<=999900000)(h:∀zs n',(zs.length:Int)=many->RowS zs->n'<=n+1000->R (.tup (zs.map PV.str)) n'):Ik [.pot q,.int many] n R:=by
 refine⟨rfl,?_⟩;unfold Ij;have jl:(B0 "").length=0:=rfl;have ll:LETS.length<=1000000:=by rw[K_];decide
 -- a drawn text
 have txt:∀(m:Nat) (d:Int) (Q:List PV->Nat->Prop) (s0:Option Slot),m<=999990000->0<=d->d<8->(∀ys m',ys.length=d.toNat->(∀y∈ys,isLt y)->m'<=m+d.toNat->Q ys m')->
     R6 (gN 0) qTru (qOp wIx (qV 1) (B5 E7 (A3 (qV 2) (A3 (qC (.int 26)) qNil)))) ((C7 d.toNat).map λ(k:Nat)=>PV.int (0+k)) (s0::[some (.v (.str LETS)),some (.v (.pot q))]) m Q:=by
   intro m d Q s0 hm d0 d1 hQ;refine Fp isLt 1 999999000 _ _ _ _ (λy hy m Q hm hQ=>?_) (by rw[Ah];omega) λys n2 hl hp hn2=>?_
   ·walk_at "pu";refine⟨by omega,λu u0 u1=>⟨ll,?_⟩⟩;rw[HB u0 u1];exact hQ _ _ ⟨_,⟨by omega,by omega⟩,rfl⟩ (by omega)
   ·rw[Ah] at hl hn2;exact hQ ys n2 hl hp (by omega)
 walk_at "pu";refine⟨by omega,λfi f0 f1=>⟨by omega,λd d0 d1=>?_⟩⟩;obtain⟨tv,htv,etv⟩:=Fq (xs:=[PV.int 1,PV.int 3,PV.int 5,PV.int 7,PV.int 9,PV.int 11,PV.int 15,PV.int 17,PV.int 19,PV.int 21,PV.int 23,PV.int 25]) d0 (by simpa using d1)
 obtain⟨t,rfl,ht⟩:∃t:Int,tv=.int t/\t∈Bz:=by
  have:tv∈Bz.map PV.int:=htv;obtain⟨t,ht,rfl⟩:=C0.mp this;exact⟨t,rfl,ht⟩
 rw[etv]
 have t30:-(2 ^ 64)<t/\t<2 ^ 64:=by
  simp only[Bz,C9,k8,or_false] at ht;rcases ht with rfl|rfl|rfl|rfl|rfl|rfl|rfl|rfl|rfl|rfl|rfl|rfl <;> decide
 dsimp only;refine⟨by omega,λal a0 a1=>⟨by omega,λb b0 b1=>⟨⟨by omega,by omega⟩,by rw[Ah];omega,?_⟩⟩⟩;refine txt _ b _ _ (by omega) b0 b1 λys m' hl hp hm'=>?_;obtain⟨zs,e1,l1,l2,aj⟩:=MC ys hp;rw[e1];dsimp only;generalize AE (B0 "") zs=base at aj ⊢;have lb:base.length=base.cps.toList.length:=Ad base;have aj1:=aj.1;refine⟨by rw[l2,jl];omega,by omega,⟨by omega,by omega,by omega⟩,λpl p0 p1=>⟨⟨by omega,by omega⟩,?_⟩⟩;obtain⟨pl,rfl⟩:=EK p0;have b7:LsN 7 base:=⟨by omega,aj.2⟩;refine R8 (λi env m=>∃s9 s10 s11 s12 s13 zs,env=[some (.v (.pot q)),some (.v (.int many)),some (.v (.str LETS)),some (.v (.int fi)),some (.v (.int t)),some (.v (.int al)),some (.v (.str base)),some (.v (.int (pl:Int))),some (.own (zs.map PV.str)),s9,s10,s11,s12,s13,none]/\Nms fi t zs i/\m<=n+20+i*9) _ 0 _ _ ⟨none,none,none,none,none,[],rfl,⟨rfl,List.nodup_nil,(λj z e=>by simp at e),(λ_ z=>nomatch z)⟩,by omega⟩ (λi x env m N ex hI hN=>?_) (λenv m hI=>?_)
 ·obtain⟨hi,rfl⟩:=Co ex;rw[E2] at hI hN;obtain⟨s9,s10,s11,s12,s13,zs,rfl,hz,hm⟩:=hI;have hi2:i<24:=by omega
  have zl:=hz.len
  -- the name is put behind the others
  have fin:∀(D:Cm) (hD:D.nx=N) (z:Str) (m':Nat) (s12 s13:Option Slot),W5 z->lt fi t i∈z.cps.toList->m'<=m+9->
      K2 (K8 8 (qIf (qB (qOp (wIn 4 false) (qV 11) (qO 8))) (qOp wMul (qV 10) (qC (.int 8))) (qV 11))) D [some (.v (.pot q)),some (.v (.int many)),some (.v (.str LETS)),some (.v (.int fi)),some (.v (.int t)),some (.v (.int al)),some (.v (.str base)),some (.v (.int (pl:Int))),some (.own (zs.map PV.str)),some (.v (.int (i:Int))),some (.v (.str ⟨#[lt fi t i]⟩)),some (.v (.str z)),s12,s13,none] m':=by
    intro D hD z m' s12 s13 bz oz hm';have more:=hz.more ht f0 (by omega) bz oz;walk_at "pu";rw[hD];simp only[wIn];refine⟨⟨_,rfl⟩,rfl,?_,?_⟩
    ·refine E9.mpr λy hy=>?_;obtain⟨w,_,rfl⟩:=C0.mp hy
     rfl
    ·rw[mem_str]
     by_cases c:z∈zs
     ·rw[jt c] at more;refine if_t (by simp[c]) ⟨by show 1<=100;decide,by rw[A9];omega,?_⟩;refine hN _ _ ⟨_,_,_,_,_,zs++[V6 ⟨#[lt fi t i]⟩ 8],by rw[J7];rfl,more,by omega⟩
     ·rw[ju c] at more;refine if_f (by simp[c]) ⟨by rw[A9];omega,?_⟩;refine hN _ _ ⟨_,_,_,_,_,zs++[z],by rw[J7];rfl,more,by omega⟩
  have lc:∀c:Nat,(⟨#[c]⟩:Str).length=1:=λ_=>rfl;have ein:(0:Int)+(i:Int)=(i:Int):=by omega
  have nm:∀(x:Str) (p:Nat),LsN 7 x->p<=x.length->(P8 x none (some (p:Int))).length+1<=1000000/\(P8 x none (some (p:Int))++⟨#[lt fi t i]⟩).length+(P8 x (some (p:Int)) none).length<=1000000:=λx p hx hp=>by
   have e1:=B_ x none (some (p:Int));have e2:=B_ x (some (p:Int)) none;have e3:(P8 x none (some (p:Int))++⟨#[lt fi t i]⟩).length=(P8 x none (some (p:Int))).length+1:=by rw[Ad,Dy,D7,<- Ad];rfl
   have e4:=hx.1;have e5:=Ad x;omega
  have n1:=nm base pl b7 (by omega);have p1:=MD b7 (show pl<=base.length by omega) (lt_ltr (f:=fi) (t:=t) (k:=i));walk_at "pv";rw[ein,lt_at];dsimp only;refine⟨.inr t30,ll,by omega,n1.1,by omega,n1.2,?_⟩
  by_cases ca:al=0
  ·rw[jt (jq ca)];refine⟨by omega,λd d0 d1=>⟨⟨by omega,by omega⟩,by rw[Ah];omega,?_⟩⟩;refine txt _ d _ _ (by omega) d0 d1 λys m' hl hp hm'=>?_;obtain⟨ws,e1,l1,l2,aj⟩:=MC ys hp;rw[e1];dsimp only;generalize AE (B0 "") ws=tx at aj ⊢;have lt':tx.length=tx.cps.toList.length:=Ad tx;have aj1:=aj.1;have b7:LsN 7 tx:=⟨by omega,aj.2⟩;refine⟨by rw[l2,jl];omega,by omega,⟨by omega,by omega,by omega⟩,λpt p0 p1=>?_⟩;obtain⟨pt,rfl⟩:=EK p0;have n2:=nm tx pt b7 (by omega);have p2:=MD b7 (show pt<=tx.length by omega) (lt_ltr (f:=fi) (t:=t) (k:=i));refine⟨by omega,n2.1,by omega,n2.2,?_⟩;refine fin _ ?_ _ _ _ _ p2.1 p2.2 ?_
   ·rfl
   ·omega
  ·rw[ju (by simpa using ca)];refine fin _ ?_ _ _ _ _ p1.1 p1.2 ?_
   ·rfl
   ·omega
 ·obtain⟨s9,s10,s11,s12,s13,zs,rfl,hz,hm⟩:=hI;rw[Ah,E2] at hz hm;have zl:=hz.len;walk_at "pu";refine⟨by omega,λd d0 d1=>?_⟩
  by_cases c0:d=0
  ·rw[jt (jq c0)];refine⟨by omega,λe e0 e1=>?_⟩;obtain⟨x,hx,ex⟩:=Fq (xs:=[PV.str (B0 "drop"),PV.str (B0 "touch"),PV.str (B0 "none"),PV.str (B0 "some"),PV.str (B0 "d"),PV.str (B0 "u"),PV.str (B0 "t"),PV.str (B0 "o")]) e0 (by simpa using e1);rw[ex]
   obtain⟨z,rfl,bz⟩:∃z,x=.str z/\W5 z:=by
    simp only[C9,k8,or_false] at hx;rcases hx with rfl|rfl|rfl|rfl|rfl|rfl|rfl|rfl <;> exact⟨_,rfl,by decide,by decide,by unfold Ltr;decide⟩
   refine⟨⟨by omega,by omega,by omega⟩,λj j0 j1=>?_⟩;simp only[wIn];refine⟨rfl,?_,?_⟩
   ·refine E9.mpr λy hy=>?_;obtain⟨w,_,rfl⟩:=C0.mp hy
    rfl
   rw[mem_str];have hj:j.toNat<zs.length:=by omega
   by_cases c:z∈zs
   ·refine if_t (by simp[c]) ?_;obtain⟨y,hy,ey⟩:=Dz (xs:=zs.map PV.str) (d:=j) j0 (by rw[A9];omega);rw[ey];dsimp only;refine⟨⟨_,rfl⟩,?_⟩;rw[Ae j0 (by rw[A9];omega)];dsimp only
    have es:(zs.map PV.str).set j.toNat y=zs.map PV.str:=by
     obtain⟨hl,e⟩:=E1.mp hy;rw[<- e];exact List.set_getElem_self hl
    rw[es];exact h zs _ (by omega) ⟨hz.nd,hz.bt⟩ (by omega)
   ·refine if_f (by simp[c]) ⟨⟨_,rfl⟩,?_⟩;rw[Ae j0 (by rw[A9];omega)];dsimp only;have es:(zs.map PV.str).set j.toNat (.str z)=(zs.set j.toNat z).map PV.str:=by rw[CW]
    rw[es];refine h _ _ (by rw[K3];omega) ⟨?_,λw hw=>?_⟩ (by omega)
    ·exact Qz hz.nd c j.toNat
    ·rcases List.mem_or_eq_of_mem_set hw with hw|hw
     ·exact hz.bt w hw
     ·rw[hw];exact bz
  ·rw[ju (by simpa using c0)];exact h zs _ (by omega) ⟨hz.nd,hz.bt⟩ (by omega)
def fM (ms:List Mk)(q:Nat):Mk:=ms.getD q .d
def bk (ms:List Mk):Nat->Nat->Option Nat
 |0,_=>none
 |q+1,l=>match fM ms q with|.u=>bk ms q (l+1)|.t=>if l=1 then some q else bk ms q (l-1)|_=>bk ms q l
theorem fM_at {ms:List Mk}{i:Nat}{m:Mk}(h:ms[i]?=some m):fM ms i=m:=by
 unfold fM;rw[G6,h];rfl
theorem I_ {ms:List Mk}{i:Nat}(h:i<ms.length):ms[i]?=some (fM ms i):=by
 unfold fM;rw[G6,C4 h];rfl
theorem Ge {r:Int}{ms:List Mk}{q:Nat}{st:List Nat}(hq:q<ms.length)(h:run r 0 [] (ms.take (q+1))=some st):∃st',run r 0 [] (ms.take q)=some st'/\run r q st' [fM ms q]=some st:=by
 rw[Aw,I_ hq,Z5] at h;cases e:run r 0 [] (ms.take q) with
 |none=>rw[e] at h;cases h
 | some st' =>
  rw[e] at h;refine⟨st',rfl,?_⟩;have:(ms.take q).length=q:=by rw[M6];omega
  rw[this,E2] at h;exact h
theorem Gf {r:Int}{q:Nat}{st' st:List Nat}{m:Mk}(h:run r q st' [m]=some st):(m=.t/\st=q::st')\/(m=.d/\st=st')\/(m=.o/\st'=[]/\st=[])\/(m=.u/\∃p,st'=p::st):=by
 cases m with
 |t=>exact .inl ⟨rfl,(F6 h).symm⟩
 |d=>exact .inr (.inl ⟨rfl,(F6 h).symm⟩)
 | o =>
  cases st' with
  |nil=>exact .inr (.inr (.inl ⟨rfl,rfl,(F6 h).symm⟩))
  |cons a r=>cases h
 | u =>
  cases st' with
  |nil=>cases h
  | cons a t =>
   have h':(if(q:Int)-a-1<=r then some t else none)=some st:=h
   split at h'
   ·cases h';exact .inr (.inr (.inr ⟨rfl,a,rfl⟩))
   ·cases h'
theorem Ec {r:Int}:∀(a:List Mk) (k:Nat) (st st':List Nat) (b:List Mk),run r k st a=some st'->shE k st (a++b)=shE k st a++shE (k+a.length) st' b
 |[],k,st,st',b,h=>by cases h;rfl
 | .t :: a, k, st, st', b, h => by
  have h':run r (k+1) (k::st) a=some st':=h;show shE (k+1) (k::st) (a++b)=shE (k+1) (k::st) a++_;rw[Ec a _ _ _ b h',D2,show k+1+a.length=k+(a.length+1) by omega]
 | .d :: a, k, st, st', b, h => by
  have h':run r (k+1) st a=some st':=h;show PE.d k::shE (k+1) st (a++b)=PE.d k::shE (k+1) st a++_;rw[Ec a _ _ _ b h',D2,show k+1+a.length=k+(a.length+1) by omega];rfl
 | .o :: a, k, [], st', b, h => by
  have h':run r (k+1) [] a=some st':=h;show shE (k+1) [] (a++b)=shE (k+1) [] a++_;rw[Ec a _ _ _ b h',D2,show k+1+a.length=k+(a.length+1) by omega]
 |.o::a,k,p::st,st',b,h=>by cases h
 |.u::a,k,[],st',b,h=>by cases h
 | .u :: a, k, p :: st, st', b, h => by
  have h0:(if(k:Int)-p-1<=r then run r (k+1) st a else none)=some st':=h
  split at h0
  ·show PE.t k p::shE (k+1) st (a++b)=PE.t k p::shE (k+1) st a++_;rw[Ec a _ _ _ b h0,D2,show k+1+a.length=k+(a.length+1) by omega];rfl
  ·cases h0
def evT (zs:List Str)(ms:List Mk)(i:Nat):List Ev:=(shE 0 [] (ms.take i)).map (evOf zs)
theorem Ja {r:Int}{zs:List Str}{ms:List Mk}{i:Nat}{st:List Nat}(hi:i<ms.length)(h:run r 0 [] (ms.take i)=some st):evT zs ms (i+1)=evT zs ms i++(shE i st [fM ms i]).map (evOf zs):=by
 unfold evT;rw[Aw,I_ hi];show(shE 0 [] (ms.take i++[fM ms i])).map (evOf zs)=_;rw[Ec _ _ _ _ _ h,J7,E2,M6,Nat.min_eq_left (by omega)]
theorem ME {r:Int}{ms:List Mk}{st:List Nat}(h:run r 0 [] ms=some st)(i:Nat):∃st',run r 0 [] (ms.take i)=some st':=by
 have e:=Z5 (r:=r) (ms.take i) 0 [] (ms.drop i);rw[Gv,h] at e;cases e2:run r 0 [] (ms.take i) with
 |none=>rw[e2] at e;cases e
 |some s=>exact⟨s,rfl⟩
theorem Jb {r:Int}{ms:List Mk}:∀(q:Nat) (st:List Nat),q<=ms.length->run r 0 [] (ms.take q)=some st->st.Nodup/\∀p∈st,p<q
 |0,st,_,h=>by cases h;exact⟨by simp,λ_ z=>nomatch z⟩
 | q + 1, st, hq, h => by
  obtain⟨st',h1,h2⟩:=Ge (by omega) h;obtain⟨n1,n2⟩:=Jb q st' (by omega) h1;rcases Gf h2 with⟨_,rfl⟩|⟨_,rfl⟩|⟨_,rfl,rfl⟩|⟨_,p,rfl⟩
  ·exact⟨N8.mpr ⟨λz=>absurd (n2 q z) (Q9 _),n1⟩,λp hp=>(C9.mp hp).elim (λe=>by omega) λz=>by have:=n2 p z;omega⟩
  ·exact⟨n1,λp hp=>by have:=n2 p hp;omega⟩
  ·exact⟨by simp,λ_ z=>nomatch z⟩
  ·exact⟨(N8.mp n1).2,λx hx=>by have:=n2 x (B4 _ hx);omega⟩
theorem MF {r:Int}{ms:List Mk}{q:Nat}{st:List Nat}(hq:q<=ms.length)(h:run r 0 [] (ms.take q)=some st):st.length<=q:=by
 obtain⟨n1,n2⟩:=Jb q st hq h;have:=n1.length_le_of_subset (l₂:=C7 q) λp hp=>F8.mpr (n2 p hp)
 rwa [Q8] at this
theorem Gg {r:Int}{zs:List Str}{ms:List Mk}:∀(q:Nat) (st:List Nat),q<=ms.length->run r 0 [] (ms.take q)=some st->(evT zs ms q).length<=q
 |0,st,_,h=>B3 _
 | q + 1, st, hq, h => by
  obtain⟨st',h1,h2⟩:=Ge (by omega) h;have ih:=Gg (zs:=zs) q st' (by omega) h1;rw[Ja (by omega) h1,D7,A9]
  have:(shE q st' [fM ms q]).length<=1:=by
   rcases Gf h2 with⟨e,rfl⟩|⟨e,rfl⟩|⟨e,rfl,rfl⟩|⟨e,p,rfl⟩ <;> rw[e] <;> simp[shE]
  omega
theorem at_nm {Z:List PV}(hZ:zs.map PV.str=Z){i:Nat}(h:i<zs.length):atI Z (i:Int)=some (.str (nm zs i)):=by
 obtain⟨x,e1,e2⟩:=Dz (xs:=Z) (d:=(i:Int)) (by omega) (by grind);rw[e2];rw[P7,<- hZ,C6,Bv h] at e1
 grind
theorem ix_nm {zs:List Str}(nd:zs.Nodup){i:Nat}(h:i<zs.length):ixS zs (nm zs i)=i:=by
 have h1:=Bu (Lz h);exact nd_ix nd h1.1 (Bv h)
theorem Tq (es:List Ev):SetOk (es.map evP):=by
 refine⟨λx hx=>?_,λx hx y hy=>?_⟩
 ·obtain⟨e,_,rfl⟩:=C0.mp hx;exact⟨evK e,rfl,ev_ne e⟩
 ·obtain⟨e,_,rfl⟩:=C0.mp hx;obtain⟨f,_,rfl⟩:=C0.mp hy;show Al (keyP (.tup ((evK e).map kP))) (keyP (.tup ((evK f).map kP)));rw[u5,u5];exact ev_al e f
theorem Tr {xs ys:List PV}{i:Nat}{x:PV}(h:(zipP xs ys)[i]?=some x):∃a b,xs[i]?=some a/\ys[i]?=some b/\x=.tup [a,b]:=by
 unfold zipP at h;rw[C6] at h;cases e:(xs.zip ys)[i]? with
 |none=>rw[e] at h;cases h
 | some p =>
  rw[e] at h;obtain⟨a,b⟩:=p;obtain⟨h1,h2⟩:=Gr.mp e;cases h;exact⟨a,b,h1,h2,rfl⟩
theorem Ts {r:Int}{zs:List Str}{ms:List Mk}{n:Nat}{R:PV->Nat->Prop}(hl:ms.length=zs.length)(h24:zs.length<=24)(hrun:run r 0 [] ms=some [])(h:∀ys,SrtS ys ((evT zs ms ms.length).map evP)->R (.tup ys) n):IP [rowP zs,.tup (ms.map mkP)] n R:=by
 refine⟨rfl,?_⟩;unfold IN rowP;generalize hZ:zs.map PV.str=Z;have Zl:Z.length=zs.length:=by rw[<- hZ,A9]
 generalize hM:ms.map mkP=M;have Ml:M.length=ms.length:=by rw[<- hM,A9]
 walk_at "pu";refine R8 (λi env m=>∃(st:List Nat) (s4 s5:Option Slot),env=[some (.v (.tup Z)),some (.v (.tup M)),some (.own ((evT zs ms i).map evP)),some (.own (st.reverse.map λp=>PV.str (nm zs p))),s4,s5]/\run r 0 [] (ms.take i)=some st/\m=n) _ 0 _ _ ⟨[],none,none,rfl,rfl,rfl⟩ (λi x env m N ex hI hN=>?_) (λenv m hI=>?_)
 ·obtain⟨st,s4,s5,rfl,hst,rfl⟩:=hI;rw[E2] at hN hst;obtain⟨za,mb,e1,e2,rfl⟩:=Tr ex;have hi:i<zs.length:=by rw[<- Zl];exact(E1.mp e1).1
  rw[<- hZ,C6,Bv hi] at e1;rw[<- hM,C6,I_ (by omega)] at e2;cases e1;cases e2;obtain⟨st2,hst2⟩:=ME hrun (i+1);obtain⟨st',q1,q2⟩:=Ge (by omega) hst2;rw[hst] at q1;cases q1;have se:=Ja (zs:=zs) (show i<ms.length by omega) hst;have el:=Gg (zs:=zs) i st (by omega) hst;have sl:=MF (show i<=ms.length by omega) hst;simp only[E2];generalize hE:(evT zs ms i).map evP=E;have lE:E.length=(evT zs ms i).length:=by rw[<- hE,A9]
  generalize hS:(st.reverse.map λp=>PV.str (nm zs p))=S;have lS:S.length=st.length:=by rw[<- hS,A9,w9]
  generalize hf:fM ms i=mk at q2 se;unfold mkP;walk_at "pu";rw[mk_d,mk_t,mk_u]
  have fin:∀(E' S':List PV) (s4 s5:Option Slot),E'=(evT zs ms (i+1)).map evP->S'=(st2.reverse.map λp=>PV.str (nm zs p))->N [some (.v (.tup Z)),some (.v (.tup M)),some (.own E'),some (.own S'),s4,s5] m:=λE' S' s4 s5 a1 a2=>by
   rw[a1,a2];exact hN _ _ ⟨st2,_,_,rfl,hst2,rfl⟩
  rcases Gf q2 with⟨rfl,rfl⟩|⟨rfl,rfl⟩|⟨rfl,rfl,rfl⟩|⟨rfl,p,rfl⟩
  ·refine if_f rfl (if_t rfl ⟨⟨_,rfl⟩,by omega,fin _ _ _ _ ?_ ?_⟩)
   ·rw[se,<- hE];simp[shE]
   ·rw[<- hS,k7,J7];rfl
  ·refine if_t rfl ⟨⟨_,rfl⟩,by omega,fin _ _ _ _ ?_ hS.symm⟩;rw[se,J7,hE];rfl
  ·refine if_f rfl (if_f rfl (if_f rfl (fin _ _ _ _ ?_ hS.symm)));rw[se,<- hE];simp[shE]
  ·refine if_f rfl (if_f rfl (if_t rfl ?_));have eS:S=(st2.reverse.map λp=>PV.str (nm zs p))++[.str (nm zs p)]:=by rw[<- hS,k7,J7];rfl
   have e1:S[S.length-1]?=some (.str (nm zs p)):=by
    rw[eS,D7,P5,Nat.add_sub_cancel,Q6 (B3 _),n6];rfl
   rw[e1];refine⟨⟨_,rfl⟩,by omega,fin _ _ _ _ ?_ ?_⟩
   ·rw[se,J7,hE];rfl
   ·rw[eS,BJ]
 ·obtain⟨st,s4,s5,rfl,hst,rfl⟩:=hI;have zl:(zipP Z M).length=ms.length:=by unfold zipP;rw[A9,EB];omega
  rw[zl,E2];have el:=Gg (zs:=zs) ms.length [] (B3 _) (by rw[x4];exact hrun);have so:=Tq (evT zs ms ms.length);have lE:((evT zs ms ms.length).map evP).length<=63:=by rw[A9];omega
  generalize (evT zs ms ms.length).map evP=E at so lE h;walk_at "pu";refine⟨rfl,?_⟩;unfold IM;walk_at "pu";exact⟨lE,so,λys hy=>h ys hy⟩
theorem Tt (hl:es.length<=1000000)(h:R (.lst ((es.filter isTo).map evP)) n):IH [shP es] n R:=by
 refine⟨rfl,?_⟩;unfold IG shP;generalize hE:es.map evP=E;have El:E.length=es.length:=by rw[<- hE,A9]
 walk_at "pu";refine⟨by omega,?_⟩;rw[<- hE];refine DW evP isTo _ _ _ _ (λe he m Q hQ=>?_) h;cases e with
 | d x =>
  rw[evP_d] at *;walk_at "pu";rw[Rz];exact hQ
 | t x y =>
  rw[evP_t] at *;walk_at "pu";exact hQ
theorem Tu {R:PV->Nat->Prop}(hi:i<f.length)(hj:j<f.length)(h:R (rowP (exch f i j)) n):IJ [rowP f,.int (i:Int),.int (j:Int)] n R:=by
 refine⟨rfl,?_⟩;unfold II;unfold rowP at *;have ai:∀{k:Nat},k<f.length->atI (f.map PV.str) (k:Int)=some (.str (nm f k)):=λ{k} hk=>e9 (by rw[C6,Bv hk];rfl);have e:((f.map PV.str).set i (.str (nm f j))).set j (.str (nm f i))=(exch f i j).map PV.str:=by unfold exch;rw[CW,CW]
 generalize hF:f.map PV.str=F at *;have Fl:F.length=f.length:=by rw[<- hF,A9]
 walk_at "pu";rw[ai hj];dsimp only;rw[ai hi];dsimp only;refine⟨⟨_,rfl⟩,?_⟩;rw[Ae (by omega) (by omega)];dsimp only;rw[Ae (by omega) (by rw[K3];omega)];dsimp only;rw[P7,P7,e];exact h
theorem m_rowb (h24:zs.length<=1000)(hl:es.length<=1000)(hb:∀b∈es.flatMap evB,b∈zs)(h:R (rowP (rbh zs es)) n):IL [rowP zs,shP es] n R:=by
 refine⟨rfl,?_⟩;unfold IK;have hix:∀z∈zs,∀{R:PV->Prop},R (.int (ixS zs z))->DV (.tup (zs.map PV.str)) (.str z) R:=λz hz {R} q=>m_ix rfl hz (by omega) q;have hbe:∀e∈es,∀b∈evB e,b∈zs:=λe he b hb'=>hb b (X9.mpr ⟨e,he,hb'⟩);generalize hS:shP es=S;have hr0:rowP zs=.tup (zs.map PV.str):=rfl;generalize hZ:zs.map PV.str=Z at *;rw[hr0];walk_at "pu";rw[<- hS];refine Tt (by omega) ?_;dsimp only;rw[hS];refine R8 (λi env m=>∃s3,env=[some (.v (.tup Z)),some (.v S),some (.v (rowP (((es.filter isTo).take i).foldl (exE zs) zs))),s3]/\m=n) _ 0 _ _ ⟨none,by rw[List.take_zero,List.foldl_nil,hr0],rfl⟩ (λi x env m N ex hI hN=>?_) (λenv m hI=>?_)
 ·obtain⟨s3,rfl,rfl⟩:=hI;obtain⟨e,ee,rfl⟩:=Rx ex;rw[E2] at hN ⊢;have st:((es.filter isTo).take (i+1)).foldl (exE zs) zs=exE zs (((es.filter isTo).take i).foldl (exE zs) zs) e:=by rw[Ry ee,Ex];rfl
  have fl:(((es.filter isTo).take i).foldl (exE zs) zs).length=zs.length:=LD zs _ _;rw[st] at hN;generalize ((es.filter isTo).take i).foldl (exE zs) zs=f at *;obtain⟨he,ht⟩:=M7.mp (J5 ee);have em:=hbe e he;cases e with
  |d x=>cases ht
  | t x y =>
   have hx:=em x (by simp[evB]);have hy:=em y (by simp[evB]);have lx:=FI hx;have ly:=FI hy;rw[evP_t];generalize hF:rowP f=F;walk_at "pu";refine⟨⟨_,rfl⟩,hix x hx ?_⟩;refine⟨⟨_,rfl⟩,hix y hy ?_⟩;rw[<- hF];refine Tu (by omega) (by omega) ?_;exact hN _ _ ⟨_,rfl,rfl⟩
 ·obtain⟨s3,rfl,rfl⟩:=hI;rw[E2,A9,x4,HP];have h':R (rowP (es.foldl (exE zs) zs)) m:=h;generalize rowP (es.foldl (exE zs) zs)=F at *;walk_at "pu";exact h'
theorem MG {α β:Type}{f:α->List β}{x:β}:∀{l:List α},(l.flatMap f).Nodup->∀a∈l,∀b∈l,x∈f a->x∈f b->a=b
 |[],_,_,h,_,_,_,_=>nomatch h
 | c :: l, nd, a, ha, b, hb, h1, h2 => by
  rw[Au] at nd;obtain⟨n1,n2,n3⟩:=Eu.mp nd;rcases C9.mp ha with rfl|ha'
  ·rcases C9.mp hb with rfl|hb'
   ·rfl
   ·exact absurd rfl (n3 x h1 x (X9.mpr ⟨b,hb',h2⟩))
  ·rcases C9.mp hb with rfl|hb'
   ·exact absurd rfl (n3 x h2 x (X9.mpr ⟨a,ha',h1⟩))
   ·exact MG n2 a ha' b hb' h1 h2
theorem Tv {zs:List Str}{a b:Ev}(h:∀x∈evB a,∀y∈evB b,x≠y)(ha:∀x∈evB a,x∈zs)(hb:∀x∈evB b,x∈zs)(f:List Str):setE zs (setE zs f a) b=setE zs (setE zs f b) a:=by
 cases a with
 |d x=>rfl
 | t x y =>
  cases b with
  |d z=>rfl
  | t u v =>
   have ne:∀p∈evB (.t x y),∀q∈evB (.t u v),ixS zs p≠ixS zs q:=λp hp q hq e=>h p hp q hq (HM (ha p hp) (hb q hq) e);have n1:=ne x (by simp[evB]) u (by simp[evB]);have n2:=ne x (by simp[evB]) v (by simp[evB]);have n3:=ne y (by simp[evB]) u (by simp[evB]);have n4:=ne y (by simp[evB]) v (by simp[evB]);show((((f.set (ixS zs x) y).set (ixS zs y) x).set (ixS zs u) v).set (ixS zs v) u)=((((f.set (ixS zs u) v).set (ixS zs v) u).set (ixS zs x) y).set (ixS zs y) x);rw[BL _ _ n3,BL _ _ n1,BL _ _ n4,BL _ _ n2]
theorem Tw {zs:List Str}{es es':List Ev}(fr:Fair zs es)(pm:es'.Perm es):aft zs es'=aft zs es:=by
 unfold aft;have fe:=fr.perm pm;refine pm.foldl_eq' (λa ha b hb f=>?_) zs
 by_cases c:a=b
 ·subst c;rfl
 ·refine Tv (λx hx y hy e=>?_) (λx hx=>fe.sub x (X9.mpr ⟨a,ha,hx⟩)) (λx hx=>fe.sub x (X9.mpr ⟨b,hb,hx⟩)) f;subst e;exact c (MG fe.nd a ha b hb hx hy)
theorem Ed {r:Int}{zs:List Str}{ms:List Mk}{n:Nat}{R:PV->Nat->Prop}(hl:ms.length=zs.length)(h24:zs.length<=24)(nd:zs.Nodup)(hrun:run r 0 [] ms=some [])(h:R (rowP (aft zs (evT zs ms ms.length))) n):AR [rowP zs,.tup (ms.map mkP)] n R:=by
 refine⟨rfl,?_⟩;unfold Iu rowP;unfold rowP at h;generalize hZ:zs.map PV.str=Z;have Zl:Z.length=zs.length:=by rw[<- hZ,A9]
 walk_at "pu";refine R8 (λi env m=>∃(st:List Nat) (s4 s5 s6:Option Slot),env=[some (.v (.tup Z)),some (.v (.tup (ms.map mkP))),some (.own ((aft zs (evT zs ms i)).map PV.str)),some (.own (st.reverse.map pin)),s4,s5,s6]/\run r 0 [] (ms.take i)=some st/\m=n) _ 0 _ _ ⟨[],none,none,none,by rw[<- hZ];rfl,rfl,rfl⟩ (λi x env m N ex hI hN=>?_) (λenv m hI=>?_)
 ·obtain⟨st,s4,s5,s6,rfl,hst,rfl⟩:=hI;rw[E2] at hN hst;obtain⟨v,ev,rfl⟩:=Fn ex;rw[C6] at ev;cases em:ms[i]? with
  |none=>rw[em] at ev;cases ev
  | some mk =>
   rw[em] at ev;cases ev;have hi:i<ms.length:=(E1.mp em).1;have fi:=fM_at em;obtain⟨st2,hst2⟩:=ME hrun (i+1);obtain⟨st',q1,q2⟩:=Ge hi hst2;rw[hst] at q1;cases q1;have se:=Ja (zs:=zs) hi hst;have sl:=MF (show i<=ms.length by omega) hst;rw[fi] at q2 se;simp only[E2];generalize hW:(aft zs (evT zs ms i)).map PV.str=W;have lW:W.length=zs.length:=by rw[<- hW,A9,Cu]
   generalize hS:st.reverse.map pin=S;have lS:S.length=st.length:=by rw[<- hS,A9,w9]
   generalize hM:ms.map mkP=M;unfold mkP;walk_at "pu";simp only[mk_t,mk_u]
   have fin:∀(W' S':List PV) (s4 s5 s6:Option Slot),W'=(aft zs (evT zs ms (i+1))).map PV.str->S'=st2.reverse.map pin->N [some (.v (.tup Z)),some (.v (.tup M)),some (.own W'),some (.own S'),s4,s5,s6] m:=λW' S' s4 s5 s6 e1 e2=>by
    rw[e1,e2,<- hM];exact hN _ _ ⟨st2,_,_,_,rfl,hst2,rfl⟩
   rcases Gf q2 with⟨rfl,rfl⟩|⟨rfl,rfl⟩|⟨rfl,rfl,rfl⟩|⟨rfl,p,rfl⟩
   ·refine if_t rfl ⟨⟨_,rfl⟩,by omega,if_f rfl (fin _ _ _ _ _ ?_ ?_)⟩
    ·rw[se,<- hW];simp[shE]
    ·rw[<- hS,k7,J7];rfl
   ·refine if_f rfl (if_f rfl (fin _ _ _ _ _ ?_ hS.symm));rw[se];show _=((evT zs ms i++[Ev.d (nm zs i)]).foldl (setE zs) zs).map PV.str;rw[Ex];exact hW.symm
   ·refine if_f rfl (if_f rfl (fin _ _ _ _ _ ?_ hS.symm));rw[se,<- hW];simp[shE]
   ·have hp:=(Jb i (p::st2) (by omega) hst).2 p B2;have eS:S=st2.reverse.map pin++[.int (p:Int)]:=by rw[<- hS,k7,J7];rfl
    have e1:S[S.length-1]?=some (.int (p:Int)):=by
     rw[eS,D7,P5,Nat.add_sub_cancel,Q6 (B3 _),n6];rfl
    refine if_f rfl (if_t rfl ?_);rw[e1];dsimp only;rw[at_nm hZ (by omega)];dsimp only;rw[at_nm hZ (show p<zs.length by omega)];dsimp only;refine⟨⟨_,rfl⟩,?_⟩;rw[Ae (n:=W.length) (d:=(p:Int)) (by omega) (by omega)];dsimp only;rw[Ae (n:=(W.set (Int.toNat p) (.str (nm zs i))).length) (d:=(i:Int)) (by omega) (by rw[K3];omega)];refine fin _ _ _ _ _ ?_ ?_
    ·rw[se];show _=((evT zs ms i++[Ev.t (nm zs i) (nm zs p)]).foldl (setE zs) zs).map PV.str;rw[Ex];show _=(((aft zs (evT zs ms i)).set (ixS zs (nm zs i)) (nm zs p)).set (ixS zs (nm zs p)) (nm zs i)).map PV.str;rw[ix_nm nd (by omega),ix_nm nd (show p<zs.length by omega),CW,CW,hW,P7,P7];exact BL _ _ (by omega)
    ·rw[eS,BJ]
 ·obtain⟨st,s4,s5,s6,rfl,hst,rfl⟩:=hI;rw[DI,A9,E2];generalize hW:(aft zs (evT zs ms ms.length)).map PV.str=W at h;walk_at "pu";exact h
theorem evs_nd {es:List Ev}(h:(es.flatMap evB).Nodup):es.Nodup:=by
 induction es with
 |nil=>simp
 | cons e es ih =>
  rw[Au] at h;obtain⟨n1,n2,n3⟩:=Eu.mp h;refine N8.mpr ⟨λz=>?_,ih n2⟩;obtain⟨b,hb⟩:∃b,b∈evB e:=by cases e <;> exact⟨_,B2⟩
  exact n3 b hb b (X9.mpr ⟨e,z,hb⟩) rfl
theorem MH {r:Int}{zs:List Str}{ms:List Mk}{n:Nat}{R:PV->Nat->Prop}(hl:ms.length=zs.length)(h24:zs.length<=24)(nd:zs.Nodup)(hrun:run r 0 [] ms=some [])(h:R (rowP (aft zs (evT zs ms ms.length))) n):Ea [rowP zs,.tup (ms.map mkP)] n R:=by
 refine⟨rfl,?_⟩;unfold IQ;generalize hZ:rowP zs=Z;generalize hM:ms.map mkP=M;walk_at "pu";rw[<- hZ,<- hM];have eT:evT zs ms ms.length=(shE 0 [] ms).map (evOf zs):=by unfold evT;rw[x4]
 have fr:Fair zs (evT zs ms ms.length):=by rw[eT];exact LB nd hl
 have el:=Gg (zs:=zs) ms.length [] (B3 _) (by rw[x4];exact hrun);refine Ts (r:=r) hl h24 hrun λys hys=>?_;obtain⟨es,rfl,hsub⟩:=Lv (evT zs ms ms.length) ys λy hy=>(hys.2.1 y).mp hy
 have nde:es.Nodup:=by
  have:=hys.1;rw[Ax,Bc] at this;exact this.imp λh e=>h (by rw[e])
 have pm:es.Perm (evT zs ms ms.length):=(List.perm_ext_iff_of_nodup nde (evs_nd fr.nd)).mpr λe=>⟨λhe=>hsub e he,λhe=>by
  have:=(hys.2.1 (evP e)).mpr (C0.mpr ⟨e,he,rfl⟩);obtain⟨f,hf,ef⟩:=C0.mp this
  rw[<- Rt ef];exact hf⟩
 have fe:=fr.perm pm;have le:=pm.length_eq;refine m_rowb (by omega) (by omega) fe.sub ?_;rw[<- LC fe,Tw fr pm];exact h
def agP (p:PV×PV):Bool:=match p.1 with|.non=>true|t=>eqP t p.2
def agB (ts ws:List PV):Bool:=(ts.zip ws).all agP
def TnP (t:PV):Prop:=t=.non\/∃z,t=.str z
theorem MI {ts ws:List PV}{n:Nat}{R:PV->Nat->Prop}(h1:∀t∈ts,TnP t)(h2:∀w∈ws,∃z,w=.str z)(hl:ts.length<=1000)(h:R (.bl (agB ts ws)) n):FY [.tup ts,.tup ws] n R:=by
 refine⟨rfl,?_⟩;unfold IC;walk_at "pu";unfold i6;simp only[F2,reduceIte];have ez:zipP ts ws=(ts.zip ws).map λp=>.tup [p.1,p.2]:=rfl;rw[ez,A9,EB];refine⟨by omega,?_⟩;refine Bs (λp:PV×PV=>p.1) (λp=>p.2) (λp=>.bl (agP p)) _ _ _ _ _ (λp hp k Q hQ=>?_) ?_
 ·obtain⟨m1,m2⟩:=CT hp;obtain⟨a,b⟩:=p;obtain⟨z,ez⟩:=h2 b m2;have ez':b=.str z:=ez;subst ez';rcases h1 a m1 with e|⟨y,e⟩
  ·have e':a=.non:=e;subst e';walk_at "pu";exact hQ
  ·have e':a=.str y:=e;subst e';walk_at "pu";have hQ':Q (.bl (eqP (.str y) (.str z))) _ k:=hQ;rw[M9] at hQ';exact hQ'
 ·have e:(ts.zip ws).map (λp=>PV.bl (agP p))=((ts.zip ws).map agP).map PV.bl:=by rw[D8];rfl
  rw[e,Ag];dsimp only;rw[Be];exact h
theorem MJ (zs:List Str):∀w∈zs.map PV.str,∃z,w=.str z:=λw hw=>by
 obtain⟨z,_,rfl⟩:=C0.mp hw;exact⟨z,rfl⟩
theorem MK (ms:List Mk):∀w∈ms.map mkP,∃z,w=.str z:=λw hw=>by
 obtain⟨z,_,rfl⟩:=C0.mp hw;exact⟨_,rfl⟩
theorem ML (l:List (PV×PV)):(l.map λp=>!agP p).any id=!(l.all agP):=by
 rw[List.any_map]
 induction l with
 |nil=>rfl
 |cons a l ih=>simp only[List.any_cons,List.all_cons,Function.comp_apply,id,ih,Bool.not_and]
theorem MM {ts ws:List PV}{n:Nat}{Rk:List PV->Nat->Prop}(h1:∀t∈ts,TnP t)(h2:∀w∈ws,∃z,w=.str z)(h:Rk ((ts.zip ws).map λp=>.bl (!agP p)) n):R6 (gTp 2 (gCn (gN 0) (gCn (gN 1) gNl))) qTru (Q3 (qOp O3 (qV 0) (qC .non)) (qOp (wNe 4) (qV 0) (qV 1))) (zipP ts ws) [none,none] n Rk:=by
 have ez:zipP ts ws=(ts.zip ws).map λp=>.tup [p.1,p.2]:=rfl;rw[ez];refine Bs (λp:PV×PV=>p.1) (λp=>p.2) (λp=>.bl (!agP p)) _ _ _ _ _ (λp hp k Q hQ=>?_) h;obtain⟨m1,m2⟩:=CT hp;obtain⟨a,b⟩:=p;obtain⟨z,ez⟩:=h2 b m2;have ez':b=.str z:=ez;subst ez';rcases h1 a m1 with e|⟨y,e⟩
 ·have e':a=.non:=e;subst e';walk_at "pu";exact hQ
 ·have e':a=.str y:=e;subst e';walk_at "pu";have hQ':Q (.bl (!eqP (.str y) (.str z))) _ k:=hQ;rw[M9] at hQ';exact hQ'
theorem m_fits {r:Int}{zs:List Str}{ms:List Mk}{ts bs:List PV}{n:Nat}{R:PV->Nat->Prop}(hl:ms.length=zs.length)(h24:zs.length<=24)(nd:zs.Nodup)(hrun:run r 0 [] ms=some [])(t1:∀t∈ts,TnP t)(t2:∀t∈bs,TnP t)(l1:ts.length<=1000)(l2:bs.length<=1000)(h:R (.bl (agB ts (ms.map mkP)&&agB bs ((aft zs (evT zs ms ms.length)).map PV.str))) n):Iy [rowP zs,.tup [.tup ts,.tup bs],.tup (ms.map mkP)] n R:=by
 refine⟨rfl,?_⟩;unfold Ix;have ms2:=MK ms;have rs2:=MJ (aft zs (evT zs ms ms.length));generalize hZ:rowP zs=Z;generalize hM:ms.map mkP=M at ms2 h;walk_at "pu";unfold i6;simp only[F2,reduceIte];refine⟨by unfold zipP;rw[A9,EB];omega,?_⟩;refine MM t1 ms2 ?_;have e:∀l:List (PV×PV),l.map (λp=>PV.bl (!agP p))=(l.map λp=>!agP p).map PV.bl:=λl=>by rw[D8];rfl
 rw[e,Ag];dsimp only;rw[ML];cases c:(ts.zip M).all agP with
 | false =>
  have:agB ts M=false:=c;rw[this,O8] at h;exact if_t rfl h
 | true =>
  have:agB ts M=true:=c;rw[this,R1] at h;refine if_f rfl ?_;rw[<- hZ,<- hM];refine Ed (r:=r) hl h24 nd hrun ?_;unfold rowP;generalize (aft zs (evT zs ms ms.length)).map PV.str=W at rs2 h;simp only[F2,reduceIte];refine⟨by unfold zipP;rw[A9,EB];omega,?_⟩;refine MM t2 rs2 ?_;rw[e,Ag];dsimp only;rw[ML,Bool.not_not];exact h
theorem sh_mk (m:Mk):Show 0 82 (mkP m):=by cases m <;> exact LG _ (by decide +kernel) (by decide +kernel)
theorem Tx:Show 0 82 .non:=⟨trivial,by decide,by decide⟩
def TnS (t:PV):Prop:=TnP t/\Show 0 82 t
theorem tn_mk (m:Mk):TnS (mkP m):=⟨.inr ⟨_,rfl⟩,sh_mk m⟩
theorem tn_non:TnS .non:=⟨.inl rfl,Tx⟩
theorem MN {z:Str}(h:W5 z):TnS (.str z):=⟨.inr ⟨z,rfl⟩,LF h⟩
theorem Ty {d:Int}(h0:0<=d)(h1:d<4):∃c,atI (B0 "utdo").cps.toList d=some c/\TnS (.str ⟨#[c]⟩):=by
 obtain⟨k,rfl⟩:=EK h0;have hk:k<4:=by omega
 have one:∀c:Nat,c<16 ^ 8->TnS (.str ⟨#[c]⟩):=λc hc=>by
  refine⟨.inr ⟨_,rfl⟩,LG _ (λd hd=>?_) (show 1<=8 by decide)⟩;have e:d=c:=by simpa using hd
  rw[e];exact hc
 match k,hk with
 |0,_=>exact⟨117,by decide +kernel,one _ (by decide)⟩
 |1,_=>exact⟨116,by decide +kernel,one _ (by decide)⟩
 |2,_=>exact⟨100,by decide +kernel,one _ (by decide)⟩
 |3,_=>exact⟨111,by decide +kernel,one _ (by decide)⟩
theorem m_torn {q n:Nat}{bs ms rw_:List PV}{R:PV->Nat->Prop}(hb:∀y∈bs,TnS y)(hm:∀y∈ms,TnS y)(hr:∀y∈rw_,TnS y)(b1:1<=bs.length)(b2:bs.length<=24)(ml:ms.length=rw_.length)(r1:1<=rw_.length)(r2:rw_.length<=24)(hn:n<=999990000)(h:∀ts us n',ts.length<=24->us.length<=24->(∀t∈ts,TnS t)->(∀t∈us,TnS t)->n'<=n+100->R (.tup [.tup ts,.tup us]) n'):Im [.pot q,.tup bs,.tup ms,.tup rw_] n R:=by
 refine⟨rfl,?_⟩;unfold Il;walk_at "pu";refine⟨by omega,λkn k0 k1=>⟨by omega,λot o0 o1=>⟨by omega,?_⟩⟩⟩
 have each:∀(xs:List PV),(∀y∈xs,TnS y)->∀x∈xs,∀(m:Nat) (Q:PV->Pu.Env->Nat->Prop),m<=999999000->(∀y m',TnS y->m'<=m+1->Q y (some (.v x)::[some (.v (.int kn)),some (.v (.pot q))]) m')->qIf (qB (qOp wLt (B5 E7 (A3 (qV 2) (A3 (qC (.int 5)) qNil))) (qV 1))) (qV 0) (qC .non) (some (.v x)::[some (.v (.int kn)),some (.v (.pot q))]) m Q:=λxs hx x hxm m Q hmm hQ=>by
  walk_at "pu";refine⟨by omega,λd d0 d1=>?_⟩
  by_cases c:d<kn
  ·exact if_t (jq c) (hQ _ _ (hx x hxm) (by omega))
  ·exact if_f (jr c) (hQ _ _ tn_non (by omega))
 refine Fp TnS 1 999999000 _ _ _ _ (λx hx m Q hmm hQ=>each ms hm x hx m Q hmm hQ) (by omega) λts n1 lt pt hn1=>?_;refine⟨by omega,?_⟩;refine Fp TnS 1 999999000 _ _ _ _ (λx hx m Q hmm hQ=>each rw_ hr x hx m Q hmm hQ) (by omega) λus n2 lu pu hn2=>?_;refine⟨⟨by omega,by omega,by omega⟩,λat_ a0 a1=>?_⟩
 have set_all:∀(l:List PV) (j:Nat) (y:PV),(∀t∈l,TnS t)->TnS y->∀t∈l.set j y,TnS t:=λl j y h1 h2 t ht=>by
  rcases List.mem_or_eq_of_mem_set ht with z|z
  ·exact h1 t z
  ·rw[z];exact h2
 by_cases c:ot=0
 ·refine if_t (jq c) ⟨by omega,λd d0 d1=>?_⟩
  by_cases c2:d=0
  ·refine if_t (jq c2) ⟨by omega,λe e0 e1=>⟨by decide +kernel,?_⟩⟩;obtain⟨ch,ech,hch⟩:=Ty e0 e1;rw[ech];refine⟨⟨_,rfl⟩,?_⟩;rw[Ae a0 (by omega)];exact h _ _ _ (by rw[K3];omega) (by omega) (set_all _ _ _ pt hch) pu (by omega)
  ·refine if_f (jr c2) (if_t (jq c) ⟨⟨by omega,by omega,by omega⟩,λe e0 e1=>?_⟩);obtain⟨y,hy,ey⟩:=Fq (xs:=bs) e0 e1;rw[ey];refine⟨⟨_,rfl⟩,?_⟩;rw[Ae a0 (by omega)];exact h _ _ _ (by omega) (by rw[K3];omega) pt (set_all _ _ _ pu (hb y hy)) (by omega)
 ·exact if_f (jr c) (if_f (jr c) (h _ _ _ (by omega) (by omega) pt pu (by omega)))
end Tb
end
section
namespace Tb
open PySem L2 Pu
theorem CG (a b:Int):eqP (.int a) (.int b)=decide (a=b):=by
 show(a == b)=_;rw[Df]
theorem AS (a b:Str):eqP (.str a) (.str b)=decide (a=b):=by
 show(a == b)=_;rw[Df]
theorem CH (a b:Bool):eqP (.bl a) (.bl b)=decide (a=b):=by
 show(a == b)=_;rw[Df]
theorem at_map {α:Type}(f:α->PV)(d:α){xs:List α}{i:Int}{k:Nat}(hk:k<xs.length)(hi:i=k):atI (xs.map f) i=some (f (xs.getD k d)):=by
 subst hi;obtain⟨x,e1,e2⟩:=Dz (xs:=xs.map f) (d:=(k:Int)) (by omega) (by rw[A9];omega);rw[e2];rw[P7,C6,C4 hk] at e1;rw[G6,C4 hk];exact e1.symm
theorem Tz {α:Type}(f:α->Nat->α)(a:α)(k:Nat):(C7 (k+1)).foldl f a=f ((C7 k).foldl f a) k:=by
 rw[List.range_succ,Ex];rfl
noncomputable def mcP (c:Nat):PV:=.str (B0 (if c=1 then "d" else if c=2 then "o" else if c=3 then "t" else "u"))
def wdP (w:List Nat):PV:=.tup (w.map mcP)
def wsP (ws:List (List Nat)):PV:=.lst (ws.map wdP)
def Gi (si:List Nat)(sh:List (List (List Nat))):List (List Nat):=si.flatMap λc=>(sh.getD (sh.length-1) []).map λb=>c::b
def Ee (cl sh:List (List (List Nat)))(i:Nat):List (List Nat):=(cl.getD i []).flatMap λa=>(sh.getD (sh.length-2-i) []).map λb=>3::(a++4::b)
def W9 (si:List Nat)(r:Nat)(cl sh:List (List (List Nat))):List (List Nat):=(C7 (min (r+1) (sh.length-1))).foldl (λt i=>t++Ee cl sh i) (Gi si sh)
theorem MO {α β:Type}(f:α->PV)(g:β->PV)(e:α->β->PV)(ys:List β){pi2:pA}{te:pE}{rest:Pu.Env}(l2:ys.length<=1000):∀(xs:List α) (s0 s1:Option Slot) (n:Nat) (R:List PV->Nat->Prop),
   (∀x∈xs,∀s m Q,Q (ys.map g) (some (.v (f x))::s::rest) m->pi2 (some (.v (f x))::s::rest) m Q)->
   (∀x∈xs,∀y∈ys,∀m Q,Q (e x y) (some (.v (f x))::some (.v (g y))::rest) m->te (some (.v (f x))::some (.v (g y))::rest) m Q)->
   R (xs.flatMap λx=>ys.map (e x)) n->DY (gN 0) pi2 (gN 1) qTru te (xs.map f) (s0::s1::rest) n R:=by
 have inner:∀(x:α) (ys:List β) (s1:Option Slot) (n:Nat) (R:List PV->Pu.Env->Nat->Prop),(∀y∈ys,∀m Q,Q (e x y) (some (.v (f x))::some (.v (g y))::rest) m->te (some (.v (f x))::some (.v (g y))::rest) m Q)->
     (∀s,R (ys.map (e x)) (some (.v (f x))::s::rest) n)->Cv (gN 1) qTru te (ys.map g) (some (.v (f x))::s1::rest) n R:=by
   intro x ys
   induction ys with
   |nil=>intro s1 n R _ h;exact h s1
   | cons y ys ih =>
    intro s1 n R ht h;show te (some (.v (f x))::some (.v (g y))::rest) n _;refine ht y B2 n _ ?_;exact ih _ n _ (λz hz=>ht z (B4 _ hz)) h
 intro xs
 induction xs with
 |nil=>intro s0 s1 n R _ _ h;exact h
 | cons x xs ih =>
  intro s0 s1 n R hi ht h;show pi2 (some (.v (f x))::s1::rest) n _;refine hi x B2 s1 n _ ⟨by rw[A9];exact l2,?_⟩;refine inner x ys _ n _ (ht x B2) λs=>?_;exact ih _ s n _ (λz hz=>hi z (B4 _ hz)) (λz hz=>ht z (B4 _ hz)) h
def accW (si:List Nat)(cl sh:List (List (List Nat)))(k:Nat):List (List Nat):=(C7 k).foldl (λt i=>t++Ee cl sh i) (Gi si sh)
theorem MP (si:List Nat)(cl sh:List (List (List Nat)))(k:Nat):accW si cl sh (k+1)=accW si cl sh k++Ee cl sh k:=Tz _ _ _
theorem MQ (si:List Nat)(cl sh:List (List (List Nat)))(k:Nat):∀d,(accW si cl sh k).length<=(accW si cl sh (k+d)).length
 |0=>B3 _
 | d + 1 => by
  rw[<- Nat.add_assoc,MP,D7];have:=MQ si cl sh k d;omega
theorem MR (si:List Nat)(r:Nat)(cl sh:List (List (List Nat)))(hs:1<=sh.length)(h1:sh.length<=cl.length+1)(hb:sh.length<=10)(l0:si.length<=2)(lc:∀k,(cl.getD k []).length<=1000)(ls:∀k,(sh.getD k []).length<=1000)
   (wc:∀k,∀w∈cl.getD k [],w.length<=10) (ws:∀k,∀w∈sh.getD k [],w.length<=10) (tot:(W9 si r cl sh).length<=1000) {n:Nat} {R:PV->Nat->Prop} (h:R (wsP (W9 si r cl sh)) n):FW [.tup (si.map mcP),.lst (cl.map wsP),.lst (sh.map wsP),.int r] n R:=by
 refine⟨rfl,?_⟩;unfold IA;have gc:∀(j:Int) (k:Nat),j=k->k<cl.length->atI (cl.map wsP) j=some (wsP (cl.getD k [])):=λj k e h=>at_map wsP [] h e;have gs:∀(j:Int) (k:Nat),j=k->k<sh.length->atI (sh.map wsP) j=some (wsP (sh.getD k [])):=λj k e h=>at_map wsP [] h e;have lsi:(si.map mcP).length<=1000:=by rw[A9];omega
 have lsh:(sh.map wsP).length=sh.length:=by rw[A9]
 generalize esi:si.map mcP=SI at lsi;generalize ecl:cl.map wsP=CL at gc;generalize esh:sh.map wsP=SH at gs lsh;walk_at "p1";refine⟨lsi,?_⟩;rw[<- esi,lsh];refine MO mcP wdP (λc b=>wdP (c::b)) (sh.getD (sh.length-1) []) (ls _) si none none n _ (λx hx s m Q q=>?_) (λx hx y hy m Q q=>?_) ?_
 ·have e:=gs ((sh.length:Int)-1) (sh.length-1) (by omega) (by omega);walk_at "p1";rw[e];exact q
 ·have:=ws _ y hy;unfold wdP at *;generalize ey:y.map mcP=Y at *;walk_at "p1";have ly:Y.length=y.length:=by rw[<- ey,A9]
  refine⟨by omega,?_⟩;rw[<- ey] at *;exact q
 have eN:((if(sh.length:Int)-2<r then(sh.length:Int)-2 else r)+1).toNat=min (r+1) (sh.length-1):=by split <;> omega
 refine⟨⟨by split <;> omega,by split <;> omega⟩,?_⟩
 rw[eN]
 have e0:(si.flatMap λx=>(sh.getD (sh.length-1) []).map λb=>wdP (x::b))=(accW si cl sh 0).map wdP:=by
  show _=(Gi si sh).map wdP;unfold Gi;rw[List.map_flatMap];refine congrArg (λg=>List.flatMap g si) (funext λc=>?_);rw[D8]
  rfl
 rw[e0];rw[esi];refine R8 (λk env q=>q=n/\∃z,env=[some (.v (.tup SI)),some (.v (.lst CL)),some (.v (.lst SH)),some (.v (.int r)),some (.v (.int sh.length)),some (.ow .lst ((accW si cl sh k).map wdP)),z]) _ 0 _ _ ⟨rfl,none,rfl⟩ (λi x env q N hx hI hN=>?_) (λenv q hI=>?_)
 ·obtain⟨rfl,z,rfl⟩:=hI;obtain⟨hi,rfl⟩:=Co hx;rw[E2] at *;rw[Bg]
  have tl:(accW si cl sh (i+1)).length<=1000:=by
   have:=MQ si cl sh (i+1) (min (r+1) (sh.length-1)-(i+1));rw[show i+1+(min (r+1) (sh.length-1)-(i+1))=min (r+1) (sh.length-1) by omega] at this;exact E5 this tot
  have ec:=gc (i:Int) i rfl (by omega);have es:=gs ((sh.length:Int)-2-i) (sh.length-2-i) (by omega) (by omega);have hN':=hN [some (.v (.tup SI)),some (.v (.lst CL)),some (.v (.lst SH)),some (.v (.int r)),some (.v (.int sh.length)),some (.ow .lst ((accW si cl sh (i+1)).map wdP)),some (.v (.int i))] q ⟨rfl,_,rfl⟩;generalize eA:(accW si cl sh i).map wdP=AC;walk_at "p1";refine⟨⟨_,rfl⟩,?_⟩;rw[ec];unfold wsP;dsimp only;refine⟨by rw[A9];exact lc _,?_⟩;refine MO wdP wdP (λa b=>wdP (3::(a++4::b))) (sh.getD (sh.length-2-i) []) (ls _) _ none none q _ (λx hx s m Q q=>?_) (λx hx y hy m Q q=>?_) ?_
  ·walk_at "p1";rw[es];exact q
  ·have h5:=ws _ y hy;have h6:=wc _ x hx;unfold wdP at *;have ex:(3::(x++4::y)).map mcP=.str (B0 "t")::(x.map mcP++.str (B0 "u")::y.map mcP):=by rw[J8,J7];rfl
   have lx:(x.map mcP).length=x.length:=by rw[A9]
   have ly:(y.map mcP).length=y.length:=by rw[A9]
   rw[ex] at q;generalize x.map mcP=X at *;generalize y.map mcP=Y at *;walk_at "p1";refine⟨by omega,by omega,by rw[D7,P5];omega,?_⟩;rw[Z9];exact q
  ·have e:((cl.getD i []).flatMap λa=>(sh.getD (sh.length-2-i) []).map λb=>wdP (3::(a++4::b)))=(Ee cl sh i).map wdP:=by
    unfold Ee;rw[List.map_flatMap];refine congrArg (λg=>List.flatMap g (cl.getD i [])) (funext λc=>?_);rw[D8]
    rfl
   rw[e];rw[MP] at tl hN';rw[D7] at tl;refine⟨by rw[<- eA,A9,A9];omega,?_⟩;rw[<- eA,<- J7];exact hN'
 ·obtain⟨rfl,z,rfl⟩:=hI;rw[E2,Ah];exact h
def cls (r:Nat):Nat->List (List (List Nat))
 |0=>[[[]]]
 |k+1=>cls r k++[W9 [1] r (cls r k) (cls r k)]
def wss (r:Nat):Nat->List (List (List Nat))
 |0=>[[[]]]
 |k+1=>wss r k++[W9 [1,2] r (cls r (k+1)) (wss r k)]
theorem Gj (r:Nat):∀k,(cls r k).length=k+1
 |0=>rfl
 |k+1=>by rw[cls,D7,Gj r k];rfl
theorem Gk (r:Nat):∀k,(wss r k).length=k+1
 |0=>rfl
 |k+1=>by rw[wss,D7,Gk r k];rfl
theorem MS (r:Nat):∀k,∃t,cls r k=[[]]::t
 |0=>⟨[],rfl⟩
 |k+1=>by obtain⟨t,e⟩:=MS r k;rw[cls,e];exact⟨_,rfl⟩
theorem MT (r:Nat):∀k,∃t,wss r k=[[]]::t
 |0=>⟨[],rfl⟩
 |k+1=>by obtain⟨t,e⟩:=MT r k;rw[wss,e];exact⟨_,rfl⟩
def OkW (L:List (List (List Nat))):Prop:=∀l∈L,l≠[]/\l.length<=1000/\∀w∈l,w.length<=10
theorem MU {r:Nat}:∀(d k:Nat),∀x∈cls r k,x∈cls r (k+d)
 |0,k,x,h=>h
 |d+1,k,x,h=>by rw[<- Nat.add_assoc,cls];exact A_ _ (MU d k x h)
theorem MV {r:Nat}:∀(d k:Nat),∀x∈wss r k,x∈wss r (k+d)
 |0,k,x,h=>h
 |d+1,k,x,h=>by rw[<- Nat.add_assoc,wss];exact A_ _ (MV d k x h)
theorem MW {r k:Nat}(h:OkW (cls r 7))(hk:k<=7):OkW (cls r k):=λl hl=>h l (by
 have:=MU (7-k) k l hl
 rwa [Nat.add_sub_cancel' hk] at this)
theorem Jc {r k:Nat}(h:OkW (wss r 7))(hk:k<=7):OkW (wss r k):=λl hl=>h l (by
 have:=MV (7-k) k l hl
 rwa [Nat.add_sub_cancel' hk] at this)
theorem OkW.at {L:List (List (List Nat))}(h:OkW L)(k:Nat):(L.getD k []).length<=1000/\∀w∈L.getD k [],w.length<=10:=by
 rw[G6];cases e:L[k]? with
 |none=>exact⟨D5 _,λw hw=>nomatch hw⟩
 |some l=>exact⟨(h l (J5 e)).2.1,(h l (J5 e)).2.2⟩
theorem Jd (w:List Nat):noMut (wdP w)=true:=by
 show g9 (w.map mcP)=true
 induction w with
 |nil=>rfl
 |cons c w ih=>exact ih
theorem MX (ws:List (List Nat)):g9 (ws.map wdP)=true:=by
 induction ws with
 |nil=>rfl
 |cons c w ih=>show(noMut (wdP c)&&g9 (w.map wdP))=true;rw[Jd,ih];rfl
theorem lsts5 {a b c:PV}{L1 L2:List PV}(h1:∃l t,L1=.lst l::t)(h2:∃l t,L2=.lst l::t):lsts [some (.v a),some (.v b),some (.ow .lst L1),some (.ow .lst L2),some (.v c)]:=λi xs e=>by
 match i,e with
 |2,e=>cases e;exact h1
 |3,e=>cases e;exact h2
 |0,e=>cases e
 |1,e=>cases e
 |4,e=>cases e
 |i+5,e=>cases e
theorem MY {α:Type}{l:List α}(h:l≠[]):∃w t,l=w::t:=by cases l;exact absurd rfl h;exact⟨_,_,rfl⟩
theorem m_all (r m:Nat)(hm:m<=7)(h0:1<=m)(oc:OkW (cls r 7))(ow:OkW (wss r 7)){W:List (List Nat)}(eW:(wss r m).getD m []=W)(l2:2<=W.length)(so:FF (W.map wdP)){lt:Nat->Nat->Bool}{ps:List Nat}
   (el:∀i j,i<W.length->j<W.length->lt i j=ltIx ((W.map wdP).map keyP) i j) (ht:Tm.tsort lt W.length=some ps) (pl:ps.length=W.length) (pi:∀i∈ps,i<W.length)
   {n:Nat} {R:PV->Nat->Prop} (h:R (.tup (ps.map λi=>wdP (W.getD i []))) n):FX [.int m,.int r] n R:=by
 refine⟨rfl,?_⟩;unfold IB;walk_at "p1";refine⟨⟨by omega,by omega⟩,?_⟩;rw[P7];refine R8 (λk env q=>q=n/\∃z,env=[some (.v (.int m)),some (.v (.int r)),some (.ow .lst ((cls r k).map wsP)),some (.ow .lst ((wss r k).map wsP)),z]) _ 0 _ _ ⟨rfl,none,rfl⟩ (λi x env q N hx hI hN=>?_) (λenv q hI=>?_)
 ·obtain⟨rfl,z,rfl⟩:=hI;obtain⟨hi,rfl⟩:=Co hx;rw[E2] at *;rw[Bg];have lc:=Gj r i;have lw:=Gk r i;obtain⟨tc,ec⟩:=MS r i;obtain⟨tw,ew⟩:=MT r i;have o1:=MW oc (show i<=7 by omega);have o2:=MW oc (show i+1<=7 by omega);have o3:=Jc ow (show i<=7 by omega);have o4:=Jc ow (show i+1<=7 by omega);have k1:=o2 (W9 [1] r (cls r i) (cls r i)) (by rw[cls];exact X8 _ B2);have k2:=o4 (W9 [1,2] r (cls r (i+1)) (wss r i)) (by rw[wss];exact X8 _ B2);have hN':=hN [some (.v (.int m)),some (.v (.int r)),some (.ow .lst ((cls r (i+1)).map wsP)),some (.ow .lst ((wss r (i+1)).map wsP)),some (.v (.int i))] q ⟨rfl,_,rfl⟩;have c1:(cls r (i+1)).map wsP=(cls r i).map wsP++[wsP (W9 [1] r (cls r i) (cls r i))]:=by rw[cls,J7];rfl
  have c2:(wss r (i+1)).map wsP=(wss r i).map wsP++[wsP (W9 [1,2] r (cls r (i+1)) (wss r i))]:=by rw[wss,J7];rfl
  have hc:∃l t,(cls r i).map wsP=.lst l::t:=⟨_,_,by rw[ec];rfl⟩
  have hc2:∃l t,(cls r (i+1)).map wsP=.lst l::t:=by
   obtain⟨l,t,e⟩:=hc;exact⟨l,_,by rw[c1,e];rfl⟩
  have hw:∃l t,(wss r i).map wsP=.lst l::t:=⟨_,_,by rw[ew];rfl⟩;have b1:=λ{R:PV->Nat->Prop} (h:R (wsP (W9 [1] r (cls r i) (cls r i))) q)=>MR [1] r (cls r i) (cls r i) (by omega) (by omega) (by omega) (by decide) (λk=>(o1.at k).1) (λk=>(o1.at k).1) (λk=>(o1.at k).2) (λk=>(o1.at k).2) k1.2.1 (n:=q) h;have b2:=λ{R:PV->Nat->Prop} (h:R (wsP (W9 [1,2] r (cls r (i+1)) (wss r i))) q)=>MR [1,2] r (cls r (i+1)) (wss r i) (by omega) (by rw[Gj];omega) (by omega) (by decide) (λk=>(o2.at k).1) (λk=>(o3.at k).1) (λk=>(o2.at k).2) (λk=>(o3.at k).2) k2.2.1 (n:=q) h;have lc':((cls r i).map wsP).length<1000000:=by rw[A9];omega
  have lw':((wss r i).map wsP).length<1000000:=by rw[A9];omega
  rw[c2] at hN';generalize (cls r i).map wsP=L1 at *;generalize (wss r i).map wsP=L2 at *;generalize (cls r (i+1)).map wsP=L3 at *;walk_at "p1";obtain⟨w1,t1,e1⟩:=MY k1.1;obtain⟨w2,t2,e2⟩:=MY k2.1;refine⟨⟨_,rfl⟩,lsts5 hc hw,b1 ?_⟩;rw[e1];refine⟨Jd w1,MX t1,?_⟩;rw[e1] at c1;refine⟨lc',⟨_,rfl⟩,lsts5 ?_ hw,?_⟩
  ·obtain⟨l,t,e⟩:=hc2;exact⟨l,t,c1.symm.trans e⟩
  rw[<- c1];refine b2 ?_;rw[e2] at hN' ⊢;refine⟨Jd w2,MX t2,lw',hN'⟩
 ·obtain⟨rfl,z,rfl⟩:=hI;rw[E2,Ah];have lw:=Gk r m;have e:atI ((wss r m).map wsP) (m:Int)=some (wsP ((wss r m).getD m [])):=at_map wsP [] (by omega) rfl;rw[eW] at e;generalize (wss r m).map wsP=L1 at *;walk_at "p1";rw[e];unfold wsP;dsimp only;have lW:(W.map wdP).length=W.length:=A9 _;have oW:W.length<=1000:=by rw[<- eW];exact((Jc ow hm).at m).1
  rw[lW];refine⟨⟨l2,oW⟩,so,lt,ps,el,ht,pl,pi,?_⟩
  have ep:(ps.map λi=>(W.map wdP).getD i .non)=ps.map λi=>wdP (W.getD i []):=by
   refine At λi hi=>?_;have hl:=pi i hi;rw[G6,G6,C6,C4 hl]
   rfl
  rw[ep];exact h
noncomputable def mkK (c:Nat):Key:=.inr (B0 (if c=1 then "d" else if c=2 then "o" else if c=3 then "t" else "u"))
theorem MZ:∀w:List Nat,M2 (w.map mcP)=some (w.map mkK)
 |[]=>rfl
 | c :: w => by
  show(M2 (w.map mcP)).map (mkK c::·)=_;rw[MZ w]
  rfl
theorem Je (w:List Nat):keyP (wdP w)=w.map mkK:=by
 show(M2 (w.map mcP)).getD []=_;rw[MZ]
 rfl
def dig (c:Nat):Prop:=1<=c/\c<=4
def code:List Nat->Nat
 |[]=>0
 |c::w=>c*8 ^ w.length+code w
theorem Jf:∀w:List Nat,(∀c∈w,dig c)->code w<8 ^ w.length
 |[],_=>by decide
 | c :: w, h => by
  have h1:=Jf w λd hd=>h d (B4 _ hd);have h2:=(h c B2).2;show c*8 ^ w.length+code w<8 ^ (w.length+1);rw[BS];generalize 8 ^ w.length=p at *;have:c*p<=4*p:=Bf p h2;omega
theorem TB {c d:Nat}(hc:dig c)(hd:dig d):decide (mkK c=mkK d)=decide (c=d)/\J3 (mkK c) (mkK d)=decide (c<d):=by
 unfold dig at hc hd
 match c,d,hc,hd with
 |1,1,_,_=>decide +kernel
 |1,2,_,_=>decide +kernel
 |1,3,_,_=>decide +kernel
 |1,4,_,_=>decide +kernel
 |2,1,_,_=>decide +kernel
 |2,2,_,_=>decide +kernel
 |2,3,_,_=>decide +kernel
 |2,4,_,_=>decide +kernel
 |3,1,_,_=>decide +kernel
 |3,2,_,_=>decide +kernel
 |3,3,_,_=>decide +kernel
 |3,4,_,_=>decide +kernel
 |4,1,_,_=>decide +kernel
 |4,2,_,_=>decide +kernel
 |4,3,_,_=>decide +kernel
 |4,4,_,_=>decide +kernel
theorem M_:∀a b:List Nat,(∀c∈a,dig c)->(∀c∈b,dig c)->a.length=b.length->lexK (a.map mkK) (b.map mkK)=decide (code a<code b)
 |[],[],_,_,_=>by decide
 |[],_::_,_,_,h=>nomatch h
 |_::_,[],_,_,h=>nomatch h
 | c :: a, d :: b, ha, hb, hl => by
  have hl':a.length=b.length:=by simpa using hl
  have ha':=λx hx=>ha x (B4 c hx);have hb':=λx hx=>hb x (B4 d hx);have ih:=M_ a b ha' hb' hl';obtain⟨k1,k2⟩:=TB (ha c B2) (hb d B2);have la:=Jf a ha';have lb:=Jf b hb';rw[<- hl'] at lb;show(if mkK c=mkK d then lexK (a.map mkK) (b.map mkK) else J3 (mkK c) (mkK d))=decide (c*8 ^ a.length+code a<d*8 ^ b.length+code b);rw[<- hl'];generalize 8 ^ a.length=p at *
  by_cases e:c=d
  ·subst e;rw[jt rfl,ih];refine decide_eq_decide.mpr ⟨λh=>by omega,λh=>by omega⟩
  ·have e':¬mkK c=mkK d:=λz=>by
    rw[jq z] at k1;exact e (jv k1.symm)
   rw[ju e',k2];refine decide_eq_decide.mpr ⟨λh=>?_,λh=>?_⟩
   ·have:(c+1)*p<=d*p:=Bf p h;rw[De] at this;omega
   ·rcases Nat.lt_or_ge c d with z|z
    ·exact z
    ·have z':d+1<=c:=by omega
     have:(d+1)*p<=c*p:=Bf p z';rw[De] at this;omega
theorem al_wd:∀a b:List Nat,Al (a.map mkK) (b.map mkK)
 |[],[]=>trivial
 |[],_::_=>trivial
 |_::_,[]=>trivial
 |_::a,_::b=>al_wd a b
theorem mk_kP (w:List Nat):w.map mcP=(w.map mkK).map kP:=by rw[D8];rfl
theorem TC {W:List (List Nat)}(h:∀w∈W,w≠[]):FF (W.map wdP):=by
 refine .inr (.inr ⟨λx hx=>?_,λx hx y hy=>?_⟩)
 ·obtain⟨w,hw,rfl⟩:=C0.mp hx;refine⟨w.map mkK,by unfold wdP;rw[mk_kP],λe=>?_⟩;exact h w hw (List.map_eq_nil_iff.mp e)
 ·obtain⟨w,hw,rfl⟩:=C0.mp hx;obtain⟨v,hv,rfl⟩:=C0.mp hy;rw[Je,Je];exact al_wd w v
def atB (b i:Nat):Nat:=(b >>> (21*i))%2097152
def ltB (b i j:Nat):Bool:=Nat.blt (atB b i) (atB b j)
theorem ltB_ok {W:List (List Nat)}{m b:Nat}(hd:∀w∈W,w.length=m/\∀c∈w,dig c)(hb:∀i,i<W.length->atB b i=code (W.getD i [])):∀i j,i<W.length->j<W.length->ltB b i j=ltIx ((W.map wdP).map keyP) i j:=by
 intro i j hi hj
 have g:∀k,k<W.length->((W.map wdP).map keyP).getD k []=(W.getD k []).map mkK/\W.getD k []∈W:=λk hk=>by
  rw[D8,G6,G6,C6,C4 hk];exact⟨Je _,Av hk⟩
 unfold ltIx ltB;rw[(g i hi).1,(g j hj).1,hb i hi,hb j hj];have h1:=hd _ (g i hi).2;have h2:=hd _ (g j hj).2;rw[M_ _ _ h1.2 h2.2 (h1.1.trans h2.1.symm)];generalize code (W.getD i [])=x;generalize code (W.getD j [])=y;cases e:Nat.blt x y with
 |true=>exact(jq (Nat.le_of_ble_eq_true e)).symm
 |false=>exact(jr λz=>by rw[show Nat.blt x y=true from Nat.ble_eq_true_of_le z] at e;cases e).symm
def low (m:Nat)(w:List Nat):Prop:=w.length=m/\∀c∈w,c<8
theorem Gm:∀w:List Nat,(∀c∈w,c<8)->code w<8 ^ w.length
 |[],_=>by decide
 | c :: w, h => by
  have h1:=Gm w λd hd=>h d (B4 _ hd);have h2:=h c B2;show c*8 ^ w.length+code w<8 ^ (w.length+1);rw[BS];generalize 8 ^ w.length=p at *;have:c*p<=7*p:=Bf p (by omega);omega
theorem Na:∀(m:Nat) (a b:List Nat),low m a->low m b->code a=code b->a=b
 |_,[],[],_,_,_=>rfl
 |m,[],d::b,ha,hb,_=>by have:=ha.1.trans hb.1.symm;cases this
 |m,c::a,[],ha,hb,_=>by have:=ha.1.trans hb.1.symm;cases this
 | m, c :: a, d :: b, ha, hb, e => by
  have l1:a.length=b.length:=by have:=ha.1.trans hb.1.symm;simpa using this
  have ha':low a.length a:=⟨rfl,λx hx=>ha.2 x (B4 _ hx)⟩;have hb':low a.length b:=⟨l1.symm,λx hx=>hb.2 x (B4 _ hx)⟩;have k1:=Gm a ha'.2;have k2:=Gm b hb'.2;rw[<- l1] at k2;have e':c*8 ^ a.length+code a=d*8 ^ b.length+code b:=e;rw[<- l1] at e'
  have hcd:c=d:=by
   generalize 8 ^ a.length=p at *;rcases y0 c d with z|z|z
   ·have:(c+1)*p<=d*p:=Bf p z;rw[De] at this;omega
   ·exact z
   ·have:(d+1)*p<=c*p:=Bf p z;rw[De] at this;omega
  subst hcd;have e2:code a=code b:=by omega
  rw[Na a.length a b ha' hb' e2]
theorem long5 {si:List Nat}{r:Nat}{cl sh:List (List (List Nat))}(hr:5<=r)(hl:sh.length<=7):W9 si r cl sh=W9 si 5 cl sh:=by
 unfold W9;rw[show min (r+1) (sh.length-1)=min (5+1) (sh.length-1) by omega]
theorem cls5 {r:Nat}(hr:5<=r):∀k,k<=7->cls r k=cls 5 k
 |0,_=>rfl
 | k + 1, h => by
  have l:=Gj 5 k;rw[cls,cls,cls5 hr k (by omega),long5 hr (by omega)]
theorem wss5 {r:Nat}(hr:5<=r):∀k,k<=7->wss r k=wss 5 k
 |0,_=>rfl
 | k + 1, h => by
  have l:=Gk 5 k;rw[wss,wss,wss5 hr k (by omega),cls5 hr (k+1) (by omega),long5 hr (by omega)]
def okB (L:List (List (List Nat))):Bool:=L.all λl=>!l.isEmpty&&decide (l.length<=1000)&&l.all λw=>decide (w.length<=10)
theorem Gn {L:List (List (List Nat))}(h:okB L=true):OkW L:=λl hl=>by
 have:=E9.mp h l hl;simp only[b9,E9,decide_eq_true_eq,Bool.not_eq_true',List.isEmpty_eq_false_iff] at this;exact⟨this.1.1,this.1.2,this.2⟩
noncomputable def M3 (r:Nat):Nat->Nat->List Nat->List (List Mk)
 |0,_,[]=>[[]]
 |0,_,_::_=>[]
 |m+1,k,[]=>(M3 r m (k+1) []).map (Mk.d::·)++((M3 r m (k+1) []).map (Mk.o::·)++(M3 r m (k+1) [k]).map (Mk.t::·))
 |m+1,k,p::s=>(M3 r m (k+1) (p::s)).map (Mk.d::·)++((M3 r m (k+1) (k::p::s)).map (Mk.t::·)++if k<=r+p+1 then(M3 r m (k+1) s).map (Mk.u::·) else [])
theorem CJ {m x:Mk}{w:List Mk}{L:List (List Mk)}:x::w∈L.map (m::·)↔x=m/\w∈L:=by
 rw[C0];exact⟨λ⟨a,h,e⟩=>by cases e;exact⟨rfl,h⟩,λ⟨e,h⟩=>⟨w,h,by rw[e]⟩⟩
theorem CK {m:Mk}{L:List (List Mk)}:[]∈L.map (m::·)↔False:=by
 rw[C0];exact⟨λ⟨a,h,e⟩=>(by cases e),d7⟩
theorem w5 {r:Nat}:∀(m k:Nat) (st:List Nat) (w:List Mk),w∈M3 r m k st↔w.length=m/\run (r:Int) k st w=some []
 | 0, k, [], w => by
  show w∈[[]]↔_;rw[J6];exact⟨λe=>by rw[e];exact⟨rfl,rfl⟩,λh=>List.length_eq_zero_iff.mp h.1⟩
 | 0, k, p :: s, w => by
  show w∈[]↔_;refine⟨λh=>absurd h k8,λh=>?_⟩;have e:=List.length_eq_zero_iff.mp h.1;rw[e] at h;cases h.2
 | m + 1, k, [], w => by
  have i0:=w5 (r:=r) m (k+1) [];have i1:=w5 (r:=r) m (k+1) [k];show w∈_++(_++_)↔_;rw[K6,K6];cases w with
  | nil =>
   rw[CK,CK,CK];exact⟨λh=>(by rcases h with h|h|h <;> exact h.elim),λh=>(by cases h.1)⟩
  | cons x w =>
   rw[CJ,CJ,CJ,i0,i1,D2,Nat.add_right_cancel_iff];cases x with
   |d=>exact⟨λh=>(by rcases h with h|h|h <;> first|exact h.2|cases h.1),λh=>.inl ⟨rfl,h⟩⟩
   |o=>exact⟨λh=>(by rcases h with h|h|h <;> first|exact h.2|cases h.1),λh=>.inr (.inl ⟨rfl,h⟩)⟩
   |t=>exact⟨λh=>(by rcases h with h|h|h <;> first|exact h.2|cases h.1),λh=>.inr (.inr ⟨rfl,h⟩)⟩
   |u=>exact⟨λh=>(by rcases h with h|h|h <;> cases h.1),λh=>(by cases h.2)⟩
 | m + 1, k, p :: s, w => by
  have i0:=w5 (r:=r) m (k+1) (p::s);have i1:=w5 (r:=r) m (k+1) (k::p::s);have i2:=w5 (r:=r) m (k+1) s;show w∈_++(_++if k<=r+p+1 then _ else _)↔_;rw[K6,K6];cases w with
  | nil =>
   rw[CK,CK];refine⟨λh=>?_,λh=>by cases h.1⟩;rcases h with h|h|h
   ·exact h.elim
   ·exact h.elim
   ·split at h
    ·exact(CK.mp h).elim
    ·exact absurd h k8
  | cons x w =>
   rw[CJ,CJ,i0,i1,D2,Nat.add_right_cancel_iff]
   have hu:(x::w∈if k<=r+p+1 then(M3 r m (k+1) s).map (Mk.u::·) else [])↔x=.u/\k<=r+p+1/\w.length=m/\run (r:Int) (k+1) s w=some []:=by
    by_cases c:k<=r+p+1
    ·rw[jt c,CJ,i2];exact⟨λ⟨a,b⟩=>⟨a,c,b⟩,λ⟨a,_,b⟩=>⟨a,b⟩⟩
    ·rw[ju c];exact⟨λh=>absurd h k8,λh=>absurd h.2.1 c⟩
   rw[hu];cases x with
   |d=>exact⟨λh=>(by rcases h with h|h|h <;> first|exact h.2|cases h.1),λh=>.inl ⟨rfl,h⟩⟩
   |o=>exact⟨λh=>(by rcases h with h|h|h <;> cases h.1),λh=>(by cases h.2)⟩
   |t=>exact⟨λh=>(by rcases h with h|h|h <;> first|exact h.2|cases h.1),λh=>.inr (.inl ⟨rfl,h⟩)⟩
   | u =>
    have eu:run (r:Int) k (p::s) (.u::w)=if(k:Int)-p-1<=r then run (r:Int) (k+1) s w else none:=rfl;rw[eu];refine⟨λh=>?_,λh=>.inr (.inr ?_)⟩
    ·rcases h with h|h|h
     ·cases h.1
     ·cases h.1
     ·rw[jt (by omega)];exact h.2.2
    ·by_cases c:(k:Int)-p-1<=r
     ·rw[jt c] at h;exact⟨rfl,by omega,h⟩
     ·rw[ju c] at h;cases h.2
def cd:Mk->Nat
 |.d=>1
 |.o=>2
 |.t=>3
 |.u=>4
theorem mc_cd (m:Mk):mcP (cd m)=mkP m:=by cases m <;> rfl
theorem cd_dig (m:Mk):dig (cd m):=by cases m <;> exact⟨by decide,by decide⟩
def wP (w:List Mk):PV:=.tup (w.map mkP)
theorem wd_cd (w:List Mk):wdP (w.map cd)=wP w:=by
 unfold wdP wP;rw[D8];exact congrArg PV.tup (At λm _=>mc_cd m)
def BA (r m:Nat):List Nat:=(M3 r m 0 []).map λw=>code (w.map cd)
theorem Nb {m:Nat}:∀l1 l2:List (List Nat),(∀w∈l1,low m w)->(∀w∈l2,low m w)->l1.map code=l2.map code->l1=l2
 |[],[],_,_,_=>rfl
 |[],_::_,_,_,h=>nomatch h
 |_::_,[],_,_,h=>nomatch h
 | a :: l1, b :: l2, h1, h2, h => by
  rw[J8,J8] at h;obtain⟨e1,e2⟩:=List.cons.inj h;rw[Na m a b (h1 a B2) (h2 b B2) e1,Nb l1 l2 (λw hw=>h1 w (B4 _ hw)) (λw hw=>h2 w (B4 _ hw)) e2]
def okL (m:Nat)(L:List (List Nat)):Bool:=L.all λw=>(w.length == m)&&w.all λc=>decide (1<=c)&&decide (c<=4)
def pk:List (List Nat)->Nat
 |[]=>0
 |w::l=>code w+pk l*2097152
theorem at_pk:∀(L:List (List Nat)),(∀w∈L,code w<2097152)->∀i,i<L.length->atB (pk L) i=code (L.getD i [])
 | w :: l, h, 0, _ => by
  have:=h w B2;show((code w+pk l*2097152) >>> 0)%2097152=code w;rw[Nat.shiftRight_zero];omega
 | w :: l, h, i + 1, hi => by
  have c:=h w B2;have ih:=at_pk l (λv hv=>h v (B4 _ hv)) i (by simpa using hi);show((code w+pk l*2097152) >>> (21*(i+1)))%2097152=code (l.getD i []);rw[<- ih];unfold atB;rw[show 21*(i+1)=21+21*i by omega,Nat.shiftRight_add,Nat.shiftRight_eq_div_pow (code w+pk l*2097152) 21,show(code w+pk l*2097152)/2 ^ 21=pk l by omega]
def chk (m:Nat)(L:List (List Nat))(cs:List Nat):Bool:=okL m L&&decide (2<=L.length)&&match Tm.tsort (ltB (pk L)) L.length with
 |none=>false
 |some ps=>(ps.length == L.length)&&ps.all (λi=>decide (i<L.length))&&(ps.map (atB (pk L)) == cs)
def Jg (r m:Nat):Prop:=∀(n:Nat) (R:PV->Nat->Prop),R (.tup ((M3 r m 0 []).map wP)) n->FX [.int m,.int r] n R
theorem Nc {r m q:Nat}(h1:1<=m)(h7:m<=7)(oc:OkW (cls r 7))(ow:OkW (wss r 7))(hc:chk m ((wss r m).getD m []) (BA q m)=true)(hq:BA r m=BA q m):Jg r m:=by
 rw[<- hq] at hc;generalize hW:(wss r m).getD m []=W at hc;unfold chk okL at hc;simp only[b9,beq_iff_eq,E9,decide_eq_true_eq] at hc;obtain⟨⟨mem,l2⟩,hc⟩:=hc;have lo:∀w∈W,low m w:=λw hw=>⟨(mem w hw).1,λc hc=>by have:=(mem w hw).2 c hc;omega⟩
 have ap:=at_pk W λw hw=>by
  have:=Gm w (lo w hw).2;rw[(lo w hw).1] at this;exact G0 this (x8 (by decide) h7)
 have gm:∀i,i<W.length->W.getD i []∈W:=λi hi=>by rw[G6,C4 hi];exact Av hi
 cases ht:Tm.tsort (ltB (pk W)) W.length with
 |none=>rw[ht] at hc;cases hc
 | some ps =>
  rw[ht] at hc;simp only[b9,beq_iff_eq,E9,decide_eq_true_eq] at hc;obtain⟨⟨c1,c2⟩,c3⟩:=hc;intro n R q
  have eL:(ps.map λi=>W.getD i [])=(M3 r m 0 []).map (·.map cd):=by
   refine Nb (m:=m) _ _ (λw hw=>?_) (λw hw=>?_) ?_
   ·obtain⟨i,hi,rfl⟩:=C0.mp hw;exact lo _ (gm i (c2 i hi))
   ·obtain⟨v,hv,rfl⟩:=C0.mp hw;refine⟨by rw[A9];exact((w5 m 0 [] v).mp hv).1,λc hc=>?_⟩;obtain⟨x,_,rfl⟩:=C0.mp hc;have:=(cd_dig x).2;omega
   ·rw[D8,D8];unfold BA at c3;rw[show J9 (code∘λw=>J9 cd w) (M3 r m 0 [])=(M3 r m 0 []).map λw=>code (w.map cd) from rfl,<- c3];exact At λi hi=>(ap i (c2 i hi)).symm
  refine m_all r m h7 h1 oc ow hW l2 (TC λw hw e=>by have:=(lo w hw).1;rw[e] at this;simp at this;omega) (lt:=ltB (pk W)) (ps:=ps) (ltB_ok (λw hw=>⟨(mem w hw).1,(mem w hw).2⟩) ap) ht c1 c2 ?_
  have e:(ps.map λi=>wdP (W.getD i []))=(M3 r m 0 []).map wP:=by
   rw[show(ps.map λi=>wdP (W.getD i []))=(ps.map λi=>W.getD i []).map wdP by rw[D8];rfl,eL,D8];exact At λw _=>wd_cd w
  rw[e];exact q
end Tb
end
section
namespace Tb
open PySem L2 Pu
theorem okCW:∀r,r<6->okB (cls r 7)=true/\okB (wss r 7)=true:=by decide +kernel
theorem okX:∀r,r<6->∀m,m<7->chk (m+1) ((wss r (m+1)).getD (m+1) []) (BA r (m+1))=true:=by decide +kernel
theorem okQ:∀r,r<8->∀m,m<7->5<=r->BA r (m+1)=BA 5 (m+1):=by decide +kernel
theorem words (m r:Nat)(h1:1<=m)(h7:m<=7)(hr:r<8):Jg r m:=by
 obtain⟨k,rfl⟩:∃k,m=k+1:=⟨m-1,by omega⟩
 by_cases c:r<6
 ·exact Nc (by omega) h7 (Gn (okCW r c).1) (Gn (okCW r c).2) (okX r c k (by omega)) rfl
 ·exact Nc (q:=5) (by omega) h7 (by rw[cls5 (by omega) 7 (by decide)];exact Gn (okCW 5 (by decide)).1) (by rw[wss5 (by omega) 7 (by decide)];exact Gn (okCW 5 (by decide)).2) (by rw[wss5 (by omega) _ h7];exact okX 5 (by decide) k (by omega)) (okQ r hr k (by omega) (by omega))
def MKS:List Mk:=[.u,.t,.d,.o]
theorem mks_at {j:Nat}{x:PV}(h:[mkP .u,mkP .t,mkP .d,mkP .o][j]?=some x):∃m,x=mkP m/\MKS[j]?=some m/\j<4:=by
 rw[show [mkP .u,mkP .t,mkP .d,mkP .o]=MKS.map mkP from rfl,C6] at h;cases e:MKS[j]? with
 |none=>rw[e] at h;cases h
 | some m =>
  rw[e] at h;cases h;exact⟨m,rfl,rfl,(E1.mp e).1⟩
abbrev Sw:=List Mk×List Nat
def encE (p:Sw):PV:=.tup [.tup (p.1.map mkP),.lst (p.2.map pin)]
open Classical in
noncomputable def stE (r:Int) (many i:Nat) (p:Sw) (m:Mk):List Sw:=match opn r p.2 i m with
 |none=>[]
 |some O'=>if clo r O' (i+1) many then [(p.1++[m],O')] else []
theorem Nd {r:Int}{many i:Nat}{p:Sw}{m:Mk}:(stE r many i p m).length<=1:=by
 unfold stE
 split
 ·exact D5 _
 ·split
  ·exact B3 _
  ·exact D5 _
theorem BB {α β:Type}{c:Nat}{f:α->List β}:∀(xs:List α),(∀x∈xs,(f x).length<=c)->(xs.flatMap f).length<=c*xs.length
 |[],_=>D5 _
 | x :: xs, h => by
  rw[Au,D7,D2,Nat.mul_succ];have:=h x B2;have:=BB xs λy hy=>h y (B4 _ hy);omega
theorem Jh {α β:Type}{f:α->List β}{xs:List α}{i:Nat}{x:α}(h:xs[i]?=some x):(xs.take (i+1)).flatMap f=(xs.take i).flatMap f++f x:=by
 rw[Aw,h];simp
noncomputable def nxE (r:Int) (many i:Nat) (p:Sw):List Sw:=MKS.flatMap (stE r many i p)
noncomputable def evE (r:Int) (many:Nat):Nat->List Sw
 |0=>[([],[])]
 |i+1=>(evE r many i).flatMap (nxE r many i)
theorem Nf {r:Int}{many i:Nat}{p:Sw}:(nxE r many i p).length<=4:=BB MKS λ_ _=>Nd
theorem Go {r:Int}{many:Nat}:∀i,(evE r many i).length<=4 ^ i
 |0=>B3 _
 | i + 1 => by
  have:=Go (r:=r) (many:=many) i;have:=BB (c:=4) (evE r many i) λp _=>Nf (r:=r) (many:=many) (i:=i) (p:=p);rw[BS];show((evE r many i).flatMap _).length<=_;omega
theorem Ng {r:Int}{many i:Nat}{p q:Sw}{m:Mk}:q∈stE r many i p m↔q.1=p.1++[m]/\opn r p.2 i m=some q.2/\clo r q.2 (i+1) many:=by
 unfold stE
 split
 ·rename_i e;rw[e];exact⟨nofun,λh=>nomatch h.2.1⟩
 ·rename_i O' e;rw[e]
  split
  ·rename_i c;rw[J6];exact⟨λh=>by subst h;exact⟨rfl,rfl,c⟩,λ⟨h1,h2,_⟩=>by cases h2;exact Prod.ext h1 rfl⟩
  ·rename_i c;exact⟨nofun,λ⟨_,h2,h3⟩=>by cases h2;exact absurd h3 c⟩
theorem Ji {r:Int}{many:Nat}:∀i,∀p∈evE r many i,p.1.length=i/\run r 0 [] p.1=some p.2.reverse/\p.2.length<=i/\(i≠0->clo r p.2 i many)
 | 0, p, h => by
  rw[show evE r many 0=[([],[])] from rfl,J6] at h;subst h;exact⟨rfl,rfl,B3 _,λz=>absurd rfl z⟩
 | i + 1, p, h => by
  obtain⟨q,hq,h⟩:=X9.mp (show p∈(evE r many i).flatMap (nxE r many i) from h);obtain⟨m,_,h⟩:=X9.mp (show p∈MKS.flatMap (stE r many i q) from h);obtain⟨h1,h2,h3⟩:=Ng.mp h;obtain⟨q1,q2,q3,_⟩:=Ji i q hq;refine⟨by rw[h1,D7,q1];rfl,by rw[h1];exact MB q2 q1 h2,?_,λ_=>h3⟩;have:=IZ h2;omega
theorem TD {r:Int}{many n:Nat}{R:PV->Nat->Prop}(hm:many<=7)(h:R (.lst ((evE r many many).map fun p=>.tup (p.1.map mkP))) n):Iw [.int (many:Int),.int r] n R:=by
 refine⟨rfl,?_⟩;unfold Iv;walk_at "p2";refine⟨⟨by omega,by omega⟩,?_⟩;refine R8 (λi env m=>∃(s4 s5 s6 s7 s8 s3:Option Slot),env=[some (.v (.int (many:Int))),some (.v (.int r)),some (.v (.lst ((evE r many i).map encE))),s3,s4,s5,s6,s7,s8]/\n=m) _ 0 _ _ ⟨_,_,_,_,_,_,rfl,rfl⟩ (λi x env m N ex hI hN=>?_) (λenv m hI=>?_)
 ·obtain⟨s4,s5,s6,s7,s8,s3,rfl,rfl⟩:=hI;obtain⟨hi,rfl⟩:=Co ex;rw[P7] at hi;rw[E2] at hN;simp only[Bg,E2];have le:=Go (r:=r) (many:=many) i;have l4:4 ^ i<=4 ^ 6:=x8 (by decide) (by omega);have ok:=Ji (r:=r) (many:=many) i;have nx:(evE r many (i+1))=(evE r many i).flatMap (nxE r many i):=rfl;rw[nx] at hN;generalize evE r many i=E at *;generalize eE:E.map encE=EP;walk_at "p2";refine R8 (λk env m=>∃(s5 s6 s7 s8:Option Slot),env=[some (.v (.int (many:Int))),some (.v (.int r)),some (.v (.lst EP)),some (.v (.int (i:Int))),some (.own (((E.take k).flatMap (nxE r many i)).map encE)),s5,s6,s7,s8]/\n=m) _ 0 _ _ ⟨_,_,_,_,rfl,rfl⟩ (λk x env m N' ex' hJ hN'=>?_) (λenv m hJ=>?_)
  ·obtain⟨s5,s6,s7,s8,rfl,rfl⟩:=hJ;rw[E2] at hN';rw[<- eE,C6] at ex';cases ek:E[k]? with
   |none=>rw[ek] at ex';cases ex'
   | some p =>
    rw[ek] at ex';cases ex';obtain⟨p1,p2,p3,_⟩:=ok p (J5 ek);have lk:k<E.length:=(E1.mp ek).1
    have la:((E.take k).flatMap (nxE r many i)).length<=4*k:=by
     have:=BB (c:=4) (E.take k) λp _=>Nf (r:=r) (many:=many) (i:=i) (p:=p);rw[M6] at this;omega
    rw[Jh ek] at hN';rw[E2];unfold nxE at hN' la ⊢;generalize (E.take k).flatMap (λp=>MKS.flatMap (stE r many i p))=A at *;rw[show encE p=.tup [.tup (p.1.map mkP),.lst (p.2.map pin)] from rfl];generalize eM:p.1.map mkP=M;generalize eO:p.2.map pin=OP;walk_at "p2";refine R8 (λj env m=>∃(s7 s8:Option Slot),env=[some (.v (.int (many:Int))),some (.v (.int r)),some (.v (.lst EP)),some (.v (.int (i:Int))),some (.own ((A++(MKS.take j).flatMap (stE r many i p)).map encE)),some (.v (.tup M)),some (.v (.lst OP)),s7,s8]/\n=m) _ 0 _ _ ⟨_,_,(by rw[List.take_zero,List.flatMap_nil,T6]),rfl⟩ (λj x env m N2 ex2 hK hN2=>?_) (λenv m hK=>?_)
    ·obtain⟨s7,s8,rfl,rfl⟩:=hK;rw[E2] at hN2;obtain⟨mk,rfl,ej,j4⟩:=mks_at ex2;rw[E2];rw[Jh ej,<- Z9] at hN2
     have lb:((MKS.take j).flatMap (stE r many i p)).length<=4:=by
      have:=BB (c:=1) (MKS.take j) λm _=>Nd (r:=r) (many:=many) (i:=i) (p:=p) (m:=m);rw[M6] at this;have:MKS.length=4:=rfl;omega
     have lA:(A++(MKS.take j).flatMap (stE r many i p)).length<=1000000-1:=by rw[D7];omega
     generalize A++(MKS.take j).flatMap (stE r many i p)=B at *;generalize eB:B.map encE=BP;have lB:BP.length<1000000:=by rw[<- eB,A9];omega
     have no:stE r many i p mk=[]->∀s7 s8,N2 [some (.v (.int (many:Int))),some (.v (.int r)),some (.v (.lst EP)),some (.v (.int (i:Int))),some (.own BP),some (.v (.tup M)),some (.v (.lst OP)),s7,s8] n:=λz s7 s8=>hN2 _ _ ⟨_,_,by rw[z,T6,eB],rfl⟩;walk_at "p2";rw[<- eO];refine MA (by omega) ?_;cases eo:opn r p.2 i mk with
     | none =>
      refine if_f rfl ?_;rw[eO];exact no (by unfold stE;rw[eo]) _ _
     | some O' =>
      refine if_t rfl ?_;have lo:=IZ eo;show CD [PV.lst (O'.map pin),PV.int ((i:Int)+1),PV.int (many:Int),PV.int r] n _;rw[show((i:Int)+1)=((i+1:Nat):Int) by omega]
      by_cases c:clo r O' (i+1) many
      ·refine Gc (by omega) true ⟨λ_=>c,λ_=>rfl⟩ ?_;refine if_t rfl ⟨⟨_,rfl⟩,by rw[<- eM,A9];omega,lB,?_⟩;rw[eO]
       have eS:(B++stE r many i p mk).map encE=BP++[.tup [.tup (M++[mkP mk]),oP (some O')]]:=by
        rw[show stE r many i p mk=[(p.1++[mk],O')] by unfold stE;rw[eo];exact jt c,J7,eB,<- eM];show BP++[PV.tup [.tup ((p.1++[mk]).map mkP),_]]=_;rw[J7]
        rfl
       exact hN2 _ _ ⟨_,_,by rw[eS],rfl⟩
      ·refine Gc (by omega) false ⟨(λz=>nomatch z),λz=>absurd z c⟩ ?_;refine if_f rfl ?_;rw[eO];exact no (by unfold stE;rw[eo];exact ju c) _ _
    ·obtain⟨s7,s8,rfl,rfl⟩:=hK
     change N' [_,_,_,_,some (.own ((A++MKS.flatMap (stE r many i p)).map encE)),_,_,_,_] n
     exact hN' _ _ ⟨_,_,_,_,rfl,rfl⟩
  ·obtain⟨s5,s6,s7,s8,rfl,rfl⟩:=hJ;walk_at "p2";rw[show E.take (0+EP.length)=E by rw[E2,<- eE,A9,x4]];exact hN _ _ ⟨_,_,_,_,_,_,rfl,rfl⟩
 ·obtain⟨s4,s5,s6,s7,s8,s3,rfl,rfl⟩:=hI;rw[Ah];simp only[P7,E2,Nat.sub_zero];walk_at "p2";have le:=Go (r:=r) (many:=many) many;have l4:4 ^ many<=4 ^ 7:=x8 (by decide) (by omega);refine⟨by rw[A9];omega,?_⟩;refine Bs (λp:Sw=>.tup (p.1.map mkP)) (λp=>.lst (p.2.map pin)) (λp=>.tup (p.1.map mkP)) _ _ _ _ _ (λp hp m Q q=>?_) h;generalize PV.tup (p.1.map mkP)=x at *;walk_at "p2";exact q
theorem Gp {r:Int}:∀(ws:List Mk) (k:Nat) (st:List Nat),run r k st ws=some []->st.length<=ws.length/\∀(j a:Nat),st[j]?=some a->((k+j:Nat):Int)-a-1<=r
 | [], k, st, h => by
  have:st=[]:=F6 h;subst this;exact⟨B3 _,λj a e=>by simp at e⟩
 | .t :: ws, k, st, h => by
  obtain⟨h1,h2⟩:=Gp ws (k+1) (k::st) h;rw[D2] at h1;exact⟨by rw[D2];omega,λj a e=>by have:=h2 (j+1) a (by simpa using e);omega⟩
 | .d :: ws, k, st, h => by
  obtain⟨h1,h2⟩:=Gp ws (k+1) st h;exact⟨by rw[D2];omega,λj a e=>by have:=h2 j a e;omega⟩
 | .o :: ws, k, st, h => by
  cases st with
  |nil=>exact⟨D5 _,λj a e=>by simp at e⟩
  |cons p st=>cases h
 | .u :: ws, k, st, h => by
  cases st with
  |nil=>cases h
  | cons p st =>
   by_cases c:(k:Int)-p-1<=r
   ·obtain⟨h1,h2⟩:=Gp (r:=r) ws (k+1) st (by simpa[Pu.run,c] using h);refine⟨by rw[D2,D2];omega,λj a e=>?_⟩;cases j with
    |zero=>simp at e;omega
    |succ j=>have:=h2 j a (by simpa using e);omega
   ·simp[Pu.run,c] at h
theorem TF {r:Int}{O st:List Nat}{i:Nat}{m:Mk}(h:Pu.run r i O.reverse [m]=some st):opn r O i m=some st.reverse:=by
 rcases Gd O with rfl|⟨P,a,rfl⟩
 ·cases m with
  |t=>cases h;rfl
  |d=>cases h;rfl
  |o=>cases h;rfl
  |u=>cases h
 ·rw[Es] at h;have ne:P++[a]≠[]:=by simp
  cases m with
  |t=>cases h;simp[opn]
  |d=>cases h;simp[opn]
  |o=>cases h
  | u =>
   by_cases c:(i:Int)-a-1<=r
   ·have:st=P.reverse:=by simpa[Pu.run,c,eq_comm] using h
    subst this;simp[opn,c]
   ·simp[Pu.run,c] at h
theorem Nh {r:Int}{many:Nat}{w:List Mk}(hl:w.length=many)(h:Pu.run r 0 [] w=some []):∀i,i<=many->∃O,(w.take i,O)∈evE r many i/\Pu.run r 0 [] (w.take i)=some O.reverse
 |0,_=>⟨[],J6.mpr rfl,rfl⟩
 | i + 1, hi => by
  obtain⟨O,hO,hr⟩:=Nh hl h i (by omega);obtain⟨m,em⟩:∃m,w[i]?=some m:=⟨_,C4 (by omega)⟩;have et:w.take (i+1)=w.take i++[m]:=by rw[Aw,em];rfl
  have lt:(w.take i).length=i:=by rw[M6];omega
  have h':=h;rw[<- Gv (i+1) w,Z5] at h';cases es:Pu.run r 0 [] (w.take (i+1)) with
  |none=>rw[es] at h';cases h'
  | some st =>
   rw[es] at h';have es':=es;rw[et,Z5,hr] at es';have op:=TF (r:=r) (i:=i) (by rw[<- lt];simpa using es');obtain⟨c1,c2⟩:=Gp _ _ st h';rw[Bd] at c1;have lt':(w.take (i+1)).length=i+1:=by rw[M6];omega
   refine⟨st.reverse,X9.mpr ⟨_,hO,X9.mpr ⟨m,by cases m <;> decide,Ng.mpr ⟨et,op,by rw[w9];omega,λj a e=>?_⟩⟩⟩,by rw[List.reverse_reverse]⟩
   rw[List.reverse_reverse] at e;have:=c2 j a e;rw[lt'] at this;omega
noncomputable def evW (r:Int) (many:Nat):List (List Mk):=(evE r many many).map (·.1)
theorem Jj {r:Int}{many:Nat}{w:List Mk}:w∈evW r many↔w.length=many/\Pu.run r 0 [] w=some []:=by
 constructor
 ·intro h;obtain⟨p,hp,rfl⟩:=C0.mp h;obtain⟨h1,h2,h3,h4⟩:=Ji many p hp;refine⟨h1,?_⟩
  have:p.2=[]:=by
   by_cases c:many=0
   ·exact w8 (by omega)
   ·exact w8 (by have:=(h4 c).1;omega)
  rw[h2,this];rfl
 ·rintro⟨h1,h2⟩;obtain⟨O,hO,_⟩:=Nh h1 h2 many (B3 _);rw[<- h1,x4,h1] at hO;exact C0.mpr ⟨_,hO,rfl⟩
end Tb
end
section
namespace Tb
open PySem L2 Pu
section
variable {zs:List Str}{ts bs:List PV}{n:Nat}{R:PV->Nat->Prop}
def rowW (zs:List Str)(w:List Mk):List Str:=aft zs (evT zs w w.length)
def fitW (zs:List Str)(ts bs:List PV)(w:List Mk):Bool:=agB ts (w.map mkP)&&agB bs ((rowW zs w).map PV.str)
theorem TH {r:Int}{ms:List Mk}(c:ms.length=zs.length)(h1:1<=zs.length)(h24:zs.length<=24)(nd:zs.Nodup)(hrun:Pu.run r 0 [] ms=some [])(t1:∀t∈ts,TnP t)(t2:∀t∈bs,TnP t)(l1:ts.length<=1000)(l2:bs.length<=1000)(h:R (.bl (fitW zs ts bs ms)) n):IS [rowP zs,.int r,.tup [.tup ts,.tup bs],.tup (ms.map mkP)] n R:=by
 refine⟨rfl,?_⟩;unfold IR;have Zl:(zs.map PV.str).length=zs.length:=A9 ..;have Ml:(ms.map mkP).length=ms.length:=A9 ..;have ms2:=MK ms;have rs2:=MJ (aft zs (evT zs ms ms.length));have hw:=λn (R:PV->Nat->Prop)=>Tj (r:=r) (ms:=ms) (n:=n) (R:=R) (by omega) (by omega) hrun;unfold fitW rowW at h;generalize hM:ms.map mkP=M at Ml ms2 hw h;unfold rowP;generalize hZ:zs.map PV.str=Z at Zl;walk_at "p2";refine hw _ _ (if_f rfl (if_f (by rw[jq (by omega)];rfl) ?_));refine MI t1 ms2 l1 ?_;cases e:agB ts M with
 | false =>
  rw[e,O8] at h;exact h
 | true =>
  rw[e,R1] at h;rw[<- hZ,<- hM];refine MH (r:=r) c h24 nd hrun ?_;exact MI t2 rs2 l2 h
theorem BC {r:Nat}:∀(m k:Nat) (st:List Nat),(M3 r m k st).length<=3 ^ m
 |0,_,[]=>B3 _
 |0,_,_::_=>D5 _
 | m + 1, k, [] => by
  have h1:=BC (r:=r) m (k+1) [];have h2:=BC (r:=r) m (k+1) [k];rw[BS];simp only[M3,D7,A9];omega
 | m + 1, k, p :: s => by
  have h1:=BC (r:=r) m (k+1) (p::s);have h2:=BC (r:=r) m (k+1) (k::p::s);have h3:=BC (r:=r) m (k+1) s;rw[BS];simp only[M3,D7,A9]
  split
  ·rw[A9];omega
  ·rw[U8];omega
def fitL (r:Nat)(zs:List Str)(ts bs:List PV):List (List Mk):=(M3 r zs.length 0 []).filter (fitW zs ts bs)
theorem TJ {r:Nat}(hr:r<8)(h1:1<=zs.length)(h7:zs.length<=7)(nd:zs.Nodup)(t1:∀t∈ts,TnP t)(t2:∀t∈bs,TnP t)(l1:ts.length<=1000)(l2:bs.length<=1000)(h:R (.lst ((fitL r zs ts bs).map wP)) n):IU [rowP zs,.int (r:Int),.tup [.tup ts,.tup bs]] n R:=by
 refine⟨rfl,?_⟩;unfold IT;have key:=λ(w:List Mk) (hw:w∈M3 r zs.length 0 []) m (Q:PV->Nat->Prop)=>TH (r:=r) (n:=m) (R:=Q) ((w5 _ 0 [] w).mp hw).1 h1 (by omega) nd ((w5 _ 0 [] w).mp hw).2 t1 t2 l1 l2;have Zl:(zs.map PV.str).length=zs.length:=A9 ..;have le:=BC (r:=r) zs.length 0 [];have l7:3 ^ zs.length<=3 ^ 7:=x8 (by decide) h7;have ww:=words zs.length r h1 h7 hr;unfold Jg at ww;unfold rowP at *;unfold fitL at h;generalize M3 r zs.length 0 []=E at *;generalize hZ:zs.map PV.str=Z at *;walk_at "p2";rw[Zl];refine ww _ _ ?_;dsimp only;refine⟨by rw[A9];omega,?_⟩;refine DW wP (fitW zs ts bs) E _ n _ (λw hw m Q q=>?_) h;have k:=λQ'=>key w hw m Q';unfold wP at q ⊢;generalize w.map mkP=M at *;walk_at "p2";exact k _ q
def comR (T:List (List Str)):List (Option Str):=(T.headD []).zipIdx.map λy=>if T.all (λt=>decide (t.getD y.2 C5=y.1)) then some y.1 else none
def oS:Option Str->PV
 |some z=>.str z
 |none=>.non
theorem An {t:List Str}{i:Nat}(h:i<t.length):atI (t.map PV.str) (i:Int)=some (.str (t.getD i C5)):=by
 refine e9 ?_;rw[C6,G6,C4 h]
 rfl
theorem TL (t:List Str):Y8 (t.map PV.str)=t.zipIdx.map λy=>.tup [.int ((y.2:Nat):Int),.str y.1]:=by
 unfold Y8;rw[List.zipIdx_map,D8]
 rfl
theorem Jk {T:List (List Str)}{L:Nat}(ne:T≠[])(hl:∀t∈T,t.length=L)(lT:T.length<=100000)(hL:L<=1000)(h:R (.tup ((comR T).map oS)) n):Eb [.lst (T.map rowP)] n R:=by
 refine⟨rfl,?_⟩;unfold Mx;obtain⟨t0,T',rfl⟩:=T5 ne;have a0:atI ((t0::T').map rowP) 0=some (.tup (t0.map PV.str)):=e9 (j:=0) rfl;generalize hT:t0::T'=T at *;generalize hTP:T.map rowP=TP at *;walk_at "p2";rw[a0];dsimp only;rw[TL];have l0:=hl t0 (by rw[<- hT];exact B2);refine⟨by rw[A9,Bb];omega,?_⟩;refine Bs (λy:Str×Nat=>.int ((y.2:Nat):Int)) (λy=>.str y.1) (λy=>oS (if T.all (λt=>decide (t.getD y.2 C5=y.1)) then some y.1 else none)) _ _ _ _ _ (λy hy m Q q=>?_) ?_
 ·walk_at "p2";refine⟨by rw[<- hTP,A9];omega,?_⟩;have yl:=(List.mem_zipIdx' hy).1;rw[<- hTP];refine Cp rowP (λt=>.bl (decide (t.getD y.2 C5=y.1))) T _ _ _ (λt ht m' Q' q'=>?_) ?_
  ·have at1:=An (t:=t) (i:=y.2) (by rw[hl t ht];omega);unfold rowP at q' ⊢;generalize t.map PV.str=TT at *;walk_at "p2";rw[at1];dsimp only;rw[M9];exact⟨rfl,q'⟩
  ·rw[show T.map (λt=>PV.bl (decide (t.getD y.2 C5=y.1)))=(T.map λt=>decide (t.getD y.2 C5=y.1)).map PV.bl by rw[D8];rfl,Ag];dsimp only;rw[show(T.map λt=>decide (t.getD y.2 C5=y.1)).all id=T.all λt=>decide (t.getD y.2 C5=y.1) by rw[Be];rfl,hTP];cases c:T.all λt=>decide (t.getD y.2 C5=y.1) with
   |true=>rw[c,jt rfl] at q;exact if_t rfl q
   |false=>rw[c,ju (by decide)] at q;exact if_f rfl q
 ·unfold comR at h;rw[D8,show T.headD []=t0 by rw[<- hT];rfl] at h;exact h
end
end Tb
end
section
namespace Tb
open PySem L2 Pu
theorem TM {tt:pT}{te:pE}{rest:Pu.Env}{α:Type}(u v:α->PV)(c:α->Bool)(f:α->PV):∀(xs:List α) (s0 s1:Option Pu.Slot) (n:Nat) (R:List PV->Nat->Prop),(∀x∈xs,∀m Q,Q (c x) (some (.v (u x))::some (.v (v x))::rest) m->tt (some (.v (u x))::some (.v (v x))::rest) m Q)->(∀x∈xs,∀m Q,Q (f x) (some (.v (u x))::some (.v (v x))::rest) m->te (some (.v (u x))::some (.v (v x))::rest) m Q)->R ((xs.filter c).map f) n->R6 (gTp 2 (gCn (gN 0) (gCn (gN 1) gNl))) tt te (xs.map λx=>.tup [u x,v x]) (s0::s1::rest) n R:=by
 intro xs
 induction xs with
 |nil=>intro _ _ _ _ _ _ h;exact h
 | cons x xs ih =>
  intro s0 s1 n R ht he h;have ht':=λy hy=>ht y (B4 _ hy);have he':=λy hy=>he y (B4 _ hy);refine⟨rfl,?_⟩;show tt (some (.v (u x))::some (.v (v x))::rest) n _;refine ht x B2 _ _ ?_;cases e:c x with
  | true =>
   rw[List.filter_cons_of_pos (by rw[e])] at h;exact if_t rfl (he x B2 _ _ (ih _ _ _ _ ht' he' h))
  | false =>
   rw[List.filter_cons_of_neg (by rw[e];decide)] at h;exact if_f rfl (ih _ _ _ _ ht' he' h)
theorem Gq {T:List (List Str)}{t0:List Str}(h:T.headD []=t0):comR T=(C7 t0.length).map λk=>if T.all (λt=>decide (t.getD k C5=t0.getD k C5)) then some (t0.getD k C5) else none:=by
 unfold comR;rw[h];refine Ew λi=>?_;rw[C6,C6,Eo]
 by_cases c:i<t0.length
 ·rw[C4 c,Er c];have g:t0.getD i C5=t0[i]:=by rw[G6,C4 c];rfl
  show some (if(T.all λt=>decide (t.getD (0+i) C5=t0[i]))=true then some t0[i] else none)=some (if(T.all λt=>decide (t.getD i C5=t0.getD i C5))=true then some (t0.getD i C5) else none);rw[E2,g]
 ·rw[O6 (by omega),O6 (by rw[Q8];omega)]
  rfl
section
variable {n:Nat}{R:PV->Nat->Prop}
theorem Ni {T:List (List Str)}{L:Nat}(ne:T≠[])(hl:∀t∈T,t.length=L)(lT:T.length<=100000)(hL:L<=1000)(h:R (.tup ((comR T).map oS)) n):FT [.lst (T.map rowP)] n R:=by
 refine⟨rfl,?_⟩;unfold Mv;obtain⟨t0,T',rfl⟩:=T5 ne;have a0:atI ((t0::T').map rowP) 0=some (.tup (t0.map PV.str)):=e9 (j:=0) rfl;rw[Gq (t0:=t0) rfl] at h;have l0:=hl t0 B2;generalize hT:t0::T'=T at *;generalize hTP:T.map rowP=TP at *;walk_at "p2";rw[a0];dsimp only;simp only[A9,P7,Bg];refine⟨⟨by omega,by omega⟩,by rw[Q8];omega,?_⟩;refine Cp (λk:Nat=>.int (k:Int)) (λk=>oS (if T.all (λt=>decide (t.getD k C5=t0.getD k C5)) then some (t0.getD k C5) else none)) _ _ _ _ (λk hk m Q q=>?_) ?_
 ·have kl:=F8.mp hk;have at0:=An (t:=t0) (i:=k) kl;generalize t0.map PV.str=ZZ at *;walk_at "p2";refine⟨by rw[<- hTP,A9];omega,?_⟩;rw[<- hTP];refine Cp rowP (λt=>.bl (decide (t.getD k C5=t0.getD k C5))) T _ _ _ (λt ht m' Q' q'=>?_) ?_
  ·have at1:=An (t:=t) (i:=k) (by rw[hl t ht];omega);unfold rowP at q' ⊢;rw[show(T.map λt=>PV.tup (t.map PV.str))=TP from hTP] at q' ⊢;generalize t.map PV.str=TT at *;walk_at "p2";rw[at1,a0];dsimp only;rw[at0];dsimp only;rw[M9];exact⟨rfl,rfl,q'⟩
  ·rw[show T.map (λt=>PV.bl (decide (t.getD k C5=t0.getD k C5)))=(T.map λt=>decide (t.getD k C5=t0.getD k C5)).map PV.bl by rw[D8];rfl,Ag];dsimp only;rw[show(T.map λt=>decide (t.getD k C5=t0.getD k C5)).all id=T.all λt=>decide (t.getD k C5=t0.getD k C5) by rw[Be];rfl,hTP,a0];dsimp only;rw[at0];cases c:T.all λt=>decide (t.getD k C5=t0.getD k C5) with
   |true=>rw[c,jt rfl] at q;exact if_t rfl q
   |false=>rw[c,ju (by decide)] at q;exact if_f rfl q
 ·rw[D8] at h;exact h
def papP (kind:Str)(W:List (List Mk))(g:List Mk->List Str)(p:Nat):PV:=.tup [.str kind,.int (p:Int),wP (W.headD []),wP ((W.filter λw=>decide ((g w).getD p C5≠(g (W.headD [])).getD p C5)).headD [])]
def papS (kind:Str)(W:List (List Mk))(g:List Mk->List Str)(y:Option Str×Nat):List PV:=if y.1=none then [papP kind W g y.2] else []
def papL (kind:Str)(W:List (List Mk))(g:List Mk->List Str):List PV:=(comR (W.map g)).zipIdx.flatMap (papS kind W g)
theorem Nj {T:List (List Str)}{p:Nat}(h:(comR T)[p]?=some none):∃t∈T,t.getD p C5≠(T.headD []).getD p C5:=by
 rw[Gq rfl,C6] at h
 by_cases c:p<(T.headD []).length
 ·rw[Er c] at h;have h:=F6 h;dsimp only at h
  split at h
  ·cases h
  ·rename_i e;rw[E9] at e;simp only[decide_eq_true_eq] at e;exact y9 λz=>e λt ht=>y9 λq=>z ⟨t,ht,q⟩
 ·rw[O6 (by rw[Q8];omega)] at h;cases h
theorem TN (C:List (Option Str)):Y8 (C.map oS)=C.zipIdx.map λy=>.tup [.int ((y.2:Nat):Int),oS y.1]:=by
 unfold Y8;rw[List.zipIdx_map,D8]
 rfl
theorem Jl {α:Type}(f:α->PV)(d:α){l:List α}(h:l≠[]):atI (l.map f) 0=some (f (l.headD d)):=by
 cases l with
 |nil=>exact absurd rfl h
 |cons a l=>exact e9 (j:=0) rfl
theorem TQ {α:Type}(f h:α->PV)(l:List α):zipP (l.map f) (l.map h)=l.map λa=>.tup [f a,h a]:=by
 unfold zipP;rw[List.zip_map',D8]
 rfl
theorem Nk {kind:Str}{W:List (List Mk)}{g:List Mk->List Str}{L:Nat}(ne:W≠[])(hl:∀w∈W,(g w).length=L)(lW:W.length<=100000)(hL:L<=1000)(h:R (.lst (papL kind W g)) n):F_ [.str kind,.lst (W.map wP),.lst ((W.map g).map rowP)] n R:=by
 refine⟨rfl,?_⟩;unfold IV;have hT:∀t∈W.map g,t.length=L:=λt ht=>by obtain⟨w,hw,rfl⟩:=C0.mp ht;exact hl w hw
 have hl0:(g (W.headD [])).length=L:=by
  cases W with
  |nil=>exact absurd rfl ne
  |cons a l=>exact hl a B2
 have cl:(comR (W.map g)).length=L:=by
  unfold comR;obtain⟨w0,W',rfl⟩:=T5 ne;rw[A9,Bb];exact hl w0 B2
 have cm:=λn (R:PV->Nat->Prop)=>Jk (n:=n) (R:=R) (T:=W.map g) (by simpa using ne) hT (by rw[A9];exact lW) hL;have ex:=λp e=>Nj (T:=W.map g) (p:=p) e;unfold papL at h;generalize comR (W.map g)=C at *;generalize hWP:W.map wP=WP at *;generalize hTP:(W.map g).map rowP=TP at *;walk_at "p2";refine cm _ _ ?_;dsimp only;rw[TN];refine R8 (λi env m=>∃(s4 s5 s6:Option Slot),env=[some (.v (.str kind)),some (.v (.lst WP)),some (.v (.lst TP)),some (.own ((C.zipIdx.take i).flatMap (papS kind W g))),s4,s5,s6]/\n=m) _ 0 _ _ ⟨_,_,_,rfl,rfl⟩ (λi x env m N e hI hN=>?_) (λenv m hI=>?_)
 ·obtain⟨s4,s5,s6,rfl,rfl⟩:=hI;rw[E2] at hN;rw[C6] at e;cases ey:C.zipIdx[i]? with
  |none=>rw[ey] at e;cases e
  | some y =>
   rw[ey] at e;cases e;have yi:i<C.length:=by have:=(E1.mp ey).1;rwa [Bb] at this
   obtain⟨c,p⟩:=y
   have yc:C[i]?=some c/\p=i:=by
    rw[Eo] at ey;cases ec:C[i]? with
    |none=>rw[ec] at ey;cases ey
    |some d=>rw[ec] at ey;cases ey;exact⟨rfl,by omega⟩
   obtain⟨yc,rfl⟩:=yc;rw[E2];rw[Jh ey] at hN
   have lA:((C.zipIdx.take p).flatMap (papS kind W g)).length<=1*p:=by
    have:=BB (c:=1) (f:=papS kind W g) (C.zipIdx.take p) λy _=>by unfold papS;split <;> simp
    rw[M6] at this;omega
   generalize (C.zipIdx.take p).flatMap (papS kind W g)=A at *;cases c with
   | some z =>
    walk_at "p2";refine if_f rfl ?_;rw[show papS kind W g (some z,p)=[] from rfl,T6] at hN;exact hN _ _ ⟨_,_,_,rfl,rfl⟩
   | none =>
    rw[show papS kind W g (none,p)=[papP kind W g p] from rfl] at hN;obtain⟨t,ht,et⟩:=ex p yc;obtain⟨w,hw,rfl⟩:=C0.mp ht
    have hd:(W.map g).headD []=g (W.headD []):=by
     obtain⟨w0,W',rfl⟩:=T5 ne
     rfl
    rw[hd] at et;have wf:w∈W.filter λw=>decide ((g w).getD p C5≠(g (W.headD [])).getD p C5):=M7.mpr ⟨hw,jq et⟩;have fne:=Et wf;have u0:=Jl wP [] fne;have w0:=Jl wP [] ne;have t0:=Jl (λw=>rowP (g w)) [] ne;have zz:=TQ wP (λw=>rowP (g w)) W;rw[hWP] at w0 zz;have eT:(W.map λw=>rowP (g w))=TP:=by rw[<- hTP,D8];rfl
    rw[eT] at t0 zz;walk_at "p2";refine if_t rfl ?_;rw[show i6 true (PV.lst WP)=some WP from rfl,show i6 true (PV.lst TP)=some TP from rfl];dsimp only;rw[zz];refine⟨by rw[A9];omega,?_⟩;refine TM wP (λw=>rowP (g w)) (λw=>decide ((g w).getD p C5≠(g (W.headD [])).getD p C5)) wP W _ _ _ _ (λw hw m Q q=>?_) (λw hw m Q q=>?_) ?_
    ·have pL:p<(g w).length:=by rw[hl w hw];omega
     have pL0:p<(g (W.headD [])).length:=by omega
     have a1:=An pL;have a2:=An pL0;unfold rowP at t0 q ⊢;generalize (g w).map PV.str=X1 at *;generalize (g (W.headD [])).map PV.str=X2 at *;walk_at "p2";rw[a1,t0];dsimp only;rw[a2];dsimp only;rw[M9];refine⟨rfl,rfl,?_⟩;rw[decide_not] at q;exact q
    ·walk_at "p2";exact q
    ·generalize hU:(W.filter λw=>decide ((g w).getD p C5≠(g (W.headD [])).getD p C5)).map wP=UL at *;rw[w0,u0];dsimp only;refine⟨⟨_,rfl⟩,by omega,?_⟩;exact hN _ _ ⟨_,_,_,rfl,rfl⟩
 ·obtain⟨s4,s5,s6,rfl,rfl⟩:=hI;walk_at "p2";rw[E2,show C.zipIdx.take (C.zipIdx.map λy=>PV.tup [.int ((y.2:Nat):Int),oS y.1]).length=C.zipIdx by rw[A9,x4]];exact h
end
end Tb
end
section
namespace Tb
open PySem L2 Pu
section
variable {n:Nat}{R:PV->Nat->Prop}{zs:List Str}{ts bs:List PV}
def wS (w:List Mk):List Str:=w.map mkS
theorem Jm (w:List Mk):wP w=rowP (wS w):=by unfold wP rowP wS;rw[D8];rfl
theorem Nl (W:List (List Mk)):W.map wP=(W.map wS).map rowP:=by rw[D8];exact At λw _=>Jm w
def kM:Str:=B0 "mark"
def kB:Str:=B0 "boat"
noncomputable def menP (zs:List Str)(W:List (List Mk)):PV:=.tup [.str (B0 "some"),.tup ((comR (W.map wS)).map oS),.tup ((comR (W.map (rowW zs))).map oS),.tup (papL kM W wS++papL kB W (rowW zs))]
theorem TR {r:Nat}(hr:r<8)(h1:1<=zs.length)(h7:zs.length<=7)(nd:zs.Nodup)(t1:∀t∈ts,TnP t)(t2:∀t∈bs,TnP t)(l1:ts.length<=1000)(l2:bs.length<=1000)(h0:fitL r zs ts bs=[]->R (.tup [.str (B0 "none")]) n)(h:fitL r zs ts bs≠[]->R (menP zs (fitL r zs ts bs)) n):IX [rowP zs,.int (r:Int),.tup [.tup ts,.tup bs]] n R:=by
 refine⟨rfl,?_⟩;unfold IW;have mw:=λn (R:PV->Nat->Prop)=>TJ (n:=n) (R:=R) hr h1 h7 nd t1 t2 l1 l2;have ok:∀w∈fitL r zs ts bs,w.length=zs.length/\Pu.run (r:Int) 0 [] w=some []:=λw hw=>(w5 _ 0 [] w).mp (M7.mp hw).1;have lW:(fitL r zs ts bs).length<=3 ^ 7:=E5 (Gx _ _) (E5 (BC zs.length 0 []) (x8 (by decide) h7));generalize fitL r zs ts bs=W at *;have rb:=λ(w:List Mk) hw n (R:PV->Nat->Prop)=>MH (r:=(r:Int)) (zs:=zs) (ms:=w) (n:=n) (R:=R) (ok w hw).1 (by omega) nd (ok w hw).2;have lS:∀w∈W,(wS w).length=zs.length:=λw hw=>by unfold wS;rw[A9];exact(ok w hw).1
 have lR:∀w∈W,(rowW zs w).length=zs.length:=λw _=>Cu _ _;have toT:∀{g:List Mk->List Str},(∀w∈W,(g w).length=zs.length)->∀t∈W.map g,t.length=zs.length:=λhg t ht=>by obtain⟨w,hw,rfl⟩:=C0.mp ht;exact hg w hw
 have c1:=λne n (R:PV->Nat->Prop)=>Jk (n:=n) (R:=R) (T:=W.map wS) ne (toT lS) (by rw[A9];omega) (by omega);have c2:=λne n (R:PV->Nat->Prop)=>Jk (n:=n) (R:=R) (T:=W.map (rowW zs)) ne (toT lR) (by rw[A9];omega) (by omega);have p1:=λne n (R:PV->Nat->Prop)=>Nk (n:=n) (R:=R) (kind:=kM) (W:=W) (g:=wS) ne lS (by omega) (by omega);have p2:=λne n (R:PV->Nat->Prop)=>Nk (n:=n) (R:=R) (kind:=kB) (W:=W) (g:=rowW zs) ne lR (by omega) (by omega);rw[<- Nl] at c1 p1;unfold menP at h;unfold kM at h p1;unfold kB at h p2;have rbW:∀w∈W,∀m (Q:PV->Nat->Prop),Q (rowP (rowW zs w)) m->Ea [rowP zs,wP w] m Q:=λw hw m Q=>rb w hw m Q;have lWP:(W.map wP).length<=1000000:=by rw[A9];omega
 generalize hZ:rowP zs=Z at *;walk_at "p2";refine mw _ _ ?_
 by_cases ne:W=[]
 ·have h0:=h0 ne;rw[ne];walk_at "p2";exact if_t rfl h0
 have h:=h ne;have c1:=c1 (by simpa using ne);have c2:=c2 (by simpa using ne);have p1:=p1 ne;have p2:=p2 ne;have te:(W.map wP).isEmpty=false:=by cases W;exact absurd rfl ne;rfl
 generalize hWP:W.map wP=WP at *;walk_at "p2";rw[te];refine if_f rfl ⟨lWP,?_⟩;rw[<- hWP];refine Cp wP (λw=>rowP (rowW zs w)) W _ _ _ (λw hw m Q q=>?_) ?_
 ·have k:=rbW w hw;generalize wP w=X at *;walk_at "p2";exact k _ _ q
 rw[show(W.map λw=>rowP (rowW zs w))=(W.map (rowW zs)).map rowP by rw[D8];rfl,hWP];refine p1 _ _ (p2 _ _ ?_);dsimp only
 have lP:(papL (B0 "mark") W wS).length<=1*zs.length/\(papL (B0 "boat") W (rowW zs)).length<=1*zs.length:=by
  have cl:∀{g:List Mk->List Str} {kd:Str},(∀w∈W,(g w).length=zs.length)->(papL kd W g).length<=1*zs.length:=λ{g kd} hg=>by
   have:=BB (c:=1) (f:=papS kd W g) (comR (W.map g)).zipIdx λy _=>by unfold papS;split <;> simp
   rw[Bb] at this
   have e:(comR (W.map g)).length=zs.length:=by
    unfold comR;obtain⟨w0,W',rfl⟩:=T5 ne;rw[A9,Bb];exact hg w0 B2
   rw[e] at this;exact this
  exact⟨cl lS,cl lR⟩
 refine⟨by omega,c1 _ _ (c2 _ _ ?_)⟩;exact h
theorem Nm {T T':List (List Str)}{L:Nat}(hT:∀t∈T,t.length=L)(hs:∀t,t∈T↔t∈T')(ne:T≠[]):comR T=comR T':=by
 have ne':T'≠[]:=by
  obtain⟨a,l,rfl⟩:=T5 ne;exact Et ((hs a).mp B2)
 have hd:∀{U:List (List Str)},U≠[]->U.headD []∈U:=λ{U} h=>by
  obtain⟨a,l,rfl⟩:=T5 h;exact B2
 have m1:=hd ne;have m2:=hd ne';rw[Gq rfl,Gq rfl,hT _ m1,hT _ ((hs _).mpr m2)];refine At λk hk=>?_;have al:∀{U:List (List Str)} {x:Str},U.all (λt=>decide (t.getD k C5=x))=true↔∀t∈U,t.getD k C5=x:=λ{U x}=>by rw[E9];simp only[decide_eq_true_eq]
 by_cases c:∀t∈T,t.getD k C5=(T.headD []).getD k C5
 ·have e:=c _ ((hs _).mpr m2);rw[jt (al.mpr c),jt (al.mpr λt ht=>(c t ((hs t).mpr ht)).trans e.symm),e]
 ·rw[ju λz=>c (al.mp z),ju λz=>c λt ht=>((al.mp z) t ((hs t).mp ht)).trans ((al.mp z) _ ((hs _).mp m1)).symm]
def dueP (kind:Str)(p:Nat):PV:=.tup [.str kind,.int (p:Int)]
end
end Tb
end
section
namespace Tb
open PySem L2 Pu
section
variable {n:Nat}{R:PV->Nat->Prop}{zs:List Str}
theorem Nn (w:List Mk):cmpb 4 (wP w)=true:=E9.mpr λx hx=>by
 obtain⟨m,_,rfl⟩:=C0.mp hx
 rfl
theorem pln_wP (w:List Mk):pln (wP w)=true:=Fy _ λx hx=>by
 obtain⟨m,_,rfl⟩:=C0.mp hx
 rfl
theorem mem_wP {B:List (List Mk)}{u:List Mk}(h:u∈B):memP (wP u) (B.map wP)=true:=by
 induction B with
 |nil=>cases h
 | cons b B ih =>
  rw[J8,My];rcases C9.mp h with rfl|h
  ·rw[Le _ (pln_wP u),c7]
  ·rw[ih h,Bool.or_true]
theorem all_wP (B:List (List Mk)):(B.map wP).all (cmpb 4)=true:=E9.mpr λx hx=>by
 obtain⟨w,_,rfl⟩:=C0.mp hx;exact Nn w
theorem in_wP {B:List (List Mk)}{u:List Mk}{Q:PV->Prop}(h:u∈B)(q:Q (.bl false)):wIn 4 true (wP u) (.lst (B.map wP)) Q:=by
 refine⟨Nn u,all_wP B,?_⟩;rw[mem_wP h];exact q
theorem TU {B:List (List Mk)}{g:List Mk->List Str}{kind:Str}{p:Nat}{u v:List Mk}{r:Int}(hk:kind=kM/\g=wS\/kind=kB/\g=rowW zs)(ok:∀w∈B,w.length=zs.length/\Pu.run r 0 [] w=some [])(h1:1<=zs.length)(h7:zs.length<=7)(nd:zs.Nodup)(lB:B.length<=100000)(hu:u∈B)(hv:v∈B)(hp:p<zs.length)(hd:(v).length=zs.length/\(g v).getD p C5≠(g u).getD p C5)(h:R (.bl true) n):CF [rowP zs,.lst (B.map wP),dueP kind p,.tup [.str kind,.int (p:Int),wP u,wP v]] n R:=by
 refine⟨rfl,?_⟩;unfold Iz;unfold dueP;generalize hZ:rowP zs=Z at *;generalize hBP:B.map wP=BP at *;generalize hU:wP u=U at *;generalize hV:wP v=V at *;walk_at "p1";refine if_f (by decide) ?_;rw[show cutP [PV.str kind,.int (p:Int),U,V] none (some 2)=[.str kind,.int (p:Int)] from rfl,show cutP [PV.str kind,.int (p:Int),U,V] (some 2) none=[U,V] from rfl,show atI [PV.str kind,.int (p:Int),U,V] 1=some (.int (p:Int)) from e9 (j:=1) rfl];refine U3 rfl (U3 rfl (if_f (by rw[DR _ rfl];rfl) ?_));refine if_f (by decide) ⟨rfl,?_⟩;dsimp only;rw[<- hU,<- hV,<- hBP];refine in_wP hu (if_f rfl (in_wP hv (if_f rfl ?_)));have ou:=ok u hu;have ov:=ok v hv;have fin:∀{a b:Str},b≠a->R (.bl (!decide (a=b))) n:=λ{a b} e=>by rw[jr (Ne.symm e)];exact h
 rcases hk with⟨rfl,rfl⟩|⟨rfl,rfl⟩
 ·refine if_t (by decide +kernel) ?_;have a1:=An (t:=wS u) (i:=p) (by unfold wS;rw[A9];omega);have a2:=An (t:=wS v) (i:=p) (by unfold wS;rw[A9];omega);rw[Jm,Jm];unfold rowP;dsimp only;rw[a1,a2];exact U3 rfl (U3 rfl (by rw[AS];exact fin hd.2))
 ·refine if_f (by decide +kernel) ?_;rw[<- hZ];have r1:=λn (R:PV->Nat->Prop)=>Ed (r:=r) (n:=n) (R:=R) ou.1 (by omega) nd ou.2;have r2:=λn (R:PV->Nat->Prop)=>Ed (r:=r) (n:=n) (R:=R) ov.1 (by omega) nd ov.2;have a1:=An (t:=rowW zs u) (i:=p) (by rw[show(rowW zs u).length=zs.length from Cu _ _];omega);have a2:=An (t:=rowW zs v) (i:=p) (by rw[show(rowW zs v).length=zs.length from Cu _ _];omega);refine r1 _ _ ?_;unfold rowP;dsimp only;rw[show atI ((aft zs (evT zs u u.length)).map PV.str) (p:Int)=_ from a1];refine r2 _ _ ?_;unfold rowP;dsimp only;rw[show atI ((aft zs (evT zs v v.length)).map PV.str) (p:Int)=_ from a2];exact U3 rfl (U3 rfl (by rw[AS];exact fin hd.2))
theorem No {f:Nat->PV}:∀(m:Nat) (C:List (Option Str)),C.length=m->C.zipIdx.flatMap (λy=>if y.1=none then [f y.2] else [])=((C7 C.length).filter λk=>decide (C[k]?=some none)).map f
 |0,C,h=>by rw[w8 h];rfl
 | m + 1, C, h => by
  rcases List.eq_nil_or_concat C with rfl|⟨D,c,rfl⟩
  ·cases h
  ·have hm:D.length=m:=by simpa using h
   have ih:=No (f:=f) m D hm;rw[List.concat_eq_append,List.zipIdx_append,List.flatMap_append,ih,D7,P5,List.range_succ,List.filter_append,J7]
   congr 1
   ·refine congrArg (J9 f) (List.filter_congr λk hk=>?_);rw[Q7 (F8.mp hk)]
   ·rw[Ez,List.getElem?_concat_length,E2];cases c with
    |none=>simp
    |some z=>simp
def agK (C:List (Option Str)):List Nat:=(C7 C.length).filter λk=>decide (C[k]?=some none)
theorem Np (kind:Str)(W:List (List Mk))(g:List Mk->List Str):papL kind W g=(agK (comR (W.map g))).map (papP kind W g):=No _ _ rfl
end
end Tb
end
section
namespace Tb
open PySem L2 Pu
theorem Ao (h:∀U:pS,U=q->p { D with nx:=λe m=>U D e m } env n):qSeq p q D env n:=h q rfl
theorem Nq {tt:pT}{te:pE}{rest:Pu.Env}{α:Type}(u:α->PV)(c:α->Bool)(f:α->PV):∀(xs:List α) (s0:Option Pu.Slot) (n:Nat) (R:List PV->Nat->Prop),(∀x∈xs,∀m Q,Q (c x) (some (.v (u x))::rest) m->tt (some (.v (u x))::rest) m Q)->(∀x∈xs,∀m Q,Q (f x) (some (.v (u x))::rest) m->te (some (.v (u x))::rest) m Q)->R ((xs.filter c).map f) n->R6 (gN 0) tt te (xs.map u) (s0::rest) n R:=by
 intro xs
 induction xs with
 |nil=>intro _ _ _ _ _ h;exact h
 | cons x xs ih =>
  intro s0 n R ht he h;have ht':=λy hy=>ht y (B4 _ hy);have he':=λy hy=>he y (B4 _ hy);show tt (some (.v (u x))::rest) n _;refine ht x B2 _ _ ?_;cases e:c x with
  | true =>
   rw[List.filter_cons_of_pos (by rw[e])] at h;exact if_t rfl (he x B2 _ _ (ih _ _ _ ht' he' h))
  | false =>
   rw[List.filter_cons_of_neg (by rw[e];decide)] at h;exact if_f rfl (ih _ _ _ ht' he' h)
section
variable {n:Nat}{R:PV->Nat->Prop}{zs:List Str}
theorem agK_ok {W:List (List Mk)}{g:List Mk->List Str}{L k:Nat}(ne:W≠[])(hl:∀w∈W,(g w).length=L)(h:k∈agK (comR (W.map g))):k<L/\W.headD []∈W/\∃v,v=(W.filter λw=>decide ((g w).getD k C5≠(g (W.headD [])).getD k C5)).headD []/\v∈W/\(g v).getD k C5≠(g (W.headD [])).getD k C5:=by
 obtain⟨h1,h2⟩:=M7.mp h;have h2:=jv h2;have h1:=F8.mp h1
 have cl:(comR (W.map g)).length=L:=by
  unfold comR;obtain⟨w0,W',rfl⟩:=T5 ne;rw[A9,Bb];exact hl w0 B2
 have hW:W.headD []∈W:=by
  obtain⟨w0,W',rfl⟩:=T5 ne;exact B2
 obtain⟨t,ht,et⟩:=Nj h2;obtain⟨w,hw,rfl⟩:=C0.mp ht
 have hd:(W.map g).headD []=g (W.headD []):=by
  obtain⟨w0,W',rfl⟩:=T5 ne
  rfl
 rw[hd] at et;have wf:w∈W.filter λw=>decide ((g w).getD k C5≠(g (W.headD [])).getD k C5):=M7.mpr ⟨hw,jq et⟩
 have vf:(W.filter λw=>decide ((g w).getD k C5≠(g (W.headD [])).getD k C5)).headD []∈W.filter λw=>decide ((g w).getD k C5≠(g (W.headD [])).getD k C5):=by
  obtain⟨v,l,e⟩:=T5 (Et wf);rw[e];exact B2
 exact⟨by omega,hW,_,rfl,(M7.mp vf).1,jv (M7.mp vf).2⟩
theorem TV (h:R (.bl true) n):FV [rowP zs,.lst [],.tup [.str (B0 "none")]] n R:=by
 refine⟨rfl,?_⟩;unfold FU;generalize rowP zs=Z;refine Ao λU hU=>?_;walk_at "p1";exact U3 rfl (U3 rfl (U3 rfl (U3 rfl h)))
theorem at_oS {C:List (Option Str)}{k:Nat}(h:k<C.length):atI (C.map oS) (k:Int)=some (oS (C.getD k none)):=by
 refine e9 ?_;rw[C6,G6,C4 h]
 rfl
theorem Nr (C:List (Option Str)):pln (.tup (C.map oS))=true:=Fy _ λx hx=>by
 obtain⟨c,_,rfl⟩:=C0.mp hx;cases c <;> rfl
theorem TW {W B:List (List Mk)}{r:Int}(ne:W≠[])(hs:∀w,w∈B↔w∈W)(ok:∀w∈B,w.length=zs.length/\Pu.run r 0 [] w=some [])(h1:1<=zs.length)(h7:zs.length<=7)(nd:zs.Nodup)(lB:B.length<=100000)(h:R (.bl true) n):FV [rowP zs,.lst (B.map wP),menP zs W] n R:=by
 refine⟨rfl,?_⟩;unfold FU
 have neB:B≠[]:=by
  obtain⟨w0,W',rfl⟩:=T5 ne;exact Et ((hs w0).mpr B2)
 have lS:∀w∈B,(wS w).length=zs.length:=λw hw=>by unfold wS;rw[A9];exact(ok w hw).1
 have lR:∀w∈B,(rowW zs w).length=zs.length:=λw _=>Cu _ _;have toT:∀{g:List Mk->List Str},(∀w∈B,(g w).length=zs.length)->∀t∈B.map g,t.length=zs.length:=λhg t ht=>by obtain⟨w,hw,rfl⟩:=C0.mp ht;exact hg w hw
 have mm:∀(g:List Mk->List Str) t,t∈B.map g↔t∈W.map g:=λg t=>by simp only[C0,hs]
 have e1:=Nm (toT lS) (mm wS) (by simpa using neB);have e2:=Nm (toT lR) (mm (rowW zs)) (by simpa using neB);have c1:=λn (R:PV->Nat->Prop)=>Ni (n:=n) (R:=R) (T:=B.map wS) (by simpa using neB) (toT lS) (by rw[A9];omega) (by omega);have c2:=λn (R:PV->Nat->Prop)=>Ni (n:=n) (R:=R) (T:=B.map (rowW zs)) (by simpa using neB) (toT lR) (by rw[A9];omega) (by omega);rw[<- Nl,e1] at c1;rw[e2] at c2
 have cl:∀{g:List Mk->List Str},(∀w∈B,(g w).length=zs.length)->(comR (W.map g)).length=zs.length:=λ{g} hg=>by
  unfold comR;obtain⟨w0,W',rfl⟩:=T5 ne;rw[A9,Bb];exact hg w0 ((hs w0).mpr B2)
 have cl1:=cl lS;have cl2:=cl lR;have rb:=λ(w:List Mk) hw n (R:PV->Nat->Prop)=>Ed (r:=r) (zs:=zs) (ms:=w) (n:=n) (R:=R) (ok w hw).1 (by omega) nd (ok w hw).2;have rbW:∀w∈B,∀m (Q:PV->Nat->Prop),Q (rowP (rowW zs w)) m->AR [rowP zs,wP w] m Q:=λw hw m Q=>rb w hw m Q
 have pr:=λ(kd:Str) (g:List Mk->List Str) (hk:kd=kM/\g=wS\/kd=kB/\g=rowW zs) (hg:∀w∈B,(g w).length=zs.length) k (hk':k∈agK (comR (W.map g))) m (Q:PV->Nat->Prop) (q:Q (.bl true) m)=>show CF [rowP zs,.lst (B.map wP),dueP kd k,papP kd W g k] m Q from by
  obtain⟨a1,a2,v,ev,a3,a4⟩:=agK_ok ne (λw hw=>hg w ((hs w).mpr hw)) hk';unfold papP;rw[<- ev];exact TU hk ok h1 h7 nd lB ((hs _).mpr a2) ((hs _).mpr a3) a1 ⟨(ok v ((hs _).mpr a3)).1,a4⟩ q
 have cB:(B.map wP).all (cmpb 3)=true:=E9.mpr λx hx=>by
  obtain⟨w,_,rfl⟩:=C0.mp hx;exact E9.mpr λy hy=>by obtain⟨m,_,rfl⟩:=C0.mp hy;rfl
 have eB:eqPs (B.map wP) []=false:=by obtain⟨w0,B',rfl⟩:=T5 neB;rfl
 have lWP:(B.map wP).length<=1000000:=by rw[A9];omega
 have lZ:(zs.map PV.str).length=zs.length:=A9 ..;unfold menP;rw[Np,Np];have p1:=pr kM wS (.inl ⟨rfl,rfl⟩) lS;have p2:=pr kB (rowW zs) (.inr ⟨rfl,rfl⟩) lR;clear pr;generalize comR (W.map wS)=C1 at *;generalize comR (W.map (rowW zs))=C2 at *;unfold rowP at rbW p1 p2 ⊢;generalize hZ:zs.map PV.str=Z at *;generalize hBP:B.map wP=BP at *;refine Ao λU hU=>?_;walk_at "p1";rw[eB];refine U3 cB (U3 rfl (if_f rfl ?_));subst hU;refine Ao λU hU=>?_;walk_at "p1";refine c1 _ _ ⟨lWP,?_⟩;rw[<- hBP];refine Cp wP (λw=>rowP (rowW zs w)) B _ _ _ (λw hw m Q q=>?_) ?_
 ·have k:=rbW w hw;generalize wP w=X at *;walk_at "p1";exact k _ _ q
 rw[show(B.map λw=>rowP (rowW zs w))=(B.map (rowW zs)).map rowP by rw[D8];rfl,hBP];refine c2 _ _ ?_;subst hU;refine Ao λU hU=>?_;have lP:((agK C1).map (papP kM W wS)++(agK C2).map (papP kB W (rowW zs))).length=(agK C1).length+(agK C2).length:=by rw[D7,A9,A9]
 have z:zipP ((agK C1).map (dueP kM)++(agK C2).map (dueP kB)) ((agK C1).map (papP kM W wS)++(agK C2).map (papP kB W (rowW zs)))=((agK C1).map (Prod.mk true)++(agK C2).map (Prod.mk false)).map λd:Bool×Nat=>PV.tup [dueP (if d.1 then kM else kB) d.2,if d.1 then papP kM W wS d.2 else papP kB W (rowW zs) d.2]:=by
  unfold zipP;rw[List.zip_append (by rw[A9,A9]),List.zip_map',List.zip_map',J7,J7,D8,D8,D8,D8]
  rfl
 generalize hP:(agK C1).map (papP kM W wS)++(agK C2).map (papP kB W (rowW zs))=P at *;walk_at "p1";refine if_f (by decide) ?_;rw[show cutP [PV.str (B0 "some"),PV.tup (C1.map oS),PV.tup (C2.map oS),PV.tup P] none (some 3)=[PV.str (B0 "some"),PV.tup (C1.map oS),PV.tup (C2.map oS)] from rfl]
 have cO:∀C:List (Option Str),cmpb 3 (.tup (C.map oS))=true:=λC=>E9.mpr λx hx=>by
  obtain⟨c,_,rfl⟩:=C0.mp hx;cases c <;> rfl
 have g3:[PV.str (B0 "some"),PV.tup (C1.map oS),PV.tup (C2.map oS)].all (cmpb 3)=true:=E9.mpr λx hx=>by
  simp only[C9,k8,or_false] at hx;rcases hx with rfl|rfl|rfl
  ·rfl
  ·exact cO C1
  ·exact cO C2
 have pl3:plns [PV.str (B0 "some"),PV.tup (C1.map oS),PV.tup (C2.map oS)]=true:=Fy _ λx hx=>by
  simp only[C9,k8,or_false] at hx;rcases hx with rfl|rfl|rfl
  ·rfl
  ·exact Nr C1
  ·exact Nr C2
 refine U3 g3 (U3 g3 (if_f (by rw[DR _ pl3];rfl) ?_));clear g3 pl3 cO;subst hU;refine Ao λU hU=>?_;have at1:=λk (hk:k<zs.length)=>at_oS (C:=C1) (k:=k) (by omega);have at2:=λk (hk:k<zs.length)=>at_oS (C:=C2) (k:=k) (by omega)
 have due:∀(C:List (Option Str)),C.length=zs.length->agK C=(C7 zs.length).filter λk=>decide (C.getD k none=none):=λC e=>by
  unfold agK;rw[e];refine List.filter_congr λk hk=>?_;have:=F8.mp hk;rw[G6,C4 (by omega)];simp
 have d1:=due C1 cl1;have d2:=due C2 cl2;generalize hQ1:C1.map oS=Q1 at *;generalize hQ2:C2.map oS=Q2 at *;walk_at "p1";rw[lZ];simp only[P7,Bg];refine⟨⟨by omega,by omega⟩,by rw[A9,Q8];omega,?_⟩;refine Nq (λk:Nat=>.int (k:Int)) (λk=>decide (C1.getD k none=none)) (dueP kM) _ _ _ _ (λk hk m Q q=>?_) (λk hk m Q q=>?_) ?_
 ·have a:=at1 k (F8.mp hk);walk_at "p1";rw[a];cases e:C1.getD k none with
  |none=>rw[e] at q;exact q
  |some z=>rw[e] at q;exact q
 ·unfold dueP kM at q;walk_at "p1";exact q
 rw[<- d1];subst hU;refine Ao λU hU=>?_
 have la:∀(C:List (Option Str)),C.length=zs.length->(agK C).length<=zs.length:=λC e=>by
  rw[<- e];exact E5 (Gx _ _) (by rw[Q8];exact B3 _)
 have la1:=la C1 cl1;have la2:=la C2 cl2;walk_at "p1";rw[lZ];simp only[P7,Bg];refine⟨⟨_,rfl⟩,⟨by omega,by omega⟩,by rw[A9,Q8];omega,?_⟩;refine Nq (λk:Nat=>.int (k:Int)) (λk=>decide (C2.getD k none=none)) (dueP kB) _ _ _ _ (λk hk m Q q=>?_) (λk hk m Q q=>?_) ?_
 ·have a:=at2 k (F8.mp hk);walk_at "p1";rw[a];cases e:C2.getD k none with
  |none=>rw[e] at q;exact q
  |some z=>rw[e] at q;exact q
 ·unfold dueP kB at q;walk_at "p1";exact q
 rw[<- d2];refine⟨by rw[A9,A9];omega,?_⟩;have lD:((agK C1).map (dueP kM)++(agK C2).map (dueP kB)).length=(agK C1).length+(agK C2).length:=by rw[D7,A9,A9]
 generalize hD:(agK C1).map (dueP kM)++(agK C2).map (dueP kB)=D at *;subst hU;refine Ao λU hU=>?_;have a3:atI [PV.str (B0 "some"),PV.tup Q1,PV.tup Q2,PV.tup P] 3=some (.tup P):=e9 (j:=3) rfl;walk_at "p1";rw[a3];dsimp only;refine if_f (by decide) (if_f (by rw[jq (by omega)];rfl) ?_);subst hU;walk_at "p1";rw[a3];dsimp only;rw[show i6 true (PV.lst D)=some D from rfl,show i6 false (PV.tup P)=some P from rfl];dsimp only;rw[z];refine⟨by rw[A9,D7,A9,A9];omega,?_⟩;refine Bs (λd:Bool×Nat=>dueP (if d.1 then kM else kB) d.2) (λd=>if d.1 then papP kM W wS d.2 else papP kB W (rowW zs) d.2) (λ_=>.bl true) _ _ _ _ _ (λd hd m Q q=>?_) ?_
 ·rcases K6.mp hd with hd|hd
  ·obtain⟨k,hk,rfl⟩:=C0.mp hd;have k1:=p1 k hk;have q:Q (.bl true) [some (.v (dueP kM k)),some (.v (papP kM W wS k)),some (.v (.tup Z)),some (.v (.lst BP))] m:=q;show B5 CF (A3 (qV 2) (A3 (qV 3) (A3 (qV 0) (A3 (qV 1) qNil)))) [some (.v (dueP kM k)),some (.v (papP kM W wS k)),some (.v (.tup Z)),some (.v (.lst BP))] m Q;generalize dueP kM k=X1 at *;generalize papP kM W wS k=X2 at *;walk_at "p1";exact k1 _ _ q
  ·obtain⟨k,hk,rfl⟩:=C0.mp hd;have k1:=p2 k hk;have q:Q (.bl true) [some (.v (dueP kB k)),some (.v (papP kB W (rowW zs) k)),some (.v (.tup Z)),some (.v (.lst BP))] m:=q;show B5 CF (A3 (qV 2) (A3 (qV 3) (A3 (qV 0) (A3 (qV 1) qNil)))) [some (.v (dueP kB k)),some (.v (papP kB W (rowW zs) k)),some (.v (.tup Z)),some (.v (.lst BP))] m Q;generalize dueP kB k=X1 at *;generalize papP kB W (rowW zs) k=X2 at *;walk_at "p1";exact k1 _ _ q
 ·generalize (agK C1).map (Prod.mk true)++(agK C2).map (Prod.mk false)=L;rw[show(L.map λ_=>PV.bl true)=(L.map λ_=>true).map PV.bl by rw[D8];rfl,Ag];dsimp only;rw[show(L.map λ_=>true).all id=true by rw[Be];exact E9.mpr λ_ _=>rfl];exact h
end
end Tb
end
section
namespace Tb
open PySem L2 Pu
theorem TX {zs:List Str}{ts us:List PV}(hz:RowS zs)(h24:zs.length<=24)(l1:ts.length<=24)(l2:us.length<=24)(t1:∀t∈ts,TnS t)(t2:∀t∈us,TnS t):Show 4 30000 (.tup [rowP zs,.tup [.tup ts,.tup us]]):=by
 have s1:Show 3 9000 (rowP zs):=(RD hz.2 h24).le (by decide) (by decide);have tt:∀l:List PV,l.length<=24->(∀t∈l,TnS t)->Show 1 2100 (.tup l):=λl hl ht=>(Show.tup (d:=0) (c:=82) (l:=24) (λy hy=>(ht y hy).2) hl).le (by decide) (by decide)
 have s2:Show 3 9000 (.tup [.tup ts,.tup us]):=by
  refine(Show.tup (d:=1) (c:=2100) (l:=2) (λy hy=>?_) (by simp)).le (by decide) (by decide);simp only[C9,k8,or_false] at hy;rcases hy with rfl|rfl
  ·exact tt _ l1 t1
  ·exact tt _ l2 t2
 refine(Show.tup (d:=3) (c:=9000) (l:=2) (λy hy=>?_) (by simp)).le (by decide) (by decide);simp only[C9,k8,or_false] at hy;rcases hy with rfl|rfl
 ·exact s1
 ·exact s2
theorem m_law (ns:List Int)(hl:ns.length<=63):Ga ⟨λ_ _=>False,λr _=>r=.bl true,λ_ _=>False,λ_ _=>False⟩ (P0 ["_law_script","_law_place","_law_hand_here","_law_many","_law_reach","_law_boats_here","_law_start","_law_marks","_law_torn","_law_words","_law_kept"] [.scr ns]) 0:=by
 unfold Ga;walk_at "p2"
 have cl:(J9 PV.int (cutP ns none (some 3))).length<=3:=by
  rw[A9];unfold cutP;rw[sx_int (by decide),HT.sIx_none,List.drop_zero,M6];omega
 generalize hk:(J9 PV.int (cutP ns none (some 3))).length=k;rw[hk] at cl;refine⟨⟨by omega,by omega⟩,?_⟩;refine R8 (λi env m=>∃(s1 s2 s3 s4 s5 s6 s7 s8 s9 s10:Option Slot),env=[some (.v (.scr ns)),s1,s2,s3,s4,s5,s6,s7,s8,s9,s10]/\m<=3000*i) _ 0 _ _ ⟨_,_,_,_,_,_,_,_,_,_,rfl,by omega⟩ (λi x env m N ex hI hN=>?_) (λenv m hI=>trivial);obtain⟨s1,s2,s3,s4,s5,s6,s7,s8,s9,s10,rfl,hm⟩:=hI;obtain⟨hi,rfl⟩:=Co ex;rw[E2] at hm hN;have hi9:i<=8:=by omega
 refine Ao λU hU=>?_;walk_at "p2";refine⟨⟨hl,by omega,by omega⟩,λq=>?_⟩;subst hU;refine Ao λU hU=>?_
 have body:∀(many rc n1:Nat),1<=many->many<=7->rc<8->n1<=m+4->U { nx:=N,rt:=λr x=>r=PV.bl true,bk:=λe m=>True,ct:=N } [some (.v (.scr ns)),some (.v (.int (0+(i:Int)))),some (.v (.pot q)),some (.v (.int (many:Int))),some (.v (.int (rc:Int))),s5,s6,s7,s8,s9,s10] n1:=λmany rc n1 m1 m7 hrc hn=>by
  rw[hU];walk_at "p2";rw[show(many:Int)+1=((many+1:Nat):Int) by omega];refine Tp (by omega) (by omega) (by omega) λzs n2 hz1 hz2 hn2=>?_;have hz1:zs.length=many+1:=by omega
  have hcut:cutP (zs.map PV.str) none (some (many:Int))=(zs.take many).map PV.str:=by rw[cut_hd,List.map_take]
  have hst:RowS (zs.take many):=⟨hz2.1.sublist (List.take_sublist _ _),λz hz=>hz2.2 z (Ep hz)⟩;have lst:(zs.take many).length=many:=by rw[M6];omega
  have hbs:∀y∈zs.map PV.str,TnS y:=λy hy=>by
   obtain⟨z,hz,rfl⟩:=C0.mp hy;exact MN (hz2.2 z hz)
  have lbs:(zs.map PV.str).length=zs.length:=A9 ..;generalize hB:zs.map PV.str=B at hcut hbs lbs;dsimp only;rw[hcut];generalize hs:zs.take many=sz at hst lst;refine m_word (by omega) (by omega) λms n3 hm2 hrun hn3=>?_;have ssl:ms.length=sz.length:=by omega
  have eT:evT sz ms ms.length=(shE 0 [] ms).map (evOf sz):=by unfold evT;rw[x4]
  have fr:Fair sz (evT sz ms ms.length):=by rw[eT];exact LB hst.1 ssl
  refine Ed (r:=(rc:Int)) ssl (by omega) hst.1 hrun ?_
  have hms:∀y∈ms.map mkP,TnS y:=λy hy=>by
   obtain⟨m,_,rfl⟩:=C0.mp hy;exact tn_mk m
  have pr:(aft sz (evT sz ms ms.length)).Perm sz:=by rw[LC fr];exact Rw fr.sub
  have hrow:∀y∈(aft sz (evT sz ms ms.length)).map PV.str,TnS y:=λy hy=>by
   obtain⟨z,hz,rfl⟩:=C0.mp hy;exact MN (hst.2 z (pr.mem_iff.mp hz))
  have lrow:((aft sz (evT sz ms ms.length)).map PV.str).length=sz.length:=by rw[A9,Cu]
  have lms:(ms.map mkP).length=ms.length:=A9 ..;refine m_torn hbs hms hrow (by omega) (by omega) (by omega) (by omega) (by omega) (by omega) λts us n4 l1 l2 t1 t2 hn4=>?_;have sh:=TX hst (by omega) l1 l2 t1 t2;have t1':∀t∈ts,TnP t:=λt ht=>(t1 t ht).1;have t2':∀t∈us,TnP t:=λt ht=>(t2 t ht).1;refine TD m7 ?_;rw[show((evE (rc:Int) many many).map λp=>PV.tup (p.1.map mkP))=(evW (rc:Int) many).map wP by unfold evW;rw[D8];rfl];have le:(evW (rc:Int) many).length<=4 ^ many:=by unfold evW;rw[A9];exact Go many
  have l4:4 ^ many<=4 ^ 7:=x8 (by decide) m7
  have hsame:∀w,w∈(evW (rc:Int) many).filter (fitW sz ts us)↔w∈fitL rc sz ts us:=λw=>by
   unfold fitL;rw[M7,M7,Jj,w5,lst]
  have okB:∀w∈(evW (rc:Int) many).filter (fitW sz ts us),w.length=sz.length/\Pu.run (rc:Int) 0 [] w=some []:=λw hw=>by
   rw[lst];exact Jj.mp (M7.mp hw).1
  have lB:((evW (rc:Int) many).filter (fitW sz ts us)).length<=100000:=E5 (Gx _ _) (by omega);have okE:∀w∈evW (rc:Int) many,w.length=sz.length/\Pu.run (rc:Int) 0 [] w=some []:=λw hw=>by rw[lst];exact Jj.mp hw
  have fk:=λ(w:List Mk) hw m (Q:PV->Nat->Prop)=>m_fits (r:=(rc:Int)) (n:=m) (R:=Q) (okE w hw).1 (by omega) hst.1 (okE w hw).2 t1' t2' (by omega) (by omega);have mr:=λne n (R:PV->Nat->Prop)=>TW (n:=n) (R:=R) (r:=(rc:Int)) (W:=fitL rc sz ts us) ne hsame okB (by omega) (by omega) hst.1 lB;have mm:=λn (R:PV->Nat->Prop)=>TR (n:=n) (R:=R) (r:=rc) hrc (zs:=sz) (ts:=ts) (bs:=us) (by omega) (by omega) hst.1 t1' t2' (by omega) (by omega);dsimp only;refine⟨by rw[A9];omega,?_⟩;unfold rowP at sh mm mr fk
  have fin:∀L,(λr n2=>match r with
      |PV.bl b=>if(!b)=true then PV.bl false=PV.bl true else Br (PV.tup [PV.tup (J9 PV.str sz),PV.tup [PV.tup ts,PV.tup us]]) λz_1=>cmpb 4 z_1=true/\cmpb 4 (.str (DQ (PV.tup [PV.tup (J9 PV.str sz),PV.tup [PV.tup ts,PV.tup us]])))=true/\if(!eqP z_1 (.str (DQ (PV.tup [PV.tup (J9 PV.str sz),PV.tup [PV.tup ts,PV.tup us]]))))=true then PV.bl false=PV.bl true else N [some (.v (.scr ns)),some (.v (.int (0+(i:Int)))),some (.v (.pot q)),some (.v (.int (many:Int))),some (.v (.int (rc:Int))),some (.v (.tup B)),some (.v (.tup (sz.map PV.str))),some (.v (.tup (ms.map mkP))),some (.v (.tup [.tup ts,.tup us])),some (.v (.lst L)),some (.v (.str (DQ (PV.tup [PV.tup (J9 PV.str sz),PV.tup [PV.tup ts,PV.tup us]]))))] n2
      |_=>False:PV->Nat->Prop) (.bl true) n4:=λL=>by
    refine if_f rfl (KT sh.sh (E5 sh.de (by decide)) (E5 sh.co (by decide)) ⟨rfl,rfl,if_f (by rw[M9,jq rfl];rfl) ?_⟩);exact hN _ _ ⟨_,_,_,_,_,_,_,_,_,_,rfl,by omega⟩
  refine DW wP (fitW sz ts us) (evW (rc:Int) many) _ _ _ (λw hw m Q q=>?_) ?_
  ·have k:=fk w hw;unfold fitW rowW at q;unfold wP at q ⊢;generalize w.map mkP=M at *;generalize sz.map PV.str=Z at *;walk_at "p2";exact k _ _ q
  refine KT sh.sh (E5 sh.de (by decide)) (E5 sh.co (by decide)) ?_;refine mm _ _ (λe0=>?_) (λne=>?_)
  ·have eB:(evW (rc:Int) many).filter (fitW sz ts us)=[]:=List.eq_nil_iff_forall_not_mem.mpr λw hw=>by
    have:=(hsame w).mp hw;rw[e0] at this;cases this
   rw[eB,List.map_nil];exact TV (zs:=sz) (fin _)
  ·exact mr ne _ _ (fin _)
 walk_at "p2";refine⟨by omega,λd d0 d1=>⟨by omega,λe e0 e1=>⟨by omega,λf f0 f1=>?_⟩⟩⟩
 by_cases c:f=0
 ·simp only[jq c,reduceIte];rw[show atI [PV.int (1+d),PV.int (6+e)] 1=some (.int (6+e)) from e9 (j:=1) rfl];refine⟨by omega,λg g0 g1=>?_⟩;rw[show 6+e=((6+e.toNat:Nat):Int) by omega,show g=(g.toNat:Int) by omega];exact body _ _ _ (by omega) (by omega) (by omega) (by omega)
 ·simp only[jr c,F2,reduceIte];rw[show atI [PV.int (1+d),PV.int (6+e)] 0=some (.int (1+d)) from e9 (j:=0) rfl];refine⟨by omega,λg g0 g1=>?_⟩;rw[show 1+d=((1+d.toNat:Nat):Int) by omega,show g=(g.toNat:Int) by omega];exact body _ _ _ (by omega) (by omega) (by omega) (by omega)
end Tb
end
section
namespace L2
open PySem PySem.Spec PyProof.Rows
def CPowB (i j:Int):Prop:=0<=j/\(Builtin.Int.intBits i:Int)*j<=2 ^ 27
theorem TY {X:Cx}:OpR X (Q5 .Pow) (rI CPowB λi j=>.int (i ^ j.toNat)):=opI λ_ _ _ _ _ _ _ hc q=>pow_int hc.1 hc.2 q
end L2
namespace Tb
open PySem L2 Pu
def tIfS0 (u v:TS)(D:Ends)(σ:St)(H:Hp):Prop:=u { D with nx:=λσ H=>v D σ H } σ H
section
variable {P:C3}{w:B8}{K:A7}{mg:Str->Option A1}{base:B1}
theorem TZ (F:Fn0 K mg "_law_hand" (top 24))(m_len:mg "len"=none)(m_abs:mg "abs"=none):Kn P w K mg base "_law_hand" 1 ["_law_script","_law_place"] (Pu.spPot K):=by
 have sc:p7 ["_law_script","_law_place","_law_cell","_law_digits"] ["_law_script","_law_place"] (G5 (top 24)):=⟨rfl,rfl,rfl,by decide +kernel,rfl,by decide +kernel,by decide +kernel⟩;refine F.ok sc (λvs H Q E h=>?_) (λ_ _ _ _ _ _=>bd2 λ_ _=>rfl) (λf jo A outer s H vs Q E hr h=>?_)
 ·obtain⟨a,ns,k,rfl,_⟩:=h
  rfl
 obtain⟨a,ns,k,rfl,hS,h0,h1,q⟩:=h
 refine⟨_,(e7 (Bm (i:=2) sc.nd rfl (Or.inl rfl) F4)
     (e7 (GN (Fb op_lt (pv 1) (Bp JU rfl m_len Ke (F5 (pv 0) K5)) (Cg _)) (Dt (Bm (i:=2) sc.nd rfl (Or.inl rfl) (Bp NR rfl m_abs bt_abs (F5 (p8 Ac (pv 0) (pv 1) (λ_ _=>rfl)) K5)))) GL)
     (e7 (Bm (i:=3) sc.nd rfl (Or.inl rfl) (Jx (Fb op_ge (pv 2) (G8 JB F4 F4) (Cg _)) (G8 AF (pv 2) (G8 TY (G8 JB F4 F4) F4)) F4))
     (Dt (Du (JI (F5 (pv 3) (F5 (G8 Bn (G8 Bn (G8 AF (pv 2) F4) (G8 Cf F4 (pv 1))) F4) (F5 F4 K5))))))))),?_⟩
 have sq:∀(u v:TS) (D:Ends) (σ:St) (x:V) (i:Nat),tIfS0 u v D (σ.set i (some x)) H->tSeq (tAsg (tC x) (P9 i)) (tSeq u v) D σ H:=λ_ _ _ _ _ _ h=>h;refine sq _ _ _ _ _ _ ?_;unfold tIfS0;refine OY (λσ' H'=>∃c:Int,0<=c/\σ'=[some (.ref a),some (.int k),some (.int c),none]/\H'=H) (λkey=>?_) ?_
 ·refine⟨_,rfl,_,rfl,a,_,rfl,.inl hS,_,_,rfl,rfl,_,rfl,?_⟩;refine ite2 (λc=>?_) (λc=>?_)
  ·have c':k<(((ns.map V.int).length:Nat):Int):=jv c;rw[A9] at c';obtain⟨v,qa⟩:=L2.at_map (ns:=ns) h0 c';exact⟨_,rfl,_,rfl,a,_,_,_,rfl,rfl,hS,qa,_,rfl,key _ _ ⟨_,by split <;> omega,rfl,rfl⟩⟩
  ·exact key _ _ ⟨0,by decide,rfl,rfl⟩
 rintro σ' H' ⟨c,c0,rfl,eH⟩;subst eH;dsimp only;have sq2:∀(u:TE) (v:TS) (D:Ends) (σ:St) (i:Nat),u σ H' (λx H=>v D (σ.set i (some x)) H)->tSeq (tAsg u (P9 i)) v D σ H':=λ_ _ _ _ _ h=>h;refine sq2 _ _ _ _ _ ?_;refine OR (λv=>∃o:Int,v=.int o/\0<=o) (λkey=>?_) ?_
 ·refine⟨_,rfl,_,_,rfl,rfl,⟨by decide,by decide,by decide⟩,_,_,rfl,rfl,_,rfl,?_⟩;exact ite2 (λ_=>⟨_,rfl,_,_,rfl,rfl,⟨by decide,by decide,by decide⟩,_,_,rfl,rfl,⟨by decide,by decide +kernel⟩,_,_,rfl,rfl,(by show(0:Int)<(10 ^ Int.toNat 60) ^ Int.toNat 17;decide +kernel),key _ ⟨_,rfl,o6 _ (by decide +kernel)⟩⟩) (λ_=>key _ ⟨_,rfl,by decide⟩)
 rintro v ⟨o,rfl,o0⟩;have m0:=o6 c (show(2305843009213693951:Int)≠0 by decide);have m1:=y8 c (show(0:Int)<2305843009213693951 by decide);refine⟨_,rfl,_,rfl,_,_,rfl,rfl,(by show(0:Int)<2305843009213693951;decide),_,rfl,_,_,rfl,rfl,.inl ⟨by decide,by decide⟩,_,_,rfl,rfl,_,_,rfl,rfl,(by show 3<=B7;decide),λp hp=>?_⟩;exact q p _ _ hp ⟨o0,by omega,by omega,by decide,by decide⟩
theorem T_ (F:Fn0 K mg "_law_take" (top 25)):Kn P w K mg base "_law_take" 1 ["_law_hand_here","_law_many"] (Ck K potL R7):=by
 refine PM ?_;have sc:p7 ["_law_hand_here","_law_many","_law_digit","_law_turn","_law_mixed"] ["_law_hand_here","_law_many"] (G5 (top 25)):=⟨rfl,rfl,rfl,by decide +kernel,rfl,by decide +kernel,by decide +kernel⟩;refine F.ok sc (λvs H Q E h=>?_) (λ_ _ _ _ _ _=>bd2 λ_ _=>rfl) (λf jo A outer s H vs Q E hr h=>?_)
 ·obtain⟨p,own,seed,go,many,rfl,_⟩:=h
  rfl
 obtain⟨p,own,seed,go,many,rfl,hp,⟨o0,s0,s1,g0,g1⟩,g2,n0,n1,q⟩:=h
 refine⟨_,(e7 (GN (Fb op_gt (p8 Ac (pv 0) F4 (λ_ _=>rfl)) F4 (Cg _)) (e7 (Bm (i:=2) sc.nd rfl (Or.inl rfl) (G8 AF (p8 Ac (pv 0) F4 (λ_ _=>rfl)) (pv 1)))
     (e7 (E_ (G8 JA (p8 Ac (pv 0) F4 (λ_ _=>rfl)) (pv 1)) (EZ (pv 0) F4 Fc))
     (Dt (Du (pv 2))))) GL)
     (e7 (E_ (G8 Bn (p8 Ac (pv 0) F4 (λ_ _=>rfl)) F4) (EZ (pv 0) F4 Fc))
     (e7 (Bm (i:=3) sc.nd rfl (Or.inl rfl) (p8 Ac (pv 0) F4 (λ_ _=>rfl)))
     (e7 (Bm (i:=4) sc.nd rfl (Or.inl rfl) (G8 AF (G8 Cf (G8 Bn (p8 Ac (pv 0) F4 (λ_ _=>rfl)) (G8 Cf F4 (pv 3))) (G8 Bn F4 (G8 Cf (pv 3) (pv 3)))) F4))
     (e7 (E_ (G8 AF (G8 Cf (pv 4) (G8 Bn (G8 AF (pv 4) F4) F4)) F4) (EZ (pv 0) F4 Fc))
     (Dt (Du (G8 AF (G8 JA (p8 Ac (pv 0) F4 (λ_ _=>rfl)) F4) (pv 1))))))))),?_⟩
 refine⟨_,rfl,p,_,0,_,rfl,rfl,SqL.of hp,rfl,_,_,rfl,rfl,_,rfl,?_⟩;refine ite2 (λc=>?_) (λc=>?_)
 ·refine⟨_,rfl,p,_,0,_,rfl,rfl,SqL.of hp,rfl,_,rfl,_,_,rfl,rfl,n0,?_⟩;refine⟨_,rfl,p,_,0,_,rfl,rfl,SqL.of hp,rfl,_,rfl,_,_,rfl,rfl,⟨n0,by omega⟩,?_⟩;refine⟨_,rfl,p,_,0,0,rfl,rfl,hp,rfl,?_⟩;refine⟨_,rfl,?_⟩;exact q _ _ _ _ (o6 _ (by omega)) (y8 _ n0) ⟨Int.ediv_nonneg o0 (by omega),s0,s1,g0,g1⟩ (by omega)
 ·refine⟨_,rfl,p,_,2,_,rfl,rfl,SqL.of hp,rfl,_,_,rfl,rfl,?_⟩;refine⟨_,rfl,p,_,2,2,rfl,rfl,hp,rfl,?_⟩;refine⟨_,rfl,p,_,2,_,rfl,rfl,SqL.of J0,rfl,?_⟩;refine⟨_,rfl,p,_,1,_,rfl,rfl,SqL.of J0,rfl,_,rfl,_,_,rfl,rfl,.inl ⟨by decide,by decide⟩,_,_,rfl,rfl,?_⟩;refine⟨_,rfl,_,rfl,_,_,rfl,rfl,.inl ⟨by omega,by omega⟩,_,_,rfl,rfl,_,_,rfl,rfl,?_⟩;refine⟨.inl ⟨by omega,by omega⟩,_,_,rfl,rfl,(by show(0:Int)<2305843009213693921;decide),?_⟩;dsimp only[P9];generalize (seed+39373*(go+1))*(48271+(go+1)*(go+1))=y;have m0:=o6 y (show(2305843009213693921:Int)≠0 by decide);have m1:=y8 y (show(0:Int)<2305843009213693921 by decide);generalize y%2305843009213693921=z at m0 m1 ⊢;refine⟨_,rfl,_,rfl,_,_,rfl,rfl,(by show(0:Int)<1000003;decide),_,_,rfl,rfl,_,_,rfl,rfl,.inl ⟨by omega,by omega⟩,_,_,rfl,rfl,(by show(0:Int)<2305843009213693907;decide),?_⟩;dsimp only;have r0:=o6 (z*(z%1000003+17)) (show(2305843009213693907:Int)≠0 by decide);have r1:=y8 (z*(z%1000003+17)) (show(0:Int)<2305843009213693907 by decide);generalize z*(z%1000003+17)%2305843009213693907=sd at r0 r1 ⊢;refine⟨_,rfl,p,_,1,1,rfl,rfl,J0,rfl,?_⟩;refine⟨_,rfl,p,_,1,_,rfl,rfl,SqL.of J0,rfl,_,_,rfl,rfl,⟨by decide,by decide⟩,_,rfl,_,_,rfl,rfl,n0,?_⟩
  have e:∀(o o':HO),upd (upd H p o) p o'=upd H p o':=λo o'=>by
   funext b
   unfold upd
   by_cases hb:b=p <;> simp[hb]
  show Q _ (upd (upd H p _) p _);rw[e];exact q _ _ _ _ (o6 _ (by omega)) (y8 _ n0) ⟨o0,r0,by omega,by omega,by omega⟩ (by omega)
theorem Ua (F:Fn0 K mg "_law_hand" (top 24))(m_len:mg "len"=none)(m_abs:mg "abs"=none):Kn P w K mg base "_law_hand" 1 ["_law_script","_law_place"] (Pu.DO K):=Qj (TZ F m_len m_abs)
end
end Tb
end
section
namespace Pu
open PySem PySem.Spec L2
def tgN:Expr->List Str
 |.Name x _=>[x]
 |.Tuple es _ _=>es.flatMap λe=>match e with|.Name x _=>[x]|_=>[]
 |_=>[]
def capN:List (Option Nat)->List Str->List Str->List Str
 |none::cs,o::os,N=>o::capN cs os N
 |some j::cs,os,N=>N.getD j C5::capN cs os N
 |_,_,_=>[]
section
variable {T:PotK}{ι:Type}{K:A7}{F:ι->Cx}{pg pg1 pg2:pG}{pos:Pos}{N0:List Str}{scope:E3}{cl:ι->List (Str×A0)}{cs:List (Option Nat)}{ji tg iter t1 i1 t2 i2:Expr}{jk:List Expr}{pi pi1 pi2:pA}{ptt:pT}{pte:pE}
abbrev FC (F:ι->Cx)(scope:E3)(cl:ι->List (Str×A0))(N:List Str)(y:ι×List A0×A0×A4×Hp):Cx:=D1 (F y.1) scope (cl y.1) N y.2.1 y.2.2.1 y.2.2.2.1 y.2.2.2.2
theorem Ub (nd:N0.Nodup)(hi:QI T K F tg iter pi)
   (hg:(capN cs (tgN tg) N0).Nodup->QG K (FC F scope cl (capN cs (tgN tg) N0)) tg pg) (ht:(capN cs (tgN tg) N0).Nodup->QIf T K (FC F scope cl (capN cs (tgN tg) N0)) jk ptt) (he:(capN cs (tgN tg) N0).Nodup->QE T K (FC F scope cl (capN cs (tgN tg) N0)) ji pte)
   (e0:∀z,(F z).N=N0) (S:∀z,R5 (F z) scope (cl z) (capN cs (tgN tg) N0) cs) (h:(capN cs (tgN tg) N0).Nodup) (hc:∀z,(F z).calm=true) (hs:∀z x,G7 iter (F z).env x=pure x):QN T K F (.ListComp ji [⟨tg,iter,jk,0⟩] scope pos) (E6 cs pi pg ptt pte):=Ht S hc hi (hg h) (ht h) (he h) hs
theorem Uc (nd:N0.Nodup)(hi:QI T K F tg iter pi)
   (hg:(capN cs (tgN tg) N0).Nodup->QG K (FC F scope cl (capN cs (tgN tg) N0)) tg pg) (ht:(capN cs (tgN tg) N0).Nodup->QIf T K (FC F scope cl (capN cs (tgN tg) N0)) jk ptt) (he:(capN cs (tgN tg) N0).Nodup->QE T K (FC F scope cl (capN cs (tgN tg) N0)) ji pte)
   (e0:∀z,(F z).N=N0) (S:∀z,R5 (F z) scope (cl z) (capN cs (tgN tg) N0) cs) (h:(capN cs (tgN tg) N0).Nodup) (hc:∀z,(F z).calm=true) (hs:∀z x,G7 iter (F z).env x=pure x):QNC T K F (.ListComp ji [⟨tg,iter,jk,0⟩] scope pos) (E6 cs pi pg ptt pte):=Qm S hc hi (hg h) (ht h) (he h) hs
theorem Ud (nd:N0.Nodup)(hi:QI T K F t1 i1 pi1)
   (hg:(capN cs (tgN t1++tgN t2) N0).Nodup->QG K (FC F scope cl (capN cs (tgN t1++tgN t2) N0)) t1 pg1) (hi2:(capN cs (tgN t1++tgN t2) N0).Nodup->QI T K (FC F scope cl (capN cs (tgN t1++tgN t2) N0)) t2 i2 pi2) (hg2:(capN cs (tgN t1++tgN t2) N0).Nodup->QG K (FC F scope cl (capN cs (tgN t1++tgN t2) N0)) t2 pg2) (ht:(capN cs (tgN t1++tgN t2) N0).Nodup->QIf T K (FC F scope cl (capN cs (tgN t1++tgN t2) N0)) jk ptt) (he:(capN cs (tgN t1++tgN t2) N0).Nodup->QE T K (FC F scope cl (capN cs (tgN t1++tgN t2) N0)) ji pte)
   (e0:∀z,(F z).N=N0) (S:∀z,R5 (F z) scope (cl z) (capN cs (tgN t1++tgN t2) N0) cs) (h:(capN cs (tgN t1++tgN t2) N0).Nodup) (hc:∀z,(F z).calm=true) (hs:∀z x,G7 i1 (F z).env x=pure x) (hs2:∀z fp C s H x,G7 i2 (D1 (F z) scope (cl z) (capN cs (tgN t1++tgN t2) N0) fp C s H).env x=pure x):QN T K F (LC2 ji t1 i1 t2 i2 jk scope pos) (U6 cs pi1 pg1 pi2 pg2 ptt pte):=Sz S hc hi (hg h) (hi2 h) (hg2 h) (ht h) (he h) hs hs2
theorem Ue (nd:N0.Nodup)(hi:QI T K F t1 i1 pi1)
   (hg:(capN cs (tgN t1++tgN t2) N0).Nodup->QG K (FC F scope cl (capN cs (tgN t1++tgN t2) N0)) t1 pg1) (hi2:(capN cs (tgN t1++tgN t2) N0).Nodup->QI T K (FC F scope cl (capN cs (tgN t1++tgN t2) N0)) t2 i2 pi2) (hg2:(capN cs (tgN t1++tgN t2) N0).Nodup->QG K (FC F scope cl (capN cs (tgN t1++tgN t2) N0)) t2 pg2) (ht:(capN cs (tgN t1++tgN t2) N0).Nodup->QIf T K (FC F scope cl (capN cs (tgN t1++tgN t2) N0)) jk ptt) (he:(capN cs (tgN t1++tgN t2) N0).Nodup->QE T K (FC F scope cl (capN cs (tgN t1++tgN t2) N0)) ji pte)
   (e0:∀z,(F z).N=N0) (S:∀z,R5 (F z) scope (cl z) (capN cs (tgN t1++tgN t2) N0) cs) (h:(capN cs (tgN t1++tgN t2) N0).Nodup) (hc:∀z,(F z).calm=true) (hs:∀z x,G7 i1 (F z).env x=pure x) (hs2:∀z fp C s H x,G7 i2 (D1 (F z) scope (cl z) (capN cs (tgN t1++tgN t2) N0) fp C s H).env x=pure x):QNC T K F (LC2 ji t1 i1 t2 i2 jk scope pos) (U6 cs pi1 pg1 pi2 pg2 ptt pte):=SY S hc hi (hg h) (hi2 h) (hg2 h) (ht h) (he h) hs hs2
end
end Pu
end
section
namespace Tb
open PySem L2 Pu
structure HY where
 P:C3
 w:B8
 K:A7
 mg:Str->Option A1
 base:B1
 f0:Fn0 K mg "_law_hand" (top 24)
 f1:Fn0 K mg "_law_take" (top 25)
 f2:Fn0 K mg "_law_boats" (top 26)
 f3:Fn0 K mg "_law_torn_off" (top 32)
 f4:Fn0 K mg "_law_opened" (top 27)
 f5:Fn0 K mg "_law_closes" (top 28)
 f6:Fn0 K mg "_law_word" (top 29)
 f7:Fn0 K mg "_law_row_of" (top 31)
 f8:Fn0 K mg "_law_every" (top 30)
 f9:Fn0 K mg "_law_fits" (top 33)
 f10:Fn0 K mg "_law_alike" (top 34)
 f11:Fn0 K mg "_law_paper_right" (top 35)
 f12:Fn0 K mg "_law_right" (top 36)
 f13:Fn0 K mg "longer" (top 13)
 f14:Fn0 K mg "all_words" (top 14)
 f15:Fn0 K mg "agrees" (top 17)
 f16:Fn0 K mg "is_mark" (top 9)
 f17:Fn0 K mg "is_word" (top 10)
 f18:Fn0 K mg "touches_of" (top 5)
 f19:Fn0 K mg "exchanged" (top 2)
 f20:Fn0 K mg "row_behind" (top 6)
 f21:Fn0 K mg "sheet_of" (top 4)
 f22:Fn0 K mg "sheet_by" (top 11)
 f23:Fn0 K mg "row_by" (top 16)
 f24:Fn0 K mg "fits_torn" (top 18)
 f25:Fn0 K mg "words_that_fit" (top 19)
 f26:Fn0 K mg "common" (top 20)
 f27:Fn0 K mg "papers_of" (top 21)
 f28:Fn0 K mg "mended" (top 22)
 f29:Fn0 K mg "law" (top 37)
 m0:mg "abs"=none
 m1:mg "all"=none
 m2:mg "any"=none
 m3:mg "bool"=none
 m4:mg "enumerate"=none
 m5:mg "int"=none
 m6:mg "isinstance"=none
 m7:mg "len"=none
 m8:mg "list"=none
 m9:mg "min"=none
 m10:mg "range"=none
 m11:mg "repr"=none
 m12:mg "set"=none
 m13:mg "sorted"=none
 m14:mg "str"=none
 m15:mg "tuple"=none
 m16:mg "zip"=none
 c0:Num0 mg "MOST_BOATS" 24
 c1:Tup0 K mg "MARKS" [B0 "d",B0 "o",B0 "t",B0 "u"]
section
variable (y:HY)
abbrev KK (x:Str)(k:Nat)(ps:List Str)(b:pF):Prop:=Kn y.P y.w y.K y.mg y.base x k ps (Ck y.K potL b)
theorem kA {x:Str}{st:Stmt}{N ps:List Str}{k:Nat}{body:pS}(F0:Fn0 y.K y.mg x st)(h:∀{f:A0} {jo:A1} {A:C8} {outer:List PySem.Env} {s:A4} {H:Hp} {E:XK},N.Nodup->Room k (A.deeper (GC x (G5 st) s.heap.objs.size f jo))->QSs potL false y.K (λ_:Unit=>(cxOf CX0 y.P y.w y.K y.mg y.base N x (G5 st) f jo A outer s H E).nox) (R4 st) body)(sc:p7 N ps (G5 st):=by exact⟨rfl,rfl,rfl,by decide +kernel,rfl,by decide +kernel,by decide +kernel⟩)(bd:∀(kV doc pm:A1) (an:Option A0) (jo ct:A1) (us:List A1),us.length=ps.length->bindArgs (Y0 x x (p9 st) (R4 st) (G5 st) .none kV doc pm an jo ct) ⟨us,[]⟩=pure (ps.zip us):=by intro _ _ _ _ _ _;first|exact bd1 λ_=>rfl|exact bd2 λ_ _=>rfl|exact bd3 λ_ _ _=>rfl|exact bd4 λ_ _ _ _=>rfl|exact bd5 λ_ _ _ _ _=>rfl):KK y x (k+1) ps (fnP N ps body):=fn_ok F0 sc bd λ_ _ _ _ _ _ _ hr=>h sc.nd hr
local macro_rules | `(tactic| walk_at "s")=>`(tactic| exact fun _=>GY rfl rfl rfl rfl (by first | exact trivial | exact⟨rfl,trivial⟩ | exact⟨rfl,rfl,trivial⟩ | exact⟨rfl,rfl,rfl,trivial⟩ | exact⟨rfl,rfl,rfl,rfl,trivial⟩ | exact⟨rfl,rfl,rfl,rfl,rfl,trivial⟩ | exact⟨rfl,rfl,rfl,rfl,rfl,rfl,trivial⟩) rfl rfl rfl)
set_option hygiene false in
local macro_rules | `(tactic| walk_at "d")=>`(tactic| (first | exact rfl | (show Kn _ _ _ _ _ _ _ _ _;first | exact Uf y | exact Ug y | exact Uh y | exact Ui y | exact Uj y | exact Uk y | exact Ul y | exact Um y | exact Uo y | exact Up y | exact Uq y | exact Ur y | exact Us y | exact Ut y | exact Uu y | exact Uv y | exact Uw y | exact Ux y | exact Uy y | exact Uz y | exact UA y | exact UB y | exact UC y | exact UD y | exact UE y | exact UF y | exact UG y | exact UH y) | (with_reducible assumption) | (intro _;first | exact rfl | exact vw _ | exact hr | exact y.m7 | exact Py | exact sw_asg | exact y.m10 | exact y.m15 | exact KB (i:=_) (j:=_) rfl (by assumption) rfl rfl (by decide) rfl rfl rfl | exact(by assumption) | exact y.m16 | exact y.m6 | exact y.m1 | exact y.m4 | exact tyw rfl y.m15 Kg | exact Hw (vw _) | exact y.m8 | exact y.m2 | exact y.m13 | exact y.m11 | exact tyw rfl y.m3 OM | exact y.m9 | exact sw_aug (i:=_) (by assumption) rfl (Or.inl rfl) Qh | exact tyw rfl y.m14 bt_str | exact y.c0 | exact y.m12 | exact UI y | exact y.m5 | exact⟨rfl,rfl,rfl,rfl,rfl,rfl⟩ | exact PassesOwn.never | exact fun _=>rfl | exact Or.inl rfl | exact Or.inr rfl | exact fun _ _ _ _ _=>rfl | walk_at "r") | exact Cg _ | exact sws _ (by assumption) | walk_at "r" | exact cEq _ fun _=>hr | exact cNe _ fun _=>hr | exact cLe | exact cIsNot | exact cIs | exact cIn _ fun _=>hr | exact cLt | exact cGt | exact fun _ _ _ h1 h2=>Rq y.K rfl (Hw (vw _) (by intro _;rfl) _ h1) (Hw (vw _) (by intro _;rfl) _ h2) | exact cNotIn _ fun _=>hr | exact Su | exact y.c1 | decide | decide +kernel | walk_at "s") <;> walk_at "d")
local macro_rules | `(tactic| walk_at "r")=>`(tactic| first | (with_reducible first | apply qv | apply Pg | apply qa_nil | apply Ky | apply DA | apply qf | apply gn | apply qe_str | apply qt_cmp | apply Af | apply Hv | apply Hq | apply qs_if | apply QN.ee | apply qe_tup | apply Px | apply qn_lst | apply qe_add | ((apply Kz;with_unfolding_all exact sws _ (by assumption))) | apply Ku | apply Kw | apply Kv | apply qr_own | apply DJ | apply qs_for | apply Ub | apply Pz | apply qe_bl | apply Hc | apply qw_or | apply qe_sub | apply Hi | apply ql_v | apply Kx | apply qe_sl | apply qo_no | apply Pi | apply Ho | apply qt_not | apply qw_or1 | apply Hr | ((apply qs_own;with_unfolding_all exact sws _ (by assumption))) | apply qi_tup | ((apply qs_par;with_unfolding_all exact fun _=>KB (i:=_) (j:=_) rfl (by assumption) rfl rfl (by decide) rfl rfl rfl)) | apply Hk | apply qs_asg | apply Uc | apply qi_zip | apply qe_isi | apply Pw | apply qw_and | apply Pe | apply qe_one | apply ql_o | apply Qn | apply Hn | apply qe_and | apply qs_put | apply qe_ixR | apply Lc | apply PP | apply Qo | apply PN | apply qe_mul | apply qn_cat | apply qe_neg | apply Pm | apply Rr | apply PL | apply qe_any | apply PB | apply SZ | apply Rp | apply PR | apply qe_mod | apply Pt | apply qe_rev | apply qe_not | apply Ue | apply qe_min | apply Qi | apply Ud | apply SV | apply qe_or | apply qe_inC | apply Pd | apply qe_num | apply Qc | apply Ss | apply Qk | apply Pl | apply Hj | apply QE.r | apply QW.qt | apply Hu) | (with_unfolding_all apply PC) | (with_unfolding_all apply qe_pop) | (with_unfolding_all apply Qd))
local macro_rules | `(tactic| walk_at "k")=>`(tactic| (show QSs _ _ _ _ (_::_) _;walk_at "d"))
theorem UI:Kn y.P y.w y.K y.mg y.base "_law_hand" 1 ["_law_script","_law_place"] (DO y.K):=Ua (P:=y.P) (w:=y.w) (base:=y.base) y.f0 y.m7 y.m0
theorem Uf:KK y "_law_take" 1 ["_law_hand_here","_law_many"] R7:=T_ (P:=y.P) (w:=y.w) (base:=y.base) y.f1
theorem Ug:KK y "_law_boats" 2 ["_law_hand_here","_law_many"] Ik:=kA y y.f2 λ_ hr=>by delta Ij;walk_at "k"
theorem Uh:KK y "_law_torn_off" 2 ["_law_hand_here","_law_boats_here","_law_marks","_law_row"] Im:=kA y y.f3 λ_ hr=>by delta Il;walk_at "k"
theorem Ui:KK y "_law_opened" 1 ["_law_opened_here","_law_mark","_law_place","_law_reach"] FS:=kA y y.f4 λ_ hr=>by delta Io;walk_at "k"
theorem Uj:KK y "_law_closes" 1 ["_law_opened_here","_law_place","_law_many","_law_reach"] CD:=kA y y.f5 λ_ hr=>by delta Ip;walk_at "k"
theorem Uk:KK y "_law_word" 2 ["_law_hand_here","_law_many","_law_reach"] Ir:=kA y y.f6 λ_ hr=>by delta Iq;walk_at "k"
theorem Ul:KK y "_law_row_of" 1 ["_law_start","_law_marks"] AR:=kA y y.f7 λ_ hr=>by delta Iu;walk_at "k"
theorem Um:KK y "_law_every" 2 ["_law_many","_law_reach"] Iw:=kA y y.f8 λ_ hr=>by delta Iv;walk_at "k"
theorem Uo:KK y "_law_fits" 2 ["_law_start","_law_torn","_law_marks"] Iy:=kA y y.f9 λ_ hr=>by delta Ix;walk_at "k"
theorem Up:KK y "_law_alike" 1 ["_law_rows"] FT:=kA y y.f10 λnd hr=>(Hu (Hv (Ho (λ_=>rfl) (λ_=>y.m15) (QE.r (QN.ee (Mu (N:=["_law_k","_law_rows"]) (cs:=[none,some 0]) (λ_=>Mt rfl rfl rfl ⟨rfl,trivial⟩ (λ_=>rfl) rfl (λ_=>rfl)) (λ_=>rfl) (Kx (λ_=>rfl) (λ_=>y.m10) (Ku (λ_=>rfl) (λ_=>y.m7) (QE.r (Af (qv 0) DA)))) (gn 0 (show Ax (["_law_k","_law_rows"]:List Str) by decide +kernel)) DJ (Hk (Hj (Hn (λ_=>rfl) (λ_=>rfl) (λ_=>y.m1) (QE.r (QN.ee (Ht (N:=["_law_row","_law_k","_law_rows"]) (cs:=[none,some 0,some 1]) (λ_=>GY rfl rfl rfl rfl ⟨rfl,⟨rfl,trivial⟩⟩ rfl rfl rfl) (λ_=>rfl) (Hr (qv 1)) (gn 0 (show Ax (["_law_row","_law_k","_law_rows"]:List Str) by decide +kernel)) DJ (Hi (cEq 4 λ_=>hr) (Af (qv 0) (qv 1)) (QE.r (Af (Af (qv 2) DA) (qv 1))) (Cg _))))))) (Af (Af (qv 1) DA) (qv 0)) Hc)))))))
theorem Uq:KK y "_law_paper_right" 2 ["_law_start","_law_words","_law_due","_law_paper"] CF:=kA y y.f11 λ_ hr=>by delta Iz;walk_at "k"
theorem Ur:KK y "_law_right" 3 ["_law_start","_law_words","_law_found"] FV:=kA y y.f12 λ_ hr=>by delta FU;walk_at "k"
theorem Us:KK y "longer" 1 ["singles","closed","shorter","reach"] FW:=kA y y.f13 λ_ hr=>by delta IA;walk_at "k"
theorem Ut:KK y "all_words" 2 ["many","reach"] FX:=kA y y.f14 λ_ hr=>by delta IB;walk_at "k"
theorem Uu:KK y "agrees" 1 ["torn","whole"] FY:=kA y y.f15 λ_ hr=>by delta IC;walk_at "k"
theorem Uv:KK y "is_mark" 1 ["thing"] IE:=kA y y.f16 λ_ hr=>by delta ID;walk_at "k"
theorem Uw:KK y "is_word" 2 ["reach","thing"] FZ:=kA y y.f17 λ_ hr=>by delta IF;walk_at "k"
theorem Ux:KK y "touches_of" 1 ["events"] IH:=kA y y.f18 λ_ hr=>by delta IG;walk_at "k"
theorem Uy:KK y "exchanged" 1 ["row","one","other"] IJ:=kA y y.f19 λ_ hr=>by delta II;walk_at "k"
theorem Uz:KK y "row_behind" 2 ["start","sheet"] IL:=kA y y.f20 λ_ hr=>by delta IK;walk_at "k"
theorem UA:KK y "sheet_of" 1 ["events"] Mw:=kA y y.f21 λ_ hr=>by delta IM;walk_at "k"
theorem UB:KK y "sheet_by" 2 ["start","word"] IP:=kA y y.f22 λ_ hr=>by delta IN;walk_at "k"
theorem UC:KK y "row_by" 3 ["start","word"] Ea:=kA y y.f23 λ_ hr=>by delta IQ;walk_at "k"
theorem UD:KK y "fits_torn" 4 ["start","reach","torn","thing"] IS:=kA y y.f24 λ_ hr=>by delta IR;walk_at "k"
theorem UE:KK y "words_that_fit" 5 ["start","reach","torn"] IU:=kA y y.f25 λ_ hr=>by delta IT;walk_at "k"
theorem UF:KK y "common" 1 ["tuples"] Eb:=kA y y.f26 λnd hr=>(Ky (Kz 1 (sws 1 nd) (Af (qv 0) DA))
   (Hu (Hv (Ho (λ_=>rfl) (λ_=>y.m15) (QE.r (QN.ee (Mu (N:=["place","part","tuples"]) (cs:=[none,none,some 0]) (λ_=>Mt rfl rfl rfl ⟨rfl,trivial⟩ (λ_=>rfl) rfl (λ_=>rfl)) (λ_=>rfl) (Lc (λ_=>rfl) (λ_=>y.m4) (qv 1)) (Kw (λ_=>rfl) (Hq (gn 0 (show Ax (["place","part","tuples"]:List Str) by decide +kernel)) (Hq (gn 1 (show Ax (["place","part","tuples"]:List Str) by decide +kernel)) Kv))) DJ (Hk (Hj (Hn (λ_=>rfl) (λ_=>rfl) (λ_=>y.m1) (QE.r (QN.ee (Ht (N:=["one","part","place"]) (cs:=[none,some 1,some 0]) (λ_=>GY rfl rfl rfl rfl ⟨rfl,⟨rfl,trivial⟩⟩ rfl rfl rfl) (λ_=>rfl) (Hr (qv 2)) (gn 0 (show Ax (["one","part","place"]:List Str) by decide +kernel)) DJ (Hi (cEq 4 λ_=>hr) (Af (qv 0) (qv 2)) (QE.r (qv 1)) (Cg _))))))) (qv 1) Hc))))))))
theorem UG:KK y "papers_of" 2 ["kind","words","tuples"] F_:=kA y y.f27 λ_ hr=>by delta IV;walk_at "k"
theorem UH:KK y "mended" 6 ["start","reach","torn"] IX:=kA y y.f28 λ_ hr=>by delta IW;walk_at "k"
theorem k_law:Kn y.P y.w y.K y.mg y.base "law" 7 ["_law_script"] (Fg y.K):=by
 have sc:p7 ["_law_script","_law_place","_law_hand_here","_law_many","_law_reach","_law_boats_here","_law_start","_law_marks","_law_torn","_law_words","_law_kept"] ["_law_script"] (G5 (top 37)):=⟨rfl,rfl,rfl,by decide +kernel,rfl,by decide +kernel,by decide +kernel⟩;have nd:=sc.nd;exact law_ok (T:=potL) y.f29 sc (λ_ _ _ _ _ _=>bd1 λ_=>rfl) (k:=6) (body:=Ga) (λ_ _ _ _ _ _ _ hr=>by delta Ga;walk_at "k") m_law
end
end Tb
open PySem PySem.W PyProof.Rows L2 Tb
set_option hygiene false in
local macro_rules | `(tactic| walk_at "F")=>`(tactic| (dsimp only [KOf];refine' fn0_mk KX G ?a ?l ?c ?k;(case a=>k_is);(case l=>k_is);(case c=>k_is);(case k=>k_is)))
set_option hygiene false in
local macro_rules | `(tactic| walk_at "Z")=>`(tactic| (refine PySem.W.mg_none_of (K:=KOf KX) KX G ?_;dsimp only [KOf];k_is))
set_option maxRecDepth 100000 in
set_option maxHeartbeats 0 in
theorem PySem.Challenge.cw_touchboats_k30_torn_sheets_mended_holds : PySem.Challenge.rw_touchboats_k30_torn_sheets_mended.Holds := by
 w_on;o_law;k_head;(case hw=>w_witness2)
 k_fill
 refine OS (l:=PySem.Challenge.rw_touchboats_k30_torn_sheets_mended) (x:="_law_script") (k:=7) rfl rfl ⟨rfl,by decide,by decide,rfl⟩ (λw h Y=>PySem.W.kIn_of Y) ?F
 case F=>
  intro w mg h KX G;refine⟨top 37,by walk_at "F",λ_ _ _ _ _ _ s u=>.of_eq rfl,λbase kb nb=>?_⟩;refine k_law ⟨PySem.Challenge.rw_touchboats_k30_torn_sheets_mended.prog,w,KOf KX,mg,base,?_,?_,?_,?_,?_,?_,?_,?_,?_,?_,?_,?_,?_,?_,?_,?_,?_,?_,?_,?_,?_,?_,?_,?_,?_,?_,?_,?_,?_,?_,?_,?_,?_,?_,?_,?_,?_,?_,?_,?_,?_,?_,?_,?_,?_,?_,?_,?_,?_⟩ <;> first|walk_at "F"|walk_at "Z"|(dsimp only[KOf];refine' P_ KX G ?a ?l ?v ?z;(case a=>k_is);(case l=>k_is);(case v=>exact(Fs (Fs (Fs (Fs Qa)))));(case z=>decide))|(refine' Pa (K:=KOf KX) KX G ?a;(case a=>(dsimp only[KOf];k_is)))
end
