import PyProof.Rows.All
import Wide.All
import OpenK.AllK
import Wide.FinOn
import PyProof.EqAt
import PyProof.EqKinds
import PyProof.TupleCall
import PyProof.NeKinds
import PyProof.EnumMake
import PyProof.ConsumeWalk
import KE.LcSums
import PyProof.ReprLen
import PyProof.StrLawsRepr
import PyProof.Rows.StrNews2
import PyProof.Rows.SetFrom
import PyProof.WalksMore
import PyProof.StrLawsChain
import PyProof.StrLawsTight
import PyProof.StrLawsIdx
import PyProof.ZipIter
import PyProof.Draws
import PyProof.Rows.FactsT2
import PyProof.ListStr
import PyProof.Rows.StrPartPair
import KE.KSortTup
import KE.KDictSum
import KE.KRevIter
import KE.KSortKey
import KE.KLam
import KE.KNestM
import PyProof.DictItems
import KE.KPairComp
import PyProof.AutoSeq1
import PyProof.SetNew
import PyProof.AttrMissHeap
import KE.KDictOf
import PyProof.CollectIter
import PyProof.IsRules
import Lean
import PySem.Challenge.RW_touchboats_k11_whole_any_order
set_option Elab.async false
set_option linter.all false
set_option maxRecDepth 100000
set_option maxHeartbeats 4000000
namespace PySem.W.Fast
def tw16917159999986671364:=0
def tw2153542050279687543:=0
def tw10719576448652821929:=0
def tw2584131728924840111:=0
def tw8348978640020417429:=0
def tw2587052129716305808:=0
def tw5421444601453173462:=0
def tw11654522859309746500:=0
def tw446418908729456965:=0
def tw12844551735890701797:=0
def tw92841774481745731:=0
def tw14400940180904196110:=0
def tw2480340951256155001:=0
def tw4476131885912270568:=0
def tw18162356815359801529:=0
def tw2659778639816545908:=0
def tw8907450405429391283:=0
def tw11152430576331460505:=0
def tw3124425649742563832:=0
def tw5067599168441008188:=0
def tw4650922589472241649:=0
def tw7205993791831536844:=0
def tw7882094499104464272:=0
def tw17298899405352908894:=0
def tw9722715352682373265:=0
def tw10252934570348890777:=0
def tw10165606522502906349:=0
def tw17332108757828702143:=0
def tw771543744647595366:=0
def tw4341995456075581793:=0
def tw4724572928439531810:=0
def tw6140708557846110039:=0
def tw3248113774246061024:=0
def tw4792690246446131944:=0
def tw15510488130843992008:=0
def tw9028197913116523668:=0
def tw13521205728316191969:=0
def tw14231204883243158042:=0
end PySem.W.Fast
open PySem renaming wpAny_bind->A2,wpAny_pure->B2,Value->A1,Shared->A5,wpAny->A6,Addr->A0,model->A7,sizeLine->C8,wpAny_holding->J7,Program->D1,wpAny_mono->G7,assignEach->J3,wpAny_newObj_type->Q1,foldedSetIterable->Q9,wpAny_callSpecial?_slot->X8,sizeLine_eq->K9,wpAny_call_entry->R0,starEach->F5,bootBuiltins->O2,Around->D5,wpAny_setState_of->V9,wpAny_truthy_bool->X9,wpAny_standAt->R7,compareOp->M1,mem_of_lookup->l7,World->C9,sysModules->O3,wpAny_seqItems->W0,wpAny_field->R1,codeAny_builtin->c8,mainGlobals->T7,letOwnedTupleGo->l8,Heap->B6,codeAny->M5,wpAny_pyIter_tuple->Br,plainId_quiet->l9,wpAny_setField_rec->Bs,SetTable->P4,isSubtype_type->v5,wpAny_setField->w4,wpAny_passesOwn->At,wpAny_pyIter_list->Bt,keywordEach->d5,wpAny_getItem_str_slice->Ef,Builtin->O4,wpAny_attempt->w5,wpAny_setEntries_of->CH,Scope->G0,wpAny_specialOf->Bu,assignInOrder->Au,wpAny_assign_Name->CJ,wpAny_rule->d7,binaryOp->T8,behindInMarks->Av,attributeBase->Aw,wpAny_isInstance->CK,codeAny_mono->Ax,wpAny_typeOf->Ay,swapsWith->d8,swapsWithSole->Bv,swappedStores->Bw,wpAny_Call_Name_kw->Eg,Keyword->R8,holding->T9,sliceBounds->Az,wpAny_bindName->CL,bindArgs->Y0,wpAny_askSetting->Eh,wpAny_forIn_list->Ei,bindName->d9,backToKw->e6,wpAny_newList->CM,wpAny_execs_nil->Ej,theTreesLotGoes->Ek,post_val_or_str->Em,standAt->e7
open PySem.W renaming Frag->A9,kia_one->Y1,fnOf->W1,kas_place->V1,kas_rev->P5,kas_sort->R3,kas_asc->U1,kitOne->CN,keepIn->CP,kas_desc->h9,codeIn->Eo,methodObj->Gz
open PySem.Heap renaming get?_push_of_some->C2,lt_size->C4,get?_push_size->E9,size_push->Y2,SameBut->V2,get?_update_other->Bx,get?_update_self->By,ExtBut->CQ
open List renaming length_map->B4,mem_cons_of_mem->C5,mem_cons_self->C6,getElem?_eq_getElem->D8,length_append->D4,getElem?_eq_some_iff->G4,mem_singleton->E1,mem_cons->D0,mem_append->E2,size_toArray->G5,mem_of_getElem?->J8,getElem?_map->G9,mem_append_right->M2,all_eq_true->J4,map_cons->F2,mem_map->E5,length_cons->K2,getElem?_set_self->O7,length_singleton->O8,mem_filter->K6,getElem?_set_ne->P6,append_assoc->N6,zip_cons_cons->O9,range->F6,length_take->N7,map_append->M6,getElem?_append_right->Y3,mem_range->M7,getElem?_append_left->Y4,pairwise_iff_getElem->Y5,length_set->P0,nodup_cons->Q2,mem_of_mem_take->W3,getElem?_eq_none->Y6,getD_eq_getElem?_getD->w6,Nodup->L6,mem_flatMap->U2,append_nil->R9,length_replicate->i3,drop_eq_getElem_cons->w8,eq_nil_of_length_eq_zero->Bz,flatMap_cons->Y7,mem_append_left->n6,length_drop->Y8,any_eq_true->Y9,filter_cons_of_neg->AA,filter_cons_of_pos->AB,map_map->T0,pairwise_map->o5,length_range->o6,take_length->o7,take_of_length_le->BA,getElem?_cons_succ->CT,nil_append->w9,drop_of_length_le->CU,drop_length->AD,not_mem_nil->AE,length_filter_le->CV,mem_iff_getElem?->CW,mem_of_mem_drop->CY,nodup_append->BB,filterMap_cons->CZ,set_comm->x4,getElem?_replicate->Ep,getElem_of_mem->C_,flatMap_append->Da,getElem_mem->BC,filter_cons->BD,replicate->AF,find?_cons->BE,foldl_cons->BF,length_eraseIdx_of_lt->GA,toList_toArray->Er,map_congr_left->Es,any_map->AG,eq_of_mem_replicate->GB,getElem?_cons_zero->GC,getElem?_drop->Et,take_append_drop->GE,cons_append->Eu,pairwise_append->GF,all_map->Db,nodup_nil->Ew
open PySem.Str renaming ofString->A8
open Nat renaming le_refl->C7,ne_of_lt->D3,lt_of_lt_of_le->K3,le_trans->J9,zero_add->K7,zero_le->K1,lt_succ_of_lt->U3,lt_irrefl->W4,lt_trichotomy->x5,le_of_lt->i4,ne_of_gt->i5,lt_of_le_of_lt->BG,sub_succ_lt_self->Dc,le_of_not_lt->BH,le_succ->o8,le_of_lt_succ->Dd,le_succ_of_le->Ex,lt_trans->BI,le_of_eq->BJ,sub_self->BK,lt_succ_self->Ey,pow_le_pow_right->GG,not_lt_zero->Ez,min_eq_left->EA,min_self->De
open Bool renaming false_eq_true->J5,false_ne_true->V3,and_eq_true->V4,eq_iff_iff->i6,false_and->p5,beq_eq_decide_eq->Df,true_and->x6,not_true->AH,or_false->BL,and_true->BM,or_eq_true->EB
open Array renaming length_toList->M8,getElem?_toList->Q3,getElem?_eq_getElem->Z0,getD_eq_getD_getElem?->AI,getElem?_eq_none->BN,perm_iff_toList_perm->GH,getElem?_eq_some_iff->GI,forIn_toList->EC,replicate->ED
open Option.some renaming inj->M9
open PySem.Obj renaming mapSeq->G8,data_mapFields->EE
open PySem.Heap.SameBut renaming update->R5
open PySem.Builtin.SmallTypes renaming nextOf->i7,ownedTupleIsFree->EF,ownedTupleHandOut->Js
open PySem.Value renaming type->K4,ref->L8,none->Z1
open PySem.Around renaming under_plainId->p6
open PyProof.Rows.F renaming plain_set_update_loop->AJ,entry_set_update_loop->EG
open Classical renaming byContradiction->BO
open PyProof.Rows renaming assignInOrder_cons->x8,slot_tuple_getitem->EH,callWith_type1->EI,get?_update_seq->BP,listUpdate_at->AK,envOfC->EJ,assignInOrder_nil->EK
open PySem.Builtin.Str renaming occurrences->BQ
open ForInStep renaming yield->i8
open Sum renaming inr->M3,inl->O5
open Array.Perm renaming refl->x9
open PySem.Builtin.List renaming listExtendWith->EL,listSameRef->EM,listLengthHint->GJ,listTooLong->GK
open PySem.F renaming slot_tuple_iterator_next->EN,plainAttrs_list->EO,args_tuple_add_2->GL,entry_tuple_add->GM,slot_tuple_add->GN,slot_zip_next->EQ
open Int renaming emod_lt_of_pos->BR,toNat_natCast->BS,eq_ofNat_of_zero_le->ER,emod_nonneg->BT
open PySem.Builtin.Slice renaming slicePlaces->ES,sliceAdjust->GO,sliceApplied->Jt
open Option renaming isSome_iff_exists->ET,getD_some->Dg
open PySem.Builtin.Tuple renaming tupleExact->EU,tupleItemsOf->Ju
open PySem.AutoSeq1 renaming wpAny_loadPart'->EV
open False renaming elim->i9
open True renaming intro->p7
open PySem.SetTable renaming grown->Dh
open PySem.SeqAt renaming RcNeAt->BU,EqAt->AL,RcAt->BV
open PySem.Walks renaming tuple->BW
open List.Perm renaming swap->EX
open List.Pairwise renaming nil->GP
open PySem.Paired renaming length->EY
open Prod.mk renaming inj->Di
open PySem.Data renaming fields->Dj
open PySem.Txt renaming mul->p8
theorem jq{p:Prop}[Decidable p](h:p):decide p=true:=decide_eq_true h
theorem jr{p:Prop}[Decidable p](h:¬p):decide p=false:=decide_eq_false h
theorem jt{c:Prop}{h:Decidable c}(i:c){α:Type}{t e:α}:ite c t e=t:=if_pos i
theorem ju{c:Prop}{h:Decidable c}(i:¬c){α:Type}{t e:α}:ite c t e=e:=if_neg i
theorem jv{p:Prop}[Decidable p](h:decide p=true):p:=of_decide_eq_true h
local macro_rules|`(tactic|omega)=>`(tactic|lia)
section
namespace L2
open PySem PySem.Spec PyProof.Rows
abbrev Key:=Sum Int Str
def BX:Key->A1->Bool
 |.inl k,v=>Value.isInt k v
 |.inr x,v=>Value.isStrOf x v
def keyH (w:C9):Key->Int
 |.inl k=>hashInt k
 |.inr x=>hashStr w x
theorem j3:∀{k:Key} {v:A1},BX k v=true->(∃i t,k=O5 i/\v=Value.int i t)\/(∃x t,k=M3 x/\v=Value.str x t)
 | .inl i, v, h => by
  obtain⟨t,e⟩:=Value.isInt_shape (k:=i) (v:=v) h;exact .inl ⟨i,t,rfl,e⟩
 | .inr x, v, h => by
  obtain⟨t,e⟩:=Value.isStrOf_shape (x:=x) (v:=v) h;exact .inr ⟨x,t,rfl,e⟩
theorem NR (i:Int)(t:Tok):BX (.inl i) (.int i t)=true:=by simp[BX,Value.isInt]
theorem NT (x:Str)(t:Tok):BX (.inr x) (.str x t)=true:=by simp[BX,Value.isStrOf]
theorem key_ll (a b:Int):decide ((O5 a:Key)=O5 b)=(a == b):=by grind
theorem key_rr (a b:Str):decide ((M3 a:Key)=M3 b)=decide (a=b):=by simp
theorem key_lr (a:Int)(b:Str):decide ((O5 a:Key)=M3 b)=false:=rfl
theorem key_rl (a:Str)(b:Int):decide ((M3 a:Key)=O5 b)=false:=rfl
def J6 (prog:D1)(w:C9):PySem.KeyKind prog w Key where
 is:=BX
 hash:=keyH w
 inj:=fun v a b ha hb=>by
  rcases j3 ha with⟨i,t,rfl,rfl⟩|⟨x,t,rfl,rfl⟩
  ·rcases j3 hb with⟨j,u,rfl,e⟩|⟨y,u,rfl,e⟩
   ·injection e with e1 _;rw[e1]
   ·exact nomatch e
  ·rcases j3 hb with⟨j,u,rfl,e⟩|⟨y,u,rfl,e⟩
   ·exact nomatch e
   ·injection e with e1 _;rw[e1]
 byValue:=λk v h=>by
  rcases j3 h with⟨i,t,rfl,rfl⟩|⟨x,t,rfl,rfl⟩ <;> rfl
 pyHash:=λhv h=>by
  rcases j3 hv with⟨i,t,rfl,rfl⟩|⟨x,t,rfl,rfl⟩
  ·exact wpAny_pyHash_int h
  ·exact wpAny_pyHash_str h
 eqBool:=λhu hv h=>by
  rcases j3 hu with⟨i,t,rfl,rfl⟩|⟨x,t,rfl,rfl⟩
  ·rcases j3 hv with⟨j,u,rfl,rfl⟩|⟨y,u,rfl,rfl⟩
   ·rw[key_ll] at h;exact wpAny_eqBool_int h
   ·rw[key_lr] at h;exact SeqAt.EqAt.int_str i t y u _ _ _ _ h
  ·rcases j3 hv with⟨j,u,rfl,rfl⟩|⟨y,u,rfl,rfl⟩
   ·rw[key_rl] at h;exact SeqAt.EqAt.str_int x t j u _ _ _ _ h
   ·rw[key_rr] at h;exact wpAny_eqBool_str h
 «strs»:=λk x t v h=>by
  rcases j3 h with⟨i,u,rfl,e⟩|⟨y,u,rfl,e⟩
  ·exact nomatch e
  ·injection e with e1 _;subst e1;cases v <;> rfl
theorem Jv (prog:D1)(w:C9)(i:Int)(t:Tok):(J6 prog w).is (.inl i) (.int i t)=true:=NR i t
theorem GQ (prog:D1)(w:C9)(x:Str)(t:Tok):(J6 prog w).is (.inr x) (.str x t)=true:=NT x t
inductive V where
 |non|bl (b:Bool)|int (i:Int)|str (x:Str)|byt (b:Array UInt8)|flt (b:UInt64)|ref (a:A0)|ty (n:String)
 deriving DecidableEq
def RelV:V->A1->Prop
 |.non,u=>u=Z1
 |.bl b,u=>u=Value.bool b
 |.int i,u=>∃t,u=Value.int i t
 |.str x,u=>∃t,u=Value.str x t
 |.byt b,u=>∃t,u=Value.bytes b t
 |.flt b,u=>∃t,u=Value.float b t
 |.ref a,u=>u=L8 a
 |.ty n,u=>u=K4 n
abbrev Vals:List V->List A1->Prop:=Paired RelV
theorem Vals.length (r:Vals xs us):xs.length=us.length:=EY r
theorem Vals.get:∀{xs:List V} {us:List A1} {i:Nat} {x:V},Vals xs us->xs[i]?=some x->∃u,us[i]?=some u/\RelV x u
 |_,_,_,_,.nil,e=>by simp at e
 |_,_,0,_,.cons r _,e=>by simp at e;subst e;exact⟨_,rfl,r⟩
 | _, _, i + 1, x, .cons _ t, e => by
  obtain⟨u,h1,h2⟩:=Vals.get (i:=i) (x:=x) t (by grind);exact⟨u,by simpa using h1,h2⟩
theorem Vals.set (r:RelV x u):∀{xs:List V} {us:List A1} (i:Nat),Vals xs us->Vals (xs.set i x) (us.set i u)
 |_,_,_,.nil=>.nil
 |_,_,0,.cons _ t=>.cons r t
 |_,_,i+1,.cons q t=>.cons q (Vals.set r i t)
theorem Vals.append (h:Vals xs us)(s:Vals ys ws):Vals (xs++ys) (us++ws):=by
 induction h with
 |nil=>exact s
 |cons r _ ih=>exact .cons r ih
theorem Vals.take:∀{xs:List V} {us:List A1} (n:Nat),Vals xs us->Vals (xs.take n) (us.take n)
 |_,_,0,_=>.nil
 |_,_,_+1,.nil=>.nil
 |_,_,n+1,.cons r t=>.cons r (Vals.take n t)
theorem Vals.drop:∀{xs:List V} {us:List A1} (n:Nat),Vals xs us->Vals (xs.drop n) (us.drop n)
 |_,_,0,r=>r
 |_,_,_+1,.nil=>.nil
 |_,_,n+1,.cons _ t=>Vals.drop n t
def RelO:Option V->Option A1->Prop
 |some v,some u=>RelV v u
 |none,none=>True
 |_,_=>False
def KV {κ:Type}:List (κ×V)->List (κ×A1)->Prop:=Paired λ(p:κ×V) (q:κ×A1)=>p.1=q.1/\RelV p.2 q.2
def kV:Key->V
 |.inl i=>.int i
 |.inr x=>.str x
inductive HO where
 /-- a list -/
 |lst (xs:List V)
 /-- a tuple (never changes) -/
 |tup (xs:List V)
 /-- a dict whose keys are ints and Q4; one whose keys are tuples of ints and Q4 (the empty one is both) -/
 |dK (jg:List (Key×V))|dT (jg:List (List Key×V))
 /-- a set of ints: jf members, jf size -/
 |set (S:Key->Bool) (n:Nat)
 /-- an instance of the class at C, jf dict at dx, jf attributes -/
 |ins (C dx:A0) (fs:List (Str×V))
 /-- the dict of the instance at x -/
 |own (x:A0)
 /-- the dict of an exception -/
 |xd (fs:List (Str×V))
 /-- a bound method, f of x -/
 |met (f x:A0)
 /-- a range object lo, lo + 1, .. below hi -/
 |rng (lo hi:Int)
 /-- a thing that is known to the object (the script; a dict while a loop walks it): read, never written while it is so -/
 |frz (o:Obj) (u:HO)
 /-- a code object's table -/
 |tbl (ps:Array A1)
 /-- any ja thing, by what is true of jf one object (a def of one's own: SetO a S n := HO.ext fun h => ..) -/
 |ext (φ:B6->Prop)
abbrev Hp:=A0->Option HO
def upd (H:Hp)(a:A0)(o:HO):Hp:=λb=>if b=a then some o else H b
theorem E8:upd H a o a=some o:=by unfold upd;rw[jt rfl]
theorem C3 (h:b≠a):upd H a o b=H b:=by unfold upd;rw[ju h]
theorem Z2 {H:Hp}(h:H a=some o)(h':H b=none):a≠b:=by
 intro e;subst e;rw[h] at h';cases h'
def j6 (h:B6)(a:A0)(items:Array A1):Prop:=∃o,h.get? a=some o/\(o.cls,o.dict)=(K4 "tuple",none)/\∃n,o.data=.seq items n
theorem j6.is (x:j6 h a items):IsTup h a items:=let ⟨o,e,c,r⟩:=x;⟨o,e,(Di c).1,r⟩
theorem j6.lt (x:j6 h a items):a<h.objs.size:=let ⟨_,e,_⟩:=x;C4 e
theorem j6.new (h:B6)(items:Array A1):j6 (h.push { cls:=.type "tuple",data:=.seq items }) h.objs.size items:=⟨_,E9 _ rfl,rfl,_,rfl⟩
section
variable (P:D1)(w:C9)
def J0 (H:Hp)(h:B6)(a:A0):HO->Prop
 |.lst xs=>xs.length<=C8/\∃(jf:List A1) (n:Nat),Vals xs jf/\h.get? a=some { cls:=.type "list",data:=.seq jf.toArray n }
 |.tup xs=>xs.length<=C8/\∃jf:List A1,Vals xs jf/\j6 h a jf.toArray
 |.dK jg=>jg.length<=C8/\(a == O3)=false/\∃vs,KV jg vs/\h.DictOf (J6 P w) a vs
 |.dT jg=>jg.length<=C8/\(a == O3)=false/\∃xs:List (List Key×A0×A1),
     Paired (λ(p:List Key×V) (q:List Key×A0×A1)=>p.1=q.1/\H q.2.1=some (.tup (p.1.map kV))/\RelV p.2 q.2.2) jg xs/\
     ∃o es ep,h.get? a=some o/\o.ExactDict/\o.data=.dict es ep/\es.toList=xs.map (entryOfKey (tupleKind (J6 P w)))/\(xs.map (·.1)).Nodup
 |.set S n=>h.SetOf (J6 P w) a S n
 |.ins C dx fs=>H dx=some (.own a)/\fs.length<=1000/\dx≠a/\h.get? a=some (PySem.W.instObj C dx)/\
     ∃mA,h.Ns1 dx mA/\(∀f,RelO (fs.lookup f) (mA f))/\PySem.Within mA (fs.map (·.1))
 |.own _=>∃o,h.get? a=some o
 |.xd fs=>∃mA,h.Ns1 a mA/\∀f,RelO (fs.lookup f) (mA f)
 |.rng lo hi=>∃t u v,h.get? a=some { cls:=.type "range",data:=.fields #[.int lo t,.int hi u,.int 1 v] }
 |.frz o u=>h.get? a=some o/\J0 H h a u
 |.tbl ps=>h.get? a=some { cls:=.none,data:=.fields ps }
 |.met f x=>h.get? a=some (Gz (.ref f) (.ref x))
 |.ext φ=>φ h/\(∃o,h.get? a=some o)/\∀h1 h2:B6,φ h1->(∀o,h1.get? a=some o->h2.get? a=some o)->φ h2
def HOk (H:Hp)(h:B6):Prop:=∀a o,H a=some o->J0 P w H h a o
end
section
variable {P:D1}{w:C9}{H H':Hp}{h h':B6}{a:A0}{o:HO}
theorem J0.lt (x:J0 P w H h a o):a<h.objs.size:=by
 cases o with
 |lst xs=>obtain⟨_,_,_,_,e⟩:=x;exact C4 e
 |tup xs=>obtain⟨_,_,_,p⟩:=x;exact p.lt
 |dK jg=>obtain⟨_,_,_,_,o,_,_,e,_⟩:=x;exact C4 e
 |dT jg=>obtain⟨_,_,_,_,o,_,_,e,_⟩:=x;exact C4 e
 |set S n=>obtain⟨o,_,_,_,e,_⟩:=x;exact C4 e
 |ins C dx fs=>obtain⟨_,_,_,e,_⟩:=x;exact C4 e
 |own y=>obtain⟨_,e⟩:=x;exact C4 e
 |xd fs=>obtain⟨_,⟨_,_,_,e,_⟩,_⟩:=x;exact C4 e
 |rng lo hi=>obtain⟨_,_,_,e⟩:=x;exact C4 e
 |frz ob u=>obtain⟨e,_⟩:=x;exact C4 e
 |tbl ps=>exact C4 (show h.get? a=some _ from x)
 |met f y=>exact C4 (show h.get? a=some _ from x)
 |ext φ=>obtain⟨_,⟨_,e⟩,_⟩:=x;exact C4 e
theorem Paired.mapP {α β:Type}{F G:α->β->Prop}{l₁:List α}{l₂:List β}(h:Paired F l₁ l₂)(f:∀a b,F a b->G a b):Paired G l₁ l₂:=by
 induction h with
 |nil=>exact .nil
 |cons r _ ih=>exact .cons (f _ _ r) ih
theorem Paired.imp' {α β:Type}{F G:α->β->Prop}(f:∀a b,F a b->G a b){l₁:List α}{l₂:List β}(r:Paired F l₁ l₂):Paired G l₁ l₂:=Paired.mapP r f
theorem J0.stay (x:J0 P w H h a o)(k:∀b u,(b=a\/H b=some (.own a))->h.get? b=some u->h'.get? b=some u)
   (ho:∀b,H b=some (.own a)->H' b=some (.own a)) (ht:∀b xs,H b=some (.tup xs)->H' b=some (.tup xs)):J0 P w H' h' a o:=by
 induction o with
 |lst xs=>obtain⟨z,jf,n,r,e⟩:=x;exact⟨z,jf,n,r,k _ _ (.inl rfl) e⟩
 |tup xs=>obtain⟨z,jf,r,ob,e,c⟩:=x;exact⟨z,jf,r,ob,k _ _ (.inl rfl) e,c⟩
 |dK jg=>obtain⟨z,y,vs,r,ob,es,ep,e,c⟩:=x;exact⟨z,y,vs,r,ob,es,ep,k _ _ (.inl rfl) e,c⟩
 | dT jg =>
  obtain⟨z,y,xs,r,ob,es,ep,e,c⟩:=x;exact⟨z,y,xs,Paired.mapP r λp q z=>⟨z.1,ht _ _ z.2.1,z.2.2⟩,ob,es,ep,k _ _ (.inl rfl) e,c⟩
 |set S n=>obtain⟨ob,es,ep,t,e,c⟩:=x;exact⟨ob,es,ep,t,k _ _ (.inl rfl) e,c⟩
 | ins C dx fs =>
  obtain⟨d,z,ne,e,mA,⟨od,es,ep,e2,c⟩,r⟩:=x;exact⟨ho _ d,z,ne,k _ _ (.inl rfl) e,mA,⟨od,es,ep,k _ _ (.inr d) e2,c⟩,r⟩
 |own y=>obtain⟨ob,e⟩:=x;exact⟨ob,k _ _ (.inl rfl) e⟩
 |xd fs=>obtain⟨mA,⟨od,es,ep,e,c⟩,r⟩:=x;exact⟨mA,⟨od,es,ep,k _ _ (.inl rfl) e,c⟩,r⟩
 |rng lo hi=>obtain⟨t,u,v,e⟩:=x;exact⟨t,u,v,k _ _ (.inl rfl) e⟩
 |frz ob u ih=>obtain⟨e,q⟩:=x;exact⟨k _ _ (.inl rfl) e,ih q⟩
 | tbl ps =>
  have e:h.get? a=some { cls:=.none,data:=.fields ps }:=x;show h'.get? a=some { cls:=.none,data:=.fields ps };exact k a _ (.inl rfl) e
 | met f y =>
  have e:h.get? a=some (Gz (.ref f) (.ref y)):=x;show h'.get? a=some (Gz (.ref f) (.ref y));exact k a _ (.inl rfl) e
 |ext φ=>obtain⟨p,⟨o,e⟩,st⟩:=x;exact⟨st _ _ p λo q=>k _ _ (.inl rfl) q,⟨o,k _ _ (.inl rfl) e⟩,st⟩
theorem HOk.lt (x:HOk P w H h)(e:H a=some o):a<h.objs.size:=(x a o e).lt
theorem HOk.fresh (x:HOk P w H h)(e:h.objs.size<=a):H a=none:=by
 cases q:H a with
 |none=>rfl
 |some u=>exact absurd (K3 (x.lt q) e) (W4 _)
theorem HOk.kept (x:HOk P w H h)(k:∀b u,h.get? b=some u->h'.get? b=some u):HOk P w H h':=λa o e=>
 (x a o e).stay (λb u _ q=>k b u q) (λ_ q=>q) λ_ _ q=>q
theorem HOk.laid (x:HOk P w H h)(k:∀b u,h.get? b=some u->h'.get? b=some u)(hp:h.objs.size<=a)(new:J0 P w (upd H a o) h' a o):HOk P w (upd H a o) h':=λb u e=>by
 have hn:=x.fresh hp
 by_cases hb:b=a
 ·subst hb;rw[E8] at e;cases e;exact new
 ·rw[C3 hb] at e;exact(x b u e).stay (λc v _ q=>k c v q) (λc q=>by rw[C3 (Z2 q hn)];exact q) λc xs q=>by rw[C3 (Z2 q hn)];exact q
end
def Rd (H:Hp)(a:A0)(u:HO):Prop:=H a=some u\/∃o,H a=some (.frz o u)
theorem Rd.ok (r:Rd H a u)(x:HOk P w H h):J0 P w H h a u:=by
 rcases r with r|⟨o,r⟩
 ·exact x a u r
 ·obtain⟨_,q⟩:=x a _ r;exact q
def Mut:Option HO->Prop
 |some (.lst _)=>True
 |some (.dK _)=>True
 |some (.dT _)=>True
 |some (.set _ _)=>True
 |some (.ins _ _ _)=>True
 |some (.ext _)=>True
 |_=>False
section
variable {P:D1}{w:C9}{H:Hp}{h h':B6}{x e:A0}{o':HO}
theorem HOk.write (ok:HOk P w H h)(mu:Mut (H x))(he:e=x\/H e=some (.own x))(k:∀b u,b≠e->h.get? b=some u->h'.get? b=some u)(heo:∃u,h'.get? e=some u)
   (new:J0 P w (upd H x o') h' x o'):HOk P w (upd H x o') h':=λb u q=>by
 have nown:∀c y,H c=some (.own y)->c≠x:=λc y r z=>by subst z;rw[r] at mu;exact mu
 have ntup:∀c xs,H c=some (.tup xs)->c≠x:=λc xs r z=>by subst z;rw[r] at mu;exact mu
 by_cases hb:b=x
 ·subst hb;rw[E8] at q;cases q;exact new
 ·rw[C3 hb] at q
  by_cases hbe:b=e
  ·have q':H b=some (.own x):=by
    rcases he with z|z
    ·exact absurd (hbe.trans z) hb
    ·rw[hbe];exact z
   rw[q] at q';cases q';obtain⟨v,hv⟩:=heo;exact⟨v,by rw[hbe];exact hv⟩
  ·refine(ok b u q).stay (λc v hc r=>k c v ?_ r) (λc r=>by rw[C3 (nown c b r)];exact r) λc xs r=>by rw[C3 (ntup c xs r)];exact r
   rcases hc with rfl|hc
   ·exact hbe
   ·rintro rfl;rcases he with z|z
    ·exact nown c b hc z
    ·rw[hc] at z;cases z;exact hb rfl
end
def NS (H:Hp):Prop:=H O3=none\/∃o u,H O3=some (.frz o u)
structure Un (fs ex:List A0)(H H':Hp)(h h':B6):Prop where
 keep:∀b o,h.get? b=some o->H b=none->b∉fs->b∉ex->h'.get? b=some o
 slot:∀b o,h.get? b=some o->H b=none->b∈fs->b∉ex->∃sl,h'.get? b=some { o with slots:=sl }
 free:∀b o,h.get? b=some o->H b=none->b∉ex->H' b=none
 there:∀b o,h.get? b=some o->b∉ex->∃o',h'.get? b=some o'
 tups:∀b xs,H b=some (.tup xs)->H' b=some (.tup xs)
 frzs:∀b o u,H b=some (.frz o u)->H' b=some (.frz o u)
 tbls:∀b ps,H b=some (.tbl ps)->∃more,H' b=some (.tbl (ps++more))
 sys:NS H->NS H'
section
variable {fs fs' ex ex':List A0}{H H1 H2:Hp}{h h1 h2 h':B6}{a x e:A0}{o:HO}
theorem Un.any (u:Un fs ex H H1 h h1)(q:h.get? b=some ob)(n:H b=none)(hx:b∉ex):∃sl,h1.get? b=some { ob with slots:=sl }:=by
 by_cases hb:b∈fs
 ·exact u.slot b ob q n hb hx
 ·exact⟨ob.slots,u.keep b ob q n hb hx⟩
theorem Un.kept (k:∀b u,h.get? b=some u->h'.get? b=some u):Un fs ex H H h h':=
 ⟨λb ob q _ _ _=>k b ob q,λb ob q _ _ _=>⟨ob.slots,k b ob q⟩,λ_ _ _ n _=>n,λb ob q _=>⟨ob,k b ob q⟩,λ_ _ q=>q,λ_ _ _ q=>q,λ_ ps q=>⟨#[],by rw[q];simp⟩,λz=>z⟩
theorem Un.refl:Un fs ex H H h h:=Un.kept λ_ _ q=>q
theorem Un.laid (k:∀b u,h.get? b=some u->h'.get? b=some u)(hp:h.objs.size<=a)(hn:H a=none)(hy:O3<h.objs.size):Un fs ex H (upd H a o) h h' where
 keep:=λb u q _ _ _=>k b u q
 slot:=λb u q _ _ _=>⟨u.slots,k b u q⟩
 free:=λb u q n _=>by rw[C3 (D3 (K3 (C4 q) hp))];exact n
 there:=λb u q _=>⟨u,k b u q⟩
 tups:=λb xs q=>by rw[C3 (Z2 q hn)];exact q
 frzs:=λb u xs q=>by rw[C3 (Z2 q hn)];exact q
 tbls:=λb ps q=>⟨#[],by rw[C3 (Z2 q hn),q];simp⟩
 sys:=λz=>by unfold NS;rw[C3 (D3 (K3 hy hp))];exact z
theorem Un.write (mu:Mut (H x))(he:e=x\/H e=some (.own x))(k:∀b u,b≠e->h.get? b=some u->h'.get? b=some u)(heo:∃u,h'.get? e=some u):Un fs ex H (upd H x o) h h':=by
 have hx:∀b,H b=none->b≠x:=λb n z=>by subst z;rw[n] at mu;exact mu
 have hb:∀b,H b=none->b≠e:=λb n z=>by
  subst z;rcases he with r|r
  ·exact hx b n r
  ·rw[n] at r;cases r
 have hm:∀b u,H b=some u->¬Mut (some u)->b≠x:=λb u q nm z=>by subst z;rw[q] at mu;exact nm mu
 refine⟨λb u q n _ _=>k b u (hb b n) q,λb u q n _ _=>⟨u.slots,k b u (hb b n) q⟩,λb u q n _=>by rw[C3 (hx b n)];exact n,λb u q _=>?_,
  λb xs q=>by rw[C3 (hm b _ q λz=>z)];exact q,λb u xs q=>by rw[C3 (hm b _ q λz=>z)];exact q,λb ps q=>⟨#[],by rw[C3 (hm b _ q λz=>z),q];simp⟩,λz=>by
   rcases z with z|⟨ob,u,z⟩
   ·exact .inl (by rw[C3 (hx _ z)];exact z)
   ·exact .inr ⟨ob,u,by rw[C3 (hm _ _ z λz=>z)];exact z⟩⟩
 by_cases hbe:b=e
 ·subst hbe;exact heo
 ·exact⟨u,k b u hbe q⟩
end
def trk (h:B6)(H:Hp):List A0:=(F6 h.objs.size).filter λa=>(H a).isSome
def hidT (h:B6)(H:Hp):B6:=PySem.W.hideAll h (trk h H)
theorem NU (h:B6)(H:Hp):(hidT h H).objs.size=h.objs.size:=PySem.W.hideAll_size _ _
theorem NV (e:h.get? b=some o)(n:H b=none):(hidT h H).get? b=some o:=
 PySem.W.hideAll_get _ e λhm=>by
  have q:(H b).isSome=true:=(K6.mp hm).2;rw[n] at q;simp at q
theorem NW (e:(hidT h H).get? b=some o):h.get? b=some o/\H b=none:=by
 have e':h.get? b=some o:=PySem.W.of_hideAll (trk h H) e;refine⟨e',?_⟩;cases q:H b with
 |none=>rfl
 | some x =>
  have hm:b∈trk h H:=K6.mpr ⟨M7.mpr (C4 e'),by simp[q]⟩;have z:(hidT h H).get? b=none:=PySem.W.hideAll_none (trk h H) hm;rw[z] at e;cases e
def NY (g h:B6)(L:A0):List (A0×Obj):=(F6 h.objs.size).filterMap λa=>if a=L\/(g.get? a).isSome=true then none else(h.get? a).map λo=>(a,o)
def rest (g h:B6)(L d:A0):List (A0×Obj):=(NY g h L).filter λp=>decide (p.1≠d)
structure Mod (K:A9)(mg:Str->Option A1)(base:B6):Prop where
 kin:K.In base
 glob:base.Ns T7 mg
 blt:∃mb,base.Ns builtinsNs mb/\∀x:Str,x≠"__name__"->mb x=O2 x
 nolimit:base.NoLimit
structure Cx where
 prog:D1
 w:C9
 K:A9
 mg:Str->Option A1
 base:B6
 A:D5
 N:List Str
 s₀:A5
 H₀:Hp
 env:Env
 outer:List Env
 stack:List Env
 ex:List A0
 fn:Str->Bool
 calm:Bool
 pn:List (A0×Obj)
 xe:A1->A5->Prop
def frs (l:List Env):List A0:=l.filterMap (·.frame)
abbrev Cx.fs (X:Cx):List A0:=frs X.outer
def Vis (sc:G0)(x:Str):Prop:=sc.names.lookup x=some .local\/sc.names.lookup x=some .cell\/sc.names.lookup x=some .free
def Loc (sc:G0)(x:Str):Prop:=sc.names.lookup x=some .local\/sc.names.lookup x=some .cell
def Look (env:Env)(h:B6)(m:Str->Option A1)(x:Str)(u:A1):Prop:=
 (env.kindOf x=some .local/\m x=some u)\/((env.kindOf x=some .cell\/env.kindOf x=some .free)/\∃c,env.cells.lookup x=some c/\h.IsCell c (some u))
structure Cx.Ok (X:Cx):Prop where
 mod:Mod X.K X.mg X.base
 kind:X.env.scope.kind=.function
 glob:X.env.globals=T7
 blt:X.env.builtins=builtinsNs
 above:X.s₀.heap.objs.size<=X.env.locals
 inj:∀x y c,X.env.cells.lookup x=some c->X.env.cells.lookup y=some c->x=y
 has:∀x,(X.env.kindOf x=some .cell\/X.env.kindOf x=some .free)->∃c,X.env.cells.lookup x=some c
 cab:∀x c,X.fn x=true->X.env.cells.lookup x=some c->X.s₀.heap.objs.size<=c
 hd:X.calm=true->X.A.handled=none
 frames:X.A.frames=some X.stack
 stk:X.stack=X.outer\/(X.stack=X.env::X.outer/\X.env.frame=some X.env.locals)
 exf:∀b∈X.ex,b≠X.env.locals/\∀x c,X.env.cells.lookup x=some c->c≠b
 bs:∀b o,X.base.get? b=some o->X.s₀.heap.get? b=some o/\X.H₀ b=none
 bsz:X.base.objs.size<=X.s₀.heap.objs.size
 noex:∀b o,X.base.get? b=some o->b∉X.ex
 exfs:∀b∈X.ex,b∉X.fs
 funs:X.s₀.heap.FunFrames X.base X.outer
 frf:∀b∈X.fs,X.H₀ b=none
 nos:NS X.H₀
structure Inv (X:Cx)(jb:List (A0×Obj))(σ:List (Option V))(H:Hp)(s:A5):Prop where
 ok:X.Ok
 os:s.os=X.s₀.os
 bare:AllBare s.gens
 base:Un X.fs X.ex X.H₀ H X.s₀.heap s.heap
 loc:∃m,s.heap.Ns X.env.locals m/\∀(i:Nat) (x:Str) (v:V),X.N[i]?=some x->σ[i]?=some (some v)->Vis X.env.scope x->∃u,RelV v u/\Look X.env s.heap m x u
 cell:∀x c,X.env.cells.lookup x=some c->∃v,s.heap.IsCell c v
 free:H X.env.locals=none
 freeC:∀x c,X.env.cells.lookup x=some c->H c=none
 pin:∀p∈X.pn++jb,s.heap.get? p.1=some p.2/\H p.1=none/\p.1≠X.env.locals/\p.1∉X.fs/\∀v,p.2.data≠.cell v
 hok:HOk X.prog X.w H s.heap
 len:σ.length=X.N.length
section
variable {X:Cx}{jb:List (A0×Obj)}{σ:List (Option V)}{H H':Hp}{s:A5}{h':B6}
theorem Cx.Ok.nofr (ok:X.Ok)(e:X.base.get? b=some o):b∉X.fs:=λhb=>by
 have:=(ok.funs.mem hb).1;rw[e] at this;cases this
theorem Inv.bs (I:Inv X jb σ H s):∀b o,X.base.get? b=some o->s.heap.get? b=some o/\H b=none:=λb o e=>
 ⟨I.base.keep b o (I.ok.bs b o e).1 (I.ok.bs b o e).2 (I.ok.nofr e) (I.ok.noex b o e),I.base.free b o (I.ok.bs b o e).1 (I.ok.bs b o e).2 (I.ok.noex b o e)⟩
theorem Inv.bk (I:Inv X jb σ H s):∀b o,X.base.get? b=some o->s.heap.get? b=some o:=λb o e=>(I.bs b o e).1
theorem Inv.mod (I:Inv X jb σ H s):Mod X.K X.mg X.base:=I.ok.mod
theorem Inv.nos (I:Inv X jb σ H s):NS H:=I.base.sys I.ok.nos
theorem Inv.bigS (I:Inv X jb σ H s):O3<s.heap.objs.size:=BI (by decide) (I.mod.glob.keeps I.bk).lt
theorem Inv.kIn (I:Inv X jb σ H s):X.K.In s.heap:=I.ok.mod.kin.keeps I.bk
theorem Inv.nolimit (I:Inv X jb σ H s):s.heap.NoLimit:=I.ok.mod.nolimit.keeps I.bk
theorem Inv.lt (I:Inv X jb σ H s):X.env.locals<s.heap.objs.size:=let ⟨_,hn,_⟩:=I.loc;hn.lt
theorem Inv.sz (I:Inv X jb σ H s):X.s₀.heap.objs.size<=s.heap.objs.size:=J9 I.ok.above (i4 I.lt)
theorem Inv.nofs (I:Inv X jb σ H s)(h:s.heap.objs.size<=a):a∉X.fs:=λhb=>by
 obtain⟨_,o,ho,_⟩:=I.ok.funs.mem hb;exact absurd (K3 (C4 ho) (J9 I.sz h)) (W4 _)
theorem Inv.cne (I:Inv X jb σ H s):∀x c,X.env.cells.lookup x=some c->c≠X.env.locals:=λx c e z=>by
 obtain⟨v,o,ho,hd⟩:=I.cell x c e;obtain⟨m,⟨o',es,ep,ho',hd',_⟩,_⟩:=I.loc;rw[z,ho'] at ho;cases ho;rw[hd'] at hd;cases hd
theorem Inv.funs (I:Inv X jb σ H s):s.heap.FunFrames X.base X.outer:=by
 have all:∀(l:List Env),(∀b∈frs l,b∈X.fs)->X.s₀.heap.FunFrames X.base l->s.heap.FunFrames X.base l:=by
  intro l
  induction l with
  |nil=>intro _ _;trivial
  | cons env r ih =>
   intro hs hl;obtain⟨hk,⟨L,o,hf,hn,ho,hd⟩,hr⟩:=hl;have hL:L∈X.fs:=hs L (by unfold frs;rw[CZ,hf];exact C6);obtain⟨sl,e⟩:=I.base.slot L o ho (I.ok.frf L hL) hL λz=>I.ok.exfs L z hL;exact⟨hk,⟨L,_,hf,hn,e,hd⟩,ih (λb hb=>hs b (by unfold frs;rw[CZ,hf];exact C5 _ hb)) hr⟩
 exact all X.outer (λ_ hb=>hb) I.ok.funs
theorem Inv.stack (I:Inv X jb σ H s):s.heap.FunFrames X.base X.stack:=by
 rcases I.ok.stk with e|⟨e,hf⟩
 ·rw[e];exact I.funs
 ·rw[e];obtain⟨m,hn,_⟩:=I.loc;refine .cons (by rw[I.ok.kind];decide) hf hn ?_ I.funs;exact Heap.get?_none_of_le (J9 I.ok.bsz I.ok.above)
theorem Inv.stkSub (I:Inv X jb σ H s):∀b∈frs X.stack,b∈X.env.locals::X.fs:=λb hb=>by
 rcases I.ok.stk with e|⟨e,hf⟩
 ·rw[e] at hb;exact C5 _ hb
 ·rw[e] at hb;unfold frs at hb;rw[CZ,hf] at hb;exact hb
theorem Inv.stkFree (I:Inv X jb σ H s):∀b∈frs X.stack,H b=none:=λb hb=>by
 rcases D0.mp (I.stkSub b hb) with e|hb
 ·rw[e];exact I.free
 ·obtain⟨_,o,ho,_⟩:=I.ok.funs.mem hb;exact I.base.free b o ho (I.ok.frf b hb) λz=>I.ok.exfs b z hb
theorem Inv.step {ch:List A0}(I:Inv X jb σ H s)
   (hch:∀b∈ch,(b∈X.ex\/X.s₀.heap.objs.size<=b)/\b≠X.env.locals/\(∀x c,X.env.cells.lookup x=some c->c≠b)/\∀p∈X.pn++jb,p.1≠b)
   (keep:∀b o,b≠X.env.locals->b∉X.fs->b∉ch->s.heap.get? b=some o->H b=none->h'.get? b=some o)
   (slot:∀b o,b≠X.env.locals->b∈X.fs->b∉ch->s.heap.get? b=some o->H b=none->∃sl,h'.get? b=some { o with slots:=sl }) (free:∀b o,b∉ch->s.heap.get? b=some o->H b=none->H' b=none)
   (there:∀b o,b∉ch->s.heap.get? b=some o->∃o',h'.get? b=some o')
   (tups:∀b xs,H b=some (.tup xs)->H' b=some (.tup xs)) (frzs:∀b o u,H b=some (.frz o u)->H' b=some (.frz o u)) (tbls:∀b ps,H b=some (.tbl ps)->∃more,H' b=some (.tbl (ps++more))) (sys:NS H->NS H')
   (ns:∀m,s.heap.Ns X.env.locals m->h'.Ns X.env.locals m) (hok:HOk X.prog X.w H' h') (hg:AllBare g') :
   Inv X jb σ H' { s with heap:=h',gens:=g',drawn:=d',toks:=t' }:=by
 have neL:∀b o,X.s₀.heap.get? b=some o->b≠X.env.locals:=λb o e=>D3 (K3 (C4 e) I.ok.above)
 have neC:∀b o,X.s₀.heap.get? b=some o->b∉X.ex->b∉ch:=λb o e hx hb=>by
  rcases(hch b hb).1 with z|z
  ·exact hx z
  ·exact absurd (K3 (C4 e) z) (W4 _)
 have cellK:∀x c,X.env.cells.lookup x=some c->∀v,s.heap.IsCell c v->h'.IsCell c v:=λx c e v ⟨o,ho,hd⟩=>by
  have nch:c∉ch:=λz=>(hch c z).2.2.1 x c e rfl
  by_cases hc:c∈X.fs
  ·obtain⟨sl,q⟩:=slot c o (I.cne x c e) hc nch ho (I.freeC x c e);exact⟨_,q,hd⟩
  ·exact⟨o,keep c o (I.cne x c e) hc nch ho (I.freeC x c e),hd⟩
 refine⟨I.ok,I.os,hg,⟨λb o e n hb hx=>?_,λb o e n hb hx=>?_,λb o e n hx=>?_,λb o e hx=>?_,λb xs e=>tups b xs (I.base.tups b xs e),λb o xs e=>frzs b o xs (I.base.frzs b o xs e),λb ps e=>?_,λz=>sys (I.base.sys z)⟩,?_,λx c e=>?_,?_,λx c e=>?_,λp hp=>?_,hok,I.len⟩
 ·exact keep b o (neL b o e) hb (neC b o e hx) (I.base.keep b o e n hb hx) (I.base.free b o e n hx)
 ·obtain⟨sl,e1⟩:=I.base.slot b o e n hb hx;obtain⟨sl',e2⟩:=slot b _ (neL b o e) hb (neC b o e hx) e1 (I.base.free b o e n hx);exact⟨sl',e2⟩
 ·obtain⟨o',e1⟩:=I.base.there b o e hx;exact free b o' (neC b o e hx) e1 (I.base.free b o e n hx)
 ·obtain⟨o',e1⟩:=I.base.there b o e hx;exact there b o' (neC b o e hx) e1
 ·obtain⟨m1,e1⟩:=I.base.tbls b ps e;obtain⟨m2,e2⟩:=tbls b _ e1;exact⟨m1++m2,by rw[e2,Array.append_assoc]⟩
 ·obtain⟨m,hn,hl⟩:=I.loc;refine⟨m,ns m hn,λi x v e1 e2 e3=>?_⟩;obtain⟨u,r,l⟩:=hl i x v e1 e2 e3;refine⟨u,r,?_⟩;rcases l with l|⟨k,c,e,z⟩
  ·exact .inl l
  ·exact .inr ⟨k,c,e,cellK x c e _ z⟩
 ·obtain⟨v,z⟩:=I.cell x c e;exact⟨v,cellK x c e v z⟩
 ·obtain⟨m,⟨o,_,_,ho,_⟩,_⟩:=I.loc;exact free _ o (λz=>(hch _ z).2.1 rfl) ho I.free
 ·obtain⟨v,o,ho,hd⟩:=I.cell x c e;exact free c o (λz=>(hch c z).2.2.1 x c e rfl) ho (I.freeC x c e)
 ·obtain⟨e,n,ne,nf,d⟩:=I.pin p hp;have nch:p.1∉ch:=λz=>(hch p.1 z).2.2.2 p hp rfl;exact⟨keep p.1 p.2 ne nf nch e n,free p.1 p.2 nch e n,ne,nf,d⟩
theorem Inv.un (I:Inv X jb σ H s)(u:Un X.fs [] H H' s.heap h')(hok:HOk X.prog X.w H' h'):Inv X jb σ H' { s with heap:=h',toks:=t' }:=by
 obtain⟨m,⟨o,es,ep,ho,r⟩,_⟩:=id I.loc;obtain⟨sl,hL⟩:=u.any ho I.free (by simp)
 exact I.step (g':=s.gens) (d':=s.drawn) (ch:=[]) (λ_ z=>nomatch z) (λb o _ hb _ e n=>u.keep b o e n hb (by simp)) (λb o _ hb _ e n=>u.slot b o e n hb (by simp)) (λb o _ e n=>u.free b o e n (by simp)) (λb o _ e=>u.there b o e (by simp)) u.tups u.frzs u.tbls u.sys (λm' hm=>by
  obtain⟨o',es',ep',ho',r'⟩:=hm;rw[ho] at ho';cases ho'
  exact⟨_,es',ep',hL,r'⟩) hok I.bare
theorem Inv.call (I:Inv X jb σ H s)(u:Un (frs X.stack) ch H H' s.heap h')(hok:HOk X.prog X.w H' h')(hg:AllBare g')
   (hch:∀b∈ch,(b∈X.ex\/X.s₀.heap.objs.size<=b)/\b≠X.env.locals/\(∀x c,X.env.cells.lookup x=some c->c≠b)/\∀p∈X.pn++jb,p.1≠b) :
   Inv X jb σ H' { s with heap:=h',gens:=g',drawn:=d',toks:=t' }:=by
 obtain⟨m,⟨o,es,ep,ho,r⟩,_⟩:=id I.loc;obtain⟨sl,hL⟩:=u.any ho I.free λz=>(hch _ z).2.1 rfl
 exact I.step (ch:=ch) hch (λb o hL hb hc e n=>u.keep b o e n (λz=>(D0.mp (I.stkSub b z)).elim hL hb) hc) (λb o _ _ hc e n=>u.any e n hc) (λb o hc e n=>u.free b o e n hc) (λb o hc e=>u.there b o e hc) u.tups u.frzs u.tbls u.sys (λm' hm=>by
  obtain⟨o',es',ep',ho',r'⟩:=hm;rw[ho] at ho';cases ho'
  exact⟨_,es',ep',hL,r'⟩) hok hg
theorem Inv.turned {t':Nat}{it:A0}(I:Inv X jb σ H s)(k:∀b o,b≠it->s.heap.get? b=some o->h'.get? b=some o)(hn:H it=none)(hL:it≠X.env.locals)
   (h1:it∈X.ex\/X.s₀.heap.objs.size<=it) (h2:∀x c,X.env.cells.lookup x=some c->c≠it) (h3:∀p∈X.pn++jb,p.1≠it):Inv X jb σ H { s with heap:=h',toks:=t' }:=by
 have nit:∀b u,H b=some u->b≠it:=λb u e z=>by rw[z,hn] at e;cases e
 refine I.step (g':=s.gens) (d':=s.drawn) (ch:=[it]) (λb hb=>?_) (λb o _ _ hc e _=>k b o (λz=>hc (by simp[z])) e) (λb o _ _ hc e _=>⟨o.slots,k b o (λz=>hc (by simp[z])) e⟩) (λ_ _ _ _ n=>n)
   (λb o hc e=>⟨o,k b o (λz=>hc (by simp[z])) e⟩) (λ_ _ e=>e) (λ_ _ _ e=>e) (λb ps e=>⟨#[],by rw[e];simp⟩) (λz=>z) (λm hm=>?_) (λb u e=>?_) I.bare
 ·grind
 ·obtain⟨o,es,ep,ho,r⟩:=hm;exact⟨o,es,ep,k _ o (Ne.symm hL) ho,r⟩
 ·refine(I.hok b u e).stay (λc v hc q=>k c v ?_ q) (λ_ q=>q) λ_ _ q=>q;rcases hc with z|z
  ·grind
  ·grind
theorem Inv.tok (I:Inv X jb σ H s)(t:Nat):Inv X jb σ H { s with toks:=t }:=I.un (h':=s.heap) (t':=t) Un.refl I.hok
theorem Inv.kept (I:Inv X jb σ H s)(k:∀b u,s.heap.get? b=some u->h'.get? b=some u):Inv X jb σ H { s with heap:=h',toks:=t' }:=I.un (Un.kept k) (I.hok.kept k)
theorem Inv.laid (I:Inv X jb σ H s)(k:∀b u,s.heap.get? b=some u->h'.get? b=some u)(hp:s.heap.objs.size<=a)(new:J0 X.prog X.w (upd H a o) h' a o) :
   Inv X jb σ (upd H a o) { s with heap:=h',toks:=t' }:=I.un (Un.laid k hp (I.hok.fresh hp) I.bigS) (I.hok.laid k hp new)
theorem Inv.write (I:Inv X jb σ H s)(mu:Mut (H x))(he:e=x\/H e=some (.own x))(k:∀b u,b≠e->s.heap.get? b=some u->h'.get? b=some u)(heo:∃u,h'.get? e=some u)
   (new:J0 X.prog X.w (upd H x o) h' x o):Inv X jb σ (upd H x o) { s with heap:=h',toks:=t' }:=I.un (Un.write mu he k heo) (I.hok.write mu he k heo new)
theorem Inv.pins_of (I:Inv X jb σ H s)(h:∀p∈pins',s.heap.get? p.1=some p.2/\H p.1=none/\p.1≠X.env.locals/\p.1∉X.fs/\∀v,p.2.data≠.cell v):Inv X pins' σ H s:=
 ⟨I.ok,I.os,I.bare,I.base,I.loc,I.cell,I.free,I.freeC,λp hp=>(E2.mp hp).elim (λz=>I.pin p (n6 _ z)) (h p),I.hok,I.len⟩
theorem nodup_ix {N:List Str}(hN:N.Nodup){i j:Nat}{x:Str}(a:N[i]?=some x)(b:N[j]?=some x):i=j:=by
 obtain⟨h1,e1⟩:=G4.mp a;obtain⟨h2,e2⟩:=G4.mp b;exact(List.getElem_inj hN).mp (e1.trans e2.symm)
theorem GR (I:Inv X jb σ H s)(hN:X.N.Nodup)(hi:X.N[i]?=some x)(hx:Loc X.env.scope x)(r:RelV v u)
   (h:∀s',Inv X jb (σ.set i (some v)) H s'->(∃a,V2 a s.heap s'.heap/\(a=X.env.locals\/X.env.cells.lookup x=some a))->Q () s') (hf:X.fn x=true\/X.env.scope.names.lookup x=some .local:=by first|exact .inl rfl|exact .inr rfl|assumption):A6 M A (storeName X.env x u) Q E s:=by
 obtain⟨m,hn,hl⟩:=id I.loc;have hcls:(X.env.scope.kind == .class||(X.env.scope.kind == .module&&X.env.locals != X.env.globals))=false:=by rw[I.ok.kind];rfl
 have hiσ:i<σ.length:=by rw[I.len];exact(G4.mp hi).1
 have cne:=I.cne
 have tracked:∀{a:A0} {h':B6},(∃o,s.heap.get? a=some o/\H a=none)->V2 a s.heap h'->HOk X.prog X.w H h':=λ{a h'} ha hs b ob e=>by
  obtain⟨_,_,hfree⟩:=ha;refine(I.hok b ob e).stay (λc w' hc q=>(hs.2 c ?_).trans q) (λ_ q=>q) λ_ _ q=>q;rintro rfl;rcases hc with rfl|hc
  ·rw[hfree] at e;cases e
  ·rw[hfree] at hc;cases hc
 rcases hx with hk|hk
 ·refine wpAny_storeName_local hk hn (λh' hn' hs=>?_) hcls;obtain⟨oL,_,_,hoL,_⟩:=id hn;refine h _ ⟨I.ok,I.os,I.bare,⟨λb o e n hb hx=>?_,λb o e n hb hx=>?_,I.base.free,λb o e hx=>?_,I.base.tups,I.base.frzs,I.base.tbls,I.base.sys⟩,⟨_,hn',λj y v' e1 e2 e3=>?_⟩,λy c e=>?_,I.free,I.freeC,λp hp=>?_,tracked ⟨oL,hoL,I.free⟩ hs,by simpa using I.len⟩ ⟨_,hs,.inl rfl⟩
  ·exact(hs.2 b (D3 (K3 (C4 e) I.ok.above))).trans (I.base.keep b o e n hb hx)
  ·obtain⟨sl,e1⟩:=I.base.slot b o e n hb hx;exact⟨sl,(hs.2 b (D3 (K3 (C4 e) I.ok.above))).trans e1⟩
  ·obtain⟨o',e1⟩:=I.base.there b o e hx;exact⟨o',(hs.2 b (D3 (K3 (C4 e) I.ok.above))).trans e1⟩
  ·by_cases hj:j=i
   ·subst hj;rw[hi] at e1;cases e1;rw[O7 hiσ] at e2;cases e2;exact⟨u,r,.inl ⟨hk,by simp⟩⟩
   ·rw[P6 (Ne.symm hj)] at e2;obtain⟨u',r',q⟩:=hl j y v' e1 e2 e3;refine⟨u',r',?_⟩;rcases q with⟨k,e⟩|⟨k,c,e,z⟩
    ·refine .inl ⟨k,?_⟩;have:y≠x:=λe=>hj (nodup_ix hN e1 (e▸hi));simp[this,e]
    ·exact .inr ⟨k,c,e,z.sameBut hs (cne y c e)⟩
  ·obtain⟨w',z⟩:=I.cell y c e;exact⟨w',z.sameBut hs (cne y c e)⟩
  ·obtain⟨e,n,ne,nf,d⟩:=I.pin p hp;exact⟨(hs.2 p.1 ne).trans e,n,ne,nf,d⟩
 ·have hfn:X.fn x=true:=by
   rcases hf with z|z
   ·exact z
   ·rw[z] at hk;cases hk
  obtain⟨c,hc⟩:=I.ok.has x (.inl hk);obtain⟨w',z⟩:=I.cell x c hc;refine wpAny_storeName_cell I.ok.kind hk hc z (λh' hc' hs=>?_);obtain⟨oc,hoc,hocd⟩:=id z;refine h { s with heap:=h' } ⟨I.ok,I.os,I.bare,⟨λb o e n hb hx=>?_,λb o e n hb hx=>?_,I.base.free,λb o e hx=>?_,I.base.tups,I.base.frzs,I.base.tbls,I.base.sys⟩,⟨m,hn.sameBut hs (Ne.symm (cne x c hc)),λj y v' e1 e2 e3=>?_⟩,λy c' e=>?_,I.free,I.freeC,λp hp=>?_,tracked ⟨oc,hoc,I.freeC x c hc⟩ hs,by simpa using I.len⟩ ⟨c,hs,.inr hc⟩
  ·exact(hs.2 b (D3 (K3 (C4 e) (I.ok.cab x c hfn hc)))).trans (I.base.keep b o e n hb hx)
  ·obtain⟨sl,e1⟩:=I.base.slot b o e n hb hx;exact⟨sl,(hs.2 b (D3 (K3 (C4 e) (I.ok.cab x c hfn hc)))).trans e1⟩
  ·obtain⟨o',e1⟩:=I.base.there b o e hx;exact⟨o',(hs.2 b (D3 (K3 (C4 e) (I.ok.cab x c hfn hc)))).trans e1⟩
  ·by_cases hj:j=i
   ·subst hj;rw[hi] at e1;cases e1;rw[O7 hiσ] at e2;cases e2;exact⟨u,r,.inr ⟨.inl hk,c,hc,hc'⟩⟩
   ·rw[P6 (Ne.symm hj)] at e2;obtain⟨u',r',q⟩:=hl j y v' e1 e2 e3;refine⟨u',r',?_⟩;rcases q with q|⟨k,c',e,z'⟩
    ·exact .inl q
    ·refine .inr ⟨k,c',e,z'.sameBut hs ?_⟩;rintro rfl;exact hj (nodup_ix hN e1 (I.ok.inj _ _ _ e hc▸hi))
  ·by_cases hcc:c'=c
   ·subst hcc;exact⟨_,hc'⟩
   ·obtain⟨w2,z2⟩:=I.cell y c' e;exact⟨w2,z2.sameBut hs hcc⟩
  ·obtain⟨e,n,ne,nf,d⟩:=I.pin p hp;refine⟨(hs.2 p.1 ?_).trans e,n,ne,nf,d⟩;intro q;rw[q,hoc] at e;have q':oc=p.2:=M9 e;exact d w' (by rw[<- q'];exact hocd)
theorem p9 (I:Inv X jb σ H s)(hN:X.N.Nodup)(hi:X.N[i]?=some x)(hx:Loc X.env.scope x)(r:RelV v u)
   (h:∀s',Inv X jb (σ.set i (some v)) H s'->Q () s') (hf:X.fn x=true\/X.env.scope.names.lookup x=some .local:=by first|exact .inl rfl|exact .inr rfl|assumption):A6 M A (storeName X.env x u) Q E s:=
 GR I hN hi hx r (λs' I' _=>h s' I') hf
end
abbrev XK:=A1->Option A0->Hp->Prop
abbrev St:=List (Option V)
abbrev VK:=V->Hp->Prop
abbrev TE:=St->Hp->VK->Prop
abbrev TT:=St->Hp->(Bool->Hp->Prop)->Prop
abbrev TA:=St->Hp->(List V->Hp->Prop)->Prop
structure Ends where
 nx:St->Hp->Prop
 rt:VK
 bk:St->Hp->Prop:=λ_ _=>False
 ct:St->Hp->Prop:=λ_ _=>False
abbrev TS:=Ends->St->Hp->Prop
def EP (X:Cx)(jb:List (A0×Obj))(σ:St)(Q:VK)(u:A1)(s':A5):Prop:=∃v H',Inv X jb σ H' s'/\RelV v u/\Q v H'
def TP (X:Cx)(jb:List (A0×Obj))(σ:St)(Q:Bool->Hp->Prop)(b:Bool)(s':A5):Prop:=∃H',Inv X jb σ H' s'/\Q b H'
def AP (X:Cx)(jb:List (A0×Obj))(σ:St)(Q:List V->Hp->Prop)(us:List A1)(s':A5):Prop:=∃vs H',Inv X jb σ H' s'/\Vals vs us/\Q vs H'
def SP (X:Cx)(jb:List (A0×Obj))(D:Ends)(f:Flow)(s':A5):Prop:=
 match f with
 |.next=>∃σ' H',Inv X jb σ' H' s'/\D.nx σ' H'
 |.brk=>∃σ' H',Inv X jb σ' H' s'/\D.bk σ' H'
 |.cont=>∃σ' H',Inv X jb σ' H' s'/\D.ct σ' H'
 |.ret u=>∃v σ' H',Inv X jb σ' H' s'/\RelV v u/\D.rt v H'
def PE (X:Cx)(e:Expr)(t:TE):Prop:=
 ∀(jb:List (A0×Obj)) (s:A5) (σ:St) (H:Hp) (Q:VK),Inv X jb σ H s->t σ H Q->A6 (A7 X.prog X.w) X.A (eval e X.env) (EP X jb σ Q) X.xe s
def PT (X:Cx)(e:Expr)(t:TT):Prop:=
 ∀(jb:List (A0×Obj)) (s:A5) (σ:St) (H:Hp) (Q:Bool->Hp->Prop),Inv X jb σ H s->t σ H Q->A6 (A7 X.prog X.w) X.A (isTrue e X.env (eval e X.env)) (TP X jb σ Q) X.xe s
def PW (X:Cx)(e:Expr)(t:TT):Prop:=
 ∀(whole:Sem A1) (jb:List (A0×Obj)) (s:A5) (σ:St) (H:Hp) (Q:Bool->Hp->Prop),Inv X jb σ H s->t σ H Q->A6 (A7 X.prog X.w) X.A (isTrue e X.env whole) (TP X jb σ Q) X.xe s
theorem PW.pt (h:PW X e t):PT X e t:=h _
def PA (X:Cx)(es:List Expr)(t:TA):Prop:=
 ∀(pos:Pos) (jb:List (A0×Obj)) (s:A5) (σ:St) (H:Hp) (Q:List V->Hp->Prop),Inv X jb σ H s->t σ H Q->A6 (A7 X.prog X.w) X.A (spliced (backTo pos (F5 es X.env))) (AP X jb σ Q) X.xe s
def PS (X:Cx)(st:Stmt)(t:TS):Prop:=
 ∀(jb:List (A0×Obj)) (s:A5) (σ:St) (H:Hp) (D:Ends),Inv X jb σ H s->t D σ H->A6 (A7 X.prog X.w) X.A (exec st X.env) (SP X jb D) X.xe s
def PSs (X:Cx)(st:List Stmt)(t:TS):Prop:=
 ∀(jb:List (A0×Obj)) (s:A5) (σ:St) (H:Hp) (D:Ends),Inv X jb σ H s->t D σ H->A6 (A7 X.prog X.w) X.A (execs st X.env) (SP X jb D) X.xe s
theorem thn {α:Type}{t:Sem α}{Q Q':α->A5->Prop}{M:Model}{A:D5}{E:A1->A5->Prop}{s:A5}(h:A6 M A t Q E s)(hQ:∀a s,Q a s->Q' a s):A6 M A t Q' E s:=G7 h hQ λ_ _ x=>x
section
variable {X:Cx}
def tVar (i:Nat):TE:=λσ H Q=>∃v,σ[i]?=some (some v)/\Q v H
def tC (v:V):TE:=λ_ H Q=>Q v H
theorem Jw (hN:X.N[i]?=some x)(hv:Vis X.env.scope x)(hd:(x == ("__debug__":Str))=false:=by decide)(hcd:(x == ("__classdict__":Str))=false:=by decide):PE X (.Name x pos) (tVar i):=by
 intro jb s σ H Q I h;obtain⟨v,e,h⟩:=h;obtain⟨m,hn,hl⟩:=I.loc;obtain⟨u,r,l⟩:=hl i x v hN e hv;have fin:EP X jb σ Q u s:=⟨v,H,I,r,h⟩;rcases l with⟨hk,hm⟩|⟨hk,c,hc,hcell⟩
 ·exact wpAny_Name (wpAny_loadName_local I.ok.kind hk hn hm fin) hd
 ·rcases hk with hk|hk
  ·exact wpAny_Name (wpAny_loadName_cell I.ok.kind hk hc hcell fin) hd
  ·exact wpAny_Name (wpAny_loadName_free I.ok.kind hk hc hcell fin hcd) hd
theorem K8 {i j pos}:PE X (.Constant (.int i) j pos) (tC (.int i)):=λ_ _ _ H _ I h=>wpAny_Constant_int ⟨.int i,H,I.tok _,⟨_,rfl⟩,h⟩
theorem pe_bl {b j pos}:PE X (.Constant (.bool b) j pos) (tC (.bl b)):=λ_ _ _ H _ I h=>Constant_bool ⟨.bl b,H,I,rfl,h⟩
theorem pe_non {j pos}:PE X (.Constant .none j pos) (tC .non):=λ_ _ _ H _ I h=>Constant_none ⟨.non,H,I,rfl,h⟩
theorem pe_str {x j pos}:PE X (.Constant (.str x) j pos) (tC (.str x)):=λ_ _ _ H _ I h=>Calls.Constant_str ⟨.str x,H,I.tok _,⟨_,rfl⟩,h⟩
def Gl (X:Cx)(x:Str):Prop:=X.env.kindOf x=some .globalImplicit
theorem Jx (I:Inv X jb σ H s)(hg:Gl X x)(hm:X.mg x=some u)(h:Q u s)
   (hd:(x == ("__debug__":Str))=false:=by decide):A6 (A7 X.prog X.w) X.A (eval (.Name x pos) X.env) Q E s:=
 Calls.Name_function_global I.ok.kind hg (Calls.loadGlobal_global (by rw[I.ok.glob];exact I.mod.glob.keeps I.bk) hm h) hd
theorem AM (I:Inv X jb σ H s)(hg:Gl X x)(hm:X.mg x=none)(hv:O2 x=some u)(h:Q u s)
   (hn:x≠"__name__":=by decide) (hd:(x == ("__debug__":Str))=false:=by decide):A6 (A7 X.prog X.w) X.A (eval (.Name x pos) X.env) Q E s:=by
 obtain⟨mb,h1,h2⟩:=I.mod.blt;exact Calls.Name_function_global I.ok.kind hg (Calls.loadGlobal_builtin (by rw[I.ok.glob];exact I.mod.glob.keeps I.bk) hm (by rw[I.ok.blt];exact h1.keeps I.bk) ((h2 x hn).trans hv) h) hd
theorem NZ {x:Str}{v:V}{u:A1}{pos:Pos}(hg:Gl X x)(hm:X.mg x=some u)(r:RelV v u)(hd:(x == ("__debug__":Str))=false:=by decide):PE X (.Name x pos) (tC v):=
 λ_ _ _ H _ I h=>Jx I hg hm ⟨v,H,I,r,h⟩ hd
theorem N_ (hg:Gl X x)(hm:X.mg x=none)(hv:O2 x=some u)(r:RelV v u)(hn:x≠"__name__":=by decide)(hd:(x == ("__debug__":Str))=false:=by decide):PE X (.Name x pos) (tC v):=
 λ_ _ _ H _ I h=>AM I hg hm hv ⟨v,H,I,r,h⟩ hn hd
variable {a b:Expr}{ta tb:TE}{pos:Pos}
def tB (t:TE):TT:=λσ H Q=>t σ H λx H1=>∃c,x=.bl c/\Q c H1
theorem pt_val (h:PE X e t)(he:∀whole,isTrue e X.env whole=(do let v ← whole;e7 e.pos;T9 [v] (truthy v)):=by intro _;rfl):PT X e (tB t):=by
 intro jb s σ H Q I hw;refine isTrue_plain (thn (h jb s σ H _ I hw) λv s1 ⟨x,H1,I1,r1,q1⟩=>?_) (he _);obtain⟨d,rfl,q⟩:=q1;cases r1;exact X9 ⟨H1,I1,q⟩
variable {tA tB':TT}{rest:List Expr}
def tAnd (t u:TT):TT:=λσ H Q=>t σ H λc H1=>if c=true then u σ H1 Q else Q false H1
def tOr (t u:TT):TT:=λσ H Q=>t σ H λc H1=>if c=true then Q true H1 else u σ H1 Q
def tNot (t:TT):TT:=λσ H Q=>t σ H λc H1=>Q (!c) H1
theorem Oa (ha:PT X a tA):PW X (.BoolOp .And [a] pos) tA:=by
 intro wh jb s σ H Q I h;refine isTrue_and (thn (ha jb s σ H Q I h) λc s1 e=>?_);cases c with
 |true=>exact isTrue_and_nil e
 |false=>exact e
theorem pw_or1 (ha:PT X a tA):PW X (.BoolOp .Or [a] pos) tA:=by
 intro wh jb s σ H Q I h;refine isTrue_or (thn (ha jb s σ H Q I h) λc s1 e=>?_);cases c with
 |false=>exact isTrue_or_nil e
 |true=>exact e
theorem pw_and (ha:PT X a tA)(hb:PW X (.BoolOp .And (b::rest) pos) tB'):PW X (.BoolOp .And (a::b::rest) pos) (tAnd tA tB'):=by
 intro wh jb s σ H Q I h;refine isTrue_and (thn (ha jb s σ H _ I h) λc s1 ⟨H1,I1,q1⟩=>?_);cases c with
 |true=>exact hb wh jb s1 σ H1 Q I1 q1
 |false=>exact⟨H1,I1,q1⟩
theorem pw_or (ha:PT X a tA)(hb:PW X (.BoolOp .Or (b::rest) pos) tB'):PW X (.BoolOp .Or (a::b::rest) pos) (tOr tA tB'):=by
 intro wh jb s σ H Q I h;refine isTrue_or (thn (ha jb s σ H _ I h) λc s1 ⟨H1,I1,q1⟩=>?_);cases c with
 |true=>exact⟨H1,I1,q1⟩
 |false=>exact hb wh jb s1 σ H1 Q I1 q1
theorem pt_not (ha:PT X a tA):PT X (.UnaryOp .Not a pos) (tNot tA):=by
 intro jb s σ H Q I h;exact isTrue_not (ha jb s σ H (λc H1=>Q (!c) H1) I h)
def tAndV (ta tb:TE):TE:=λσ H Q=>ta σ H λx H1=>∃c,x=.bl c/\if c=true then tb σ H1 Q else Q (.bl false) H1
def tOrV (ta tb:TE):TE:=λσ H Q=>ta σ H λx H1=>∃c,x=.bl c/\if c=true then Q (.bl true) H1 else tb σ H1 Q
def tNotV (ta:TE):TE:=λσ H Q=>ta σ H λx H1=>∃c,x=.bl c/\Q (.bl (!c)) H1
theorem pe_one {op}{t:TE}(h:PE X a t):PE X (.BoolOp op [a] pos) t:=λjb s σ H Q I hw=>BoolOp_one (h jb s σ H Q I hw)
theorem pe_and (ha:PE X a ta)(hb:PE X (.BoolOp .And (b::rest) pos) tb):PE X (.BoolOp .And (a::b::rest) pos) (tAndV ta tb):=by
 intro jb s σ H Q I h;refine BoolOp_and (thn (ha jb s σ H _ I h) λv s1 ⟨x,H1,I1,r1,q1⟩=>?_);obtain⟨c,rfl,q1⟩:=q1;cases r1;refine X9 ?_;cases c with
 |true=>exact hb jb s1 σ H1 Q I1 q1
 |false=>exact⟨.bl false,H1,I1,rfl,q1⟩
theorem pe_or (ha:PE X a ta)(hb:PE X (.BoolOp .Or (b::rest) pos) tb):PE X (.BoolOp .Or (a::b::rest) pos) (tOrV ta tb):=by
 intro jb s σ H Q I h;refine BoolOp_or (thn (ha jb s σ H _ I h) λv s1 ⟨x,H1,I1,r1,q1⟩=>?_);obtain⟨c,rfl,q1⟩:=q1;cases r1;refine X9 ?_;cases c with
 |false=>exact hb jb s1 σ H1 Q I1 q1
 |true=>exact⟨.bl true,H1,I1,rfl,q1⟩
theorem pe_not (ha:PE X a ta):PE X (.UnaryOp .Not a pos) (tNotV ta):=by
 intro jb s σ H Q I h;refine UnaryOp_ (thn (ha jb s σ H _ I h) λv s1 ⟨x,H1,I1,r1,q1⟩=>?_);obtain⟨c,rfl,q1⟩:=q1;cases r1;exact not_of (X9 ⟨.bl (!c),H1,I1,rfl,q1⟩)
def tIf (t:TT)(ta tb:TE):TE:=λσ H Q=>t σ H λc H1=>if c=true then ta σ H1 Q else tb σ H1 Q
theorem GS (hc:PT X c tA)(ha:PE X a ta)(hb:PE X b tb):PE X (.IfExp c a b pos) (tIf tA ta tb):=by
 intro jb s σ H Q I h;refine wpAny_IfExp (thn (hc jb s σ H _ I h) λd s1 ⟨H1,I1,q1⟩=>?_);cases d with
 |true=>exact ha jb s1 σ H1 Q I1 q1
 |false=>exact hb jb s1 σ H1 Q I1 q1
end
def SqL (K:A9)(H:Hp)(a:A0)(xs:List V):Prop:=
 Rd H a (.lst xs)\/
   ∃(o:Obj) (jf:Array A1) (n:Nat),K.lookup a=some o/\o.cls=.type "list"/\o.dict=none/\o.data=.seq jf n/\jf.size<=C8/\Vals xs jf.toList
def SqT (K:A9)(H:Hp)(a:A0)(xs:List V):Prop:=
 Rd H a (.tup xs)\/
   ∃(o:Obj) (jf:Array A1) (n:Nat),K.lookup a=some o/\o.cls=.type "tuple"/\o.data=.seq jf n/\jf.size<=C8/\Vals xs jf.toList
def absV:A1->Option V
 |.none=>some .non
 |.bool b=>some (.bl b)
 |.int i _=>some (.int i)
 |.str x _=>some (.str x)
 |.bytes b _=>some (.byt b)
 |.float b _=>some (.flt b)
 |.ref a=>some (.ref a)
 |.type n=>some (.ty n)
 |_=>none
theorem RelV.abs {x:V}{u:A1}(r:RelV x u):absV u=some x:=by grind [RelV,V,absV]
theorem RelV.inj {x y:V}{u:A1}(r:RelV x u)(q:RelV y u):x=y:=by grind [RelV,V]
theorem Vals.inj (h:Vals xs us)(h':Vals ys us):xs=ys:=by
 induction h generalizing ys with
 |nil=>cases h';rfl
 |cons r t ih=>cases h' with|cons r' t'=>rw[r.inj r',ih t']
section
variable {X:Cx}{jb:List (A0×Obj)}{σ:St}{H:Hp}{s:A5}{a:A0}{xs ys:List V}
theorem SqL.of {K:A9}(h:H a=some (.lst xs)):SqL K H a xs:=.inl (.inl h)
theorem SqT.of {K:A9}(h:H a=some (.tup xs)):SqT K H a xs:=.inl (.inl h)
theorem Inv.list (I:Inv X jb σ H s)(h:SqL X.K H a xs):∃jf:List A1,Vals xs jf/\PlainL s.heap a jf.toArray/\xs.length<=C8:=by
 rcases h with h|⟨o,jf,n,hk,hc,hd,hs,hz,r⟩
 ·obtain⟨z,jf,n,r,e⟩:=h.ok I.hok;exact⟨jf,r,⟨_,n,e,rfl,rfl,rfl⟩,z⟩
 ·refine⟨jf.toList,r,⟨o,n,I.kIn a o hk,hc,hd,by simpa using hs⟩,?_⟩;have e:=r.length;simp only[M8] at e;omega
theorem Inv.tuple (I:Inv X jb σ H s)(h:SqT X.K H a xs):∃jf:List A1,Vals xs jf/\IsTup s.heap a jf.toArray/\xs.length<=C8:=by
 rcases h with h|⟨o,jf,n,hk,hc,hs,hz,r⟩
 ·obtain⟨z,jf,r,p⟩:=h.ok I.hok;exact⟨jf,r,p.is,z⟩
 ·refine⟨jf.toList,r,⟨o,I.kIn a o hk,hc,n,by simpa using hs⟩,?_⟩;have e:=r.length;simp only[M8] at e;omega
theorem Inv.list_inj (I:Inv X jb σ H s)(h:SqL X.K H a xs)(h':SqL X.K H a ys):xs=ys:=by
 obtain⟨jf,r,⟨o,n,e,_,_,d⟩,_⟩:=I.list h;obtain⟨its',r',⟨o',n',e',_,_,d'⟩,_⟩:=I.list h';rw[e] at e';cases e';rw[d] at d';injection d' with d1 _;have:jf=its':=by simpa using congrArg Array.toList d1
 subst this;exact r.inj r'
theorem Inv.tuple_inj (I:Inv X jb σ H s)(h:SqT X.K H a xs)(h':SqT X.K H a ys):xs=ys:=by
 obtain⟨jf,r,⟨o,e,_,n,d⟩,_⟩:=I.tuple h;obtain⟨its',r',⟨o',e',_,n',d'⟩,_⟩:=I.tuple h';rw[e] at e';cases e';rw[d] at d';injection d' with d1 _;have:jf=its':=by simpa using congrArg Array.toList d1
 subst this;exact r.inj r'
end
abbrev Cx.wish (X:Cx)(E:A1->A5->Prop):Cx:={ X with xe:=E }
abbrev Cx.nox (X:Cx):Cx:=X.wish λ_ _=>False
theorem Cx.Ok.wish {X:Cx}(ok:X.Ok)(E:A1->A5->Prop):(X.wish E).Ok:=
 ⟨ok.mod,ok.kind,ok.glob,ok.blt,ok.above,ok.inj,ok.has,ok.cab,ok.hd,ok.frames,ok.stk,ok.exf,ok.bs,ok.bsz,ok.noex,ok.exfs,ok.funs,ok.frf,ok.nos⟩
theorem Cx.Ok.unwish {X:Cx}(ok:(X.wish E).Ok):X.Ok:=
 ⟨ok.mod,ok.kind,ok.glob,ok.blt,ok.above,ok.inj,ok.has,ok.cab,ok.hd,ok.frames,ok.stk,ok.exf,ok.bs,ok.bsz,ok.noex,ok.exfs,ok.funs,ok.frf,ok.nos⟩
section
variable {X:Cx}{jb:List (A0×Obj)}{σ:St}{H:Hp}{s:A5}{E:A1->A5->Prop}
theorem Inv.wish (I:Inv X jb σ H s)(E:A1->A5->Prop):Inv (X.wish E) jb σ H s:=⟨I.ok.wish E,I.os,I.bare,I.base,I.loc,I.cell,I.free,I.freeC,I.pin,I.hok,I.len⟩
theorem Inv.unwish (I:Inv (X.wish E) jb σ H s):Inv X jb σ H s:=⟨I.ok.unwish,I.os,I.bare,I.base,I.loc,I.cell,I.free,I.freeC,I.pin,I.hok,I.len⟩
theorem SP.unwish (h:SP (X.wish E) jb D f s'):SP X jb D f s':=by
 cases f with
 |next=>obtain⟨σ',H',I,q⟩:=h;exact⟨σ',H',I.unwish,q⟩
 |brk=>obtain⟨σ',H',I,q⟩:=h;exact⟨σ',H',I.unwish,q⟩
 |cont=>obtain⟨σ',H',I,q⟩:=h;exact⟨σ',H',I.unwish,q⟩
 |ret u=>obtain⟨v,σ',H',I,r,q⟩:=h;exact⟨v,σ',H',I.unwish,r,q⟩
theorem PSs.nox {st:List Stmt}(h:PSs X.nox st t):PSs X st t:=λjb s σ H D I hw=>
 G7 (h jb s σ H D (I.wish _) hw) (λ_ _ q=>q.unwish) λ_ _ z=>i9 z
end
section
variable {X:Cx}{st:Stmt}{rest:List Stmt}{t u:TS}{e:Expr}{te:TE}{pos:Pos}
def tNext:TS:=λD σ H=>D.nx σ H
def tSeq (t u:TS):TS:=λD σ H=>t { D with nx:=u D } σ H
theorem Jy:PSs X [] tNext:=λ_ _ σ H _ I h=>Ej ⟨σ,H,I,h⟩
theorem Z3 (h1:PS X st t)(h2:PSs X rest u):PSs X (st::rest) (tSeq t u):=by
 intro jb s σ H D I h;refine wpAny_execs_cons (thn (h1 jb s σ H { D with nx:=u D } I h) λf s1 q=>?_);cases f with
 | next =>
  obtain⟨σ',H',I',q⟩:=q;exact h2 jb s1 σ' H' D I' q
 |ret v=>exact q
 |brk=>exact q
 |cont=>exact q
theorem EZ (h1:PS X st t):PSs X [st] t:=by
 intro jb s σ H D I h;refine wpAny_execs_cons (thn (h1 jb s σ H D I h) λf s1 q=>?_);cases f with
 |next=>exact Ej q
 |ret v=>exact q
 |brk=>exact q
 |cont=>exact q
theorem Inv.quiet (I:Inv X jb σ H s):interactive X.env=false:=by simp[interactive,I.ok.kind]
def GT (te:TE):TS:=λD σ H=>te σ H λ_ H1=>D.nx σ H1
theorem Ob (he:PE X e te)(hs:d8 e none pos.line X.env=pure false:=by rfl):PS X (.Expr e pos) (GT te):=by
 intro jb s σ H D I h;exact wpAny_Expr_any (thn (he jb s σ H _ I h) λv s1 ⟨x,H1,I1,r1,q1⟩=>⟨σ,H1,I1,q1⟩) I.quiet hs
def tRet (te:TE):TS:=λD σ H=>te σ H D.rt
theorem Dk (he:PE X e te):PS X (.Return (some e) pos) (tRet te):=by
 intro jb s σ H D I h;exact wpAny_Return_some (thn (he jb s σ H _ I h) λv s1 ⟨x,H1,I1,r1,q1⟩=>⟨x,σ,H1,I1,r1,q1⟩)
def tIfS (c:TT)(t u:TS):TS:=λD σ H=>c σ H λb H1=>if b=true then t D σ H1 else u D σ H1
theorem ps_if (hc:PT X c tc)(ha:PSs X a t)(hb:PSs X b u):PS X (.If c a b pos) (tIfS tc t u):=by
 intro jb s σ H D I h;refine wpAny_If (thn (hc jb s σ H _ I h) λd s1 ⟨H1,I1,q1⟩=>?_);cases d with
 |true=>exact ha jb s1 σ H1 D I1 q1
 |false=>exact hb jb s1 σ H1 D I1 q1
end
abbrev TG:=V->St->Hp->(St->Hp->Prop)->Prop
abbrev TGs:=List V->St->Hp->(St->Hp->Prop)->Prop
def PG (X:Cx)(target:Expr)(t:TG):Prop:=
 ∀ (jb : List (A0 × Obj)) (s : A5) (σ : St) (H : Hp) (v : V) (u : A1) (Q : St -> Hp -> Prop), Inv X jb σ H s -> RelV v u -> t v σ H Q ->
   A6 (A7 X.prog X.w) X.A (assign target X.env u) (λ_ s'=>∃σ' H',Inv X jb σ' H' s'/\Q σ' H') X.xe s
def PGs (X:Cx)(ts:List Expr)(t:TGs):Prop:=
 ∀ (jb : List (A0 × Obj)) (s : A5) (σ : St) (H : Hp) (vs : List V) (us : List A1) (Q : St -> Hp -> Prop), Inv X jb σ H s -> Vals vs us -> t vs σ H Q ->
   A6 (A7 X.prog X.w) X.A (Au ((J3 ts X.env).map (·.2)) us) (λ_ s'=>∃σ' H',Inv X jb σ' H' s'/\Q σ' H') X.xe s
abbrev TSet:=V->V->V->Hp->(Hp->Prop)->Prop
def PSet (X:Cx)(t:TSet):Prop:=
 ∀ (jb : List (A0 × Obj)) (s : A5) (σ : St) (H : Hp) (o i v : V) (ov iv u : A1) (Q : Hp -> Prop), Inv X jb σ H s -> RelV o ov -> RelV i iv -> RelV v u -> t o i v H Q ->
   A6 (A7 X.prog X.w) X.A (setItem ov iv u) (λ_ s'=>∃H',Inv X jb σ H' s'/\Q H') X.xe s
section
variable {X:Cx}{pos:Pos}
def L9 (i:Nat):TG:=λv σ H Q=>Q (σ.set i (some v)) H
theorem Oc (hN:X.N.Nodup)(hi:X.N[i]?=some x)(hx:Loc X.env.scope x)(hf:X.fn x=true\/X.env.scope.names.lookup x=some .local:=by first|exact .inl rfl|exact .inr rfl|assumption):PG X (.Name x pos) (L9 i):=by
 intro jb s σ H v u Q I r h;exact CJ (p9 I hN hi hx r (λs' I'=>⟨_,H,I',h⟩) hf)
def gNil:TGs:=λvs σ H Q=>vs=[]/\Q σ H
def W5 (t:TG)(u:TGs):TGs:=λvs σ H Q=>∃v r,vs=v::r/\t v σ H λσ' H'=>u r σ' H' Q
theorem E_:PGs X [] gNil:=by
 intro jb s σ H vs us Q I r h;obtain⟨e,h⟩:=h;subst e;cases r;exact EK ⟨σ,H,I,h⟩
theorem BY (h1:PG X e t)(h2:PGs X es u)
   (hs:(J3 (e::es) X.env).map (·.2)=assign e X.env::(J3 es X.env).map (·.2):=by rfl):PGs X (e::es) (W5 t u):=by
 intro jb s σ H vs us Q I r h;obtain⟨v,vr,e1,h⟩:=h;subst e1;cases r with
 | cons r rr =>
  rw[hs];refine x8 (thn (h1 jb s σ H _ _ _ I r h) λ_ s1 ⟨σ1,H1,I1,q1⟩=>?_);exact h2 jb s1 σ1 H1 _ _ Q I1 rr q1
def gTup (K:A9)(n:Nat)(t:TGs):TG:=λv σ H Q=>∃a xs,v=.ref a/\SqT K H a xs/\xs.length=n/\t xs σ H Q
theorem Fa (hc:X.calm=true)(h:PGs X es t)
   (hn:(J3 es X.env).length=n:=by rfl) (hst:(J3 es X.env).findIdx? (·.1)=none:=by rfl):PG X (.Tuple es k pos) (gTup X.K n t):=by
 intro jb s σ H v u Q I r hw;obtain⟨a,xs,e1,hq,hl,hw⟩:=hw;subst e1;cases r;obtain⟨jf,rv,ht,hz⟩:=I.tuple hq;refine assign_Tuple_tuple (I.ok.hd hc) ht (by simp[hn,<- hl,rv.length]) hst λh' hx=>?_;have I1:Inv X jb σ H { s with heap:=h' }:=I.kept (t':=s.toks) λb o e=>hx b o (D3 (C4 e)) e;exact h jb _ σ H xs _ Q I1 (by simpa using rv) hw
def gSub (to ti:TE)(t:TSet):TG:=λv σ H Q=>to σ H λo H1=>ti σ H1 λi H2=>t o i v H2 λH3=>Q σ H3
theorem GU (ho:PE X o to)(hi:PE X i ti)(hs:PSet X t)
   (ha:∀v,assign (.Subscript o i pos) X.env v=(do
    let ov ← T9 [v] (eval o X.env)
    let iv ← T9 [v,ov] (eval i X.env)
    e7 pos
    T9 [v,ov,iv] (setItem ov iv v)
    release [v,ov,iv] []):=by intro _;rfl):PG X (.Subscript o i pos) (gSub to ti t):=by
 intro jb s σ H v u Q I r h;rw[ha];refine A2 (J7 (thn (ho jb s σ H _ I h) λov s1 ⟨x,H1,I1,r1,q1⟩=>?_));refine A2 (J7 (thn (hi jb s1 σ H1 _ I1 q1) λiv s2 ⟨y,H2,I2,r2,q2⟩=>?_));refine A2 (R7 (A2 (J7 (thn (hs jb s2 σ H2 x y v ov iv u _ I2 r1 r2 r q2) λ_ s3 ⟨H3,I3,q3⟩=>?_))));exact wpAny_release ⟨σ,H3,I3,q3⟩
def tAsg (te:TE)(g:TG):TS:=λD σ H=>te σ H λx H1=>g x σ H1 D.nx
theorem GV (he:PE X e te)(hg:PG X tg g)(hs:Bv [tg] e pos.line X.env=pure false:=by rfl)(hw:Bw [tg] e X.env=pure none:=by rfl)
   (h1:(J3 [tg] X.env).map (·.2)=[assign tg X.env]:=by rfl):PS X (.Assign [tg] e pos) (tAsg te g):=by
 intro jb s σ H D I h;refine wpAny_Assign_stores (thn (he jb s σ H _ I h) λv s1 ⟨x,H1,I1,r1,q1⟩=>?_) hs hw;rw[h1];exact thn (hg jb s1 σ H1 x v _ I1 r1 q1) λ_ s2 q=>q
theorem y0 (hN:X.N.Nodup)(hi:X.N[i]?=some x)(hx:Loc X.env.scope x)(he:PE X e te)(hs:d8 e (some (.Name x pos')) pos.line X.env=pure false:=by rfl)(hf:X.fn x=true\/X.env.scope.names.lookup x=some .local:=by first|exact .inl rfl|exact .inr rfl|assumption) :
   PS X (.Assign [.Name x pos'] e pos) (tAsg te (L9 i)):=by
 intro jb s σ H D I h;refine wpAny_Assign_Name (thn (he jb s σ H _ I h) λv s1 ⟨y,H1,I1,r1,q1⟩=>?_) hs;exact p9 I1 hN hi hx r1 (λs2 I2=>⟨_,H1,I2,q1⟩) hf
def tPar (i j:Nat)(ta:TA):TS:=λD σ H=>ta σ H λvs H1=>∃v w,vs=[v,w]/\D.nx ((σ.set i (some v)).set j (some w)) H1
theorem ps_par {i j:Nat}{x y:Str}{a b:Expr}{ta:TA}{px py pt:Pos}{kt k2 pt2}(hc:X.calm=true)(hN:X.N.Nodup)(hi:X.N[i]?=some x)(hj:X.N[j]?=some y)(hij:i≠j)
   (hx:X.env.scope.names.lookup x=some .local) (hy:X.env.scope.names.lookup y=some .local) (ha:PA X [a,b] ta)
   (hw:Bw [.Tuple [.Name x px,.Name y py] kt pt] (.Tuple [a,b] k2 pt2) X.env=pure (some [x,y]))
   (hs:Bv [.Tuple [.Name x px,.Name y py] kt pt] (.Tuple [a,b] k2 pt2) pos.line X.env=pure false:=by rfl) :
   PS X (.Assign [.Tuple [.Name x px,.Name y py] kt pt] (.Tuple [a,b] k2 pt2) pos) (tPar i j ta):=by
 intro jb s σ H D I h;rw[exec_Assign_arm];refine A2 (R7 ?_);rw[hs];refine A2 (B2 ?_);rw[ju (by decide)];refine A2 (Tuple_ (thn (ha _ jb s σ H _ I h) λus s1 ⟨vs,H1,I1,r1,q1⟩=>?_));obtain⟨v,w,e1,q1⟩:=q1;subst e1
 obtain⟨u1,u2,rfl,rv,rw'⟩:∃u1 u2,us=[u1,u2]/\RelV v u1/\RelV w u2:=by
  cases r1 with
  | cons p q =>
   cases q with
   | cons p' q' =>
    cases q';exact⟨_,_,rfl,p,p'⟩
 refine Q1 ?_ (by show 2<=C8;decide);have I2:Inv X jb σ H1 { s1 with heap:=s1.heap.push { cls:=.type "tuple",data:=.seq [u1,u2].toArray } }:=I1.kept (t':=s1.toks) λb o e=>C2 _ e;rw[hw];refine A2 (B2 ?_);show A6 (A7 X.prog X.w) X.A (do rule "assign.swapped-stores";let items ← unpackItems (.ref s1.heap.objs.size) 2 none;Au [λv=>d9 X.env y v,λv=>d9 X.env x v] items.reverse;pure Flow.next) _ _ _;refine A2 (d7 (A2 (unpackItems_tuple (items:=#[u1,u2]) (I.ok.hd hc) (IsTup.new s1.heap _) λh' hx'=>?_)));have I3:=I2.kept (h':=h') (t':=s1.toks) λb o e=>hx' b o (D3 (C4 e)) e;show A6 _ _ (Au [λv=>d9 X.env y v,λv=>d9 X.env x v] [u2,u1]>>=λ_=>pure Flow.next) _ _ _;refine A2 (x8 (CL (p9 I3 hN hj (.inl hy) rw' (λs2 I4=>?_) (.inr hy))));refine x8 (CL (p9 I4 hN hi (.inl hx) rv (λs3 I5=>EK (B2 ?_)) (.inr hx)));rw[x4 _ _ (Ne.symm hij)] at I5;exact⟨_,H1,I5,q1⟩
end
section
variable {X:Cx}{pos:Pos}
def tWhile (c:TT)(tb:TS):TS:=λD σ H=>∃W:Nat->St->Hp->Prop,(∃m,W m σ H)/\∀m σ H,W m σ H->
 c σ H λb H1=>if b=true then ∃N:St->Hp->Prop,(∀σ' H',N σ' H'->∃m',m'<m/\W m' σ' H')/\tb { D with nx:=N,ct:=N,bk:=D.nx } σ H1 else D.nx σ H1
theorem Od (hp:PassesOwn (A7 X.prog X.w) X.A X.env X.xe)(hc:PT X c tc)(hb:PSs X body tb):PS X (.While c body [] pos) (tWhile tc tb):=by
 intro jb s σ H D I h;obtain⟨W,⟨m0,w0⟩,turn⟩:=h;refine wpAny_While (codeAny_whileLoop (λn s'=>∃σ' H',Inv X jb σ' H' s'/\W n σ' H') ?_ m0 ⟨σ,H,I,w0⟩);rintro n s1 ⟨σ1,H1,I1,w1⟩;refine At hp (thn (hc jb s1 σ1 H1 _ I1 (turn n σ1 H1 w1)) λb s2 ⟨H2,I2,q2⟩=>?_);cases b with
 | true =>
  obtain⟨N,hN,q2⟩:=q2;rw[jt rfl];refine At hp (thn (hb jb s2 σ1 H2 _ I2 q2) λf s3 q3=>?_);cases f with
  | next =>
   obtain⟨σ3,H3,I3,n3⟩:=q3;obtain⟨m',hm,w3⟩:=hN σ3 H3 n3;exact⟨m',hm,σ3,H3,I3,w3⟩
  | cont =>
   obtain⟨σ3,H3,I3,n3⟩:=q3;obtain⟨m',hm,w3⟩:=hN σ3 H3 n3;exact⟨m',hm,σ3,H3,I3,w3⟩
  |brk=>exact q3
  |ret v=>exact q3
 | false =>
  rw[ju V3];exact Ej ⟨σ1,H2,I2,q2⟩
end
structure It where
 go:Nat->Hp->Prop
 yld:Nat->Hp->V->Hp->Prop
 stop:Nat->Hp->Prop
def FpOk (X:Cx)(jb:List (A0×Obj))(H:Hp)(b:A0):Prop:=
 H b=none/\b≠X.env.locals/\b∉X.fs/\(b∈X.ex\/X.s₀.heap.objs.size<=b)/\(∀x c,X.env.cells.lookup x=some c->c≠b)/\∀p∈X.pn++jb,p.1≠b
theorem Inv.fpOk (I:Inv X jb σ H s)(hb:s.heap.objs.size<=b)(hn:H' b=none):FpOk X jb H' b:=by
 refine⟨hn,i5 (K3 I.lt hb),I.nofs hb,.inr (J9 I.sz hb),λx c e z=>?_,λp hp z=>?_⟩
 ·obtain⟨v,q⟩:=I.cell x c e;exact absurd (K3 q.lt (by rw[z];exact hb)) (W4 _)
 ·exact absurd (K3 (C4 (I.pin p hp).1) (by rw[z];exact hb)) (W4 _)
structure Turn (P:D1)(w:C9)(K:A9)(tg:Expr)(J:It)(fp:List A0)(it:A0)(tn:Nat->B6->Prop):Prop where
 mem:it∈fp
 obj:∀i h,tn i h->∀b∈fp,∃o,h.get? b=some o/\∀v,o.data≠.cell v
 keep:∀i h h',tn i h->(∀b∈fp,∀o,h.get? b=some o->h'.get? b=some o)->tn i h'
 item:∀(X:Cx),X.prog=P->X.w=w->X.K=K->X.calm=true->∀(i:Nat) (jb:List (A0×Obj)) (s:A5) (σ:St) (H:Hp) (E:A1->A5->Prop),Inv X jb σ H s->(∀b∈fp,FpOk X jb H b)->tn i s.heap->J.go i H->
   A6 (A7 P w) X.A (pyNext (.ref it)) (λr s1=>∃u,r=some u/\
     A6 (A7 P w) X.A (l8 tg (.ref it) u) (λ_ s2=>∃x H',Inv X jb σ H' s2/\RelV x u/\J.yld i H x H'/\tn (i+1) s2.heap/\∀b∈fp,H' b=none) E s1) E s
 done:∀(X:Cx),X.prog=P->X.w=w->X.K=K->X.calm=true->∀(i:Nat) (jb:List (A0×Obj)) (s:A5) (σ:St) (H:Hp) (E:A1->A5->Prop),Inv X jb σ H s->(∀b∈fp,FpOk X jb H b)->tn i s.heap->J.stop i H->
   A6 (A7 P w) X.A (pyNext (.ref it)) (λr s1=>r=none/\Inv X jb σ H s1) E s
 self:∀(A:D5) (i:Nat) (s:A5) (Q:A1->A5->Prop) (E:A1->A5->Prop),tn i s.heap->Q (.ref it) s->A6 (A7 P w) A (pyIter (.ref it)) Q E s
abbrev TI:=St->Hp->(It->Hp->Prop)->Prop
def PIE (X:Cx)(jb:List (A0×Obj))(σ:St)(tg:Expr)(R:It->Hp->Prop)(itv:A1)(s2:A5):Prop:=
 ∃(it:A0) (fp:List A0) (tn:Nat->B6->Prop) (J:It) (H':Hp),itv=.ref it/\Inv X jb σ H' s2/\Turn X.prog X.w X.K tg J fp it tn/\tn 0 s2.heap/\(∀b∈fp,FpOk X jb H' b)/\R J H'
def PI (X:Cx)(tg iter:Expr)(wi:TI):Prop:=
 ∀ (jb : List (A0 × Obj)) (s : A5) (σ : St) (H : Hp) (R : It -> Hp -> Prop), Inv X jb σ H s -> wi σ H R ->
   A6 (A7 X.prog X.w) X.A (eval iter X.env) (λv s1=>A6 (A7 X.prog X.w) X.A (pyIter v) (PIE X jb σ tg R) X.xe s1) X.xe s
theorem Fb (ho:s.heap.get? it=some o)(hc:o.cls=.type n)(hd:o.data=.fields vs)
   (hn:["enumerate","zip","dict_itemiterator","dict_reverseitemiterator","odict_iterator","itertools.zip_longest","itertools.pairwise"].contains n=false) (hQ:Q () s):A6 M A (l8 tg (.ref it) u) Q E s:=by
 unfold l8
 cases tg <;> first
   |exact B2 hQ
   |(cases u <;> first
       |exact B2 hQ
       | (refine A2 (wpAny_load ho ?_)
          rw[hc,hd];show A6 M A (if(["enumerate","zip","dict_itemiterator","dict_reverseitemiterator","odict_iterator","itertools.zip_longest","itertools.pairwise"].contains n&&vs[0]? == some (rawInt _))=true then _ else _) Q E s;rw[ju (by intro h;rw[hn,p5] at h;cases h)]
          exact B2 hQ))
def Itl (K:A9)(a:A0):It:=
 ⟨λi H=>∃xs x,SqL K H a xs/\xs[i]?=some x,λi H x H'=>H'=H/\∀xs,SqL K H a xs->xs[i]?=some x,λi H=>∃xs,SqL K H a xs/\xs.length<=i⟩
def Itt (K:A9)(a:A0):It:=
 ⟨λi H=>∃xs x,SqT K H a xs/\xs[i]?=some x,λi H x H'=>H'=H/\∀xs,SqT K H a xs->xs[i]?=some x,λi H=>∃xs,SqT K H a xs/\xs.length<=i⟩
def Itr (lo:Int)(n:Nat):It:=⟨λi _=>i<n,λi H x H'=>H'=H/\x=.int (lo+i),λi _=>n<=i⟩
theorem Oe {K:A9}(a it:A0):Turn P w K tg (Itl K a) [it] it (λi h=>h.IsListIter it a i) where
 mem:=by simp
 obj:=λi h st b hb=>by
  have e:b=it:=by simpa using hb
  subst e;obtain⟨o,e,c,d⟩:=st;exact⟨o,e,λv z=>by rw[d] at z;cases z⟩
 keep:=λi h h' st k=>st.at λo e=>k it (by simp) o e
 item:=by
  intro X hP hw hK hc i jb s σ H E I hf st hg;subst hP hw hK;obtain⟨xs,x,hq,hx⟩:=hg;obtain⟨jf,rv,p,hz⟩:=I.list hq;obtain⟨u,hu,ru⟩:=rv.get hx;obtain⟨f0,f1,f2,f3,f4,f5⟩:=hf it (by simp);refine wpAny_pyNext_list_item st p.isList (x:=u) (by simpa using hu) λh' st' sb=>?_;have I1:Inv X jb σ H { s with heap:=h' }:=I.turned (t':=s.toks) (λb o hb e=>(sb.2 b hb).trans e) f0 f1 f3 f4 f5;obtain⟨o,e,c,d⟩:=id st';exact⟨u,rfl,Fb (s:={ s with heap:=h' }) e c d (by decide) ⟨x,H,I1,ru,⟨rfl,λys hy=>by rw[I.list_inj hy hq];exact hx⟩,st',λb hb=>(hf b hb).1⟩⟩
 done:=by
  intro X hP hw hK hc i jb s σ H E I hf st hg;subst hP hw hK;obtain⟨xs,hq,hx⟩:=hg;obtain⟨jf,rv,p,hz⟩:=I.list hq;obtain⟨f0,f1,f2,f3,f4,f5⟩:=hf it (by simp);have hl:=rv.length;exact wpAny_pyNext_list_end (I.ok.hd hc) st p.isList (by simp;omega) λh' eb=>⟨rfl,I.turned (t':=s.toks) (λb o hb e=>eb b o hb e) f0 f1 f3 f4 f5⟩
 self:=λ_ _ _ _ _ st h=>wpAny_pyIter_listiter st h
theorem Of {K:A9}(a it:A0):Turn P w K tg (Itt K a) [it] it (λi h=>h.IsTupleIter it a i) where
 mem:=by simp
 obj:=λi h st b hb=>by
  have e:b=it:=by simpa using hb
  subst e;obtain⟨o,e,c,d⟩:=st;exact⟨o,e,λv z=>by rw[d] at z;cases z⟩
 keep:=λi h h' st k=>st.at λo e=>k it (by simp) o e
 item:=by
  intro X hP hw hK hc i jb s σ H E I hf st hg;subst hP hw hK;obtain⟨xs,x,hq,hx⟩:=hg;obtain⟨jf,rv,p,hz⟩:=I.tuple hq;obtain⟨u,hu,ru⟩:=rv.get hx;obtain⟨f0,f1,f2,f3,f4,f5⟩:=hf it (by simp);refine wpAny_pyNext_tuple_item st (show s.heap.IsTuple a jf.toArray from p) (x:=u) (by simpa using hu) λh' st' sb=>?_;have I1:Inv X jb σ H { s with heap:=h' }:=I.turned (t':=s.toks) (λb o hb e=>(sb.2 b hb).trans e) f0 f1 f3 f4 f5;obtain⟨o,e,c,d⟩:=id st';exact⟨u,rfl,Fb (s:={ s with heap:=h' }) e c d (by decide) ⟨x,H,I1,ru,⟨rfl,λys hy=>by rw[I.tuple_inj hy hq];exact hx⟩,st',λb hb=>(hf b hb).1⟩⟩
 done:=by
  intro X hP hw hK hc i jb s σ H E I hf st hg;subst hP hw hK;obtain⟨xs,hq,hx⟩:=hg;obtain⟨jf,rv,p,hz⟩:=I.tuple hq;obtain⟨f0,f1,f2,f3,f4,f5⟩:=hf it (by simp);have hl:=rv.length;exact wpAny_pyNext_tuple_end (I.ok.hd hc) st (show s.heap.IsTuple a jf.toArray from p) (by simp;omega) λh' eb=>⟨rfl,I.turned (t':=s.toks) (λb o hb e=>eb b o hb e) f0 f1 f3 f4 f5⟩
 self:=λ_ _ _ _ _ st h=>wpAny_pyIter_tupleiter st h
theorem Og {K:A9}(it:A0)(lo:Int)(n:Nat):Turn P w K tg (Itr lo n) [it] it (λi h=>IsRangeIter h it (lo+(i:Nat)*1) ((n:Int)-(i:Nat)) 1) where
 mem:=by simp
 obj:=fun i h st b hb=>by
  have e:b=it:=by simpa using hb
  subst e
  exact⟨_,st,λv z=>by
   have z':Dj _=Data.cell v:=z
   cases z'⟩
 keep:=λi h h' st k=>k it (by simp) _ st
 item:=by
  intro X hP hw hK hc i jb s σ H E I hf st hg;subst hP hw hK;obtain⟨f0,f1,f2,f3,f4,f5⟩:=hf it (by simp);have W:=Walks.range (prog:=X.prog) (w:=X.w) (I.ok.hd hc) it lo 1 n;refine W.item i s _ _ hg st λv h' tk hv st' kk=>?_;obtain⟨t,rfl⟩:=hv;have I1:Inv X jb σ H { s with heap:=h',toks:=tk }:=I.turned (λb o hb e=>kk b o (by simpa using hb) e) f0 f1 f3 f4 f5;refine⟨_,rfl,Fb (s:={ s with heap:=h',toks:=tk }) (n:="range_iterator") st' rfl rfl (by decide) ⟨.int (lo+i),H,I1,⟨t,?_⟩,⟨rfl,rfl⟩,st',λb hb=>(hf b hb).1⟩⟩;rw[Int.mul_one]
 done:=by
  intro X hP hw hK hc i jb s σ H E I hf st hg;subst hP hw hK;obtain⟨f0,f1,f2,f3,f4,f5⟩:=hf it (by simp);exact wpAny_pyNext_range_end (I.ok.hd hc) st (by have:n<=i:=hg;omega) λh' eb=>⟨rfl,I.turned (t':=s.toks) (λb o hb e=>eb b o hb e) f0 f1 f3 f4 f5⟩
 self:=λ_ _ _ _ _ st h=>wpAny_pyIter_rangeiter st h
section
variable {X:Cx}{tg:Expr}
def iList (K:A9)(tl:TE):TI:=λσ H R=>tl σ H λx H1=>∃a,x=.ref a/\(∃xs,SqL K H1 a xs)/\R (Itl K a) H1
def iTup (K:A9)(tl:TE):TI:=λσ H R=>tl σ H λx H1=>∃a,x=.ref a/\(∃xs,SqT K H1 a xs)/\R (Itt K a) H1
theorem Oh (hl:PE X l tl):PI X tg l (iList X.K tl):=by
 intro jb s σ H R I h;refine thn (hl jb s σ H _ I h) λv s1 ⟨x,H1,I1,r1,q1⟩=>?_;obtain⟨a,e,⟨xs,hq⟩,q⟩:=q1;subst e;cases r1;obtain⟨jf,rv,p,hz⟩:=I1.list hq;refine Bt p.isList ?_;refine⟨s1.heap.objs.size,[s1.heap.objs.size],_,_,H1,rfl,I1.kept (t':=s1.toks) λb o e=>C2 _ e,Oe a _,⟨_,E9 _ rfl,rfl,rfl⟩,λb hb=>?_,q⟩;have e:b=s1.heap.objs.size:=by simpa using hb
 subst e;exact I1.fpOk (C7 _) (I1.hok.fresh (C7 _))
theorem pi_tup (hl:PE X l tl):PI X tg l (iTup X.K tl):=by
 intro jb s σ H R I h;refine thn (hl jb s σ H _ I h) λv s1 ⟨x,H1,I1,r1,q1⟩=>?_;obtain⟨a,e,⟨xs,hq⟩,q⟩:=q1;subst e;cases r1;obtain⟨jf,rv,p,hz⟩:=I1.tuple hq;refine Br (show s1.heap.IsTuple a jf.toArray from p) ?_;refine⟨s1.heap.objs.size,[s1.heap.objs.size],_,_,H1,rfl,I1.kept (t':=s1.toks) λb o e=>C2 _ e,Of a _,⟨_,E9 _ rfl,rfl,rfl⟩,λb hb=>?_,q⟩;have e:b=s1.heap.objs.size:=by simpa using hb
 subst e;exact I1.fpOk (C7 _) (I1.hok.fresh (C7 _))
theorem Oi {lo hi:Int}(I:Inv X jb σ H s)(h1:-(2 ^ 62)<=lo)(h2:lo<2 ^ 62)(h3:-(2 ^ 62)<=hi)(h4:hi<2 ^ 62)
   (q:R (Itr lo (hi-lo).toNat) H):A6 (A7 X.prog X.w) X.A (pyIter (.ref s.heap.objs.size)) (PIE X jb σ tg R) E { s with heap:=s.heap.push { cls:=.type "range",data:=.fields #[.int lo t,.int hi u,.int 1 v] },toks:=tk }:=by
 refine wpAny_pyIter_range (IsRange.new ..) (small_one h1 h2 h3 h4) ?_;have I1:Inv X jb σ H { s with heap:=s.heap.push { cls:=.type "range",data:=.fields #[.int lo t,.int hi u,.int 1 v] },toks:=tk }:=I.kept λb o e=>C2 _ e
 refine⟨(s.heap.push { cls:=.type "range",data:=.fields #[.int lo t,.int hi u,.int 1 v] }).objs.size,[(s.heap.push { cls:=.type "range",data:=.fields #[.int lo t,.int hi u,.int 1 v] }).objs.size],_,_,H,rfl,
  I1.kept (t':=tk) λb o e=>C2 _ e,Og _ lo (hi-lo).toNat,?_,λb hb=>?_,q⟩
 ·have e1:lo+((0:Nat):Int)*1=lo:=by simp
  have e2:(((hi-lo).toNat:Nat):Int)-((0:Nat):Int)=Builtin.Range.rangeSize lo hi 1:=by rw[rangeSize_one];split <;> omega
  show IsRangeIter _ _ (lo+((0:Nat):Int)*1) ((((hi-lo).toNat:Nat):Int)-((0:Nat):Int)) 1;rw[e1,e2];exact E9 _ rfl
 ·have e:b=(s.heap.push { cls:=.type "range",data:=.fields #[.int lo t,.int hi u,.int 1 v] }).objs.size:=by simpa using hb
  subst e;exact I1.fpOk (C7 _) (I1.hok.fresh (C7 _))
def iRng1 (ta:TA):TI:=λσ H R=>ta σ H λvs H1=>∃j:Int,vs=[.int j]/\-(2 ^ 62)<=j/\j<2 ^ 62/\R (Itr 0 j.toNat) H1
theorem Oj (hg:Gl X "range")(hm:X.mg "range"=none)(ha:PA X [a] ta)(hs:F5 [a] X.env=[(false,eval a X.env)]:=by rfl):PI X tg (.Call (.Name "range" p) [a] [] pos) (iRng1 ta):=by
 intro jb s σ H R I h;refine Call_ (AM I hg hm boot_range (EI (thn (ha pos jb s σ H _ I h) λus s1 ⟨vs,H1,I1,r1,q1⟩=>?_) hs rfl));obtain⟨j,e,q1,q2,q⟩:=q1;subst e;cases r1 with
 | cons r rr =>
  cases rr;obtain⟨t,rfl⟩:=r;exact call_range_1 (Oi I1 (by omega) (by omega) q1 q2 (by simpa using q))
def tFor (wi:TI)(g:TG)(tb:TS):TS:=λD σ H=>wi σ H λJ H1=>∃W:Nat->Nat->St->Hp->Prop,(∃m,W 0 m σ H1)/\∀i m σ H,W i m σ H->
 (J.stop i H/\D.nx σ H)\/(J.go i H/\∃N:St->Hp->Prop,(∀σ' H',N σ' H'->∃m',m'<m/\W (i+1) m' σ' H')/\∀x H',J.yld i H x H'->g x σ H' λσ2 H2=>tb { D with nx:=N,ct:=N,bk:=D.nx } σ2 H2)
def AN (fp:List A0)(h:B6):List (A0×Obj):=fp.filterMap λb=>(h.get? b).map λo=>(b,o)
theorem Dl (hb:b∈fp)(e:h.get? b=some o):(b,o)∈AN fp h:=List.mem_filterMap.mpr ⟨b,hb,by rw[e];rfl⟩
theorem Om (hp:p∈AN fp h):p.1∈fp/\h.get? p.1=some p.2:=by
 obtain⟨b,hb,e⟩:=List.mem_filterMap.mp hp;cases q:h.get? b with
 |none=>rw[q] at e;cases e
 | some o =>
  rw[q] at e;have e':(b,o)=p:=M9 e;subst e';exact⟨hb,q⟩
theorem Inv.pinned (I:Inv X jb σ H s)(hf:∀b∈fp,FpOk X jb H b)(ho:∀b∈fp,∃o,s.heap.get? b=some o/\∀v,o.data≠.cell v):Inv X (jb++AN fp s.heap) σ H s:=
 I.pins_of fun p hp=>(E2.mp hp).elim (fun z=>I.pin p (M2 _ z)) fun z=>by
  obtain⟨hb,e⟩:=Om z;obtain⟨f0,f1,f2,_⟩:=hf p.1 hb;obtain⟨o,e',d⟩:=ho p.1 hb;rw[e] at e';cases e';exact⟨e,f0,f1,f2,d⟩
theorem Inv.unpinned (I:Inv X (jb++pl) σ H s):Inv X jb σ H s:=I.pins_of λp hp=>I.pin p (M2 _ (n6 _ hp))
theorem ps_for (hp:PassesOwn (A7 X.prog X.w) X.A X.env X.xe)(hc:X.calm=true)(hi:PI X tg iter wi)(hg:PG X tg g)(hb:PSs X body tb)
   (hs:∀x,Q9 iter X.env x=pure x:=by intro _;rfl):PS X (.For tg iter body [] pos) (tFor wi g tb):=by
 intro jb s σ H D I h;refine wpAny_For (thn (hi jb s σ H _ I h) λv s1 h1=>thn h1 λitv s2 h2=>?_) hs;obtain⟨it,fp,tn,J,H2,e,I2,T,st2,f2,W,⟨m0,w0⟩,turn⟩:=h2;subst e
 -- what stays true of the iterator's objects through the loop
 have stat:∀{H':Hp},(∀b∈fp,H' b=none)->∀b∈fp,FpOk X jb H' b:=λhn b hb=>⟨hn b hb,(f2 b hb).2⟩;refine codeAny_forLoop_any (λn s'=>∃i σ' H',Inv X jb σ' H' s'/\tn i s'.heap/\(∀b∈fp,H' b=none)/\W i n σ' H') ?_ m0 ⟨0,σ,H2,I2,st2,λb hb=>(f2 b hb).1,w0⟩;rintro n s3 ⟨i,σ3,H3,I3,st3,fr3,w3⟩;rcases turn i n σ3 H3 w3 with⟨stop,qn⟩|⟨go,N,hN,step⟩
 ·refine At hp (thn (T.done X rfl rfl rfl hc i jb s3 σ3 H3 X.xe I3 (stat fr3) st3 stop) λr s4 ⟨hr,I4⟩=>?_);subst hr;exact Ej ⟨σ3,H3,I4,qn⟩
 ·refine At hp (thn (T.item X rfl rfl rfl hc i jb s3 σ3 H3 X.xe I3 (stat fr3) st3 go) λr s4 ⟨u,hr,h4⟩=>?_);subst hr;refine At hp (thn h4 λ_ s5 ⟨x,H5,I5,r5,y5,st5,fr5⟩=>?_);have I5':=I5.pinned (stat fr5) (T.obj _ _ st5);refine At hp (thn (hg _ s5 σ3 H5 x u _ I5' r5 (step x H5 y5)) λ_ s6 ⟨σ6,H6,I6,q6⟩=>?_);refine At hp (thn (hb _ s6 σ6 H6 _ I6 q6) λf s7 q7=>?_)
  have again:∀{σ7:St} {H7:Hp},Inv X (jb++AN fp s5.heap) σ7 H7 s7->N σ7 H7->∃m,m<n/\∃i σ' H',Inv X jb σ' H' s7/\tn i s7.heap/\(∀b∈fp,H' b=none)/\W i m σ' H':=λ{σ7 H7} I7 n7=>by
   obtain⟨m',hm,w7⟩:=hN σ7 H7 n7;refine⟨m',hm,i+1,σ7,H7,I7.unpinned,T.keep _ _ _ st5 λb hb o e=>(I7.pin (b,o) (M2 _ (M2 _ (Dl hb e)))).1,λb hb=>?_,w7⟩;obtain⟨o,e,d⟩:=T.obj _ _ st5 b hb;exact(I7.pin (b,o) (M2 _ (M2 _ (Dl hb e)))).2.1
  cases f with
  |next=>obtain⟨σ7,H7,I7,n7⟩:=q7;exact again I7 n7
  |cont=>obtain⟨σ7,H7,I7,n7⟩:=q7;exact again I7 n7
  |brk=>obtain⟨σ7,H7,I7,q7⟩:=q7;exact⟨σ7,H7,I7.unpinned,q7⟩
  |ret v=>obtain⟨x7,σ7,H7,I7,r7,q7⟩:=q7;exact⟨x7,σ7,H7,I7.unpinned,r7,q7⟩
end
abbrev R2:=V->V->Hp->VK->Prop
def OpR (X:Cx)(f:A1->A1->Sem A1)(r:R2):Prop:=
 ∀ (jb : List (A0 × Obj)) (s : A5) (σ : St) (H : Hp) (x y : V) (v u : A1) (Q : VK), Inv X jb σ H s -> RelV x v -> RelV y u -> r x y H Q ->
   A6 (A7 X.prog X.w) X.A (f v u) (EP X jb σ Q) X.xe s
def N0 (X:Cx)(f:A1)(r:List V->Hp->VK->Prop):Prop:=
 ∀ (jb : List (A0 × Obj)) (s : A5) (σ : St) (H : Hp) (xs : List V) (us : List A1) (Q : VK), Inv X jb σ H s -> Vals xs us -> r xs H Q ->
   A6 (A7 X.prog X.w) X.A (call f us) (EP X jb σ Q) X.xe s
def TruR (X:Cx)(r:V->Hp->(Bool->Hp->Prop)->Prop):Prop:=
 ∀ (jb : List (A0 × Obj)) (s : A5) (σ : St) (H : Hp) (x : V) (v : A1) (Q : Bool -> Hp -> Prop), Inv X jb σ H s -> RelV x v -> r x H Q ->
   A6 (A7 X.prog X.w) X.A (truthy v) (TP X jb σ Q) X.xe s
def tOp (r:R2)(ta tb:TE):TE:=λσ H Q=>ta σ H λx H1=>tb σ H1 λy H2=>r x y H2 Q
def rI (C:Int->Int->Prop)(g:Int->Int->V):R2:=λx y H Q=>∃i j,x=.int i/\y=.int j/\C i j/\Q (g i j) H
def rI0 (g:Int->Int->V):R2:=λx y H Q=>∃i j,x=.int i/\y=.int j/\Q (g i j) H
def rU (g:Int->V):V->Hp->VK->Prop:=λx H Q=>∃i,x=.int i/\Q (g i) H
section
variable {X:Cx}{a b c:Expr}{ta tb tc:TE}{pos:Pos}
theorem binT (ha:PE X a ta)(hb:PE X b tb){R:V->V->Hp->Prop}(I:Inv X jb σ H s)
   (h:ta σ H λx H1=>tb σ H1 λy H2=>R x y H2) {f:A1->A1->Sem A1}
   (hf:∀v u s2 x y H2,Inv X jb σ H2 s2->RelV x v->RelV y u->R x y H2->A6 (A7 X.prog X.w) X.A (f v u) Q X.xe s2) :
   A6 (A7 X.prog X.w) X.A (eval a X.env) (λv s₁=>A6 (A7 X.prog X.w) X.A (eval b X.env) (λu s₂=>A6 (A7 X.prog X.w) X.A (f v u) Q X.xe s₂) X.xe s₁) X.xe s:=by
 refine thn (ha jb s σ H _ I h) λv s1 ⟨x,H1,I1,r1,q1⟩=>?_;refine thn (hb jb s1 σ H1 _ I1 q1) λu s2 ⟨y,H2,I2,r2,q2⟩=>?_;exact hf v u s2 x y H2 I2 r1 r2 q2
theorem L7 (ho:OpR X (T8 op) r)(ha:PE X a ta)(hb:PE X b tb):PE X (.BinOp a op b pos) (tOp r ta tb):=by
 intro jb s σ H Q I h;exact wpAny_BinOp (binT ha hb I h λv u s2 x y H2 I2 rx ry q=>ho jb s2 σ H2 x y v u Q I2 rx ry q)
theorem opI {g:Int->Int->Int}
   (rule:∀(i j:Int) (t u:Tok) (s:A5) (Q:A1->A5->Prop) (E:A1->A5->Prop),C i j->Q (.int (g i j) s.toks) { s with toks:=s.toks+1 }->A6 (A7 X.prog X.w) X.A (f (.int i t) (.int j u)) Q E s) :
   OpR X f (rI C λi j=>.int (g i j)):=by
 intro jb s σ H x y v u Q I rx ry h;obtain⟨i,j,rfl,rfl,hc,q⟩:=h;obtain⟨t,rfl⟩:=rx;obtain⟨t',rfl⟩:=ry;exact rule i j t t' s _ _ hc ⟨.int (g i j),H,I.tok _,⟨_,rfl⟩,q⟩
theorem opI0 {g:Int->Int->Int}
   (rule:∀(i j:Int) (t u:Tok) (s:A5) (Q:A1->A5->Prop) (E:A1->A5->Prop),Q (.int (g i j) s.toks) { s with toks:=s.toks+1 }->A6 (A7 X.prog X.w) X.A (f (.int i t) (.int j u)) Q E s) :
   OpR X f (rI0 λi j=>.int (g i j)):=by
 intro jb s σ H x y v u Q I rx ry h;obtain⟨i,j,rfl,rfl,q⟩:=h;obtain⟨t,rfl⟩:=rx;obtain⟨t',rfl⟩:=ry;exact rule i j t t' s _ _ ⟨.int (g i j),H,I.tok _,⟨_,rfl⟩,q⟩
theorem opB0 {g:Int->Int->Bool}
   (rule:∀(i j:Int) (t u:Tok) (s:A5) (Q:A1->A5->Prop) (E:A1->A5->Prop),Q (.bool (g i j)) s->A6 (A7 X.prog X.w) X.A (f (.int i t) (.int j u)) Q E s) :
   OpR X f (rI0 λi j=>.bl (g i j)):=by
 intro jb s σ H x y v u Q I rx ry h;obtain⟨i,j,rfl,rfl,q⟩:=h;obtain⟨t,rfl⟩:=rx;obtain⟨t',rfl⟩:=ry;exact rule i j t t' s _ _ ⟨.bl (g i j),H,I,rfl,q⟩
def CDiv (i j:Int):Prop:=0<j/\j<1073741824
def CPow (i j:Int):Prop:=0<=j/\j<=1000000/\i.natAbs<2 ^ 64
def CMul (i j:Int):Prop:=(-(2 ^ 64)<i/\i<2 ^ 64)\/(-(2 ^ 64)<j/\j<2 ^ 64)
theorem CMul.ok (h:CMul i j):IntMulOk i j:=by
 rcases h with⟨h1,h2⟩|⟨h1,h2⟩
 ·exact .of_left (intBits_le_64 h1 h2)
 ·exact .of_right (intBits_le_64 h1 h2)
theorem y4:OpR X (T8 .Add) (rI0 λi j=>.int (i+j)):=opI0 λ_ _ _ _ _ _ _ q=>add_int q
theorem op_sub:OpR X (T8 .Sub) (rI0 λi j=>.int (i-j)):=opI0 λ_ _ _ _ _ _ _ q=>sub_int q
theorem y7:OpR X (T8 .Mult) (rI CMul λi j=>.int (i*j)):=opI λ_ _ _ _ _ _ _ hc q=>mul_int q hc.ok
theorem GX:OpR X (T8 .FloorDiv) (rI CDiv λi j=>.int (i/j)):=opI λi j _ _ _ _ _ hc q=>by
 have h1:(0:Int)<j:=hc.1;have h2:j<1073741824:=hc.2;exact floordiv_int (by omega) (by rw[Int.fdiv_eq_ediv_of_nonneg i (by omega)];exact q) (.inl (PyProof.noPylong_small (by omega)))
theorem AO:OpR X (T8 .Mod) (rI (λ_ j=>0<j) λi j=>.int (i%j)):=opI λi j _ _ _ _ _ hc q=>by
 have h1:(0:Int)<j:=hc;exact mod_int' (by omega) (by rw[Int.fmod_eq_emod_of_nonneg i (by omega)];exact q)
theorem op_pow:OpR X (T8 .Pow) (rI CPow λi j=>.int (i ^ j.toNat)):=opI λ_ _ _ _ _ _ _ hc q=>pow_int_small hc.1 hc.2.1 hc.2.2 q
end
section
variable {X:Cx}{a b c:Expr}{ta tb tc:TE}{pos:Pos}
theorem Fc (I:Inv X jb σ H s)(q:Q (.bl k) H)(e:k=k'):EP X jb σ Q (.bool k') s:=by
 subst e;exact⟨.bl k,H,I,rfl,q⟩
theorem GY:OpR X (M1 .Lt) (rI0 λi j=>.bl (decide (i<j))):=opB0 λ_ _ _ _ _ _ _ q=>lt_int q
theorem op_le:OpR X (M1 .LtE) (rI0 λi j=>.bl (decide (i<=j))):=opB0 λ_ _ _ _ _ _ _ q=>le_int q
theorem op_gt:OpR X (M1 .Gt) (rI0 λi j=>.bl (decide (j<i))):=opB0 λ_ _ _ _ _ _ _ q=>gt_int q
theorem op_ge:OpR X (M1 .GtE) (rI0 λi j=>.bl (decide (j<=i))):=opB0 λ_ _ _ _ _ _ _ q=>ge_int q
theorem On:OpR X (M1 .Lt) (λx y H Q=>∃i j,x=.str i/\y=.str j/\Q (.bl (decide (i.cps.toList<j.cps.toList))) H):=by
 intro jb s σ H x y v u Q I rx ry h;obtain⟨i,j,rfl,rfl,q⟩:=h;obtain⟨t,rfl⟩:=rx;obtain⟨t',rfl⟩:=ry;exact lt_str (Fc I q rfl)
theorem Oo:OpR X (M1 .In) (λx y H Q=>∃i j,x=.str i/\y=.str j/\Q (.bl (!(BQ j i 0 j.length 1).isEmpty)) H):=by
 intro jb s σ H x y v u Q I rx ry h;obtain⟨i,j,rfl,rfl,q⟩:=h;obtain⟨t,rfl⟩:=rx;obtain⟨t',rfl⟩:=ry;exact in_str (Fc I q rfl)
theorem Op:OpR X (M1 .IsNot) (λx y H Q=>y=.non/\Q (.bl (!decide (x=.non))) H):=by
 intro jb s σ H x y v u Q I rx ry h;obtain⟨rfl,q⟩:=h;cases ry;refine isnot_none_gen (Fc I q ?_)
 cases x <;> first
   |(cases rx;rfl)
   |(obtain⟨t,rfl⟩:=rx;rfl)
theorem OpR.or (h:OpR X f r)(h':OpR X f r'):OpR X f (λx y H Q=>r x y H Q\/r' x y H Q):=by
 intro jb s σ H x y v u Q I rx ry q;rcases q with q|q
 ·exact h jb s σ H x y v u Q I rx ry q
 ·exact h' jb s σ H x y v u Q I rx ry q
theorem D6 (b:Expr)(h:op≠.In:=by decide)(h2:op≠.NotIn:=by decide):Av op b=false:=by
 have e1:(op == CmpOp.In)=false:=by cases op <;> first|rfl|exact absurd rfl h
 have e2:(op == CmpOp.NotIn)=false:=by cases op <;> first|rfl|exact absurd rfl h2
 cases b <;> simp[Av,e1,e2]
theorem Jz (ho:OpR X (M1 op) r)(ha:PE X a ta)(hb:PE X b tb)(hm:Av op b=false):PE X (.Compare a [op] [b] pos) (tOp r ta tb):=by
 intro jb s σ H Q I h;exact wpAny_Compare1 (binT ha hb I h λv u s2 x y H2 I2 rx ry q=>ho jb s2 σ H2 x y v u Q I2 rx ry q) hm
def GZ (t:TE):TT:=λσ H Q=>t σ H λx H'=>∃k,x=.bl k/\Q k H'
theorem Dm (ho:OpR X (M1 op) r)(ha:PE X a ta)(hb:PE X b tb)(hm:Av op b=false):PT X (.Compare a [op] [b] pos) (GZ (tOp r ta tb)):=by
 intro jb s σ H Q I h
 refine wpAny_isTrue_Compare1 (thn (ha jb s σ H _ I h) λv s1 ⟨x,H1,I1,r1,q1⟩=>thn (hb jb s1 σ H1 _ I1 q1) λu s2 ⟨y,H2,I2,r2,q2⟩=>
  thn (ho jb s2 σ H2 x y v u _ I2 r1 r2 q2) λc s3 ⟨z,H3,I3,r3,k,e,q3⟩=>?_) hm
 subst e;cases r3;exact X9 ⟨H3,I3,q3⟩
def G_ (r r':R2)(ta tb tc:TE):TE:=λσ H Q=>ta σ H λx H1=>tb σ H1 λy H2=>r x y H2 λz H3=>∃k,z=.bl k/\
 (if k=true then tc σ H3 λw' H4=>r' y w' H4 Q else Q (.bl false) H3)
theorem Oq (ho:OpR X (M1 op) r)(ho':OpR X (M1 op') r')(ha:PE X a ta)(hb:PE X b tb)(hc:PE X c tc)
   (hm:lastMarks [op,op'] [b,c]=false:=by with_unfolding_all rfl):PE X (.Compare a [op,op'] [b,c] pos) (G_ r r' ta tb tc):=by
 intro jb s σ H Q I h
 refine Compare_chain (thn (ha jb s σ H _ I h) λv s1 ⟨x,H1,I1,r1,q1⟩=>chain_link (thn (hb jb s1 σ H1 _ I1 q1) λu s2 ⟨y,H2,I2,r2,q2⟩=>
  thn (ho jb s2 σ H2 x y v u _ I2 r1 r2 q2) λd s3 ⟨z,H3,I3,r3,k,e,q3⟩=>?_)) hm
 subst e;cases r3;refine X9 ?_;cases k with
 |false=>exact ite_ff ⟨.bl false,H3,I3,rfl,q3⟩
 |true=>exact ite_tt (chain_last (thn (hc jb s3 σ H3 _ I3 q3) λw' s4 ⟨z',H4,I4,r4,q4⟩=>ho' jb s4 σ H4 y z' u w' Q I4 r2 r4 q4))
theorem Os (ho:OpR X (M1 op) r)(ho':OpR X (M1 op') r')(ha:PE X a ta)(hb:PE X b tb)(hc:PE X c tc)
   (hm:lastMarks [op,op'] [b,c]=false:=by with_unfolding_all rfl):PT X (.Compare a [op,op'] [b,c] pos) (GZ (G_ r r' ta tb tc)):=by
 intro jb s σ H Q I h
 refine isTrue_chain (thn (ha jb s σ H _ I h) λv s1 ⟨x,H1,I1,r1,q1⟩=>test_link (thn (hb jb s1 σ H1 _ I1 q1) λu s2 ⟨y,H2,I2,r2,q2⟩=>
  thn (ho jb s2 σ H2 x y v u _ I2 r1 r2 q2) λd s3 ⟨z,H3,I3,r3,k,e,q3⟩=>?_)) hm
 subst e;cases r3;refine X9 ?_;cases k with
 | false =>
  obtain⟨k',e',q'⟩:=q3;cases e';exact ite_ff ⟨H3,I3,q'⟩
 | true =>
  refine ite_tt (test_last (thn (hc jb s3 σ H3 _ I3 q3) λw' s4 ⟨z',H4,I4,r4,q4⟩=>thn (ho' jb s4 σ H4 y z' u w' _ I4 r2 r4 q4) λd' s5 ⟨z2,H5,I5,r5,k2,e2,q5⟩=>?_));subst e2;cases r5;exact X9 ⟨H5,I5,q5⟩
def TruV (K:A9)(x:V)(H:Hp)(k:Bool):Prop:=
 match x with
 |.non=>k=false
 |.bl b=>k=b
 |.int i=>k=(i != 0)
 |.str y=>y.length<=C8/\k=((y.length:Int) != 0)
 |.byt y=>y.size<=C8/\k=((y.size:Int) != 0)
 |.ref p=>(∃xs,SqL K H p xs/\k=!xs.isEmpty)\/(∃xs,SqT K H p xs/\k=!xs.isEmpty)\/∃jg,H p=some (.dK jg)/\k=!jg.isEmpty
 |_=>False
theorem Ot {κ:Type}{jg:List (κ×V)}{vs:List (κ×A1)}(r:KV jg vs):(!vs.isEmpty)=!jg.isEmpty:=by
 cases r <;> rfl
theorem JA (r:Vals xs jf):(!jf.toArray.isEmpty)=!xs.isEmpty:=by
 cases r <;> simp
theorem AQ:(C8:Nat)<2 ^ 63:=by rw[K9];decide
theorem JB:TruR X (λx H Q=>∃k,TruV X.K x H k/\Q k H):=by
 intro jb s σ H x v Q I rx h;obtain⟨k,e,q⟩:=h;have hl:=AQ;have hs:C8=16777216:=K9;cases x with
 | non =>
  cases rx;have e':k=false:=e;subst e';exact truthy_none ⟨H,I,q⟩
 | bl b =>
  cases rx;have e':k=b:=e;subst e';exact X9 ⟨H,I,q⟩
 | int i =>
  obtain⟨t,rfl⟩:=rx;have e':k=(i != 0):=e;subst e';exact PySem.P.truthy_int ⟨H,I,q⟩
 | str y =>
  obtain⟨t,rfl⟩:=rx;obtain⟨hy,e'⟩:y.length<=C8/\k=((y.length:Int) != 0):=e;subst e';exact PySem.P.truthy_str (by omega) ⟨H,I.tok _,q⟩
 | byt y =>
  obtain⟨t,rfl⟩:=rx;obtain⟨hy,e'⟩:y.size<=C8/\k=((y.size:Int) != 0):=e;subst e';exact PySem.W.truthy_bytes (by omega) ⟨H,I.tok _,q⟩
 | ref p =>
  cases rx;have e':(∃xs,SqL X.K H p xs/\k=!xs.isEmpty)\/(∃xs,SqT X.K H p xs/\k=!xs.isEmpty)\/∃jg,H p=some (.dK jg)/\k=!jg.isEmpty:=e;rcases e' with⟨xs,hx,e'⟩|⟨xs,hx,e'⟩|⟨jg,hx,e'⟩
  ·subst e';obtain⟨jf,r,pl,hz⟩:=I.list hx;have hlen:=r.length;exact wpAny_truthy_list pl.isList (by simp only[G5];omega) ⟨H,I.tok _,by rw[JA r];exact q⟩
  ·subst e';obtain⟨jf,r,pl,hz⟩:=I.tuple hx;have hlen:=r.length;exact truthy_tuple pl (by simp only[G5];omega) ⟨H,I.tok _,by rw[JA r];exact q⟩
  ·subst e';obtain⟨hz,hS,vs,r,m⟩:jg.length<=C8/\(p == O3)=false/\∃vs,KV jg vs/\s.heap.DictOf (J6 X.prog X.w) p vs:=I.hok p _ hx;have hlen:jg.length=vs.length:=EY r;exact wpAny_truthy_dict hS m (by omega) ⟨H,I.tok _,by rw[Ot r];exact q⟩
 |_=>exact(show False from e).elim
theorem Ou (ha:PE X a ta)(he:∀whole,isTrue a X.env whole=(do let v ← whole;e7 a.pos;T9 [v] (truthy v))) :
   PT X a (λσ H Q=>ta σ H λx H'=>∃k,TruV X.K x H' k/\Q k H'):=by
 intro jb s σ H Q I h;exact isTrue_plain (thn (ha jb s σ H _ I h) λv s1 ⟨x,H1,I1,r1,q1⟩=>JB jb s1 σ H1 x v Q I1 r1 q1) (he _)
theorem Ov:OpR X (T8 .Add) (λx y H Q=>∃i j,x=.str i/\y=.str j/\i.length+j.length<=C8/\Q (.str (i++j)) H):=by
 intro jb s σ H x y v u Q I rx ry h;obtain⟨i,j,rfl,rfl,hz,q⟩:=h;obtain⟨t,rfl⟩:=rx;obtain⟨t',rfl⟩:=ry;exact add_str (λt' tk=>⟨.str (i++j),H,I.tok _,⟨_,rfl⟩,q⟩) hz
theorem y8 (r:Vals [x] us):∃u,us=[u]/\RelV x u:=by
 cases r with
 |cons r1 r2=>cases r2;exact⟨_,rfl,r1⟩
theorem Ow:N0 X (.builtin "abs") (λxs H Q=>∃i,xs=[.int i]/\Q (.int (if i<0 then -i else i)) H):=by
 intro jb s σ H xs us Q I r h;obtain⟨i,rfl,q⟩:=h;obtain⟨u,rfl,t,rfl⟩:=y8 r;exact call_abs_int λu tk=>⟨.int (if i<0 then -i else i),H,I.tok _,⟨_,rfl⟩,q⟩
theorem Ox:N0 X (.type "int") (λxs H Q=>(∃i,xs=[.int i]/\Q (.int i) H)\/∃k,xs=[.bl k]/\Q (.int (if k then 1 else 0)) H):=by
 intro jb s σ H xs us Q I r h;rcases h with⟨i,rfl,q⟩|⟨k,rfl,q⟩
 ·obtain⟨u,rfl,t,rfl⟩:=y8 r;exact call_int_int ⟨.int i,H,I,⟨_,rfl⟩,q⟩
 ·obtain⟨u,rfl,r1⟩:=y8 r;cases r1;exact call_int_bool ⟨.int (if k then 1 else 0),H,I.tok _,⟨_,rfl⟩,q⟩
end
structure ObjM (h:B6)(x dx C:A0)(mA:Str->Option A1):Prop where
 obj:h.get? x=some (PySem.W.instObj C dx)
 ns:h.Ns1 dx mA
 ne:dx≠x
theorem Oy {h:B6}(n:h.Ns1 dx mA):∃od,h.get? dx=some od/\∀name,PySem.W.lookIn name od=some (mA name):=by
 obtain⟨o,es,ep,ho,hd,hk,_,hm⟩:=n;refine⟨o,ho,λname=>?_⟩;have e:=hm name;unfold nsFind findBy at e;rw[<- Array.find?_toList] at e;unfold PySem.W.lookIn;rw[hd];dsimp only
 split
 ·grind
 ·rename_i q;rw[q] at e
  have a:es.toList.any (·.refKey)=false:=by
   rw[List.any_eq_false];intro y hy;obtain⟨z,t,hkey⟩:=hk y (Array.mem_toList_iff.mp hy);simp[DictEntry.refKey,hkey]
  have a':¬es.toList.any (·.refKey)=true:=by rw[a];exact V3
  rw[ju a'];exact congrArg some e
theorem ObjM.look (I:ObjM h x dx C mA):∃od,PySem.W.InstAt h x (PySem.W.instObj C dx) C (some od)/\∀name,PySem.W.lookIn name od=some (mA name):=
 let ⟨od,ho,hl⟩:=Oy I.ns
 ⟨od,⟨I.obj,rfl,rfl,ho⟩,hl⟩
section
variable {P:D1}{w:C9}{H H':Hp}{h h':B6}{a C dx:A0}{fs fs':List (Str×V)}
theorem Oz (hok:HOk P w H h)(e:H a=some (.ins C dx fs)):∃mA,ObjM h a dx C mA/\(∀f,RelO (fs.lookup f) (mA f))/\PySem.Within mA (fs.map (·.1))/\fs.length<=1000/\H dx=some (.own a):=by
 obtain⟨d,z,ne,ob,mA,n,r,q⟩:=(show J0 P w H h a (.ins C dx fs) from hok a _ e);exact⟨mA,⟨ob,n,ne⟩,r,q,z,d⟩
end
structure Cls (K:A9)(C:A0):Prop where
 pg:PySem.W.plainGet K C Str.empty=true
 hd:PySem.W.hasDictIn K C=true
 po:PySem.W.plainOver K C=true
 sa:PySem.W.findIn K (.ref C) "__setattr__"=some (some (.builtin "object.__setattr__"))
theorem Cls.get {K:A9}(c:Cls K C)(f:Str):PySem.W.plainGet K C f=true:=c.pg
section
variable {X:Cx}{jb:List (A0×Obj)}{σ:St}{H:Hp}{s:A5}{A:D5}{E:A1->A5->Prop}{Q:A1->A5->Prop}{c:A1}{b:Bool}
inductive TyOf (K:A9)(H:Hp):V->A1->Prop where
 |non:TyOf K H .non (.type "NoneType")
 |bl (x:Bool):TyOf K H (.bl x) (.type "bool")
 |int (i:Int):TyOf K H (.int i) (.type "int")
 |str (x:Str):TyOf K H (.str x) (.type "str")
 |flt (x:UInt64):TyOf K H (.flt x) (.type "float")
 |lst {a:A0} {xs:List V} (e:H a=some (.lst xs)):TyOf K H (.ref a) (.type "list")
 |frz {a:A0} {o:Obj} {xs:List V} (e:H a=some (.frz o (.lst xs))):TyOf K H (.ref a) (.type "list")
 |tup {a:A0} {xs:List V} (e:H a=some (.tup xs)):TyOf K H (.ref a) (.type "tuple")
 |dK {a:A0} {jg:List (Key×V)} (e:H a=some (.dK jg)):TyOf K H (.ref a) (.type "dict")
 |dT {a:A0} {jg:List (List Key×V)} (e:H a=some (.dT jg)):TyOf K H (.ref a) (.type "dict")
 |ins {a C dx:A0} {fs:List (Str×V)} (e:H a=some (.ins C dx fs)) (cl:Cls K C) (ha:PySem.W.findIn K (.ref C) "__class__"=some (some (.builtin "object.__class__")))
     (hn:PySem.W.specialIn K (.builtin "object.__class__") "__get__"=some (some (.builtin "getset_descriptor.__get__"))) (htk:PySem.W.takesIn K (.builtin "object.__class__")=some true)
     (hm:PySem.W.mroIn K C (.type "object")=some true):TyOf K H (.ref a) (.ref C)
theorem OA (I:Inv X jb σ H s)(rx:RelV x u)(ty:TyOf X.K H x t)(e:CN X.K t c=some b)(h:∀tk,Q (.bool b) { s with toks:=tk }) :
   A6 (A7 X.prog X.w) A (call (.builtin "isinstance") [u,c]) Q E s:=by
 cases ty with
 |non=>cases(show u=Z1 from rx);exact Y1 PySem.W.kitx_none I.kIn p7 e (λz=>nomatch z) h
 |bl y=>cases(show u=Value.bool y from rx);exact Y1 PySem.W.kitx_bool I.kIn p7 e (λz=>nomatch z) h
 |int i=>obtain⟨t,q⟩:=(show ∃t,u=Value.int i t from rx);cases q;exact Y1 PySem.W.kitx_int I.kIn p7 e (λz=>nomatch z) h
 |str y=>obtain⟨t,q⟩:=(show ∃t,u=Value.str y t from rx);cases q;exact Y1 PySem.W.kitx_str I.kIn p7 e (λz=>nomatch z) h
 |flt y=>obtain⟨t,q⟩:=(show ∃t,u=Value.float y t from rx);cases q;exact Y1 PySem.W.kitx_float I.kIn p7 e (λz=>nomatch z) h
 | @lst a xs ea =>
  cases(show u=L8 a from rx);obtain⟨_,_,n,_,h1⟩:=(show J0 X.prog X.w H s.heap a (.lst xs) from I.hok a _ ea);exact Y1 PySem.W.kitx_list I.kIn ⟨_,h1,rfl⟩ e (λz=>nomatch z) h
 | @frz a ob xs ea =>
  cases(show u=L8 a from rx);obtain⟨_,_,_,n,_,h1⟩:=(show J0 X.prog X.w H s.heap a (.frz ob (.lst xs)) from I.hok a _ ea);exact Y1 PySem.W.kitx_list I.kIn ⟨_,h1,rfl⟩ e (λz=>nomatch z) h
 | @tup a xs ea =>
  cases(show u=L8 a from rx);obtain⟨_,_,_,p⟩:=(show J0 X.prog X.w H s.heap a (.tup xs) from I.hok a _ ea);obtain⟨o,h1,h2,_⟩:=p;exact Y1 PySem.W.kitx_tuple I.kIn ⟨o,h1,(Di h2).1⟩ e (λz=>nomatch z) h
 | @dK a jg ea =>
  cases(show u=L8 a from rx);obtain⟨_,_,vs,_,p⟩:=(show J0 X.prog X.w H s.heap a (.dK jg) from I.hok a _ ea);obtain⟨o,es,ep,h1,h2,_⟩:=p;exact Y1 PySem.W.kitx_dict I.kIn ⟨o,h1,h2.1⟩ e (λz=>nomatch z) h
 | @dT a jg ea =>
  cases(show u=L8 a from rx);obtain⟨_,_,xs,_,o,es,ep,h1,h2,_⟩:=(show J0 X.prog X.w H s.heap a (.dT jg) from I.hok a _ ea);exact Y1 PySem.W.kitx_dict I.kIn ⟨o,h1,h2.1⟩ e (λz=>nomatch z) h
 | @ins a C dx fs ea cl ha hn htk hm =>
  cases(show u=L8 a from rx);obtain⟨mA,O,_⟩:=Oz I.hok ea;obtain⟨od,J,_⟩:=O.look;exact Y1 (PySem.W.kitx_own (cl.get _) cl.hd ha hn htk hm) I.kIn J e (λz=>nomatch z) h
end
structure Room (k:Nat)(A:D5):Prop where
 hd:A.handled=none
 dp:A.depth+3*k+5<recursionLimit
 un:A.units+16*k+200<cLine
 gd:A.guards=some []
theorem Room.mono (r:Room k A)(h:j<=k):Room j A:=⟨r.hd,by have:=r.dp;omega,by have:=r.un;omega,r.gd⟩
theorem Room.deeper (r:Room (k+1) A)(env:Env):Room k (A.deeper env):=
 ⟨r.hd,by have:=r.dp;show A.depth+1+3*k+5<_;omega,by have:=r.un;show A.units+3+16*k+200<_;omega,r.gd⟩
theorem Room.in1 {k:Nat}{A:D5}(r:Room (k+1) A):Room k A.in1:=
 ⟨r.hd,by have:=r.dp;show A.depth+3*k+5<_;omega,by have:=r.un;show A.units+1+16*k+200<_;omega,r.gd⟩
theorem Room.depth (r:Room k A):A.depth<recursionLimit:=by have:=r.dp;omega
theorem Room.units (r:Room k A):A.units+64<cLine:=by have:=r.un;omega
def tNil:TA:=λ_ H Q=>Q [] H
def Z4 (ta:TE)(tr:TA):TA:=λσ H Q=>ta σ H λx H1=>tr σ H1 λxs H2=>Q (x::xs) H2
section
variable {X:Cx}{e:Expr}{es:List Expr}{te:TE}{t:TA}{pos:Pos}
theorem K5:PA X [] tNil:=λ_ _ _ _ H Q I h=>Calls.spliced_nil ⟨[],H,I,.nil,h⟩
theorem F8 (ha:PE X e te)(hr:PA X es t)(hs:F5 (e::es) X.env=(false,eval e X.env)::F5 es X.env:=by rfl):PA X (e::es) (Z4 te t):=by
 intro pos jb s σ H Q I h;rw[hs];show A6 _ _ (spliced ((false,eval e X.env)::backTo pos (F5 es X.env))) _ _ s;refine Calls.spliced_cons (thn (ha jb s σ H _ I h) λu s1 ⟨x,H1,I1,r1,q1⟩=>?_);exact thn (hr pos jb s1 σ H1 _ I1 q1) λus s2 ⟨xs,H2,I2,r2,q2⟩=>⟨x::xs,H2,I2,.cons r1 r2,q2⟩
def tTup (t:TA):TE:=λσ H Q=>t σ H λxs H1=>xs.length<=C8/\∀p,H1 p=none->Q (.ref p) (upd H1 p (.tup xs))
def tLst (t:TA):TE:=λσ H Q=>t σ H λxs H1=>xs.length<=C8/\∀p,H1 p=none->Q (.ref p) (upd H1 p (.lst xs))
theorem Fd {x1}(h:PA X es t):PE X (.Tuple es x1 pos) (tTup t):=by
 intro jb s σ H Q I hq;refine wpAny_Tuple_spliced (thn (h pos jb s σ H _ I hq) λus s1 ⟨xs,H1,I1,r,z,q⟩=>⟨by rw[<- r.length];exact z,?_⟩);have hf:H1 s1.heap.objs.size=none:=I1.hok.fresh (C7 _);refine⟨.ref s1.heap.objs.size,upd H1 s1.heap.objs.size (.tup xs),I1.laid (t':=s1.toks) (λb u e=>C2 _ e) (C7 _) ?_,rfl,q _ hf⟩;exact⟨z,us,r,⟨_,E9 _ rfl,rfl,_,rfl⟩⟩
theorem JC (h:PA X es t):PE X (.List es pos) (tLst t):=by
 intro jb s σ H Q I hq;refine wpAny_List_spliced (thn (h pos jb s σ H _ I hq) λus s1 ⟨xs,H1,I1,r,z,q⟩=>⟨by rw[<- r.length];exact z,?_⟩);have hf:H1 s1.heap.objs.size=none:=I1.hok.fresh (C7 _);refine⟨.ref s1.heap.objs.size,upd H1 s1.heap.objs.size (.lst xs),I1.laid (t':=s1.toks) (λb u e=>C2 _ e) (C7 _) ?_,rfl,q _ hf⟩;exact⟨z,us,0,r,E9 _ rfl⟩
end
abbrev Sp:=List V->Hp->VK->XK->Prop
abbrev CXT:=List Env->Hp->A5->XK->A1->A5->Prop
structure Env0 (P:D1)(w:C9)(K:A9)(mg:Str->Option A1)(base:B6)(A:D5)(outer:List Env)(s:A5)(H:Hp):Prop where
 frames:A.frames=some outer
 mod:Mod K mg base
 bs:∀b o,base.get? b=some o->s.heap.get? b=some o/\H b=none
 bsz:base.objs.size<=s.heap.objs.size
 funs:s.heap.FunFrames base outer
 frf:∀b∈frs outer,H b=none
 hok:HOk P w H s.heap
 bare:AllBare s.gens
 nos:NS H
def CE (outer:List Env)(P:D1)(w:C9)(H:Hp)(s:A5)(Q:VK)(u:A1)(s':A5):Prop:=
 ∃v H',s'.os=s.os/\AllBare s'.gens/\Un (frs outer) [] H H' s.heap s'.heap/\HOk P w H' s'.heap/\RelV v u/\Q v H'
def CR (CX:CXT)(outer:List Env)(P:D1)(w:C9)(H:Hp)(s:A5)(Q:VK)(E:XK)(r:Result)(s':A5):Prop:=
 match r with
 |.ok (.ret u)=>CE outer P w H s Q u s'
 |.ok _=>False
 |.error e=>CX outer H s E e s'
structure FnOk (P:D1)(w:C9)(K:A9)(mg:Str->Option A1)(base:B6)(CX:CXT)(k:Nat)(f:A0)(fd:FuncData)(ps:List Str)(sp:Sp):Prop where
 len:∀vs H Q E,sp vs H Q E->vs.length=ps.length
 run:∀(A:D5) (outer:List Env) (s:A5) (H:Hp) (args:Args) (us:List A1) (vs:List V) (Q:VK) (E:XK),Room k A->Env0 P w K mg base A outer s H->BindsTo s fd args (ps.zip us)->Vals vs us->sp vs H Q E->
   M5 (A7 P w) A (.call (.ref f) args) (CR CX outer P w H s Q E) s
theorem FnOk.imp {K:A9}(F:FnOk P w K mg base CX k f fd ps sp)
   (h:∀vs H Q E,sp' vs H Q E->sp vs H Q E):FnOk P w K mg base CX k f fd ps sp':=
 ⟨λvs H Q E q=>F.len vs H Q E (h _ _ _ _ q),λA outer s H args us vs Q E hr he hb hv hs=>F.run A outer s H args us vs Q E hr he hb hv (h _ _ _ _ hs)⟩
section
variable {X:Cx}{jb:List (A0×Obj)}{σ:St}{H:Hp}{s s':A5}
theorem Inv.env0 (I:Inv X jb σ H s):Env0 X.prog X.w X.K X.mg X.base X.A X.stack s H:=
 ⟨I.ok.frames,I.ok.mod,I.bs,J9 I.ok.bsz I.sz,I.stack,I.stkFree,I.hok,I.bare,I.nos⟩
theorem Inv.after (I:Inv X jb σ H s)(h:CE X.stack X.prog X.w H s Q u s'):EP X jb σ Q u s':=by
 obtain⟨v,H',os,bare,un,hok,r,q⟩:=h;obtain⟨hh,g,d,t,os'⟩:=s';obtain rfl:os'=s.os:=os;exact⟨v,H',I.call (h':=hh) (g':=g) (d':=d) (t':=t) (ch:=[]) un hok bare (λb z=>absurd z (by simp)),r,q⟩
end
def tCall (sp:Sp)(dvs:List V)(E:XK)(t:TA):TE:=λσ H Q=>t σ H λvs H1=>sp (vs++dvs) H1 Q E
def BZ (K:A9)(fd:FuncData)(ps:List Str)(ds:List A1):Prop:=
 ∀(s:A5) (us:List A1),K.In s.heap->(us++ds).length=ps.length->BindsTo s fd ⟨us,[]⟩ (ps.zip (us++ds))
theorem BZ.all {K:A9}(h:∀us:List A1,us.length=ps.length->Y0 fd ⟨us,[]⟩=pure (ps.zip us)):BZ K fd ps []:=λs us _ hl=>by
 rw[R9] at hl ⊢;exact .of_eq (h us hl)
def Ha (CX:CXT)(X:Cx)(E:XK):Prop:=∀(jb:List (A0×Obj)) (σ:St) (H:Hp) (s:A5) (e:A1) (s':A5),Inv X jb σ H s->CX X.stack H s E e s'->X.xe e s'
section
variable {X:Cx}{CX:CXT}{k:Nat}{f C:A0}{fd:FuncData}{ps:List Str}{sp:Sp}{dvs:List V}{ds:List A1}{E:XK}{x m:Str}{p pos apos:Pos}{e o:Expr}{es:List Expr}{ta:TE}{t:TA}
theorem run_fn (F:FnOk X.prog X.w X.K X.mg X.base CX k f fd ps sp)(hr:Room k X.A)(hb:BZ X.K fd ps ds)(hd:Vals dvs ds)(hx:Ha CX X E)
   (I:Inv X jb σ H s) (r:Vals vs us) (h:sp (vs++dvs) H Q E):A6 (A7 X.prog X.w) X.A (call (.ref f) us) (EP X jb σ Q) X.xe s:=by
 have r2:Vals (vs++dvs) (us++ds):=r.append hd;have hl:(us++ds).length=ps.length:=by rw[<- r2.length];exact F.len _ _ _ _ h
 refine wpAny_call (Ax (F.run X.A X.stack s H ⟨us,[]⟩ (us++ds) (vs++dvs) Q E hr I.env0 (hb s us I.kIn hl) r2 h) λr s' hq=>?_);cases r with
 |error e=>exact hx jb σ H s e s' I hq
 | ok fl =>
  cases fl with
  |ret u=>exact I.after hq
  |next=>exact i9 hq
  |brk=>exact i9 hq
  |cont=>exact i9 hq
theorem OB (F:FnOk X.prog X.w X.K X.mg X.base CX k f fd ps sp)(hr:Room k X.A)(hg:Gl X x)(hm:X.mg x=some (.ref f))(hk:CP X.K (.ref f)=true)(hb:BZ X.K fd ps ds)(hd:Vals dvs ds)(hx:Ha CX X E)
   (ha:PA X (e::es) t) (hdb:(x == ("__debug__":Str))=false:=by decide) (he:F5 (e::es) X.env=(false,eval e X.env)::F5 es X.env:=by rfl) (hpl:(backTo pos (F5 es X.env)).any (·.1)=false:=by rfl) :
   PE X (.Call (.Name x p) (e::es) [] pos) (tCall sp dvs E t):=by
 intro jb s σ H Q I h;refine Eg (Jx I hg hm ?_ hdb);refine PySem.W.callWith_K (h₀:=X.base) I.ok.mod.kin hk (thn (ha pos jb s σ H _ I h) λus s1 ⟨vs,H1,I1,r,q⟩=>⟨I1.kIn,?_⟩) he hpl;exact run_fn F hr hb hd hx I1 r q
end
def PK (X:Cx)(kws:List R8)(t:TA):Prop:=
 ∀(pos:Pos) (jb:List (A0×Obj)) (s:A5) (σ:St) (H:Hp) (Q:List V->Hp->Prop),Inv X jb σ H s->t σ H Q->A6 (A7 X.prog X.w) X.A (evalAll ((e6 pos (d5 kws X.env)).map (·.2))) (AP X jb σ Q) X.xe s
structure U4 (N P:List Str)(sc:G0):Prop where
 kind:sc.kind=.function
 co:sc.isCoroutine=false
 gen:sc.isGenerator=false
 nd:N.Nodup
 pre:N.take P.length=P
 par:∀x∈P,sc.names.lookup x=some .local\/sc.names.lookup x=some .cell
 nofree:∀y∈sc.names,y.2≠.free
theorem JD {kindOf:Str->Option NameKind}:∀{binds:List (Str×A1)} {m:Str->Option A1},(∀v,(x,v)∉binds)->bindL kindOf binds m x=m x
 |[],_,_=>rfl
 | (n, v) :: r, m, h => by
  unfold bindL;rw[JD λw hw=>h w (C5 _ hw)]
  split
  ·have:x≠n:=by rintro rfl;exact h v C6
   simp[this]
  ·rfl
theorem JE {kindOf:Str->Option NameKind}:∀{binds:List (Str×A1)} {m:Str->Option A1},(∀v,(x,v)∉binds)->bindC kindOf binds m x=m x
 |[],_,_=>rfl
 | (n, v) :: r, m, h => by
  unfold bindC;rw[JE λw hw=>h w (C5 _ hw)]
  split
  ·rfl
  ·have:x≠n:=by rintro rfl;exact h v C6
   simp[this]
theorem JF {kindOf:Str->Option NameKind}:∀{P:List Str} {vs:List A1} {i:Nat} {m:Str->Option A1},P.Nodup->P[i]?=some x->vs[i]?=some v->kindOf x=some .local->
   bindL kindOf (P.zip vs) m x=some v
 |[],_,_,_,_,h,_,_=>by simp at h
 |_::_,[],_,_,_,_,h,_=>by simp at h
 | p :: P, w :: vs, 0, m, nd, h1, h2, hk => by
  simp at h1 h2;subst h1;subst h2;show bindL kindOf ((p,w)::P.zip vs) m p=_;unfold bindL;rw[JD λv hv=>(Q2.mp nd).1 (List.of_mem_zip hv).1,jt hk];simp
 | p :: P, w :: vs, i + 1, m, nd, h1, h2, hk => by
  show bindL kindOf ((p,w)::P.zip vs) m x=_;unfold bindL;exact JF (i:=i) (Q2.mp nd).2 (by simpa using h1) (by simpa using h2) hk
theorem JG {kindOf:Str->Option NameKind}:∀{P:List Str} {vs:List A1} {i:Nat} {m:Str->Option A1},P.Nodup->P[i]?=some x->vs[i]?=some v->kindOf x≠some .local->
   bindC kindOf (P.zip vs) m x=some v
 |[],_,_,_,_,h,_,_=>by simp at h
 |_::_,[],_,_,_,_,h,_=>by simp at h
 | p :: P, w :: vs, 0, m, nd, h1, h2, hk => by
  simp at h1 h2;subst h1;subst h2;show bindC kindOf ((p,w)::P.zip vs) m p=_;unfold bindC;rw[JE λv hv=>(Q2.mp nd).1 (List.of_mem_zip hv).1,ju hk];simp
 | p :: P, w :: vs, i + 1, m, nd, h1, h2, hk => by
  show bindC kindOf ((p,w)::P.zip vs) m x=_;unfold bindC;exact JG (i:=i) (Q2.mp nd).2 (by simpa using h1) (by simpa using h2) hk
def start (N:List Str)(vs:List V):St:=vs.map some++AF (N.length-vs.length) none
def cxOf (CX:CXT)(P:D1)(w:C9)(K:A9)(mg:Str->Option A1)(base:B6)(N:List Str)(qual:Str)(scope:G0)(f:A0)(cd:A1)(A:D5)(outer:List Env)(s:A5)(H:Hp)(E:XK):Cx where
 prog:=P
 w:=w
 K:=K
 mg:=mg
 base:=base
 A:=A.deeper (envOfC qual scope s.heap.objs.size f cd)
 N:=N
 s₀:=s
 H₀:=H
 env:=envOfC qual scope s.heap.objs.size f cd
 outer:=outer
 stack:=envOfC qual scope s.heap.objs.size f cd::outer
 ex:=[]
 calm:=true
 fn:=λ_=>true
 pn:=[]
 xe:=λe s'=>A6 (A7 P w) (A.deeper (envOfC qual scope s.heap.objs.size f cd)) (leaving (envOfC qual scope s.heap.objs.size f cd) e) (λ_ s''=>CX outer H s E e s'') (λe' s''=>CX outer H s E e' s'') s'
theorem JH {sc:G0}(h:sc.names.lookup x=some .cell):∃c,(cellsFrom n sc.names []).lookup x=some c:=by
 have q:=PySem.W.cellsFrom_some sc.names n [] (.inl h);exact ET.mp q
theorem OC {K:A9}
   (S:U4 N ps scope) (hd:A.handled=none) (e0:Env0 P w K mg base A outer s H) (hl:vs.length=ps.length) (r:Vals vs us)
   (x:InCallC s s.heap.objs.size (bindL (envOfC qual scope s.heap.objs.size f cd).kindOf (ps.zip us) λ_=>none) (cellsFrom (s.heap.objs.size+1) scope.names []) (bindC (envOfC qual scope s.heap.objs.size f cd).kindOf (ps.zip us) λ_=>none) s1) :
   Inv (cxOf CX P w K mg base N qual scope f cd A outer s H E) [] (start N vs) H s1:=by
 have hpl:ps.length<=N.length:=by have:=congrArg List.length S.pre;rw[N7] at this;omega
 obtain⟨h1,tk,rfl,hk⟩:=x.done;have noA:∀b:A0,b∉(cxOf CX P w K mg base N qual scope f cd A outer s H E).ex:=λb z=>absurd (show b∈([]:List A0) from z) (by simp)
 refine⟨⟨e0.mod,S.kind,rfl,rfl,C7 _,λy z c h1 h2=>?_,λy hy=>?_,λy c _ h=>?_,λ_=>hd,Around.frames_deeper e0.frames,.inr ⟨rfl,rfl⟩,λb z=>absurd z (noA b),e0.bs,e0.bsz,λb _ _=>noA b,λb z=>absurd z (noA b),e0.funs,e0.frf,e0.nos⟩,
  rfl,e0.bare,Un.kept hk,⟨_,x.toInCall.ns,λi y v h1 h2 h3=>?_⟩,λy c h=>⟨_,x.cell y c h⟩,e0.hok.fresh (C7 _),λy c h=>?_,λp hp=>absurd (show p∈([]:List (A0×Obj)) from hp) (by simp),e0.hok.kept hk,?_⟩
 ·exact name_of_addr x.apart (l7 h1) (l7 h2)
 ·have hy:scope.names.lookup y=some .cell\/scope.names.lookup y=some .free:=hy;rcases hy with hy|hy
  ·exact JH hy
  ·exact absurd rfl (S.nofree _ (l7 hy))
 ·exact i4 (x.above y c (l7 h))
 ·have hi:i<vs.length:=by
   unfold start at h2
   by_cases hi:i<vs.length
   ·exact hi
   ·rw[Y3 (by simpa using hi)] at h2;rw[Ep] at h2
    split at h2 <;> cases h2
  have ha:vs[i]?=some v:=by
   unfold start at h2;rw[Y4 (by simpa using hi),G9] at h2;cases e:vs[i]? with
   |none=>rw[e] at h2;cases h2
   |some a=>rw[e] at h2;cases h2;rfl
  obtain⟨u,hu,rv⟩:=r.get ha
  have hp:ps[i]?=some y:=by
   rw[<- S.pre,List.getElem?_take_of_lt (by omega)];exact h1
  have ndP:ps.Nodup:=by rw[<- S.pre];exact S.nd.sublist (List.take_sublist _ _)
  refine⟨u,rv,?_⟩;rcases S.par y (J8 hp) with k|k
  ·exact .inl ⟨k,JF ndP hp hu k⟩
  ·obtain⟨c,e⟩:=JH (n:=s.heap.objs.size+1) k;refine .inr ⟨.inl k,c,e,?_⟩;have q:=x.cell y c e;rw[JG ndP hp hu (by show scope.names.lookup y≠_;rw[k];decide)] at q;exact q
 ·exact e0.hok.fresh (i4 (x.above y c (l7 h)))
 ·unfold start;show _=N.length;rw[D4,B4,i3];omega
theorem fn_of {K:A9}{dV kV doc pm jo ct oc:A1}
 (lk:K.lookup f=some ⟨oc,od,.func (W1 name qual params body scope dV kV doc pm an jo ct),osl⟩) (hcd:Eo K jo qual=true) (S:U4 N ps scope)
   (len:∀vs H Q E,sp vs H Q E->vs.length=ps.length)
   (hbody:∀(A:D5) (outer:List Env) (s:A5) (H:Hp) (vs:List V) (Q:VK) (E:XK),Room k (A.deeper (envOfC qual scope s.heap.objs.size f jo))->sp vs H Q E->
     ∃t,PSs (cxOf CX P w K mg base N qual scope f jo A outer s H E) body t/\t { nx:=λ_ H'=>Q .non H',rt:=Q } (start N vs) H) :
   FnOk P w K mg base CX (k+1) f (W1 name qual params body scope dV kV doc pm an jo ct) ps sp:=by
 refine⟨len,λA outer s H args us vs Q E hr e0 hb r hsp=>?_⟩;have hl:=len _ _ _ _ hsp;have KX:K.In s.heap:=e0.mod.kin.keeps λb o e=>(e0.bs b o e).1;have lim:s.heap.NoLimit:=e0.mod.nolimit.keeps λb o e=>(e0.bs b o e).1
 have hkind:∀y∈ps.zip us,scope.names.lookup y.1=some .local\/(scope.names.lookup y.1=some .cell/\((cellsFrom (s.heap.objs.size+1) scope.names []).lookup y.1).isSome=true):=λ⟨n,v⟩ hy=>by
  rcases S.par n (List.of_mem_zip hy).1 with q|q
  ·exact .inl q
  ·exact .inr ⟨q,PySem.W.cellsFrom_some _ _ _ (.inl q)⟩
 refine codeAny_call_function hr.depth (KX _ _ lk) rfl S.co S.gen rfl (PySem.W.codeRec_of KX hcd) (hb _ _ _ _ ?_);refine wpAny_newFunctionEnv_cells S.kind hkind λenv he s1 x=>?_;subst he;refine⟨lim.keeps x.toInCall.keep,codeAny_func ?_⟩;obtain⟨t,ht,hq⟩:=hbody A outer s H vs Q E (hr.deeper _) hsp;have I:Inv (cxOf CX P w K mg base N qual scope f jo A outer s H E) [] (start N vs) H s1:=OC S hr.hd e0 hl r x;refine G7 (ht [] s1 (start N vs) H _ I hq) (λfl s' hs=>?_) λe s' hs=>hs
 have fin:∀{σ':St} {H':Hp} {v:V} {u:A1},Inv (cxOf CX P w K mg base N qual scope f jo A outer s H E) [] σ' H' s'->RelV v u->Q v H'->CE outer P w H s Q u s':=
  λ{σ' H' v u} J rv q=>⟨v,H',J.os,J.bare,J.base,J.hok,rv,q⟩
 cases fl with
 | ret u =>
  obtain⟨v,σ',H',J,rv,q⟩:=hs;exact fin J rv q
 | next =>
  obtain⟨σ',H',J,q⟩:=hs;exact fin (v:=V.non) (u:=Z1) J rfl q
 | brk =>
  obtain⟨_,_,_,q⟩:=hs;exact i9 q
 | cont =>
  obtain⟨_,_,_,q⟩:=hs;exact i9 q
section
variable {X:Cx}{x:Str}{p pos:Pos}{e:Expr}{es:List Expr}{t:TA}{id T:String}{r:List V->Hp->VK->Prop}
def tCB (r:List V->Hp->VK->Prop)(t:TA):TE:=λσ H Q=>t σ H λvs H1=>r vs H1 Q
theorem AR (hc:N0 X (.builtin id) r)(hg:Gl X x)(hm:X.mg x=none)(hv:O2 x=some (.builtin id))(ha:PA X (e::es) t)(hn:x≠"__name__":=by decide)(hdb:(x == ("__debug__":Str))=false:=by decide)
   (he:F5 (e::es) X.env=(false,eval e X.env)::F5 es X.env:=by rfl) (hpl:(backTo pos (F5 es X.env)).any (·.1)=false:=by rfl):PE X (.Call (.Name x p) (e::es) [] pos) (tCB r t):=by
 intro jb s σ H Q I h;refine Eg (AM I hg hm hv ?_ hn hdb);exact PyProof.Rows.callWith_builtin1 (thn (ha pos jb s σ H _ I h) λus s1 ⟨vs,H1,I1,r1,q1⟩=>hc jb s1 σ H1 vs us Q I1 r1 q1) he hpl
theorem Dn (hc:N0 X (.type T) r)(hg:Gl X x)(hm:X.mg x=none)(hv:O2 x=some (.type T))(ha:PA X (e::es) t)(hn:x≠"__name__":=by decide)(hdb:(x == ("__debug__":Str))=false:=by decide)
   (he:F5 (e::es) X.env=(false,eval e X.env)::F5 es X.env:=by rfl) (hpl:(backTo pos (F5 es X.env)).any (·.1)=false:=by rfl):PE X (.Call (.Name x p) (e::es) [] pos) (tCB r t):=by
 intro jb s σ H Q I h;refine Eg (AM I hg hm hv ?_ hn hdb);exact EI (thn (ha pos jb s σ H _ I h) λus s1 ⟨vs,H1,I1,r1,q1⟩=>hc jb s1 σ H1 vs us Q I1 r1 q1) he hpl
end
end L2
namespace HT
open PySem PyProof.Rows
section
variable {prog:D1}{w:C9}{A:D5}{E:A1->A5->Prop}{s:A5}
theorem cat_tup (ht:IsTup s.heap t vs.toArray)(hb:IsTup s.heap b ws.toArray)(hv:vs≠[])
   (h1:ws=[]->Q (.ref t) s) (h2:ws≠[]->Q (.ref s.heap.objs.size) { s with heap:=s.heap.push { cls:=.type "tuple",data:=.seq (vs++ws).toArray } })
   (hsz:vs.length+ws.length<=C8):A6 (A7 prog w) A (T8 .Add (.ref t) (.ref b)) Q E s:=by
 obtain⟨⟨cls,dd,data,sl⟩,ho,hc,n,hd⟩:=id ht;obtain⟨⟨cls2,dd2,data2,sl2⟩,ho2,hc2,n2,hd2⟩:=id hb;simp only at hc hd hc2 hd2;subst hc hd hc2 hd2;have e:vs.toArray++ws.toArray=(vs++ws).toArray:=by simp
 by_cases hw:ws=[]
 ·exact concat_meets ⟨_,ho,rfl⟩ ⟨_,ho2,rfl⟩ noFill_tuple_add seq_tuple_add GN GM (GL _ _)
    (tuple_addW1 t b vs.toArray ws.toArray n n2 dd dd2 sl sl2 (by simpa using hv) (by simp[hw])) ⟨ho,ho2,h1 hw⟩
 ·refine concat_meets ⟨_,ho,rfl⟩ ⟨_,ho2,rfl⟩ noFill_tuple_add seq_tuple_add GN GM (GL _ _)
    (tuple_addW2 t b vs.toArray ws.toArray n n2 dd dd2 sl sl2 (by simpa using hv) (by simpa using hw) (by rw[G5,G5];exact hsz)) ⟨ho,ho2,?_⟩
  rw[e];exact h2 hw
def sIx (n d:Nat):Option Int->Nat
 |none=>d
 |some v=>if v<0 then(v+(n:Int)).toNat else min v.toNat n
theorem sIx_none (n d:Nat):sIx n d none=d:=rfl
theorem sIx_nat (n d k:Nat):sIx n d (some (k:Int))=min k n:=by
 show(if(k:Int)<0 then((k:Int)+(n:Int)).toNat else min (k:Int).toNat n)=min k n;rw[ju (by omega),BS]
theorem sIx_le (n d:Nat)(hd:d<=n)(o:Option Int):sIx n d o<=n:=by
 cases o with
 |none=>exact hd
 | some v =>
  show(if v<0 then(v+(n:Int)).toNat else min v.toNat n)<=n
  by_cases hv:v<0
  ·rw[jt hv];omega
  ·rw[ju hv];exact Nat.min_le_right _ _
theorem JI (v:Int)(n d:Nat):(if v<0 then max (v+(n:Int)) 0 else min v (n:Int))=((sIx n d (some v):Nat):Int):=by
 show(if v<0 then max (v+(n:Int)) 0 else min v (n:Int))=(((if v<0 then(v+(n:Int)).toNat else min v.toNat n):Nat):Int)
 by_cases hv:v<0
 ·simp only[jt hv];omega
 ·simp only[ju hv];omega
theorem OD (lo hi:Option Int)(n:Nat):GO lo hi 1 (n:Int)=(((sIx n 0 lo:Nat):Int),((sIx n n hi:Nat):Int)):=by
 have h1:¬((1:Int)<0):=by omega
 unfold GO;simp only[h1,if_false];refine Prod.ext ?_ ?_
 ·cases lo with
  |none=>rfl
  |some v=>exact JI v n 0
 ·cases hi with
  |none=>rfl
  |some v=>exact JI v n n
theorem OE (i j:Nat):ES (i:Int) (j:Int) 1=j-i:=by
 unfold ES;have h1:(1:Int)>0:=by omega
 simp only[h1,if_true,Int.ediv_one]
 split <;> omega
theorem JJ (p:IsPart v o)(h:Q o s):A6 (A7 prog w) A (Builtin.Slice.slicePartIndex v) Q E s:=by
 cases p with
 |none=>exact slicePart_none h
 |int i t=>exact slicePart_int h
theorem JK {lo hi:Option Int}{n:Nat}{Q:Int×Int×Nat->A5->Prop}(hs:s.heap.IsSliceOf sl vl vu .none)(pl:IsPart vl lo)(pu:IsPart vu hi)
   (h:Q (((sIx n 0 lo:Nat):Int),1,sIx n n hi-sIx n 0 lo) s):A6 (A7 prog w) A (Jt (.ref sl) (pure (n:Int))) Q E s:=by
 obtain⟨os,hos,hcs,hds⟩:=id hs;unfold Jt Builtin.Slice.sliceFields;refine A2 (A2 (R1 hos hds (x:=vl) rfl (A2 (R1 hos hds (x:=vu) rfl (A2 (R1 hos hds (x:=.none) rfl (B2 ?_)))))));refine A2 (slicePart_none ?_);show A6 _ _ (if((1:Int) == 0)=true then _ else _) _ _ s;rw[ju (by decide)];refine A2 (JJ pl (A2 (JJ pu (A2 (B2 ?_)))));show A6 _ _ (match GO lo hi 1 (n:Int) with|(lo,hi)=>pure (lo,(1:Int),ES lo hi 1)) _ _ s;rw[OD lo hi n];show A6 _ _ (pure (((sIx n 0 lo:Nat):Int),(1:Int),ES ((sIx n 0 lo:Nat):Int) ((sIx n n hi:Nat):Int) 1)) _ _ s;rw[OE];exact B2 h
theorem OF (xs:Array A1)(i k:Nat):((F6 k).filterMap λ(m:Nat)=>xs[((i:Int)+(m:Int)*1).toNat]?).toArray=((xs.toList.drop i).take k).toArray:=by
 have e:(λ(m:Nat)=>xs[((i:Int)+(m:Int)*1).toNat]?)=λm=>xs[i+m]?:=by
  funext m
  have:((i:Int)+(m:Int)*1).toNat=i+m:=by omega
  rw[this]
 rw[e];have:=pick_run xs i k;rw[List.filterMap_map] at this;have e2:((λx=>xs[x]?)∘λx=>i+x)=λm=>xs[i+m]?:=rfl
 grind
theorem getItem_tuple_cut {lo hi:Option Int}(ht:IsTup s.heap t items)(hs:s.heap.IsSliceOf sl vl vu .none)(pl:IsPart vl lo)(pu:IsPart vu hi)
   (hw:¬(sIx items.size 0 lo=0/\sIx items.size items.size hi=items.size))
   (h:Q (.ref s.heap.objs.size) { s with heap:=s.heap.push { cls:=.type "tuple",data:=.seq ((items.toList.drop (sIx items.size 0 lo)).take (sIx items.size items.size hi-sIx items.size 0 lo)).toArray } })
   (hsz:items.size<=C8):A6 (A7 prog w) A (getItem (.ref t) (.ref sl)) Q E s:=by
 have htake:sizeOk (.seq ((items.toList.drop (sIx items.size 0 lo)).take (sIx items.size items.size hi-sIx items.size 0 lo)).toArray):=by
  show((items.toList.drop (sIx items.size 0 lo)).take (sIx items.size items.size hi-sIx items.size 0 lo)).toArray.size<=C8;rw[G5,N7,Y8,M8];omega
 have hj:sIx items.size items.size hi<=items.size:=sIx_le _ _ (C7 _) hi;obtain⟨os,hos,hcs,hds⟩:=id hs;have hTs:s.TypeIs (.ref sl) "slice":=⟨os,hos,hcs⟩;unfold getItem
 try with_reducible refine J7 ?_
 first|refine A2 (B2 ?_)|skip
 refine A2 (wpAny_sequenceKey ht.typeIs (by decide) ?_)
 refine A2 (X8 (name:=A8 "__getitem__") ht.typeIs EH
   (R0 EH ht.typeIs entry_tuple_getitem ?_ (args_tuple_getitem _ _)))
 show A6 _ _ (Ju (.ref t)>>=_) _ _ s;refine A2 (tupleItemsOf_ ht ?_);refine A2 (Ay hTs ?_);rw[jt (by decide)];refine A2 (JK hs pl pu ?_)
 have hno:¬((((sIx items.size 0 lo:Nat):Int) == 0&&(1:Int) == 1&&(sIx items.size items.size hi-sIx items.size 0 lo) == items.size)=true):=by
  intro q;rw[V4,V4] at q;have q1:((sIx items.size 0 lo:Nat):Int)=0:=eq_of_beq q.1.1;have q2:sIx items.size items.size hi-sIx items.size 0 lo=items.size:=eq_of_beq q.2;exact hw ⟨by omega,by omega⟩
 show A6 _ _ (if(((sIx items.size 0 lo:Nat):Int) == 0&&(1:Int) == 1&&(sIx items.size items.size hi-sIx items.size 0 lo) == items.size)=true then _ else _) _ _ s;rw[ju hno,OF]
 first
   |exact A2 (m:=EU _) (Q1 (B2 ⟨_,rfl,B2 h⟩) htake)
   |exact A2 (m:=EU _) (Q1 (A2 (B2 (B2 ⟨_,rfl,B2 h⟩))) htake)
   |exact A2 (A2 (m:=EU _) (Q1 (B2 (B2 ⟨_,rfl,B2 h⟩)) htake))
   |exact A2 (A2 (m:=EU _) (Q1 (B2 ⟨_,rfl,B2 h⟩) htake))
end
end HT
namespace L2
open PySem PySem.Spec PyProof.Rows
abbrev TO:=St->Hp->(Option Int->Hp->Prop)->Prop
def PO (X:Cx)(e:Option Expr)(t:TO):Prop:=
 ∀ (jb : List (A0 × Obj)) (s : A5) (σ : St) (H : Hp) (Q : Option Int -> Hp -> Prop), Inv X jb σ H s -> t σ H Q ->
   A6 (A7 X.prog X.w) X.A (evalPart e X.env) (λu s'=>∃o H',Inv X jb σ H' s'/\IsPart u o/\Q o H') X.xe s
def OG:TO:=λ_ H Q=>Q none H
def tPart (t:TE):TO:=λσ H Q=>t σ H λx H1=>∃i,x=.int i/\Q (some i) H1
section
variable {X:Cx}{e:Expr}{te:TE}{lo hi:Option Expr}{tl th:TO}{pos p2:Pos}
theorem OH:PO X none OG:=by
 intro jb s σ H Q I h;rw[evalPart_none];exact B2 ⟨none,H,I,.none,h⟩
theorem OI (h:PE X e te):PO X (some e) (tPart te):=by
 intro jb s σ H Q I hw;rw[evalPart_some];refine thn (h jb s σ H _ I hw) λu s1 ⟨x,H1,I1,r1,q1⟩=>?_;obtain⟨i,rfl,q⟩:=q1;obtain⟨t,rfl⟩:=r1;exact⟨some i,H1,I1,.int i t,q⟩
def SlR (X:Cx)(r:V->Option Int->Option Int->Hp->VK->Prop):Prop:=
 ∀ (jb : List (A0 × Obj)) (s : A5) (σ : St) (H : Hp) (x : V) (v vl vu : A1) (lo hi : Option Int) (sl : A0) (Q : VK), Inv X jb σ H s -> RelV x v -> s.heap.IsSliceOf sl vl vu .none -> IsPart vl lo -> IsPart vu hi -> r x lo hi H Q ->
   ∃T id,typeLookup (.type T) "__getitem__"=pure (some (.builtin id))/\s.TypeIs v T/\A6 (A7 X.prog X.w) X.A (getItem v (.ref sl)) (EP X jb σ Q) X.xe s
theorem SlR.or (h:SlR X r)(h':SlR X r'):SlR X (λx lo hi H Q=>r x lo hi H Q\/r' x lo hi H Q):=by
 intro jb s σ H x v vl vu lo hi sl Q I rx hs pl pu q;rcases q with q|q
 ·exact h jb s σ H x v vl vu lo hi sl Q I rx hs pl pu q
 ·exact h' jb s σ H x v vl vu lo hi sl Q I rx hs pl pu q
def tSl (r:V->Option Int->Option Int->Hp->VK->Prop)(te:TE)(tl th:TO):TE:=λσ H Q=>te σ H λx H1=>tl σ H1 λl H2=>th σ H2 λu H3=>r x l u H3 Q
theorem OJ (hr:SlR X r)(he:PE X e te)(hl:PO X lo tl)(hu:PO X hi th):PE X (.Subscript e (.Slice lo hi none p2) pos) (tSl r te tl th):=by
 intro jb s σ H Q I h;refine Subscript_ (thn (he jb s σ H _ I h) λv s1 ⟨x,H1,I1,r1,q1⟩=>?_);refine wpAny_Slice (thn (hl jb s1 σ H1 _ I1 q1) λvl s2 ⟨l,H2,I2,pl,q2⟩=>thn (hu jb s2 σ H2 _ I2 q2) λvu s3 ⟨u,H3,I3,pu,q3⟩=>?_);rw[evalPart_none];refine B2 ?_;have I4:Inv X jb σ H3 { s3 with heap:=s3.heap.push { cls:=.type "slice",data:=.fields #[vl,vu,.none] } }:=I3.kept (t':=s3.toks) λb ob q=>C2 _ q;obtain⟨T,id,hT,ht,hg⟩:=hr jb { s3 with heap:=s3.heap.push { cls:=.type "slice",data:=.fields #[vl,vu,.none] } } σ H3 x v vl vu l u s3.heap.objs.size Q I4 r1 (Heap.IsSliceOf.new ..) pl pu q3;show A6 (A7 X.prog X.w) X.A (subscriptTail e (.Slice lo hi none p2) v (.ref s3.heap.objs.size)) (EP X jb σ Q) X.xe { s3 with heap:=s3.heap.push { cls:=.type "slice",data:=.fields #[vl,vu,.none] } };exact tail_any (ops:=[.ref s3.heap.objs.size,v]) ht hT hg (by with_unfolding_all rfl)
def cutV (xs:List V)(lo hi:Option Int):List V:=(xs.drop (HT.sIx xs.length 0 lo)).take (HT.sIx xs.length xs.length hi-HT.sIx xs.length 0 lo)
theorem JL (xs:List V)(lo hi:Option Int):(cutV xs lo hi).length<=xs.length:=by
 unfold cutV;rw[N7,Y8];omega
def rSlT (K:A9):V->Option Int->Option Int->Hp->VK->Prop:=λx lo hi H Q=>∃a xs,x=.ref a/\SqT K H a xs/\
 ¬(HT.sIx xs.length 0 lo=0/\HT.sIx xs.length xs.length hi=xs.length)/\∀p,H p=none->Q (.ref p) (upd H p (.tup (cutV xs lo hi)))
theorem sl_tup:SlR X (rSlT X.K):=by
 intro jb s σ H x v vl vu lo hi sl Q I rx hs pl pu h;obtain⟨a,xs,rfl,hx,hw,q⟩:=h;cases rx;obtain⟨jf,r,ht,hz⟩:=I.tuple hx;have hlen:jf.toArray.size=xs.length:=by rw[G5];exact r.length.symm
 refine⟨"tuple",_,PyProof.Rows.slot_tuple_getitem.lookup,ht.typeIs,?_⟩;refine HT.getItem_tuple_cut ht hs pl pu (by rw[hlen];exact hw) ?_ (by rw[hlen];exact hz);rw[hlen];refine⟨.ref s.heap.objs.size,_,I.laid (t':=s.toks) (o:=.tup (cutV xs lo hi)) (λb ob q=>C2 _ q) (C7 _) ?_,rfl,q _ (I.hok.fresh (C7 _))⟩;exact⟨J9 (JL xs lo hi) hz,_,(r.drop (HT.sIx xs.length 0 lo)).take (HT.sIx xs.length xs.length hi-HT.sIx xs.length 0 lo),j6.new _ _⟩
def rCatT (K:A9):R2:=λx y H Q=>∃a b xs ys,x=.ref a/\y=.ref b/\SqT K H a xs/\SqT K H b ys/\xs≠[]/\xs.length+ys.length<=C8/\
 (ys=[]->Q (.ref a) H)/\(ys≠[]->∀p,H p=none->Q (.ref p) (upd H p (.tup (xs++ys))))
theorem Vals.nil_iff (r:Vals xs us):us=[]↔xs=[]:=by
 cases r with
 |nil=>simp
 |cons _ _=>simp
theorem OL:OpR X (T8 .Add) (rCatT X.K):=by
 intro jb s σ H x y v u Q I rx ry h;obtain⟨a,b,xs,ys,rfl,rfl,ha,hb,hx,hz,q1,q2⟩:=h;cases rx;cases ry;obtain⟨jf,r1,p1,_⟩:=I.tuple ha;obtain⟨its2,r2,p2,_⟩:=I.tuple hb;refine HT.cat_tup p1 p2 (λz=>hx (r1.nil_iff.mp z)) (λz=>⟨.ref a,H,I,rfl,q1 (r2.nil_iff.mp z)⟩) (λz=>?_) (by rw[<- r1.length,<- r2.length];exact hz);refine⟨.ref s.heap.objs.size,_,I.laid (t':=s.toks) (o:=.tup (xs++ys)) (λb ob q=>C2 _ q) (C7 _) ?_,rfl,q2 (λw=>z (r2.nil_iff.mpr w)) _ (I.hok.fresh (C7 _))⟩;exact⟨by rw[D4];exact hz,_,r1.append r2,j6.new _ _⟩
end
def ixN (n:Nat)(i:Int):Option Nat:=if 0<=i then(if i<n then some i.toNat else none) else if -(n:Int)<=i then some (i+n).toNat else none
def atI {α:Type}(xs:List α)(i:Int):Option α:=(ixN xs.length i).bind λj=>xs[j]?
theorem Hc (h:ixN n i=some j):seqIndex? i n=some j/\j<n/\-(n:Int)<=i/\i<n:=by
 unfold ixN at h
 by_cases h0:0<=i
 ·rw[jt h0] at h
  by_cases h1:i<n
  ·rw[jt h1] at h;have e:i.toNat=j:=M9 h;exact⟨by rw[seqIndex_of h0 h1,e],by omega,by omega,h1⟩
  ·rw[ju h1] at h;cases h
 ·rw[ju h0] at h
  by_cases h1:-(n:Int)<=i
  ·rw[jt h1] at h;have e:(i+n).toNat=j:=M9 h;exact⟨by rw[seqIndex_neg (by omega) h1,e],by omega,h1,by omega⟩
  ·rw[ju h1] at h;cases h
theorem Hd {α:Type}{xs:List α}{i:Int}{v:α}(h:atI xs i=some v):∃j,seqIndex? i xs.length=some j/\xs[j]?=some v/\j<xs.length/\-(xs.length:Int)<=i/\i<xs.length:=by
 unfold atI at h;cases e:ixN xs.length i with
 |none=>rw[e] at h;cases h
 | some j =>
  rw[e] at h;obtain⟨h1,h2,h3,h4⟩:=Hc e;exact⟨j,h1,h,h2,h3,h4⟩
theorem Fe {α:Type}{xs:List α}{j:Nat}{v:α}(h:xs[j]?=some v):atI xs (j:Int)=some v:=by
 have hj:j<xs.length:=(G4.mp h).1
 have e:ixN xs.length (j:Int)=some j:=by
  unfold ixN;rw[jt (by omega),jt (by omega)];simp
 unfold atI;rw[e];exact h
def He (b:Expr):Prop:=∀o i,subscripted b false o i=operate [o,i] (getItem o i)
def IxR (X:Cx)(r:R2):Prop:=
 ∀ (value slice : Expr) (jb : List (A0 × Obj)) (s : A5) (σ : St) (H : Hp) (x y : V) (v u : A1) (Q : VK), Inv X jb σ H s -> RelV x v -> RelV y u -> r x y H Q ->
   subscripted slice false v u=operate [v,u] (getItem v u)->A6 (A7 X.prog X.w) X.A (subscriptTail value slice v u) (EP X jb σ Q) X.xe s
def MtR (X:Cx)(id:String)(r:V->List V->Hp->VK->Prop):Prop:=
 ∀ (jb : List (A0 × Obj)) (s : A5) (σ : St) (H : Hp) (x : V) (xs : List V) (v : A1) (us : List A1) (Q : VK), Inv X jb σ H s -> RelV x v -> Vals xs us -> r x xs H Q ->
   A6 (A7 X.prog X.w) X.A (call (.builtin id) (v::us)) (EP X jb σ Q) X.xe s
section
variable {X:Cx}{a b:Expr}{ta tb:TE}{pos:Pos}
theorem IxR.or (h:IxR X r)(h':IxR X r'):IxR X (λx y H Q=>r x y H Q\/r' x y H Q):=by
 intro value slice jb s σ H x y v u Q I rx ry q hs;rcases q with q|q
 ·exact h value slice jb s σ H x y v u Q I rx ry q hs
 ·exact h' value slice jb s σ H x y v u Q I rx ry q hs
theorem t7 (hr:IxR X r)(ha:PE X a ta)(hb:PE X b tb)(hs:He b):PE X (.Subscript a b pos) (tOp r ta tb):=by
 intro jb s σ H Q I h;exact Subscript_ (binT ha hb I h λv u s2 x y H2 I2 rx ry q=>hr a b jb s2 σ H2 x y v u Q I2 rx ry q (hs _ _))
def rIxL (K:A9):R2:=λx y H Q=>∃p xs i v,x=.ref p/\y=.int i/\SqL K H p xs/\atI xs i=some v/\Q v H
def rIxT (K:A9):R2:=λx y H Q=>∃p xs i v,x=.ref p/\y=.int i/\SqT K H p xs/\atI xs i=some v/\Q v H
def rIxS:R2:=λx y H Q=>∃z i c,x=.str z/\y=.int i/\z.length<=C8/\atI z.cps.toList i=some c/\Q (.str ⟨#[c]⟩) H
theorem y9:IxR X (rIxL X.K):=by
 intro value slice jb s σ H x y v u Q I rx ry h hs;obtain⟨p,xs,i,z,rfl,rfl,hq,he,q⟩:=h;cases rx;obtain⟨t,rfl⟩:=ry;obtain⟨jf,r,pl,hz⟩:=I.list hq;obtain⟨j,h1,h2,h3,h4,h5⟩:=Hd he;obtain⟨w,ew,rw'⟩:=r.get h2;have hl:=r.length;have hn:=AQ;have fin:EP X jb σ Q w s:=⟨z,H,I,rw',q⟩
 by_cases h0:0<=i
 ·have hj:i.toNat=j:=by
   rw[seqIndex_of h0 h5] at h1;exact M9 h1
  exact item_listR pl.isList h0 (by omega) (by rw[hj];simpa using ew) fin hs
 ·have hj:(i+(jf.toArray.size:Int)).toNat=j:=by
   rw[seqIndex_neg (by omega) h4] at h1;rw[G5,<- hl];exact M9 h1
  exact subscriptTail_builtinR (x:=w) pl.isList.typeIs slot_list_getitem.lookup
    (wpAny_getItem_list_neg (Q:=λr s'=>r=w/\EP X jb σ Q r s') pl.isList (by omega) (by rw[G5] <;> omega) (by omega) (by rw[hj];simpa using ew) ⟨rfl,fin⟩) hs
theorem ix_tup:IxR X (rIxT X.K):=by
 intro value slice jb s σ H x y v u Q I rx ry h hs;obtain⟨p,xs,i,z,rfl,rfl,hq,he,q⟩:=h;cases rx;obtain⟨t,rfl⟩:=ry;obtain⟨jf,r,pl,hz⟩:=I.tuple hq;obtain⟨j,h1,h2,h3,h4,h5⟩:=Hd he;obtain⟨w,ew,rw'⟩:=r.get h2;have hl:=r.length;have hn:=AQ;have fin:EP X jb σ Q w s:=⟨z,H,I,rw',q⟩
 exact subscriptTail_builtinR (x:=w) pl.typeIs slot_tuple_getitem.lookup
   (getItem_tuple (j:=j) (Q:=λr s'=>r=w/\EP X jb σ Q r s') pl (by omega) (by omega) (by grind) (by grind) ⟨rfl,fin⟩) hs
theorem ix_str:IxR X rIxS:=by
 intro value slice jb s σ H x y v u Q I rx ry h hs;obtain⟨z,i,c,rfl,rfl,hz,he,q⟩:=h;obtain⟨t,rfl⟩:=rx;obtain⟨t',rfl⟩:=ry;obtain⟨j,h1,h2,h3,h4,h5⟩:=Hd he;have hl:z.cps.toList.length=z.length:=by simp[Str.length]
 rw[hl] at h1 h4 h5;have hn:=AQ
 exact tail_any (typeIs_str s z t) slot_str_getitem.lookup (getItem_str (c:=c) (by
  have e1:decide (i < -(2 ^ 63:Int))=false:=jr (by omega);have e2:decide (i>=2 ^ 63)=false:=jr (by omega)
  rw[e1,e2,BL]) (by grind) ⟨.str ⟨#[c]⟩,H,I.tok _,⟨_,rfl⟩,q⟩) hs
def rIx (K:A9):R2:=λx y H Q=>rIxL K x y H Q\/rIxT K x y H Q\/rIxS x y H Q
theorem JM:IxR X (rIx X.K):=y9.or (ix_tup.or ix_str)
theorem OM (jf:List A1)(n j:Nat)(u:A1):G8 (·.setIfInBounds j u) { cls:=.type "list",data:=.seq jf.toArray n }={ cls:=.type "list",data:=.seq (jf.set j u).toArray n }:=by
 simp[G8]
theorem Inv.lst (I:Inv X jb σ H s)(h:H p=some (.lst xs)) :
   ∃(jf:List A1) (n:Nat),Vals xs jf/\s.heap.get? p=some { cls:=.type "list",data:=.seq jf.toArray n }/\xs.length<=C8:=by
 obtain⟨z,jf,n,r,e⟩:=I.hok p _ h;exact⟨jf,n,r,e,z⟩
theorem Inv.lstUpd {jf its':List A1}(I:Inv X jb σ H s)(h:H p=some (.lst xs))
   (ho:s.heap.get? p=some { cls:=.type "list",data:=.seq jf.toArray n }) (hf:f { cls:=.type "list",data:=.seq jf.toArray n }={ cls:=.type "list",data:=.seq its'.toArray n' }) (r:Vals ys its') (hz:ys.length<=C8) (t:Nat) :
   Inv X jb σ (upd H p (.lst ys)) { s with heap:=s.heap.update p f,toks:=t }:=by
 have e:(s.heap.update p f).get? p=some { cls:=.type "list",data:=.seq its'.toArray n' }:=by
  rw[By f ho (by rw[hf] <;> rfl),hf]
 refine I.write (x:=p) (e:=p) (by rw[h];trivial) (.inl rfl) (λb u hb q=>(Bx _ _ (Ne.symm hb)).trans q) ⟨_,e⟩ ?_;exact⟨hz,its',n',r,e⟩
def Do:V->V->V->Hp->(Hp->Prop)->Prop:=λo i v H Q=>∃p xs k j,o=.ref p/\i=.int k/\H p=some (.lst xs)/\ixN xs.length k=some j/\Q (upd H p (.lst (xs.set j v)))
theorem Hf:PSet X Do:=by
 intro jb s σ H o i v ov iv u Q I ro ri rv h;obtain⟨p,xs,k,j,rfl,rfl,hp,hj,q⟩:=h;cases ro;obtain⟨t,rfl⟩:=ri;obtain⟨jf,n,r,ho,hz⟩:=I.lst hp;obtain⟨h1,h2,h3,h4⟩:=Hc hj;have hl:=r.length;have hn:=AQ
 have I':Inv X jb σ (upd H p (.lst (xs.set j v))) { s with heap:=s.heap.update p (G8 (·.setIfInBounds j u)) }:=
  I.lstUpd hp ho (OM jf n j u) (r.set rv j) (by grind) s.toks
 by_cases h0:0<=k
 ·have hk:k.toNat=j:=by
   rw[seqIndex_of h0 h4] at h1;exact M9 h1
  exact PySem.W.ki_setAt ho h0 (by omega) (by grind) (by grind)
 ·have hk:(k+(jf.toArray.size:Int)).toNat=j:=by
   rw[seqIndex_neg (by omega) h3] at h1;rw[G5,<- hl];exact M9 h1
  exact PySem.W.ki_setBack ho (by omega) (by rw[G5,<- hl];exact h3) (by omega) (by rw[hk];exact⟨_,I',q⟩)
theorem ON (lo hi:Option Int)(n:Nat):(Az lo hi none n).1=((HT.sIx n 0 lo:Nat):Int)/\(Az lo hi none n).2.1=((HT.sIx n n hi:Nat):Int)/\(Az lo hi none n).2.2=1:=by
 refine⟨?_,?_,rfl⟩
 ·cases lo with
  |none=>simp[Az,HT.sIx]
  | some i =>
   simp only[Az,HT.sIx,Option.getD_none,show(1:Int)>0 by decide,if_true]
   by_cases h:i<0
   ·simp only[h,if_true] <;> omega
   ·simp only[h,if_false] <;> omega
 ·cases hi with
  |none=>simp[Az,HT.sIx]
  | some i =>
   simp only[Az,HT.sIx,Option.getD_none,show(1:Int)>0 by decide,if_true]
   by_cases h:i<0
   ·simp only[h,if_true] <;> omega
   ·simp only[h,if_false] <;> omega
theorem OP (jf:List A1)(lo hi:Option Int):slicePick jf.toArray lo hi none=((jf.drop (HT.sIx jf.length 0 lo)).take (HT.sIx jf.length jf.length hi-HT.sIx jf.length 0 lo)).toArray:=by
 obtain⟨h1,h2,h3⟩:=ON lo hi jf.toArray.size;unfold slicePick;rw[h1,h2,h3];simp only[sliceRange_one,pick_run,G5] <;> rfl
def rSlL (K:A9):V->Option Int->Option Int->Hp->VK->Prop:=λx lo hi H Q=>∃a xs,x=.ref a/\SqL K H a xs/\∀p,H p=none->Q (.ref p) (upd H p (.lst (cutV xs lo hi)))
theorem OQ:SlR X (rSlL X.K):=by
 intro jb s σ H x v vl vu lo hi sl Q I rx hs pl pu h;obtain⟨a,xs,rfl,hx,q⟩:=h;cases rx;obtain⟨jf,r,ht,hz⟩:=I.list hx;have hlen:=r.length;refine⟨"list",_,slot_list_getitem.lookup,ht.isList.typeIs,?_⟩;refine wpAny_getItem_list_slice ht.isList hs pl pu .none (by simp) ?_ (by rw[G5] <;> omega)
 rw[OP,<- hlen];refine⟨.ref s.heap.objs.size,_,I.laid (t':=s.toks) (o:=.lst (cutV xs lo hi)) (λb ob q=>C2 _ q) (C7 _) ?_,rfl,q _ (I.hok.fresh (C7 _))⟩;exact⟨J9 (JL xs lo hi) hz,_,0,(r.drop (HT.sIx xs.length 0 lo)).take (HT.sIx xs.length xs.length hi-HT.sIx xs.length 0 lo),E9 _ rfl⟩
def T3:V->Bool
 |.non=>true
 |.bl _=>true
 |.int _=>true
 |.str _=>true
 |_=>false
def eqV:V->V->Bool
 |.non,.non=>true
 |.bl a,.bl b=>a == b
 |.bl a,.int b=>(if a then 1 else 0) == b
 |.int a,.bl b=>a == (if b then 1 else 0)
 |.int a,.int b=>a == b
 |.str a,.str b=>a == b
 |_,_=>false
theorem JN (ry:RelV y u)(rx:RelV x v)(fy:T3 y=true)(fx:T3 x=true):AL A s u v (eqV y x):=by
 cases y with
 | non =>
  cases ry;cases x with
  |non=>cases rx;exact SeqAt.EqAt.same _
  |bl b=>cases rx;exact SeqAt.EqAt.none_bool b
  |int b=>obtain⟨t,rfl⟩:=rx;exact SeqAt.EqAt.none_int b t
  |str b=>obtain⟨t,rfl⟩:=rx;exact SeqAt.EqAt.none_str b t
  |_=>exact absurd (show false=true from fx) V3
 | bl a =>
  cases ry;cases x with
  |non=>cases rx;exact SeqAt.EqAt.bool_none a
  |bl b=>cases rx;exact SeqAt.EqAt.bool_bool a b
  |int b=>obtain⟨t,rfl⟩:=rx;exact SeqAt.EqAt.bool_int a b t
  |str b=>obtain⟨t,rfl⟩:=rx;exact SeqAt.EqAt.bool_str a b t
  |_=>exact absurd (show false=true from fx) V3
 | int a =>
  obtain⟨t',rfl⟩:=ry;cases x with
  |non=>cases rx;exact SeqAt.EqAt.int_none a t'
  |bl b=>cases rx;exact SeqAt.EqAt.int_bool a t' b
  |int b=>obtain⟨t,rfl⟩:=rx;exact SeqAt.EqAt.int_int a t' b t
  |str b=>obtain⟨t,rfl⟩:=rx;exact SeqAt.EqAt.int_str a t' b t
  |_=>exact absurd (show false=true from fx) V3
 | str a =>
  obtain⟨t',rfl⟩:=ry;cases x with
  |non=>cases rx;exact SeqAt.EqAt.str_none a t'
  |bl b=>cases rx;exact SeqAt.EqAt.str_bool a t' b
  |int b=>obtain⟨t,rfl⟩:=rx;exact SeqAt.EqAt.str_int a t' b t
  |str b=>obtain⟨t,rfl⟩:=rx;exact SeqAt.EqAt.str_str a t' b t
  |_=>exact absurd (show false=true from fx) V3
 |_=>exact absurd (show false=true from fy) V3
theorem OR:OpR X (M1 .NotIn) (λx y H Q=>∃i j,x=.str i/\y=.str j/\Q (.bl (!(!(BQ j i 0 j.length 1).isEmpty))) H):=by
 intro jb s σ H x y v u Q I rx ry h;obtain⟨i,j,rfl,rfl,q⟩:=h;obtain⟨t,rfl⟩:=rx;obtain⟨t',rfl⟩:=ry;exact notIn_str ⟨.bl _,H,I,rfl,q⟩
theorem JO:N0 X (.builtin "len") (λxs H Q=>∃p ys,xs=[.ref p]/\(SqL X.K H p ys\/SqT X.K H p ys)/\Q (.int ys.length) H):=by
 intro jb s σ H xs us Q I r h;obtain⟨p,ys,rfl,hq,q⟩:=h;obtain⟨u,rfl,rx⟩:=y8 r;cases rx;have hn:=AQ;rcases hq with hq|hq
 ·obtain⟨jf,r',pl,hz⟩:=I.list hq;have hlen:=r'.length;exact Calls.call_len_list pl.isList (by simp only[G5] <;> omega) ⟨.int ys.length,H,I.tok _,⟨s.toks+1,by rw[G5,hlen]⟩,q⟩
 ·obtain⟨jf,r',pl,hz⟩:=I.tuple hq;have hlen:=r'.length;exact len_tuple pl (by simp only[G5] <;> omega) ⟨.int ys.length,H,I.tok _,⟨s.toks+1,by rw[G5,hlen]⟩,q⟩
theorem OT:N0 X (.builtin "len") (λxs H Q=>∃z,xs=[.str z]/\z.length<=C8/\Q (.int z.length) H):=by
 intro jb s σ H xs us Q I r h;obtain⟨z,rfl,hz,q⟩:=h;obtain⟨u,rfl,t,rfl⟩:=y8 r;have hn:=AQ;exact len_str (by omega) ⟨.int z.length,H,I.tok _,⟨_,rfl⟩,q⟩
theorem N0.or (h:N0 X f r)(h':N0 X f r'):N0 X f (λxs H Q=>r xs H Q\/r' xs H Q):=by
 intro jb s σ H xs us Q I rs q;rcases q with q|q
 ·exact h jb s σ H xs us Q I rs q
 ·exact h' jb s σ H xs us Q I rs q
theorem OU:N0 X (.type "list") (λxs H Q=>∃p ys,xs=[.ref p]/\(SqL X.K H p ys\/SqT X.K H p ys)/\∀l,H l=none->Q (.ref l) (upd H l (.lst ys))):=by
 intro jb s σ H xs us Q I r h;obtain⟨p,ys,rfl,hq,q⟩:=h;obtain⟨u,rfl,rx⟩:=y8 r;cases rx
 have fin:∀(jf:List A1),Vals ys jf->ys.length<=C8->∀(h':B6) (c':Nat),(∀b o',s.heap.get? b=some o'->h'.get? b=some o')->
     h'.get? s.heap.objs.size=some { cls:=.type "list",dict:=none,data:=.seq jf.toArray c',slots:=#[] }->EP X jb σ Q (.ref s.heap.objs.size) { s with heap:=h' }:=λjf r' hz h' c' kp e=>
   ⟨.ref s.heap.objs.size,_,I.laid (t':=s.toks) kp (C7 _) (show J0 X.prog X.w _ h' _ (.lst ys) from⟨hz,jf,c',r',e⟩),rfl,q _ (I.hok.fresh (C7 _))⟩
 rcases hq with hq|hq
 ·obtain⟨jf,r',pl,hz⟩:=I.list hq;have hlen:=r'.length;obtain⟨o,ho,hc,n,hd⟩:=pl.isList;exact call_list_seq p (.inl rfl) ho hc hd (λh' c' kp e=>fin jf r' hz h' c' kp e) (by simp only[G5] <;> omega)
 ·obtain⟨jf,r',pl,hz⟩:=I.tuple hq;have hlen:=r'.length;obtain⟨o,ho,hc,n,hd⟩:=pl;exact call_list_seq p (.inr rfl) ho hc hd (λh' c' kp e=>fin jf r' hz h' c' kp e) (by simp only[G5] <;> omega)
theorem OV:N0 X (.type "tuple") (λxs H Q=>∃p ys,xs=[.ref p]/\((SqL X.K H p ys/\∀l,H l=none->Q (.ref l) (upd H l (.tup ys)))\/(SqT X.K H p ys/\Q (.ref p) H))):=by
 intro jb s σ H xs us Q I r h;obtain⟨p,ys,rfl,h⟩:=h;obtain⟨u,rfl,rx⟩:=y8 r;cases rx;rcases h with⟨hq,q⟩|⟨hq,q⟩
 ·obtain⟨jf,r',pl,hz⟩:=I.list hq;have hlen:=r'.length;refine call_tuple_list pl.isList (λh' kp=>?_) (by simp only[G5] <;> omega)
  have I1:Inv X jb σ H { s with heap:=h' }:=I.kept (t':=s.toks) kp
  have I2:Inv X jb σ (upd H h'.objs.size (.tup ys)) { s with heap:=h'.push { cls:=.type "tuple",data:=.seq jf.toArray } }:=
   I1.laid (t':=s.toks) (λb o e=>C2 _ e) (C7 _) (show J0 X.prog X.w _ _ _ (.tup ys) from⟨hz,jf,r',j6.new _ _⟩)
  exact⟨.ref h'.objs.size,_,I2,rfl,q _ (I1.hok.fresh (C7 _))⟩
 ·obtain⟨jf,r',pl,hz⟩:=I.tuple hq;exact call_tuple_same pl ⟨.ref p,H,I,rfl,q⟩
def tyV (K:A9)(T:String)(x:V)(H:Hp):Prop:=match x with
 |.str _=>T="str"
 |.int _=>T="int"
 |.ref p=>(T="list"/\∃xs,SqL K H p xs)\/(T="tuple"/\((∃o,K.lookup p=some o/\o.cls=.type "tuple"/\o.dict=none)\/∃xs,H p=some (.tup xs)))\/
     (T="dict"/\((∃jg,H p=some (.dK jg))\/∃jg,H p=some (.dT jg)))\/(T="set"/\∃S n,H p=some (.set S n))
 |_=>False
theorem tyV_is (I:Inv X jb σ H s)(r:RelV x v)(ty:tyV X.K T x H) :
   s.TypeIs v T/\∀a,v=.ref a->∃ob,s.heap.get? a=some ob/\ob.dict=none:=by
 cases x with
 | str z =>
  obtain⟨t,rfl⟩:=r;cases(show T="str" from ty);exact⟨typeIs_str s z t,λ_ e=>nomatch e⟩
 | int i =>
  obtain⟨t,rfl⟩:=r;cases(show T="int" from ty);exact⟨typeIs_int s i t,λ_ e=>nomatch e⟩
 | ref p =>
  cases r;rcases ty with⟨rfl,xs,hq⟩|⟨rfl,hk⟩|⟨rfl,hk⟩|⟨rfl,S,n,hk⟩
  ·obtain⟨jf,_,pl,_⟩:=I.list hq;refine⟨pl.isList.typeIs,λa e=>?_⟩;cases e;obtain⟨o,n,e,c,hd,_⟩:=pl;exact⟨o,e,hd⟩
  ·rcases hk with⟨o,hk,hc,hd⟩|⟨xs,hk⟩
   ·refine⟨⟨o,I.kIn p o hk,hc⟩,λa e=>?_⟩;cases e;exact⟨o,I.kIn _ o hk,hd⟩
   ·obtain⟨_,_,_,o,e,c,_⟩:=(show J0 X.prog X.w H s.heap p (.tup xs) from I.hok p _ hk);refine⟨⟨o,e,(Di c).1⟩,λa e2=>?_⟩;cases e2;exact⟨o,e,(Di c).2⟩
  ·have z:∃o,s.heap.get? p=some o/\o.ExactDict:=by
    rcases hk with⟨jg,hk⟩|⟨jg,hk⟩
    ·obtain⟨_,_,_,_,o,_,_,e,ex,_⟩:=I.hok p _ hk;exact⟨o,e,ex⟩
    ·obtain⟨_,_,_,_,o,_,_,e,ex,_⟩:=I.hok p _ hk;exact⟨o,e,ex⟩
   obtain⟨o,e,ex⟩:=z;refine⟨⟨o,e,ex.1⟩,λa e2=>?_⟩;cases e2;exact⟨o,e,ex.2.1⟩
  ·obtain⟨o,_,_,_,e,ex,_⟩:=I.hok p _ hk;refine⟨⟨o,e,ex.1⟩,λa e2=>?_⟩;cases e2;exact⟨o,e,ex.2.1⟩
 |_=>exact i9 ty
def tBM (K:A9)(T:String)(r:V->List V->Hp->VK->Prop)(to:TE)(t:TA):TE:=λσ H Q=>to σ H λx H1=>tyV K T x H1/\t σ H1 λxs H2=>r x xs H2 Q
variable {o e:Expr}{es:List Expr}{to:TE}{t:TA}{name:Str}{apos cpos:Pos}{T id:String}{r:V->List V->Hp->VK->Prop}
theorem B_ (pa:PlainAttrs T)(slot:Slot T name id)(hty:typeOf (.builtin id)=pure (.type "method_descriptor"))(hm:MtR X id r)(ho:PE X o to)(ha:PA X (e::es) t)
   (hbase:Aw o name X.env (eval o X.env)=eval o X.env:=by rfl)
   (hfew:((backTo cpos (F5 (e::es) X.env)).all (λx=>!x.1)&&(e6 cpos (d5 [] X.env)).all (λx=>x.1.isSome)
     && decide ((e::es).length+([]:List R8).length+(if([]:List R8).isEmpty then 0 else 1)<30))=true:=by rfl)
   (hline:(apos.endLine == cpos.line)=true:=by rfl) (hs:F5 (e::es) X.env=(false,eval e X.env)::F5 es X.env:=by rfl) (hplain:(backTo cpos (F5 es X.env)).any (·.1)=false:=by rfl) :
   PE X (.Call (.Attribute o name apos) (e::es) [] cpos) (tBM X.K T r to t):=by
 intro jb s σ H Q I h;refine wpAny_Call_method_late hbase hfew hline rfl (thn (ho jb s σ H _ I h) λv s1 ⟨x,H1,I1,r1,ty,q1⟩=>?_);obtain⟨h1,h2⟩:=tyV_is I1 r1 ty;refine⟨T,id,pa,slot,hty,h1,h2,?_⟩;have hA:=ha cpos jb s1 σ H1 _ I1 q1;rw[hs] at hA ⊢;refine Calls.callWith_builtin (by show(false||(backTo cpos (F5 es X.env)).any (·.1))=false;rw[hplain] <;> rfl) (Calls.evalArgs_plain ?_)
 exact thn hA λus s2 ⟨vs,H2,I2,r2,q2⟩=>hm jb s2 σ H2 x vs v us Q I2 r1 r2 q2
end
def MtM (X:Cx)(id:String)(r:V->List V->Hp->VK->Prop):Prop:=
 ∀ (jb : List (A0 × Obj)) (s : A5) (σ : St) (H : Hp) (x : V) (xs : List V) (v : A1) (us : List A1) (Q : VK), Inv X jb σ H s -> RelV x v -> Vals xs us -> r x xs H Q ->
   A6 (A7 X.prog X.w) X.A (call (.builtin id) (v::us)) (EP X jb σ Q) X.xe s
theorem Vals.one (h:Vals [x] us):∃u,us=[u]/\RelV x u:=by
 cases h with|cons r h=>cases h;exact⟨_,rfl,r⟩
theorem Vals.two (h:Vals [x,y] us):∃u v,us=[u,v]/\RelV x u/\RelV y v:=by
 cases h with|cons r h=>cases h with|cons q h=>cases h;exact⟨_,_,rfl,r,q⟩
theorem Vals.eraseIdx:∀{xs:List V} {us:List A1} (i:Nat),Vals xs us->Vals (xs.eraseIdx i) (us.eraseIdx i)
 |_,_,_,.nil=>.nil
 |_,_,0,.cons _ t=>t
 |_,_,i+1,.cons r t=>.cons r (Vals.eraseIdx i t)
theorem len_erase {α:Type}:∀(l:List α) (i:Nat),(l.eraseIdx i).length<=l.length:=by grind
section
variable {X:Cx}{jb:List (A0×Obj)}{σ:St}{H:Hp}{s:A5}{l b:A0}{xs ys zs:List V}
theorem Inv.lset {jf its':List A1}(I:Inv X jb σ H s)(hH:H l=some (.lst xs))
   (e:s.heap.get? l=some { cls:=.type "list",data:=.seq jf.toArray n }) (hf:f jf.toArray=its'.toArray) (hv:Vals ys its') (hz:ys.length<=C8) :
   Inv X jb σ (upd H l (.lst ys)) { s with heap:=s.heap.update l (G8 f),toks:=t' }:=by
 have q:=PySem.IsL.update e f;rw[hf] at q;refine I.write (x:=l) (e:=l) (by rw[hH];exact trivial) (.inl rfl) (λb' u hb hu=>(Bx s.heap (G8 f) (Ne.symm hb)).trans hu) ⟨_,q⟩ ?_;exact⟨hz,its',_,hv,q⟩
theorem Inv.lnew {jf:List A1}{t':Nat}(I:Inv X jb σ H s)(hv:Vals ys jf)(hz:ys.length<=C8) :
   Inv X jb σ (upd H s.heap.objs.size (.lst ys)) { s with heap:=s.heap.push { cls:=.type "list",data:=.seq jf.toArray },toks:=t' }:=
 I.laid (λ_ _ q=>C2 _ q) (C7 _) ⟨hz,jf,0,hv,E9 _ rfl⟩
theorem Inv.fresh (I:Inv X jb σ H s):H s.heap.objs.size=none:=I.hok.fresh (C7 _)
theorem Inv.lstM (I:Inv X jb σ H s)(hH:H l=some (.lst xs)):xs.length<=C8/\∃(jf:List A1) (n:Nat),Vals xs jf/\xs.length=jf.length/\s.heap.get? l=some { cls:=.type "list",data:=.seq jf.toArray n }:=by
 obtain⟨z,jf,n,r,e⟩:=I.hok l _ hH;exact⟨z,jf,n,r,r.length,e⟩
theorem OW (h:n<=C8):GK n=false:=by
 unfold GK;exact jr (by omega)
end
section
variable {X:Cx}
def JP:V->List V->Hp->VK->Prop:=λx vs H Q=>∃l xs y,x=.ref l/\vs=[y]/\H l=some (.lst xs)/\xs.length<C8/\Q .non (upd H l (.lst (xs++[y])))
theorem JQ:MtM X "list.append" JP:=by
 intro jb s σ H x vs v us Q I rx rv h;obtain⟨l,xs,y,rfl,rfl,hH,hz,q⟩:=h;cases rx;obtain⟨u,rfl,ru⟩:=rv.one;obtain⟨z,jf,n,r,hl,e⟩:=I.lstM hH;refine call_meets F.slot_list_append ⟨_,e,rfl⟩ F.entry_list_append (F.args_list_append_2 _ _) (PySem.list_append l jf.toArray n u (by rw[G5];omega)) ⟨e,?_⟩;refine⟨.non,_,I.lset (its':=jf++[u]) hH e (by simp) (r.append (.cons ru .nil)) ?_,rfl,q⟩;rw[D4,O8];omega
def JR:V->List V->Hp->VK->Prop:=λx vs H Q=>∃l b xs zs,x=.ref l/\vs=[.ref b]/\H l=some (.lst xs)/\H b=some (.lst zs)/\xs.length+zs.length<=C8/\Q .non (upd H l (.lst (xs++zs)))
theorem OX:MtM X "list.extend" JR:=by
 intro jb s σ H x vs v us Q I rx rv h;obtain⟨l,b,xs,zs,rfl,rfl,hH,hB,hz,q⟩:=h;cases rx;obtain⟨u,rfl,ru⟩:=rv.one;cases ru;obtain⟨z,jf,n,r,hl,e⟩:=I.lstM hH;obtain⟨z2,its2,n2,r2,hl2,e2⟩:=I.lstM hB;have hsz:jf.toArray.size+its2.toArray.size<=C8:=by rw[G5,G5];omega
 have hlong:¬(!jf.toArray.isEmpty&&GK (jf.toArray.size+its2.toArray.size))=true:=by
  rw[OW hsz,Bool.and_false];exact V3
 refine call_meets F.slot_list_extend ⟨_,e,rfl⟩ F.entry_list_extend (F.args_list_extend_2 _ _)
   (AutoSeq1.list_extend_list_list_0 l jf.toArray n b its2.toArray n2 hlong (by grind) (by omega)) ⟨e,e2,?_⟩
 refine⟨.non,_,I.lset (its':=jf++its2) hH e (by simp) (r.append r2) ?_,rfl,q⟩
 grind
def JS:V->List V->Hp->VK->Prop:=λx vs H Q=>∃l xs i k y,x=.ref l/\vs=[.int i]/\H l=some (.lst xs)/\-(2 ^ 63)<=i/\i<2 ^ 63/\seqIndex? i xs.length=some k/\xs[k]?=some y/\Q y (upd H l (.lst (xs.eraseIdx k)))
theorem OY:MtM X "list.pop" JS:=by
 intro jb s σ H x vs v us Q I rx rv h;obtain⟨l,xs,i,k,y,rfl,rfl,hH,h1,h2,hk,hy,q⟩:=h;cases rx;obtain⟨u,rfl,ru⟩:=rv.one;obtain⟨t,rfl⟩:=ru;obtain⟨z,jf,n,r,hl,e⟩:=I.lstM hH;obtain⟨w,hw,rw'⟩:=r.get hy
 refine call_meets F.slot_list_pop ⟨_,e,rfl⟩ F.entry_list_pop (F.args_list_pop_2 _ _)
   (MeetsSeq.list_pop_at l jf.toArray n i t k w (fitsIndex_both h1 h2) (by grind) (by grind) (by grind)) ⟨e,?_⟩
 refine⟨y,_,I.lset (its':=jf.eraseIdx k) hH e ?_ (r.eraseIdx k) ?_,rw',q⟩
 ·grind
 grind
def rCat:R2:=λx y H Q=>∃l b xs zs,x=.ref l/\y=.ref b/\H l=some (.lst xs)/\H b=some (.lst zs)/\xs.length+zs.length<=C8/\∀p,H p=none->Q (.ref p) (upd H p (.lst (xs++zs)))
theorem op_cat:OpR X (T8 .Add) rCat:=by
 intro jb s σ H x y v u Q I rx ry h;obtain⟨l,b,xs,zs,rfl,rfl,hH,hB,hz,q⟩:=h;cases rx;cases ry;obtain⟨z,jf,n,r,hl,e⟩:=I.lstM hH;obtain⟨z2,its2,n2,r2,hl2,e2⟩:=I.lstM hB;refine PySem.P.add_list e e2 ?_ (by rw[G5,G5];omega);have ea:jf.toArray++its2.toArray=(jf++its2).toArray:=by simp
 rw[ea];exact⟨.ref _,_,I.lnew (t':=s.toks) (r.append r2) (by rw[D4];omega),rfl,q _ I.fresh⟩
end
end L2
namespace Att
open PySem PySem.W PySem.Calls PyProof.Rows
theorem OZ:∀(ns:List Int) (vs:List A1),WellAll P h vs (ns.map WData.int)->IntsAre vs ns:=by
 intro ns
 induction ns with
 | nil =>
  intro vs w;rw[List.map_nil] at w;cases w;exact .nil
 | cons n ns ih =>
  intro vs w;rw[F2] at w;cases w with
  | cons a b =>
   cases a;exact .cons _ _ (ih _ b)
theorem O_ {l:OpenLaw}(hn:l.most=some n)
   (hpre:l.row.toRowW.claim.pre args=true) (hwl:WellAll P h vals args) :
   ∃a vs ns,vals=[L8 a]/\args=[WData.list (ns.map WData.int)]/\h.get? a=some { cls:=.type "list",data:=.seq vs.toArray }/\IntsAre vs ns/\ns.length<=n:=by
 have hsh:WShape.hasAll [] args [.list .int]=true:=(pre_splitW hpre).1;have hc:l.pre.holds [] { args:=args }=true:=(pre_splitW hpre).2;obtain⟨d,r,rfl,h1,h2⟩:=hasAllW_cons hsh;obtain rfl:=hasAllW_nil h2;obtain⟨xs,rfl,h3⟩:=hasW_list h1;obtain⟨ns,rfl⟩:=items_int h3
 have hlen:ns.length<=n:=by
  unfold OpenLaw.pre at hc
  have h4:(WTm.not (.lt (.lit (.int (n:Int))) (.len (.arg 0)))).holds [] { args:=[.list (ns.map .int)] }=true:=by
   have h4:=(holds_andW hc).1;rw[hn] at h4;exact h4
  have h5:=condW_of h4 (w_not (w_lt w_lit (w_len_list (w_arg rfl))));rw[B4] at h5;refine BH λq=>?_;have q':(n:Int)<((ns.length:Nat):Int):=by omega
  first
    |(rw[jq q'] at h5;exact absurd h5 (by decide))
    |(simp at h5;omega)
 cases hwl with
 | cons w1 w2 =>
  cases w2;cases w1 with
  |list ho hall=>exact⟨_,_,ns,rfl,rfl,ho,OZ ns _ hall,hlen⟩
theorem Pa (l:OpenLaw)(args:List WData):l.row.toRowW.claim.post args (.bool true) args=true:=
 postW_of (r:=l.row.toRowW) (X:=(true == true))
   (show WShape.has [] (.bool true) .bool=true by first|rfl|decide|simp[WShape.has,WShape.arms,WShape.armsAll])
   (show(WTm.eq .res (.lit (.bool true))).value [] { args:=args,res:=some (.bool true),after:=args }=some (.bool (true == true)) from w_eq_bool (w_res rfl) w_lit) rfl
theorem attach_call {l:OpenLaw}
   (hn:l.most=some n) (hdf:d.params.defaults=[])
   (call:∀(w:C9) (s₀ s₁:A5) (mg mb:Str->Option A1) (fa:A0) (o:Obj) (pm cd doc:A1) (a:A0) (vs:List A1) (ns:List Int),
    Ground q loose [] XP w s₀ mg mb s₁.heap->YP w s₁.heap->
    s₁.heap.get? fa=some o->o.data=.func (docDef d.name d.params d.body d.scope pm cd doc)->s₁.heap.CodeRec cd d.name->mg d.name=some (.ref fa)->
    s₁.heap.get? a=some { cls:=.type "list",data:=.seq vs.toArray }->IntsAre vs ns->ns.length<=n->s₁.gens=#[]->
    M5 (A7 l.prog w) callerA (.call (.ref fa) ⟨[.ref a],[]⟩) (λr s'=>r=.ok (.ret (.bool true))/\OldK s₁.heap s'.heap/\s'.os=s₁.os/\AllBare s'.gens) s₁) :
   WalkO q loose XP YP l.row.toRowW d [] (λf vs=>PySem.call f vs):=by
 intro w s₀ s₁ mg mb G Y fa o pm cd doc dV kV ho hd hcd hD hmg hg args vals as hpre hlay hrd hwl hlo;obtain rfl:dV=.none:=Dflts.none hD hdf;obtain rfl:kV=.none:=Dflts.noKw hD;obtain⟨a,vs,ns,rfl,rfl,hobj,hints,hlen⟩:=O_ hn hpre hwl;refine enter_call (Ax (call w s₀ s₁ mg mb fa o pm cd doc a vs ns G Y ho (fd_plain hd) hcd hmg hobj hints hlen hg) λr s' hq=>?_);obtain⟨rfl,h2,h3,h4⟩:=hq;exact⟨.inl ⟨.bool true,.bool true,[],rfl,λ_=>rfl,.bool true,Pa l _,λ_=>⟨GP,λ_ hm=>(nomatch hm)⟩⟩,h2,h3,h4⟩
end Att
namespace L2
open PySem PySem.Spec PyProof.Rows
theorem Pb (h:IntsAre vs ns):Vals (ns.map V.int) vs:=by
 induction h with
 |nil=>exact .nil
 |cons n t _ ih=>exact .cons ⟨t,rfl⟩ ih
abbrev KOf {K:A9}{h:B6}(_:K.In h):A9:=K
def U5 (s:Stmt):Arguments:=match s with
 |.FunctionDef _ a _ _ _ _ _ _ _ _=>a
 |_=>{ posonlyargs:=[],args:=[],vararg:=none,kwonlyargs:=[],kw_defaults:=[],kwarg:=none,defaults:=[] }
def N8 (s:Stmt):List Stmt:=match s with
 |.FunctionDef _ _ b _ _ _ _ _ _ _=>b
 |_=>[]
def F7 (s:Stmt):G0:=match s with
 |.FunctionDef _ _ _ _ _ _ sc _ _ _=>sc
 |_=>{ kind:=.function,names:=[],isGenerator:=false,isCoroutine:=false }
abbrev CX0:CXT:=λ_ _ _ _ _ _=>False
abbrev E0:XK:=λ_ _ _=>False
theorem pass0:Ha CX0 X E0:=λ_ _ _ _ _ _ _ h=>h.elim
structure Fun (K:A9)(x qual:Str)(st:Stmt)(f:A0)(fd:FuncData):Prop where
 ex:∃(oc:A1) (od:Option A0) (kV doc pm:A1) (an:Option A0) (jo ct:A1) (osl:Array (Option A1)),
  fd=W1 x qual (U5 st) (N8 st) (F7 st) .none kV doc pm an jo ct/\K.lookup f=some ⟨oc,od,.func fd,osl⟩/\Eo K jo qual=true
 kp:CP K (.ref f)=true
section
variable {P:D1}{w:C9}{K:A9}{mg:Str->Option A1}{base:B6}
theorem Fun.ok {st:Stmt}(F:Fun K x qual st f fd)(S:U4 N ps (F7 st))(len:∀vs H Q E,sp vs H Q E->vs.length=ps.length)
   (hbody:∀(jo:A1) (A:D5) (outer:List Env) (s:A5) (H:Hp) (vs:List V) (Q:VK) (E:XK),Room k (A.deeper (envOfC qual (F7 st) s.heap.objs.size f jo))->sp vs H Q E->
     ∃t,PSs (cxOf CX0 P w K mg base N qual (F7 st) f jo A outer s H E).nox (N8 st) t/\t { nx:=λ_ H'=>Q .non H',rt:=Q } (start N vs) H):FnOk P w K mg base CX0 (k+1) f fd ps sp:=by
 obtain⟨oc,od,kV,doc,pm,an,jo,ct,osl,rfl,lk,hcd⟩:=F.ex;refine fn_of lk hcd S len λA outer s H vs Q E hr hsp=>?_;obtain⟨t,h,q⟩:=hbody jo A outer s H vs Q E hr hsp;exact⟨t,h.nox,q⟩
theorem Fun.binds {st:Stmt}{f:A0}{fd:FuncData}{ps:List Str}(F:Fun K x qual st f fd)
   (h:∀(kV doc pm:A1) (an:Option A0) (jo ct:A1) (us:List A1),us.length=ps.length->Y0 (W1 x qual (U5 st) (N8 st) (F7 st) .none kV doc pm an jo ct) ⟨us,[]⟩=pure (ps.zip us)):BZ K fd ps []:=by
 obtain⟨oc,od,kV,doc,pm,an,jo,ct,osl,rfl,lk,hcd⟩:=F.ex;exact .all (h kV doc pm an jo ct)
theorem fun_mk {x qual:Str}{st:Stmt}{f:A0}{oc:A1}{od an:Option A0}{osl:Array (Option A1)}{kV doc pm jo ct:A1}(l:K.lookup f=some ⟨oc,od,.func (W1 x qual (U5 st) (N8 st) (F7 st) .none kV doc pm an jo ct),osl⟩)
   (c:Eo K jo qual=true) (k:CP K (.ref f)=true):Fun K x qual st f (W1 x qual (U5 st) (N8 st) (F7 st) .none kV doc pm an jo ct):=⟨⟨oc,od,kV,doc,pm,an,jo,ct,osl,rfl,l,c⟩,k⟩
end
theorem hu_of {A:D5}{k:Nat}(hr:Room k A):A.units+1<cLine:=BG (Nat.add_le_add_left (by decide:1<=64) _) hr.units
section
variable {X:Cx}
theorem pv (i:Nat){x:Str}{pos:Pos}(hN:X.N[i]?=some x:=by rfl)(hv:Vis X.env.scope x:=by first|exact Or.inl rfl|exact Or.inr (Or.inl rfl)|exact Or.inr (Or.inr rfl))(hd:(x == ("__debug__":Str))=false:=by decide)
   (hcd:(x == ("__classdict__":Str))=false:=by decide):PE X (.Name x pos) (tVar i):=Jw hN hv hd hcd
end
theorem iteF {A B:Prop}(h:B):if false=true then A else B:=by grind
theorem iteT {A B:Prop}(h:A):if true=true then A else B:=by grind
theorem ite2 {c A B:Prop}[Decidable c](h1:c->A)(h2:¬c->B):if c then A else B:=by grind
def Same (H H':Hp):Prop:=∀b o,H b=some o->H' b=some o
theorem Same.refl (H:Hp):Same H H:=λ_ _ h=>h
end L2
end
section
namespace L2
open PySem PySem.Spec PyProof.Rows
theorem JT {prog:D1}{w:C9}{A:D5}{R:Result->A5->Prop}{s:A5}{ji target iter:Expr}{jk:List Expr}{scope:G0}{pos:Pos}{it jm:A1}{env:Env}(I:Nat->A5->Prop)
   (turn:∀n s,I n s->A6 (A7 prog w) A (pyNext it) (fun r s₁=>match r with
    |none=>R (.ok .next) s₁
    |some v=>A6 (A7 prog w) A (l8 target it v) (λ_ s₁'=>A6 (A7 prog w) A (assign target env v) (λ_ s₂=>
        A6 (A7 prog w) A (forIn jk true fun c r=>if r=true then do let ok ← isTrue c env (eval c env);pure (i8 ok) else pure (i8 r)) (fun ok s₃=>
         if ok=true then A6 (A7 prog w) A (eval ji env) (λx s₄=>
          A6 (A7 prog w) A (call (.builtin "list.append") [jm,x]) (λ_ s₅=>∃m,m<n/\I m s₅) (λ_ _=>False) s₄) (λ_ _=>False) s₃
         else ∃m,m<n/\I m s₃) (λ_ _=>False) s₂) (λ_ _=>False) s₁') (λ_ _=>False) s₁) (λ_ _=>False) s)
   (n:Nat) (h:I n s) :
   M5 (A7 prog w) A (.compLoop (.ListComp ji [⟨target,iter,jk,0⟩] scope pos) 0 it jm env) R s:=by
 refine codeAny_loop rfl I (λn s hI=>?_) n h;show A6 _ A ((compTurn (.ListComp ji [⟨target,iter,jk,0⟩] scope pos) 0 it jm env).onRaise (λx=>do noteFrame x env;Ek x)) _ _ s;refine wpAny_noted ?_;rw[compTurn_list];refine A2 (R7 (A2 (G7 (turn n s hI) (λr s₁ h₁=>?_) λ_ _ h'=>h'.elim)));cases r with
 |none=>exact B2 h₁
 | some v =>
  refine A2 (G7 h₁ (λ_ s₁' h₁'=>?_) λ_ _ h'=>h'.elim);refine A2 (G7 h₁' (λ_ s₂ h₂=>A2 (G7 h₂ (λok s₃ h₃=>?_) λ_ _ h'=>h'.elim)) λ_ _ h'=>h'.elim);cases ok with
  |false=>exact B2 ⟨rfl,h₃⟩
  | true =>
   exact A2 (A2 (G7 h₃ (λx s₄ h₄=>A2 (G7 h₄ (λ_ s₅ h₅=>B2 (B2 ⟨rfl,h₅⟩)) λ_ _ h'=>h'.elim)) λ_ _ h'=>h'.elim))
def E4 (X:Cx)(scope:G0)(cl:List (Str×A0))(N:List Str)(fp:List A0)(C:A0)(s:A5)(H:Hp):Cx where
 prog:=X.prog
 w:=X.w
 K:=X.K
 mg:=X.mg
 base:=X.base
 A:=X.A
 N:=N
 s₀:=s
 H₀:=H
 env:=compEnvC scope cl C X.env
 outer:=X.stack
 stack:=X.stack
 ex:=fp
 fn:=λ_=>false
 calm:=X.calm
 pn:=X.pn
 xe:=λ_ _=>False
structure W6 (X:Cx)(scope:G0)(cl:List (Str×A0))(N:List Str)(cs:List (Option Nat)):Prop where
 clos:closureFor scope X.env=pure cl
 kind:scope.kind=.function
 nocell:∀y∈scope.names,y.2≠.cell
 names:∀y∈scope.names,y.2=.local->scope.names.lookup y.1=some .local
 sub:∀x c,cl.lookup x=some c->X.env.cells.lookup x=some c
 has:∀x,((relabel scope X.env).names.lookup x=some .cell\/(relabel scope X.env).names.lookup x=some .free)->∃c,cl.lookup x=some c
 len:cs.length=N.length
 cap:∀(k j:Nat) (x:Str),cs[k]?=some (some j)->N[k]?=some x->X.N[j]?=some x/\Vis X.env.scope x/\X.env.kindOf x≠some .local/\(∃c,cl.lookup x=some c)/\((relabel scope X.env).names.lookup x=some .cell\/(relabel scope X.env).names.lookup x=some .free)
def Dp:List (Str×A0)->List (Str×A0)->Prop
 |[],_=>True
 |y::r,cells=>cells.lookup y.1=some y.2/\Dp r cells
theorem Dp.get:∀{cl cells:List (Str×A0)},Dp cl cells->∀x c,cl.lookup x=some c->cells.lookup x=some c:=by intro a;induction a <;> intros <;> grind [Dp]
theorem N9 {X:Cx}{scope:G0}{cl:List (Str×A0)}{N:List Str}{cs:List (Option Nat)}(clos:closureFor scope X.env=pure cl)(kind:scope.kind=.function)(nocell:(scope.names.all λy=>!(y.2 == .cell))=true)
   (names:(scope.names.all λy=>!(y.2 == .local)||scope.names.lookup y.1 == some .local)=true) (sub:Dp cl X.env.cells)
   (has:((relabel scope X.env).names.all λy=>!(y.2 == .cell||y.2 == .free)||(cl.lookup y.1).isSome)=true) (len:cs.length=N.length)
   (cap:((cs.zip N).all λy=>match y.1 with|none=>true|some j=>X.N[j]? == some y.2&&(X.env.scope.names.lookup y.2 == some .cell||X.env.scope.names.lookup y.2 == some .free)&&(cl.lookup y.2).isSome &&
     ((relabel scope X.env).names.lookup y.2 == some .cell||(relabel scope X.env).names.lookup y.2 == some .free))=true):W6 X scope cl N cs:=by
 refine⟨clos,kind,λy hy=>?_,λy hy e=>?_,sub.get,λx hx=>?_,len,λk j x hk hN=>?_⟩
 ·have:=J4.mp nocell y hy;intro z;rw[z] at this;cases this
 ·have:=J4.mp names y hy;rw[e] at this
  simpa using this
 ·rcases hx with hx|hx
  ·have:=J4.mp has _ (l7 hx);exact ET.mp (by simpa using this)
  ·have:=J4.mp has _ (l7 hx);exact ET.mp (by simpa using this)
 ·have hz:(cs.zip N)[k]?=some (some j,x):=by rw[List.getElem?_zip_eq_some];exact⟨hk,hN⟩
  have:=J4.mp cap _ (J8 hz);simp only[V4,EB,beq_iff_eq] at this;obtain⟨⟨⟨h1,h2⟩,h3⟩,h4⟩:=this;refine⟨h1,?_,?_,ET.mp h3,h4⟩
  ·rcases h2 with h2|h2
   ·exact .inr (.inl h2)
   ·exact .inr (.inr h2)
  ·intro z;have z':X.env.scope.names.lookup x=some .local:=z;rw[z'] at h2;rcases h2 with h2|h2 <;> cases h2
def Z5 (cs:List (Option Nat))(σ:St):St:=cs.map λo=>o.bind λj=>(σ[j]?).bind id
def PIf (X:Cx)(jk:List Expr)(t:TT):Prop:=
 ∀ (jb : List (A0 × Obj)) (s : A5) (σ : St) (H : Hp) (Q : Bool -> Hp -> Prop), Inv X jb σ H s -> t σ H Q ->
   A6 (A7 X.prog X.w) X.A (forIn jk true λc r=>if r=true then do let ok ← isTrue c X.env (eval c X.env);pure (i8 ok) else pure (i8 r)) (TP X jb σ Q) X.xe s
def tTru:TT:=λ_ H Q=>Q true H
theorem JU {X:Cx}:PIf X [] tTru:=λjb s σ H Q I h=>wpAny_tests_nil ⟨H,I,h⟩
theorem Pc {X:Cx}{c:Expr}{t:TT}(h:PT X c t):PIf X [c] t:=λjb s σ H Q I hq=>wpAny_tests_one (h jb s σ H Q I hq)
def CompW (J:It)(g:TG)(tt:TT)(te:TE)(Q:VK)(D:A0)(σc:St)(H1:Hp):Prop:=∃W:Nat->Nat->St->Hp->Prop,(∃m,W 0 m σc H1)/\
 ∀i m σ' H',W i m σ' H'->(J.stop i H'/\Q (.ref D) H')\/(J.go i H'/\∀x H2,J.yld i H' x H2->g x σ' H2 fun σ3 H3=>tt σ3 H3 fun b H4=>
    if b=true then te σ3 H4 λv H5=>∃ys,H5 D=some (.lst ys)/\ys.length<C8/\∃m',m'<m/\W (i+1) m' σ3 (upd H5 D (.lst (ys++[v])))
    else ∃m',m'<m/\W (i+1) m' σ3 H4)
def tComp (cs:List (Option Nat))(wi:TI)(g:TG)(tt:TT)(te:TE):TE:=λσ H Q=>wi σ H λJ H1=>∀D,H1 D=none->CompW J g tt te Q D (Z5 cs σ) (upd H1 D (.lst []))
theorem Pd {X:Cx}{scope:G0}{cl:List (Str×A0)}{N:List Str}{cs:List (Option Nat)}(S:W6 X scope cl N cs){jb:List (A0×Obj)}{σ:St}{H:Hp}{s:A5}{fp:List A0}{h₁:B6}{tk:Nat}
   (I:Inv X jb σ H s) (f2:∀b∈fp,FpOk X jb H b) (ho:∀b∈fp,∃o,s.heap.get? b=some o)
   (old:∀b o,s.heap.get? b=some o->h₁.get? b=some o) (hns:h₁.Ns (s.heap.objs.size+1) (λx=>([]:List (Str×A1)).reverse.lookup x))
   (hD:h₁.get? s.heap.objs.size=some { cls:=.type "list",data:=.seq ([]:List A1).toArray }) :
   Inv (E4 X scope cl N fp (s.heap.objs.size+1) s H) jb (Z5 cs σ) (upd H s.heap.objs.size (.lst [])) { s with heap:=h₁,toks:=tk }:=by
 have lt:∀b o,s.heap.get? b=some o->b<s.heap.objs.size:=λb o e=>C4 e;have neC:∀b o,s.heap.get? b=some o->b≠s.heap.objs.size+1:=λb o e=>D3 (U3 (lt b o e));have neD:∀b o,s.heap.get? b=some o->b≠s.heap.objs.size:=λb o e=>D3 (lt b o e);have nstk:∀b,b≠X.env.locals->b∉X.fs->b∉frs X.stack:=λb h1 h2 hb=>(D0.mp (I.stkSub b hb)).elim h1 h2
 have cellO:∀x c,cl.lookup x=some c->∃v o,s.heap.get? c=some o/\s.heap.IsCell c v:=λx c e=>by
  obtain⟨v,q⟩:=I.cell x c (S.sub x c e);obtain⟨o,h1,_⟩:=id q;exact⟨v,o,h1,q⟩
 refine⟨⟨I.ok.mod,S.kind,I.ok.glob,I.ok.blt,o8 _,λx y c h1 h2=>I.ok.inj x y c (S.sub x c h1) (S.sub y c h2),λx hx=>S.has x hx,λx c hx=>(by cases hx),I.ok.hd,I.ok.frames,.inl rfl,λb hb=>?_,I.bs,J9 I.ok.bsz I.sz,λb o e hb=>?_,λb hb=>?_,I.stack,I.stkFree,I.nos⟩,
  rfl,I.bare,Un.laid old (C7 _) I.fresh I.bigS,⟨_,hns,λi x v e1 e2 e3=>?_⟩,λx c e=>?_,?_,λx c e=>?_,λp hp=>?_,I.hok.laid old (C7 _) ⟨K1 _,[],0,.nil,hD⟩,?_⟩
 ·obtain⟨o,e⟩:=ho b hb;exact⟨neC b o e,λx c ec=>(f2 b hb).2.2.2.2.1 x c (S.sub x c ec)⟩
 ·rcases(f2 b hb).2.2.2.1 with z|z
  ·exact I.ok.noex b o e z
  ·exact absurd (K3 (C4 e) (J9 I.ok.bsz z)) (W4 _)
 ·exact nstk b (f2 b hb).2.1 (f2 b hb).2.2.1
 ·have e2':(cs.map λo=>o.bind λj=>(σ[j]?).bind id)[i]?=some (some v):=e2;rw[G9] at e2';cases ec:cs[i]? with
  |none=>rw[ec] at e2';cases e2'
  | some o =>
   rw[ec] at e2';cases o with
   |none=>cases e2'
   | some j =>
    have e2'':(σ[j]?).bind id=some v:=by simpa using e2'
    cases es:σ[j]? with
    |none=>rw[es] at e2'';cases e2''
    | some ov =>
     rw[es] at e2'';have e4:ov=some v:=by simpa using e2''
     subst e4;obtain⟨hN,hv,hnl,⟨c,hc⟩,hk⟩:=S.cap i j x ec e1;obtain⟨m,hn,hl⟩:=I.loc;obtain⟨u,r,l⟩:=hl j x v hN es hv;refine⟨u,r,?_⟩;rcases l with⟨hk',_⟩|⟨_,c',hc',z⟩
     ·grind
     ·have ecc:c'=c:=by
       have:=S.sub x c hc;rw[hc'] at this;exact M9 this
      subst ecc;obtain⟨o,h1,h2⟩:=z;exact .inr ⟨hk,c',hc,⟨o,old _ o h1,h2⟩⟩
 ·obtain⟨v,o,h1,o',h2,h3⟩:=cellO x c e;exact⟨v,o',old _ o' h2,h3⟩
 ·show upd H s.heap.objs.size (.lst []) (s.heap.objs.size+1)=none;rw[C3 (Nat.succ_ne_self _)];exact I.hok.fresh (o8 _)
 ·obtain⟨v,o,h1,_⟩:=cellO x c e;rw[C3 (neD c o h1)];exact I.freeC x c (S.sub x c e)
 ·obtain⟨e,n,ne,nf,d⟩:=I.pin p hp;exact⟨old _ _ e,by rw[C3 (neD _ _ e)];exact n,neC _ _ e,nstk _ ne nf,d⟩
 ·show(cs.map _).length=N.length;rw[B4];exact S.len
theorem Inv.uncomp
   (I:Inv X jb σ H s) (f2:∀b∈fp,FpOk X jb H b)
   (J:Inv (E4 X scope cl N fp (s.heap.objs.size+1) s H) jb σ' H' s') (hs:∀b,b≠s.heap.objs.size+1->h'.get? b=s'.heap.get? b) :
   Inv X jb σ H' { s' with heap:=h' }:=by
 obtain⟨hh,g,d,t,os'⟩:=s';obtain rfl:os'=s.os:=J.os;have U:Un (frs X.stack) fp H H' s.heap hh:=J.base;have old:∀b o,s.heap.get? b=some o->b≠s.heap.objs.size+1:=λb o e=>D3 (U3 (C4 e));have hs':∀b,b≠s.heap.objs.size+1->h'.get? b=hh.get? b:=hs
 have trC:∀b u,H' b=some u->b≠s.heap.objs.size+1:=λb u e z=>by
  have q:H' (s.heap.objs.size+1)=none:=J.free;rw[z,q] at e;cases e
 show Inv X jb σ H' { s with heap:=h',gens:=g,drawn:=d,toks:=t };refine I.call (h':=h') (g':=g) (d':=d) (t':=t) (ch:=fp) ⟨λb o e n hb hx=>?_,λb o e n hb hx=>?_,U.free,λb o e hx=>?_,U.tups,U.frzs,U.tbls,U.sys⟩ (λb u e=>?_) J.bare λb hb=>?_
 ·rw[hs' b (old b o e)];exact U.keep b o e n hb hx
 ·rw[hs' b (old b o e)];exact U.slot b o e n hb hx
 ·rw[hs' b (old b o e)];exact U.there b o e hx
 ·refine(J.hok b u e).stay (λc v hc q=>?_) (λ_ q=>q) λ_ _ q=>q
  have ne:c≠s.heap.objs.size+1:=by
   rcases hc with z|z
   ·rw[z];exact trC b u e
   ·exact trC c _ z
  rw[hs' c ne];exact q
 ·exact⟨(f2 b hb).2.2.2.1,(f2 b hb).2.1,(f2 b hb).2.2.2.2.1,(f2 b hb).2.2.2.2.2⟩
theorem Hg {K:A9}{W:Nat->Nat->St->Hp->Prop}{s5 s7:A5}(T:Turn P w K tg J fp it tn)(st5:tn (i+1) s5.heap)(I7:Inv Y (jb++AN fp s5.heap) σ7 H7 s7)(n7:∃m',m'<n/\W (i+1) m' σ7 H7):∃m,m<n/\∃i σ' H',Inv Y jb σ' H' s7/\tn i s7.heap/\(∀b∈fp,H' b=none)/\W i m σ' H':=by
 obtain⟨m',hm,w7⟩:=n7;have pn:∀b∈fp,∀o,s5.heap.get? b=some o->_:=λb hb o e=>I7.pin (b,o) (M2 _ (M2 _ (Dl hb e)));refine⟨m',hm,i+1,σ7,H7,I7.unpinned,T.keep _ _ _ st5 λb hb o e=>(pn b hb o e).1,λb hb=>?_,w7⟩;obtain⟨o,e,d⟩:=T.obj _ _ st5 b hb;exact(pn b hb o e).2.1
theorem Hh {Y:Cx}{jb:List (A0×Obj)}{tg ji:Expr}{jk:List Expr}{g:TG}{tt:TT}{te:TE}{J:It}{fp:List A0}{it D:A0}{tn:Nat->B6->Prop}{W:Nat->Nat->St->Hp->Prop}{N:St->Hp->Prop}{Rn:A5->Prop}(T:Turn Y.prog Y.w Y.K tg J fp it tn)(hc:Y.calm=true)(stat:∀{H':Hp},(∀b∈fp,H' b=none)->∀b∈fp,FpOk Y jb H' b)(hg:PG Y tg g)(hf:PIf Y jk tt)(he:PE Y ji te)(fin:∀s σ H,Inv Y jb σ H s->N σ H->Rn s)
   (turn:∀i m σ' H',W i m σ' H'->(J.stop i H'/\N σ' H')\/(J.go i H'/\∀x H2,J.yld i H' x H2->g x σ' H2 λσ3 H3=>tt σ3 H3 λb H4=>
    if b=true then te σ3 H4 λv H5=>∃ys,H5 D=some (.lst ys)/\ys.length<C8/\∃m',m'<m/\W (i+1) m' σ3 (upd H5 D (.lst (ys++[v])))
    else ∃m',m'<m/\W (i+1) m' σ3 H4)) (n:Nat) (s:A5) (hI:∃i σ' H',Inv Y jb σ' H' s/\tn i s.heap/\(∀b∈fp,H' b=none)/\W i n σ' H') :
   A6 (A7 Y.prog Y.w) Y.A (pyNext (.ref it)) (λr s₁=>match r with
    |none=>Rn s₁
    |some v=>A6 (A7 Y.prog Y.w) Y.A (l8 tg (.ref it) v) (λ_ s₁'=>A6 (A7 Y.prog Y.w) Y.A (assign tg Y.env v) (λ_ s₂=>
        A6 (A7 Y.prog Y.w) Y.A (forIn jk true fun c r=>if r=true then do let ok ← isTrue c Y.env (eval c Y.env);pure (i8 ok) else pure (i8 r)) (fun ok s₃=>
         if ok=true then A6 (A7 Y.prog Y.w) Y.A (eval ji Y.env) (λx s₄=>
          A6 (A7 Y.prog Y.w) Y.A (call (.builtin "list.append") [.ref D,x]) (λ_ s₅=>∃m,m<n/\∃i σ' H',Inv Y jb σ' H' s₅/\tn i s₅.heap/\(∀b∈fp,H' b=none)/\W i m σ' H') Y.xe s₄) Y.xe s₃
         else ∃m,m<n/\∃i σ' H',Inv Y jb σ' H' s₃/\tn i s₃.heap/\(∀b∈fp,H' b=none)/\W i m σ' H') Y.xe s₂) Y.xe s₁') Y.xe s₁) Y.xe s:=by
 obtain⟨i,σ3,H3,I3,st3,fr3,w3⟩:=hI;rcases turn i n σ3 H3 w3 with⟨stop,qn⟩|⟨go,step⟩
 ·refine thn (T.done Y rfl rfl rfl hc i jb s σ3 H3 Y.xe I3 (stat fr3) st3 stop) λr s4 ⟨hr,I4⟩=>?_;subst hr;exact fin s4 σ3 H3 I4 qn
 ·refine thn (T.item Y rfl rfl rfl hc i jb s σ3 H3 Y.xe I3 (stat fr3) st3 go) λr s4 ⟨u,hr,h4⟩=>?_;subst hr;refine thn h4 λ_ s5 ⟨x,H5,I5,r5,y5,st5,fr5⟩=>?_;refine thn (hg _ s5 σ3 H5 x u _ (I5.pinned (stat fr5) (T.obj _ _ st5)) r5 (step x H5 y5)) λ_ s6 ⟨σ6,H6,I6,q6⟩=>?_;refine thn (hf _ s6 σ6 H6 _ I6 q6) λok s7 ⟨H7,I7,q7⟩=>?_;cases ok with
  |false=>exact Hg T st5 I7 q7
  | true =>
   refine thn (he _ s7 σ6 H7 _ I7 q7) λy s8 ⟨v8,H8,I8,r8,ys,e8,z8,n8⟩=>?_;have ma:=JQ (X:=Y) _ s8 σ6 H8 (.ref D) [v8] (.ref D) [y] (λv H9=>∃m',m'<n/\W (i+1) m' σ6 H9) I8 rfl (.cons r8 .nil) ⟨_,ys,v8,rfl,rfl,e8,z8,n8⟩;exact thn ma λ_ s9 ⟨v9,H9,I9,_,q9⟩=>Hg T st5 I9 q9
theorem Hi {X:Cx}{scope:G0}{cl:List (Str×A0)}{N:List Str}{cs:List (Option Nat)}{ji tg iter:Expr}{jk:List Expr}{gs:List Comprehension}{pos p0:Pos}{wi:TI}{use:Option (A1->Sem Unit)}{Qf:A1->A5->Prop}{QQ:It->A0->St->Hp->Prop}(S:W6 X scope cl N cs)(hc:X.calm=true)(hi:PI X tg iter wi)
   (hs:∀x,Q9 iter X.env x=pure x) {jb:List (A0×Obj)} {s:A5} {σ:St} {H:Hp} (I:Inv X jb σ H s) (h:wi σ H λJ H1=>∀D,H1 D=none->QQ J D (Z5 cs σ) (upd H1 D (.lst [])))
   (loop:∀(fp:List A0) (it:A0) (tn:Nat->B6->Prop) (J:It) (s2:A5) (H2:Hp) (s₃:A5),Turn X.prog X.w X.K tg J fp it tn->(∀{H':Hp},(∀b∈fp,H' b=none)->∀b∈fp,FpOk (E4 X scope cl N fp (s2.heap.objs.size+1) s2 H2) jb H' b)->Inv X jb σ H2 s2->(∀b∈fp,FpOk X jb H2 b)->QQ J s2.heap.objs.size (Z5 cs σ) (upd H2 s2.heap.objs.size (.lst []))->
     Inv (E4 X scope cl N fp (s2.heap.objs.size+1) s2 H2) jb (Z5 cs σ) (upd H2 s2.heap.objs.size (.lst [])) s₃->tn 0 s₃.heap->(∀b∈fp,upd H2 s2.heap.objs.size (.lst []) b=none)->
     M5 (A7 X.prog X.w) X.A (.compLoop (.ListComp ji (⟨tg,iter,jk,0⟩::gs) scope pos) 0 (.ref it) (.ref s2.heap.objs.size) (compEnvC scope cl (s2.heap.objs.size+1) X.env)) (compPost (A7 X.prog X.w) X.A X.xe use Qf (.ref s2.heap.objs.size) (s2.heap.objs.size+1)) s₃) :
   A6 (A7 X.prog X.w) X.A (comprehension (.ListComp ji (⟨tg,iter,jk,0⟩::gs) scope pos) scope X.env p0 (newList []) false (eval iter X.env) use) Qf X.xe s:=by
 refine wpAny_comprehension_free rfl hs S.clos S.kind S.names (thn (hi jb s σ H _ I h) λv s1 h1=>thn h1 λitv s2 h2=>?_);obtain⟨it,fp,tn,J,H2,rfl,I2,T,st2,f2,q⟩:=h2
 have ho:∀b∈fp,∃o,s2.heap.get? b=some o:=λb hb=>by
  obtain⟨o,e,_⟩:=T.obj 0 _ st2 b hb;exact⟨o,e⟩
 refine Q1 (wpAny_newFunctionEnv S.nocell (by intro y hy;simp at hy) (λh₁ hns₁ hsb₁=>?_) S.kind);dsimp only at hns₁ hsb₁ ⊢;have hC:(s2.heap.push { cls:=.type "list",dict:=none,data:=.seq ([]:List A1).toArray }).objs.size=s2.heap.objs.size+1:=by rw[Y2]
 generalize hH2:s2.heap.push { cls:=.type "list",dict:=none,data:=.seq ([]:List A1).toArray }=hp2 at hns₁ hsb₁ hC ⊢;have lt:∀{b o},s2.heap.get? b=some o->b<s2.heap.objs.size+1:=λe=>U3 (C4 e);have old:∀b o,s2.heap.get? b=some o->h₁.get? b=some o:=λb o e=>hsb₁.extBut b o (by rw[hC];exact D3 (lt e)) (C2 _ (hH2▸C2 _ e));have hD:h₁.get? s2.heap.objs.size=some { cls:=.type "list",data:=.seq ([]:List A1).toArray }:=hsb₁.extBut _ _ (by rw[hC];exact D3 (Ey _)) (C2 _ (hH2▸E9 _ rfl));rw[hC] at hns₁ ⊢;have st1:tn 0 h₁:=T.keep _ _ _ st2 λb hb o e=>old b o e
 have L:=loop fp it tn J s2 H2 _ T (λhn b hb=>by
  obtain⟨o,e⟩:=ho b hb
  exact⟨hn b hb,D3 (lt e),λz=>(D0.mp (I2.stkSub b z)).elim (f2 b hb).2.1 (f2 b hb).2.2.1,.inl hb,λx c ec=>(f2 b hb).2.2.2.2.1 x c (S.sub x c ec),(f2 b hb).2.2.2.2.2⟩) I2 f2 (q _ I2.fresh) (Pd S (tk:=s2.toks+([]:List (Str×A1)).length) I2 f2 ho old hns₁ hD) st1 λb hb=>by
  obtain⟨o,e⟩:=ho b hb;rw[C3 (D3 (C4 e))];exact(f2 b hb).1
 exact codeAny_compStart_list L (T.self _ 0 _ _ _ st1 L)
theorem JV {X:Cx}{scope:G0}{cl:List (Str×A0)}{N:List Str}{jb:List (A0×Obj)}{σ σ3:St}{H2 H3:Hp}{s2 s4:A5}{fp:List A0}{Q:VK}(I2:Inv X jb σ H2 s2)(f2:∀b∈fp,FpOk X jb H2 b)(I4:Inv (E4 X scope cl N fp (s2.heap.objs.size+1) s2 H2) jb σ3 H3 s4)(qn:Q (.ref s2.heap.objs.size) H3) :
   compPost (A7 X.prog X.w) X.A X.xe none (EP X jb σ Q) (.ref s2.heap.objs.size) (s2.heap.objs.size+1) (.ok .next) s4:=by
 obtain⟨m4,hn4,_⟩:=I4.loc;exact⟨m4,hn4,λh' hs'=>⟨.ref s2.heap.objs.size,H3,Inv.uncomp I2 f2 I4 λb hb=>hs'.2 b hb,rfl,qn⟩⟩
theorem JW {X:Cx}{scope:G0}{cl:List (Str×A0)}{N:List Str}{cs:List (Option Nat)}{ji tg iter:Expr}{jk:List Expr}{pos:Pos}{wi:TI}{g:TG}{tt:TT}{te:TE}(S:W6 X scope cl N cs)(hc:X.calm=true)(hi:PI X tg iter wi)
   (hb:∀(fp:List A0) (C:A0) (s:A5) (H:Hp),PG (E4 X scope cl N fp C s H) tg g/\PIf (E4 X scope cl N fp C s H) jk tt/\PE (E4 X scope cl N fp C s H) ji te)
   (hs:∀x,Q9 iter X.env x=pure x:=by intro _;rfl) :
   PE X (.ListComp ji [⟨tg,iter,jk,0⟩] scope pos) (tComp cs wi g tt te):=by
 intro jb s σ H Q I h;rw[eval_ListComp];refine Hi S hc hi hs I h λfp it tn J s2 H2 s₃ T stat I2 f2 q Ic st1 fr1=>?_;obtain⟨W,⟨m0,w0⟩,turn⟩:=q;obtain⟨hg,hf,he⟩:=hb fp (s2.heap.objs.size+1) s2 H2;exact JT _ (Hh (Y:=E4 X scope cl N fp (s2.heap.objs.size+1) s2 H2) T hc stat hg hf he (λs4 σ3 H3 I4 qn=>JV I2 f2 I4 qn) turn) m0 ⟨0,_,_,Ic,st1,fr1,w0⟩
end L2
end
section
namespace L2
open PySem PySem.Spec PyProof.Rows
section
variable {X:Cx}
theorem Vals.getE (r:Vals xs us)(h:j<us.length):∃x,xs[j]?=some x/\RelV x us[j]:=by
 have hl:=r.length;have h':j<xs.length:=by omega
 obtain⟨u,e,q⟩:=r.get (i:=j) (x:=xs[j]) (by simp[h']);refine⟨xs[j],by simp[h'],?_⟩;have e':us[j]?=some us[j]:=by simp[h]
 rw[e'] at e;cases e;exact q
theorem JX (h:T3 x=true):eqV x x=true:=by
 cases x <;> simp_all [T3,eqV]
theorem Pe:N0 X (.builtin "isinstance") (λvs H Q=>∃x n t b,vs=[x,.ty n]/\TyOf X.K H x t/\CN X.K t (.type n)=some b/\Q (.bl b) H):=by
 intro jb s σ H vs us Q I rv h;obtain⟨x,n,t,b,rfl,ty,e,q⟩:=h;obtain⟨u,v,rfl,r1,r2⟩:=rv.two;cases r2;exact OA I r1 ty e λtk=>⟨.bl b,H,I.tok tk,rfl,q⟩
theorem JY:∀{bs:List Bool} {us:List A1} {j:Nat} {u:A1},Vals (bs.map V.bl) us->us[j]?=some u->∃b,bs[j]?=some b/\u=Value.bool b:=by
 intro bs us j u r e
 have hj:j<us.length:=by
  obtain⟨h,_⟩:=G4.mp e;exact h
 obtain⟨x,e1,q1⟩:=r.getE hj;rw[G9] at e1;cases eb:bs[j]? with
 |none=>rw[eb] at e1;cases e1
 | some b =>
  rw[eb] at e1;cases e1;have e2:us[j]?=some us[j]:=by simp[hj]
  rw[e2] at e;cases e;exact⟨b,rfl,q1⟩
theorem Pf (bs:List Bool):((F6 bs.length).all λi=>(bs[i]?).getD true)=bs.all id:=by
 rw[i6,J4,J4];constructor
 ·intro h b hb;obtain⟨i,hi,rfl⟩:=C_ hb;have:=h i (M7.mpr hi)
  simpa[D8 hi] using this
 ·intro h i hi;have hi':=M7.mp hi;simp only[D8 hi',Dg];exact h _ (BC hi')
theorem Pg (bs:List Bool):((F6 bs.length).any λi=>(bs[i]?).getD false)=bs.any id:=by
 rw[i6,Y9,Y9];constructor
 ·rintro⟨i,hi,e⟩;have hi':=M7.mp hi;simp only[D8 hi',Dg] at e;exact⟨_,BC hi',e⟩
 ·rintro⟨b,hb,e⟩;obtain⟨i,hi,rfl⟩:=C_ hb;exact⟨i,M7.mpr hi,by simp only[D8 hi,Dg];exact e⟩
theorem JZ {s:A5}{h':B6}{o:Obj}(hk:∀b x,b∉[s.heap.objs.size]->(s.heap.push o).get? b=some x->h'.get? b=some x):∀b x,s.heap.get? b=some x->h'.get? b=some x:=
 λb x e=>hk b x (λhm=>by rw[E1.mp hm] at e;exact W4 _ (C4 e)) (C2 _ e)
def rAll (K:A9):List V->Hp->VK->Prop:=λvs H Q=>∃(p:A0) (bs:List Bool),vs=[.ref p]/\SqL K H p (bs.map V.bl)/\Q (.bl (bs.all id)) H
def rAny (K:A9):List V->Hp->VK->Prop:=λvs H Q=>∃(p:A0) (bs:List Bool),vs=[.ref p]/\SqL K H p (bs.map V.bl)/\Q (.bl (bs.any id)) H
theorem Ph (hc:X.calm=true):N0 X (.builtin "all") (rAll X.K):=by
 intro jb s σ H vs us Q I rv h;obtain⟨p,bs,rfl,hq,q⟩:=h;obtain⟨u,rfl,r1⟩:=rv.one;cases r1;obtain⟨jf,r,pl,hz⟩:=I.list hq;have hl:=pl.isList;have hlt:p<s.heap.objs.size:=by obtain⟨_,e,_⟩:=hl;exact C4 e
 have len:jf.toArray.size=bs.length:=by simpa using r.length.symm
 refine call_all_walk (Bt hl ?_)
 refine⟨s.heap.objs.size,[s.heap.objs.size,p],[s.heap.objs.size],jf.toArray.size,_,_,λi=>(bs[i]?).getD true,rfl,Walks.list (A:=X.A.in1) (I.ok.hd hc) _ p (D3 hlt) jf.toArray,
  ⟨⟨_,E9 _ rfl,rfl,rfl⟩,hl.push _⟩,λi v s' Q' E' hP hQ=>?_,λh' tk hk=>?_⟩
 ·obtain⟨b,e,rfl⟩:=JY r (j:=i) (u:=v) (by grind);simp only[e,Dg] at hQ;exact X9 hQ
 ·rw[len,Pf];exact⟨.bl _,H,I.kept (JZ hk),rfl,q⟩
theorem Pi (hc:X.calm=true):N0 X (.builtin "any") (rAny X.K):=by
 intro jb s σ H vs us Q I rv h;obtain⟨p,bs,rfl,hq,q⟩:=h;obtain⟨u,rfl,r1⟩:=rv.one;cases r1;obtain⟨jf,r,pl,hz⟩:=I.list hq;have hl:=pl.isList;have hlt:p<s.heap.objs.size:=by obtain⟨_,e,_⟩:=hl;exact C4 e
 have len:jf.toArray.size=bs.length:=by simpa using r.length.symm
 refine call_any_walk (Bt hl ?_)
 refine⟨s.heap.objs.size,[s.heap.objs.size,p],[s.heap.objs.size],jf.toArray.size,_,_,λi=>(bs[i]?).getD false,rfl,Walks.list (A:=X.A.in1) (I.ok.hd hc) _ p (D3 hlt) jf.toArray,
  ⟨⟨_,E9 _ rfl,rfl,rfl⟩,hl.push _⟩,λi v s' Q' E' hP hQ=>?_,λh' tk hk=>?_⟩
 ·obtain⟨b,e,rfl⟩:=JY r (j:=i) (u:=v) (by simpa using hP);simp only[e,Dg] at hQ;exact X9 hQ
 ·rw[len,Pg];exact⟨.bl _,H,I.kept (JZ hk),rfl,q⟩
theorem Inv.turnedNew {ch:List A0}(I:Inv X jb σ H s)(k:∀b o,b∉ch->s.heap.get? b=some o->h'.get? b=some o)
   (hf:∀b∈ch,FpOk X jb H b) (new:J0 X.prog X.w (upd H s.heap.objs.size (.tup xs)) h' s.heap.objs.size (.tup xs)):Inv X jb σ (upd H s.heap.objs.size (.tup xs)) { s with heap:=h',toks:=t' }:=by
 have nch:∀b u,H b=some u->b∉ch:=λb u e z=>by rw[(hf b z).1] at e;cases e
 have nD:∀b o,s.heap.get? b=some o->b≠s.heap.objs.size:=λb o e=>D3 (C4 e)
 refine I.step (g':=s.gens) (d':=s.drawn) (ch:=ch) (λb hb=>⟨(hf b hb).2.2.2.1,(hf b hb).2.1,(hf b hb).2.2.2.2.1,(hf b hb).2.2.2.2.2⟩) (λb o _ _ hc e _=>k b o hc e) (λb o _ _ hc e _=>⟨o.slots,k b o hc e⟩) (λb o _ e n=>by rw[C3 (nD b o e)];exact n)
   (λb o hc e=>⟨o,k b o hc e⟩) (λb ys e=>by rw[C3 (Z2 e I.fresh)];exact e) (λb o u e=>by rw[C3 (Z2 e I.fresh)];exact e) (λb ps e=>⟨#[],by rw[C3 (Z2 e I.fresh),e];simp⟩) (λz=>by unfold NS;rw[C3 (D3 I.bigS)];exact z) (λm hm=>?_) (λb u e=>?_) I.bare
 ·obtain⟨o,es,ep,ho,r⟩:=hm;exact⟨o,es,ep,k _ o (λz=>(hf _ z).2.1 rfl) ho,r⟩
 ·by_cases hb:b=s.heap.objs.size
  ·subst hb;rw[E8] at e;cases e;exact new
  ·rw[C3 hb] at e;refine(I.hok b u e).stay (λc v hc q=>k c v ?_ q) (λc q=>by rw[C3 (Z2 q I.fresh)];exact q) λc ys q=>by rw[C3 (Z2 q I.fresh)];exact q
   rcases hc with z|z
   ·rw[z];exact nch b u e
   ·exact nch c _ z
end
end L2
end
section
namespace L2
open PySem PySem.Spec PyProof.Rows
theorem Hj:O2 "len"=some (.builtin "len"):=by decide +kernel
theorem bt_abs:O2 "abs"=some (.builtin "abs"):=by decide +kernel
theorem bt_all:O2 "all"=some (.builtin "all"):=by decide +kernel
theorem bt_any:O2 "any"=some (.builtin "any"):=by decide +kernel
theorem Pj:O2 "isinstance"=some (.builtin "isinstance"):=by decide +kernel
theorem Hk:O2 "sorted"=some (.builtin "sorted"):=by decide +kernel
theorem bt_int:O2 "int"=some (.type "int"):=by decide +kernel
theorem Hl:O2 "str"=some (.type "str"):=by decide +kernel
theorem Pk:O2 "list"=some (.type "list"):=by decide +kernel
theorem Hm:O2 "tuple"=some (.type "tuple"):=by decide +kernel
theorem J_:O2 "set"=some (.type "set"):=by decide +kernel
theorem Ka (p:V->Prop)(h:(∀v,p v->R v H)->tIf tA ta tb σ H R)(hp:∀v,p v->R v H):tIf tA ta tb σ H R:=h hp
theorem at_map {ns:List Int}(h0:0<=k)(h:k<(ns.length:Int)):∃v,atI (ns.map V.int) k=some (.int v):=by
 have hk:k.toNat<ns.length:=by omega
 have q:atI (ns.map V.int) ((k.toNat:Nat):Int)=some (.int ns[k.toNat]):=Fe (by rw[G9,D8 hk] <;> rfl)
 rw[show((k.toNat:Nat):Int)=k by omega] at q;exact⟨_,q⟩
theorem kit_of {K:A9}(h:(if(K4 T == K4 S)=true then some true else if PySem.W.kitMeta S=true then(fastBuiltinMro T).map (·.contains (.type S)) else none)=some b):CN K (.type T) (.type S)=some b:=h
structure Kn (P:D1)(w:C9)(K:A9)(mg:Str->Option A1)(base:B6)(x:Str)(k:Nat)(ps:List Str)(sp:Sp):Prop where
 ex:∃(f:A0) (fd:FuncData),FnOk P w K mg base CX0 k f fd ps sp/\BZ K fd ps []/\CP K (.ref f)=true/\mg x=some (.ref f)/\∃oc od osl,K.lookup f=some ⟨oc,od,.func fd,osl⟩
structure Fn0 (K:A9)(mg:Str->Option A1)(x:Str)(st:Stmt):Prop where
 ex:∃(f:A0) (fd:FuncData),Fun K x x st f fd/\mg x=some (.ref f)
theorem fn0_mk {K:A9}{st:Stmt}(X:K.In h)(G:h.Ns T7 mg){kV doc pm jo ct:A1}
   (a:PySem.W.nsIn K T7 x=some (some (.ref f))) (l:K.lookup f=some ⟨oc,od,.func (W1 x x (U5 st) (N8 st) (F7 st) .none kV doc pm an jo ct),osl⟩)
   (c:Eo K jo x=true) (k:CP K (.ref f)=true):Fn0 K mg x st:=⟨f,_,fun_mk l c k,PySem.W.mg_of X G a⟩
section
variable {P:D1}{w:C9}{K:A9}{mg:Str->Option A1}{base:B6}
theorem Fn0.ok {st:Stmt}{N ps:List Str}{k:Nat}{sp:Sp}(F:Fn0 K mg x st)(S:U4 N ps (F7 st))(len:∀vs H Q E,sp vs H Q E->vs.length=ps.length)
   (bd:∀(kV doc pm:A1) (an:Option A0) (jo ct:A1) (us:List A1),us.length=ps.length->Y0 (W1 x x (U5 st) (N8 st) (F7 st) .none kV doc pm an jo ct) ⟨us,[]⟩=pure (ps.zip us))
   (hbody:∀(f:A0) (jo:A1) (A:D5) (outer:List Env) (s:A5) (H:Hp) (vs:List V) (Q:VK) (E:XK),Room k (A.deeper (envOfC x (F7 st) s.heap.objs.size f jo))->sp vs H Q E->
     ∃t,PSs (cxOf CX0 P w K mg base N x (F7 st) f jo A outer s H E).nox (N8 st) t/\t { nx:=λ_ H'=>Q .non H',rt:=Q } (start N vs) H):Kn P w K mg base x (k+1) ps sp:=by
 obtain⟨f,fd,F1,m⟩:=F.ex
 have lk:∃oc od osl,K.lookup f=some ⟨oc,od,.func fd,osl⟩:=by
  obtain⟨oc,od,kV,doc,pm,an,jo,ct,osl,_,lk,hcd⟩:=F1.ex;exact⟨oc,od,osl,lk⟩
 exact⟨f,fd,F1.ok S len λjo A outer s H vs Q E hr h=>hbody f jo A outer s H vs Q E hr h,F1.binds bd,F1.kp,m,lk⟩
theorem Kn.imp {x:Str}{k:Nat}{ps:List Str}{sp sp':Sp}(G:Kn P w K mg base x k ps sp)(h:∀vs H Q E,sp' vs H Q E->sp vs H Q E):Kn P w K mg base x k ps sp':=by
 obtain⟨f,fd,a,b,c,d⟩:=G.ex;exact⟨f,fd,a.imp h,b,c,d⟩
end
section
variable {X:Cx}{x:Str}{p pos:Pos}{e:Expr}{es:List Expr}{t:TA}{ps:List Str}{sp:Sp}{j k:Nat}
theorem pe_fn (G:Kn X.prog X.w X.K X.mg X.base x k ps sp)(hr:Room j X.A)(hk:k<=j)(hg:Gl X x)(ha:PA X (e::es) t)(hdb:(x == ("__debug__":Str))=false:=by decide)
   (he:F5 (e::es) X.env=(false,eval e X.env)::F5 es X.env:=by rfl) (hpl:(backTo pos (F5 es X.env)).any (·.1)=false:=by rfl) :
   PE X (.Call (.Name x p) (e::es) [] pos) (tCall sp [] E0 t):=by
 intro jb s σ H Q I h;obtain⟨f,fd,F,hb,hkp,hm,_⟩:=G.ex;exact OB F (hr.mono hk) hg hm hkp hb .nil pass0 ha hdb he hpl jb s σ H Q I h
end
end L2
end
section
namespace L2
open PySem PySem.Spec PyProof.Rows
section
variable {X:Cx}
theorem Pl:OpR X (T8 .Mult) (λx y H Q=>∃i n,x=.str i/\y=.int n/\i.length<=100/\0<=n/\n<=1000/\Q (.str (p8 i n)) H):=by
 intro jb s σ H x y v u Q I rx ry h;obtain⟨i,n,rfl,rfl,h1,h2,h3,q⟩:=h;obtain⟨t,rfl⟩:=rx;obtain⟨t',rfl⟩:=ry;exact SB.mul (mulOk_of 100 1000 h1 h3 (by omega) (by decide) (by decide)) λt' tk=>⟨.str _,H,I.tok _,⟨_,rfl⟩,q⟩
theorem Pm:∀{ys:List Str} {us:List A1},Vals (ys.map V.str) us->StrsAre us ys:=by
 intro ys
 induction ys with
 | nil => intro us r; cases us with
  |nil=>exact .nil
  |cons a b=>cases r
 | cons y ys ih =>
  intro us r;cases us with
  |nil=>cases r
  | cons u us =>
   have r':Vals (V.str y::ys.map V.str) (u::us):=r;cases r' with
   | cons h t =>
    obtain⟨tk,rfl⟩:=h;exact .cons y tk (ih t)
theorem Pn:MtR X "str.join" (λx vs H Q=>∃(sep:Str) (l:A0) (ys:List Str),x=.str sep/\vs=[.ref l]/\SqL X.K H l (ys.map V.str)/\(ys.map (·.length)).sum+ys.length*sep.length<=16777216/\Q (.str (Txt.join sep ys)) H):=by
 intro jb s σ H x vs v us Q I rx rv h;obtain⟨sep,l,ys,rfl,rfl,hq,hz,q⟩:=h;obtain⟨t,rfl⟩:=rx;obtain⟨u,rfl,ru⟩:=rv.one;obtain rfl:u=L8 l:=ru;obtain⟨jf,r,pl,_⟩:=I.list hq;exact join_list pl.isList (by simpa using Pm r) hz λt' k=>⟨.str _,H,I.tok _,⟨_,rfl⟩,q⟩
theorem t9 (x y:Str):(x++y).cps.toList=x.cps.toList++y.cps.toList:=by
 show(x.cps++y.cps).toList=_;simp
theorem Po (l:List (Array Nat)):∀jm:Array Nat,(l.foldl (·++·) jm).toList=jm.toList++(l.map (·.toList)).flatten:=by induction l <;> grind
theorem Pp (x:Str)(n:Int):(p8 x n).cps.toList=(AF n.toNat x.cps.toList).flatten:=by
 unfold p8
 split
 ·rename_i h;rw[show n.toNat=0 by omega]
  rfl
 ·split
  ·rename_i h0 h;rw[EB] at h;rcases h with h|h
   ·simp_all
   ·have hz:x.cps.toList=[]:=by
     have:x.length=0:=by simpa using h
     have h2:x.cps.size=0:=this;exact Bz (by grind)
    rw[hz];simp
  ·show((AF n.toNat x.cps).foldl (·++·) #[]).toList=_;rw[Po];simp
theorem Kb:∀ys:List Str,(Txt.join (A8 "") ys).cps.toList=(ys.map (·.cps.toList)).flatten:=by
 have h:∀ys:List Str,(Str.join (A8 "") ys).cps.toList=(ys.map (·.cps.toList)).flatten:=by
  intro ys
  induction ys with
  |nil=>rfl
  | cons a r ih =>
   cases r with
   |nil=>simp[Str.join]
   | cons b r =>
    show((a++A8 "")++Str.join (A8 "") (b::r)).cps.toList=_;rw[t9,t9,ih];have z:(A8 "").cps.toList=[]:=by decide
    rw[z];simp
 intro ys;show(Builtin.Str.glued (A8 "") ys).cps.toList=_;rw[StrLaws.glued_eq_join];exact h ys
theorem Ca (x:Str):x.length=x.cps.toList.length:=by
 show x.cps.size=_;simp
end
section
variable {X:Cx}{pos:Pos}
def Hn (i j k:Nat)(ta:TA):TS:=λD σ H=>ta σ H λvs H1=>∃u v w,vs=[u,v,w]/\D.nx (((σ.set i (some u)).set j (some v)).set k (some w)) H1
theorem Pq (hc:X.calm=true)(hN:X.N.Nodup)(hi:X.N[i]?=some x)(hj:X.N[j]?=some y)(hk:X.N[k]?=some z)(hij:i≠j)(hik:i≠k)(hjk:j≠k)
   (hx:X.env.scope.names.lookup x=some .local) (hy:X.env.scope.names.lookup y=some .local) (hz:X.env.scope.names.lookup z=some .local) (ha:PA X [a,b,c] ta)
   (hw:Bw [.Tuple [.Name x px,.Name y py,.Name z pz] kt pt] (.Tuple [a,b,c] k2 pt2) X.env=pure (some [x,y,z]))
   (hs:Bv [.Tuple [.Name x px,.Name y py,.Name z pz] kt pt] (.Tuple [a,b,c] k2 pt2) pos.line X.env=pure false:=by rfl) :
   PS X (.Assign [.Tuple [.Name x px,.Name y py,.Name z pz] kt pt] (.Tuple [a,b,c] k2 pt2) pos) (Hn i j k ta):=by
 intro jb s σ H D I h;rw[exec_Assign_arm];refine A2 (R7 ?_);rw[hs];refine A2 (B2 ?_);rw[ju (by decide)];refine A2 (Tuple_ (thn (ha _ jb s σ H _ I h) λus s1 ⟨vs,H1,I1,r1,q1⟩=>?_));obtain⟨v,w,w2,e1,q1⟩:=q1;subst e1
 obtain⟨u1,u2,u3,rfl,rv,rw',rw2⟩:∃u1 u2 u3,us=[u1,u2,u3]/\RelV v u1/\RelV w u2/\RelV w2 u3:=by
  cases r1 with
  | cons p q =>
   cases q with
   | cons p' q' =>
    cases q' with
    | cons p2 q2 =>
     cases q2;exact⟨_,_,_,rfl,p,p',p2⟩
 refine Q1 ?_ (by show 3<=C8;decide);have I2:Inv X jb σ H1 { s1 with heap:=s1.heap.push { cls:=.type "tuple",data:=.seq [u1,u2,u3].toArray } }:=I1.kept (t':=s1.toks) λb o e=>C2 _ e;rw[hw];refine A2 (B2 ?_);show A6 (A7 X.prog X.w) X.A (do rule "assign.swapped-stores";let items ← unpackItems (.ref s1.heap.objs.size) 3 none;Au [λv=>d9 X.env z v,λv=>d9 X.env y v,λv=>d9 X.env x v] items.reverse;pure Flow.next) _ _ _;refine A2 (d7 (A2 (unpackItems_tuple (items:=#[u1,u2,u3]) (I.ok.hd hc) (IsTup.new s1.heap _) λh' hx'=>?_)));have I3:=I2.kept (h':=h') (t':=s1.toks) λb o e=>hx' b o (D3 (C4 e)) e;show A6 _ _ (Au [λv=>d9 X.env z v,λv=>d9 X.env y v,λv=>d9 X.env x v] [u3,u2,u1]>>=λ_=>pure Flow.next) _ _ _;refine A2 (x8 (CL (p9 I3 hN hk (.inl hz) rw2 (λs2 I4=>?_) (.inr hz))));refine x8 (CL (p9 I4 hN hj (.inl hy) rw' (λs3 I5=>?_) (.inr hy)));refine x8 (CL (p9 I5 hN hi (.inl hx) rv (λs4 I6=>EK (B2 ?_)) (.inr hx)));rw[x4 _ _ (Ne.symm hjk),x4 _ _ (Ne.symm hik),x4 _ _ (Ne.symm hij)] at I6;exact⟨_,H1,I6,q1⟩
end
theorem Same.lay {H H':Hp}{p:A0}{o:HO}(s:Same H H')(h:H' p=none):Same H (upd H' p o):=λb u e=>by
 rw[C3 (Z2 (s b u e) h)];exact s b u e
theorem Dq {n:Nat}{d:Int}(h0:0<=d)(h1:d<n):ixN n d=some d.toNat:=by grind [ixN]
theorem Kc {α:Type}{xs:List α}{d:Int}(h0:0<=d)(h1:d<xs.length):∃x,xs[d.toNat]?=some x/\atI xs d=some x:=by
 have hk:d.toNat<xs.length:=by omega
 refine⟨xs[d.toNat],D8 hk,?_⟩;unfold atI;rw[Dq h0 h1];simp
end L2
end
section
namespace L2
open PySem PySem.Spec PyProof.Rows
section
variable {X:Cx}
theorem Pr:OpR X (M1 .LtE) (λx y H Q=>∃i j,x=.str i/\y=.str j/\Q (.bl (!decide (j.cps.toList<i.cps.toList))) H):=by
 intro jb s σ H x y v u Q I rx ry h;obtain⟨i,j,rfl,rfl,q⟩:=h;obtain⟨t,rfl⟩:=rx;obtain⟨t',rfl⟩:=ry;exact PySem.P.le_str ⟨.bl _,H,I,rfl,q⟩
def rSlS:V->Option Int->Option Int->Hp->VK->Prop:=λx lo hi H Q=>∃z,x=.str z/\z.length<=C8/\Q (.str (Txt.slice z lo hi)) H
theorem sl_str:SlR X rSlS:=by
 intro jb s σ H x v vl vu lo hi sl Q I rx hs pl pu h;obtain⟨z,rfl,hz,q⟩:=h;obtain⟨t,rfl⟩:=rx;refine⟨"str",_,F.slot_str_getitem.lookup,typeIs_str _ _ _,?_⟩;cases pl with
 | none =>
  cases pu with
  |none=>exact Ef (l:=none) (u:=none) (st:=none) hs rfl (Em ⟨J9 (Txt.slice_le z _ _) hz,λt' k=>⟨.str _,H,I.tok _,⟨_,rfl⟩,q⟩⟩)
  |int j tj=>exact Ef (l:=none) (u:=some (j,tj)) (st:=none) hs rfl (Em ⟨J9 (Txt.slice_le z _ _) hz,λt' k=>⟨.str _,H,I.tok _,⟨_,rfl⟩,q⟩⟩)
 | int i ti =>
  cases pu with
  |none=>exact Ef (l:=some (i,ti)) (u:=none) (st:=none) hs rfl (Em ⟨J9 (Txt.slice_le z _ _) hz,λt' k=>⟨.str _,H,I.tok _,⟨_,rfl⟩,q⟩⟩)
  |int j tj=>exact Ef (l:=some (i,ti)) (u:=some (j,tj)) (st:=none) hs rfl (Em ⟨J9 (Txt.slice_le z _ _) hz,λt' k=>⟨.str _,H,I.tok _,⟨_,rfl⟩,q⟩⟩)
def Its (x:Str):It:=⟨λi _=>i<x.cps.toList.length,λi H v H'=>H'=H/\∃c,x.cps.toList[i]?=some c/\v=.str ⟨#[c]⟩,λi _=>x.cps.toList.length<=i⟩
theorem Ps {P:D1}{w:C9}{K:A9}{tg:Expr}(x:Str)(t:Tok)(it:A0):Turn P w K tg (Its x) [it] it (λi h=>h.IsStrIter it "str_ascii_iterator" x t i) where
 mem:=by simp
 obj:=λi h st b hb=>by
  have e:b=it:=by simpa using hb
  subst e;obtain⟨o,e,c,d⟩:=st;exact⟨o,e,λv z=>by rw[d] at z;cases z⟩
 keep:=λi h h' st k=>by
  obtain⟨o,e,c,d⟩:=st;exact⟨o,k it (by simp) o e,c,d⟩
 item:=by
  intro X hP hw hK hc i jb s σ H E I hf st hg;subst hP hw hK;have hg':i<x.cps.toList.length:=hg;have hx:x.cps[i]?=some x.cps.toList[i]:=by rw[<- Q3];exact D8 hg'
  obtain⟨f0,f1,f2,f3,f4,f5⟩:=hf it (by simp);refine wpAny_pyNext_ascii_item st hx λh' st' sb=>?_;have I1:Inv X jb σ H { s with heap:=h',toks:=s.toks+1 }:=I.turned (t':=s.toks+1) (λb o hb e=>(sb.2 b hb).trans e) f0 f1 f3 f4 f5;obtain⟨o,e,c,d⟩:=id st';exact⟨_,rfl,Fb (s:={ s with heap:=h',toks:=s.toks+1 }) e c d (by decide) ⟨.str ⟨#[x.cps.toList[i]]⟩,H,I1,⟨_,rfl⟩,⟨rfl,_,D8 hg',rfl⟩,st',λb hb=>(hf b hb).1⟩⟩
 done:=by
  intro X hP hw hK hc i jb s σ H E I hf st hg;subst hP hw hK;have hg':x.cps.toList.length<=i:=hg;have hx:x.cps[i]?=none:=by rw[<- Q3];exact Y6 hg'
  obtain⟨f0,f1,f2,f3,f4,f5⟩:=hf it (by simp);exact wpAny_pyNext_ascii_end (I.ok.hd hc) st hx λh' eb=>⟨rfl,I.turned (t':=s.toks) (λb o hb e=>eb b o hb e) f0 f1 f3 f4 f5⟩
 self:=λ_ _ _ _ _ st h=>wpAny_pyIter_striter_ascii st h
def iStr (te:TE):TI:=λσ H R=>te σ H λv H1=>∃x,v=.str x/\x.cps.all (· < 128)=true/\R (Its x) H1
theorem pi_str {tg l:Expr}{tl:TE}(hl:PE X l tl):PI X tg l (iStr tl):=by
 intro jb s σ H R I h;refine thn (hl jb s σ H _ I h) λv s1 ⟨x,H1,I1,r1,q1⟩=>?_;obtain⟨x,rfl,ha,q⟩:=q1;obtain⟨t,rfl⟩:=r1;refine wpAny_pyIter_ascii ha ?_;refine⟨s1.heap.objs.size,[s1.heap.objs.size],_,_,H1,rfl,I1.kept (t':=s1.toks) λb o e=>C2 _ e,Ps x t _,⟨_,E9 _ rfl,rfl,rfl⟩,λb hb=>?_,q⟩;have e:b=s1.heap.objs.size:=by simpa using hb
 subst e;exact I1.fpOk (C7 _) (I1.hok.fresh (C7 _))
def rCatA (K:A9):R2:=λx y H Q=>∃a b xs ys,x=.ref a/\y=.ref b/\SqT K H a xs/\SqT K H b ys/\xs.length+ys.length<=C8/\
 (xs=[]->Q (.ref b) H)/\(xs≠[]->ys=[]->Q (.ref a) H)/\(xs≠[]->ys≠[]->∀p,H p=none->Q (.ref p) (upd H p (.tup (xs++ys))))
theorem Pv:OpR X (T8 .Add) (rCatA X.K):=by
 intro jb s σ H x y v u Q I rx ry h;obtain⟨a,b,xs,ys,rfl,rfl,ha,hb,hz,q0,q1,q2⟩:=h
 by_cases hx:xs=[]
 ·cases rx;cases ry;obtain⟨jf,r1,p1,_⟩:=I.tuple ha;obtain⟨its2,r2,p2,_⟩:=I.tuple hb;obtain⟨⟨cls,dd,data,sl⟩,ho,hc,n,hd⟩:=id p1;obtain⟨⟨cls2,dd2,data2,sl2⟩,ho2,hc2,n2,hd2⟩:=id p2;simp only at hc hd hc2 hd2;subst hc hd hc2 hd2;have he:jf=[]:=r1.nil_iff.mpr hx
  exact concat_meets ⟨_,ho,rfl⟩ ⟨_,ho2,rfl⟩ noFill_tuple_add seq_tuple_add GN GM (GL _ _)
    (tuple_addW0 a b jf.toArray its2.toArray n n2 dd dd2 sl sl2 (by simp[he])) ⟨ho,ho2,⟨.ref b,H,I,rfl,q0 hx⟩⟩
 ·exact OL jb s σ H _ _ v u Q I rx ry ⟨a,b,xs,ys,rfl,rfl,ha,hb,hx,hz,q1 hx,q2 hx⟩
theorem Inv.big {jb:List (A0×Obj)}{σ:St}{H:Hp}{s:A5}(I:Inv X jb σ H s):O3<s.heap.objs.size:=by
 have h:T7<s.heap.objs.size:=(I.mod.glob.keeps I.bk).lt;exact BI (by decide) h
end
structure Num0 (mg:Str->Option A1)(x:Str)(i:Int):Prop where
 ex:∃t,mg x=some (.int i t)
theorem Pw {K:A9}{h:B6}{mg:Str->Option A1}{x:Str}{i:Int}{t:Tok}(X:K.In h)(G:h.Ns T7 mg)(a:PySem.W.nsIn K T7 x=some (some (.int i t))):Num0 mg x i:=⟨t,PySem.W.mg_of X G a⟩
theorem pe_num {X:Cx}{x:Str}{i:Int}{pos:Pos}(n:Num0 X.mg x i)(hg:Gl X x)(hd:(x == ("__debug__":Str))=false:=by decide):PE X (.Name x pos) (tC (.int i)):=λjb s σ H Q I h=>by
 obtain⟨t,e⟩:=n.ex;exact NZ (v:=.int i) hg e ⟨t,rfl⟩ hd jb s σ H Q I h
end L2
end
section
namespace Pu
open PySem PySem.Spec L2
inductive PV where
 |non|bl (b:Bool)|int (i:Int)|str (x:Str)|ty (n:String)|pot (k:Nat)
 |tup (xs:List PV)|lst (xs:List PV)|dct (ks:List Key) (xs:List PV)
 /-- the script -/
 |scr (ns:List Int)
 /-- a dict by tuples that nothing changes any more -/
 |fdt (ks:List (List Key)) (xs:List PV)
structure Gh where
 M:List A0
 pots:List A0
def KLst (K:A9)(a:A0)(xs:List V):Prop:=∃(o:Obj) (jf:Array A1) (n:Nat),K.lookup a=some o/\o.cls=.type "list"/\o.dict=none/\o.data=.seq jf n/\jf.size<=C8/\Vals xs jf.toList
def AtL (M:List A0)(H:Hp)(a:A0)(xs:List V):Prop:=a∉M/\H a=some (.lst xs)
def AtT (M:List A0)(H:Hp)(a:A0)(xs:List V):Prop:=a∉M/\H a=some (.tup xs)
theorem AtL.sq {K:A9}{M:List A0}{H:Hp}{a:A0}{xs:List V}(h:AtL M H a xs):SqL K H a xs:=SqL.of h.2
theorem AtT.sq {K:A9}{M:List A0}{H:Hp}{a:A0}{xs:List V}(h:AtT M H a xs):SqT K H a xs:=SqT.of h.2
mutual
def Rep (K:A9)(G:Gh)(H:Hp):PV->V->Prop
 |.non,v=>v=.non
 |.bl b,v=>v=.bl b
 |.int i,v=>v=.int i
 |.str x,v=>v=.str x
 |.ty n,v=>v=.ty n
 |.pot k,v=>∃p,G.pots[k]?=some p/\v=.ref p
 |.tup xs,v=>∃a vs,v=.ref a/\AtT G.M H a vs/\Reps K G H xs vs
 |.lst xs,v=>∃a vs,v=.ref a/\AtL G.M H a vs/\Reps K G H xs vs
 |.scr ns,v=>∃a,v=.ref a/\((a∉G.M/\∃o,H a=some (.frz o (.lst (ns.map V.int))))\/KLst K a (ns.map V.int))
 |.dct ks xs,v=>∃a jg,v=.ref a/\a∉G.M/\H a=some (.dK jg)/\jg.map (·.1)=ks/\Reps K G H xs (jg.map (·.2))
 |.fdt ks xs,v=>∃a jg,v=.ref a/\a∉G.M/\Rd H a (.dT jg)/\jg.map (·.1)=ks/\Reps K G H xs (jg.map (·.2))
def Reps (K:A9)(G:Gh)(H:Hp):List PV->List V->Prop
 |[],vs=>vs=[]
 |x::xs,vs=>∃v r,vs=v::r/\Rep K G H x v/\Reps K G H xs r
end
section
variable {K:A9}{G G':Gh}{H H':Hp}
theorem Rd.keep {a:A0}{u:HO}(h:Rd H a u)(k:∀o,H a=some o->H' a=some o):Rd H' a u:=by grind [HO,Rd]
theorem Rd.ne {a:A0}{u:HO}(h:Rd H a u):H a≠none:=by grind [HO,Rd]
mutual
theorem Rep.mono (hk:∀b o,b∉G.M->H b=some o->H' b=some o)(hM:∀a∈G'.M,a∈G.M\/H a=none)(hp:∀(k:Nat) (p:A0),G.pots[k]?=some p->G'.pots[k]?=some p):∀(x:PV) (v:V),Rep K G H x v->Rep K G' H' x v
 |.non,v,h=>h
 |.bl b,v,h=>h
 |.int i,v,h=>h
 |.str x,v,h=>h
 |.ty n,v,h=>h
 | .pot k, v, h => by
  obtain⟨p,e,r⟩:=h;exact⟨p,hp k p e,r⟩
 | .tup xs, v, h => by
  obtain⟨a,vs,e,t,r⟩:=h;refine⟨a,vs,e,?_,Reps.mono hk hM hp xs vs r⟩;obtain⟨n,t⟩:=t;exact⟨λz=>(hM a z).elim n (λz=>by rw[z] at t;cases t),hk a _ n t⟩
 | .lst xs, v, h => by
  obtain⟨a,vs,e,t,r⟩:=h;refine⟨a,vs,e,?_,Reps.mono hk hM hp xs vs r⟩;obtain⟨n,t⟩:=t;exact⟨λz=>(hM a z).elim n (λz=>by rw[z] at t;cases t),hk a _ n t⟩
 | .scr ns, v, h => by
  obtain⟨a,e,h⟩:=h;refine⟨a,e,?_⟩;rcases h with⟨n,o,t⟩|h
  ·exact .inl ⟨λz=>(hM a z).elim n (λz=>by rw[z] at t;cases t),o,hk a _ n t⟩
  ·exact .inr h
 | .dct ks xs, v, h => by
  obtain⟨a,jg,e,n,t,ek,r⟩:=h;exact⟨a,jg,e,λz=>(hM a z).elim n (λz=>by rw[z] at t;cases t),hk a _ n t,ek,Reps.mono hk hM hp xs _ r⟩
 | .fdt ks xs, v, h => by
  obtain⟨a,jg,e,n,t,ek,r⟩:=h;exact⟨a,jg,e,λz=>(hM a z).elim n (λz=>Rd.ne (u:=.dT jg) t z),Rd.keep (u:=.dT jg) t (λo e=>hk a o n e),ek,Reps.mono hk hM hp xs _ r⟩
theorem Reps.mono (hk:∀b o,b∉G.M->H b=some o->H' b=some o)(hM:∀a∈G'.M,a∈G.M\/H a=none)(hp:∀(k:Nat) (p:A0),G.pots[k]?=some p->G'.pots[k]?=some p):∀(xs:List PV) (vs:List V),Reps K G H xs vs->Reps K G' H' xs vs
 |[],vs,h=>h
 | x :: xs, vs, h => by
  obtain⟨v,r,e,hx,hr⟩:=h;exact⟨v,r,e,Rep.mono hk hM hp x v hx,Reps.mono hk hM hp xs r hr⟩
end
theorem Rep.same (h:Rep K G H x v)(s:Same H H'):Rep K G H' x v:=Rep.mono (λb o _ e=>s b o e) (λa z=>.inl z) (λ_ _ e=>e) x v h
theorem Reps.same (h:Reps K G H x v)(s:Same H H'):Reps K G H' x v:=Reps.mono (λb o _ e=>s b o e) (λa z=>.inl z) (λ_ _ e=>e) x v h
def Fr (G:Gh)(H H':Hp):Prop:=∀b o,b∉G.M->H b=some o->H' b=some o
theorem Fr.refl:Fr G H H:=λ_ _ _ e=>e
theorem Fr.trans (a:Fr G H H')(b:Fr G H' H2):Fr G H H2:=λc o n e=>b c o n (a c o n e)
theorem Fr.of (s:Same H H'):Fr G H H':=λb o _ e=>s b o e
theorem Rep.fr (h:Rep K G H x v)(s:Fr G H H'):Rep K G H' x v:=Rep.mono s (λa z=>.inl z) (λ_ _ e=>e) x v h
theorem Reps.fr (h:Reps K G H x v)(s:Fr G H H'):Reps K G H' x v:=Reps.mono s (λa z=>.inl z) (λ_ _ e=>e) x v h
theorem Reps.length:∀{xs:List PV} {vs:List V},Reps K G H xs vs->xs.length=vs.length
 |[],vs,h=>by cases(show vs=[] from h);rfl
 | x :: xs, vs, h => by
  obtain⟨v,r,e,hx,hr⟩:=h;subst e;simp[Reps.length hr]
theorem Reps.get:∀{xs:List PV} {vs:List V} {i:Nat} {v:V},Reps K G H xs vs->vs[i]?=some v->∃x,xs[i]?=some x/\Rep K G H x v
 |[],vs,i,v,h,e=>by cases(show vs=[] from h);simp at e
 | x :: xs, vs, i, v, h, e => by
  obtain⟨w,r,e1,hx,hr⟩:=h;subst e1;cases i with
  |zero=>simp at e;subst e;exact⟨x,rfl,hx⟩
  |succ i=>simpa using Reps.get (i:=i) hr (by grind)
theorem Reps.get':∀{xs:List PV} {vs:List V} {i:Nat} {x:PV},Reps K G H xs vs->xs[i]?=some x->∃v,vs[i]?=some v/\Rep K G H x v:=λ{xs vs i x} h e=>by
 obtain⟨hi,_⟩:=G4.mp e;have hl:=h.length;have e2:vs[i]?=some (vs[i]'(by omega)):=D8 (by omega);obtain⟨y,ey,r⟩:=h.get e2;rw[e] at ey;cases ey;exact⟨_,e2,r⟩
theorem Reps.append:∀{xs ys:List PV} {vs us:List V},Reps K G H xs vs->Reps K G H ys us->Reps K G H (xs++ys) (vs++us)
 |[],ys,vs,us,h,h'=>by cases(show vs=[] from h);exact h'
 | x :: xs, ys, vs, us, h, h' => by
  obtain⟨w,r,e1,hx,hr⟩:=h;subst e1;exact⟨w,r++us,rfl,hx,Reps.append hr h'⟩
theorem Reps.take:∀{xs:List PV} {vs:List V} (n:Nat),Reps K G H xs vs->Reps K G H (xs.take n) (vs.take n)
 |xs,vs,0,h=>by simp[Reps]
 |[],vs,n+1,h=>by cases(show vs=[] from h);exact rfl
 | x :: xs, vs, n + 1, h => by
  obtain⟨w,r,e1,hx,hr⟩:=h;subst e1;exact⟨w,r.take n,rfl,hx,Reps.take n hr⟩
theorem Reps.drop:∀{xs:List PV} {vs:List V} (n:Nat),Reps K G H xs vs->Reps K G H (xs.drop n) (vs.drop n)
 |xs,vs,0,h=>by simpa using h
 |[],vs,n+1,h=>by cases(show vs=[] from h);exact rfl
 | x :: xs, vs, n + 1, h => by
  obtain⟨w,r,e1,hx,hr⟩:=h;subst e1;exact Reps.drop n hr
theorem Reps.one (h:Rep K G H x v):Reps K G H [x] [v]:=⟨v,[],rfl,h,rfl⟩
theorem Reps.set:∀{xs:List PV} {vs:List V} (n:Nat) {x:PV} {v:V},Reps K G H xs vs->Rep K G H x v->Reps K G H (xs.set n x) (vs.set n v)
 |[],vs,n,x,v,h,_=>by cases(show vs=[] from h);exact rfl
 | y :: xs, vs, 0, x, v, h, h' => by
  obtain⟨w,r,e1,hx,hr⟩:=h;subst e1;exact⟨v,r,rfl,h',hr⟩
 | y :: xs, vs, n + 1, x, v, h, h' => by
  obtain⟨w,r,e1,hx,hr⟩:=h;subst e1;exact⟨w,r.set n v,rfl,hx,Reps.set n hr h'⟩
theorem Reps.eraseIdx:∀{xs:List PV} {vs:List V} (n:Nat),Reps K G H xs vs->Reps K G H (xs.eraseIdx n) (vs.eraseIdx n)
 |[],vs,n,h=>by cases(show vs=[] from h);exact rfl
 | y :: xs, vs, 0, h => by
  obtain⟨w,r,e1,hx,hr⟩:=h;subst e1;exact hr
 | y :: xs, vs, n + 1, h => by
  obtain⟨w,r,e1,hx,hr⟩:=h;subst e1;exact⟨w,r.eraseIdx n,rfl,hx,Reps.eraseIdx n hr⟩
mutual
def noMut:PV->Bool
 |.lst _=>false
 |.dct _ _=>false
 |.fdt _ _=>false
 |.tup xs=>Dr xs
 |_=>true
def Dr:List PV->Bool
 |[]=>true
 |x::xs=>noMut x&&Dr xs
end
def MutO:HO->Prop
 |.lst _=>True
 |.dK _=>True
 |.dT _=>True
 |.set _ _=>True
 |.tbl _=>True
 |_=>False
mutual
theorem Rep.noMut {M':List A0}(hm:∀a∈G.M,∃o,H a=some o/\MutO o):∀(x:PV) (v:V),Pu.noMut x=true->Rep K ⟨M',G.pots⟩ H x v->Rep K G H x v
 |.non,v,_,h=>h
 |.bl b,v,_,h=>h
 |.int i,v,_,h=>h
 |.str x,v,_,h=>h
 |.ty n,v,_,h=>h
 |.pot k,v,_,h=>h
 | .tup xs, v, e, h => by
  obtain⟨a,vs,ev,t,r⟩:=h;refine⟨a,vs,ev,?_,Reps.noMut hm xs vs (by simpa[Pu.noMut] using e) r⟩;obtain⟨n,t⟩:=t;refine⟨λz=>?_,t⟩;obtain⟨o,e1,e2⟩:=hm a z;rw[e1] at t;cases t;exact e2
 | .scr ns, v, _, h => by
  obtain⟨a,e,h⟩:=h;refine⟨a,e,?_⟩;rcases h with⟨n,o,t⟩|h
  ·refine .inl ⟨λz=>?_,o,t⟩;obtain⟨o',e1,e2⟩:=hm a z;rw[e1] at t;cases t;exact e2
  ·exact .inr h
theorem Reps.noMut {M':List A0}(hm:∀a∈G.M,∃o,H a=some o/\MutO o):∀(xs:List PV) (vs:List V),Pu.Dr xs=true->Reps K ⟨M',G.pots⟩ H xs vs->Reps K G H xs vs
 |[],vs,_,h=>h
 | x :: xs, vs, e, h => by
  obtain⟨v,r,ev,hx,hr⟩:=h;have e':Pu.noMut x=true/\Pu.Dr xs=true:=by simpa[Pu.Dr] using e
  exact⟨v,r,ev,Rep.noMut hm x v e'.1 hx,Reps.noMut hm xs r e'.2 hr⟩
end
end
inductive OK where
 |lst|dk (ks:List Key)|dt (ks:List (List Key))|st (zs:List Key)
def memS (zs:List Key)(k:Key):Bool:=zs.any λz=>decide (z=k)
def mkO:OK->List V->HO
 |.lst,vs=>.lst vs
 |.dk ks,vs=>.dK (ks.zip vs)
 |.dt ks,vs=>.dT (ks.zip vs)
 |.st zs,_=>.set (memS zs) zs.length
theorem Kd (k:OK)(vs:List V):MutO (mkO k vs):=by cases k <;> trivial
inductive Slot where
 |v (x:PV)
 |ow (k:OK) (xs:List PV)
abbrev Slot.own (xs:List PV):Slot:=.ow .lst xs
abbrev Env:=List (Option Slot)
structure PotK where
 at_:List A0->Hp->A0->Nat->Prop
 mono:∀{M H p n m},at_ M H p n->n<=m->at_ M H p m
 keep:∀{M H H' p n},at_ M H p n->H' p=H p->(∀b o,b∉M->H b=some o->H' b=some o)->at_ M H' p n
 more:∀{M M' H p n},at_ M H p n->(∀a∈M',a∈M\/H a=none)->at_ M' H p n
 mu:∀{M H p n},at_ M H p n->∃o,H p=some o/\MutO o
 /-- what is known of all pots together -/
 has:List A0->Prop:=λ_=>True
 hasM:∀{l:List A0} {p:A0},has l->p∉l->has (l++[p]):=by intro _ _ _ _;trivial
structure Ct where
 K:A9
 T:PotK
 M0:List A0
 pots0:List A0
 H0:Hp
 np:Bool
def Ds (C:Ct)(G:Gh)(H:Hp)(o:Option (Option V)):Slot->Prop
 |.v x=>∃v,o=some (some v)/\Rep C.K G H x v
 |.ow k xs=>∃a vs,o=some (some (.ref a))/\a∈G.M/\a∉C.M0/\a∉G.pots/\H a=some (mkO k vs)/\Reps C.K G H xs vs
structure SR (C:Ct)(G:Gh)(σ:St)(H:Hp)(env:Env)(n:Nat):Prop where
 frame:∀b o,b∉C.pots0->C.H0 b=some o->H b=some o
 sub:∀a∈G.M,a∈C.M0\/C.H0 a=none
 sup:∀a∈C.M0,a∈G.M
 pots:∀p∈G.pots,p∈G.M/\C.T.at_ G.M H p n
 pre:∃l,G.pots=C.pots0++l/\(l=[]\/C.np=true)
 mu:∀a∈G.M,∃o,H a=some o/\MutO o
 slots:∀(i:Nat) (s:Slot),env[i]?=some (some s)->Ds C G H (σ[i]?) s
 inj:∀(i j:Nat) (xs ys:OK×List PV) (a:A0),env[i]?=some (some (.ow xs.1 xs.2))->env[j]?=some (some (.ow ys.1 ys.2))->σ[i]?=some (some (.ref a))->σ[j]?=some (some (.ref a))->i=j
 p0:(∀p∈C.pots0,p∈C.M0)/\C.T.has G.pots
 len:env.length=σ.length
 newp:∀p∈G.pots,p∉C.pots0->p∈C.M0->False
section
variable {C:Ct}{G G':Gh}{σ:St}{H H':Hp}{env:Env}{n:Nat}
theorem SR.hasG (S:SR C G σ H env n):C.T.has G.pots:=S.p0.2
theorem SR.fresh (S:SR C G σ H env n)(h:H p=none):p∉G.M:=λz=>by
 obtain⟨o,e,_⟩:=S.mu p z;rw[h] at e;cases e
theorem SR.same (S:SR C G σ H env n)(s:Same H H'):SR C G σ H' env n where
 frame b o hb e:=s b o (S.frame b o hb e)
 sub:=S.sub
 sup:=S.sup
 pots p hp:=⟨(S.pots p hp).1,C.T.keep (S.pots p hp).2 (by
  obtain⟨o,e,_⟩:=C.T.mu (S.pots p hp).2
  rw[e,s p o e]) λb o _ e=>s b o e⟩
 pre:=S.pre
 mu a ha:=by
  obtain⟨o,e,m⟩:=S.mu a ha;exact⟨o,s a o e,m⟩
 slots i x e:=by
  have:=S.slots i x e;cases x with
  | v x =>
   obtain⟨v,e1,r⟩:=this;exact⟨v,e1,r.same s⟩
  | ow kk xs =>
   obtain⟨a,vs,e1,h1,h2,h3,h4,r⟩:=this;exact⟨a,vs,e1,h1,h2,h3,s _ _ h4,r.same s⟩
 inj:=S.inj
 p0:=S.p0
 len:=S.len
 newp:=S.newp
theorem Same.lay1 (h:H p=none):Same H (upd H p o):=(Same.refl H).lay h
end
end Pu
end
section
namespace Pu
open PySem PySem.Spec L2
abbrev PK:=PV->Env->Nat->Prop
abbrev pE:=Env->Nat->PK->Prop
abbrev pT:=Env->Nat->(Bool->Env->Nat->Prop)->Prop
abbrev pA:=Env->Nat->(List PV->Env->Nat->Prop)->Prop
abbrev pF:=List PV->Nat->(PV->Nat->Prop)->Prop
def RdV (K:A9)(G:Gh)(H:Hp)(x:PV)(v:V):Prop:=Rep K G H x v\/∃a vs xs,x=.lst xs/\v=.ref a/\H a=some (.lst vs)/\Reps K G H xs vs
def RdS (C:Ct)(G:Gh)(σ:St)(H:Hp)(env:Env)(x:PV)(v:V):Prop:=Rep C.K G H x v\/∃(i:Nat) (a:A0) (xs:List PV),env[i]?=some (some (.ow .lst xs))/\σ[i]?=some (some (.ref a))/\x=.lst xs/\v=.ref a
def EOk (K:A9)(T:PotK)(t:TE)(pe:pE):Prop:=∀(C:Ct) (G:Gh) (σ:St) (H:Hp) (env:Env) (n:Nat) (R:PK) (Q:VK),C.K=K->C.T=T->SR C G σ H env n->pe env n R->
 (∀x jh n' v H',R x jh n'->SR C G σ H' jh n'->Rep K G H' x v->Fr G H H'->Q v H')->t σ H Q
def ROk (K:A9)(T:PotK)(t:TE)(pe:pE):Prop:=∀(C:Ct) (G:Gh) (σ:St) (H:Hp) (env:Env) (n:Nat) (R:PK) (Q:VK),C.K=K->C.T=T->SR C G σ H env n->pe env n R->
 (∀x jh n' v H',R x jh n'->SR C G σ H' jh n'->RdS C G σ H' jh x v->Fr G H H'->Q v H')->t σ H Q
def NOk (K:A9)(T:PotK)(t:TE)(pn:pA):Prop:=∀(C:Ct) (G:Gh) (σ:St) (H:Hp) (env:Env) (n:Nat) (R:List PV->Env->Nat->Prop) (Q:VK),C.K=K->C.T=T->SR C G σ H env n->pn env n R->
 (∀xs jh n' a vs Hb,R xs jh n'->SR C G σ Hb jh n'->Fr G H Hb->Hb a=none->Reps K G Hb xs vs->Q (.ref a) (upd Hb a (.lst vs)))->t σ H Q
def TOk (K:A9)(T:PotK)(t:TT)(pt:pT):Prop:=∀(C:Ct) (G:Gh) (σ:St) (H:Hp) (env:Env) (n:Nat) (R:Bool->Env->Nat->Prop) (Q:Bool->Hp->Prop),C.K=K->C.T=T->SR C G σ H env n->pt env n R->
 (∀b jh n' H',R b jh n'->SR C G σ H' jh n'->Fr G H H'->Q b H')->t σ H Q
def AOk (K:A9)(T:PotK)(t:TA)(pa:pA):Prop:=∀(C:Ct) (G:Gh) (σ:St) (H:Hp) (env:Env) (n:Nat) (R:List PV->Env->Nat->Prop) (Q:List V->Hp->Prop),C.K=K->C.T=T->SR C G σ H env n->pa env n R->
 (∀xs jh n' vs H',R xs jh n'->SR C G σ H' jh n'->Reps K G H' xs vs->Fr G H H'->Q vs H')->t σ H Q
structure EW (X:Cx)(e:Expr)(t:TE):Prop where
 h:PE X e t
structure SW (X:Cx)(st:Stmt)(t:TS):Prop where
 h:PS X st t
structure GW (X:Cx)(e:Expr)(g:TG):Prop where
 h:PG X e g
theorem vw (i:Nat)(hN:X.N[i]?=some x:=by rfl)(hv:Vis X.env.scope x:=by first|exact Or.inl rfl|exact Or.inr (Or.inl rfl)|exact Or.inr (Or.inr rfl))(hd:(x == ("__debug__":Str))=false:=by decide)(hcd:(x == ("__classdict__":Str))=false:=by decide):EW X (.Name x pos) (tVar i):=⟨Jw hN hv hd hcd⟩
def QE {ι:Type}(T:PotK)(K:A9)(F:ι->Cx)(e:Expr)(pe:pE):Prop:=∃t,(∀z,PE (F z) e t)/\EOk K T t pe
def QR {ι:Type}(T:PotK)(K:A9)(F:ι->Cx)(e:Expr)(pe:pE):Prop:=∃t,(∀z,PE (F z) e t)/\ROk K T t pe
def QN {ι:Type}(T:PotK)(K:A9)(F:ι->Cx)(e:Expr)(pn:pA):Prop:=∃t,(∀z,PE (F z) e t)/\NOk K T t pn
def QT {ι:Type}(T:PotK)(K:A9)(F:ι->Cx)(e:Expr)(pt:pT):Prop:=∃t,(∀z,PT (F z) e t)/\TOk K T t pt
def QW {ι:Type}(T:PotK)(K:A9)(F:ι->Cx)(e:Expr)(pt:pT):Prop:=∃t,(∀z,PW (F z) e t)/\TOk K T t pt
def QA {ι:Type}(T:PotK)(K:A9)(F:ι->Cx)(es:List Expr)(pa:pA):Prop:=∃t,(∀z,PA (F z) es t)/\AOk K T t pa
section
variable {T:PotK}{ι:Type}{K:A9}{F:ι->Cx}{e a b:Expr}{es:List Expr}{pe pa pb:pE}
theorem Reps.nil:Reps K G H [] []:=rfl
theorem Reps.cons (h:Rep K G H x v)(h':Reps K G H xs vs):Reps K G H (x::xs) (v::vs):=⟨v,vs,rfl,h,h'⟩
theorem RdS.rd (S:SR C G σ H env n)(h:RdS C G σ H env x v):RdV C.K G H x v:=by
 rcases h with h|⟨i,a,xs,e1,e2,ex,ev⟩
 ·exact .inl h
 ·obtain⟨a',vs,e3,_,_,_,h4,r⟩:=S.slots i _ e1;rw[e2] at e3;cases e3;exact .inr ⟨a,vs,xs,ex,ev,h4,r⟩
theorem RdS.fr (h:RdS C G σ H env x v)(f:Fr G H H'):RdS C G σ H' env x v:=by
 rcases h with h|h
 ·exact .inl (h.fr f)
 ·exact .inr h
theorem RdV.lst (h:RdV K G H (.lst xs) v):∃a vs,v=.ref a/\SqL K H a vs/\Reps K G H xs vs:=by
 rcases h with⟨a,vs,e,t,r⟩|⟨a,vs,ys,ex,ev,h4,r⟩
 ·exact⟨a,vs,e,t.sq,r⟩
 ·cases ex;exact⟨a,vs,ev,SqL.of h4,r⟩
theorem RdV.rep {K:A9}{G:Gh}{H:Hp}{x:PV}{v:V}(h:RdV K G H x v)(hx:∀xs,x≠.lst xs):Rep K G H x v:=by simp_all [Gh,Hp,PV,RdV,V]
theorem RdV.tup (h:RdV K G H (.tup xs) v):∃a vs,v=.ref a/\SqT K H a vs/\Reps K G H xs vs:=by
 obtain⟨a,vs,e,t,r⟩:=h.rep (λ_ z=>nomatch z);exact⟨a,vs,e,t.sq,r⟩
theorem RdV.int (h:RdV K G H (.int i) v):v=.int i:=h.rep (λ_ z=>nomatch z)
theorem RdV.str (h:RdV K G H (.str i) v):v=.str i:=h.rep (λ_ z=>nomatch z)
theorem RdV.bl (h:RdV K G H (.bl i) v):v=.bl i:=h.rep (λ_ z=>nomatch z)
theorem RdV.non (h:RdV K G H .non v):v=.non:=h.rep (λ_ z=>nomatch z)
def qV (i:Nat):pE:=λenv n R=>match env[i]? with|some (some (.v x))=>R x env n|_=>False
def qO (i:Nat):pE:=λenv n R=>match env[i]? with|some (some (.ow .lst xs))=>R (.lst xs) env n|_=>False
def qC (c:PV):pE:=λenv n R=>R c env n
theorem qV_ex (h:qV i env n R):∃x,env[i]?=some (some (.v x))/\R x env n:=by
 unfold qV at h
 split at h
 ·exact⟨_,by assumption,h⟩
 ·exact h.elim
theorem qO_ex (h:qO i env n R):∃xs,env[i]?=some (some (.ow .lst xs))/\R (.lst xs) env n:=by
 unfold qO at h
 split at h
 ·exact⟨_,by assumption,h⟩
 ·exact h.elim
theorem qe_var (i:Nat)(h:∀z,EW (F z) (.Name x pos) (tVar i)):QE T K F (.Name x pos) (qV i):=by
 refine⟨_,λz=>(h z).h,λC G σ H env n R Q hK hT S hp k=>?_⟩;obtain⟨x,e,r⟩:=qV_ex hp;obtain⟨v,ev,rv⟩:=S.slots i _ e;exact⟨v,ev,k _ _ _ _ _ r S (hK▸rv) Fr.refl⟩
theorem P7 (i:Nat)(h:∀z,EW (F z) (.Name x pos) (tVar i)):QR T K F (.Name x pos) (qO i):=by
 refine⟨_,λz=>(h z).h,λC G σ H env n R Q hK hT S hp k=>?_⟩;obtain⟨xs,e,r⟩:=qO_ex hp;obtain⟨a,vs,ev,_,_,_,_,rv⟩:=S.slots i _ e;exact⟨.ref a,ev,k _ _ _ _ _ r S (.inr ⟨i,a,xs,e,ev,rfl,rfl⟩) Fr.refl⟩
theorem QE.r (h:QE T K F e pe):QR T K F e pe:=by
 obtain⟨t,h1,h2⟩:=h;exact⟨t,h1,λC G σ H env n R Q hK hT S hp k=>h2 C G σ H env n R Q hK hT S hp λx jh n' v H' r S' rp f=>k x jh n' v H' r S' (.inl (by rw[hK];exact rp)) f⟩
theorem ok_c (h:∀G H,Rep K G H c v):EOk K T (tC v) (qC c):=λC G σ H env n R Q hK hT S hp k=>k _ _ _ _ _ hp S (h G H) Fr.refl
theorem B9 {i j pos}:QE T K F (.Constant (.int i) j pos) (qC (.int i)):=⟨_,λz=>K8,ok_c λ_ _=>rfl⟩
theorem M4 {i j pos}:QE T K F (.Constant (.bool i) j pos) (qC (.bl i)):=⟨_,λz=>pe_bl,ok_c λ_ _=>rfl⟩
theorem D7 {i j pos}:QE T K F (.Constant (.str i) j pos) (qC (.str i)):=⟨_,λz=>pe_str,ok_c λ_ _=>rfl⟩
theorem AS {j pos}:QE T K F (.Constant .none j pos) (qC .non):=⟨_,λz=>pe_non,ok_c λ_ _=>rfl⟩
theorem qe_num {x:Str}{i:Int}{pos:Pos}(n:∀z,Num0 (F z).mg x i)(hg:∀z,Gl (F z) x)(hd:(x == ("__debug__":Str))=false:=by decide):QE T K F (.Name x pos) (qC (.int i)):=⟨_,λz=>pe_num (n z) (hg z) hd,ok_c λ_ _=>rfl⟩
abbrev w1:=PV->(PV->Prop)->Prop
abbrev w2:=PV->PV->(PV->Prop)->Prop
def W2 (K:A9)(r:R2)(w:w2):Prop:=∀(G:Gh) (H:Hp) (x y:PV) (v u:V) (R:PV->Prop) (Q:VK),(∀p,H p=none->p∉G.M)->RdV K G H x v->RdV K G H y u->w x y R->
 (∀z v' H',R z->Same H H'->Rep K G H' z v'->Q v' H')->r v u H Q
def qOp (w:w2)(pa pb:pE):pE:=λenv n R=>pa env n λx jc n1=>pb jc n1 λy jd n2=>w x y λz=>R z jd n2
def qOpR (w:w2)(pa pb:pE):pE:=λenv n R=>pa env n λx jc n1=>pb jc n1 λy jd n2=>jd=jc/\w x y λz=>R z jd n2
def qUn (w:w1)(pa:pE):pE:=λenv n R=>pa env n λx jc n1=>w x λz=>R z jc n1
theorem Dt (hw:W2 K r w)(ha:EOk K T ta pa)(hb:ROk K T tb pb):EOk K T (tOp r ta tb) (qOp w pa pb):=λC G σ H env n R Q hK hT S hp k=>by
 refine ha C G σ H env n _ _ hK hT S hp λx jc n1 v H1 p1 S1 r1 f1=>?_;refine hb C G σ H1 jc n1 _ _ hK hT S1 p1 λy jd n2 u H2 p2 S2 r2 f2=>?_;subst hK;exact hw G H2 x y v u _ _ (λp hp=>S2.fresh hp) (.inl (r1.fr f2)) (r2.rd S2) p2 λz v' H' rz s rv=>k _ _ _ _ _ rz (S2.same s) rv ((f1.trans f2).trans (Fr.of s))
theorem Ke (hw:W2 K r w)(ha:ROk K T ta pa)(hb:ROk K T tb pb):EOk K T (tOp r ta tb) (qOpR w pa pb):=λC G σ H env n R Q hK hT S hp k=>by
 refine ha C G σ H env n _ _ hK hT S hp λx jc n1 v H1 p1 S1 r1 f1=>?_;refine hb C G σ H1 jc n1 _ _ hK hT S1 p1 λy jd n2 u H2 p2 S2 r2 f2=>?_;subst hK;obtain⟨e,p2⟩:=p2;subst e;exact hw G H2 x y v u _ _ (λp hp=>S2.fresh hp) ((r1.fr f2).rd S2) (r2.rd S2) p2 λz v' H' rz s rv=>k _ _ _ _ _ rz (S2.same s) rv ((f1.trans f2).trans (Fr.of s))
def wI (C:Int->Int->Prop)(g:Int->Int->PV):w2:=λx y R=>match x,y with|.int i,.int j=>C i j/\R (g i j)|_,_=>False
theorem W2.I (hg:∀i j G H,Rep K G H (g' i j) (g i j)):W2 K (rI C g) (wI C g'):=by
 intro G H x y v u R Q hf rx ry hw k;unfold wI at hw
 split at hw
 ·exact⟨_,_,rx.int,ry.int,hw.1,k _ _ _ hw.2 (Same.refl _) (hg _ _ _ _)⟩
 ·exact hw.elim
def wI0 (g:Int->Int->PV):w2:=λx y R=>match x,y with|.int i,.int j=>R (g i j)|_,_=>False
theorem W2.I0 (hg:∀i j G H,Rep K G H (g' i j) (g i j)):W2 K (rI0 g) (wI0 g'):=by
 intro G H x y v u R Q hf rx ry hw k;unfold wI0 at hw
 split at hw
 ·exact⟨_,_,rx.int,ry.int,k _ _ _ hw (Same.refl _) (hg _ _ _ _)⟩
 ·exact hw.elim
def wAdd:w2:=λx y R=>match x,y with
 |.int i,.int j=>R (.int (i+j))
 |.str i,.str j=>i.length+j.length<=1000000/\R (.str (i++j))
 |.tup xs,.tup ys=>xs.length+ys.length<=1000000/\R (.tup (xs++ys))
 |_,_=>False
theorem mil (h:n<=1000000):n<=C8:=J9 h (by rw[K9];decide)
theorem mil' (h:n<=1000000):n<C8:=BG h (by rw[K9];decide)
theorem Cb (hf:p∉G.M)(hn:H p=none)(r:Reps K G H xs vs):Rep K G (upd H p (.tup vs)) (.tup xs) (.ref p):=
 ⟨p,vs,rfl,⟨hf,E8⟩,r.same (Same.lay1 hn)⟩
theorem Ff (hf:p∉G.M)(hn:H p=none)(r:Reps K G H xs vs):Rep K G (upd H p (.lst vs)) (.lst xs) (.ref p):=
 ⟨p,vs,rfl,⟨hf,E8⟩,r.same (Same.lay1 hn)⟩
theorem W2.add:W2 K (λx y H Q=>(rI0 λi j=>.int (i+j)) x y H Q\/(∃i j,x=.str i/\y=.str j/\i.length+j.length<=C8/\Q (.str (i++j)) H)\/rCatA K x y H Q) wAdd:=by
 intro G H x y v u R Q hf rx ry hw k;unfold wAdd at hw
 split at hw
 ·exact .inl ⟨_,_,rx.int,ry.int,k _ _ _ hw (Same.refl _) rfl⟩
 ·exact .inr (.inl ⟨_,_,rx.str,ry.str,mil hw.1,k _ _ _ hw.2 (Same.refl _) rfl⟩)
 ·rename_i xs ys;obtain⟨a,vs,ea,ta,ra⟩:=rx.rep (λ_ z=>nomatch z);obtain⟨b,us,eb,tb,rb⟩:=ry.rep (λ_ z=>nomatch z);refine .inr (.inr ⟨a,b,vs,us,ea,eb,ta.sq,tb.sq,?_,λz=>?_,λz1 z2=>?_,λz1 z2 p hp=>?_⟩)
  ·rw[<- ra.length,<- rb.length];exact mil hw.1
  ·subst z;have:xs=[]:=Bz ra.length;subst this;exact k _ _ _ hw.2 (Same.refl _) ⟨b,us,rfl,tb,rb⟩
  ·subst z2;have:ys=[]:=Bz rb.length;subst this;exact k _ _ _ hw.2 (Same.refl _) (by rw[R9];exact⟨a,vs,rfl,ta,ra⟩)
  ·exact k _ _ _ hw.2 (Same.lay1 hp) (Cb (hf p hp) hp (ra.append rb))
 ·exact hw.elim
theorem L0 (ha:QE T K F a pa)(hb:QE T K F b pb)(hK:∀z,(F z).K=K:=by intro _;rfl):QE T K F (.BinOp a .Add b pos) (qOp wAdd pa pb):=by
 obtain⟨ta,h1,h2⟩:=ha;obtain⟨tb,h3,h4⟩:=hb.r;exact⟨_,λz=>L7 (y4.or (Ov.or (hK z▸Pv))) (h1 z) (h3 z),Dt W2.add h2 h4⟩
theorem Fg (ho:∀z,OpR (F z) (T8 op) r)(hw:W2 K r w)(ha:QE T K F a pa)(hb:QE T K F b pb):QE T K F (.BinOp a op b pos) (qOp w pa pb):=by
 obtain⟨ta,h1,h2⟩:=ha;obtain⟨tb,h3,h4⟩:=hb.r;exact⟨_,λz=>L7 (ho z) (h1 z) (h3 z),Dt hw h2 h4⟩
def wSub:w2:=wI0 λi j=>.int (i-j)
def wMul:w2:=λx y R=>match x,y with
 |.int i,.int j=>CMul i j/\R (.int (i*j))
 |.str i,.int n=>i.length<=100/\0<=n/\n<=1000/\R (.str (p8 i n))
 |_,_=>False
def Ho:w2:=wI CDiv λi j=>.int (i/j)
def wMod:w2:=wI (λ_ j=>0<j) λi j=>.int (i%j)
theorem W2.mul:W2 K (λx y H Q=>(rI CMul λi j=>.int (i*j)) x y H Q\/(∃i n,x=.str i/\y=.int n/\i.length<=100/\0<=n/\n<=1000/\Q (.str (p8 i n)) H)) wMul:=by
 intro G H x y v u R Q hf rx ry hw k;unfold wMul at hw
 split at hw
 ·exact .inl ⟨_,_,rx.int,ry.int,hw.1,k _ _ _ hw.2 (Same.refl _) rfl⟩
 ·exact .inr ⟨_,_,rx.str,ry.int,hw.1,hw.2.1,hw.2.2.1,k _ _ _ hw.2.2.2 (Same.refl _) rfl⟩
 ·exact hw.elim
theorem Hq (ha:QE T K F a pa)(hb:QE T K F b pb):QE T K F (.BinOp a .Sub b pos) (qOp wSub pa pb):=Fg (λ_=>op_sub) (W2.I0 λ_ _ _ _=>rfl) ha hb
theorem Fh (ha:QE T K F a pa)(hb:QE T K F b pb):QE T K F (.BinOp a .Mult b pos) (qOp wMul pa pb):=Fg (λ_=>y7.or Pl) W2.mul ha hb
theorem Px (ha:QE T K F a pa)(hb:QE T K F b pb):QE T K F (.BinOp a .FloorDiv b pos) (qOp Ho pa pb):=Fg (λ_=>GX) (W2.I λ_ _ _ _=>rfl) ha hb
theorem Hr (ha:QE T K F a pa)(hb:QE T K F b pb):QE T K F (.BinOp a .Mod b pos) (qOp wMod pa pb):=Fg (λ_=>AO) (W2.I λ_ _ _ _=>rfl) ha hb
end
end Pu
end
section
namespace L2
open PySem PySem.Spec PyProof.Rows
def EqD (K:A9)(H:Hp):Nat->V->V->Bool->Prop
 |0,x,y,b=>T3 x=true/\T3 y=true/\b=eqV x y
 | d + 1, x, y, b => (T3 x = true /\ T3 y = true /\ b = eqV x y) \/
   (∃p q xs ys,∃f:Nat->Bool,x=.ref p/\y=.ref q/\SqT K H p xs/\SqT K H q ys/\(∀(j:Nat) x' y',xs[j]?=some x'->ys[j]?=some y'->EqD K H d x' y' (f j))/\b=((F6 (min xs.length ys.length)).all f&&xs.length == ys.length))\/
   (∃p q xs ys,∃f:Nat->Bool,x=.ref p/\y=.ref q/\SqL K H p xs/\SqL K H q ys/\(∀(j:Nat) x' y',xs[j]?=some x'->ys[j]?=some y'->EqD K H d x' y' (f j))/\b=((F6 (min xs.length ys.length)).all f&&xs.length == ys.length))\/
   (b=false/\((∃p xs,x=.ref p/\(SqT K H p xs\/SqL K H p xs)/\T3 y=true)\/(∃p xs,y=.ref p/\(SqT K H p xs\/SqL K H p xs)/\T3 x=true)\/
     (∃p q xs ys,x=.ref p/\y=.ref q/\SqT K H p xs/\SqL K H q ys)\/(∃p q xs ys,x=.ref p/\y=.ref q/\SqL K H p xs/\SqT K H q ys)))
section
variable {X:Cx}{jb:List (A0×Obj)}{σ:St}{H:Hp}{s:A5}
theorem W7 (I:Inv X jb σ H s)(h:SqT X.K H p xs)(h':SqL X.K H p ys):False:=by
 obtain⟨jf,r,⟨o,e,c,n,d⟩,_⟩:=I.tuple h;obtain⟨its',r',⟨o',n',e',c',_,d'⟩,_⟩:=I.list h';rw[e] at e';cases e';rw[c] at c';injection c' with c';exact absurd c' (by decide)
theorem EqD.refl (I:Inv X jb σ H s):∀(d:Nat) (x:V) (b:Bool),EqD X.K H d x x b->b=true:=by
 intro d
 induction d with
 | zero =>
  intro x b h;obtain⟨h1,_,rfl⟩:=h;exact JX h1
 | succ d ih =>
  intro x b h;rcases h with⟨h1,_,rfl⟩|⟨p,q,xs,ys,f,e1,e2,s1,s2,hf,rfl⟩|⟨p,q,xs,ys,f,e1,e2,s1,s2,hf,rfl⟩|⟨rfl,h⟩
  ·exact JX h1
  ·subst e1;cases e2;have:=I.tuple_inj s1 s2;subst this;simp only[De,beq_self_eq_true,BM,J4,M7];intro j hj;exact ih _ _ (hf j xs[j] xs[j] (by simp[hj]) (by simp[hj]))
  ·subst e1;cases e2;have:=I.list_inj s1 s2;subst this;simp only[De,beq_self_eq_true,BM,J4,M7];intro j hj;exact ih _ _ (hf j xs[j] xs[j] (by simp[hj]) (by simp[hj]))
  ·rcases h with⟨p,xs,rfl,_,h⟩|⟨p,xs,rfl,_,h⟩|⟨p,q,xs,ys,e1,e2,s1,s2⟩|⟨p,q,xs,ys,e1,e2,s1,s2⟩
   ·cases h
   ·cases h
   ·subst e1;cases e2;exact(W7 I s1 s2).elim
   ·subst e1;cases e2;exact(W7 I s2 s1).elim
theorem Inv.sqL (I:Inv X jb σ H s)(h:SqL X.K H p xs):∃jf:List A1,Vals xs jf/\s.heap.IsList p jf.toArray:=by
 obtain⟨jf,r,pl,_⟩:=I.list h;exact⟨jf,r,pl.isList⟩
theorem Inv.sqT (I:Inv X jb σ H s)(h:SqT X.K H p xs):∃jf:List A1,Vals xs jf/\s.heap.IsTuple p jf.toArray:=by
 obtain⟨jf,r,pl,_⟩:=I.tuple h;exact⟨jf,r,pl⟩
theorem Kf (I:Inv X jb σ H s)(hu:A.units<cLine)(hq:SqT X.K H p xs\/SqL X.K H p xs)(ry:RelV y w)(fy:T3 y=true) :
   BV A s (.ref p) w false/\BU A s (.ref p) w true/\BV A s w (.ref p) false/\BU A s w (.ref p) true/\AL A s (.ref p) w false/\AL A s w (.ref p) false:=by
 rcases hq with hq|hq
 ·obtain⟨jf,r,il⟩:=I.sqT hq;cases y with
  |non=>cases ry;exact⟨.tuple_none il hu,.tuple_none il hu,.none_tuple il hu,.none_tuple il hu,.tuple_none il hu,.none_tuple il hu⟩
  |bl b=>cases ry;exact⟨.tuple_bool b il hu,.tuple_bool b il hu,.bool_tuple b il hu,.bool_tuple b il hu,.tuple_bool b il hu,.bool_tuple b il hu⟩
  |int i=>obtain⟨t,rfl⟩:=ry;exact⟨.tuple_int i t il hu,.tuple_int i t il hu,.int_tuple i t il hu,.int_tuple i t il hu,.tuple_int i t il hu,.int_tuple i t il hu⟩
  |str i=>obtain⟨t,rfl⟩:=ry;exact⟨.tuple_str i t il hu,.tuple_str i t il hu,.str_tuple i t il hu,.str_tuple i t il hu,.tuple_str i t il hu,.str_tuple i t il hu⟩
  |_=>cases fy
 ·obtain⟨jf,r,il⟩:=I.sqL hq;cases y with
  |non=>cases ry;exact⟨.list_none il hu,.list_none il hu,.none_list il hu,.none_list il hu,.list_none il hu,.none_list il hu⟩
  |bl b=>cases ry;exact⟨.list_bool b il hu,.list_bool b il hu,.bool_list b il hu,.bool_list b il hu,.list_bool b il hu,.bool_list b il hu⟩
  |int i=>obtain⟨t,rfl⟩:=ry;exact⟨.list_int i t il hu,.list_int i t il hu,.int_list i t il hu,.int_list i t il hu,.list_int i t il hu,.int_list i t il hu⟩
  |str i=>obtain⟨t,rfl⟩:=ry;exact⟨.list_str i t il hu,.list_str i t il hu,.str_list i t il hu,.str_list i t il hu,.list_str i t il hu,.str_list i t il hu⟩
  |_=>cases fy
theorem Kg (rx:RelV x u)(ry:RelV y w)(fx:T3 x=true)(fy:T3 y=true):BV A s u w (eqV x y)/\BU A s u w (!eqV x y):=by
 cases x with
 | non =>
  cases rx;cases y with
  |non=>cases ry;exact⟨.none_none,.none_none⟩
  |bl j=>cases ry;exact⟨.none_bool j,.none_bool j⟩
  |int j=>obtain⟨t,rfl⟩:=ry;exact⟨.none_int j t,.none_int j t⟩
  |str j=>obtain⟨t,rfl⟩:=ry;exact⟨.none_str j t,.none_str j t⟩
  |_=>cases fy
 | bl i =>
  cases rx;cases y with
  |non=>cases ry;exact⟨.bool_none i,.bool_none i⟩
  |bl j=>cases ry;exact⟨.bool_bool i j,.bool_bool i j⟩
  |int j=>obtain⟨t,rfl⟩:=ry;exact⟨.bool_int i j t,.bool_int i j t⟩
  |str j=>obtain⟨t,rfl⟩:=ry;exact⟨.bool_str i j t,.bool_str i j t⟩
  |_=>cases fy
 | int i =>
  obtain⟨ti,rfl⟩:=rx;cases y with
  |non=>cases ry;exact⟨.int_none i ti,.int_none i ti⟩
  |bl j=>cases ry;exact⟨.int_bool i ti j,.int_bool i ti j⟩
  |int j=>obtain⟨t,rfl⟩:=ry;exact⟨.int_int i ti j t,.int_int i ti j t⟩
  |str j=>obtain⟨t,rfl⟩:=ry;exact⟨.int_str i ti j t,.int_str i ti j t⟩
  |_=>cases fy
 | str i =>
  obtain⟨ti,rfl⟩:=rx;cases y with
  |non=>cases ry;exact⟨.str_none i ti,.str_none i ti⟩
  |bl j=>cases ry;exact⟨.str_bool i ti j,.str_bool i ti j⟩
  |int j=>obtain⟨t,rfl⟩:=ry;exact⟨.str_int i ti j t,.str_int i ti j t⟩
  |str j=>obtain⟨t,rfl⟩:=ry;exact⟨.str_str i ti j t,.str_str i ti j t⟩
  |_=>cases fy
 |_=>cases fx
theorem Du (A:D5):A.in1.units=A.units+1:=rfl
theorem EqD.at (I:Inv X jb σ H s):∀(d:Nat) (A:D5) (x y:V) (u w:A1) (b:Bool),A.units+d<cLine->RelV x u->RelV y w->EqD X.K H d x y b->AL A s u w b/\BV A s u w b/\BU A s u w (!b):=by
 intro d
 induction d with
 | zero =>
  intro A x y u w b hu rx ry h;obtain⟨h1,h2,rfl⟩:=h;exact⟨JN rx ry h1 h2,Kg rx ry h1 h2⟩
 | succ d ih =>
  intro A x y u w b hu rx ry h;have hu0:A.units<cLine:=by omega
  have hu1:A.in1.units+d<cLine:=by rw[Du];omega
  have hrefl:=EqD.refl I (d+1) x b;rcases h with⟨h1,h2,rfl⟩|⟨p,q,xs,ys,f,e1,e2,s1,s2,hf,eb⟩|⟨p,q,xs,ys,f,e1,e2,s1,s2,hf,eb⟩|⟨rfl,h⟩
  ·exact⟨JN rx ry h1 h2,Kg rx ry h1 h2⟩
  ·subst e1 e2;cases rx;cases ry;obtain⟨jf,r1,t1⟩:=I.sqT s1;obtain⟨its2,r2,t2⟩:=I.sqT s2;have z1:jf.toArray.size=xs.length:=by simpa using r1.length.symm
   have z2:its2.toArray.size=ys.length:=by simpa using r2.length.symm
   have he:∀j (h1:j<jf.toArray.size) (h2:j<its2.toArray.size),AL A.in1 s jf.toArray[j] its2.toArray[j] (f j):=by
    intro j h1 h2;obtain⟨x',e1,q1⟩:=r1.getE (j:=j) (by omega);obtain⟨y',e2,q2⟩:=r2.getE (j:=j) (by grind);exact(ih A.in1 x' y' _ _ (f j) hu1 (by grind) (by grind) (hf j x' y' e1 e2)).1
   have rc:BV A s (.ref p) (.ref q) b:=by
    rw[eb,<- z1,<- z2];exact SeqAt.RcAt.tuples t1 t2 hu0 he
   have rn:BU A s (.ref p) (.ref q) (!b):=by
    rw[eb,<- z1,<- z2];exact SeqAt.RcNeAt.tuples t1 t2 hu0 he
   refine⟨?_,rc,rn⟩
   by_cases hpq:p=q
   ·subst hpq;rw[hrefl (.inr (.inl ⟨p,p,xs,ys,f,rfl,rfl,s1,s2,hf,eb⟩))];exact .same _
   ·exact .of_refs hpq rc
  ·subst e1 e2;cases rx;cases ry;obtain⟨jf,r1,t1⟩:=I.sqL s1;obtain⟨its2,r2,t2⟩:=I.sqL s2;have z1:jf.toArray.size=xs.length:=by simpa using r1.length.symm
   have z2:its2.toArray.size=ys.length:=by simpa using r2.length.symm
   have he:∀j (h1:j<jf.toArray.size) (h2:j<its2.toArray.size),AL A.in1 s jf.toArray[j] its2.toArray[j] (f j):=by
    intro j h1 h2;obtain⟨x',e1,q1⟩:=r1.getE (j:=j) (by omega);obtain⟨y',e2,q2⟩:=r2.getE (j:=j) (by grind);exact(ih A.in1 x' y' _ _ (f j) hu1 (by grind) (by grind) (hf j x' y' e1 e2)).1
   have rr:BV A s (.ref p) (.ref q) b/\BU A s (.ref p) (.ref q) (!b):=by
    by_cases hl:xs.length=ys.length
    ·have e3:b=(F6 jf.toArray.size).all f:=by rw[eb,hl,De,beq_self_eq_true,BM,z1,hl]
     rw[e3];exact⟨SeqAt.RcAt.lists t1 t2 (by grind) hu0 he,SeqAt.RcNeAt.lists t1 t2 (by grind) hu0 he⟩
    ·have e3:b=false:=by
      rw[eb];have:(xs.length == ys.length)=false:=by simpa using hl
      rw[this,Bool.and_false]
     rw[e3];have e4:(jf.toArray.size != its2.toArray.size)=true:=by rw[z1,z2];simpa using hl
     exact⟨SeqAt.RcAt.lists_lengths t1 t2 e4 hu0,SeqAt.RcNeAt.lists_lengths t1 t2 e4 hu0⟩
   refine⟨?_,rr⟩
   by_cases hpq:p=q
   ·subst hpq;rw[hrefl (.inr (.inr (.inl ⟨p,p,xs,ys,f,rfl,rfl,s1,s2,hf,eb⟩)))];exact .same _
   ·exact .of_refs hpq rr.1
  ·rcases h with⟨p,xs,rfl,hq,fy⟩|⟨p,xs,rfl,hq,fx⟩|⟨p,q,xs,ys,e1,e2,s1,s2⟩|⟨p,q,xs,ys,e1,e2,s1,s2⟩
   ·cases rx;obtain⟨a1,a2,a3,a4,a5,a6⟩:=Kf I hu0 hq ry fy;exact⟨a5,a1,a2⟩
   ·cases ry;obtain⟨a1,a2,a3,a4,a5,a6⟩:=Kf I hu0 hq rx fx;exact⟨a6,a3,a4⟩
   ·subst e1 e2;cases rx;cases ry;obtain⟨jf,r1,t1⟩:=I.sqT s1;obtain⟨its2,r2,t2⟩:=I.sqL s2;exact⟨.tuple_list t1 t2 hu0,.tuple_list t1 t2 hu0,.tuple_list t1 t2 hu0⟩
   ·subst e1 e2;cases rx;cases ry;obtain⟨jf,r1,t1⟩:=I.sqL s1;obtain⟨its2,r2,t2⟩:=I.sqT s2;exact⟨.list_tuple t1 t2 hu0,.list_tuple t1 t2 hu0,.list_tuple t1 t2 hu0⟩
end
section
variable {X:Cx}
def rEqD (K:A9)(d:Nat)(neg:Bool):R2:=λx y H Q=>∃b,EqD K H d x y b/\Q (.bl (if neg then !b else b)) H
theorem op_eqD (d:Nat)(hu:X.A.units+d<cLine):OpR X (M1 .Eq) (rEqD X.K d false):=by
 intro jb s σ H x y v u Q I rx ry h;obtain⟨b,hb,q⟩:=h;exact(hb.at I d X.A x y v u b hu rx ry).2.1 X.prog X.w X.xe _ ⟨.bl _,H,I,rfl,q⟩
theorem op_neD (d:Nat)(hu:X.A.units+d<cLine):OpR X (M1 .NotEq) (rEqD X.K d true):=by
 intro jb s σ H x y v u Q I rx ry h;obtain⟨b,hb,q⟩:=h;exact(hb.at I d X.A x y v u b hu rx ry).2.2 X.prog X.w X.xe _ ⟨.bl _,H,I,rfl,q⟩
def rInD (K:A9)(d:Nat)(neg:Bool):R2:=λx y H Q=>∃p ys,∃f:Nat->Bool,y=.ref p/\(SqL K H p ys\/SqT K H p ys)/\(∀(j:Nat) z,ys[j]?=some z->EqD K H d z x (f j))/\Q (.bl (if neg then !((F6 ys.length).any f) else(F6 ys.length).any f)) H
theorem Kh (h:∀j,j<n->f j=g j):(F6 n).all f=(F6 n).all g:=by
 rw[i6,J4,J4];constructor
 ·intro k j hj;rw[<- h j (M7.mp hj)];exact k j hj
 ·intro k j hj;rw[h j (M7.mp hj)];exact k j hj
theorem EqD.det (I:Inv X jb σ H s):∀(d:Nat) (x y:V) (b b':Bool),EqD X.K H d x y b->EqD X.K H d x y b'->b=b':=by
 intro d
 induction d with
 | zero =>
  intro x y b b' h h';rw[h.2.2,h'.2.2]
 | succ d ih =>
  intro x y b b' h h';rcases h with⟨h1,h2,rfl⟩|⟨p,q,xs,ys,f,rfl,rfl,s1,s2,hf,rfl⟩|⟨p,q,xs,ys,f,rfl,rfl,s1,s2,hf,rfl⟩|⟨rfl,h⟩
  ·rcases h' with⟨h1',h2',rfl⟩|⟨p,q,xs,ys,f,rfl,rfl,s1,s2,hf,rfl⟩|⟨p,q,xs,ys,f,rfl,rfl,s1,s2,hf,rfl⟩|⟨rfl,h⟩
   ·rfl
   ·cases h1
   ·cases h1
   ·rcases h with⟨p,xs,rfl,_,h⟩|⟨p,xs,rfl,_,h⟩|⟨p,q,xs,ys,rfl,rfl,s1,s2⟩|⟨p,q,xs,ys,rfl,rfl,s1,s2⟩
    ·cases h1
    ·cases h2
    ·cases h1
    ·cases h1
  ·rcases h' with⟨h1',h2',rfl⟩|⟨p',q',xs',ys',f',e1,e2,s1',s2',hf',rfl⟩|⟨p',q',xs',ys',f',e1,e2,s1',s2',hf',rfl⟩|⟨rfl,h⟩
   ·cases h1'
   ·cases e1;cases e2;have:=I.tuple_inj s1 s1';subst this;have:=I.tuple_inj s2 s2';subst this;rw[Kh λj hj=>ih _ _ _ _ (hf j (xs[j]'(by omega)) (ys[j]'(by omega)) (D8 _) (D8 _)) (hf' j (xs[j]'(by omega)) (ys[j]'(by omega)) (D8 _) (D8 _))]
   ·cases e1;exact(W7 I s1 s1').elim
   ·rcases h with⟨p',xs',e1,_,h⟩|⟨p',xs',e1,_,h⟩|⟨p',q',xs',ys',e1,e2,s1',s2'⟩|⟨p',q',xs',ys',e1,e2,s1',s2'⟩
    ·cases h
    ·cases h
    ·cases e2;exact(W7 I s2 s2').elim
    ·cases e1;exact(W7 I s1 s1').elim
  ·rcases h' with⟨h1',h2',rfl⟩|⟨p',q',xs',ys',f',e1,e2,s1',s2',hf',rfl⟩|⟨p',q',xs',ys',f',e1,e2,s1',s2',hf',rfl⟩|⟨rfl,h⟩
   ·cases h1'
   ·cases e1;exact(W7 I s1' s1).elim
   ·cases e1;cases e2;have:=I.list_inj s1 s1';subst this;have:=I.list_inj s2 s2';subst this;rw[Kh λj hj=>ih _ _ _ _ (hf j (xs[j]'(by omega)) (ys[j]'(by omega)) (D8 _) (D8 _)) (hf' j (xs[j]'(by omega)) (ys[j]'(by omega)) (D8 _) (D8 _))]
   ·rcases h with⟨p',xs',e1,_,h⟩|⟨p',xs',e1,_,h⟩|⟨p',q',xs',ys',e1,e2,s1',s2'⟩|⟨p',q',xs',ys',e1,e2,s1',s2'⟩
    ·cases h
    ·cases h
    ·cases e1;exact(W7 I s1' s1).elim
    ·cases e2;exact(W7 I s2' s2).elim
  ·rcases h' with⟨h1',h2',rfl⟩|⟨p',q',xs',ys',f',rfl,rfl,s1',s2',hf',rfl⟩|⟨p',q',xs',ys',f',rfl,rfl,s1',s2',hf',rfl⟩|⟨rfl,h'⟩
   ·rcases h with⟨p,xs,rfl,_,h⟩|⟨p,xs,rfl,_,h⟩|⟨p,q,xs,ys,rfl,rfl,s1,s2⟩|⟨p,q,xs,ys,rfl,rfl,s1,s2⟩
    ·cases h1'
    ·cases h2'
    ·cases h1'
    ·cases h1'
   ·rcases h with⟨p,xs,e1,_,h⟩|⟨p,xs,e1,_,h⟩|⟨p,q,xs,ys,e1,e2,s1,s2⟩|⟨p,q,xs,ys,e1,e2,s1,s2⟩
    ·cases h
    ·cases h
    ·cases e2;exact(W7 I s2' s2).elim
    ·cases e1;exact(W7 I s1' s1).elim
   ·rcases h with⟨p,xs,e1,_,h⟩|⟨p,xs,e1,_,h⟩|⟨p,q,xs,ys,e1,e2,s1,s2⟩|⟨p,q,xs,ys,e1,e2,s1,s2⟩
    ·cases h
    ·cases h
    ·cases e1;exact(W7 I s1 s1').elim
    ·cases e2;exact(W7 I s2 s2').elim
   ·rfl
open Classical in
theorem Fi (I:Inv X jb σ H s)(hu:A.units+d<cLine)(r:Vals ys jf)(rx:RelV x v)(hf:∀(j:Nat) z,ys[j]?=some z->EqD X.K H d z x (f j)) :
   ∃e:A1->Bool,(∀y,y∈jf->AL A s y v (e y))/\jf.any e=(F6 ys.length).any f:=by
 have key:∀(j j':Nat) (z:A1),jf[j]?=some z->jf[j']?=some z->f j=f j':=by
  intro j j' z h h';obtain⟨hj,_⟩:=G4.mp h;obtain⟨hj',_⟩:=G4.mp h';obtain⟨w1,a1,b1⟩:=r.getE hj;obtain⟨w2,a2,b2⟩:=r.getE hj';rw[D8 hj] at h;rw[D8 hj'] at h';cases h;rw[M9 h'] at b2;have:=b1.inj b2;subst this;exact EqD.det I d _ _ _ _ (hf j _ a1) (hf j' _ a2)
 let e:A1->Bool:=λy=>decide (∃j,jf[j]?=some y/\f j=true)
 have he:∀(j:Nat) (y:A1),jf[j]?=some y->e y=f j:=by
  intro j y h;show decide _=_;cases hb:f j with
  |true=>exact jq ⟨j,h,hb⟩
  |false=>exact jr λ⟨j',h1,h2⟩=>by rw[key j j' y h h1,h2] at hb;cases hb
 refine⟨e,λy hy=>?_,?_⟩
 ·obtain⟨j,hj,rfl⟩:=C_ hy;obtain⟨w1,a1,b1⟩:=r.getE hj;rw[he j _ (D8 hj)];exact((hf j w1 a1).at I d A w1 x _ v (f j) hu b1 rx).1
 ·have hl:=r.length;rw[i6,Y9,Y9];constructor
  ·rintro⟨y,hy,h⟩;obtain⟨j,hj,rfl⟩:=C_ hy;exact⟨j,M7.mpr (by omega),by rw[<- he j _ (D8 hj)];exact h⟩
  ·rintro⟨j,hj,h⟩;have hj':j<jf.length:=by have:=M7.mp hj;omega
   exact⟨jf[j],BC hj',by rw[he j _ (D8 hj')];exact h⟩
theorem op_inD (d:Nat)(hu:X.A.units+(d+1)<cLine):OpR X (M1 .In) (rInD X.K d false):=by
 intro jb s σ H x y v u Q I rx ry h;obtain⟨p,ys,f,rfl,hq,hf,q⟩:=h;cases ry;rcases hq with hq|hq
 ·obtain⟨jf,r,il⟩:=I.sqL hq;obtain⟨e,h1,h2⟩:=Fi I (A:=X.A.in1) (by rw[Du];omega) r rx hf;refine SeqAt.in_listAt e il (λy hy=>h1 y (by simpa using hy)) ⟨.bl _,H,I,rfl,?_⟩;rw[show jf.toArray.any e=jf.any e by simp,h2];exact q
 ·obtain⟨jf,r,il⟩:=I.sqT hq;obtain⟨e,h1,h2⟩:=Fi I (A:=X.A.in1) (by rw[Du];omega) r rx hf;refine SeqAt.in_tupleAt e il (λy hy=>h1 y (by simpa using hy)) ⟨.bl _,H,I,rfl,?_⟩;rw[show jf.toArray.any e=jf.any e by simp,h2];exact q
theorem Py (d:Nat)(hu:X.A.units+(d+1)<cLine):OpR X (M1 .NotIn) (rInD X.K d true):=by
 intro jb s σ H x y v u Q I rx ry h;obtain⟨p,ys,f,rfl,hq,hf,q⟩:=h;cases ry;rcases hq with hq|hq
 ·obtain⟨jf,r,il⟩:=I.sqL hq;obtain⟨e,h1,h2⟩:=Fi I (A:=X.A.in1) (by rw[Du];omega) r rx hf;refine SeqAt.notIn_listAt e il (λy hy=>h1 y (by simpa using hy)) ⟨.bl _,H,I,rfl,?_⟩;rw[show jf.toArray.any e=jf.any e by simp,h2];exact q
 ·obtain⟨jf,r,il⟩:=I.sqT hq;obtain⟨e,h1,h2⟩:=Fi I (A:=X.A.in1) (by rw[Du];omega) r rx hf;refine SeqAt.notIn_tupleAt e il (λy hy=>h1 y (by simpa using hy)) ⟨.bl _,H,I,rfl,?_⟩;rw[show jf.toArray.any e=jf.any e by simp,h2];exact q
end
end L2
namespace Pu
open PySem PySem.Spec L2
def Z6:PV->Bool
 |.non=>true
 |.bl _=>true
 |.int _=>true
 |.str _=>true
 |_=>false
def cmpb:Nat->PV->Bool
 |0,x=>Z6 x
 |d+1,.tup xs=>xs.all (cmpb d)
 |d+1,.lst xs=>xs.all (cmpb d)
 |_+1,x=>Z6 x
mutual
def eqP:PV->PV->Bool
 |.non,.non=>true
 |.bl a,.bl b=>a == b
 |.bl a,.int b=>(if a then 1 else 0) == b
 |.int a,.bl b=>a == (if b then 1 else 0)
 |.int a,.int b=>a == b
 |.str a,.str b=>a == b
 |.tup xs,.tup ys=>eqPs xs ys
 |.lst xs,.lst ys=>eqPs xs ys
 |_,_=>false
def eqPs:List PV->List PV->Bool
 |[],[]=>true
 |x::xs,y::ys=>eqP x y&&eqPs xs ys
 |_,_=>false
end
theorem Hs:∀(xs ys:List PV),((F6 (min xs.length ys.length)).all (λj=>match xs[j]?,ys[j]? with|some x,some y=>eqP x y|_,_=>false)&&xs.length == ys.length)=eqPs xs ys
 |[],[]=>rfl
 |[],_::_=>rfl
 |_::_,[]=>rfl
 | x :: xs, y :: ys => by
  have ih:=Hs xs ys;show _=(eqP x y&&eqPs xs ys);rw[<- ih];simp only[K2,Nat.succ_min_succ,List.range_succ_eq_map,List.all_cons,Db,Function.comp_def,GC,CT];rw[Bool.and_assoc]
  congr 1
  simp
end Pu
end
section
namespace Pu
open PySem PySem.Spec L2
section
variable {K:A9}{G:Gh}{H:Hp}
inductive Sort3 (K:A9)(G:Gh)(H:Hp)(d:Nat)(x:PV)(v:V):Prop where
 |fl (h:T3 v=true) (s:Z6 x=true)
 |tp (p:A0) (xs:List PV) (vs:List V) (e:x=.tup xs) (ev:v=.ref p) (h:SqT K H p vs) (r:Reps K G H xs vs) (c:xs.all (cmpb d)=true)
 |ls (p:A0) (xs:List PV) (vs:List V) (e:x=.lst xs) (ev:v=.ref p) (h:SqL K H p vs) (r:Reps K G H xs vs) (c:xs.all (cmpb d)=true)
theorem Cc (s:Z6 x=true)(h:RdV K G H x v):T3 v=true:=by
 cases x with
 |non=>rw[h.non];rfl
 |bl b=>rw[h.bl];rfl
 |int b=>rw[h.int];rfl
 |str b=>rw[h.str];rfl
 |_=>cases s
theorem Fj (c:cmpb (d+1) x=true)(h:RdV K G H x v):Sort3 K G H d x v:=by
 cases x with
 | tup xs =>
  obtain⟨a,vs,e,t,r⟩:=h.tup;exact .tp a xs vs rfl e t r c
 | lst xs =>
  obtain⟨a,vs,e,t,r⟩:=h.lst;exact .ls a xs vs rfl e t r c
 |non=>exact .fl (Cc c h) c
 |bl _=>exact .fl (Cc c h) c
 |int _=>exact .fl (Cc c h) c
 |str _=>exact .fl (Cc c h) c
 |ty _=>cases c
 |pot _=>cases c
 |scr _=>cases c
 |dct _ _=>cases c
 |fdt _ _=>cases c
theorem Ki (sx:Z6 x=true)(sy:Z6 y=true)(hx:RdV K G H x v)(hy:RdV K G H y u):eqP x y=eqV v u:=by
 cases x with
 | non =>
  cases hx.non;cases y with
  |non=>cases hy.non;rfl
  |bl j=>cases hy.bl;rfl
  |int j=>cases hy.int;rfl
  |str j=>cases hy.str;rfl
  |_=>cases sy
 | bl i =>
  cases hx.bl;cases y with
  |non=>cases hy.non;rfl
  |bl j=>cases hy.bl;rfl
  |int j=>cases hy.int;rfl
  |str j=>cases hy.str;rfl
  |_=>cases sy
 | int i =>
  cases hx.int;cases y with
  |non=>cases hy.non;rfl
  |bl j=>cases hy.bl;rfl
  |int j=>cases hy.int;rfl
  |str j=>cases hy.str;rfl
  |_=>cases sy
 | str i =>
  cases hx.str;cases y with
  |non=>cases hy.non;rfl
  |bl j=>cases hy.bl;rfl
  |int j=>cases hy.int;rfl
  |str j=>cases hy.str;rfl
  |_=>cases sy
 |_=>cases sx
theorem Fk (sy:Z6 y=true):eqP (.tup xs) y=false/\eqP (.lst xs) y=false/\eqP y (.tup xs)=false/\eqP y (.lst xs)=false:=by
 cases y <;> first|exact⟨rfl,rfl,rfl,rfl⟩|cases sy
theorem Ht:∀(d:Nat) (x y:PV) (v u:V),cmpb d x=true->cmpb d y=true->RdV K G H x v->RdV K G H y u->EqD K H d v u (eqP x y):=by
 intro d
 induction d with
 |zero=>intro x y v u cx cy hx hy;exact⟨Cc cx hx,Cc cy hy,Ki cx cy hx hy⟩
 | succ d ih =>
  intro x y v u cx cy hx hy
  have el:∀(xs ys:List PV) (vs us:List V),Reps K G H xs vs->Reps K G H ys us->xs.all (cmpb d)=true->ys.all (cmpb d)=true->∀(j:Nat) x' y',vs[j]?=some x'->us[j]?=some y'->EqD K H d x' y' (match xs[j]?,ys[j]? with|some x,some y=>eqP x y|_,_=>false):=by
   intro xs ys vs us r1 r2 c1 c2 j x' y' e1 e2;obtain⟨x1,ex,rx⟩:=r1.get e1;obtain⟨y1,ey,ry⟩:=r2.get e2;rw[ex,ey];exact ih x1 y1 x' y' (J4.mp c1 x1 (J8 ex)) (J4.mp c2 y1 (J8 ey)) (.inl rx) (.inl ry)
  cases Fj cx hx with
  | fl fx sx =>
   cases Fj cy hy with
   |fl fy sy=>exact .inl ⟨fx,fy,Ki sx sy hx hy⟩
   |tp q ys us e ev h r c=>subst e;exact .inr (.inr (.inr ⟨(Fk sx).2.2.1,.inr (.inl ⟨q,us,ev,.inl h,fx⟩)⟩))
   |ls q ys us e ev h r c=>subst e;exact .inr (.inr (.inr ⟨(Fk sx).2.2.2,.inr (.inl ⟨q,us,ev,.inr h,fx⟩)⟩))
  | tp p xs vs e ev h r c =>
   subst e;cases Fj cy hy with
   |fl fy sy=>exact .inr (.inr (.inr ⟨(Fk sy).1,.inl ⟨p,vs,ev,.inl h,fy⟩⟩))
   | tp q ys us e2 ev2 h2 r2 c2 =>
    subst e2;refine .inr (.inl ⟨p,q,vs,us,_,ev,ev2,h,h2,el xs ys vs us r r2 c c2,?_⟩);rw[<- r.length,<- r2.length];exact(Hs xs ys).symm
   |ls q ys us e2 ev2 h2 r2 c2=>subst e2;exact .inr (.inr (.inr ⟨rfl,.inr (.inr (.inl ⟨p,q,vs,us,ev,ev2,h,h2⟩))⟩))
  | ls p xs vs e ev h r c =>
   subst e;cases Fj cy hy with
   |fl fy sy=>exact .inr (.inr (.inr ⟨(Fk sy).2.1,.inl ⟨p,vs,ev,.inr h,fy⟩⟩))
   |tp q ys us e2 ev2 h2 r2 c2=>subst e2;exact .inr (.inr (.inr ⟨rfl,.inr (.inr (.inr ⟨p,q,vs,us,ev,ev2,h,h2⟩))⟩))
   | ls q ys us e2 ev2 h2 r2 c2 =>
    subst e2;refine .inr (.inr (.inl ⟨p,q,vs,us,_,ev,ev2,h,h2,el xs ys vs us r r2 c c2,?_⟩));rw[<- r.length,<- r2.length];exact(Hs xs ys).symm
end
section
variable {T:PotK}{ι:Type}{K:A9}{F:ι->Cx}{e a b c:Expr}{es rest:List Expr}{pe pa pb pc:pE}{pos:Pos}
def grd (b:Bool)(P:Prop):Prop:=match b with|true=>P|false=>False
theorem grd_t {P:Prop}:grd true P=P:=rfl
theorem grd_i {b:Bool}{P:Prop}(h:b=true)(p:P):grd b P:=by subst h;exact p
theorem Fm {b:Bool}{P:Prop}(h:grd b P):b=true:=by grind [grd]
theorem Cd {b:Bool}{P:Prop}(h:grd b P):P:=by cases b;exact h.elim;exact h
theorem gd2 {a b:Bool}{P:Prop}(h1:a=true)(h2:b=true)(p:P):grd a (grd b P):=grd_i h1 (grd_i h2 p)
def wEq (d:Nat):w2:=λx y R=>grd (cmpb d x) (grd (cmpb d y) (R (.bl (eqP x y))))
def wNe (d:Nat):w2:=λx y R=>grd (cmpb d x) (grd (cmpb d y) (R (.bl (!eqP x y))))
theorem W2.eq (d:Nat):W2 K (rEqD K d false) (wEq d):=λG H x y v u R Q hf rx ry hw k=>⟨_,Ht d x y v u (Fm hw) (Fm (Cd hw)) rx ry,k _ _ _ (Cd (Cd hw)) (Same.refl _) rfl⟩
theorem W2.ne (d:Nat):W2 K (rEqD K d true) (wNe d):=λG H x y v u R Q hf rx ry hw k=>⟨_,Ht d x y v u (Fm hw) (Fm (Cd hw)) rx ry,k _ _ _ (Cd (Cd hw)) (Same.refl _) rfl⟩
def memP (x:PV)(ys:List PV):Bool:=ys.any λy=>eqP y x
def wIn (d:Nat)(neg:Bool):w2:=λx y R=>match x,y with
 |.str i,.str j=>R (.bl (if neg then !(!(BQ j i 0 j.length 1).isEmpty) else !(BQ j i 0 j.length 1).isEmpty))
 |x,.lst ys=>cmpb d x=true/\ys.all (cmpb d)=true/\R (.bl (if neg then !memP x ys else memP x ys))
 |x,.tup ys=>cmpb d x=true/\ys.all (cmpb d)=true/\R (.bl (if neg then !memP x ys else memP x ys))
 |_,_=>False
theorem Kj {x:PV}:∀ys:List PV,((F6 ys.length).any λj=>match ys[j]? with|some y=>eqP y x|none=>false)=memP x ys
 |[]=>rfl
 | y :: ys => by
  have ih:=Kj (x:=x) ys;show _=(eqP y x||memP x ys);rw[<- ih];simp only[K2,List.range_succ_eq_map,List.any_cons,AG,Function.comp_def,GC,CT]
theorem W2.in_ {K:A9}(d:Nat)(neg:Bool){r:R2}(hr:∀x y H Q,(∃i j,x=.str i/\y=.str j/\Q (.bl (if neg then !(!(BQ j i 0 j.length 1).isEmpty) else !(BQ j i 0 j.length 1).isEmpty)) H)\/rInD K d neg x y H Q->r x y H Q):W2 K r (wIn d neg):=by
 intro G H x y v u R Q hf rx ry hw k;refine hr _ _ _ _ ?_
 have seq:∀(ys:List PV) (p:A0) (us:List V),u=.ref p->(SqL K H p us\/SqT K H p us)->Reps K G H ys us->cmpb d x=true/\ys.all (cmpb d)=true/\R (.bl (if neg then !memP x ys else memP x ys))->rInD K d neg v u H Q:=by
  intro ys p us eu hq r h;refine⟨p,us,λj=>match ys[j]? with|some y=>eqP y x|none=>false,eu,hq,λj z ez=>?_,?_⟩
  ·obtain⟨y1,ey,ry⟩:=r.get ez;dsimp only;rw[ey];exact Ht d y1 x z v (J4.mp h.2.1 y1 (J8 ey)) h.1 (.inl ry) rx
  ·rw[<- r.length,Kj];exact k _ _ _ h.2.2 (Same.refl _) rfl
 unfold wIn at hw
 split at hw
 ·exact .inl ⟨_,_,rx.str,ry.str,k _ _ _ hw (Same.refl _) rfl⟩
 ·obtain⟨p,us,eu,hq,r⟩:=ry.lst;exact .inr (seq _ p us eu (.inl hq) r hw)
 ·obtain⟨p,us,eu,hq,r⟩:=ry.tup;exact .inr (seq _ p us eu (.inr hq) r hw)
 ·exact hw.elim
def wLt:w2:=λx y R=>match x,y with|.int i,.int j=>R (.bl (decide (i<j)))|.str i,.str j=>R (.bl (decide (i.cps.toList<j.cps.toList)))|_,_=>False
def wLe:w2:=λx y R=>match x,y with|.int i,.int j=>R (.bl (decide (i<=j)))|.str i,.str j=>R (.bl (!decide (j.cps.toList<i.cps.toList)))|_,_=>False
def wGt:w2:=wI0 λi j=>.bl (decide (j<i))
theorem W2.lt:W2 K (λx y H Q=>(rI0 λi j=>.bl (decide (i<j))) x y H Q\/∃i j,x=.str i/\y=.str j/\Q (.bl (decide (i.cps.toList<j.cps.toList))) H) wLt:=by
 intro G H x y v u R Q hf rx ry hw k;unfold wLt at hw
 split at hw
 ·exact .inl ⟨_,_,rx.int,ry.int,k _ _ _ hw (Same.refl _) rfl⟩
 ·exact .inr ⟨_,_,rx.str,ry.str,k _ _ _ hw (Same.refl _) rfl⟩
 ·exact hw.elim
theorem W2.le:W2 K (λx y H Q=>(rI0 λi j=>.bl (decide (i<=j))) x y H Q\/∃i j,x=.str i/\y=.str j/\Q (.bl (!decide (j.cps.toList<i.cps.toList))) H) wLe:=by
 intro G H x y v u R Q hf rx ry hw k;unfold wLe at hw
 split at hw
 ·exact .inl ⟨_,_,rx.int,ry.int,k _ _ _ hw (Same.refl _) rfl⟩
 ·exact .inr ⟨_,_,rx.str,ry.str,k _ _ _ hw (Same.refl _) rfl⟩
 grind
def isNon:PV->Bool
 |.non=>true
 |_=>false
def AT:w2:=λx y R=>match y with|.non=>R (.bl (!isNon x))|_=>False
theorem isnon {K:A9}{G:Gh}{H:Hp}{x:PV}{v:V}(h:RdV K G H x v):decide (v=.non)=isNon x:=by
 cases x with
 |non=>rw[h.non];rfl
 |bl b=>rw[h.bl];rfl
 |int b=>rw[h.int];rfl
 |str b=>rw[h.str];rfl
 |tup xs=>obtain⟨a,vs,e,_⟩:=h.tup;rw[e];rfl
 |lst xs=>obtain⟨a,vs,e,_⟩:=h.lst;rw[e];rfl
 |ty n=>rw[show v=.ty n from h.rep (λ_ z=>nomatch z)];rfl
 |pot k=>obtain⟨p,_,e⟩:=h.rep (λ_ z=>nomatch z);rw[e];rfl
 |scr k=>obtain⟨p,e,_⟩:=h.rep (λ_ z=>nomatch z);rw[e];rfl
 |dct ks xs=>obtain⟨a,jg,e,_⟩:=h.rep (λ_ z=>nomatch z);rw[e];rfl
 |fdt ks xs=>obtain⟨a,jg,e,_⟩:=h.rep (λ_ z=>nomatch z);rw[e];rfl
theorem W2.notN {K:A9}:W2 K (λx y H Q=>y=.non/\Q (.bl (!decide (x=.non))) H) AT:=by
 intro G H x y v u R Q hf rx ry hw k;unfold AT at hw
 split at hw
 ·refine⟨ry.non,k _ _ _ hw (Same.refl _) ?_⟩;rw[isnon rx]
  rfl
 ·exact hw.elim
structure Cmp {ι:Type}(K:A9)(F:ι->Cx)(op:CmpOp)(w:w2):Prop where
 ex:∃r,(∀z,OpR (F z) (M1 op) r)/\W2 K r w
theorem cEq (d:Nat)(hr:∀z,Room k (F z).A)(hd:d<=30:=by decide)(hK:∀z,(F z).K=K:=by intro _;rfl):Cmp K F .Eq (wEq d):=⟨_,λz=>hK z▸op_eqD d (by have:=(hr z).units;omega),W2.eq d⟩
theorem cNe (d:Nat)(hr:∀z,Room k (F z).A)(hd:d<=30:=by decide)(hK:∀z,(F z).K=K:=by intro _;rfl):Cmp K F .NotEq (wNe d):=⟨_,λz=>hK z▸op_neD d (by have:=(hr z).units;omega),W2.ne d⟩
theorem cIn (d:Nat)(hr:∀z,Room k (F z).A)(hd:d<=30:=by decide)(hK:∀z,(F z).K=K:=by intro _;rfl):Cmp K F .In (wIn d false):=⟨_,λz=>Oo.or (hK z▸op_inD d (by have:=(hr z).units;omega)),W2.in_ d false λ_ _ _ _ h=>h⟩
theorem j7 (d:Nat)(hr:∀z,Room k (F z).A)(hd:d<=30:=by decide)(hK:∀z,(F z).K=K:=by intro _;rfl):Cmp K F .NotIn (wIn d true):=⟨_,λz=>OR.or (hK z▸Py d (by have:=(hr z).units;omega)),W2.in_ d true λ_ _ _ _ h=>h⟩
theorem cLt:Cmp K F .Lt wLt:=⟨_,λ_=>GY.or On,W2.lt⟩
theorem cLe:Cmp K F .LtE wLe:=⟨_,λ_=>op_le.or Pr,W2.le⟩
theorem cGt:Cmp K F .Gt wGt:=⟨_,λ_=>op_gt,W2.I0 λ_ _ _ _=>rfl⟩
theorem Hu:Cmp K F .IsNot AT:=⟨_,λ_=>Op,W2.notN⟩
theorem L3 (hc:Cmp K F op w)(ha:QE T K F a pa)(hb:QR T K F b pb)(hm:Av op b=false):QE T K F (.Compare a [op] [b] pos) (qOp w pa pb):=by
 obtain⟨r,ho,hw⟩:=hc.ex;obtain⟨ta,h1,h2⟩:=ha;obtain⟨tb,h3,h4⟩:=hb;exact⟨_,λz=>Jz (ho z) (h1 z) (h3 z) hm,Dt hw h2 h4⟩
def qB (pe:pE):pT:=λenv n R=>pe env n λx jh n'=>match x with|.bl b=>R b jh n'|_=>False
theorem ok_b (h:EOk K T t pe):TOk K T (tB t) (qB pe):=λC G σ H env n R Q hK hT S hp k=>by
 refine h C G σ H env n _ _ hK hT S hp λx jh n' v H' r S' rp f=>?_;cases x with
 |bl b=>exact⟨b,rp,k _ _ _ _ r S' f⟩
 |_=>exact r.elim
theorem Hv (h:EOk K T t pe):TOk K T (GZ t) (qB pe):=λC G σ H env n R Q hK hT S hp k=>by
 refine h C G σ H env n _ _ hK hT S hp λx jh n' v H' r S' rp f=>?_;cases x with
 |bl b=>exact⟨b,rp,k _ _ _ _ r S' f⟩
 |_=>exact r.elim
theorem N3 (h:QE T K F e pe)(he:∀z whole,isTrue e (F z).env whole=(do let v ← whole;e7 e.pos;T9 [v] (truthy v)):=by intro _ _;rfl):QT T K F e (qB pe):=by
 obtain⟨t,h1,h2⟩:=h;exact⟨_,λz=>pt_val (h1 z) (he z),ok_b h2⟩
theorem E3 (hc:Cmp K F op w)(ha:QE T K F a pa)(hb:QR T K F b pb)(hm:Av op b=false):QT T K F (.Compare a [op] [b] pos) (qB (qOp w pa pb)):=by
 obtain⟨r,ho,hw⟩:=hc.ex;obtain⟨ta,h1,h2⟩:=ha;obtain⟨tb,h3,h4⟩:=hb;exact⟨_,λz=>Dm (ho z) (h1 z) (h3 z) hm,Hv (Dt hw h2 h4)⟩
theorem Pz (hc:Cmp K F op w)(ha:QR T K F a pa)(hb:QR T K F b pb)(hm:Av op b=false):QT T K F (.Compare a [op] [b] pos) (qB (qOpR w pa pb)):=by
 obtain⟨r,ho,hw⟩:=hc.ex;obtain⟨ta,h1,h2⟩:=ha;obtain⟨tb,h3,h4⟩:=hb;exact⟨_,λz=>Dm (ho z) (h1 z) (h3 z) hm,Hv (Ke hw h2 h4)⟩
def AU (w w':w2)(pa pb pc:pE):pE:=λenv n R=>pa env n λx jc n1=>pb jc n1 λy jd n2=>w x y λz=>match z with|.bl k=>if k=true then pc jd n2 λu je n3=>w' y u λz=>R z je n3 else R (.bl false) jd n2|_=>False
theorem Kk (hw:W2 K r w)(hw':W2 K r' w')(ha:EOk K T ta pa)(hb:EOk K T tb pb)(hc:EOk K T tc pc):EOk K T (G_ r r' ta tb tc) (AU w w' pa pb pc):=λC G σ H env n R Q hK hT S hp k=>by
 refine ha C G σ H env n _ _ hK hT S hp λx jc n1 v H1 p1 S1 r1 f1=>?_;refine hb C G σ H1 jc n1 _ _ hK hT S1 p1 λy jd n2 u H2 p2 S2 r2 f2=>?_;subst hK;refine hw G H2 x y v u _ _ (λp hp=>S2.fresh hp) (.inl (r1.fr f2)) (.inl r2) p2 λz v' H' rz s rv=>?_;cases z with
 | bl kk =>
  refine⟨kk,rv,?_⟩;cases kk with
  |false=>exact k _ _ _ _ _ rz (S2.same s) rfl ((f1.trans f2).trans (Fr.of s))
  | true =>
   refine hc C G σ H' jd n2 _ _ rfl hT (S2.same s) rz λc3 je n3 v3 H3 p3 S3 r3 f3=>?_;exact hw' G H3 y c3 u v3 _ _ (λp hp=>S3.fresh hp) (.inl ((r2.same s).fr f3)) (.inl r3) p3 λz v' H4 rz s4 rv=>k _ _ _ _ _ rz (S3.same s4) rv ((((f1.trans f2).trans (Fr.of s)).trans f3).trans (Fr.of s4))
 |_=>exact rz.elim
theorem Kl (hc:Cmp K F op w)(hc':Cmp K F op' w')(ha:QE T K F a pa)(hb:QE T K F b pb)(hcc:QE T K F c pc)(hm:lastMarks [op,op'] [b,c]=false:=by with_unfolding_all rfl):QE T K F (.Compare a [op,op'] [b,c] pos) (AU w w' pa pb pc):=by
 obtain⟨r,ho,hw⟩:=hc.ex;obtain⟨r',ho',hw'⟩:=hc'.ex;obtain⟨ta,a1,a2⟩:=ha;obtain⟨tb,b1,b2⟩:=hb;obtain⟨tc,c1,c2⟩:=hcc;exact⟨_,λz=>Oq (ho z) (ho' z) (a1 z) (b1 z) (c1 z) hm,Kk hw hw' a2 b2 c2⟩
theorem PB (hc:Cmp K F op w)(hc':Cmp K F op' w')(ha:QE T K F a pa)(hb:QE T K F b pb)(hcc:QE T K F c pc)(hm:lastMarks [op,op'] [b,c]=false:=by with_unfolding_all rfl):QT T K F (.Compare a [op,op'] [b,c] pos) (qB (AU w w' pa pb pc)):=by
 obtain⟨r,ho,hw⟩:=hc.ex;obtain⟨r',ho',hw'⟩:=hc'.ex;obtain⟨ta,a1,a2⟩:=ha;obtain⟨tb,b1,b2⟩:=hb;obtain⟨tc,c1,c2⟩:=hcc;exact⟨_,λz=>Os (ho z) (ho' z) (a1 z) (b1 z) (c1 z) hm,Hv (Kk hw hw' a2 b2 c2)⟩
variable {pt pu:pT}
def qAnd (t u:pT):pT:=λenv n R=>t env n λb jc n1=>if b=true then u jc n1 R else R false jc n1
def qOr (t u:pT):pT:=λenv n R=>t env n λb jc n1=>if b=true then R true jc n1 else u jc n1 R
def qNot (t:pT):pT:=λenv n R=>t env n λb jc n1=>R (!b) jc n1
theorem ok_and (h:TOk K T t pt)(h':TOk K T u pu):TOk K T (tAnd t u) (qAnd pt pu):=λC G σ H env n R Q hK hT S hp k=>by
 refine h C G σ H env n _ _ hK hT S hp λb jc n1 H1 p1 S1 f1=>?_;cases b with
 |true=>exact h' C G σ H1 jc n1 _ _ hK hT S1 p1 λb jd n2 H2 p2 S2 f2=>k _ _ _ _ p2 S2 (f1.trans f2)
 |false=>exact k _ _ _ _ p1 S1 f1
theorem ok_or (h:TOk K T t pt)(h':TOk K T u pu):TOk K T (tOr t u) (qOr pt pu):=λC G σ H env n R Q hK hT S hp k=>by
 refine h C G σ H env n _ _ hK hT S hp λb jc n1 H1 p1 S1 f1=>?_;cases b with
 |false=>exact h' C G σ H1 jc n1 _ _ hK hT S1 p1 λb jd n2 H2 p2 S2 f2=>k _ _ _ _ p2 S2 (f1.trans f2)
 |true=>exact k _ _ _ _ p1 S1 f1
theorem ok_not {K:A9}{t:TT}(h:TOk K T t pt):TOk K T (tNot t) (qNot pt):=λC G σ H env n R Q hK hT S hp k=>h C G σ H env n _ _ hK hT S hp λb jc n1 H1 p1 S1 f1=>k _ _ _ _ p1 S1 f1
theorem u4 (ha:QT T K F a pt):QW T K F (.BoolOp .And [a] pos) pt:=let ⟨t,h1,h2⟩:=ha;⟨t,λz=>Oa (h1 z),h2⟩
theorem W8 (ha:QT T K F a pt):QW T K F (.BoolOp .Or [a] pos) pt:=let ⟨t,h1,h2⟩:=ha;⟨t,λz=>pw_or1 (h1 z),h2⟩
theorem u5 (ha:QT T K F a pt)(hb:QW T K F (.BoolOp .And (b::rest) pos) pu):QW T K F (.BoolOp .And (a::b::rest) pos) (qAnd pt pu):=let ⟨t,h1,h2⟩:=ha;let ⟨u,h3,h4⟩:=hb;⟨_,λz=>pw_and (h1 z) (h3 z),ok_and h2 h4⟩
theorem U6 (ha:QT T K F a pt)(hb:QW T K F (.BoolOp .Or (b::rest) pos) pu):QW T K F (.BoolOp .Or (a::b::rest) pos) (qOr pt pu):=let ⟨t,h1,h2⟩:=ha;let ⟨u,h3,h4⟩:=hb;⟨_,λz=>pw_or (h1 z) (h3 z),ok_or h2 h4⟩
theorem QW.qt (h:QW T K F e pt):QT T K F e pt:=let ⟨t,h1,h2⟩:=h;⟨t,λz=>(h1 z).pt,h2⟩
theorem Q5 (ha:QT T K F a pt):QT T K F (.UnaryOp .Not a pos) (qNot pt):=let ⟨t,h1,h2⟩:=ha;⟨_,λz=>pt_not (h1 z),ok_not h2⟩
def T4 (pa pb:pE):pE:=λenv n R=>pa env n λx jc n1=>match x with|.bl b=>if b=true then pb jc n1 R else R (.bl false) jc n1|_=>False
def qOrV (pa pb:pE):pE:=λenv n R=>pa env n λx jc n1=>match x with|.bl b=>if b=true then R (.bl true) jc n1 else pb jc n1 R|_=>False
def Hw (pa:pE):pE:=λenv n R=>pa env n λx jc n1=>match x with|.bl b=>R (.bl (!b)) jc n1|_=>False
theorem Z7 {op}(h:QE T K F a pa):QE T K F (.BoolOp op [a] pos) pa:=let ⟨t,h1,h2⟩:=h;⟨t,λz=>pe_one (h1 z),h2⟩
theorem j8 (ha:QE T K F a pa)(hb:QE T K F (.BoolOp .And (b::rest) pos) pb):QE T K F (.BoolOp .And (a::b::rest) pos) (T4 pa pb):=by
 obtain⟨t,h1,h2⟩:=ha;obtain⟨u,h3,h4⟩:=hb;refine⟨_,λz=>pe_and (h1 z) (h3 z),λC G σ H env n R Q hK hT S hp k=>?_⟩;refine h2 C G σ H env n _ _ hK hT S hp λx jc n1 v H1 p1 S1 r1 f1=>?_;cases x with
 | bl c =>
  refine⟨c,r1,?_⟩;cases c with
  |true=>exact h4 C G σ H1 jc n1 _ _ hK hT S1 p1 λx jd n2 v H2 p2 S2 r2 f2=>k _ _ _ _ _ p2 S2 r2 (f1.trans f2)
  |false=>exact k _ _ _ _ _ p1 S1 rfl f1
 |_=>exact p1.elim
theorem Fn (ha:QE T K F a pa)(hb:QE T K F (.BoolOp .Or (b::rest) pos) pb):QE T K F (.BoolOp .Or (a::b::rest) pos) (qOrV pa pb):=by
 obtain⟨t,h1,h2⟩:=ha;obtain⟨u,h3,h4⟩:=hb;refine⟨_,λz=>pe_or (h1 z) (h3 z),λC G σ H env n R Q hK hT S hp k=>?_⟩;refine h2 C G σ H env n _ _ hK hT S hp λx jc n1 v H1 p1 S1 r1 f1=>?_;cases x with
 | bl c =>
  refine⟨c,r1,?_⟩;cases c with
  |false=>exact h4 C G σ H1 jc n1 _ _ hK hT S1 p1 λx jd n2 v H2 p2 S2 r2 f2=>k _ _ _ _ _ p2 S2 r2 (f1.trans f2)
  |true=>exact k _ _ _ _ _ p1 S1 rfl f1
 |_=>exact p1.elim
theorem qe_not (ha:QE T K F a pa):QE T K F (.UnaryOp .Not a pos) (Hw pa):=by
 obtain⟨t,h1,h2⟩:=ha;refine⟨_,λz=>pe_not (h1 z),λC G σ H env n R Q hK hT S hp k=>?_⟩;refine h2 C G σ H env n _ _ hK hT S hp λx jc n1 v H1 p1 S1 r1 f1=>?_;cases x with
 |bl c=>exact⟨c,r1,k _ _ _ _ _ p1 S1 rfl f1⟩
 |_=>exact p1.elim
def qIf (t:pT)(pa pb:pE):pE:=λenv n R=>t env n λb jc n1=>if b=true then pa jc n1 R else pb jc n1 R
theorem qe_if (hc:QT T K F c pt)(ha:QE T K F a pa)(hb:QE T K F b pb):QE T K F (.IfExp c a b pos) (qIf pt pa pb):=by
 obtain⟨tc,c1,c2⟩:=hc;obtain⟨t,h1,h2⟩:=ha;obtain⟨u,h3,h4⟩:=hb;refine⟨_,λz=>GS (c1 z) (h1 z) (h3 z),λC G σ H env n R Q hK hT S hp k=>?_⟩;refine c2 C G σ H env n _ _ hK hT S hp λd jc n1 H1 p1 S1 f1=>?_;cases d with
 |true=>exact h2 C G σ H1 jc n1 _ _ hK hT S1 p1 λx jd n2 v H2 p2 S2 r2 f2=>k _ _ _ _ _ p2 S2 r2 (f1.trans f2)
 |false=>exact h4 C G σ H1 jc n1 _ _ hK hT S1 p1 λx jd n2 v H2 p2 S2 r2 f2=>k _ _ _ _ _ p2 S2 r2 (f1.trans f2)
variable {pl pr:pA}
def qNil:pA:=λenv n R=>R [] env n
def A3 (pe:pE)(pr:pA):pA:=λenv n R=>pe env n λx jc n1=>pr jc n1 λxs jd n2=>R (x::xs) jd n2
theorem B3:QA T K F [] qNil:=⟨_,λ_=>K5,λC G σ H env n R Q hK hT S hp k=>k _ _ _ _ _ hp S Reps.nil Fr.refl⟩
theorem PC (h:EOk K T t pe)(h':AOk K T u pr):AOk K T (Z4 t u) (A3 pe pr):=λC G σ H env n R Q hK hT S hp k=>by
 refine h C G σ H env n _ _ hK hT S hp λx jc n1 v H1 p1 S1 r1 f1=>?_;exact h' C G σ H1 jc n1 _ _ hK hT S1 p1 λxs jd n2 vs H2 p2 S2 r2 f2=>k _ _ _ _ _ p2 S2 (.cons (r1.fr f2) r2) (f1.trans f2)
def F9:Expr->Bool
 |.Starred ..=>false
 |_=>true
theorem D9 (h:F9 e=true):F5 (e::es) env=(false,eval e env)::F5 es env:=by
 cases e <;> first|rfl|cases h
theorem A4 (ha:QE T K F e pe)(hr:QA T K F es pr)(h:F9 e=true:=by rfl):QA T K F (e::es) (A3 pe pr):=by
 obtain⟨t,h1,h2⟩:=ha;obtain⟨u,h3,h4⟩:=hr;exact⟨_,λz=>F8 (h1 z) (h3 z) (D9 h),PC h2 h4⟩
def qTup (pa:pA):pE:=λenv n R=>pa env n λxs jc n1=>xs.length<=1000000/\R (.tup xs) jc n1
def qLst (pa:pA):pA:=λenv n R=>pa env n λxs jc n1=>xs.length<=1000000/\R xs jc n1
def qL (pn:pA):pE:=λenv n R=>pn env n λxs jc n1=>R (.lst xs) jc n1
theorem J1 {x1}(h:QA T K F es pl):QE T K F (.Tuple es x1 pos) (qTup pl):=by
 obtain⟨t,h1,h2⟩:=h;refine⟨_,λz=>Fd (h1 z),λC G σ H env n R Q hK hT S hp k=>?_⟩;refine h2 C G σ H env n _ _ hK hT S hp λxs jc n1 vs H1 p1 S1 r1 f1=>⟨by rw[<- r1.length];exact mil p1.1,λp hp=>?_⟩;exact k _ _ _ _ _ p1.2 (S1.same (Same.lay1 hp)) (Cb (S1.fresh hp) hp r1) (f1.trans (Fr.of (Same.lay1 hp)))
theorem T5 (h:QA T K F es pl):QN T K F (.List es pos) (qLst pl):=by
 obtain⟨t,h1,h2⟩:=h;refine⟨_,λz=>JC (h1 z),λC G σ H env n R Q hK hT S hp k=>?_⟩;exact h2 C G σ H env n _ _ hK hT S hp λxs jc n1 vs H1 p1 S1 r1 f1=>⟨by rw[<- r1.length];exact mil p1.1,λp hp=>k _ _ _ _ _ _ p1.2 S1 f1 hp r1⟩
theorem QN.ee (h:QN T K F e pl):QE T K F e (qL pl):=by
 obtain⟨t,h1,h2⟩:=h;refine⟨t,h1,λC G σ H env n R Q hK hT S hp k=>?_⟩;refine h2 C G σ H env n _ _ hK hT S hp λxs jc n1 a vs Hb p1 S1 f1 hn r1=>?_;exact k _ _ _ _ _ p1 (S1.same (Same.lay1 hn)) (Ff (S1.fresh hn) hn r1) (f1.trans (Fr.of (Same.lay1 hn)))
theorem Dv (h:ROk K T t pe)(hK:C.K=K)(hT:C.T=T)(S:SR C G σ H env n)(hp:pe env n R)
   (k:∀x jh n' v H',R x jh n'->SR C G σ H' jh n'->RdS C G σ H' jh x v->Fr G H H'->Q [v] H'):Z4 t tNil σ H Q:=
 h C G σ H env n _ _ hK hT S hp λx jc n1 v H1 p1 S1 r1 f1=>k _ _ _ _ _ p1 S1 r1 f1
end
end Pu
end
section
namespace HT
open PySem PySem.Spec PyProof.Rows
section
variable {prog:D1}{w:C9}{A:D5}{E:A1->A5->Prop}{s:A5}
theorem getItem_tuple_whole {lo hi:Option Int}(ht:IsTup s.heap t items)(hs:s.heap.IsSliceOf sl vl vu .none)(pl:IsPart vl lo)(pu:IsPart vu hi)
   (hw:sIx items.size 0 lo=0/\sIx items.size items.size hi=items.size) (h:Q (.ref t) s):A6 (A7 prog w) A (getItem (.ref t) (.ref sl)) Q E s:=by
 obtain⟨os,hos,hcs,hds⟩:=id hs;have hTs:s.TypeIs (.ref sl) "slice":=⟨os,hos,hcs⟩;have hTt:s.TypeIs (.ref t) "tuple":=ht.typeIs;unfold getItem
 try with_reducible refine J7 ?_
 first|refine A2 (B2 ?_)|skip
 refine A2 (wpAny_sequenceKey ht.typeIs (by decide) ?_)
 refine A2 (X8 (name:=A8 "__getitem__") ht.typeIs EH
   (R0 EH ht.typeIs entry_tuple_getitem ?_ (args_tuple_getitem _ _)))
 show A6 _ _ (Ju (.ref t)>>=_) _ _ s;refine A2 (tupleItemsOf_ ht ?_);refine A2 (Ay hTs ?_);rw[jt (by decide)];refine A2 (JK hs pl pu ?_)
 have hyes:(((sIx items.size 0 lo:Nat):Int) == 0&&(1:Int) == 1&&(sIx items.size items.size hi-sIx items.size 0 lo) == items.size)=true:=by
  rw[hw.1,hw.2];simp
 show A6 _ _ (if(((sIx items.size 0 lo:Nat):Int) == 0&&(1:Int) == 1&&(sIx items.size items.size hi-sIx items.size 0 lo) == items.size)=true then _ else _) _ _ s;rw[jt hyes];unfold Builtin.Tuple.tupleIsExact;refine A2 (A2 (Ay hTt (B2 ?_)));rw[jt (by rfl)];exact A2 (d7 (B2 ⟨_,rfl,B2 h⟩))
end
end HT
namespace L2
open PySem PySem.Spec PyProof.Rows
section
variable {X:Cx}
def rSlTA (K:A9):V->Option Int->Option Int->Hp->VK->Prop:=λx lo hi H Q=>∃a xs,x=.ref a/\SqT K H a xs/\
 (cutV xs lo hi=xs->Q (.ref a) H)/\∀p,H p=none->Q (.ref p) (upd H p (.tup (cutV xs lo hi)))
theorem PF:SlR X (rSlTA X.K):=by
 intro jb s σ H x v vl vu lo hi sl Q I rx hs pl pu h;obtain⟨a,xs,rfl,hx,h1,h2⟩:=h
 by_cases hw:HT.sIx xs.length 0 lo=0/\HT.sIx xs.length xs.length hi=xs.length
 ·cases rx;obtain⟨jf,r,ht,hz⟩:=I.tuple hx;have hlen:jf.toArray.size=xs.length:=by rw[G5];exact r.length.symm
  refine⟨"tuple",_,PyProof.Rows.slot_tuple_getitem.lookup,ht.typeIs,?_⟩;refine HT.getItem_tuple_whole ht hs pl pu (by rw[hlen];exact hw) ⟨.ref a,H,I,rfl,h1 ?_⟩;unfold cutV;rw[hw.1,hw.2];simp
 ·exact sl_tup jb s σ H (.ref a) v vl vu lo hi sl Q I rx hs pl pu ⟨a,xs,rfl,hx,hw,h2⟩
end
end L2
namespace Pu
open PySem PySem.Spec L2
section
variable {T:PotK}{ι:Type}{K:A9}{F:ι->Cx}{e a b c:Expr}{es rest:List Expr}{pe pa pb pc:pE}{pos:Pos}{pl pr:pA}
def wIx:w2:=λx y R=>match x,y with
 |.lst xs,.int i=>match atI xs i with|some z=>R z|none=>False
 |.tup xs,.int i=>match atI xs i with|some z=>R z|none=>False
 |.scr ns,.int i=>match atI ns i with|some z=>R (.int z)|none=>False
 |.str z,.int i=>z.length<=1000000/\match atI z.cps.toList i with|some c=>R (.str ⟨#[c]⟩)|none=>False
 |_,_=>False
theorem Km (r:Reps K G H xs vs)(h:atI xs i=some z):∃v,atI vs i=some v/\Rep K G H z v:=by
 unfold atI at h ⊢;rw[<- r.length];cases e:ixN xs.length i with
 |none=>rw[e] at h;cases h
 | some j =>
  rw[e] at h;exact r.get' h
theorem Dw (h:RdV K G H (.scr ns) v):∃a,v=.ref a/\SqL K H a (ns.map V.int):=by
 obtain⟨a,e,h⟩:=h.rep (λ_ z=>nomatch z);refine⟨a,e,?_⟩;rcases h with⟨_,o,h⟩|h
 ·exact .inl (.inr ⟨o,h⟩)
 ·exact .inr h
theorem W2.ix:W2 K (rIx K) wIx:=by
 intro G H x y v u R Q hf rx ry hw k;unfold wIx at hw
 split at hw
 ·rename_i xs i;obtain⟨a,vs,ev,hq,r⟩:=rx.lst;cases ez:atI xs i with
  |none=>rw[ez] at hw;exact hw.elim
  | some z =>
   rw[ez] at hw;obtain⟨v',e1,r1⟩:=Km r ez;exact .inl ⟨a,vs,i,v',ev,ry.int,hq,e1,k _ _ _ hw (Same.refl _) r1⟩
 ·rename_i xs i;obtain⟨a,vs,ev,hq,r⟩:=rx.tup;cases ez:atI xs i with
  |none=>rw[ez] at hw;exact hw.elim
  | some z =>
   rw[ez] at hw;obtain⟨v',e1,r1⟩:=Km r ez;exact .inr (.inl ⟨a,vs,i,v',ev,ry.int,hq,e1,k _ _ _ hw (Same.refl _) r1⟩)
 ·rename_i ns i;obtain⟨a,ev,hq⟩:=Dw rx;cases ez:atI ns i with
  |none=>rw[ez] at hw;exact hw.elim
  | some z =>
   rw[ez] at hw;refine .inl ⟨a,_,i,.int z,ev,ry.int,hq,?_,k _ _ _ hw (Same.refl _) rfl⟩;unfold atI at ez ⊢;rw[B4];cases e:ixN ns.length i with
   |none=>rw[e] at ez;cases ez
   | some j =>
    rw[e] at ez;show(ns.map V.int)[j]?=_;rw[G9,show ns[j]?=some z from ez]
    rfl
 ·rename_i z i;obtain⟨hz,hw⟩:=hw;cases ez:atI z.cps.toList i with
  |none=>rw[ez] at hw;exact hw.elim
  | some c =>
   rw[ez] at hw;exact .inr (.inr ⟨z,i,c,rx.str,ry.int,mil hz,ez,k _ _ _ hw (Same.refl _) rfl⟩)
 ·exact hw.elim
theorem G6 (ha:QE T K F a pa)(hb:QE T K F b pb)(hs:He b:=by exact λ_ _=>rfl)(hK:∀z,(F z).K=K:=by intro _;rfl):QE T K F (.Subscript a b pos) (qOp wIx pa pb):=by
 obtain⟨ta,h1,h2⟩:=ha;obtain⟨tb,h3,h4⟩:=hb.r;exact⟨_,λz=>t7 (hK z▸JM) (h1 z) (h3 z) hs,Dt W2.ix h2 h4⟩
theorem Ce (ha:QR T K F a pa)(hb:QE T K F b pb)(hs:He b:=by exact λ_ _=>rfl)(hK:∀z,(F z).K=K:=by intro _;rfl):QE T K F (.Subscript a b pos) (qOpR wIx pa pb):=by
 obtain⟨ta,h1,h2⟩:=ha;obtain⟨tb,h3,h4⟩:=hb.r;exact⟨_,λz=>t7 (hK z▸JM) (h1 z) (h3 z) hs,Ke W2.ix h2 h4⟩
abbrev pO:=Env->Nat->(Option Int->Env->Nat->Prop)->Prop
def qNo:pO:=λenv n R=>R none env n
def O6 (pe:pE):pO:=λenv n R=>pe env n λx jc n1=>match x with|.int i=>R (some i) jc n1|_=>False
def OOk (K:A9)(T:PotK)(t:TO)(po:pO):Prop:=∀(C:Ct) (G:Gh) (σ:St) (H:Hp) (env:Env) (n:Nat) (R:Option Int->Env->Nat->Prop) (Q:Option Int->Hp->Prop),C.K=K->C.T=T->SR C G σ H env n->po env n R->
 (∀x jh n' H',R x jh n'->SR C G σ H' jh n'->Fr G H H'->Q x H')->t σ H Q
def QO {ι:Type}(T:PotK)(K:A9)(F:ι->Cx)(e:Option Expr)(po:pO):Prop:=∃t,(∀z,PO (F z) e t)/\OOk K T t po
theorem W9:QO T K F none qNo:=⟨_,λ_=>OH,λC G σ H env n R Q hK hT S hp k=>k _ _ _ _ hp S Fr.refl⟩
theorem U7 (h:QE T K F e pe):QO T K F (some e) (O6 pe):=by
 obtain⟨t,h1,h2⟩:=h;refine⟨_,λz=>OI (h1 z),λC G σ H env n R Q hK hT S hp k=>?_⟩;refine h2 C G σ H env n _ _ hK hT S hp λx jc n1 v H1 p1 S1 r1 f1=>?_;cases x with
 |int i=>exact⟨i,r1,k _ _ _ _ p1 S1 f1⟩
 |_=>exact p1.elim
def cutP {α:Type}(xs:List α)(lo hi:Option Int):List α:=(xs.drop (HT.sIx xs.length 0 lo)).take (HT.sIx xs.length xs.length hi-HT.sIx xs.length 0 lo)
theorem Reps.cut (r:Reps K G H xs vs)(lo hi:Option Int):Reps K G H (cutP xs lo hi) (cutV vs lo hi):=by
 unfold cutP cutV;rw[<- r.length];exact(r.drop _).take _
def wSl (x:PV)(lo hi:Option Int)(R:PV->Prop):Prop:=match x with
 |.lst xs=>R (.lst (cutP xs lo hi))
 |.scr ns=>R (.lst ((cutP ns lo hi).map PV.int))
 |.tup xs=>R (.tup (cutP xs lo hi))
 |.str z=>z.length<=1000000/\R (.str (Txt.slice z lo hi))
 |_=>False
def qSl (pe:pE)(pl ph:pO):pE:=λenv n R=>pe env n λx jc n1=>pl jc n1 λlo jd n2=>ph jd n2 λhi je n3=>wSl x lo hi λz=>R z je n3
theorem Hx {K:A9}{G:Gh}{H:Hp}:∀ns:List Int,Reps K G H (ns.map PV.int) (ns.map V.int)
 |[]=>rfl
 |i::ns=>⟨.int i,ns.map V.int,rfl,rfl,Hx ns⟩
theorem Hy {α β:Type}(f:α->β)(xs:List α)(lo hi:Option Int):cutP (xs.map f) lo hi=(cutP xs lo hi).map f:=by simp[cutP]
theorem sl_ok (hf:∀p,H p=none->p∉G.M)(rx:RdV K G H x v)(hw:wSl x lo hi R)(k:∀z v' H',R z->Same H H'->Rep K G H' z v'->Q v' H') :
   rSlL K v lo hi H Q\/rSlTA K v lo hi H Q\/rSlS v lo hi H Q:=by
 unfold wSl at hw
 split at hw
 ·obtain⟨a,vs,ev,hq,r⟩:=rx.lst;exact .inl ⟨a,vs,ev,hq,λp hp=>k _ _ _ hw (Same.lay1 hp) (Ff (hf p hp) hp (r.cut lo hi))⟩
 ·rename_i ns;obtain⟨a,ev,hq⟩:=Dw rx;refine .inl ⟨a,_,ev,hq,λp hp=>k _ _ _ hw (Same.lay1 hp) (Ff (hf p hp) hp ?_)⟩;have:=(Hx (K:=K) (G:=G) (H:=H) ns).cut lo hi;rw[Hy] at this;exact this
 ·obtain⟨a,vs,ev,t,r⟩:=rx.rep (λ_ z=>nomatch z);refine .inr (.inl ⟨a,vs,ev,t.sq,λz=>k _ _ _ hw (Same.refl _) ?_,λp hp=>k _ _ _ hw (Same.lay1 hp) (Cb (hf p hp) hp (r.cut lo hi))⟩);have rc:=r.cut lo hi;rw[z] at rc;exact⟨a,vs,rfl,t,rc⟩
 ·exact .inr (.inr ⟨_,rx.str,mil hw.1,k _ _ _ hw.2 (Same.refl _) rfl⟩)
 ·exact hw.elim
theorem V5 (he:QE T K F e pe)(hl:QO T K F lo ql)(hh:QO T K F hi qh)(hK:∀z,(F z).K=K:=by intro _;rfl):QE T K F (.Subscript e (.Slice lo hi none p2) pos) (qSl pe ql qh):=by
 obtain⟨t,h1,h2⟩:=he;obtain⟨tl,l1,l2⟩:=hl;obtain⟨th,u1,u2⟩:=hh;refine⟨_,λz=>OJ ((hK z▸OQ).or ((hK z▸PF).or sl_str)) (h1 z) (l1 z) (u1 z),λC G σ H env n R Q hK hT S hp k=>?_⟩;refine h2 C G σ H env n _ _ hK hT S hp λx jc n1 v H1 p1 S1 r1 f1=>?_;refine l2 C G σ H1 jc n1 _ _ hK hT S1 p1 λlo jd n2 H2 p2 S2 f2=>?_;refine u2 C G σ H2 jd n2 _ _ hK hT S2 p2 λhi je n3 H3 p3 S3 f3=>?_;exact sl_ok (λp hp=>S3.fresh hp) (.inl ((r1.fr f2).fr f3)) p3 λz v' H' rz s rv=>k _ _ _ _ _ rz (S3.same s) rv (((f1.trans f2).trans f3).trans (Fr.of s))
def WA1 (K:A9)(r:List V->Hp->VK->Prop)(w:w1):Prop:=∀(G:Gh) (H:Hp) (x:PV) (v:V) (R:PV->Prop) (Q:VK),(∀p,H p=none->p∉G.M)->RdV K G H x v->w x R->
 (∀z v' H',R z->Same H H'->Rep K G H' z v'->Q v' H')->r [v] H Q
theorem Ko (hw:WA1 K r w)(h:ROk K T t pe):EOk K T (tCB r (Z4 t tNil)) (qUn w pe):=λC G σ H env n R Q hK hT S hp k=>by
 refine Dv h hK hT S hp λx jc n1 v H1 p1 S1 r1 f1=>?_;subst hK;exact hw G H1 x v _ _ (λp hp=>S1.fresh hp) (r1.rd S1) p1 λz v' H' rz s rv=>k _ _ _ _ _ rz (S1.same s) rv (f1.trans (Fr.of s))
theorem Hz {id:String}(hc:∀z,N0 (F z) (.builtin id) r)(hw:WA1 K r w)(hg:∀z,Gl (F z) x)(hm:∀z,(F z).mg x=none)(hv:O2 x=some (.builtin id))(ha:QR T K F e pe)(hs:F9 e=true:=by rfl)(hn:x≠"__name__":=by decide)(hdb:(x == ("__debug__":Str))=false:=by decide) :
   QE T K F (.Call (.Name x p) [e] [] pos) (qUn w pe):=by
 obtain⟨t,h1,h2⟩:=ha;exact⟨_,λz=>AR (hc z) (hg z) (hm z) hv (F8 (h1 z) K5 (D9 hs)) hn hdb (D9 hs),Ko hw h2⟩
theorem qe_ct1 {id:String}(hc:∀z,N0 (F z) (.type id) r)(hw:WA1 K r w)(hg:∀z,Gl (F z) x)(hm:∀z,(F z).mg x=none)(hv:O2 x=some (.type id))(ha:QR T K F e pe)(hs:F9 e=true:=by rfl)(hn:x≠"__name__":=by decide)(hdb:(x == ("__debug__":Str))=false:=by decide) :
   QE T K F (.Call (.Name x p) [e] [] pos) (qUn w pe):=by
 obtain⟨t,h1,h2⟩:=ha;exact⟨_,λz=>Dn (hc z) (hg z) (hm z) hv (F8 (h1 z) K5 (D9 hs)) hn hdb (D9 hs),Ko hw h2⟩
def wLen:w1:=λx R=>match x with
 |.lst xs=>R (.int xs.length)
 |.tup xs=>R (.int xs.length)
 |.scr xs=>R (.int xs.length)
 |.str z=>z.length<=1000000/\R (.int z.length)
 |_=>False
theorem WA1.len:WA1 K (λxs H Q=>(∃p ys,xs=[.ref p]/\(SqL K H p ys\/SqT K H p ys)/\Q (.int ys.length) H)\/∃z,xs=[.str z]/\z.length<=C8/\Q (.int z.length) H) wLen:=by
 intro G H x v R Q hf rx hw k;unfold wLen at hw
 split at hw
 ·obtain⟨a,vs,ev,hq,r⟩:=rx.lst;exact .inl ⟨a,vs,by rw[ev],.inl hq,k _ _ _ hw (Same.refl _) (by rw[r.length];rfl)⟩
 ·obtain⟨a,vs,ev,hq,r⟩:=rx.tup;exact .inl ⟨a,vs,by rw[ev],.inr hq,k _ _ _ hw (Same.refl _) (by rw[r.length];rfl)⟩
 ·obtain⟨a,ev,hq⟩:=Dw rx;exact .inl ⟨a,_,by rw[ev],.inl hq,k _ _ _ hw (Same.refl _) (by rw[B4];rfl)⟩
 ·exact .inr ⟨_,by rw[rx.str],mil hw.1,k _ _ _ hw.2 (Same.refl _) rfl⟩
 ·exact hw.elim
theorem P1 (hg:∀z,Gl (F z) "len")(hm:∀z,(F z).mg "len"=none)(ha:QR T K F e pe)(hs:F9 e=true:=by rfl)(hK:∀z,(F z).K=K:=by intro _;rfl):QE T K F (.Call (.Name "len" p) [e] [] pos) (qUn wLen pe):=Hz (λz=>(hK z▸JO).or OT) WA1.len hg hm Hj ha hs
def j9:List PV->Option (List Bool)
 |[]=>some []
 |.bl b::xs=>(j9 xs).map (b::·)
 |_=>none
theorem HA {K:A9}{G:Gh}{H:Hp}:∀{xs:List PV} {vs:List V} {bs:List Bool},j9 xs=some bs->Reps K G H xs vs->vs=bs.map V.bl
 |[],vs,bs,h,r=>by cases h;exact r
 | .bl b :: xs, vs, bs, h, r => by
  obtain⟨v,t,e,rv,rt⟩:=r;cases e1:j9 xs with
  |none=>simp[j9,e1] at h
  | some cs =>
   have:b::cs=bs:=by simpa[j9,e1] using h
   subst this;rw[e,show v=.bl b from rv,HA e1 rt]
   rfl
 |.non::_,_,_,h,_=>by cases h
 |.int _::_,_,_,h,_=>by cases h
 |.str _::_,_,_,h,_=>by cases h
 |.ty _::_,_,_,h,_=>by cases h
 |.pot _::_,_,_,h,_=>by cases h
 |.tup _::_,_,_,h,_=>by cases h
 |.lst _::_,_,_,h,_=>by cases h
 |.dct _ _::_,_,_,h,_=>by cases h
 |.fdt _ _::_,_,_,h,_=>by cases h
 |.scr _::_,_,_,h,_=>by cases h
theorem Kp:∀bs:List Bool,j9 (bs.map PV.bl)=some bs
 |[]=>rfl
 |b::bs=>by simp[j9,Kp bs]
def wAll:w1:=λx R=>match x with|.lst xs=>(match j9 xs with|some bs=>R (.bl (bs.all id))|none=>False)|_=>False
def wAny:w1:=λx R=>match x with|.lst xs=>(match j9 xs with|some bs=>R (.bl (bs.any id))|none=>False)|_=>False
theorem Dx (hc:∀z,(F z).calm=true)(hg:∀z,Gl (F z) "all")(hm:∀z,(F z).mg "all"=none)(ha:QR T K F e pe)(hs:F9 e=true:=by rfl)(hK:∀z,(F z).K=K:=by intro _;rfl):QE T K F (.Call (.Name "all" p) [e] [] pos) (qUn wAll pe):=Hz (λz=>hK z▸Ph (hc z)) (λG H x v R Q hf rx hw k=>by
 unfold wAll at hw
 split at hw
 ·rename_i xs;obtain⟨a,vs,ev,hq,r⟩:=rx.lst
  split at hw
  ·rename_i bs eb;exact⟨a,bs,by rw[ev],HA eb r▸hq,k _ _ _ hw (Same.refl _) rfl⟩
  ·exact hw.elim
 ·exact hw.elim) hg hm bt_all ha hs
theorem Kq {p:Pos}(hc:∀z,(F z).calm=true)(hg:∀z,Gl (F z) "any")(hm:∀z,(F z).mg "any"=none)(ha:QR T K F e pe)(hs:F9 e=true:=by rfl)(hK:∀z,(F z).K=K:=by intro _;rfl):QE T K F (.Call (.Name "any" p) [e] [] pos) (qUn wAny pe):=Hz (λz=>hK z▸Pi (hc z)) (λG H x v R Q hf rx hw k=>by
 unfold wAny at hw
 split at hw
 ·rename_i xs;obtain⟨a,vs,ev,hq,r⟩:=rx.lst
  split at hw
  ·rename_i bs eb;exact⟨a,bs,by rw[ev],HA eb r▸hq,k _ _ _ hw (Same.refl _) rfl⟩
  ·exact hw.elim
 ·exact hw.elim) hg hm bt_any ha hs
def Z8:w1:=λx R=>match x with|.lst xs=>R (.tup xs)|.tup xs=>R (.tup xs)|_=>False
theorem Cf (hg:∀z,Gl (F z) "tuple")(hm:∀z,(F z).mg "tuple"=none)(ha:QR T K F e pe)(hs:F9 e=true:=by rfl)(hK:∀z,(F z).K=K:=by intro _;rfl):QE T K F (.Call (.Name "tuple" p) [e] [] pos) (qUn Z8 pe):=qe_ct1 (λz=>hK z▸OV) (λG H x v R Q hf rx hw k=>by
 unfold Z8 at hw
 split at hw
 ·obtain⟨a,vs,ev,hq,r⟩:=rx.lst;exact⟨a,vs,by rw[ev],.inl ⟨hq,λl hl=>k _ _ _ hw (Same.lay1 hl) (Cb (hf l hl) hl r)⟩⟩
 ·obtain⟨a,vs,ev,t,r⟩:=rx.rep (λ_ z=>nomatch z);exact⟨a,vs,by rw[ev],.inr ⟨t.sq,k _ _ _ hw (Same.refl _) ⟨a,vs,rfl,t,r⟩⟩⟩
 ·exact hw.elim) hg hm Hm ha hs
def X0 (pe:pE):pA:=λenv n R=>pe env n λx jc n1=>match x with|.lst xs=>R xs jc n1|.tup xs=>R xs jc n1|.scr ns=>R (ns.map PV.int) jc n1|_=>False
theorem Cg (hg:∀z,Gl (F z) "list")(hm:∀z,(F z).mg "list"=none)(ha:QR T K F e pe)(hs:F9 e=true:=by rfl)(hK:∀z,(F z).K=K:=by intro _;rfl):QN T K F (.Call (.Name "list" p) [e] [] pos) (X0 pe):=by
 obtain⟨t,h1,h2⟩:=ha;refine⟨_,λz=>Dn (hK z▸OU) (hg z) (hm z) Pk (F8 (h1 z) K5 (D9 hs)) (by decide) (by decide) (D9 hs),λC G σ H env n R Q hK hT S hp k=>?_⟩;refine Dv h2 hK hT S hp λx jc n1 v H1 p1 S1 r1 f1=>?_;have rd:RdV K G H1 x v:=hK▸r1.rd S1;cases x with
 | lst xs =>
  obtain⟨a,vs,ev,hq,r⟩:=rd.lst;exact⟨a,vs,by rw[ev],.inl hq,λl hl=>k _ _ _ _ _ _ p1 S1 f1 hl r⟩
 | tup xs =>
  obtain⟨a,vs,ev,hq,r⟩:=rd.tup;exact⟨a,vs,by rw[ev],.inr hq,λl hl=>k _ _ _ _ _ _ p1 S1 f1 hl r⟩
 | scr ns =>
  obtain⟨a,ev,hq⟩:=Dw rd;exact⟨a,_,by rw[ev],.inl hq,λl hl=>k _ _ _ _ _ _ p1 S1 f1 hl (Hx ns)⟩
 |_=>exact p1.elim
theorem tyw (hg:Gl X x)(hm:X.mg x=none)(hv:O2 x=some (.type m))(hn:x≠"__name__":=by decide)(hd:(x == ("__debug__":Str))=false:=by decide):EW X (.Name x pos) (tC (.ty m)):=⟨N_ (v:=.ty m) hg hm hv rfl hn hd⟩
def tyP:PV->Option String
 |.non=>some "NoneType"
 |.bl _=>some "bool"
 |.int _=>some "int"
 |.str _=>some "str"
 |.tup _=>some "tuple"
 |.lst _=>some "list"
 |.dct _ _=>some "dict"
 |_=>none
def isT (t n:String):Bool:=t == n||(t == "bool" && n == "int")
def wIsi (n:String):w1:=λx R=>match tyP x with|some t=>R (.bl (isT t n))|none=>False
theorem PH (ht:t∈["NoneType","bool","int","str","tuple","list","dict"])(hn:n∈["bool","int","str","tuple","list"]):CN K (.type t) (.type n)=some (isT t n):=by
 refine kit_of ?_;have:∀t∈["NoneType","bool","int","str","tuple","list","dict"],∀n∈["bool","int","str","tuple","list"],(if(K4 t == K4 n)=true then some true else if PySem.W.kitMeta n=true then(fastBuiltinMro t).map (·.contains (.type n)) else none)=some (isT t n):=by decide +kernel
 exact this t ht n hn
theorem Dy (hn:n∈["bool","int","str","tuple","list"])(hg:∀z,Gl (F z) "isinstance")(hm:∀z,(F z).mg "isinstance"=none)(ha:QE T K F a pa)(hb:∀z,EW (F z) b (tC (.ty n)))(hs:F9 a=true:=by rfl)(hs2:F9 b=true:=by rfl)(hK:∀z,(F z).K=K:=by intro _;rfl):QE T K F (.Call (.Name "isinstance" p) [a,b] [] pos) (qUn (wIsi n) pa):=by
 obtain⟨t,h1,h2⟩:=ha;refine⟨_,λz=>AR (hK z▸Pe) (hg z) (hm z) Pj (F8 (h1 z) (F8 (hb z).h K5 (D9 hs2)) (D9 hs)) (by decide) (by decide) (D9 hs) (by rw[D9 hs2];rfl),λC G σ H env n' R Q hK hT S hp k=>?_⟩;refine h2 C G σ H env n' _ _ hK hT S hp λx jc n1 v H1 p1 S1 r1 f1=>?_;unfold wIsi at p1
 have fin:∀t,TyOf K H1 v (.type t)->tyP x=some t->t∈["NoneType","bool","int","str","tuple","list","dict"]->∃x' n'' t' b',[v,V.ty n]=[x',.ty n'']/\TyOf K H1 x' t'/\CN K t' (.type n'')=some b'/\Q (.bl b') H1:=by
  intro t ty e m;rw[e] at p1;exact⟨v,n,_,_,rfl,ty,PH m hn,k _ _ _ _ _ p1 S1 rfl f1⟩
 cases x with
 |non=>cases(show v=.non from r1);exact fin _ .non rfl (by decide)
 |bl b=>cases(show v=.bl b from r1);exact fin _ (.bl b) rfl (by decide)
 |int b=>cases(show v=.int b from r1);exact fin _ (.int b) rfl (by decide)
 |str b=>cases(show v=.str b from r1);exact fin _ (.str b) rfl (by decide)
 |tup xs=>obtain⟨a,vs,rfl,t,r⟩:=r1;exact fin _ (.tup t.2) rfl (by decide)
 |lst xs=>obtain⟨a,vs,rfl,t,r⟩:=r1;exact fin _ (.lst t.2) rfl (by decide)
 |dct ks xs=>obtain⟨a,jg,rfl,_,t,r⟩:=r1;exact fin _ (.dK t) rfl (by decide)
 |ty n=>exact p1.elim
 |pot k=>exact p1.elim
 |fdt ks xs=>exact p1.elim
 |scr ns=>exact p1.elim
def F3 (K:A9)(T:PotK)(f:pF):Sp:=λvs H Q _=>∃(G:Gh) (xs:List PV) (n:Nat) (R:PV->Nat->Prop),(∀p∈G.pots,p∈G.M/\T.at_ G.M H p n)/\(∀a∈G.M,∃o,H a=some o/\MutO o)/\T.has G.pots/\Reps K G H xs vs/\f xs n R/\
 ∀r n' v H',R r n'->Rep K G H' r v->(∀p∈G.pots,T.at_ G.M H' p n')->(∀b o,b∉G.pots->H b=some o->H' b=some o)->Q v H'
def B7 (f:pF)(pa:pA):pE:=λenv n R=>pa env n λxs jc n1=>f xs n1 λr n2=>R r jc n2
theorem SR.call (S:SR C G σ H env n)(hk:∀b o,b∉G.pots->H b=some o->H' b=some o)(hp:∀p∈G.pots,C.T.at_ G.M H' p n'):SR C G σ H' env n' where
 frame b o hb e:=by
  by_cases hp:b∈G.pots
  ·-- a pot that is new since the entry has no old object
   obtain⟨l,el,_⟩:=S.pre;rw[el] at hp;rcases E2.mp hp with z|z
   ·exact absurd z hb
   ·have hM:=(S.pots b (by rw[el];exact hp)).1;rcases S.sub b hM with z2|z2
    ·exact(S.newp b (by rw[el];exact hp) hb z2).elim
    ·rw[z2] at e;cases e
  ·exact hk b o hp (S.frame b o hb e)
 sub:=S.sub
 sup:=S.sup
 pots p h:=⟨(S.pots p h).1,hp p h⟩
 pre:=S.pre
 mu a ha:=by
  by_cases h:a∈G.pots
  ·exact C.T.mu (hp a h)
  ·obtain⟨o,e,m⟩:=S.mu a ha;exact⟨o,hk a o h e,m⟩
 slots i x e:=by
  have f:Fr G H H':=λb o hb he=>hk b o (λz=>hb (S.pots b z).1) he;have:=S.slots i x e;cases x with
  | v x =>
   obtain⟨v,e1,r⟩:=this;exact⟨v,e1,r.fr f⟩
  | ow kk xs =>
   obtain⟨a,vs,e1,h1,h2,h3,h4,r⟩:=this;exact⟨a,vs,e1,h1,h2,h3,hk _ _ h3 h4,r.fr f⟩
 inj:=S.inj
 p0:=S.p0
 len:=S.len
 newp:=S.newp
theorem qe_fn (hG:∀z,Kn (F z).prog (F z).w (F z).K (F z).mg (F z).base x k ps (F3 K T f))(hr:∀z,Room j (F z).A)(hk:k<=j)(hg:∀z,Gl (F z) x)(ha:QA T K F (e::es) pl)(hdb:(x == ("__debug__":Str))=false:=by decide)
   (hs:F9 e=true:=by rfl) (hpl:∀z,(backTo pos (F5 es (F z).env)).any (·.1)=false:=by intro _;rfl):QE T K F (.Call (.Name x p) (e::es) [] pos) (B7 f pl):=by
 obtain⟨t,h1,h2⟩:=ha;refine⟨_,λz=>pe_fn (hG z) (hr z) hk (hg z) (h1 z) hdb (D9 hs) (hpl z),λC G σ H env n R Q hK hT S hp k=>?_⟩;refine h2 C G σ H env n _ _ hK hT S hp λxs jc n1 vs H1 p1 S1 r1 f1=>?_;subst hT;rw[R9];refine⟨G,xs,n1,_,λp hp=>S1.pots p hp,S1.mu,S1.hasG,r1,p1,λr n' v H' rr rv hp hk'=>?_⟩;exact k _ _ _ _ _ rr (S1.call hk' hp) rv (f1.trans λb o hb e=>hk' b o (λz=>hb (S1.pots b z).1) e)
end
end Pu
end
section
namespace Pu
open PySem PySem.Spec L2
abbrev pG:=PV->Env->(Env->Prop)->Prop
abbrev pGs:=List PV->Env->(Env->Prop)->Prop
def GOk (K:A9)(g:TG)(pg:pG):Prop:=∀(C:Ct) (G:Gh) (σ:St) (H:Hp) (env:Env) (n:Nat) (x:PV) (v:V) (R:Env->Prop) (Q:St->Hp->Prop),C.K=K->SR C G σ H env n->Rep K G H x v->pg x env R->
 (∀jh σ',R jh->SR C G σ' H jh n->Q σ' H)->g v σ H Q
def GsOk (K:A9)(g:TGs)(pg:pGs):Prop:=∀(C:Ct) (G:Gh) (σ:St) (H:Hp) (env:Env) (n:Nat) (x:List PV) (v:List V) (R:Env->Prop) (Q:St->Hp->Prop),C.K=K->SR C G σ H env n->Reps K G H x v->pg x env R->
 (∀jh σ',R jh->SR C G σ' H jh n->Q σ' H)->g v σ H Q
def QG {ι:Type}(K:A9)(F:ι->Cx)(e:Expr)(pg:pG):Prop:=∃g,(∀z,PG (F z) e g)/\GOk K g pg
def QGs {ι:Type}(K:A9)(F:ι->Cx)(e:List Expr)(pg:pGs):Prop:=∃g,(∀z,PGs (F z) e g)/\GsOk K g pg
def gN (i:Nat):pG:=λx env R=>R (env.set i (some (.v x)))
def gNl:pGs:=λxs env R=>match xs with|[]=>R env|_=>False
def gCn (g:pG)(r:pGs):pGs:=λxs env R=>match xs with|x::xs=>g x env λjc=>r xs jc R|[]=>False
def gTp (k:Nat)(g:pGs):pG:=λx env R=>match x with|.tup xs=>xs.length=k/\g xs env R|_=>False
theorem SR.set (S:SR C G σ H env n)(i:Nat)(r:Rep C.K G H x v):SR C G (σ.set i (some v)) H (env.set i (some (.v x))) n where
 frame:=S.frame
 sub:=S.sub
 sup:=S.sup
 pots:=S.pots
 pre:=S.pre
 mu:=S.mu
 slots j s e:=by
  by_cases h:i=j
  ·subst h
   by_cases hl:i<env.length
   ·rw[O7 hl] at e;cases e;exact⟨v,by rw[O7 (by rw[<- S.len];exact hl)],r⟩
   ·rw[Y6 (by rw[P0];omega)] at e;cases e
  ·rw[P6 h] at e ⊢;exact S.slots j s e
 inj j k xs ys a e1 e2 e3 e4:=by
  have nj:∀(j:Nat) (xs:OK×List PV),(env.set i (some (.v x)))[j]?=some (some (Slot.ow xs.1 xs.2))->i≠j:=by
   intro j xs e h;subst h
   by_cases hl:i<env.length
   ·rw[O7 hl] at e;cases e
   ·rw[Y6 (by rw[P0];omega)] at e;cases e
  have n1:=nj j xs e1;have n2:=nj k ys e2;rw[P6 n1] at e1 e3;rw[P6 n2] at e2 e4;exact S.inj j k xs ys a e1 e2 e3 e4
 p0:=S.p0
 len:=by rw[P0,P0];exact S.len
 newp:=S.newp
section
variable {T:PotK}{ι:Type}{K:A9}{F:ι->Cx}{e a b c:Expr}{es rest:List Expr}{pe pa pb pc:pE}{pos:Pos}{pl pr:pA}{pg:pG}{pgs:pGs}{pt:pT}
theorem AV (i:Nat)(hN:X.N.Nodup)(hi:X.N[i]?=some x)(hx:Loc X.env.scope x)(hf:X.fn x=true\/X.env.scope.names.lookup x=some .local:=by first|exact .inl rfl|exact .inr rfl|assumption):GW X (.Name x pos) (L9 i):=⟨Oc hN hi hx hf⟩
theorem PJ (h:∀z,GW (F z) (.Name x pos) (L9 i)):QG K F (.Name x pos) (gN i):=⟨_,λz=>(h z).h,λC G σ H env n x v R Q hK S r hp k=>k _ _ hp (S.set i (hK▸r))⟩
theorem k5:QGs K F [] gNl:=⟨_,λ_=>E_,λC G σ H env n x v R Q hK S r hp k=>by
 cases x with
 |nil=>exact⟨r,k _ _ hp S⟩
 |cons _ _=>exact hp.elim⟩
theorem O0 (h1:QG K F e pg)(h2:QGs K F es pgs)(hs:∀z,(J3 (e::es) (F z).env).map (·.2)=assign e (F z).env::(J3 es (F z).env).map (·.2):=by intro _;rfl):QGs K F (e::es) (gCn pg pgs):=by
 obtain⟨g,a1,a2⟩:=h1;obtain⟨gs,b1,b2⟩:=h2;refine⟨_,λz=>BY (a1 z) (b1 z) (hs z),λC G σ H env n x v R Q hK S r hp k=>?_⟩;cases x with
 |nil=>exact hp.elim
 | cons x xs =>
  obtain⟨u,us,rfl,ru,rs⟩:=r;exact⟨u,us,rfl,a2 C G σ H env n x u _ _ hK S ru hp λjh σ' re S'=>b2 C G σ' H jh n xs us _ _ hK S' rs re k⟩
theorem u6 (hc:∀z,(F z).calm=true)(h:QGs K F es pgs)(hn:∀z,(J3 es (F z).env).length=m:=by intro _;rfl)(hst:∀z,(J3 es (F z).env).findIdx? (·.1)=none:=by intro _;rfl)(hK:∀z,(F z).K=K:=by intro _;rfl):QG K F (.Tuple es k pos) (gTp m pgs):=by
 obtain⟨g,a1,a2⟩:=h;refine⟨_,λz=>hK z▸Fa (hc z) (a1 z) (hn z) (hst z),λC G σ H env n x v R Q hK S r hp k=>?_⟩;cases x with
 | tup xs =>
  obtain⟨a,vs,rfl,t,rs⟩:=r;exact⟨a,vs,rfl,t.sq,by rw[<- rs.length];exact hp.1,a2 C G σ H env n xs vs _ _ hK S rs hp.2 k⟩
 |_=>exact hp.elim
def ItR (K:A9)(G:Gh)(H:Hp)(J:It)(xs:List PV):Prop:=∀(G2:Gh) (H2:Hp),(∀b o,b∉G.M->H b=some o->H2 b=some o)->(∀a∈G2.M,a∈G.M\/H a=none)->(∀(k:Nat) (p:A0),G.pots[k]?=some p->G2.pots[k]?=some p)->(∀p,H2 p=none->p∉G2.M)->
 (∀(i:Nat) x,xs[i]?=some x->J.go i H2/\∀v H3,J.yld i H2 v H3->Same H2 H3/\Rep K G2 H3 x v)/\∀i,xs.length<=i->J.stop i H2
def IOk (K:A9)(T:PotK)(wi:TI)(pi:pA):Prop:=∀(C:Ct) (G:Gh) (σ:St) (H:Hp) (env:Env) (n:Nat) (R:List PV->Env->Nat->Prop) (Q:It->Hp->Prop),C.K=K->C.T=T->SR C G σ H env n->pi env n R->
 (∀xs jh n' J H',R xs jh n'->SR C G σ H' jh n'->Fr G H H'->ItR K G H' J xs->Q J H')->wi σ H Q
def QI {ι:Type}(T:PotK)(K:A9)(F:ι->Cx)(tg iter:Expr)(pi:pA):Prop:=∃wi,(∀z,PI (F z) tg iter wi)/\IOk K T wi pi
variable {tg:Expr}
theorem PL {a:A0}(t:AtL G.M H a vs)(r:Reps K G H xs vs):ItR K G H (Itl K a) xs:=by
 intro G2 H2 hk hM hp hf;have hq:SqL K H2 a vs:=SqL.of (hk a _ t.1 t.2);have r2:Reps K G2 H2 xs vs:=Reps.mono hk hM hp _ _ r;refine⟨λi x e=>?_,λi hi=>⟨vs,hq,by rw[<- r.length];exact hi⟩⟩;obtain⟨v,ev,rv⟩:=r2.get' e;refine⟨⟨vs,v,hq,ev⟩,λv' H3 y=>?_⟩;obtain⟨e3,y⟩:=y;subst e3;have:=y vs hq;rw[ev] at this;cases this;exact⟨Same.refl _,rv⟩
theorem PM {a:A0}(t:AtT G.M H a vs)(r:Reps K G H xs vs):ItR K G H (Itt K a) xs:=by
 intro G2 H2 hk hM hp hf;have hq:SqT K H2 a vs:=SqT.of (hk a _ t.1 t.2);have r2:Reps K G2 H2 xs vs:=Reps.mono hk hM hp _ _ r;refine⟨λi x e=>?_,λi hi=>⟨vs,hq,by rw[<- r.length];exact hi⟩⟩;obtain⟨v,ev,rv⟩:=r2.get' e;refine⟨⟨vs,v,hq,ev⟩,λv' H3 y=>?_⟩;obtain⟨e3,y⟩:=y;subst e3;have:=y vs hq;rw[ev] at this;cases this;exact⟨Same.refl _,rv⟩
def qIl (pe:pE):pA:=λenv n R=>pe env n λx jc n1=>match x with|.lst xs=>R xs jc n1|_=>False
def qIt (pe:pE):pA:=λenv n R=>pe env n λx jc n1=>match x with|.tup xs=>R xs jc n1|_=>False
theorem V6 (h:QE T K F e pe)(hK:∀z,(F z).K=K:=by intro _;rfl):QI T K F tg e (qIl pe):=by
 obtain⟨t,h1,h2⟩:=h;refine⟨_,λz=>hK z▸Oh (h1 z),λC G σ H env n R Q hK hT S hp k=>?_⟩;refine h2 C G σ H env n _ _ hK hT S hp λx jc n1 v H1 p1 S1 r1 f1=>?_;cases x with
 | lst xs =>
  obtain⟨a,vs,rfl,t,r⟩:=r1;exact⟨a,rfl,⟨vs,t.sq⟩,k _ _ _ _ _ p1 S1 f1 (PL t r)⟩
 |_=>exact p1.elim
theorem T6 (h:QE T K F e pe)(hK:∀z,(F z).K=K:=by intro _;rfl):QI T K F tg e (qIt pe):=by
 obtain⟨t,h1,h2⟩:=h;refine⟨_,λz=>hK z▸pi_tup (h1 z),λC G σ H env n R Q hK hT S hp k=>?_⟩;refine h2 C G σ H env n _ _ hK hT S hp λx jc n1 v H1 p1 S1 r1 f1=>?_;cases x with
 | tup xs =>
  obtain⟨a,vs,rfl,t,r⟩:=r1;exact⟨a,rfl,⟨vs,t.sq⟩,k _ _ _ _ _ p1 S1 f1 (PM t r)⟩
 |_=>exact p1.elim
theorem PN (lo:Int)(m:Nat):ItR K G H (Itr lo m) ((F6 m).map λ(k:Nat)=>PV.int (lo+k)):=by
 intro G2 H2 hk hM hp hf;refine⟨λi x e=>?_,λi hi=>(show m<=i by simpa using hi)⟩;rw[G9] at e;cases e1:(F6 m)[i]? with
 |none=>rw[e1] at e;cases e
 | some j =>
  rw[e1] at e;cases e;obtain⟨hi,e2⟩:=G4.mp e1;rw[List.getElem_range] at e2;subst e2;refine⟨(show i<m by simpa using hi),λv H3 y=>?_⟩;obtain⟨e3,y⟩:=y;subst e3 y;exact⟨Same.refl _,rfl⟩
def u7 (pe:pE):pA:=λenv n R=>pe env n λx jc n1=>match x with|.int j=>(-1000000<=j/\j<=1000000)/\R ((F6 j.toNat).map λ(k:Nat)=>PV.int (0+k)) jc n1|_=>False
theorem AX (hg:∀z,Gl (F z) "range")(hm:∀z,(F z).mg "range"=none)(h:QE T K F e pe)(hs:F9 e=true:=by rfl):QI T K F tg (.Call (.Name "range" p) [e] [] pos) (u7 pe):=by
 obtain⟨t,h1,h2⟩:=h;refine⟨_,λz=>Oj (hg z) (hm z) (F8 (h1 z) K5 (D9 hs)) (by rw[D9 hs];rfl),λC G σ H env n R Q hK hT S hp k=>?_⟩;refine Dv (pe:=pe) (λC G σ H env n R Q hK hT S hp k=>h2 C G σ H env n R Q hK hT S hp λx jh n' v H' r S' rp f=>k x jh n' v H' r S' (.inl (hK▸rp)) f) hK hT S hp λx jc n1 v H1 p1 S1 r1 f1=>?_;cases x with
 |int j=>exact⟨j,by rw[(r1.rd S1).int],by omega,by omega,k _ _ _ _ _ p1.2 S1 f1 (PN 0 _)⟩
 |_=>exact p1.elim
def qIs (pe:pE):pA:=λenv n R=>pe env n λx jc n1=>match x with|.str z=>z.cps.all (· < 128)=true/\R (z.cps.toList.map λc=>.str ⟨#[c]⟩) jc n1|_=>False
theorem qi_str (h:QE T K F e pe):QI T K F tg e (qIs pe):=by
 obtain⟨t,h1,h2⟩:=h;refine⟨_,λz=>pi_str (h1 z),λC G σ H env n R Q hK hT S hp k=>?_⟩;refine h2 C G σ H env n _ _ hK hT S hp λx jc n1 v H1 p1 S1 r1 f1=>?_;cases x with
 | str z =>
  refine⟨z,r1,p1.1,k _ _ _ _ _ p1.2 S1 f1 ?_⟩;intro G2 H2 hk hM hp hf;refine⟨λi x e=>?_,λi hi=>(show z.cps.toList.length<=i by simpa using hi)⟩;rw[G9] at e;cases e1:z.cps.toList[i]? with
  |none=>rw[e1] at e;cases e
  | some c =>
   rw[e1] at e;cases e;obtain⟨hi,_⟩:=G4.mp e1;refine⟨hi,λv H3 y=>?_⟩;obtain⟨e3,c',ec,ev⟩:=y;subst e3 ev;rw[e1] at ec;cases ec;exact⟨Same.refl _,rfl⟩
 |_=>exact p1.elim
def Dz (xs:List PV):List PV:=xs.zipIdx.map λy=>.tup [.int (y.2:Nat),y.1]
theorem HB {xs:List PV}{i:Nat}{x:PV}(h:(Dz xs)[i]?=some x):∃y,xs[i]?=some y/\x=.tup [.int (i:Nat),y]:=by
 unfold Dz at h;rw[G9,List.getElem?_zipIdx] at h;cases e:xs[i]? with
 |none=>rw[e] at h;cases h
 | some y =>
  rw[e] at h;cases h;exact⟨y,rfl,by simp⟩
theorem HC (xs:List PV):(Dz xs).length=xs.length:=by unfold Dz;simp
def capS:Option (Option Slot)->Option Slot
 |some (some (.v x))=>some (.v x)
 |_=>none
def capV (cs:List (Option Nat))(env:Env):Env:=cs.map λo=>o.bind λj=>capS (env[j]?)
def U8 (g:pG)(tt:pT)(te:pE):List PV->Env->Nat->(List PV->Nat->Prop)->Prop
 |[],_,n,R=>R [] n
 |x::xs,env,n,R=>g x env λjc=>tt jc n λb jd n2=>if b=true then te jd n2 λy je n3=>U8 g tt te xs je n3 λys n4=>R (y::ys) n4 else U8 g tt te xs jd n2 R
def qTru:pT:=λenv n R=>R true env n
def L4 (cs:List (Option Nat))(pi:pA)(g:pG)(tt:pT)(te:pE):pA:=λenv n R=>pi env n λxs jc n1=>xs.length<=1000000/\U8 g tt te xs (capV cs jc) n1 λys n2=>R ys jc n2
structure Inn (K:A9)(T:PotK)(G:Gh)(σ:St)(H:Hp)(env:Env)(n:Nat):Prop where
 pots:∀p∈G.pots,p∈G.M/\T.at_ G.M H p n
 has:T.has G.pots
 mu:∀a∈G.M,∃o,H a=some o/\MutO o
 slots:∀(i:Nat) (s:Slot),env[i]?=some (some s)->∃x v,s=.v x/\σ[i]?=some (some v)/\Rep K G H x v
 len:env.length=σ.length
theorem Inn.sr (I:Inn K T G σ H env n):SR ⟨K,T,G.M,G.pots,H,false⟩ G σ H env n where
 frame b o _ e:=e
 sub a ha:=.inl ha
 sup a ha:=ha
 pots:=I.pots
 pre:=⟨[],by simp,.inl rfl⟩
 mu:=I.mu
 slots i s e:=by
  obtain⟨x,v,rfl,ev,r⟩:=I.slots i s e;exact⟨v,ev,r⟩
 inj i j xs ys a e1:=by
  obtain⟨x,v,z,_⟩:=I.slots i _ e1;cases z
 p0:=⟨λp hp=>(I.pots p hp).1,I.has⟩
 len:=I.len
 newp p hp hn:=absurd hp hn
theorem SR.inn (S:SR ⟨K,T,G.M,G.pots,H0,false⟩ G σ H env n):Inn K T G σ H env n where
 pots:=S.pots
 has:=S.hasG
 mu:=S.mu
 slots i s e:=by
  cases s with
  | v x =>
   obtain⟨v,ev,r⟩:=S.slots i _ e;exact⟨x,v,rfl,ev,r⟩
  | ow kk xs =>
   obtain⟨a,vs,ev,h1,h2,_⟩:=S.slots i _ e;exact absurd h1 h2
 len:=S.len
theorem PP:TOk K T tTru qTru:=λC G σ H env n R Q hK hT S hp k=>k _ _ _ _ hp S Fr.refl
structure CI (K:A9)(T:PotK)(G:Gh)(H1:Hp)(D:A0)(σ:St)(H:Hp)(env:Env)(n:Nat)(jm:List PV)(us:List V):Prop where
 inn:Inn K T ⟨D::G.M,G.pots⟩ σ H env n
 kp:∀b o,b∉G.pots->H1 b=some o->H b=some o
 eD:H D=some (.lst us)
 ra:Reps K ⟨D::G.M,G.pots⟩ H jm us
theorem CI.start {K:A9}{T:PotK}{G:Gh}{H1:Hp}{D:A0}{σ:St}{env:Env}{n:Nat}(hD:H1 D=none)(I0:Inn K T G σ H1 env n):CI K T G H1 D σ (upd H1 D (.lst [])) env n [] []:=by
 have lay:∀b o,H1 b=some o->upd H1 D (.lst []) b=some o:=λb o e=>Same.lay1 hD b o e;have new:∀a,a∈D::G.M->a∈G.M\/H1 a=none:=λa ha=>(D0.mp ha).elim (λz=>.inr (z▸hD)) .inl;refine⟨⟨λp hp=>⟨C5 _ (I0.pots p hp).1,?_⟩,I0.has,λa ha=>?_,λi s e=>?_,I0.len⟩,λb o _ e=>lay b o e,E8,rfl⟩
 ·have h1:=T.more (M':=D::G.M) (I0.pots p hp).2 new;obtain⟨o,e,_⟩:=T.mu h1;exact T.keep h1 (by rw[e,lay p o e]) λb o _ e=>lay b o e
 ·rcases D0.mp ha with rfl|ha
  ·exact⟨_,E8,trivial⟩
  ·obtain⟨o,e,m⟩:=I0.mu a ha;exact⟨o,lay a o e,m⟩
 ·obtain⟨x,v,rfl,ev,r⟩:=I0.slots i s e;exact⟨x,v,rfl,ev,Rep.mono (G':=⟨D::G.M,G.pots⟩) (λb o _ e=>lay b o e) new (λ_ _ e=>e) _ _ r⟩
theorem CI.go {K:A9}{T:PotK}{G:Gh}{H1:Hp}{D:A0}{σ σ':St}{H H':Hp}{env jh:Env}{n n':Nat}{jm:List PV}{us:List V}(c:CI K T G H1 D σ H env n jm us)(nD:D∉G.pots)(S:SR ⟨K,T,D::G.M,G.pots,H,false⟩ ⟨D::G.M,G.pots⟩ σ' H' jh n'):CI K T G H1 D σ' H' jh n' jm us:=
 ⟨S.inn,λb o hb e=>S.frame b o hb (c.kp b o hb e),S.frame D _ nD c.eD,Reps.mono (λb o hb e=>S.frame b o (λz=>hb (c.inn.pots b z).1) e) (λa ha=>.inl ha) (λ_ _ e=>e) _ _ c.ra⟩
theorem CI.fD {G:Gh}(o:HO):Fr ⟨D::G.M,G.pots⟩ H (upd H D o):=λb u hb e=>by
 rw[C3 (λz=>hb (by rw[z];exact C6))];exact e
theorem CI.add {K:A9}{T:PotK}{G:Gh}{H1:Hp}{D:A0}{σ:St}{H:Hp}{env:Env}{n:Nat}{jm:List PV}{us:List V}{y:PV}{u:V}(c:CI K T G H1 D σ H env n jm us)(nD:D∉G.pots)(hD:H1 D=none)(r:Rep K ⟨D::G.M,G.pots⟩ H y u):CI K T G H1 D σ (upd H D (.lst (us++[u]))) env n (jm++[y]) (us++[u]):=by
 refine⟨⟨λp hp=>⟨(c.inn.pots p hp).1,T.keep (c.inn.pots p hp).2 (C3 λz=>nD (by rw[<- z];exact hp)) (CI.fD _)⟩,c.inn.has,λa ha=>?_,λq s e=>?_,c.inn.len⟩,λb o hb e=>?_,E8,(c.ra.append (.one r)).fr (CI.fD _)⟩
 ·by_cases haD:a=D
  ·subst haD;exact⟨_,E8,trivial⟩
  ·rw[C3 haD];exact c.inn.mu a ha
 ·obtain⟨x,v,rfl,ev,r⟩:=c.inn.slots q s e;exact⟨x,v,rfl,ev,r.fr (CI.fD _)⟩
 ·rw[C3 (λz=>by rw[z,hD] at e;cases e)];exact c.kp b o hb e
theorem CI.it {K:A9}{T:PotK}{G:Gh}{H1:Hp}{D:A0}{σ:St}{H:Hp}{env:Env}{n:Nat}{jm:List PV}{us:List V}{J:It}{xs:List PV}(c:CI K T G H1 D σ H env n jm us)(hD:H1 D=none)(hJ:ItR K G H1 J xs):(∀(i:Nat) x,xs[i]?=some x->J.go i H/\∀v H3,J.yld i H v H3->Same H H3/\Rep K ⟨D::G.M,G.pots⟩ H3 x v)/\∀i,xs.length<=i->J.stop i H:=
 hJ ⟨D::G.M,G.pots⟩ H (fun b o hb e=>by
  by_cases z:b∈G.pots
  ·obtain⟨h1,_⟩:=c.inn.pots b z;rcases D0.mp h1 with rfl|h1
   ·rw[hD] at e;cases e
   ·exact absurd h1 hb
  ·exact c.kp b o z e) (λa ha=>(D0.mp (show a∈D::G.M from ha)).elim (λz=>.inr (z▸hD)) .inl) (λ_ _ e=>e) λp hp=>c.inn.sr.fresh hp
theorem Ks {K:A9}{T:PotK}{J:It}{g:TG}{tt:TT}{te:TE}{pg:pG}{ptt:pT}{pte:pE}(hg:GOk K g pg)(ht:TOk K T tt ptt)(he:EOk K T te pte){G:Gh}{H1:Hp}{xs:List PV}(hJ:ItR K G H1 J xs)(hl:xs.length<=1000000)
   {σc:St} {env:Env} {n:Nat} {R:List PV->Nat->Prop} {Q:VK} {D:A0} (hD:H1 D=none) (I0:Inn K T G σc H1 env n) (hp:U8 pg ptt pte xs env n R)
   (hQ:∀ys n' us H',R ys n'->(∀p∈G.pots,T.at_ (D::G.M) H' p n')->(∀b o,b∉G.pots->H1 b=some o->H' b=some o)->H' D=some (.lst us)->Reps K ⟨D::G.M,G.pots⟩ H' ys us->Q (.ref D) H') :
   CompW J g tt te Q D σc (upd H1 D (.lst [])):=by
 have nD:D∉G.pots:=λz=>I0.sr.fresh hD (I0.pots D z).1;refine⟨λi m σ H=>m=xs.length-i/\i<=xs.length/\∃env n jm us,CI K T G H1 D σ H env n jm us/\jm.length<=i/\U8 pg ptt pte (xs.drop i) env n λys n'=>R (jm++ys) n',⟨xs.length,rfl,K1 _,env,n,[],[],.start hD I0,C7 _,hp⟩,?_⟩;rintro i m σ H ⟨rfl,hi,env,n,jm,us,c,la,hc⟩;obtain⟨hgo,hstop⟩:=c.it hD hJ
 by_cases hlt:i<xs.length
 ·obtain⟨g1,g2⟩:=hgo i _ (D8 hlt);refine .inr ⟨g1,λv H2 y=>?_⟩;obtain⟨s2,rv⟩:=g2 v H2 y;rw[w8 hlt] at hc;refine hg _ _ σ H2 env n xs[i] v _ _ rfl (c.inn.sr.same s2) rv hc λjc σ1 hc1 S2=>?_;refine ht _ _ σ1 H2 jc n _ _ rfl rfl S2 hc1 λb jd n2 H4 hc2 S4 f4=>?_;cases b with
  |false=>exact⟨xs.length-(i+1),Dc _ _ hlt,rfl,hlt,jd,n2,jm,us,c.go nD S4,Ex la,hc2⟩
  | true =>
   refine he _ _ σ1 H4 jd n2 _ _ rfl rfl S4 hc2 λy je n3 u H5 hc3 S5 r5 f5=>?_;have c5:=c.go nD S5;refine⟨us,c5.eD,by rw[<- c.ra.length];exact mil' (by omega),xs.length-(i+1),Dc _ _ hlt,rfl,hlt,je,n3,jm++[y],us++[u],c5.add nD hD r5,by rw[D4,O8];omega,?_⟩;simp only[N6];exact hc3
 ·obtain rfl:i=xs.length:=Nat.le_antisymm hi (BH hlt);refine .inl ⟨hstop _ (C7 _),?_⟩;rw[AD] at hc;have hc':R (jm++[]) n:=hc;rw[R9] at hc';exact hQ _ n us H hc' (λp hp=>(c.inn.pots p hp).2) c.kp c.eD c.ra
end
end Pu
end
section
namespace Pu
open PySem PySem.Spec L2
section
variable {T:PotK}{ι:Type}{K:A9}{F:ι->Cx}{e a b c:Expr}{es rest:List Expr}{pe pa pb pc:pE}{pos:Pos}{pl pr:pA}{pg:pG}{pgs:pGs}{pt:pT}
def QIf {ι:Type}(T:PotK)(K:A9)(F:ι->Cx)(jk:List Expr)(pt:pT):Prop:=∃t,(∀z,PIf (F z) jk t)/\TOk K T t pt
theorem R6:QIf T K F [] qTru:=⟨_,λ_=>JU,PP⟩
theorem Fo (h:QT T K F c pt):QIf T K F [c] pt:=let ⟨t,h1,h2⟩:=h;⟨t,λz=>Pc (h1 z),h2⟩
theorem Fp {C:Ct}{G:Gh}{σ:St}{H:Hp}{env:Env}{n:Nat}(S:SR C G σ H env n)(cs:List (Option Nat)):Inn C.K C.T G (Z5 cs σ) H (capV cs env) n where
 pots:=S.pots
 has:=S.hasG
 mu:=S.mu
 len:=by simp[capV,Z5]
 slots i s e:=by
  unfold capV at e;rw[G9] at e;cases ec:cs[i]? with
  |none=>rw[ec] at e;cases e
  | some o =>
   rw[ec] at e;cases o with
   |none=>cases e
   | some j =>
    have e':capS (env[j]?)=some s:=by simpa using e
    unfold capS at e'
    split at e'
    ·rename_i x ex;cases e';obtain⟨v,ev,r⟩:=S.slots j _ ex;refine⟨x,v,rfl,?_,r⟩;unfold Z5;rw[G9,ec];simp[ev]
    ·cases e'
def cutH (H:Hp)(D:A0):Hp:=λb=>if b=D then none else H b
theorem Q6 {H:Hp}{D b:A0}(h:b≠D):cutH H D b=H b:=ju h
theorem Fq {H:Hp}{D:A0}{o:HO}(h:H D=some o):upd (cutH H D) D o=H:=by
 funext b
 by_cases hb:b=D
 ·subst hb;rw[E8,h]
 ·rw[C3 hb,Q6 hb]
theorem U9 {scope:G0}{cl:ι->List (Str×A0)}{N:List Str}{cs:List (Option Nat)}{ji tg iter:Expr}{jk:List Expr}{pi:pA}{ptt:pT}{pte:pE}(S:∀z,W6 (F z) scope (cl z) N cs)(hc:∀z,(F z).calm=true)(hi:QI T K F tg iter pi)
   (hg:QG K (λy:ι×List A0×A0×A5×Hp=>E4 (F y.1) scope (cl y.1) N y.2.1 y.2.2.1 y.2.2.2.1 y.2.2.2.2) tg pg) (ht:QIf T K (λy:ι×List A0×A0×A5×Hp=>E4 (F y.1) scope (cl y.1) N y.2.1 y.2.2.1 y.2.2.2.1 y.2.2.2.2) jk ptt)
   (he:QE T K (λy:ι×List A0×A0×A5×Hp=>E4 (F y.1) scope (cl y.1) N y.2.1 y.2.2.1 y.2.2.2.1 y.2.2.2.2) ji pte)
   (hs:∀z x,Q9 iter (F z).env x=pure x:=by intro _ _;rfl):QN T K F (.ListComp ji [⟨tg,iter,jk,0⟩] scope pos) (L4 cs pi pg ptt pte):=by
 obtain⟨wi,i1,i2⟩:=hi;obtain⟨g,hg0,hg⟩:=hg;obtain⟨tt,ht0,ht⟩:=ht;obtain⟨te,he0,he⟩:=he;refine⟨_,λz=>JW (S z) (hc z) (i1 z) (λfp C s H=>⟨hg0 (z,fp,C,s,H),ht0 (z,fp,C,s,H),he0 (z,fp,C,s,H)⟩) (hs z),λC G σ H env n R Q hK hT S hp k=>?_⟩;refine i2 C G σ H env n _ _ hK hT S hp λxs jc n1 J H1 p1 S1 f1 hJ=>?_;intro D hD;have hDM:=S1.fresh hD;refine Ks (G:=G) hg ht he hJ p1.1 hD (hT▸hK▸Fp S1 cs) p1.2 λys n2 us H' rr hpots hk eD ry=>?_
 -- the heap without D
 have nD:∀b o,H1 b=some o->b≠D:=λb o e z=>by rw[z,hD] at e;cases e
 have hD0:C.H0 D=none:=by
  cases z:C.H0 D with
  |none=>rfl
  | some o =>
   by_cases hp:D∈C.pots0
   ·exact absurd (S1.sup D (S1.p0.1 D hp)) hDM
   ·have:=S1.frame D o hp z;rw[hD] at this;cases this
 have hk2:∀b o,b∉G.pots->H1 b=some o->cutH H' D b=some o:=λb o hb e=>by rw[Q6 (nD b o e)];exact hk b o hb e
 have nc:∀b,b∉D::G.M->b≠D:=λb hb z=>hb (by rw[z];exact C6);have np:∀p∈G.pots,p≠D:=λp hp z=>hDM (z▸(S1.pots p hp).1)
 have Sb:SR C G σ (cutH H' D) jc n2:=S1.call hk2 λp hp=>by
  subst hT;have h2:=C.T.keep (hpots p hp) (H':=cutH H' D) (Q6 (np p hp)) λb o hb e=>by rw[Q6 (nc b hb)];exact e
  exact C.T.more h2 λa ha=>.inl (C5 _ ha)
 have:=k ys jc n2 D us (cutH H' D) rr Sb (f1.trans λb o hb e=>hk2 b o (λz=>hb (S1.pots b z).1) e) (by unfold cutH;rw[jt rfl]) ?_
 ·rw[Fq eD] at this;exact this
 ·exact Reps.mono (G:=⟨D::G.M,G.pots⟩) (λb o hb e=>by rw[Q6 (nc b hb)];exact e) (λa ha=>.inl (C5 _ ha)) (λ_ _ e=>e) _ _ ry
end
end Pu
end
section
namespace Pu
open PySem PySem.Spec L2
structure AY where
 nx:Env->Nat->Prop
 rt:PV->Nat->Prop
 bk:Env->Nat->Prop:=λ_ _=>False
 ct:Env->Nat->Prop:=λ_ _=>False
abbrev pS:=AY->Env->Nat->Prop
structure Ext (G:Gh)(H:Hp)(G':Gh)(H':Hp):Prop where
 keep:∀b o,b∉G.M->H b=some o->H' b=some o
 new:∀a∈G'.M,a∈G.M\/H a=none
 pot:∀(k:Nat) (p:A0),G.pots[k]?=some p->G'.pots[k]?=some p
theorem Ext.refl:Ext G H G H:=⟨λ_ _ _ e=>e,λ_ h=>.inl h,λ_ _ e=>e⟩
theorem Ext.fr (f:Fr G H H'):Ext G H G H':=⟨f,λ_ h=>.inl h,λ_ _ e=>e⟩
theorem Ext.trans (a:Ext G H G1 H1)(b:Ext G1 H1 G2 H2):Ext G H G2 H2 where
 keep c o hc e:=b.keep c o (λz=>(a.new c z).elim hc λz=>by rw[z] at e;cases e) (a.keep c o hc e)
 new c hc:=(b.new c hc).elim (fun z=>a.new c z) fun z=>by
  by_cases hM:c∈G.M
  ·exact .inl hM
  ·refine .inr ?_;cases e:H c with
   |none=>rfl
   |some o=>rw[a.keep c o hM e] at z;cases z
 pot k p e:=b.pot k p (a.pot k p e)
structure Link (C:Ct)(G:Gh)(H:Hp)(PD:AY)(D:Ends):Prop where
 nx:∀env n G' σ H',PD.nx env n->SR C G' σ H' env n->Ext G H G' H'->D.nx σ H'
 rt:∀x n v G' σ H' env,PD.rt x n->SR C G' σ H' env n->Rep C.K ⟨C.M0,G'.pots⟩ H' x v->Ext G H G' H'->D.rt v H'
 bk:∀env n G' σ H',PD.bk env n->SR C G' σ H' env n->Ext G H G' H'->D.bk σ H'
 ct:∀env n G' σ H',PD.ct env n->SR C G' σ H' env n->Ext G H G' H'->D.ct σ H'
theorem Link.ext (L:Link C G H PD D)(x:Ext G H G' H'):Link C G' H' PD D:=
 ⟨λenv n G2 σ H2 p S e=>L.nx env n G2 σ H2 p S (x.trans e),λy n v G2 σ H2 env p S r e=>L.rt y n v G2 σ H2 env p S r (x.trans e),λenv n G2 σ H2 p S e=>L.bk env n G2 σ H2 p S (x.trans e),λenv n G2 σ H2 p S e=>L.ct env n G2 σ H2 p S (x.trans e)⟩
def SOk (K:A9)(T:PotK)(np:Bool)(t:TS)(ps:pS):Prop:=∀(C:Ct) (G:Gh) (σ:St) (H:Hp) (env:Env) (n:Nat) (PD:AY) (D:Ends),C.K=K->C.T=T->C.np=np->SR C G σ H env n->ps PD env n->Link C G H PD D->t D σ H
def QS {ι:Type}(T:PotK)(np:Bool)(K:A9)(F:ι->Cx)(st:Stmt)(ps:pS):Prop:=∃t,(∀z,PS (F z) st t)/\SOk K T np t ps
def QSs {ι:Type}(T:PotK)(np:Bool)(K:A9)(F:ι->Cx)(st:List Stmt)(ps:pS):Prop:=∃t,(∀z,PSs (F z) st t)/\SOk K T np t ps
theorem SR.out (S:SR C G σ H env n)(r:Rep C.K G H x v):Rep C.K ⟨C.M0,G.pots⟩ H x v:=
 Rep.mono (G':=⟨C.M0,G.pots⟩) (λ_ _ _ e=>e) (λa ha=>.inl (S.sup a ha)) (λ_ _ e=>e) _ _ r
theorem SR.old (S:SR C G σ H env n)(h:H a=none):C.H0 a=none:=by
 cases z:C.H0 a with
 |none=>rfl
 | some o =>
  by_cases hp:a∈C.pots0
  ·exact absurd (S.sup a (S.p0.1 a hp)) (S.fresh h)
  ·have:=S.frame a o hp z;rw[h] at this;cases this
theorem SR.moreO (S:SR C G σ H env n)(mo:MutO ob)(h:H a=none):SR C ⟨a::G.M,G.pots⟩ σ (upd H a ob) env n where
 frame b o hb e:=Same.lay1 h b o (S.frame b o hb e)
 sub b hb:=(D0.mp hb).elim (λz=>.inr (z▸S.old h)) (S.sub b)
 sup b hb:=C5 _ (S.sup b hb)
 pots p hp:=⟨C5 _ (S.pots p hp).1,by
  have h1:=C.T.more (M':=a::G.M) (S.pots p hp).2 (λc hc=>(D0.mp hc).elim (λz=>.inr (z▸h)) .inl);obtain⟨o,e,_⟩:=C.T.mu h1
  exact C.T.keep h1 (by rw[e,Same.lay1 h p o e]) λb o _ e=>Same.lay1 h b o e⟩
 pre:=S.pre
 mu b hb:=by
  rcases D0.mp hb with rfl|hb
  ·exact⟨_,E8,mo⟩
  ·obtain⟨o,e,m⟩:=S.mu b hb;exact⟨o,Same.lay1 h b o e,m⟩
 slots i s e:=by
  have mm:∀{x:PV} {v:V},Rep C.K G H x v->Rep C.K ⟨a::G.M,G.pots⟩ (upd H a ob) x v:=λr=>Rep.mono (G':=⟨a::G.M,G.pots⟩) (H':=upd H a ob) (λb o _ e=>Same.lay1 h b o e) (λc hc=>(D0.mp (show c∈a::G.M from hc)).elim (λz=>.inr (z▸h)) .inl) (λ_ _ e=>e) _ _ r;have:=S.slots i s e;cases s with
  | v x =>
   obtain⟨v,e1,r⟩:=this;exact⟨v,e1,mm r⟩
  | ow kk xs =>
   obtain⟨b,us,e1,h1,h2,h3,h4,r⟩:=this;exact⟨b,us,e1,C5 _ h1,h2,h3,Same.lay1 h _ _ h4,Reps.mono (G':=⟨a::G.M,G.pots⟩) (H':=upd H a ob) (λb o _ e=>Same.lay1 h b o e) (λc hc=>(D0.mp (show c∈a::G.M from hc)).elim (λz=>.inr (z▸h)) .inl) (λ_ _ e=>e) _ _ r⟩
 inj:=S.inj
 p0:=S.p0
 len:=S.len
 newp:=S.newp
theorem SR.more (S:SR C G σ H env n)(h:H a=none):SR C ⟨a::G.M,G.pots⟩ σ (upd H a (.lst vs)) env n:=S.moreO (ob:=.lst vs) trivial h
theorem SR.ow (S:SR C G σ H env n)(i:Nat)(kk:OK)(h:H a=none)(r:Reps C.K G H xs vs) :
   SR C ⟨a::G.M,G.pots⟩ (σ.set i (some (.ref a))) (upd H a (mkO kk vs)) (env.set i (some (.ow kk xs))) n:=by
 have S1:=S.moreO (Kd kk vs) h;have aM:a∉G.M:=S.fresh h;have r1:Reps C.K ⟨a::G.M,G.pots⟩ (upd H a (mkO kk vs)) xs vs:=Reps.mono (G':=⟨a::G.M,G.pots⟩) (H':=upd H a (mkO kk vs)) (λb o _ e=>Same.lay1 h b o e) (λc hc=>(D0.mp (show c∈a::G.M from hc)).elim (λz=>.inr (z▸h)) .inl) (λ_ _ e=>e) _ _ r
 have ja:∀(j:Nat) (ys:OK×List PV),env[j]?=some (some (Slot.ow ys.1 ys.2))->σ[j]?≠some (some (.ref a)):=by
  intro j ys e z;obtain⟨b,us,e1,h1,_⟩:=S.slots j _ e;rw[z] at e1;cases e1;exact aM h1
 exact {
  frame:=S1.frame
  sub:=S1.sub
  sup:=S1.sup
  pots:=S1.pots
  pre:=S1.pre
  mu:=S1.mu
  slots:=λj s e=>by
   by_cases hj:i=j
   ·subst hj
    by_cases hl:i<env.length
    ·rw[O7 hl] at e;cases e;exact⟨a,vs,by rw[O7 (by rw[<- S.len];exact hl)],C6,λz=>aM (S.sup a z),λz=>aM (S.pots a z).1,E8,r1⟩
    ·rw[Y6 (by rw[P0];omega)] at e;cases e
   ·rw[P6 hj] at e ⊢;exact S1.slots j s e
  inj:=fun j k xs' ys b e1 e2 e3 e4=>by
   by_cases hj:i=j
   ·by_cases hk:i=k
    ·omega
    ·subst hj;rw[P6 hk] at e2 e4
     by_cases hl:i<σ.length
     ·rw[O7 hl] at e3;cases e3;exact absurd e4 (ja k ys e2)
     ·rw[Y6 (by rw[P0];omega)] at e3;cases e3
   ·rw[P6 hj] at e1 e3
    by_cases hk:i=k
    ·subst hk
     by_cases hl:i<σ.length
     ·rw[O7 hl] at e4;cases e4;exact absurd e3 (ja j xs' e1)
     ·rw[Y6 (by rw[P0];omega)] at e4;cases e4
    ·rw[P6 hk] at e2 e4;exact S.inj j k xs' ys b e1 e2 e3 e4
  p0:=S.p0
  len:=by rw[P0,P0];exact S.len
  newp:=S.newp }
theorem SR.own (S:SR C G σ H env n)(i:Nat)(h:H a=none)(r:Reps C.K G H xs vs) :
   SR C ⟨a::G.M,G.pots⟩ (σ.set i (some (.ref a))) (upd H a (.lst vs)) (env.set i (some (.ow .lst xs))) n:=S.ow i .lst h r
theorem SR.putO {C:Ct}{G:Gh}{σ:St}{H:Hp}{env:Env}{n:Nat}(S:SR C G σ H env n){i:Nat}{kk:OK}(k':OK){a:A0}{xs ys:List PV}{vs:List V}(e:env[i]?=some (some (.ow kk xs)))(ea:σ[i]?=some (some (.ref a)))(r:Reps C.K G H ys vs) :
   SR C G σ (upd H a (mkO k' vs)) (env.set i (some (.ow k' ys))) n/\Fr G H (upd H a (mkO k' vs)):=by
 obtain⟨a',us,ea',aM,a0,ap,eH,_⟩:=S.slots i _ e;rw[ea] at ea';cases ea';have f:Fr G H (upd H a (mkO k' vs)):=λb o hb he=>by rw[C3 (λz=>hb (by grind))];exact he
 refine⟨{
  frame:=λb o hb he=>?_
  sub:=S.sub
  sup:=S.sup
  pots:=λp hp=>⟨(S.pots p hp).1,C.T.keep (S.pots p hp).2 (C3 λz=>ap (by grind)) f⟩
  pre:=S.pre
  mu:=λb hb=>?_
  slots:=λj s es=>?_
  inj:=λj k xs' ys' b e1 e2 e3 e4=>?_
  p0:=S.p0
  len:=by rw[P0];exact S.len
  newp:=S.newp },f⟩
 ·have hb2:b≠a:=λz=>by
   rcases S.sub a aM with z2|z2
   ·grind
   ·grind
  rw[C3 hb2];exact S.frame b o hb he
 ·by_cases hba:b=a
  ·subst hba;exact⟨_,E8,Kd k' vs⟩
  ·obtain⟨o,he,m⟩:=S.mu b hb;exact⟨o,by rw[C3 hba];exact he,m⟩
 ·by_cases hj:i=j
  ·subst hj;have hl:i<env.length:=(G4.mp e).1;rw[O7 hl] at es;cases es;exact⟨a,vs,ea,aM,a0,ap,E8,r.fr f⟩
  ·rw[P6 hj] at es;have:=S.slots j s es;cases s with
   | v x =>
    obtain⟨v,e1,r⟩:=this;exact⟨v,e1,r.fr f⟩
   | ow kz zs =>
    obtain⟨b,us',e1,h1,h2,h3,h4,r⟩:=this;have hba:b≠a:=λz=>hj (S.inj i j (kk,xs) (kz,zs) a e es ea (by rw[e1,z]));exact⟨b,us',e1,h1,h2,h3,by rw[C3 hba];exact h4,r.fr f⟩
 ·have back:∀(j:Nat) (zs:OK×List PV),(env.set i (some (.ow k' ys)))[j]?=some (some (Slot.ow zs.1 zs.2))->∃zs':OK×List PV,env[j]?=some (some (.ow zs'.1 zs'.2)):=by
   intro j zs h
   by_cases hj:i=j
   ·simp_all
   ·grind
  obtain⟨z1,e1'⟩:=back j xs' e1;obtain⟨z2,e2'⟩:=back k ys' e2;exact S.inj j k z1 z2 b e1' e2' e3 e4
theorem SR.put (S:SR C G σ H env n)(e:env[i]?=some (some (.ow .lst xs)))(ea:σ[i]?=some (some (.ref a)))(r:Reps C.K G H ys vs) :
   SR C G σ (upd H a (.lst vs)) (env.set i (some (.ow .lst ys))) n/\Fr G H (upd H a (.lst vs)):=S.putO .lst e ea r
section
variable {T:PotK}{np:Bool}{ι:Type}{K:A9}{F:ι->Cx}{e a b c:Expr}{es:List Expr}{st:Stmt}{rest:List Stmt}{pe pa pb pc:pE}{pos:Pos}{pl pr:pA}{pg:pG}{pt:pT}{p1 p2:pS}
def qNx:pS:=λD env n=>D.nx env n
def qSeq (p q:pS):pS:=λD env n=>p { D with nx:=λe m=>q D e m } env n
theorem E6:QSs T np K F [] qNx:=⟨_,λ_=>Jy,λC G σ H env n PD D hK hT hn S hp L=>L.nx _ _ _ _ _ hp S Ext.refl⟩
theorem B8 (h:QS T np K F st p1):QSs T np K F [st] p1:=let ⟨t,h1,h2⟩:=h;⟨t,λz=>EZ (h1 z),h2⟩
theorem B5 (h:QS T np K F st p1)(h':QSs T np K F rest p2):QSs T np K F (st::rest) (qSeq p1 p2):=by
 obtain⟨t,a1,a2⟩:=h;obtain⟨u,b1,b2⟩:=h';refine⟨_,λz=>Z3 (a1 z) (b1 z),λC G σ H env n PD D hK hT hn S hp L=>?_⟩;refine a2 C G σ H env n _ _ hK hT hn S hp ⟨λjc n1 G1 σ1 H1 q1 S1 x1=>?_,L.rt,L.bk,L.ct⟩;exact b2 C G1 σ1 H1 jc n1 PD D hK hT hn S1 q1 (L.ext x1)
theorem sw_set (hN:X.N.Nodup)(hi:X.N[i]?=some x)(hx:Loc X.env.scope x)(hs:d8 e (some (.Name x pos')) pos.line X.env=pure false:=by rfl)(hf:X.fn x=true\/X.env.scope.names.lookup x=some .local:=by first|exact .inl rfl|exact .inr rfl|assumption)(te:TE)(h:EW X e te):SW X (.Assign [.Name x pos'] e pos) (tAsg te (L9 i)):=⟨y0 hN hi hx h.h hs hf⟩
theorem u8 (hs:Bv [tg] e pos.line X.env=pure false:=by rfl)(hw:Bw [tg] e X.env=pure none:=by rfl)(h1:(J3 [tg] X.env).map (·.2)=[assign tg X.env]:=by rfl)(te:TE)(g:TG)(h:EW X e te)(hg:GW X tg g):SW X (.Assign [tg] e pos) (tAsg te g):=⟨GV h.h hg.h hs hw h1⟩
theorem X1 (hs:d8 e none pos.line X.env=pure false:=by rfl)(te:TE)(h:EW X e te):SW X (.Expr e pos) (GT te):=⟨Ob h.h hs⟩
def qSet (i:Nat)(pe:pE):pS:=λD env n=>pe env n λx jc n1=>D.nx (jc.set i (some (.v x))) n1
theorem L5 (i:Nat)(h:∀z te,EW (F z) e te->SW (F z) st (tAsg te (L9 i)))(he:QE T K F e pe):QS T np K F st (qSet i pe):=by
 obtain⟨t,a1,a2⟩:=he;refine⟨_,λz=>(h z _ ⟨a1 z⟩).h,λC G σ H env n PD D hK hT hn S hp L=>?_⟩;refine a2 C G σ H env n _ _ hK hT S hp λx jc n1 v H1 q1 S1 r1 f1=>?_;exact L.nx _ _ _ _ _ q1 (S1.set i (hK▸r1)) (Ext.fr f1)
def qOwn (i:Nat)(pn:pA):pS:=λD env n=>pn env n λxs jc n1=>D.nx (jc.set i (some (.ow .lst xs))) n1
theorem Ch {a:A0}(h:H a=none):Ext G H ⟨a::G.M,G.pots⟩ (upd H a o):=⟨λb u _ e=>Same.lay1 h b u e,λc hc=>(D0.mp (show c∈a::G.M from hc)).elim (λz=>.inr (z▸h)) .inl,λ_ _ e=>e⟩
theorem HD (i:Nat)(h:∀z te,EW (F z) e te->SW (F z) st (tAsg te (L9 i)))(he:QN T K F e pl):QS T np K F st (qOwn i pl):=by
 obtain⟨t,a1,a2⟩:=he;refine⟨_,λz=>(h z _ ⟨a1 z⟩).h,λC G σ H env n PD D hK hT hn S hp L=>?_⟩;refine a2 C G σ H env n _ _ hK hT S hp λxs jc n1 a vs Hb q1 S1 f1 hn1 r1=>?_;exact L.nx _ _ _ _ _ q1 (S1.own i hn1 (hK▸r1)) ((Ext.fr f1).trans (Ch hn1))
def qAsg (pe:pE)(g:pG):pS:=λD env n=>pe env n λx jc n1=>g x jc λjd=>D.nx jd n1
theorem Fs (h:∀z te g,EW (F z) e te->GW (F z) tg g->SW (F z) st (tAsg te g))(he:QE T K F e pe)(hg:QG K F tg pg):QS T np K F st (qAsg pe pg):=by
 obtain⟨t,a1,a2⟩:=he;obtain⟨g,b1,b2⟩:=hg;refine⟨_,λz=>(h z _ _ ⟨a1 z⟩ ⟨b1 z⟩).h,λC G σ H env n PD D hK hT hn S hp L=>?_⟩;refine a2 C G σ H env n _ _ hK hT S hp λx jc n1 v H1 q1 S1 r1 f1=>?_;exact b2 C G σ H1 jc n1 x v _ _ hK S1 r1 q1 λjh σ' re S'=>L.nx _ _ _ _ _ re S' (Ext.fr f1)
def P8 (pe:pE):pS:=λD env n=>pe env n λ_ jc n1=>D.nx jc n1
theorem X2 (h:∀z te,EW (F z) e te->SW (F z) st (GT te))(he:QE T K F e pe):QS T np K F st (P8 pe):=by
 obtain⟨t,a1,a2⟩:=he;refine⟨_,λz=>(h z _ ⟨a1 z⟩).h,λC G σ H env n PD D hK hT hn S hp L=>?_⟩;exact a2 C G σ H env n _ _ hK hT S hp λx jc n1 v H1 q1 S1 r1 f1=>L.nx _ _ _ _ _ q1 S1 (Ext.fr f1)
def qRet (pe:pE):pS:=λD env n=>pe env n λx _ n1=>D.rt x n1
theorem D2 (he:QE T K F e pe):QS T np K F (.Return (some e) pos) (qRet pe):=by
 obtain⟨t,a1,a2⟩:=he;refine⟨_,λz=>Dk (a1 z),λC G σ H env n PD D hK hT hn S hp L=>?_⟩;exact a2 C G σ H env n _ _ hK hT S hp λx jc n1 v H1 q1 S1 r1 f1=>L.rt _ _ _ _ _ _ _ q1 S1 (S1.out (hK▸r1)) (Ext.fr f1)
def Ft (i:Nat):pS:=λD env n=>match env[i]? with|some (some (.ow .lst xs))=>D.rt (.lst xs) n|_=>False
theorem PQ (i:Nat)(h:∀z,EW (F z) (.Name x p) (tVar i)):QS T np K F (.Return (some (.Name x p)) pos) (Ft i):=by
 refine⟨_,λz=>Dk (h z).h,λC G σ H env n PD D hK hT hn S hp L=>?_⟩;unfold Ft at hp
 split at hp
 ·rename_i xs ex;obtain⟨a,vs,ev,h1,h2,h3,h4,r⟩:=S.slots i _ ex;refine⟨.ref a,ev,L.rt _ _ _ _ _ _ _ hp S ⟨a,vs,rfl,⟨h2,h4⟩,?_⟩ Ext.refl⟩;exact Reps.mono (G':=⟨C.M0,G.pots⟩) (λ_ _ _ e=>e) (λa ha=>.inl (S.sup a ha)) (λ_ _ e=>e) _ _ r
 ·exact hp.elim
def qIfS (t:pT)(p q:pS):pS:=λD env n=>t env n λb jc n1=>if b=true then p D jc n1 else q D jc n1
theorem E7 (hc:QT T K F c pt)(h1:QSs T np K F x p1)(h2:QSs T np K F y p2):QS T np K F (.If c x y pos) (qIfS pt p1 p2):=by
 obtain⟨tc,c1,c2⟩:=hc;obtain⟨t,a1,a2⟩:=h1;obtain⟨u,b1,b2⟩:=h2;refine⟨_,λz=>ps_if (c1 z) (a1 z) (b1 z),λC G σ H env n PD D hK hT hn S hp L=>?_⟩;refine c2 C G σ H env n _ _ hK hT S hp λd jc n1 H1 q1 S1 f1=>?_;cases d with
 |true=>exact a2 C G σ H1 jc n1 PD D hK hT hn S1 q1 (L.ext (Ext.fr f1))
 |false=>exact b2 C G σ H1 jc n1 PD D hK hT hn S1 q1 (L.ext (Ext.fr f1))
def forL (g:pG)(b:pS)(D:AY):List PV->Env->Nat->Prop
 |[],env,n=>D.nx env n
 |x::xs,env,n=>g x env λjc=>b { D with nx:=λe m=>forL g b D xs e m,ct:=λe m=>forL g b D xs e m,bk:=D.nx } jc n
def qFor (pi:pA)(g:pG)(b:pS):pS:=λD env n=>pi env n λxs jc n1=>forL g b D xs jc n1
theorem Q7 (hc:∀z,(F z).calm=true)(hi:QI T K F tg iter pl)(hg:QG K F tg pg)(hb:QSs T np K F body p1)(hp:∀z,PassesOwn (A7 (F z).prog (F z).w) (F z).A (F z).env (F z).xe:=by intro _;exact PassesOwn.never)(hs:∀z x,Q9 iter (F z).env x=pure x:=by intro _ _;rfl):QS T np K F (.For tg iter body [] pos) (qFor pl pg p1):=by
 obtain⟨wi,i1,i2⟩:=hi;obtain⟨g,g1,g2⟩:=hg;obtain⟨t,b1,b2⟩:=hb;refine⟨_,λz=>ps_for (hp z) (hc z) (i1 z) (g1 z) (b1 z) (hs z),λC G σ H env n PD D hK hT hn S hp L=>?_⟩;refine i2 C G σ H env n _ _ hK hT S hp λxs jc n1 J H1 q1 S1 f1 hJ=>?_;have L1:=L.ext (Ext.fr f1);refine⟨λi m σ H=>m=xs.length-i/\i<=xs.length/\∃G' env n,SR C G' σ H env n/\Ext G H1 G' H/\forL pg p1 PD (xs.drop i) env n,⟨xs.length,by simp,K1 _,G,jc,n1,S1,Ext.refl,by simpa using q1⟩,?_⟩;rintro i m σ' H' ⟨rfl,hi,G',jh,n',S',x',q'⟩;have hf:∀p,H' p=none->p∉G'.M:=λp hp=>S'.fresh hp;obtain⟨hgo,hstop⟩:=hJ G' H' x'.keep x'.new x'.pot hf
 by_cases hlt:i<xs.length
 ·obtain⟨go1,go2⟩:=hgo i _ (D8 hlt);rw[w8 hlt] at q';refine .inr ⟨go1,λσ H=>∃G' env n,SR C G' σ H env n/\Ext G H1 G' H/\forL pg p1 PD (xs.drop (i+1)) env n,λσ2 H2 h2=>⟨xs.length-(i+1),by omega,rfl,hlt,h2⟩,λv H2 y=>?_⟩;obtain⟨s2,rv⟩:=go2 v H2 y;have x2:Ext G' H' G' H2:=Ext.fr (Fr.of s2);refine g2 C G' σ' H2 jh n' _ v _ _ hK (S'.same s2) rv q' λjd σ2 q2 S2=>?_;refine b2 C G' σ2 H2 jd n' _ _ hK hT hn S2 q2 ⟨λe3 n3 G3 σ3 H3 q3 S3 x3=>?_,λy n3 v G3 σ3 H3 e3 q3 S3 r3 x3=>?_,λe3 n3 G3 σ3 H3 q3 S3 x3=>?_,λe3 n3 G3 σ3 H3 q3 S3 x3=>?_⟩
  ·exact⟨G3,e3,n3,S3,(x'.trans x2).trans x3,q3⟩
  ·exact L1.rt _ _ _ _ _ _ _ q3 S3 r3 ((x'.trans x2).trans x3)
  ·exact L1.nx _ _ _ _ _ q3 S3 ((x'.trans x2).trans x3)
  ·exact⟨G3,e3,n3,S3,(x'.trans x2).trans x3,q3⟩
 ·have ei:i=xs.length:=by omega
  subst ei;rw[AD] at q';exact .inl ⟨hstop _ (C7 _),L1.nx _ _ _ _ _ q' S' x'⟩
def Aa (t:pT)(b:pS)(D:AY):Nat->Env->Nat->Prop
 |0,_,_=>False
 |k+1,env,n=>t env n λc jc n1=>if c=true then b { D with nx:=λe m=>Aa t b D k e m,ct:=λe m=>Aa t b D k e m,bk:=D.nx } jc n1 else D.nx jc n1
def Kt (t:pT)(b:pS):pS:=λD env n=>∃k,Aa t b D k env n
theorem PR (hc:QT T K F c pt)(hb:QSs T np K F body p1)(hp:∀z,PassesOwn (A7 (F z).prog (F z).w) (F z).A (F z).env (F z).xe:=by intro _;exact PassesOwn.never):QS T np K F (.While c body [] pos) (Kt pt p1):=by
 obtain⟨tc,c1,c2⟩:=hc;obtain⟨t,b1,b2⟩:=hb;refine⟨_,λz=>Od (hp z) (c1 z) (b1 z),λC G σ H env n PD D hK hT hn S hp L=>?_⟩;obtain⟨k,hp⟩:=hp;refine⟨λm σ H'=>∃G' env n,SR C G' σ H' env n/\Ext G H G' H'/\Aa pt p1 PD m env n,⟨k,G,env,n,S,Ext.refl,hp⟩,?_⟩;rintro m σ1 H1 ⟨G1,jc,n1,S1,x1,q1⟩;cases m with
 |zero=>exact q1.elim
 | succ m =>
  refine c2 C G1 σ1 H1 jc n1 _ _ hK hT S1 q1 λd jd n2 H2 q2 S2 f2=>?_;have x2:=x1.trans (Ext.fr f2);cases d with
  |false=>exact iteF (L.nx _ _ _ _ _ q2 S2 x2)
  | true =>
   refine iteT ⟨λσ H'=>∃G' env n,SR C G' σ H' env n/\Ext G H G' H'/\Aa pt p1 PD m env n,λσ' H' h=>⟨m,by omega,h⟩,?_⟩;exact b2 C G1 σ1 H2 jd n2 _ _ hK hT hn S2 q2 ⟨λe3 n3 G3 σ3 H3 q3 S3 x3=>⟨G3,e3,n3,S3,x2.trans x3,q3⟩,λy n3 v G3 σ3 H3 e3 q3 S3 r3 x3=>L.rt _ _ _ _ _ _ _ q3 S3 r3 (x2.trans x3),λe3 n3 G3 σ3 H3 q3 S3 x3=>L.nx _ _ _ _ _ q3 S3 (x2.trans x3),λe3 n3 G3 σ3 H3 q3 S3 x3=>⟨G3,e3,n3,S3,x2.trans x3,q3⟩⟩
def HF (i:Nat)(pe:pE):pE:=λenv n R=>pe env n λy jc n1=>match jc[i]? with|some (some (.ow .lst xs))=>xs.length<1000000/\R .non (jc.set i (some (.ow .lst (xs++[y])))) n1|_=>False
theorem AZ (i:Nat)(hv:∀z,EW (F z) (.Name x p) (tVar i))(he:QE T K F e pe)(hs:F9 e=true:=by rfl)(hbase:∀z,Aw (.Name x p) "append" (F z).env (eval (.Name x p) (F z).env)=eval (.Name x p) (F z).env:=by intro _;rfl)(hline:(ap.endLine == pos.line)=true:=by rfl)
   (hfew:∀z,((backTo pos (F5 [e] (F z).env)).all (λx=>!x.1)&&(e6 pos (d5 [] (F z).env)).all (λx=>x.1.isSome)&&decide (([e]:List Expr).length+([]:List R8).length+(if([]:List R8).isEmpty then 0 else 1)<30))=true:=by intro _;rfl) (hK:∀z,(F z).K=K:=by intro _;rfl):QE T K F (.Call (.Attribute (.Name x p) "append" ap) [e] [] pos) (λenv n R=>(∃xs,env[i]?=some (some (.ow .lst xs)))/\HF i pe env n R):=by
 obtain⟨t,a1,a2⟩:=he;refine⟨tBM K "list" JP (tVar i) (Z4 t tNil),λz=>hK z▸B_ EO PySem.F.slot_list_append PySem.F.type_list_append JQ (hv z).h (F8 (a1 z) K5 (D9 hs)) (hbase z) (hfew z) hline (D9 hs),λC G σ H env n R Q hK hT S hp k=>?_⟩;obtain⟨⟨xs0,e0⟩,hp⟩:=hp;obtain⟨a,vs,ev,h1,h2,h3,h4,r⟩:=S.slots i _ e0;refine⟨.ref a,ev,.inl ⟨rfl,vs,SqL.of h4⟩,?_⟩;refine a2 C G σ H env n _ _ hK hT S hp λy jc n1 v H1 q1 S1 r1 f1=>?_
 split at q1
 ·rename_i xs ex;obtain⟨a',us,ev',g1,g2,g3,g4,r'⟩:=S1.slots i _ ex;rw[ev] at ev';cases ev';subst hK;obtain⟨S2,f2⟩:=S1.put ex ev (r'.append (.one r1));exact⟨a,us,v,rfl,rfl,g4,by rw[<- r'.length];exact mil' (by omega),k _ _ _ _ _ q1.2 S2 rfl (f1.trans f2)⟩
 ·exact q1.elim
def HG (i:Nat)(pe:pE):pE:=λenv n R=>pe env n λy jc n1=>match jc[i]?,y with|some (some (.ow .lst xs)),.int d=>xs.length<=1000000/\(match ixN xs.length d with|some j=>(match xs[j]? with|some z=>R z (jc.set i (some (.ow .lst (xs.eraseIdx j)))) n1|none=>False)|none=>False)|_,_=>False
theorem PU (i:Nat)(hv:∀z,EW (F z) (.Name x p) (tVar i))(he:QE T K F e pe)(hs:F9 e=true:=by rfl)(hbase:∀z,Aw (.Name x p) "pop" (F z).env (eval (.Name x p) (F z).env)=eval (.Name x p) (F z).env:=by intro _;rfl)(hline:(ap.endLine == pos.line)=true:=by rfl)
   (hfew:∀z,((backTo pos (F5 [e] (F z).env)).all (λx=>!x.1)&&(e6 pos (d5 [] (F z).env)).all (λx=>x.1.isSome)&&decide (([e]:List Expr).length+([]:List R8).length+(if([]:List R8).isEmpty then 0 else 1)<30))=true:=by intro _;rfl) (hK:∀z,(F z).K=K:=by intro _;rfl) :
   QE T K F (.Call (.Attribute (.Name x p) "pop" ap) [e] [] pos) (λenv n R=>(∃xs,env[i]?=some (some (.ow .lst xs)))/\HG i pe env n R):=by
 obtain⟨t,a1,a2⟩:=he;refine⟨tBM K "list" JS (tVar i) (Z4 t tNil),λz=>hK z▸B_ EO PySem.F.slot_list_pop PySem.F.type_list_pop OY (hv z).h (F8 (a1 z) K5 (D9 hs)) (hbase z) (hfew z) hline (D9 hs),λC G σ H env n R Q hK hT S hp k=>?_⟩;obtain⟨⟨xs0,e0⟩,hp⟩:=hp;obtain⟨a,vs,ev,h1,h2,h3,h4,r⟩:=S.slots i _ e0;refine⟨.ref a,ev,.inl ⟨rfl,vs,SqL.of h4⟩,?_⟩;refine a2 C G σ H env n _ _ hK hT S hp λy jc n1 v H1 q1 S1 r1 f1=>?_
 split at q1
 ·rename_i xs d ex;obtain⟨hlen,q1⟩:=q1
  split at q1
  ·rename_i j ej
   split at q1
   ·rename_i z ez;obtain⟨a',us,ev',g1,g2,g3,g4,r'⟩:=S1.slots i _ ex;rw[ev] at ev';cases ev';subst hK;obtain⟨S2,f2⟩:=S1.put ex ev (r'.eraseIdx j);obtain⟨w,e1,rw'⟩:=r'.get' ez;obtain⟨q1',q2',q3',q4'⟩:=Hc ej;refine⟨a,us,d,j,w,rfl,by rw[show v=.int d from r1],g4,?_,?_,by rw[<- r'.length];exact q1',e1,k _ _ _ _ _ q1 S2 (rw'.fr f2) (f1.trans f2)⟩
    ·omega
    ·omega
   ·exact q1.elim
  ·exact q1.elim
 ·exact q1.elim
end
end Pu
end
section
namespace Pu
open PySem PySem.Spec L2
abbrev pSl:=Env->Nat->(Slot->Env->Nat->Prop)->Prop
def A_ (σ:St)(env:Env)(a:A0):Prop:=∃(j:Nat) (ys:OK×List PV),env[j]?=some (some (.ow ys.1 ys.2))/\σ[j]?=some (some (.ref a))
theorem SR.slot (S:SR C G σ H env n)(i:Nat)(r:Ds C G H (some (some v)) s)(h:∀(xs:OK×List PV) a,s=.ow xs.1 xs.2->v=.ref a->¬A_ σ env a):SR C G (σ.set i (some v)) H (env.set i (some s)) n where
 frame:=S.frame
 sub:=S.sub
 sup:=S.sup
 pots:=S.pots
 pre:=S.pre
 mu:=S.mu
 slots j t e:=by
  by_cases hj:i=j
  ·subst hj
   by_cases hl:i<env.length
   ·rw[O7 hl] at e;cases e;rw[O7 (by rw[<- S.len];exact hl)];exact r
   ·rw[Y6 (by rw[P0];omega)] at e;cases e
  ·rw[P6 hj] at e ⊢;exact S.slots j t e
 inj j k xs ys b e1 e2 e3 e4:=by
  by_cases hj:i=j
  ·by_cases hk:i=k
   ·omega
   ·subst hj;rw[P6 hk] at e2 e4
    by_cases hl:i<env.length
    ·rw[O7 hl] at e1;rw[O7 (by rw[<- S.len];exact hl)] at e3;cases e1;cases e3;exact absurd ⟨k,ys,e2,e4⟩ (h xs b rfl rfl)
    ·rw[Y6 (by rw[P0];omega)] at e1;cases e1
  ·rw[P6 hj] at e1 e3
   by_cases hk:i=k
   ·subst hk
    by_cases hl:i<env.length
    ·rw[O7 hl] at e2;rw[O7 (by rw[<- S.len];exact hl)] at e4;cases e2;cases e4;exact absurd ⟨j,xs,e1,e3⟩ (h ys b rfl rfl)
    ·rw[Y6 (by rw[P0];omega)] at e2;cases e2
   ·rw[P6 hk] at e2 e4;exact S.inj j k xs ys b e1 e2 e3 e4
 p0:=S.p0
 len:=by rw[P0,P0];exact S.len
 newp:=S.newp
def Ct.guard (C:Ct)(a:A0)(vs:List V):Ct:={ C with M0:=a::C.M0,H0:=upd C.H0 a (.lst vs) }
theorem SR.guard (S:SR C G σ H env n)(vs:List V)(h:H a=none):SR (C.guard a vs) ⟨a::G.M,G.pots⟩ σ (upd H a (.lst vs)) env n:=by
 have S1:=S.more (vs:=vs) h;have aM:=S.fresh h
 exact {
  frame:=λb o hb e=>by
   by_cases hba:b=a
   ·subst hba;have e':upd C.H0 b (.lst vs) b=some o:=e;rw[E8] at e' ⊢;exact e'
   ·have e':upd C.H0 a (.lst vs) b=some o:=e;rw[C3 hba] at e';exact S1.frame b o hb e'
  sub:=fun b hb=>by
   by_cases hba:b=a
   ·exact .inl (by rw[hba];exact C6)
   ·rcases S1.sub b hb with z|z
    ·exact .inl (C5 _ z)
    ·refine .inr ?_;show upd C.H0 a (.lst vs) b=none;rw[C3 hba];exact z
  sup:=λb hb=>by
   rcases D0.mp (show b∈a::C.M0 from hb) with rfl|z
   ·exact C6
   ·exact S1.sup b z
  pots:=S1.pots
  pre:=S1.pre
  mu:=S1.mu
  slots:=λi s e=>by
   cases s with
   | v x =>
    obtain⟨v,ev,r⟩:=S1.slots i _ e;exact⟨v,ev,r⟩
   | ow kk xs =>
    obtain⟨b,us,ev,h1,h2,h3,h4,r⟩:=S1.slots i _ e;obtain⟨b',us',ev',g1,_⟩:=S.slots i _ e;rw[ev] at ev';cases ev';refine⟨b,us,ev,h1,λz=>?_,h3,h4,r⟩;rcases D0.mp (show b∈a::C.M0 from z) with rfl|z
    ·exact aM g1
    ·exact h2 z
  inj:=S1.inj
  p0:=⟨λp hp=>C5 _ (S1.p0.1 p hp),S1.p0.2⟩
  len:=S1.len
  newp:=λp hp hn hM=>by
   rcases D0.mp (show p∈a::C.M0 from hM) with rfl|z
   ·exact aM (S.pots p hp).1
   ·exact S1.newp p hp hn z }
theorem SR.unguard (S:SR (C.guard a vs) G σ H env n)(ha:a∉C.M0)(hp0:∀p∈C.pots0,p∈C.M0)(h0:C.H0 a=none):SR C G σ H env n/\H a=some (.lst vs)/\¬A_ σ env a:=by
 have hap:a∉C.pots0:=λz=>ha (hp0 a z)
 refine⟨{
  frame:=λb o hb e=>S.frame b o hb (by
   show upd C.H0 a (.lst vs) b=some o
   rw[C3 (λz=>by rw[z,h0] at e;cases e)];exact e)
  sub:=fun b hb=>by
   by_cases hba:b=a
   ·exact .inr (hba▸h0)
   ·rcases S.sub b hb with z|z
    ·rcases D0.mp (show b∈a::C.M0 from z) with z|z
     ·exact absurd z hba
     ·exact .inl z
    ·have z':upd C.H0 a (.lst vs) b=none:=z;rw[C3 hba] at z';exact .inr z'
  sup:=λb hb=>S.sup b (C5 _ hb)
  pots:=S.pots
  pre:=S.pre
  mu:=S.mu
  slots:=λi s e=>by
   cases s with
   | v x =>
    obtain⟨v,ev,r⟩:=S.slots i _ e;exact⟨v,ev,r⟩
   | ow kk xs =>
    obtain⟨b,us,ev,h1,h2,h3,h4,r⟩:=S.slots i _ e;exact⟨b,us,ev,h1,λz=>h2 (C5 _ z),h3,h4,r⟩
  inj:=S.inj
  p0:=⟨hp0,S.p0.2⟩
  len:=S.len
  newp:=λp hp hn hM=>S.newp p hp hn (C5 _ hM) },S.frame a _ hap E8,?_⟩
 rintro⟨j,ys,e1,e2⟩;obtain⟨b,us,ev,h1,h2,_⟩:=S.slots j _ e1;rw[e2] at ev;cases ev;exact h2 C6
def LOk (K:A9)(T:PotK)(t:TE)(pl:pSl):Prop:=∀(C:Ct) (G:Gh) (σ:St) (H:Hp) (env:Env) (n:Nat) (R:Slot->Env->Nat->Prop) (Q:VK),C.K=K->C.T=T->SR C G σ H env n->pl env n R->
 (∀x jh n' v H',R (.v x) jh n'->SR C G σ H' jh n'->Rep K G H' x v->Fr G H H'->Q v H')->
 (∀xs jh n' a vs Hb,R (.ow .lst xs) jh n'->SR C G σ Hb jh n'->Fr G H Hb->Hb a=none->Reps K G Hb xs vs->Q (.ref a) (upd Hb a (.lst vs)))->t σ H Q
def QL {ι:Type}(T:PotK)(K:A9)(F:ι->Cx)(e:Expr)(pl:pSl):Prop:=∃t,(∀z,PE (F z) e t)/\LOk K T t pl
def sV (pe:pE):pSl:=λenv n R=>pe env n λx jc n1=>R (.v x) jc n1
def sO (pn:pA):pSl:=λenv n R=>pn env n λxs jc n1=>R (.ow .lst xs) jc n1
section
variable {T:PotK}{np:Bool}{ι:Type}{K:A9}{F:ι->Cx}{e a b c:Expr}{es:List Expr}{st:Stmt}{rest:List Stmt}{pe pa pb pc:pE}{pos:Pos}{pl pr:pA}{pg:pG}{pt:pT}{p1 p2:pS}{s1 s2 s3:pSl}
theorem ql_v (h:QE T K F e pe):QL T K F e (sV pe):=let ⟨t,h1,h2⟩:=h;⟨t,h1,λC G σ H env n R Q hK hT S hp k _=>h2 C G σ H env n _ _ hK hT S hp λx jh n' v H' r S' rp f=>k x jh n' v H' r S' rp f⟩
theorem ql_o (h:QN T K F e pl):QL T K F e (sO pl):=let ⟨t,h1,h2⟩:=h;⟨t,h1,λC G σ H env n R Q hK hT S hp _ k=>h2 C G σ H env n _ _ hK hT S hp λxs jh n' a vs Hb r S' f hn rs=>k xs jh n' a vs Hb r S' f hn rs⟩
def Got (C:Ct)(G:Gh)(H:Hp)(σ:St)(env:Env)(s:Slot)(v:V):Prop:=Ds C G H (some (some v)) s/\∀(xs:OK×List PV) a,s=.ow xs.1 xs.2->v=.ref a->¬A_ σ env a
theorem Ku (h:LOk K T t s1)(hK:C.K=K)(hT:C.T=T)(S:SR C G σ H env n)(hp:s1 env n R)
   (k:∀s jh n' v G' H',R s jh n'->SR C G' σ H' jh n'->Ext G H G' H'->Got C G' H' σ jh s v->Q v H'):t σ H Q:=by
 refine h C G σ H env n _ _ hK hT S hp (λx jh n' v H' r S' rp f=>?_) λxs jh n' a vs Hb r S' f hn rs=>?_
 ·exact k _ _ _ _ _ _ r S' (Ext.fr f) ⟨⟨v,rfl,hK▸rp⟩,λ_ _ z=>nomatch z⟩
 ·have aM:=S'.fresh hn;have S1:=S'.more (vs:=vs) hn;refine k _ _ _ _ _ _ r S1 ((Ext.fr f).trans (Ch hn)) ⟨⟨a,vs,rfl,C6,λz=>aM (S'.sup a z),λz=>aM (S'.pots a z).1,E8,?_⟩,λys b e1 e2=>?_⟩
  ·exact Reps.mono (G':=⟨a::G.M,G.pots⟩) (H':=upd Hb a (.lst vs)) (λb o _ e=>Same.lay1 hn b o e) (λc hc=>(D0.mp (show c∈a::G.M from hc)).elim (λz=>.inr (z▸hn)) .inl) (λ_ _ e=>e) _ _ (hK▸rs)
  ·cases e2;rintro⟨j,zs,z1,z2⟩;obtain⟨b,us,ev,g1,_⟩:=S'.slots j _ z1;rw[z2] at ev;cases ev;exact aM g1
theorem HH {R:Slot->Slot->Env->Nat->Prop}{Q:V->V->Hp->Prop}(h:LOk K T t s1)(h':LOk K T u s2)(hK:C.K=K)(hT:C.T=T)(S:SR C G σ H env n)(hp:s1 env n λx jc n1=>s2 jc n1 λy jd n2=>R x y jd n2)
   (k:∀x y jh n' v w G' H',R x y jh n'->SR C G' σ H' jh n'->Ext G H G' H'->Got C G' H' σ jh x v->Got C G' H' σ jh y w->(∀(xs ys:OK×List PV) a,x=.ow xs.1 xs.2->y=.ow ys.1 ys.2->v=.ref a->w≠.ref a)->Q v w H'):t σ H λv H1=>u σ H1 λw H2=>Q v w H2:=by
 refine h C G σ H env n _ _ hK hT S hp (λx jc n1 v H1 q1 S1 r1 f1=>?_) λxs jc n1 a vs Hb q1 S1 f1 hn rs=>?_
 ·refine Ku h' hK hT S1 q1 λy jd n2 w G2 H2 q2 S2 x2 g2=>?_;exact k _ _ _ _ _ _ _ _ q2 S2 ((Ext.fr f1).trans x2) ⟨⟨v,rfl,Rep.mono x2.keep x2.new x2.pot _ _ (hK▸r1)⟩,λ_ _ z=>nomatch z⟩ g2 (λ_ _ _ z=>nomatch z)
 ·have aM:=S1.fresh hn;have HI:=S1.guard vs hn;have a0:a∉C.M0:=λz=>aM (S1.sup a z);have aH:=S1.old hn;have x1:Ext G H ⟨a::G.M,G.pots⟩ (upd Hb a (.lst vs)):=(Ext.fr f1).trans (Ch hn);have r1:Reps C.K ⟨a::G.M,G.pots⟩ (upd Hb a (.lst vs)) xs vs:=Reps.mono (G':=⟨a::G.M,G.pots⟩) (H':=upd Hb a (.lst vs)) (λb o _ e=>Same.lay1 hn b o e) (λc hc=>(D0.mp (show c∈a::G.M from hc)).elim (λz=>.inr (z▸hn)) .inl) (λ_ _ e=>e) _ _ (hK▸rs);refine Ku (C:=C.guard a vs) h' hK hT HI q1 λy jd n2 w G2 H2 q2 S2 x2 g2=>?_;obtain⟨S3,e3,no⟩:=S2.unguard a0 S1.p0.1 aH;have aM2:a∈G2.M:=S2.sup a C6
  have ap2:a∉G2.pots:=λz=>by
   by_cases hz:a∈C.pots0
   ·exact a0 (S1.p0.1 a hz)
   ·exact S2.newp a z hz C6
  have gy:Got C G2 H2 σ jd y w:=by
   refine⟨?_,g2.2⟩;cases y with
   |v x=>exact g2.1
   | ow kk ys =>
    obtain⟨b,us,ev,h1,h2,h3,h4,r⟩:=g2.1;exact⟨b,us,ev,h1,λz=>h2 (C5 _ z),h3,h4,r⟩
  refine k _ _ _ _ _ _ _ _ q2 S3 (x1.trans x2) ⟨⟨a,vs,rfl,aM2,a0,ap2,e3,Reps.mono x2.keep x2.new x2.pot _ _ r1⟩,λ_ _ _ e=>by cases e;exact no⟩ gy λxs' ys b ex ey ev ew=>?_;subst ey;cases ev;obtain⟨b,us,ev,h1,h2,_⟩:=g2.1;rw[ew] at ev;cases ev;exact h2 C6
structure AW (X:Cx)(es:List Expr)(t:TA):Prop where
 h:PA X es t
theorem Ba {X:Cx}{i j:Nat}{x y:Str}{a b:Expr}{px py pt:Pos}{kt k2 pt2}{pos:Pos}(hc:X.calm=true)(hN:X.N.Nodup)(hi:X.N[i]?=some x)(hj:X.N[j]?=some y)(hij:i≠j)
   (hx:X.env.scope.names.lookup x=some .local) (hy:X.env.scope.names.lookup y=some .local) (hw:Bw [.Tuple [.Name x px,.Name y py] kt pt] (.Tuple [a,b] k2 pt2) X.env=pure (some [x,y]))
   (hs:Bv [.Tuple [.Name x px,.Name y py] kt pt] (.Tuple [a,b] k2 pt2) pos.line X.env=pure false:=by rfl) (ta:TA) (h:AW X [a,b] ta) :
   SW X (.Assign [.Tuple [.Name x px,.Name y py] kt pt] (.Tuple [a,b] k2 pt2) pos) (tPar i j ta):=⟨ps_par hc hN hi hj hij hx hy h.h hw hs⟩
theorem PX {px py pz pt:Pos}(hc:X.calm=true)(hN:X.N.Nodup)(hi:X.N[i]?=some x)(hj:X.N[j]?=some y)(hk:X.N[k]?=some z)(hij:i≠j)(hik:i≠k)(hjk:j≠k)
   (hx:X.env.scope.names.lookup x=some .local) (hy:X.env.scope.names.lookup y=some .local) (hz:X.env.scope.names.lookup z=some .local) (hw:Bw [.Tuple [.Name x px,.Name y py,.Name z pz] kt pt] (.Tuple [a,b,c] k2 pt2) X.env=pure (some [x,y,z]))
   (hs:Bv [.Tuple [.Name x px,.Name y py,.Name z pz] kt pt] (.Tuple [a,b,c] k2 pt2) pos.line X.env=pure false:=by rfl) (ta:TA) (h:AW X [a,b,c] ta) :
   SW X (.Assign [.Tuple [.Name x px,.Name y py,.Name z pz] kt pt] (.Tuple [a,b,c] k2 pt2) pos) (Hn i j k ta):=⟨Pq hc hN hi hj hk hij hik hjk hx hy hz h.h hw hs⟩
def qPar (i j:Nat)(s1 s2:pSl):pS:=λD env n=>s1 env n λa jc n1=>s2 jc n1 λb jd n2=>D.nx ((jd.set i (some a)).set j (some b)) n2
theorem DA {a:A0}(hl:env.length=σ.length)(h:A_ (σ.set i (some v)) (env.set i (some s)) a):A_ σ env a\/((∃xs:OK×List PV,s=.ow xs.1 xs.2)/\v=.ref a):=by
 obtain⟨j,ys,e1,e2⟩:=h
 by_cases hj:i=j
 ·subst hj
  by_cases hl':i<env.length
  ·rw[O7 hl'] at e1;rw[O7 (by omega)] at e2;cases e1;cases e2;exact .inr ⟨⟨_,rfl⟩,rfl⟩
  ·rw[Y6 (by rw[P0];omega)] at e1;cases e1
 ·rw[P6 hj] at e1 e2;exact .inl ⟨j,ys,e1,e2⟩
theorem Bb (i j:Nat)(h:∀z ta,AW (F z) [a,b] ta->SW (F z) st (tPar i j ta))(h1:QL T K F a s1)(h2:QL T K F b s2)(n1:F9 a=true:=by rfl)(n2:F9 b=true:=by rfl):QS T np K F st (qPar i j s1 s2):=by
 obtain⟨t,a1,a2⟩:=h1;obtain⟨u,b1,b2⟩:=h2;refine⟨_,λz=>(h z _ ⟨F8 (a1 z) (F8 (b1 z) K5 (D9 n2)) (D9 n1)⟩).h,λC G σ H env n PD D hK hT hn S hp L=>?_⟩;refine HH (Q:=λv w H2=>∃v' w',[v,w]=[v',w']/\D.nx ((σ.set i (some v')).set j (some w')) H2) a2 b2 hK hT S hp λx y jd n2 v w G2 H2 q S2 x2 gx gy ne=>?_;refine⟨v,w,rfl,L.nx _ _ _ _ _ q ((S2.slot i gx.1 gx.2).slot j gy.1 λys b e1 e2 z=>?_) x2⟩;rcases DA S2.len z with z|⟨⟨xs,ex⟩,ev⟩
 ·exact gy.2 ys b e1 e2 z
 ·exact ne xs ys b ex e1 ev e2
def HJ (i j k:Nat)(s1:pE)(s2 s3:pSl):pS:=λD env n=>s1 env n λa jc n1=>s2 jc n1 λb jd n2=>s3 jd n2 λc je n3=>D.nx (((je.set i (some (.v a))).set j (some b)).set k (some c)) n3
theorem PY (i j k:Nat)(h:∀z ta,AW (F z) [a,b,c] ta->SW (F z) st (Hn i j k ta))(h0:QE T K F a pe)(h1:QL T K F b s1)(h2:QL T K F c s2)(n0:F9 a=true:=by rfl)(n1:F9 b=true:=by rfl)(n2:F9 c=true:=by rfl):QS T np K F st (HJ i j k pe s1 s2):=by
 obtain⟨t0,z1,z2⟩:=h0;obtain⟨t,a1,a2⟩:=h1;obtain⟨u,b1,b2⟩:=h2;refine⟨_,λz=>(h z _ ⟨F8 (z1 z) (F8 (a1 z) (F8 (b1 z) K5 (D9 n2)) (D9 n1)) (D9 n0)⟩).h,λC G σ H env n PD D hK hT hn S hp L=>?_⟩;refine z2 C G σ H env n _ _ hK hT S hp λx0 env0 m0 v0 H0 q0 S0 r0 f0=>?_;refine HH (Q:=λv w H2=>∃u' v' w',[v0,v,w]=[u',v',w']/\D.nx (((σ.set i (some u')).set j (some v')).set k (some w')) H2) a2 b2 hK hT S0 q0 λx y jd n2 v w G2 H2 q S2 x2 gx gy ne=>?_;have r2:Rep C.K G2 H2 x0 v0:=Rep.mono x2.keep x2.new x2.pot _ _ (hK▸r0);have S3:=S2.set i r2
 have o3:∀a,A_ (σ.set i (some v0)) (jd.set i (some (.v x0))) a->A_ σ jd a:=λa z=>by
  rcases DA S2.len z with z|⟨⟨xs,ex⟩,_⟩
  ·exact z
  ·cases ex
 have S4:=S3.slot j gx.1 λxs b e1 e2 z=>gx.2 xs b e1 e2 (o3 b z);refine⟨v0,v,w,rfl,L.nx _ _ _ _ _ q (S4.slot k gy.1 λys b e1 e2 z=>?_) ((Ext.fr f0).trans x2)⟩;rcases DA S3.len z with z|⟨⟨xs,ex⟩,ev⟩
 ·exact gy.2 ys b e1 e2 (o3 b z)
 ·exact ne xs ys b ex e1 ev e2
theorem HK (ho:EW X o (tVar i))(ha:∀v,assign (.Subscript o ix pos) X.env v=(do
     let ov ← T9 [v] (eval o X.env)
     let iv ← T9 [v,ov] (eval ix X.env)
     e7 pos
     T9 [v,ov,iv] (setItem ov iv v)
     release [v,ov,iv] []):=by intro _;rfl) (ti:TE) (hi:EW X ix ti):GW X (.Subscript o ix pos) (gSub (tVar i) ti Do):=⟨GU ho.h hi.h Hf ha⟩
def gAt (i:Nat)(pe:pE):PV->Env->Nat->(Env->Nat->Prop)->Prop:=λx env n R=>pe env n λy jc n1=>match jc[i]?,y with|some (some (.ow .lst xs)),.int d=>(match ixN xs.length d with|some j=>R (jc.set i (some (.ow .lst (xs.set j x)))) n1|none=>False)|_,_=>False
def qPut (i:Nat)(pv:pE)(pe:pE):pS:=λD env n=>pv env n λx jc n1=>(∃xs,jc[i]?=some (some (.ow .lst xs)))/\gAt i pe x jc n1 D.nx
theorem qs_put (i:Nat){pv:pE}(h:∀z te g,EW (F z) v te->GW (F z) (.Subscript o ix pos) g->SW (F z) st (tAsg te g))(hv:QE T K F v pv)(hg:∀z ti,EW (F z) ix ti->GW (F z) (.Subscript o ix pos) (gSub (tVar i) ti Do))(he:QE T K F ix pe):QS T np K F st (qPut i pv pe):=by
 obtain⟨tv,v1,v2⟩:=hv;obtain⟨ti,i1,i2⟩:=he;refine⟨_,λz=>(h z _ _ ⟨v1 z⟩ (hg z _ ⟨i1 z⟩)).h,λC G σ H env n PD D hK hT hn S hp L=>?_⟩;refine v2 C G σ H env n _ _ hK hT S hp λx jc n1 v H1 q1 S1 r1 f1=>?_;obtain⟨⟨xs0,e0⟩,q1⟩:=q1;obtain⟨a,vs,ev,h1,h2,h3,h4,r⟩:=S1.slots i _ e0;refine⟨.ref a,ev,?_⟩;refine i2 C G σ H1 jc n1 _ _ hK hT S1 q1 λy jd n2 w H2 q2 S2 r2 f2=>?_
 split at q2
 ·rename_i xs d ex
  split at q2
  ·rename_i j ej;obtain⟨a',us,ev',g1,g2,g3,g4,r'⟩:=S2.slots i _ ex;rw[ev] at ev';cases ev';subst hK;obtain⟨S3,f3⟩:=S2.put ex ev (r'.set j (r1.fr f2));exact⟨a,us,d,j,rfl,r2,g4,by rw[<- r'.length];exact ej,L.nx _ _ _ _ _ q2 S3 (Ext.fr ((f1.trans f2).trans f3))⟩
  ·exact q2.elim
 ·exact q2.elim
def Fu (i:Nat)(env:Env):Env:=match env[i]? with|some (some (.ow .lst xs))=>env.set i (some (.v (.lst xs)))|_=>env
theorem SR.freeze (S:SR C G σ H env n)(i:Nat):∃G',SR C G' σ H (Fu i env) n/\Ext G H G' H:=by
 unfold Fu
 split
 ·rename_i xs ex;obtain⟨a,vs,ev,h1,h2,h3,h4,r⟩:=S.slots i _ ex
  let G':Gh:=⟨G.M.filter (·≠a),G.pots⟩
  have sub:∀b∈G'.M,b∈G.M:=λb hb=>(K6.mp hb).1;have mm:∀{x:PV} {v:V},Rep C.K G H x v->Rep C.K G' H x v:=λr=>Rep.mono (G':=G') (λ_ _ _ e=>e) (λb hb=>.inl (sub b hb)) (λ_ _ e=>e) _ _ r;have mms:∀{x:List PV} {v:List V},Reps C.K G H x v->Reps C.K G' H x v:=λr=>Reps.mono (G':=G') (λ_ _ _ e=>e) (λb hb=>.inl (sub b hb)) (λ_ _ e=>e) _ _ r
  refine⟨G',{
   frame:=S.frame
   sub:=λb hb=>S.sub b (sub b hb)
   sup:=λb hb=>K6.mpr ⟨S.sup b hb,jq (show b≠a from λz=>h2 (by grind))⟩
   pots:=λp hp=>⟨K6.mpr ⟨(S.pots p hp).1,jq (show p≠a from λz=>h3 (by grind))⟩,C.T.more (S.pots p hp).2 λb hb=>.inl (sub b hb)⟩
   pre:=S.pre
   mu:=λb hb=>S.mu b (sub b hb)
   slots:=λj s es=>?_
   inj:=λj k xs' ys b e1 e2 e3 e4=>?_
   p0:=S.p0
   len:=by rw[P0];exact S.len
   newp:=S.newp },⟨λ_ _ _ e=>e,λb hb=>.inl (sub b hb),λ_ _ e=>e⟩⟩
  ·by_cases hj:i=j
   ·subst hj;rw[O7 (G4.mp ex).1] at es;cases es;exact⟨.ref a,ev,a,vs,rfl,⟨λz=>by simpa using(K6.mp z).2,h4⟩,mms r⟩
   ·rw[P6 hj] at es;have:=S.slots j s es;cases s with
    | v x =>
     obtain⟨v,e1,r⟩:=this;exact⟨v,e1,mm r⟩
    | ow kz zs =>
     obtain⟨b,us,e1,g1,g2,g3,g4,r⟩:=this;have hba:b≠a:=λz=>hj (S.inj i j (.lst,xs) (kz,zs) a ex es ev (by rw[e1,z]));exact⟨b,us,e1,K6.mpr ⟨g1,by simpa using hba⟩,g2,g3,g4,mms r⟩
  ·have back:∀(j:Nat) (zs:OK×List PV),(env.set i (some (.v (.lst xs))))[j]?=some (some (Slot.ow zs.1 zs.2))->env[j]?=some (some (.ow zs.1 zs.2)):=by
    intro j zs h
    by_cases hj:i=j
    ·grind
    ·grind
   exact S.inj j k xs' ys b (back j _ e1) (back k _ e2) e3 e4
 ·exact⟨G,S,Ext.refl⟩
def DB (i:Nat)(p:pS):pS:=λD env n=>p D (Fu i env) n
theorem HL (i:Nat)(h:QS T np K F st p1):QS T np K F st (DB i p1):=by
 obtain⟨t,a1,a2⟩:=h;refine⟨t,a1,λC G σ H env n PD D hK hT hn S hp L=>?_⟩;obtain⟨G',S',x'⟩:=S.freeze i;exact a2 C G' σ H _ n PD D hK hT hn S' hp (L.ext x')
end
end Pu
end
section
namespace Pu
open PySem PySem.Spec L2
def Ab (N:List Str)(xs:List PV):Env:=xs.map (λx=>some (.v x))++AF (N.length-xs.length) none
def fnP (N ps:List Str)(body:pS):pF:=λxs n R=>xs.length=ps.length/\body ⟨λ_ m=>R .non m,R,λ_ _=>False,λ_ _=>False⟩ (Ab N xs) n
theorem HM (hp:∀p∈G.pots,p∈G.M/\T.at_ G.M H p n)(hm:∀a∈G.M,∃o,H a=some o/\MutO o)(hh:T.has G.pots)(r:Reps K G H xs vs) :
   SR ⟨K,T,G.M,G.pots,H,np⟩ G (L2.start N vs) H (Ab N xs) n where
 frame b o _ e:=e
 sub a ha:=.inl ha
 sup a ha:=ha
 pots:=hp
 pre:=⟨[],by simp,.inl rfl⟩
 mu:=hm
 slots i s e:=by
  unfold Ab at e
  by_cases hi:i<xs.length
  ·rw[Y4 (by simpa using hi),G9] at e;cases ex:xs[i]? with
   |none=>rw[ex] at e;cases e
   | some x =>
    rw[ex] at e;cases e;obtain⟨v,ev,rv⟩:=r.get' ex;refine⟨v,?_,rv⟩;unfold L2.start;rw[Y4 (by rw[B4,<- r.length];exact hi),G9,ev]
    rfl
  ·rw[Y3 (by simpa using hi),Ep] at e
   split at e <;> cases e
 inj i j xs' ys a e1:=by
  exfalso
  unfold Ab at e1
  by_cases hi:i<xs.length
  ·rw[Y4 (by simpa using hi),G9] at e1;cases ex:xs[i]? with
   |none=>rw[ex] at e1;cases e1
   |some x=>rw[ex] at e1;cases e1
  ·rw[Y3 (by simpa using hi),Ep] at e1
   split at e1 <;> cases e1
 p0:=⟨λp h=>(hp p h).1,hh⟩
 len:=by unfold Ab L2.start;simp[r.length]
 newp p h hn:=absurd h hn
section
variable {P:D1}{w:C9}{K:A9}{mg:Str->Option A1}{base:B6}{T:PotK}
theorem bd1 {P:List A1->Prop}(h:∀a,P [a])(us:List A1)(e:us.length=1):P us:=by
 obtain⟨a,rfl⟩:=List.length_eq_one_iff.mp e;exact h a
theorem bdS {P:List A1->Prop}(h:∀a us,us.length=n->P (a::us))(us:List A1)(e:us.length=n+1):P us:=by
 obtain⟨a,us,rfl⟩:=List.exists_cons_of_length_eq_add_one e;exact h a us (Nat.succ.inj e)
theorem bd2 {P:List A1->Prop}(h:∀a b,P [a,b])(us:List A1)(e:us.length=2):P us:=bdS (λa us e=>bd1 (P:=λus=>P (a::us)) (h a) us e) us e
theorem bd3 {P:List A1->Prop}(h:∀a b c,P [a,b,c])(us:List A1)(e:us.length=3):P us:=bdS (λa us e=>bd2 (P:=λus=>P (a::us)) (h a) us e) us e
theorem bd4 {P:List A1->Prop}(h:∀a b c d,P [a,b,c,d])(us:List A1)(e:us.length=4):P us:=bdS (λa us e=>bd3 (P:=λus=>P (a::us)) (h a) us e) us e
theorem bd5 {P:List A1->Prop}(h:∀a b c d e,P [a,b,c,d,e])(us:List A1)(e:us.length=5):P us:=bdS (λa us e=>bd4 (P:=λus=>P (a::us)) (h a) us e) us e
theorem fn_ok (F0:Fn0 K mg x st)(sc:U4 N ps (F7 st))
   (bd:∀(kV doc pm:A1) (an:Option A0) (jo ct:A1) (us:List A1),us.length=ps.length->Y0 (W1 x x (U5 st) (N8 st) (F7 st) .none kV doc pm an jo ct) ⟨us,[]⟩=pure (ps.zip us))
   (h:∀(f:A0) (jo:A1) (A:D5) (outer:List PySem.Env) (s:A5) (H:Hp) (E:XK),Room k (A.deeper (EJ x (F7 st) s.heap.objs.size f jo))->
     QSs T false K (λ_:Unit=>(cxOf CX0 P w K mg base N x (F7 st) f jo A outer s H E).nox) (N8 st) body) :
   Kn P w K mg base x (k+1) ps (F3 K T (fnP N ps body)):=by
 refine F0.ok sc (λvs H Q E h=>?_) bd (λf jo A outer s H vs Q E hr hsp=>?_)
 ·obtain⟨G,xs,n,R,_,_,_,r,hf,_⟩:=h;rw[<- r.length];exact hf.1
 ·obtain⟨t,h1,h2⟩:=h f jo A outer s H E hr;obtain⟨G,xs,n,R,hp,hm,hh,r,hf,k'⟩:=hsp;refine⟨t,h1 (),?_⟩;have S0:=HM (N:=N) (np:=false) hp hm hh r
  have fin:∀(x:PV) (n':Nat) (v:V) (G':Gh) (σ:St) (H':Hp) (env:Env),R x n'->SR ⟨K,T,G.M,G.pots,H,false⟩ G' σ H' env n'->Rep K ⟨G.M,G'.pots⟩ H' x v->Q v H':=by
   intro x n' v G' σ H' env rr S' rv
   have ep:G'.pots=G.pots:=by
    obtain⟨l,el,hl⟩:=S'.pre;rcases hl with hl|hl
    ·rw[el,hl,R9]
    ·cases hl
   rw[ep] at rv;exact k' _ _ _ _ rr rv (λp hp'=>T.more (S'.pots p (by rw[ep];exact hp')).2 λa ha=>.inl (S'.sup a ha)) S'.frame
  refine h2 _ G _ H _ n _ _ rfl rfl rfl S0 hf.2 ⟨λenv n' G' σ H' q S' _=>?_,λx n' v G' σ H' env q S' rv _=>fin x n' v G' σ H' env q S' rv,λ_ _ _ _ _ q=>q.elim,λ_ _ _ _ _ q=>q.elim⟩;exact fin .non n' .non G' σ H' env q S' rfl
end
structure Fv (own seed go:Int):Prop where
 o0:0<=own
 s0:0<=seed
 s1:seed<2 ^ 62
 g0:0<=go
 g1:go<=2 ^ 40
def PotAt (H:Hp)(p:A0)(n:Nat):Prop:=∃own seed go,H p=some (.lst [.int own,.int seed,.int go])/\Fv own seed go/\go<=(n:Int)
def potL:PotK where
 at_:=λ_ H p n=>PotAt H p n
 mono:=λ⟨own,seed,go,a,b,c⟩ h=>⟨own,seed,go,a,b,by omega⟩
 keep:=λ⟨own,seed,go,a,b,c⟩ e _=>⟨own,seed,go,e.trans a,b,c⟩
 more:=λh _=>h
 mu:=λ⟨own,seed,go,a,b,c⟩=>⟨_,a,trivial⟩
def Ci:pF:=λxs n R=>match xs with|[.pot _,.int m]=>(0<m/\m<1000000/\n<1000000000)/\∀d:Int,0<=d->d<m->R (.int d) (n+1)|_=>False
section
variable {P:D1}{w:C9}{K:A9}{mg:Str->Option A1}{base:B6}
def spDraw:Sp:=λvs H Q _=>∃(p:A0) (own seed go many:Int),vs=[.ref p,.int many]/\H p=some (.lst [.int own,.int seed,.int go])/\Fv own seed go/\go<2 ^ 40/\0<many/\many<1000000/\
 ∀d own' seed' go',0<=d->d<many->Fv own' seed' go'->go'<=go+1->Q (.int d) (upd H p (.lst [.int own',.int seed',.int go']))
theorem PZ (G:Kn P w K mg base x k ps spDraw):Kn P w K mg base x k ps (F3 K potL Ci):=G.imp λvs H Q E h=>by
 obtain⟨G,xs,n,R,hp,hm,_,r,hf,k⟩:=h;unfold Ci at hf
 split at hf
 ·rename_i kk m;obtain⟨v,rr,rfl,rv,u,r2,rfl,ru,rfl⟩:=r;obtain⟨p,ep,rfl⟩:=rv;obtain rfl:u=.int m:=ru;have pin:p∈G.pots:=J8 ep;obtain⟨pM,own,seed,go,e,ok,hg⟩:=hp p pin;refine⟨p,own,seed,go,m,rfl,e,ok,by omega,hf.1.1,hf.1.2.1,λd own' seed' go' d0 d1 ok' g'=>?_⟩;refine k _ _ _ _ (hf.2 d d0 d1) rfl (λq hq=>?_) λb o hb eb=>?_
  ·by_cases hqp:q=p
   ·subst hqp;exact⟨own',seed',go',E8,ok',by omega⟩
   ·obtain⟨_,o2,s2,g2,e2,ok2,hg2⟩:=hp q hq;exact⟨o2,s2,g2,by rw[C3 hqp];exact e2,ok2,by omega⟩
  ·rw[C3 (λz=>hb (by grind))];exact eb
 ·grind
def Fw (K:A9):Sp:=λvs H Q _=>∃(a:A0) (ns:List Int) (k:Int),vs=[.ref a,.int k]/\SqL K H a (ns.map V.int)/\0<=k/\k<=1000/\
 ∀p own seed,H p=none->Fv own seed 0->Q (.ref p) (upd H p (.lst [.int own,.int seed,.int 0]))
end
end Pu
end
section
namespace Pu
open PySem PySem.Spec L2
section
variable {T:PotK}{np:Bool}{ι:Type}{K:A9}{F:ι->Cx}{e a b c:Expr}{es:List Expr}{pe pa pb pc:pE}{pos:Pos}{pl pr:pA}
theorem RdV.lst' {G:Gh}{H:Hp}{xs:List PV}{v:V}(h:RdV K G H (.lst xs) v):∃a vs,v=.ref a/\H a=some (.lst vs)/\Reps K G H xs vs:=by
 rcases h with⟨a,vs,e,t,r⟩|⟨a,vs,ys,ex,ev,h4,r⟩
 ·exact⟨a,vs,e,t.2,r⟩
 ·cases ex;exact⟨a,vs,ev,h4,r⟩
def qCat (pa pb:pE):pA:=λenv n R=>pa env n λx jc n1=>pb jc n1 λy jd n2=>match x,y with|.lst xs,.lst ys=>jd=jc/\xs.length+ys.length<=1000000/\R (xs++ys) jd n2|_,_=>False
theorem DC (ha:QR T K F a pa)(hb:QR T K F b pb):QN T K F (.BinOp a .Add b pos) (qCat pa pb):=by
 obtain⟨t,a1,a2⟩:=ha;obtain⟨u,b1,b2⟩:=hb;refine⟨_,λz=>L7 op_cat (a1 z) (b1 z),λC G σ H env n R Q hK hT S hp k=>?_⟩;refine a2 C G σ H env n _ _ hK hT S hp λx jc n1 v H1 q1 S1 r1 f1=>?_;refine b2 C G σ H1 jc n1 _ _ hK hT S1 q1 λy jd n2 w H2 q2 S2 r2 f2=>?_
 split at q2
 ·rename_i xs ys;obtain⟨e1,hl,q2⟩:=q2;subst e1;obtain⟨l,vs,ev,e1,rx⟩:=RdV.lst' ((r1.fr f2).rd S2);obtain⟨m,us,ew,e2,ry⟩:=RdV.lst' (r2.rd S2);exact⟨l,m,vs,us,ev,ew,e1,e2,by rw[<- rx.length,<- ry.length];exact mil hl,λp hn=>k _ _ _ _ _ _ q2 S2 (f1.trans f2) hn (hK▸rx.append ry)⟩
 ·exact q2.elim
def Q4:List PV->Option (List Str)
 |[]=>some []
 |.str b::xs=>(Q4 xs).map (b::·)
 |_=>none
theorem DE:∀{xs:List PV} {vs:List V} {bs:List Str},Q4 xs=some bs->Reps K G H xs vs->vs=bs.map V.str
 |[],vs,bs,h,r=>by cases h;exact r
 | .str b :: xs, vs, bs, h, r => by
  obtain⟨v,t,e,rv,rt⟩:=r;cases e1:Q4 xs with
  |none=>simp[Q4,e1] at h
  | some cs =>
   have:b::cs=bs:=by simpa[Q4,e1] using h
   subst this;rw[e,show v=.str b from rv,DE e1 rt]
   rfl
 |.non::_,_,_,h,_=>by cases h
 |.int _::_,_,_,h,_=>by cases h
 |.bl _::_,_,_,h,_=>by cases h
 |.ty _::_,_,_,h,_=>by cases h
 |.pot _::_,_,_,h,_=>by cases h
 |.tup _::_,_,_,h,_=>by cases h
 |.lst _::_,_,_,h,_=>by cases h
 |.dct _ _::_,_,_,h,_=>by cases h
 |.fdt _ _::_,_,_,h,_=>by cases h
 |.scr _::_,_,_,h,_=>by cases h
theorem Fx:∀bs:List Str,Q4 (bs.map PV.str)=some bs
 |[]=>rfl
 |b::bs=>by simp[Q4,Fx bs]
def HN:w2:=λx y R=>match x,y with|.str sep,.lst xs=>(match Q4 xs with|some ys=>(ys.map (·.length)).sum+ys.length*sep.length<=1000000/\R (.str (Txt.join sep ys))|none=>False)|_,_=>False
def HP (pa pb:pE):pE:=λenv n R=>pa env n λx jc n1=>match x with|.str sep=>pb jc n1 λy jd n2=>HN (.str sep) y λz=>R z jd n2|_=>False
theorem P_ (ha:QE T K F a pa)(hb:QR T K F b pb)(hs:F9 b=true:=by rfl)(hbase:∀z,Aw a "join" (F z).env (eval a (F z).env)=eval a (F z).env:=by intro _;rfl)(hline:(ap.endLine == pos.line)=true:=by rfl)
   (hfew:∀z,((backTo pos (F5 [b] (F z).env)).all (λx=>!x.1)&&(e6 pos (d5 [] (F z).env)).all (λx=>x.1.isSome)&&decide (([b]:List Expr).length+([]:List R8).length+(if([]:List R8).isEmpty then 0 else 1)<30))=true:=by intro _;rfl)
   (hK:∀z,(F z).K=K:=by intro _;rfl):QE T K F (.Call (.Attribute a "join" ap) [b] [] pos) (HP pa pb):=by
 obtain⟨t,a1,a2⟩:=ha;obtain⟨u,b1,b2⟩:=hb
 refine⟨tBM K "str" (λx vs H Q=>∃(sep:Str) (l:A0) (ys:List Str),x=.str sep/\vs=[.ref l]/\SqL K H l (ys.map V.str)/\(ys.map (·.length)).sum+ys.length*sep.length<=16777216/\Q (.str (Txt.join sep ys)) H) t (Z4 u tNil),
  λz=>hK z▸B_ PySem.F.plainAttrs_str PySem.F.slot_str_join PySem.F.type_str_join Pn (a1 z) (F8 (b1 z) K5 (D9 hs)) (hbase z) (hfew z) hline (D9 hs),λC G σ H env n R Q hK hT S hp k=>?_⟩
 refine a2 C G σ H env n _ _ hK hT S hp λx jc n1 v H1 q1 S1 r1 f1=>?_;cases x with
 | str sep =>
  obtain rfl:v=.str sep:=r1;refine⟨rfl,Dv b2 hK hT S1 q1 λy jd n2 w H2 q2 S2 r2 f2=>?_⟩;unfold HN at q2
  split at q2
  ·rename_i sep' xs e1;cases e1
   split at q2
   ·rename_i ys ey;have rd:RdV K G H2 (.lst xs) w:=hK▸r2.rd S2;obtain⟨l,vs,ev,hq,rs⟩:=rd.lst;exact⟨sep,l,ys,rfl,by rw[ev],DE ey rs▸hq,by omega,k _ _ _ _ _ q2.2 S2 rfl (f1.trans f2)⟩
   ·grind
  ·grind
 |_=>exact q1.elim
def Fy:PV->Option Bool
 |.non=>some false
 |.bl b=>some b
 |.int i=>some (i != 0)
 |.str z=>if z.length<=1000000 then some ((z.length:Int) != 0) else none
 |.lst xs=>some (!xs.isEmpty)
 |.tup xs=>some (!xs.isEmpty)
 |_=>none
def HQ (pe:pE):pT:=λenv n R=>pe env n λx jc n1=>match Fy x with|some b=>R b jc n1|none=>False
theorem Kv (r:Reps K G H xs vs):(!vs.isEmpty)=!xs.isEmpty:=by
 have:=r.length;cases xs <;> cases vs <;> simp_all
theorem Kw {b:Bool}(h:Fy x=some b)(r:RdV K G H x v):TruV K v H b:=by
 cases x with
 |non=>rw[r.non];cases h;rfl
 |bl c=>rw[r.bl];cases h;rfl
 |int i=>rw[r.int];cases h;rfl
 | str z =>
  rw[r.str]
  by_cases hz:z.length<=1000000
  ·have h':(if z.length<=1000000 then some ((z.length:Int) != 0) else none)=some b:=h;rw[jt hz] at h';cases h';exact⟨mil hz,rfl⟩
  ·have h':(if z.length<=1000000 then some ((z.length:Int) != 0) else none)=some b:=h;rw[ju hz] at h';cases h'
 |lst xs=>obtain⟨a,vs,ev,hq,rs⟩:=r.lst;rw[ev];cases h;exact .inl ⟨vs,hq,(Kv rs).symm⟩
 |tup xs=>obtain⟨a,vs,ev,hq,rs⟩:=r.tup;rw[ev];cases h;exact .inr (.inl ⟨vs,hq,(Kv rs).symm⟩)
 |_=>cases h
theorem Qa (h:QR T K F e pe)(he:∀z whole,isTrue e (F z).env whole=(do let v ← whole;e7 e.pos;T9 [v] (truthy v)):=by intro _ _;rfl)(hK:∀z,(F z).K=K:=by intro _;rfl):QT T K F e (HQ pe):=by
 obtain⟨t,a1,a2⟩:=h;refine⟨_,λz=>hK z▸Ou (a1 z) (he z),λC G σ H env n R Q hK hT S hp k=>?_⟩;refine a2 C G σ H env n _ _ hK hT S hp λx jc n1 v H1 q1 S1 r1 f1=>?_
 split at q1
 ·rename_i b eb;exact⟨b,hK▸Kw eb (r1.rd S1),k _ _ _ _ q1 S1 f1⟩
 grind
end
def Z9 (i:Nat)(pe:pE):pE:=λenv n R=>(∃xs,env[i]?=some (some (.ow .lst xs)))/\HF i pe env n R
def HR (i:Nat)(pe:pE):pE:=λenv n R=>(∃xs,env[i]?=some (some (.ow .lst xs)))/\HG i pe env n R
abbrev b__law_draw:pF:=Ci
end Pu
end
section
namespace Pu
open PySem PySem.Spec L2
theorem Kx {te:pE}{rest:Env}(f:PV->PV):∀(xs:List PV) (s0:Option Slot) (n:Nat) (R:List PV->Nat->Prop),(∀x∈xs,∀m Q,Q (f x) (some (.v x)::rest) m->te (some (.v x)::rest) m Q)->R (xs.map f) n->U8 (gN 0) qTru te xs (s0::rest) n R
 |[],_,_,_,_,h=>h
 | x :: xs, s0, n, R, ht, h => by
  show te (some (.v x)::rest) n _;refine ht x C6 n _ ?_;exact Kx f xs _ n _ (λy hy=>ht y (C5 _ hy)) h
theorem Kz {te:pE}{rest:Env}(P:PV->Prop)(c N:Nat):∀(xs:List PV) (s0:Option Slot) (n:Nat) (R:List PV->Nat->Prop),
   (∀x∈xs,∀m Q,m<=N->(∀y m',P y->m'<=m+c->Q y (some (.v x)::rest) m')->te (some (.v x)::rest) m Q)->n+c*xs.length<=N->(∀ys n',ys.length=xs.length->(∀y∈ys,P y)->n'<=n+c*xs.length->R ys n')->U8 (gN 0) qTru te xs (s0::rest) n R
 |[],_,n,_,_,_,h=>h [] n rfl (λ_ z=>nomatch z) (by omega)
 | x :: xs, s0, n, R, ht, hN, h => by
  have hl:c*(x::xs).length=c*xs.length+c:=by rw[K2,Nat.mul_succ]
  show te (some (.v x)::rest) n _;refine ht x C6 n _ (by omega) λy m' py hm=>?_;refine Kz P c N xs _ m' _ (λy hy=>ht y (C5 _ hy)) (by omega) λys n' e p hn=>?_;exact h (y::ys) n' (by simp[e]) (λz hz=>(D0.mp hz).elim (λe=>e▸py) (p z)) (by omega)
theorem Q8 {g:pG}{b:pS}{D:AY}(I:Nat->Env->Nat->Prop):∀(xs:List PV) (k:Nat) (env:Env) (n:Nat),I k env n->
   (∀(i:Nat) x env n (N:Env->Nat->Prop),xs[i]?=some x->I (k+i) env n->(∀e m,I (k+i+1) e m->N e m)->g x env λjc=>b { D with nx:=N,ct:=N,bk:=D.nx } jc n)->(∀env n,I (k+xs.length) env n->D.nx env n)->forL g b D xs env n
 |[],k,env,n,h0,_,hd=>hd env n h0
 | x :: xs, k, env, n, h0, hs, hd => by
  show g x env λjc=>b { D with nx:=λe m=>forL g b D xs e m,ct:=λe m=>forL g b D xs e m,bk:=D.nx } jc n;refine hs 0 x env n _ rfl h0 λe m h1=>?_;refine Q8 I xs (k+1) e m h1 (λi y env n N e1 h2 h3=>?_) λenv n h2=>hd env n (by rw[K2,show k+(xs.length+1)=k+1+xs.length by omega];exact h2);refine hs (i+1) y env n N (by simpa using e1) (by rw[show k+(i+1)=k+1+i by omega];exact h2) λe m h4=>h3 e m (by rw[show k+1+i+1=k+(i+1)+1 by omega];exact h4)
theorem DF {j i:Nat}{lo:Int}{x:PV}(h:((F6 j).map λ(k:Nat)=>PV.int (lo+k))[i]?=some x):i<j/\x=.int (lo+i):=by grind
theorem Bc:((F6 j).map λ(k:Nat)=>PV.int (lo+k)).length=j:=by simp
theorem KA {α:Type}{xs:List α}{d:Int}(h0:0<=d)(h1:d<xs.length):∃x,x∈xs/\atI xs d=some x:=by
 obtain⟨x,e1,e2⟩:=Kc h0 h1;exact⟨x,J8 e1,e2⟩
theorem sx_int (h:0<=k):HT.sIx n d (some k)=min k.toNat n:=by
 obtain⟨j,rfl⟩:=ER h;exact HT.sIx_nat n d j
theorem KB (a b:Int):eqP (.int a) (.int b)=decide (a=b):=rfl
theorem k6 (a b:Str):eqP (.str a) (.str b)=decide (a=b):=rfl
theorem KC (a b:Bool):eqP (.bl a) (.bl b)=decide (a=b):=rfl
theorem KD (xs ys:List PV):eqP (.lst xs) (.lst ys)=eqPs xs ys:=rfl
theorem Ac (xs ys:List PV):eqP (.tup xs) (.tup ys)=eqPs xs ys:=rfl
theorem Ad (x y:PV)(xs ys:List PV):eqPs (x::xs) (y::ys)=(eqP x y&&eqPs xs ys):=rfl
theorem DG:eqPs [] []=true:=rfl
theorem if_t {A B:Prop}(h:b=true)(q:A):if b=true then A else B:=by rw[jt h];exact q
theorem if_f {A B:Prop}{b:Bool}(h:b=false)(q:B):if b=true then A else B:=by grind
end Pu
end
section
namespace Pu
open PySem PySem.Spec L2
section
variable {T:PotK}{np:Bool}{ι:Type}{K:A9}{F:ι->Cx}{a b:Expr}{st:Stmt}{pos:Pos}{s1 s2:pSl}
theorem gw_two (K:A9)(i j:Nat)(hc:X.calm=true)(h1:GW X (.Name x px) (L9 i))(h2:GW X (.Name y py) (L9 j))(hn:(J3 [.Name x px,.Name y py] X.env).length=2:=by rfl)(hst:(J3 [.Name x px,.Name y py] X.env).findIdx? (·.1)=none:=by rfl)
   (hs:(J3 [.Name x px,.Name y py] X.env).map (·.2)=assign (.Name x px) X.env::(J3 [.Name y py] X.env).map (·.2):=by rfl) (hs2:(J3 [.Name y py] X.env).map (·.2)=assign (.Name y py) X.env::(J3 [] X.env).map (·.2):=by rfl) (hK:X.K=K:=by rfl) :
   GW X (.Tuple [.Name x px,.Name y py] k pos) (gTup K 2 (W5 (L9 i) (W5 (L9 j) gNil))):=⟨hK▸Fa hc (BY h1.h (BY h2.h E_ hs2) hs) hn hst⟩
theorem Qb (i j:Nat)(h:∀z te g,EW (F z) (.Tuple [a,b] k p) te->GW (F z) tg g->SW (F z) st (tAsg te g))(hg:∀z,GW (F z) tg (gTup K 2 (W5 (L9 i) (W5 (L9 j) gNil))))(h1:QL T K F a s1)(h2:QL T K F b s2)(n1:F9 a=true:=by rfl)(n2:F9 b=true:=by rfl):QS T np K F st (qPar i j s1 s2):=by
 obtain⟨t,a1,a2⟩:=h1;obtain⟨u,b1,b2⟩:=h2;refine⟨_,λz=>(h z _ _ ⟨Fd (F8 (a1 z) (F8 (b1 z) K5 (D9 n2)) (D9 n1))⟩ (hg z)).h,λC G σ H env n PD D hK hT hn S hp L=>?_⟩;refine HH (Q:=λv w H2=>[v,w].length<=C8/\∀p,H2 p=none->gTup K 2 (W5 (L9 i) (W5 (L9 j) gNil)) (.ref p) σ (upd H2 p (.tup [v,w])) D.nx) a2 b2 hK hT S hp λx y jd n2 v w G2 H2 q S2 x2 gx gy ne=>?_;refine⟨by show 2<=C8;decide,λp hn'=>⟨p,[v,w],rfl,SqT.of E8,rfl,v,[w],rfl,w,[],rfl,rfl,?_⟩⟩;have sm:Same H2 (upd H2 p (.tup [v,w])):=Same.lay1 hn';have S3:=S2.same sm
 have keep:∀{s:Slot} {u:V},Ds C G2 H2 (some (some u)) s->Ds C G2 (upd H2 p (.tup [v,w])) (some (some u)) s:=λ{s u} r=>by
  cases s with
  |v x=>obtain⟨v',e,r⟩:=r;exact⟨v',e,r.same sm⟩
  |ow kk xs=>obtain⟨b,us,e,h1,h2,h3,h4,r⟩:=r;exact⟨b,us,e,h1,h2,h3,sm _ _ h4,r.same sm⟩
 refine L.nx _ _ _ _ _ q ((S3.slot i (keep gx.1) gx.2).slot j (keep gy.1) λys b e1 e2 z=>?_) (x2.trans (Ext.fr (Fr.of sm)));rcases DA S3.len z with z|⟨⟨xs,ex⟩,ev⟩
 ·exact gy.2 ys b e1 e2 z
 ·exact ne xs ys b ex e1 ev e2
end
end Pu
end
section
namespace L2
open PySem PySem.Spec PyProof.Rows
section
variable {κ:Type}[DecidableEq κ]
def valV (jg:List (κ×V))(k:κ):Option V:=(jg.find? λkv=>decide (kv.1=k)).map (·.2)
def putK (jg:List (κ×V))(k:κ)(v:V):List (κ×V):=
 if(jg.any λkv=>decide (kv.1=k))=true then jg.map (λkv=>if kv.1=k then(kv.1,v) else kv) else jg++[(k,v)]
def Cj (jg:List (κ×V))(k:κ):List (κ×V):=jg.filter λkv=>decide (kv.1≠k)
theorem HS {k:κ}(e:p.1=k):valV (p::r) k=some p.2:=by simp[valV,BE,e]
theorem HU {k:κ}(e:¬p.1=k):valV (p::r) k=valV r k:=by simp[valV,BE,e]
theorem KF (k:κ):∀jg:List (κ×V),(jg.any λkv=>decide (kv.1=k))=(valV jg k).isSome
 |[]=>rfl
 | p :: r => by
  rw[List.any_cons]
  by_cases e:p.1=k
  ·simp only[HS e,jq e,Bool.true_or,Option.isSome_some]
  ·rw[HU e,jr e,Bool.false_or];exact KF k r
theorem Qc (jg:List (κ×V))(k:κ)(v:V):(putK jg k v).length<=jg.length+1:=by
 unfold putK
 split
 ·rw[B4];omega
 ·rw[D4,K2,List.length_nil];omega
theorem RelO.isSome_eq (r:RelO o u):o.isSome=u.isSome:=by
 cases o with
 | none => cases u with
  |none=>rfl
  |some _=>exact(show False from r).elim
 | some _ => cases u with
  |none=>exact(show False from r).elim
  |some _=>rfl
theorem KV.val (r:KV jg vs)(k:κ):RelO (valV jg k) (valueAt vs k):=by
 unfold KV at r
 induction r with
 |nil=>exact p7
 | @cons p q ps qs h t ih =>
  obtain⟨h1,h2⟩:=h
  by_cases e:p.1=k
  ·have e':q.1=k:=h1.symm.trans e;have b:valueAt (q::qs) k=some q.2:=by simp[valueAt,BE,e']
   rw[HS e,b];exact h2
  ·have e':¬q.1=k:=λz=>e (h1.trans z);have b:valueAt (q::qs) k=valueAt qs k:=by simp[valueAt,BE,e']
   rw[HU e,b];exact ih
theorem KV.any {jg:List (κ×V)}{vs:List (κ×A1)}(r:KV jg vs)(k:κ):(jg.any λkv=>decide (kv.1=k))=vs.any λkv=>decide (kv.1=k):=by induction r <;> grind
theorem KV.repl (r:KV jg vs)(k:κ)(ry:RelV y u) :
   KV (jg.map λkv=>if kv.1=k then(kv.1,y) else kv) (vs.map λkv=>if kv.1=k then(kv.1,u) else kv):=by
 unfold KV at r ⊢
 induction r with
 |nil=>exact .nil
 | @cons p q ps qs h t ih =>
  rw[F2,F2];refine .cons ?_ ih;obtain⟨h1,h2⟩:=h
  by_cases e:p.1=k
  ·rw[jt e,jt (h1.symm.trans e)];exact⟨h1,ry⟩
  ·rw[ju e,ju (λz=>e (h1.trans z))];exact⟨h1,h2⟩
theorem KV.put (r:KV jg vs)(k:κ)(ry:RelV y u):KV (putK jg k y) (stored vs k u):=by
 unfold putK stored;rw[r.any k]
 by_cases e:(vs.any λkv=>decide (kv.1=k))=true
 ·rw[jt e,jt e];exact r.repl k ry
 ·rw[ju e,ju e];exact Paired.snoc r ⟨rfl,ry⟩
theorem KV.drop {jg:List (κ×V)}{vs:List (κ×A1)}(r:KV jg vs)(k:κ):KV (Cj jg k) (without vs k):=by
 unfold KV at r ⊢;unfold Cj without
 induction r with
 |nil=>exact .nil
 | @cons p q ps qs h t ih =>
  obtain⟨h1,h2⟩:=h;rw[BD,BD]
  by_cases e:p.1=k
  ·have a:¬decide (p.1≠k)=true:=by simp[e]
   have b:¬decide (q.1≠k)=true:=by simp[h1.symm.trans e]
   rw[ju a,ju b];exact ih
  ·have e':¬q.1=k:=λz=>e (h1.trans z);have a:decide (p.1≠k)=true:=by simp[e]
   have b:decide (q.1≠k)=true:=by simp[e']
   rw[jt a,jt b];exact .cons ⟨h1,h2⟩ ih
theorem KV.keys {jg:List (κ×V)}{vs:List (κ×A1)}(r:KV jg vs):jg.map (·.1)=vs.map (·.1):=by induction r <;> grind
theorem KV.length (r:KV jg vs):jg.length=vs.length:=EY r
theorem Qd (jg:List (κ×V))(k:κ):(Cj jg k).length<=jg.length:=CV _ _
end
theorem Fz (r:RelV (kV k) u):(J6 P w).is k u=true:=by
 cases k with
 |inl i=>obtain⟨t,e⟩:=(show ∃t,u=Value.int i t from r);subst e;exact Jv P w i t
 |inr x=>obtain⟨t,e⟩:=(show ∃t,u=Value.str x t from r);subst e;exact GQ P w x t
theorem items_are {P:D1}{w:C9}:∀{ks:List Key} {us:List A1},Vals (ks.map kV) us->ItemsAre (J6 P w) ks us
 |[],_,r=>by rw[List.map_nil] at r;cases r;exact .nil
 | k :: ks, _, r => by
  rw[F2] at r;cases r with
  |cons h t=>exact .cons (Fz h) (items_are t)
abbrev KT (H:Hp):List (List Key×V)->List (List Key×A0×A1)->Prop:=Paired λp q=>p.1=q.1/\H q.2.1=some (.tup (p.1.map kV))/\RelV p.2 q.2.2
theorem KT.val (r:KT H jg xs)(k:List Key):RelO (valV jg k) ((atKey xs k).map (·.2)):=by
 induction r with
 |nil=>exact p7
 | @cons p q ps qs h t ih =>
  obtain⟨h1,_,h2⟩:=h
  by_cases e:p.1=k
  ·have e':q.1=k:=h1.symm.trans e;have b:atKey (q::qs) k=some q.2:=by simp[atKey,BE,e']
   rw[HS e,b];exact h2
  ·have e':¬q.1=k:=λz=>e (h1.trans z);have b:atKey (q::qs) k=atKey qs k:=by simp[atKey,BE,e']
   rw[HU e,b];exact ih
section
variable {P:D1}{w:C9}{H:Hp}{h:B6}{a:A0}
theorem rd_of (ok:HOk P w H h)(e:Rd H a u):J0 P w H h a u:=e.ok ok
theorem dk_rd (ok:HOk P w H h)(e:Rd H a (.dK jg)):jg.length<=C8/\(a == O3)=false/\∃vs,KV jg vs/\h.DictOf (J6 P w) a vs:=
 show J0 P w H h a (.dK jg) from rd_of ok e
theorem dk_of (ok:HOk P w H h)(e:H a=some (.dK jg)):jg.length<=C8/\(a == O3)=false/\∃vs,KV jg vs/\h.DictOf (J6 P w) a vs:=dk_rd ok (.inl e)
theorem KG (ok:HOk P w H h)(e:H a=some (.tup (ks.map kV))):(tupleKind (J6 P w)).is h ks a:=by
 obtain⟨_,jf,r,o,h1,h2,n,h3⟩:=(show J0 P w H h a (.tup (ks.map kV)) from ok a _ e);exact⟨o,jf.toArray,n,h1,(Di h2).1,h3,by simpa using items_are r⟩
theorem dt_rd {jg:List (List Key×V)}(ok:HOk P w H h)(e:Rd H a (.dT jg)):jg.length<=C8/\(a == O3)=false/\
   ∃xs,KT H jg xs/\h.DictOfH (tupleKind (J6 P w)) a xs:=by
 obtain⟨z,y,xs,r,o,es,ep,h1,h2,h3,h4,h5⟩:=(show J0 P w H h a (.dT jg) from rd_of ok e);refine⟨z,y,xs,r,o,es,ep,h1,h2,h3,h4,λx hx=>?_,h5⟩
 have all:∀{l:List (List Key×V)} {m:List (List Key×A0×A1)},KT H l m->∀x∈m,(tupleKind (J6 P w)).is h x.1 x.2.1:=by
  intro l m q
  induction q with
  |nil=>intro x hx;exact nomatch hx
  | @cons p q ps qs hq t ih =>
   intro x hx;rcases D0.mp hx with e|hx
   ·subst e;exact KG ok (by grind)
   ·grind
 grind
end
def DGet (H:Hp)(a:A0)(y:V)(r:Option V):Prop:=
 (∃jg k,Rd H a (.dK jg)/\y=kV k/\r=valV jg k)\/∃jg k b,Rd H a (.dT jg)/\y=.ref b/\H b=some (.tup (k.map kV))/\r=valV jg k
def DPut (H:Hp)(a:A0)(y v:V)(H':Hp):Prop:=
 (∃jg k,H a=some (.dK jg)/\y=kV k/\jg.length<C8/\H'=upd H a (.dK (putK jg k v)))\/
 ∃jg k b,H a=some (.dT jg)/\y=.ref b/\H b=some (.tup (k.map kV))/\jg.length<C8/\H'=upd H a (.dT (putK jg k v))
theorem DGet.k {k:Key}(e:H a=some (.dK jg)):DGet H a (kV k) (valV jg k):=.inl ⟨jg,k,.inl e,rfl,rfl⟩
theorem DGet.t {k:List Key}(e:H a=some (.dT jg))(eb:H b=some (.tup (k.map kV))):DGet H a (.ref b) (valV jg k):=.inr ⟨jg,k,b,.inl e,rfl,eb,rfl⟩
theorem DPut.k {k:Key}(e:H a=some (.dK jg))(hl:jg.length<C8):DPut H a (kV k) v (upd H a (.dK (putK jg k v))):=.inl ⟨jg,k,e,rfl,hl,rfl⟩
theorem DPut.t {k:List Key}(e:H a=some (.dT jg))(eb:H b=some (.tup (k.map kV)))(hl:jg.length<C8) :
   DPut H a (.ref b) v (upd H a (.dT (putK jg k v))):=.inr ⟨jg,k,b,e,rfl,eb,hl,rfl⟩
section
variable {X:Cx}{jb:List (A0×Obj)}{σ:St}{H:Hp}{s:A5}{a:A0}{y v:V}{u r:A1}{o:Option V}{A:D5}{E:A1->A5->Prop}
theorem d_in {Q:A1->A5->Prop}(hu:A.units+1<cLine)(I:Inv X jb σ H s)(g:DGet H a y o)(ry:RelV y u)(h:∀s',Inv X jb σ H s'->Q (.bool o.isSome) s') :
   A6 (A7 X.prog X.w) A (M1 .In u (.ref a)) Q E s:=by
 rcases g with⟨jg,k,e,ey,l⟩|⟨jg,k,b,e,ey,eb,l⟩
 ·subst ey;obtain⟨z,hd,vs,rel,dd⟩:=dk_rd I.hok e;refine wpAny_in_of (Fz ry) hd dd.mapOf ?_;rw[<- (rel.val k).isSome_eq,<- l];exact h _ (I.tok _)
 ·subst ey;cases(show u=L8 b from ry);obtain⟨z,hd,xs,rel,dd⟩:=dt_rd I.hok e;refine wpAny_in_heap (tupleKind_room_in1 hu) (KG I.hok eb) hd dd ?_;have q:=(rel.val k).isSome_eq;rw[Option.isSome_map] at q;rw[<- q,<- l];exact h _ (I.tok _)
theorem KH (I:Inv X jb σ H s)(mu:Mut (H a))(hs:V2 a s.heap h')(he:∃q,h'.get? a=some q)(new:J0 X.prog X.w (upd H a ob) h' a ob) :
   Inv X jb σ (upd H a ob) { s with heap:=h',toks:=t' }:=
 I.write (x:=a) (e:=a) mu (.inl rfl) (λb q hb z=>(hs.2 b hb).trans z) he new
theorem KI (z:jg.length<=C8)(hd:(a == O3)=false)(rel:KV jg vs)(dd:h'.DictOf (J6 P w) a vs) :
   J0 P w H' h' a (.dK jg):=⟨z,hd,vs,rel,dd⟩
end
section
variable {X:Cx}{jb:List (A0×Obj)}{σ:St}{H:Hp}{s:A5}{a:A0}{jg:List (Key×V)}{k:Key}{u:A1}{A:D5}{E:A1->A5->Prop}
theorem Qe {Q:Unit->A5->Prop}(I:Inv X jb σ H s)(e:H a=some (.dK jg))(ry:RelV (kV k) u)(l:(valV jg k).isSome=true)(h:∀s',Inv X jb σ (upd H a (.dK (Cj jg k))) s'->Q () s') :
   A6 (A7 X.prog X.w) A (delItem (.ref a) u) Q E s:=by
 obtain⟨z,hd,vs,rel,dd⟩:=dk_of I.hok e
 refine wpAny_delItem_slot dd.typeIs (by decide) PySem.F.slot_dict_delitem
   (call_meetsIn PySem.F.slot_dict_delitem dd.typeIs PySem.F.entry_dict_delitem (PySem.F.args_dict_delitem_2 _ _) (meets_dict_delitem_pairs (J6 X.prog X.w) a (Fz ry)) ⟨vs,dd,by rw[<- rel.length];exact z,by rw[<- (rel.val k).isSome_eq];exact l,λh' dd' hs=>h _ ?_⟩)
 have he:∃q,h'.get? a=some q:=let ⟨q,_,_,hq,_⟩:=dd';⟨q,hq⟩;exact KH I (by rw[e];exact p7) hs he (KI (J9 (Qd jg k) z) hd (rel.drop k) dd')
end
def sDDel (td ty:TE):TS:=λD σ H=>td σ H λx H1=>ty σ H1 λy H2=>∃a jg k,x=.ref a/\H2 a=some (.dK jg)/\y=kV k/\(valV jg k).isSome=true/\D.nx σ (upd H2 a (.dK (Cj jg k)))
section
variable {X:Cx}{o i e value:Expr}{pos pos' tpos:Pos}{td ty tv:TE}
theorem Qg (ho:PE X o td)(hi:PE X i ty):PS X (.Delete [.Subscript o i tpos] pos) (sDDel td ty):=by
 intro jb s σ H D I h;refine wpAny_Delete (wpAny_deleteEach_cons (wpAny_delete_Subscript (thn (ho jb s σ H _ I h) λu s1 ⟨x,H1,I1,rx,q1⟩=>thn (hi jb s1 σ H1 _ I1 q1) λiv s2 ⟨y,H2,I2,ry,a,jg,k,ex,e,ey,l,q2⟩=>?_)));subst ex ey;obtain rfl:u=L8 a:=rx;exact Qe I2 e ry l λs3 I3=>wpAny_deleteEach_nil ⟨σ,_,I3,q2⟩
end
end L2
end
section
namespace Pu
open PySem PySem.Spec L2
section
variable {T:PotK}{ι:Type}{K:A9}{F:ι->Cx}{e:Expr}{pe:pE}{pos:Pos}
def Ae (i:Nat)(pe:pE):pE:=λenv n R=>(∃xs,env[i]?=some (some (.ow .lst xs)))/\pe env n λy jc n1=>match jc[i]?,y with|some (some (.ow .lst xs)),.lst ys=>xs.length+ys.length<=1000000/\R .non (jc.set i (some (.ow .lst (xs++ys)))) n1|_,_=>False
theorem DH (i:Nat)(hv:∀z,EW (F z) (.Name x p) (tVar i))(he:QE T K F e pe)(hs:F9 e=true:=by rfl)(hbase:∀z,Aw (.Name x p) "extend" (F z).env (eval (.Name x p) (F z).env)=eval (.Name x p) (F z).env:=by intro _;rfl)(hline:(ap.endLine == pos.line)=true:=by rfl)
   (hfew:∀z,((backTo pos (F5 [e] (F z).env)).all (λx=>!x.1)&&(e6 pos (d5 [] (F z).env)).all (λx=>x.1.isSome)&&decide (([e]:List Expr).length+([]:List R8).length+(if([]:List R8).isEmpty then 0 else 1)<30))=true:=by intro _;rfl) (hK:∀z,(F z).K=K:=by intro _;rfl):QE T K F (.Call (.Attribute (.Name x p) "extend" ap) [e] [] pos) (Ae i pe):=by
 obtain⟨t,a1,a2⟩:=he;refine⟨tBM K "list" JR (tVar i) (Z4 t tNil),λz=>hK z▸B_ EO PySem.F.slot_list_extend PySem.F.type_list_extend OX (hv z).h (F8 (a1 z) K5 (D9 hs)) (hbase z) (hfew z) hline (D9 hs),λC G σ H env n R Q hK hT S hp k=>?_⟩;obtain⟨⟨xs0,e0⟩,hp⟩:=hp;obtain⟨a,vs,ev,h1,h2,h3,h4,r⟩:=S.slots i _ e0;refine⟨.ref a,ev,.inl ⟨rfl,vs,SqL.of h4⟩,?_⟩;refine a2 C G σ H env n _ _ hK hT S hp λy jc n1 v H1 q1 S1 r1 f1=>?_
 split at q1
 ·rename_i xs ys ex;obtain⟨a',us,ev',g1,g2,g3,g4,r'⟩:=S1.slots i _ ex;rw[ev] at ev';cases ev';subst hK;obtain⟨b,ws,rfl,tb,rb⟩:=r1;obtain⟨S2,f2⟩:=S1.put ex ev (r'.append rb);exact⟨a,b,us,ws,rfl,rfl,g4,tb.2,by rw[<- r'.length,<- rb.length];exact mil q1.1,k _ _ _ _ _ q1.2 S2 rfl (f1.trans f2)⟩
 ·exact q1.elim
end
end Pu
end
section
namespace L2
open PySem PySem.Spec PyProof.Rows
theorem HV:∀{ys:List Str} {us:List A1},Vals (ys.map V.str) us->StrsAre us ys
 |[],us,r=>by rw[List.map_nil] at r;cases r;exact .nil
 | y :: ys, us, r => by
  rw[F2] at r;cases r with
  | cons r1 r2 =>
   obtain⟨t,e⟩:=r1;subst e;exact .cons y t (HV r2)
section
variable {X:Cx}
def KJ (K:A9):V->List V->Hp->VK->Prop:=λx vs H Q=>∃(l:A0) (k:Str) (ys:List Str),x=.ref l/\vs=[.str k]/\SqL K H l (ys.map V.str)/\Q (.int (countIn (.str k) (ys.map PyData.str))) H
theorem Qh:MtM X "list.count" (KJ X.K):=by
 intro jb s σ H x vs v us Q I rx rv h;obtain⟨l,k,ys,rfl,rfl,hq,q⟩:=h;cases rx;obtain⟨u,rfl,ru⟩:=rv.one;obtain⟨t,rfl⟩:=ru;obtain⟨jf,r,p,hz⟩:=I.list hq;exact count_list_strs p.isList (HV r) ⟨.int _,H,I.tok _,⟨_,rfl⟩,q⟩
end
end L2
namespace Pu
open PySem PySem.Spec PyProof.Rows L2
section
variable {T:PotK}{ι:Type}{K:A9}{F:ι->Cx}{e c:Expr}{pe pc:pE}{pos:Pos}
def FA:w2:=λx y R=>match x,y with|.lst xs,.str k=>(match Q4 xs with|some ys=>R (.int (countIn (.str k) (ys.map PyData.str)))|none=>False)|_,_=>False
theorem KL {ap:Pos}(he:QE T K F e pe)(hc:QE T K F c pc)(hs:F9 c=true:=by rfl)(hbase:∀z,Aw e "count" (F z).env (eval e (F z).env)=eval e (F z).env:=by intro _;rfl)(hline:(ap.endLine == pos.line)=true:=by rfl)
   (hfew:∀z,((backTo pos (F5 [c] (F z).env)).all (λx=>!x.1)&&(e6 pos (d5 [] (F z).env)).all (λx=>x.1.isSome)&&decide (([c]:List Expr).length+([]:List R8).length+(if([]:List R8).isEmpty then 0 else 1)<30))=true:=by intro _;rfl) (hK:∀z,(F z).K=K:=by intro _;rfl):QE T K F (.Call (.Attribute e "count" ap) [c] [] pos) (λenv n R=>pe env n λx jc n1=>(∃xs,x=.lst xs)/\pc jc n1 λy jd n2=>FA x y λz=>R z jd n2):=by
 obtain⟨t,a1,a2⟩:=he;obtain⟨u,b1,b2⟩:=hc;refine⟨tBM K "list" (KJ K) t (Z4 u tNil),λz=>hK z▸B_ EO PySem.F.slot_list_count PySem.F.type_list_count Qh (a1 z) (F8 (b1 z) K5 (D9 hs)) (hbase z) (hfew z) hline (D9 hs),λC G σ H env n R Q hK hT S hp k=>?_⟩;refine a2 C G σ H env n _ _ hK hT S hp λx jc n1 v H1 q1 S1 r1 f1=>?_;obtain⟨⟨xs,rfl⟩,q1⟩:=q1;obtain⟨a,vs,rfl,ta,ra⟩:=r1;refine⟨.inl ⟨rfl,vs,SqL.of ta.2⟩,?_⟩;refine b2 C G σ H1 jc n1 _ _ hK hT S1 q1 λy jd n2 w H2 q2 S2 r2 f2=>?_;unfold FA at q2
 split at q2
 ·rename_i xs' kk e1;cases e1
  split at q2
  ·rename_i ys ey;obtain⟨a',vs',e3,ta',ra'⟩:=(show Rep K G H1 (.lst xs) (.ref a) from⟨a,vs,rfl,ta,ra⟩).fr f2;cases e3;exact⟨a,kk,ys,rfl,by rw[show w=.str kk from r2],DE ey ra'▸SqL.of ta'.2,k _ _ _ _ _ q2 S2 rfl (f1.trans f2)⟩
  ·exact q2.elim
 ·exact q2.elim
end
end Pu
namespace Pu
def HW (pe pc:pE):pE:=λenv n R=>pe env n λx jc n1=>(∃xs,x=.lst xs)/\pc jc n1 λy jd n2=>FA x y λz=>R z jd n2
end Pu
end
section
namespace L2
open PySem PySem.Spec PyProof.Rows
theorem Qi {X:Cx}{scope:G0}{cl:List (Str×A0)}{N:List Str}{jb:List (A0×Obj)}{σ σ3:St}{H2 H3:Hp}{s2 s4:A5}{fp:List A0}{i:Nat}{y:Str}{py:Pos}{DD:Ends}(hN:X.N.Nodup)(hiy:X.N[i]?=some y)(hy:Loc X.env.scope y)(hff:X.fn y=true\/X.env.scope.names.lookup y=some .local)(I2:Inv X jb σ H2 s2)(f2:∀b∈fp,FpOk X jb H2 b)(I4:Inv (E4 X scope cl N fp (s2.heap.objs.size+1) s2 H2) jb σ3 H3 s4)(qn:DD.nx (σ.set i (some (.ref s2.heap.objs.size))) H3) :
   compPost (A7 X.prog X.w) X.A X.xe (some (assign (.Name y py) X.env)) (λ_ s'=>SP X jb DD .next s') (.ref s2.heap.objs.size) (s2.heap.objs.size+1) (.ok .next) s4:=by
 obtain⟨m4,hn4,_⟩:=I4.loc;have I5:Inv X jb σ H3 s4:=Inv.uncomp (h':=s4.heap) I2 f2 I4 λb hb=>rfl;have fr:H3 (s2.heap.objs.size+1)=none:=I4.free;have oldne:∀{b o},s2.heap.get? b=some o->b≠s2.heap.objs.size+1:=λe=>D3 (U3 (C4 e));have locne:X.env.locals≠s2.heap.objs.size+1:=D3 (U3 I2.lt)
 have cellne:∀x c,X.env.cells.lookup x=some c->c≠s2.heap.objs.size+1:=λx c e=>by
  obtain⟨v,o,h1,_⟩:=I2.cell x c e;exact oldne h1
 have pinne:∀p∈X.pn++jb,p.1≠s2.heap.objs.size+1:=λp hp=>oldne (I2.pin p hp).1;have sz:X.s₀.heap.objs.size<=s2.heap.objs.size+1:=Ex I2.sz;clear I4 I2;generalize s2.heap.objs.size+1=C at *;refine CJ (GR I5 hN hiy hy (v:=.ref s2.heap.objs.size) rfl (λs6 I6 ⟨a6,sb6,ha6⟩=>?_) hff);refine⟨m4,hn4.sameBut sb6 (ha6.elim (λz=>by rw[z];exact Ne.symm locne) λz=>Ne.symm (cellne _ _ z)),λh' hs'=>⟨_,H3,?_,qn⟩⟩;have U0:Un (frs X.stack) [C] H3 H3 s6.heap s6.heap:=Un.refl;have hx':∀{b},b∉[C]->h'.get? b=s6.heap.get? b:=λ{b} hx=>hs'.2 b λz=>hx (by rw[z];simp)
 have trC:∀{b u},H3 b=some u->b∉[C]:=λ{b u} e z=>by
  rw[E1.mp z,fr] at e;cases e
 obtain⟨hh6,g6,d6,t6,os6⟩:=s6;refine I6.call (h':=h') (g':=g6) (d':=d6) (t':=t6) (ch:=[C]) ⟨λb o e n hb hx=>?_,λb o e n hb hx=>?_,U0.free,λb o e hx=>?_,U0.tups,U0.frzs,U0.tbls,U0.sys⟩ (λb u e=>?_) I6.bare λb hb=>?_
 ·rw[hx' hx];exact U0.keep b o e n hb hx
 ·rw[hx' hx];exact U0.slot b o e n hb hx
 ·rw[hx' hx];exact U0.there b o e hx
 ·refine(I6.hok b u e).stay (λc v hc q=>?_) (λ_ q=>q) λ_ _ q=>q;rw[hx' (hc.elim (λz=>by rw[z];exact trC e) trC)];exact q
 ·rw[E1.mp hb];exact⟨.inr sz,Ne.symm locne,cellne,pinne⟩
theorem Qj {X:Cx}{scope:G0}{cl:List (Str×A0)}{N:List Str}{cs:List (Option Nat)}{ji tg iter:Expr}{jk:List Expr}{pos spos py:Pos}{wi:TI}{g:TG}{tt:TT}{te:TE}{i:Nat}{y:Str}(hN:X.N.Nodup)(hiy:X.N[i]?=some y)(hy:Loc X.env.scope y)(S:W6 X scope cl N cs)(hc:X.calm=true)(hi:PI X tg iter wi)
   (hb:∀(fp:List A0) (C:A0) (s:A5) (H:Hp),PG (E4 X scope cl N fp C s H) tg g/\PIf (E4 X scope cl N fp C s H) jk tt/\PE (E4 X scope cl N fp C s H) ji te)
   (hsw:d8 (.ListComp ji [⟨tg,iter,jk,0⟩] scope pos) (some (.Name y py)) spos.line X.env=pure true:=by rfl)
   (hs:∀x,Q9 iter X.env x=pure x:=by intro _;rfl) (hff:X.fn y=true\/X.env.scope.names.lookup y=some .local:=by first|exact .inl rfl|exact .inr rfl|assumption) :
   PS X (.Assign [.Name y py] (.ListComp ji [⟨tg,iter,jk,0⟩] scope pos) spos) (tAsg (tComp cs wi g tt te) (L9 i)):=by
 intro jb s σ H DD I h;rw[exec_Assign_Name_used _ _ _ _ hsw];refine A2 (R7 (A2 (A2 (G7 (Q:=λ_ s'=>SP X jb DD .next s') (Hi S hc hi hs I h λfp it tn J s2 H2 s₃ T stat I2 f2 q Ic st1 fr1=>?_) (λ_ s' hq=>B2 (B2 hq)) λ_ _ e=>e))));obtain⟨W,⟨m0,w0⟩,turn⟩:=q;obtain⟨hg,hf,he⟩:=hb fp (s2.heap.objs.size+1) s2 H2;exact JT _ (Hh (Y:=E4 X scope cl N fp (s2.heap.objs.size+1) s2 H2) T hc stat hg hf he (λs4 σ3 H3 I4 qn=>Qi hN hiy hy hff I2 f2 I4 qn) turn) m0 ⟨0,_,_,Ic,st1,fr1,w0⟩
end L2
namespace Pu
open PySem PySem.Spec L2
def SwOk (X:Cx)(e:Expr)(t:TE):Prop:=∀(i:Nat) (y:Str) (py spos:Pos),X.N.Nodup->X.N[i]?=some y->Loc X.env.scope y->d8 e (some (.Name y py)) spos.line X.env=pure true->(X.fn y=true\/X.env.scope.names.lookup y=some .local)->PS X (.Assign [.Name y py] e spos) (tAsg t (L9 i))
def QNC {ι:Type}(T:PotK)(K:A9)(F:ι->Cx)(e:Expr)(pn:pA):Prop:=∃t,(∀z,PE (F z) e t)/\(∀z,SwOk (F z) e t)/\NOk K T t pn
section
variable {T:PotK}{np:Bool}{ι:Type}{K:A9}{F:ι->Cx}{e:Expr}{pl:pA}{pg:pG}{pos:Pos}
theorem DI {scope:G0}{cl:ι->List (Str×A0)}{N:List Str}{cs:List (Option Nat)}{ji tg iter:Expr}{jk:List Expr}{pi:pA}{ptt:pT}{pte:pE}(S:∀z,W6 (F z) scope (cl z) N cs)(hc:∀z,(F z).calm=true)(hi:QI T K F tg iter pi)
   (hg:QG K (λy:ι×List A0×A0×A5×Hp=>E4 (F y.1) scope (cl y.1) N y.2.1 y.2.2.1 y.2.2.2.1 y.2.2.2.2) tg pg) (ht:QIf T K (λy:ι×List A0×A0×A5×Hp=>E4 (F y.1) scope (cl y.1) N y.2.1 y.2.2.1 y.2.2.2.1 y.2.2.2.2) jk ptt)
   (he:QE T K (λy:ι×List A0×A0×A5×Hp=>E4 (F y.1) scope (cl y.1) N y.2.1 y.2.2.1 y.2.2.2.1 y.2.2.2.2) ji pte)
   (hs:∀z x,Q9 iter (F z).env x=pure x:=by intro _ _;rfl):QNC T K F (.ListComp ji [⟨tg,iter,jk,0⟩] scope pos) (L4 cs pi pg ptt pte):=by
 obtain⟨wi,i1,i2⟩:=hi;obtain⟨g,hg0,hg⟩:=hg;obtain⟨tt,ht0,ht⟩:=ht;obtain⟨te,he0,he⟩:=he;refine⟨_,λz=>JW (S z) (hc z) (i1 z) (λfp C s H=>⟨hg0 (z,fp,C,s,H),ht0 (z,fp,C,s,H),he0 (z,fp,C,s,H)⟩) (hs z),λz i y py spos hN hi hy hsw hf=>Qj hN hi hy (S z) (hc z) (i1 z) (λfp C s H=>⟨hg0 (z,fp,C,s,H),ht0 (z,fp,C,s,H),he0 (z,fp,C,s,H)⟩) hsw (hs z) hf,λC G σ H env n R Q hK hT S hp k=>?_⟩;refine i2 C G σ H env n _ _ hK hT S hp λxs jc n1 J H1 p1 S1 f1 hJ=>?_;intro D hD;have hDM:=S1.fresh hD;refine Ks (G:=G) hg ht he hJ p1.1 hD (hT▸hK▸Fp S1 cs) p1.2 λys n2 us H' rr hpots hk eD ry=>?_
 -- the heap without D
 have nD:∀b o,H1 b=some o->b≠D:=λb o e z=>by rw[z,hD] at e;cases e
 have hD0:C.H0 D=none:=by
  cases z:C.H0 D with
  |none=>rfl
  | some o =>
   by_cases hp:D∈C.pots0
   ·exact absurd (S1.sup D (S1.p0.1 D hp)) hDM
   ·have:=S1.frame D o hp z;rw[hD] at this;cases this
 have hk2:∀b o,b∉G.pots->H1 b=some o->cutH H' D b=some o:=λb o hb e=>by rw[Q6 (nD b o e)];exact hk b o hb e
 have nc:∀b,b∉D::G.M->b≠D:=λb hb z=>hb (by rw[z];exact C6);have np:∀p∈G.pots,p≠D:=λp hp z=>hDM (z▸(S1.pots p hp).1)
 have Sb:SR C G σ (cutH H' D) jc n2:=S1.call hk2 λp hp=>by
  subst hT;have h2:=C.T.keep (hpots p hp) (H':=cutH H' D) (Q6 (np p hp)) λb o hb e=>by rw[Q6 (nc b hb)];exact e
  exact C.T.more h2 λa ha=>.inl (C5 _ ha)
 have:=k ys jc n2 D us (cutH H' D) rr Sb (f1.trans λb o hb e=>hk2 b o (λz=>hb (S1.pots b z).1) e) (by unfold cutH;rw[jt rfl]) ?_
 ·rw[Fq eD] at this;exact this
 ·exact Reps.mono (G:=⟨D::G.M,G.pots⟩) (λb o hb e=>by rw[Q6 (nc b hb)];exact e) (λa ha=>.inl (C5 _ ha)) (λ_ _ e=>e) _ _ ry
theorem DJ (i:Nat){y:Str}{py spos:Pos}(h:QNC T K F e pl)(hN:∀z,(F z).N.Nodup)(hi:∀z,(F z).N[i]?=some y)(hy:∀z,Loc (F z).env.scope y)(hsw:∀z,d8 e (some (.Name y py)) spos.line (F z).env=pure true:=by intro _;rfl)(hf:∀z,(F z).fn y=true\/(F z).env.scope.names.lookup y=some .local:=by intro _;first|exact .inl rfl|exact .inr rfl):QS T np K F (.Assign [.Name y py] e spos) (qSet i (qL pl)):=by
 obtain⟨t,a1,a3,a2⟩:=h
 have he:EOk K T t (qL pl):=λC G σ H env n R Q hK hT S hp k=>by
  refine a2 C G σ H env n _ _ hK hT S hp λxs jc n1 a vs Hb p1 S1 f1 hn r1=>?_;exact k _ _ _ _ _ p1 (S1.same (Same.lay1 hn)) (Ff (S1.fresh hn) hn r1) (f1.trans (Fr.of (Same.lay1 hn)))
 refine⟨_,λz=>a3 z i y py spos (hN z) (hi z) (hy z) (hsw z) (hf z),λC G σ H env n PD D hK hT hn S hp L=>?_⟩;refine he C G σ H env n _ _ hK hT S hp λx jc n1 v H1 q1 S1 r1 f1=>?_;exact L.nx _ _ _ _ _ q1 (S1.set i (hK▸r1)) (Ext.fr f1)
end
end Pu
end
section
namespace L2
open PySem PySem.Spec PyProof.Rows
def met (val:Nat->Key):Nat->List Key
 |0=>[]
 |i+1=>if(met val i).any (λy=>decide (y=val i)) then met val i else met val i++[val i]
theorem KN (val:Nat->Key):∀i,(met val i).length<=i
 |0=>C7 _
 | i + 1 => by
  have:=KN val i;unfold met
  split
  ·omega
  ·rw[D4,O8];omega
theorem KO (val:Nat->Key)(i:Nat)(k:Key):(met val (i+1)).any (λy=>decide (y=k))=((met val i).any (λy=>decide (y=k))||decide (k=val i)):=by
 show(if(met val i).any (λy=>decide (y=val i)) then met val i else met val i++[val i]).any (λy=>decide (y=k))=_
 by_cases hk:k=val i
 ·subst hk;rw[jq rfl,Bool.or_true]
  split
  ·assumption
  ·rw[List.any_append];simp
 ·rw[jr hk,BL]
  split
  ·rfl
  ·rw[List.any_append]
   have:([val i].any (λy=>decide (y=k)))=false:=by
    rw[List.any_cons,List.any_nil,BL];exact jr (Ne.symm hk)
   rw[this,BL]
theorem KP (val:Nat->Key)(i:Nat):(met val (i+1)).length=if(met val i).any (λy=>decide (y=val i)) then(met val i).length else(met val i).length+1:=by
 show(if(met val i).any (λy=>decide (y=val i)) then met val i else met val i++[val i]).length=_
 split
 ·rfl
 ·rw[D4,O8]
section
variable {prog:D1}{w:C9}{A:D5}{R:Result->A5->Prop}{I:A0}{fp wr:List A0}{G:Array GenState->Array GenState->Prop}{n:Nat}{P:Nat->A1->Prop}{St:Nat->A5->Prop}
theorem Qk (Wk:WalksS prog w A.in1 I fp wr G n P St)(S:A0)(nf:S∉fp)(val:Nat->Key)(hv:∀i v,P i v->(J6 prog w).is (val i) v=true/\v.scannable=true)(room:n+1<scanBound) :
   ∀ (k i : Nat) (s : A5), n - i = k -> i <= n -> St i s -> s.heap.SetOf (J6 prog w) S (fun q => (met val i).any (fun y => decide (y = q))) (met val i).length ->
     (∀s',Moved (S::wr) G s s'->s'.heap.SetOf (J6 prog w) S (λq=>(met val n).any (λy=>decide (y=q))) (met val n).length->R (.ok (.ret .none)) s')->
     M5 (A7 prog w) A (.builtin "set.update.loop" ⟨[.ref S,.ref I],[]⟩) R s:=by
 have nw:S∉wr:=λh=>nf (Wk.sub _ h);have sub:∀b∈wr,b∈S::wr:=λb hb=>C5 _ hb;intro k
 induction k with
 | zero =>
  intro i s hk hi st so fin;have ei:i=n:=by omega
  subst ei;refine c8 EG ?_;rw[p6 AJ _];refine A2 (m:=pyNext (.ref I)) (Wk.done s _ _ st λs' mv=>?_);refine B2 (fin s' (mv.mono sub) ?_);obtain⟨o,es,ep,t,ho,more⟩:=so;exact⟨o,es,ep,t,mv.heap S _ nw ho,more⟩
 | succ k ih =>
  intro i s hk hi st so fin;have lt:i<n:=by omega
  refine c8 EG ?_;rw[p6 AJ _];refine A2 (m:=pyNext (.ref I)) (Wk.item i s _ _ lt st λv s' pv' st' mv=>?_);obtain⟨kv,sc⟩:=hv i v pv'
  have so':s'.heap.SetOf (J6 prog w) S (λq=>(met val i).any (λy=>decide (y=q))) (met val i).length:=by
   obtain⟨o,es,ep,t,ho,more⟩:=so;exact⟨o,es,ep,t,mv.heap S _ nw ho,more⟩
  refine A2 (m:=T9 [v] (setAdd S v)) (J7 ?_);unfold setAdd;refine J7 (A2 ((J6 prog w).pyHash (k:=val i) kv ?_));have rm:(met val i).length+1<scanBound:=by have:=KN val i;omega
  refine wpAny_setAddHashed_of (knd:=J6 prog w) (s:={ s' with toks:=s'.toks+1 }) kv sc so' rm λh' sb so2=>?_
  have so3:h'.SetOf (J6 prog w) S (λq=>(met val (i+1)).any (λy=>decide (y=q))) (met val (i+1)).length:=by
   have e1:(λq=>(met val i).any (λy=>decide (y=q))||decide (q=val i))=λq=>(met val (i+1)).any (λy=>decide (y=q)):=funext λq=>(KO val i q).symm;rw[KP,<- e1];exact so2
  refine B2 ⟨l9 AJ _,ih (i+1) _ (by omega) lt (Wk.frame _ s' _ _ st' (o8 _) λb hb o e=>?_) so3 λs2 mv2 so4=>?_⟩
  ·rw[sb.2 b (λz:b=S=>nf (by rw[<- z];exact hb))];exact e
  ·refine fin s2 (Moved.trans Wk.gtrans ((mv.mono sub).then_heap (o8 _) λb o hb e=>?_) mv2) so4;rw[sb.2 b (λz:b=S=>hb (by rw[z];exact C6))];exact e
end
section
variable {prog:D1}{w:C9}{A:D5}{E:A1->A5->Prop}{s:A5}
theorem Ql:isSubtype (.type "tuple") (.type "set")=pure false:=by rw[v5] <;> kernel_rfl
theorem Qm:isSubtype (.type "tuple") (.type "frozenset")=pure false:=by rw[v5] <;> kernel_rfl
theorem Qn:isSubtype (.type "list") (.type "set")=pure false:=by rw[v5] <;> kernel_rfl
theorem Qo:isSubtype (.type "list") (.type "frozenset")=pure false:=by rw[v5] <;> kernel_rfl
theorem Qp (x:A1){Q₁:A1->A5->Prop}
   (h:∀led:Bool,led=(!(w.params.followText "set-order"))->Q₁ (.ref s.heap.objs.size) { s with heap:=s.heap.push { cls:=.type "set",dict:=none,data:=.set #[] 0 (.fresh 0 0 led) } }) :
   M5 (A7 prog w) A (.call (.builtin "set.__new__") ⟨[.type "set",x],[]⟩) (wants Q₁ E) s:=by
 refine codeAny_of_tree (show A6 (A7 prog w) A.in1 (checkBuiltinCall "set.__new__" ⟨[.type "set",x],[]⟩>>=λ_=>again (.builtin "set.__new__" ⟨[.type "set",x],[]⟩)) _ _ s from ?_);refine A2 (wpAny_of_eq (F.newCall_set_1 x) (B2 ⟨l9 F.plain_set_new _,c8 F.entry_set_new ?_⟩));rw[p6 F.plain_set_new _];unfold O4.«set.__new__» Builtin.Frozenset.newClass;have ss:=sub_set_self;obtain⟨hp,gs,dr,tk,sy⟩:=s;dsimp only
 wp_walk
 refine Eh (B2 ?_);dsimp only;unfold newObj;refine A2 (wpAny_alloc (B2 (B2 (h _ ?_))))
 first|rfl|simp
abbrev soN (led:Bool):Obj:={ cls:=.type "set",dict:=none,data:=.set #[] 0 (.fresh 0 0 led) }
theorem KQ {a:A0}{jf:Array A1}{Z:B6->Prop}{Q:A1->A5->Prop}(hd:A.handled=none)(ht:s.heap.IsList a jf\/s.heap.IsTuple a jf)
   (lp:∀(I:A0) (St:Nat->A5->Prop) (fp:List A0) (G:Array GenState->Array GenState->Prop) (s1:A5) (R:Result->A5->Prop) (led:Bool),led=(!(w.params.followText "set-order"))->s.heap.objs.size<I->
     WalksS prog w A.in1.in1.in1 I fp [I] G jf.size (λi v=>jf[i]?=some v) St->s.heap.objs.size∉fp->St 0 s1->s1.heap.get? s.heap.objs.size=some (soN led)->(∀b o,s.heap.get? b=some o->s1.heap.get? b=some o)->
     (∀s',Moved [s.heap.objs.size,I] G s1 s'->Z s'.heap->R (.ok (.ret .none)) s')->M5 (A7 prog w) A.in1.in1 (.builtin "set.update.loop" ⟨[.ref s.heap.objs.size,.ref I],[]⟩) R s1)
   (fin:∀(h':B6) (tk:Nat),Z h'->(∀b o,b<s.heap.objs.size->s.heap.get? b=some o->h'.get? b=some o)->Q (.ref s.heap.objs.size) { s with heap:=h',toks:=tk }):A6 (A7 prog w) A (call (.type "set") [.ref a]) Q E s:=by
 obtain⟨c,tl,mr⟩:=PySem.F.called_set.mro;have md:=PySem.F.called_set.made;have sb:=PySem.F.called_set.sub;refine wpAny_call (codeAny_of_tree (show A6 (A7 prog w) _ (callAny (.type "set") _) _ _ s from ?_));refine B2 ⟨Code.quiet_builtin _ (by decide +kernel),c8 PySem.F.entry_type_call ?_⟩;rw[Around.under_plain (weight_type_call_type "set" [.ref a] []) rfl];have x1:=PySem.F.called_set.notType;have x2:=PySem.F.called_set.canCreate;have x3:=PySem.F.typeCall_set_1 (.ref a)
 repeat (any_goals (first|wp_step|assumption))
 refine Ax (Qp (.ref a) (E:=E) (Q₁:=λob s₁=>∃led:Bool,led=(!(w.params.followText "set-order"))/\ob=.ref s.heap.objs.size/\s₁={ s with heap:=s.heap.push (soN led) }) λled hl=>⟨led,hl,rfl,rfl⟩) λr s₁ hr=>?_;cases r with
 |error e=>exact hr
 | ok fl =>
  cases fl with
  | ret ob =>
   obtain⟨led,hled,rfl,rfl⟩:=hr;have g0:(s.heap.push (soN led)).get? s.heap.objs.size=some (soN led):=E9 _ rfl;have ty:Shared.TypeIs { s with heap:=s.heap.push (soN led) } (.ref s.heap.objs.size) "set":=⟨_,g0,rfl⟩;have y1:=PySem.F.called_set.init.lookup;have y2:=PySem.F.called_set.init.bind (.ref s.heap.objs.size)
   repeat (any_goals (first|wp_step|assumption))
   refine Ax (codeAny_call_builtin (R:=wants (λr s₂=>r=.none/\∃h' tk,s₂={ s with heap:=h',toks:=tk }/\Z h'/\
       (∀b o,b<s.heap.objs.size->s.heap.get? b=some o->h'.get? b=some o)) E) PySem.F.called_set.init.plain PySem.F.entry_set_init (PySem.check_set_init_1 ty ?_)) λr₂ s₂ hr₂=>?_
   ·clear fin;have h3:A.in1.in1.in1.handled=none:=by simp[hd]
    unfold O4.«set.__init__» noKeywords Builtin.Frozenset.updateFrom;generalize hP:pyIter=PI;rcases ht with⟨⟨oc,od,odt,os⟩,ho,hc,nl,hdl⟩|⟨⟨oc,od,odt,os⟩,ho,hc,nl,hdl⟩ <;>
    ·cases hc;cases hdl;have ho':=C2 (soN led) ho;have z1:=Qn;have z2:=Qo;have z3:(K4 "list" == K4 "dict")=false:=by decide
     have z4:=Ql;have z5:=Qm;have z6:(K4 "tuple" == K4 "dict")=false:=by decide
     wp_walk
     subst hP;have la:a<s.heap.objs.size:=C4 ho;have n1:a≠(s.heap.push (soN led)).objs.size:=by rw[Y2];exact D3 (U3 la)
     have lI:s.heap.objs.size<(s.heap.push (soN led)).objs.size:=by rw[Y2];exact Ey _
     have n2:s.heap.objs.size∉[(s.heap.push (soN led)).objs.size,a]:=λz=>by
      rcases D0.mp z with z|z
      ·exact D3 lI z
      ·exact i5 la (E1.mp z)
     have en:∀{s1 s':A5} {G},Moved [s.heap.objs.size,(s.heap.push (soN led)).objs.size] G s1 s'->Z s'.heap->s1.gens=s.gens->s1.drawn=s.drawn->s1.os=s.os->(∀b o,s.heap.get? b=some o->s1.heap.get? b=some o)->(∀x y,G x y->y=x)->∃h' tk,s'={ s with heap:=h',toks:=tk }/\Z h'/\(∀b o,b<s.heap.objs.size->s.heap.get? b=some o->h'.get? b=some o):=by
      intro s1 s' G mv zz e1 e2 e3 kp hG;obtain⟨h',g',d',tk',os'⟩:=s';obtain rfl:g'=s.gens:=(hG _ _ mv.gens).trans e1;obtain rfl:d'=s.drawn:=mv.drawn.trans e2;obtain rfl:os'=s.os:=mv.os.trans e3;refine⟨h',tk',rfl,zz,λb o hb e=>mv.heap b o (λz=>?_) (kp _ _ e)⟩;rcases D0.mp z with z|z
      ·exact D3 hb z
      ·exact D3 (BI hb lI) (E1.mp z)
     first
       | (refine Bt ⟨_,ho',rfl,nl,rfl⟩ (A2 (wpAny_runValue ?_))
          refine lp _ _ _ _ _ _ led hled lI ((Walks.list h3 _ a n1 jf).toS) n2 ⟨⟨_,E9 _ rfl,rfl,rfl⟩,⟨_,C2 _ ho',rfl,nl,rfl⟩⟩ (C2 _ g0) (λb o e=>C2 _ (C2 _ e)) λs' mv zz=>B2 (B2 ⟨rfl,?_⟩))
       | (refine Br ⟨_,ho',rfl,nl,rfl⟩ (A2 (wpAny_runValue ?_))
          refine lp _ _ _ _ _ _ led hled lI ((BW h3 _ a n1 jf).toS) n2 ⟨⟨_,E9 _ rfl,rfl,rfl⟩,⟨_,C2 _ ho',rfl,nl,rfl⟩⟩ (C2 _ g0) (λb o e=>C2 _ (C2 _ e)) λs' mv zz=>B2 (B2 ⟨rfl,?_⟩))
     exact en mv zz rfl rfl rfl (λb o e=>C2 _ (C2 _ e)) λ_ _ e=>e
   ·cases r₂ with
    |error e=>exact hr₂
    | ok fl₂ =>
     cases fl₂ with
     | ret r =>
      obtain⟨rfl,h',tk,rfl,so',kp⟩:=hr₂
      repeat (any_goals (first|wp_step|assumption))
      exact fin _ _ so' kp
     |_=>exact hr₂.elim
  |_=>exact hr.elim
theorem set_of {h:B6}{S:A0}{val:Nat->Key}{led:Bool}(g1:h.get? S=some (soN led)):h.SetOf (J6 prog w) S (λq=>(met val 0).any (λy=>decide (y=q))) (met val 0).length:=by
 refine⟨soN led,#[],0,.fresh 0 0 led,g1,⟨rfl,rfl,rfl⟩,rfl,λe he=>(nomatch he),λk=>⟨λz=>(nomatch z),λ⟨e,he,_⟩=>(nomatch he)⟩,by decide,?_,rfl⟩;cases led <;> decide
theorem Qq {a:A0}{jf:Array A1}{val:Nat->Key}{Q:A1->A5->Prop}(hd:A.handled=none)(ht:s.heap.IsList a jf\/s.heap.IsTuple a jf)(hv:∀(i:Nat) (v:A1),jf[i]?=some v->(J6 prog w).is (val i) v=true/\v.scannable=true)(room:jf.size+1<scanBound)
   (fin:∀(h':B6) (tk:Nat),h'.SetOf (J6 prog w) s.heap.objs.size (λq=>(met val jf.size).any (λy=>decide (y=q))) (met val jf.size).length->
     (∀b o,b<s.heap.objs.size->s.heap.get? b=some o->h'.get? b=some o)->Q (.ref s.heap.objs.size) { s with heap:=h',toks:=tk }):A6 (A7 prog w) A (call (.type "set") [.ref a]) Q E s:=
 KQ hd ht (λI St fp G s1 R led _ _ Wk nf h0 g1 _ k=>Qk Wk _ nf val hv room (jf.size-0) 0 s1 rfl (K1 _) h0 (set_of g1) k) fin
end
end L2
end
section
namespace L2
open PySem PySem.Spec PyProof.Rows
def X3 (ys:List Str)(i:Nat):Key:=M3 (ys.getD i (A8 ""))
def SetX (X:Cx)(p:A0)(S:Key->Bool)(n:Nat):HO:=.ext λh=>h.SetOf (J6 X.prog X.w) p S n
theorem Qr {ys:List Str}{us:List A1}(r:Vals (ys.map V.str) us){i:Nat}{u:A1}(h:us[i]?=some u):∃t,u=.str (ys.getD i (A8 "")) t:=by
 obtain⟨hi,e⟩:=G4.mp h;obtain⟨x,ex,rx⟩:=r.getE hi;rw[G9] at ex;cases ey:ys[i]? with
 |none=>rw[ey] at ex;cases ex
 | some y =>
  rw[ey] at ex;cases ex;obtain⟨t,et⟩:=rx;refine⟨t,?_⟩;rw[<- e,et,List.getD,ey]
  rfl
section
variable {X:Cx}
theorem Qs:N0 X (.builtin "len") (λvs H Q=>∃p S n,vs=[.ref p]/\H p=some (SetX X p S n)/\Q (.int n) H):=by
 intro jb s σ H vs us Q I rv h;obtain⟨p,S,n,rfl,e,q⟩:=h;obtain⟨u,rfl,ru⟩:=rv.one;obtain rfl:u=.ref p:=ru;obtain⟨so,_,_⟩:=I.hok p _ e;obtain⟨o,es,ep,t,ho,hex,hd,_,_,hb,hf,hn⟩:=so;refine call_len_set ho hex hd hf (by unfold scanBound at hb;omega) ⟨.int n,H,I.tok _,⟨_,by rw[hn]⟩,q⟩
end
end L2
end
section
namespace Pu
open PySem PySem.Spec L2
def Ltr (c:Nat):Prop:=97<=c/\c<=122
def F4 (z:Str):Prop:=1<=z.cps.toList.length/\z.cps.toList.length<=8/\∀c∈z.cps.toList,Ltr c
abbrev LETS:Str:=A8 "abcdefghijklmnopqrstuvwxyz"
theorem KR (val:Nat->Key)(k:Key):∀i,(met val i).any (λy=>decide (y=k))=true->∃j,j<i/\k=val j
 |0,h=>by simp[met] at h
 | i + 1, h => by
  rw[KO,EB] at h;rcases h with h|h
  ·obtain⟨j,hj,e⟩:=KR val k i h;exact⟨j,by omega,e⟩
  ·exact⟨i,by omega,jv h⟩
theorem KS (ys:List Str)(h:ys.Nodup):∀n,n<=ys.length->(met (X3 ys) n).length=n
 |0,_=>rfl
 | n + 1, hn => by
  have ih:=KS ys h n (by omega);rw[KP,ju,ih];intro z;obtain⟨j,hj,e⟩:=KR _ _ n z
  have kat:∀m,(hm:m<ys.length)->X3 ys m=M3 ys[m]:=λm hm=>by
   unfold X3;rw[List.getD,D8 hm];rfl
  rw[kat n (by omega),kat j (by omega)] at e;have e2:ys[n]'(by omega)=ys[j]'(by omega):=Sum.inr.inj e;exact(Y5.mp h j n (by omega) (by omega) hj) e2.symm
end Pu
end
section
namespace L2
open PySem PySem.Spec PyProof.Rows
def ItB (b:Bool)(h:B6)(it l:A0)(i:Nat):Prop:=match b with|true=>h.IsListIter it l i|false=>h.IsTupleIter it l i
def SeB (b:Bool)(h:B6)(l:A0)(items:Array A1):Prop:=match b with|true=>h.IsList l items|false=>h.IsTuple l items
theorem ItB.at {b:Bool}{h h':B6}{it l:A0}{i:Nat}(x:ItB b h it l i)(e:∀o,h.get? it=some o->h'.get? it=some o):ItB b h' it l i:=by
 cases b with
 |true=>exact(show h.IsListIter it l i from x).at e
 |false=>exact(show h.IsTupleIter it l i from x).at e
theorem SeB.at (x:SeB b h l items)(e:∀o,h.get? l=some o->h'.get? l=some o):SeB b h' l items:=by
 cases b with
 |true=>exact(show h.IsList l items from x).at e
 |false=>exact(show h.IsTuple l items from x).at e
theorem ItB.obj (x:ItB b h it l i):∃o,h.get? it=some o/\(o.cls=.type "list_iterator"\/o.cls=.type "tuple_iterator")/\∀v,o.data≠.cell v:=by
 cases b with
 |true=>obtain⟨o,e,c,d⟩:=(show h.IsListIter it l i from x);exact⟨o,e,.inl c,λv z=>by rw[d] at z;cases z⟩
 |false=>obtain⟨o,e,c,d⟩:=(show h.IsTupleIter it l i from x);exact⟨o,e,.inr c,λv z=>by rw[d] at z;cases z⟩
theorem SeB.obj (x:SeB b h l items):∃o,h.get? l=some o/\(o.cls=.type "list"\/o.cls=.type "tuple"):=by
 cases b with
 |true=>obtain⟨o,e,c,d⟩:=(show h.IsList l items from x);exact⟨o,e,.inl c⟩
 |false=>obtain⟨o,e,c,d⟩:=(show h.IsTuple l items from x);exact⟨o,e,.inr c⟩
theorem ItB.ne (x:ItB b h it l i)(y:SeB b' h a items):a≠it:=λz=>by
 obtain⟨o,e,c,_⟩:=x.obj;obtain⟨o',e',c'⟩:=y.obj;rw[z,e] at e';cases e';rcases c with c|c <;> rcases c' with c'|c' <;> (rw[c] at c';exact absurd c' (by decide))
section
variable {prog:D1}{w:C9}{A:D5}{E:A1->A5->Prop}{s:A5}
theorem Qt (hit:s.heap.IsTupleIter it t i)(ht:s.heap.IsTuple t items)(hx:items[i]?=some x)
   (hQ:∀h',h'.IsTupleIter it t (i+1)->V2 it s.heap h'->Q x { s with heap:=h' }):A6 (A7 prog w) A (i7 (.ref it)) Q E s:=by
 obtain⟨oi,hoi,hci,hdi⟩:=id hit;obtain⟨ot,hot,_,nt,hdt⟩:=ht;have ty:=hit.typeIs;unfold i7
 refine A2 (X8 (name:=A8 "__next__") ty EN
   (R0 EN ty F.entry_tuple_iterator_next ?_ (F.args_tuple_iterator_next_1 _)))
 show A6 _ _ (field (.ref it) 0>>=_) _ _ s;refine A2 (R1 hoi hdi (x:=.ref t) rfl ?_);show A6 _ _ (if(L8 t == Z1)=true then _ else _) _ _ s;rw[ju (show ¬((L8 t == Z1)=true) from V3)];show A6 _ _ (field (.ref it) 1>>=_) _ _ s;refine A2 (R1 hoi hdi (x:=.int i 0) rfl ?_);show A6 _ _ (seqItems? (.ref t)>>=_) _ _ s;refine A2 (W0 hot hdt ?_);simp only[BS,hx];refine A2 (w4 hoi hdi (by simp) (B2 ⟨x,rfl,B2 (hQ _ ?_ (R5 ..))⟩));exact⟨_,By _ hoi (Obj.isFreed_of_fields (EE hdi _)),(Obj.cls_mapFields ..).trans hci,by rw[EE hdi];simp[rawInt]⟩
theorem Qu (hh:A.handled=none)(hit:s.heap.IsTupleIter it t i)(ht:s.heap.IsTuple t items)(hx:items[i]?=none)
   (hE:∀h' e,CQ it s.heap h'->(∃o,h'.get? e=some o/\o.cls=.type "StopIteration")->E (.ref e) { s with heap:=h' }):A6 (A7 prog w) A (i7 (.ref it)) Q E s:=by
 obtain⟨oi,hoi,hci,hdi⟩:=id hit;obtain⟨ot,hot,_,nt,hdt⟩:=ht;have ty:=hit.typeIs;unfold i7
 refine A2 (X8 (name:=A8 "__next__") ty EN
   (R0 EN ty F.entry_tuple_iterator_next ?_ (F.args_tuple_iterator_next_1 _)))
 show A6 _ _ (field (.ref it) 0>>=_) _ _ s;refine A2 (R1 hoi hdi (x:=.ref t) rfl ?_);show A6 _ _ (if(L8 t == Z1)=true then _ else _) _ _ s;rw[ju (show ¬((L8 t == Z1)=true) from V3)];show A6 _ _ (field (.ref it) 1>>=_) _ _ s;refine A2 (R1 hoi hdi (x:=.int i 0) rfl ?_);show A6 _ _ (seqItems? (.ref t)>>=_) _ _ s;refine A2 (W0 hot hdt ?_);simp only[BS,hx];refine A2 (d7 (A2 (w4 hoi hdi (by simp) ?_)));show A6 _ _ (newExc (.type "StopIteration") []>>=_) _ _ _;refine A2 ?_;simp only[newExc,newTuple];refine A2 (Q1 ?_ (by size_fits));refine A2 (m:=firstArgMember _ _) (wpAny_of_eq (a:=Z1) (by first|rfl|(simp only[firstArgMember];rfl)) ?_);refine Q1 ?_ (by size_fits);simp only[raiseNew];refine A2 (wpAny_handled ?_)
 first|rw[show A.in1.handled=none from hh]|rw[hh]
 refine A2 (B2 (wpAny_throw ?_));exact hE _ _ (((R5 ..).extBut.push _).push _) ⟨_,E9 _ rfl,rfl⟩
theorem FB (hit:ItB b s.heap it t i)(ht:SeB b s.heap t items)(hx:items[i]?=some x)
   (hQ:∀h',ItB b h' it t (i+1)->V2 it s.heap h'->Q x { s with heap:=h' }):A6 (A7 prog w) A (i7 (.ref it)) Q E s:=by
 cases b with
 |true=>exact wpAny_nextOf_list_item hit ht hx hQ
 |false=>exact Qt hit ht hx hQ
theorem FC (hh:A.handled=none)(hit:ItB b s.heap it t i)(ht:SeB b s.heap t items)(hx:items[i]?=none)
   (hE:∀h' e,CQ it s.heap h'->(∃o,h'.get? e=some o/\o.cls=.type "StopIteration")->E (.ref e) { s with heap:=h' }):A6 (A7 prog w) A (i7 (.ref it)) Q E s:=by
 cases b with
 |true=>exact wpAny_nextOf_list_end hh hit ht hx hE
 |false=>exact Qu hh hit ht hx hE
theorem drawsB {b:Bool}(hh:A.handled=none)(it l:A0)(hne:l≠it)(items:Array A1):Draws prog w A it [it,l] items.size (λi v=>items[i]?=some v) (λi h=>ItB b h it l i/\SeB b h l items) where
 live:=λ_ _ st=>let ⟨o,ho,_⟩:=st.1.obj;⟨o,ho⟩
 frame:=λ_ _ _ st hk=>⟨st.1.at λo e=>hk it (by simp) o e,st.2.at λo e=>hk l (by simp) o e⟩
 item:=λi s Q E hi st hQ=>by
  refine FB st.1 st.2 (x:=items[i]) (by simp[hi]) λh' hit' hs'=>?_;exact hQ _ h' s.toks (by simp[hi]) ⟨hit',st.2.at λo e=>hs'.extBut _ o hne e⟩ hs'
 done:=λs Q E st hE=>FC hh st.1 st.2 (by simp) hE
theorem Qv (l:A0)(items:Array A1)(n:Nat)(dct:Option A0)(sl:Array (Option A1)) :
   Meets (O4.«enumerate.__new__» ⟨[.type "enumerate",.ref l],[]⟩) (λ_ R s=>s.heap.get? l=some { cls:=.type "tuple",dict:=dct,data:=.seq items n,slots:=sl }/\
     R (.ok (.ret (.ref (s.heap.push { cls := .type "tuple_iterator", data := .fields #[.ref l, .int 0 0] }).objs.size)))
       { s with heap:=(s.heap.push { cls:=.type "tuple_iterator",data:=.fields #[.ref l,.int 0 0] }).push { cls:=.type "enumerate",data:=.fields #[.none,.bool false,.ref s.heap.objs.size,rawInt 0,.none,.none] } }):=
 .of_wp λprog w A R s hyp=>by
  obtain⟨hp,g,d,tk,os⟩:=s;obtain⟨hl,fin⟩:=hyp;have hsub:=sub_enumerate;have hL:Heap.IsTuple (Shared.heap ⟨hp,g,d,tk,os⟩) l items:=⟨_,hl,rfl,n,rfl⟩
  wp_walk using EV hl
  refine wpAny_stack_any λst=>B2 ?_
  split
  ·rename_i c _ _ _ _ _;cases(c == K4 "enumerate")
   ·wp_walk using EV hl,Br hL
    exact⟨_,rfl,fin⟩
   ·wp_walk using EV hl,Br hL
    exact⟨_,rfl,fin⟩
  ·wp_walk using EV hl,Br hL
   exact⟨_,rfl,fin⟩
theorem enumT {l:A0}{items:Array A1}{Q:A1->A5->Prop}(hL:s.heap.IsTuple l items)
   (h:∀h',IsEnum h' (s.heap.objs.size+1) s.heap.objs.size 0 .none->h'.IsTupleIter s.heap.objs.size l 0->(∀b o,s.heap.get? b=some o->h'.get? b=some o)->Q (.ref (s.heap.objs.size+1)) { s with heap:=h' }) :
   A6 (A7 prog w) A (call (.type "enumerate") [.ref l]) Q E s:=by
 obtain⟨⟨c,dct,dt,sl⟩,hl,hc,n,hd⟩:=hL
 replace hc:c=.type "tuple":=hc
 replace hd:dt=.seq items n:=hd
 subst hc hd;refine callType_new F.called_enumerate (by decide) (F.typeCall_enumerate_1 _) (F.newCall_enumerate_1 _) (λobj=>F.args_object_init_2 obj _) F.entry_enumerate_new (Qv l items n dct sl) ⟨hl,?_⟩;have hz:(s.heap.push { cls:=.type "tuple_iterator",data:=.fields #[.ref l,.int 0 0] }).objs.size=s.heap.objs.size+1:=Y2 ..;show _/\_;rw[hz]
 have he:IsEnum ((s.heap.push { cls:=.type "tuple_iterator",data:=.fields #[.ref l,.int 0 0] }).push { cls:=.type "enumerate",data:=.fields #[.none,.bool false,.ref s.heap.objs.size,rawInt 0,.none,.none] }) (s.heap.objs.size+1) s.heap.objs.size 0 .none:=by
  have:=E9 (s.heap.push { cls:=.type "tuple_iterator",data:=.fields #[.ref l,.int 0 0] }) (o:={ cls:=.type "enumerate",data:=.fields #[.none,.bool false,.ref s.heap.objs.size,rawInt 0,.none,.none] }) rfl;rw[hz] at this;exact this
 exact⟨⟨_,he,rfl⟩,h _ he ⟨_,C2 _ (E9 _ rfl),rfl,rfl⟩ λb o x=>C2 _ (C2 _ x)⟩
theorem enumB {b:Bool}{l:A0}{items:Array A1}{Q:A1->A5->Prop}(hL:SeB b s.heap l items)
   (h:∀h',IsEnum h' (s.heap.objs.size+1) s.heap.objs.size 0 .none->ItB b h' s.heap.objs.size l 0->(∀b o,s.heap.get? b=some o->h'.get? b=some o)->Q (.ref (s.heap.objs.size+1)) { s with heap:=h' }) :
   A6 (A7 prog w) A (call (.type "enumerate") [.ref l]) Q E s:=by
 cases b with
 |true=>exact call_enumerate_list hL λh' a b _ c=>h h' a b c
 |false=>exact enumT hL h
theorem Qw {b:Bool}{e it l:A0}{j:Nat}{i:Int}{items:Array A1}{old:A1}{Q:Option A1->A5->Prop}(hh:A.handled=none)(he:IsEnum s.heap e it i old)(hit:ItB b s.heap it l j)(ht:SeB b s.heap l items)(hx:items[j]?=none)
   (hQ:∀h',CQ it s.heap h'->Q none { s with heap:=h' }):A6 (A7 prog w) A (pyNext (.ref e)) Q E s:=by
 have ty:s.TypeIs (.ref e) "enumerate":=⟨_,he,rfl⟩;unfold pyNext;refine A2 (w5 (X8 (name:=A8 "__next__") ty F.slot_enumerate_next (R0 F.slot_enumerate_next ty F.entry_enumerate_next ?_ (F.args_enumerate_next_1 _))));show A6 _ _ (field (.ref e) 2>>=_) _ _ _;refine A2 (R1 he rfl (x:=.ref it) rfl ?_);refine A2 (FC (A:=A.in1) hh hit ht hx λh' x he' hx'=>?_);obtain⟨o,ho,hc⟩:=hx';exact A2 (CK (T:="StopIteration") (b:=true) ⟨o,ho,hc⟩ isSubtype_stop (B2 (hQ _ he')))
end
def SqB (b:Bool)(K:A9)(H:Hp)(a:A0)(xs:List V):Prop:=match b with|true=>SqL K H a xs|false=>SqT K H a xs
section
variable {X:Cx}
theorem Inv.seqB (I:Inv X jb σ H s)(h:SqB b X.K H a xs):∃jf:List A1,Vals xs jf/\SeB b s.heap a jf.toArray/\xs.length<=C8:=by
 cases b with
 |true=>obtain⟨jf,r,p,z⟩:=I.list h;exact⟨jf,r,p.isList,z⟩
 |false=>obtain⟨jf,r,p,z⟩:=I.tuple h;exact⟨jf,r,p,z⟩
theorem Inv.seqB_inj (I:Inv X jb σ H s)(h:SqB b X.K H a xs)(h':SqB b X.K H a ys):xs=ys:=by
 cases b with
 |true=>exact I.list_inj h h'
 |false=>exact I.tuple_inj h h'
def IteB (b:Bool)(K:A9)(a:A0):It:=
 ⟨λi H=>∃xs x,SqB b K H a xs/\xs[i]?=some x,λi H x H'=>∃p v,H p=none/\x=.ref p/\H'=upd H p (.tup [.int i,v])/\∀xs,SqB b K H a xs->xs[i]?=some v,λi H=>∃xs,SqB b K H a xs/\xs.length<=i⟩
theorem Qx {b:Bool}{P:D1}{w:C9}{K:A9}{elts:List Expr}{x1}{pos:Pos}(a e it:A0)(hne:e≠it) :
   Turn P w K (.Tuple elts x1 pos) (IteB b K a) [e,it] e (λi h=>(∃old,IsEnum h e it i old)/\ItB b h it a i) where
 mem:=by simp
 obj:=λi h st c hc=>by
  obtain⟨⟨old,he⟩,st⟩:=st;obtain⟨o,e1,_,d⟩:=st.obj;have hc':c=e\/c=it:=by simpa using hc
  rcases hc' with rfl|rfl
  ·exact⟨_,he,λv z=>by cases z⟩
  ·exact⟨o,e1,d⟩
 keep:=λi h h' st k=>by
  obtain⟨⟨old,he⟩,st⟩:=st;exact⟨⟨old,k e (by simp) _ he⟩,st.at λo e=>k it (by simp) o e⟩
 item:=by
  intro X hP hw hK hc i jb s σ H E I hf st hg;subst hP hw hK;obtain⟨⟨old,he⟩,st⟩:=st;obtain⟨xs,x,hq,hx⟩:=hg;obtain⟨jf,rv,p,hz⟩:=I.seqB hq;obtain⟨u,hu,ru⟩:=rv.get hx;have nla:a≠it:=st.ne p
  have nea:e≠a:=λz=>by
   obtain⟨o,e1,c1⟩:=p.obj;rw[<- z,he] at e1;cases e1;rcases c1 with c1|c1
   ·exact absurd (show K4 "enumerate"=K4 "list" from c1) (by decide)
   ·exact absurd (show K4 "enumerate"=K4 "tuple" from c1) (by decide)
  have hi:i<jf.toArray.size:=by
   obtain⟨h1,_⟩:=G4.mp hu
   simpa using h1
  refine wpAny_pyNext_enum_itemD (drawsB (A:=X.A.in1) (I.ok.hd hc) it a nla jf.toArray) he ⟨st,p⟩ hi hne (by simp[hne,nea]) λy h' tk hy he' st' ht hz' k=>?_
  have ey:y=u:=by
   have:jf[i]?=some y:=by simpa using hy
   rw[hu] at this;exact(M9 this).symm
  subst ey;refine⟨_,rfl,wpAny_letOwnedTupleGo_enum (s:={ s with heap:=h',toks:=tk+1 }) he' λh'' he'' sb=>?_⟩;have hpe:s.heap.objs.size≠e:=i5 (C4 he);have ht'':h''.get? s.heap.objs.size=some { cls:=.type "tuple",data:=.seq #[.int i tk,y] }:=(sb.2 _ hpe).trans ht
  have k':∀c o,c∉[e,it]->s.heap.get? c=some o->h''.get? c=some o:=λc o hb q=>by
   have hb1:c≠e:=λz=>hb (by simp[z]);have hb2:c≠it:=λz=>hb (by simp[z]);exact(sb.2 c hb1).trans (k c o hb1 hb2 q)
  have I1:Inv X jb σ (upd H s.heap.objs.size (.tup [.int i,x])) { s with heap:=h'',toks:=tk+1 }:=
   I.turnedNew k' hf ⟨by show 2<=C8;decide,[.int i tk,y],.cons ⟨_,rfl⟩ (.cons ru .nil),⟨_,ht'',rfl,_,rfl⟩⟩
  refine⟨.ref s.heap.objs.size,_,I1,rfl,⟨_,x,I.fresh,rfl,rfl,λys hy=>by rw[I.seqB_inj hy hq];exact hx⟩,⟨⟨y,he''⟩,st'.1.at λo q=>(sb.2 it (Ne.symm hne)).trans q⟩,λc hb=>?_⟩;have hb':c=e\/c=it:=by simpa using hb
  have hbs:c≠s.heap.objs.size:=by
   rcases hb' with rfl|rfl
   ·exact Ne.symm hpe
   ·obtain⟨o,e1,_⟩:=st.obj;exact D3 (C4 e1)
  rw[C3 hbs];exact(hf c hb).1
 done:=by
  intro X hP hw hK hc i jb s σ H E I hf st hg;subst hP hw hK;obtain⟨⟨old,he⟩,st⟩:=st;obtain⟨xs,hq,hx⟩:=hg;obtain⟨jf,rv,p,hz⟩:=I.seqB hq;obtain⟨f0,f1,f2,f3,f4,f5⟩:=hf it (by simp);have hl:=rv.length;refine Qw (I.ok.hd hc) he st p (BN (by rw[G5];omega)) λh' eb=>⟨rfl,I.turned (t':=s.toks) (λc o hb e=>eb c o hb e) f0 f1 f3 f4 f5⟩
 self:=λ_ _ _ _ _ st h=>by
  obtain⟨⟨old,he⟩,_⟩:=st;exact wpAny_pyIter_enum he h
def iEnumB (b:Bool)(K:A9)(ta:TA):TI:=λσ H R=>ta σ H λvs H1=>∃a,vs=[.ref a]/\(∃xs,SqB b K H1 a xs)/\R (IteB b K a) H1
theorem Qy (b:Bool){l:Expr}{ta:TA}{p pos:Pos}{elts:List Expr}{x1}{tpos:Pos}(hg:Gl X "enumerate")(hm:X.mg "enumerate"=none)(ha:PA X [l] ta)(hs:F5 [l] X.env=[(false,eval l X.env)]:=by rfl) :
   PI X (.Tuple elts x1 tpos) (.Call (.Name "enumerate" p) [l] [] pos) (iEnumB b X.K ta):=by
 intro jb s σ H R I h;refine Call_ (AM I hg hm boot_enumerate (EI (thn (ha pos jb s σ H _ I h) λus s1 ⟨vs,H1,I1,r1,q1⟩=>?_) hs rfl));obtain⟨a,e,⟨xs,hq⟩,q⟩:=q1;subst e;obtain⟨u,rfl,ru⟩:=r1.one;obtain rfl:u=L8 a:=ru;obtain⟨jf,rv,pl,hz⟩:=I1.seqB hq;refine enumB pl λh' hE hI hk=>?_;refine wpAny_pyIter_enum hE ?_;have I2:Inv X jb σ H1 { s1 with heap:=h' }:=I1.kept (t':=s1.toks) hk;refine⟨s1.heap.objs.size+1,[s1.heap.objs.size+1,s1.heap.objs.size],_,_,H1,rfl,I2,Qx a _ _ (Nat.succ_ne_self _),⟨⟨_,hE⟩,hI⟩,λc hb=>?_,q⟩;have hb':c=s1.heap.objs.size+1\/c=s1.heap.objs.size:=by simpa using hb
 rcases hb' with rfl|rfl
 ·exact I1.fpOk (o8 _) (I1.hok.fresh (o8 _))
 ·exact I1.fpOk (C7 _) (I1.hok.fresh (C7 _))
end
end L2
end
section
namespace L2
open PySem PySem.Spec PyProof.Rows
section
variable {prog:D1}{w:C9}{A:D5}{E:A1->A5->Prop}{s:A5}
structure ZAp (z TI TO i1 i2:A0):Prop where
 a1:TI≠z
 a2:TO≠z
 a3:i1≠z
 a4:i2≠z
 a5:TI≠TO
 a6:TI≠i1
 a7:TI≠i2
 a8:TO≠i1
 a9:TO≠i2
 a10:i1≠i2
theorem Qz {z TI TO i1 i2 l1 l2:A0}{Q:A1->A5->Prop}(D:ZAp z TI TO i1 i2)(m1:l1≠z)(m2:l2≠z)(m3:l1≠TO)(m4:l2≠TO)(m5:l1≠i1)(m6:l2≠i1)
   (hz:IsZip s.heap z TI TO .none) (hTI:IsPair s.heap TI (.ref i1) (.ref i2)) (hTO:IsPair s.heap TO a b) (h1:ItB b1 s.heap i1 l1 k) (h2:ItB b2 s.heap i2 l2 k) (hl1:SeB b1 s.heap l1 xs) (hl2:SeB b2 s.heap l2 ys) (hx:xs[k]?=some x) (hy:ys[k]?=some y)
   (hQ:∀h',IsZip h' z TI TO (rawInt s.heap.objs.size)->IsPair h' TO x y->ItB b1 h' i1 l1 (k+1)->ItB b2 h' i2 l2 (k+1)->IsPair h' s.heap.objs.size x y->
     (∀c o,c≠z->c≠TO->c≠i1->c≠i2->s.heap.get? c=some o->h'.get? c=some o)->Q (.ref s.heap.objs.size) { s with heap:=h' }) :
   A6 (A7 prog w) A (O4.«zip.__next__» ⟨[.ref z],[]⟩) (λfin s'=>∃v,fin=.done (.ret v)/\Q v s') E s:=by
 show A6 _ _ (field (.ref z) 2>>=_) _ _ _;refine A2 (R1 hz rfl (x:=.bool false) rfl ?_);show A6 _ _ (field (.ref z) 3>>=_) _ _ _;refine A2 (R1 hz rfl (x:=.ref TI) rfl (A2 (W0 hTI rfl ?_)));show A6 _ _ (EF (.ref z)>>=_) _ _ _;refine A2 ?_;unfold EF;refine A2 (R1 hz rfl (x:=.none) rfl (B2 ?_));simp only[if_true];refine A2 (d7 (A2 (R1 hz rfl (x:=.ref TO) rfl (A2 (Bs hz (by simp) λg1 z1 s1=>?_)))))
 replace z1:IsZip g1 z TI TO .ellipsis:=z1
 refine A2 ?_;simp only[List.zipIdx_cons,List.zipIdx_nil,List.forIn_cons,List.forIn_nil];refine A2 (A2 (wpAny_onRaise ?_));show A6 _ _ (i7 (.ref i1)>>=_) _ _ _;refine A2 (FB (s:={ s with heap:=g1 }) (h1.at λo e=>s1.extBut _ o D.a3 e) (hl1.at λo e=>s1.extBut _ o m1 e) hx λg2 j2 s2=>B2 ?_);have t2:IsPair g2 TO a b:=s2.extBut _ _ D.a8 (s1.extBut _ _ D.a2 hTO);refine A2 (W0 t2 rfl (A2 (wpAny_updateSeq_pair (s:={ s with heap:=g2 }) t2 λg3 t3 s3=>A2 (wpAny_letGo (B2 ?_)))))
 replace t3:IsPair g3 TO x b:=t3
 refine A2 (A2 (wpAny_onRaise ?_));show A6 _ _ (i7 (.ref i2)>>=_) _ _ _;have up3:∀c o,c≠z->c≠i1->c≠TO->s.heap.get? c=some o->g3.get? c=some o:=λc o c1 c2 c3 e=>s3.extBut _ o c3 (s2.extBut _ o c2 (s1.extBut _ o c1 e));refine A2 (FB (s:={ s with heap:=g3 }) (h2.at λo e=>up3 _ o D.a4 D.a10.symm D.a9.symm e) (hl2.at λo e=>up3 _ o m2 m6 m4 e) hy λg4 j4 s4=>B2 ?_);have t4:IsPair g4 TO x b:=s4.extBut _ _ D.a9 t3;refine A2 (W0 t4 rfl (A2 (wpAny_updateSeq_pair (s:={ s with heap:=g4 }) t4 λg5 t5 s5=>A2 (wpAny_letGo (B2 (B2 ?_))))))
 replace t5:IsPair g5 TO x y:=t5
 refine A2 (W0 t5 rfl (A2 (wpAny_newTuple ?_)));have hsz:g5.objs.size=s.heap.objs.size:=by rw[s5.1,s4.1,s3.1,s2.1,s1.1]
 have z5:IsZip g5 z TI TO .ellipsis:=s5.extBut _ _ D.a2.symm (s4.extBut _ _ D.a4.symm (s3.extBut _ _ D.a2.symm (s2.extBut _ _ D.a3.symm z1)));have up5:∀c o,c≠z->c≠TO->c≠i1->c≠i2->s.heap.get? c=some o->g5.get? c=some o:=λc o c1 c2 c3 c4 e=>s5.extBut _ _ c2 (s4.extBut _ _ c4 (up3 c o c1 c3 c2 e));have j1:ItB b1 g5 i1 l1 (k+1):=j2.at λo e=>s5.extBut _ o D.a8.symm (s4.extBut _ o D.a10 (s3.extBut _ o D.a8.symm e));have j5:ItB b2 g5 i2 l2 (k+1):=j4.at λo e=>s5.extBut _ o D.a9.symm e;have zlt:z<g5.objs.size:=C4 z5;show A6 _ _ (Js (.ref z) (.ref g5.objs.size)>>=_) _ _ _;refine A2 ?_;unfold Js;have z6:IsZip (g5.push { cls:=.type "tuple",data:=.seq #[x,y] }) z TI TO .ellipsis:=C2 _ z5;refine A2 (Bs z6 (by simp) λg7 z7 s7=>?_)
 replace z7:IsZip g7 z TI TO (rawInt g5.objs.size):=z7
 refine Bs z7 (by simp) λg8 z8 s8=>?_
 replace z8:IsZip g8 z TI TO (rawInt g5.objs.size):=z8
 have up8:∀c o,c≠z->g5.get? c=some o->g8.get? c=some o:=λc o c1 e=>s8.extBut _ _ c1 (s7.extBut _ _ c1 (C2 _ e));have t8:IsPair g8 g5.objs.size x y:=s8.extBut _ _ (i5 zlt) (s7.extBut _ _ (i5 zlt) (E9 _ rfl));rw[hsz] at z8 t8;refine B2 ⟨_,rfl,?_⟩;show Q (.ref g5.objs.size) _;rw[hsz];exact hQ g8 z8 (up8 _ _ D.a2 t5) (j1.at λo e=>up8 _ o D.a3 e) (j5.at λo e=>up8 _ o D.a4 e) t8 λc o c1 c2 c3 c4 e=>up8 c o c1 (up5 c o c1 c2 c3 c4 e)
theorem zipEnd {z TI TO i1 i2 l1 l2:A0}(hh:A.handled=none)(D:ZAp z TI TO i1 i2)(m1:l1≠z)(m2:l2≠z)(m3:l1≠TO)(m4:l2≠TO)(m5:l1≠i1)(m6:l2≠i1)
   (hz:IsZip s.heap z TI TO .none) (hTI:IsPair s.heap TI (.ref i1) (.ref i2)) (hTO:IsPair s.heap TO a b) (h1:ItB b1 s.heap i1 l1 k) (h2:ItB b2 s.heap i2 l2 k) (hl1:SeB b1 s.heap l1 xs) (hl2:SeB b2 s.heap l2 ys) (hend:xs[k]?=none\/ys[k]?=none)
   (hE:∀h' e,(∀c o,c≠z->c≠TO->c≠i1->c≠i2->s.heap.get? c=some o->h'.get? c=some o)->(∃o,h'.get? e=some o/\o.cls=.type "StopIteration")->E (.ref e) { s with heap:=h' }) :
   A6 (A7 prog w) A (O4.«zip.__next__» ⟨[.ref z],[]⟩) Q E s:=by
 show A6 _ _ (field (.ref z) 2>>=_) _ _ _;refine A2 (R1 hz rfl (x:=.bool false) rfl ?_);show A6 _ _ (field (.ref z) 3>>=_) _ _ _;refine A2 (R1 hz rfl (x:=.ref TI) rfl (A2 (W0 hTI rfl ?_)));show A6 _ _ (EF (.ref z)>>=_) _ _ _;refine A2 ?_;unfold EF;refine A2 (R1 hz rfl (x:=.none) rfl (B2 ?_));simp only[if_true];refine A2 (d7 (A2 (R1 hz rfl (x:=.ref TO) rfl (A2 (Bs hz (by simp) λg1 z1 s1=>?_)))))
 replace z1:IsZip g1 z TI TO .ellipsis:=z1
 refine A2 ?_;simp only[List.zipIdx_cons,List.zipIdx_nil,List.forIn_cons,List.forIn_nil];refine A2 (A2 (wpAny_onRaise ?_));show A6 _ _ (i7 (.ref i1)>>=_) _ _ _;have h1':ItB b1 g1 i1 l1 k:=h1.at λo e=>s1.extBut _ o D.a3 e;have hl1':SeB b1 g1 l1 xs:=hl1.at λo e=>s1.extBut _ o m1 e
 have nz:∀{g:B6} {e:A0} {o:Obj},IsZip g z TI TO .ellipsis->g.get? e=some o->o.cls=.type "StopIteration"->e≠z:=λ{g e o} hz ho hc x=>by
  subst x;rw[hz] at ho;cases ho;exact absurd (show K4 "zip"=K4 "StopIteration" from hc) (by decide)
 cases hx:xs[k]? with
 | none =>
  refine A2 (FC (s:={ s with heap:=g1 }) hh h1' hl1' hx λg2 e s2 ⟨oe,hoe,hce⟩=>?_);have z2:IsZip g2 z TI TO .ellipsis:=s2 _ _ D.a3.symm z1;exact Bs z2 (by simp) λg3 _ s3=>hE g3 e (λc o c1 _ c3 _ x=>s3.extBut _ _ c1 (s2 _ _ c3 (s1.extBut _ _ c1 x))) ⟨oe,s3.extBut _ _ (nz z2 hoe hce) hoe,hce⟩
 | some x =>
  have hy:ys[k]?=none:=hend.elim (λh=>by rw[hx] at h;cases h) id;refine A2 (FB (s:={ s with heap:=g1 }) h1' hl1' hx λg2 j2 s2=>B2 ?_);have t2:IsPair g2 TO a b:=s2.extBut _ _ D.a8 (s1.extBut _ _ D.a2 hTO);refine A2 (W0 t2 rfl (A2 (wpAny_updateSeq_pair (s:={ s with heap:=g2 }) t2 λg3 t3 s3=>A2 (wpAny_letGo (B2 ?_)))));refine A2 (A2 (wpAny_onRaise ?_));show A6 _ _ (i7 (.ref i2)>>=_) _ _ _;have up3:∀c o,c≠z->c≠i1->c≠TO->s.heap.get? c=some o->g3.get? c=some o:=λc o c1 c2 c3 e=>s3.extBut _ o c3 (s2.extBut _ o c2 (s1.extBut _ o c1 e));refine A2 (FC (s:={ s with heap:=g3 }) hh (h2.at λo e=>up3 _ o D.a4 D.a10.symm D.a9.symm e) (hl2.at λo e=>up3 _ o m2 m6 m4 e) hy λg4 e s4 ⟨oe,hoe,hce⟩=>?_);have z4:IsZip g4 z TI TO .ellipsis:=s4 _ _ D.a4.symm (s3.extBut _ _ D.a2.symm (s2.extBut _ _ D.a3.symm z1));exact Bs z4 (by simp) λg5 _ s5=>hE g5 e (λc o c1 c2 c3 c4 x=>s5.extBut _ _ c1 (s4 _ _ c4 (up3 c o c1 c3 c2 x))) ⟨oe,s5.extBut _ _ (nz z4 hoe hce) hoe,hce⟩
end
def itO (b:Bool)(l:A0):Obj:=match b with|true=>{ cls:=.type "list_iterator",data:=.fields #[.ref l,.int 0 0] }|false=>{ cls:=.type "tuple_iterator",data:=.fields #[.ref l,.int 0 0] }
theorem KU (b:Bool)(l:A0):(itO b l).isFreed=false:=by cases b <;> rfl
theorem KW (e:h.get? a=some (itO b l)):ItB b h a l 0:=by
 cases b with
 |true=>exact⟨_,e,rfl,rfl⟩
 |false=>exact⟨_,e,rfl,rfl⟩
theorem iterO (ht:SeB b s.heap t items)(hQ:Q (.ref s.heap.objs.size) { s with heap:=s.heap.push (itO b t) }):A6 (A7 prog w) A (pyIter (.ref t)) Q E s:=by
 cases b with
 |true=>exact Bt ht hQ
 |false=>exact Br ht hQ
abbrev zh2 (h:B6)(b1 b2:Bool)(l1 l2:A0):B6:=(h.push (itO b1 l1)).push (itO b2 l2)
abbrev zh3 (h:B6)(b1 b2:Bool)(l1 l2:A0):B6:=(zh2 h b1 b2 l1 l2).push { cls:=.type "tuple",data:=.seq #[.ref h.objs.size,.ref (h.push (itO b1 l1)).objs.size] }
abbrev zh4 (h:B6)(b1 b2:Bool)(l1 l2:A0):B6:=(zh3 h b1 b2 l1 l2).push { cls:=.type "tuple",data:=.seq #[.none,.none] }
abbrev zh5 (h:B6)(b1 b2:Bool)(l1 l2:A0):B6:=(zh4 h b1 b2 l1 l2).push { cls:=.type "zip",data:=.fields #[.none,.bool false,.bool false,.ref (zh2 h b1 b2 l1 l2).objs.size,.ref (zh3 h b1 b2 l1 l2).objs.size] }
theorem zipNew (b1 b2:Bool)(l1 l2:A0)(xs ys:Array A1) :
   Meets (O4.«zip.__new__» ⟨[.type "zip",.ref l1,.ref l2],[]⟩) (λ_ R s=>SeB b1 s.heap l1 xs/\SeB b2 s.heap l2 ys/\R (.ok (.ret (.ref (zh4 s.heap b1 b2 l1 l2).objs.size))) { s with heap:=zh5 s.heap b1 b2 l1 l2 }):=
 .of_wp λprog w A R s hyp=>by
  obtain⟨hp,g,d,tk,os⟩:=s;obtain⟨k1,k2,fin⟩:=hyp;have hsub:=sub_zip;have L1:SeB b1 (Shared.heap ⟨hp,g,d,tk,os⟩) l1 xs:=k1;have L2:SeB b2 (Shared.heap ⟨hp.push (itO b1 l1),g,d,tk,os⟩) l2 ys:=k2.at λo e=>C2 _ e
  wp_walk using iterO L1,iterO L2
  exact⟨_,rfl,fin⟩
section
variable {prog:D1}{w:C9}{A:D5}{E:A1->A5->Prop}{s:A5}
theorem zipB (hl1:SeB b1 s.heap l1 xs)(hl2:SeB b2 s.heap l2 ys)
   (h:∀h',IsZip h' (s.heap.objs.size+4) (s.heap.objs.size+2) (s.heap.objs.size+3) .none->IsPair h' (s.heap.objs.size+2) (.ref s.heap.objs.size) (.ref (s.heap.objs.size+1))->
     IsPair h' (s.heap.objs.size+3) .none .none->ItB b1 h' s.heap.objs.size l1 0->ItB b2 h' (s.heap.objs.size+1) l2 0->(∀c o,s.heap.get? c=some o->h'.get? c=some o)->Q (.ref (s.heap.objs.size+4)) { s with heap:=h' }) :
   A6 (A7 prog w) A (call (.type "zip") [.ref l1,.ref l2]) Q E s:=by
 refine callType_new F.called_zip (by decide) (F.typeCall_zip_2 _ _) (F.newCall_zip_2 _ _) (λobj=>F.args_object_init_3 obj _ _) F.entry_zip_new (zipNew b1 b2 l1 l2 xs ys) ⟨hl1,hl2,?_⟩;have z1:(s.heap.push (itO b1 l1)).objs.size=s.heap.objs.size+1:=Y2 ..;have z2:(zh2 s.heap b1 b2 l1 l2).objs.size=s.heap.objs.size+2:=by rw[Y2,z1]
 have z3:(zh3 s.heap b1 b2 l1 l2).objs.size=s.heap.objs.size+3:=by rw[Y2,z2]
 have z4:(zh4 s.heap b1 b2 l1 l2).objs.size=s.heap.objs.size+4:=by rw[Y2,z3]
 have g5:(zh5 s.heap b1 b2 l1 l2).get? (zh4 s.heap b1 b2 l1 l2).objs.size=some _:=E9 _ rfl;have g4:(zh5 s.heap b1 b2 l1 l2).get? (zh3 s.heap b1 b2 l1 l2).objs.size=some _:=C2 _ (E9 _ rfl);have g3:(zh5 s.heap b1 b2 l1 l2).get? (zh2 s.heap b1 b2 l1 l2).objs.size=some _:=C2 _ (C2 _ (E9 _ rfl));have g2:(zh5 s.heap b1 b2 l1 l2).get? (s.heap.push (itO b1 l1)).objs.size=some _:=C2 _ (C2 _ (C2 _ (E9 _ (KU b2 l2))));have g1:(zh5 s.heap b1 b2 l1 l2).get? s.heap.objs.size=some _:=C2 _ (C2 _ (C2 _ (C2 _ (E9 _ (KU b1 l1)))));show _/\_;rw[z2,z3,z4] at g5;rw[z1,z2] at g3;rw[z3] at g4;rw[z1] at g2;rw[z4];exact⟨⟨_,g5,rfl⟩,h _ g5 g3 g4 (KW g1) (KW g2) λc o x=>C2 _ (C2 _ (C2 _ (C2 _ (C2 _ x))))⟩
end
section
variable {X:Cx}
def ItzB (b1 b2:Bool)(K:A9)(a c:A0):It:=
 ⟨λi H=>∃xs ys x y,SqB b1 K H a xs/\SqB b2 K H c ys/\xs[i]?=some x/\ys[i]?=some y,
  λi H x H'=>∃p u v,H p=none/\x=.ref p/\H'=upd H p (.tup [u,v])/\(∀xs,SqB b1 K H a xs->xs[i]?=some u)/\∀ys,SqB b2 K H c ys->ys[i]?=some v,
  λi H=>∃xs ys,SqB b1 K H a xs/\SqB b2 K H c ys/\min xs.length ys.length<=i⟩
theorem FD (p:SeB b h l items)(he:h.get? e=some o)(hc:o.cls=.type n)(h1:n≠"list")(h2:n≠"tuple"):l≠e:=λz=>by
 obtain⟨o',e1,c1⟩:=p.obj;rw[z,he] at e1;cases e1;rw[hc] at c1;rcases c1 with c1|c1
 ·exact h1 (Value.type.inj c1)
 ·exact h2 (Value.type.inj c1)
theorem FE {l z TI TO i1 i2:A0}(I:Inv X jb σ H s)(hf:∀d∈[z,TI,TO,i1,i2],FpOk X jb H d)(hTO:IsPair s.heap TO p q)(hq:SqB b X.K H l xs):l≠TO:=λzz=>by
 obtain⟨f0,f1,f2,f3,f4,f5⟩:=hf TO (by simp);subst zz;cases b with
 | true =>
  obtain⟨jf,_,pl,_⟩:=I.list hq;obtain⟨o,e,c1,_⟩:=pl.isList;rw[hTO] at e;cases e;exact absurd (show K4 "tuple"=K4 "list" from c1) (by decide)
 | false =>
  rcases hq with hq|⟨o,jf,n,hk,hc1,hs,hz,r⟩
  ·rcases hq with e|⟨o,e⟩
   ·rw[f0] at e;cases e
   ·rw[f0] at e;cases e
  ·have eb:X.base.get? l=some o:=I.ok.mod.kin l o hk;rcases f3 with f3|f3
   ·exact I.ok.noex l o eb f3
   ·exact absurd (K3 (C4 eb) (J9 I.ok.bsz f3)) (W4 _)
theorem Inv.turnedAll {ch:List A0}(I:Inv X jb σ H s)(k:∀b o,b∉ch->s.heap.get? b=some o->h'.get? b=some o)(hf:∀b∈ch,FpOk X jb H b):Inv X jb σ H { s with heap:=h',toks:=t' }:=by
 have nch:∀b u,H b=some u->b∉ch:=λb u e z=>by rw[(hf b z).1] at e;cases e
 refine I.step (g':=s.gens) (d':=s.drawn) (ch:=ch) (λb hb=>⟨(hf b hb).2.2.2.1,(hf b hb).2.1,(hf b hb).2.2.2.2.1,(hf b hb).2.2.2.2.2⟩) (λb o _ _ hc e _=>k b o hc e) (λb o _ _ hc e _=>⟨o.slots,k b o hc e⟩) (λ_ _ _ _ n=>n)
   (λb o hc e=>⟨o,k b o hc e⟩) (λ_ _ e=>e) (λ_ _ _ e=>e) (λb ps e=>⟨#[],by rw[e];simp⟩) (λz=>z) (λm hm=>?_) (λb u e=>?_) I.bare
 ·obtain⟨o,es,ep,ho,r⟩:=hm;exact⟨o,es,ep,k _ o (λz=>(hf _ z).2.1 rfl) ho,r⟩
 ·refine(I.hok b u e).stay (λc v hc q=>k c v ?_ q) (λc q=>q) λc ys q=>q;rcases hc with z|z
  ·rw[z];exact nch b u e
  ·exact nch c _ z
theorem QB {b1 b2:Bool}{P:D1}{w:C9}{K:A9}{elts:List Expr}{x1}{pos:Pos}(a c z TI TO i1 i2:A0)(D:ZAp z TI TO i1 i2) :
   Turn P w K (.Tuple elts x1 pos) (ItzB b1 b2 K a c) [z,TI,TO,i1,i2] z (λi h=>IsZip h z TI TO .none/\IsPair h TI (.ref i1) (.ref i2)/\(∃p q,IsPair h TO p q)/\ItB b1 h i1 a i/\ItB b2 h i2 c i) where
 mem:=by simp
 obj:=λi h st e he=>by
  obtain⟨hz,h1,⟨p,q,h2⟩,h3,h4⟩:=st;obtain⟨o3,e3,_,d3⟩:=h3.obj;obtain⟨o4,e4,_,d4⟩:=h4.obj;have he':e=z\/e=TI\/e=TO\/e=i1\/e=i2:=by simpa using he
  rcases he' with rfl|rfl|rfl|rfl|rfl
  ·exact⟨_,hz,λv z=>by cases z⟩
  ·exact⟨_,h1,λv z=>by cases z⟩
  ·exact⟨_,h2,λv z=>by cases z⟩
  ·exact⟨_,e3,d3⟩
  ·exact⟨_,e4,d4⟩
 keep:=λi h h' st k=>by
  obtain⟨hz,h1,⟨p,q,h2⟩,h3,h4⟩:=st;exact⟨k z (by simp) _ hz,k TI (by simp) _ h1,⟨p,q,k TO (by simp) _ h2⟩,h3.at λo e=>k i1 (by simp) o e,h4.at λo e=>k i2 (by simp) o e⟩
 item:=by
  intro X hP hw hK hc i jb s σ H E I hf st hg;subst hP hw hK;obtain⟨hz,hTI,⟨p,q,hTO⟩,h3,h4⟩:=st;obtain⟨xs,ys,x,y,hq1,hq2,hx,hy⟩:=hg;obtain⟨is1,rv1,p1,hz1⟩:=I.seqB hq1;obtain⟨is2,rv2,p2,hz2⟩:=I.seqB hq2;obtain⟨u,hu,ru⟩:=rv1.get hx;obtain⟨v,hv,rv⟩:=rv2.get hy;have ty:s.TypeIs (.ref z) "zip":=⟨_,hz,rfl⟩;unfold pyNext;refine A2 (w5 (X8 (name:=A8 "__next__") ty EQ (R0 EQ ty F.entry_zip_next (Qz D (FD p1 hz rfl (by decide) (by decide)) (FD p2 hz rfl (by decide) (by decide)) (FE I hf hTO hq1) (FE I hf hTO hq2) (h3.ne p1) (h3.ne p2) hz hTI hTO h3 h4 p1 p2 (by simpa using hu) (by simpa using hv) λh' a1 a2 a3 a4 a5 k=>B2 ?_) (F.args_zip_next_1 _))));refine⟨_,rfl,wpAny_letOwnedTupleGo_zip (s:={ s with heap:=h' }) a1 λh'' z'' sb=>?_⟩;have lt:∀{d:A0} {o:Obj},s.heap.get? d=some o->s.heap.objs.size≠d:=λe=>i5 (C4 e);have ht'':h''.get? s.heap.objs.size=some { cls:=.type "tuple",data:=.seq #[u,v] }:=(sb.2 _ (lt hz)).trans a5
  have k':∀d o,d∉[z,TI,TO,i1,i2]->s.heap.get? d=some o->h''.get? d=some o:=λd o hb q=>by
   have hb1:d≠z:=λe=>hb (by simp[e]);exact(sb.2 d hb1).trans (k d o hb1 (λe=>hb (by simp[e])) (λe=>hb (by simp[e])) (λe=>hb (by simp[e])) q)
  have I1:Inv X jb σ (upd H s.heap.objs.size (.tup [x,y])) { s with heap:=h'' }:=
   I.turnedNew (t':=s.toks) k' hf ⟨by show 2<=C8;decide,[u,v],.cons ru (.cons rv .nil),⟨_,ht'',rfl,_,rfl⟩⟩
  obtain⟨o3,e3,_,_⟩:=h3.obj;obtain⟨o4,e4,_,_⟩:=h4.obj
  refine⟨.ref s.heap.objs.size,_,I1,rfl,⟨_,x,y,I.fresh,rfl,rfl,λzs hzs=>by rw[I.seqB_inj hzs hq1];exact hx,λzs hzs=>by rw[I.seqB_inj hzs hq2];exact hy⟩,
   ⟨z'',sb.extBut _ _ D.a1 (k _ _ D.a1 D.a5 D.a6 D.a7 hTI),⟨u,v,sb.extBut _ _ D.a2 a2⟩,a3.at λo e=>sb.extBut _ o D.a3 e,a4.at λo e=>sb.extBut _ o D.a4 e⟩,λd hd=>?_⟩
  have hd':d=z\/d=TI\/d=TO\/d=i1\/d=i2:=by simpa using hd
  have hds:d≠s.heap.objs.size:=by
   rcases hd' with rfl|rfl|rfl|rfl|rfl
   ·exact(lt hz).symm
   ·exact(lt hTI).symm
   ·exact(lt hTO).symm
   ·exact(lt e3).symm
   ·exact(lt e4).symm
  rw[C3 hds];exact(hf d hd).1
 done:=by
  intro X hP hw hK hc i jb s σ H E I hf st hg;subst hP hw hK;obtain⟨hz,hTI,⟨p,q,hTO⟩,h3,h4⟩:=st;obtain⟨xs,ys,hq1,hq2,hmin⟩:=hg;obtain⟨is1,rv1,p1,hz1⟩:=I.seqB hq1;obtain⟨is2,rv2,p2,hz2⟩:=I.seqB hq2;have l1:=rv1.length;have l2:=rv2.length;have ty:s.TypeIs (.ref z) "zip":=⟨_,hz,rfl⟩
  have hend:is1.toArray[i]?=none\/is2.toArray[i]?=none:=by
   rcases Nat.le_total xs.length ys.length with h|h
   ·exact .inl (BN (by rw[G5];omega))
   ·exact .inr (BN (by rw[G5];omega))
  unfold pyNext;refine A2 (w5 (X8 (name:=A8 "__next__") ty EQ (R0 EQ ty F.entry_zip_next (zipEnd (A:=X.A.in1) (I.ok.hd hc) D (FD p1 hz rfl (by decide) (by decide)) (FD p2 hz rfl (by decide) (by decide)) (FE I hf hTO hq1) (FE I hf hTO hq2) (h3.ne p1) (h3.ne p2) hz hTI hTO h3 h4 p1 p2 hend λh' e k he=>?_) (F.args_zip_next_1 _))));obtain⟨o,ho,hce⟩:=he;refine A2 (CK (T:="StopIteration") (b:=true) ⟨o,ho,hce⟩ isSubtype_stop (B2 ⟨rfl,?_⟩));exact I.turnedAll (t':=s.toks) (ch:=[z,TI,TO,i1,i2]) (λd o hd e=>k d o (λz=>hd (by simp[z])) (λz=>hd (by simp[z])) (λz=>hd (by simp[z])) (λz=>hd (by simp[z])) e) hf
 self:=λ_ _ _ _ _ st h=>wpAny_pyIter_zip st.1 h
end
end L2
end
section
namespace L2
open PySem PySem.Spec PyProof.Rows
section
variable {X:Cx}
def iZipB (b1 b2:Bool)(K:A9)(ta:TA):TI:=λσ H R=>ta σ H λvs H1=>∃a c,vs=[.ref a,.ref c]/\(∃xs,SqB b1 K H1 a xs)/\(∃ys,SqB b2 K H1 c ys)/\R (ItzB b1 b2 K a c) H1
theorem QC (b1 b2:Bool){a b:Expr}{ta:TA}{p pos:Pos}{elts:List Expr}{x1}{tpos:Pos}(hg:Gl X "zip")(hm:X.mg "zip"=none)(ha:PA X [a,b] ta)(hs:F5 [a,b] X.env=[(false,eval a X.env),(false,eval b X.env)]:=by rfl)(hs2:F5 [b] X.env=[(false,eval b X.env)]:=by rfl) :
   PI X (.Tuple elts x1 tpos) (.Call (.Name "zip" p) [a,b] [] pos) (iZipB b1 b2 X.K ta):=by
 intro jb s σ H R I h;refine Call_ (AM I hg hm boot_zip (EI (thn (ha pos jb s σ H _ I h) λus s1 ⟨vs,H1,I1,r1,q1⟩=>?_) (by rw[hs,hs2]) (by rw[hs2];rfl)));obtain⟨a,c,e,⟨xs,h1⟩,⟨ys,h2⟩,q⟩:=q1;subst e;cases r1 with
 | cons r rr =>
  cases rr with
  | cons r' rr =>
   cases rr;cases r;cases r';obtain⟨is1,rv1,p1,hz1⟩:=I1.seqB h1;obtain⟨is2,rv2,p2,hz2⟩:=I1.seqB h2;refine zipB p1 p2 λh' e1 e2 e3 e4 e5 hk=>?_;refine wpAny_pyIter_zip e1 ?_;have I2:Inv X jb σ H1 { s1 with heap:=h' }:=I1.kept (t':=s1.toks) hk;refine⟨s1.heap.objs.size+4,[s1.heap.objs.size+4,s1.heap.objs.size+2,s1.heap.objs.size+3,s1.heap.objs.size,s1.heap.objs.size+1],_,_,H1,rfl,I2,QB a c _ _ _ _ _ ⟨by simp,by simp,by simp,by simp,by simp,by simp,by simp,by simp,by simp,by simp⟩,⟨e1,e2,⟨_,_,e3⟩,e4,e5⟩,λd hd=>?_,q⟩
   have hd':s1.heap.objs.size<=d:=by
    simp only[D0,AE,or_false] at hd;rcases hd with rfl|rfl|rfl|rfl|rfl <;> omega
   exact I1.fpOk hd' (I1.hok.fresh hd')
end
end L2
namespace Pu
open PySem PySem.Spec L2
section
variable {T:PotK}{ι:Type}{K:A9}{F:ι->Cx}{e a b tg:Expr}{pe pa pb:pE}{pos:Pos}
def FG (pe:pE):pA:=λenv n R=>pe env n λx jc n1=>match x with|.tup xs=>R (Dz xs) jc n1|_=>False
theorem KY {p:Pos}{elts:List Expr}{x1:Nat}{tpos:Pos}(hg:∀z,Gl (F z) "enumerate")(hm:∀z,(F z).mg "enumerate"=none)(h:QE T K F e pe)(hs:F9 e=true:=by rfl)(hK:∀z,(F z).K=K:=by intro _;rfl):QI T K F (.Tuple elts x1 tpos) (.Call (.Name "enumerate" p) [e] [] pos) (FG pe):=by
 obtain⟨t,h1,h2⟩:=h;refine⟨_,λz=>hK z▸Qy false (hg z) (hm z) (F8 (h1 z) K5 (D9 hs)) (by rw[D9 hs];rfl),λC G σ H env n R Q hK hT S hp k=>?_⟩;refine h2 C G σ H env n _ _ hK hT S hp λx jc n1 v H1 p1 S1 r1 f1=>?_;cases x with
 | tup xs =>
  obtain⟨a,vs,rfl,t,r⟩:=r1;refine⟨a,rfl,⟨vs,t.sq⟩,k _ _ _ _ _ p1 S1 f1 ?_⟩;intro G2 H2 hk hM hp hf;have hq:SqB false K H2 a vs:=SqT.of (hk a _ t.1 t.2);have r2:Reps K G2 H2 xs vs:=Reps.mono hk hM hp _ _ r;refine⟨λi x e=>?_,λi hi=>⟨vs,hq,by rw[<- r.length,<- HC];exact hi⟩⟩;obtain⟨y,ey,rfl⟩:=HB e;obtain⟨v,ev,rv⟩:=r2.get' ey;refine⟨⟨vs,v,hq,ev⟩,λv' H3 y=>?_⟩;obtain⟨p,w,hn,rfl,rfl,y⟩:=y;have:=y vs hq;rw[ev] at this;cases this;exact⟨Same.lay1 hn,Cb (hf p hn) hn (.cons rfl (.one rv))⟩
 |_=>exact p1.elim
def zipP (xs ys:List PV):List PV:=(xs.zip ys).map λy=>.tup [y.1,y.2]
def DK (b:Bool):PV->Option (List PV)
 |.lst xs=>if b then some xs else none
 |.tup xs=>if b then none else some xs
 |_=>none
theorem QD {b:Bool}(h:DK b x=some xs):x=(match b with|true=>.lst xs|false=>.tup xs):=by
 cases x <;> cases b <;> simp[DK] at h <;> simp[h]
theorem KZ {b:Bool}(h:DK b x=some xs)(r:Rep K G H x v):∃a vs,v=.ref a/\a∉G.M/\Reps K G H xs vs/\∀H2,(∀c o,c∉G.M->H c=some o->H2 c=some o)->SqB b K H2 a vs:=by
 rw[QD h] at r;cases b with
 | true =>
  obtain⟨a,vs,e,t,r⟩:=r;exact⟨a,vs,e,t.1,r,λH2 hk=>SqL.of (hk a _ t.1 t.2)⟩
 | false =>
  obtain⟨a,vs,e,t,r⟩:=r;exact⟨a,vs,e,t.1,r,λH2 hk=>SqT.of (hk a _ t.1 t.2)⟩
def qZip (b1 b2:Bool)(pa pb:pE):pA:=λenv n R=>pa env n λx jc n1=>pb jc n1 λy jd n2=>match DK b1 x,DK b2 y with|some xs,some ys=>R (zipP xs ys) jd n2|_,_=>False
theorem K_ (xs ys:List PV):(zipP xs ys).length=min xs.length ys.length:=by simp[zipP]
theorem QF {xs ys:List PV}{i:Nat}{x:PV}(h:(zipP xs ys)[i]?=some x):∃u v,xs[i]?=some u/\ys[i]?=some v/\x=.tup [u,v]:=by grind [PV,zipP]
theorem qi_zip (b1 b2:Bool)(hg:∀z,Gl (F z) "zip")(hm:∀z,(F z).mg "zip"=none)(ha:QE T K F a pa)(hb:QE T K F b pb)(hs:F9 a=true:=by rfl)(hs2:F9 b=true:=by rfl)(hK:∀z,(F z).K=K:=by intro _;rfl):QI T K F (.Tuple elts x1 tpos) (.Call (.Name "zip" p) [a,b] [] pos) (qZip b1 b2 pa pb):=by
 obtain⟨t,h1,h2⟩:=ha;obtain⟨u,h3,h4⟩:=hb;refine⟨_,λz=>hK z▸QC b1 b2 (hg z) (hm z) (F8 (h1 z) (F8 (h3 z) K5 (D9 hs2)) (D9 hs)) (by rw[D9 hs,D9 hs2];rfl) (by rw[D9 hs2];rfl),λC G σ H env n R Q hK hT S hp k=>?_⟩;refine h2 C G σ H env n _ _ hK hT S hp λx jc n1 v H1 p1 S1 r1 f1=>?_;refine h4 C G σ H1 jc n1 _ _ hK hT S1 p1 λy jd n2 w H2 p2 S2 r2 f2=>?_
 split at p2
 ·rename_i xs ys ex ey;obtain⟨a,vs,rfl,na,ra,sa⟩:=KZ ex (r1.fr f2);obtain⟨c,us,rfl,nc,rc,scq⟩:=KZ ey r2;refine⟨a,c,rfl,⟨vs,sa H2 λ_ _ _ e=>e⟩,⟨us,scq H2 λ_ _ _ e=>e⟩,k _ _ _ _ _ p2 S2 (f1.trans f2) ?_⟩;intro G2 H3 hk hM hp hf;have ra':Reps K G2 H3 xs vs:=Reps.mono hk hM hp _ _ ra;have rc':Reps K G2 H3 ys us:=Reps.mono hk hM hp _ _ rc;refine⟨λi x e=>?_,λi hi=>⟨vs,us,sa H3 hk,scq H3 hk,by rw[<- ra.length,<- rc.length,<- K_];exact hi⟩⟩;obtain⟨u,v,eu,ev,rfl⟩:=QF e;obtain⟨u',eu',ru⟩:=ra'.get' eu;obtain⟨v',ev',rv⟩:=rc'.get' ev;refine⟨⟨vs,us,u',v',sa H3 hk,scq H3 hk,eu',ev'⟩,λx' H4 y=>?_⟩;obtain⟨p,u2,v2,hn,rfl,rfl,y1,y2⟩:=y;have q1:=y1 vs (sa H3 hk);have q2:=y2 us (scq H3 hk);rw[eu'] at q1;rw[ev'] at q2;cases q1;cases q2;exact⟨Same.lay1 hn,Cb (hf p hn) hn (.cons ru (.one rv))⟩
 ·exact p2.elim
end
end Pu
end
section
namespace Pu
open PySem PySem.Spec L2
mutual
def pln:PV->Bool
 |.non=>true
 |.bl _=>true
 |.int _=>true
 |.str _=>true
 |.tup xs=>plns xs
 |.lst xs=>plns xs
 |_=>false
def plns:List PV->Bool
 |[]=>true
 |x::xs=>pln x&&plns xs
end
mutual
theorem FH:∀x:PV,pln x=true->eqP x x=true
 |.non,_=>rfl
 |.bl b,_=>by rw[KC];exact jq rfl
 |.int i,_=>by rw[KB];exact jq rfl
 |.str z,_=>by rw[k6];exact jq rfl
 |.tup xs,h=>by rw[Ac];exact HX xs (by simpa[pln] using h)
 |.lst xs,h=>by rw[KD];exact HX xs (by simpa[pln] using h)
 |.ty _,h=>by simp[pln] at h
 |.pot _,h=>by simp[pln] at h
 |.scr _,h=>by simp[pln] at h
 |.fdt _ _,h=>by simp[pln] at h
 |.dct _ _,h=>by simp[pln] at h
theorem HX:∀xs:List PV,plns xs=true->eqPs xs xs=true
 |[],_=>rfl
 | x :: xs, h => by
  have h':pln x=true/\plns xs=true:=by simpa[plns] using h
  rw[Ad,FH x h'.1,HX xs h'.2];rfl
end
theorem HY:∀xs:List PV,(∀x∈xs,pln x=true)->plns xs=true
 |[],_=>rfl
 | x :: xs, h => by
  simp only[plns,V4];exact⟨h x C6,HY xs λy hy=>h y (C5 _ hy)⟩
theorem X4 {te:pE}{rest:Env}{α:Type}(f:α->PV)(g:α->PV):∀(xs:List α) (s0:Option Slot) (n:Nat) (R:List PV->Nat->Prop),(∀x∈xs,∀m Q,Q (g x) (some (.v (f x))::rest) m->te (some (.v (f x))::rest) m Q)->R (xs.map g) n->U8 (gN 0) qTru te (xs.map f) (s0::rest) n R
 |[],_,_,_,_,h=>h
 | x :: xs, s0, n, R, ht, h => by
  show te (some (.v (f x))::rest) n _;refine ht x C6 n _ ?_;exact X4 f g xs _ n _ (λy hy=>ht y (C5 _ hy)) h
theorem La {te:pE}{rest:Env}{α:Type}(u v g:α->PV):∀(xs:List α) (s0 s1:Option Slot) (n:Nat) (R:List PV->Nat->Prop),(∀x∈xs,∀m Q,Q (g x) (some (.v (u x))::some (.v (v x))::rest) m->te (some (.v (u x))::some (.v (v x))::rest) m Q)->R (xs.map g) n->U8 (gTp 2 (gCn (gN 0) (gCn (gN 1) gNl))) qTru te (xs.map λx=>.tup [u x,v x]) (s0::s1::rest) n R
 |[],_,_,_,_,_,h=>h
 | x :: xs, s0, s1, n, R, ht, h => by
  refine⟨rfl,?_⟩;show te (some (.v (u x))::some (.v (v x))::rest) n _;refine ht x C6 n _ ?_;exact La u v g xs _ _ n _ (λy hy=>ht y (C5 _ hy)) h
end Pu
end
section
namespace L2
open PySem PySem.W PyProof.Rows
namespace Kr
def run {α:Type}(lt:Nat->Nat->Bool):KasT α->α
 |.ret a=>a
 |.ask i j k=>run lt (k (lt i j))
theorem Ck {α β:Type}(lt:Nat->Nat->Bool)(f:α->KasT β):∀t:KasT α,run lt (t.bind f)=run lt (f (run lt t))
 |.ret a=>rfl
 |.ask i j k=>Ck lt f (k (lt i j))
structure Ord (lt:Nat->Nat->Bool):Prop where
 ir:∀a,lt a a=false
 tr:∀a b c,lt a b=true->lt b c=true->lt a c=true
 nt:∀a b c,lt a c=true->lt a b=true\/lt b c=true
variable {lt:Nat->Nat->Bool}(O:Ord lt)
include O
theorem Ord.as (h:lt a b=true):lt b a=false:=by
 cases e:lt b a with
 |false=>rfl
 |true=>have:=O.tr _ _ _ h e;rw[O.ir] at this;cases this
theorem Ord.le (h1:lt b a=false)(h2:lt c b=false):lt c a=false:=by
 cases e:lt c a with
 |false=>rfl
 |true=>rcases O.nt c b a e with h|h <;> simp_all
theorem Ord.l1 (h1:lt a b=true)(h2:lt c b=false):lt a c=true:=by
 rcases O.nt a c b h1 with h|h
 ·exact h
 ·rw[h2] at h;cases h
theorem Ord.l2 (h1:lt b a=false)(h2:lt b c=true):lt a c=true:=by
 rcases O.nt b a c h2 with h|h
 ·rw[h1] at h;cases h
 ·exact h
omit O
def g (p:Array Nat)(i:Nat):Nat:=p.getD i 0
theorem g_eq (p:Array Nat)(i:Nat):g p i=(p[i]?).getD 0:=by unfold g;rw[AI]
theorem k7 (h:j<=p.size)(k:Nat):g (P5 p i j) k=if i<=k/\k<j then g p (i+j-1-k) else g p k:=by
 unfold P5;rw[g_eq,getElem?_mirror_all h]
 split <;> rw[g_eq]
theorem g_bub (h:k<p.size)(hl:l<=k)(i:Nat):g (bubble p k (k-l)) i=if i=l then g p k else if l<i/\i<=k then g p (i-1) else g p i:=by
 rw[g_eq,getElem?_bubble h (k-l) (by omega),show k-(k-l)=l by omega]
 split
 ·rw[g_eq]
 ·split <;> rw[g_eq]
theorem Bd (p:Array Nat)(i j:Nat):(P5 p i j).size=p.size:=mirror_size _ _ _ _
theorem DL (p:Array Nat)(i j:Nat):(P5 p i j).Perm p:=mirror_perm _ _ _ _
def S (lt:Nat->Nat->Bool)(p:Array Nat)(k:Nat):Prop:=∀i j,i<=j->j<k->lt (g p j) (g p i)=false
def D (lt:Nat->Nat->Bool)(p:Array Nat)(k:Nat):Prop:=∀i j,i<=j->j<k->lt (g p i) (g p j)=false
def B (lt:Nat->Nat->Bool)(p:Array Nat)(a k:Nat):Prop:=∀i j,a<=i->i<k->a<=j->j<k->lt (g p i) (g p j)=false
include O
theorem S_succ (h:S lt p n)(hn:1<=n)(hl:lt (g p n) (g p (n-1))=false):S lt p (n+1):=by
 intro i j hij hj;rcases Nat.lt_succ_iff_lt_or_eq.mp hj with h1|h1
 ·exact h i j hij h1
 ·subst h1;rcases Nat.lt_or_eq_of_le hij with h2|h2
  ·exact O.le (h i (j-1) (by omega) (by omega)) hl
  ·rw[h2];exact O.ir _
theorem HZ (p:Array Nat):∀(f n:Nat),1<=n->S lt p n->n<=run lt (U1 p f n)/\run lt (U1 p f n)<=n+f/\S lt p (run lt (U1 p f n))/\(run lt (U1 p f n)=n+f\/lt (g p (run lt (U1 p f n))) (g p (run lt (U1 p f n)-1))=true)
 |0,n,hn,h=>⟨C7 _,C7 _,h,.inl rfl⟩
 | f + 1, n, hn, h => by
  show n<=run lt (if lt (g p n) (g p (n-1))=true then .ret n else U1 p f (n+1))/\run lt (if lt (g p n) (g p (n-1))=true then .ret n else U1 p f (n+1))<=n+(f+1)/\S lt p (run lt (if lt (g p n) (g p (n-1))=true then .ret n else U1 p f (n+1)))/\(run lt (if lt (g p n) (g p (n-1))=true then .ret n else U1 p f (n+1))=n+(f+1)\/lt (g p (run lt (if lt (g p n) (g p (n-1))=true then .ret n else U1 p f (n+1)))) (g p (run lt (if lt (g p n) (g p (n-1))=true then .ret n else U1 p f (n+1))-1))=true);cases e:lt (g p n) (g p (n-1)) with
  | true =>
   rw[jt rfl];exact⟨C7 _,by show n<=_;omega,h,.inr e⟩
  | false =>
   rw[ju (by simp)];obtain⟨h1,h2,h3,h4⟩:=HZ p f (n+1) (by omega) (S_succ O h hn e);exact⟨by omega,by omega,h3,h4.imp (λx=>by omega) id⟩
theorem D_rev (hn:n<=p.size)(h:D lt p n)(hb:B lt p a n):D lt (P5 p a n) n:=by
 intro i j hij hj;rw[k7 hn,k7 hn]
 by_cases c1:a<=i
 ·rw[jt ⟨c1,by omega⟩,jt ⟨by omega,hj⟩];exact hb _ _ (by omega) (by omega) (by omega) (by omega)
 ·rw[ju (by omega)]
  by_cases c2:a<=j
  ·rw[jt ⟨c2,hj⟩];exact h _ _ (by omega) (by omega)
  ·rw[ju (by omega)];exact h _ _ hij hj
theorem DM (h:D lt p n)(hn:1<=n)(hl:lt (g p (n-1)) (g p n)=false):D lt p (n+1):=by
 intro i j hij hj;rcases Nat.lt_succ_iff_lt_or_eq.mp hj with h1|h1
 ·exact h i j hij h1
 ·subst h1;rcases Nat.lt_or_eq_of_le hij with h2|h2
  ·exact O.le hl (h i (j-1) (by omega) (by omega))
  ·rw[h2];exact O.ir _
theorem FI:∀(f:Nat) (p:Array Nat) (n q:Nat),q + 1<=n->n + f<=p.size->D lt p n->B lt p (n - (q + 1)) n->
   ∃p' n' q',run lt (h9 f p n q)=(p',n',q')/\p'.Perm p/\p'.size=p.size/\n<=n'/\n'<=n+f/\q'+1<=n'/\D lt p' n'/\B lt p' (n'-(q'+1)) n'
 |0,p,n,q,hq,hs,h,hb=>⟨p,n,q,rfl,x9 _,rfl,C7 _,C7 _,hq,h,hb⟩
 | f + 1, p, n, q, hq, hs, h, hb => by
  have one:∀p n,B lt p (n+1-(0+1)) (n+1):=λp n i j h1 h2 h3 h4=>by
   have:i=j:=by omega
   rw[this];exact O.ir _
  cases e:lt (g p n) (g p (n-1)) with
  | true =>
   by_cases c:q>0
   ·have hd:=D_rev O (by omega:n<=p.size) h hb;have e1:g (P5 p (n-(q+1)) n) n=g p n:=by rw[k7 (by omega),ju (by omega)]
    have e2:g (P5 p (n-(q+1)) n) (n-1)=g p (n-(q+1)):=by rw[k7 (by omega),jt (by omega)];congr 1;omega
    have e3:lt (g p (n-(q+1))) (g p n)=false:=O.as (O.l1 e (hb _ _ (by omega) (by omega) (by omega) (by omega)));obtain⟨p',n',q',a1,a2,a3,a4,a5,a6,a7,a8⟩:=FI f (P5 p (n-(q+1)) n) (n+1) 0 (by omega) (by rw[Bd];omega) (DM O hd (by omega) (by rw[e1,e2];exact e3)) (one _ _);refine⟨p',n',q',?_,a2.trans (DL _ _ _),by rw[a3,Bd],by omega,by omega,a6,a7,a8⟩;show run lt (if lt (g p n) (g p (n-1))=true then(if q>0 then h9 f (P5 p (n-(q+1)) n) (n+1) 0 else h9 f p (n+1) 0) else _)=_;rw[jt e,jt c];exact a1
   ·obtain⟨p',n',q',a1,a2,a3,a4,a5,a6,a7,a8⟩:=FI f p (n+1) 0 (by omega) (by omega) (DM O h (by omega) (O.as e)) (one _ _);refine⟨p',n',q',?_,a2,a3,by omega,by omega,a6,a7,a8⟩;show run lt (if lt (g p n) (g p (n-1))=true then(if q>0 then h9 f (P5 p (n-(q+1)) n) (n+1) 0 else h9 f p (n+1) 0) else _)=_;rw[jt e,ju c];exact a1
  | false =>
   cases e':lt (g p (n-1)) (g p n) with
   | true =>
    refine⟨p,n,q,?_,x9 _,rfl,C7 _,by omega,hq,h,hb⟩;show run lt (if lt (g p n) (g p (n-1))=true then _ else KasT.ask (g p (n-1)) (g p n) λd=>if d=true then .ret (p,n,q) else h9 f p (n+1) (q+1))=_;rw[ju (by rw[e];simp)];show run lt (if lt (g p (n-1)) (g p n)=true then .ret (p,n,q) else h9 f p (n+1) (q+1))=_;rw[jt e'];rfl
   | false =>
    have hb':B lt p (n+1-(q+1+1)) (n+1):=by
     have up:∀i,n-(q+1)<=i->i<n->lt (g p i) (g p n)=false/\lt (g p n) (g p i)=false:=λi h1 h2=>
      ⟨O.le e' (hb i (n-1) h1 h2 (by omega) (by omega)),O.le (hb (n-1) i (by omega) (by omega) h1 h2) e⟩
     intro i j h1 h2 h3 h4
     by_cases ci:i<n
     ·by_cases cj:j<n
      ·exact hb i j (by omega) ci (by omega) cj
      ·rw[show j=n by omega];exact(up i (by omega) ci).1
     ·rw[show i=n by omega]
      by_cases cj:j<n
      ·exact(up j (by omega) cj).2
      ·rw[show j=n by omega];exact O.ir _
    obtain⟨p',n',q',a1,a2,a3,a4,a5,a6,a7,a8⟩:=FI f p (n+1) (q+1) (by omega) (by omega) (DM O h (by omega) e') hb';refine⟨p',n',q',?_,a2,a3,by omega,by omega,a6,a7,a8⟩;show run lt (if lt (g p n) (g p (n-1))=true then _ else KasT.ask (g p (n-1)) (g p n) λd=>if d=true then .ret (p,n,q) else h9 f p (n+1) (q+1))=_;rw[ju (by rw[e];simp)];show run lt (if lt (g p (n-1)) (g p n)=true then .ret (p,n,q) else h9 f p (n+1) (q+1))=_;rw[ju (by rw[e'];simp)];exact a1
theorem S_of_D (hn:n<=p.size)(h:D lt p n):S lt (P5 p 0 n) n:=by
 intro i j hij hj;rw[k7 hn,k7 hn,jt ⟨by omega,hj⟩,jt ⟨by omega,by omega⟩];exact h _ _ (by omega) (by omega)
theorem Lb (h1:1<=n)(hn:n<=nrem)(hs:nrem<=p.size)(h:D lt p n) :
   ∃m p',run lt (kas_tail3 n nrem p)=(m,p')/\p'.Perm p/\p'.size=p.size/\1<=m/\m<=nrem/\S lt p' m:=by
 obtain⟨a1,a2,a3,_⟩:=HZ O (P5 p 0 n) (nrem-n) n h1 (S_of_D O (by omega) h);refine⟨_,P5 p 0 n,?_,DL _ _ _,Bd _ _ _,?_,?_,a3⟩
 ·unfold kas_tail3;rw[Ck];rfl
 ·omega
 ·omega
theorem Lc (h1:1<=n)(hn:n+1<=nrem)(hs:nrem<=p.size)(h:D lt p (n+1)) :
   ∃m p',run lt (kas_descPart n nrem p)=(m,p')/\p'.Perm p/\p'.size=p.size/\1<=m/\m<=nrem/\S lt p' m:=by
 obtain⟨p',n',q',a1,a2,a3,a4,a5,a6,a7,a8⟩:=FI O (nrem-(n+1)) p (n+1) 0 (by omega) (by omega) h (λi j h1 h2 h3 h4=>by
  have:i=j:=by omega
  rw[this];exact O.ir _)
 unfold kas_descPart;rw[Ck,a1];dsimp only
 by_cases c:q'>0
 ·rw[jt c];obtain⟨m,p2,b1,b2,b3,b4,b5,b6⟩:=Lb O (p:=P5 p' (n'-(q'+1)) n') (n:=n') (nrem:=nrem) (by omega) (by omega) (by rw[Bd];omega) (D_rev O (by omega) a7 a8);exact⟨m,p2,b1,(b2.trans (DL _ _ _)).trans a2,by rw[b3,Bd,a3],b4,b5,b6⟩
 ·rw[ju c];obtain⟨m,p2,b1,b2,b3,b4,b5,b6⟩:=Lb O (p:=p') (n:=n') (nrem:=nrem) (by omega) (by omega) (by omega) a7;exact⟨m,p2,b1,b2.trans a2,by rw[b3,a3],b4,b5,b6⟩
theorem QH (h1:1<=n)(hs:p.size=n):∃m p',run lt (kas_count n p)=(m,p')/\p'.Perm p/\p'.size=p.size/\1<=m/\m<=n/\S lt p' m:=by
 have s1:S lt p 1:=λi j h2 h3=>by
  have:i=j:=by omega
  rw[this];exact O.ir _
 obtain⟨a1,a2,a3,a4⟩:=HZ O p (n-1) 1 (C7 _) s1;unfold kas_count;rw[Ck];generalize run lt (U1 p (n-1) 1)=k at a1 a2 a3 a4 ⊢
 by_cases c:k=n
 ·rw[jt (by rw[c];exact beq_self_eq_true n)];exact⟨k,p,rfl,x9 _,rfl,a1,by omega,a3⟩
 ·rw[ju (by simpa using c)];have a5:lt (g p k) (g p (k-1))=true:=a4.resolve_left (by omega)
  by_cases c1:k>1
  ·rw[jt c1];show ∃m p',run lt (if lt (g p 0) (g p (k-1))=true then .ret (k,p) else kas_descPart k n (P5 p 0 k))=(m,p')/\_;cases e:lt (g p 0) (g p (k-1)) with
   |true=>rw[jt rfl];exact⟨k,p,rfl,x9 _,rfl,a1,by omega,a3⟩
   | false =>
    rw[ju (by simp)]
    have al:∀i j,i<k->j<k->lt (g p i) (g p j)=false:=λi j hi hj=>by
     have x1:=a3 j (k-1) (by omega) (by omega);have x2:=a3 0 i (by omega) hi;exact O.le (O.le x1 e) x2
    have hd:D lt (P5 p 0 k) (k+1):=by
     refine DM O (λi j hij hj=>?_) a1 ?_
     ·rw[k7 (by omega),k7 (by omega),jt ⟨by omega,by omega⟩,jt ⟨by omega,hj⟩];exact al _ _ (by omega) (by omega)
     ·rw[k7 (by omega),k7 (by omega),jt ⟨by omega,by omega⟩,ju (by omega)];exact O.as (O.l1 a5 (al _ _ (by omega) (by omega)))
    obtain⟨m,p2,b1,b2,b3,b4,b5,b6⟩:=Lc O (p:=P5 p 0 k) (n:=k) (nrem:=n) a1 (by omega) (by rw[Bd];omega) hd;exact⟨m,p2,b1,b2.trans (DL _ _ _),by rw[b3,Bd],b4,b5,b6⟩
  ·rw[ju c1];have hk:k=1:=by omega
   subst hk
   exact Lc O (C7 _) (by omega) (by omega) (DM O (λi j h2 h3=>by
    have:i=j:=by omega
    rw[this];exact O.ir _) (C7 _) (O.as a5))
theorem H_ {p:Array Nat}{k:Nat}(h:S lt p k):∀(f l r:Nat),l<=r->r<=k->r-l<=f->(∀i,i<l->lt (g p k) (g p i)=false)->(∀i,r<=i->i<k->lt (g p k) (g p i)=true)->
   run lt (V1 p k f l r)<=k/\(∀i,i<run lt (V1 p k f l r)->lt (g p k) (g p i)=false)/\(∀i,run lt (V1 p k f l r)<=i->i<k->lt (g p k) (g p i)=true)
 | 0, l, r, h1, h2, h3, h4, h5 => by
  have:l=r:=by omega
  subst this;exact⟨h2,h4,h5⟩
 | f + 1, l, r, h1, h2, h3, h4, h5 => by
  by_cases c:l>=r
  ·have:l=r:=by omega
   subst this;unfold V1;rw[jt c];exact⟨h2,h4,h5⟩
  ·have e:run lt (V1 p k (f+1) l r)=run lt (if lt (g p k) (g p ((l+r)/2))=true then V1 p k f l ((l+r)/2) else V1 p k f ((l+r)/2+1) r):=by
    conv=>lhs;unfold V1
    rw[ju c];rfl
   rw[e];cases e2:lt (g p k) (g p ((l+r)/2)) with
   | true =>
    rw[jt rfl];exact H_ h f l ((l+r)/2) (by omega) (by omega) (by omega) h4 λi i1 i2=>O.l1 e2 (h _ _ i1 i2)
   | false =>
    rw[ju (by simp)];exact H_ h f ((l+r)/2+1) r (by omega) h2 (by omega) (λi i1=>O.le (h i ((l+r)/2) (by omega) (by omega)) e2) h5
theorem Ld:∀(f:Nat) (p:Array Nat) (k:Nat),k + f<=p.size->S lt p k->(run lt (kas_bin f p k)).Perm p/\(run lt (kas_bin f p k)).size=p.size/\S lt (run lt (kas_bin f p k)) (k + f)
 |0,p,k,_,h=>⟨x9 _,rfl,h⟩
 | f + 1, p, k, hs, h => by
  obtain⟨a1,a2,a3⟩:=H_ O h k 0 k (by omega) (C7 _) (by omega) (λi z=>by omega) (λi z z2=>by omega)
  have e:run lt (kas_bin (f+1) p k)=run lt (kas_bin f (bubble p k (k-run lt (V1 p k k 0 k))) (k+1)):=by
   show run lt ((V1 p k k 0 k).bind λl=>kas_bin f (bubble p k (k-l)) (k+1))=_;rw[Ck]
  rw[e];generalize run lt (V1 p k k 0 k)=l at a1 a2 a3 ⊢
  have hS:S lt (bubble p k (k - l)) (k + 1):=by
   intro i j hij hj;rw[g_bub (by omega) a1,g_bub (by omega) a1]
   by_cases ci:i=l
   ·rw[jt ci]
    by_cases cj:j=l
    ·rw[jt cj];exact O.ir _
    ·rw[ju cj,jt ⟨by omega,by omega⟩];exact O.as (a3 _ (by omega) (by omega))
   ·rw[ju ci]
    by_cases cj:j=l
    ·rw[jt cj,ju (by omega)];exact a2 _ (by omega)
    ·rw[ju cj]
     by_cases c2:l<j
     ·rw[jt ⟨c2,by omega⟩]
      by_cases c3:l<i
      ·rw[jt ⟨c3,by omega⟩];exact h _ _ (by omega) (by omega)
      ·rw[ju (by omega)];exact h _ _ (by omega) (by omega)
     ·rw[ju (by omega),ju (by omega)];exact h _ _ hij (by omega)
  obtain⟨b1,b2,b3⟩:=Ld f (bubble p k (k-l)) (k+1) (by rw[bubble_size];omega) hS;exact⟨b1.trans (bubble_perm _ _ _),by rw[b2,bubble_size],by rw[show k+(f+1)=k+1+f by omega];exact b3⟩
theorem sort_ok (h1:1<=n):(run lt (R3 n)).Perm (List.toArray (F6 n))/\(run lt (R3 n)).size=n/\S lt (run lt (R3 n)) n:=by
 have hz:(List.toArray (F6 n)).size=n:=by simp
 obtain⟨m,p,a1,a2,a3,a4,a5,a6⟩:=QH O (p:=List.toArray (F6 n)) h1 hz;unfold R3;rw[Ck,a1];dsimp only
 by_cases c:m<n
 ·rw[jt c,Nat.max_eq_left a4];obtain⟨b1,b2,b3⟩:=Ld O (n-m) p m (by omega) a6;rw[show m+(n-m)=n by omega] at b3;exact⟨b1.trans a2,by rw[b2,a3,hz],b3⟩
 ·rw[ju c];have:m=n:=by omega
  subst this;exact⟨a2,by rw[<- hz,<- a3];rfl,a6⟩
omit O
def InQ {α:Type}(n:Nat)(Q:α->Prop):KasT α->Prop
 |.ret a=>Q a
 |.ask i j k=>i<n/\j<n/\∀b,InQ n Q (k b)
theorem Cm {α β:Type}{n:Nat}{Q:α->Prop}{R:β->Prop}{f:α->KasT β}(hf:∀a,Q a->InQ n R (f a)):∀t:KasT α,InQ n Q t->InQ n R (t.bind f)
 |.ret a,h=>hf a h
 |.ask _ _ k,h=>⟨h.1,h.2.1,λb=>Cm hf (k b) (h.2.2 b)⟩
def En (n:Nat)(p:Array Nat):Prop:=0<n/\p.Perm (List.toArray (F6 n))
theorem En.g {n:Nat}{p:Array Nat}(h:En n p)(i:Nat):p.getD i 0<n:=by
 by_cases c:i<p.size
 ·rw[show p.getD i 0=p[i] by simp[Array.getD,c]]
  simpa using h.2.mem_iff.mp (Array.getElem_mem c)
 ·rw[show p.getD i 0=0 by simp[Array.getD,c]];exact h.1
theorem En.perm {n:Nat}{p q:Array Nat}(h:En n p)(hp:q.Perm p):En n q:=⟨h.1,hp.trans h.2⟩
theorem En.rev (h:En n p)(i j:Nat):En n (P5 p i j):=h.perm (DL _ _ _)
theorem Ia {n:Nat}{p:Array Nat}(h:En n p):∀f m,InQ n (λ_=>True) (U1 p f m)
 |0,_=>trivial
 | f + 1, m => ⟨h.g _, h.g _, fun b => by
  cases b with
  |true=>exact trivial
  |false=>exact Ia h f (m+1)⟩
theorem FJ {n:Nat}:∀f p m q,En n p->InQ n (λr=>En n r.1) (h9 f p m q)
 |0,_,_,_,h=>h
 | f + 1, p, m, q, h => ⟨h.g _, h.g _, fun b => by
  cases b with
  | true =>
   show InQ n _ (if q>0 then _ else _)
   by_cases c:q>0
   ·rw[jt c];exact FJ f _ _ _ (h.rev _ _)
   ·rw[ju c];exact FJ f _ _ _ h
  | false =>
   refine⟨h.g _,h.g _,λd=>?_⟩;cases d with
   |true=>exact h
   |false=>exact FJ f _ _ _ h⟩
theorem Le (h:En n p):InQ n (λr=>En n r.2) (kas_tail3 m k p):=by
 unfold kas_tail3;refine Cm (Q:=λ_=>True) (λa _=>?_) _ (Ia (h.rev _ _) _ _);exact(h.rev _ _:En n _)
theorem Lf (h:En n p):InQ n (λr=>En n r.2) (kas_descPart m k p):=Cm (λr hr=>by
   by_cases c:r.2.2>0
   ·rw[jt c];exact Le (hr.rev _ _)
   ·rw[ju c];exact Le hr) _ (FJ _ _ _ _ h)
theorem QJ (h:En n p):InQ n (λr=>En n r.2) (kas_count k p):=Cm (λm _=>by
   by_cases c:(m == k)=true
   ·rw[jt c];exact h
   ·rw[ju c]
    by_cases c1:m>1
    ·rw[jt c1];refine⟨h.g _,h.g _,λb=>?_⟩;cases b with
     |true=>exact h
     |false=>exact Lf (h.rev _ _)
    ·rw[ju c1];exact Lf h) _ (Ia h _ _)
theorem Ib {n k:Nat}{p:Array Nat}(h:En n p):∀f l r,InQ n (λ_=>True) (V1 p k f l r)
 |0,_,_=>trivial
 | f + 1, l, r => by
  unfold V1
  by_cases c:l>=r
  ·rw[jt c];exact trivial
  ·rw[ju c];refine⟨h.g _,h.g _,λb=>?_⟩;cases b with
   |true=>exact Ib h f _ _
   |false=>exact Ib h f _ _
theorem Lg {n:Nat}:∀f p k,En n p->InQ n (En n) (kas_bin f p k)
 |0,_,_,h=>h
 |f+1,p,k,h=>Cm (λl _=>Lg f _ _ (h.perm (bubble_perm _ _ _))) _ (Ib h k 0 k)
theorem sort_in {n:Nat}(h1:1<=n):InQ n (En n) (R3 n):=Cm (λr hr=>by
   by_cases c:r.1<n
   ·rw[jt c];exact Lg _ _ _ hr
   ·rw[ju c];exact hr) _ (QJ ⟨h1,x9 _⟩)
theorem wp_run {α:Type}{lt:Nat->Nat->Bool}{n:Nat}{P:α->Prop}{ask:Nat->Nat->(Bool->A5->Prop)->A5->Prop}{Q:α->A5->Prop}{s:A5}(h:∀i j C,i<n->j<n->C (lt i j) s->ask i j C s):∀t:KasT α,InQ n P t->Q (run lt t) s->t.kasWp ask Q s
 |.ret a,_,q=>q
 |.ask i j k,hi,q=>h i j _ hi.1 hi.2.1 (wp_run h (k (lt i j)) (hi.2.2 _) q)
theorem out_ok {α:Type}(lt:α->α->Bool)(O:(∀a,lt a a=false)/\(∀a b c,lt a b=true->lt b c=true->lt a c=true)/\(∀a b c,lt a c=true->lt a b=true\/lt b c=true))(d:α)(xs:List α)(h1:1<=xs.length) :
   let p:=run (λi j=>lt (xs.getD i d) (xs.getD j d)) (R3 xs.length)
   (p.toList.map λi=>xs.getD i d).Perm xs/\(p.toList.map λi=>xs.getD i d).Pairwise (λa b=>lt b a=false):=by
 intro p;have OO:Ord λi j=>lt (xs.getD i d) (xs.getD j d):=⟨λa=>O.1 _,λa b c=>O.2.1 _ _ _,λa b c=>O.2.2 _ _ _⟩;obtain⟨a1,a2,a3⟩:=sort_ok OO h1;constructor
 ·have hp:p.toList.Perm (F6 xs.length):=GH.mp a1;have:=hp.map λi=>xs.getD i d;refine this.trans (List.Perm.of_eq ?_)
  apply List.ext_getElem (by simp)
  intro i h2 h3;simp[h3]
 ·rw[Y5];intro i j hi hj hij;have hi':i<p.size:=by simpa using hi
  have hj':j<p.size:=by simpa using hj
  have:=a3 i j (i4 hij) (by rw[<- a2];exact hj');simp only[List.getElem_map,Array.getElem_toList];have e1:g p i=p[i]:=by unfold g;simp[Array.getD,hi']
  have e2:g p j=p[j]:=by unfold g;simp[Array.getD,hj']
  have this':lt (xs.getD (g p j) d) (xs.getD (g p i) d)=false:=this;rw[e1,e2] at this';exact this'
end Kr
end L2
end
section
namespace L2
open PySem PySem.W PySem.Spec PyProof.Rows
def V0 (lt:Nat->Nat->Bool)(vs:List A1):List A1:=if vs.length<2 then vs else(Kr.run lt (R3 vs.length)).toList.map λi=>vs.getD i Z1
section
variable {prog:D1}{w:C9}{A:D5}{E:A1->A5->Prop}{s:A5}
def FK (h h1:B6)(a:A0):Prop:=∀b o,b≠a->h.get? b=some o->h1.get? b=some o
theorem Lh {a:A0}{vs:List A1}{n:Nat}{lt:Nat->Nat->Bool}{P:PySem.Fin->A5->Prop}(ho:s.heap.get? a=some (seqObj "list" vs.toArray n))(h64:vs.length<64)
   (hk:2<=vs.length->∀h1,FK s.heap h1 a->∃κ,(∀Q:SortKind->A5->Prop,Q κ { s with heap:=h1 }->A6 (A7 prog w) A (keyKind' vs.toArray) Q E { s with heap:=h1 })/\∀i j (C:Bool->A5->Prop),i<vs.length->j<vs.length->C (lt i j) { s with heap:=h1 }->kas_ask prog w A κ vs i j C { s with heap:=h1 })
   (h:∀h2 e,FK s.heap h2 a->h2.get? a=some (seqObj "list" (V0 lt vs).toArray e)->P (.done (.ret .none)) { s with heap:=h2 }):A6 (A7 prog w) A (O4.«list.sort» ⟨[.ref a],[]⟩) P E s:=by
 have ha:a<s.heap.objs.size:=C4 ho;have hsz:vs.toArray.size=vs.length:=by simp
 rw[list_sort_plain];refine A2 (listItems_at ho rfl ?_);refine A2 (AK ho rfl ?_ (by rw[hsz,K9];omega) (K1 _));obtain⟨e1,ho1⟩:∃e1,(s.heap.update a (G8 λ_=>(#[]:Array A1))).get? a=some (seqObj "list" #[] e1):=⟨_,BP ho λ_=>#[]⟩;refine A2 (seqEpoch_at ho1 rfl ?_);refine A2 (wpAny_newTuple ?_ (by show vs.length<=_;rw[K9];omega));refine A2 (CM ?_ (K1 _));refine J7 ?_;show A6 (A7 prog w) A _ P E { s with heap:=((s.heap.update a (G8 λ_=>(#[]:Array A1))).push (seqObj "tuple" vs.toArray 0)).push (seqObj "list" #[] 0) };have ho3:=C2 (seqObj "list" #[] 0) (C2 (seqObj "tuple" vs.toArray 0) ho1)
 have k3:FK s.heap (((s.heap.update a (G8 λ_=>(#[]:Array A1))).push (seqObj "tuple" vs.toArray 0)).push (seqObj "list" #[] 0)) a:=λb o hb e=>
  C2 _ (C2 _ (((R5 s.heap a (G8 λ_=>(#[]:Array A1))).2 b hb).trans e))
 generalize ((s.heap.update a (G8 λ_=>(#[]:Array A1))).push (seqObj "tuple" vs.toArray 0)).push (seqObj "list" #[] 0)=h3 at ho3 k3 ⊢;dsimp only
 have last:∀out:Array A1,out.size=vs.length->out=(V0 lt vs).toArray->∃e,(h3.update a (G8 λ_=>out)).get? a=some (seqObj "list" (V0 lt vs).toArray e)/\FK s.heap (h3.update a (G8 λ_=>out)) a:=λout _ eo=>
  ⟨_,by rw[<- eo];exact BP ho3 λ_=>out,λb o hb e=>((R5 h3 a (G8 λ_=>out)).2 b hb).trans (k3 b o hb e)⟩
 by_cases h2:vs.toArray.size<2
 ·rw[jt h2,jt h2];refine A2 (B2 ?_);rw[StateT.run_pure];refine A2 (B2 ?_);dsimp only
  have eo:(arrOf (SortSt.mk' general' (vs.toArray.zip vs.toArray) #[] 7 none)).map (·.2)=(V0 lt vs).toArray:=by
   have e2:(arrOf (SortSt.mk' general' (vs.toArray.zip vs.toArray) #[] 7 none))=vs.toArray.zip vs.toArray:=rfl;rw[e2];unfold V0;rw[jt (by omega)]
   apply Array.toList_inj.mp
   rw[Array.toList_map,Array.toList_zip];exact List.map_snd_zip (C7 _)
  obtain⟨e,x1,x2⟩:=last _ (by rw[eo];unfold V0;rw[jt (by omega)];simp) eo;refine A2 (seqEpoch_at ho3 rfl ?_);refine A2 (AK ho3 rfl ?_ (K1 _) (by rw[eo];unfold V0;rw[jt (by omega),hsz,K9];omega));simp only[bne_self_eq_false,J5,if_false];exact B2 (h _ e x2 x1)
 ·rw[ju h2,ju h2];have l2:2<=vs.length:=by omega
  obtain⟨κ,q1,q2⟩:=hk l2 h3 k3;refine A2 (q1 _ ?_);have wp:=Kr.wp_run (Q:=λp s'=>p=Kr.run lt (R3 vs.length)/\s'={ s with heap:=h3 }) (P:=Kr.En vs.length) q2 (R3 vs.length) (Kr.sort_in (by omega)) ⟨rfl,rfl⟩;refine A2 (G7 (kat_run (E:=E) (Q:=λst' s'=>∃p:Array Nat,p.size=vs.length/\arrOf st'=p.map (kas_item (vs.toArray.zip vs.toArray))/\failedOf st'=none/\p=Kr.run lt (R3 vs.length)/\s'={ s with heap:=h3 }) rfl l2 h64 (λp' st' s' a1 a2 a3 a4=>⟨p',a1,a2,a3,a4⟩) wp) ?_ λ_ _ e=>e);rintro⟨⟨⟩,st'⟩ s' ⟨p,hp,har,hf,ep,rfl⟩;dsimp only
  have eo:(arrOf st').map (·.2)=(V0 lt vs).toArray:=by
   rw[kat_snds rfl har,ep];unfold V0;rw[ju (by omega)]
  have so:((arrOf st').map (·.2)).size=vs.length:=by rw[eo];unfold V0;rw[ju (by omega),G5,B4,M8,<- ep,hp]
  obtain⟨e,x1,x2⟩:=last _ so eo;refine A2 (seqEpoch_at ho3 rfl ?_);refine A2 (AK ho3 rfl ?_ (K1 _) (by rw[so,K9];omega));rw[hf];simp only[bne_self_eq_false,J5,if_false];exact B2 (h _ e x2 x1)
theorem QK (h64:vs.length<64)
   (hcol:∀(R:List A1->A5->Prop),(∀h1 tk,(∀b o,s.heap.get? b=some o->h1.get? b=some o)->s.heap.objs.size<=h1.objs.size->R vs { s with heap:=h1,toks:=tk })->A6 (A7 prog w) A.in1 (collect v) R E s)
   (hk:2<=vs.length->∀(A:D5) (E:A1->A5->Prop) h1 tk,(∀b o,s.heap.get? b=some o->h1.get? b=some o)->∃κ,(∀Q:SortKind->A5->Prop,Q κ { s with heap:=h1,toks:=tk }->A6 (A7 prog w) A (keyKind' vs.toArray) Q E { s with heap:=h1,toks:=tk })/\∀i j (C:Bool->A5->Prop),i<vs.length->j<vs.length->C (lt i j) { s with heap:=h1,toks:=tk }->kas_ask prog w A κ vs i j C { s with heap:=h1,toks:=tk })
   (h:∀h2 tk D e,(∀b o,s.heap.get? b=some o->h2.get? b=some o)->s.heap.objs.size<=D->h2.get? D=some (seqObj "list" (V0 lt vs).toArray e)->Q (.ref D) { s with heap:=h2,toks:=tk }) :
   A6 (A7 prog w) A (call (.builtin "sorted") [v]) Q E s:=by
 refine Calls.call_function_entry kind_sorted plain_sorted entry_sorted (args_sorted1 _) ?_;unfold O4.«sorted»;refine A2 (m:=checkCount "sorted" 1 1 _) (B2 ?_);refine A2 (hcol _ λh1 tk k1 z1=>?_);refine A2 (CM ?_ (by rw[K9];omega));have hoL:(h1.push (seqObj "list" vs.toArray 0)).get? h1.objs.size=some (seqObj "list" vs.toArray 0):=E9 _ rfl;have kL:∀b o,s.heap.get? b=some o->(h1.push (seqObj "list" vs.toArray 0)).get? b=some o:=λb o e=>C2 _ (k1 b o e);have ne:∀b o,s.heap.get? b=some o->b≠h1.objs.size:=λb o e=>D3 (K3 (C4 e) z1);refine A2 (J7 (R0 slot_list_sort ⟨_,hoL,rfl⟩ entry_list_sort ?body (args_list_sort _)))
 case body=>
  refine Lh (lt:=lt) (s:={ s with heap:=h1.push (seqObj "list" vs.toArray 0),toks:=tk }) hoL h64 (λl2 h3 k3=>?_) λh3 e k3 e3=>?_
  ·exact hk l2 _ _ h3 tk λb o x=>k3 b o (ne b o x) (kL b o x)
  ·exact⟨_,rfl,B2 ⟨_,rfl,h h3 tk _ e (λb o x=>k3 b o (ne b o x) (kL b o x)) z1 e3⟩⟩
end
end L2
end
section
namespace L2
open PySem PySem.W PySem.Spec PyProof.Rows
def N4:Key->Key->Bool
 |.inl a,.inl b=>decide (a<b)
 |.inr a,.inr b=>decide (a.cps.toList<b.cps.toList)
 |.inl _,.inr _=>true
 |.inr _,.inl _=>false
def lexK:List Key->List Key->Bool
 |[],[]=>false
 |[],_::_=>true
 |_::_,[]=>false
 |x::xs,y::ys=>if x=y then lexK xs ys else N4 x y
theorem QM {a b:Str}(h:a.cps.toList=b.cps.toList):a=b:=by
 cases a;cases b
 congr 1
 exact Array.toList_inj.mp h
theorem Ie (x:Key):N4 x x=false:=by
 cases x with
 |inl a=>exact jr (Int.lt_irrefl a)
 |inr a=>exact jr (List.lt_irrefl _)
theorem QP (h1:N4 x y=true)(h2:N4 y z=true):N4 x z=true:=by
 cases x <;> cases y <;> cases z <;> simp only[N4,decide_eq_true_eq,reduceCtorEq] at * <;> first|omega|exact List.lt_trans h1 h2|skip
theorem QU (h:x≠y):N4 x y=true\/N4 y x=true:=by
 cases x with
 | inl a =>
  cases y with
  | inl b =>
   have:a≠b:=λe=>h (by rw[e]);simp only[N4,decide_eq_true_eq];omega
  |inr b=>exact .inl rfl
 | inr a =>
  cases y with
  |inl b=>exact .inr rfl
  | inr b =>
   have hn:a.cps.toList≠b.cps.toList:=λe=>h (by rw[QM e]);simp only[N4,decide_eq_true_eq]
   by_cases c:a.cps.toList<b.cps.toList
   ·exact .inl c
   ·by_cases c2:b.cps.toList<a.cps.toList
    ·exact .inr c2
    ·exact absurd (List.le_antisymm (List.not_lt.mp c2) (List.not_lt.mp c)) hn
theorem Ig:∀x:List Key,lexK x x=false
 |[]=>rfl
 |x::xs=>by show(if x=x then lexK xs xs else _)=false;rw[jt rfl,Ig xs]
theorem FL:∀{x y z:List Key},lexK x y=true->lexK y z=true->lexK x z=true
 |[],[],_,h,_=>by cases h
 |[],_::_,[],_,h=>by cases h
 |[],_::_,_::_,_,_=>rfl
 |_::_,[],_,h,_=>by cases h
 |_::_,_::_,[],_,h=>by cases h
 | x :: xs, y :: ys, z :: zs, h1, h2 => by
  change (if x=y then lexK xs ys else N4 x y)=true at h1
  change (if y=z then lexK ys zs else N4 y z)=true at h2
  show(if x=z then lexK xs zs else N4 x z)=true
  by_cases c1:x=y
  ·rw[jt c1] at h1;subst c1
   by_cases c2:x=z
   ·rw[jt c2] at h2 ⊢;exact FL h1 h2
   ·rw[ju c2] at h2 ⊢;exact h2
  ·rw[ju c1] at h1
   by_cases c2:y=z
   ·subst c2;rw[ju c1];exact h1
   ·rw[ju c2] at h2;have h3:=QP h1 h2
    by_cases c3:x=z
    ·rw[c3,Ie] at h3;cases h3
    ·rw[ju c3];exact h3
theorem Li:∀{x y:List Key},x≠y->lexK x y=true\/lexK y x=true
 |[],[],h=>absurd rfl h
 |[],_::_,_=>.inl rfl
 |_::_,[],_=>.inr rfl
 | x :: xs, y :: ys, h => by
  show(if x=y then lexK xs ys else N4 x y)=true\/(if y=x then lexK ys xs else N4 y x)=true
  by_cases c:x=y
  ·rw[jt c,jt c.symm];exact Li λe=>h (by rw[c,e])
  ·rw[ju c,ju (λe=>c e.symm)];exact QU c
theorem Lj {x y z:List Key}(h:lexK x z=true):lexK x y=true\/lexK y z=true:=by
 by_cases c:x=y
 ·grind
 ·rcases Li c with h1|h1
  ·grind
  ·exact .inr (FL h1 h)
def Al:List Key->List Key->Prop
 |.inl _::xs,.inl _::ys=>Al xs ys
 |.inr _::xs,.inr _::ys=>Al xs ys
 |_::_,_::_=>False
 |_,_=>True
def KeyV:Key->A1->Prop
 |.inl i,v=>∃t,v=.int i t
 |.inr z,v=>∃t,v=.str z t
inductive Af:List Key->List A1->Prop
 |nil:Af [] []
 |cons {k v ks vs} (h:KeyV k v) (t:Af ks vs):Af (k::ks) (v::vs)
section
variable {prog:D1}{w:C9}{A:D5}{E:A1->A5->Prop}{s:A5}
theorem QV (hx:KeyV x u)(hy:KeyV y v)(al:Al (x::xs) (y::ys))(h:Q (decide (x=y)) s):A6 (A7 prog w) A (eqBool u v) Q E s:=by
 cases x with
 | inl a =>
  cases y with
  | inl b =>
   obtain⟨t,rfl⟩:=hx;obtain⟨t',rfl⟩:=hy;refine wpAny_eqBool_int ?_
   have e:(a == b)=decide ((O5 a:Key)=.inl b):=by
    rw[Df];exact decide_eq_decide.mpr ⟨λe=>by rw[e],λe=>by injection e⟩
   rw[e];exact h
  |inr b=>exact al.elim
 | inr a =>
  cases y with
  |inl b=>exact al.elim
  | inr b =>
   obtain⟨t,rfl⟩:=hx;obtain⟨t',rfl⟩:=hy;refine eqBool_str ?_
   have e:(a == b)=decide ((M3 a:Key)=.inr b):=by
    rw[Df];exact decide_eq_decide.mpr ⟨λe=>by rw[e],λe=>by injection e⟩
   rw[e];exact h
theorem lt_key (hx:KeyV x u)(hy:KeyV y v)(al:Al (x::xs) (y::ys))(h:Q (.bool (N4 x y)) s):A6 (A7 prog w) A (M1 .Lt u v) Q E s:=by
 cases x with
 | inl a =>
  cases y with
  | inl b =>
   obtain⟨t,rfl⟩:=hx;obtain⟨t',rfl⟩:=hy;exact PyProof.Rows.lt_int h
  |inr b=>exact al.elim
 | inr a =>
  cases y with
  |inl b=>exact al.elim
  | inr b =>
   obtain⟨t,rfl⟩:=hx;obtain⟨t',rfl⟩:=hy;exact PyProof.Rows.lt_str h
theorem Ih (hx:KeyV x u)(hy:KeyV y v)(al:Al (x::xs) (y::ys))(h:Q (N4 x y) s):A6 (A7 prog w) A (oneLt' b u v) Q E s:=by
 cases b with
 |false=>exact kat_one u v (lt_key hx hy al h)
 | true =>
  cases x with
  | inl a =>
   cases y with
   | inl b =>
    obtain⟨t,rfl⟩:=hx;obtain⟨t',rfl⟩:=hy;exact oneLt_int h
   |inr b=>exact al.elim
  | inr a =>
   cases y with
   |inl b=>exact al.elim
   | inr b =>
    obtain⟨t,rfl⟩:=hx;obtain⟨t',rfl⟩:=hy;exact oneLt_str h
theorem QX:∀{xs ys:List Key} {us vs:List A1} (i:Nat),Af xs us->Af ys vs->Al xs ys->fin=decide (us.length<vs.length)->Q (lexK xs ys) s->KatLex prog w A b fin Q (us.zip vs) i s:=by
 intro xs
 induction xs with
 | nil =>
  intro ys us vs i hx hy al hf h;cases hx;refine kat_nil ?_;cases hy with
  |nil=>rw[hf];exact h
  |cons _ _=>rw[hf];exact h
 | cons x xs ih =>
  intro ys us vs i hx hy al hf h;cases hx with
  | @cons _ u _ us' hx1 hx2 =>
   cases hy with
   |nil=>rw[List.zip_nil_right];refine kat_nil ?_;rw[hf];exact h
   | @cons y v ys' vs' hy1 hy2 =>
    rw[O9];refine kat_cons (QV hx1 hy1 al ?_);have h':Q (if x=y then lexK xs ys' else N4 x y) s:=h
    by_cases c:x=y
    ·rw[jq c];rw[jt c] at h';refine kat_yes (ih (i+1) hx2 hy2 ?_ ?_ h')
     ·cases x <;> cases y <;> first|exact al|exact al.elim
     ·rw[hf,K2,K2];exact decide_eq_decide.mpr (by omega)
    ·rw[jr c];rw[ju c] at h';exact kat_no (Ih hx1 hy1 al h')
def TupK (h:B6)(v:A1)(ks:List Key):Prop:=∃a o items n,v=.ref a/\h.get? a=some o/\o.cls=.type "tuple"/\o.data=.seq items n/\Af ks items.toList
theorem QY (hx:TupK s.heap u xs)(hy:TupK s.heap v ys)(al:Al xs ys)(h:Q (lexK xs ys) s):A6 (A7 prog w) A (keyLt' (tuples' b) u v) Q E s:=by
 obtain⟨a,o,items,n,rfl,ho,hc,hd,hk⟩:=hx;obtain⟨a',o',jn,n',rfl,ho',hc',hd',hk'⟩:=hy;exact kat_lt ho hd ho' hd' (QX 0 hk hk' al (by rw[M8,M8]) h)
end
end L2
end
section
namespace L2
open PySem PySem.W PySem.Spec PyProof.Rows
theorem Ii:∀{ks:List Key} {us:List A1},Vals (ks.map kV) us->Af ks us
 |[],_,h=>by cases h;exact .nil
 | .inl i :: ks, _, h => by
  cases h with
  |cons h1 h2=>exact .cons h1 (Ii h2)
 | .inr z :: ks, _, h => by
  cases h with
  |cons h1 h2=>exact .cons h1 (Ii h2)
section
variable {X:Cx}
theorem Ij (I:Inv X jb σ H s)(h:SqT X.K H a (ks.map kV)):TupK s.heap (.ref a) ks:=by
 obtain⟨jf,r,⟨o,ho,hc,n,hd⟩,_⟩:=I.tuple h;exact⟨a,o,jf.toArray,n,rfl,ho,hc,hd,Ii r⟩
theorem TupK.keep (t:TupK h v ks)(k:∀b o,h.get? b=some o->h'.get? b=some o):TupK h' v ks:=by
 obtain⟨a,o,jf,n,e,ho,hc,hd,hk⟩:=t;exact⟨a,o,jf,n,e,k _ _ ho,hc,hd,hk⟩
def KM (K:A9)(H:Hp):Nat->V->List Key->Prop
 |0,y,ks=>∃i,y=.int i/\ks=[.inl i]
 |1,y,ks=>∃z,y=.str z/\ks=[.inr z]
 |_,y,ks=>∃a,y=.ref a/\SqT K H a (ks.map kV)/\ks≠[]
def Kv1 (h:B6):Nat->A1->List Key->Prop
 |0,u,ks=>∃i t,u=.int i t/\ks=[.inl i]
 |1,u,ks=>∃z t,u=.str z t/\ks=[.inr z]
 |_,u,ks=>TupK h u ks/\ks≠[]
def ltIx (jp:List (List Key))(i j:Nat):Bool:=lexK (jp.getD i []) (jp.getD j [])
theorem FM (jp:List (List Key)):Kr.Ord (ltIx jp):=⟨λ_=>Ig _,λ_ _ _ h1 h2=>FL h1 h2,λ_ _ _ h=>Lj h⟩
def Ag (jp:List (List Key)):Prop:=∀x∈jp,∀y∈jp,Al x y
theorem kv1_of (I:Inv X jb σ H s)(m:Nat)(a:Vals ys vs)(b:Paired (KM X.K H m) ys jp):Paired (Kv1 s.heap m) vs jp:=by
 induction a generalizing jp with
 |nil=>cases b;exact .nil
 | cons h1 _ ih => cases b with
  | cons h2 r2 =>
   refine .cons ?_ (ih r2);rcases m with _|_|m
   ·obtain⟨i,e1,e2⟩:=h2;subst e1;obtain⟨t,rfl⟩:=h1;exact⟨i,t,rfl,e2⟩
   ·obtain⟨i,e1,e2⟩:=h2;subst e1;obtain⟨t,rfl⟩:=h1;exact⟨i,t,rfl,e2⟩
   ·obtain⟨a,e1,e2,e3⟩:=h2;subst e1;cases h1;exact⟨Ij I e2,e3⟩
theorem Kv1.keep (k:∀b o,h.get? b=some o->h'.get? b=some o)(m:Nat)(x:Kv1 h m u ks):Kv1 h' m u ks:=by
 match m,x with
 |0,x=>exact x
 |1,x=>exact x
 |_+2,x=>exact⟨x.1.keep k,x.2⟩
theorem Be {α β:Type}{F:α->β->Prop}{xs:List α}{ys:List β}(h:Paired F xs ys)(d:α)(e:β):∀i,i<xs.length->F (xs.getD i d) (ys.getD i e):=by
 induction h with
 |nil=>intro i hi;exact absurd hi (Ez _)
 | cons h1 _ ih =>
  intro i hi;cases i with
  |zero=>exact h1
  |succ i=>exact ih i (Nat.lt_of_succ_lt_succ hi)
theorem Lk {α β:Type}{F:α->β->Prop}{xs:List α}{ys:List β}(h:Paired F xs ys):∀x∈xs,∃y∈ys,F x y:=by
 induction h with
 |nil=>intro x hx;cases hx
 | cons h1 _ ih =>
  intro x hx;rcases D0.mp hx with rfl|hx
  ·exact⟨_,C6,h1⟩
  ·obtain⟨y,hy,hf⟩:=ih x hx;exact⟨y,C5 _ hy,hf⟩
theorem QZ (p:Paired (Kv1 h (m+2)) vs jp):∃fs,KatTups h vs fs/\fs.length=vs.length/\∀f∈fs,∃k r,(k::r)∈jp/\KeyV k f:=by
 induction p with
 |nil=>exact⟨[],trivial,rfl,λ_ z=>nomatch z⟩
 | cons h1 _ ih =>
  obtain⟨⟨a,o,jf,n,rfl,ho,hc,hd,hk⟩,hne⟩:=h1;obtain⟨fs,t,hl,hf⟩:=ih;cases e:jf.toList with
  |nil=>rw[e] at hk;cases hk;exact absurd rfl hne
  | cons f us =>
   rw[e] at hk;cases hk with
   | @cons k _ ks _ h2 h3 =>
    have ef:jf[0]?=some f:=by rw[<- Q3,e];rfl
    refine⟨f::fs,KatTups.cons ho hc hd ef t,by rw[K2,K2,hl],λg hg=>?_⟩;rcases D0.mp hg with rfl|hg
    ·exact⟨k,ks,C6,h2⟩
    ·obtain⟨k',r',h4,h5⟩:=hf g hg;exact⟨k',r',C5 _ h4,h5⟩
theorem Ll {s:A5}(h2:2<=vs.length)(p:Paired (Kv1 s.heap m) vs jp)(al:Ag jp)(A:D5)(E:A1->A5->Prop)(h1:B6)(tk:Nat)(k:∀b o,s.heap.get? b=some o->h1.get? b=some o) :
   ∃κ,(∀Q:SortKind->A5->Prop,Q κ { s with heap:=h1,toks:=tk }->A6 (A7 prog w) A (keyKind' vs.toArray) Q E { s with heap:=h1,toks:=tk })/\∀i j (C:Bool->A5->Prop),i<vs.length->j<vs.length->C (ltIx jp i j) { s with heap:=h1,toks:=tk }->kas_ask prog w A κ vs i j C { s with heap:=h1,toks:=tk }:=by
 have p1:Paired (Kv1 h1 m) vs jp:=Paired.imp' (λ_ _ x=>x.keep k m) p;have lk:=EY p1
 have mem:∀i,i<vs.length->jp.getD i []∈jp:=λi hi=>by
  rw[w6,D8 (by omega)];exact BC _
 match m,p1 with
 | 0, p1 =>
  refine⟨oneType',λQ q=>kas_kind (T:=.type "int") h2 (λv hv=>?_) rfl rfl q,λi j C hi hj c=>?_⟩
  ·obtain⟨ks,_,i,t,rfl,_⟩:=Lk p1 v hv;exact Looks.of_pure rfl
  ·obtain⟨a,t,e1,e2⟩:=Be p1 .none [] i hi;obtain⟨b,t',e3,e4⟩:=Be p1 .none [] j hj;unfold kas_ask;unfold ltIx at c;rw[e1,e3,keyLt'_oneType];rw[e2,e4] at c;refine Ih (x:=.inl a) (y:=.inl b) (xs:=[]) (ys:=[]) ⟨t,rfl⟩ ⟨t',rfl⟩ trivial ?_
   have e:lexK [.inl a] [.inl b]=N4 (.inl a) (.inl b):=by
    show(if(O5 a:Key)=.inl b then false else N4 (.inl a) (.inl b))=_
    by_cases c:(O5 a:Key)=.inl b
    ·rw[jt c,c,Ie]
    ·rw[ju c]
   rw[<- e];exact c
 | 1, p1 =>
  refine⟨oneType',λQ q=>kas_kind (T:=.type "str") h2 (λv hv=>?_) rfl rfl q,λi j C hi hj c=>?_⟩
  ·obtain⟨ks,_,i,t,rfl,_⟩:=Lk p1 v hv;exact Looks.of_pure rfl
  ·obtain⟨a,t,e1,e2⟩:=Be p1 .none [] i hi;obtain⟨b,t',e3,e4⟩:=Be p1 .none [] j hj;unfold kas_ask;unfold ltIx at c;rw[e1,e3,keyLt'_oneType];rw[e2,e4] at c;refine Ih (x:=.inr a) (y:=.inr b) (xs:=[]) (ys:=[]) ⟨t,rfl⟩ ⟨t',rfl⟩ trivial ?_
   have e:lexK [.inr a] [.inr b]=N4 (.inr a) (.inr b):=by
    show(if(M3 a:Key)=.inr b then false else N4 (.inr a) (.inr b))=_
    by_cases c:(M3 a:Key)=.inr b
    ·rw[jt c,c,Ie]
    ·rw[ju c]
   rw[<- e];exact c
 | m' + 2, p1 =>
  obtain⟨fs,kt,fl,hf⟩:=QZ p1
  have asks:∀b i j (C:Bool->A5->Prop),i<vs.length->j<vs.length->C (ltIx jp i j) { s with heap:=h1,toks:=tk }->kas_ask prog w A (tuples' b) vs i j C { s with heap:=h1,toks:=tk }:=λb i j C hi hj c=>by
   have x1:=Be p1 .none [] i hi;have x2:=Be p1 .none [] j hj;exact QY (s:={ s with heap:=h1,toks:=tk }) x1.1 x2.1 (al _ (mem i hi) _ (mem j hj)) c
  obtain⟨f0,fr,rfl⟩:∃f0 fr,fs=f0::fr:=by
   cases fs with
   |nil=>rw[<- fl] at h2;exact absurd h2 (by simp)
   |cons a r=>exact⟨a,r,rfl⟩
  obtain⟨k0,r0,m0,v0⟩:=hf f0 C6
  have all:∀T:String,(∀f k r,(k::r)∈jp->KeyV k f->typeOf f=pure (.type T))->∀v∈f0::fr,Looks (A7 prog w) h1 (typeOf v) (.type T):=λT hT v hv=>by
   obtain⟨k,r,h3,h4⟩:=hf v hv;exact Looks.of_pure (hT v k r h3 h4)
  cases k0 with
  | inl i0 =>
   refine⟨tuples' (K4 "int" != K4 "tuple"),λQ q=>kat_kind (s:={ s with heap:=h1,toks:=tk }) kt (by simp) (all "int" λf k r h3 h4=>?_) rfl q,asks _⟩;cases k with
   |inl i=>obtain⟨t,rfl⟩:=h4;rfl
   |inr z=>exact(al _ m0 _ h3).elim
  | inr i0 =>
   refine⟨tuples' (K4 "str" != K4 "tuple"),λQ q=>kat_kind (s:={ s with heap:=h1,toks:=tk }) kt (by simp) (all "str" λf k r h3 h4=>?_) rfl q,asks _⟩;cases k with
   |inr i=>obtain⟨t,rfl⟩:=h4;rfl
   |inl z=>exact(al _ m0 _ h3).elim
def outV (lt:Nat->Nat->Bool)(ys:List V):List V:=if ys.length<2 then ys else(Kr.run lt (R3 ys.length)).toList.map λi=>ys.getD i .non
theorem Lm (r:Vals ys vs)(O:Kr.Ord lt):Vals (outV lt ys) (V0 lt vs):=by
 unfold outV V0;rw[r.length]
 by_cases c:vs.length<2
 ·rw[jt c,jt c];exact r
 ·rw[ju c,ju c];obtain⟨a1,a2,_⟩:=Kr.sort_ok O (n:=vs.length) (by omega)
  have hm:∀i∈(Kr.run lt (R3 vs.length)).toList,i<vs.length:=λi hi=>by
   have:=(GH.mp a1).mem_iff.mp hi
   simpa using this
  generalize (Kr.run lt (R3 vs.length)).toList=is at hm
  induction is with
  |nil=>exact .nil
  | cons i is ih =>
   refine .cons ?_ (ih λj hj=>hm j (C5 _ hj));exact Be r .non .none i (by rw[r.length];exact hm i C6)
theorem Q_:N0 X (.builtin "sorted") (λxs H Q=>∃p ys m jp,xs=[.ref p]/\SqL X.K H p ys/\ys.length<64/\Paired (KM X.K H m) ys jp/\Ag jp/\∀l,H l=none->Q (.ref l) (upd H l (.lst (outV (ltIx jp) ys)))):=by
 intro jb s σ H xs us Q I r h;obtain⟨p,ys,m,jp,rfl,hq,h64,hp,al,q⟩:=h;obtain⟨u,rfl,rx⟩:=y8 r;cases rx;obtain⟨jf,r',pl,hz⟩:=I.list hq;have hlen:=r'.length;have pk:=kv1_of I m r' hp;have O:=FM jp;refine QK (vs:=jf) (lt:=ltIx jp) (by omega) (λR hR=>?_) (λh2 A E h1 tk k=>Ll h2 pk al A E h1 tk k) λh2 tk D e k hD ho=>?_
 ·refine collect_list pl.isList (hR _ s.toks (λb o e=>?_) ?_) (by omega)
  ·have hlt:b<s.heap.objs.size:=C4 e;rw[Heap.get?_update_ne _ _ _ _ (D3 hlt)];exact C2 _ e
  ·rw[Heap.size_update,size_push'];omega
 ·have vo:=Lm r' O
  have hl:(outV (ltIx jp) ys).length<=C8:=by
   unfold outV
   split
   ·omega
   ·rw[B4,M8,(Kr.sort_ok O (by omega)).2.1];omega
  exact⟨.ref D,_,I.laid (t':=tk) k hD (show J0 X.prog X.w _ h2 _ (.lst (outV (ltIx jp) ys)) from⟨hl,_,e,vo,ho⟩),rfl,q _ (I.hok.fresh hD)⟩
end
end L2
end
section
namespace Pu
open PySem PySem.Spec L2
def kP:Key->PV
 |.inl i=>.int i
 |.inr z=>.str z
def Ah:List PV->Option (List Key)
 |[]=>some []
 |.int i::r=>(Ah r).map (.inl i::·)
 |.str z::r=>(Ah r).map (.inr z::·)
 |_=>none
def keyP:PV->List Key
 |.int i=>[.inl i]
 |.str z=>[.inr z]
 |.tup xs=>(Ah xs).getD []
 |_=>[]
theorem Ik:∀ks:List Key,Ah (ks.map kP)=some ks
 |[]=>rfl
 |.inl i::r=>by show(Ah (r.map kP)).map _=_;rw[Ik r];rfl
 |.inr i::r=>by show(Ah (r.map kP)).map _=_;rw[Ik r];rfl
theorem k9 (ks:List Key):keyP (.tup (ks.map kP))=ks:=by show(Ah (ks.map kP)).getD []=_;rw[Ik];rfl
theorem FN:∀(ks:List Key) {us:List V},Reps K G H (ks.map kP) us->us=ks.map kV
 |[],_,h=>h
 | .inl i :: r, _, h => by
  obtain⟨v,t,rfl,h1,h2⟩:=h;rw[FN r h2,show v=.int i from h1];rfl
 | .inr i :: r, _, h => by
  obtain⟨v,t,rfl,h1,h2⟩:=h;rw[FN r h2,show v=.str i from h1];rfl
section
variable {T:PotK}{ι:Type}{K:A9}{F:ι->Cx}{e:Expr}{pe:pE}{pos:Pos}
def Il (xs:List PV):Prop:=(∀x∈xs,∃i,x=.int i)\/(∀x∈xs,∃z,x=.str z)\/((∀x∈xs,∃ks,x=.tup (ks.map kP)/\ks≠[])/\∀x∈xs,∀y∈xs,Al (keyP x) (keyP y))
def Srt (ys xs:List PV):Prop:=ys.Perm xs/\ys.Pairwise λa b=>lexK (keyP b) (keyP a)=false
def FO (pe:pE):pA:=λenv n R=>pe env n λx jc n1=>match x with|.lst xs=>xs.length<64/\Il xs/\∀ys,Srt ys xs->R ys jc n1|_=>False
theorem DN {G:Gh}{H:Hp}{P:PV->V->List Key->Prop}:∀(xs:List PV) {us:List V},Reps K G H xs us->(∀x∈xs,∀v,Rep K G H x v->P x v (keyP x))->Paired (λv ks=>∃x,x∈xs/\P x v ks) us (xs.map keyP)
 |[],_,h,_=>by cases h;exact .nil
 | x :: xs, _, h, hP => by
  obtain⟨v,t,rfl,h1,h2⟩:=h;refine .cons ⟨x,C6,hP x C6 v h1⟩ ?_;exact Paired.imp' (λv ks ⟨y,hy,hp⟩=>⟨y,C5 _ hy,hp⟩) (DN xs h2 λy hy=>hP y (C5 _ hy))
theorem km_of (r:Reps K G H xs us)(h:Il xs):∃m,Paired (KM K H m) us (xs.map keyP)/\Ag (xs.map keyP):=by
 rcases h with h|h|⟨h,h'⟩
 ·refine⟨0,Paired.imp' (λv ks ⟨_,_,hp⟩=>hp) (DN (P:=λ_ v ks=>KM K H 0 v ks) xs r λx hx v hv=>?_),λa ha b hb=>?_⟩
  ·obtain⟨i,rfl⟩:=h x hx;exact⟨i,hv,rfl⟩
  ·obtain⟨x,hx,rfl⟩:=E5.mp ha;obtain⟨y,hy,rfl⟩:=E5.mp hb;obtain⟨i,rfl⟩:=h x hx;obtain⟨j,rfl⟩:=h y hy;exact trivial
 ·refine⟨1,Paired.imp' (λv ks ⟨_,_,hp⟩=>hp) (DN (P:=λ_ v ks=>KM K H 1 v ks) xs r λx hx v hv=>?_),λa ha b hb=>?_⟩
  ·obtain⟨i,rfl⟩:=h x hx;exact⟨i,hv,rfl⟩
  ·obtain⟨x,hx,rfl⟩:=E5.mp ha;obtain⟨y,hy,rfl⟩:=E5.mp hb;obtain⟨i,rfl⟩:=h x hx;obtain⟨j,rfl⟩:=h y hy;exact trivial
 ·refine⟨2,Paired.imp' (λv ks ⟨_,_,hp⟩=>hp) (DN (P:=λ_ v ks=>KM K H 2 v ks) xs r λx hx v hv=>?_),λa ha b hb=>?_⟩
  ·obtain⟨ks,rfl,hne⟩:=h x hx;obtain⟨a,vs,rfl,at',rr⟩:=hv;rw[k9];refine⟨a,rfl,?_,hne⟩;rw[FN ks rr] at at';exact SqT.of at'.2
  ·obtain⟨x,hx,rfl⟩:=E5.mp ha;obtain⟨y,hy,rfl⟩:=E5.mp hb;exact h' x hx y hy
def outP (xs:List PV):List PV:=if xs.length<2 then xs else(Kr.run (ltIx (xs.map keyP)) (R3 xs.length)).toList.map λi=>xs.getD i .non
theorem Ln (xs:List PV)(i:Nat):(xs.map keyP).getD i []=keyP (xs.getD i .non):=by grind [PV,keyP]
theorem Lo (xs:List PV):Srt (outP xs) xs:=by
 unfold outP
 by_cases c:xs.length<2
 ·rw[jt c];refine⟨List.Perm.refl _,?_⟩
  match xs,c with
  |[],_=>exact .nil
  |[x],_=>exact List.pairwise_singleton _ _
 ·rw[ju c]
  have e:ltIx (xs.map keyP)=λi j=>lexK (keyP (xs.getD i .non)) (keyP (xs.getD j .non)):=by
   funext i j
   unfold ltIx;rw[Ln,Ln]
  rw[e];exact Kr.out_ok (λa b:PV=>lexK (keyP a) (keyP b)) ⟨λ_=>Ig _,λ_ _ _ h1 h2=>FL h1 h2,λ_ _ _ h=>Lj h⟩ .non xs (by omega)
theorem Ra (r:Reps K G H xs us)(i:Nat)(hi:i<xs.length):Rep K G H (xs.getD i .non) (us.getD i .non):=by
 induction xs generalizing us i with
 |nil=>exact absurd hi (Ez _)
 | cons x xs ih =>
  obtain⟨v,t,rfl,h1,h2⟩:=r;cases i with
  |zero=>exact h1
  |succ i=>exact ih h2 i (Nat.lt_of_succ_lt_succ hi)
theorem Lp (r:Reps K G H xs us):Reps K G H (outP xs) (outV (ltIx (xs.map keyP)) us):=by
 unfold outP outV;have hl:us.length=xs.length:=r.length.symm;rw[hl]
 by_cases c:xs.length<2
 ·rw[jt c,jt c];exact r
 ·rw[ju c,ju c];obtain⟨a1,a2,_⟩:=Kr.sort_ok (FM (xs.map keyP)) (n:=xs.length) (by omega)
  have hm:∀i∈(Kr.run (ltIx (xs.map keyP)) (R3 xs.length)).toList,i<xs.length:=λi hi=>by
   have:=(GH.mp a1).mem_iff.mp hi
   simpa using this
  generalize (Kr.run (ltIx (xs.map keyP)) (R3 xs.length)).toList=is at hm
  induction is with
  |nil=>exact rfl
  |cons i is ih=>exact⟨_,_,rfl,Ra r i (hm i C6),ih λj hj=>hm j (C5 _ hj)⟩
theorem Lq (hg:∀z,Gl (F z) "sorted")(hm:∀z,(F z).mg "sorted"=none)(ha:QR T K F e pe)(hs:F9 e=true:=by rfl)(hK:∀z,(F z).K=K:=by intro _;rfl):QN T K F (.Call (.Name "sorted" p) [e] [] pos) (FO pe):=by
 obtain⟨t,h1,h2⟩:=ha;refine⟨_,λz=>AR (hK z▸Q_) (hg z) (hm z) Hk (F8 (h1 z) K5 (D9 hs)) (by decide) (by decide) (D9 hs),λC G σ H env n R Q hK hT S hp k=>?_⟩;refine Dv h2 hK hT S hp λx jc n1 v H1 p1 S1 r1 f1=>?_;have rd:RdV K G H1 x v:=hK▸r1.rd S1;cases x with
 | lst xs =>
  obtain⟨h64,so,q⟩:=p1;obtain⟨a,us,rfl,hq,r⟩:=rd.lst;obtain⟨m,pk,al⟩:=km_of r so;have hl:us.length=xs.length:=r.length.symm;exact⟨a,us,m,xs.map keyP,rfl,hq,by omega,pk,al,λl hl=>k _ _ _ _ _ _ (q _ (Lo xs)) S1 f1 hl (Lp r)⟩
 |_=>exact p1.elim
end
end Pu
end
section
namespace Pu
open PySem PySem.Spec L2
def l5 {κ:Type}[DecidableEq κ](ks:List κ)(k:κ):List κ:=if k∈ks then ks else ks++[k]
def V7 {κ α:Type}[DecidableEq κ](ks:List κ)(xs:List α)(k:κ)(x:α):List α:=if k∈ks then(ks.zip xs).map (λp=>if p.1=k then x else p.2) else xs++[x]
theorem Rb {κ:Type}[DecidableEq κ]{ks:List κ}{vs:List V}(h:ks.length=vs.length)(k:κ)(v:V):putK (ks.zip vs) k v=(l5 ks k).zip (V7 ks vs k v):=by
 have any:((ks.zip vs).any λkv=>decide (kv.1=k))=decide (k∈ks):=by
  clear v
  induction ks generalizing vs with
  |nil=>simp
  | cons a ks ih =>
   cases vs with
   |nil=>cases h
   | cons b vs =>
    rw[O9,List.any_cons,ih (by simpa using h)]
    by_cases c:a=k
    ·subst c;simp
    ·by_cases d:k∈ks
     ·simp[d]
     ·have:¬k=a:=λe=>c e.symm;simp[c,d,this]
 unfold putK l5 V7;rw[any]
 by_cases c:k∈ks
 ·rw[jt (jq c),jt c,jt c];clear any c
  induction ks generalizing vs with
  |nil=>simp
  | cons a ks ih =>
   cases vs with
   |nil=>cases h
   | cons b vs =>
    simp only[O9,F2];rw[ih (by simpa using h)]
    split <;> rfl
 ·rw[ju (by simpa using c),ju c,ju c,List.zip_append h];rfl
theorem Rc {κ:Type}[DecidableEq κ]{K:A9}{G:Gh}{H:Hp}{ks:List κ}{xs:List PV}{vs:List V}(r:Reps K G H xs vs)(h:ks.length=xs.length)(k:κ){x:PV}{v:V}(rx:Rep K G H x v):Reps K G H (V7 ks xs k x) (V7 ks vs k v):=by
 unfold V7
 by_cases c:k∈ks
 ·rw[jt c,jt c];clear c
  induction ks generalizing xs vs with
  |nil=>exact rfl
  | cons a ks ih =>
   cases xs with
   |nil=>cases h
   | cons y ys =>
    obtain⟨u,t,rfl,h1,h2⟩:=r;refine⟨_,_,rfl,?_,ih h2 (by simpa using h)⟩;show Rep K G H (if a=k then x else y) (if a=k then v else u)
    by_cases d:a=k
    ·rw[jt d,jt d];exact rx
    ·rw[ju d,ju d];exact h1
 ·rw[ju c,ju c];exact r.append ⟨v,[],rfl,rx,rfl⟩
def tupP (ks:List Key):PV:=.tup (ks.map kP)
end Pu
end
section
namespace Pu
open PySem PySem.Spec L2
section
variable {T:PotK}{np:Bool}{ι:Type}{K:A9}{F:ι->Cx}{e:Expr}{st:Stmt}{pe pk pv:pE}{pos:Pos}
def keyV:PV->Option Key
 |.int i=>some (.inl i)
 |.str z=>some (.inr z)
 |_=>none
theorem Im {G:Gh}{H:Hp}{x:PV}{v:V}{k:Key}(r:Rep K G H x v)(h:keyV x=some k):v=kV k:=by
 cases x <;> simp[keyV] at h <;> subst h <;> exact r
end
end Pu
end
section
namespace L2
open PySem PySem.Spec PyProof.Rows
section
variable {prog:D1}{w:C9}{A:D5}{E:A1->A5->Prop}{s:A5}
theorem Re {j:Nat}(ht:s.heap.IsTuple t jf)(hS:StrsAre jf.toList ys)(hj:ys[j]?=some k)(hlt:∀i,i<j->ys[i]?≠some k)(hsm:ys.length<=1000000)
   (h:∀tk,Q (.int j tk) { s with toks:=s.toks+1 }):A6 (A7 prog w) A (call (.builtin "tuple.index") [.ref t,.str k tok]) Q E s:=by
 obtain⟨o,ho,hc,n,hd⟩:=id ht;have hT:s.TypeIs (.ref t) "tuple":=⟨o,ho,hc⟩;refine R0 F.slot_tuple_index hT F.entry_tuple_index ?_ (F.args_tuple_index_2 _ _);unfold O4.«tuple.index»;refine A2 (wpAny_of_eq (a:=(L8 t,[Value.str k tok])) rfl ?_);refine A2 (wpAny_tupleItemsOf ho hd ?_);dsimp only;refine A2 (B2 (A2 (B2 ?_)));refine A2 ?_;have hlen:ys.length=jf.toList.length:=(StrsAre.length hS).symm
 have at_:∀(i:Nat) (y:Str),ys[i]?=some y->∃u,jf[i]?=some (.str y u):=by
  intro i y hy
  have:∀{us:List A1} {zs:List Str},StrsAre us zs->∀(i:Nat),zs[i]?=some y->∃u,us[i]?=some (.str y u):=by
   intro us zs hh
   induction hh with
   |nil=>intro i h;cases h
   | cons x t _ ih =>
    intro i h;cases i with
    |zero=>cases h;exact⟨t,rfl⟩
    |succ i=>exact ih i (by simpa using h)
  obtain⟨u,hu⟩:=this hS i hy;exact⟨u,by rw[<- Q3];exact hu⟩
 have hjl:j<jf.size:=by
  have:=(G4.mp hj).1;rw[hlen,M8] at this;exact this
 rw[Std.Legacy.Range.forIn_eq_forIn_range'];refine Ei _ (λrest r s'=>r.1=none/\s'=s/\∃i,rest=List.range' i (jf.size-i)/\i<=j) _ ?_ ?_ _ _ ⟨rfl,rfl,0,?_,K1 _⟩
 ·rintro x rest ⟨r1,r2⟩ s' ⟨hr,rfl,i0,hi,hij⟩;have hil:jf.size-i0=(jf.size-i0-1)+1:=by omega
  rw[hil,List.range'_succ] at hi;obtain⟨i,hxi⟩:∃i,x=i:=⟨x,rfl⟩;injection hi with h1 h2;subst h2;have hi0:i0=i:=by rw[<- hxi,h1]
  subst hi0;subst hxi;clear h1
  revert hij hil
  generalize x=i;intro hij hil;have hiy:i<ys.length:=by rw[hlen,M8];omega
  obtain⟨u,hu⟩:=at_ i ys[i] (D8 hiy);rw[hu];dsimp only;refine A2 (eqBool_str ?_)
  by_cases c:i=j
  ·subst c
   have:ys[i]=k:=by
    have:=D8 hiy;rw[hj] at this;exact(M9 this).symm
   rw[this,beq_self_eq_true,jt rfl];refine A2 (A2 (wpAny_mkInt (B2 (B2 ?_))));exact B2 ⟨_,rfl,h _⟩
  ·have:ys[i]≠k:=λe=>hlt i (by omega) (by rw[D8 hiy,e]);rw[beq_eq_false_iff_ne.mpr this,ju V3];refine B2 ⟨rfl,rfl,i+1,?_,by omega⟩;rw[show jf.size-(i+1)=jf.size-i-1 by omega]
 ·rintro⟨r1,r2⟩ s' ⟨hr,rfl,i,hi,hij⟩;have hil:jf.size-i=(jf.size-i-1)+1:=by omega
  rw[hil,List.range'_succ] at hi;cases hi
 ·simp[Std.Legacy.Range.size]
end
section
variable {X:Cx}
def Lr (K:A9):V->List V->Hp->VK->Prop:=λx vs H Q=>∃(l:A0) (k:Str) (ys:List Str) (j:Nat),x=.ref l/\vs=[.str k]/\SqT K H l (ys.map V.str)/\ys.length<=1000000/\ys[j]?=some k/\(∀i,i<j->ys[i]?≠some k)/\Q (.int j) H
theorem Rf:MtM X "tuple.index" (Lr X.K):=by
 intro jb s σ H x vs v us Q I rx rv h;obtain⟨l,k,ys,j,rfl,rfl,hq,hz0,hj,hlt,q⟩:=h;cases rx;obtain⟨u,rfl,ru⟩:=rv.one;obtain⟨t,rfl⟩:=ru;obtain⟨jf,r,p,hz⟩:=I.tuple hq;exact Re p (HV r) hj hlt hz0 λtk=>⟨.int j,H,I.tok _,⟨_,rfl⟩,q⟩
end
end L2
end
section
namespace Pu
open PySem PySem.Spec PyProof.Rows L2
section
variable {T:PotK}{ι:Type}{K:A9}{F:ι->Cx}{e c:Expr}{pe pc:pE}{pos:Pos}
def Bf:w2:=λx y R=>match x,y with|.tup xs,.str k=>(match Q4 xs with|some ys=>ys.length<=1000000/\∃j:Nat,ys[j]?=some k/\(∀i,i<j->ys[i]?≠some k)/\R (.int j)|none=>False)|_,_=>False
def Ai (pe pc:pE):pE:=λenv n R=>pe env n λx jc n1=>(∃xs,x=.tup xs)/\pc jc n1 λy jd n2=>Bf x y λz=>R z jd n2
theorem Cn (he:QE T K F e pe)(hc:QE T K F c pc)(hs:F9 c=true:=by rfl)(hbase:∀z,Aw e "index" (F z).env (eval e (F z).env)=eval e (F z).env:=by intro _;rfl)(hline:(ap.endLine == pos.line)=true:=by rfl)
   (hfew:∀z,((backTo pos (F5 [c] (F z).env)).all (λx=>!x.1)&&(e6 pos (d5 [] (F z).env)).all (λx=>x.1.isSome)&&decide (([c]:List Expr).length+([]:List R8).length+(if([]:List R8).isEmpty then 0 else 1)<30))=true:=by intro _;rfl) (hK:∀z,(F z).K=K:=by intro _;rfl):QE T K F (.Call (.Attribute e "index" ap) [c] [] pos) (Ai pe pc):=by
 obtain⟨t,a1,a2⟩:=he;obtain⟨u,b1,b2⟩:=hc;refine⟨tBM K "tuple" (Lr K) t (Z4 u tNil),λz=>hK z▸B_ PySem.F.plainAttrs_tuple PySem.F.slot_tuple_index PySem.F.type_tuple_index Rf (a1 z) (F8 (b1 z) K5 (D9 hs)) (hbase z) (hfew z) hline (D9 hs),λC G σ H env n R Q hK hT S hp k=>?_⟩;refine a2 C G σ H env n _ _ hK hT S hp λx jc n1 v H1 q1 S1 r1 f1=>?_;obtain⟨⟨xs,rfl⟩,q1⟩:=q1;obtain⟨a,vs,rfl,ta,ra⟩:=r1;refine⟨?_,?_⟩
 ·exact .inr (.inl ⟨rfl,.inr ⟨vs,ta.2⟩⟩)
 refine b2 C G σ H1 jc n1 _ _ hK hT S1 q1 λy jd n2 w H2 q2 S2 r2 f2=>?_;unfold Bf at q2
 split at q2
 ·rename_i xs' kk e1;cases e1
  split at q2
  ·rename_i ys ey;obtain⟨hz,j,hj,hlt,q3⟩:=q2;obtain⟨a',vs',e3,ta',ra'⟩:=(show Rep K G H1 (.tup xs) (.ref a) from⟨a,vs,rfl,ta,ra⟩).fr f2;cases e3;exact⟨a,kk,ys,j,rfl,by rw[show w=.str kk from r2],DE ey ra'▸SqT.of ta'.2,hz,hj,hlt,k _ _ _ _ _ q3 S2 rfl (f1.trans f2)⟩
  ·exact q2.elim
 ·exact q2.elim
end
end Pu
end
section
namespace Pu
open PySem PySem.Spec L2
def frzS:Slot->Option Slot
 |.v x=>some (.v x)
 |.ow .lst xs=>some (.v (.lst xs))
 |.ow (.dk ks) xs=>if ks.length=xs.length then some (.v (.dct ks xs)) else none
 |.ow (.dt _) _=>none
 |.ow (.st _) _=>none
def frz (env:Env):Env:=env.map λo=>o.bind frzS
def DO (T:PotK):Prop:=∀M M' H p n,T.at_ M H p n->(∀a∈M',a∈M\/∃o,H a=some o/\MutO o)->T.at_ M' H p n
theorem SR.lend (S:SR C G σ H env n):SR ⟨C.K,C.T,G.pots,G.pots,H,C.np⟩ ⟨G.pots,G.pots⟩ σ H (frz env) n where
 frame _ _ _ e:=e
 sub a ha:=.inl ha
 sup a ha:=ha
 pots p hp:=⟨hp,C.T.more (S.pots p hp).2 λb hb=>.inl (S.pots b hb).1⟩
 pre:=⟨[],(R9 _).symm,.inl rfl⟩
 mu a ha:=S.mu a (S.pots a ha).1
 slots i s e:=by
  have mm:∀{x:PV} {v:V},Rep C.K G H x v->Rep C.K ⟨G.pots,G.pots⟩ H x v:=λr=>Rep.mono (G':=⟨G.pots,G.pots⟩) (λ_ _ _ e=>e) (λb hb=>.inl (S.pots b hb).1) (λ_ _ e=>e) _ _ r;have mms:∀{x:List PV} {v:List V},Reps C.K G H x v->Reps C.K ⟨G.pots,G.pots⟩ H x v:=λr=>Reps.mono (G':=⟨G.pots,G.pots⟩) (λ_ _ _ e=>e) (λb hb=>.inl (S.pots b hb).1) (λ_ _ e=>e) _ _ r;unfold frz at e;rw[G9] at e;cases h:env[i]? with
  |none=>rw[h] at e;cases e
  | some o =>
   rw[h] at e;cases o with
   |none=>cases e
   | some t =>
    have q:=S.slots i t h;have e':frzS t=some s:=by simpa using e
    cases t with
    | v x =>
     cases e';obtain⟨v,e1,r⟩:=q;exact⟨v,e1,mm r⟩
    | ow k xs =>
     obtain⟨a,vs,ev,h1,h2,h3,h4,r⟩:=q;cases k with
     |lst=>cases e';exact⟨.ref a,ev,a,vs,rfl,⟨h3,h4⟩,mms r⟩
     | dk ks =>
      have e':(if ks.length=xs.length then some (Slot.v (.dct ks xs)) else none)=some s:=e'
      split at e'
      ·rename_i hl;cases e';have hlv:ks.length=vs.length:=by rw[hl];exact r.length
       refine⟨.ref a,ev,a,ks.zip vs,rfl,h3,h4,List.map_fst_zip (BJ hlv),?_⟩;rw[List.map_snd_zip (BJ hlv.symm)];exact mms r
      ·cases e'
     |dt ks=>cases e'
     |st ks=>cases e'
 inj i j xs ys a e1:=by
  have:∀o:Option Slot,o.bind frzS≠some (.ow xs.1 xs.2):=by
   intro o z;cases o with
   |none=>cases z
   | some t =>
    cases t with
    |v x=>cases z
    | ow k ys =>
     cases k with
     |lst=>cases z
     | dk ks =>
      have z:(if ks.length=ys.length then some (Slot.v (.dct ks ys)) else none)=some (.ow xs.1 xs.2):=z
      split at z <;> cases z
     |dt ks=>cases z
     |st ks=>cases z
  unfold frz at e1;rw[G9] at e1;cases h:env[i]? with
  |none=>rw[h] at e1;cases e1
  |some o=>rw[h] at e1;exact absurd (M9 e1) (this o)
 p0:=⟨λp hp=>hp,S.hasG⟩
 len:=by unfold frz;rw[B4];exact S.len
 newp p hp h:=absurd hp h
theorem SR.back (hT:DO C.T)(S:SR C G σ H env n)(S':SR ⟨C.K,C.T,G.pots,G.pots,H,C.np⟩ ⟨G.pots,G.pots⟩ σ H' jh n'):SR C G σ H' env n':=
 S.call (fun b o hb e=>S'.frame b o hb e) fun p hp=>hT _ _ _ _ _ (S'.pots p hp).2 fun a ha=>by
  by_cases h:a∈G.pots
  ·grind
  ·obtain⟨o,e,m⟩:=S.mu a ha;exact .inr ⟨o,S'.frame a o h e,m⟩
def FP (pe:pE):pE:=λenv n R=>pe (frz env) n λx jh n'=>noMut x=true/\R x env n'
section
variable {T:PotK}{ι:Type}{K:A9}{F:ι->Cx}{e:Expr}{pe:pE}{pn:pA}
theorem Ls (hT:DO T)(h:QE T K F e pe):QE T K F e (FP pe):=by
 obtain⟨t,h1,h2⟩:=h;refine⟨t,h1,λC G σ H env n R Q hK hT' S hp k=>?_⟩;refine h2 ⟨C.K,C.T,G.pots,G.pots,H,C.np⟩ ⟨G.pots,G.pots⟩ σ H (frz env) n _ _ hK hT' S.lend hp λx jh n' v H' r S' rp f=>?_;have S2:=S.back (by grind) S';exact k _ _ _ _ _ r.2 S2 (Rep.noMut S2.mu _ _ r.1 rp) λb o hb e=>S'.frame b o (λz=>hb (S.pots b z).1) e
end
theorem Lu:DO potL:=λ_ _ _ _ _ h _=>h
end Pu
end
section
namespace L2
open PySem PySem.Spec PyProof.Rows
theorem Rg {P:D1}{w:C9}{h:B6}{a:A0}(e:h.get? a=some { cls:=.type "dict",data:=.dict #[] }):h.DictOf (J6 P w) a []:=by
 obtain⟨o,ho,r⟩:=Heap.dictOf_iff.mp (Heap.DictOf.new (knd:=J6 P w) h);rw[E9 _ rfl] at ho;cases ho;exact Heap.dictOf_iff.mpr ⟨_,e,r⟩
theorem Rh {prog:D1}{w:C9}{A:D5}{R:Result->A5->Prop}{s:A5}{kx vx target iter:Expr}{jk:List Expr}{scope:G0}{pos:Pos}{it:A1}{D:A0}{env:Env}(I:Nat->A5->Prop)
   (turn:∀n s,I n s->A6 (A7 prog w) A (pyNext it) (fun r s₁=>match r with
    |none=>R (.ok .next) s₁
    |some v=>A6 (A7 prog w) A (l8 target it v) (λ_ s₁'=>A6 (A7 prog w) A (assign target env v) (λ_ s₂=>
        A6 (A7 prog w) A (forIn jk true fun c r=>if r=true then do let ok ← isTrue c env (eval c env);pure (i8 ok) else pure (i8 r)) (fun ok s₃=>
         if ok=true then A6 (A7 prog w) A (eval kx env) (λkv s₄=>A6 (A7 prog w) A (eval vx env) (λvv s₅=>
          A6 (A7 prog w) A (dictSet D kv vv) (λ_ s₆=>∃m,m<n/\I m s₆) (λ_ _=>False) s₅) (λ_ _=>False) s₄) (λ_ _=>False) s₃
         else ∃m,m<n/\I m s₃) (λ_ _=>False) s₂) (λ_ _=>False) s₁') (λ_ _=>False) s₁) (λ_ _=>False) s)
   (n:Nat) (h:I n s):M5 (A7 prog w) A (.compLoop (.DictComp kx vx [⟨target,iter,jk,0⟩] scope pos) 0 it (.ref D) env) R s:=by
 refine codeAny_loop rfl I (λn s hI=>?_) n h;show A6 _ A ((compTurn (.DictComp kx vx [⟨target,iter,jk,0⟩] scope pos) 0 it (.ref D) env).onRaise (λx=>do noteFrame x env;Ek x)) _ _ s;refine wpAny_noted ?_;rw[compTurn_dict];refine A2 (R7 (A2 (G7 (turn n s hI) (λr s₁ h₁=>?_) λ_ _ h'=>h'.elim)));cases r with
 |none=>exact B2 h₁
 | some v =>
  refine A2 (G7 h₁ (λ_ s₁' h₁'=>?_) λ_ _ h'=>h'.elim);refine A2 (G7 h₁' (λ_ s₂ h₂=>A2 (G7 h₂ (λok s₃ h₃=>?_) λ_ _ h'=>h'.elim)) λ_ _ h'=>h'.elim);cases ok with
  |false=>exact B2 ⟨rfl,h₃⟩
  | true =>
   exact A2 (A2 (G7 h₃ (λkv s₄ h₄=>A2 (J7 (G7 h₄ (λvv s₅ h₅=>A2 (R7 (J7 (G7 h₅ (λ_ s₆ h₆=>B2 ⟨rfl,h₆⟩) λ_ _ h'=>h'.elim)))) λ_ _ h'=>h'.elim))) λ_ _ h'=>h'.elim))
def Lv (J:It)(g:TG)(tt:TT)(tk tv:TE)(Q:VK)(D:A0)(σc:St)(H1:Hp):Prop:=∃W:Nat->Nat->St->Hp->Prop,(∃m,W 0 m σc H1)/\
 ∀i m σ' H',W i m σ' H'->(J.stop i H'/\Q (.ref D) H')\/(J.go i H'/\∀x H2,J.yld i H' x H2->g x σ' H2 fun σ3 H3=>tt σ3 H3 fun b H4=>
    if b=true then tk σ3 H4 λk H5=>tv σ3 H5 λv H6=>∃jg kk,k=kV kk/\H6 D=some (.dK jg)/\jg.length<C8/\∃m',m'<m/\W (i+1) m' σ3 (upd H6 D (.dK (putK jg kk v)))
    else ∃m',m'<m/\W (i+1) m' σ3 H4)
def tCompD (cs:List (Option Nat))(wi:TI)(g:TG)(tt:TT)(tk tv:TE):TE:=λσ H Q=>wi σ H λJ H1=>∀D,H1 D=none->Lv J g tt tk tv Q D (Z5 cs σ) (upd H1 D (.dK []))
theorem Ri {X:Cx}{scope:G0}{cl:List (Str×A0)}{N:List Str}{cs:List (Option Nat)}(S:W6 X scope cl N cs){jb:List (A0×Obj)}{σ:St}{H:Hp}{s:A5}{fp:List A0}{h₁:B6}{tk:Nat}
   (I:Inv X jb σ H s) (f2:∀b∈fp,FpOk X jb H b) (ho:∀b∈fp,∃o,s.heap.get? b=some o)
   (old:∀b o,s.heap.get? b=some o->h₁.get? b=some o) (hns:h₁.Ns (s.heap.objs.size+1) (λx=>([]:List (Str×A1)).reverse.lookup x))
   (hD:h₁.get? s.heap.objs.size=some { cls:=.type "dict",data:=.dict #[] }) :
   Inv (E4 X scope cl N fp (s.heap.objs.size+1) s H) jb (Z5 cs σ) (upd H s.heap.objs.size (.dK [])) { s with heap:=h₁,toks:=tk }:=by
 have lt:∀b o,s.heap.get? b=some o->b<s.heap.objs.size:=λb o e=>C4 e;have neC:∀b o,s.heap.get? b=some o->b≠s.heap.objs.size+1:=λb o e=>D3 (U3 (lt b o e));have neD:∀b o,s.heap.get? b=some o->b≠s.heap.objs.size:=λb o e=>D3 (lt b o e);have nstk:∀b,b≠X.env.locals->b∉X.fs->b∉frs X.stack:=λb h1 h2 hb=>(D0.mp (I.stkSub b hb)).elim h1 h2
 have cellO:∀x c,cl.lookup x=some c->∃v o,s.heap.get? c=some o/\s.heap.IsCell c v:=λx c e=>by
  obtain⟨v,q⟩:=I.cell x c (S.sub x c e);obtain⟨o,h1,_⟩:=id q;exact⟨v,o,h1,q⟩
 refine⟨⟨I.ok.mod,S.kind,I.ok.glob,I.ok.blt,o8 _,λx y c h1 h2=>I.ok.inj x y c (S.sub x c h1) (S.sub y c h2),λx hx=>S.has x hx,λx c hx=>(by cases hx),I.ok.hd,I.ok.frames,.inl rfl,λb hb=>?_,I.bs,J9 I.ok.bsz I.sz,λb o e hb=>?_,λb hb=>?_,I.stack,I.stkFree,I.nos⟩,
  rfl,I.bare,Un.laid old (C7 _) I.fresh I.bigS,⟨_,hns,λi x v e1 e2 e3=>?_⟩,λx c e=>?_,?_,λx c e=>?_,λp hp=>?_,I.hok.laid old (C7 _) ⟨K1 _,beq_eq_false_iff_ne.mpr (Ne.symm (D3 I.big)),[],.nil,Rg hD⟩,?_⟩
 ·obtain⟨o,e⟩:=ho b hb;exact⟨neC b o e,λx c ec=>(f2 b hb).2.2.2.2.1 x c (S.sub x c ec)⟩
 ·rcases(f2 b hb).2.2.2.1 with z|z
  ·exact I.ok.noex b o e z
  ·exact absurd (K3 (C4 e) (J9 I.ok.bsz z)) (W4 _)
 ·exact nstk b (f2 b hb).2.1 (f2 b hb).2.2.1
 ·have e2':(cs.map λo=>o.bind λj=>(σ[j]?).bind id)[i]?=some (some v):=e2;rw[G9] at e2';cases ec:cs[i]? with
  |none=>rw[ec] at e2';cases e2'
  | some o =>
   rw[ec] at e2';cases o with
   |none=>cases e2'
   | some j =>
    have e2'':(σ[j]?).bind id=some v:=by simpa using e2'
    cases es:σ[j]? with
    |none=>rw[es] at e2'';cases e2''
    | some ov =>
     rw[es] at e2'';have e4:ov=some v:=by simpa using e2''
     subst e4;obtain⟨hN,hv,hnl,⟨c,hc⟩,hk⟩:=S.cap i j x ec e1;obtain⟨m,hn,hl⟩:=I.loc;obtain⟨u,r,l⟩:=hl j x v hN es hv;refine⟨u,r,?_⟩;rcases l with⟨hk',_⟩|⟨_,c',hc',z⟩
     ·exact absurd hk' hnl
     ·have ecc:c'=c:=by
       have:=S.sub x c hc;rw[hc'] at this;exact M9 this
      subst ecc;obtain⟨o,h1,h2⟩:=z;exact .inr ⟨hk,c',hc,⟨o,old _ o h1,h2⟩⟩
 ·obtain⟨v,o,h1,o',h2,h3⟩:=cellO x c e;exact⟨v,o',old _ o' h2,h3⟩
 ·show upd H s.heap.objs.size (.dK []) (s.heap.objs.size+1)=none;rw[C3 (Nat.succ_ne_self _)];exact I.hok.fresh (o8 _)
 ·obtain⟨v,o,h1,_⟩:=cellO x c e;rw[C3 (neD c o h1)];exact I.freeC x c (S.sub x c e)
 ·obtain⟨e,n,ne,nf,d⟩:=I.pin p hp;exact⟨old _ _ e,by rw[C3 (neD _ _ e)];exact n,neC _ _ e,nstk _ ne nf,d⟩
 ·show(cs.map _).length=N.length;rw[B4];exact S.len
theorem Rj {X:Cx}{scope:G0}{cl:List (Str×A0)}{N:List Str}{cs:List (Option Nat)}{kx vx tg iter:Expr}{jk:List Expr}{pos spos py:Pos}{wi:TI}{g:TG}{tt:TT}{tk tv:TE}{i:Nat}{y:Str}(hN:X.N.Nodup)(hiy:X.N[i]?=some y)(hy:Loc X.env.scope y)(S:W6 X scope cl N cs)(hc:X.calm=true)(hi:PI X tg iter wi)
   (hb:∀(fp:List A0) (C:A0) (s:A5) (H:Hp),PG (E4 X scope cl N fp C s H) tg g/\PIf (E4 X scope cl N fp C s H) jk tt/\PE (E4 X scope cl N fp C s H) kx tk/\PE (E4 X scope cl N fp C s H) vx tv)
   (hsw:d8 (.DictComp kx vx [⟨tg,iter,jk,0⟩] scope pos) (some (.Name y py)) spos.line X.env=pure true:=by rfl)
   (hs:∀x,Q9 iter X.env x=pure x:=by intro _;rfl) (hff:X.fn y=true\/X.env.scope.names.lookup y=some .local:=by first|exact .inl rfl|exact .inr rfl|assumption) :
   PS X (.Assign [.Name y py] (.DictComp kx vx [⟨tg,iter,jk,0⟩] scope pos) spos) (tAsg (tCompD cs wi g tt tk tv) (L9 i)):=by
 have bn:∀(M:Model) (A:D5) (v:A1) (Q:Unit->A5->Prop) (E:A1->A5->Prop) (s:A5),A6 M A (storeName X.env y v) Q E s->A6 M A (assign (.Name y py) X.env v) Q E s:=λM A v Q E s h=>CJ h;intro jb s σ H DD I h;rw[exec_Assign_Name_used _ _ _ _ hsw];refine A2 (R7 (A2 ?_));show A6 _ _ (do let _ ← comprehension (.DictComp kx vx [⟨tg,iter,jk,0⟩] scope pos) scope X.env _ newDict false (eval iter X.env) (some (assign (.Name y py) X.env))) _ _ s;refine A2 (G7 (Q:=λ_ s'=>SP X jb DD .next s') ?_ (λ_ s' hq=>B2 (B2 hq)) λ_ _ e=>e);refine wpAny_comprehension_free (use:=some (assign (.Name y py) X.env)) rfl hs S.clos S.kind S.names (thn (hi jb s σ H _ I h) λv s1 h1=>thn h1 λitv s2 h2=>?_);obtain⟨it,fp,tn,J,H2,rfl,I2,T,st2,f2,q⟩:=h2
 have ho:∀b∈fp,∃o,s2.heap.get? b=some o:=λb hb=>by
  obtain⟨o,e,_⟩:=T.obj 0 _ st2 b hb;exact⟨o,e⟩
 refine Q1 (wpAny_newFunctionEnv S.nocell (by intro y hy;simp at hy) (λh₁ hns₁ hsb₁=>?_) S.kind);dsimp only at hns₁ hsb₁ ⊢;have hC:(s2.heap.push { cls:=.type "dict",dict:=none,data:=.dict #[] }).objs.size=s2.heap.objs.size+1:=by rw[Y2]
 generalize hH2:s2.heap.push { cls:=.type "dict",dict:=none,data:=.dict #[] }=hp2 at hns₁ hsb₁ hC ⊢;have old:∀b o,s2.heap.get? b=some o->h₁.get? b=some o:=λb o e=>hsb₁.extBut b o (by rw[hC];exact D3 (U3 (C4 e))) (C2 _ (hH2▸C2 _ e));have hD:h₁.get? s2.heap.objs.size=some { cls:=.type "dict",data:=.dict #[] }:=hsb₁.extBut _ _ (by rw[hC];exact D3 (Ey _)) (C2 _ (hH2▸E9 _ rfl));rw[hC] at hns₁ ⊢;obtain⟨W,⟨m0,w0⟩,turn⟩:=q s2.heap.objs.size I2.fresh;have Ic:=Ri S (tk:=s2.toks+([]:List (Str×A1)).length) I2 f2 ho old hns₁ hD;have nstk:∀b,b≠X.env.locals->b∉X.fs->b∉frs X.stack:=λb h1 h2 hb=>(D0.mp (I2.stkSub b hb)).elim h1 h2
 have stat:∀{H':Hp},(∀b∈fp,H' b=none)->∀b∈fp,FpOk (E4 X scope cl N fp (s2.heap.objs.size+1) s2 H2) jb H' b:=λhn b hb=>by
  obtain⟨o,e⟩:=ho b hb;exact⟨hn b hb,D3 (U3 (C4 e)),nstk b (f2 b hb).2.1 (f2 b hb).2.2.1,.inl hb,λx c ec=>(f2 b hb).2.2.2.2.1 x c (S.sub x c ec),(f2 b hb).2.2.2.2.2⟩
 obtain⟨hg,hf,hk,hv⟩:=hb fp (s2.heap.objs.size+1) s2 H2;have st1:tn 0 h₁:=T.keep _ _ _ st2 λb hb o e=>old b o e
 have fr1:∀b∈fp,upd H2 s2.heap.objs.size (.dK []) b=none:=λb hb=>by
  obtain⟨o,e⟩:=ho b hb;rw[C3 (D3 (C4 e))];exact(f2 b hb).1
 have loop:∀s₃:A5,s₃={ s2 with heap:=h₁,toks:=s2.toks+([]:List (Str×A1)).length }->
     M5 (A7 X.prog X.w) X.A (.compLoop (.DictComp kx vx [⟨tg,iter,jk,0⟩] scope pos) 0 (.ref it) (.ref s2.heap.objs.size) (compEnvC scope cl (s2.heap.objs.size+1) X.env))
       (compPost (A7 X.prog X.w) X.A X.xe (some (assign (.Name y py) X.env)) (λ_ s'=>SP X jb DD .next s') (.ref s2.heap.objs.size) (s2.heap.objs.size+1)) s₃:=by
   rintro s₃ rfl;refine Rh (λn s'=>∃i σ' H',Inv (E4 X scope cl N fp (s2.heap.objs.size+1) s2 H2) jb σ' H' s'/\tn i s'.heap/\(∀b∈fp,H' b=none)/\W i n σ' H') ?_ m0 ⟨0,_,_,Ic,st1,fr1,w0⟩;rintro n s3 ⟨i,σ3,H3,I3,st3,fr3,w3⟩;rcases turn i n σ3 H3 w3 with⟨stop,qn⟩|⟨go,step⟩
   ·refine thn (T.done (E4 X scope cl N fp (s2.heap.objs.size+1) s2 H2) rfl rfl rfl hc i jb s3 σ3 H3 (λ_ _=>False) I3 (stat fr3) st3 stop) λr s4 ⟨hr,I4⟩=>?_;subst hr;obtain⟨m4,hn4,_⟩:=I4.loc;have I5:Inv X jb σ H3 s4:=Inv.uncomp (h':=s4.heap) I2 f2 I4 λb hb=>rfl;have oldne:∀b o,s2.heap.get? b=some o->b≠s2.heap.objs.size+1:=λb o e=>D3 (U3 (C4 e));have locne:X.env.locals≠s2.heap.objs.size+1:=D3 (U3 I2.lt)
    have cellne:∀x c,X.env.cells.lookup x=some c->c≠s2.heap.objs.size+1:=λx c e=>by
     obtain⟨v,o,h1,_⟩:=I2.cell x c e;exact oldne c o h1
    refine bn _ _ _ _ _ _ (GR I5 hN hiy hy (v:=.ref s2.heap.objs.size) rfl (λs6 I6 ⟨a6,sb6,ha6⟩=>?_) hff)
    have ane:s2.heap.objs.size+1≠a6:=by
     rcases ha6 with rfl|ha6
     ·exact Ne.symm locne
     ·exact Ne.symm (cellne _ _ ha6)
    refine⟨m4,hn4.sameBut sb6 ane,λh' hs'=>⟨_,H3,?_,qn⟩⟩;have hs7:∀b,b≠s2.heap.objs.size+1->h'.get? b=s6.heap.get? b:=λb hb=>hs'.2 b hb;have U0:Un (frs X.stack) [s2.heap.objs.size+1] H3 H3 s6.heap s6.heap:=Un.refl
    have trC:∀b u,H3 b=some u->b≠s2.heap.objs.size+1:=λb u e z=>by
     have q:H3 (s2.heap.objs.size+1)=none:=I4.free;rw[z,q] at e;cases e
    obtain⟨hh6,g6,d6,t6,os6⟩:=s6;refine I6.call (h':=h') (g':=g6) (d':=d6) (t':=t6) (ch:=[s2.heap.objs.size+1]) ⟨λb o e n hb hx=>?_,λb o e n hb hx=>?_,U0.free,λb o e hx=>?_,U0.tups,U0.frzs,U0.tbls,U0.sys⟩ (λb u e=>?_) I6.bare λb hb=>?_
    ·have hb':b≠s2.heap.objs.size+1:=λz=>hx (by rw[z];exact E1.mpr rfl);rw[hs7 b hb'];exact U0.keep b o e n hb hx
    ·have hb':b≠s2.heap.objs.size+1:=λz=>hx (by rw[z];exact E1.mpr rfl);rw[hs7 b hb'];exact U0.slot b o e n hb hx
    ·have hb':b≠s2.heap.objs.size+1:=λz=>hx (by rw[z];exact E1.mpr rfl);rw[hs7 b hb'];exact U0.there b o e hx
    ·refine(I6.hok b u e).stay (λc v hc q=>?_) (λ_ q=>q) λ_ _ q=>q
     have ne:c≠s2.heap.objs.size+1:=by
      rcases hc with z|z
      ·rw[z];exact trC b u e
      ·exact trC c _ z
     rw[hs7 c ne];exact q
    ·rw[E1.mp hb];refine⟨.inr (Ex I2.sz),Ne.symm locne,cellne,λp hp=>?_⟩;exact oldne _ _ (I2.pin p hp).1
   ·refine thn (T.item (E4 X scope cl N fp (s2.heap.objs.size+1) s2 H2) rfl rfl rfl hc i jb s3 σ3 H3 (λ_ _=>False) I3 (stat fr3) st3 go) λr s4 ⟨u,hr,h4⟩=>?_;subst hr;refine thn h4 λ_ s5 ⟨x,H5,I5,r5,y5,st5,fr5⟩=>?_;have I5':=I5.pinned (stat fr5) (T.obj _ _ st5);refine thn (hg _ s5 σ3 H5 x u _ I5' r5 (step x H5 y5)) λ_ s6 ⟨σ6,H6,I6,q6⟩=>?_
    have again:∀{σ7:St} {H7:Hp} {s7:A5},Inv (E4 X scope cl N fp (s2.heap.objs.size+1) s2 H2) (jb++AN fp s5.heap) σ7 H7 s7->(∃m',m'<n/\W (i+1) m' σ7 H7)->
        ∃m,m<n/\∃i σ' H',Inv (E4 X scope cl N fp (s2.heap.objs.size+1) s2 H2) jb σ' H' s7/\tn i s7.heap/\(∀b∈fp,H' b=none)/\W i m σ' H':=λ{σ7 H7 s7} I7 n7=>by
      obtain⟨m',hm,w7⟩:=n7;refine⟨m',hm,i+1,σ7,H7,I7.unpinned,T.keep _ _ _ st5 λb hb o e=>(I7.pin (b,o) (M2 _ (M2 _ (Dl hb e)))).1,λb hb=>?_,w7⟩;obtain⟨o,e,d⟩:=T.obj _ _ st5 b hb;exact(I7.pin (b,o) (M2 _ (M2 _ (Dl hb e)))).2.1
    refine thn (hf _ s6 σ6 H6 _ I6 q6) λok s7 ⟨H7,I7,q7⟩=>?_;cases ok with
    |false=>exact again I7 q7
    | true =>
     refine thn (hk _ s7 σ6 H7 _ I7 q7) λku s8 ⟨k8,H8,I8,rk,q8⟩=>?_;refine thn (hv _ s8 σ6 H8 _ I8 q8) λvu s9 ⟨v9,H9,I9,rv,jg,kk,ek,e9,z9,n9⟩=>?_;subst ek;obtain⟨z,hd,vs,rel,dd⟩:=dk_of I9.hok e9;have hz:vs.length<=C8:=by rw[<- rel.length];exact z
     have hl:(putK jg kk v9).length<=C8:=by have:=Qc jg kk v9;omega
     refine wpAny_dictSet_pairs (hsz:=hz) (Fz rk) dd λh' dd' hs=>again (σ7:=σ6) ?_ n9;have he:∃q,h'.get? s2.heap.objs.size=some q:=let ⟨q,_,_,hq,_⟩:=dd';⟨q,hq⟩;exact KH I9 (by rw[e9];exact p7) hs he (KI hl hd (rel.put kk rv) dd')
 exact codeAny_compStart_dict (loop _ rfl) (T.self _ 0 _ _ _ st1 (loop _ rfl))
end L2
end
section
namespace Pu
open PySem PySem.Spec L2
def dcL (pg:pG)(pk pv:pE):List PV->List Key->List PV->Env->Nat->(List Key->List PV->Nat->Prop)->Prop
 |[],ks,ys,_,n,R=>R ks ys n
 | x :: xs, ks, ys, env, n, R => pg x env fun jc => pk jc n fun k jd n2 => pv jd n2 fun v je n3 => match keyV k with
  |some kk=>dcL pg pk pv xs (l5 ks kk) (V7 ks ys kk v) je n3 R
  |none=>False
theorem Lw {κ:Type}[DecidableEq κ]{α:Type}{ks:List κ}{xs:List α}(h:ks.length=xs.length)(k:κ)(x:α):(l5 ks k).length=(V7 ks xs k x).length:=by
 unfold l5 V7
 split
 ·simp[List.length_zip,h]
 ·simp[h]
theorem Rk {κ:Type}[DecidableEq κ](ks:List κ)(k:κ):(l5 ks k).length<=ks.length+1:=by
 unfold l5
 split
 ·omega
 ·simp
theorem Rl {K:A9}{T:PotK}{J:It}{g:TG}{tk tv:TE}{pg:pG}{pk pv:pE}(hg:GOk K g pg)(hek:EOk K T tk pk)(hev:EOk K T tv pv){G:Gh}{H1:Hp}{xs:List PV}(hJ:ItR K G H1 J xs)(hl:xs.length<=1000000)
   {σc:St} {env:Env} {n:Nat} {R:List Key->List PV->Nat->Prop} {Q:VK} {D:A0} (hD:H1 D=none) (I0:Inn K T G σc H1 env n) (hp:dcL pg pk pv xs [] [] env n R)
   (hQ:∀ks ys n' us H',R ks ys n'->(∀p∈G.pots,T.at_ (D::G.M) H' p n')->(∀b o,b∉G.pots->H1 b=some o->H' b=some o)->H' D=some (.dK (ks.zip us))->ks.length=ys.length->Reps K ⟨D::G.M,G.pots⟩ H' ys us->Q (.ref D) H') :
   Lv J g tTru tk tv Q D σc (upd H1 D (.dK [])):=by
 have hDM:D∉G.M:=λz=>by
  obtain⟨o,e,_⟩:=I0.mu D z;rw[hD] at e;cases e
 let GD:Gh:=⟨D::G.M,G.pots⟩
 refine⟨λi m σ H=>m=xs.length-i/\i<=xs.length/\∃env n ks jm us,Inn K T GD σ H env n/\(∀b o,b∉G.pots->H1 b=some o->H b=some o)/\H D=some (.dK (ks.zip us))/\Reps K GD H jm us/\ks.length=jm.length/\jm.length<=i/\dcL pg pk pv (xs.drop i) ks jm env n R,?_,?_⟩
 ·refine⟨xs.length,by simp,K1 _,env,n,[],[],[],⟨λp hp=>⟨C5 _ (I0.pots p hp).1,?_⟩,I0.has,λa ha=>?_,λi s e=>?_,I0.len⟩,λb o _ e=>?_,E8,rfl,rfl,C7 _,by simpa using hp⟩
  ·have h1:=T.more (M':=D::G.M) (I0.pots p hp).2 (λa ha=>(D0.mp ha).elim (λz=>.inr (z▸hD)) .inl);refine T.keep h1 ?_ λb o hb e=>Same.lay1 hD b o e;obtain⟨o,e,_⟩:=T.mu h1;rw[e,Same.lay1 hD p o e]
  ·rcases D0.mp ha with rfl|ha
   ·exact⟨_,E8,trivial⟩
   ·obtain⟨o,e,m⟩:=I0.mu a ha;exact⟨o,Same.lay1 hD a o e,m⟩
  ·obtain⟨x,v,rfl,ev,r⟩:=I0.slots i s e;exact⟨x,v,rfl,ev,Rep.mono (G':=GD) (H':=upd H1 D (.dK [])) (λb o _ e=>Same.lay1 hD b o e) (λa ha=>(D0.mp (show a∈D::G.M from ha)).elim (λz=>.inr (z▸hD)) .inl) (λ_ _ e=>e) _ _ r⟩
  ·exact Same.lay1 hD b o e
 ·rintro i m σ H ⟨rfl,hi,env,n,ks,jm,us,I,kp,eD,ra,lk,la,hc⟩
  have hf:∀p,H p=none->p∉GD.M:=λp hp z=>by
   obtain⟨o,e,_⟩:=I.mu p z;rw[hp] at e;cases e
  have hk:∀b o,b∉G.M->H1 b=some o->H b=some o:=λb o hb e=>kp b o (λz=>hb (I0.pots b z).1) e;obtain⟨hgo,hstop⟩:=hJ GD H hk (λa ha=>(D0.mp (show a∈D::G.M from ha)).elim (λz=>.inr (z▸hD)) .inl) (λ_ _ e=>e) hf
  by_cases hlt:i<xs.length
  ·have ex:xs[i]?=some xs[i]:=D8 hlt;obtain⟨g1,g2⟩:=hgo i _ ex;refine .inr ⟨g1,λv H2 y=>?_⟩;obtain⟨s2,rv⟩:=g2 v H2 y;rw[w8 hlt] at hc;have S0:=I.sr;have S1:SR ⟨K,T,GD.M,GD.pots,H,false⟩ GD σ H2 env n:=S0.same s2;refine hg _ GD σ H2 env n xs[i] v _ _ rfl S1 rv hc λjc σ1 hc1 S2=>?_
   have pt:∀{H5:Hp} {env5:Env} {n5:Nat},SR ⟨K,T,GD.M,GD.pots,H,false⟩ GD σ1 H5 env5 n5->(∀b o,b∉G.pots->H1 b=some o->H5 b=some o)/\H5 D=some (.dK (ks.zip us)):=λS5=>by
    have nD:D∉G.pots:=λz=>hDM (I0.pots D z).1;exact⟨λb o hb e=>S5.frame b o hb (kp b o hb e),S5.frame D _ nD eD⟩
   show tk σ1 H2 _;refine hek _ GD σ1 H2 jc n _ _ rfl rfl S2 hc1 λkx jd n2 ku H4 hc2 S4 rk f4=>?_;refine hev _ GD σ1 H4 jd n2 _ _ rfl rfl S4 hc2 λy je n3 u H5 hc3 S5 r5 f5=>?_;cases ek:keyV kx with
   |none=>rw[ek] at hc3;exact hc3.elim
   | some kk =>
    rw[ek] at hc3;obtain⟨k1,k2⟩:=pt S5;have ra5:Reps K GD H5 jm us:=Reps.mono (λb o hb e=>S5.frame b o (λz=>hb (C5 _ (I0.pots b z).1)) e) (λa ha=>.inl ha) (λ_ _ e=>e) _ _ ra
    have fD:∀(o:HO),Fr GD H5 (upd H5 D o):=λo b u hb e=>by
     rw[C3 (λz=>hb (by rw[z];exact C6))];exact e
    have I5:=S5.inn;have lu:ks.length=us.length:=by rw[lk];exact ra.length
    have lp:(V7 ks jm kk y).length<=i+1:=by
     rw[<- Lw lk kk y];have:=Rk ks kk;omega
    refine⟨ks.zip us,kk,Im rk ek,k2,?_,xs.length-(i+1),by omega,rfl,hlt,je,n3,l5 ks kk,V7 ks jm kk y,V7 ks us kk u,⟨λp hp=>⟨(I5.pots p hp).1,?_⟩,I5.has,λa ha=>?_,λj s e=>?_,I5.len⟩,λb o hb e=>?_,?_,(Rc ra5 lk kk r5).fr (fD _),Lw lk kk y,lp,hc3⟩
    ·rw[List.length_zip];have:=ra.length;exact mil' (by omega)
    ·have np:p≠D:=λz=>hDM (by rw[<- z];exact(I0.pots p hp).1);exact T.keep (I5.pots p hp).2 (C3 np) λb o hb e=>fD _ b o hb e
    ·by_cases haD:a=D
     ·subst haD;exact⟨_,E8,trivial⟩
     ·obtain⟨o,e,m⟩:=I5.mu a ha;exact⟨o,by rw[C3 haD];exact e,m⟩
    ·obtain⟨x,v,rfl,ev,r⟩:=I5.slots j s e;exact⟨x,v,rfl,ev,r.fr (fD _)⟩
    ·have nb:b≠D:=λz=>by rw[z,hD] at e;cases e
     rw[C3 nb];exact k1 b o hb e
    ·rw[E8,Rb lu]
  ·have ei:i=xs.length:=by omega
   subst ei;refine .inl ⟨hstop _ (C7 _),?_⟩;rw[AD] at hc;exact hQ _ _ n us H hc (λp hp=>(I.pots p hp).2) kp eD lk ra
def Io (i:Nat)(cs:List (Option Nat))(pi:pA)(pg:pG)(pk pv:pE):pS:=λD env n=>pi env n λxs jc n1=>xs.length<=1000000/\dcL pg pk pv xs [] [] (capV cs jc) n1 λks ys n2=>D.nx (jc.set i (some (.ow (.dk ks) ys))) n2
section
variable {T:PotK}{np:Bool}{ι:Type}{K:A9}{F:ι->Cx}{pg:pG}{pos spos py:Pos}{y:Str}{pk pv:pE}
theorem Rm (i:Nat){scope:G0}{cl:ι->List (Str×A0)}{N:List Str}{cs:List (Option Nat)}{kx vx tg iter:Expr}{pi:pA}(S:∀z,W6 (F z) scope (cl z) N cs)(hc:∀z,(F z).calm=true)(hi:QI T K F tg iter pi)
   (hg:QG K (λy:ι×List A0×A0×A5×Hp=>E4 (F y.1) scope (cl y.1) N y.2.1 y.2.2.1 y.2.2.2.1 y.2.2.2.2) tg pg)
   (hk:QE T K (λy:ι×List A0×A0×A5×Hp=>E4 (F y.1) scope (cl y.1) N y.2.1 y.2.2.1 y.2.2.2.1 y.2.2.2.2) kx pk)
   (hv:QE T K (λy:ι×List A0×A0×A5×Hp=>E4 (F y.1) scope (cl y.1) N y.2.1 y.2.2.1 y.2.2.2.1 y.2.2.2.2) vx pv)
   (hN:∀z,(F z).N.Nodup) (hiy:∀z,(F z).N[i]?=some y) (hy:∀z,Loc (F z).env.scope y)
   (hsw:∀z,d8 (.DictComp kx vx [⟨tg,iter,[],0⟩] scope pos) (some (.Name y py)) spos.line (F z).env=pure true:=by intro _;rfl) (hf:∀z,(F z).fn y=true\/(F z).env.scope.names.lookup y=some .local:=by intro _;first|exact .inl rfl|exact .inr rfl)
   (hs:∀z x,Q9 iter (F z).env x=pure x:=by intro _ _;rfl):QS T np K F (.Assign [.Name y py] (.DictComp kx vx [⟨tg,iter,[],0⟩] scope pos) spos) (Io i cs pi pg pk pv):=by
 obtain⟨wi,i1,i2⟩:=hi;obtain⟨g,hg0,hg⟩:=hg;obtain⟨tk,hk0,hk⟩:=hk;obtain⟨tv,hv0,hv⟩:=hv;refine⟨_,λz=>Rj (hN z) (hiy z) (hy z) (S z) (hc z) (i1 z) (λfp C s H=>⟨hg0 (z,fp,C,s,H),JU,hk0 (z,fp,C,s,H),hv0 (z,fp,C,s,H)⟩) (hsw z) (hs z) (hf z),λC G σ H env n PD DD hK hT hn S hp L=>?_⟩;refine i2 C G σ H env n _ _ hK hT S hp λxs jc n1 J H1 p1 S1 f1 hJ=>?_;intro D hD;have hDM:=S1.fresh hD;refine Rl (G:=G) hg hk hv hJ p1.1 hD (hT▸hK▸Fp S1 cs) p1.2 λks ys n2 us H' rr hpots hk eD lk ry=>?_;have nD:∀b o,H1 b=some o->b≠D:=λb o e z=>by rw[z,hD] at e;cases e
 have hk2:∀b o,b∉G.pots->H1 b=some o->cutH H' D b=some o:=λb o hb e=>by rw[Q6 (nD b o e)];exact hk b o hb e
 have nc:∀b,b∉D::G.M->b≠D:=λb hb z=>hb (by rw[z];exact C6);have npp:∀p∈G.pots,p≠D:=λp hp z=>hDM (z▸(S1.pots p hp).1)
 have Sb:SR C G σ (cutH H' D) jc n2:=S1.call hk2 λp hp=>by
  subst hT;have h2:=C.T.keep (hpots p hp) (H':=cutH H' D) (Q6 (npp p hp)) λb o hb e=>by rw[Q6 (nc b hb)];exact e
  exact C.T.more h2 λa ha=>.inl (C5 _ ha)
 have hb:cutH H' D D=none:=by unfold cutH;rw[jt rfl]
 have r1:Reps C.K G (cutH H' D) ys us:=hK▸Reps.mono (G:=⟨D::G.M,G.pots⟩) (λb o hb e=>by rw[Q6 (nc b hb)];exact e) (λa ha=>.inl (C5 _ ha)) (λ_ _ e=>e) _ _ ry;have S2:=Sb.ow i (.dk ks) hb r1;have eH:upd (cutH H' D) D (mkO (.dk ks) us)=H':=Fq eD;rw[eH] at S2;refine L.nx _ _ _ _ _ rr S2 (((Ext.fr f1).trans (Ext.fr λb o hb e=>hk2 b o (λz=>hb (S1.pots b z).1) e)).trans ?_);have:=Ch (G:=G) (o:=mkO (.dk ks) us) hb;rw[eH] at this;exact this
end
end Pu
end
section
namespace L2
open PySem PySem.Spec PyProof.Rows
def rInDK:R2:=λy x H Q=>∃a o,x=.ref a/\DGet H a y o/\Q (.bl o.isSome) H
theorem Ro {X:Cx}(hu:X.A.units+1<cLine):OpR X (M1 .In) rInDK:=by
 intro jb s σ H x y v u Q I rx ry h;obtain⟨a,o,rfl,g,q⟩:=h;cases ry;exact d_in hu I g rx λs3 I3=>⟨.bl o.isSome,H,I3,rfl,q⟩
end L2
namespace Pu
open PySem PySem.Spec L2
section
variable {T:PotK}{np:Bool}{ι:Type}{K:A9}{F:ι->Cx}{e:Expr}{pk:pE}{pos tpos:Pos}
def memK (ks:List Key)(k:Key):Bool:=ks.any λz=>decide (z=k)
theorem Ip {ks:List Key}{k:Key}:memK ks k=true↔k∈ks:=by
 unfold memK;rw[Y9];constructor
 ·rintro⟨x,h1,h2⟩;have:x=k:=by simpa using h2
  exact this▸h1
 ·intro h;exact⟨k,h,by simp⟩
def wInD:w2:=λx y R=>match keyV x,y with|some k,.dct ks _=>R (.bl (memK ks k))|_,_=>False
theorem Ly {jg:List (Key×V)}{k:Key}:(valV jg k).isSome=memK (jg.map (·.1)) k:=by
 rw[<- KF];unfold memK;rw[AG];rfl
theorem W2.inD:W2 K rInDK wInD:=by
 intro G H x y v u R Q hf rx ry hw k;unfold wInD at hw
 split at hw
 ·rename_i kk ks xs ek;obtain⟨a,jg,rfl,hM,ha,ek2,rr⟩:=ry.rep (λ_ z=>nomatch z);have rx':Rep K G H x v:=rx.rep λys z=>by subst z;cases ek
  rw[Im rx' ek];refine⟨a,valV jg kk,rfl,DGet.k ha,k _ _ _ hw (Same.refl _) ?_⟩;rw[Ly,ek2];rfl
 ·exact hw.elim
theorem cInD {k:Nat}(hr:∀z,Room k (F z).A):Cmp K F .In wInD:=⟨_,λz=>Ro (hu_of (hr z)),W2.inD⟩
def b7 (ks:List Key)(xs:List α)(k:Key):List α:=((ks.zip xs).filter λp=>decide (p.1≠k)).map (·.2)
def b8 (ks:List Key)(k:Key):List Key:=ks.filter λz=>decide (z≠k)
theorem Lz {α:Type}:∀{ks:List Key} {vs:List α} (h:ks.length=vs.length) (k:Key),(ks.zip vs).filter (λp=>decide (p.1≠k))=(b8 ks k).zip (b7 ks vs k)
 |[],[],_,_=>rfl
 | z :: ks, v :: vs, h, k => by
  have ih:=Lz (ks:=ks) (vs:=vs) (by simpa using h) k;unfold b8 b7 at ih ⊢
  by_cases c:z=k
  ·rw[O9,AA (by simp[c]),AA (by simp[c])];exact ih
  ·rw[O9,AB (by simp[c]),AB (by simp[c]),F2,O9,<- ih]
theorem LA {G:Gh}{H:Hp}(k:Key):∀{ks:List Key} {xs:List PV} {vs:List V},Reps K G H xs vs->Reps K G H (b7 ks xs k) (b7 ks vs k)
 |[],_,_,_=>rfl
 |z::ks,[],vs,h=>by cases(show vs=[] from h);exact rfl
 | z :: ks, x :: xs, vs, h => by
  obtain⟨v,r,rfl,h1,h2⟩:=h;have ih:=LA k (ks:=ks) h2;unfold b7 at ih ⊢
  by_cases c:z=k
  ·rw[O9,AA (by simp[c]),O9,AA (by simp[c])];exact ih
  ·rw[O9,AB (by simp[c]),O9,AB (by simp[c]),F2,F2];exact .cons h1 ih
def DP (i:Nat)(pk:pE):pS:=λD env n=>(∃ks xs,env[i]?=some (some (.ow (.dk ks) xs)))/\pk env n λy jd n2=>match jd[i]?,keyV y with
 |some (some (.ow (.dk ks) xs)),some k=>ks.length=xs.length/\k∈ks/\D.nx (jd.set i (some (.ow (.dk (b8 ks k)) (b7 ks xs k)))) n2
 |_,_=>False
theorem Rp (i:Nat){o ix:Expr}(ho:∀z,EW (F z) o (tVar i))(hi:QE T K F ix pk):QS T np K F (.Delete [.Subscript o ix tpos] pos) (DP i pk):=by
 obtain⟨ti,i1,i2⟩:=hi;refine⟨_,λz=>Qg (ho z).h (i1 z),λC G σ H env n PD D hK hT hn S hp L=>?_⟩;obtain⟨⟨ks0,xs0,e0⟩,q1⟩:=hp;obtain⟨a,vs,ev,h1,h2,h3,h4,r⟩:=S.slots i _ e0;refine⟨.ref a,ev,?_⟩;refine i2 C G σ H env n _ _ hK hT S q1 λy jd n2 w H2 q2 S2 r2 f2=>?_
 split at q2
 ·rename_i ks xs k ex ek;obtain⟨hl,hm,q3⟩:=q2;obtain⟨a',us,ev',g1,g2,g3,g4,r'⟩:=S2.slots i _ ex;rw[ev] at ev';cases ev';subst hK;have hlv:ks.length=us.length:=by rw[hl];exact r'.length
  have ew:=Im r2 ek;subst ew;obtain⟨S3,f3⟩:=S2.putO (.dk (b8 ks k)) ex ev (LA k r')
  have eH:upd H2 a (mkO (.dk (b8 ks k)) (b7 ks us k))=upd H2 a (.dK (Cj (ks.zip us) k)):=by
   show upd H2 a (.dK ((b8 ks k).zip (b7 ks us k)))=_;rw[<- Lz hlv];rfl
  rw[eH] at S3 f3;refine⟨a,ks.zip us,k,rfl,g4,rfl,?_,L.nx _ _ _ _ _ q3 S3 (Ext.fr (f2.trans f3))⟩;rw[Ly,List.map_fst_zip (BJ hlv)];exact Ip.mpr hm
 ·exact q2.elim
end
end Pu
end
section
namespace Pu
open PySem PySem.Spec L2
abbrev pSlN:=Env->Nat->(List Slot->Env->Nat->Prop)->Prop
def Iq:pSlN:=λenv n R=>R [] env n
def Co (s:pSl)(r:pSlN):pSlN:=λenv n R=>s env n λa jc n1=>r jc n1 λss jd n2=>R (a::ss) jd n2
def setAll:List Nat->List Slot->Env->Env
 |i::is,s::ss,env=>setAll is ss (env.set i (some s))
 |_,_,env=>env
def Ir:List Nat->List V->St->St
 |i::is,v::vs,σ=>Ir is vs (σ.set i (some v))
 |_,_,σ=>σ
def Gots (C:Ct)(G:Gh)(H:Hp)(σ:St)(env:Env):List Slot->List V->Prop
 |[],vs=>vs=[]
 |s::ss,vs=>∃v r,vs=v::r/\Got C G H σ env s v/\(∀(xs:OK×List PV) a,s=.ow xs.1 xs.2->v=.ref a->∀(ys:OK×List PV) w,(Slot.ow ys.1 ys.2,w)∈ss.zip r->w≠.ref a)/\Gots C G H σ env ss r
def LsOk (K:A9)(T:PotK)(t:TA)(sl:pSlN):Prop:=∀(C:Ct) (G:Gh) (σ:St) (H:Hp) (env:Env) (n:Nat) (R:List Slot->Env->Nat->Prop) (Q:List V->Hp->Prop),C.K=K->C.T=T->SR C G σ H env n->sl env n R->
 (∀ss jh n' vs G' H',R ss jh n'->SR C G' σ H' jh n'->Ext G H G' H'->Gots C G' H' σ jh ss vs->Q vs H')->t σ H Q
def QLs {ι:Type}(T:PotK)(K:A9)(F:ι->Cx)(es:List Expr)(sl:pSlN):Prop:=∃t,(∀z,PA (F z) es t)/\LsOk K T t sl
section
variable {T:PotK}{np:Bool}{ι:Type}{K:A9}{F:ι->Cx}{e:Expr}{es:List Expr}{st:Stmt}{s1:pSl}{sl:pSlN}{pos:Pos}
theorem Rq:QLs T K F [] Iq:=⟨tNil,λz=>K5,λC G σ H env n R Q hK hT S hp k=>k _ _ _ _ _ _ hp S Ext.refl rfl⟩
theorem Gots.unguard:∀{ss:List Slot} {vs:List V},Gots (C.guard a us) G H σ env ss vs->Gots C G H σ env ss vs/\∀(ys:OK×List PV) w,(Slot.ow ys.1 ys.2,w)∈ss.zip vs->w≠.ref a
 |[],_,h=>⟨h,λ_ _ z=>by simp at z⟩
 | s :: ss, vs, h => by
  obtain⟨v,r,rfl,g,ne,h⟩:=h;obtain⟨h1,h2⟩:=Gots.unguard h
  have gy:Got C G H σ env s v:=by
   refine⟨?_,g.2⟩;cases s with
   |v x=>exact g.1
   | ow kk ys =>
    obtain⟨b,us,ev,g1,g2,g3,g4,r⟩:=g.1;exact⟨b,us,ev,g1,λz=>g2 (C5 _ z),g3,g4,r⟩
  refine⟨⟨v,r,rfl,gy,ne,h1⟩,λys w hw ew=>?_⟩;rw[O9] at hw;rcases D0.mp hw with e|hw
  ·cases e;obtain⟨b,us,ev,g1,g2,_⟩:=g.1;rw[ew] at ev;cases ev;exact g2 C6
  ·grind
theorem FQ (h:QL T K F e s1)(hr:QLs T K F es sl)(n1:F9 e=true:=by rfl):QLs T K F (e::es) (Co s1 sl):=by
 obtain⟨t,a1,a2⟩:=h;obtain⟨u,b1,b2⟩:=hr;refine⟨Z4 t u,λz=>F8 (a1 z) (b1 z) (D9 n1),λC G σ H env n R Q hK hT S hp k=>?_⟩;refine a2 C G σ H env n _ _ hK hT S hp (λx jc n1 v H1 q1 S1 r1 f1=>?_) λxs jc n1 a vs Hb q1 S1 f1 hn rs=>?_
 ·refine b2 C G σ H1 jc n1 _ _ hK hT S1 q1 λss jd n2 ws G2 H2 q2 S2 x2 g2=>?_;exact k _ _ _ _ _ _ q2 S2 ((Ext.fr f1).trans x2) ⟨v,ws,rfl,⟨⟨v,rfl,Rep.mono x2.keep x2.new x2.pot _ _ (hK▸r1)⟩,λ_ _ z=>nomatch z⟩,(λ_ _ z=>nomatch z),g2⟩
 ·have aM:=S1.fresh hn;have HI:=S1.guard vs hn;have a0:a∉C.M0:=λz=>aM (S1.sup a z);have aH:=S1.old hn;have x1:Ext G H ⟨a::G.M,G.pots⟩ (upd Hb a (.lst vs)):=(Ext.fr f1).trans (Ch hn);have r1:Reps C.K ⟨a::G.M,G.pots⟩ (upd Hb a (.lst vs)) xs vs:=Reps.mono (G':=⟨a::G.M,G.pots⟩) (H':=upd Hb a (.lst vs)) (λb o _ e=>Same.lay1 hn b o e) (λc hc=>(D0.mp (show c∈a::G.M from hc)).elim (λz=>.inr (z▸hn)) .inl) (λ_ _ e=>e) _ _ (hK▸rs);refine b2 (C.guard a vs) ⟨a::G.M,G.pots⟩ σ (upd Hb a (.lst vs)) jc n1 _ _ hK hT HI q1 λss jd n2 ws G2 H2 q2 S2 x2 g2=>?_;obtain⟨S3,e3,no⟩:=S2.unguard a0 S1.p0.1 aH;have aM2:a∈G2.M:=S2.sup a C6
  have ap2:a∉G2.pots:=λz=>by
   by_cases hz:a∈C.pots0
   ·exact a0 (S1.p0.1 a hz)
   ·exact S2.newp a z hz C6
  obtain⟨g3,g4⟩:=Gots.unguard g2;refine k _ _ _ _ _ _ q2 S3 (x1.trans x2) ⟨.ref a,ws,rfl,⟨⟨a,vs,rfl,aM2,a0,ap2,e3,Reps.mono x2.keep x2.new x2.pot _ _ r1⟩,λ_ _ _ e=>by cases e;exact no⟩,λxs' b ex ev ys w hw=>?_,g3⟩;cases ev;exact g4 ys w hw
theorem Gots.len:∀{ss:List Slot} {vs:List V},Gots C G H σ env ss vs->ss.length=vs.length
 |[],_,h=>by cases(show _=[] from h);rfl
 | s :: ss, vs, h => by
  obtain⟨v,r,rfl,g,ne,h⟩:=h;have:=Gots.len h;simp[this]
theorem Gots.set (hl:env.length=σ.length):∀{ss:List Slot} {vs:List V},Gots C G H σ env ss vs->(∀(xs:OK×List PV) a,s0=.ow xs.1 xs.2->v0=.ref a->∀(ys:OK×List PV) w,(Slot.ow ys.1 ys.2,w)∈ss.zip vs->w≠.ref a)->Gots C G H (σ.set i (some v0)) (env.set i (some s0)) ss vs
 |[],_,h,_=>h
 | s :: ss, vs, h, no => by
  obtain⟨v,r,rfl,g,ne,h⟩:=h;refine⟨v,r,rfl,⟨g.1,λxs a e1 e2 z=>?_⟩,ne,Gots.set hl h λxs a e1 e2 ys w hw=>no xs a e1 e2 ys w (by rw[O9];exact C5 _ hw)⟩;rcases DA hl z with z|⟨⟨zs,ez⟩,ev⟩
  ·exact g.2 xs a e1 e2 z
  ·exact no zs a ez ev xs v (by rw[O9,e1];exact C6) e2
theorem SR.setAll:∀(is:List Nat) (ss:List Slot) (vs:List V) {σ:St} {env:Env},SR C G σ H env n->Gots C G H σ env ss vs->SR C G (Ir is vs σ) H (Pu.setAll is ss env) n
 |[],_,_,_,_,S,_=>S
 |i::is,[],vs,_,_,S,g=>by cases(show vs=[] from g);exact S
 | i :: is, s :: ss, vs, σ, env, S, g => by
  obtain⟨v,r,rfl,g1,ne,g2⟩:=g;exact SR.setAll is ss r (S.slot i g1.1 g1.2) (g2.set S.len ne)
theorem Gots.same (sm:Same H H'):∀{ss:List Slot} {vs:List V},Gots C G H σ env ss vs->Gots C G H' σ env ss vs
 |[],_,h=>h
 | s :: ss, vs, h => by
  obtain⟨v,r,rfl,g,ne,h⟩:=h;refine⟨v,r,rfl,⟨?_,g.2⟩,ne,h.same sm⟩;have r:=g.1;cases s with
  |v x=>obtain⟨v',e,r⟩:=r;exact⟨v',e,r.same sm⟩
  |ow kk xs=>obtain⟨b,us,e,h1,h2,h3,h4,r⟩:=r;exact⟨b,us,e,h1,h2,h3,sm _ _ h4,r.same sm⟩
def Aj:List Nat->TGs
 |[]=>gNil
 |i::is=>W5 (L9 i) (Aj is)
theorem LB:∀(is:List Nat) (vs:List V) {σ:St} {H:Hp} {Q:St->Hp->Prop},is.length=vs.length->Q (Ir is vs σ) H->Aj is vs σ H Q
 |[],[],_,_,_,_,q=>⟨rfl,q⟩
 |i::is,v::vs,σ,H,Q,h,q=>⟨v,vs,rfl,LB is vs (by grind) q⟩
theorem gw_tup (K:A9)(hc:X.calm=true)(h:PGs X es (Aj is))(hn:(J3 es X.env).length=m:=by rfl)(hst:(J3 es X.env).findIdx? (·.1)=none:=by rfl)(hK:X.K=K:=by rfl):GW X (.Tuple es k pos) (gTup K m (Aj is)):=⟨hK▸Fa hc h hn hst⟩
theorem FR (h1:GW X e (L9 i))(h2:PGs X es (Aj is))(hs:(J3 (e::es) X.env).map (·.2)=assign e X.env::(J3 es X.env).map (·.2):=by rfl):PGs X (e::es) (Aj (i::is)):=BY h1.h h2 hs
theorem pgs_n:PGs X [] (Aj []):=E_
def Iu (is:List Nat)(sl:pSlN):pS:=λD env n=>sl env n λss jc n1=>ss.length=is.length/\D.nx (setAll is ss jc) n1
theorem Rr (is:List Nat)(h:∀z te g,EW (F z) (.Tuple es k p) te->GW (F z) tg g->SW (F z) st (tAsg te g))(hg:∀z,GW (F z) tg (gTup K is.length (Aj is)))(h1:QLs T K F es sl)(hz:is.length<=100:=by decide):QS T np K F st (Iu is sl):=by
 obtain⟨t,a1,a2⟩:=h1;refine⟨_,λz=>(h z _ _ ⟨Fd (a1 z)⟩ (hg z)).h,λC G σ H env n PD D hK hT hn S hp L=>?_⟩;refine a2 C G σ H env n _ _ hK hT S hp λss jd n2 vs G2 H2 q S2 x2 g=>?_;have lv:vs.length=is.length:=g.len.symm.trans q.1;refine⟨by rw[lv];exact J9 hz (by decide),λp hn'=>⟨p,vs,rfl,SqT.of E8,lv,LB is vs lv.symm ?_⟩⟩;have sm:Same H2 (upd H2 p (.tup vs)):=Same.lay1 hn';exact L.nx _ _ _ _ _ q.2 (SR.setAll is ss vs (S2.same sm) (g.same sm)) (x2.trans (Ext.fr (Fr.of sm)))
end
end Pu
end
section
namespace L2
open PySem PySem.Spec PyProof.Rows
section
variable {prog:D1}{w:C9}{A:D5}{E:A1->A5->Prop}{s:A5}
theorem LC {it t:A0}{items:Array A1}(hne:t≠it):∀(n i:Nat) (s:A5) (Q:List A1->A5->Prop),s.heap.IsListIter it t i->s.heap.IsList t items->i+n<=items.size->
   (∀h':B6,h'.IsListIter it t (i+n)->V2 it s.heap h'->Q ((items.toList.drop i).take n) { s with heap:=h' })->A6 (A7 prog w) A (draw (.ref it) n) Q E s
 | 0, i, s, Q, hit, _, _, hQ => by
  show A6 _ _ (pure []) Q E s;exact B2 (by simpa using hQ s.heap hit (Heap.SameBut.refl ..))
 | n + 1, i, s, Q, hit, ht, hle, hQ => by
  have hlt:i<items.size:=by omega
  show A6 _ _ (pyNext (.ref it)>>=_) Q E s;refine A2 (wpAny_pyNext_list_item hit ht (x:=items[i]) (by simp[hlt]) λh₁ hit₁ hs₁=>?_);refine A2 (J7 (LC hne n (i+1) _ _ hit₁ (ht.extBut hs₁.extBut hne) (by omega) λh₂ hit₂ hs₂=>B2 ?_));have hd:items.toList.drop i=items[i]::items.toList.drop (i+1):=by simp[w8,hlt]
  have:=hQ h₂ (by rw[show i+(n+1)=i+1+n by omega];exact hit₂) (hs₁.trans hs₂);rw[hd,List.take_succ_cons] at this;exact this
theorem Rt {env:Env}{elts:List Expr}{x1}{pos:Pos}{t:A0}{items:Array A1}{Q:Unit->A5->Prop}(hh:A.handled=none)(ht:s.heap.IsList t items)
   (hn:(J3 elts env).length=items.size) (hstar:(J3 elts env).findIdx? (·.1)=none)
   (h:∀h',CQ s.heap.objs.size s.heap h'->A6 (A7 prog w) A (Au ((J3 elts env).map (·.2)) items.toList) Q E { s with heap:=h' }) :
   A6 (A7 prog w) A (assign (.Tuple elts x1 pos) env (.ref t)) Q E s:=by
 rw[assign_Tuple];refine A2 (R7 ?_);have hlt:t≠s.heap.objs.size:=by obtain⟨o,ho,_⟩:=ht;exact D3 (C4 ho)
 unfold unpack;rw[hn,hstar];refine A2 (J7 ?_);unfold unpackItems;refine A2 ?_;unfold notIterableAtAll;refine A2 (Bu ht.typeIs slot_list_iter.lookup ?_);refine B2 ?_;simp only[J5,if_false];refine A2 (J7 (Bt ht ?_));refine A2 (J7 (LC hlt items.size 0 _ _ ⟨_,E9 _ rfl,rfl,rfl⟩ (ht.push _) (by omega) λh₁ hit₁ hs₁=>?_))
 have hall:List.take items.size (List.drop 0 items.toList)=items.toList:=by
  rw[List.drop_zero];exact BA (by simp)
 rw[hall];rw[ju (by simp)];have ht₁:h₁.IsList t items:=(ht.push _).extBut hs₁.extBut hlt;refine A2 (J7 (wpAny_pyNext_list_end hh hit₁ ht₁ (by simp) λh₂ he₂=>?_));simp only[Option.isSome_none,J5,if_false];exact B2 (h h₂ λb o hb e=>he₂ b o hb (hs₁.extBut b o hb (C2 _ e)))
end
section
variable {X:Cx}{pos:Pos}
def gLst (K:A9)(n:Nat)(t:TGs):TG:=λv σ H Q=>∃a xs,v=.ref a/\SqL K H a xs/\xs.length=n/\t xs σ H Q
theorem pg_lst (hc:X.calm=true)(h:PGs X es t)
   (hn:(J3 es X.env).length=n:=by rfl) (hst:(J3 es X.env).findIdx? (·.1)=none:=by rfl):PG X (.Tuple es k pos) (gLst X.K n t):=by
 intro jb s σ H v u Q I r hw;obtain⟨a,xs,e1,hq,hl,hw⟩:=hw;subst e1;cases r;obtain⟨jf,rv,ht⟩:=I.sqL hq;refine Rt (I.ok.hd hc) ht (by simp[hn,<- hl,rv.length]) hst λh' hx=>?_;have I1:Inv X jb σ H { s with heap:=h' }:=I.kept (t':=s.toks) λb o e=>hx b o (D3 (C4 e)) e;exact h jb _ σ H xs _ Q I1 (by simpa using rv) hw
end
end L2
namespace Pu
open PySem PySem.Spec L2
section
variable {ι:Type}{K:A9}{F:ι->Cx}{es:List Expr}{pgs:pGs}{pos:Pos}
def gTl (m:Nat)(g:pGs):pG:=λx env R=>match x with|.lst xs=>xs.length=m/\g xs env R|_=>False
theorem qg_lst (hc:∀z,(F z).calm=true)(h:QGs K F es pgs)(hn:∀z,(J3 es (F z).env).length=m:=by intro _;rfl)(hst:∀z,(J3 es (F z).env).findIdx? (·.1)=none:=by intro _;rfl)(hK:∀z,(F z).K=K:=by intro _;rfl):QG K F (.Tuple es k pos) (gTl m pgs):=by
 obtain⟨g,a1,a2⟩:=h;refine⟨_,λz=>hK z▸pg_lst (hc z) (a1 z) (hn z) (hst z),λC G σ H env n x v R Q hK S r hp k=>?_⟩;cases x with
 | lst xs =>
  obtain⟨a,vs,rfl,t,rs⟩:=r;exact⟨a,vs,rfl,t.sq,by rw[<- rs.length];exact hp.1,a2 C G σ H env n xs vs _ _ hK S rs hp.2 k⟩
 |_=>exact hp.elim
end
end Pu
end
section
namespace L2
open PySem PySem.Spec PyProof.Rows
abbrev LC2 (ji t1 i1 t2 i2:Expr)(jk:List Expr)(scope:G0)(pos:Pos):Expr:=.ListComp ji [⟨t1,i1,[],0⟩,⟨t2,i2,jk,0⟩] scope pos
theorem Ru (ji t1 i1 t2 i2:Expr)(jk:List Expr)(scope:G0)(pos:Pos)(it jm:A1)(env:Env) :
   compTurn (LC2 ji t1 i1 t2 i2 jk scope pos) 1 it jm env=(do
    e7 i2.pos
    match ← pyNext it with
    |none=>pure (.done .next)
    | some v =>
     l8 t2 it v
     assign t2 env v
     let mut ok:=true
     for c in jk do
      if ok then ok ← isTrue c env (eval c env)
     if ok then
      (do let _ ← call (.builtin "list.append") [jm,<- eval ji env])
     again (.compLoop (LC2 ji t1 i1 t2 i2 jk scope pos) 1 it jm env)):=by rfl
section
variable {prog:D1}{w:C9}{A:D5}{R:Result->A5->Prop}{s:A5}{ji t1 i1 t2 i2:Expr}{jk:List Expr}{scope:G0}{pos:Pos}{it jm:A1}{env:Env}
theorem loop_i (I:Nat->A5->Prop)
   (turn:∀n s,I n s->A6 (A7 prog w) A (pyNext it) (fun r s₁=>match r with
    |none=>R (.ok .next) s₁
    |some v=>A6 (A7 prog w) A (l8 t2 it v) (λ_ s₁'=>A6 (A7 prog w) A (assign t2 env v) (λ_ s₂=>
        A6 (A7 prog w) A (forIn jk true fun c r=>if r=true then do let ok ← isTrue c env (eval c env);pure (i8 ok) else pure (i8 r)) (fun ok s₃=>
         if ok=true then A6 (A7 prog w) A (eval ji env) (λx s₄=>
          A6 (A7 prog w) A (call (.builtin "list.append") [jm,x]) (λ_ s₅=>∃m,m<n/\I m s₅) (λ_ _=>False) s₄) (λ_ _=>False) s₃
         else ∃m,m<n/\I m s₃) (λ_ _=>False) s₂) (λ_ _=>False) s₁') (λ_ _=>False) s₁) (λ_ _=>False) s)
   (n:Nat) (h:I n s):M5 (A7 prog w) A (.compLoop (LC2 ji t1 i1 t2 i2 jk scope pos) 1 it jm env) R s:=by
 refine codeAny_loop rfl I (λn s hI=>?_) n h;show A6 _ A ((compTurn (LC2 ji t1 i1 t2 i2 jk scope pos) 1 it jm env).onRaise (λx=>do noteFrame x env;Ek x)) _ _ s;refine wpAny_noted ?_;rw[Ru];refine A2 (R7 (A2 (G7 (turn n s hI) (λr s₁ h₁=>?_) λ_ _ h'=>h'.elim)));cases r with
 |none=>exact B2 h₁
 | some v =>
  refine A2 (G7 h₁ (λ_ s₁' h₁'=>?_) λ_ _ h'=>h'.elim);refine A2 (G7 h₁' (λ_ s₂ h₂=>A2 (G7 h₂ (λok s₃ h₃=>?_) λ_ _ h'=>h'.elim)) λ_ _ h'=>h'.elim);cases ok with
  |false=>exact B2 ⟨rfl,h₃⟩
  | true =>
   exact A2 (A2 (G7 h₃ (λx s₄ h₄=>A2 (G7 h₄ (λ_ s₅ h₅=>B2 (B2 ⟨rfl,h₅⟩)) λ_ _ h'=>h'.elim)) λ_ _ h'=>h'.elim))
theorem Rv (h0:M5 (A7 prog w) A (.compLoop (LC2 ji t1 i1 t2 i2 jk scope pos) 1 it jm env) R s)
   (h:A6 (A7 prog w) A (pyIter it) (λit' s'=>M5 (A7 prog w) A (.compLoop (LC2 ji t1 i1 t2 i2 jk scope pos) 1 it' jm env) R s') (λ_ _=>False) s) :
   M5 (A7 prog w) A (.compStart (LC2 ji t1 i1 t2 i2 jk scope pos) 1 it jm env) R s:=by
 refine codeAny_of_tree ?_;show A6 _ _ ((compStart (LC2 ji t1 i1 t2 i2 jk scope pos) 1 it jm env).onRaise (λx=>do noteFrame x env;e7 theWindowsPlace)) _ _ s;refine wpAny_notedAt ?_;unfold compStart;show A6 _ _ (ask>>=_) _ _ s;refine A2 (Eh (wpAny_ite ?_))
 split
 ·first
    |exact A2 (B2 (B2 (And.intro rfl h0)))
    |exact B2 (And.intro rfl h0)
 ·first
    |exact A2 (d7 (A2 (R7 (A2 (G7 h (λit' s' h'=>B2 (And.intro rfl h')) λ_ _ x=>x.elim)))))
    |(refine A2 (d7 ?_);show A6 _ _ (e7 i2.pos>>=_) _ _ s;exact A2 (R7 (A2 (G7 h (λit' s' h'=>B2 (And.intro rfl h')) λ_ _ x=>x.elim))))
theorem loop_o (hs:∀x,Q9 i2 env x=pure x)(I:Nat->A5->Prop)
   (turn:∀n s,I n s->A6 (A7 prog w) A (pyNext it) (fun r s₁=>match r with
    |none=>R (.ok .next) s₁
    |some v=>A6 (A7 prog w) A (l8 t1 it v) (λ_ s₁'=>A6 (A7 prog w) A (assign t1 env v) (λ_ s₂=>
        A6 (A7 prog w) A (eval i2 env) (λx s₃=>A6 (A7 prog w) A (pyIter x) (λit2 s₄=>
         M5 (A7 prog w) A (.compStart (LC2 ji t1 i1 t2 i2 jk scope pos) 1 it2 jm env) (λr s'=>r=.ok .next/\∃m,m<n/\I m s') s₄) (λ_ _=>False) s₃) (λ_ _=>False) s₂) (λ_ _=>False) s₁') (λ_ _=>False) s₁) (λ_ _=>False) s)
   (n:Nat) (h:I n s):M5 (A7 prog w) A (.compLoop (LC2 ji t1 i1 t2 i2 jk scope pos) 0 it jm env) R s:=by
 refine codeAny_loop rfl I (λn s hI=>?_) n h;show A6 _ A ((compTurn (LC2 ji t1 i1 t2 i2 jk scope pos) 0 it jm env).onRaise (λx=>do noteFrame x env;Ek x)) _ _ s;refine wpAny_noted ?_;unfold compTurn;show A6 _ _ (e7 i1.pos>>=_) _ _ s;refine A2 (R7 ?_);refine A2 (G7 (turn n s hI) (λr s₁ h₁=>?_) λ_ _ h'=>h'.elim);cases r with
 |none=>exact B2 h₁
 | some v =>
  refine A2 (G7 h₁ (λ_ s₁' h₁'=>?_) λ_ _ h'=>h'.elim);refine A2 (G7 h₁' (λ_ s₂ h₂=>A2 (wpAny_tests_nil ?_)) λ_ _ h'=>h'.elim);refine A2 (G7 h₂ (λx s₃ h₃=>?_) λ_ _ h'=>h'.elim);refine A2 (R7 ?_);show A6 _ _ (Q9 i2 env x>>=λx=>(T9 [x] (pyIter x)>>=λit2=>(runOwn (.compStart (LC2 ji t1 i1 t2 i2 jk scope pos) 1 it2 jm env) env>>=λ_=>again (.compLoop (LC2 ji t1 i1 t2 i2 jk scope pos) 0 it jm env)))) _ _ _;refine A2 (wpAny_of_eq (hs x) (A2 (J7 (G7 h₃ (λit2 s₄ h₄=>?_) λ_ _ h'=>h'.elim))));refine A2 (wpAny_runOwn ?_);rw[Around.mark_none];refine Ax h₄ λr s' hr=>?_;obtain⟨rfl,hr⟩:=hr;exact B2 ⟨rfl,hr⟩
end
def LD (J:It)(g:TG)(tt:TT)(te:TE)(D:A0)(N:St->Hp->Prop)(σ:St)(H:Hp):Prop:=∃W:Nat->Nat->St->Hp->Prop,(∃m,W 0 m σ H)/\
 ∀i m σ' H',W i m σ' H'->(J.stop i H'/\N σ' H')\/(J.go i H'/\∀x H2,J.yld i H' x H2->g x σ' H2 fun σ3 H3=>tt σ3 H3 fun b H4=>
    if b=true then te σ3 H4 λv H5=>∃ys,H5 D=some (.lst ys)/\ys.length<C8/\∃m',m'<m/\W (i+1) m' σ3 (upd H5 D (.lst (ys++[v])))
    else ∃m',m'<m/\W (i+1) m' σ3 H4)
def Iv (J:It)(g1:TG)(wi2:TI)(g2:TG)(tt:TT)(te:TE)(Q:VK)(D:A0)(σc:St)(H1:Hp):Prop:=∃W:Nat->Nat->St->Hp->Prop,(∃m,W 0 m σc H1)/\
 ∀i m σ' H',W i m σ' H'->(J.stop i H'/\Q (.ref D) H')\/(J.go i H'/\∀x H2,J.yld i H' x H2->g1 x σ' H2 λσ3 H3=>wi2 σ3 H3 λJ2 H4=>LD J2 g2 tt te D (λσ5 H5=>∃m',m'<m/\W (i+1) m' σ5 H5) σ3 H4)
def tComp2 (cs:List (Option Nat))(wi:TI)(g1:TG)(wi2:TI)(g2:TG)(tt:TT)(te:TE):TE:=λσ H Q=>wi σ H λJ H1=>∀D,H1 D=none->Iv J g1 wi2 g2 tt te Q D (Z5 cs σ) (upd H1 D (.lst []))
theorem loop2 {Y:Cx}{scope:G0}{ji t1 i1 t2 i2:Expr}{jk:List Expr}{pos:Pos}{wi2:TI}{g1 g2:TG}{tt:TT}{te:TE}{fp:List A0}{it D:A0}{tn:Nat->B6->Prop}{J:It}{s₃:A5}{H3:Hp}{σ3:St}{jb:List (A0×Obj)}{Q:VK}{R:Result->A5->Prop}(hx:Y.xe=λ_ _=>False)(hc:Y.calm=true)
   (hb:PG Y t1 g1/\PI Y t2 i2 wi2/\PG Y t2 g2/\PIf Y jk tt/\PE Y ji te) (hs2:∀x,Q9 i2 Y.env x=pure x) (T:Turn Y.prog Y.w Y.K t1 J fp it tn) (stat:∀{H':Hp},(∀b∈fp,H' b=none)->∀b∈fp,FpOk Y jb H' b) (q:Iv J g1 wi2 g2 tt te Q D σ3 H3)
   (fin:∀s4 σ4 H4,Inv Y jb σ4 H4 s4->Q (.ref D) H4->R (.ok .next) s4) (Ic:Inv Y jb σ3 H3 s₃) (st1:tn 0 s₃.heap) (fr1:∀b∈fp,H3 b=none) :
   M5 (A7 Y.prog Y.w) Y.A (.compLoop (LC2 ji t1 i1 t2 i2 jk scope pos) 0 (.ref it) (.ref D) Y.env) R s₃:=by
 obtain⟨W,⟨m0,w0⟩,turn⟩:=q;obtain⟨hg,hi2,hg2,hf,he⟩:=hb;refine loop_o hs2 (λn s'=>∃i σ' H',Inv Y jb σ' H' s'/\tn i s'.heap/\(∀b∈fp,H' b=none)/\W i n σ' H') ?_ m0 ⟨0,_,_,Ic,st1,fr1,w0⟩;rintro n s3 ⟨i,σ3,H3,I3,st3,fr3,w3⟩;rcases turn i n σ3 H3 w3 with⟨stop,qn⟩|⟨go,step⟩
 ·refine thn (T.done Y rfl rfl rfl hc i jb s3 σ3 H3 (λ_ _=>False) I3 (stat fr3) st3 stop) λr s4 ⟨hr,I4⟩=>?_;subst hr;exact fin s4 _ _ I4 qn
 ·refine thn (T.item Y rfl rfl rfl hc i jb s3 σ3 H3 (λ_ _=>False) I3 (stat fr3) st3 go) λr s4 ⟨u,hr,h4⟩=>?_;subst hr;refine thn h4 λ_ s5 ⟨x,H5,I5,r5,y5,st5,fr5⟩=>?_;refine thn (hx▸hg _ s5 σ3 H5 x u _ (I5.pinned (stat fr5) (T.obj _ _ st5)) r5 (step x H5 y5)) λ_ s6 ⟨σ6,H6,I6,q6⟩=>?_;refine thn (hx▸hi2 _ s6 σ6 H6 _ I6 q6) λv7 s7 h7=>thn h7 λitv s8 h8=>?_;obtain⟨it2,fp2,tn2,J2,H8,rfl,I8,T2,st8,f8,W2,⟨m2,w2⟩,turn2⟩:=h8
  have inner:M5 (A7 Y.prog Y.w) Y.A (.compLoop (LC2 ji t1 i1 t2 i2 jk scope pos) 1 (.ref it2) (.ref D) Y.env) (λr s'=>r=.ok .next/\∃m,m<n/\∃i σ' H',Inv Y jb σ' H' s'/\tn i s'.heap/\(∀b∈fp,H' b=none)/\W i m σ' H') s8:=
   loop_i (λn s'=>∃i σ' H',Inv Y (jb++AN fp s5.heap) σ' H' s'/\tn2 i s'.heap/\(∀b∈fp2,H' b=none)/\W2 i n σ' H') (by rw[<- hx];exact Hh T2 hc (λhn b hb=>⟨hn b hb,(f8 b hb).2⟩) hg2 hf he (λs10 σ9 H9 I10 qn2=>⟨rfl,Hg T st5 I10 qn2⟩) turn2) m2 ⟨0,σ6,H8,I8,st8,λb hb=>(f8 b hb).1,w2⟩
  exact Rv inner (T2.self _ 0 _ _ _ st8 inner)
theorem Rw {X:Cx}{scope:G0}{cl:List (Str×A0)}{N:List Str}{cs:List (Option Nat)}{ji t1 i1 t2 i2:Expr}{jk:List Expr}{pos:Pos}{wi1 wi2:TI}{g1 g2:TG}{tt:TT}{te:TE}(S:W6 X scope cl N cs)(hc:X.calm=true)(hi:PI X t1 i1 wi1)
   (hb:∀(fp:List A0) (C:A0) (s:A5) (H:Hp),PG (E4 X scope cl N fp C s H) t1 g1/\PI (E4 X scope cl N fp C s H) t2 i2 wi2/\PG (E4 X scope cl N fp C s H) t2 g2/\PIf (E4 X scope cl N fp C s H) jk tt/\PE (E4 X scope cl N fp C s H) ji te)
   (hs2:∀fp C s H x,Q9 i2 (E4 X scope cl N fp C s H).env x=pure x)
   (hs:∀x,Q9 i1 X.env x=pure x:=by intro _;rfl) :
   PE X (LC2 ji t1 i1 t2 i2 jk scope pos) (tComp2 cs wi1 g1 wi2 g2 tt te):=by
 intro jb s σ H Q I h;rw[eval_ListComp];exact Hi S hc hi hs I h λfp it tn J s2 H2 s₃ T stat I2 f2 q Ic st1 fr1=>loop2 (Y:=E4 X scope cl N fp (s2.heap.objs.size+1) s2 H2) rfl hc (hb _ _ _ _) (hs2 _ _ _ _) T stat q (λs4 σ3 H3 I4 qn=>JV I2 f2 I4 qn) Ic st1 fr1
end L2
end
section
namespace Pu
open PySem PySem.Spec L2
def DQ (g:pG)(tt:pT)(te:pE):List PV->Env->Nat->(List PV->Env->Nat->Prop)->Prop
 |[],env,n,R=>R [] env n
 |x::xs,env,n,R=>g x env λjc=>tt jc n λb jd n2=>if b=true then te jd n2 λy je n3=>DQ g tt te xs je n3 λys e m=>R (y::ys) e m else DQ g tt te xs jd n2 R
def Bg (g1:pG)(pi2:pA)(g2:pG)(tt:pT)(te:pE):List PV->Env->Nat->(List PV->Nat->Prop)->Prop
 |[],_,n,R=>R [] n
 |x::xs,env,n,R=>g1 x env λjc=>pi2 jc n λys jd n2=>ys.length<=1000/\DQ g2 tt te ys jd n2 λzs je n3=>Bg g1 pi2 g2 tt te xs je n3 λws n4=>R (zs++ws) n4
def Iw (cs:List (Option Nat))(pi1:pA)(g1:pG)(pi2:pA)(g2:pG)(tt:pT)(te:pE):pA:=λenv n R=>pi1 env n λxs jc n1=>xs.length<=1000/\Bg g1 pi2 g2 tt te xs (capV cs jc) n1 λys n2=>R ys jc n2
theorem Rx {K:A9}{T:PotK}{J:It}{g:TG}{tt:TT}{te:TE}{pg:pG}{ptt:pT}{pte:pE}(hg:GOk K g pg)(ht:TOk K T tt ptt)(he:EOk K T te pte){G:Gh}{H1 H4:Hp}{ys:List PV}{D:A0}(hJ:ItR K ⟨D::G.M,G.pots⟩ H4 J ys)(nD:D∉G.pots)(hD:H1 D=none){σ:St}{env:Env}{n:Nat}{jm:List PV}{us:List V}{P:List PV->Env->Nat->Prop}{N:St->Hp->Prop}(c:CI K T G H1 D σ H4 env n jm us)(hl:jm.length+ys.length<=1001000)(hc:DQ pg ptt pte ys env n P)
   (hN:∀zs env n us σ H,P zs env n->CI K T G H1 D σ H env n (jm++zs) us->zs.length<=ys.length->N σ H):LD J g tt te D N σ H4:=by
 refine⟨λj m σ H'=>m=ys.length-j/\j<=ys.length/\∃env n zs us2,CI K T G H1 D σ H' env n (jm++zs) us2/\Fr ⟨D::G.M,G.pots⟩ H4 H'/\zs.length<=j/\DQ pg ptt pte (ys.drop j) env n λws e m=>P (zs++ws) e m,⟨ys.length,rfl,K1 _,env,n,[],us,by rw[R9];exact c,Fr.refl,C7 _,hc⟩,?_⟩;rintro j m σ5 H5 ⟨rfl,hj,env5,n5,zs,us5,c5,fr5,la5,hc5⟩;obtain⟨hgo5,hstop5⟩:=hJ _ H5 fr5 (λa ha=>.inl ha) (λ_ _ e=>e) λp hp=>c5.inn.sr.fresh hp
 by_cases hlt5:j<ys.length
 ·obtain⟨u1,u2⟩:=hgo5 j _ (D8 hlt5);refine .inr ⟨u1,λv6 H6 y6=>?_⟩;obtain⟨s6,rv6⟩:=u2 v6 H6 y6;rw[w8 hlt5] at hc5;have np:∀b,b∉D::G.M->b∉G.pots:=λb hb z=>hb (c5.inn.pots b z).1;refine hg _ _ σ5 H6 env5 n5 ys[j] v6 _ _ rfl (c5.inn.sr.same s6) rv6 hc5 λenv7 σ7 hc7 S7=>?_;refine ht _ _ σ7 H6 env7 n5 _ _ rfl rfl S7 hc7 λb env8 n8 H8 hc8 S8 f8=>?_;cases b with
  |false=>exact⟨ys.length-(j+1),Dc _ _ hlt5,rfl,hlt5,env8,n8,zs,us5,c5.go nD S8,λb o hb e=>S8.frame b o (np b hb) (fr5 b o hb e),Ex la5,hc8⟩
  | true =>
   refine he _ _ σ7 H8 env8 n8 _ _ rfl rfl S8 hc8 λy env9 n9 u H9 hc9 S9 r9 f9=>?_;have c9:=c5.go nD S9;have c10:=c9.add nD hD r9;rw[N6] at c10;refine⟨us5,c9.eD,by rw[<- c5.ra.length,D4];exact BG (show _<=1001000 by omega) (by rw[K9];decide),ys.length-(j+1),Dc _ _ hlt5,rfl,hlt5,env9,n9,zs++[y],us5++[u],c10,Fr.trans (λb o hb e=>S9.frame b o (np b hb) (fr5 b o hb e)) (CI.fD _),by rw[D4];exact Nat.succ_le_succ la5,?_⟩;simp only[N6];exact hc9
 ·obtain rfl:j=ys.length:=Nat.le_antisymm hj (BH hlt5);rw[AD] at hc5;have h5:P (zs++[]) env5 n5:=hc5;rw[R9] at h5;exact .inl ⟨hstop5 _ (C7 _),hN zs env5 n5 us5 σ5 H5 h5 c5 la5⟩
theorem Ry {K:A9}{T:PotK}{J:It}{g1 g2:TG}{wi2:TI}{tt:TT}{te:TE}{pg1 pg2:pG}{pi2:pA}{ptt:pT}{pte:pE}(hg1:GOk K g1 pg1)(hi2:IOk K T wi2 pi2)(hg2:GOk K g2 pg2)(ht:TOk K T tt ptt)(he:EOk K T te pte){G:Gh}{H1:Hp}{xs:List PV}(hJ:ItR K G H1 J xs)(hl:xs.length<=1000)
   {σc:St} {env:Env} {n:Nat} {R:List PV->Nat->Prop} {Q:VK} {D:A0} (hD:H1 D=none) (I0:Inn K T G σc H1 env n) (hp:Bg pg1 pi2 pg2 ptt pte xs env n R)
   (hQ:∀ys n' us H',R ys n'->(∀p∈G.pots,T.at_ (D::G.M) H' p n')->(∀b o,b∉G.pots->H1 b=some o->H' b=some o)->H' D=some (.lst us)->Reps K ⟨D::G.M,G.pots⟩ H' ys us->Q (.ref D) H') :
   Iv J g1 wi2 g2 tt te Q D σc (upd H1 D (.lst [])):=by
 have nD:D∉G.pots:=λz=>I0.sr.fresh hD (I0.pots D z).1;refine⟨λi m σ H=>m=xs.length-i/\i<=xs.length/\∃env n jm us,CI K T G H1 D σ H env n jm us/\jm.length<=1000*i/\Bg pg1 pi2 pg2 ptt pte (xs.drop i) env n λys n'=>R (jm++ys) n',⟨xs.length,rfl,K1 _,env,n,[],[],.start hD I0,C7 _,hp⟩,?_⟩;rintro i m σ H ⟨rfl,hi,env,n,jm,us,c,la,hc⟩;obtain⟨hgo,hstop⟩:=c.it hD hJ
 by_cases hlt:i<xs.length
 ·obtain⟨gg1,gg2⟩:=hgo i _ (D8 hlt);refine .inr ⟨gg1,λv H2 y=>?_⟩;obtain⟨s2,rv⟩:=gg2 v H2 y;rw[w8 hlt] at hc;refine hg1 _ _ σ H2 env n xs[i] v _ _ rfl (c.inn.sr.same s2) rv hc λjc σ1 hc1 S2=>?_;refine hi2 _ _ σ1 H2 jc n _ _ rfl rfl S2 hc1 λys jd n2 J2 H4 q4 S4 f4 hJ2=>?_;refine Rx hg2 ht he hJ2 nD hD (c.go nD S4) (by have:=q4.1;omega) q4.2 λzs env5 n5 us5 σ5 H5 h5 c5 lz=>⟨xs.length-(i+1),Dc _ _ hlt,rfl,hlt,env5,n5,jm++zs,us5,c5,by rw[D4];have:=q4.1;omega,?_⟩;simp only[N6];exact h5
 ·obtain rfl:i=xs.length:=Nat.le_antisymm hi (BH hlt);rw[AD] at hc;have hc':R (jm++[]) n:=hc;rw[R9] at hc';exact .inl ⟨hstop _ (C7 _),hQ _ n us H hc' (λp hp=>(c.inn.pots p hp).2) c.kp c.eD c.ra⟩
section
variable {T:PotK}{ι:Type}{K:A9}{F:ι->Cx}{pg1 pg2:pG}{pos:Pos}
theorem Rz {scope:G0}{cl:ι->List (Str×A0)}{N:List Str}{cs:List (Option Nat)}{ji t1 i1 t2 i2:Expr}{jk:List Expr}{pi1 pi2:pA}{ptt:pT}{pte:pE}(S:∀z,W6 (F z) scope (cl z) N cs)(hc:∀z,(F z).calm=true)(hi:QI T K F t1 i1 pi1)
   (hg:QG K (λy:ι×List A0×A0×A5×Hp=>E4 (F y.1) scope (cl y.1) N y.2.1 y.2.2.1 y.2.2.2.1 y.2.2.2.2) t1 pg1)
   (hi2:QI T K (λy:ι×List A0×A0×A5×Hp=>E4 (F y.1) scope (cl y.1) N y.2.1 y.2.2.1 y.2.2.2.1 y.2.2.2.2) t2 i2 pi2)
   (hg2:QG K (λy:ι×List A0×A0×A5×Hp=>E4 (F y.1) scope (cl y.1) N y.2.1 y.2.2.1 y.2.2.2.1 y.2.2.2.2) t2 pg2)
   (ht:QIf T K (λy:ι×List A0×A0×A5×Hp=>E4 (F y.1) scope (cl y.1) N y.2.1 y.2.2.1 y.2.2.2.1 y.2.2.2.2) jk ptt)
   (he:QE T K (λy:ι×List A0×A0×A5×Hp=>E4 (F y.1) scope (cl y.1) N y.2.1 y.2.2.1 y.2.2.2.1 y.2.2.2.2) ji pte)
   (hs:∀z x,Q9 i1 (F z).env x=pure x:=by intro _ _;rfl) (hs2:∀z fp C s H x,Q9 i2 (E4 (F z) scope (cl z) N fp C s H).env x=pure x:=by intro _ _ _ _ _ _;rfl):QN T K F (LC2 ji t1 i1 t2 i2 jk scope pos) (Iw cs pi1 pg1 pi2 pg2 ptt pte):=by
 obtain⟨wi,i1',i2'⟩:=hi;obtain⟨g,hg0,hg⟩:=hg;obtain⟨wj,j1,j2⟩:=hi2;obtain⟨g2,hg20,hg2⟩:=hg2;obtain⟨tt,ht0,ht⟩:=ht;obtain⟨te,he0,he⟩:=he;refine⟨_,λz=>Rw (S z) (hc z) (i1' z) (λfp C s H=>⟨hg0 (z,fp,C,s,H),j1 (z,fp,C,s,H),hg20 (z,fp,C,s,H),ht0 (z,fp,C,s,H),he0 (z,fp,C,s,H)⟩) (hs2 z) (hs z),λC G σ H env n R Q hK hT S hp k=>?_⟩;refine i2' C G σ H env n _ _ hK hT S hp λxs jc n1 J H1 p1 S1 f1 hJ=>?_;intro D hD;have hDM:=S1.fresh hD;refine Ry (G:=G) hg j2 hg2 ht he hJ p1.1 hD (hT▸hK▸Fp S1 cs) p1.2 λys n2 us H' rr hpots hk eD ry=>?_;have nD:∀b o,H1 b=some o->b≠D:=λb o e z=>by rw[z,hD] at e;cases e
 have hk2:∀b o,b∉G.pots->H1 b=some o->cutH H' D b=some o:=λb o hb e=>by rw[Q6 (nD b o e)];exact hk b o hb e
 have nc:∀b,b∉D::G.M->b≠D:=λb hb z=>hb (by rw[z];exact C6);have np:∀p∈G.pots,p≠D:=λp hp z=>hDM (z▸(S1.pots p hp).1)
 have Sb:SR C G σ (cutH H' D) jc n2:=S1.call hk2 λp hp=>by
  subst hT;have h2:=C.T.keep (hpots p hp) (H':=cutH H' D) (Q6 (np p hp)) λb o hb e=>by rw[Q6 (nc b hb)];exact e
  exact C.T.more h2 λa ha=>.inl (C5 _ ha)
 have:=k ys jc n2 D us (cutH H' D) rr Sb (f1.trans λb o hb e=>hk2 b o (λz=>hb (S1.pots b z).1) e) (by unfold cutH;rw[jt rfl]) ?_
 ·rw[Fq eD] at this;exact this
 ·exact Reps.mono (G:=⟨D::G.M,G.pots⟩) (λb o hb e=>by rw[Q6 (nc b hb)];exact e) (λa ha=>.inl (C5 _ ha)) (λ_ _ e=>e) _ _ ry
end
end Pu
end
section
namespace L2
open PySem PySem.W PySem.Spec PyProof.Rows
def Cp (X:Cx)(scope:G0)(N:List Str)(qual:Str)(f c':A0)(cl:List (Str×A0))(s:A5)(H:Hp):Cx where
 prog:=X.prog
 w:=X.w
 K:=X.K
 mg:=X.mg
 base:=X.base
 A:=X.A.in1.in1.deeper (envX qual scope s.heap.objs.size f (.ref c') cl)
 N:=N
 s₀:=s
 H₀:=H
 env:=envX qual scope s.heap.objs.size f (.ref c') cl
 outer:=X.stack
 stack:=envX qual scope s.heap.objs.size f (.ref c') cl::X.stack
 ex:=[]
 calm:=true
 fn:=λ_=>false
 pn:=[]
 xe:=λ_ _=>False
structure DR (scope:G0)(x y:Str):Prop where
 kind:scope.kind=.function
 co:scope.isCoroutine=false
 gen:scope.isGenerator=false
 hx:scope.names.lookup x=some .local
 hy:scope.names.lookup y=some .free
 fr:∀z,scope.names.lookup z=some .free->z=y
 nc:∀z∈scope.names,z.2≠.cell
 ne:(y == x)=false
section
variable {X:Cx}{jb:List (A0×Obj)}{σ:St}{H:Hp}{s:A5}
theorem RA {scope:G0}{x y qual:Str}{f c' c:A0}{vx vy:V}{ux uy:A1}{h1:B6}{tk k:Nat}(I:Inv X jb σ H s)(hr:Room k X.A)(S:DR scope x y)(hc:s.heap.IsCell c (some uy))(hH:H c=none)(ry:RelV vy uy)(rx:RelV vx ux)
   (hns:h1.Ns s.heap.objs.size (λz=>[(x,ux)].reverse.lookup z)) (hsb:V2 s.heap.objs.size (s.heap.push { cls:=.type "frame",data:=.dict #[] }) h1) :
   Inv (Cp X scope [x,y] qual f c' [(y,c)] s H) [] [some vx,some vy] H { s with heap:=h1,toks:=tk }:=by
 have hk:∀b o,s.heap.get? b=some o->h1.get? b=some o:=λb o e=>hsb.extBut b o (D3 (C4 e)) (C2 _ e);have noA:∀b:A0,b∉(Cp X scope [x,y] qual f c' [(y,c)] s H).ex:=λb z=>absurd (show b∈([]:List A0) from z) (by simp);have e0:=I.env0
 have cl1:∀z d,([(y,c)]:List (Str×A0)).lookup z=some d->z=y/\d=c:=λz d e=>by
  rw[List.lookup_cons] at e;cases q:z == y with
  |true=>rw[q] at e;cases e;exact⟨eq_of_beq q,rfl⟩
  |false=>rw[q] at e;cases e
 have cy:([(y,c)]:List (Str×A0)).lookup y=some c:=by rw[List.lookup_cons,beq_self_eq_true]
 refine⟨⟨e0.mod,S.kind,rfl,rfl,C7 _,λa b d h1 h2=>?_,λz hz=>?_,λz d h _=>absurd (show false=true from h) V3,λ_=>hr.hd,Around.frames_deeper (show X.A.in1.in1.frames=_ from e0.frames),.inr ⟨rfl,rfl⟩,λb z=>absurd z (noA b),e0.bs,e0.bsz,λb _ _=>noA b,λb z=>absurd z (noA b),e0.funs,e0.frf,e0.nos⟩,
  rfl,e0.bare,Un.kept hk,⟨_,hns,λi z v h1 h2 h3=>?_⟩,λz d h=>?_,e0.hok.fresh (C7 _),λz d h=>?_,λp hp=>absurd (show p∈([]:List (A0×Obj)) from hp) (by simp),e0.hok.kept hk,rfl⟩
 ·exact((cl1 _ _ h1).1).trans (cl1 _ _ h2).1.symm
 ·have hz:scope.names.lookup z=some .cell\/scope.names.lookup z=some .free:=hz;rcases hz with hz|hz
  ·exact absurd rfl (S.nc _ (l7 hz))
  ·exact⟨c,by rw[S.fr z hz];exact cy⟩
 ·match i,h1,h2 with
  | 0, h1, h2 =>
   cases h1;cases h2;refine⟨ux,rx,.inl ⟨S.hx,?_⟩⟩;show([(x,ux)]:List (Str×A1)).reverse.lookup x=some ux;rw[List.reverse_singleton,List.lookup_cons,beq_self_eq_true]
  | 1, h1, h2 =>
   cases h1;cases h2;obtain⟨o,ho,hd⟩:=hc;exact⟨uy,ry,.inr ⟨.inr S.hy,c,cy,o,hk _ _ ho,hd⟩⟩
  |i+2,h1,h2=>cases h2
 ·obtain⟨rfl,rfl⟩:=cl1 z d h;obtain⟨o,ho,hd⟩:=hc;exact⟨_,o,hk _ _ ho,hd⟩
 ·obtain⟨rfl,rfl⟩:=cl1 z d h;exact hH
theorem RB {scope:G0}{x y qual:Str}{params:Arguments}{body:Expr}{f c' c:A0}{pm ctv:A1}{vx vy:V}{ux uy:A1}{k:Nat}{tb:TE}{Q:VK}{E:A1->A5->Prop}(I:Inv X jb σ H s)(hr:Room k X.A)(S:DR scope x y)
   (hc:s.heap.IsCell c (some uy)) (hH:H c=none) (ry:RelV vy uy) (rx:RelV vx ux) (fo:s.heap.get? f=some (kla_obj "<lambda>" qual params body scope [(y,c)] pm c' ctv)) (hcd:s.heap.CodeRec (.ref c') qual)
   (bd:∀u,Y0 (kla_fn "<lambda>" qual params body scope [(y,c)] pm (.ref c') ctv) ⟨[u],[]⟩=pure [(x,u)])
   (hb:PE (Cp X scope [x,y] qual f c' [(y,c)] s H) body tb) (ht:tb [some vx,some vy] H Q) :
   A6 (A7 X.prog X.w) X.A.in1.in1 (call (.ref f) [ux]) (EP X jb σ Q) E s:=by
 refine wpAny_call ?_;refine kla_callFunE (fd:=kla_fn "<lambda>" qual params body scope [(y,c)] pm (.ref c') ctv) (show X.A.depth<recursionLimit from hr.depth) fo rfl S.co S.gen rfl hcd ?_;rw[bd];refine B2 (wpAny_newFunctionEnv S.nc (λz hz=>?_) (λh1 hns hsb=>⟨?_,?_⟩) S.kind)
 ·rw[E1.mp hz];exact S.hx
 ·refine I.nolimit.keeps λb o e=>?_;exact hsb.extBut b o (D3 (C4 e)) (C2 _ e)
 ·refine kla_codeExpr (G7 (hb [] _ [some vx,some vy] H Q (RA (tk:=s.toks+1) I hr S hc hH ry rx hns hsb) ht) (λv s' h=>?_) λ_ _ z=>z.elim);obtain⟨v',H',J,r,q⟩:=h;exact I.after ⟨v',H',J.os,J.bare,J.base,J.hok,r,q⟩
end
end L2
end
section
namespace L2
open PySem PySem.W PySem.Spec PyProof.Rows
def X5 (c':A0)(qual:Str):HO:=.ext λh=>h.CodeRec (.ref c') qual
def Cq (tb:TE)(vy:V)(kS c':A0)(qual:Str):List V->List Int->Hp->(List Int->Hp->Prop)->Prop
 |[],ks,H,R=>R ks H
 |x::xs,ks,H,R=>H c'=some (X5 c' qual)/\tb [some x,some vy] H λy H1=>∃k,y=.int k/\H1 kS=some (.lst (ks.map V.int))/\Cq tb vy kS c' qual xs (ks++[k]) (upd H1 kS (.lst ((ks++[k]).map V.int))) R
def KOut (ks:List Int)(xs ys:List V):Prop:=∃ps:List (Int×V),ps.Perm (ks.zip xs)/\ys=ps.map Prod.snd/\ps.Pairwise λp q=>p.1<=q.1
section
variable {prog:D1}{w:C9}{A:D5}{E:A1->A5->Prop}{s:A5}{a kS:A0}{vs:List A1}{kz:List Int}{keys:Array A1}{e e1:Nat}{P:PySem.Fin->A5->Prop}
theorem kTail {st:SortSt}(nk:s.heap.get? kS=some (seqObj "list" keys e))(na:s.heap.get? a=some (seqObj "list" #[] e1))(hka:kS≠a)
   (hk:IntsAre keys.toList kz) (hlen:kz.length=vs.length) (h64:vs.length<64) (hp:(arrOf st).Perm (keys.zip vs.toArray)) (hs:SortedTo (arrOf st) (arrOf st).size) (hfl:failedOf st=none)
   (h:∀h' out c c2,(∀b o,b≠a->b≠kS->s.heap.get? b=some o->h'.get? b=some o)->h'.get? a=some (seqObj "list" out c)->h'.get? kS=some (seqObj "list" #[] c2)->KskOut false kz vs out.toList->P (.done (.ret .none)) { s with heap:=h' }) :
   A6 (A7 prog w) A (ksk_tail a false e1 (.ref kS) st) P E s:=by
 have hsz:keys.size=vs.length:=by
  have h1:=hk.length;rw[M8] at h1;omega
 have hsz2:(arrOf st).size=vs.length:=by rw[hp.size_eq,Array.size_zip,hsz,G5,De]
 have s1:=R5 s.heap kS (G8 λ_=>(#[]:Array A1));have na1:(s.heap.update kS (G8 λ_=>(#[]:Array A1))).get? a=some (seqObj "list" #[] e1):=(s1.2 a hka.symm).trans na;obtain⟨ck,hck⟩:∃c,(s.heap.update kS (G8 λ_=>(#[]:Array A1))).get? kS=some (seqObj "list" #[] c):=⟨_,BP nk λ_=>#[]⟩;have s2:=R5 (s.heap.update kS (G8 λ_=>(#[]:Array A1))) a (G8 λ_=>(arrOf st).map (·.2))
 obtain⟨c2,hc2⟩:∃c2,((s.heap.update kS (G8 λ_=>(#[]:Array A1))).update a (G8 λ_=>(arrOf st).map (·.2))).get? a=some (seqObj "list" ((arrOf st).map (·.2)) c2):=
  ⟨_,BP na1 λ_=>(arrOf st).map (·.2)⟩
 unfold ksk_tail
 try dsimp only
 refine A2 (AK nk rfl ?_ (by rw[hsz,K9];omega) (K1 _));refine A2 (wpAny_letGo ?_);refine A2 (seqEpoch_at na1 rfl ?_);simp only[J5,if_false];refine A2 (AK na1 rfl ?_ (K1 _) (J9 (BJ ((Array.size_map ..).trans hsz2)) (by rw[K9];omega)));rw[hfl];simp only[bne_self_eq_false,J5,if_false];exact B2 (h _ _ c2 ck (λb o h1 h2 e=>(s2.2 b h1).trans ((s1.2 b h2).trans e)) hc2 ((s2.2 kS hka).trans hck) (ksk_out (b:=false) hk hp hs))
theorem kEnd (nk:s.heap.get? kS=some (seqObj "list" keys e))(na:s.heap.get? a=some (seqObj "list" #[] e1))(hka:kS≠a)
   (hk:IntsAre keys.toList kz) (hlen:kz.length=vs.length) (h64:vs.length<64)
   (h:∀h' out c c2,(∀b o,b≠a->b≠kS->s.heap.get? b=some o->h'.get? b=some o)->h'.get? a=some (seqObj "list" out c)->h'.get? kS=some (seqObj "list" #[] c2)->KskOut false kz vs out.toList->P (.done (.ret .none)) { s with heap:=h' }) :
   A6 (A7 prog w) A (ksk_end a false vs.toArray e1 (.ref kS) keys) P E s:=by
 have hsz:keys.size=vs.length:=by
  have h1:=hk.length;rw[M8] at h1;omega
 have hzs:(keys.zip vs.toArray).size=vs.length:=by rw[Array.size_zip,hsz,G5,De]
 unfold ksk_end;simp only[J5,if_false]
 by_cases h2:vs.toArray.size<2
 ·rw[jt h2,jt h2];refine A2 (B2 ?_);rw[StateT.run_pure];refine A2 (B2 ?_)
  try dsimp only
  refine kTail (st:=SortSt.mk' general' (keys.zip vs.toArray) #[] 7 none) nk na hka hk hlen h64 (x9 _) ?_ rfl h;intro i j hij hj;have hj2:j<(keys.zip vs.toArray).size:=hj;rw[hzs] at hj2;rw[G5] at h2;have:i=j:=by omega
  subst this;exact Int.le_refl _
 ·rw[ju h2,ju h2];rw[G5] at h2;rw[ksk_kind hk (by rw[hsz];omega)];refine A2 (B2 ?_)
  refine A2 (G7 (wpS_sortRuns (a₀:=keys.zip vs.toArray) (st:=SortSt.mk' oneType' (keys.zip vs.toArray) #[] 7 none)
    (Q:=λ_ st'=>(arrOf st').Perm (keys.zip vs.toArray)/\failedOf st'=none/\SortedTo (arrOf st') (keys.zip vs.toArray).size)
    (ksk_intKeys hk) ⟨x9 _,rfl,rfl,rfl⟩ (by rw[hzs];omega) (by rw[hzs];exact h64) λst' a1 a2 a3=>⟨a1,a2,a3⟩) ?_ λ_ _ e=>e)
  rintro⟨⟨⟩,st'⟩ s' ⟨rfl,hp,hf,hs⟩
  try dsimp only
  exact kTail nk na hka hk hlen h64 hp (by rw[hp.size_eq];exact hs) hf h
end
theorem LE:∀{ks:List Int} {us:List A1},Vals (ks.map V.int) us->IntsAre us ks
 |[],_,h=>by cases h;exact .nil
 | k :: ks, _, h => by
  cases h with
  | cons h1 h2 =>
   obtain⟨t,rfl⟩:=h1;exact .cons k t (LE h2)
theorem RC {ks:List Int}{xs:List V}{vs:List A1}{out:List A1}(r:Vals xs vs)(h:KskOut false ks vs out):∃ys,KOut ks xs ys/\Vals ys out:=by
 obtain⟨ps,hp,rfl,ho⟩:=h
 replace ho:ps.Pairwise λp q=>p.1<=q.1:=by simpa using ho
 have ab:∀(ks:List Int) {xs:List V} {vs:List A1},Vals xs vs->(ks.zip vs).map (λp=>(p.1,(absV p.2).getD .non))=ks.zip xs:=by
  intro ks
  induction ks with
  |nil=>intro xs vs _;rfl
  | cons k ks ih =>
   intro xs vs r;cases r with
   |nil=>rfl
   | cons h1 h2 =>
    rw[O9,O9,F2,ih h2];show(k,(absV _).getD _)::_=_;rw[h1.abs];rfl
 have rl:∀(ks:List Int) {xs:List V} {vs:List A1},Vals xs vs->∀p∈ks.zip vs,RelV ((absV p.2).getD .non) p.2:=by
  intro ks
  induction ks with
  |nil=>intro xs vs _ p hp;cases hp
  | cons k ks ih =>
   intro xs vs r p hp;cases r with
   |nil=>cases hp
   | cons h1 h2 =>
    rcases D0.mp hp with rfl|hp
    ·show RelV ((absV _).getD _) _;rw[h1.abs];exact h1
    ·exact ih h2 p hp
 refine⟨ps.map λp=>(absV p.2).getD .non,⟨ps.map λp=>(p.1,(absV p.2).getD .non),?_,by rw[T0];rfl,?_⟩,?_⟩
 ·rw[<- ab ks r];exact hp.map _
 ·rw[o5];exact ho
 ·have rl2:∀p∈ps,RelV ((absV p.2).getD .non) p.2:=λp h=>rl ks r p (hp.mem_iff.mp h);clear hp ho
  induction ps with
  |nil=>exact .nil
  |cons p ps ih=>exact .cons (rl2 p C6) (ih λq hq=>rl2 q (C5 _ hq))
section
variable {X:Cx}{jb:List (A0×Obj)}{σ:St}{H:Hp}{s:A5}
theorem Inv.retrack {a kS:A0}{ob:Obj}{ks ys:List V}{out:List A1}{c c2:Nat}{h':B6}(I:Inv X ((a,ob)::jb) σ H s)(hk:H kS=some (.lst ks))(ha0:X.s₀.heap.objs.size<=a)(hp0:∀p∈X.pn++jb,p.1≠a)(hsa:O3<a)(hsk:O3<kS)
   (keep:∀b o,b≠a->b≠kS->s.heap.get? b=some o->h'.get? b=some o) (ea:h'.get? a=some (seqObj "list" out.toArray c)) (ek:h'.get? kS=some (seqObj "list" #[] c2)) (r:Vals ys out) (hl:ys.length<=C8) :
   Inv X jb σ (upd (upd H kS (.lst [])) a (.lst ys)) { s with heap:=h' }:=by
 obtain⟨ea0,na,neL,nf,nc⟩:=I.pin (a,ob) (M2 _ C6);have nka:kS≠a:=λz=>by rw[z,na] at hk;cases hk
 have I0:Inv X jb σ H s:=I.pins_of λp hp=>by
  obtain⟨z1,z2,z3,z4,z5⟩:=I.pin p (M2 _ (C5 _ hp));exact⟨z1,z2,z3,z4,z5⟩
 have oth:∀b,b≠a->b≠kS->upd (upd H kS (.lst [])) a (.lst ys) b=H b:=λb h1 h2=>by rw[C3 h1,C3 h2]
 have ne1:∀b u,H b=some u->(∀z,u≠.lst z)->b≠a/\b≠kS:=λb u e hu=>⟨(λz=>by rw[z,na] at e;cases e),(λz=>by rw[z,hk] at e;cases e;exact hu _ rfl)⟩;refine I0.step (g':=s.gens) (d':=s.drawn) (t':=s.toks) (ch:=[a]) (λb hb=>?_) (λb o _ _ hc e n=>?_) (λb o _ _ hc e n=>⟨o.slots,?_⟩) (λb o hc e n=>?_) (λb o hc e=>?_) (λb xs e=>?_) (λb o u e=>?_) (λb ps e=>⟨#[],?_⟩) (λz=>?_) (λm hm=>?_) (λb u e=>?_) I.bare
 ·have e:b=a:=by simpa using hb
  subst e;refine⟨.inr ha0,neL,λx d e z=>?_,hp0⟩;subst z;obtain⟨v,o,ho,hd⟩:=I.cell x _ e;rw[ea0] at ho;cases ho;exact nc _ hd
 ·exact keep b o (λz=>hc (by simp[z])) (λz=>by rw[z,hk] at n;cases n) e
 ·exact keep b o (λz=>hc (by simp[z])) (λz=>by rw[z,hk] at n;cases n) e
 ·rw[oth b (λz=>hc (by simp[z])) (λz=>by rw[z,hk] at n;cases n)];exact n
 ·by_cases h2:b=kS
  ·exact⟨_,h2▸ek⟩
  ·exact⟨o,keep b o (λz=>hc (by simp[z])) h2 e⟩
 ·obtain⟨h1,h2⟩:=ne1 b _ e (λz q=>by cases q);rw[oth b h1 h2];exact e
 ·obtain⟨h1,h2⟩:=ne1 b _ e (λz q=>by cases q);rw[oth b h1 h2];exact e
 ·obtain⟨h1,h2⟩:=ne1 b _ e (λz q=>by cases q);rw[oth b h1 h2,e];simp
 ·unfold NS at z ⊢;rw[oth O3 (D3 hsa) (D3 hsk)];exact z
 ·obtain⟨o,es,ep,ho,r'⟩:=hm;exact⟨o,es,ep,keep _ o (Ne.symm neL) (λz=>by have:=I.free;rw[z,hk] at this;cases this) ho,r'⟩
 ·by_cases h1:b=a
  ·subst h1;rw[E8] at e;cases e;exact⟨hl,out,c,r,ea⟩
  ·rw[C3 h1] at e
   by_cases h2:b=kS
   ·subst h2;rw[E8] at e;cases e;exact⟨K1 _,[],c2,.nil,ek⟩
   ·rw[C3 h2] at e;refine(I0.hok b u e).stay (λd v hc q=>keep d v ?_ ?_ q) (λd q=>?_) λd xs q=>?_
    ·rcases hc with z|z
     ·rw[z];exact h1
     ·exact(ne1 d _ z (λz q=>by cases q)).1
    ·rcases hc with z|z
     ·rw[z];exact h2
     ·exact(ne1 d _ z (λz q=>by cases q)).2
    ·obtain⟨z1,z2⟩:=ne1 d _ q (λz q=>by cases q);rw[oth d z1 z2];exact q
    ·obtain⟨z1,z2⟩:=ne1 d _ q (λz q=>by cases q);rw[oth d z1 z2];exact q
end
end L2
end
section
namespace L2
open PySem PySem.W PySem.Spec PyProof.Rows
structure Bh (X:Cx)(scope:G0)(params:Arguments)(body:Expr)(qual x y:Str)(c:A0)(iy:Nat)(k:Nat)(tb:TE):Prop where
 sc:DR scope x y
 room:Room k X.A
 cell:X.env.cells.lookup y=some c
 isc:X.env.scope.names.lookup y=some .cell
 nm:X.N[iy]?=some y
 bd:∀(pm ct cd u:A1),Y0 (kla_fn "<lambda>" qual params body scope [(y,c)] pm cd ct) ⟨[u],[]⟩=pure [(x,u)]
 pe:∀(f c':A0) (s:A5) (H:Hp),PE (Cp X scope [x,y] qual f c' [(y,c)] s H) body tb
section
variable {X:Cx}{jb:List (A0×Obj)}{σ:St}{H:Hp}{s:A5}{scope:G0}{params:Arguments}{body:Expr}{qual x y:Str}{c:A0}{iy k:Nat}{tb:TE}
theorem Bh.val (L:Bh X scope params body qual x y c iy k tb)(I:Inv X jb σ H s){vy:V}(hv:σ[iy]?=some (some vy)):∃uy,RelV vy uy/\s.heap.IsCell c (some uy):=by
 obtain⟨m,hn,hl⟩:=I.loc;obtain⟨u,r,l⟩:=hl iy y vy L.nm hv (.inr (.inl L.isc));refine⟨u,r,?_⟩;rcases l with⟨z,_⟩|⟨_,d,e,q⟩
 ·have z':X.env.scope.names.lookup y=some .local:=z;rw[L.isc] at z';cases z'
 ·rw[L.cell] at e;cases e;exact q
theorem Bh.run (L:Bh X scope params body qual x y c iy k tb)(I:Inv X jb σ H s){vy vx:V}{ux:A1}{f c':A0}{pm ctv:A1}{Q:VK}{E:A1->A5->Prop}(hv:σ[iy]?=some (some vy))(rx:RelV vx ux)
   (fo:(f,kla_obj "<lambda>" qual params body scope [(y,c)] pm c' ctv)∈jb) (hcd:H c'=some (X5 c' qual)) (ht:tb [some vx,some vy] H Q) :
   A6 (A7 X.prog X.w) X.A.in1.in1 (call (.ref f) [ux]) (EP X jb σ Q) E s:=by
 obtain⟨uy,ry,hc⟩:=L.val I hv;obtain⟨e1,_⟩:=I.pin _ (M2 _ fo);obtain⟨e2,_⟩:=(show J0 X.prog X.w H s.heap c' (X5 c' qual) from I.hok c' _ hcd);exact RB I L.room L.sc hc (I.freeC _ _ L.cell) ry rx e1 e2 (λu=>L.bd pm ctv (.ref c') u) (L.pe f c' s H) ht
theorem kRest (L:Bh X scope params body qual x y c iy k tb){f c' a kS:A0}{pm ctv:A1}{vy:V}{xs:List V}{vs:List A1}{e1:Nat}{R:List Int->Hp->Prop}{P:PySem.Fin->A5->Prop}{E:A1->A5->Prop}(I:Inv X ((a,seqObj "list" #[] e1)::jb) σ H s)(hv:σ[iy]?=some (some vy))
   (fo:(f,kla_obj "<lambda>" qual params body scope [(y,c)] pm c' ctv)∈jb) (hk:H kS=some (.lst [])) (rv:Vals xs vs) (h64:xs.length<64) (hka:kS≠a) (ht:Cq tb vy kS c' qual xs [] H R)
   (h:∀s' H3 ks h' out c1 c2,Inv X ((a,seqObj "list" #[] e1)::jb) σ H3 s'->H3 kS=some (.lst (ks.map V.int))->R ks H3->(∀b o,b≠a->b≠kS->s'.heap.get? b=some o->h'.get? b=some o)->h'.get? a=some (seqObj "list" out c1)->
     h'.get? kS=some (seqObj "list" #[] c2)->KskOut false ks vs out.toList->P (.done (.ret .none)) { s' with heap:=h' }) :
   A6 (A7 X.prog X.w) X.A.in1.in1 (ksk_rest a (.ref f) false vs.toArray e1 (.ref kS)) P E s:=by
 have lv:xs.length=vs.length:=rv.length;unfold ksk_rest;refine A2 (d7 ?_)
 first
   |rw[List.forIn_toArray]
   |(rw[<- EC];simp only[Er])
   |rw[<- EC]
 refine A2 (ksk_fold (λi s'=>∃H' ks,Inv X ((a,seqObj "list" #[] e1)::jb) σ H' s'/\H' kS=some (.lst (ks.map V.int))/\ks.length=i/\Cq tb vy kS c' qual (xs.drop i) ks H' R) vs 0 s
   ⟨H,[],I,hk,rfl,by simpa using ht⟩ ?step ?done)
 case step=>
  rintro j u s' hx ⟨H',ks,I',hk',hl,hc⟩;simp only[K7] at hl hc ⊢;have hj:j<vs.length:=(G4.mp hx).1;have hjx:j<xs.length:=by omega
  obtain⟨u2,hu2,ru⟩:=rv.get (D8 hjx);rw[hx] at hu2;cases hu2;rw[w8 hjx] at hc;obtain⟨hcd,hc⟩:=hc;refine A2 (w5 (G7 (L.run I' hv ru (C5 _ fo) hcd hc (E:=λ_ _=>False)) (λv s'' he=>?_) λ_ _ hF=>hF.elim));obtain⟨w,H1,I1,rw1,kk,rfl,hk1,hc1⟩:=he;obtain⟨t2,rfl⟩:=rw1
  try dsimp only
  obtain⟨zl,jf,n,ri,oi⟩:=(show J0 X.prog X.w H1 s''.heap kS (.lst (ks.map V.int)) from I1.hok kS _ hk1);have li:jf.length=ks.length:=by rw[<- ri.length,B4]
  have s1:=R5 s''.heap kS (G8 (·.push (.int kk t2)));obtain⟨c2,hc2⟩:∃c2,(s''.heap.update kS (G8 (·.push (.int kk t2)))).get? kS=some (seqObj "list" (jf.toArray.push (.int kk t2)) c2):=⟨_,BP oi (·.push (.int kk t2))⟩;refine A2 (AK oi rfl ?_ (by rw[G5,li,K9];omega) (J9 (BJ (Array.size_push ..)) (by rw[G5,li,K9];omega)));refine B2 ⟨rfl,upd H1 kS (.lst ((ks++[kk]).map V.int)),ks++[kk],?_,E8,by rw[D4,hl];rfl,hc1⟩;refine I1.write (t':=s''.toks) (by rw[hk1];trivial) (.inl rfl) (λb o hb e=>(s1.2 b hb).trans e) ⟨_,hc2⟩ ⟨?_,jf++[.int kk t2],c2,?_,?_⟩
  ·rw[B4,D4,K9];simp;omega
  ·rw[M6];exact ri.append (.cons ⟨t2,rfl⟩ .nil)
  ·rw[hc2];simp
 case done=>
  rintro s' ⟨H3,ks,I3,hk3,hl,hc⟩;simp only[K7] at hl hc;rw[CU (by omega)] at hc;obtain⟨zl,jf,n,ri,oi⟩:=(show J0 X.prog X.w H3 s'.heap kS (.lst (ks.map V.int)) from I3.hok kS _ hk3);obtain⟨ea,_⟩:=I3.pin (a,seqObj "list" #[] e1) (M2 _ C6)
  try dsimp only
  refine A2 (listItems_at oi rfl ?_);exact kEnd oi ea hka (by simpa using LE ri) (by omega) (by omega) λh' out c1 c2 z1 z2 z3 z4=>h s' H3 ks h' out c1 c2 I3 hk3 hc z1 z2 z3 z4
theorem RD (L:Bh X scope params body qual x y c iy k tb){f c' l:A0}{pm ctv:A1}{vy:V}{xs:List V}{vs:List A1}{Q:VK}{E:A1->A5->Prop}(I:Inv X jb σ H s)(hv:σ[iy]?=some (some vy))
   (fo:(f,kla_obj "<lambda>" qual params body scope [(y,c)] pm c' ctv)∈jb) (hl:s.heap.IsList l vs.toArray) (rv:Vals xs vs) (h64:xs.length<64)
   (h:∀kS a,H kS=none->H a=none->kS≠a->Cq tb vy kS c' qual xs [] (upd H kS (.lst [])) λks H3=>H3 a=none->∀ys,KOut ks xs ys->Q (.ref a) (upd (upd H3 kS (.lst [])) a (.lst ys))) :
   A6 (A7 X.prog X.w) X.A (call (.builtin "sorted") [.ref l] [(A8 "key",.ref f)]) (EP X jb σ Q) E s:=by
 have lv:xs.length=vs.length:=rv.length;refine call_function_entry_kw kind_sorted plain_sorted entry_sorted (ksk_s1 _ _) ?_;unfold O4.«sorted»;refine A2 (m:=checkCount "sorted" 1 1 _) (B2 ?_);refine A2 (collect_list hl ?_ (by rw[K9];omega));refine A2 (CM ?_ (by rw[K9];omega))
 have hsz:((s.heap.push (seqObj "list" #[] 0)).update s.heap.objs.size (G8 (·++vs.toArray))).objs.size=s.heap.objs.size+1:=by
  rw[Heap.size_update,size_push']
 have hoL:(((s.heap.push (seqObj "list" #[] 0)).update s.heap.objs.size (G8 (·++vs.toArray))).push (seqObj "list" vs.toArray 0)).get? (s.heap.objs.size+1)=some (seqObj "list" vs.toArray 0):=by
  rw[<- hsz];exact E9 _ rfl
 have keep:∀b o,s.heap.get? b=some o->(((s.heap.push (seqObj "list" #[] 0)).update s.heap.objs.size (G8 (·++vs.toArray))).push (seqObj "list" vs.toArray 0)).get? b=some o:=λb o q=>by
  have hlt:b<s.heap.objs.size:=C4 q;rw[Heap.get?_push_ne _ _ _ (by rw[hsz];exact D3 (U3 hlt)),Heap.get?_update_ne _ _ _ _ (D3 hlt),Heap.get?_push_ne _ _ _ (D3 hlt)];exact q
 show A6 _ _ _ _ _ { s with heap:=((s.heap.push (seqObj "list" #[] 0)).update s.heap.objs.size (G8 (·++vs.toArray))).push (seqObj "list" vs.toArray 0) };rw[hsz];generalize ((s.heap.push (seqObj "list" #[] 0)).update s.heap.objs.size (G8 (·++vs.toArray))).push (seqObj "list" vs.toArray 0)=g1 at hoL keep ⊢;have haS:s.heap.objs.size<=s.heap.objs.size+1:=o8 _;generalize s.heap.objs.size+1=a at hoL haS ⊢;refine A2 (J7 (wpAny_call_entry_kw slot_list_sort ⟨_,hoL,rfl⟩ entry_list_sort ?body (ksk_l1 _ _)))
 case body=>
  show A6 (A7 X.prog X.w) X.A.in1.in1 (O4.«list.sort» ⟨[.ref a],[(A8 "key",.ref f)]⟩) _ _ _;rw[ksk_t1 f a];have ha:a<g1.objs.size:=C4 hoL;have s1:=R5 g1 a (G8 λ_=>(#[]:Array A1));obtain⟨e1,ho1⟩:∃e1,(g1.update a (G8 λ_=>(#[]:Array A1))).get? a=some (seqObj "list" #[] e1):=⟨_,BP hoL λ_=>#[]⟩;have hkS:((g1.update a (G8 λ_=>(#[]:Array A1))).push (seqObj "tuple" vs.toArray 0)).objs.size=g1.objs.size+1:=by rw[size_push',Heap.size_update]
  unfold ksk_tree;refine A2 (listItems_at hoL rfl ?_);refine A2 (AK hoL rfl ?_ (by rw[G5,K9];omega) (K1 _));refine A2 (seqEpoch_at ho1 rfl ?_);refine A2 (wpAny_newTuple ?_ (by show vs.length<=_;rw[K9];omega));refine A2 (CM ?_ (K1 _));refine J7 ?_;show A6 (A7 X.prog X.w) X.A.in1.in1 _ _ _ { s with heap:=((g1.update a (G8 λ_=>(#[]:Array A1))).push (seqObj "tuple" vs.toArray 0)).push (seqObj "list" #[] 0) };rw[hkS];have oK:(((g1.update a (G8 λ_=>(#[]:Array A1))).push (seqObj "tuple" vs.toArray 0)).push (seqObj "list" #[] 0)).get? (g1.objs.size+1)=some (seqObj "list" #[] 0):=by rw[<- hkS];exact E9 _ rfl
  have oA:(((g1.update a (G8 λ_=>(#[]:Array A1))).push (seqObj "tuple" vs.toArray 0)).push (seqObj "list" #[] 0)).get? a=some (seqObj "list" #[] e1):=C2 _ (C2 _ ho1)
  have kp:∀b o,s.heap.get? b=some o->(((g1.update a (G8 λ_=>(#[]:Array A1))).push (seqObj "tuple" vs.toArray 0)).push (seqObj "list" #[] 0)).get? b=some o:=λb o q=>
   C2 _ (C2 _ ((s1.2 b (D3 (K3 (C4 q) haS))).trans (keep b o q)))
  generalize ((g1.update a (G8 λ_=>(#[]:Array A1))).push (seqObj "tuple" vs.toArray 0)).push (seqObj "list" #[] 0)=g3 at oK oA kp ⊢;have hkS2:s.heap.objs.size<=g1.objs.size+1:=J9 haS (i4 (U3 ha));have hka:g1.objs.size+1≠a:=i5 (U3 ha);generalize g1.objs.size+1=kS at oK hkS2 hka ⊢;have nk:H kS=none:=I.hok.fresh hkS2;have na:H a=none:=I.hok.fresh haS;have I5:Inv X jb σ (upd H kS (.lst [])) { s with heap:=g3 }:=I.laid (t':=s.toks) kp hkS2 ⟨K1 _,[],0,.nil,oK⟩;have aL:a≠X.env.locals:=i5 (K3 I.lt haS);have aF:a∉X.fs:=I.nofs haS
  have I6:Inv X ((a,seqObj "list" #[] e1)::jb) σ (upd H kS (.lst [])) { s with heap:=g3 }:=I5.pins_of λp hp=>by
   rcases D0.mp hp with rfl|hp
   ·exact⟨oA,by rw[C3 hka.symm];exact na,aL,aF,λv z=>by cases z⟩
   ·exact I5.pin p (M2 _ hp)
  refine kRest L I6 hv fo E8 rv h64 hka (h kS a nk na hka) λs' H3 ks h' out c1 c2 I3 hk3 hR z1 z2 z3 z4=>⟨_,rfl,?_⟩;obtain⟨ys,ko,ry⟩:=RC rv z4;have hn3:H3 a=none:=(I3.pin (a,seqObj "list" #[] e1) (M2 _ C6)).2.1
  have ly:ys.length<=C8:=by
   obtain⟨ps,hp,rfl,_⟩:=ko;rw[B4,hp.length_eq,List.length_zip,K9];omega
  refine B2 ⟨_,rfl,.ref a,_,I3.retrack hk3 (J9 I.sz haS) (λp hp=>?_) (K3 I.bigS haS) (K3 I.bigS hkS2) z1 (out:=out.toList) (by simpa using z2) z3 ry ly,rfl,hR hn3 ys ko⟩;exact D3 (K3 (C4 (I.pin p hp).1) haS)
end
end L2
end
section
namespace L2
open PySem PySem.W PySem.Spec PyProof.Rows
theorem RE {h h':B6}{c':A0}{q:Str}(x:h.CodeRec (.ref c') q)(k:∀o,h.get? c'=some o->h'.get? c'=some o):h'.CodeRec (.ref c') q:=by
 obtain⟨c,oc,vs,t,e,h1,h2,h3⟩:=x;cases e;exact⟨_,oc,vs,t,rfl,k _ h1,h2,h3⟩
theorem RF {P:D1}{w:C9}{H:Hp}{h:B6}{c':A0}{q:Str}(x:h.CodeRec (.ref c') q):J0 P w H h c' (X5 c' q):=by
 refine⟨x,?_,λh1 h2 y k=>RE y k⟩;obtain⟨c,oc,vs,t,e,h1,_⟩:=x;cases e;exact⟨oc,h1⟩
section
variable {X:Cx}{jb:List (A0×Obj)}{σ:St}{H:Hp}{s:A5}
theorem Inv.grow {Pt c':A0}{ps more:Array A1}{qual:Str}{h':B6}{t':Nat}(I:Inv X jb σ H s)(hP:H Pt=some (.tbl ps))(hx:CQ Pt s.heap h')(hge:s.heap.objs.size<=c')(hrec:h'.CodeRec (.ref c') qual)(htb:h'.get? Pt=some (tabObj (ps++more))) :
   Inv X jb σ (upd (upd H c' (X5 c' qual)) Pt (.tbl (ps++more))) { s with heap:=h',toks:=t' }:=by
 have nc:H c'=none:=I.hok.fresh hge;have oth:∀b,b≠Pt->b≠c'->upd (upd H c' (X5 c' qual)) Pt (.tbl (ps++more)) b=H b:=λb h1 h2=>by rw[C3 h1,C3 h2]
 have ne1:∀b u,H b=some u->(∀z,u≠.tbl z)->b≠Pt/\b≠c':=λb u e hu=>⟨(λz=>by rw[z,hP] at e;cases e;exact hu _ rfl),(λz=>by rw[z,nc] at e;cases e)⟩;have ne2:∀b o,s.heap.get? b=some o->H b=none->b≠Pt/\b≠c':=λb o e n=>⟨(λz=>by rw[z,hP] at n;cases n),D3 (K3 (C4 e) hge)⟩;refine I.un ⟨λb o e n _ _=>hx b o (ne2 b o e n).1 e,λb o e n _ _=>⟨o.slots,hx b o (ne2 b o e n).1 e⟩,λb o e n _=>?_,λb o e _=>?_,λb xs e=>?_,λb o u e=>?_,λb qs e=>?_,λz=>?_⟩ (λb u e=>?_)
 ·obtain⟨h1,h2⟩:=ne2 b o e n;rw[oth b h1 h2];exact n
 ·by_cases hb:b=Pt
  ·exact⟨_,hb▸htb⟩
  ·exact⟨o,hx b o hb e⟩
 ·obtain⟨h1,h2⟩:=ne1 b _ e (λz q=>by cases q);rw[oth b h1 h2];exact e
 ·obtain⟨h1,h2⟩:=ne1 b _ e (λz q=>by cases q);rw[oth b h1 h2];exact e
 ·by_cases hb:b=Pt
  ·subst hb;rw[hP] at e;cases e;exact⟨more,E8⟩
  ·have h2:b≠c':=λz=>by rw[z,nc] at e;cases e
   exact⟨#[],by rw[oth b hb h2,e];simp⟩
 ·have h2:O3≠c':=D3 (K3 I.bigS hge)
  have h1:O3≠Pt:=λq=>by
   unfold NS at z;rw[q,hP] at z;rcases z with z|⟨_,_,z⟩ <;> cases z
  unfold NS at z ⊢;rw[oth _ h1 h2];exact z
 ·by_cases h1:b=Pt
  ·subst h1;rw[E8] at e;cases e;exact htb
  ·rw[C3 h1] at e
   by_cases h2:b=c'
   ·subst h2;rw[E8] at e;cases e;exact RF hrec
   ·rw[C3 h2] at e;refine(I.hok b u e).stay (λd v hc q=>hx d v ?_ q) (λd q=>?_) λd xs q=>?_
    ·rcases hc with z|z
     ·rw[z];exact h1
     ·exact(ne1 d _ z (λz q=>by cases q)).1
    ·obtain⟨z1,z2⟩:=ne1 d _ q (λz q=>by cases q);rw[oth d z1 z2];exact q
    ·obtain⟨z1,z2⟩:=ne1 d _ q (λz q=>by cases q);rw[oth d z1 z2];exact q
end
def FS (qual:Str)(tb:TE)(vy:V)(xs:List V)(Q:VK)(c':A0)(H2:Hp):Prop:=∀kS a,H2 kS=none->H2 a=none->kS≠a->Cq tb vy kS c' qual xs [] (upd H2 kS (.lst [])) λks H3=>H3 a=none->∀ys,KOut ks xs ys->Q (.ref a) (upd (upd H3 kS (.lst [])) a (.lst ys))
def LF (K:Frag)(Pt:A0)(lpos:Pos)(qual:Str)(iy:Nat)(te tb:TE):TE:=λσ H Q=>te σ H λx H1=>∃a xs vy ps,x=.ref a/\SqL K H1 a xs/\xs.length<64/\σ[iy]?=some (some vy)/\H1 Pt=some (.tbl ps)/\TriplesOk ps.toList/\
 ((codeAmong lpos ps.toList=none/\∀c',H1 c'=none->FS qual tb vy xs Q c' (upd (upd H1 c' (X5 c' qual)) Pt (.tbl (ps++#[rawInt lpos.line,rawInt lpos.col,.ref c']))))\/∃c',codeAmong lpos ps.toList=some (.ref c')/\H1 c'=some (X5 c' qual)/\FS qual tb vy xs Q c' H1)
section
variable {X:Cx}{scope:G0}{params:Arguments}{body:Expr}{qual x y:Str}{c cd Pt:A0}{iy k:Nat}{tb te:TE}{e:Expr}{p pos kpos lpos:Pos}
theorem RG (L:Bh X scope params body qual x y c iy k tb)(hq:X.env.qual++"<lambda>"=qual)(hcl:closureFor scope X.env=pure [(y,c)])(hcode:X.env.code=.ref cd)(C:CodeHd X.base cd Pt)(hB:X.base.BuiltinsAt X.mg Pt)(hg:Gl X "sorted")(hm:X.mg "sorted"=none)
   (he:PE X e te) (hs:F5 [e] X.env=[(false,eval e X.env)]) (hdef:defaultsOf params X.env=([],[])) :
   PE X (.Call (.Name "sorted" p) [e] [⟨some "key",.Lambda params body scope lpos,kpos⟩] pos) (LF X.K Pt lpos qual iy te tb):=by
 intro jb s σ H Q I h;refine Eg (AM I hg hm Hk ?_);refine callWith_kw ?_ (by rw[hs];rfl) (by rw[hs];rfl);rw[hs];show A6 _ _ (spliced ((false,eval e X.env)::[])) _ _ s;refine Calls.spliced_cons (thn (he jb s σ H _ I h) λu s1 ⟨x',H1,I1,r1,q1⟩=>?_);refine Calls.spliced_nil ?_;obtain⟨a,xs,vy,ps,rfl,hS,h64,hv,hP,ht,hR⟩:=q1;obtain rfl:u=.ref a:=r1;obtain⟨jf,rv,⟨ol,nl,ho,hcl',hdl,hsl⟩,_⟩:=I1.list hS;have eP:s1.heap.get? Pt=some (tabObj ps):=I1.hok Pt _ hP;have aP:a≠Pt:=λz=>by rw[z,eP] at ho;cases ho;cases hcl'
 have C1:CodeHd s1.heap cd Pt:=C.keeps λb o q=>I1.bk b o q
 have B1:s1.heap.BuiltinsAt X.mg Pt:=by
  obtain⟨bm,o,z1,z2,z3,z4,z5,z6⟩:=hB;exact⟨bm,o,z1,z2,z3,z4,I1.bk _ _ z5,z6⟩
 have gP:T7≠Pt:=λq=>by
  obtain⟨o,es,ep,e,hd,_⟩:=I1.mod.glob.keeps I1.bk;rw[q,eP] at e;cases e;cases hd
 refine kws_cons (kla_eval hdef ?_);rw[hq]
 -- behind the making
 have fin:∀(c':A0) (ctv:A1) (h':B6) (tk:Nat) (H2:Hp),Inv X jb σ H2 { s1 with heap:=h',toks:=tk }->h'.IsList a jf.toArray->FS qual tb vy xs Q c' H2->
     A6 (A7 X.prog X.w) X.A (evalAll ((e6 pos (d5 [] X.env)).map (·.2))) (λvs s2=>A6 (A7 X.prog X.w) X.A (call (.builtin "sorted") [.ref a] (((e6 pos (d5 [⟨some "key",.Lambda params body scope lpos,kpos⟩] X.env)).filterMap (·.1)).zip (.ref h'.objs.size::vs))) (EP X jb σ Q) X.xe s2) X.xe
       { s1 with heap:=h'.push (kla_obj "<lambda>" qual params body scope [(y,c)] ((X.mg "__name__").getD .none) c' ctv),toks:=tk }:=by
   intro c' ctv h' tk H2 I2 hl hR;refine kws_nil ?_;show A6 (A7 X.prog X.w) X.A (call (.builtin "sorted") [.ref a] [(A8 "key",.ref h'.objs.size)]) (EP X jb σ Q) X.xe _;have I3:Inv X jb σ H2 { s1 with heap:=h'.push (kla_obj "<lambda>" qual params body scope [(y,c)] ((X.mg "__name__").getD .none) c' ctv),toks:=tk }:=I2.kept (t':=tk) λb o q=>C2 _ q
   have I4:Inv X ((h'.objs.size,kla_obj "<lambda>" qual params body scope [(y,c)] ((X.mg "__name__").getD .none) c' ctv)::jb) σ H2 { s1 with heap:=h'.push (kla_obj "<lambda>" qual params body scope [(y,c)] ((X.mg "__name__").getD .none) c' ctv),toks:=tk }:=I3.pins_of λq hq=>by
    rcases D0.mp hq with rfl|hq
    ·exact⟨E9 _ rfl,I2.hok.fresh (C7 _),i5 I2.lt,I2.nofs (C7 _),λv z=>by cases z⟩
    ·exact I3.pin q (M2 _ hq)
   refine thn (RD L I4 hv C6 (let ⟨o9,z1,z2⟩:=hl;⟨o9,C2 _ z1,z2⟩) rv h64 hR) λv s2 h2=>?_;obtain⟨v',H5,I5,r5,q5⟩:=h2;exact⟨v',H5,I5.pins_of λq hq=>I5.pin q (M2 _ (C5 _ hq)),r5,q5⟩
 rcases hR with⟨hnf,hR⟩|⟨c',hf,hc',hR⟩
 ·refine kla_makeFunction (mg:=X.mg) hcl I1.ok.glob (I1.mod.glob.keeps I1.bk) hcode C1 eP ht hnf gP B1 λc' ctv h' tk hx hge hlt hrec htb=>?_;exact fin c' ctv h' tk _ (I1.grow hP hx hge hrec htb) ⟨ol,hx _ _ aP ho,hcl',nl,hsl⟩ (hR c' (I1.hok.fresh hge))
 ·refine kla_makeFunctionHit (mg:=X.mg) hcl I1.ok.glob (I1.mod.glob.keeps I1.bk) hcode C1 eP ht hf B1 λctv h' tk hk hsz=>?_;exact fin c' ctv h' tk _ (I1.kept (t':=tk) hk) ⟨ol,hk _ _ ho,hcl',nl,hsl⟩ hR
end
end L2
end
section
namespace L2
open PySem PySem.Spec PyProof.Rows
def insL {α:Type}(xs:List α)(k:Nat)(y:α):List α:=xs.take k++y::xs.drop k
theorem FT {α:Type}(xs:List α)(k:Nat)(y:α):(insL xs k y).length=xs.length+1:=by
 unfold insL;rw[D4,K2,N7,Y8];omega
end L2
end
section
namespace Pu
open PySem PySem.Spec L2
section
variable {ι:Type}{K:A9}{F:ι->Cx}{e:Expr}{es:List Expr}{st:Stmt}{pos:Pos}{pl:pA}{pe pa pb:pE}
theorem SR.potG (S:SR C G σ H env n)(hn:C.np=true)(mo:MutO ob)(h:H p=none)(sm:Same H H')(h':H' p=some ob)(ok:C.T.at_ (p::G.M) H' p n) :
   SR C ⟨p::G.M,G.pots++[p]⟩ σ H' env n:=by
 have hM:∀a∈p::G.M,a∈G.M\/H a=none:=λa ha=>(D0.mp ha).elim (λz=>.inr (z▸h)) .inl
 have hp:∀(k:Nat) (q:A0),G.pots[k]?=some q->(G.pots++[p])[k]?=some q:=λk q e=>by
  obtain⟨hk,_⟩:=G4.mp e;rw[Y4 hk];exact e
 have mm:∀{x:PV} {v:V},Rep C.K G H x v->Rep C.K ⟨p::G.M,G.pots++[p]⟩ H' x v:=λr=>Rep.mono (G':=⟨p::G.M,G.pots++[p]⟩) (λb o _ e=>sm b o e) hM hp _ _ r;have mms:∀{x:List PV} {v:List V},Reps C.K G H x v->Reps C.K ⟨p::G.M,G.pots++[p]⟩ H' x v:=λr=>Reps.mono (G':=⟨p::G.M,G.pots++[p]⟩) (λb o _ e=>sm b o e) hM hp _ _ r;have pM:=S.fresh h
 exact {
  frame:=λb o hb e=>sm b o (S.frame b o hb e)
  sub:=λa ha=>(D0.mp ha).elim (λz=>.inr (z▸S.old h)) (S.sub a)
  sup:=λa ha=>C5 _ (S.sup a ha)
  pots:=λq hq=>by
   rcases E2.mp hq with z|z
   ·refine⟨C5 _ (S.pots q z).1,?_⟩;have h1:=C.T.more (M':=p::G.M) (S.pots q z).2 hM;obtain⟨o,e,_⟩:=C.T.mu h1;exact C.T.keep h1 (by rw[e,sm q o e]) λb o _ e=>sm b o e
   ·rw[E1.mp z];exact⟨C6,ok⟩
  pre:=by
   obtain⟨l,el,_⟩:=S.pre;exact⟨l++[p],by show G.pots++[p]=_;rw[el,N6],.inr hn⟩
  mu:=λa ha=>by
   rcases D0.mp ha with rfl|ha
   ·exact⟨ob,h',mo⟩
   ·obtain⟨o,e,m⟩:=S.mu a ha;exact⟨o,sm a o e,m⟩
  slots:=λi s e=>by
   cases s with
   | v x =>
    obtain⟨v,ev,r⟩:=S.slots i _ e;exact⟨v,ev,mm r⟩
   | ow kk xs =>
    obtain⟨b,us,ev,h1,h2,h3,h4,r⟩:=S.slots i _ e;refine⟨b,us,ev,C5 _ h1,h2,λz=>?_,sm _ _ h4,mms r⟩;rcases E2.mp z with z|z
    ·exact h3 z
    ·rw[E1.mp z] at h1;exact pM h1
  inj:=S.inj
  p0:=⟨S.p0.1,C.T.hasM S.p0.2 λz=>pM (S.pots p z).1⟩
  len:=S.len
  newp:=λq hq hn' hM=>by
   rcases E2.mp hq with z|z
   ·exact S.newp q z hn' hM
   ·rw[E1.mp z] at hM
    exact pM (S.sup p hM) }
end
end Pu
end
section
namespace Pu
open PySem PySem.W PySem.Spec L2
def TabG (lpos:Pos)(qual:Str)(M:List A0)(H:Hp)(ps:Array A1):Prop:=TriplesOk ps.toList/\(codeAmong lpos ps.toList=none\/∃c',codeAmong lpos ps.toList=some (.ref c')/\c'∉M/\H c'=some (X5 c' qual))
def tabK (T:PotK)(Pt:A0)(lpos:Pos)(qual:Str):PotK where
 at_:=λM H p n=>(p≠Pt/\T.at_ M H p n)\/(p=Pt/\∃ps,H Pt=some (.tbl ps)/\TabG lpos qual M H ps)
 mono:=λh hl=>h.imp (λz=>⟨z.1,T.mono z.2 hl⟩) id
 keep:=λh e k=>by
  rcases h with⟨h1,h2⟩|⟨rfl,ps,h2,h3,h4⟩
  ·exact .inl ⟨h1,T.keep h2 e k⟩
  ·refine .inr ⟨rfl,ps,e.trans h2,h3,h4.imp id ?_⟩;rintro⟨c',z1,z2,z3⟩;exact⟨c',z1,z2,k _ _ z2 z3⟩
 more:=λh k=>by
  rcases h with⟨h1,h2⟩|⟨rfl,ps,h2,h3,h4⟩
  ·exact .inl ⟨h1,T.more h2 k⟩
  ·refine .inr ⟨rfl,ps,h2,h3,h4.imp id ?_⟩;rintro⟨c',z1,z2,z3⟩;exact⟨c',z1,(λz=>(k c' z).elim z2 (λq=>by rw[q] at z3;cases z3)),z3⟩
 mu:=λh=>by
  rcases h with⟨h1,h2⟩|⟨rfl,ps,h2,_⟩
  ·exact T.mu h2
  ·exact⟨_,h2,trivial⟩
 has:=λl=>∃l',l=Pt::l'/\Pt∉l'
 hasM:=λ{l p} h hp=>by
  obtain⟨l',rfl,h2⟩:=h;refine⟨l'++[p],rfl,λz=>?_⟩;rcases E2.mp z with z|z
  ·exact h2 z
  ·exact hp (by rw[<- E1.mp z];exact C6)
def Cr:pF:=λxs n R=>match xs with|[.pot (_+1),.int m]=>(0<m/\m<1000000/\n<1000000000)/\∀d:Int,0<=d->d<m->R (.int d) (n+1)|_=>False
section
variable {P:D1}{w:C9}{K:A9}{mg:Str->Option A1}{base:B6}{T:PotK}{Pt:A0}{lpos:Pos}{qual:Str}
theorem RH {x:Str}{k:Nat}{ps:List Str}(G:Kn P w K mg base x k ps (F3 K T Ci))(hT:T.has=λ_=>True):Kn P w K mg base x k ps (F3 K (tabK T Pt lpos qual) Cr):=G.imp λvs H Q E h=>by
 obtain⟨G,xs,n,R,hp,hm,hh,r,hf,k⟩:=h;unfold Cr at hf
 split at hf
 ·rename_i kk m;obtain⟨v,rr,rfl,rv,u,r2,rfl,ru,rfl⟩:=r;obtain⟨p,ep,rfl⟩:=rv;obtain rfl:u=.int m:=ru;obtain⟨l',el,nl⟩:=hh;have epl:l'[kk]?=some p:=by rw[el] at ep;simpa using ep
  have pl:p∈l':=J8 epl;have sub:∀q∈l',q∈G.pots:=λq hq=>by rw[el];exact C5 _ hq
  have at1:∀q∈l',q∈G.M/\T.at_ G.M H q n:=λq hq=>by
   obtain⟨a1,a2⟩:=hp q (sub q hq);rcases a2 with⟨_,a2⟩|⟨z,_⟩
   ·exact⟨a1,a2⟩
   ·exact absurd (z▸hq) nl
  have ptM:Pt∈G.pots:=by rw[el];exact C6
  refine⟨⟨G.M,l'⟩,[.pot kk,.int m],n,λr n'=>R r n'/\∃d,r=.int d,at1,hm,by rw[hT];trivial,⟨_,_,rfl,⟨p,epl,rfl⟩,_,_,rfl,rfl,rfl⟩,⟨hf.1,λd d0 d1=>⟨hf.2 d d0 d1,d,rfl⟩⟩,λr n' v H' rr rv hp' hk=>?_⟩
  have nr:Rep K G H' r v:=by
   obtain⟨_,d,rfl⟩:=rr;exact rv
  refine k r n' v H' rr.1 nr (λq hq=>?_) λb o hb e=>hk b o (λz=>hb (sub b z)) e;rw[el] at hq;rcases D0.mp hq with rfl|hq
  ·rcases(hp q ptM).2 with⟨z,_⟩|⟨_,ps,z1,z2,z3⟩
   ·exact absurd rfl z
   ·refine .inr ⟨rfl,ps,hk _ _ nl z1,z2,z3.imp id ?_⟩;rintro⟨c',y1,y2,y3⟩;exact⟨c',y1,y2,hk _ _ (λz=>y2 ((hp c' (sub c' z)).1)) y3⟩
  ·exact .inl ⟨λz=>nl (z▸hq),hp' q hq⟩
 ·exact hf.elim
end
end Pu
end
section
namespace Pu
open PySem PySem.W PySem.Spec L2
def Bi (pk:pE)(y:PV):List PV->Nat->(List Int->Nat->Prop)->Prop
 |[],n,R=>R [] n
 |x::xs,n,R=>pk [some (.v x),some (.v y)] n λr _ n1=>∃k,r=.int k/\Bi pk y xs n1 λks n2=>R (k::ks) n2
def SrtK (ks:List Int)(xs ys:List PV):Prop:=∃ps:List (Int×PV),ps.Perm (ks.zip xs)/\ys=ps.map Prod.snd/\ps.Pairwise λp q=>p.1<=q.1
def FU (iy:Nat)(pe pk:pE):pA:=λenv n R=>pe env n λx jc n1=>match x,jc[iy]? with
 |.lst xs,some (some (.v y))=>xs.length<64/\Bi pk y xs n1 λks n2=>∀ys,SrtK ks xs ys->R ys jc n2
 |_,_=>False
theorem LG {α β:Type}{f:α->β}{ps m:List β}(h:ps.Perm m):∀l:List α,m=l.map f->∃l':List α,l'.Perm l/\ps=l'.map f:=by
 induction h with
 |nil=>intro l e;exact⟨l,.refl _,e⟩
 | cons x _ ih =>
  intro l e;cases l with
  |nil=>cases e
  | cons a l =>
   rw[F2] at e;injection e with e1 e2;obtain⟨l',p,q⟩:=ih l e2;exact⟨a::l',.cons a p,by rw[F2,e1,q]⟩
 | swap x y r =>
  intro l e
  match l,e with
  | a :: b :: l, e =>
   rw[F2,F2] at e;injection e with e1 e2;injection e2 with e2 e3;exact⟨b::a::l,.swap _ _ _,by rw[F2,F2,e1,e2,e3]⟩
 | trans _ _ ih1 ih2 =>
  intro l e;obtain⟨l2,p2,q2⟩:=ih2 l e;obtain⟨l1,p1,q1⟩:=ih1 l2 q2;exact⟨l1,p1.trans p2,q1⟩
theorem zip3 {K:A9}{G:Gh}{H:Hp}:∀(ks:List Int) (xs:List PV) (us:List V),Reps K G H xs us->∃l:List (Int×PV×V),ks.zip us=l.map (λt=>(t.1,t.2.2))/\ks.zip xs=l.map (λt=>(t.1,t.2.1))/\∀t∈l,Rep K G H t.2.1 t.2.2
 |[],xs,us,_=>⟨[],by simp,by simp,λ_ z=>nomatch z⟩
 |k::ks,[],us,h=>by cases(show us=[] from h);exact⟨[],rfl,rfl,λ_ z=>nomatch z⟩
 | k :: ks, x :: xs, us, h => by
  obtain⟨v,r,rfl,h1,h2⟩:=h;obtain⟨l,e1,e2,h3⟩:=zip3 ks xs r h2;refine⟨(k,x,v)::l,by rw[O9,e1];rfl,by rw[O9,e2];rfl,λt ht=>?_⟩;rcases D0.mp ht with rfl|ht
  ·exact h1
  ·exact h3 t ht
theorem LH {K:A9}{G:Gh}{H:Hp}:∀(l:List (Int×PV×V)),(∀t∈l,Rep K G H t.2.1 t.2.2)->Reps K G H (l.map λt=>t.2.1) (l.map λt=>t.2.2)
 |[],_=>rfl
 |t::l,h=>⟨_,_,rfl,h t C6,LH l λs hs=>h s (C5 _ hs)⟩
theorem RI {K:A9}{G:Gh}{H:Hp}{ks:List Int}{xs:List PV}{us ys:List V}(r:Reps K G H xs us)(h:KOut ks us ys):∃ys',SrtK ks xs ys'/\Reps K G H ys' ys:=by
 obtain⟨ps,hp,rfl,ho⟩:=h;obtain⟨l,e1,e2,h3⟩:=zip3 ks xs us r;rw[e1] at hp;obtain⟨l',p',rfl⟩:=LG hp l rfl;refine⟨l'.map λt=>t.2.1,⟨l'.map λt=>(t.1,t.2.1),by rw[e2];exact p'.map _,by rw[T0];rfl,?_⟩,?_⟩
 ·rw[o5] at ho ⊢;exact ho
 ·rw[T0];exact LH l' λt ht=>h3 t (p'.mem_iff.mp ht)
section
variable {T:PotK}{K:A9}{Pt:A0}{lpos:Pos}{qual:Str}
theorem LI {tb:TE}{pk:pE}(hb:EOk K T tb pk){G:Gh}{H1 H2:Hp}{kS c':A0}{y:PV}{vy:V}(hh:T.has G.pots)(h0:∀b o,b∉G.pots->H1 b=some o->H2 b=some o)(k1:H1 kS=none)(k2:H2 kS=none)(kM:kS∉G.M)(pM:∀p∈G.pots,p∈G.M)(hm:∀a∈G.M,∃o,H1 a=some o/\MutO o)
   (hc:H2 c'=some (X5 c' qual)) (cM:c'∉G.M) (ry:Rep K G H1 y vy) {R4:List Int->Hp->Prop} {RR:List Int->Nat->Prop}
   (fin:∀ks H4 n2,RR ks n2->(∀b o,b∉G.pots->H2 b=some o->H4 b=some o)->(∀p∈G.pots,T.at_ (kS::G.M) H4 p n2)->H4 kS=some (.lst (ks.map V.int))->R4 ks H4) :
   ∀(xs:List PV) (us:List V) (ks:List Int) (n:Nat) (H3:Hp),Reps K G H1 xs us->(∀b o,b∉G.pots->H2 b=some o->H3 b=some o)->(∀p∈G.pots,T.at_ (kS::G.M) H3 p n)->H3 kS=some (.lst (ks.map V.int))->Bi pk y xs n (λmore n2=>RR (ks++more) n2)->Cq tb vy kS c' qual us ks H3 R4
 | [], us, ks, n, H3, r, fr, at3, e3, hk => by
  cases(show us=[] from r);exact fin ks H3 n (by simpa[Bi] using hk) fr at3 e3
 | x :: xs, us, ks, n, H3, r, fr, at3, e3, hk => by
  obtain⟨u,us,rfl,rx,rr⟩:=r;have kP:kS∉G.pots:=λz=>kM (pM _ z);have neK:∀b o,H2 b=some o->b≠kS:=λb o e z=>by rw[z,k2] at e;cases e
  let GD:Gh:=⟨kS::G.M,G.pots⟩
  have fr1:∀b o,b∉G.M->H1 b=some o->H3 b=some o:=λb o hb e=>fr b o (λz=>hb (pM b z)) (h0 b o (λz=>hb (pM b z)) e);have mv:∀{x:PV} {v:V},Rep K G H1 x v->Rep K GD H3 x v:=λr=>Rep.mono (G':=GD) fr1 (λa ha=>(D0.mp (show a∈kS::G.M from ha)).elim (λz=>.inr (z▸k1)) .inl) (λ_ _ e=>e) _ _ r
  have I:Inn K T GD [some u,some vy] H3 [some (.v x),some (.v y)] n:=by
   refine⟨λp hp=>⟨C5 _ (pM p hp),at3 p hp⟩,hh,λa ha=>?_,λi s e=>?_,rfl⟩
   ·rcases D0.mp (show a∈kS::G.M from ha) with rfl|ha
    ·exact⟨_,e3,trivial⟩
    ·by_cases hp:a∈G.pots
     ·exact T.mu (at3 a hp)
     ·obtain⟨o,e,m⟩:=hm a ha;exact⟨o,fr a o hp (h0 a o hp e),m⟩
   ·match i,e with
    |0,e=>cases e;exact⟨x,u,rfl,rfl,mv rx⟩
    |1,e=>cases e;exact⟨y,vy,rfl,rfl,mv ry⟩
    |_+2,e=>cases e
  refine⟨fr c' _ (λz=>cM (pM _ z)) hc,?_⟩;refine hb _ GD _ H3 _ n _ _ rfl rfl I.sr hk λq jh n1 v H4 rq S4 rv f4=>?_;obtain⟨k,rfl,hk2⟩:=rq;have e4:H4 kS=some (.lst (ks.map V.int)):=S4.frame kS _ kP e3;refine⟨k,rv,e4,?_⟩;refine LI hb hh h0 k1 k2 kM pM hm hc cM ry fin xs us (ks++[k]) n1 _ rr (λb o hp e=>?_) (λp hp=>?_) E8 (by simpa[N6] using hk2)
  ·rw[C3 (neK b o e)];exact S4.frame b o hp (fr b o hp e)
  ·refine T.keep (S4.pots p hp).2 (C3 λz=>kP (z▸hp)) λb o hb e=>?_;rw[C3 (λz=>hb (by rw[z];exact C6))];exact e
theorem RJ {te tb:TE}{pe pk:pE}{iy:Nat}(h2:ROk K (tabK T Pt lpos qual) te pe)(hb:EOk K (tabK T Pt lpos qual) tb pk):NOk K (tabK T Pt lpos qual) (LF K Pt lpos qual iy te tb) (FU iy pe pk):=by
 intro C G σ H env n R Q hK hT S hp k;refine h2 C G σ H env n _ _ hK hT S hp λx jc n1 v H1 p1 S1 r1 f1=>?_;have rd:RdV K G H1 x v:=hK▸r1.rd S1
 split at p1
 ·rename_i xs y ey;obtain⟨h64,p1⟩:=p1;obtain⟨a,us,rfl,hq,r⟩:=rd.lst;obtain⟨vy,ev,ry⟩:=S1.slots iy _ ey;rw[hK] at ry;have hh:(tabK T Pt lpos qual).has G.pots:=hT▸S1.hasG;obtain⟨l',el,nl⟩:=id hh;have ptM:Pt∈G.pots:=by rw[el];exact C6
  have atH:∀p∈G.pots,p∈G.M/\(tabK T Pt lpos qual).at_ G.M H1 p n1:=λp hp=>hT▸S1.pots p hp;have pM:∀p∈G.pots,p∈G.M:=λp hp=>(atH p hp).1
  obtain⟨ps,eP,tg⟩:∃ps,H1 Pt=some (.tbl ps)/\TabG lpos qual G.M H1 ps:=by
   rcases(atH Pt ptM).2 with⟨z,_⟩|⟨_,z⟩
   ·exact absurd rfl z
   ·exact z
  have ul:us.length=xs.length:=r.length.symm
  have rest:∀c' H2,(∀b o,b∉G.pots->H1 b=some o->H2 b=some o)->(∀p∈G.pots,(tabK T Pt lpos qual).at_ G.M H2 p n1)->H2 c'=some (X5 c' qual)->c'∉G.M->FS qual tb vy us Q c' H2:=by
   intro c' H2 h0 at2 hc cM kS a2 nk na hka
   have k1:H1 kS=none:=by
    cases e:H1 kS with
    |none=>rfl
    | some o =>
     by_cases hp:kS∈G.pots
     ·obtain⟨o2,e2,_⟩:=(tabK T Pt lpos qual).mu (at2 kS hp);rw[nk] at e2;cases e2
     ·rw[h0 kS o hp e] at nk;cases nk
   have kM:kS∉G.M:=S1.fresh k1;refine LI hb hh h0 k1 nk kM pM S1.mu hc cM ry (RR:=λks n2=>∀ys,SrtK ks xs ys->R ys jc n2) (λks H4 n2 rr fr4 at4 e4 n4 ys ko=>?_) xs us [] n1 _ r (λb o hp e=>?_) (λp hp=>?_) E8 p1
   ·obtain⟨ys',so,ry'⟩:=RI r ko;have ne4:∀b o,H2 b=some o->b≠kS:=λb o e z=>by rw[z,nk] at e;cases e
    have hk4:∀b o,b∉G.pots->H1 b=some o->upd H4 kS (.lst []) b=some o:=λb o hp e=>by
     have e2:=h0 b o hp e;rw[C3 (ne4 b o e2)];exact fr4 b o hp e2
    have fr:Fr G H1 (upd H4 kS (.lst [])):=λb o hb e=>hk4 b o (λz=>hb (pM b z)) e;refine k ys' jc n2 a2 ys (upd H4 kS (.lst [])) (rr ys' so) (S1.call hk4 λp hp=>?_) (f1.trans fr) (by rw[C3 hka.symm];exact n4) (ry'.fr fr);rw[hT];have h5:=(tabK T Pt lpos qual).more (M':=G.M) (at4 p hp) λa ha=>.inl (C5 _ ha)
    -- kS is none of the pots' things
    have h6:=(tabK T Pt lpos qual).keep (H':=upd H4 kS (.lst [])) (at4 p hp) (C3 λz=>kM (pM _ (z▸hp))) λb o hb e=>by
     rw[C3 (λz=>hb (by rw[z];exact C6))];exact e
    exact(tabK T Pt lpos qual).more (M':=G.M) h6 λa ha=>.inl (C5 _ ha)
   ·rw[C3 (λz=>by rw[z,nk] at e;cases e)];exact e
   ·have h5:=(tabK T Pt lpos qual).more (M':=kS::G.M) (at2 p hp) λa ha=>(D0.mp ha).elim (λz=>.inr (z▸nk)) .inl
    exact(tabK T Pt lpos qual).keep h5 (C3 λz=>kM (pM _ (z▸hp))) λb o hb e=>by
     rw[C3 (λz=>hb (by rw[z];exact C6))];exact e
  refine⟨a,us,vy,ps,rfl,hq,by omega,ev,eP,tg.1,?_⟩;rcases tg.2 with hn|⟨c',z1,z2,z3⟩
  ·refine .inl ⟨hn,λc' hc'=>rest c' _ (λb o hp e=>?_) (λp hp=>?_) ?_ (S1.fresh hc')⟩
   ·have b1:b≠Pt:=λz=>hp (by rw[z];exact ptM);rw[C3 b1,C3 (λz=>by rw[z,hc'] at e;cases e)];exact e
   ·by_cases hpp:p=Pt
    ·subst hpp;refine .inr ⟨rfl,_,E8,?_,.inr ⟨c',?_,S1.fresh hc',?_⟩⟩
     ·have e:(ps++#[rawInt lpos.line,rawInt lpos.col,L8 c']).toList=ps.toList++[rawInt lpos.line,rawInt lpos.col,.ref c']:=by simp
      rw[e];exact TriplesOk_snoc _ _ _ _ tg.1
     ·have e:(ps++#[rawInt lpos.line,rawInt lpos.col,L8 c']).toList=ps.toList++[rawInt lpos.line,rawInt lpos.col,.ref c']:=by simp
      rw[e];exact codeAmong_snoc _ tg.1 hn
     ·rw[C3 (λz=>by rw[z,eP] at hc';cases hc'),E8]
    ·rcases(atH p hp).2 with⟨_,z⟩|⟨z,_⟩
     ·refine .inl ⟨hpp,?_⟩;have nc:p≠c':=λq=>S1.fresh hc' (by rw[<- q];exact pM p hp);have z2:=T.keep (H':=upd H1 c' (X5 c' qual)) z (C3 nc) λb o _ e=>by rw[C3 (λq=>by rw[q,hc'] at e;cases e)];exact e
      exact T.keep z2 (by rw[C3 hpp]) λb o hb e=>by rw[C3 (λq=>hb (by rw[q];exact pM _ ptM))];exact e
     ·exact absurd z hpp
   ·rw[C3 (λz=>by rw[z,eP] at hc';cases hc'),E8]
  ·exact .inr ⟨c',z1,z3,rest c' H1 (λ_ _ _ e=>e) (λp hp=>(atH p hp).2) z3 z2⟩
 ·exact p1.elim
end
section
variable {T:PotK}{ι:Type}{K:A9}{F:ι->Cx}{Pt cd:A0}{lpos p pos kpos:Pos}{qual x y:Str}{e body:Expr}{pe pk:pE}{scope:G0}{params:Arguments}{iy k:Nat}{c:ι->A0}
theorem RK (he:QR (tabK T Pt lpos qual) K F e pe)
   (hb:QE (tabK T Pt lpos qual) K (λq:ι×A0×A0×A5×Hp=>Cp (F q.1) scope [x,y] qual q.2.1 q.2.2.1 [(y,c q.1)] q.2.2.2.1 q.2.2.2.2) body pk)
   (S:DR scope x y) (hr:∀z,Room k (F z).A) (hc:∀z,(F z).env.cells.lookup y=some (c z)) (hi:∀z,(F z).env.scope.names.lookup y=some .cell) (hn:∀z,(F z).N[iy]?=some y)
   (bd:∀z (pm ct jo u:A1),Y0 (kla_fn "<lambda>" qual params body scope [(y,c z)] pm jo ct) ⟨[u],[]⟩=pure [(x,u)])
   (hq:∀z,(F z).env.qual++"<lambda>"=qual) (hcl:∀z,closureFor scope (F z).env=pure [(y,c z)]) (hcode:∀z,(F z).env.code=.ref cd) (C:∀z,CodeHd (F z).base cd Pt) (hB:∀z,(F z).base.BuiltinsAt (F z).mg Pt)
   (hg:∀z,Gl (F z) "sorted") (hm:∀z,(F z).mg "sorted"=none) (hdef:∀z,defaultsOf params (F z).env=([],[])) (hs:F9 e=true:=by rfl) (hK:∀z,(F z).K=K:=by intro _;rfl) :
   QN (tabK T Pt lpos qual) K F (.Call (.Name "sorted" p) [e] [⟨some "key",.Lambda params body scope lpos,kpos⟩] pos) (FU iy pe pk):=by
 obtain⟨t,h1,h2⟩:=he;obtain⟨u,h3,h4⟩:=hb;refine⟨_,λz=>hK z▸RG (c:=c z) (k:=k) (tb:=u) ⟨S,hr z,hc z,hi z,hn z,bd z,λf c' s H=>h3 (z,f,c',s,H)⟩ (hq z) (hcl z) (hcode z) (C z) (hB z) (hg z) (hm z) (h1 z) (D9 hs) (hdef z),RJ h2 h4⟩
end
end Pu
end
section
namespace L2
open PySem PySem.W PySem.Spec PyProof.Rows
def Ix (Pt:A0)(H:Hp):Prop:=∀b,H b=none\/(∃o xs,H b=some (.frz o (.lst xs)))\/(b=Pt/\H b=some (.tbl #[]))
theorem RL {P:D1}{w:C9}{K:Frag}{mg mb:Str->Option A1}{CX:CXT}{k:Nat}{fa a Pt cd:A0}{fd:FuncData}{x:Str}{sp:Sp}{s₁:A5}{vs:List A1}{ns:List Int}
   (KX:K.In s₁.heap) (hns:s₁.heap.Ns T7 mg) (hb:s₁.heap.Ns builtinsNs mb) (hbb:∀x:Str,x≠"__name__"->mb x=O2 x) (hlim:s₁.heap.NoLimit) (hg:s₁.gens=#[])
   (ha:s₁.heap.get? a=some { cls:=.type "list",data:=.seq vs.toArray }) (hi:IntsAre vs ns) (hl:ns.length<=C8) (hr:Room k callerA)
   (hP:s₁.heap.get? Pt=some (tabObj #[])) (hC:CodeHd s₁.heap cd Pt) (hB:s₁.heap.BuiltinsAt mg Pt) (hKP:K.lookup Pt=none) (hsy:O3≠Pt)
   (F:∀base:B6,K.In base->base.Ns T7 mg->CodeHd base cd Pt->base.BuiltinsAt mg Pt->FnOk P w K mg base CX k fa fd [x] sp) (hbind:∀(s:A5) (u:A1),BindsTo s fd ⟨[u],[]⟩ [(x,u)])
   (hsp:∀H:Hp,Ix Pt H->H Pt=some (.tbl #[])->SqL K H a (ns.map V.int)->sp [.ref a] H (λv _=>v=.bl true) λ_ _ _=>False)
   (hCX:∀H e s',CX [] H s₁ (λ_ _ _=>False) e s'->False) :
   M5 (A7 P w) callerA (.call (.ref fa) ⟨[.ref a],[]⟩) (λr s'=>r=.ok (.ret (.bool true))/\OldK s₁.heap s'.heap/\s'.os=s₁.os/\AllBare s'.gens) s₁:=by
 have rv:=Pb hi;have lenV:=hi.length;have haP:a≠Pt:=λz=>by rw[z,hP] at ha;cases ha
 have core:∀H:Hp,Ix Pt H->H Pt=some (.tbl #[])->SqL K H a (ns.map V.int)->HOk P w H s₁.heap->(∀b,H b≠none->b=a\/b=Pt)->(H a≠none->K.lookup a=none)->
     M5 (A7 P w) callerA (.call (.ref fa) ⟨[.ref a],[]⟩) (λr s'=>r=.ok (.ret (.bool true))/\OldK s₁.heap s'.heap/\s'.os=s₁.os/\AllBare s'.gens) s₁:=by
   intro H hO hPt hS hok hA hK;have base_of:∀{b:A0} {o:Obj},s₁.heap.get? b=some o->H b=none->(hidT s₁.heap H).get? b=some o:=λe n=>NV e n
   have noA:∀{b:A0} {o:Obj},s₁.heap.get? b=some o->(∀n,o.data≠.seq vs.toArray n)->(∀ps,o.data≠.fields ps)->H b=none:=λ{b o} e d1 d2=>by
    cases q:H b with
    |none=>rfl
    | some u =>
     rcases hA b (by rw[q];simp) with e'|e'
     ·subst e';rw[ha] at e;cases e;exact absurd rfl (d1 _)
     ·subst e';rw[hP] at e;cases e;exact absurd rfl (d2 _)
   have nsK:∀{b:A0} {m:Str->Option A1},s₁.heap.Ns b m->(hidT s₁.heap H).Ns b m:=λ{b m} ⟨o,es,ep,e,d,r⟩=>⟨o,es,ep,base_of e (noA e (λn z=>by rw[d] at z;cases z) (λn z=>by rw[d] at z;cases z)),d,r⟩
   have hKb:K.In (hidT s₁.heap H):=λb o e=>base_of (KX b o e) (by
    cases q:H b with
    |none=>rfl
    | some u =>
     rcases hA b (by rw[q];simp) with e'|e'
     ·subst e';rw[hK (by rw[q];simp)] at e;cases e
     ·subst e'
      rw[hKP] at e;cases e)
   have hM:Mod K mg (hidT s₁.heap H):=⟨hKb,nsK hns,⟨mb,nsK hb,hbb⟩,let ⟨mc,h1,h2⟩:=hlim;⟨mc,nsK h1,h2⟩⟩
   have hC':CodeHd (hidT s₁.heap H) cd Pt:=by
    obtain⟨o,vs',file,tf,flags,tg,inF,text,tt,e1,r1,r2,r3,r4,r5,r6,r7,r8,hne⟩:=hC;refine⟨o,vs',file,tf,flags,tg,inF,text,tt,base_of e1 ?_,r1,r2,r3,r4,r5,r6,r7,r8,hne⟩;cases q:H cd with
    |none=>rfl
    | some u =>
     rcases hA cd (by rw[q];simp) with e'|e'
     ·subst e';rw[ha] at e1;cases e1;have z:K4 "list"=K4 "code":=r1;injection z with z;exact absurd z (by decide)
     ·exact absurd e' hne
   have hB':(hidT s₁.heap H).BuiltinsAt mg Pt:=by
    obtain⟨bm,o,z1,z2,z3,z4,z5,z6,z7,z8⟩:=hB;exact⟨bm,o,z1,z2,z3,z4,base_of z5 (noA z5 (λn z=>by rw[z8] at z;cases z) (λn z=>by rw[z8] at z;cases z)),z6,z7,z8⟩
   have nsy:NS H:=by
    rcases hO O3 with z|⟨o,xs,z⟩|⟨z,_⟩
    ·exact .inl z
    ·exact .inr ⟨o,_,z⟩
    ·exact absurd z hsy
   have e0:Env0 P w K mg (hidT s₁.heap H) callerA [] s₁ H:=⟨rfl,hM,λb o e=>NW e,BJ (NU _ _),trivial,λb hb=>absurd (show b∈([]:List A0) from hb) (by simp),hok,.of_eq hg,nsy⟩;refine Ax ((F _ hKb (nsK hns) hC' hB').run callerA [] s₁ H ⟨[.ref a],[]⟩ [.ref a] [.ref a] _ _ hr e0 (hbind s₁ (.ref a)) (.cons rfl .nil) (hsp H hO hPt hS)) λr s' h=>?_;cases r with
   |error e=>exact(hCX H e s' h).elim
   | ok fl =>
    cases fl with
    |next=>exact i9 h
    |brk=>exact i9 h
    |cont=>exact i9 h
    | ret u =>
     obtain⟨v,H',os,bare,un,hok',r',q⟩:=h;have q':v=.bl true:=q;subst q';obtain rfl:u=Value.bool true:=r'
     have kept:∀b o,b≠Pt->s₁.heap.get? b=some o->s'.heap.get? b=some o:=λb o hb e=>by
      cases q:H b with
      |none=>exact un.keep b o e q (by intro z;exact absurd (show b∈([]:List A0) from z) (by simp)) (by simp)
      | some u =>
       rcases hO b with z|⟨ob,xs,z⟩|⟨z,_⟩
       ·rw[q] at z;cases z
       ·have z2:=un.frzs b ob _ z;obtain⟨e1,_⟩:=hok b _ z;obtain⟨e2,_⟩:=hok' b _ z2;rw[e] at e1;cases e1;exact e2
       ·exact absurd z hb
     obtain⟨more,hm⟩:=un.tbls Pt #[] hPt;have eP:s'.heap.get? Pt=some (tabObj (#[]++more)):=hok' Pt _ hm;refine⟨rfl,⟨λb o e=>?_,λb o e=>?_⟩,os,bare⟩
     ·by_cases hb:b=Pt
      ·subst hb;rw[hP] at e;cases e;exact .inr (.inl ⟨(hC.tab hP).isCodeTable,rfl,#[],more,rfl,eP⟩)
      ·exact .inl (kept b o hb e)
     ·by_cases hb:b=Pt
      ·subst hb;exact⟨_,eP⟩
      ·exact⟨o,kept b o hb e⟩
 have tabOk:∀(H:Hp),J0 P w H s₁.heap Pt (.tbl #[]):=λH=>hP;cases hk:K.lookup a with
 | some o =>
  have e:=KX a o hk;rw[ha] at e;cases e;refine core (λb=>if b=Pt then some (.tbl #[]) else none) (λb=>?_) (jt rfl) (.inr ⟨_,vs.toArray,_,hk,rfl,rfl,rfl,by rw[G5,lenV];exact hl,by simpa using rv⟩) (λb u z=>?_) (λb z=>?_) λz=>absurd (ju haP) z
  ·by_cases hb:b=Pt
   ·exact .inr (.inr ⟨hb,jt hb⟩)
   ·exact .inl (ju hb)
  ·by_cases hb:b=Pt
   ·have z':=(jt hb).symm.trans z;cases z';subst hb;exact tabOk _
   ·have z':=(ju hb).symm.trans z;cases z'
  ·by_cases hb:b=Pt
   ·exact .inr hb
   ·exact absurd (ju hb) z
 | none =>
  refine core (λb=>if b=Pt then some (.tbl #[]) else if b=a then some (.frz { cls:=.type "list",data:=.seq vs.toArray } (.lst (ns.map V.int))) else none) (λb=>?_) (jt rfl) (.inl (.inr ⟨{ cls:=.type "list",data:=.seq vs.toArray },?_⟩)) (λb u z=>?_) (λb z=>?_) λ_=>hk
  ·by_cases hb:b=Pt
   ·exact .inr (.inr ⟨hb,jt hb⟩)
   ·by_cases hb2:b=a
    ·exact .inr (.inl ⟨_,_,by simp only[ju hb,jt hb2];rfl⟩)
    ·exact .inl (by simp only[ju hb,ju hb2])
  ·show(if a=Pt then _ else if a=a then _ else _)=_;rw[ju haP,jt rfl]
  ·have z:(if b=Pt then some (HO.tbl #[]) else if b=a then some (.frz { cls:=.type "list",data:=.seq vs.toArray } (.lst (ns.map V.int))) else none)=some u:=z
   by_cases hb:b=Pt
   ·rw[jt hb] at z;cases z;subst hb;exact tabOk _
   ·rw[ju hb] at z
    by_cases hb2:b=a
    ·rw[jt hb2] at z;cases z;subst hb2;exact⟨ha,by rw[B4];exact hl,vs,_,rv,ha⟩
    ·rw[ju hb2] at z;cases z
  ·by_cases hb:b=Pt
   ·exact .inr hb
   ·by_cases hb2:b=a
    ·exact .inl hb2
    ·exact absurd (show(if b=Pt then _ else if b=a then _ else none)=none by rw[ju hb,ju hb2]) z
structure Fn0C (K:Frag)(mg:Str->Option A1)(x:Str)(st:Stmt)(cd:A0):Prop where
 ex:∃(f:A0) (oc:A1) (od:Option A0) (kV doc pm:A1) (an:Option A0) (ct:A1) (osl:Array (Option A1)),K.lookup f=some ⟨oc,od,.func (fnOf x x (U5 st) (N8 st) (F7 st) .none kV doc pm an (.ref cd) ct),osl⟩/\codeIn K (.ref cd) x=true/\keepIn K (.ref f)=true/\mg x=some (.ref f)
theorem RM {K:Frag}{h:B6}{mg:Str->Option A1}{x:Str}{st:Stmt}(X:K.In h)(G:h.Ns T7 mg){f cd:A0}{oc:A1}{od an:Option A0}{osl:Array (Option A1)}{kV doc pm ct:A1}
   (a:nsIn K T7 x=some (some (.ref f))) (l:K.lookup f=some ⟨oc,od,.func (fnOf x x (U5 st) (N8 st) (F7 st) .none kV doc pm an (.ref cd) ct),osl⟩)
   (c:codeIn K (.ref cd) x=true) (k:keepIn K (.ref f)=true):Fn0C K mg x st cd:=⟨f,oc,od,kV,doc,pm,an,ct,osl,l,c,k,mg_of X G a⟩
section
variable {P:D1}{w:C9}{K:Frag}{mg:Str->Option A1}{base:B6}
theorem Fn0C.ok {x:Str}{st:Stmt}{cd:A0}{N ps:List Str}{k:Nat}{sp:Sp}(F:Fn0C K mg x st cd)(S:U4 N ps (F7 st))(len:∀vs H Q E,sp vs H Q E->vs.length=ps.length)
   (bd:∀(kV doc pm:A1) (an:Option A0) (jo ct:A1) (us:List A1),us.length=ps.length->Y0 (fnOf x x (U5 st) (N8 st) (F7 st) .none kV doc pm an jo ct) ⟨us,[]⟩=pure (ps.zip us))
   (hbody:∀(f:A0) (A:D5) (outer:List Env) (s:A5) (H:Hp) (vs:List V) (Q:VK) (E:XK),Room k (A.deeper (envOfC x (F7 st) s.heap.objs.size f (.ref cd)))->sp vs H Q E->
     ∃t,PSs (cxOf CX0 P w K mg base N x (F7 st) f (.ref cd) A outer s H E).nox (N8 st) t/\t { nx:=λ_ H'=>Q .non H',rt:=Q } (start N vs) H):Kn P w K mg base x (k+1) ps sp:=by
 obtain⟨f,oc,od,kV,doc,pm,an,ct,osl,l,hcd,kp,m⟩:=F.ex;refine⟨f,_,fn_of l hcd S len λA outer s H vs Q E hr hsp=>?_,.all (bd kV doc pm an (.ref cd) ct),kp,m,oc,od,osl,l⟩;obtain⟨t,h,q⟩:=hbody f A outer s H vs Q E hr hsp;exact⟨t,h.nox,q⟩
end
def FV (K:Frag)(Pt:A0):Sp:=λvs H Q _=>∃(a:A0) (ns:List Int),vs=[.ref a]/\SqL K H a (ns.map V.int)/\ns.length<=63/\Ix Pt H/\H Pt=some (.tbl #[])/\∀H',Q (.bl true) H'
theorem RN {l:OpenLaw}{q:D1}{loose:List Str}{XP:(Str->Option A1)->B6->Prop}{d:DefRec}{K:Params->Frag}{as:List A0}{e:∀P,as=(K P).map (·.1)}{Pt:A0}{x:Str}{k:Nat}(hn:l.most=some 63)(hdf:d.params.defaults=[])(hk:Room k callerA)(hsy:O3≠Pt)
   (F:∀(w:C9) (mg:Str->Option A1) (h:B6),(K w.params).In h->h.Ns T7 mg->∃st x' st',Fn0 (K w.params) mg d.name st/\(∃cd,Fn0C (K w.params) mg x' st' cd/\codeHdIn (K w.params) cd Pt=true)/\(K w.params).lookup Pt=none/\
     (∀(kV doc pm:A1) (an:Option A0) (jo ct:A1) (s:A5) (u:A1),BindsTo s (fnOf d.name d.name (U5 st) (N8 st) (F7 st) .none kV doc pm an jo ct) ⟨[u],[]⟩ [(x,u)])/\
     ∀cd,Fn0C (K w.params) mg x' st' cd->∀base:B6,(K w.params).In base->base.Ns T7 mg->CodeHd base cd Pt->base.BuiltinsAt mg Pt->Kn l.prog w (K w.params) mg base d.name k [x] (FV (K w.params) Pt)) :
   WalkO q loose XP (kmHook K as e [Pt]).says l.row.toRowW d [] (λf vs=>PySem.call f vs):=by
 refine Att.attach_call hn hdf λw s₀ s₁ mg mb fa o pm jo doc a vs ns G Y ho hd hcd hmg hobj hints hlen hg=>?_;have KX:=km_in_of Y;have hP:=km_tabs_of Y Pt C6;obtain⟨st,x',st',F0,⟨cd,fC,hhd⟩,hKP,hb,hF⟩:=F w mg _ KX G.T.g;obtain⟨f,fd,F1,m⟩:=F0.ex;have e:=hmg.symm.trans m;cases e;have hC:=codeHd_of_K KX hhd
 have hB:s₁.heap.BuiltinsAt mg Pt:=by
  obtain⟨bm,ob,b1,b2,b3,b4,b5,b6⟩:=G.T.bmain;refine⟨bm,ob,b1,b2,λq=>?_,λq=>?_,b3,b4,b5,b6⟩
  ·obtain⟨o,es,ep,e,hd,_⟩:=G.T.g;rw[q,e] at b3;cases b3;rw[hd] at b6;cases b6
  ·rw[q,hP] at b3;cases b3;cases b4
 refine RL (x:=x) (CX:=CX0) (sp:=FV (K w.params) Pt) (fd:=fd) KX G.T.g G.T.b G.T.builtins G.T.nolimit hg hobj hints (J9 hlen (by decide)) hk hP hC hB hKP hsy (λbase kb nb c1 c2=>?_) (λs u=>?_) (λH hO hPt hS=>⟨a,ns,rfl,hS,hlen,hO,hPt,λ_=>rfl⟩) λ_ _ _ z=>z
 ·obtain⟨f',fd',a',b',c',m',oc',od',osl',lk'⟩:=(hF cd fC base kb nb c1 c2).ex;have e:=m.symm.trans m';cases e;obtain⟨oc,od,kV,doc,pm,an,jo,ct,osl,_,lk,hcd⟩:=F1.ex;have e2:=lk.symm.trans lk';cases e2;exact a'
 ·obtain⟨oc,od,kV,doc,pm,an,jo,ct,osl,rfl,lk,hcd⟩:=F1.ex;exact hb kV doc pm an jo ct s u
end L2
namespace Pu
open PySem PySem.W PySem.Spec L2
section
variable {P:D1}{w:C9}{K:A9}{mg:Str->Option A1}{base:B6}{T:PotK}{Pt:A0}{lpos:Pos}{qual:Str}
theorem fn_okC {x:Str}{st:Stmt}{cd:A0}{N ps:List Str}{k:Nat}{body:pS}(F0:Fn0C K mg x st cd)(sc:U4 N ps (F7 st))
   (bd:∀(kV doc pm:A1) (an:Option A0) (jo ct:A1) (us:List A1),us.length=ps.length->Y0 (W1 x x (U5 st) (N8 st) (F7 st) .none kV doc pm an jo ct) ⟨us,[]⟩=pure (ps.zip us))
   (h:∀(f:A0) (A:D5) (outer:List PySem.Env) (s:A5) (H:Hp) (E:XK),Room k (A.deeper (EJ x (F7 st) s.heap.objs.size f (.ref cd)))->
     QSs T false K (λ_:Unit=>(cxOf CX0 P w K mg base N x (F7 st) f (.ref cd) A outer s H E).nox) (N8 st) body) :
   Kn P w K mg base x (k+1) ps (F3 K T (fnP N ps body)):=by
 refine F0.ok sc (λvs H Q E h=>?_) bd (λf A outer s H vs Q E hr hsp=>?_)
 ·obtain⟨G,xs,n,R,_,_,_,r,hf,_⟩:=h;rw[<- r.length];exact hf.1
 ·obtain⟨t,h1,h2⟩:=h f A outer s H E hr;obtain⟨G,xs,n,R,hp,hm,hh,r,hf,k'⟩:=hsp;refine⟨t,h1 (),?_⟩;have S0:=HM (N:=N) (np:=false) hp hm hh r
  have fin:∀(x:PV) (n':Nat) (v:V) (G':Gh) (σ:St) (H':Hp) (env:Env),R x n'->SR ⟨K,T,G.M,G.pots,H,false⟩ G' σ H' env n'->Rep K ⟨G.M,G'.pots⟩ H' x v->Q v H':=by
   intro x n' v G' σ H' env rr S' rv
   have ep:G'.pots=G.pots:=by
    obtain⟨l,el,hl⟩:=S'.pre;rcases hl with hl|hl
    ·rw[el,hl,R9]
    ·cases hl
   rw[ep] at rv;exact k' _ _ _ _ rr rv (λp hp'=>T.more (S'.pots p (by rw[ep];exact hp')).2 λa ha=>.inl (S'.sup a ha)) S'.frame
  refine h2 _ G _ H _ n _ _ rfl rfl rfl S0 hf.2 ⟨λenv n' G' σ H' q S' _=>?_,λx n' v G' σ H' env q S' rv _=>fin x n' v G' σ H' env q S' rv,λ_ _ _ _ _ q=>q.elim,λ_ _ _ _ _ q=>q.elim⟩;exact fin .non n' .non G' σ H' env q S' rfl
theorem RO {x:Str}{st:Stmt}{N:List Str}{y:Str}{k:Nat}{body:pS}(F0:Fn0 K mg x st)(sc:U4 N [y] (F7 st))
   (bd:∀(kV doc pm:A1) (an:Option A0) (jo ct:A1) (us:List A1),us.length=[y].length->Y0 (W1 x x (U5 st) (N8 st) (F7 st) .none kV doc pm an jo ct) ⟨us,[]⟩=pure ([y].zip us))
   (h:∀(f:A0) (jo:A1) (A:D5) (outer:List PySem.Env) (s:A5) (H:Hp) (E:XK),Room k (A.deeper (EJ x (F7 st) s.heap.objs.size f jo))->
     QSs (tabK T Pt lpos qual) true K (λ_:Unit=>(cxOf CX0 P w K mg base N x (F7 st) f jo A outer s H E).nox) (N8 st) body)
   (hlaw:∀ns:List Int,ns.length<=63->body ⟨λ_ _=>False,λr _=>r=.bl true,λ_ _=>False,λ_ _=>False⟩ (Ab N [.scr ns]) 0) :
   Kn P w K mg base x (k+1) [y] (FV K Pt):=by
 refine F0.ok sc (λvs H Q E h=>?_) bd (λf jo A outer s H vs Q E hr hsp=>?_)
 ·obtain⟨a,ns,rfl,_⟩:=h
  rfl
 ·obtain⟨t,h1,h2⟩:=h f jo A outer s H E hr;obtain⟨a,ns,rfl,hS,hl,hO,hPt,q⟩:=hsp;refine⟨t,h1 (),?_⟩
  let G:Gh:=⟨[Pt],[Pt]⟩
  have r:Reps K G H [.scr ns] [.ref a]:=by
   refine .one ⟨a,rfl,?_⟩;rcases hS with(hS|⟨o,hS⟩)|hS
   ·rcases hO a with z|⟨o,xs,z⟩|⟨_,z⟩
    ·rw[z] at hS;cases hS
    ·rw[z] at hS;cases hS
    ·rw[z] at hS;cases hS
   ·refine .inl ⟨λz=>?_,o,hS⟩;rw[E1.mp (show a∈[Pt] from z),hPt] at hS;cases hS
   ·exact .inr hS
  have S0:=HM (T:=tabK T Pt lpos qual) (N:=N) (np:=true) (n:=0) (G:=G) (λp hp=>by
      rw[E1.mp (show p∈[Pt] from hp)];exact⟨C6,.inr ⟨rfl,#[],hPt,trivial,.inl rfl⟩⟩) (λa ha=>by
      rw[E1.mp (show a∈[Pt] from ha)]
      exact⟨_,hPt,trivial⟩) ⟨[],rfl,by simp⟩ r
  refine h2 _ G _ H _ 0 _ _ rfl rfl rfl S0 (hlaw ns hl) ⟨λ_ _ _ _ _ q=>q.elim,λx n' v G' σ H' env qq S' rv _=>?_,λ_ _ _ _ _ q=>q.elim,λ_ _ _ _ _ q=>q.elim⟩;subst qq;obtain rfl:v=.bl true:=rv;exact q H'
end
end Pu
namespace L2
open PySem PySem.W PySem.Spec PyProof.Rows
theorem RP {X:Cx}{k:Nat}{scope:G0}{N:List Str}{qual:Str}{f c':A0}{cl:List (Str×A0)}{s:A5}{H:Hp}(hr:Room (k+3) X.A):Room k (Cp X scope N qual f c' cl s H).A:=((hr.in1).in1).deeper _
theorem RQ {scope:G0}{x y:Str}(kind:scope.kind=.function)(co:scope.isCoroutine=false)(gen:scope.isGenerator=false)(hx:scope.names.lookup x=some .local)(hy:scope.names.lookup y=some .free)
   (fr:(scope.names.filter λz=>z.2 == .free).map (·.1)=[y]) (nc:∀z∈scope.names,z.2≠.cell) (ne:(y == x)=false):DR scope x y:=by
 refine⟨kind,co,gen,hx,hy,λz hz=>?_,nc,ne⟩;have h1:z∈(scope.names.filter λz=>z.2 == .free).map (·.1):=E5.mpr ⟨(z,.free),K6.mpr ⟨l7 hz,rfl⟩,rfl⟩;rw[fr] at h1;exact E1.mp h1
abbrev ptOf {h:B6}{c P:A0}(_:PySem.W.CodeHd h c P):A0:=P
end L2
end
section
namespace Pu
open PySem PySem.Spec L2
section
variable {T:PotK}{np:Bool}{ι:Type}{K:A9}{F:ι->Cx}{a b ea eb:Expr}{st:Stmt}{pos:Pos}{pa pb pi pj:pE}
theorem RS (K:A9)(hc:X.calm=true)(h1:GW X x gx)(h2:GW X y gy)(hn:(J3 [x,y] X.env).length=2:=by rfl)(hst:(J3 [x,y] X.env).findIdx? (·.1)=none:=by rfl)
   (hs:(J3 [x,y] X.env).map (·.2)=assign x X.env::(J3 [y] X.env).map (·.2):=by rfl) (hs2:(J3 [y] X.env).map (·.2)=assign y X.env::(J3 [] X.env).map (·.2):=by rfl) (hK:X.K=K:=by rfl) :
   GW X (.Tuple [x,y] k pos) (gTup K 2 (W5 gx (W5 gy gNil))):=⟨hK▸Fa hc (BY h1.h (BY h2.h E_ hs2) hs) hn hst⟩
def Iy (i:Nat)(pa pb pi pj:pE):pS:=λD env n=>pa env n λx jc n1=>pb jc n1 λy jd n2=>(∃xs,jd[i]?=some (some (.ow .lst xs)))/\gAt i pi x jd n2 λje n3=>gAt i pj y je n3 D.nx
theorem RT (i:Nat){tg:Expr}{k:Nat}{p:Pos}(h:∀z te g,EW (F z) (.Tuple [a,b] k p) te->GW (F z) tg g->SW (F z) st (tAsg te g))(hg:∀z ti tj,EW (F z) ea ti->EW (F z) eb tj->GW (F z) tg (gTup K 2 (W5 (gSub (tVar i) ti Do) (W5 (gSub (tVar i) tj Do) gNil))))(h1:QE T K F a pa)(h2:QE T K F b pb)(h3:QE T K F ea pi)(h4:QE T K F eb pj)(n1:F9 a=true:=by rfl)(n2:F9 b=true:=by rfl):QS T np K F st (Iy i pa pb pi pj):=by
 obtain⟨t,a1,a2⟩:=h1;obtain⟨u,b1,b2⟩:=h2;obtain⟨ti,i1,i2⟩:=h3;obtain⟨tj,j1,j2⟩:=h4;refine⟨_,λz=>(h z _ _ ⟨Fd (F8 (a1 z) (F8 (b1 z) K5 (D9 n2)) (D9 n1))⟩ (hg z _ _ ⟨i1 z⟩ ⟨j1 z⟩)).h,λC G σ H env n PD D hK hT hn S hp L=>?_⟩;refine a2 C G σ H env n _ _ hK hT S hp λx jc n1 v H1 q1 S1 r1 f1=>?_;refine b2 C G σ H1 jc n1 _ _ hK hT S1 q1 λy jd n2 w H2 q2 S2 r2 f2=>?_;obtain⟨⟨xs0,e0⟩,q2⟩:=q2;refine⟨by show 2<=C8;decide,λp hn'=>⟨p,[v,w],rfl,SqT.of E8,rfl,v,[w],rfl,?_⟩⟩;have sm:Same H2 (upd H2 p (.tup [v,w])):=Same.lay1 hn';generalize upd H2 p (.tup [v,w])=H3 at sm ⊢;have S3:=S2.same sm;obtain⟨a,vs,ev,h1,h2,h3,h4,r⟩:=S3.slots i _ e0;refine⟨.ref a,ev,?_⟩;refine i2 C G σ H3 jd n2 _ _ hK hT S3 q2 λd je n3 ud H4 q3 S4 r4 f4=>?_
 split at q3
 ·rename_i xs d ex
  split at q3
  ·rename_i jj ej;obtain⟨a',us,ev',g1,g2,g3,g4,r'⟩:=S4.slots i _ ex;rw[ev] at ev';cases ev';subst hK;obtain⟨S5,f5⟩:=S4.put ex ev (r'.set jj (((r1.fr f2).same sm).fr f4));refine⟨a,us,d,jj,rfl,r4,g4,by rw[<- r'.length];exact ej,?_⟩;refine⟨w,[],rfl,.ref a,ev,?_⟩;refine j2 C G σ _ _ n3 _ _ rfl hT S5 q3 λd2 env5 n5 ud2 H5 q5 S6 r6 f6=>?_
   split at q5
   ·rename_i xs2 d2 ex2
    split at q5
    ·rename_i jj2 ej2;obtain⟨a',us2,ev',k1,k2,k3,k4,r7⟩:=S6.slots i _ ex2;rw[ev] at ev';cases ev';obtain⟨S7,f7⟩:=S6.put ex2 ev (r7.set jj2 ((((r2.same sm).fr f4).fr f5).fr f6));exact⟨a,us2,d2,jj2,rfl,r6,k4,by rw[<- r7.length];exact ej2,rfl,L.nx _ _ _ _ _ q5 S7 (Ext.fr ((((((f1.trans f2).trans (Fr.of sm)).trans f4).trans f5).trans f6).trans f7))⟩
    ·grind
   ·grind
  ·grind
 grind
end
end Pu
end
section
namespace Pu
open PySem L2
theorem DS {tt:pT}{rest:Pu.Env}{α:Type}(f:α->PV)(c:α->Bool):∀(xs:List α) (s0:Option Slot) (n:Nat) (R:List PV->Nat->Prop),(∀x∈xs,∀m Q,Q (c x) (some (.v (f x))::rest) m->tt (some (.v (f x))::rest) m Q)->R ((xs.filter c).map f) n->U8 (gN 0) tt (qV 0) (xs.map f) (s0::rest) n R
 |[],_,_,_,_,h=>h
 | x :: xs, s0, n, R, ht, h => by
  show tt (some (.v (f x))::rest) n _;refine ht x C6 n _ ?_
  by_cases hc:c x=true
  ·rw[jt hc];rw[BD,jt hc] at h;show U8 (gN 0) tt (qV 0) (xs.map f) (some (.v (f x))::rest) n _;exact DS f c xs _ n _ (λy hy=>ht y (C5 _ hy)) h
  ·rw[ju hc];rw[BD,ju hc] at h;exact DS f c xs _ n _ (λy hy=>ht y (C5 _ hy)) h
end Pu
end
section
namespace Pu
open PySem PySem.Spec L2
def lt (f t:Int)(k:Nat):Nat:=97+((f+(k:Int)*t)%26).toNat
theorem FW {zs:List Str}:memP (.str z) (zs.map PV.str)=decide (z∈zs):=by
 unfold memP;rw[AG,i6,Y9,decide_eq_true_iff];constructor
 ·rintro⟨y,hy,e⟩;have e':decide (y=z)=true:=by rw[<- k6];exact e
  rw[<- jv e'];exact hy
 ·intro h;refine⟨z,h,?_⟩;show eqP (.str z) (.str z)=true;rw[k6];exact jq rfl
theorem DT (zs:List Str)(d:Nat):(zs.map PV.str).all (cmpb d)=true:=by
 rw[Db,J4];intro x _;cases d <;> rfl
theorem Bj {zs:List Str}(hP:zs.map PV.str=P)(h:R (.bl (decide (z∈zs)))):wIn 4 false (.str z) (.tup P) R:=by
 subst hP;exact⟨rfl,DT zs 4,by rw[FW];exact h⟩
theorem FX {zs:List Str}(hP:zs.map PV.str=P)(h:R (.bl (!decide (z∈zs)))):wIn 4 true (.str z) (.tup P) R:=by
 subst hP;exact⟨rfl,DT zs 4,by rw[FW];exact h⟩
theorem RU {zs:List Str}(hP:zs.map PV.str=P)(h:R (.bl (decide (z∈zs)))):wIn 4 false (.str z) (.lst P) R:=by
 subst hP;exact⟨rfl,DT zs 4,by rw[FW];exact h⟩
theorem Iz {zs:List Str}(hP:zs.map PV.str=P)(h:R (.bl (!decide (z∈zs)))):wIn 4 true (.str z) (.lst P) R:=by
 subst hP;exact⟨rfl,DT zs 4,by rw[FW];exact h⟩
def RowS (zs:List Str):Prop:=zs.Nodup/\∀z∈zs,F4 z
abbrev rowP (zs:List Str):PV:=.tup (zs.map PV.str)
inductive Ev where
 |d (x:Str)|t (x y:Str)
abbrev DROP:Str:=A8 "drop"
abbrev N5:Str:=A8 "touch"
def evK:Ev->List Key
 |.d x=>[.inr DROP,.inr x]
 |.t x y=>[.inr N5,.inr x,.inr y]
def evP (e:Ev):PV:=tupP (evK e)
theorem X6 (x:Str):evP (.d x)=.tup [.str DROP,.str x]:=rfl
theorem P2 (x y:Str):evP (.t x y)=.tup [.str N5,.str x,.str y]:=rfl
def shP (es:List Ev):PV:=.tup (es.map evP)
theorem ev_al (a b:Ev):Al (evK a) (evK b):=by grind [Al,Ev,evK]
theorem ev_ne (e:Ev):evK e≠[]:=by cases e <;> simp[evK]
theorem IA (es:List Ev):∀ys:List PV,(∀y∈ys,y∈es.map evP)->∃es':List Ev,ys=es'.map evP/\∀e∈es',e∈es
 |[],_=>⟨[],rfl,λ_ z=>nomatch z⟩
 | y :: ys, h => by
  obtain⟨e,he,rfl⟩:=E5.mp (h y C6);obtain⟨es',rfl,h2⟩:=IA es ys λz hz=>h z (C5 _ hz);exact⟨e::es',rfl,λz hz=>(D0.mp hz).elim (λe'=>e'▸he) (h2 z)⟩
theorem RV (es:List Ev):Il (es.map evP):=by
 refine .inr (.inr ⟨λx hx=>?_,λx hx y hy=>?_⟩)
 ·obtain⟨e,_,rfl⟩:=E5.mp hx;exact⟨evK e,rfl,ev_ne e⟩
 ·obtain⟨e,_,rfl⟩:=E5.mp hx;obtain⟨e',_,rfl⟩:=E5.mp hy;unfold evP tupP;rw[k9,k9];exact ev_al e e'
theorem RX (h:Srt ys (es.map evP)):∃es':List Ev,ys=es'.map evP/\es'.Perm es:=by
 obtain⟨es',rfl,_⟩:=IA es ys λy hy=>h.1.mem_iff.mp hy;refine⟨es',rfl,?_⟩;have:=h.1;clear h
 have inj:∀{a b:List Ev},(a.map evP).Perm (b.map evP)->a.Perm b:=by
  intro a b p;have h1:=p.map λy=>(match y with|.tup [_,.str x]=>Ev.d x|.tup [_,.str x,.str y]=>Ev.t x y|_=>Ev.d (A8 ""));rw[T0,T0] at h1
  have e:((λy=>(match y with|PV.tup [_,.str x]=>Ev.d x|.tup [_,.str x,.str y]=>Ev.t x y|_=>Ev.d (A8 "")))∘evP)=id:=by
   funext e
   cases e <;> rfl
  rw[e,List.map_id,List.map_id] at h1;exact h1
 exact inj this
def evB:Ev->List Str
 |.d x=>[x]
 |.t x y=>[x,y]
theorem IB {es es':List Ev}(h:es'.Perm es):(es'.flatMap evB).Perm (es.flatMap evB):=h.flatMap_right evB
theorem nd_ix {zs:List Str}(nd:zs.Nodup){i j:Nat}(h1:zs[i]?=some z)(h2:zs[j]?=some z):i=j:=by
 obtain⟨l1,e1⟩:=G4.mp h1;obtain⟨l2,e2⟩:=G4.mp h2;rcases x5 i j with h|h|h
 ·exact absurd (e1.trans e2.symm) (Y5.mp nd i j l1 l2 h)
 ·exact h
 ·exact absurd (e2.trans e1.symm) (Y5.mp nd j i l2 l1 h)
def ixS (zs:List Str)(z:Str):Nat:=zs.findIdx λy=>decide (y=z)
theorem Ak (h:z∈zs):zs[ixS zs z]?=some z/\∀i,i<ixS zs z->zs[i]?≠some z:=by
 unfold ixS;have hl:zs.findIdx (λy=>decide (y=z))<zs.length:=List.findIdx_lt_length_of_exists ⟨z,h,by simp⟩;refine⟨?_,λi hi e=>?_⟩
 ·rw[D8 hl];have:=List.findIdx_getElem (w:=hl);rw[jv this]
 ·have:=List.not_of_lt_findIdx hi;obtain⟨l1,e1⟩:=G4.mp e;rw[e1] at this;simp at this
theorem Cs (h:z∈zs):ixS zs z<zs.length:=(G4.mp (Ak h).1).1
theorem m_ix (hP:zs.map PV.str=P)(h:z∈zs)(hl:zs.length<=1000000)(q:R (.int (ixS zs z))):Bf (.tup P) (.str z) R:=by
 subst hP;unfold Bf;dsimp only;rw[Fx];exact⟨hl,ixS zs z,(Ak h).1,(Ak h).2,q⟩
end Pu
end
section
namespace Pu
open PySem PySem.Spec L2
inductive Mk where
 |d|o|t|u
 deriving DecidableEq
def run (r:Int):Nat->List Nat->List Mk->Option (List Nat)
 |_,st,[]=>some st
 |k,st,.t::m=>run r (k+1) (k::st) m
 |k,st,.d::m=>run r (k+1) st m
 |k,[],.o::m=>run r (k+1) [] m
 |_,_::_,.o::_=>none
 |_,[],.u::_=>none
 |k,p::st,.u::m=>if(k:Int)-p-1<=r then run r (k+1) st m else none
def Cl (r:Int)(k:Nat)(m:List Mk):Prop:=∀st,run r k st m=some st
theorem Cl.d (h:Cl r (k+1) m):Cl r k (.d::m):=λst=>h st
inductive PE where
 |d (i:Nat)|t (i j:Nat)
def nm (zs:List Str)(i:Nat):Str:=zs.getD i (A8 "")
theorem Cu {zs:List Str}{i:Nat}(h:i<zs.length):zs[i]?=some (nm zs i):=by grind [nm]
theorem IC (h:i<zs.length):nm zs i∈zs:=J8 (Cu h)
theorem nm_inj (nd:zs.Nodup)(hi:i<zs.length)(hj:j<zs.length)(h:nm zs i=nm zs j):i=j:=nd_ix nd (Cu hi) (by rw[h];exact Cu hj)
structure Fair (zs:List Str)(es:List Ev):Prop where
 nd:(es.flatMap evB).Nodup
 sub:∀b∈es.flatMap evB,b∈zs
theorem Fair.perm (h:Fair zs es)(p:es'.Perm es):Fair zs es':=
 ⟨(IB p).nodup_iff.mpr h.nd,λb hb=>h.sub b ((IB p).mem_iff.mp hb)⟩
def setE (st f:List Str):Ev->List Str
 |.d _=>f
 |.t x y=>(f.set (ixS st x) y).set (ixS st y) x
def exch (f:List Str)(i j:Nat):List Str:=(f.set i (nm f j)).set j (nm f i)
def exE (st f:List Str):Ev->List Str
 |.d _=>f
 |.t x y=>exch f (ixS st x) (ixS st y)
def aft (st:List Str)(es:List Ev):List Str:=es.foldl (setE st) st
def rbh (st:List Str)(es:List Ev):List Str:=es.foldl (exE st) st
theorem Cv (hx:x∈zs)(hy:y∈zs)(h:ixS zs x=ixS zs y):x=y:=by
 have h1:=(Ak hx).1;rw[h,(Ak hy).1] at h1;exact(M9 h1).symm
theorem ID:∀(es:List Ev) (f:List Str),(es.flatMap evB).Nodup->(∀b∈es.flatMap evB,b∈st/\f[ixS st b]?=some b)->es.foldl (setE st) f=es.foldl (exE st) f
 |[],f,_,_=>rfl
 | .d x :: es, f, nd, h => by
  simp only[Y7,evB,Eu,w9] at nd h;exact ID es f (Q2.mp nd).2 λb hb=>h b (C5 _ hb)
 | .t x y :: es, f, nd, h => by
  simp only[Y7,evB,Eu,w9] at nd h;obtain⟨nx,nd1⟩:=Q2.mp nd;obtain⟨ny,nd2⟩:=Q2.mp nd1;obtain⟨hx1,hx2⟩:=h x C6;obtain⟨hy1,hy2⟩:=h y (C5 _ C6)
  have e:setE st f (.t x y)=exE st f (.t x y):=by
   show(f.set (ixS st x) y).set (ixS st y) x=exch f (ixS st x) (ixS st y);unfold exch nm;rw[w6,w6,hx2,hy2];rfl
  rw[BF,BF,e];refine ID es _ nd2 λb hb=>?_;obtain⟨hb1,hb2⟩:=h b (C5 _ (C5 _ hb));refine⟨hb1,?_⟩;rw[<- e];show((f.set (ixS st x) y).set (ixS st y) x)[ixS st b]?=some b;have bx:ixS st x≠ixS st b:=λz=>nx (by rw[Cv hx1 hb1 z];exact C5 _ hb);have by_:ixS st y≠ixS st b:=λz=>ny (by rw[Cv hy1 hb1 z];exact hb);rw[P6 by_,P6 bx];exact hb2
theorem LJ (h:Fair st es):aft st es=rbh st es:=ID es st h.nd λb hb=>⟨h.sub b hb,(Ak (h.sub b hb)).1⟩
theorem b9 {α β:Type}{f:α->β}{l:List α}{i:Nat}{y:β}(h:(l.map f)[i]?=some y):∃x,l[i]?=some x/\y=f x:=by
 rw[G9] at h;cases e:l[i]? with
 |none=>rw[e] at h;cases h
 |some x=>rw[e] at h;exact⟨x,rfl,(M9 h).symm⟩
theorem Am {α:Type}{l:List α}{i:Nat}{x:α}(h:l[i]?=some x):l.take (i+1)=l.take i++[x]:=by
 rw[List.take_add_one,h];rfl
theorem cut_ab {α:Type}(xs:List α){a b:Nat}(h:b<=xs.length):cutP xs (some (a:Int)) (some (b:Int))=(xs.take b).drop a:=by
 unfold cutP;rw[HT.sIx_nat,HT.sIx_nat,EA h,List.drop_take];rcases Nat.le_total a xs.length with h2|h2
 ·rw[EA h2]
 ·rw[Nat.min_eq_right h2,CU (C7 _),CU h2];simp
theorem FY {α:Type}(xs:List α)(b:Nat):cutP xs none (some (b:Int))=xs.take b:=by
 unfold cutP;rw[HT.sIx_none,HT.sIx_nat,List.drop_zero,Nat.sub_zero];rcases Nat.le_total b xs.length with h2|h2
 ·rw[EA h2]
 ·rw[Nat.min_eq_right h2,BA (C7 _),BA h2]
theorem IE {α:Type}(xs:List α)(a:Nat):cutP xs (some (a:Int)) none=xs.drop a:=by
 unfold cutP;rw[HT.sIx_nat,HT.sIx_none];rcases Nat.le_total a xs.length with h2|h2
 ·rw[EA h2];exact BA (by rw[Y8];exact C7 _)
 ·rw[Nat.min_eq_right h2,CU h2,CU (C7 _)];simp
theorem RowS.perm {a b:List Str}(h:RowS a)(p:b.Perm a):RowS b:=by grind [RowS]
theorem at2_0 {α:Type}{a b:α}:atI [a,b] 0=some a:=rfl
theorem at2_1 {α:Type}{a b:α}:atI [a,b] 1=some b:=rfl
theorem at3_0 {α:Type}{a b c:α}:atI [a,b,c] 0=some a:=rfl
theorem at3_1 {α:Type}{a b c:α}:atI [a,b,c] 1=some b:=rfl
theorem at3_2 {α:Type}{a b c:α}:atI [a,b,c] 2=some c:=rfl
theorem IF:decide (DROP=A8 "touch")=false:=by decide +kernel
theorem RY:decide (N5=A8 "touch")=true:=by decide +kernel
theorem LK:decide (N5=A8 "drop")=false:=by decide +kernel
def isTo:Ev->Bool
 |.d _=>false
 |.t _ _=>true
theorem RZ (st f:List Str)(e:Ev):(exE st f e).length=f.length:=by cases e <;> simp[exE,exch]
theorem LM (st:List Str):∀(es:List Ev) (f:List Str),(es.foldl (exE st) f).length=f.length
 |[],f=>rfl
 |e::es,f=>by rw[BF,LM st es,RZ]
theorem IG (st:List Str):∀(es:List Ev) (f:List Str),(es.filter isTo).foldl (exE st) f=es.foldl (exE st) f
 |[],f=>rfl
 |.d x::es,f=>IG st es f
 | .t x y :: es, f => by
  rw[BD,jt (show isTo (.t x y)=true from rfl),BF,BF];exact IG st es _
end Pu
end
section
namespace SeT
open PySem PySem.SetTable L2
def lp (mask:Nat)(h:Int):Nat->Nat×Nat
 |0=>(bits h%(mask+1),bits h)
 |k+1=>leap mask (lp mask h k).1 (lp mask h k).2
def rn (mask i:Nat):Nat:=runEnd mask i-i
def vs (mask:Nat)(h:Int)(k off:Nat):Nat:=(lp mask h k).1+off
theorem IH (mask:Nat)(h:Int):∀k,(lp mask h k).1<=mask
 |0=>Dd (Nat.mod_lt _ (Nat.succ_pos mask))
 |k+1=>Dd (Nat.mod_lt _ (Nat.succ_pos mask))
theorem rn_9 (mask i:Nat):rn mask i<=9:=by unfold rn runEnd;split <;> omega
theorem II {mask:Nat}(ho:off<=rn mask (lp mask h k).1):vs mask h k off<=mask:=by
 have:=IH mask h k;unfold rn runEnd at ho;unfold vs
 grind
theorem LN (mask:Nat)(h:Int):∀k,(lp mask h k).2=bits h/32 ^ k
 |0=>by simp[lp]
 | k + 1 => by
  show(lp mask h k).2/32=_;rw[LN mask h k,Nat.div_div_eq_div_mul,Nat.pow_succ]
theorem R_ (h:Int):bits h<2 ^ 64:=by
 unfold bits
 grind
theorem pert_0 (mask:Nat)(h:Int)(k:Nat)(hk:13<=k):(lp mask h k).2=0:=by
 rw[LN];refine Nat.div_eq_of_lt (K3 (R_ h) ?_);exact J9 (by decide) (GG (by decide) hk)
def orb (M:Nat):Nat->Nat
 |0=>0
 |m+1=>(orb M m*5+1)%M
def itr (M a:Nat):Nat->Nat
 |0=>a
 |m+1=>(itr M a m*5+1)%M
theorem IJ (M m0:Nat):∀m,itr M (orb M m0) m=orb M (m0+m)
 |0=>rfl
 | m + 1 => by
  show(itr M (orb M m0) m*5+1)%M=(orb M (m0+m)*5+1)%M;rw[IJ M m0 m]
theorem LO {M:Nat}(h:orb M M=0):∀m,orb M (M+m)=orb M m
 |0=>h
 | m + 1 => by
  show(orb M (M+m)*5+1)%M=(orb M m*5+1)%M;rw[LO h m]
theorem IK (mask:Nat)(h:Int):∀m,(lp mask h (13+m)).1=itr (mask+1) (lp mask h 13).1 m
 |0=>rfl
 | m + 1 => by
  show((lp mask h (13+m)).1*5+1+(lp mask h (13+m)).2/32)%(mask+1)=(itr (mask+1) (lp mask h 13).1 m*5+1)%(mask+1);rw[pert_0 mask h (13+m) (by omega),IK mask h m,Nat.zero_div,Nat.add_zero]
def Msk (mask:Nat):Prop:=mask=7\/mask=31\/mask=127
def chk (M:Nat):Bool:=(F6 M).all λe=>(F6 M).any λm=>orb M m == e
theorem chk8:chk 8=true:=by decide +kernel
theorem chk32:chk 32=true:=by decide +kernel
theorem chk128:chk 128=true:=by decide +kernel
theorem LP (h:chk M=true)(he:e<M):∃m,m<M/\orb M m=e:=by simp_all [chk,orb]
theorem goes {mask:Nat}(hm:Msk mask)(h:Int)(he:e<=mask):∃K,K<=mask+14/\(lp mask h K).1=e:=by
 have ck:chk (mask+1)=true/\orb (mask+1) (mask+1)=0:=by
  rcases hm with rfl|rfl|rfl
  ·exact⟨chk8,by decide +kernel⟩
  ·exact⟨chk32,by decide +kernel⟩
  ·exact⟨chk128,by decide +kernel⟩
 obtain⟨m0,h0,e0⟩:=LP ck.1 (Nat.lt_succ_of_le (IH mask h 13));obtain⟨m1,h1,e1⟩:=LP ck.1 (Nat.lt_succ_of_le he)
 by_cases c:m0<=m1
 ·refine⟨13+(m1-m0),by omega,?_⟩;rw[IK,<- e0,IJ,show m0+(m1-m0)=m1 by omega,e1]
 ·refine⟨13+(mask+1+m1-m0),by omega,?_⟩;rw[IK,<- e0,IJ,show m0+(mask+1+m1-m0)=mask+1+m1 by omega,LO ck.2,e1]
def Rise (xs:List Nat):Prop:=xs.Pairwise (· < ·)
theorem IL (xs:Array Nat)(j:Nat)(hr:Rise xs.toList):∀(fuel lo hi:Nat),lo<=hi->hi<=xs.size->hi-lo<=fuel->(∀(i:Nat) x,i<lo->xs[i]?=some x->x<j)->(∀(i:Nat) x,hi<=i->xs[i]?=some x->j<=x)->
   ∃p,below.go xs j fuel lo hi=p/\p<=xs.size/\(∀(i:Nat) x,i<p->xs[i]?=some x->x<j)/\(∀(i:Nat) x,p<=i->xs[i]?=some x->j<=x)
 |0,lo,hi,h1,h2,h3,h4,h5=>⟨lo,rfl,by omega,h4,λi x hi' e=>h5 i x (by omega) e⟩
 | fuel + 1, lo, hi, h1, h2, h3, h4, h5 => by
  unfold below.go
  by_cases c:lo<hi
  ·rw[jt c];have hm:(lo+hi)/2<xs.size:=by omega
   have hm1:lo<=(lo+hi)/2:=by omega
   have hm2:(lo+hi)/2<hi:=by omega
   dsimp only;generalize (lo+hi)/2=mid at hm hm1 hm2 ⊢;have eg:xs.getD mid j=xs[mid]:=by simp[Array.getD,hm]
   have em:xs[mid]?=some xs[mid]:=Z0 hm
   have up:∀(a b:Nat) x y,a<b->xs[a]?=some x->xs[b]?=some y->x<y:=λa b x y hab ea eb=>by
    rw[<- Q3] at ea eb;obtain⟨la,ea⟩:=G4.mp ea;obtain⟨lb,eb⟩:=G4.mp eb;rw[<- ea,<- eb];exact Y5.mp hr a b la lb hab
   rw[eg]
   by_cases c2:xs[mid]<j
   ·rw[jt c2];refine IL xs j hr fuel (mid+1) hi (by omega) h2 (by omega) (λi x hi' e=>?_) h5;rcases Nat.lt_or_ge i mid with h|h
    ·exact BI (up i mid x _ h e em) c2
    ·have:i=mid:=by omega
     subst this;rw[em] at e;cases e;exact c2
   ·rw[ju c2];refine IL xs j hr fuel lo mid (by omega) (by omega) (by omega) h4 λi x hi' e=>?_;rcases Nat.lt_or_ge mid i with h|h
    ·exact i4 (BG (BH c2) (up mid i _ x h em e))
    ·have:i=mid:=by omega
     subst this;rw[em] at e;cases e;exact BH c2
  ·rw[ju c];exact⟨lo,rfl,by omega,h4,λi x hi' e=>h5 i x (by omega) e⟩
theorem DU (xs:Array Nat)(j:Nat)(hr:Rise xs.toList):below xs j<=xs.size/\(∀(i:Nat) x,i<below xs j->xs[i]?=some x->x<j)/\(∀(i:Nat) x,below xs j<=i->xs[i]?=some x->j<=x):=by
 obtain⟨p,e,h⟩:=IL xs j hr xs.size 0 xs.size (K1 _) (C7 _) (C7 _) (λi x hi _=>by omega) (λi x hi e=>by
  rw[BN hi] at e;cases e)
 unfold below
 grind
theorem Sa (hr:Rise xs.toList)(h:xs[i]?=some j):below xs j=i:=by
 obtain⟨h1,h2,h3⟩:=DU xs j hr;rcases x5 (below xs j) i with c|c|c
 ·have hb:below xs j<xs.size:=BI c (by
   obtain⟨l,_⟩:=GI.mp h;exact l)
  have e:=Z0 hb;have a1:=h3 _ _ (C7 _) e;have e':=e;rw[<- Q3] at e' h;obtain⟨la,ea⟩:=G4.mp e';obtain⟨lb,eb⟩:=G4.mp h;have:=Y5.mp hr _ _ la lb c;rw[ea,eb] at this;omega
 ·exact c
 grind
theorem LQ {α:Type}(xs:Array α)(p:Nat)(x:α)(hp:p<=xs.size):(insertAt xs p x).toList=insL xs.toList p x:=by
 unfold insertAt insL;simp;exact BA (by grind)
theorem Sc (hr:Rise xs.toList)(hj:j∉xs.toList):Rise (insL xs.toList (below xs j) j):=by
 obtain⟨h1,h2,h3⟩:=DU xs j hr;unfold insL
 have mt:∀a∈xs.toList.take (below xs j),a<j:=λa ha=>by
  obtain⟨i,hi,e⟩:=List.mem_iff_getElem.mp ha;rw[List.getElem_take] at e;rw[N7] at hi;exact h2 i a (by omega) (by grind)
 have md:∀a∈xs.toList.drop (below xs j),j<a:=λa ha=>by
  obtain⟨i,hi,e⟩:=List.mem_iff_getElem.mp ha;rw[List.getElem_drop] at e;rw[Y8] at hi;have hle:=h3 (below xs j+i) a (by omega) (by grind);have hne:a≠j:=λz=>hj (by grind);omega
 refine GF.mpr ⟨hr.sublist (List.take_sublist _ _),List.pairwise_cons.mpr ⟨md,hr.sublist (List.drop_sublist _ _)⟩,λa ha b hb=>?_⟩
 grind
end SeT
end
section
namespace SeT
open PySem PySem.SetTable L2
def Lx (k' o' k o:Nat):Prop:=k'<k\/(k'=k/\o'<o)
def Rch (mask:Nat)(O:Nat->Prop)(s:Nat)(h:Int):Prop:=∃k o,o<=rn mask (lp mask h k).1/\vs mask h k o=s/\∀k' o',o'<=rn mask (lp mask h k').1->Lx k' o' k o->O (vs mask h k' o')
theorem Rch.mono {mask:Nat}(r:Rch mask O s h)(f:∀x,O x->O' x):Rch mask O' s h:=by grind [Rch]
structure TOk (t:P4)(hs:List Int):Prop where
 size:t.place.toList.length=hs.length
 dum:t.dummies=#[]
 mask:Msk t.mask
 rise:Rise t.place.toList
 lim:∀s∈t.place.toList,s<=t.mask
 room:hs.length<t.mask
 reach:∀(i:Nat) s h,t.place.toList[i]?=some s->hs[i]?=some h->Rch t.mask (·∈t.place.toList) s h
section
variable {t:P4}{hs:List Int}{h:Int}
theorem TOk.fits (T:TOk t hs):t.fits hs.length=true:=by
 have h1:=T.size;have h2:=T.room;unfold SetTable.fits SetTable.fill;rw[T.dum]
 grind
theorem TOk.odd (T:TOk t hs):t.gaveWay=false:=by
 unfold SetTable.gaveWay;rcases T.mask with e|e|e <;> rw[e] <;> decide
theorem LR (j:Nat):has #[] j=false:=by unfold has;simp
theorem TOk.slot_live (T:TOk t hs)(e:t.place.toList[i]?=some j):t.slot j=.live i:=by
 unfold SetTable.slot;have e':t.place[i]?=some j:=by rw[<- Q3];exact e
 rw[Sa T.rise e'];simp[e']
theorem TOk.slot_empty (T:TOk t hs)(e:j∉t.place.toList):t.slot j=.empty:=by
 unfold SetTable.slot
 have:¬(t.place[below t.place j]? == some j)=true:=λz=>by
  have z':t.place[below t.place j]?=some j:=by simpa using z
  rw[<- Q3] at z';exact e (J8 z')
 dsimp only;rw[ju this,T.dum,LR]
 rfl
theorem TOk.free (T:TOk t hs):∃e,e<=t.mask/\e∉t.place.toList:=by
 refine BO λz=>?_
 have sub:F6 (t.mask+1) ⊆ t.place.toList:=λx hx=>by
  refine BO λy=>z ⟨x,Dd (M7.mp hx),y⟩
 have:=(List.nodup_range (n:=t.mask+1)).length_le_of_subset sub;rw[o6,T.size] at this;have:=T.room;omega
def pb (mask:Nat)(h:Int)(k o:Nat):Probe:={ j:=vs mask h k o,more:=rn mask (lp mask h k).1-o,i:=(lp mask h k).1,perturb:=(lp mask h k).2,dummy:=none }
theorem pb_adv (t:P4)(h:Int)(k o:Nat):t.advance (pb t.mask h k o)=if o<rn t.mask (lp t.mask h k).1 then pb t.mask h k (o+1) else pb t.mask h (k+1) 0:=by
 unfold SetTable.advance
 by_cases c:o<rn t.mask (lp t.mask h k).1
 ·rw[jt c,jt (show(pb t.mask h k o).more>0 by show rn t.mask (lp t.mask h k).1-o>0;omega)];unfold pb vs
  congr 1
 ·rw[ju c,ju (show ¬(pb t.mask h k o).more>0 by show ¬rn t.mask (lp t.mask h k).1-o>0;omega)]
  rfl
def nx (mask:Nat)(h:Int)(k o:Nat):Nat×Nat:=if o<rn mask (lp mask h k).1 then(k,o+1) else(k+1,0)
theorem pb_nx (t:P4)(h:Int)(k o:Nat):t.advance (pb t.mask h k o)=pb t.mask h (nx t.mask h k o).1 (nx t.mask h k o).2:=by
 rw[pb_adv];unfold nx;split <;> rfl
theorem nx_ok {mask:Nat}(ho:o<=rn mask (lp mask h k).1):(nx mask h k o).2<=rn mask (lp mask h (nx mask h k o).1).1:=by grind [lp,nx,rn]
theorem nx_lx {mask:Nat}(ho:o<=rn mask (lp mask h k).1)(ho':o'<=rn mask (lp mask h k').1)(l:Lx k' o' (nx mask h k o).1 (nx mask h k o).2):Lx k' o' k o\/(k'=k/\o'=o):=by grind [Lx,lp,nx,rn]
def far (K k o:Nat):Nat:=10*(K-k)+1-o
theorem LS {mask:Nat}(ho:o<=rn mask (lp mask h k).1)(hk:k<K):far K (nx mask h k o).1 (nx mask h k o).2<far K k o/\(nx mask h k o).1<=K/\((nx mask h k o).1=K->(nx mask h k o).2=0):=by
 have r9:=rn_9 mask (lp mask h k).1;unfold nx far
 grind
theorem LT (T:TOk t hs)(at_:Nat->Int)(ha:∀(i:Nat) x,hs[i]?=some x->at_ i=x){K e:Nat}(hK:(lp t.mask h K).1=e)(he:e∉t.place.toList):∀(fuel k o:Nat),k<=K->(k=K->o=0)->o<=rn t.mask (lp t.mask h k).1->far K k o<=fuel->
   ∃ k2 o2, o2 <= rn t.mask (lp t.mask h k2).1 /\ k2 <= K /\ (k2 = K -> o2 = 0) /\ ¬ Lx k2 o2 k o /\ (∀ k' o', o' <= rn t.mask (lp t.mask h k').1 -> ¬ Lx k' o' k o -> Lx k' o' k2 o2 -> ∃ (i : Nat) (x : Int), t.place.toList[i]? = some (vs t.mask h k' o') /\ hs[i]? = some x /\ x ≠ h) /\
     ((vs t.mask h k2 o2∉t.place.toList/\probe.go t at_ h fuel (pb t.mask h k o)=some (.empty (vs t.mask h k2 o2) none))\/
       ∃i,k2<K/\t.place.toList[i]?=some (vs t.mask h k2 o2)/\hs[i]?=some h/\probe.go t at_ h fuel (pb t.mask h k o)=some (.candidate (vs t.mask h k2 o2) i (pb t.mask h (nx t.mask h k2 o2).1 (nx t.mask h k2 o2).2)))
 | 0, k, o, h1, h2, h3, h4 => by
  have r9:=rn_9 t.mask (lp t.mask h k).1;unfold far at h4;have:¬k=K:=λz=>by have:=h2 z;omega
  omega
 | fuel + 1, k, o, h1, h2, h3, h4 => by
  have irr:¬Lx k o k o:=λz=>z.elim (W4 k) λz=>W4 o z.2
  by_cases hm:vs t.mask h k o∈t.place.toList
  ·obtain⟨i,hi⟩:=CW.mp hm
   obtain⟨x,hx⟩:∃x,hs[i]?=some x:=by
    have:=(G4.mp hi).1;rw[T.size] at this;exact⟨_,D8 this⟩
   have hkK:k<K:=by
    refine Nat.lt_of_le_of_ne h1 λz=>?_;have o0:=h2 z;subst z;subst o0;exact he (by rw[<- hK];exact hm)
   have sl:=T.slot_live hi
   by_cases c:x=h
   ·subst c;refine⟨k,o,h3,h1,h2,irr,λk' o' _ n l=>absurd l n,.inr ⟨i,hkK,hi,hx,?_⟩⟩;unfold probe.go;rw[show(pb t.mask x k o).j=vs t.mask x k o from rfl,sl];dsimp only;rw[ha i x hx,beq_self_eq_true,jt rfl,pb_nx]
   ·obtain⟨f1,f2,f3⟩:=LS (K:=K) h3 hkK;obtain⟨k2,o2,a1,a2,a3,a4,a5,a6⟩:=LT T at_ ha hK he fuel (nx t.mask h k o).1 (nx t.mask h k o).2 f2 f3 (nx_ok h3) (by omega)
    have step:probe.go t at_ h (fuel+1) (pb t.mask h k o)=probe.go t at_ h fuel (pb t.mask h (nx t.mask h k o).1 (nx t.mask h k o).2):=by
     rw[<- pb_nx]
     conv=>lhs;unfold probe.go
     rw[show(pb t.mask h k o).j=vs t.mask h k o from rfl,sl];dsimp only;rw[ha i x hx,ju (by simpa using c)]
    rw[step];refine⟨k2,o2,a1,a2,a3,λz=>a4 ?_,λk' o' p1 p2 p3=>?_,a6⟩
    ·unfold nx
     split
     ·rcases z with z|⟨rfl,z⟩
      ·exact .inl z
      ·exact .inr ⟨rfl,by show o2<o+1;omega⟩
     ·rcases z with z|⟨rfl,z⟩
      ·exact .inl (by show k2<k+1;omega)
      ·exact .inl (by show k2<k2+1;omega)
    ·by_cases c2:Lx k' o' (nx t.mask h k o).1 (nx t.mask h k o).2
     ·rcases nx_lx h3 p1 c2 with c3|⟨rfl,rfl⟩
      ·exact absurd c3 p2
      ·exact⟨i,x,hi,hx,c⟩
     ·exact a5 k' o' p1 c2 p3
  ·refine⟨k,o,h3,h1,h2,irr,λk' o' _ n l=>absurd l n,.inl ⟨hm,?_⟩⟩;unfold probe.go;rw[show(pb t.mask h k o).j=vs t.mask h k o from rfl,T.slot_empty hm]
   rfl
theorem TOk.put (T:TOk t hs)(hs1:s∉t.place.toList)(hl:s<=t.mask)(hr:Rch t.mask (·∈t.place.toList) s h)(hroom:hs.length+1<t.mask) :
   (t.put s).2=below t.place s/\(t.put s).2<=hs.length/\(t.put s).1.plain=t.plain/\(t.put s).1.led=t.led/\TOk (t.put s).1 (insL hs (t.put s).2 h):=by
 have p1:=(DU t.place s T.rise).1;have sz:t.place.size=hs.length:=by rw[<- T.size,M8]
 have pl:(t.put s).1.place.toList=insL t.place.toList (below t.place s) s:=LQ _ _ _ p1;have mk:(t.put s).1.mask=t.mask:=rfl
 have dm:(t.put s).1.dummies=#[]:=by
  show(if has t.dummies s then eraseAt t.dummies (below t.dummies s) else t.dummies)=#[];rw[T.dum,LR];rfl
 refine⟨rfl,by show below t.place s<=_;omega,rfl,rfl,?_⟩;have hp:(t.put s).2=below t.place s:=rfl;rw[hp]
 have mem:∀x,x∈t.place.toList->x∈insL t.place.toList (below t.place s) s:=λx hx=>by
  unfold insL;rw[<- GE (below t.place s) t.place.toList] at hx;rcases E2.mp hx with hx|hx
  ·grind
  ·grind
 refine⟨?_,dm,by rw[mk];exact T.mask,by rw[pl];exact Sc T.rise hs1,λx hx=>?_,by rw[mk,FT];exact hroom,λi x y ex ey=>?_⟩
 ·rw[pl,FT,FT,T.size]
 ·rw[pl] at hx;rw[mk];unfold insL at hx;rcases E2.mp hx with hx|hx
  ·exact T.lim x (W3 hx)
  ·rcases D0.mp hx with rfl|hx
   ·exact hl
   ·exact T.lim x (CY hx)
 ·rw[pl] at ex ⊢;rw[mk];generalize below t.place s=p at *;have lt:(t.place.toList.take p).length=p:=by rw[N7,T.size];omega
  have lh:(hs.take p).length=p:=by rw[N7];omega
  unfold insL at ex ey;rcases x5 i p with c|c|c
  ·rw[Y4 (by omega),List.getElem?_take,jt c] at ex ey;exact(T.reach i x y ex ey).mono mem
  ·subst c;rw[Y3 (by omega),lt,BK] at ex;rw[Y3 (by omega),lh,BK] at ey;cases ex;cases ey;exact hr.mono mem
  ·rw[Y3 (by omega),lt,show i-p=(i-p-1)+1 by omega,CT,Et,show p+(i-p-1)=i-1 by omega] at ex;rw[Y3 (by omega),lh,show i-p=(i-p-1)+1 by omega,CT,Et,show p+(i-p-1)=i-1 by omega] at ey;exact(T.reach (i-1) x y ex ey).mono mem
end
end SeT
end
section
namespace SeT
open PySem PySem.SetTable L2
structure Own (mask:Nat)(ow:Array (Option Nat))(sl:List Nat):Prop where
 size:ow.size=mask+1
 nd:sl.Nodup
 lim:∀s∈sl,s<=mask
 has:∀(k s:Nat),sl[k]?=some s->ow[s]?=some (some k)
 no:∀s,s<=mask->s∉sl->ow[s]?=some none
theorem Own.none {mask:Nat}(O:Own mask ow sl)(hs:s<=mask):(ow.getD s (some 0)).isNone=decide (s∉sl):=by
 rw[AI]
 by_cases c:s∈sl
 ·obtain⟨k,hk⟩:=CW.mp c;rw[O.has k s hk,jr (not_not_intro c)];rfl
 ·rw[O.no s hs c,jq c];rfl
theorem LU {mask:Nat}{ow:Array (Option Nat)}{sl:List Nat}{h:Int}(O:Own mask ow sl){K e:Nat}(hK:(lp mask h K).1=e)(he:e∉sl):∀(fuel k:Nat),k<=K->K-k<fuel->
   ∃k2 o2,o2<=rn mask (lp mask h k2).1/\layClean.free mask ow fuel (lp mask h k).1 (lp mask h k).2=some (vs mask h k2 o2)/\vs mask h k2 o2∉sl/\∀k' o',o'<=rn mask (lp mask h k').1->k<=k'->Lx k' o' k2 o2->vs mask h k' o'∈sl
 |0,k,_,h2=>absurd h2 (Ez _)
 | fuel + 1, k, h1, h2 => by
  have le:=IH mask h k;have ge:(lp mask h k).1<=runEnd mask (lp mask h k).1:=by unfold runEnd;split <;> omega
  have er:runEnd mask (lp mask h k).1+1-(lp mask h k).1=rn mask (lp mask h k).1+1:=by unfold rn;omega
  have isn:∀o,o<=rn mask (lp mask h k).1->(ow.getD ((lp mask h k).1+o) (some 0)).isNone=decide (vs mask h k o∉sl):=λo ho=>O.none (II ho);unfold layClean.free;rw[er];cases ef:(F6 (rn mask (lp mask h k).1+1)).find? (λo=>(ow.getD ((lp mask h k).1+o) (some 0)).isNone) with
  | some o2 =>
   obtain⟨p1,p2,p3⟩:=List.find?_range_eq_some.mp ef;have ho2:o2<=rn mask (lp mask h k).1:=by have:=M7.mp p2;omega
   rw[isn o2 ho2] at p1;refine⟨k,o2,ho2,rfl,jv p1,λk' o' q1 q2 q3=>?_⟩;rcases q3 with q3|⟨rfl,q3⟩
   ·omega
   ·have:=p3 o' q3;rw[isn o' (by omega)] at this;exact BO λz=>by rw[jq z] at this;cases this
  | none =>
   have all:∀o,o<=rn mask (lp mask h k).1->vs mask h k o∈sl:=λo ho=>by
    have:=List.find?_eq_none.mp ef o (M7.mpr (by omega));rw[isn o ho] at this;exact BO λz=>this (jq z)
   have hkK:k<K:=by
    refine Nat.lt_of_le_of_ne h1 λz=>?_;subst z;exact he (by rw[<- hK];exact all 0 (K1 _))
   obtain⟨k2,o2,a1,a2,a3,a4⟩:=LU O hK he fuel (k+1) hkK (by omega);refine⟨k2,o2,a1,a2,a3,λk' o' q1 q2 q3=>?_⟩;rcases Nat.lt_or_ge k k' with c|c
   ·exact a4 k' o' q1 c q3
   ·have:k'=k:=by omega
    subst this;exact all o' q1
theorem Own.put {mask:Nat}{ow:Array (Option Nat)}{sl:List Nat}(O:Own mask ow sl){s:Nat}(hs:s<=mask)(hn:s∉sl):Own mask (ow.setIfInBounds s (some sl.length)) (sl++[s]) where
 size:=by rw[Array.size_setIfInBounds];exact O.size
 nd:=BB.mpr ⟨O.nd,by simp,λa ha b hb e=>hn (by grind)⟩
 lim:=λx hx=>(E2.mp hx).elim (O.lim x) λz=>by rw[E1.mp z];exact hs
 has:=λk x e=>by
  have hsz:s<ow.size:=by rw[O.size];omega
  by_cases c:k<sl.length
  ·rw[Y4 c] at e;have hx:x∈sl:=J8 e;rw[Array.getElem?_setIfInBounds_ne (λz=>hn (by grind))];exact O.has k x e
  ·grind
 no:=λx hx hx'=>by
  have n1:x∉sl:=λz=>hx' (n6 _ z);have n2:s≠x:=λz=>hx' (M2 _ (by grind));rw[Array.getElem?_setIfInBounds_ne n2];exact O.no x hx n1
theorem Own.nil (mask:Nat):Own mask (ED (mask+1) (Option.none:Option Nat)) []:=by grind [Own]
def FZ (mask:Nat)(jm:Option (Array (Option Nat)×Nat))(h:Int):Option (Array (Option Nat)×Nat):=do
 let (owner,k) ← jm
 let j ← layClean.free mask owner (turns mask) (bits h%(mask+1)) (bits h)
 pure (owner.setIfInBounds j (some k),k+1)
theorem LV {mask:Nat}(hm:Msk mask):∀(rest done:List Int) (ow:Array (Option Nat)) (sl:List Nat),Own mask ow sl->sl.length=done.length->done.length+rest.length<=mask->(∀(k s:Nat) h,sl[k]?=some s->done[k]?=some h->Rch mask (·∈sl) s h)->
   ∃ow' sl',rest.foldl (FZ mask) (some (ow,done.length))=some (ow',(done++rest).length)/\Own mask ow' sl'/\sl'.length=(done++rest).length/\∀(k s:Nat) h,sl'[k]?=some s->(done++rest)[k]?=some h->Rch mask (·∈sl') s h
 |[],done,ow,sl,O,hl,hle,hr=>⟨ow,sl,by simp,O,by simpa using hl,λk s h e1 e2=>hr k s h e1 (by simpa using e2)⟩
 | h :: rest, done, ow, sl, O, hl, hle, hr => by
  rw[K2] at hle
  obtain⟨e,he1,he2⟩:∃e,e<=mask/\e∉sl:=by
   refine BO λz=>?_;have sub:F6 (mask+1) ⊆ sl:=λx hx=>BO λy=>z ⟨x,Dd (M7.mp hx),y⟩;have:=(List.nodup_range (n:=mask+1)).length_le_of_subset sub;rw[o6,hl] at this;omega
  obtain⟨K,hK1,hK2⟩:=goes hm h he1;obtain⟨k2,o2,a1,a2,a3,a4⟩:=LU O hK2 he2 (turns mask) 0 (K1 _) (by unfold turns;omega);have O':=O.put (II a1) a3
  have st:FZ mask (some (ow,done.length)) h=some (ow.setIfInBounds (vs mask h k2 o2) (some sl.length),(done++[h]).length):=by
   unfold FZ;show(layClean.free mask ow (turns mask) (lp mask h 0).1 (lp mask h 0).2).bind _=_;rw[a2,hl,D4]
   rfl
  have mem:∀x,x∈sl->x∈sl++[vs mask h k2 o2]:=λx hx=>n6 _ hx
  obtain⟨ow',sl',b1,b2,b3,b4⟩:=LV hm rest (done++[h]) _ _ O' (by rw[D4,D4,hl];rfl) (by rw[D4,O8];omega) λk s x e1 e2=>by
   by_cases c:k<sl.length
   ·rw[Y4 c] at e1;rw[Y4 (by omega)] at e2;exact(hr k s x e1 e2).mono mem
   ·have hk:k=sl.length:=by
     have:=(G4.mp e1).1;rw[D4,O8] at this;omega
    subst hk;rw[Y3 (C7 _),BK] at e1;rw[Y3 (by omega),hl,BK] at e2;cases e1;cases e2;exact⟨k2,o2,a1,rfl,λk' o' q1 q2=>mem _ (a4 k' o' q1 (K1 _) q2)⟩
  refine⟨ow',sl',?_,b2,by rw[b3,N6];rfl,λk s x e1 e2=>b4 k s x e1 (by rw[N6];exact e2)⟩;rw[BF,st,b1,N6];rfl
theorem Sd (mask:Nat)(hs:Array Int):layClean mask hs=(hs.toList.foldl (FZ mask) (some (ED (mask+1) none,0))).map (·.1):=by
 unfold layClean;rw[<- Array.foldl_toList]
 rfl
def live (mask:Nat)(ow:Array (Option Nat)):List (Nat×Nat):=(F6 (mask+1)).filterMap λj=>(ow.getD j none).map (j,·)
theorem Bk {mask:Nat}(O:Own mask ow sl):(j,k)∈live mask ow↔sl[k]?=some j:=by
 unfold live;rw[List.mem_filterMap];constructor
 ·rintro⟨x,hx,e⟩;have hxm:x<=mask:=Dd (M7.mp hx)
  by_cases c:x∈sl
  ·obtain⟨q,hq⟩:=CW.mp c;rw[AI,O.has q x hq] at e;have e':(x,q)=(j,k):=by simpa using e
   cases e';exact hq
  ·rw[AI,O.no x hxm c] at e;cases e
 ·intro h;have hj:=O.lim j (J8 h);refine⟨j,M7.mpr (by omega),?_⟩;rw[AI,O.has k j h];rfl
theorem LW (mask:Nat)(ow:Array (Option Nat)):Rise ((live mask ow).map (·.1)):=by
 unfold live Rise;rw[o5];refine List.Pairwise.filterMap _ (R:=(· < ·)) (λa b hab x hx y hy=>?_) List.pairwise_lt_range;cases e1:ow.getD a none with
 |none=>rw[e1] at hx;cases hx
 | some p =>
  cases e2:ow.getD b none with
  |none=>rw[e2] at hy;cases hy
  | some q =>
   rw[e1] at hx;rw[e2] at hy;have hx':(a,p)=x:=by simpa using hx
   have hy':(b,q)=y:=by simpa using hy
   rw[<- hx',<- hy'];exact hab
theorem Se {mask:Nat}(O:Own mask ow sl):((live mask ow).map (·.2)).Perm (F6 sl.length):=by
 have nd:((live mask ow).map (·.2)).Nodup:=by
  have h1:(live mask ow).Pairwise λa b=>a.1<b.1:=o5.mp (LW mask ow);rw[L6,o5];refine List.Pairwise.imp_of_mem (λ{a b} ha hb hab e=>?_) h1;have x1:=(Bk (j:=a.1) (k:=a.2) O).mp ha;have x2:=(Bk (j:=b.1) (k:=b.2) O).mp hb;rw[e] at x1;rw[x1] at x2;have:=M9 x2;omega
 refine(List.perm_ext_iff_of_nodup nd List.nodup_range).mpr λk=>?_;rw[M7,E5];constructor
 ·rintro⟨⟨j,k'⟩,h,rfl⟩;exact(G4.mp ((Bk O).mp h)).1
 ·intro h;exact⟨(sl[k],k),(Bk O).mpr (D8 h),rfl⟩
theorem Sf {mask fi mo:Nat}{led pl:Bool}(hm:Msk mask)(hs:Array Int)(hl:hs.toList.length<mask) :
   ∃t' order,laid mask fi mo led pl hs=some (t',order)/\order.toList.Perm (F6 hs.toList.length)/\t'.led=led/\t'.plain=pl/\t'.mask=mask/\TOk t' (order.toList.map λk=>hs.toList.getD k 0):=by
 obtain⟨ow,sl,e,O,l,r⟩:=LV hm hs.toList [] _ [] (Own.nil mask) rfl (by grind) (λk s h e=>by simp at e);rw[w9] at e l r
 have el:laid mask fi mo led pl hs=some ({ mask,place:=((live mask ow).map (·.1)).toArray,dummies:=#[],finger:=fi,led,moves:=mo,plain:=pl },((live mask ow).map (·.2)).toArray):=by
  unfold laid;rw[Sd,show(some (ED (mask+1) (none:Option Nat),0))=some (ED (mask+1) none,([]:List Int).length) from rfl,e]
  rfl
 have po:=Se O;rw[l] at po;refine⟨_,_,el,po,rfl,rfl,rfl,?_⟩
 have ml:∀x,x∈(live mask ow).map (·.1)↔x∈sl:=λx=>by
  rw[E5];constructor
  ·rintro⟨⟨j,k⟩,h,rfl⟩;exact J8 ((Bk O).mp h)
  ·intro h;obtain⟨k,hk⟩:=CW.mp h;exact⟨(x,k),(Bk O).mpr hk,rfl⟩
 refine⟨by simp,rfl,hm,LW mask ow,λs h=>O.lim s ((ml s).mp h),?_,λi s h e1 e2=>?_⟩
 ·rw[B4,po.length_eq,o6];exact hl
 ·have e1':((live mask ow).map (·.1))[i]?=some s:=e1;have e2':(((live mask ow).map (·.2)).map λk=>hs.toList.getD k 0)[i]?=some h:=e2;rw[G9] at e1';rw[G9,G9] at e2';cases ex:(live mask ow)[i]? with
  |none=>rw[ex] at e1';cases e1'
  | some y =>
   rw[ex] at e1' e2';have a1:y.1=s:=by simpa using e1'
   have a2:hs.toList.getD y.2 0=h:=by simpa using e2'
   have my:=(Bk (j:=y.1) (k:=y.2) O).mp (J8 ex);have lk:y.2<hs.toList.length:=by rw[<- l];exact(G4.mp my).1
   have hk:hs.toList[y.2]?=some h:=by rw[<- a2,w6,D8 lk];rfl
   rw[a1] at my;exact(r y.2 s h my hk).mono λx hx=>(ml x).mpr hx
end SeT
end
section
namespace SeT
open PySem PySem.Spec PyProof.Rows L2
section
variable (prog:D1)(w:C9)
abbrev TK:HeapKind prog w (List Key):=tupleKind (J6 prog w)
def enS (x:List Key×A0):Int×A1:=((TK prog w).hash x.1,.ref x.2)
structure SetK (h:B6)(a:A0)(o:Obj)(es:Array (Int×A1))(ep:Nat)(t:P4)(xs:List (List Key×A0)):Prop where
 ho:h.get? a=some o
 ex:o.ExactSet
 hd:o.data=.set es ep t
 hes:es.toList=xs.map (enS prog w)
 hk:∀x∈xs,(TK prog w).is h x.1 x.2
 nd:(xs.map (·.1)).Nodup
 tb:TOk t (xs.map λx=>(TK prog w).hash x.1)
 few:5*xs.length<3*t.mask
 led:t.led=!(w.params.followText "set-order")
end
section
variable {prog:D1}{w:C9}{A:D5}{E:A1->A5->Prop}{s:A5}{a:A0}{o:Obj}{es:Array (Int×A1)}{ep:Nat}{t:P4}{xs:List (List Key×A0)}
theorem SetK.sz (S:SetK prog w h a o es ep t xs):es.size=xs.length:=by rw[<- M8,S.hes,B4]
theorem SetK.fits (S:SetK prog w h a o es ep t xs):t.fits es.size=true:=by
 have:=S.tb.fits;rw[B4] at this;rw[S.sz];exact this
theorem SetK.at (S:SetK prog w h a o es ep t xs){i:Nat}(e:xs[i]?=some y):es[i]?=some (enS prog w y):=by
 rw[<- Q3,S.hes,G9,e];rfl
theorem LX {vs:List A1}(h:ItemsAre (J6 prog w) ks vs):∀v∈vs,(∃i t,v=.int i t)\/∃x t,v=.str x t:=by
 induction h with
 |nil=>intro v hv;cases hv
 | @cons k v ks vs h1 _ ih =>
  intro u hu;rcases D0.mp hu with rfl|hu
  ·rcases j3 h1 with⟨i,t,_,rfl⟩|⟨x,t,_,rfl⟩
   ·simp
   ·simp
  ·grind
theorem LY (hk:(TK prog w).is s.heap k r)(h:Q false s):A6 (A7 prog w) A (ofAClassStatement 8 (.ref r)) Q E s:=by
 obtain⟨ob,items,n,e,c,d,jf⟩:=hk;unfold ofAClassStatement;refine A2 (Ay (⟨ob,e,c⟩:s.TypeIs (.ref r) "tuple") ?_);dsimp only;simp only[beq_self_eq_true,↓reduceIte];refine A2 (B2 ?_);simp only[AH,J5,↓reduceIte];refine A2 (W0 e d ?_);dsimp only;refine A2 ?_;rw[<- EC];refine Ei _ (λrest r s'=>r.1=none/\s'=s/\∀v∈rest,(∃i t,v=.int i t)\/∃x t,v=.str x t) _ ?_ ?_ _ _ ⟨rfl,rfl,LX jf⟩
 ·rintro v rest r s' ⟨hr,rfl,all⟩
  have e0:ofAClassStatement 7 v=pure false:=by
   rcases all v C6 with⟨i,t,rfl⟩|⟨x,t,rfl⟩ <;> rfl
  rw[e0];refine A2 (B2 ?_);simp only[J5,↓reduceIte];exact B2 ⟨rfl,rfl,λu hu=>all u (C5 _ hu)⟩
 ·rintro⟨r1,r2⟩ s' ⟨hr,rfl,_⟩;simp only at hr;subst hr;exact B2 h
theorem Sg (hu:A.units<cLine)(hk:(TK prog w).is s.heap k r):∀(l:List A1),(∀v∈l,∃b kb,v=.ref b/\(TK prog w).is s.heap kb b)->∀{Q:Bool->A5->Prop},Q false s->A6 (A7 prog w) A (searchCouldBeSeen (.ref r) l) Q E s:=by
 intro l hl Q h;unfold searchCouldBeSeen;refine A2 ?_;refine Ei _ (λrest r s'=>r.1=none/\s'=s/\∀v∈rest,∃b kb,v=.ref b/\(TK prog w).is s.heap kb b) _ ?_ ?_ _ _ ⟨rfl,rfl,hl⟩
 ·rintro v rest q s' ⟨hr,rfl,all⟩;obtain⟨b,kb,rfl,hb⟩:=all v C6;have fin:∀v∈rest,∃b kb,v=L8 b/\(TK prog w).is s'.heap kb b:=λu hu=>all u (C5 _ hu);dsimp only
  split
  ·exact B2 ⟨rfl,rfl,fin⟩
  ·refine A2 ((TK prog w).quiet hk ?_);simp only[AH,J5,↓reduceIte];refine A2 ((TK prog w).quiet hb ?_);simp only[AH,J5,↓reduceIte];refine A2 (LY hk ?_);simp only[J5,↓reduceIte];refine A2 (LY hb ?_);simp only[J5,↓reduceIte];exact B2 ⟨rfl,rfl,fin⟩
 ·rintro⟨r1,r2⟩ s' ⟨hr,rfl,_⟩;simp only at hr;subst hr;exact B2 h
theorem Sh (h:Q true s):A6 (A7 prog w) A (isSame (.ref b) (.ref b)) Q E s:=by
 show A6 _ A (if(b == b)=true then pure true else _) Q E s;rw[jt (by simp)];exact B2 h
theorem Si {α:Type}{b:Bool}{m:Sem Bool}{u v:Sem α}{Q:α->A5->Prop}(hm:∀Q':Bool->A5->Prop,Q' false s->A6 (A7 prog w) A m Q' E s)(hv:A6 (A7 prog w) A v Q E s):A6 (A7 prog w) A (if b=true then(do let x ← m;if x=true then u else v) else v) Q E s:=by
 split
 ·refine A2 (hm _ ?_);simp only[J5,↓reduceIte];exact hv
 ·exact hv
theorem LZ {r:A0}{k:List Key}(hu:A.units < cLine)(S:SetK prog w s.heap a o es ep t xs)(hk:(TK prog w).is s.heap k r){K e:Nat}(hK:(lp t.mask ((TK prog w).hash k) K).1=e)(he:e∉t.place.toList)(hK2:K<=t.mask + 14){Q:SetFound->A5->Prop}
   (hQ1:k∈xs.map (·.1)->Q (.there none) s) (hQ2:∀sl,sl∉t.place.toList->sl<=t.mask->Rch t.mask (·∈t.place.toList) sl ((TK prog w).hash k)->k∉xs.map (·.1)->Q (.free sl false) s) :
   ∀ (fuel kk oo : Nat) (st : Option SetTable.Probe), st.getD (t.probeStart ((TK prog w).hash k)) = pb t.mask ((TK prog w).hash k) kk oo -> kk <= K -> (kk = K -> oo = 0) -> oo <= rn t.mask (lp t.mask ((TK prog w).hash k) kk).1 -> far K kk oo <= fuel ->
     (∀k' o',o'<=rn t.mask (lp t.mask ((TK prog w).hash k) k').1->Lx k' o' kk oo->∃(i:Nat) (y:List Key×A0),t.place.toList[i]?=some (vs t.mask ((TK prog w).hash k) k' o')/\xs[i]?=some y/\y.1≠k)->
     A6 (A7 prog w) A (setSearchFrom a (.ref r) ((TK prog w).hash k) true fuel st) Q E s
 | 0, kk, oo, st, _, h1, h2, h3, h4, _ => by
  have r9:=rn_9 t.mask (lp t.mask ((TK prog w).hash k) kk).1;unfold far at h4;have:¬kk=K:=λz=>by have:=h2 z;omega
  omega
 | fuel + 1, kk, oo, st, hst, h1, h2, h3, h4, done => by
  have farK:far K kk oo<=10*SetTable.turns t.mask:=by unfold far SetTable.turns;omega
  have hat:∀(i:Nat) x,(xs.map λx=>(TK prog w).hash x.1)[i]?=some x->(es[i]?.map (·.1)).getD 0=x:=λi x e=>by
   rw[G9] at e;cases ex:xs[i]? with
   |none=>rw[ex] at e;cases e
   | some y =>
    rw[ex] at e;rw[S.at ex];exact M9 e
  obtain⟨k2,o2,a1,a2,a3,a4,a5,a6⟩:=LT S.tb (λi=>(es[i]?.map (·.1)).getD 0) hat hK he (10*SetTable.turns t.mask) kk oo h1 h2 h3 farK
  have done2:∀k' o',o'<=rn t.mask (lp t.mask ((TK prog w).hash k) k').1->Lx k' o' k2 o2->∃(i:Nat) (y:List Key×A0),t.place.toList[i]?=some (vs t.mask ((TK prog w).hash k) k' o')/\xs[i]?=some y/\y.1≠k:=λk' o' p1 p2=>by
   by_cases c:Lx k' o' kk oo
   ·exact done k' o' p1 c
   ·obtain⟨i,x,q1,q2,q3⟩:=a5 k' o' p1 c p2;rw[G9] at q2;cases ex:xs[i]? with
    |none=>rw[ex] at q2;cases q2
    | some y =>
     rw[ex] at q2;have q2':(TK prog w).hash y.1=x:=by simpa using q2
     exact⟨i,y,q1,ex,λz=>q3 (by rw[<- q2',z])⟩
  unfold setSearchFrom;refine A2 (V9 S.ho S.hd S.fits ?_);dsimp only;rw[S.tb.odd];simp only[J5,↓reduceIte];refine A2 (B2 ?_);rw[hst];generalize hpr:t.probe _ ((TK prog w).hash k) (pb t.mask ((TK prog w).hash k) kk oo)=pr;rcases a6 with⟨em,ep2⟩|⟨i,hkK,pi,hi,ep2⟩
  ·have epr:pr=some (.empty (vs t.mask ((TK prog w).hash k) k2 o2) none):=by rw[<- hpr];exact ep2
   rw[epr];dsimp only;refine B2 (hQ2 _ em (II a1) ⟨k2,o2,a1,rfl,λk' o' p1 p2=>?_⟩ λhin=>?_)
   ·obtain⟨i,y,q1,_⟩:=done2 k' o' p1 p2;exact J8 q1
   ·obtain⟨y,hy,ey⟩:=E5.mp hin;obtain⟨iy,hiy⟩:=CW.mp hy
    obtain⟨sy,hsy⟩:∃sy,t.place.toList[iy]?=some sy:=by
     have:=(G4.mp hiy).1;have h2:=S.tb.size;rw[B4] at h2;exact⟨_,D8 (by omega)⟩
    obtain⟨ky,oy,b1,b2,b3⟩:=S.tb.reach iy sy ((TK prog w).hash k) hsy (by rw[G9,hiy];show some ((TK prog w).hash y.1)=_;rw[ey])
    -- the empty place is not ahead of y's
    have nl:¬Lx k2 o2 ky oy:=λz=>em (b3 k2 o2 a1 z);have ne:¬(k2=ky/\o2=oy):=λ⟨z1,z2⟩=>em (by rw[z1,z2,b2];exact J8 hsy)
    have lt:Lx ky oy k2 o2:=by
     rcases x5 ky k2 with c|c|c
     ·exact .inl c
     ·subst c;rcases x5 oy o2 with d|d|d
      ·exact .inr ⟨rfl,d⟩
      ·exact absurd ⟨rfl,d.symm⟩ ne
      ·exact absurd (.inr ⟨rfl,d⟩) nl
     ·exact absurd (.inl c) nl
    obtain⟨i',y',q1,q2,q3⟩:=done2 ky oy b1 lt;rw[b2] at q1
    have ii:i'=iy:=by
     obtain⟨l1,e1⟩:=G4.mp q1;obtain⟨l2,e2⟩:=G4.mp hsy;rcases x5 i' iy with c|c|c
     ·have:=Y5.mp S.tb.rise _ _ l1 l2 c;omega
     ·exact c
     ·have:=Y5.mp S.tb.rise _ _ l2 l1 c;omega
    rw[ii,hiy] at q2;cases q2;exact q3 ey
  ·have epr:pr=some (.candidate (vs t.mask ((TK prog w).hash k) k2 o2) i (pb t.mask ((TK prog w).hash k) (nx t.mask ((TK prog w).hash k) k2 o2).1 (nx t.mask ((TK prog w).hash k) k2 o2).2)):=by rw[<- hpr];exact ep2
   rw[epr];dsimp only
   obtain⟨y,hy⟩:∃y,xs[i]?=some y:=by
    rw[G9] at hi;cases ex:xs[i]? with
    |none=>rw[ex] at hi;cases hi
    |some y=>exact⟨y,rfl⟩
   have hyk:=S.hk y (J8 hy);have hey:=S.at hy;refine Si (λQ' h=>Sg hu hk _ (λv hv=>?_) h) ?_
   ·obtain⟨z,hz,rfl⟩:=E5.mp hv
    have hz':z∈es.toList:=by
     rw[Array.toList_filter] at hz;exact(K6.mp hz).1
    rw[S.hes] at hz';obtain⟨y',hy',rfl⟩:=E5.mp hz';exact⟨y'.2,y'.1,rfl,S.hk y' hy'⟩
   rw[hey];show A6 (A7 prog w) A (T9 [.ref y.2] (eqBool (.ref y.2) (.ref r))>>=_) Q E s;refine A2 (J7 ((TK prog w).eqBool hu hyk hk ?_));refine A2 (V9 S.ho S.hd S.fits ?_);dsimp only
   by_cases c:y.1=k
   ·rw[jq c];simp only[Bool.and_self,↓reduceIte];exact B2 (hQ1 (E5.mpr ⟨y,J8 hy,c⟩))
   ·rw[jr c];simp only[Bool.and_false,J5,↓reduceIte];have sm:t.sameMemory t.moves t.mask=some true:=by unfold SetTable.sameMemory;simp
    rw[sm];simp only[↓reduceIte];rw[S.tb.slot_live pi];dsimp only;rw[hey];show A6 (A7 prog w) A (isSame (.ref y.2) (.ref y.2)>>=_) Q E s;refine A2 (Sh ?_);refine A2 (B2 ?_);simp only[↓reduceIte];obtain⟨f1,f2,f3⟩:=LS (K:=K) a1 hkK
    have fle:far K k2 o2<=far K kk oo:=by
     unfold far;have r9:=rn_9 t.mask (lp t.mask ((TK prog w).hash k) kk).1;rcases x5 k2 kk with c|c|c
     ·exact absurd (.inl c) a4
     ·subst c;have:¬o2<oo:=λz=>a4 (.inr ⟨rfl,z⟩);omega
     ·omega
    refine LZ hu S hk hK he hK2 hQ1 hQ2 fuel _ _ _ rfl f2 f3 (nx_ok a1) (by omega) λk' o' p1 p2=>?_;rcases nx_lx a1 p1 p2 with q|⟨rfl,rfl⟩
    ·exact done2 k' o' p1 q
    ·exact⟨i,y,pi,hy,c⟩
end
end SeT
end
section
namespace SeT
open PySem PySem.Spec PyProof.Rows L2
section
variable {prog:D1}{w:C9}{A:D5}{E:A1->A5->Prop}{s:A5}{a:A0}{o:Obj}{es:Array (Int×A1)}{ep:Nat}{t:P4}{xs:List (List Key×A0)}
theorem hbv (hk:(TK prog w).is s.heap k r)(h:∀b,Q b s):A6 (A7 prog w) A (hashByValue 8 (.ref r)) Q E s:=by
 have hT:s.TypeIs (.ref r) "tuple":=IsTupleKey.typeIs hk;obtain⟨ob,items,n,e,c,d,jf⟩:=hk;unfold hashByValue;refine A2 (Bu hT F.slot_tuple_hash.lookup ?_);dsimp only;refine A2 (W0 e d ?_);refine A2 ?_;show A6 _ _ (forIn items _ _) _ _ s;rw[<- EC];refine Ei _ (λrest q s'=>q.1=none/\s'=s/\∀v∈rest,(∃i t,v=.int i t)\/∃x t,v=.str x t) _ ?_ ?_ _ _ ⟨rfl,rfl,LX jf⟩
 ·rintro v rest q s' ⟨hr,rfl,all⟩
  have e0:∃b,hashByValue 7 v=pure b:=by
   rcases all v C6 with⟨i,t,rfl⟩|⟨x,t,rfl⟩
   ·exact⟨true,rfl⟩
   ·exact⟨false,rfl⟩
  obtain⟨b,e0⟩:=e0;rw[e0];refine A2 (B2 ?_);cases b with
  | true =>
   simp only[AH,J5,↓reduceIte];exact B2 ⟨rfl,rfl,λu hu=>all u (C5 _ hu)⟩
  | false =>
   simp only[Bool.not_false,↓reduceIte];exact B2 (B2 (h _))
 ·rintro⟨r1,r2⟩ s' ⟨hr,rfl,_⟩;simp only at hr;subst hr;exact B2 (h _)
theorem L_ (hk:(TK prog w).is h k r)(ho:h.get? a=some o)(ex:o.ExactSet)(sb:V2 a h h'):(TK prog w).is h' k r:=by
 obtain⟨ob,items,n,e,c,d,jf⟩:=hk
 have ne:r≠a:=λz=>by
  rw[z,ho] at e;cases e;rw[ex.1] at c;exact absurd c (by decide)
 exact⟨ob,items,n,(sb.2 r ne).trans e,c,d,jf⟩
theorem TOk.pl (T:TOk t hs)(b:Bool):TOk { t with plain:=b } hs:=⟨T.size,T.dum,T.mask,T.rise,T.lim,T.room,T.reach⟩
theorem Sj (hm:Msk m)(h:5*n<3*m):n+1<m:=by grind [Msk]
theorem Ma {h:B6}(ho:h.get? a=some o)(hd:o.data=.set es ep t):(h.update a (Obj.putSet es' t')).get? a=some { o with data:=.set es' (ep+1) t' }:=by
 have:=By (Obj.putSet es' t') ho (by rw[putSet_of es' t' hd];rfl);rw[putSet_of es' t' hd] at this;exact this
theorem Mb {α β:Type}(f:α->β)(l:List α)(p:Nat)(x:α):(insL l p x).map f=insL (l.map f) p (f x):=by simp[insL]
theorem Sk {α:Type}(l:List α)(p:Nat)(x:α):(insL l p x).Perm (x::l):=by
 unfold insL;have h1:(l.take p++x::l.drop p).Perm (x::(l.take p++l.drop p)):=List.perm_middle
 simp_all
theorem Mc {α:Type}(l:List α)(ord:List Nat)(d:α)(p:ord.Perm (F6 l.length)):ord.filterMap (λk=>l[k]?)=ord.map (λk=>l.getD k d)/\(ord.map λk=>l.getD k d).Perm l:=by
 have lt:∀k∈ord,k<l.length:=λk hk=>M7.mp (p.mem_iff.mp hk);constructor
 ·clear p
  induction ord with
  |nil=>rfl
  | cons k ord ih =>
   have hk:=lt k C6;rw[CZ,D8 hk,F2,ih λj hj=>lt j (C5 _ hj),w6,D8 hk]
   rfl
 ·have h1:=p.map λk=>l.getD k d
  have h2:(F6 l.length).map (λk=>l.getD k d)=l:=by
   apply List.ext_getElem?
   intro i;rw[G9]
   by_cases c:i<l.length
   ·grind
   ·grind
  rw[h2] at h1;exact h1
theorem relay (ho:s.heap.get? a=some o)(ex:o.ExactSet)(hd:o.data=.set es ep t)(hes:es.toList=xs.map (enS prog w))(hk:∀x∈xs,(TK prog w).is s.heap x.1 x.2)(nd:(xs.map (·.1)).Nodup)(tb:TOk t (xs.map λx=>(TK prog w).hash x.1))(led:t.led=!(w.params.followText "set-order"))
   (hn:n=xs.length) (hfull:(t.mask=7/\n=5)\/(t.mask=31/\n=19))
   (h:∀h' o' es' ep' t' xs',V2 a s.heap h'->SetK prog w h' a o' es' ep' t' xs'->xs'.Perm xs->Q () { s with heap:=h' }):A6 (A7 prog w) A (setRelay a (Dh n)) Q E s:=by
 have sz:es.size=xs.length:=by rw[<- M8,hes,B4]
 have fit:t.fits es.size=true:=by
  have:=tb.fits;rw[B4] at this;rw[sz];exact this
 obtain⟨m',hm',sa,fewm,lt⟩:∃m',Msk m'/\SetTable.sizeAbove (Dh n)-1=m'/\5*n<3*m'/\SetTable.sizeAbove (Dh n)<=128:=by
  rcases hfull with⟨_,rfl⟩|⟨_,rfl⟩
  ·exact⟨31,.inr (.inl rfl),by decide,by decide,by decide⟩
  ·exact⟨127,.inr (.inr rfl),by decide,by decide,by decide⟩
 have hsl:(es.map (·.1)).toList=xs.map λx=>(TK prog w).hash x.1:=by
  rw[Array.toList_map,hes,T0];rfl
 have hll:(es.map (·.1)).toList.length=n:=by rw[hsl,B4,hn]
 obtain⟨t',ord,el,po,l1,l2,l3,T'⟩:=Sf (fi:=t.finger) (mo:=t.movedTo m') (led:=t.led) (pl:=t.plain) hm' (es.map (·.1)) (by grind)
 have er:t.relaid (es.map (·.1)) (Dh n)=some (t',ord):=by
  unfold SetTable.relaid;rw[sa];exact el
 rw[hll] at po;have po':ord.toList.Perm (F6 xs.length):=by rw[<- hn];exact po
 obtain⟨x0,hx0⟩:∃x0:List Key×A0,True:=⟨([],0),trivial⟩;have ol:=Mc xs ord.toList x0 po';have lt2:∀k∈ord.toList,k<xs.length:=λk hk=>M7.mp (po'.mem_iff.mp hk)
 have es2:(ord.filterMap (es[·]?)).toList=(ord.toList.map λk=>xs.getD k x0).map (enS prog w):=by
  rw[Array.toList_filterMap,T0]
  have:∀l:List Nat,(∀k∈l,k < xs.length)->l.filterMap (fun k=>es[k]?)=l.map ((enS prog w)∘fun k=>xs.getD k x0):=by
   intro l
   induction l with
   |nil=>intro _;rfl
   | cons k l ih =>
    intro hl;have hk:=hl k C6
    have e1:es[k]?=some (enS prog w (xs.getD k x0)):=by
     rw[<- Q3,hes,G9,D8 hk,w6,D8 hk];rfl
    rw[CZ,e1,F2,ih λj hj=>hl j (C5 _ hj)]
    rfl
  exact this ord.toList lt2
 have z2:(ord.filterMap (es[·]?)).size=es.size:=by
  rw[<- M8,es2,B4,B4,po'.length_eq,o6,sz]
 unfold setRelay;refine A2 (V9 ho hd fit ?_);dsimp only;rw[ju (by rw[K9];omega),er]
 show A6 (A7 prog w) A ((do
  let es':=ord.filterMap (es[·]?)
  if es'.size != es.size then unsupported "internal:set-table-lost-an-element"
  pure (es',t'))>>=λ(x:Array (Int×A1)×P4)=>storeSet a x.1 x.2) Q E s
 dsimp only;rw[ju (by grind)];refine A2 (A2 (B2 (B2 ?_)));have fz:(ord.filterMap (es[·]?)).size<=C8:=by rw[z2,sz,<- hn,K9];rcases hfull with⟨_,rfl⟩|⟨_,rfl⟩ <;> decide
 refine wpAny_storeSet_of ho hd ?_ fz;have sb:=R5 s.heap a (Obj.putSet (ord.filterMap (es[·]?)) t');have pk:=po';refine h _ _ _ _ _ (ord.toList.map λk=>xs.getD k x0) sb ⟨Ma ho hd,ex,rfl,es2,λx hx=>?_,?_,?_,?_,by rw[l1];exact led⟩ ol.2
 ·exact L_ (hk x (ol.2.mem_iff.mp hx)) ho ex sb
 ·grind
 ·have e3:(ord.toList.map λk=>xs.getD k x0).map (λx=>(TK prog w).hash x.1)=ord.toList.map λk=>(es.map (·.1)).toList.getD k 0:=by
   rw[T0,hsl];refine Es λk hk=>?_;have hk':=lt2 k hk;show(TK prog w).hash (xs.getD k x0).1=_;rw[w6,w6,G9,D8 hk'];rfl
  rw[e3];exact T'
 ·rw[B4,po'.length_eq,o6,<- hn];show 5*n<3*t'.mask;omega
theorem add (hu:A.units<cLine)(S:SetK prog w s.heap a o es ep t xs)(hk:(TK prog w).is s.heap k r)(h63:xs.length+1<=63)
   (h1:k∈xs.map (·.1)->Q false s) (h2:k∉xs.map (·.1)->∀h' o' es' ep' t' xs',V2 a s.heap h'->SetK prog w h' a o' es' ep' t' xs'->xs'.Perm ((k,r)::xs)->Q true { s with heap:=h' }) :
   A6 (A7 prog w) A (setAddHashed a (.ref r) ((TK prog w).hash k)) Q E s:=by
 unfold setAddHashed setAddHashedIn;refine J7 (A2 (V9 S.ho S.hd S.fits ?_));dsimp only;have nb:byScan (.ref r) es=false:=by unfold byScan Value.scannable;simp
 rw[nb];simp only[J5,↓reduceIte];obtain⟨e,he1,he2⟩:=S.tb.free;obtain⟨K,hK1,hK2⟩:=goes S.tb.mask ((TK prog w).hash k) he1
 have f0:far K 0 0<=100000:=by
  unfold far;rcases S.tb.mask with z|z|z <;> rw[z] at hK1 <;> omega
 refine A2 ?_;unfold setSearch;refine LZ hu S hk hK2 he2 hK1 (λhin=>?_) (λsl n1 n2 n3 n4=>?_) 100000 0 0 none rfl (K1 _) (λ_=>rfl) (K1 _) f0 (λk' o' _ l=>?_)
 ·exact B2 (h1 hin)
 ·dsimp only;refine A2 (V9 S.ho S.hd S.fits ?_);have hr:=Sj S.tb.mask (by have:=S.few;exact this);obtain⟨p1,p2,p3,p4,T1⟩:=S.tb.put n1 n2 n3 (by grind);rw[B4] at p2;have ek:insL (xs.map λx=>(TK prog w).hash x.1) (t.put sl).2 ((TK prog w).hash k)=(insL xs (t.put sl).2 (k,r)).map λx=>(TK prog w).hash x.1:=(Mb (λx:List Key×A0=>(TK prog w).hash x.1) xs (t.put sl).2 (k,r)).symm;rw[ek] at T1
  have es1:(SetTable.insertAt es (t.put sl).2 ((TK prog w).hash k,.ref r)).toList=(insL xs (t.put sl).2 (k,r)).map (enS prog w):=by
   rw[LQ _ _ _ (by rw[S.sz];exact p2),S.hes,Mb];rfl
  have pm:=Sk xs (t.put sl).2 (k,r);have mk1:(t.put sl).1.mask=t.mask:=rfl
  have nd1:((insL xs (t.put sl).2 (k,r)).map (·.1)).Nodup:=by
   refine((pm.map (·.1)).nodup_iff).mpr ?_;rw[F2,Q2];exact⟨n4,S.nd⟩
  have hk1:∀x∈insL xs (t.put sl).2 (k,r),(TK prog w).is s.heap x.1 x.2:=λx hx=>by
   rcases D0.mp (pm.mem_iff.mp hx) with rfl|hx
   ·exact hk
   ·exact S.hk x hx
  have len1:(insL xs (t.put sl).2 (k,r)).length=xs.length+1:=FT _ _ _
  have fill1:∀b,({ (t.put sl).1 with plain:=b }:P4).fill=xs.length+1:=λb=>by
   show(t.put sl).1.place.size+(t.put sl).1.dummies.size=_;rw[T1.dum,<- M8,T1.size,B4,len1];rfl
  dsimp only;generalize (t.put sl).2=p at *;generalize ht1:(t.put sl).1=t1 at *;generalize hes1:SetTable.insertAt es p ((TK prog w).hash k,.ref r)=esN at *;generalize hxs1:insL xs p (k,r)=xs1 at *
  -- what follows, whatever is said of the hash
  have tail:∀b:Bool,A6 (A7 prog w) A (do
      storeSet a esN { t1 with plain:=b }
      if(!false&&({ t1 with plain:=b }:P4).tooFull)=true then do
       setRelay a (Dh (es.size+1))
       pure true
      else pure true) Q E s:=λb=>by
    have ez:esN.size<=C8:=by rw[<- M8,es1,B4,len1,K9];omega
    refine A2 (wpAny_storeSet_of S.ho S.hd ?_ ez);have sb:=R5 s.heap a (Obj.putSet esN { t1 with plain:=b });have hk2:∀x∈xs1,(TK prog w).is (s.heap.update a (Obj.putSet esN { t1 with plain:=b })) x.1 x.2:=λx hx=>L_ (hk1 x hx) S.ho S.ex sb;have ob:=Ma (es':=esN) (t':={ t1 with plain:=b }) S.ho S.hd;have T2:=TOk.pl T1 b
    by_cases c:({ t1 with plain:=b }:P4).tooFull=true
    ·rw[jt (by grind)]
     have c':(xs.length+1)*5>=t.mask*3:=by
      unfold SetTable.tooFull at c;rw[fill1 b] at c;have:=jv c;rw[<- mk1];exact this
     have few:=S.few;refine A2 (relay (n:=es.size+1) ob S.ex rfl es1 hk2 nd1 T2 (by show t1.led=_;rw[p4];exact S.led) (by rw[S.sz,len1]) ?_ λh' o' es' ep' t' xs' sb' S' p'=>?_)
     ·show(t1.mask=7/\_)\/(t1.mask=31/\_);rw[mk1,S.sz];rcases S.tb.mask with z|z|z
      ·omega
      ·omega
      ·omega
     ·exact B2 (h2 n4 _ _ _ _ _ _ (sb.trans sb') S' (p'.trans pm))
    ·rw[ju (by grind)];refine B2 (h2 n4 _ _ _ _ _ xs1 sb ⟨ob,S.ex,rfl,es1,hk2,nd1,T2,?_,by show t1.led=_;rw[p4];exact S.led⟩ pm)
     have:¬((xs.length+1)*5>=t.mask*3):=λz=>c (by
      unfold SetTable.tooFull;rw[fill1 b]
      exact jq (by grind))
     show 5*xs1.length<3*t1.mask;rw[len1,mk1];omega
  split
  ·refine A2 (hbv hk λb=>?_);cases b with
   | true =>
    simp only[↓reduceIte];exact tail t1.plain
   | false =>
    simp only[J5,↓reduceIte];exact tail false
  ·refine A2 (B2 ?_);simp only[↓reduceIte];exact tail t1.plain
 ·rcases l with l|⟨_,l⟩
  ·grind
  ·omega
end
end SeT
end
section
namespace SeT
open PySem PySem.Spec PyProof.Rows L2
def Holds (prog:D1)(w:C9)(h:B6)(S:A0)(rs:List (List Key×A0)):Prop:=
 ∃o es ep t xs,SetK prog w h S o es ep t xs/\(∀x∈xs,x∈rs)/\∀x∈rs,x.1∈xs.map (·.1)
theorem F_ (hk:(TK prog w).is h k r)(kp:∀o,h.get? r=some o->h'.get? r=some o):(TK prog w).is h' k r:=by
 obtain⟨ob,items,n,e,c,d,jf⟩:=hk;exact⟨ob,items,n,kp _ e,c,d,jf⟩
theorem SetK.at' (S:SetK prog w h a o es ep t xs)(k0:h'.get? a=some o)(kp:∀x∈xs,∀o,h.get? x.2=some o->h'.get? x.2=some o):SetK prog w h' a o es ep t xs:=
 ⟨k0,S.ex,S.hd,S.hes,(λx hx=>F_ (S.hk x hx) (kp x hx)),S.nd,S.tb,S.few,S.led⟩
theorem Holds.at' (S:Holds prog w h a rs)(k0:∀o,h.get? a=some o->h'.get? a=some o)(kp:∀x∈rs,∀o,h.get? x.2=some o->h'.get? x.2=some o):Holds prog w h' a rs:=by
 obtain⟨o,es,ep,t,xs,S1,S2,S3⟩:=S;exact⟨o,es,ep,t,xs,S1.at' (k0 o S1.ho) λx hx=>kp x (S2 x hx),S2,S3⟩
theorem Holds.len {xs rs:List (List Key×A0)}(S:SetK prog w h a o es ep t xs)(hs:∀x∈xs,x∈rs):xs.length<=rs.length:=by
 have n1:xs.Nodup:=(o5.mp S.nd).imp λh e=>h (by rw[e]);exact n1.length_le_of_subset hs
section
variable {prog:D1}{w:C9}{A:D5}{R:Result->A5->Prop}{I:A0}{fp wr:List A0}{G:Array GenState->Array GenState->Prop}{n:Nat}{P:Nat->A1->Prop}{St:Nat->A5->Prop}
theorem Sm {rs:List (List Key×A0)}(hy:rs[i]?=some y)(S1:SetK prog w h S o es ep t xs)(S2:∀x∈xs,x∈rs.take i)(S3:∀x∈rs.take i,x.1∈xs.map (·.1))(hin:y.1∈xs.map (·.1)):Holds prog w h S (rs.take (i+1)):=by
 have e:rs.take (i+1)=rs.take i++[y]:=by rw[List.take_succ,hy];rfl
 rw[e];exact⟨o,es,ep,t,xs,S1,λx hx=>n6 _ (S2 x hx),λx hx=>(E2.mp hx).elim (S3 x) λz=>by rw[E1.mp z];exact hin⟩
theorem Sn (Wk:WalksS prog w A.in1 I fp wr G n P St)(S:A0)(nf:S∉fp)(rs:List (List Key×A0))(hn:rs.length=n)(hv:∀i v,P i v->∃y,rs[i]?=some y/\v=.ref y.2)(ap:∀y∈rs,y.2∉wr/\y.2≠S)(hu:A.in1.units<cLine)(room:n<=63) :
   ∀ (k i : Nat) (s : A5), n - i = k -> i <= n -> St i s -> (∀ y ∈ rs, (TK prog w).is s.heap y.1 y.2) -> Holds prog w s.heap S (rs.take i) ->
     (∀s',Moved (S::wr) G s s'->Holds prog w s'.heap S rs->R (.ok (.ret .none)) s')->
     M5 (A7 prog w) A (.builtin "set.update.loop" ⟨[.ref S,.ref I],[]⟩) R s:=by
 have nw:S∉wr:=λh=>nf (Wk.sub _ h);have sub:∀b∈wr,b∈S::wr:=λb hb=>C5 _ hb;intro k
 induction k with
 | zero =>
  intro i s hk hi st jf so fin;have ei:i=n:=by omega
  subst ei;refine c8 EG ?_;rw[p6 AJ _];refine A2 (m:=pyNext (.ref I)) (Wk.done s _ _ st λs' mv=>?_);refine B2 (fin s' (mv.mono sub) ?_);rw[BA (by omega)] at so;exact so.at' (λo e=>mv.heap S _ nw e) λx hx o e=>mv.heap _ _ (ap x hx).1 e
 | succ k ih =>
  intro i s hk hi st jf so fin;have lt:i<n:=by omega
  refine c8 EG ?_;rw[p6 AJ _];refine A2 (m:=pyNext (.ref I)) (Wk.item i s _ _ lt st λv s' pv' st' mv=>?_);obtain⟨y,hy,rfl⟩:=hv i v pv';have my:y∈rs:=J8 hy;have its':∀y∈rs,(TK prog w).is s'.heap y.1 y.2:=λy hy=>F_ (jf y hy) λo e=>mv.heap _ _ (ap y hy).1 e;have so':Holds prog w s'.heap S (rs.take i):=so.at' (λo e=>mv.heap S _ nw e) λx hx o e=>mv.heap _ _ (ap x (W3 hx)).1 e;refine A2 (m:=T9 [.ref y.2] (setAdd S (.ref y.2))) (J7 ?_);unfold setAdd;refine J7 (A2 ((TK prog w).pyHash hu (its' y my) ?_));obtain⟨o,es,ep,t,xs,S1,S2,S3⟩:=so'
  have l63:xs.length+1<=63:=by
   have:=Holds.len S1 S2;rw[N7] at this;omega
  have next:∀h',V2 S s'.heap h'->Holds prog w h' S (rs.take (i+1))->M5 (A7 prog w) A (.builtin "set.update.loop" ⟨[.ref S,.ref I],[]⟩) R { s' with heap:=h',toks:=s'.toks+(TK prog w).draws y.1 }:=λh' sb so3=>by
   refine ih (i+1) _ (by omega) lt (Wk.frame _ s' _ _ st' (Nat.le_add_right _ _) λb hb o e=>?_) (λz hz=>F_ (its' z hz) λo e=>?_) so3 λs2 mv2 so4=>?_
   ·rw[sb.2 b (λz:b=S=>nf (by grind))];exact e
   ·rw[sb.2 z.2 (ap z hz).2];exact e
   ·refine fin s2 (Moved.trans Wk.gtrans ((mv.mono sub).then_heap (Nat.le_add_right _ _) λb o hb e=>?_) mv2) so4;rw[sb.2 b (λz:b=S=>hb (by grind))];exact e
  refine add (s:={ s' with toks:=s'.toks+(TK prog w).draws y.1 }) hu S1 (its' y my) l63 (λhin=>?_) λhin h' o' es' ep' t' xs' sb S1' pm=>?_
  ·exact B2 ⟨l9 AJ _,next s'.heap (Heap.SameBut.refl _ _) (Sm hy S1 S2 S3 hin)⟩
  ·refine B2 ⟨l9 AJ _,next h' sb ⟨o',es',ep',t',xs',S1',λx hx=>?_,λx hx=>?_⟩⟩
   ·rw[List.take_succ,hy];rcases D0.mp (pm.mem_iff.mp hx) with rfl|z
    ·grind
    ·grind
   ·rw[List.take_succ,hy] at hx;rw[(pm.map (·.1)).mem_iff,F2];rcases E2.mp hx with z|z
    ·grind
    ·grind
end
end SeT
end
section
namespace SeT
open PySem PySem.Spec PyProof.Rows L2
section
variable {prog:D1}{w:C9}{A:D5}{E:A1->A5->Prop}{s:A5}
theorem So (h:B6)(S:A0)(led:Bool)(hl:led=!(w.params.followText "set-order"))(e:h.get? S=some { cls:=.type "set",dict:=none,data:=.set #[] 0 (.fresh 0 0 led) }):Holds prog w h S []:=by
 refine⟨_,#[],0,.fresh 0 0 led,[],⟨e,⟨rfl,rfl,rfl⟩,rfl,rfl,(λ_ z=>nomatch z),by simp,⟨rfl,rfl,.inl rfl,by unfold Rise;exact GP,(λ_ z=>nomatch z),(show 0<7 by decide),λi s h e=>?_⟩,(show 5*0<3*7 by decide),hl⟩,(λ_ z=>nomatch z),λ_ z=>nomatch z⟩
 grind
theorem Md (hd:A.handled=none)(hu:A.units+64<cLine)(ht:s.heap.IsList a jf\/s.heap.IsTuple a jf)(hv:jf.toList=rs.map λy=>L8 y.2)(hk:∀y∈rs,(TK prog w).is s.heap y.1 y.2)(room:rs.length<=63)
   (fin:∀(h':B6) (tk:Nat),Holds prog w h' s.heap.objs.size rs->
     (∀b o,b<s.heap.objs.size->s.heap.get? b=some o->h'.get? b=some o)->Q (.ref s.heap.objs.size) { s with heap:=h',toks:=tk }):A6 (A7 prog w) A (call (.type "set") [.ref a]) Q E s:=by
 have sz:rs.length=jf.size:=by rw[<- M8,hv,B4]
 have lo:∀y∈rs,y.2<s.heap.objs.size:=λy hy=>by
  obtain⟨ob,items,n,e,_⟩:=hk y hy;exact C4 e
 refine KQ hd ht (λI St fp G s1 R led hl lI Wk nf h0 g1 kp k=>?_) fin;refine Sn Wk _ nf rs sz (λi v e=>?_) (λy hy=>⟨λz=>?_,D3 (lo y hy)⟩) (by grind) (by omega) (jf.size-0) 0 s1 rfl (K1 _) h0 (λy hy=>F_ (hk y hy) λo e=>kp _ _ e) (So _ _ led hl g1) k
 ·rw[<- Q3,hv,G9] at e;cases er:rs[i]? with
  |none=>rw[er] at e;cases e
  |some y=>rw[er] at e;cases e;exact⟨y,rfl,rfl⟩
 grind
end
end SeT
end
section
namespace SeT
open PySem PySem.Spec PyProof.Rows L2
theorem c6:Slot "set_iterator" "__next__" "set_iterator.__next__":=.of (owner:="set_iterator") (n:="__next__")
 (by rw[typeLookup_type,builtinLookup_eq_fast];kernel_rfl)
 (by decide +kernel)
 (by decide +kernel)
 (by decide +kernel)
 (by first|exact .inl (by decide +kernel)|exact .inr (by grind))
 (by rw[v5];kernel_rfl)
theorem Me:Slot "set_iterator" "__iter__" "set_iterator.__iter__":=.of (owner:="set_iterator") (n:="__iter__")
 (by rw[typeLookup_type,builtinLookup_eq_fast];kernel_rfl)
 (by decide +kernel)
 (by decide +kernel)
 (by decide +kernel)
 (by first|exact .inl (by decide +kernel)|exact .inr (by grind))
 (by rw[v5];kernel_rfl)
theorem Ga:entryFor table "set_iterator.__next__"=some O4.«set_iterator.__next__»:=entryFor_of_tree (by kernel_rfl)
theorem Sq:entryFor table "set_iterator.__iter__"=some O4.«dict_keyiterator.__iter__»:=
 entryFor_alias (id':="dict_keyiterator.__iter__") (by kernel_rfl) rfl (by decide +kernel) (by kernel_rfl)
theorem Sr:entryFor table "set.__iter__"=some O4.«frozenset.__iter__»:=
 entryFor_alias (id':="frozenset.__iter__") (by kernel_rfl) rfl (by decide +kernel) (by kernel_rfl)
theorem ow_it:Manifest.owners.lookup (String.ofList (['r','o','t','a','r','e','t','i','_','t','e','s']).reverse)=some Manifest.sig_set_iterator:=by kernel_rfl
theorem Gb (x:A1):argsOk "set_iterator.__next__" ⟨[x],[]⟩:=rfl
theorem Ss (x:A1):argsOk "set_iterator.__iter__" ⟨[x],[]⟩:=rfl
theorem erase_perm {α:Type}:∀(l:List α) (i:Nat) (x:α),l[i]?=some x->(x::l.eraseIdx i).Perm l
 |[],i,x,e=>by simp at e
 | y :: l, 0, x, e => by
  have:y=x:=by simpa using e
  rw[this];exact .refl _
 | y :: l, i + 1, x, e => by
  have h:=erase_perm l i x (by simpa using e);show(x::y::l.eraseIdx i).Perm (y::l);exact(EX y x _).trans (h.cons y)
theorem Mf {α:Type}(next:Nat->Nat):∀(fuel k:Nat) (left:List α) (out:Array α),fuel=left.length->(pickOrder.go next fuel k left out).toList.Perm (out.toList++left)
 | 0, k, left, out, h => by
  have:left=[]:=Bz h.symm;subst this;unfold pickOrder.go;rw[R9]
 | fuel + 1, k, left, out, h => by
  have lt:next k%left.length<left.length:=Nat.mod_lt _ (by omega)
  have e:left[next k%left.length]?=some left[next k%left.length]:=D8 lt;unfold pickOrder.go;rw[e];dsimp only;have le:(left.eraseIdx (next k%left.length)).length=fuel:=by rw[GA lt];omega
  refine(Mf next fuel (k+1) _ _ le.symm).trans ?_;rw[Array.toList_push,N6];exact List.Perm.append_left _ (erase_perm _ _ _ e)
theorem Su {α:Type}(next:Nat->Nat)(xs:Array α):(pickOrder next xs).toList.Perm xs.toList:=by
 have:=Mf next xs.size 0 xs.toList #[] (by simp)
 exact this
section
variable {prog:D1}{w:C9}{A:D5}{E:A1->A5->Prop}{s:A5}
theorem chosen (hn:0<n)(h:∀i d,i<n->Q i { s with drawn:=d }):A6 (A7 prog w) A (choose src n) Q E s:=by
 intro Γ p _;unfold choose;rw[Sem.wp];refine⟨by omega,?_⟩;rw[Sem.wp];exact h _ _ (Nat.mod_lt _ hn)
theorem Mg {α:Type}:∀(n:Nat) (xs:List α) (s:A5) (Q:List α->A5->Prop),n=xs.length->(∀ys d,ys.Perm xs->Q ys { s with drawn:=d })->A6 (A7 prog w) A (drawOrder n xs) Q E s
 | 0, xs, s, Q, hn, h => by
  have:xs=[]:=Bz hn.symm;subst this;exact B2 (h [] s.drawn (.refl _))
 |n+1,[],s,Q,hn,h=>by simp at hn
 | n + 1, x :: xs, s, Q, hn, h => by
  unfold drawOrder;refine A2 (chosen (by simp) λi d hi=>?_);have e:(x::xs)[i]?=some (x::xs)[i]:=D8 hi;rw[e];dsimp only;have le:((x::xs).eraseIdx i).length=n:=by rw[GA hi];omega
  refine A2 (Mg n _ _ _ le.symm λys d2 hp=>B2 ?_);exact h _ d2 ((hp.cons _).trans (erase_perm _ _ _ e))
def P9 (h:B6)(I a:A0)(fst:A1)(i n ep:Nat):Prop:=∃o,h.get? I=some o/\o.cls=.type "set_iterator"/\o.data=.fields #[fst,.int i 0,.ref a,.int n 0,.int ep 0]
theorem P9.ty (x:P9 s.heap I a fst i n ep):s.TypeIs (.ref I) "set_iterator":=by
 obtain⟨o,ho,hc,_⟩:=x;exact⟨o,ho,hc⟩
theorem P9.at' (x:P9 h I a fst i n ep)(e:∀o,h.get? I=some o->h'.get? I=some o):P9 h' I a fst i n ep:=by grind [P9]
theorem P9.put (x:P9 h I a fst i n ep)(k:Nat)(v:A1):∃o,(h.update I (Obj.mapFields (·.setIfInBounds k v))).get? I=some o/\o.cls=.type "set_iterator"/\o.data=.fields (#[fst,.int i 0,.ref a,.int n 0,.int ep 0].setIfInBounds k v):=by
 obtain⟨o,ho,hc,hd⟩:=x;exact⟨_,By _ ho (Obj.isFreed_of_fields (EE hd _)),(Obj.cls_mapFields ..).trans hc,EE hd _⟩
theorem Mh (x:P9 s.heap I a fst i n ep)(h:Q (.ref I) s):A6 (A7 prog w) A (pyIter (.ref I)) Q E s:=by
 refine wpAny_pyIter_slot x.ty Me (R0 Me x.ty Sq (show A6 (A7 prog w) _ (ret (.ref I)) _ _ s from ?_) (Ss _));exact B2 ⟨_,rfl,"set_iterator",_,x.ty,c6.lookup,h⟩
theorem Mi {Q:Option A1->A5->Prop}(hh:A.handled=none)(h:∀h',(∀b o,h1.get? b=some o->h'.get? b=some o)->Q none { s with heap:=h' }) :
   A6 (A7 prog w) A.in1 ((newExc (.type "StopIteration") []>>=λx=>raiseNew x:Sem PySem.Fin)) Q0 (λe s'=>A6 (A7 prog w) A (do if ← isInstance e (.type "StopIteration") then pure none else throw e) Q E s') { s with heap:=h1 }:=by
 refine A2 ?_;simp only[newExc,newTuple];refine A2 (Q1 ?_ (by size_fits));refine A2 (m:=firstArgMember _ _) (wpAny_of_eq (a:=Z1) (by first|rfl|(simp only[firstArgMember];rfl)) ?_);refine Q1 ?_ (by size_fits);simp only[raiseNew];refine A2 (wpAny_handled ?_);rw[show A.in1.handled=none from hh];refine A2 (B2 (wpAny_throw ?_));refine A2 (CK (T:="StopIteration") (b:=true) ⟨_,E9 _ rfl,rfl⟩ isSubtype_stop ?_);exact B2 (h _ λb o e=>C2 _ (C2 _ e))
end
end SeT
end
section
namespace SeT
open PySem PySem.Spec PyProof.Rows L2
section
variable {prog:D1}{w:C9}{A:D5}{E:A1->A5->Prop}{s:A5}{I a:A0}{n i ep:Nat}{o:Obj}{es:Array (Int×A1)}{t:P4}
theorem Sv {slot nx:Nat}(hit:P9 s.heap I a (.int slot 0) i n ep)(ho:s.heap.get? a=some o)(hd:o.data=.set es ep t)(hf:t.fits es.size=true)(hn:es.size=n)
   (hs:∀(A:D5) (E:A1->A5->Prop) (Q':Option (A1×Nat)->A5->Prop),Q' (some (x,nx)) s->A6 (A7 prog w) A (setNext a slot i ep) Q' E s)
   (hQ:∀h',P9 h' I a (.int nx 0) (i+1) n ep->V2 I s.heap h'->Q (some x) { s with heap:=h' }):A6 (A7 prog w) A (pyNext (.ref I)) Q E s:=by
 obtain⟨oi,hoi,hci,hdi⟩:=id hit;unfold pyNext;refine A2 (w5 (X8 (name:=A8 "__next__") hit.ty c6 (R0 c6 hit.ty Ga ?_ (Gb _))));unfold O4.«set_iterator.__next__»;refine A2 (B2 ?_);refine A2 (wpAny_fieldsOf hoi hdi ?_);dsimp only;refine A2 (CH ho hd hf ?_);rw[ju (by grind)];refine A2 (hs _ _ _ ?_);dsimp only;refine A2 (w4 hoi hdi (by simp) ?_);obtain⟨o1,e1,c1,d1⟩:=hit.put 0 (rawInt nx);have h1:P9 (s.heap.update I (Obj.mapFields (·.setIfInBounds 0 (rawInt nx)))) I a (.int nx 0) i n ep:=⟨o1,e1,c1,by rw[d1];simp[rawInt]⟩;refine A2 (w4 (s:={ s with heap:=s.heap.update I (Obj.mapFields (·.setIfInBounds 0 (rawInt nx))) }) e1 d1 (by simp) ?_);obtain⟨o2,e2,c2,d2⟩:=h1.put 1 (rawInt (i+1));refine B2 ⟨_,rfl,B2 (hQ _ ⟨o2,e2,c2,by rw[d2];simp[rawInt]⟩ ?_)⟩;exact(R5 s.heap I _).trans (R5 _ I _)
theorem Sw {slot:Nat}(hh:A.handled=none)(hit:P9 s.heap I a (.int slot 0) i n ep)(ho:s.heap.get? a=some o)(hd:o.data=.set es ep t)(hf:t.fits es.size=true)(hn:es.size=n)
   (hs:∀(A:D5) (E:A1->A5->Prop) (Q':Option (A1×Nat)->A5->Prop),Q' none s->A6 (A7 prog w) A (setNext a slot i ep) Q' E s)
   (hQ:∀h',(∀b o,b≠I->s.heap.get? b=some o->h'.get? b=some o)->Q none { s with heap:=h' }):A6 (A7 prog w) A (pyNext (.ref I)) Q E s:=by
 obtain⟨oi,hoi,hci,hdi⟩:=id hit;unfold pyNext;refine A2 (w5 (X8 (name:=A8 "__next__") hit.ty c6 (R0 c6 hit.ty Ga ?_ (Gb _))));unfold O4.«set_iterator.__next__»;refine A2 (B2 ?_);refine A2 (wpAny_fieldsOf hoi hdi ?_);dsimp only;refine A2 (CH ho hd hf ?_);rw[ju (by grind)];refine A2 (hs _ _ _ ?_);dsimp only;refine A2 (w4 hoi hdi (by simp) ?_);exact Mi hh λh' k=>hQ h' λb o hb e=>k b o (((R5 s.heap I _).2 b hb).trans e)
end
end SeT
end
section
namespace SeT
open PySem PySem.Spec PyProof.Rows L2
section
variable {prog:D1}{w:C9}{A:D5}{E:A1->A5->Prop}{s:A5}{I a tp:A0}{n i ep:Nat}{o:Obj}{es:Array (Int×A1)}{t:P4}{ps:Array A1}
theorem Sx {p:Nat}(hit:P9 s.heap I a (.ref tp) i n ep)(ht:s.heap.IsTuple tp ps)(ho:s.heap.get? a=some o)(hd:o.data=.set es ep t)(hf:t.fits es.size=true)(hn:es.size=n)
   (hp:ps[i]?=some (.int p 0)) (he:es[p]?=some (hx,x))
   (hQ:∀h',P9 h' I a (.ref tp) (i+1) n ep->V2 I s.heap h'->Q (some x) { s with heap:=h' }):A6 (A7 prog w) A (pyNext (.ref I)) Q E s:=by
 obtain⟨oi,hoi,hci,hdi⟩:=id hit;obtain⟨ot,hot,hct,nt,hdt⟩:=ht;unfold pyNext;refine A2 (w5 (X8 (name:=A8 "__next__") hit.ty c6 (R0 c6 hit.ty Ga ?_ (Gb _))));unfold O4.«set_iterator.__next__»;refine A2 (B2 ?_);refine A2 (wpAny_fieldsOf hoi hdi ?_);dsimp only;refine A2 (CH ho hd hf ?_);rw[ju (by grind)];refine A2 (W0 hot hdt ?_);dsimp only;rw[show((i:Int).toNat)=i from rfl,hp];dsimp only;refine A2 (m:=setNextDrawn a _ _) (A2 (V9 ho hd hf ?_));dsimp only;rw[ju (by simp)];rw[show((p:Int).toNat)=p from rfl,he];dsimp only;refine B2 ?_;refine A2 (w4 hoi hdi (by simp) ?_);obtain⟨o2,e2,c2,d2⟩:=hit.put 1 (rawInt (i+1));refine B2 ⟨_,rfl,B2 (hQ _ ⟨o2,e2,c2,by rw[d2];simp[rawInt]⟩ ?_)⟩;exact R5 s.heap I _
theorem Sy (hh:A.handled=none)(hit:P9 s.heap I a (.ref tp) i n ep)(ht:s.heap.IsTuple tp ps)(ho:s.heap.get? a=some o)(hd:o.data=.set es ep t)(hf:t.fits es.size=true)(hn:es.size=n)
   (hp:ps[i]?=none)
   (hQ:∀h',(∀b o,b≠I->s.heap.get? b=some o->h'.get? b=some o)->Q none { s with heap:=h' }):A6 (A7 prog w) A (pyNext (.ref I)) Q E s:=by
 obtain⟨oi,hoi,hci,hdi⟩:=id hit;obtain⟨ot,hot,hct,nt,hdt⟩:=ht;unfold pyNext;refine A2 (w5 (X8 (name:=A8 "__next__") hit.ty c6 (R0 c6 hit.ty Ga ?_ (Gb _))));unfold O4.«set_iterator.__next__»;refine A2 (B2 ?_);refine A2 (wpAny_fieldsOf hoi hdi ?_);dsimp only;refine A2 (CH ho hd hf ?_);rw[ju (by grind)];refine A2 (W0 hot hdt ?_);dsimp only;rw[show((i:Int).toNat)=i from rfl,hp];dsimp only;refine A2 (w4 hoi hdi (by simp) ?_);obtain⟨o2,e2,c2,d2⟩:=hit.put 0 (rawInt 0);refine A2 (w4 (s:={ s with heap:=s.heap.update I (Obj.mapFields (·.setIfInBounds 0 (rawInt 0))) }) e2 d2 (by simp) ?_);exact Mi hh λh' k=>hQ h' λb o hb e=>k b o (((R5 _ I _).2 b hb).trans (((R5 s.heap I _).2 b hb).trans e))
theorem Sz (hh:A.handled=none){ys:List A1}{sl:Nat->Nat}(hn:es.size=ys.length)(ne:a≠I)(hd:o.data=.set es ep t)(hf:t.fits es.size=true)
   (hs:∀(i:Nat) (s:A5) (A:D5) (E:A1->A5->Prop) (Q':Option (A1×Nat)->A5->Prop),s.heap.get? a=some o->i<=ys.length->Q' (ys[i]?.map λx=>(x,sl (i+1))) s->A6 (A7 prog w) A (setNext a (sl i) i ep) Q' E s) :
   Walks prog w A I [I,a] [I] ys.length (λi v=>ys[i]?=some v) (λi h=>P9 h I a (.int (sl i) 0) i ys.length ep/\h.get? a=some o) where
 sub:=λb hb=>by rw[E1.mp hb];exact C6
 frame:=λ_ _ _ st hk=>⟨st.1.at' λo e=>hk I C6 o e,hk a (C5 _ (E1.mpr rfl)) o st.2⟩
 item:=λi s Q E hi st hQ=>by
  have e:ys[i]?=some ys[i]:=D8 hi;refine Sv st.1 st.2 hd hf hn (x:=ys[i]) (nx:=sl (i+1)) (λA E Q' q=>hs i s A E Q' st.2 (i4 hi) (by rw[e];exact q)) λh' hit' sb=>?_;exact hQ _ h' s.toks e ⟨hit',(sb.2 a ne).trans st.2⟩ λb o hb e=>(sb.2 b (λz=>hb (E1.mpr z))).trans e
 done:=λs Q E st hQ=>Sw hh st.1 st.2 hd hf hn (λA E Q' q=>hs _ s A E Q' st.2 (C7 _) (by rw[Y6 (C7 _)];exact q)) λh' k=>hQ h' s.toks λb o hb e=>k b o (λz=>hb (E1.mpr z)) e
 self:=λ_ _ _ _ st hQ=>Mh st.1 hQ
theorem SA (hh:A.handled=none){pl:List Nat}(hn:es.size=pl.length)(ne:a≠I)(nt:tp≠I)(hd:o.data=.set es ep t)(hf:t.fits es.size=true)(hps:ps=(pl.map λ(i:Nat)=>rawInt i).toArray)(hpl:∀p∈pl,p<es.size) :
   Walks prog w A I [I,a,tp] [I] pl.length (λi v=>∃p x,pl[i]?=some p/\es[p]?=some x/\v=x.2) (λi h=>P9 h I a (.ref tp) i pl.length ep/\h.get? a=some o/\h.IsTuple tp ps) where
 sub:=λb hb=>by rw[E1.mp hb];exact C6
 frame:=λ_ _ _ st hk=>⟨st.1.at' λo e=>hk I C6 o e,hk a (by simp) o st.2.1,st.2.2.at λo e=>hk tp (by simp) o e⟩
 item:=λi s Q E hi st hQ=>by
  have e:pl[i]?=some pl[i]:=D8 hi;have lt:=hpl _ (J8 e);have ep':ps[i]?=some (.int (pl[i]:Nat) 0):=by rw[hps,List.getElem?_toArray,G9,e];rfl
  have ex:es[pl[i]]?=some es[pl[i]]:=Z0 lt;refine Sx st.1 st.2.2 st.2.1 hd hf hn ep' (hx:=es[pl[i]].1) (x:=es[pl[i]].2) ex λh' hit' sb=>?_;exact hQ _ h' s.toks ⟨_,_,e,ex,rfl⟩ ⟨hit',(sb.2 a ne).trans st.2.1,st.2.2.at λo e=>(sb.2 tp nt).trans e⟩ λb o hb e=>(sb.2 b (λz=>hb (E1.mpr z))).trans e
 done:=λs Q E st hQ=>Sy hh st.1 st.2.2 st.2.1 hd hf hn (by grind) λh' k=>hQ h' s.toks λb o hb e=>k b o (λz=>hb (E1.mpr z)) e
 self:=λ_ _ _ _ st hQ=>Mh st.1 hQ
end
end SeT
end
section
namespace SeT
open PySem PySem.Spec PyProof.Rows L2
def An (pl:Array Nat):Nat->Nat
 |0=>0
 |i+1=>pl.getD i 0+1
theorem SC {pl:Array Nat}(hr:Rise pl.toList):∀{i:Nat},i<=pl.size->SetTable.below pl (An pl i)=i
 | 0, _ => by
  obtain⟨h1,h2,h3⟩:=DU pl (An pl 0) hr;refine Nat.eq_zero_of_not_pos λc=>?_;have lt:0<pl.size:=by omega
  have:=h2 0 pl[0] c (Z0 lt);exact Ez _ this
 | i + 1, hi => by
  have lt:i<pl.size:=hi;have e:An pl (i+1)=pl[i]+1:=by show pl.getD i 0+1=_;rw[AI,Z0 lt];rfl
  obtain⟨h1,h2,h3⟩:=DU pl (An pl (i+1)) hr;rw[e] at h1 h2 h3 ⊢
  have a1:¬SetTable.below pl (pl[i]+1)<=i:=λc=>by
   have:=h3 i pl[i] c (Z0 lt);omega
  have a2:¬i+1<SetTable.below pl (pl[i]+1):=λc=>by
   have l2:i+1<pl.size:=by omega
   have:=h2 (i+1) pl[i+1] c (Z0 l2);have l2':i+1<pl.toList.length:=by simpa using l2
   have:=Y5.mp hr i (i+1) (by omega) l2' (by omega);simp only[Array.getElem_toList] at this;omega
  omega
theorem SD {α β:Type}{f:α->β}:∀{ys:List β} {xs:List α},ys.Perm (xs.map f)->∃zs:List α,zs.Perm xs/\ys=zs.map f:=by
 intro ys xs h;generalize e:xs.map f=l at h
 induction h generalizing xs with
 | nil =>
  have:xs=[]:=by simpa using e
  subst this;exact⟨[],.refl _,rfl⟩
 | @cons b l1 l2 h1 ih =>
  match xs,e with
  | x :: xs, e =>
   rw[F2] at e;injection e with ea eb;obtain⟨zs,z1,z2⟩:=ih eb;exact⟨x::zs,z1.cons x,by rw[z2,F2,ea]⟩
 | swap a b l =>
  match xs,e with
  | x :: y :: xs, e =>
   rw[F2,F2] at e;injection e with ea eb;injection eb with ec ed;exact⟨y::x::xs,EX x y xs,by rw[F2,F2,ea,ec,ed]⟩
 | trans h1 h2 ih1 ih2 =>
  obtain⟨zs,z1,z2⟩:=ih2 e;obtain⟨us,u1,u2⟩:=ih1 z2.symm;exact⟨us,u1.trans z1,u2⟩
def dr (es:Array (Int×A1))(t:P4):Bool:=!t.plain&&decide (es.size>1)
structure SetV (w:C9)(h:B6)(a:A0)(o:Obj)(es:Array (Int×A1))(ep:Nat)(t:P4):Prop where
 ho:h.get? a=some o
 ex:o.ExactSet
 hd:o.data=.set es ep t
 fits:t.fits es.size=true
 few:es.size<=127
 led:t.led=!(w.params.followText "set-order")
 rise:dr es t=false->Rise t.place.toList
abbrev vls (es:Array (Int×A1)):List A1:=es.toList.map (·.2)
section
variable {prog:D1}{w:C9}{A:D5}{E:A1->A5->Prop}{s:A5}{a:A0}{ep:Nat}{o:Obj}{es:Array (Int×A1)}{t:P4}
theorem SetK.toV (S:SetK prog w h a o es ep t xs):SetV w h a o es ep t:=⟨S.ho,S.ex,S.hd,S.fits,by
 have:=S.few;rw[S.sz]
 rcases S.tb.mask with z|z|z <;> rw[z] at this <;> omega,S.led,λ_=>S.tb.rise⟩
theorem Gc (h:Q (w.params.followText "set-order") s):A6 (A7 prog w) A setsByText Q E s:=A2 (Eh (B2 h))
theorem SE (S:SetV w h0 a o es ep t)(ho:s.heap.get? a=some o)(hb:w.params.followText "set-order"=false)(hd:dr es t=false)(hi:i<=es.size)
   (h:Q ((vls es)[i]?.map λx=>(x,An t.place (i+1))) s):A6 (A7 prog w) A (setNext a (An t.place i) i ep) Q E s:=by
 have sp:t.place.size=es.size:=by
  have:=S.fits;unfold SetTable.fits at this;simp only[V4,beq_iff_eq] at this;exact this.1
 unfold setNext;refine A2 (V9 ho S.hd S.fits ?_);dsimp only;refine A2 (Gc ?_);rw[hb];simp only[J5,↓reduceIte];have e1:(!t.plain&&decide (es.size>1))=false:=hd;show A6 _ _ (if(!t.plain&&decide (es.size>1))=true then _ else _) _ _ _;rw[e1];simp only[J5,↓reduceIte];have el:t.led=true:=by rw[S.led,hb];rfl
 refine A2 (show A6 _ _ (if(!t.led&&!es.isEmpty)=true then _ else _) _ _ _ from ?_);rw[el];simp only[AH,p5,J5,↓reduceIte];refine B2 ?_;rw[SC (S.rise hd) (by omega)];refine B2 ?_;rw[G9,Q3] at h;cases ex:es[i]? with
 |none=>rw[ex] at h;exact h
 | some y =>
  rw[ex] at h;have lt:i<t.place.size:=by rw[sp];exact(GI.mp ex).1
  rw[Z0 lt];have:An t.place (i+1)=t.place[i]+1:=by show t.place.getD i 0+1=_;rw[AI,Z0 lt];rfl
  rw[this] at h;exact h
theorem SF (S:SetV w h0 a o es ep t)(ho:s.heap.get? a=some o)(hb:w.params.followText "set-order"=true)
   (h:Q ((vls (pickOrder (w.params.setOrder a ep) es))[i]?.map λx=>(x,0)) s):A6 (A7 prog w) A (setNext a 0 i ep) Q E s:=by
 unfold setNext;refine A2 (V9 ho S.hd S.fits ?_);dsimp only;refine A2 (Gc ?_);rw[hb];simp only[↓reduceIte];rw[ju (by simp)];refine A2 (m:=setWalk a) ?_;unfold setWalk;refine A2 (V9 ho S.hd S.fits ?_);dsimp only;refine A2 (Gc ?_);rw[hb];simp only[↓reduceIte];refine A2 (Eh (B2 (B2 ?_)));rw[G9,Q3,Option.map_map] at h;exact h
theorem SG (hh:A.handled=none)(S:SetV w s.heap a o es ep t)
   (hQ:∀(h':B6) (d:_) (I:A0) (fp:List A0) (ys:List A1) (P:Nat->A1->Prop) (St:Nat->B6->Prop),(∀b o,s.heap.get? b=some o->h'.get? b=some o)->s.heap.objs.size<=I->I<h'.objs.size->(∀b∈fp,b=a\/s.heap.objs.size<=b)->ys.Perm (vls es)->
     (∀i v,P i v->ys[i]?=some v)->Walks prog w A I fp [I] es.size P St->St 0 h'->Q (.ref I) { s with heap:=h',drawn:=d }):A6 (A7 prog w) A (pyIter (.ref a)) Q E s:=by
 have hT:s.TypeIs (.ref a) "set":=⟨o,S.ho,S.ex.1⟩;have la:a<s.heap.objs.size:=C4 S.ho;refine wpAny_pyIter_slot hT F.slot_set_iter (R0 F.slot_set_iter hT Sr ?_ (F.args_set_iter_1 _));unfold O4.«frozenset.__iter__» Builtin.Frozenset.slot0 Builtin.Frozenset.sizeOf;refine A2 (A2 (B2 (B2 ?_)));refine A2 (A2 (CH S.ho S.hd S.fits (B2 ?_)));unfold setDrawn;refine A2 (A2 (V9 S.ho S.hd S.fits ?_));dsimp only;refine A2 (Gc (B2 ?_));show A6 _ _ (if(!(w.params.followText "set-order")&&dr es t)=true then _ else _) _ _ _
 by_cases c:(!(w.params.followText "set-order")&&dr es t)=true
 ·rw[jt c];refine A2 (Mg es.size (F6 es.size) _ _ (by simp) λpl d hp=>?_);have lp:pl.length=es.size:=by rw[hp.length_eq,o6]
  have lt:∀p∈pl,p<es.size:=λp h=>M7.mp (hp.mem_iff.mp h);have few:=S.few;refine A2 (wpAny_newTuple ?_ (by rw[K9,B4];omega));have g1:(s.heap.push { cls:=.type "tuple",data:=.seq (pl.map λ(i:Nat)=>rawInt i).toArray }).get? a=some o:=C2 _ S.ho;refine A2 (m:=setEpoch a) (A2 (V9 (s:={ s with drawn:=d,heap:=s.heap.push { cls:=.type "tuple",data:=.seq (pl.map λ(i:Nat)=>rawInt i).toArray } }) g1 S.hd S.fits (B2 ?_)));refine A2 (Q1 (B2 ⟨_,rfl,"set_iterator",_,⟨_,E9 _ rfl,rfl⟩,c6.lookup,?_⟩));have sz1:(s.heap.push { cls:=.type "tuple",data:=.seq (pl.map λ(i:Nat)=>rawInt i).toArray }).objs.size=s.heap.objs.size+1:=Y2 ..;refine hQ _ d (s.heap.push { cls:=.type "tuple",data:=.seq (pl.map λ(i:Nat)=>rawInt i).toArray }).objs.size [(s.heap.push { cls:=.type "tuple",data:=.seq (pl.map λ(i:Nat)=>rawInt i).toArray }).objs.size,a,s.heap.objs.size] (pl.map λp=>(vls es).getD p .none) _ _ (λb o e=>C2 _ (C2 _ e)) (by simp) (Nat.lt_of_lt_of_eq (Ey _) (Y2 ..).symm) (λb hb=>?_) ?_ ?_ (lp▸SA (es:=es) (o:=o) (t:=t) (ep:=ep) (tp:=s.heap.objs.size) (pl:=pl) hh lp.symm (by grind) (by simp) S.hd S.fits rfl lt) ?_
  ·grind
  ·exact(Mc (vls es) pl .none (by grind)).2
  ·grind
  ·refine⟨⟨_,E9 _ rfl,rfl,?_⟩,C2 _ g1,⟨_,C2 _ (E9 _ rfl),rfl,0,rfl⟩⟩;show Dj _=Dj _
   first|rfl|(rw[lp];rfl)
 ·rw[ju c];refine A2 (B2 ?_);refine A2 (m:=setEpoch a) (A2 (V9 S.ho S.hd S.fits (B2 ?_)));refine A2 (Q1 (B2 ⟨_,rfl,"set_iterator",_,⟨_,E9 _ rfl,rfl⟩,c6.lookup,?_⟩))
  have go:∀(ys:List A1) (sl:Nat->Nat),sl 0=0->ys.Perm (vls es)->(∀(i:Nat) (s:A5) (A:D5) (E:A1->A5->Prop) (Q':Option (A1×Nat)->A5->Prop),s.heap.get? a=some o->i<=ys.length->Q' (ys[i]?.map λx=>(x,sl (i+1))) s->A6 (A7 prog w) A (setNext a (sl i) i ep) Q' E s)->Q (.ref s.heap.objs.size) { s with heap:=s.heap.push { cls:=.type "set_iterator",data:=.fields #[rawInt 0,rawInt 0,.ref a,rawInt es.size,rawInt ep] } }:=by
   intro ys sl h0 pm hs;have lp:ys.length=es.size:=by rw[pm.length_eq,B4,M8]
   refine hQ _ s.drawn s.heap.objs.size [s.heap.objs.size,a] ys (λi v=>ys[i]?=some v) _ (λb o e=>C2 _ e) (C7 _) (by simp) (λb hb=>?_) pm (λ_ _ e=>e) (lp▸Sz (es:=es) (o:=o) (t:=t) (ep:=ep) (ys:=ys) (sl:=sl) hh lp.symm (D3 la) S.hd S.fits hs) ?_
   ·grind
   ·refine⟨⟨_,E9 _ rfl,rfl,?_⟩,C2 _ S.ho⟩;show Dj _=Dj _;rw[h0]
    rfl
  by_cases cb:w.params.followText "set-order"=true
  ·exact go (vls (pickOrder (w.params.setOrder a ep) es)) (λ_=>0) rfl ((Su (w.params.setOrder a ep) es).map _) λi s' A E Q' e hi q=>SF S e cb q
  ·have cb':w.params.followText "set-order"=false:=by simpa using cb
   have cd:dr es t=false:=by
    rw[cb'] at c
    simpa using c
   exact go (vls es) (An t.place) rfl (.refl _) λi s' A E Q' e hi q=>SE S e cb' cd (by grind) q
end
end SeT
end
section
namespace SeT
open PySem PySem.W PySem.Spec PyProof.Rows L2
section
variable {prog:D1}{w:C9}{A:D5}{E:A1->A5->Prop}{s:A5}{a:A0}{ep:Nat}{o:Obj}{es:Array (Int×A1)}{t:P4}
theorem SI (hT:s.TypeIs (.ref r) "set")(h:Q false s):A6 (A7 prog w) A (GJ (.ref r)) Q E s:=by
 unfold GJ;refine A2 (Bu hT PySem.F.slot_set_len.lookup ?_);generalize hid:("set.__len__":String)=id0
 wp_delta
 rw[show splitId id0=some ("set","__len__") from by subst hid;decide +kernel];subst hid;refine A2 (CK (T:="set") (b:=true) hT (by rw[v5];kernel_rfl) ?_);refine wpAny_ite_split (λz=>absurd z (by decide)) λ_=>?_;refine wpAny_ite_split (λ_=>A2 (Ay hT (B2 h))) λz=>absurd (by decide +kernel) z
theorem SJ (S:SetV w s.heap a o es ep t)(hh:A.handled=none)(L:A0)(ne:L≠a)(res:A1)(c₀:Nat)(hL:s.heap.get? L=some { cls:=.type "list",data:=.seq #[] c₀ })
   (hR:∀h' d tk c' (ys:List A1),(∀b o,b≠L->s.heap.get? b=some o->h'.get? b=some o)->h'.get? L=some { cls:=.type "list",dict:=none,data:=.seq ys.toArray c',slots:=#[] }->ys.Perm (vls es)->R (.ok (.ret res)) { s with heap:=h',drawn:=d,toks:=tk }) :
   A6 (A7 prog w) A.in1 (EL (.ref L) (.ref a) res)
     (λfin s'=>match fin with|.done f=>R (.ok f) s'|.again c'=>c'.quiet=true/\M5 (A7 prog w) A c' R s') (λe s'=>R (.error e) s') s:=by
 have hT:s.TypeIs (.ref a) "set":=⟨o,S.ho,S.ex.1⟩;have lL:L<s.heap.objs.size:=C4 hL
 have few:es.size<=C8:=by
  have:=S.few;rw[K9];omega
 unfold EL;refine A2 (Ay (T:="set") hT ?_);have h1:EM (.ref L) (.ref a)=false:=by simp[EM,ne]
 have h2:(K4 "set" == K4 "list")=false:=by decide
 have h3:(K4 "set" == K4 "tuple")=false:=by decide
 simp only[h1,h2,h3,BL,J5,if_false];refine A2 (SG (A:=A.in1) hh S λh1 d I fp ys P St k1 hI hI2 hfp pm hP W st=>?_);have nI:L≠I:=D3 (K3 lL hI);have nf:L∉fp:=λz=>(hfp L z).elim ne λz=>absurd lL (Nat.not_lt.mpr z);have hL1:=k1 _ _ hL
 have key:∀(h:B6) (c₁ tk:Nat),St 0 h->(∀b o,b≠L->s.heap.get? b=some o->h.get? b=some o)->
     h.get? L=some { cls:=.type "list",data:=.seq #[] c₁ }->M5 (A7 prog w) A (.builtin "list.extend.loop" ⟨[.ref L,.ref I,res],[]⟩) R { s with heap:=h,drawn:=d,toks:=tk }:=by
   intro h c₁ tk hst hk hS₁;refine codeAny_extend_loopS W.toS few L nf res es.size 0 _ #[] c₁ rfl (K1 _) hst hS₁ (ItemsOf.nil _) λs' acc' c' hm hS' hacc=>?_;rw[Moved.eq_with hm]
   have ea:acc'=ys.toArray:=by
    apply Array.toList_inj.mp
    rw[Er]
    apply List.ext_getElem?
    intro i;rw[Q3];cases e:acc'[i]? with
    | none =>
     symm
     rw[List.getElem?_eq_none_iff,pm.length_eq,B4,M8];have:=Array.getElem?_eq_none_iff.mp e;rw[hacc.1] at this;exact this
    |some v=>exact(hP i v (hacc.2 i v e)).symm
   refine hR s'.heap d s'.toks c' ys (λb o hb e=>hm.heap b o (λhmem=>?_) (hk b o hb e)) (by grind) pm;rcases D0.mp hmem with e'|hmem
   ·grind
   ·exact absurd (C4 e) (by grind)
 refine A2 (J7 (SI (s:={ s with heap:=h1,drawn:=d }) ⟨o,k1 _ _ S.ho,S.ex.1⟩ ?_));refine wpAny_ite_split (λ_=>?_) (λ_=>B2 ⟨l9 PySem.F.plain_extend_loop _,key _ c₀ _ st (λb o _ e=>k1 b o e) hL1⟩);refine A2 (d7 ?_);refine A2 (show A6 (A7 prog w) _ (updateSeq L (·.push .none)>>=λ_=>updateSeq L (·.pop)) _ _ _ from ?_);refine A2 (wpAny_updateSeq hL1 rfl ?_);have hS₂:=By (G8 (·.push Z1)) hL1 rfl;refine wpAny_updateSeq (hz:=by seq_fits) hS₂ rfl ?_;have hS₃:=By (G8 (·.pop)) hS₂ rfl;refine B2 ⟨l9 PySem.F.plain_extend_loop _,key _ _ _ ?_ (λb o hb e=>?_) hS₃⟩
 ·refine W.frame 0 _ _ st λb hb o e=>?_;have hbS:b≠L:=λh=>nf (h▸hb);exact(Bx _ _ (Ne.symm hbS)).trans ((Bx _ _ (Ne.symm hbS)).trans e)
 ·exact(Bx _ _ (Ne.symm hb)).trans ((Bx _ _ (Ne.symm hb)).trans (k1 b o e))
theorem SK (S:SetV w s.heap a o es ep t)(hh:A.handled=none)
   (h:∀(h':B6) (d:_) (tk:Nat) (ys:List A1),(∀b o,s.heap.get? b=some o->h'.get? b=some o)->s.heap.objs.size<=h'.objs.size->ys.Perm (vls es)->R ys { s with heap:=h',drawn:=d,toks:=tk }) :
   A6 (A7 prog w) A (collect (.ref a)) R E s:=by
 unfold collect;refine A2 (wpAny_runValue (c8 entry_proto_collect' ?_));rw[p6 PySem.F.plain_proto_collect _];refine(show A6 (A7 prog w) A.in1 (newList []>>=λl=>again (.builtin "list.__iadd__" ⟨[l,.ref a],[]⟩)) _ _ s from ?_);refine A2 (Q1 (B2 ⟨l9 PySem.F.plain_list_iadd _,c8 entry_list_iadd' ?_⟩));rw[p6 PySem.F.plain_list_iadd _];have hS:(s.heap.push { cls:=.type "list",data:=.seq ([]:List A1).toArray }).get? s.heap.objs.size=some { cls:=.type "list",data:=.seq #[] }:=E9 _ rfl;have S1:SetV w (s.heap.push { cls:=.type "list",data:=.seq ([]:List A1).toArray }) a o es ep t:=⟨C2 _ S.ho,S.ex,S.hd,S.fits,S.few,S.led,S.rise⟩
 have key:=SJ (prog:=prog) (A:=A) (s:={ s with heap:=s.heap.push { cls:=.type "list",data:=.seq ([]:List A1).toArray } })
   (R:=λ(q:Result) (s':A5)=>∃(h':B6) (d:_) (tk:Nat) (ys:List A1) (c:Nat),q=.ok (.ret (.ref s.heap.objs.size))/\s'={ s with heap:=h',drawn:=d,toks:=tk }/\
     (∀b o,s.heap.get? b=some o->h'.get? b=some o)/\h'.get? s.heap.objs.size=some { cls:=.type "list",dict:=none,data:=.seq ys.toArray c,slots:=#[] }/\ys.Perm (vls es))
   S1 hh s.heap.objs.size (i5 (C4 S.ho)) (.ref s.heap.objs.size) 0 hS
   (λh' d tk c ys hk hS' hp=>⟨h',d,tk,ys,c,rfl,rfl,λb o e=>hk b o (D3 (C4 e)) (C2 _ e),hS',hp⟩)
 refine G7 key (λfin s' x=>?_) λe s' x=>?_
 ·cases fin with
  | done f =>
   obtain⟨h',d,tk,ys,c,e,rfl,hk,hS',hp⟩:=x;cases e;refine A2 (wpAny_load hS' (B2 ?_));have:=h h' d tk ys hk (i4 (C4 hS')) hp
   simpa using this
  | again c₁ =>
   refine⟨x.1,Ax x.2 λq s₂ y=>?_⟩;obtain⟨h',d,tk,ys,c,rfl,rfl,hk,hS',hp⟩:=y;refine A2 (wpAny_load hS' (B2 ?_));have:=h h' d tk ys hk (i4 (C4 hS')) hp
   simpa using this
 grind
end
end SeT
end
section
namespace SeT
open PySem PySem.W PySem.Spec PyProof.Rows L2
abbrev rfs (ys:List (List Key×A0)):List A1:=ys.map λy=>L8 y.2
abbrev kks (ys:List (List Key×A0)):List (List Key):=ys.map (·.1)
section
variable {prog:D1}{w:C9}{A:D5}{E:A1->A5->Prop}{s:A5}{a:A0}{ep:Nat}{o:Obj}{es:Array (Int×A1)}{t:P4}
theorem SL {α:Type}{m:Nat}{Q:A1->A5->Prop}(S:SetV w s.heap a o es ep t)(hh:A.handled=none)(xs:List α)(f:α->A1)(g:α->List Key)(ev:vls es=xs.map f)(h64:xs.length<64)(pk:∀x∈xs,Kv1 s.heap m (f x) (g x))(al:Ag (xs.map g))
   (h:∀ys h2 d tk D e,List.Perm ys xs->(∀b o,s.heap.get? b=some o->h2.get? b=some o)->s.heap.objs.size<=D->h2.get? D=some (seqObj "list" (V0 (ltIx (ys.map g)) (ys.map f)).toArray e)->Q (.ref D) { s with heap:=h2,drawn:=d,toks:=tk }) :
   A6 (A7 prog w) A (call (.builtin "sorted") [.ref a]) Q E s:=by
 refine Calls.call_function_entry kind_sorted plain_sorted entry_sorted (args_sorted1 _) ?_;unfold O4.«sorted»;refine A2 (m:=checkCount "sorted" 1 1 _) (B2 ?_);refine A2 (SK (A:=A.in1) S hh λh1 d tk vs k1 z1 pv=>?_);rw[ev] at pv;obtain⟨ys,pm,rfl⟩:=SD pv;have ly:=pm.length_eq;refine A2 (CM ?_ (by rw[K9,B4];omega));have hoL:(h1.push (seqObj "list" (ys.map f).toArray 0)).get? h1.objs.size=some (seqObj "list" (ys.map f).toArray 0):=E9 _ rfl;have kL:∀b o,s.heap.get? b=some o->(h1.push (seqObj "list" (ys.map f).toArray 0)).get? b=some o:=λb o e=>C2 _ (k1 b o e);have ne:∀b o,s.heap.get? b=some o->b≠h1.objs.size:=λb o e=>D3 (K3 (C4 e) z1)
 have pk1:Paired (Kv1 s.heap m) (ys.map f) (ys.map g):=by
  have hy:∀y∈ys,Kv1 s.heap m (f y) (g y):=λy hy=>pk y (pm.mem_iff.mp hy);clear hoL kL pm ly pv
  induction ys with
  |nil=>exact .nil
  |cons y ys ih=>exact .cons (hy y C6) (ih λz hz=>hy z (C5 _ hz))
 have al1:Ag (ys.map g):=λx hx y hy=>al x ((pm.map g).mem_iff.mp hx) y ((pm.map g).mem_iff.mp hy);refine A2 (J7 (R0 slot_list_sort ⟨_,hoL,rfl⟩ entry_list_sort ?body (args_list_sort _)))
 case body=>
  refine Lh (lt:=ltIx (ys.map g)) (s:={ s with heap:=h1.push (seqObj "list" (ys.map f).toArray 0),drawn:=d,toks:=tk }) hoL (by grind) (λl2 h3 k3=>?_) λh3 e k3 e3=>?_
  ·exact Ll (s:={ s with drawn:=d }) l2 pk1 al1 _ _ h3 tk λb o x=>k3 b o (ne b o x) (kL b o x)
  ·exact⟨_,rfl,B2 ⟨_,rfl,h ys h3 d tk _ e pm (λb o x=>k3 b o (ne b o x) (kL b o x)) z1 e3⟩⟩
end
theorem SM (h:us.length<64):(outV (ltIx jp) us).length<=C8:=by
 rw[K9];unfold outV
 split
 ·omega
 ·rw[B4,M8,(Kr.sort_ok (FM jp) (by omega)).2.1];omega
theorem items_are {prog:D1}{w:C9}:∀{ks:List Key} {vs:List A1},Af ks vs->ItemsAre (J6 prog w) ks vs:=by
 intro ks vs h
 induction h with
 |nil=>exact .nil
 | @cons k v ks vs h1 _ ih =>
  refine .cons ?_ ih
  match k,h1 with
  |.inl i,⟨t,e⟩=>subst e;exact Jv _ _ _ _
  |.inr z,⟨t,e⟩=>subst e;exact GQ _ _ _ _
theorem is_of (x:TupK h (.ref r) k):(TK prog w).is h k r:=by
 obtain⟨a,o,items,n,e,ho,hc,hd,hk⟩:=x;cases e;exact⟨o,items,n,ho,hc,hd,items_are hk⟩
section
variable {X:Cx}
def SetO (X:Cx)(p:A0)(rs:List (List Key×A0)):HO:=.ext λh=>∃h0 o es ep t xs,SetK X.prog X.w h0 p o es ep t xs/\h.get? p=some o/\(∀x∈xs,x∈rs)/\∀x∈rs,x.1∈kks xs
theorem SN {K:A9}(p:Paired (KM K H 2) ys jp):∃rs:List (List Key×A0),kks rs=jp/\(rs.map λy=>V.ref y.2)=ys/\∀y∈rs,SqT K H y.2 (y.1.map kV)/\y.1≠[]:=by
 induction p with
 |nil=>exact⟨[],rfl,rfl,λ_ z=>nomatch z⟩
 | cons h1 _ ih =>
  obtain⟨rs,e1,e2,e3⟩:=ih;obtain⟨a,rfl,hq,hne⟩:=h1;refine⟨(_,a)::rs,by rw[<- e1];rfl,by rw[<- e2];rfl,λy hy=>?_⟩;rcases D0.mp hy with rfl|hy
  ·grind
  ·grind
theorem IM:∀(rs:List (List Key×A0)) {jf:List A1},Vals (rs.map λy=>V.ref y.2) jf->jf=rfs rs
 |[],_,h=>by cases h;rfl
 | y :: rs, _, h => by
  cases h with
  |cons h1 h2=>rw[IM rs h2,show _=L8 y.2 from h1];rfl
theorem SO (hc:X.calm=true)(hu:X.A.units+64<cLine):N0 X (.type "set") (λvs H Q=>∃a ys jp,vs=[.ref a]/\(SqL X.K H a ys\/SqT X.K H a ys)/\Paired (KM X.K H 2) ys jp/\ys.length<=63/\
   ∀p rs,H p=none->kks rs=jp->(rs.map λy=>V.ref y.2)=ys->(∀y∈rs,SqT X.K H y.2 (y.1.map kV)/\y.1≠[])->Q (.ref p) (upd H p (SetO X p rs))):=by
 intro jb s σ H vs us Q I rv h;obtain⟨a,ys,jp,rfl,hq,hp,hl,q⟩:=h;obtain⟨u,rfl,ru⟩:=rv.one;obtain rfl:u=.ref a:=ru;obtain⟨rs,e1,rfl,e3⟩:=SN hp;have hk:∀y∈rs,(TK X.prog X.w).is s.heap y.1 y.2:=λy hy=>is_of (Ij I (e3 y hy).1);rw[B4] at hl
 have fin:∀(h':B6) (tk:Nat),Holds X.prog X.w h' s.heap.objs.size rs->(∀b o,b<s.heap.objs.size->s.heap.get? b=some o->h'.get? b=some o)->EP X jb σ Q (.ref s.heap.objs.size) { s with heap:=h',toks:=tk }:=λh' tk so kp=>by
  obtain⟨o,es,ep,t,xs,S1,S2,S3⟩:=so
  have I1:Inv X jb σ (upd H s.heap.objs.size (SetO X s.heap.objs.size rs)) { s with heap:=h',toks:=tk }:=
   I.laid (fun b o e=>kp b o (C4 e) e) (C7 _) ⟨⟨h',o,es,ep,t,xs,S1,S1.ho,S2,S3⟩,⟨o,S1.ho⟩,fun h1 h2 x k2=>by
    obtain⟨h0,o,es,ep,t,xs,S1,g,S2,S3⟩:=x
    exact⟨h0,o,es,ep,t,xs,S1,k2 o g,S2,S3⟩⟩
  exact⟨.ref s.heap.objs.size,_,I1,rfl,q _ rs (I.hok.fresh (C7 _)) e1 rfl e3⟩
 rcases hq with hq|hq
 ·obtain⟨jf,r,pl,_⟩:=I.list hq;refine Md (rs:=rs) (I.ok.hd hc) hu (.inl pl.isList) ?_ hk hl fin;rw[Er];exact IM rs r
 ·obtain⟨jf,r,ht,_⟩:=I.tuple hq;refine Md (rs:=rs) (I.ok.hd hc) hu (.inr ht) ?_ hk hl fin;rw[Er];exact IM rs r
theorem inv_dr (I:Inv X jb σ H s)(d:_):Inv X jb σ H { s with drawn:=d }:=⟨I.ok,I.os,I.bare,I.base,I.loc,I.cell,I.free,I.freeC,I.pin,I.hok,I.len⟩
theorem SQ (hc:X.calm=true):N0 X (.builtin "sorted") (λvs H Q=>∃p rs,vs=[.ref p]/\H p=some (SetO X p rs)/\rs.length<64/\(∀y∈rs,SqT X.K H y.2 (y.1.map kV)/\y.1≠[])/\Ag (kks rs)/\
   ∀l zs,H l=none->(kks zs).Nodup->(∀z∈zs,z∈rs)->(∀y∈rs,y.1∈kks zs)->Q (.ref l) (upd H l (.lst (outV (ltIx (kks zs)) (zs.map λz=>V.ref z.2))))):=by
 intro jb s σ H vs us Q I rv h;obtain⟨p,rs,rfl,e,h64,hk,al,q⟩:=h;obtain⟨u,rfl,ru⟩:=rv.one;obtain rfl:u=.ref p:=ru;obtain⟨⟨h0,o,es,ep,t,xs,S0,g,S2,S3⟩,_,_⟩:=I.hok p _ e;have tk:∀x∈xs,TupK s.heap (.ref x.2) x.1:=λx hx=>Ij I (hk x (S2 x hx)).1;have S:SetK X.prog X.w s.heap p o es ep t xs:=⟨g,S0.ex,S0.hd,S0.hes,(λx hx=>is_of (tk x hx)),S0.nd,S0.tb,S0.few,S0.led⟩;have lx:xs.length<64:=BG (Holds.len S S2) h64;refine SL (m:=2) S.toV (I.ok.hd hc) xs (λx=>L8 x.2) (·.1) (by unfold vls;rw[S.hes,T0];rfl) lx (λx hx=>⟨tk x hx,(hk x (S2 x hx)).2⟩) (λx hx y hy=>?_) λys h2 d t2 D e pm k hD ho=>?_
 ·obtain⟨x',hx',rfl⟩:=E5.mp hx;obtain⟨y',hy',rfl⟩:=E5.mp hy;exact al _ (E5.mpr ⟨x',S2 x' hx',rfl⟩) _ (E5.mpr ⟨y',S2 y' hy',rfl⟩)
 ·have vv:Vals (ys.map λy=>V.ref y.2) (rfs ys):=by
   clear pm ho
   induction ys with
   |nil=>exact .nil
   |cons y ys ih=>exact .cons rfl ih
  have vo:=Lm vv (FM (kks ys));have ly:ys.length=xs.length:=pm.length_eq;have hlo:(outV (ltIx (kks ys)) (ys.map λy=>V.ref y.2)).length<=C8:=SM (by grind);have I1:=inv_dr (I.laid (t':=t2) k hD (show J0 X.prog X.w _ h2 _ (.lst _) from⟨hlo,_,e,vo,ho⟩)) d;exact⟨.ref D,_,I1,rfl,q _ ys (I.hok.fresh hD) ((pm.map (·.1)).nodup_iff.mpr S.nd) (λz hz=>S2 z (pm.mem_iff.mp hz)) λy hy=>(pm.map (·.1)).mem_iff.mpr (S3 y hy)⟩
end
end SeT
end
section
namespace SeT
open PySem PySem.W PySem.Spec PyProof.Rows L2
section
variable {X:Cx}
def tMo (t:TE):TE:=λσ H Q=>∃Q',t σ H Q'/\∀v H',Q' v H'->Q v H'
theorem pe_mo (h:PE X e t):PE X e (tMo t):=by
 intro jb s σ H Q I ⟨Q',h1,h2⟩;exact G7 (h jb s σ H Q' I h1) (λu s' ⟨v,H',I',r,q⟩=>⟨v,H',I',r,h2 _ _ q⟩) λ_ _ e=>e
def SS (K:A9)(t:TE):TE:=λσ H Q=>∃Q',t σ H Q'/\∀x H1,Q' x H1->∃a ys jp,x=.ref a/\(SqL K H1 a ys\/SqT K H1 a ys)/\Paired (KM K H1 2) ys jp/\ys.length<=63/\Ag jp/\
 ∀H2 l rs zs,Same H1 H2->H2 l=none->kks rs=jp->(rs.map λy=>V.ref y.2)=ys->(kks zs).Nodup->(∀z∈zs,z∈rs)->(∀y∈rs,y.1∈kks zs)->Q (.ref l) (upd H2 l (.lst (outV (ltIx (kks zs)) (zs.map λz=>V.ref z.2))))
theorem ST {K:A9}(h:SqT K H a xs)(s:Same H H'):SqT K H' a xs:=by
 rcases h with h|h
 ·left;rcases h with h|⟨o,h⟩
  ·exact .inl (s _ _ h)
  ·exact .inr ⟨o,s _ _ h⟩
 ·exact .inr h
theorem SU (hc:X.calm=true)(hr:Room k X.A)(g1:Gl X "sorted")(m1:X.mg "sorted"=none)(g2:Gl X "set")(m2:X.mg "set"=none)(he:PE X e t)(hs:F5 [e] X.env=(false,eval e X.env)::F5 [] X.env) :
   PE X (.Call (.Name "sorted" p1) [.Call (.Name "set" p2) [e] [] pos2] [] pos) (SS X.K t):=by
 have i1:=Dn (p:=p2) (pos:=pos2) (SO hc hr.units) g2 m2 J_ (F8 (pe_mo he) K5 hs) (by decide) (by decide) hs rfl;have i2:=AR (p:=p1) (pos:=pos) (SQ hc) g1 m1 Hk (F8 i1 K5 rfl) (by decide) (by decide) rfl rfl;intro jb s σ H Q I ⟨Q',h1,h2⟩;refine i2 jb s σ H Q I ⟨Q',h1,λx H1 hx=>?_⟩;obtain⟨a,ys,jp,rfl,hq,hp,hl,al,q⟩:=h2 x H1 hx;refine⟨a,ys,jp,rfl,hq,hp,hl,λp rs hn ek eu hk=>?_⟩;have sm:Same H1 (upd H1 p (SetO X p rs)):=(Same.refl _).lay hn;refine⟨p,rs,rfl,E8,?_,λy hy=>⟨ST (hk y hy).1 sm,(hk y hy).2⟩,by rw[ek];exact al,λl zs hl nd z1 z2=>q _ l rs zs sm hl ek eu nd z1 z2⟩;have:rs.length=ys.length:=by rw[<- eu,B4]
 omega
end
end SeT
namespace Pu
open PySem PySem.Spec L2
def Cw (xs:List PV):Prop:=(∀x∈xs,∃ks,x=.tup (ks.map kP)/\ks≠[])/\∀x∈xs,∀y∈xs,Al (keyP x) (keyP y)
def SrtS (ys xs:List PV):Prop:=ys.Nodup/\(∀y,y∈ys↔y∈xs)/\ys.Pairwise λa b=>lexK (keyP b) (keyP a)=false
def wSet (R:List PV->Prop)(xs:List PV):Prop:=xs.length<=63/\Cw xs/\∀ys,SrtS ys xs->R ys
def Cy (pe:pE):pA:=λenv n R=>pe env n λx jc n1=>match x with|.lst xs=>wSet (λys=>R ys jc n1) xs|.tup xs=>wSet (λys=>R ys jc n1) xs|_=>False
abbrev zP (z:List Key×A0):PV:=.tup (z.1.map kP)
theorem keyP_z (z:List Key×A0):keyP (zP z)=z.1:=k9 z.1
theorem zP_inj {ks js:List Key}(h:(PV.tup (ks.map kP))=.tup (js.map kP)):ks=js:=by rw[<- k9 ks,h,k9]
section
variable {T:PotK}{ι:Type}{K:A9}{F:ι->Cx}{e:Expr}{pe:pE}{pos:Pos}
theorem Mj:∀{xs:List PV} {rs:List (List Key×A0)},Reps K G H xs (rs.map λy=>V.ref y.2)->SeT.kks rs=xs.map keyP->(∀x∈xs,∃ks,x=.tup (ks.map kP)/\ks≠[])->xs=rs.map zP/\∀z∈rs,Rep K G H (zP z) (.ref z.2)
 |[],[],_,_,_=>⟨rfl,λ_ z=>nomatch z⟩
 |[],_::_,h,_,_=>by cases h
 | x :: xs, [], h, _, _ => by
  obtain⟨_,_,e,_⟩:=h;cases e
 | x :: xs, r :: rs, h, hk, hx => by
  obtain⟨v,t,e,h1,h2⟩:=h;rw[F2] at e;injection e with e1 e2;subst e1;subst e2;have hk':r.1::SeT.kks rs=keyP x::xs.map keyP:=hk;injection hk' with k1 k2;obtain⟨a1,a2⟩:=Mj h2 k2 λy hy=>hx y (C5 _ hy);obtain⟨ks,rfl,_⟩:=hx x C6;rw[k9] at k1;have ez:zP r=.tup (ks.map kP):=by show PV.tup (r.1.map kP)=_;rw[k1]
  refine⟨by rw[F2,ez,<- a1],λz hz=>?_⟩;rcases D0.mp hz with rfl|hz
  ·rw[ez];exact h1
  ·exact a2 z hz
theorem Ml {G:Gh}{H:Hp}:∀(zs:List (List Key×A0)),(∀z∈zs,Rep K G H (zP z) (.ref z.2))->Reps K G H (zs.map zP) (zs.map λz=>V.ref z.2)
 |[],_=>rfl
 |z::zs,h=>⟨_,_,rfl,h z C6,Ml zs λy hy=>h y (C5 _ hy)⟩
theorem SrtS.of {rs:List (List Key×A0)}(e:xs=rs.map zP)(nd:(SeT.kks zs).Nodup)(h1:∀z∈zs,z∈rs)(h2:∀y∈rs,y.1∈SeT.kks zs):SrtS (outP (zs.map zP)) xs:=by
 obtain⟨p,pw⟩:=Lo (zs.map zP);refine⟨p.nodup_iff.mpr ?_,λy=>?_,pw⟩
 ·rw[L6,o5];have:zs.Pairwise λa b=>a.1≠b.1:=o5.mp nd;exact this.imp λhab h=>hab (zP_inj h)
 grind
theorem Mm (hc:∀z,(F z).calm=true)(hr:∀z,Room k (F z).A)(hg:∀z,Gl (F z) "sorted")(hm:∀z,(F z).mg "sorted"=none)(hg2:∀z,Gl (F z) "set")(hm2:∀z,(F z).mg "set"=none)(ha:QR T K F e pe)(hs:F9 e=true:=by rfl)(hK:∀z,(F z).K=K:=by intro _;rfl) :
   QN T K F (.Call (.Name "sorted" p) [.Call (.Name "set" p2) [e] [] pos2] [] pos) (Cy pe):=by
 obtain⟨t,h1,h2⟩:=ha;refine⟨_,λz=>hK z▸SeT.SU (hc z) (hr z) (hg z) (hm z) (hg2 z) (hm2 z) (h1 z) (D9 hs),λC G σ H env n R Q hK hT S hp k=>?_⟩;refine⟨λv H1=>∃x jc n1,(match x with|PV.lst xs=>wSet (λys=>R ys jc n1) xs|.tup xs=>wSet (λys=>R ys jc n1) xs|_=>False)/\SR C G σ H1 jc n1/\RdS C G σ H1 jc x v/\Fr G H H1,h2 C G σ H env n _ _ hK hT S hp λx jc n1 v H1 p1 S1 r1 f1=>⟨x,jc,n1,p1,S1,r1,f1⟩,λv H1 ⟨x,jc,n1,p1,S1,r1,f1⟩=>?_⟩;have rd:RdV K G H1 x v:=hK▸r1.rd S1
 have main:∀(xs:List PV) (a:A0) (us:List V),wSet (λys=>R ys jc n1) xs->(SqL K H1 a us\/SqT K H1 a us)->Reps K G H1 xs us->∃a' ys jp,V.ref a=.ref a'/\(SqL K H1 a' ys\/SqT K H1 a' ys)/\Paired (KM K H1 2) ys jp/\ys.length<=63/\Ag jp/\
     ∀H2 l rs zs,Same H1 H2->H2 l=none->SeT.kks rs=jp->(rs.map λy=>V.ref y.2)=ys->(SeT.kks zs).Nodup->(∀z∈zs,z∈rs)->(∀y∈rs,y.1∈SeT.kks zs)->Q (.ref l) (upd H2 l (.lst (outV (ltIx (SeT.kks zs)) (zs.map λz=>V.ref z.2)))):=by
   intro xs a us ⟨h63,ok,q⟩ hq r;obtain⟨m,pk,al⟩:=km_of r (.inr (.inr ok))
   have pk2:Paired (KM K H1 2) us (xs.map keyP):=Paired.imp' (λv ks ⟨_,_,hp⟩=>hp) (DN (P:=λ_ v ks=>KM K H1 2 v ks) xs r λx hx v hv=>by
    obtain⟨ks,rfl,hne⟩:=ok.1 x hx;obtain⟨a,vs,rfl,at',rr⟩:=hv;rw[k9];refine⟨a,rfl,?_,hne⟩;rw[FN ks rr] at at'
    exact SqT.of at'.2)
   refine⟨a,us,xs.map keyP,rfl,hq,pk2,by rw[<- r.length];exact h63,al,λH2 l rs zs sm hl ek eu nd z1 z2=>?_⟩;subst eu;obtain⟨ex,rz⟩:=Mj r ek ok.1;have rr:Reps K G H2 (zs.map zP) (zs.map λz=>V.ref z.2):=(Ml zs λz hz=>rz z (z1 z hz)).same sm;have ro:=Lp rr;have ekz:(zs.map zP).map keyP=SeT.kks zs:=by rw[T0];exact Es λz _=>keyP_z z
   rw[ekz] at ro;exact k _ _ _ _ _ _ (q _ (SrtS.of ex nd z1 z2)) (S1.same sm) (f1.trans (Fr.of sm)) hl ro
 cases x with
 | lst xs =>
  obtain⟨a,us,rfl,hq,r⟩:=rd.lst;exact main xs a us p1 (.inl hq) r
 | tup xs =>
  obtain⟨a,us,rfl,hq,r⟩:=rd.tup;exact main xs a us p1 (.inr hq) r
 |_=>exact p1.elim
end
end Pu
end
section
namespace L2
open PySem PySem.Spec PyProof.Rows
section
variable {X:Cx}
theorem SV (hc:X.calm=true):N0 X (.type "set") (λvs H Q=>∃(a:A0) (ys:List Str),vs=[.ref a]/\SqL X.K H a (ys.map V.str)/\ys.length<=1000/\∀p,H p=none->Q (.ref p) (upd H p (SetX X p (λq=>(met (X3 ys) ys.length).any (λy=>decide (y=q))) (met (X3 ys) ys.length).length))):=by
 intro jb s σ H vs us Q I rv h;obtain⟨a,ys,rfl,hq,hl,k⟩:=h;obtain⟨u,rfl,ru⟩:=rv.one;obtain rfl:u=.ref a:=ru;obtain⟨jf,r,ht,_⟩:=I.list hq;have sz:jf.toArray.size=ys.length:=by have:=r.length;rw[B4] at this;simpa using this.symm
 refine Qq (val:=X3 ys) (I.ok.hd hc) (.inl ht.isList) (λi v e=>?_) (by rw[sz];unfold scanBound;omega) λh' tk so kp=>?_
 ·obtain⟨t,rfl⟩:=Qr r (by simpa using e);exact⟨GQ _ _ _ _,rfl⟩
 ·rw[sz] at so
  have I1:Inv X jb σ (upd H s.heap.objs.size (SetX X s.heap.objs.size (λq=>(met (X3 ys) ys.length).any (λy=>decide (y=q))) (met (X3 ys) ys.length).length)) { s with heap:=h',toks:=tk }:=
   I.laid (fun b o e=>kp b o (C4 e) e) (C7 _) ⟨so,by obtain⟨o,_,_,_,e,_⟩:=so;exact⟨o,e⟩,fun h1 h2 x k2=>by
    obtain⟨o,es,ep,t,e,more⟩:=x
    exact⟨o,es,ep,t,k2 o e,more⟩⟩
  exact⟨.ref s.heap.objs.size,_,I1,rfl,k _ (I.hok.fresh (C7 _))⟩
def SX (K:A9)(t:TE):TE:=λσ H Q=>∃Q',t σ H Q'/\∀x H1,Q' x H1->∃(a:A0) (ys:List Str),x=.ref a/\SqL K H1 a (ys.map V.str)/\ys.length<=1000/\∀H2,Same H1 H2->Q (.int (met (X3 ys) ys.length).length) H2
theorem SY {e:Expr}{t:TE}{p1 p2 pos pos2:Pos}(hc:X.calm=true)(g1:Gl X "len")(m1:X.mg "len"=none)(g2:Gl X "set")(m2:X.mg "set"=none)(he:PE X e t)(hs:F5 [e] X.env=(false,eval e X.env)::F5 [] X.env) :
   PE X (.Call (.Name "len" p1) [.Call (.Name "set" p2) [e] [] pos2] [] pos) (SX X.K t):=by
 have i1:=Dn (p:=p2) (pos:=pos2) (SV hc) g2 m2 J_ (F8 (SeT.pe_mo he) K5 hs) (by decide) (by decide) hs rfl;have i2:=AR (p:=p1) (pos:=pos) Qs g1 m1 Hj (F8 i1 K5 rfl) (by decide) (by decide) rfl rfl;intro jb s σ H Q I ⟨Q',h1,h2⟩;refine i2 jb s σ H Q I ⟨Q',h1,λx H1 hx=>?_⟩;obtain⟨a,ys,rfl,hq,hl,k⟩:=h2 x H1 hx;exact⟨a,ys,rfl,hq,hl,λp hn=>⟨p,_,_,rfl,E8,k _ ((Same.refl _).lay hn)⟩⟩
end
end L2
namespace Pu
open PySem PySem.Spec L2
section
variable {T:PotK}{ι:Type}{K:A9}{F:ι->Cx}{pos:Pos}{e:Expr}{pe:pE}
def DV:w1:=λx R=>match x with|.lst xs=>(match Q4 xs with|some ys=>ys.length<=1000/\R (.int (met (X3 ys) ys.length).length)|none=>False)|_=>False
theorem SZ {p1 p2 pos2:Pos}(hc:∀z,(F z).calm=true)(g1:∀z,Gl (F z) "len")(m1:∀z,(F z).mg "len"=none)(g2:∀z,Gl (F z) "set")(m2:∀z,(F z).mg "set"=none)(he:QE T K F e pe)(hs:F9 e=true:=by rfl)(hK:∀z,(F z).K=K:=by intro _;rfl) :
   QE T K F (.Call (.Name "len" p1) [.Call (.Name "set" p2) [e] [] pos2] [] pos) (qUn DV pe):=by
 obtain⟨t,h1,h2⟩:=he;refine⟨_,λz=>hK z▸SY (hc z) (g1 z) (m1 z) (g2 z) (m2 z) (h1 z) (D9 hs),λC G σ H env n R Q hK hT S hp k=>?_⟩;refine⟨_,h2 C G σ H env n _ (λv H'=>∃x jh n',DV x (λr=>R r jh n')/\SR C G σ H' jh n'/\Rep K G H' x v/\Fr G H H') hK hT S hp (λx jh n' v H' r S' rv f=>⟨x,jh,n',r,S',rv,f⟩),λv H1 hx=>?_⟩;obtain⟨x,jc,n1,r,S1,rv,f1⟩:=hx;unfold DV at r
 split at r
 ·rename_i xs
  split at r
  ·rename_i ys ey;obtain⟨a,vs,rfl,t,rs⟩:=rv;exact⟨a,ys,rfl,DE ey rs▸t.sq,r.1,λH2 s2=>k _ _ _ _ _ r.2 (S1.same s2) rfl (f1.trans (Fr.of s2))⟩
  ·exact r.elim
 ·exact r.elim
end
end Pu
end
section
namespace L2
open PySem PySem.Spec PyProof.Rows
section
variable {X:Cx}{a b:Expr}{rest:List Expr}{ta tb:TE}{pos:Pos}
theorem pe_orT (ha:PE X a ta)(hb:PE X (.BoolOp .Or (b::rest) pos) tb):PE X (.BoolOp .Or (a::b::rest) pos) (λσ H Q=>ta σ H λx H1=>∃k,TruV X.K x H1 k/\if k=true then Q x H1 else tb σ H1 Q):=by
 intro jb s σ H Q I h;refine BoolOp_or (thn (ha jb s σ H _ I h) λv s1 ⟨x,H1,I1,r1,q1⟩=>?_);refine thn (JB jb s1 σ H1 x v (λk H=>if k=true then Q x H else tb σ H Q) I1 r1 q1) λc s2 ⟨H2,I2,q2⟩=>?_;cases c with
 |false=>exact hb jb s2 σ H2 Q I2 q2
 |true=>exact⟨x,H2,I2,r1,q2⟩
end
end L2
namespace Pu
open PySem PySem.Spec L2
section
variable {T:PotK}{ι:Type}{K:A9}{F:ι->Cx}{a b:Expr}{rest:List Expr}{pa pb:pE}{pos:Pos}
def qOrT (pa pb:pE):pE:=λenv n R=>pa env n λx jc n1=>match Fy x with|some b=>if b=true then R x jc n1 else pb jc n1 R|none=>False
theorem qe_orT (ha:QE T K F a pa)(hb:QE T K F (.BoolOp .Or (b::rest) pos) pb)(hK:∀z,(F z).K=K:=by intro _;rfl):QE T K F (.BoolOp .Or (a::b::rest) pos) (qOrT pa pb):=by
 obtain⟨t,a1,a2⟩:=ha;obtain⟨u,b1,b2⟩:=hb;refine⟨_,λz=>hK z▸pe_orT (a1 z) (b1 z),λC G σ H env n R Q hK hT S hp k=>?_⟩;refine a2 C G σ H env n _ _ hK hT S hp λx jc n1 v H1 q1 S1 r1 f1=>?_
 split at q1
 ·rename_i c ec;refine⟨c,Kw ec (.inl r1),?_⟩;cases c with
  | true =>
   rw[jt rfl] at q1 ⊢;exact k _ _ _ _ _ q1 S1 r1 f1
  | false =>
   rw[ju V3] at q1 ⊢;exact b2 C G σ H1 jc n1 _ _ hK hT S1 q1 λy jd n2 w H2 q2 S2 r2 f2=>k _ _ _ _ _ q2 S2 r2 (f1.trans f2)
 ·exact q1.elim
end
end Pu
end
section
namespace Pu
open PySem PySem.Spec L2
def btwU (st:List Str)(x y:Str):List Str:=(st.take (max (ixS st x) (ixS st y))).drop (min (ixS st x) (ixS st y)+1)
theorem Mn {st:List Str}{x y:Str}(hx:x∈st)(hy:y∈st)(h:ixS st y<ixS st x):(btwU st x y).length=ixS st x-ixS st y-1:=by
 have:=Cs hx;unfold btwU
 grind
theorem u9 {st:List Str}(nd:st.Nodup){x y z:Str}(hx:x∈st)(hy:y∈st):z∈btwU st x y↔z∈st/\min (ixS st x) (ixS st y)<ixS st z/\ixS st z<max (ixS st x) (ixS st y):=by
 unfold btwU;constructor
 ·intro h;obtain⟨q,hq,e⟩:=C_ h;rw[Y8,N7] at hq;rw[List.getElem_drop,List.getElem_take] at e;have hm:z∈st:=by rw[<- e];exact BC _
  have ez:st[min (ixS st x) (ixS st y)+1+q]?=some z:=by rw[D8 (by omega),e]
  have:=nd_ix nd (Ak hm).1 ez;exact⟨hm,by omega,by omega⟩
 ·rintro⟨hm,h1,h2⟩;have hl:=Cs hm;have e:=(Ak hm).1;refine J8 (i:=ixS st z-(min (ixS st x) (ixS st y)+1)) ?_;rw[Et,show min (ixS st x) (ixS st y)+1+(ixS st z-(min (ixS st x) (ixS st y)+1))=ixS st z by omega,List.getElem?_take,jt h2];exact e
structure X7 (r:Int)(st:List Str)(es:List Ev):Prop where
 fair:Fair st es
 ahead:∀x y,Ev.t x y∈es->ixS st y<ixS st x
 near:∀x y,Ev.t x y∈es->((btwU st x y).length:Int)<=r
 full:∀x y,Ev.t x y∈es->∀z∈btwU st x y,z∈es.flatMap evB
 plain:∀x y x' y',Ev.t x y∈es->Ev.t x' y'∈es->(x'∈btwU st x y↔y'∈btwU st x y)
theorem Fair.tx {st:List Str}{es:List Ev}(h:Fair st es){x y:Str}(he:Ev.t x y∈es):x∈st/\y∈st:=
 ⟨h.sub x (U2.mpr ⟨_,he,by simp[evB]⟩),h.sub y (U2.mpr ⟨_,he,by simp[evB]⟩)⟩
theorem X7.perm {r:Int}{st:List Str}{es es':List Ev}(h:X7 r st es)(p:es'.Perm es):X7 r st es':=
 ⟨h.fair.perm p,λx y hx=>h.ahead x y (p.mem_iff.mp hx),λx y hx=>h.near x y (p.mem_iff.mp hx),λx y hx z hz=>(IB p).mem_iff.mpr (h.full x y (p.mem_iff.mp hx) z hz),λx y x' y' hx hx'=>h.plain x y x' y' (p.mem_iff.mp hx) (p.mem_iff.mp hx')⟩
end Pu
end
section
namespace Pu
open PySem PySem.W PySem.Spec L2
theorem Mo (h:DO T):DO (tabK T Pt lpos qual):=λM M' H p n ha hm=>by
 rcases ha with⟨h1,h2⟩|⟨rfl,ps,h2,h3,h4⟩
 ·exact .inl ⟨h1,h _ _ _ _ _ h2 hm⟩
 ·refine .inr ⟨rfl,ps,h2,h3,h4.imp id ?_⟩;rintro⟨c',z1,z2,z3⟩;refine⟨c',z1,λz=>?_,z3⟩;rcases hm c' z with z|⟨o,e,m⟩
  ·exact z2 z
  ·rw[z3] at e;cases e;exact m
section
variable {ι:Type}{K:A9}{F:ι->Cx}{e:Expr}{es:List Expr}{st:Stmt}{pos:Pos}{pl:pA}{pe pa pb:pE}{Pt:A0}{lpos:Pos}{qual:Str}
def IN (i:Nat)(pa pb:pE):pS:=λD env n=>pa env n λx jc n1=>pb jc n1 λy jd n2=>match x,y with|.scr _,.int k=>(0<=k/\k<=1000)/\∀q:Nat,D.nx (jd.set i (some (.v (.pot (q+1))))) n2|_,_=>False
theorem S_ (i:Nat)(h:∀z te,EW (F z) (.Call (.Name x p) [a,b] [] pos) te->SW (F z) st (tAsg te (L9 i)))(hG:∀z,Kn (F z).prog (F z).w (F z).K (F z).mg (F z).base x k ps (Fw K))(hr:∀z,Room j (F z).A)(hk:k<=j)(hg:∀z,Gl (F z) x)
   (ha:QE (tabK potL Pt lpos qual) K F a pa) (hb:QE (tabK potL Pt lpos qual) K F b pb) (n1:F9 a=true:=by rfl) (n2:F9 b=true:=by rfl) (hdb:(x == ("__debug__":Str))=false:=by decide):QS (tabK potL Pt lpos qual) true K F st (IN i pa pb):=by
 obtain⟨t,a1,a2⟩:=ha;obtain⟨u,b1,b2⟩:=hb;refine⟨_,λz=>(h z _ ⟨pe_fn (hG z) (hr z) hk (hg z) (F8 (a1 z) (F8 (b1 z) K5 (D9 n2)) (D9 n1)) hdb (D9 n1) (by rw[D9 n2];rfl)⟩).h,λC G σ H env n PD D hK hT hn S hp L=>?_⟩;refine a2 C G σ H env n _ _ hK hT S hp λx jc n1 v H1 q1 S1 r1 f1=>?_;refine b2 C G σ H1 jc n1 _ _ hK hT S1 q1 λy jd n2 w H2 q2 S2 r2 f2=>?_
 split at q2
 ·rename_i ns kk;obtain⟨a,ev,hq⟩:=Dw (.inl (r1.fr f2));refine(show Fw K [v,w] H2 (λx H1=>L9 i x σ H1 D.nx) E0 from ?_);refine⟨a,ns,kk,by rw[ev,show w=.int kk from r2],hq,q2.1.1,q2.1.2,λp own seed hn' ok=>?_⟩;have hh:(tabK potL Pt lpos qual).has G.pots:=hT▸S2.hasG;obtain⟨l',el,nl⟩:=hh;have ptM:Pt∈G.pots:=by rw[el];exact C6
  have S3:=S2.potG hn (p:=p) (ob:=.lst [.int own,.int seed,.int 0]) trivial hn' (Same.lay1 hn') E8 (by
   rw[hT]
   exact .inl ⟨λz=>S2.fresh hn' (by rw[z];exact(S2.pots _ ptM).1),own,seed,0,E8,ok,by omega⟩)
  have S4:=S3.set i (x:=.pot (l'.length+1)) (v:=.ref p) ⟨p,by show(G.pots++[p])[l'.length+1]?=_;rw[el];simp,rfl⟩;refine L.nx _ _ _ _ _ (q2.2 _) S4 ((Ext.fr (f1.trans f2)).trans ⟨λb o _ e=>Same.lay1 hn' b o e,λc hc=>(D0.mp (show c∈p::G.M from hc)).elim (λz=>.inr (z▸hn')) .inl,λk q e=>?_⟩);obtain⟨hk,_⟩:=G4.mp e;show(G.pots++[p])[k]?=_;rw[Y4 hk];exact e
 ·exact q2.elim
end
end Pu
end
section
namespace Pu
open PySem PySem.Spec L2
theorem nodup_ix {α:Type}{l:List α}(nd:l.Nodup){k m:Nat}(h1:k<l.length)(h2:m<l.length)(e:l[k]=l[m]):k=m:=by
 have pw:=Y5.mp nd;rcases x5 k m with c|c|c
 ·exact absurd e (pw k m h1 h2 c)
 ·exact c
 ·exact absurd e.symm (pw m k h2 h1 c)
end Pu
end
section
namespace Pu
open PySem PySem.Spec L2
abbrev pD:=List Key->(Env->Nat->List (List PV)->Prop)->Env->Nat->List (List PV)->Prop
end Pu
end
section
namespace Pu
open PySem PySem.Spec L2
structure KE (K:A9)(T:PotK)(G:Gh)(H1:Hp)(D:A0)(M:List A0)(as:List A0)(ks:List Key)(yss:List (List PV))(H:Hp):Prop where
 mem:∀c,c∈M↔c∈as\/c=D\/c∈G.M
 keep:∀b o,b∉G.pots->H1 b=some o->H b=some o
 dic:H D=some (.dK (ks.zip (as.map V.ref)))
 lk:ks.length=as.length
 ly:yss.length=as.length
 nd:(D::as).Nodup
 new:∀b∈as,H1 b=none
 inn:∀(k:Nat) (b:A0) (ys:List PV),as[k]?=some b->yss[k]?=some ys->∃vs,H b=some (.lst vs)/\Reps K ⟨M,G.pots⟩ H ys vs
end Pu
end
section
namespace Pu
open PySem PySem.Spec L2
theorem SR.m0 (S:SR C G σ H env n)(h:∀b,b∈C.M0↔b∈M'):SR { C with M0:=M' } G σ H env n where
 frame:=S.frame
 sub:=λa ha=>(S.sub a ha).imp (h a).mp id
 sup:=λa ha=>S.sup a ((h a).mpr ha)
 pots:=S.pots
 pre:=S.pre
 mu:=S.mu
 slots:=λi s e=>by
  have q:=S.slots i s e;cases s with
  |v x=>exact q
  | ow k xs =>
   obtain⟨a,vs,e1,h1,h2,h3,h4,r⟩:=q;exact⟨a,vs,e1,h1,λz=>h2 ((h a).mpr z),h3,h4,r⟩
 inj:=S.inj
 p0:=⟨λp hp=>(h p).mp (S.p0.1 p hp),S.p0.2⟩
 len:=S.len
 newp:=λp hp h1 h2=>S.newp p hp h1 ((h p).mpr h2)
end Pu
end
section
namespace L2
open PySem PySem.Spec PyProof.Rows
theorem Ta {prog:D1}{w:C9}{A:D5}(hh:A.handled=none)(I ax:A0)(hne:ax≠I)(items:Array A1)(h1:1<=items.size) :
   Walks prog w A I [I,ax] [I] (items.size-1) (λi v=>items[i+1]?=some v) (λi h=>h.IsTupleIter I ax (i+1)/\h.IsTuple ax items) where
 sub:=(BW (prog:=prog) (w:=w) hh I ax hne items).sub
 frame:=λi=>(BW (prog:=prog) (w:=w) hh I ax hne items).frame (i+1)
 item:=λi s Q E hi st hQ=>(BW hh I ax hne items).item (i+1) s Q E (by omega) st hQ
 done:=λs Q E st hQ=>(BW hh I ax hne items).done s Q E (by have:=st;rw[Nat.sub_add_cancel h1] at this;exact this) hQ
 self:=λi=>(BW hh I ax hne items).self (i+1)
section
variable {prog:D1}{w:C9}{A:D5}{E:A1->A5->Prop}{s:A5}{I:A0}{fp wr:List A0}{G:Array GenState->Array GenState->Prop}{n:Nat}{P:Nat->A1->Prop}{St:Nat->A5->Prop}
theorem Tc {Q:List A1->A5->Prop}(W:WalksS prog w A.in1 I fp wr G n P St)(hT:∀i s,St i s->s.TypeIs (.ref I) "tuple_iterator")(hst:St 0 s)(hfp:∀b∈fp,b<s.heap.objs.size)(hI:I∈fp)
   (hQ:∀s' jm,Moved wr G s s'->ItemsOf P jm n->s.heap.objs.size<s'.heap.objs.size->Q jm.toList s') (hn:n<=C8):A6 (A7 prog w) A (collect (.ref I)) Q E s:=by
 have no:s.heap.objs.size∉fp:=λhm=>W4 _ (hfp _ hm);have ne:s.heap.objs.size≠I:=λe=>no (e▸hI);unfold collect;refine A2 (wpAny_runValue (c8 F.entry_proto_collect ?_));rw[p6 F.plain_proto_collect _];show A6 _ A.in1 (newList []>>=λl=>again (.builtin "list.__iadd__" ⟨[l,.ref I],[]⟩)) _ _ s;refine A2 (Q1 ?_);refine B2 ⟨l9 F.plain_list_iadd _,c8 F.entry_list_iadd ?_⟩;rw[p6 F.plain_list_iadd _];have st1:=W.frame 0 s (s.heap.push { cls:=.type "list",data:=.seq ([]:List A1).toArray }) s.toks hst (C7 _) λb _ o e=>C2 _ e;have hS:(s.heap.push { cls:=.type "list",data:=.seq ([]:List A1).toArray }).get? s.heap.objs.size=some { cls:=.type "list",data:=.seq ([]:List A1).toArray }:=E9 _ rfl;have nr:EM (.ref s.heap.objs.size) (.ref I)=false:=by simp[EM,ne]
 show A6 _ A.in1 (EL (.ref s.heap.objs.size) (.ref I) (.ref s.heap.objs.size)) _ _ _;unfold EL;refine A2 (Ay (hT 0 _ st1) ?_);rw[ju (by rw[nr];decide)];refine A2 (W.self 0 _ _ _ st1 ?_);refine A2 (J7 ?_);unfold GJ;refine A2 (Bu (hT 0 _ st1) F.nolen_tu ?_);show A6 _ A.in1 (specialOf (L8 I) (A8 "__length_hint__")>>=_) _ _ _;refine A2 (Bu (hT 0 _ st1) F.hint_tu ?_)
 (generalize hid:("tuple_iterator.__length_hint__":String)=id0;(fail_if_success (clear hid id0));wp_delta;rw[show splitId id0=some ("tuple_iterator","__length_hint__") from by subst hid;decide +kernel];subst hid)
 refine A2 (CK (b:=true) (hT 0 _ st1) (by rw[v5];kernel_rfl) ?_);refine B2 ?_;rw[ju (by decide)];refine B2 ⟨l9 F.plain_extend_loop _,codeAny_extend_loopS W hn _ no _ n 0 _ _ _ rfl (K1 _) st1 hS (ItemsOf.nil P) λs' acc' c' hm hS' hacc=>?_⟩;show A6 _ A (load s.heap.objs.size>>=_) _ _ s';refine A2 (wpAny_load hS' ?_);exact B2 (hQ s' acc' (Moved.drop_new (o:={ cls:=.type "list",data:=.seq ([]:List A1).toArray }) (tk:=s.toks) hm (C7 _)) hacc (C4 hS'))
end
section
variable {prog:D1}{w:C9}{A:D5}{E:A1->A5->Prop}{s:A5}
theorem Td {t:A0}{x:A1}{items:Array A1}{f g:A1->Sem Unit}{Q:Unit->A5->Prop}(hh:A.handled=none)(ht:IsTup s.heap t items)(hx:items[0]?=some x)(hsz:items.size<=C8)
   (h:∀(h':B6) (tk:Nat),(∀b o,s.heap.get? b=some o->h'.get? b=some o)->s.heap.objs.size<=h'.objs.size->A6 (A7 prog w) A (Au [f,g] [x,.ref h'.objs.size]) Q E { s with heap:=h'.push { cls:=.type "list",data:=.seq (items.toList.drop 1).toArray },toks:=tk }) :
   A6 (A7 prog w) A (unpack (.ref t) [(false,f),(true,g)]) Q E s:=by
 have hlt:t≠s.heap.objs.size:=by obtain⟨o,ho,_⟩:=ht;exact D3 (C4 ho)
 have h1:1<=items.size:=by have:=(GI.mp hx).1;omega
 unfold unpack;refine A2 (J7 ?_);show A6 _ _ (unpackItems (.ref t) 2 (some 1)) _ _ _;unfold unpackItems;refine A2 ?_;unfold notIterableAtAll;refine A2 (Bu ht.typeIs slot_tuple_iter.lookup ?_);refine B2 ?_;simp only[J5,if_false];refine A2 (J7 (iter_tuple ht ?_));refine A2 (J7 (draw_tuple hlt 1 0 _ _ ⟨_,E9 _ rfl,rfl,rfl⟩ (ht.push _) (by omega) λh₁ hit₁ hs₁=>?_))
 have hx0:List.take 1 (List.drop 0 items.toList)=[x]:=by
  rw[List.drop_zero];rw[<- Q3] at hx;cases e:items.toList with
  |nil=>rw[e] at hx;cases hx
  |cons y ys=>rw[e] at hx;cases hx;rfl
 rw[hx0];rw[ju (by simp)];have ht₁:IsTup h₁ t items:=(ht.push _).extBut hs₁.extBut hlt;have keep:∀b o,s.heap.get? b=some o->h₁.get? b=some o:=λb o e=>hs₁.extBut b o (D3 (C4 e)) (C2 _ e);obtain⟨ot,ho,hc,nn,hd⟩:=ht₁;obtain⟨oi,ho',hc',hd'⟩:=hit₁;refine A2 (J7 (Tc (Ta (A:=A.in1) hh s.heap.objs.size t hlt items h1).toS (λi s st=>st.1.typeIs) ⟨⟨oi,ho',hc',hd'⟩,⟨ot,ho,hc,nn,hd⟩⟩ (λb hb=>?_) (by simp) (λs' jm mv ia lt=>?_) (by omega)))
 ·simp only[D0,AE,or_false] at hb;rcases hb with rfl|rfl
  ·exact C4 ho'
  ·exact C4 ho
 have ea:jm.toList=items.toList.drop 1:=by
  apply List.ext_getElem?
  intro i;rw[Et,Q3,Q3]
  by_cases c:i<jm.size
  ·have:=ia.2 i _ (Z0 c);rw[Z0 c,<- this,Nat.add_comm]
  ·rw[BN (by omega),BN (by have:=ia.1;omega)]
 rw[ju (by simp)];obtain⟨hp,ge,dr,tk,os⟩:=s';obtain⟨m1,m2,m3,m4,m5⟩:=mv;dsimp only at m2 m3 m4;subst m2 m3 m4;refine A2 (Q1 ?_ ?_)
 ·refine B2 ?_;have e1:(jm.toList.take (jm.toList.length-(2-1-1)))=items.toList.drop 1:=by rw[show jm.toList.length-(2-1-1)=jm.toList.length by omega,o7,ea]
  have e2:(jm.toList.drop (jm.toList.length-(2-1-1)))=[]:=by rw[show jm.toList.length-(2-1-1)=jm.toList.length by omega,AD]
  rw[e1,e2];exact h hp tk (λb o e=>m1 b o (by simpa using D3 (C4 e)) (keep b o e)) (i4 (BI (C4 ho') lt))
 ·show(List.take (jm.toList.length-(2-1-1)) jm.toList).toArray.size<=C8;rw[G5,N7,M8];have:=ia.1;omega
end
section
variable {X:Cx}{pos:Pos}
def IP (K:A9)(i j:Nat):TG:=λv σ H Q=>∃a x xs,v=.ref a/\SqT K H a (x::xs)/\∀l,H l=none->Q ((σ.set i (some x)).set j (some (.ref l))) (upd H l (.lst xs))
theorem Te {i j k:Nat}{x y:Str}{p1 p2 p3:Pos}(hc:X.calm=true)(hN:X.N.Nodup)(hi:X.N[i]?=some x)(hj:X.N[j]?=some y)(hx:Loc X.env.scope x)(hy:Loc X.env.scope y)(hf:X.fn x=true\/X.env.scope.names.lookup x=some .local)(hg:X.fn y=true\/X.env.scope.names.lookup y=some .local):PG X (.Tuple [.Name x p1,.Starred (.Name y p2) p3] k pos) (IP X.K i j):=by
 intro jb s σ H v u Q I r hw;obtain⟨a,x1,xs,e1,hq,hw⟩:=hw;subst e1;cases r;obtain⟨jf,rv,ht,hz⟩:=I.tuple hq;cases rv with
 |@cons _ x0 _ us r0 r1=>
 rw[assign_Tuple];refine A2 (R7 ?_);show A6 _ _ (unpack _ [(false,assign (.Name x p1) X.env),(true,assign (.Name y p2) X.env)]) _ _ _;have lu:=r1.length;refine Td (x:=x0) (I.ok.hd hc) ht rfl (by simp at hz ⊢;omega) λh' tk hk hs=>?_;rw[show(List.drop 1 (x0::us).toArray.toList).toArray=us.toArray by simp]
 have I1:Inv X jb σ (upd H h'.objs.size (.lst xs)) { s with heap:=h'.push { cls:=.type "list",data:=.seq us.toArray },toks:=tk }:=
  I.laid (λb o e=>C2 _ (hk b o e)) hs ⟨by simp at hz ⊢;omega,us,0,r1,E9 _ rfl⟩
 refine x8 (CJ (p9 I1 hN hi hx r0 (λs2 I2=>?_) hf));refine x8 (CJ (p9 I2 hN hj hy (v:=.ref h'.objs.size) rfl (λs3 I3=>?_) hg));exact EK ⟨_,_,I3,hw _ (I.hok.fresh hs)⟩
end
end L2
namespace Pu
open PySem PySem.Spec L2
section
variable {T:PotK}{ι:Type}{K:A9}{F:ι->Cx}{e:Expr}{st:Stmt}{pe:pE}{np:Bool}
def IQ (i j:Nat)(pe:pE):pS:=λD env n=>pe env n λx jc n1=>match x with|.tup (y::ys)=>D.nx ((jc.set i (some (.v y))).set j (some (.ow .lst ys))) n1|_=>False
theorem Tf {X:Cx}{pos:Pos}(K:A9){i j k:Nat}{x y:Str}{p1 p2 p3:Pos}(hc:X.calm=true)(hN:X.N.Nodup)(hi:X.N[i]?=some x)(hj:X.N[j]?=some y)(hx:Loc X.env.scope x)(hy:Loc X.env.scope y)(hf:X.fn x=true\/X.env.scope.names.lookup x=some .local:=by first|exact .inl rfl|exact .inr rfl|assumption)(hg:X.fn y=true\/X.env.scope.names.lookup y=some .local:=by first|exact .inl rfl|exact .inr rfl|assumption)(hK:X.K=K:=by rfl):GW X (.Tuple [.Name x p1,.Starred (.Name y p2) p3] k pos) (IP K i j):=⟨hK▸Te hc hN hi hj hx hy hf hg⟩
theorem Tg (i j:Nat){tg:Expr}(h:∀z te g,EW (F z) e te->GW (F z) tg g->SW (F z) st (tAsg te g))(hg:∀z,GW (F z) tg (IP K i j))(he:QE T K F e pe):QS T np K F st (IQ i j pe):=by
 obtain⟨t,a1,a2⟩:=he;refine⟨_,λz=>(h z _ _ ⟨a1 z⟩ (hg z)).h,λC G σ H env n PD D hK hT hn S hp L=>?_⟩;refine a2 C G σ H env n _ _ hK hT S hp λx jc n1 v H1 q1 S1 r1 f1=>?_;cases x with
 | tup xs =>
  cases xs with
  |nil=>exact q1.elim
  | cons y ys =>
   obtain⟨a,vs,rfl,tt,rs⟩:=r1;cases vs with
   |nil=>exact absurd rs.length (by simp)
   | cons w ws =>
    obtain⟨w',ws',e1,hy,hr⟩:=rs;cases e1;refine⟨a,w,ws,rfl,tt.sq,λl hl=>?_⟩;exact L.nx _ _ _ _ _ q1 ((S1.set i (hK▸hy)).own j hl (hK▸hr)) ((Ext.fr f1).trans (Ch hl))
 |_=>exact q1.elim
end
end Pu
end
section
namespace L2
open PySem PySem.Spec PyProof.Rows
variable {X:Cx}
theorem op_isB:OpR X (M1 .Is) (λx y H Q=>∃a b,x=.bl a/\y=.bl b/\Q (.bl (a == b)) H):=by
 intro jb s σ H x y v u Q I rx ry h;obtain⟨a,b,rfl,rfl,q⟩:=h;cases rx;cases ry;exact wpAny_is_plain rfl (Fc I q (by cases a <;> cases b <;> rfl))
end L2
namespace Pu
open PySem PySem.Spec L2
variable {T:PotK}{ι:Type}{K:A9}{F:ι->Cx}
def wNotB:w2:=λx y R=>match x,y with|.bl a,.bl b=>R (.bl (!(a == b)))|_,_=>False
def wIsB:w2:=λx y R=>match x,y with|.bl a,.bl b=>R (.bl (a == b))|_,_=>False
theorem cIsB:Cmp K F .Is wIsB:=⟨_,λ_=>op_isB,by
 intro G H x y v u R Q hf rx ry hw k;unfold wIsB at hw
 split at hw
 ·exact⟨_,_,rx.bl,ry.bl,k _ _ _ hw (Same.refl _) rfl⟩
 ·exact hw.elim⟩
end Pu
end
section
namespace Tb
open PySem L2 Pu
abbrev b__law_draw:pF:=Cr
abbrev lamP:PySem.Pos:=⟨94,48,94,88⟩
abbrev lamQ:PySem.Str:=A8 "order_of.<locals>.<lambda>"
def Mp:pS:=(qSeq (qPar 2 3 (sO (X0 (qV 1))) (sO (qLst qNil)))
   (qSeq (Kt (qB (qOpR (wNe 4) (qO 2) (qL (qLst qNil)))) (P8 (Z9 3 (HR 2 (B7 b__law_draw (A3 (qV 0) (A3 (qUn wLen (qO 2)) qNil)))))))
   (qRet (qUn Z8 (qO 3)))))
def Ge:pF:=fnP ["_law_pot_here","_law_some","_law_left","_law_found"] ["_law_pot_here","_law_some"] Mp
def Mq:pS:=(qSeq (qPar 2 3 (sV (qC (.str (A8 "abcdefghijklmnopqrstuvwxyz")))) (sO (qLst qNil)))
   (qSeq (HJ 4 5 6 (B7 b__law_draw (A3 (qV 0) (A3 (qC (.int 4)) qNil))) (sV (B7 b__law_draw (A3 (qV 0) (A3 (qC (.int 26)) qNil)))) (sV (qOp wAdd (qC (.int 1)) (B7 b__law_draw (A3 (qV 0) (A3 (qC (.int 8)) qNil))))))
   (qSeq (qPar 7 8 (sV (B7 b__law_draw (A3 (qV 0) (A3 (qV 6) qNil)))) (sV (qOp wIx (qV 2) (B7 b__law_draw (A3 (qV 0) (A3 (qC (.int 26)) qNil))))))
   (qSeq (qFor (u7 (qV 1)) (gN 9) (qSeq (qSet 10 (qOp wIx (qV 2) (qOp wMod (qOp wAdd (qV 5) (qOp wMul (qC (.int 7)) (qV 9))) (qC (.int 26)))))
   (qSeq (qIfS (qB (qOp (wEq 4) (qV 4) (qC (.int 0)))) (qSet 10 (qOp wAdd (qV 10) (HP (qC (.str (A8 ""))) (qL (L4 [none,some 2,some 0] (u7 (B7 b__law_draw (A3 (qV 0) (A3 (qC (.int 8)) qNil)))) (gN 0) qTru (qOp wIx (qV 1) (B7 b__law_draw (A3 (qV 2) (A3 (qC (.int 26)) qNil))))))))) qNx)
   (qSeq (qIfS (qB (qOp (wEq 4) (qV 4) (qC (.int 1)))) (qSet 10 (qOp wMul (qOp wIx (qV 2) (qOp wMod (qOp wAdd (qV 5) (qOp Ho (qV 9) (qC (.int 8)))) (qC (.int 26)))) (qOp wAdd (qC (.int 1)) (qOp wMod (qV 9) (qC (.int 8)))))) qNx)
   (qSeq (qIfS (qB (qOp wGt (qV 4) (qC (.int 1)))) (qSet 10 (qOp wAdd (qOp wAdd (qOp wMul (qV 8) (qV 7)) (qV 10)) (qOp wMul (qV 8) (qOp wSub (qOp wSub (qV 6) (qC (.int 1))) (qV 7))))) qNx)
   (P8 (Z9 3 (qV 10))))))))
   (qSeq (qSet 11 (qOp wIx (qL (qLst (A3 (qC (.str (A8 "drop"))) (A3 (qC (.str (A8 "touch"))) (A3 (qC (.str (A8 "none"))) (A3 (qC (.str (A8 "d"))) (A3 (qC (.str (A8 "u"))) (A3 (qC (.str (A8 "t"))) (A3 (qC (.str (A8 "o"))) qNil))))))))) (B7 b__law_draw (A3 (qV 0) (A3 (qC (.int 7)) qNil)))))
   (qSeq (qIfS (qAnd (qB (qOp (wEq 4) (B7 b__law_draw (A3 (qV 0) (A3 (qC (.int 3)) qNil))) (qC (.int 0)))) (qB (qOp (wIn 4 true) (qV 11) (qO 3)))) (qPut 3 (qV 11) (B7 b__law_draw (A3 (qV 0) (A3 (qV 1) qNil)))) qNx)
   (DB 3 (qRet (B7 Ge (A3 (qV 0) (A3 (qV 3) qNil)))))))))))
def IR:pF:=fnP ["_law_pot_here","_law_many","_law_letters","_law_found","_law_way","_law_first","_law_size","_law_spot","_law_fill","_law_k","_law_own","_law_odd"] ["_law_pot_here","_law_many"] Mq
def Mr:pS:=(qSeq (qAsg (qTup (A3 (qV 0) (A3 (qV 1) qNil))) (gTp 2 (gCn (gTp 2 (gCn (gN 2) (gCn (gN 3) gNl))) (gCn (gTp 2 (gCn (gN 4) (gCn (gN 5) gNl))) gNl))))
   (qRet (qOrV (qOp wLt (qV 3) (qV 4)) (qOrV (qOp wLt (qV 5) (qV 2)) (qOrV (T4 (qOp wLt (qV 2) (qV 4)) (qOp wLt (qV 5) (qV 3))) (T4 (qOp wLt (qV 4) (qV 2)) (qOp wLt (qV 3) (qV 5))))))))
def IS:pF:=fnP ["_law_one","_law_other","_law_a","_law_b","_law_c","_law_d"] ["_law_one","_law_other"] Mr
def Ms:pS:=(qSeq (Iu [3,4,5,6] (Co (sV (qUn wLen (qV 1))) (Co (sO (qLst qNil)) (Co (sO (qLst qNil)) (Co (sO (qLst qNil)) Iq)))))
   (qSeq (qFor (u7 (B7 b__law_draw (A3 (qV 0) (A3 (qOp wAdd (qV 3) (qC (.int 1))) qNil)))) (gN 7) (qSeq (qAsg (qTup (A3 (B7 b__law_draw (A3 (qV 0) (A3 (qV 3) qNil))) (A3 (qOp wAdd (qC (.int 1)) (B7 b__law_draw (A3 (qV 0) (A3 (qOp wAdd (qV 2) (qC (.int 1))) qNil)))) qNil))) (gTp 2 (gCn (gN 8) (gCn (gN 9) gNl))))
   (qIfS (qAnd (qB (qOp wLt (qOp wAdd (qV 8) (qV 9)) (qV 3))) (qB (FP (qUn wAll (qL (L4 [none,some 8,some 9] (qIl (qV 4)) (gN 0) qTru (B7 IS (A3 (qTup (A3 (qV 1) (A3 (qOp wAdd (qV 1) (qV 2)) qNil))) (A3 (qV 0) qNil))))))))) (qSeq (P8 (Z9 4 (qTup (A3 (qV 8) (A3 (qOp wAdd (qV 8) (qV 9)) qNil)))))
   (qSeq (P8 (Ae 5 (qL (qLst (A3 (qV 8) (A3 (qOp wAdd (qV 8) (qV 9)) qNil))))))
   (P8 (Z9 6 (qTup (A3 (qC (.str (A8 "touch"))) (A3 (qOp wIx (qV 1) (qOp wAdd (qV 8) (qV 9))) (A3 (qOp wIx (qV 1) (qV 8)) qNil)))))))) qNx)))
   (qSeq (qFor (FG (qV 1)) (gTp 2 (gCn (gN 10) (gCn (gN 11) gNl))) (qSeq (DB 4 (qSet 12 (qUn wAny (qL (L4 [none,none,some 10] (qIl (qV 4)) (gTp 2 (gCn (gN 0) (gCn (gN 1) gNl))) qTru (AU wLt wLt (qV 0) (qV 2) (qV 1)))))))
   (qIfS (qAnd (qB (qOp (wIn 4 true) (qV 10) (qO 5))) (qOr (HQ (qV 12)) (qB (qOp (wEq 4) (B7 b__law_draw (A3 (qV 0) (A3 (qC (.int 3)) qNil))) (qC (.int 0)))))) (P8 (Z9 6 (qTup (A3 (qC (.str (A8 "drop"))) (A3 (qV 11) qNil))))) qNx)))
   (qRet (qUn Z8 (qL (FO (qO 6))))))))
def IT:pF:=fnP ["_law_pot_here","_law_start","_law_reach","_law_n","_law_pairs","_law_ends","_law_events","_law_tour","_law_at","_law_far","_law_place","_law_boat","_law_within"] ["_law_pot_here","_law_start","_law_reach"] Ms
def Mt:pS:=(qSeq (qPar 4 5 (sV (B7 b__law_draw (A3 (qV 0) (A3 (qC (.int 6)) qNil)))) (sV (B7 b__law_draw (A3 (qV 0) (A3 (qOp wAdd (qUn wLen (qV 2)) (qC (.int 1))) qNil)))))
   (qSeq (qSet 6 (qL (qCat (qL (X0 (qV 1))) (qL (X0 (qV 3))))))
   (qSeq (qPar 7 8 (sV (qOp wIx (qV 6) (B7 b__law_draw (A3 (qV 0) (A3 (qUn wLen (qV 6)) qNil))))) (sV (qOp wIx (qV 6) (B7 b__law_draw (A3 (qV 0) (A3 (qUn wLen (qV 6)) qNil))))))
   (qSeq (qSet 9 (qIf (qOr (qB (qOp (wEq 4) (qV 7) (qV 8))) (qB (qOp (wEq 4) (B7 b__law_draw (A3 (qV 0) (A3 (qC (.int 3)) qNil))) (qC (.int 0))))) (qL (qLst (A3 (qTup (A3 (qC (.str (A8 "drop"))) (A3 (qV 7) qNil))) qNil))) (qL (qLst (A3 (qTup (A3 (qC (.str (A8 "touch"))) (A3 (qV 7) (A3 (qV 8) qNil)))) qNil)))))
   (qSeq (qIfS (qOr (qB (qOp wGt (qV 4) (qC (.int 3)))) (qB (qOp (wEq 4) (qV 5) (qUn wLen (qV 2))))) (qRet (qUn Z8 (qL (Cy (qL (qCat (qL (X0 (qV 2))) (qV 9))))))) qNx)
   (qSeq (qPar 10 11 (sV (qOp wIx (qV 2) (qV 5))) (sO (X0 (qOp wAdd (qSl (qV 2) qNo (O6 (qV 5))) (qSl (qV 2) (O6 (qOp wAdd (qV 5) (qC (.int 1)))) qNo)))))
   (qSeq (qIfS (qAnd (qB (qOp (wEq 4) (qV 4) (qC (.int 1)))) (qB (qOp (wEq 4) (qOp wIx (qV 10) (qC (.int 0))) (qC (.str (A8 "touch")))))) (P8 (Z9 11 (qTup (A3 (qC (.str (A8 "touch"))) (A3 (qOp wIx (qV 10) (qC (.int 2))) (A3 (qOp wIx (qV 10) (qC (.int 1))) qNil)))))) qNx)
   (qSeq (qIfS (qB (qOp (wEq 4) (qV 4) (qC (.int 2)))) (P8 (Ae 11 (qV 9))) qNx)
   (qSeq (qIfS (qAnd (qB (qOp (wEq 4) (qV 4) (qC (.int 3)))) (qB (qOp (wIn 4 true) (qV 7) (qV 10)))) (P8 (Z9 11 (qOp wAdd (qSl (qV 10) qNo (O6 (qOp wSub (qUn wLen (qV 10)) (qC (.int 1))))) (qTup (A3 (qV 7) qNil))))) qNx)
   (qRet (qUn Z8 (qL (Cy (qO 11))))))))))))))
def IU:pF:=fnP ["_law_pot_here","_law_start","_law_sheet_here","_law_spare","_law_way","_law_at","_law_boats_here","_law_one","_law_other","_law_more","_law_event","_law_rest"] ["_law_pot_here","_law_start","_law_sheet_here","_law_spare"] Mt
def Mu:pS:=(qRet (qL (L4 [none] (qIt (qV 0)) (gN 0) (qB (qOp (wEq 4) (qOp wIx (qV 0) (qC (.int 0))) (qC (.str (A8 "touch"))))) (qV 0))))
def Bm:pF:=fnP ["events"] ["events"] Mu
def Mv:pS:=(qSeq (qOwn 3 (X0 (qV 0)))
   (qSeq (Iy 3 (qOp wIx (qV 0) (qV 2)) (qOp wIx (qV 0) (qV 1)) (qV 1) (qV 2))
   (qRet (qUn Z8 (qO 3)))))
def IV:pF:=fnP ["row","one","other","boats"] ["row","one","other"] Mv
def Mw:pS:=(qSeq (qSet 2 (qV 0))
   (qSeq (qFor (qIl (B7 Bm (A3 (qV 1) qNil))) (gN 3) (qSet 2 (B7 IV (A3 (qV 2) (A3 (Ai (qV 0) (qOp wIx (qV 3) (qC (.int 1)))) (A3 (Ai (qV 0) (qOp wIx (qV 3) (qC (.int 2)))) qNil))))))
   (qRet (qV 2))))
def Bn:pF:=fnP ["start","sheet","row","touch"] ["start","sheet"] Mw
def Mx:pS:=(qSeq (qSet 1 (qL (qLst (A3 (qTup qNil) qNil))))
   (qSeq (qFor (qIt (qV 0)) (gN 2) (qSeq (qOwn 3 (qLst qNil))
   (qSeq (qFor (qIl (qV 1)) (gN 4) (P8 (Ae 3 (qL (L4 [none,some 4,some 2] (u7 (qOp wAdd (qUn wLen (qV 4)) (qC (.int 1)))) (gN 0) qTru (qOp wAdd (qOp wAdd (qSl (qV 1) qNo (O6 (qV 0))) (qTup (A3 (qV 2) qNil))) (qSl (qV 1) (O6 (qV 0)) qNo)))))))
   (DB 3 (qSet 1 (qV 3))))))
   (qRet (qV 1))))
def DW:pF:=fnP ["_law_some","_law_orders_here","_law_event","_law_longer","_law_order"] ["_law_some"] Mx
def My:pS:=(qRet (qL (Iw [none,none] (qIt (qV 0)) (gN 0) (qIt (qSl (qV 0) (O6 (qC (.int 1))) qNo)) (gN 1) qTru (qV 1))))
def Ao:pF:=fnP ["events"] ["events"] My
def Mz:pS:=(qSeq (qSet 2 (B7 Ao (A3 (qV 1) qNil)))
   (qSeq (qFor (qIl (qV 2)) (gN 3) (qSeq (qIfS (qB (qOp (wIn 4 true) (qV 3) (qV 0))) (qRet (qTup (A3 (qC (.str (A8 "strange"))) (A3 (qV 3) qNil)))) qNx)
   (qIfS (qB (qOp wGt (HW (qV 2) (qV 3)) (qC (.int 1)))) (qRet (qTup (A3 (qC (.str (A8 "twice"))) (A3 (qV 3) qNil)))) qNx)))
   (qRet (qC .non))))
def Gf:pF:=fnP ["start","sheet","boats","boat"] ["start","sheet"] Mz
def MA:pS:=(qRet (qOp wGt (Ai (qV 0) (qOp wIx (qV 1) (qC (.int 2)))) (Ai (qV 0) (qOp wIx (qV 1) (qC (.int 1))))))
def Cz:pF:=fnP ["start","touch"] ["start","touch"] MA
def MB:pS:=(qSeq (qAsg (qL (FO (qL (qLst (A3 (Ai (qV 0) (qOp wIx (qV 1) (qC (.int 1)))) (A3 (Ai (qV 0) (qOp wIx (qV 1) (qC (.int 2)))) qNil)))))) (gTl 2 (gCn (gN 2) (gCn (gN 3) gNl))))
   (qRet (qSl (qV 0) (O6 (qOp wAdd (qV 2) (qC (.int 1)))) (O6 (qV 3)))))
def V8:pF:=fnP ["start","touch","low","high"] ["start","touch"] MB
def MC:pS:=(qRet (qOp wGt (qUn wLen (B7 V8 (A3 (qV 0) (A3 (qV 2) qNil)))) (qV 1)))
def CA:pF:=fnP ["start","reach","touch"] ["start","reach","touch"] MC
def MD:pS:=(qSeq (qIfS (qB (B7 Cz (A3 (qV 0) (A3 (qV 3) qNil)))) (qRet (qTup (A3 (qC (.str (A8 "wrong"))) (A3 (qV 3) qNil)))) qNx)
   (qSeq (qIfS (qB (B7 CA (A3 (qV 0) (A3 (qV 1) (A3 (qV 3) qNil))))) (qRet (qTup (A3 (qC (.str (A8 "far"))) (A3 (qV 3) qNil)))) qNx)
   (qSeq (qSet 4 (B7 Ao (A3 (qV 2) qNil)))
   (qSeq (qFor (qIt (B7 V8 (A3 (qV 0) (A3 (qV 3) qNil)))) (gN 5) (qIfS (qB (qOp (wIn 4 true) (qV 5) (qV 4))) (qRet (qTup (A3 (qC (.str (A8 "stays"))) (A3 (qV 3) (A3 (qV 5) qNil))))) qNx))
   (qRet (qC .non))))))
def Gg:pF:=fnP ["start","reach","sheet","touch","boats","boat"] ["start","reach","sheet","touch"] MD
def ME:pS:=(qSeq (qIfS (qB (qOp (wNe 4) (qUn DV (B7 Ao (A3 (qTup (A3 (qV 1) (A3 (qV 2) qNil))) qNil))) (qC (.int 4)))) (qRet (qC (.bl false))) qNx)
   (qSeq (qSet 3 (B7 V8 (A3 (qV 0) (A3 (qV 1) qNil))))
   (qRet (qOp (wNe 4) (qOp (wIn 4 false) (qOp wIx (qV 2) (qC (.int 1))) (qV 3)) (qOp (wIn 4 false) (qOp wIx (qV 2) (qC (.int 2))) (qV 3))))))
def DX:pF:=fnP ["start","one","other","inner"] ["start","one","other"] ME
def MF:pS:=(qSeq (qFor (qIl (qV 2)) (gN 3) (qIfS (qB (B7 DX (A3 (qV 0) (A3 (qV 1) (A3 (qV 3) qNil))))) (qRet (qTup (A3 (qC (.str (A8 "cross"))) (A3 (qV 1) (A3 (qV 3) qNil))))) qNx))
   (qRet (qC .non)))
def Gi:pF:=fnP ["start","touch","touches","other"] ["start","touch","touches"] MF
def MG:pS:=(qSeq (qSet 3 (B7 Gf (A3 (qV 0) (A3 (qV 2) qNil))))
   (qSeq (qIfS (qB (qOp AT (qV 3) (qC .non))) (qRet (qV 3)) qNx)
   (qSeq (qSet 4 (B7 Bm (A3 (qV 2) qNil)))
   (qSeq (qFor (qIl (qV 4)) (gN 5) (qSeq (qSet 3 (qOrT (B7 Gg (A3 (qV 0) (A3 (qV 1) (A3 (qV 2) (A3 (qV 5) qNil))))) (B7 Gi (A3 (qV 0) (A3 (qV 5) (A3 (qV 4) qNil))))))
   (qIfS (qB (qOp AT (qV 3) (qC .non))) (qRet (qV 3)) qNx)))
   (qRet (qC .non))))))
def Gj:pF:=fnP ["start","reach","sheet","reason","touches","touch"] ["start","reach","sheet"] MG
def IW:pS:=(qSeq (qSet 3 (B7 Gj (A3 (qV 0) (A3 (qV 1) (A3 (qV 2) qNil)))))
   (qSeq (qIfS (qB (qOp AT (qV 3) (qC .non))) (qRet (qTup (A3 (qC (.str (A8 "unsound"))) (A3 (qV 3) qNil)))) qNx)
   (qSeq (qSet 4 (qL (L4 [none] (qIt (qV 2)) (gN 0) (qB (qOp (wEq 4) (qOp wIx (qV 0) (qC (.int 0))) (qC (.str (A8 "drop"))))) (qV 0))))
   (qSeq (qSet 5 (qL (FU 0 (B7 Bm (A3 (qV 2) qNil)) (qUn wLen (B7 V8 (A3 (qV 1) (A3 (qV 0) qNil)))))))
   (qRet (qTup (A3 (qC (.str (A8 "course"))) (A3 (qUn Z8 (qL (qCat (qV 4) (qV 5)))) qNil))))))))
def DY:pF:=fnP ["start","reach","sheet","reason","drops","inner_first"] ["start","reach","sheet"] IW
def MH:pS:=(qSeq (qIfS (qNot (qB (qUn wAll (qL (L4 [none,some 2] (qIt (qSl (qV 3) (O6 (qC (.int 1))) qNo)) (gN 0) qTru (qOp wInD (qV 0) (qV 1))))))) (qRet (qC (.bl false))) qNx)
   (qSeq (qIfS (qB (qOp (wEq 4) (qOp wIx (qV 3) (qC (.int 0))) (qC (.str (A8 "drop"))))) (qRet (qC (.bl true))) qNx)
   (qSeq (qIfS (qOr (qB (B7 Cz (A3 (qV 0) (A3 (qV 3) qNil)))) (qB (B7 CA (A3 (qV 0) (A3 (qV 1) (A3 (qV 3) qNil)))))) (qRet (qC (.bl false))) qNx)
   (qRet (Hw (qUn wAny (qL (L4 [none,some 2] (qIt (B7 V8 (A3 (qV 0) (A3 (qV 3) qNil)))) (gN 0) qTru (qOp wInD (qV 0) (qV 1))))))))))
def Gk:pF:=fnP ["start","reach","inside","event"] ["start","reach","inside","event"] MH
def MI:pS:=(qSeq (Io 3 [none] (qIt (qV 0)) (gN 0) (qV 0) (qC (.bl true)))
   (qSeq (qFor (FG (qV 2)) (gTp 2 (gCn (gN 4) (gCn (gN 5) gNl))) (qSeq (qIfS (qNot (qB (FP (B7 Gk (A3 (qV 0) (A3 (qV 1) (A3 (qV 3) (A3 (qV 5) qNil)))))))) (qRet (qTup (A3 (qC (.str (A8 "stuck"))) (A3 (qV 4) qNil)))) qNx)
   (qFor (qIt (qSl (qV 5) (O6 (qC (.int 1))) qNo)) (gN 6) (DP 3 (qV 6)))))
   (qRet (qTup (A3 (qC (.str (A8 "course"))) (A3 (B7 Bn (A3 (qV 0) (A3 (qV 2) qNil))) qNil))))))
def Ap:pF:=fnP ["start","reach","events","inside","k","event","boat"] ["start","reach","events"] MI
def MJ:pS:=(qSeq (qIfS (qOr (qNot (qB (qUn (wIsi "str") (qV 0)))) (qNot (qB (AU wLe wLe (qC (.int 1)) (qUn wLen (qV 0)) (qC (.int 8)))))) (qRet (qC (.bl false))) qNx)
   (qRet (qUn wAll (qL (L4 [none] (qIs (qV 0)) (gN 0) qTru (AU wLe wLe (qC (.str (A8 "a"))) (qV 0) (qC (.str (A8 "z")))))))))
def CB:pF:=fnP ["thing"] ["thing"] MJ
def MK:pS:=(qSeq (qIfS (qNot (qB (B7 CB (A3 (qV 3) qNil)))) (qRet (qC (.bl false))) qNx)
   (qSeq (qSet 4 (B7 Ao (A3 (qV 1) qNil)))
   (qSeq (qIfS (qB (qOp (wEq 4) (qV 2) (qC (.str (A8 "strange"))))) (qRet (T4 (qOp (wIn 4 false) (qV 3) (qV 4)) (qOp (wIn 4 true) (qV 3) (qV 0)))) qNx)
   (qRet (qOp wGt (HW (qV 4) (qV 3)) (qC (.int 1)))))))
def IX:pF:=fnP ["start","sheet","word","thing","boats"] ["start","sheet","word","thing"] MK
def ML:pS:=(qSeq (qIfS (qOr (qNot (qB (qUn (wIsi "tuple") (qV 0)))) (qB (qOp (wNe 4) (qUn wLen (qV 0)) (qC (.int 3))))) (qRet (qC (.bl false))) qNx)
   (qSeq (qAsg (qV 0) (gTp 3 (gCn (gN 1) (gCn (gN 2) (gCn (gN 3) gNl)))))
   (qSeq (qIfS (qOr (qNot (qB (qUn (wIsi "str") (qV 1)))) (qB (qOp (wNe 4) (qV 1) (qC (.str (A8 "touch")))))) (qRet (qC (.bl false))) qNx)
   (qRet (T4 (B7 CB (A3 (qV 2) qNil)) (T4 (B7 CB (A3 (qV 3) qNil)) (qOp (wNe 4) (qV 2) (qV 3))))))))
def IY:pF:=fnP ["thing","word","x","y"] ["thing"] ML
def MM:pS:=(qSeq (qIfS (qOr (qNot (qB (B7 IY (A3 (qV 2) qNil)))) (qB (qOp (wIn 4 true) (qV 2) (qV 1)))) (qRet (qC (.bl false))) qNx)
   (qRet (T4 (qOp (wIn 4 false) (qOp wIx (qV 2) (qC (.int 1))) (qV 0)) (qOp (wIn 4 false) (qOp wIx (qV 2) (qC (.int 2))) (qV 0)))))
def l6:pF:=fnP ["start","sheet","thing"] ["start","sheet","thing"] MM
def MN:pS:=(qSeq (qIfS (qNot (qB (B7 l6 (A3 (qV 0) (A3 (qV 2) (A3 (qV 4) qNil)))))) (qRet (qC (.bl false))) qNx)
   (qSeq (qIfS (qB (qOp (wEq 4) (qV 3) (qC (.str (A8 "wrong"))))) (qRet (B7 Cz (A3 (qV 0) (A3 (qV 4) qNil)))) qNx)
   (qRet (B7 CA (A3 (qV 0) (A3 (qV 1) (A3 (qV 4) qNil)))))))
def IZ:pF:=fnP ["start","reach","sheet","word","thing"] ["start","reach","sheet","word","thing"] MN
def MO:pS:=(qSeq (qIfS (qOr (qNot (qB (B7 l6 (A3 (qV 0) (A3 (qV 1) (A3 (qV 2) qNil)))))) (qNot (qB (B7 CB (A3 (qV 3) qNil))))) (qRet (qC (.bl false))) qNx)
   (qRet (T4 (qOp (wIn 4 false) (qV 3) (B7 V8 (A3 (qV 0) (A3 (qV 2) qNil)))) (qOp (wIn 4 true) (qV 3) (B7 Ao (A3 (qV 1) qNil))))))
def I_:pF:=fnP ["start","sheet","touch","thing"] ["start","sheet","touch","thing"] MO
def MP:pS:=(qSeq (qIfS (qOr (qNot (qB (B7 l6 (A3 (qV 0) (A3 (qV 1) (A3 (qV 2) qNil)))))) (qNot (qB (B7 l6 (A3 (qV 0) (A3 (qV 1) (A3 (qV 3) qNil))))))) (qRet (qC (.bl false))) qNx)
   (qRet (B7 DX (A3 (qV 0) (A3 (qV 2) (A3 (qV 3) qNil))))))
def Ja:pF:=fnP ["start","sheet","one","other"] ["start","sheet","one","other"] MP
def MQ:pS:=(qSeq (qIfS (qOr (qNot (qB (qUn (wIsi "tuple") (qV 3)))) (qOr (qB (qOp (wIn 4 true) (qUn wLen (qV 3)) (qTup (A3 (qC (.int 2)) (A3 (qC (.int 3)) qNil))))) (qNot (qB (qUn (wIsi "str") (qOp wIx (qV 3) (qC (.int 0)))))))) (qRet (qC (.bl false))) qNx)
   (qSeq (IQ 4 5 (qV 3))
   (qSeq (qIfS (qAnd (qB (qOp (wEq 4) (qUn wLen (qO 5)) (qC (.int 1)))) (qB (qOp (wIn 4 false) (qV 4) (qTup (A3 (qC (.str (A8 "strange"))) (A3 (qC (.str (A8 "twice"))) qNil)))))) (qRet (B7 IX (A3 (qV 0) (A3 (qV 2) (A3 (qV 4) (A3 (qOpR wIx (qO 5) (qC (.int 0))) qNil)))))) qNx)
   (qSeq (qIfS (qAnd (qB (qOp (wEq 4) (qUn wLen (qO 5)) (qC (.int 1)))) (qB (qOp (wIn 4 false) (qV 4) (qTup (A3 (qC (.str (A8 "wrong"))) (A3 (qC (.str (A8 "far"))) qNil)))))) (qRet (B7 IZ (A3 (qV 0) (A3 (qV 1) (A3 (qV 2) (A3 (qV 4) (A3 (qOpR wIx (qO 5) (qC (.int 0))) qNil))))))) qNx)
   (qSeq (qIfS (qAnd (qB (qOp (wEq 4) (qUn wLen (qO 5)) (qC (.int 2)))) (qB (qOp (wEq 4) (qV 4) (qC (.str (A8 "stays")))))) (qRet (B7 I_ (A3 (qV 0) (A3 (qV 2) (A3 (qOpR wIx (qO 5) (qC (.int 0))) (A3 (qOpR wIx (qO 5) (qC (.int 1))) qNil)))))) qNx)
   (qSeq (qIfS (qAnd (qB (qOp (wEq 4) (qUn wLen (qO 5)) (qC (.int 2)))) (qB (qOp (wEq 4) (qV 4) (qC (.str (A8 "cross")))))) (qRet (B7 Ja (A3 (qV 0) (A3 (qV 2) (A3 (qOpR wIx (qO 5) (qC (.int 0))) (A3 (qOpR wIx (qO 5) (qC (.int 1))) qNil)))))) qNx)
   (qRet (qC (.bl false)))))))))
def Aq:pF:=fnP ["start","reach","sheet","thing","word","parts"] ["start","reach","sheet","thing"] MQ
def MR:pS:=(qSeq (qOwn 2 (qCat (qL (L4 [none] (qIt (qV 1)) (gN 0) qTru (qTup (A3 (qC (.str (A8 "strange"))) (A3 (qV 0) qNil))))) (qL (L4 [none] (qIt (qV 1)) (gN 0) qTru (qTup (A3 (qC (.str (A8 "twice"))) (A3 (qV 0) qNil)))))))
   (qSeq (qSet 3 (qL (L4 [none] (qIt (qV 0)) (gN 0) (qB (qOp (wEq 4) (qOp wIx (qV 0) (qC (.int 0))) (qC (.str (A8 "touch"))))) (qV 0))))
   (qSeq (qFor (qIl (qV 3)) (gN 4) (qSeq (P8 (Ae 2 (qL (qCat (qL (qLst (A3 (qTup (A3 (qC (.str (A8 "wrong"))) (A3 (qV 4) qNil))) (A3 (qTup (A3 (qC (.str (A8 "far"))) (A3 (qV 4) qNil))) qNil)))) (qL (L4 [none,some 4] (qIt (qV 1)) (gN 0) qTru (qTup (A3 (qC (.str (A8 "stays"))) (A3 (qV 1) (A3 (qV 0) qNil))))))))))
   (P8 (Ae 2 (qL (L4 [none,some 4] (qIl (qV 3)) (gN 0) qTru (qTup (A3 (qC (.str (A8 "cross"))) (A3 (qV 1) (A3 (qV 0) qNil))))))))))
   (Ft 2))))
def DZ:pF:=fnP ["_law_sheet_here","_law_boats_here","_law_found","_law_touches","_law_event"] ["_law_sheet_here","_law_boats_here"] MR
def MS:pS:=(qSeq (qPar 4 5 (sV (B7 DW (A3 (qV 2) qNil))) (sV (B7 DY (A3 (qV 0) (A3 (qV 1) (A3 (qV 2) qNil))))))
   (qSeq (qSet 6 (qL (L4 [none,some 0,some 1] (qIl (qV 4)) (gN 0) qTru (B7 Ap (A3 (qV 1) (A3 (qV 2) (A3 (qV 0) qNil)))))))
   (qSeq (qSet 7 (qL (L4 [none,none] (qZip true true (qV 4) (qV 6)) (gTp 2 (gCn (gN 0) (gCn (gN 1) gNl))) (qB (qOp (wEq 6) (qOp wIx (qV 1) (qC (.int 0))) (qC (.str (A8 "course"))))) (qV 0))))
   (qSeq (qSet 8 (qL (L4 [none,some 0,some 1,some 2] (qIl (B7 DZ (A3 (qV 2) (A3 (qV 3) qNil)))) (gN 0) qTru (B7 Aq (A3 (qV 1) (A3 (qV 2) (A3 (qV 3) (A3 (qV 0) qNil))))))))
   (qSeq (qIfS (qB (qOp (wEq 6) (qV 7) (qL (qLst qNil)))) (qSeq (qSet 9 (T4 (qOp (wEq 6) (qOp wIx (qV 5) (qC (.int 0))) (qC (.str (A8 "unsound")))) (T4 (qOp wIsB (B7 Aq (A3 (qV 0) (A3 (qV 1) (A3 (qV 2) (A3 (qOp wIx (qV 5) (qC (.int 1))) qNil))))) (qC (.bl true))) (qOp (wIn 6 false) (qC (.bl true)) (qV 8)))))
   (qRet (T4 (qV 9) (qUn wAll (qL (L4 [none] (qIl (qV 6)) (gN 0) qTru (qOp (wEq 6) (qOp wIx (qV 0) (qC (.int 0))) (qC (.str (A8 "stuck")))))))))) qNx)
   (qSeq (qIfS (qOr (qB (qOp (wNe 6) (qOp wIx (qV 5) (qC (.int 0))) (qC (.str (A8 "course"))))) (qOr (qB (qOp (wIn 6 true) (qOp wIx (qV 5) (qC (.int 1))) (qV 7))) (qB (qOp (wIn 6 false) (qC (.bl true)) (qV 8))))) (qRet (qC (.bl false))) qNx)
   (qSeq (qSet 10 (B7 Bn (A3 (qV 0) (A3 (qV 2) qNil))))
   (qSeq (qIfS (qNot (qB (qUn wAll (qL (L4 [none,some 10] (qIl (qV 6)) (gN 0) qTru (qOrV (qOp (wEq 6) (qV 0) (qTup (A3 (qC (.str (A8 "course"))) (A3 (qV 1) qNil)))) (qOp (wEq 6) (qOp wIx (qV 0) (qC (.int 0))) (qC (.str (A8 "stuck")))))))))) (qRet (qC (.bl false))) qNx)
   (qSeq (qFor (qIt (qV 2)) (gN 11) (qIfS (qB (qOp (wNe 6) (B7 Ap (A3 (qV 0) (A3 (qV 1) (A3 (qOp wAdd (qOp wIx (qV 7) (qC (.int 0))) (qTup (A3 (qV 11) qNil))) qNil)))) (qTup (A3 (qC (.str (A8 "stuck"))) (A3 (qUn wLen (qV 2)) qNil))))) (qRet (qC (.bl false))) qNx))
   (qRet (qC (.bl true))))))))))))
def Gm:pF:=fnP ["_law_start","_law_reach","_law_sheet_here","_law_boats_here","_law_orders_here","_law_told","_law_heard","_law_courses","_law_shown","_law_good","_law_row","_law_event"] ["_law_start","_law_reach","_law_sheet_here","_law_boats_here"] MS
def Jb:pS:=(qSeq (qFor (u7 (qOp wAdd (qC (.int 1)) (qUn wLen (qSl (qV 0) qNo (O6 (qC (.int 4))))))) (gN 1) (qSeq (IN 2 (qV 0) (qV 1))
   (qSeq (qSet 3 (qOp wAdd (qC (.int 1)) (B7 b__law_draw (A3 (qV 2) (A3 (qC (.int 6)) qNil)))))
   (qSeq (qPar 4 5 (sV (B7 IR (A3 (qV 2) (A3 (qOp wAdd (qV 3) (qC (.int 2))) qNil)))) (sV (B7 b__law_draw (A3 (qV 2) (A3 (qC (.int 8)) qNil)))))
   (qSeq (qSet 6 (qSl (qV 4) qNo (O6 (qV 3))))
   (qFor (u7 (qC (.int 2))) (gN 7) (qSeq (qSet 8 (B7 IT (A3 (qV 2) (A3 (qV 6) (A3 (qV 5) qNil)))))
   (qSeq (qFor (u7 (B7 b__law_draw (A3 (qV 2) (A3 (qC (.int 3)) qNil)))) (gN 9) (qSet 8 (B7 IU (A3 (qV 2) (A3 (qV 6) (A3 (qV 8) (A3 (qSl (qV 4) (O6 (qV 3)) qNo) qNil)))))))
   (qIfS (qNot (qB (B7 Gm (A3 (qV 6) (A3 (qV 5) (A3 (qSl (qV 8) qNo (O6 (qC (.int 4)))) (A3 (qV 4) qNil))))))) (qRet (qC (.bl false))) qNx)))))))))
   (qRet (qC (.bl true))))
end Tb
end
section
namespace Tb
open PySem L2 Pu
def top (i:Nat):Stmt:=PySem.Challenge.pw_touchboats_k11_whole_any_order.main.body.getD i (.Pass ⟨0,0,0,0⟩)
end Tb
end
section
namespace Tb
open PySem L2 Pu
theorem MT (a b:Int):eqP (.int a) (.int b)=decide (a=b):=by
 show(a == b)=_;rw[Df]
theorem MU (a b:Str):eqP (.str a) (.str b)=decide (a=b):=by
 show(a == b)=_;rw[Df]
theorem Jc (a b:Bool):eqP (.bl a) (.bl b)=decide (a=b):=by
 show(a == b)=_;rw[Df]
theorem wsa:decide (A8 "strange"=A8 "strange")=true:=by with_unfolding_all rfl
theorem wsb:decide (A8 "twice"=A8 "strange")=false:=by with_unfolding_all rfl
theorem wsc:decide (A8 "twice"=A8 "twice")=true:=by with_unfolding_all rfl
theorem wsd:decide (A8 "wrong"=A8 "strange")=false:=by with_unfolding_all rfl
theorem wse:decide (A8 "wrong"=A8 "twice")=false:=by with_unfolding_all rfl
theorem wsf:decide (A8 "wrong"=A8 "wrong")=true:=by with_unfolding_all rfl
theorem wsg:decide (A8 "far"=A8 "strange")=false:=by with_unfolding_all rfl
theorem wsh:decide (A8 "far"=A8 "twice")=false:=by with_unfolding_all rfl
theorem wsi:decide (A8 "far"=A8 "wrong")=false:=by with_unfolding_all rfl
theorem wsj:decide (A8 "far"=A8 "far")=true:=by with_unfolding_all rfl
theorem wsk:decide (A8 "stays"=A8 "strange")=false:=by with_unfolding_all rfl
theorem wsl:decide (A8 "stays"=A8 "twice")=false:=by with_unfolding_all rfl
theorem wsm:decide (A8 "stays"=A8 "stays")=true:=by with_unfolding_all rfl
theorem wsn:decide (A8 "cross"=A8 "strange")=false:=by with_unfolding_all rfl
theorem wso:decide (A8 "cross"=A8 "twice")=false:=by with_unfolding_all rfl
theorem wsp:decide (A8 "cross"=A8 "stays")=false:=by with_unfolding_all rfl
theorem wsq:decide (A8 "cross"=A8 "cross")=true:=by with_unfolding_all rfl
theorem wsA:decide (((2:Nat):Int)=2)=true:=by with_unfolding_all rfl
theorem wsB:decide (((3:Nat):Int)=2)=false:=by with_unfolding_all rfl
set_option compiler.extract_closed false in
set_option hygiene false in
local macro_rules | `(tactic| walk_at "pd")=>`(tactic| dsimp only [dreduceIte,true_and,and_true,J5,beq_self_eq_true,Nat.reduceLeDiff,Nat.reduceLT,Int.reduceLT,Int.reduceLE,K1,MT,MU,Jc,qSeq,qNx,qSet,qOwn,qAsg,P8,qRet,Ft,qIfS,qPar,HJ,sV,sO,qPut,gAt,DB,Fu,qV,qO,qC,qOp,qOpR,qUn,wI,wI0,wAdd,wSub,wMul,Ho,wMod,wEq,wNe,wLt,wLe,wGt,AT,qB,AU,qAnd,qOr,qNot,T4,qOrV,Hw,qIf,qNil,A3,qTup,qLst,qL,wIx,qNo,O6,qSl,wSl,wLen,wAll,wAny,Z8,X0,wIsi,B7,gN,gNl,gCn,gTp,qIl,qIt,u7,qIs,capV,capS,qTru,L4,qCat,HP,HN,HQ,Z9,HF,HR,HG,Ab,tyP,isT,List.map,List.set,K2,List.length_nil,GC,CT,Eu,w9,AF,Nat.reduceSub,Nat.reduceAdd,Option.bind,AH,Bool.not_false,Bool.true_or,Bool.false_or,BL,x6,p5,String.reduceBEq,cmpb,Z6,KD,Ac,Ad,DG,decide_true,decide_false,Ci,Fy,Ae,HW,FA,FG,qZip,qFor,FO,Ah,keyV,Ai,Iy,at2_0,at2_1,at3_0,at3_1,at3_2,grd_t,Cy,wSet,FP,frz,frzS,Iu,Co,Iq,setAll,gTl,noMut,DP,Io,wInD,Iw,Cr,qOrT,FU,DV,IQ,wNotB,wIsB,wsa,wsb,wsc,wsd,wse,wsf,wsg,wsh,wsi,wsj,wsk,wsl,wsm,wsn,wso,wsp,wsq,wsA,wsB,b__law_draw,IN])
set_option hygiene false in
local macro_rules | `(tactic| walk_at "pu")=>`(tactic| (try walk_at "pd") <;> (try simp only [MT,MU,Jc,decide_true,decide_false,true_and,and_true,reduceIte,Nat.reduceLeDiff,Nat.reduceLT,Int.reduceLT,Int.reduceLE,K1,beq_self_eq_true,J5]))
def Good:Ev->Prop
 |.d x=>F4 x
 |.t x y=>x≠y/\F4 x/\F4 y
def SrE (es:List Ev):Prop:=(es.map evP).Pairwise λa b=>lexK (keyP b) (keyP a)=false
theorem erase_perm {α:Type}:∀(l:List α) (i:Nat) (h:i<l.length),(l[i]::l.eraseIdx i).Perm l
 |x::l,0,_=>.refl _
 | x :: l, i + 1, h => by
  have h0:i<l.length:=by simpa using h
  have ih:=erase_perm l i h0;exact(EX x l[i] (l.eraseIdx i)).trans (ih.cons x)
theorem Th (N:Nat)(hN:N<=999999000):∀(m:Nat) (left found:List PV) (n:Nat),left.length=m->found.length+left.length<=1000->left.all (cmpb 3)=true->n+left.length<=N->
   (∀ys n',ys.Perm (found++left)->n'<=n+left.length->D.nx [some (.v (.pot (k+1))),s1,some (.own []),some (.own ys)] n')->
   Aa (qB (qOpR (wNe 4) (qO 2) (qL (qLst qNil)))) (P8 (Z9 3 (HR 2 (B7 b__law_draw (A3 (qV 0) (A3 (qUn wLen (qO 2)) qNil)))))) D (m+1) [some (.v (.pot (k+1))),s1,some (.own left),some (.own found)] n:=by
 intro m
 induction m with
 | zero =>
  intro left found n hl hs pl hn hD;have:left=[]:=Bz hl;subst this;simp only[Aa];walk_at "pu";exact hD found n (by simp) (by omega)
 | succ m ih =>
  intro left found n hl hs pl hn hD;cases left with
  |nil=>cases hl
  | cons y r =>
   rw[Aa];have hl':r.length=m:=by simpa using hl
   rw[K2] at hs hn;walk_at "pu";refine gd2 pl rfl (if_t rfl ⟨⟨_,rfl⟩,⟨_,rfl⟩,⟨by omega,by omega,by omega⟩,λd d0 d1=>⟨by omega,?_⟩⟩);have d1':d<((y::r).length:Int):=by rw[K2];exact d1
   rw[Dq (n:=r.length+1) d0 d1];have hk:d.toNat<(y::r).length:=by omega
   dsimp only;rw[D8 hk];refine⟨by omega,?_⟩;have le:((y::r).eraseIdx d.toNat).length=r.length:=by rw[GA hk];rfl
   refine ih ((y::r).eraseIdx d.toNat) (found++[(y::r)[d.toNat]]) (n+1) (by omega) (by rw[D4,O8,le];omega) (J4.mpr λz hz=>J4.mp pl z (List.mem_of_mem_eraseIdx hz)) (by omega) λys n' p h'=>?_;rw[le] at h';refine hD ys n' (p.trans ?_) (by rw[K2];omega);rw[N6];exact(erase_perm _ _ hk).append_left found
theorem m_shuf (hx:x=.lst xs\/x=.tup xs)(hl:xs.length<=1000)(hn:n<=999990000)(hp:xs.all (cmpb 3)=true)(h:∀ys n',ys.Perm xs->n'<=n+xs.length->R (.tup ys) n'):Ge [.pot (k+1),x] n R:=by
 rcases hx with rfl|rfl
 all_goals
   refine⟨rfl,?_⟩;unfold Mp;walk_at "pu";exact⟨_,Th 999999000 (C7 _) xs.length xs [] n rfl (by simpa using hl) hp (by omega) λys n' p h'=>h ys n' (by simpa using p) h'⟩
def chI (x:Int):Nat:=97+(x%26).toNat
theorem Jd (x:Int):atI LETS.cps.toList (x%26)=some (chI x):=by
 have h:∀n:Nat,n<26->atI LETS.cps.toList (n:Int)=some (97+n):=by decide
 have h0:0<=x%26:=BT _ (by decide);have h1:x%26<26:=BR _ (by decide);have:=h (x%26).toNat (by omega);rw[show(((x%26).toNat:Nat):Int)=x%26 by omega] at this;exact this
theorem chI_d (d0:0<=d)(d1:d<26):atI LETS.cps.toList d=some (chI d):=by
 have:=Jd d;rw[show d%26=d by omega] at this;exact this
theorem Bp:(p8 ⟨#[c]⟩ n).cps.toList=AF n.toNat c:=by
 rw[Pp]
 induction n.toNat with
 |zero=>rfl
 |succ k ih=>rw[List.replicate_succ,List.flatten_cons,ih];rfl
theorem D_ (x:Int):Ltr (chI x):=by unfold chI;exact⟨by omega,by omega⟩
def one1 (y:PV):Prop:=∃c:Nat,Ltr c/\y=.str ⟨#[c]⟩
theorem Ti:∀ys:List PV,(∀y∈ys,one1 y)->∃zs:List Str,Q4 ys=some zs/\zs.length=ys.length/\(zs.map (·.length)).sum=ys.length/\(Txt.join (A8 "") zs).length=ys.length/\∀c∈(Txt.join (A8 "") zs).cps.toList,Ltr c:=by
 intro ys h
 have key:∃zs:List Str,Q4 ys=some zs/\zs.length=ys.length/\(zs.map (·.length)).sum=ys.length/\(zs.map λz=>z.cps.toList).flatten.length=ys.length/\∀c∈(zs.map λz=>z.cps.toList).flatten,Ltr c:=by
  induction ys with
  |nil=>exact⟨[],rfl,rfl,rfl,rfl,λ_ z=>nomatch z⟩
  | cons y ys ih =>
   obtain⟨c,lc,rfl⟩:=h y C6;obtain⟨zs,e1,e2,e3,e4,e5⟩:=ih λz hz=>h z (C5 _ hz);refine⟨⟨#[c]⟩::zs,?_,by rw[K2,K2,e2],?_,?_,λa ha=>?_⟩
   ·show(Q4 ys).map _=_;rw[e1];rfl
   ·rw[F2,List.sum_cons,e3,K2];show 1+_=_;omega
   ·rw[F2,List.flatten_cons,D4,e4,show(PV.str ⟨#[c]⟩::ys).length=ys.length+1 from rfl];show 1+_=_;omega
   ·rw[F2,List.flatten_cons] at ha;rcases E2.mp ha with ha|ha
    ·rw[show a=c from E1.mp ha];exact lc
    ·exact e5 a ha
 obtain⟨zs,e1,e2,e3,e4,e5⟩:=key;exact⟨zs,e1,e2,e3,by rw[Ca,Kb];exact e4,by rw[Kb];exact e5⟩
structure Ky (way fi sp:Int)(j:Nat)(z:Str):Prop where
 a:way=0->z.cps.toList[0]?=some (chI (fi+7*j))
 b:way=1->z.cps.toList=AF (1+j%8) (chI (fi+((j/8:Nat):Int)))
 c:1<way->z.cps.toList[sp.toNat]?=some (chI (fi+7*j))
 d:F4 z
theorem MV {j k:Nat}(hj:j<26)(hk:k<26)(h:chI (fi+7*j)=chI (fi+7*k)):j=k:=by
 unfold chI at h;omega
theorem Ky.inj (w0:0<=way)(hj:j<26)(hk:k<26)(h1:Ky way fi sp j z)(h2:Ky way fi sp k z):j=k:=by
 by_cases c0:way=0
 ·have:=(h1.a c0).symm.trans (h2.a c0);exact MV hj hk (M9 this)
 ·by_cases c1:way=1
  ·have e:=(h1.b c1).symm.trans (h2.b c1);have l:=congrArg List.length e;rw[i3,i3] at l;have hd:=congrArg (λl=>l[0]?) e;simp only[Ep] at hd;rw[jt (by omega),jt (by omega)] at hd;have hd:=M9 hd;unfold chI at hd;omega
  ·have:=(h1.c (by omega)).symm.trans (h2.c (by omega));exact MV hj hk (M9 this)
theorem Tj {zs:List Str}(w0:0<=way)(hl:zs.length<=26)(h:∀(j:Nat) (z:Str),zs[j]?=some z->Ky way fi sp j z):zs.Nodup:=by
 refine Y5.mpr λi j hi hj hij e=>?_;have e1:=D8 hi;have e2:=D8 hj;have k1:=h i _ e1;have k2:=h j zs[i] (by rw[e2,e]);have:=Ky.inj w0 (by omega) (by omega) k1 k2;omega
theorem MW {α:Type}{x:α}:∀{l:List α} (i:Nat),l.Nodup->x∉l->(l.set i x).Nodup
 |[],_,h,_=>h
 | y :: l, 0, h, hx => by
  rw[List.set_cons_zero,Q2];exact⟨λz=>hx (C5 _ z),(Q2.mp h).2⟩
 | y :: l, i + 1, h, hx => by
  rw[List.set_cons_succ,Q2];refine⟨λz=>?_,MW i (Q2.mp h).2 λz=>hx (C5 _ z)⟩;rcases List.mem_or_eq_of_mem_set z with z|z
  ·exact(Q2.mp h).1 z
  ·exact hx (by rw[<- z];exact C6)
theorem Tm {α β:Type}{f:α->β}{ys:List β}{xs:List α}(h:ys.Perm (xs.map f)):∃zs:List α,ys=zs.map f/\zs.Perm xs:=by
 generalize e:xs.map f=l at h
 induction h generalizing xs with
 |nil=>exact⟨[],rfl,by rw[List.map_eq_nil_iff.mp e]⟩
 | @cons y l1 l2 h ih =>
  cases xs with
  |nil=>cases e
  | cons x xs =>
   rw[F2] at e;injection e with e1 e2;obtain⟨zs,rfl,p⟩:=ih e2;exact⟨x::zs,by rw[F2,e1],p.cons x⟩
 | @swap a b l =>
  match xs,e with
  | x :: x' :: xs, e =>
   rw[F2,F2] at e;injection e with e1 e;injection e with e2 e3;exact⟨x'::x::xs,by rw[F2,F2,e1,e2,e3],.swap ..⟩
 | @trans l1 l2 l3 h1 h2 ih1 ih2 =>
  obtain⟨zs,rfl,p⟩:=ih2 e;obtain⟨ws,rfl,p'⟩:=ih1 rfl;exact⟨ws,rfl,p'.trans p⟩
theorem Je (zs:List Str)(d:Nat):(zs.map PV.str).all (cmpb d)=true:=DT zs d
theorem Tn {k n:Nat}{many:Int}{R:PV->Nat->Prop}(h0:1<=many)(h1:many<=26)(hn:n<=999900000)(h:∀zs n',(zs.length:Int)=many->RowS zs->n'<=n + 1000->R (rowP zs) n'):IR [.pot (k + 1),.int many] n R:=by
 refine⟨rfl,?_⟩;unfold Mq;have jl:(A8 "").length=0:=rfl;have l26:LETS.length=26:=by decide +kernel
 walk_at "pu";refine⟨by omega,λway w0 w1=>⟨by omega,λfi f0 f1=>⟨by omega,λsz z0 z1=>⟨⟨by omega,by omega,by omega⟩,λsp p0 p1=>⟨by omega,λfl l0 l1=>⟨by rw[show(A8 "abcdefghijklmnopqrstuvwxyz").length=26 from l26];decide,?_⟩⟩⟩⟩⟩⟩;rw[chI_d l0 l1];have hc:=D_ fl;generalize chI fl=c at hc ⊢;refine⟨⟨by omega,by omega⟩,?_⟩;refine Q8 (λi env m=>∃s9 s10,∃found:List Str,env=[some (.v (.pot (k+1))),some (.v (.int many)),some (.v (.str LETS)),some (.own (found.map PV.str)),some (.v (.int way)),some (.v (.int fi)),some (.v (.int (1+sz))),some (.v (.int sp)),some (.v (.str ⟨#[c]⟩)),s9,s10,none]/\found.length=i/\(∀(j:Nat) (z:Str),found[j]?=some z->Ky way fi sp j z)/\m<=n+5+i*9) _ 0 _ _ ⟨none,none,[],rfl,rfl,(λ_ _ z=>nomatch z),by omega⟩ (λi x env m N ex hI hN=>?_) (λenv m hI=>?_)
 ·obtain⟨hi,rfl⟩:=DF ex;obtain⟨s9,s10,found,rfl,hf,pf,hm⟩:=hI;have hi2:i<26:=by omega
  have fin:∀(z:Str) (m':Nat),Ky way fi sp i z->m'<=m+9->(∃xs,([some (.v (.pot (k+1))),some (.v (.int many)),some (.v (.str LETS)),some (.own (found.map PV.str)),some (.v (.int way)),some (.v (.int fi)),some (.v (.int (1+sz))),some (.v (.int sp)),some (.v (.str ⟨#[c]⟩)),some (.v (.int (0+i))),some (.v (.str z)),none]:Pu.Env)[3]?=some (some (.own xs)))/\(found.map PV.str).length<1000000/\N [some (.v (.pot (k+1))),some (.v (.int many)),some (.v (.str LETS)),some (.own (found.map PV.str++[.str z])),some (.v (.int way)),some (.v (.int fi)),some (.v (.int (1+sz))),some (.v (.int sp)),some (.v (.str ⟨#[c]⟩)),some (.v (.int (0+i))),some (.v (.str z)),none] m':=by
   intro z m' az hm';refine⟨⟨_,rfl⟩,by rw[B4];omega,hN _ _ ⟨_,_,found++[z],by rw[M6];rfl,by rw[D4,O8];omega,λj y hy=>?_,by omega⟩⟩
   by_cases cj:j<found.length
   ·rw[Y4 cj] at hy;exact pf j y hy
   ·have hj:j=found.length:=by
     obtain⟨hh,_⟩:=G4.mp hy;rw[D4,O8] at hh;omega
    subst hj;rw[Y3 (C7 _),BK] at hy;have hy':z=y:=by simpa using hy
    rw[<- hy',hf,K7];exact az
  have ec1:=Jd (fi+7*(0+i));have ll:LETS.length<=1000000:=by rw[l26];decide
  have zi:(0:Int)+(i:Int)=(i:Int):=by omega
  generalize hF:found.map PV.str=FF at fin ⊢;walk_at "pu";simp only[ec1,ll,true_and];have Ea:∀c:Nat,(⟨#[c]⟩:Str).length=1:=λ_=>rfl;have e8:0<=(0+(i:Int))%8/\(0+(i:Int))%8<8:=⟨BT _ (by decide),BR _ (by decide)⟩;refine⟨.inl ⟨by decide,by decide⟩,?_⟩
  by_cases a0:way=0
  ·have b0:decide (way=0)=true:=jq a0;have b1:decide (way=1)=false:=jr (by omega);have b2:decide (1<way)=false:=jr (by omega);simp only[b0,b1,b2,reduceIte,J5];refine⟨by omega,λd d0 d1=>⟨⟨by omega,by omega⟩,by rw[Bc];omega,?_⟩⟩;refine Kz one1 1 999999000 _ _ _ _ (λy hy m Q hm hQ=>?_) (by rw[Bc];omega) λys n2 hl hp hn2=>?_
   ·walk_at "pu";refine⟨by omega,λu u0 u1=>⟨ll,?_⟩⟩;rw[chI_d u0 u1];exact hQ _ _ ⟨_,D_ _,rfl⟩ (by omega)
   ·rw[Bc] at hl hn2;obtain⟨zs,e1,l1,l2,hJ,hL⟩:=Ti ys hp;rw[e1];dsimp only;generalize Txt.join (A8 "") zs=J at hJ hL ⊢;refine⟨by rw[l2,jl];omega,by rw[Ea];omega,fin _ _ ⟨λ_=>?_,λz=>absurd (a0.symm.trans z) (by decide),λz=>by omega,?_⟩ (by omega)⟩
    ·rw[t9,zi];rfl
    ·unfold F4;rw[Ca] at hJ;rw[t9,D4,show((⟨#[chI (fi+7*(0+i))]⟩:Str).cps.toList)=[chI (fi+7*(0+i))] from rfl,O8];exact⟨by omega,by omega,λc hc=>(E2.mp hc).elim (λz=>by rw[E1.mp z];exact D_ _) (hL c)⟩
  ·have b0:decide (way=0)=false:=jr a0
   by_cases a1:way=1
   ·have b1:decide (way=1)=true:=jq a1;have b2:decide (1<way)=false:=jr (by omega);simp only[b0,b1,b2,reduceIte,J5];have ec2:=Jd (fi+(0+i)/8);simp only[ec2];refine⟨⟨by decide,by decide⟩,by rw[Ea];decide,by omega,by omega,fin _ _ ⟨λz=>absurd z a0,λ_=>?_,λz=>by omega,by unfold F4;rw[Bp,i3];exact⟨by omega,by omega,λc hc=>by rw[GB hc];exact D_ _⟩⟩ (by omega)⟩;rw[Bp,show(1+(0+(i:Int))%8).toNat=1+i%8 by omega,show fi+(0+(i:Int))/8=fi+((i/8:Nat):Int) by omega]
   ·have b1:decide (way=1)=false:=jr a1;have b2:decide (1<way)=true:=jq (by omega);simp only[b0,b1,b2,reduceIte,J5];have g1:(p8 ⟨#[c]⟩ sp).length<=8:=by rw[Ca,Bp,i3];omega
    have g2:(p8 ⟨#[c]⟩ (1+sz-1-sp)).length<=8:=by rw[Ca,Bp,i3];omega
    have g3:(p8 ⟨#[c]⟩ sp++(⟨#[chI (fi+7*(0+i))]⟩:Str)).length<=9:=by
     rw[Ca] at g1 ⊢;rw[t9,D4];show _+1<=9;omega
    refine⟨by rw[Ea];decide,by omega,by omega,by rw[Ea];omega,by rw[Ea];decide,by omega,by omega,by omega,fin _ _ ⟨λz=>absurd z a0,λz=>absurd z a1,λ_=>?_,?_⟩ (by omega)⟩
    rotate_left
    ·unfold F4;rw[t9,t9,Bp,Bp,D4,D4,i3,i3];refine⟨by show 1<=_+1+_;omega,by show _+1+_<=8;omega,λd hd=>?_⟩;rcases E2.mp hd with hd|hd
     ·rcases E2.mp hd with hd|hd
      ·rw[GB hd];exact hc
      ·rw[E1.mp hd];exact D_ _
     ·rw[GB hd];exact hc
    rw[t9,t9,Bp,zi,N6,Y3 (by rw[i3];exact C7 _),i3,BK]
    rfl
 ·obtain⟨s9,s10,found,rfl,hf,pf,hm⟩:=hI;rw[Bc] at hf hm;have nd:RowS found:=⟨Tj w0 (by omega) pf,λz hz=>by obtain⟨j,e⟩:=List.getElem?_of_mem hz;exact(pf j z e).d⟩;generalize hF:found.map PV.str=FF;walk_at "pu"
  have sh:∀(ys:List Str) (m':Nat),ys.length=found.length->RowS ys->m'<=m+5->Ge [PV.pot (k+1),PV.lst (ys.map PV.str)] m' λr n2=>R r n2:=λys m' e p hm'=>m_shuf (.inl rfl) (by rw[B4];omega) (by omega) (Je _ _) λzs n' p2 h2=>by
   obtain⟨ws,rfl,pw⟩:=Tm p2;rw[B4] at h2;exact h ws n' (by rw[pw.length_eq];omega) (p.perm pw) (by omega)
  refine⟨by omega,λd d0 d1=>?_⟩;obtain⟨x,hx,ex⟩:=KA (xs:=[PV.str (A8 "drop"),PV.str (A8 "touch"),PV.str (A8 "none"),PV.str (A8 "d"),PV.str (A8 "u"),PV.str (A8 "t"),PV.str (A8 "o")]) d0 d1;rw[ex]
  have bx:∃z:Str,x=.str z/\F4 z:=by
   simp only[D0,AE,or_false] at hx;rcases hx with rfl|rfl|rfl|rfl|rfl|rfl|rfl <;> exact⟨_,rfl,by decide,by decide,by unfold Ltr;decide⟩
  obtain⟨z,rfl,bz⟩:=bx;refine⟨by omega,λe e0 e1=>?_⟩
  by_cases c0:e=0
  ·rw[jt (jq c0)];subst hF;refine Iz rfl ?_
   by_cases cz:z∈found
   ·exact if_f (by rw[jq cz];rfl) (sh found _ rfl nd (by omega))
   ·refine if_t (by rw[jr cz];rfl) ⟨⟨_,rfl⟩,⟨by omega,by omega,by omega⟩,λj j0 j1=>?_⟩;rw[Dq j0 (by rw[B4];omega)];have:=sh (found.set j.toNat z) _ (P0 ..) ⟨MW j.toNat nd.1 cz,λa ha=>(List.mem_or_eq_of_mem_set ha).elim (nd.2 a) λe=>by rw[e];exact bz⟩ (show m+1+1+1<=m+5 by omega);rw[List.map_set] at this;exact this
  ·rw[ju (by simpa using c0)];subst hF;exact sh found _ rfl nd (by omega)
def btw (st:List Str)(x y:Str):List Str:=(st.take (ixS st x)).drop (ixS st y+1)
def lcan (st:List Str)(r:Int)(out:List Str)(e:Ev):Bool:=
 (evB e).all (λb=>decide (b∈st)&&!decide (b∈out))&&(match e with
  |.d _=>true
  |.t x y=>decide (ixS st y<ixS st x)&&(decide (((btw st x y).length:Int)<=r)&&(btw st x y).all λb=>decide (b∈out)))
theorem Ar {α:Type}(xs:List α)(f:α->Bool):j9 (xs.map λx=>PV.bl (f x))=some (xs.map f):=by
 rw[<- Kp (xs.map f),T0];rfl
theorem CC {α:Type}(xs:List α)(f:α->Bool):(xs.map f).all id=xs.all f:=by rw[Db];rfl
theorem MX {α:Type}(xs:List α)(f:α->Bool):(xs.map f).any id=xs.any f:=by rw[AG];rfl
theorem lc_d:lcan st r out (.d x)=[x].all (λb=>decide (b∈st)&&!decide (b∈out)):=by unfold lcan;rw[BM];rfl
theorem cmp_ev (e:Ev)(d:Nat):cmpb (d+1) (evP e)=true:=by cases e <;> cases d <;> rfl
theorem Gn (es:List Ev)(d:Nat):(es.map evP).all (cmpb (d+1))=true:=J4.mpr λy hy=>by
 obtain⟨e,_,rfl⟩:=E5.mp hy;exact cmp_ev e d
theorem at_hd {α:Type}{x:α}{xs:List α}:atI (x::xs) 0=some x:=Fe (xs:=x::xs) (j:=0) rfl
theorem ev_eqP (h:eqP (evP a) (evP b)=true):a=b:=by
 cases a with
 | d x =>
  cases b with
  | d y =>
   rw[X6,X6] at h;simp only[Ac,Ad,DG,k6,BM,decide_true,x6,decide_eq_true_eq] at h;rw[h]
  | t y z =>
   rw[X6,P2] at h;simp only[Ac,Ad,k6] at h;rw[show decide (DROP=N5)=false by decide +kernel,p5] at h;cases h
 | t x x' =>
  cases b with
  | d y =>
   rw[X6,P2] at h;simp only[Ac,Ad,k6] at h;rw[show decide (N5=DROP)=false by decide +kernel,p5] at h;cases h
  | t y z =>
   rw[P2,P2] at h;simp only[Ac,Ad,DG,k6,BM,decide_true,x6,V4,decide_eq_true_eq] at h;rw[h.1,h.2]
theorem To (a:Ev):eqP (evP a) (evP a)=true:=by
 cases a with
 |d x=>rw[X6];simp[Ac,Ad,DG,k6]
 |t x y=>rw[P2];simp[Ac,Ad,DG,k6]
theorem Tp (e:Ev)(h:evP e=.tup xs):cutP xs (some 1) none=(evB e).map PV.str:=by
 cases e with
 |d x=>rw[X6] at h;cases h;rfl
 |t x y=>rw[P2] at h;cases h;rfl
def wlk (st:List Str)(r:Int):List Ev->Nat->List Str->Option Nat
 |[],_,_=>none
 |e::es,k,out=>if lcan st r out e=true then wlk st r es (k+1) (out++evB e) else some k
def resW (w:Option Nat)(row:List Str):PV:=match w with
 |some k=>.tup [.str (A8 "stuck"),.int (k:Int)]
 |none=>.tup [.str (A8 "course"),rowP row]
theorem Go (h:lcan st r out e=true):∀b∈evB e,b∈st/\b∉out:=by grind [Ev,evB,lcan]
theorem Tq (h:Srt ys [.int a,.int b]):ys=[.int (min a b),.int (max a b)]:=by
 obtain⟨p,q⟩:=h;have l:=p.length_eq
 match ys,l with
 | [u, v], _ =>
  have hq:lexK (keyP v) (keyP u)=false:=by simpa using q
  have two:(u=.int a/\v=.int b)\/(u=.int b/\v=.int a):=by
   have hu:u∈[PV.int a,PV.int b]:=p.mem_iff.mp (by simp);rcases D0.mp hu with e|hu
   ·subst e;exact .inl ⟨rfl,by simpa using(List.perm_cons _).mp p⟩
   ·have e:u=.int b:=by simpa using hu
    subst e;have p2:=p.trans (EX (PV.int b) (PV.int a) []);exact .inr ⟨rfl,by simpa using(List.perm_cons _).mp p2⟩
  rcases two with⟨rfl,rfl⟩|⟨rfl,rfl⟩
  ·have:¬b<a:=by
    intro c
    have e:lexK [O5 b] [O5 a]=true:=by
     show(if(O5 b:Key)=O5 a then lexK [] [] else decide (b<a))=true;rw[ju (by intro z;cases z;omega)];exact jq c
    rw[show keyP (PV.int b)=[O5 b] from rfl,show keyP (PV.int a)=[O5 a] from rfl,e] at hq;cases hq
   rw[show min a b=a by omega,show max a b=b by omega]
  ·have:¬a<b:=by
    intro c
    have e:lexK [O5 a] [O5 b]=true:=by
     show(if(O5 a:Key)=O5 b then lexK [] [] else decide (a<b))=true;rw[ju (by intro z;cases z;omega)];exact jq c
    rw[show keyP (PV.int b)=[O5 b] from rfl,show keyP (PV.int a)=[O5 a] from rfl,e] at hq;cases hq
   rw[show min a b=b by omega,show max a b=a by omega]
theorem CD (hs:st.length<=100)(hx:x∈st)(hy:y∈st)(h:R (rowP (btwU st x y)) n):V8 [rowP st,evP (.t x y)] n R:=by
 refine⟨rfl,?_⟩;unfold MB;have hix:∀z∈st,∀{R:PV->Prop},R (.int (ixS st z))->Bf (.tup (st.map PV.str)) (.str z) R:=λz hz {R} q=>m_ix rfl hz (by omega) q;have hr0:rowP st=.tup (st.map PV.str):=rfl;have lx:=Cs hx;have ly:=Cs hy
 have hcut:cutP (st.map PV.str) (some (min (ixS st x:Int) (ixS st y)+1)) (some (max (ixS st x:Int) (ixS st y)))=(btwU st x y).map PV.str:=by
  have:=cut_ab (st.map PV.str) (a:=min (ixS st x) (ixS st y)+1) (b:=max (ixS st x) (ixS st y)) (by rw[B4];omega);unfold btwU;rw[List.map_drop,List.map_take,<- this]
  congr 2 <;> omega
 generalize hZ:st.map PV.str=Z at *;rw[hr0,P2];walk_at "pu";refine⟨⟨_,rfl⟩,hix x hx ?_⟩;refine⟨⟨_,rfl⟩,hix y hy ?_⟩;refine⟨.inl (by simp),λys hys=>?_⟩;rw[Tq hys];refine⟨rfl,?_⟩;walk_at "pu";rw[hcut];exact h
theorem Jf {st:List Str}{x y:Str}{n:Nat}{R:PV->Nat->Prop}(hs:st.length<=100)(hx:x∈st)(hy:y∈st)(h:R (.bl (decide (ixS st x<ixS st y))) n):Cz [rowP st,evP (.t x y)] n R:=by
 refine⟨rfl,?_⟩;unfold MA;have hix:∀z∈st,∀{R:PV->Prop},R (.int (ixS st z))->Bf (.tup (st.map PV.str)) (.str z) R:=λz hz {R} q=>m_ix rfl hz (by omega) q;have hr0:rowP st=.tup (st.map PV.str):=rfl;generalize hZ:st.map PV.str=Z at *;rw[hr0,P2];walk_at "pu";refine⟨⟨_,rfl⟩,hix y hy ?_⟩;refine⟨⟨_,rfl⟩,hix x hx ?_⟩;dsimp only;rw[show decide ((ixS st x:Int)<ixS st y)=decide (ixS st x<ixS st y) by rw[decide_eq_decide];omega];exact h
theorem Jg (hs:st.length<=100)(hx:x∈st)(hy:y∈st)(h:R (.bl (decide (r<((btwU st x y).length:Int)))) n):CA [rowP st,.int r,evP (.t x y)] n R:=by
 refine⟨rfl,?_⟩;unfold MC;generalize hS:rowP st=S;generalize hT:evP (.t x y)=T;walk_at "pu";subst hS hT;refine CD hs hx hy ?_;dsimp only;rw[B4];exact h
theorem Jh (hl:es.length<=1000000)(h:R (.lst ((es.filter isTo).map evP)) n):Bm [shP es] n R:=by
 refine⟨rfl,?_⟩;unfold Mu shP;generalize hE:es.map evP=E;have El:E.length=es.length:=by rw[<- hE,B4]
 walk_at "pu";refine⟨by omega,?_⟩;rw[<- hE];refine DS evP isTo _ _ _ _ (λe he m Q hQ=>?_) h;cases e with
 | d x =>
  rw[X6] at *;walk_at "pu";rw[IF];exact hQ
 | t x y =>
  rw[P2] at *;walk_at "pu";exact hQ
theorem Ji:∀(es:List Ev) (s0 s1:Option Pu.Slot) (n:Nat) (R:List PV->Nat->Prop),R ((es.flatMap evB).map PV.str) n->Bg (gN 0) (qIt (qSl (qV 0) (O6 (qC (.int 1))) qNo)) (gN 1) qTru (qV 1) (es.map evP) [s0,s1] n R
 |[],_,_,_,_,h=>h
 | .d x :: es, s0, s1, n, R, h => by
  have ih:=Ji es (some (.v (.tup [.str DROP,.str x]))) (some (.v (.str x))) n (λws n4=>R (.str x::ws) n4) h;rw[F2,X6];have e:cutP [PV.str DROP,PV.str x] (some 1) none=[.str x]:=rfl;generalize es.map evP=E at *;unfold Bg;walk_at "pu";rw[e];exact⟨by simp,ih⟩
 | .t x y :: es, s0, s1, n, R, h => by
  have ih:=Ji es (some (.v (.tup [.str N5,.str x,.str y]))) (some (.v (.str y))) n (λws n4=>R (.str x::.str y::ws) n4) h;rw[F2,P2];have e:cutP [PV.str N5,PV.str x,PV.str y] (some 1) none=[.str x,.str y]:=rfl;generalize es.map evP=E at *;unfold Bg;walk_at "pu";rw[e];exact⟨by simp,ih⟩
theorem Eb (hl:es.length<=1000)(h:R (.lst ((es.flatMap evB).map PV.str)) n):Ao [shP es] n R:=by
 refine⟨rfl,?_⟩;unfold My shP;have go:=λR' h'=>Ji es none none n R' h';generalize hE:es.map evP=E at *;have El:E.length=es.length:=by rw[<- hE,B4]
 walk_at "pu"
 grind
def evL (st:List Str):Ev->Int
 |.d _=>0
 |.t x y=>((btwU st x y).length:Int)
theorem MY {st:List Str}{n:Nat}(hs:st.length<=100):∀(ts:List Ev) (R:List Int->Nat->Prop),(∀e∈ts,∃x y,e=.t x y/\x∈st/\y∈st)->R (ts.map (evL st)) n->Bi (qUn wLen (B7 V8 (A3 (qV 1) (A3 (qV 0) qNil)))) (rowP st) (ts.map evP) n R
 |[],R,_,h=>h
 | e :: ts, R, ht, h => by
  obtain⟨x,y,rfl,hx,hy⟩:=ht e C6;have ih:=MY hs (n:=n) ts (λks n2=>R (evL st (.t x y)::ks) n2) (λe he=>ht e (C5 _ he)) h;have mb:∀{R:PV->Nat->Prop},R (rowP (btwU st x y)) n->V8 [rowP st,evP (.t x y)] n R:=λq=>CD hs hx hy q;rw[F2];generalize ts.map evP=E at *;generalize hW:rowP st=W at *;generalize hT:evP (.t x y)=T at *;unfold Bi;walk_at "pu";refine mb ?_
  try dsimp only
  refine⟨_,rfl,?_⟩;have e:(((btwU st x y).map PV.str).length:Int)=evL st (.t x y):=by rw[B4];rfl
  rw[e];exact ih
theorem Tr {ts:List Ev}{f:Ev->Int}{ys:List PV}(h:SrtK (ts.map f) (ts.map evP) ys):∃ts':List Ev,ys=ts'.map evP/\ts'.Perm ts/\ts'.Pairwise λa b=>f a<=f b:=by
 obtain⟨ps,hp,rfl,ho⟩:=h
 have e:(ts.map f).zip (ts.map evP)=ts.map λe=>(f e,evP e):=by
  clear hp
  induction ts with
  |nil=>rfl
  |cons t ts ih=>simp[ih]
 rw[e] at hp;obtain⟨l,pl,rfl⟩:=LG hp ts rfl;refine⟨l,by rw[T0];rfl,pl,?_⟩;rw[o5] at ho;exact ho
def isDr (e:Ev):Bool:=!isTo e
inductive Rs where
 |strange (b:Str)|twice (b:Str)|wrong (x y:Str)|far (x y:Str)|stays (x y z:Str)|cross (x y x' y':Str)
def rsP:Rs->PV
 |.strange b=>.tup [.str (A8 "strange"),.str b]
 |.twice b=>.tup [.str (A8 "twice"),.str b]
 |.wrong x y=>.tup [.str (A8 "wrong"),evP (.t x y)]
 |.far x y=>.tup [.str (A8 "far"),evP (.t x y)]
 |.stays x y z=>.tup [.str (A8 "stays"),evP (.t x y),.str z]
 |.cross x y x' y'=>.tup [.str (A8 "cross"),evP (.t x y),evP (.t x' y')]
theorem Gp (w:Rs):∃a l,rsP w=.tup (a::l):=by cases w <;> exact⟨_,_,rfl⟩
abbrev four (x y x' y':Str):Prop:=((met (X3 [x,y,x',y']) [x,y,x',y'].length).length:Int)=4
def Tin (st:List Str)(es:List Ev)(x y:Str):Prop:=Ev.t x y∈es/\x∈st/\y∈st
def isRs (r:Int)(st:List Str)(es:List Ev):Rs->Prop
 |.strange b=>b∈es.flatMap evB/\b∉st
 |.twice b=>2<=(es.filter λe=>decide (b∈evB e)).length
 |.wrong x y=>Tin st es x y/\ixS st x<ixS st y
 |.far x y=>Tin st es x y/\r<((btwU st x y).length:Int)
 |.stays x y z=>Tin st es x y/\z∈btwU st x y/\z∉es.flatMap evB
 |.cross x y x' y'=>Tin st es x y/\Tin st es x' y'/\four x y x' y'/\¬(x'∈btwU st x y↔y'∈btwU st x y)
def cntS (x:Str)(l:List Str):Int:=PySem.Spec.countIn (.str x) (l.map PySem.PyData.str)
theorem v4 (x y:Str)(l:List Str):cntS x (y::l)=(if y=x then 1 else 0)+cntS x l:=by
 show(if PySem.Spec.same (.str y) (.str x) then 1 else 0)+cntS x l=_;have e:PySem.Spec.same (.str y) (.str x)=decide (y=x):=rfl
 grind
theorem MZ (x:Str):∀l:List Str,0<=cntS x l
 |[]=>Int.le_refl _
 | y :: l => by
  rw[v4];have:=MZ x l
  split <;> omega
theorem M_:∀{l:List Str},x∈l->1<=cntS x l
 | y :: l, h => by
  rw[v4];have:=MZ x l
  by_cases c:y=x
  ·grind
  ·rw[ju c];have:=M_ ((D0.mp h).elim (λz=>absurd z.symm c) id);omega
theorem Na:∀{l:List Str},(∀b∈l,cntS b l<=1)->l.Nodup
 |[],_=>Ew
 | y :: l, h => by
  refine Q2.mpr ⟨λz=>?_,Na λb hb=>?_⟩
  ·have h1:=h y C6;rw[v4,jt rfl] at h1;have:=M_ z;omega
  ·have h1:=h b (C5 _ hb);rw[v4] at h1
   split at h1 <;> omega
theorem Gq (b:Str):∀{es:List Ev},(∀e∈es,Good e)->cntS b (es.flatMap evB)=((es.filter λe=>decide (b∈evB e)).length:Int)
 |[],_=>rfl
 | e :: es, hg => by
  have ih:=Gq b (es:=es) λx hx=>hg x (C5 _ hx);have ge:=hg e C6;rw[Y7,BD];cases e with
  | d x =>
   show cntS b (x::es.flatMap evB)=_;rw[v4,ih]
   by_cases c:x=b
   ·rw[jt c,jt (jq (by simp[evB,c])),K2];omega
   ·rw[ju c,ju (by simp[evB];exact λz=>c z.symm)];omega
  | t x y =>
   have ge:x≠y:=ge.1;show cntS b (x::y::es.flatMap evB)=_;rw[v4,v4,ih]
   by_cases c:x=b
   ·rw[jt c,ju (λz=>ge (c.trans z.symm)),jt (jq (by simp[evB,c])),K2];omega
   ·by_cases c2:y=b
    ·rw[ju c,jt c2,jt (jq (by simp[evB,c2])),K2];omega
    ·rw[ju c,ju c2,ju (by simp[evB];exact⟨λz=>c z.symm,λz=>c2 z.symm⟩)];omega
theorem Ts (hg:∀e∈es,Good e)(hl:es.length<=1000)(h:Fair st es->R .non n)(h1:∀w,isRs r st es w->R (rsP w) n):Gf [rowP st,shP es] n R:=by
 refine⟨rfl,?_⟩;unfold Mz;have hr0:rowP st=.tup (st.map PV.str):=rfl;generalize hS:shP es=S;have nin:∀{z:Str} {R:PV->Prop},R (.bl (!decide (z∈st)))->wIn 4 true (.str z) (.tup (st.map PV.str)) R:=λq=>FX rfl q;rw[hr0];generalize hZ:st.map PV.str=Z at *;walk_at "pu";rw[<- hS];refine Eb hl ?_;rw[hS];have tx:=Fx (es.flatMap evB);generalize hB:(es.flatMap evB).map PV.str=B at *;refine Q8 (λi env m=>∃s3,env=[some (.v (.tup Z)),some (.v S),some (.v (.lst B)),s3]/\m=n/\∀b∈(es.flatMap evB).take i,b∈st/\cntS b (es.flatMap evB)<=1) _ 0 _ _ ⟨none,rfl,rfl,λb hb=>by simp at hb⟩ (λi x env m N ex hI hN=>?_) (λenv m hI=>?_)
 ·obtain⟨s3,rfl,rfl,hb⟩:=hI;rw[<- hB] at ex;obtain⟨z,ez,rfl⟩:=b9 ex;have zm:=J8 ez;rw[K7] at hb hN;walk_at "pu";refine nin ?_
  by_cases c:z∈st
  ·rw[jq c];refine if_f rfl ?_;refine⟨⟨_,rfl⟩,?_⟩;rw[tx];dsimp only
   by_cases c2:1<cntS z (es.flatMap evB)
   ·refine if_t (jq c2) ?_;refine h1 (.twice z) ?_;show 2<=_;rw[Gq z hg] at c2;omega
   ·refine if_f (jr c2) (hN _ _ ⟨_,rfl,rfl,λb hb'=>?_⟩);rw[Am ez] at hb';rcases E2.mp hb' with hb'|hb'
    ·grind
    ·grind
  ·rw[jr c];exact if_t rfl (h1 (.strange z) ⟨zm,c⟩)
 ·obtain⟨s3,rfl,rfl,hb⟩:=hI;rw[K7,<- hB,B4,o7] at hb;have fr:Fair st es:=⟨Na λb hb'=>(hb b hb').2,λb hb'=>(hb b hb').1⟩;walk_at "pu";exact h fr
theorem Tt {r:Int}{st:List Str}{es:List Ev}{x y:Str}{n:Nat}{R:PV->Nat->Prop}(hs:st.length<=100)(fr:Fair st es)(hg:∀e∈es,Good e)(he:Ev.t x y∈es)(hl:es.length<=1000)
   (h:ixS st y<ixS st x->((btwU st x y).length:Int)<=r->(∀z∈btwU st x y,z∈es.flatMap evB)->R .non n) (h1:∀w,isRs r st es w->R (rsP w) n):Gg [rowP st,.int r,shP es,evP (.t x y)] n R:=by
 refine⟨rfl,?_⟩;unfold MD;obtain⟨hx,hy⟩:=fr.tx he;have ti:Tin st es x y:=⟨he,hx,hy⟩;have ne:ixS st x≠ixS st y:=λz=>(show x≠y from(hg _ he).1) (Cv hx hy z);generalize hS:shP es=S;generalize hW:rowP st=W;generalize hT:evP (.t x y)=T;walk_at "pu";subst hW hT;refine Jf hs hx hy ?_
 by_cases c:ixS st x<ixS st y
 ·exact if_t (jq c) (h1 (.wrong x y) ⟨ti,c⟩)
 refine if_f (jr c) ?_;refine Jg hs hx hy ?_
 by_cases c2:r<((btwU st x y).length:Int)
 ·exact if_t (jq c2) (h1 (.far x y) ⟨ti,c2⟩)
 refine if_f (jr c2) ?_;rw[<- hS];refine Eb hl ?_;rw[hS];refine CD hs hx hy ?_;have nin:∀{z:Str} {R:PV->Prop},R (.bl (!decide (z∈es.flatMap evB)))->wIn 4 true (.str z) (.lst ((es.flatMap evB).map PV.str)) R:=λq=>Iz rfl q;generalize hB:(es.flatMap evB).map PV.str=B at *;have st_:∀z∈btwU st x y,z∉es.flatMap evB->R (.tup [.str (A8 "stays"),evP (.t x y),.str z]) n:=λz h2 h3=>h1 (.stays x y z) ⟨ti,h2,h3⟩;generalize hW:rowP st=W;generalize hT:evP (.t x y)=T at *;refine Q8 (λi env m=>∃s5,env=[some (.v W),some (.v (.int r)),some (.v S),some (.v T),some (.v (.lst B)),s5]/\m=n/\∀z∈(btwU st x y).take i,z∈es.flatMap evB) _ 0 _ _ ⟨none,rfl,rfl,λb hb=>by simp at hb⟩ (λi z env m N ex hI hN=>?_) (λenv m hI=>?_)
 ·obtain⟨s5,rfl,rfl,hb⟩:=hI;obtain⟨z,ez,rfl⟩:=b9 ex;rw[K7] at hb hN;walk_at "pu";refine nin ?_
  by_cases c3:z∈es.flatMap evB
  ·rw[jq c3];refine if_f rfl (hN _ _ ⟨_,rfl,rfl,λb hb'=>?_⟩);rw[Am ez] at hb';rcases E2.mp hb' with hb'|hb'
   ·exact hb b hb'
   ·rw[E1.mp hb'];exact c3
  ·rw[jr c3];exact if_t rfl (st_ z (J8 ez) c3)
 ·obtain⟨s5,rfl,rfl,hb⟩:=hI;rw[K7,B4,o7] at hb;walk_at "pu";exact h (by omega) (by omega) hb
theorem Nb (hs:st.length<=100)(hx:x∈st)(hy:y∈st)(h:(four x y x' y'->(x'∈btwU st x y↔y'∈btwU st x y))->R (.bl false) n)(h1:four x y x' y'->¬(x'∈btwU st x y↔y'∈btwU st x y)->R (.bl true) n):DX [rowP st,evP (.t x y),evP (.t x' y')] n R:=by
 refine⟨rfl,?_⟩;unfold ME;have mb:∀{R:PV->Nat->Prop},R (.lst [.str x,.str y,.str x',.str y']) n->Ao [.tup [.tup [.str N5,.str x,.str y],.tup [.str N5,.str x',.str y']]] n R:=λq=>Eb (es:=[.t x y,.t x' y']) (by simp) q;have mw:∀{R:PV->Nat->Prop},R (rowP (btwU st x y)) n->V8 [rowP st,.tup [.str N5,.str x,.str y]] n R:=λq=>CD hs hx hy q;generalize hW:rowP st=W at *;rw[P2,P2];walk_at "pu";refine mb ?_;have tx:Q4 [.str x,.str y,.str x',.str y']=some [x,y,x',y']:=rfl;dsimp only;rw[tx];dsimp only;refine⟨by simp,?_⟩
 by_cases c:four x y x' y'
 ·refine if_f (by grind) ?_;refine mw ?_;refine Bj rfl ?_;refine Bj rfl ?_;rw[KC]
  by_cases c2:x'∈btwU st x y↔y'∈btwU st x y
  ·rw[decide_eq_decide.mpr c2];have:=h λ_=>c2;generalize decide (y'∈btwU st x y)=b;cases b <;> exact this
  ·have e:decide (decide (x'∈btwU st x y)=decide (y'∈btwU st x y))=false:=jr λz=>c2 (decide_eq_decide.mp z);rw[e];exact h1 c c2
 grind
theorem Tu (hs:st.length<=100)(fr:Fair st es)(he:Ev.t x y∈es)(h:(∀x' y',Ev.t x' y'∈es->four x y x' y'->(x'∈btwU st x y↔y'∈btwU st x y))->R .non n)(h1:∀w,isRs r st es w->R (rsP w) n):Gi [rowP st,evP (.t x y),.lst ((es.filter isTo).map evP)] n R:=by
 refine⟨rfl,?_⟩;unfold MF;obtain⟨hx,hy⟩:=fr.tx he;have mi:∀{x' y':Str} {R:PV->Nat->Prop},((four x y x' y'->(x'∈btwU st x y↔y'∈btwU st x y))->R (.bl false) n)->(four x y x' y'->¬(x'∈btwU st x y↔y'∈btwU st x y)->R (.bl true) n)->DX [rowP st,evP (.t x y),evP (.t x' y')] n R:=λq q'=>Nb hs hx hy q q';have cr:∀{x' y':Str},Ev.t x' y'∈es->four x y x' y'->¬(x'∈btwU st x y↔y'∈btwU st x y)->R (.tup [.str (A8 "cross"),evP (.t x y),evP (.t x' y')]) n:=λ{x' y'} he' c c2=>h1 (.cross x y x' y') ⟨⟨he,hx,hy⟩,⟨he',(fr.tx he').1,(fr.tx he').2⟩,c,c2⟩;generalize hW:rowP st=W at *;generalize hT:evP (.t x y)=T at *;generalize hL:(es.filter isTo).map evP=L;walk_at "pu";refine Q8 (λi env m=>∃s3,env=[some (.v W),some (.v T),some (.v (.lst L)),s3]/\m=n/\∀x' y',Ev.t x' y'∈(es.filter isTo).take i->four x y x' y'->(x'∈btwU st x y↔y'∈btwU st x y)) _ 0 _ _ ⟨none,rfl,rfl,λx' y' z=>by simp at z⟩ (λi z env m N ex hI hN=>?_) (λenv m hI=>?_)
 ·obtain⟨s3,rfl,rfl,hb⟩:=hI;rw[<- hL] at ex;obtain⟨e,ee,rfl⟩:=b9 ex;rw[K7] at hb hN;obtain⟨em,et⟩:=K6.mp (J8 ee);cases e with
  |d z=>cases et
  | t x' y' =>
   have cr':=λc c2=>cr em c c2;generalize hU:evP (.t x' y')=U at *;walk_at "pu";rw[<- hU];refine mi (λc=>?_) λc c2=>?_
   ·rw[hU];refine if_f rfl (hN _ _ ⟨_,rfl,rfl,λa b hab=>?_⟩);rw[Am ee] at hab;rcases E2.mp hab with hab|hab
    ·grind
    ·grind
   ·grind
 ·obtain⟨s3,rfl,rfl,hb⟩:=hI;rw[K7,<- hL,B4,o7] at hb;have:=h λx' y' he'=>hb x' y' (K6.mpr ⟨he',rfl⟩);walk_at "pu";exact this
theorem Jj:∀{l:List Ev},(l.flatMap evB).Nodup->∀a∈l,∀b∈l,x∈evB a->x∈evB b->a=b:=by intro a;induction a <;> intros <;> grind
theorem Tv {st:List Str}{es:List Ev}{x y x' y':Str}(nd:st.Nodup)(fr:Fair st es)(hg:∀e∈es,Good e)(he:Ev.t x y∈es)(he':Ev.t x' y'∈es)(h:four x y x' y'->(x'∈btwU st x y↔y'∈btwU st x y)):x'∈btwU st x y↔y'∈btwU st x y:=by
 by_cases c:Ev.t x y=Ev.t x' y'
 ·cases c;obtain⟨hx,hy⟩:=fr.tx he;rw[u9 nd hx hy,u9 nd hx hy];omega
 ·refine h ?_;have n1:x≠y:=(hg _ he).1;have n2:x'≠y':=(hg _ he').1;have nn:∀z,z∈evB (.t x y)->z∉evB (.t x' y'):=λz z1 z2=>c (Jj fr.nd _ he _ he' z1 z2);have a:=nn x (by simp[evB]);have b:=nn y (by simp[evB]);simp only[evB,D0,AE,or_false,not_or] at a b
  have nd4:[x,y,x',y'].Nodup:=by
   simp only[Q2,D0,AE,or_false,not_or,not_false_eq_true,and_true,Ew];exact⟨⟨n1,a.1,a.2⟩,⟨b.1,b.2⟩,n2⟩
  show((met (X3 [x,y,x',y']) [x,y,x',y'].length).length:Int)=4;rw[KS _ nd4 _ (C7 _)]
  rfl
theorem Tw (hs:st.length<=100)(nd:st.Nodup)(hg:∀e∈es,Good e)(hl:es.length<=1000)(h:X7 r st es->R .non n)(h1:∀w,isRs r st es w->R (rsP w) n):Gj [rowP st,.int r,shP es] n R:=by
 refine⟨rfl,?_⟩;unfold MG;have mt:∀{x y:Str} {R:PV->Nat->Prop},Fair st es->Ev.t x y∈es->(ixS st y<ixS st x->((btwU st x y).length:Int)<=r->(∀z∈btwU st x y,z∈es.flatMap evB)->R .non n)->(∀w,isRs r st es w->R (rsP w) n)->Gg [rowP st,.int r,shP es,evP (.t x y)] n R:=λfr he q q'=>Tt hs fr hg he hl q q';have mc:∀{x y:Str} {R:PV->Nat->Prop},Fair st es->Ev.t x y∈es->((∀x' y',Ev.t x' y'∈es->four x y x' y'->(x'∈btwU st x y↔y'∈btwU st x y))->R .non n)->(∀w,isRs r st es w->R (rsP w) n)->Gi [rowP st,evP (.t x y),.lst ((es.filter isTo).map evP)] n R:=λfr he q q'=>Tu hs fr he q q';have mb:∀{R:PV->Nat->Prop},(Fair st es->R .non n)->(∀w,isRs r st es w->R (rsP w) n)->Gf [rowP st,shP es] n R:=λq q'=>Ts hg hl q q';have mo:∀{R:PV->Nat->Prop},R (.lst ((es.filter isTo).map evP)) n->Bm [shP es] n R:=λq=>Jh (by omega) q;generalize hW:rowP st=W at *;generalize hS:shP es=S at *;generalize hL:(es.filter isTo).map evP=L at *;walk_at "pu";refine mb (λfr=>?_) λw hw=>?_
 rotate_left
 ·obtain⟨a,l,e⟩:=Gp w;have:=h1 w hw;rw[e] at this ⊢
  first|exact this|(walk_at "pu";exact this)
 try dsimp only
 refine mo ?_;refine Q8 (λi env m=>∃s5,env=[some (.v W),some (.v (.int r)),some (.v S),some (.v .non),some (.v (.lst L)),s5]/\m=n/\∀x y,Ev.t x y∈(es.filter isTo).take i->ixS st y<ixS st x/\((btwU st x y).length:Int)<=r/\(∀z∈btwU st x y,z∈es.flatMap evB)/\∀x' y',Ev.t x' y'∈es->four x y x' y'->(x'∈btwU st x y↔y'∈btwU st x y)) _ 0 _ _ ⟨none,rfl,rfl,λx' y' z=>by simp at z⟩ (λi z env m N ex hI hN=>?_) (λenv m hI=>?_)
 ·obtain⟨s3,rfl,rfl,hb⟩:=hI;rw[<- hL] at ex;obtain⟨e,ee,rfl⟩:=b9 ex;rw[K7] at hb hN;obtain⟨em,et⟩:=K6.mp (J8 ee);cases e with
  |d z=>cases et
  | t x' y' =>
   generalize hU:evP (.t x' y')=U at *;walk_at "pu";rw[<- hU];refine mt fr em (λz1 z2 z3=>?_) λw hw=>?_
   ·walk_at "pu";refine mc fr em (λz4=>?_) λw hw=>?_
    ·rw[hU];refine hN _ _ ⟨_,rfl,rfl,λa b hab=>?_⟩;rw[Am ee] at hab;rcases E2.mp hab with hab|hab
     ·exact hb a b hab
     ·grind
    ·obtain⟨a,l,e⟩:=Gp w;have:=h1 w hw;rw[e] at this ⊢
     first|exact this|(walk_at "pu";exact this)
   ·obtain⟨a,l,e⟩:=Gp w;have:=h1 w hw;rw[e] at this ⊢
    first|exact this|(walk_at "pu";exact this)
 ·obtain⟨s3,rfl,rfl,hb⟩:=hI;rw[K7,<- hL,B4,o7] at hb;have hb':∀x y,Ev.t x y∈es->_:=λx y he=>hb x y (K6.mpr ⟨he,rfl⟩);have:=h ⟨fr,λx y he=>(hb' x y he).1,λx y he=>(hb' x y he).2.1,λx y he=>(hb' x y he).2.2.1,λx y x' y' he he'=>Tv nd fr hg he he' ((hb' x y he).2.2.2 x' y' he')⟩;walk_at "pu";exact this
theorem Tx (hs:st.length<=63)(nd:st.Nodup)(hg:∀e∈es,Good e)(hl:es.length<=63)
   (h:X7 r st es->∀ts:List Ev,ts.Perm (es.filter isTo)->(ts.Pairwise λa b=>evL st a<=evL st b)->R (.tup [.str (A8 "course"),.tup ((es.filter isDr++ts).map evP)]) n)
   (h1:∀w,isRs r st es w->R (.tup [.str (A8 "unsound"),rsP w]) n):DY [rowP st,.int r,shP es] n R:=by
 refine⟨rfl,?_⟩;unfold IW;have mr:∀{R:PV->Nat->Prop},(X7 r st es->R .non n)->(∀w,isRs r st es w->R (rsP w) n)->Gj [rowP st,.int r,shP es] n R:=λq q'=>Tw (by omega) nd hg (by omega) q q';have mo:∀{R:PV->Nat->Prop},R (.lst ((es.filter isTo).map evP)) n->Bm [shP es] n R:=λq=>Jh (by omega) q
 have tl:((es.filter isTo).map evP).length<64:=by
  rw[B4];have:=CV isTo es;omega
 have dl:((es.filter isDr).map evP).length<64:=by
  rw[B4];have:=CV isDr es;omega
 have kk:Fair st es->∀R,R ((es.filter isTo).map (evL st)) n->Bi (qUn wLen (B7 V8 (A3 (qV 1) (A3 (qV 0) qNil)))) (rowP st) ((es.filter isTo).map evP) n R:=λfr R q=>MY (by omega) _ R (λe he=>by
  obtain⟨em,et⟩:=K6.mp he;cases e with
  |d z=>cases et
  | t x y =>
   obtain⟨hx,hy⟩:=fr.tx em
   exact⟨x,y,rfl,hx,hy⟩) q
 have hS':shP es=.tup (es.map evP):=rfl;have El:(es.map evP).length=es.length:=B4 ..
 have cf:=λR' q=>DS (tt:=(qB (qOp (wEq 4) (qOp wIx (qV 0) (qC (.int 0))) (qC (.str (A8 "drop")))))) (rest:=[]) evP isDr es none n R' (λe he m Q hQ=>by
  cases e with
  | d x =>
   rw[X6] at *;walk_at "pu";exact hQ
  | t x y =>
   rw[P2] at *;walk_at "pu";rw[LK]
   exact hQ) q
 generalize hW:rowP st=W at *;generalize hS:shP es=S at *;generalize hL:(es.filter isTo).map evP=L at *;generalize hD:(es.filter isDr).map evP=D at *;generalize hE:es.map evP=E at *;walk_at "pu";refine mr (λso=>?_) λw hw=>?_
 rotate_left
 ·obtain⟨a,l,e⟩:=Gp w;have:=h1 w hw;rw[e] at this ⊢
  first|exact this|(walk_at "pu";exact this)
 try dsimp only
 rw[hS']
 try dsimp only
 refine⟨by omega,cf _ ?_⟩;rw[<- hS'];refine mo ?_
 try dsimp only
 refine⟨tl,kk so.fair _ λys hy=>?_⟩;rw[<- hL] at hy;obtain⟨ts,rfl,pt,ot⟩:=Tr hy;have:=h so ts pt ot;rw[M6,hD] at this;have tsl:(ts.map evP).length<64:=by rw[B4,pt.length_eq,<- B4 (f:=evP),hL];exact tl
 grind
theorem at_nm {Z:List PV}(hZ:zs.map PV.str=Z){i:Nat}(h:i<zs.length):atI Z (i:Int)=some (.str (nm zs i)):=by
 obtain⟨x,e1,e2⟩:=Kc (xs:=Z) (d:=(i:Int)) (by omega) (by grind);rw[e2];rw[BS,<- hZ,G9,Cu h] at e1
 grind
def apB (a b c d:Int):Bool:=decide (b<c)||(decide (d<a)||((decide (a<c)&&decide (d<b))||(decide (c<a)&&decide (b<d))))
def apt (p q:Nat×Nat):Prop:=apB p.1 p.2 q.1 q.2=true
theorem Ty (a b c d:Int):apB a b c d=apB c d a b:=by grind [apB]
theorem Tz (h:R (.bl (apB a b c d)) n):IS [.tup [.int a,.int b],.tup [.int c,.int d]] n R:=by
 refine⟨rfl,?_⟩;unfold Mr;unfold apB at h;walk_at "pu"
 grind
structure Snd (n:Nat)(r:Int)(ps:List (Nat×Nat))(ds:List Nat):Prop where
 pr:∀p∈ps,p.1<p.2/\p.2<n/\(p.2:Int)-p.1-1<=r
 ap:ps.Pairwise apt
 dn:ds.Nodup
 dl:∀d∈ds,d<n/\d∉ps.flatMap λp=>[p.1,p.2]
 dw:∀d,d<n->d∉(ps.flatMap λp=>[p.1,p.2])->(∃p∈ps,p.1<d/\d<p.2)->d∈ds
def tch (zs:List Str)(p:Nat×Nat):Ev:=.t (nm zs p.2) (nm zs p.1)
def drp (zs:List Str)(d:Nat):Ev:=.d (nm zs d)
def c7 (zs:List Str)(ps:List (Nat×Nat))(ds:List Nat):List Ev:=ps.map (tch zs)++ds.map (drp zs)
def pinN (k:Nat):PV:=.int (k:Int)
def prP (p:Nat×Nat):PV:=.tup [.int (p.1:Int),.int (p.2:Int)]
theorem memN (k:Nat):∀xs:List Nat,memP (.int (k:Int)) (xs.map pinN)=decide (k∈xs)
 |[]=>rfl
 | x :: xs => by
  show(eqP (.int (x:Int)) (.int (k:Int))||memP (.int (k:Int)) (xs.map pinN))=_;rw[memN k xs,KB,i6];simp only[EB,decide_eq_true_eq,D0];constructor
  ·rintro(e|e)
   ·exact .inl (by omega)
   ·exact .inr e
  ·rintro(e|e)
   ·exact .inl (by omega)
   ·exact .inr e
theorem cmpN (xs:List Nat)(d:Nat):(xs.map pinN).all (cmpb d)=true:=J4.mpr λy hy=>by
 obtain⟨k,_,rfl⟩:=E5.mp hy;cases d <;> rfl
theorem TB {q n:Nat}{zs:List Str}{r:Int}{R:PV->Nat->Prop}(h1:1<=zs.length)(h2:zs.length<=24)(r0:0<=r)(r1:r<=7)(hn:n<=999990000)(h:∀ps ds (es:List Ev) n',Snd zs.length r ps ds->es.Perm (c7 zs ps ds)->SrE es->ps.length<=24->ds.length<=24->n'<=n + 200->R (shP es) n'):IT [.pot (q + 1),rowP zs,.int r] n R:=by
 refine⟨rfl,?_⟩;unfold Ms;have hr0:rowP zs=.tup (zs.map PV.str):=rfl;have hat:∀i:Nat,i<zs.length->atI (zs.map PV.str) (i:Int)=some (.str (nm zs i)):=λi hi=>at_nm rfl hi;generalize hZ:zs.map PV.str=Z at *;have Zl:Z.length=zs.length:=by rw[<- hZ,B4]
 rw[hr0];walk_at "pu";refine⟨by omega,λd d0 d1=>⟨by omega,?_⟩⟩;refine Q8 (λi env m=>∃s7 s8 s9,∃ps:List (Nat×Nat),env=[some (.v (.pot (q+1))),some (.v (.tup Z)),some (.v (.int r)),some (.v (.int (Z.length:Int))),some (.own (ps.map prP)),some (.own ((ps.flatMap λp=>[p.1,p.2]).map pinN)),some (.own ((ps.map (tch zs)).map evP)),s7,s8,s9,none,none,none]/\(∀p∈ps,p.1<p.2/\p.2<zs.length/\(p.2:Int)-p.1-1<=r)/\ps.Pairwise apt/\ps.length<=i/\m<=n+1+2*i) _ 0 _ _ ⟨none,none,none,[],rfl,(λ_ z=>by cases z),GP,by simp,by omega⟩ (λi x env m N ex hI hN=>?_) (λenv m hI=>?_)
 ·obtain⟨hi,rfl⟩:=DF ex;obtain⟨s7,s8,s9,ps,rfl,hp,ha,hl,hm⟩:=hI;generalize hA:ps.map prP=A;generalize hB:(ps.flatMap λp=>[p.1,p.2]).map pinN=B;generalize hC:(ps.map (tch zs)).map evP=C;walk_at "pu";have Al:A.length=ps.length:=by rw[<- hA,B4]
  have Bl:B.length=2*ps.length:=by rw[<- hB,B4];clear hA hB hC hp ha hl Al;induction ps with|nil=>rfl|cons p ps ih=>rw[Y7,D4,ih,show(p::ps).length=ps.length+1 from rfl];show 2+_=_;omega
  have Cl:C.length=ps.length:=by rw[<- hC,B4,B4]
  refine⟨by omega,λa a0 a1=>⟨by omega,λf f0 f1=>?_⟩⟩;have skip:∀m',m'<=m+2->N [some (.v (.pot (q+1))),some (.v (.tup Z)),some (.v (.int r)),some (.v (.int (Z.length:Int))),some (.own A),some (.own B),some (.own C),some (.v (.int (0+i))),some (.v (.int a)),some (.v (.int (1+f))),none,none,none] m':=λm' hm'=>hN _ _ ⟨some (.v (.int (0+i))),some (.v (.int a)),some (.v (.int (1+f))),ps,by rw[hA,hB,hC],hp,ha,by omega,by omega⟩
  by_cases c1:a+(1+f)<(Z.length:Int)
  ·rw[jt (jq c1)];refine⟨by omega,?_⟩;obtain⟨an,rfl⟩:=ER a0;obtain⟨fn,rfl⟩:=ER f0;have e1:(an:Int)+(1+fn)=((an+1+fn:Nat):Int):=by omega
   rw[<- hA];refine X4 prP (λp=>.bl (apB an ((an+1+fn:Nat):Int) p.1 p.2)) _ _ _ _ (λp hp' m' Q hQ=>?_) ?_
   ·unfold prP at hQ ⊢;walk_at "pu";refine Tz ?_;rw[e1];exact hQ
   ·rw[Ar];dsimp only;rw[CC];cases hb:ps.all λp=>apB an ((an+1+fn:Nat):Int) p.1 p.2 with
    |false=>rw[hA];exact skip _ (by omega)
    | true =>
     rw[hA];refine⟨⟨_,rfl⟩,by omega,⟨_,rfl⟩,by omega,⟨_,rfl⟩,?_⟩;rw[e1,hat (an+1+fn) (by omega),hat an (by omega)];refine⟨by omega,hN _ _ ⟨some (.v (.int (0+i))),some (.v (.int (an:Int))),some (.v (.int (1+(fn:Int)))),ps++[(an,an+1+fn)],?_,λp hp'=>?_,?_,by rw[D4,O8];omega,by omega⟩⟩
     ·rw[M6,Da,M6,M6,M6,hA,hB,hC]
      rfl
     ·rcases E2.mp hp' with hp'|hp'
      ·exact hp p hp'
      ·rw[E1.mp hp'];exact⟨by show an<an+1+fn;omega,by show an+1+fn<_;omega,by show((an+1+fn:Nat):Int)-an-1<=r;omega⟩
     ·rw[GF];refine⟨ha,List.pairwise_singleton _ _,λp hp' p2 hp2=>?_⟩;rw[E1.mp hp2];show apB p.1 p.2 an ((an+1+fn:Nat):Int)=true;rw[Ty];exact J4.mp hb p hp'
  ·rw[ju (by simpa using c1)];exact skip _ (by omega)
 ·obtain⟨s7,s8,s9,ps,rfl,hp,ha,hl,hm⟩:=hI;rw[Bc] at hl hm;generalize hA:ps.map prP=A;generalize hB:(ps.flatMap λp=>[p.1,p.2]).map pinN=B;have Al:A.length=ps.length:=by rw[<- hA,B4]
  dsimp only;refine Q8 (λi env m'=>∃s4 s10 s11 s12,∃ds:List Nat,env=[some (.v (.pot (q+1))),some (.v (.tup Z)),some (.v (.int r)),some (.v (.int (Z.length:Int))),s4,some (.own B),some (.own ((c7 zs ps ds).map evP)),s7,s8,s9,s10,s11,s12]/\(s4=some (.own A)\/s4=some (.v (.lst A)))/\ds.Nodup/\(∀d∈ds,d<i/\d∉ps.flatMap λp=>[p.1,p.2])/\(∀d,d<i->d∉(ps.flatMap λp=>[p.1,p.2])->(∃p∈ps,p.1<d/\d<p.2)->d∈ds)/\ds.length<=i/\m'<=m+i) _ 0 _ _ ⟨some (.own A),none,none,none,[],by unfold c7;simp,.inl rfl,Ew,(λ_ z=>by cases z),(λ_ z=>by omega),by simp,by omega⟩ (λi x env m' N ex hI hN=>?_) (λenv m' hI=>?_)
  ·obtain⟨y,ey,rfl⟩:=HB ex;rw[<- hZ] at ey;obtain⟨z,ez,rfl⟩:=b9 ey;obtain⟨s4,s10,s11,s12,ds,rfl,h4,nd,hd,hw,dl,hm'⟩:=hI;have hi:=(G4.mp ez).1;have enm:z=nm zs i:=by have:=Cu hi;rw[ez] at this;exact M9 this
   subst enm;generalize hC:(c7 zs ps ds).map evP=C;have Cl:C.length=ps.length+ds.length:=by rw[<- hC,B4];unfold c7;rw[D4,B4,B4]
   have drop1:∀m'',m''<=m'+1->i∉(ps.flatMap λp=>[p.1,p.2])->∀b:Bool,N [some (.v (.pot (q+1))),some (.v (.tup Z)),some (.v (.int r)),some (.v (.int (Z.length:Int))),some (.v (.lst A)),some (.own B),some (.own (C++[PV.tup [PV.str (A8 "drop"),PV.str (nm zs i)]])),s7,s8,s9,some (.v (.int (i:Int))),some (.v (.str (nm zs i))),some (.v (.bl b))] m'':=λm'' hm'' hni b=>by
    refine hN _ _ ⟨some (.v (.lst A)),some (.v (.int (i:Int))),some (.v (.str (nm zs i))),some (.v (.bl b)),ds++[i],?_,.inr rfl,?_,λd hd'=>?_,λd h1 h2 h3=>?_,by rw[D4,O8];omega,by omega⟩
    ·have:(c7 zs ps (ds++[i])).map evP=C++[PV.tup [PV.str (A8 "drop"),PV.str (nm zs i)]]:=by
      rw[<- hC];unfold c7;rw[M6,M6,M6,M6,N6];rfl
     rw[this]
    ·rw[BB];refine⟨nd,by simp,λa ha b hb e=>?_⟩;rw[E1.mp hb] at e;have:=(hd a ha).1;omega
    ·rcases E2.mp hd' with hd'|hd'
     ·exact⟨by have:=(hd d hd').1;omega,(hd d hd').2⟩
     ·rw[E1.mp hd'];exact⟨by omega,hni⟩
    ·by_cases c:d<0+i
     ·exact n6 _ (hw d c h2 h3)
     ·exact M2 _ (E1.mpr (by omega))
   have stay:∀m'',m''<=m'+1->(i∉(ps.flatMap λp=>[p.1,p.2])->¬∃p∈ps,p.1<i/\i<p.2)->∀b:Bool,N [some (.v (.pot (q+1))),some (.v (.tup Z)),some (.v (.int r)),some (.v (.int (Z.length:Int))),some (.v (.lst A)),some (.own B),some (.own C),s7,s8,s9,some (.v (.int (i:Int))),some (.v (.str (nm zs i))),some (.v (.bl b))] m'':=λm'' hm'' hni b=>by
    refine hN _ _ ⟨some (.v (.lst A)),some (.v (.int (i:Int))),some (.v (.str (nm zs i))),some (.v (.bl b)),ds,by rw[hC],.inr rfl,nd,λd hd'=>⟨by have:=(hd d hd').1;omega,(hd d hd').2⟩,λd h1 h2 h3=>?_,by omega,by omega⟩
    by_cases c:d<0+i
    ·exact hw d c h2 h3
    ·have:d=i:=by omega
     subst this;exact absurd h3 (hni h2)
   have key:(ps.any λp=>decide (p.1<i)&&decide (i<p.2))=true↔∃p∈ps,p.1<i/\i<p.2:=by
    rw[Y9];simp only[V4,decide_eq_true_eq]
   rcases h4 with rfl|rfl <;> walk_at "pu"
   all_goals
     refine⟨by omega,?_⟩;rw[<- hA];refine La (λp:Nat×Nat=>PV.int (p.1:Int)) (λp=>PV.int (p.2:Int)) (λp=>PV.bl (decide (p.1<i)&&decide (i<p.2))) ps _ _ _ _ (λp hp' m'' Q hQ=>?_) ?_
     ·walk_at "pu"
      by_cases c1:p.1<i
      ·rw[jt (jq (by omega))];rw[jq c1,x6] at hQ;rw[show decide ((i:Int)<(p.2:Int))=decide (i<p.2) by rw[decide_eq_decide];omega];exact hQ
      ·rw[ju (by simp;omega)];rw[jr c1,p5] at hQ;exact hQ
     ·rw[Ar];dsimp only;rw[MX];generalize hb:(ps.any λp=>decide (p.1<i)&&decide (i<p.2))=b at key ⊢;rw[hA,<- hB];refine⟨rfl,cmpN _ _,?_⟩;rw[memN,hB]
      by_cases ci:i∈ps.flatMap λp=>[p.1,p.2]
      ·rw[jq ci];exact stay m' (by omega) (λz=>absurd ci z) b
      ·rw[jr ci];refine if_t rfl ?_;cases b with
       |true=>exact if_t rfl ⟨⟨_,rfl⟩,by omega,drop1 m' (by omega) ci true⟩
       | false =>
        refine if_f rfl ⟨by omega,λe e0 e1=>?_⟩
        by_cases ce:e=0
        ·exact if_t (jq ce) ⟨⟨_,rfl⟩,by omega,drop1 (m'+1) (by omega) ci false⟩
        ·exact if_f (jr ce) (stay (m'+1) (by omega) (λ_ z=>by cases key.mpr z) false)
  ·obtain⟨s4,s10,s11,s12,ds,rfl,h4,nd,hd,hw,dl,hm'⟩:=hI;rw[HC,K7,Zl] at hd hw dl hm';dsimp only;have Cl:((c7 zs ps ds).map evP).length=ps.length+ds.length:=by rw[B4];unfold c7;rw[D4,B4,B4]
   refine⟨by rw[Cl];omega,RV _,λys hys=>?_⟩;obtain⟨es,rfl,pe⟩:=RX hys;exact h ps ds es _ ⟨hp,ha,nd,hd,hw⟩ pe hys.2 (by omega) (by omega) (by omega)
def Ec:pS:=(qSeq (qIfS (qAnd (qB (qOp (wEq 4) (qV 4) (qC (.int 1)))) (qB (qOp (wEq 4) (qOp wIx (qV 10) (qC (.int 0))) (qC (.str (A8 "touch")))))) (P8 (Z9 11 (qTup (A3 (qC (.str (A8 "touch"))) (A3 (qOp wIx (qV 10) (qC (.int 2))) (A3 (qOp wIx (qV 10) (qC (.int 1))) qNil)))))) qNx)
   (qSeq (qIfS (qB (qOp (wEq 4) (qV 4) (qC (.int 2)))) (P8 (Ae 11 (qV 9))) qNx)
   (qSeq (qIfS (qAnd (qB (qOp (wEq 4) (qV 4) (qC (.int 3)))) (qB (qOp (wIn 4 true) (qV 7) (qV 10)))) (P8 (Z9 11 (qOp wAdd (qSl (qV 10) qNo (O6 (qOp wSub (qUn wLen (qV 10)) (qC (.int 1))))) (qTup (A3 (qV 7) qNil))))) qNx)
   (qRet (qUn Z8 (qL (Cy (qO 11))))))))
def Ed:pS:=(qSeq (qIfS (qOr (qB (qOp wGt (qV 4) (qC (.int 3)))) (qB (qOp (wEq 4) (qV 5) (qUn wLen (qV 2))))) (qRet (qUn Z8 (qL (Cy (qL (qCat (qL (X0 (qV 2))) (qV 9))))))) qNx)
   (qSeq (qPar 10 11 (sV (qOp wIx (qV 2) (qV 5))) (sO (X0 (qOp wAdd (qSl (qV 2) qNo (O6 (qV 5))) (qSl (qV 2) (O6 (qOp wAdd (qV 5) (qC (.int 1)))) qNo))))) Ec))
theorem TC (es:List Ev):Cw (es.map evP):=by
 refine⟨λx hx=>?_,λx hx y hy=>?_⟩
 ·obtain⟨e,_,rfl⟩:=E5.mp hx;exact⟨evK e,rfl,ev_ne e⟩
 ·obtain⟨e,_,rfl⟩:=E5.mp hx;obtain⟨f,_,rfl⟩:=E5.mp hy;show Al (keyP (.tup ((evK e).map kP))) (keyP (.tup ((evK f).map kP)));rw[k9,k9];exact ev_al e f
theorem Jk {R:List PV->Prop}{xs:List Ev}(hl:xs.length<=63)(h:∀es':List Ev,(∀e∈es',e∈xs)->SrE es'->es'.length<=xs.length->R (es'.map evP)):(xs.map evP).length<=63/\Cw (xs.map evP)/\∀ys,SrtS ys (xs.map evP)->R ys:=by
 refine⟨by rw[B4];exact hl,TC xs,λys hys=>?_⟩;obtain⟨es',rfl,he⟩:=IA xs ys λy hy=>(hys.2.1 y).mp hy;refine h es' he hys.2.2 ?_;have:=hys.1.length_le_of_subset λy hy=>(hys.2.1 y).mp hy
 grind
def Gd (Bo:Str->Prop):Ev->Prop
 |.d x=>Bo x
 |.t x y=>x≠y/\Bo x/\Bo y
theorem Gd.good {Bo:Str->Prop}(h:∀z,Bo z->F4 z){e:Ev}(g:Gd Bo e):Good e:=by
 cases e with
 |d x=>exact h x g
 |t x y=>exact⟨g.1,h x g.2.1,h y g.2.2⟩
theorem Gd.mem {Bo:Str->Prop}{e:Ev}(g:Gd Bo e):∀b∈evB e,Bo b:=by
 cases e with
 |d x=>intro b hb;rw[E1.mp hb];exact g
 | t x y =>
  intro b hb;rcases D0.mp hb with rfl|hb
  ·exact g.2.1
  ·rw[E1.mp hb];exact g.2.2
theorem TD {Bo:Str->Prop}{q n:Nat}{a1 a2 a3 a5 a6 a8:Option Pu.Slot}{way:Int}{one:Str}{e1 e:Ev}{rs:List Ev}{R:PV->Nat->Prop}{NX:Pu.Env->Nat->Prop}(hr:rs.length<=60)(ho:Bo one)(g1:Gd Bo e1)(ge:Gd Bo e)(hg:∀e∈rs,Gd Bo e)(h:∀es':List Ev,(∀e∈es',Gd Bo e)->SrE es'->es'.length<=rs.length+1->R (shP es') n) :
   Ec { nx:=NX,rt:=R } [some (.v (.pot (q+1))),a1,a2,a3,some (.v (.int way)),a5,a6,some (.v (.str one)),a8,some (.v (.lst [evP e1])),some (.v (evP e)),some (.own (rs.map evP))] n:=by
 have fin0:(rs.map evP).length<=63/\Cw (rs.map evP)/\∀ys,SrtS ys (rs.map evP)->R (.tup ys) n:=Jk (R:=λys=>R (.tup ys) n) (by omega) λes' h1 hs h2=>h es' (λe he=>hg e (h1 e he)) hs (by omega)
 have fin1:∀x:Ev,Gd Bo x->(rs.map evP++[evP x]).length<=63/\Cw (rs.map evP++[evP x])/\∀ys,SrtS ys (rs.map evP++[evP x])->R (.tup ys) n:=λx gx=>by
  have:=Jk (R:=λys=>R (.tup ys) n) (xs:=rs++[x]) (by rw[D4,O8];omega) λes' h1 hs h2=>h es' (λe he=>?_) hs (by rw[D4,O8] at h2;omega)
  ·rw[M6] at this;exact this
  ·rcases E2.mp (h1 e he) with z|z
   ·exact hg e z
   ·rw[E1.mp z];exact gx
 have Sl:(rs.map evP).length=rs.length:=B4 ..
 have ways:(decide (way=1)=true/\decide (way=2)=false/\decide (way=3)=false)\/(decide (way=1)=false/\decide (way=2)=true/\decide (way=3)=false)\/(decide (way=1)=false/\decide (way=2)=false/\decide (way=3)=true)\/(decide (way=1)=false/\decide (way=2)=false/\decide (way=3)=false):=by
  by_cases c1:way=1
  ·subst c1;exact .inl ⟨rfl,rfl,rfl⟩
  ·by_cases c2:way=2
   ·subst c2;exact .inr (.inl ⟨rfl,rfl,rfl⟩)
   ·by_cases c3:way=3
    ·subst c3;exact .inr (.inr (.inl ⟨rfl,rfl,rfl⟩))
    ·exact .inr (.inr (.inr ⟨jr c1,jr c2,jr c3⟩))
 unfold Ec;have f1:=fin1 e1 g1;generalize hP:evP e1=P at *;cases e with
 | d x =>
  have f3:=fin1 (.d one) ho;rw[X6] at f3 ⊢;generalize hS:rs.map evP=S at *;walk_at "pu";rcases ways with⟨b1,b2,b3⟩|⟨b1,b2,b3⟩|⟨b1,b2,b3⟩|⟨b1,b2,b3⟩ <;> simp only[b1,b2,b3,IF,reduceIte,J5]
  ·exact fin0
  ·exact⟨⟨_,rfl⟩,by omega,f1⟩
  ·refine FX (zs:=[DROP,x]) rfl ?_;dsimp only
   by_cases c:one∈[DROP,x]
   ·rw[jq c];exact fin0
   ·rw[jr c];rw[show cutP [PV.str DROP,PV.str x] none (some (((2:Nat):Int)-1))=[PV.str DROP] from rfl];exact⟨⟨_,rfl⟩,by simp,by omega,f3⟩
  ·exact fin0
 | t x y =>
  have f2:=fin1 (.t y x) ⟨λz=>ge.1 z.symm,ge.2.2,ge.2.1⟩;have f3:=λ(z:x≠one)=>fin1 (.t x one) ⟨z,ge.2.1,ho⟩;rw[P2] at f2 f3 ⊢;generalize hS:rs.map evP=S at *;walk_at "pu";rcases ways with⟨b1,b2,b3⟩|⟨b1,b2,b3⟩|⟨b1,b2,b3⟩|⟨b1,b2,b3⟩ <;> simp only[b1,b2,b3,RY,reduceIte,J5]
  ·exact⟨⟨_,rfl⟩,by omega,f2⟩
  ·exact⟨⟨_,rfl⟩,by omega,f1⟩
  ·refine FX (zs:=[N5,x,y]) rfl ?_;dsimp only
   by_cases c:one∈[N5,x,y]
   ·rw[jq c];exact fin0
   ·rw[jr c];rw[show cutP [PV.str N5,PV.str x,PV.str y] none (some (((3:Nat):Int)-1))=[PV.str N5,PV.str x] from rfl];exact⟨⟨_,rfl⟩,by simp,by omega,f3 λz=>c (by rw[z];simp)⟩
  ·exact fin0
theorem TF {Bo:Str->Prop}{q n:Nat}{a1 a3 a6 a8:Option Pu.Slot}{way:Int}{pl:Nat}{one:Str}{e1:Ev}{es:List Ev}{R:PV->Nat->Prop}{NX:Pu.Env->Nat->Prop}(hl:es.length<=60)(hp:pl<=es.length)(ho:Bo one)(g1:Gd Bo e1)(hg:∀e∈es,Gd Bo e)(h:∀es':List Ev,(∀e∈es',Gd Bo e)->SrE es'->es'.length<=es.length+1->R (shP es') n) :
   Ed { nx:=NX,rt:=R } [some (.v (.pot (q+1))),a1,some (.v (.tup (es.map evP))),a3,some (.v (.int way)),some (.v (.int (pl:Int))),a6,some (.v (.str one)),a8,some (.v (.lst [evP e1])),none,none] n:=by
 have f1:(es.map evP++[evP e1]).length<=63/\Cw (es.map evP++[evP e1])/\∀ys,SrtS ys (es.map evP++[evP e1])->R (.tup ys) n:=by
  have:=Jk (R:=λys=>R (.tup ys) n) (xs:=es++[e1]) (by rw[D4,O8];omega) λes' h1 hs h2=>h es' (λe he=>?_) hs (by rw[D4,O8] at h2;omega)
  ·rw[M6] at this;exact this
  ·rcases E2.mp (h1 e he) with z|z
   ·exact hg e z
   ·rw[E1.mp z];exact g1
 have fu:∀(hlt:pl<es.length),Ec { nx:=NX,rt:=R } [some (.v (.pot (q+1))),a1,some (.v (.tup (es.map evP))),a3,some (.v (.int way)),some (.v (.int (pl:Int))),a6,some (.v (.str one)),a8,some (.v (.lst [evP e1])),some (.v (evP es[pl])),some (.own ((es.take pl++es.drop (pl+1)).map evP))] n:=λhlt=>by
  have ll:(es.take pl++es.drop (pl+1)).length=es.length-1:=by rw[D4,N7,Y8];omega
  refine TD (by omega) ho g1 (hg _ (BC hlt)) (λe he=>?_) λes' h1 hs h2=>h es' h1 hs (by omega);rcases E2.mp he with z|z
  ·exact hg e (W3 z)
  ·exact hg e (CY z)
 unfold Ed;generalize Ec=U at *;have ai:∀hlt:pl<es.length,atI (es.map evP) (pl:Int)=some (evP es[pl]):=λhlt=>Fe (by rw[G9,D8 hlt];rfl);have c1:=FY (es.map evP) pl;have c2:=IE (es.map evP) (pl+1);have cm:(es.take pl++es.drop (pl+1)).map evP=(es.map evP).take pl++(es.map evP).drop (pl+1):=by rw[M6,List.map_take,List.map_drop]
 generalize hP:evP e1=P at *;have El:(es.map evP).length=es.length:=B4 ..;generalize hE:es.map evP=E at *;walk_at "pu";have r1:E.length<=999999:=by omega
 by_cases d1:3<way
 ·exact if_t (jq d1) ⟨r1,f1⟩
 ·refine if_f (jr d1) ?_
  by_cases d2:(pl:Int)=(E.length:Int)
  ·exact if_t (jq d2) ⟨r1,f1⟩
  ·refine if_f (jr d2) ?_;have hlt:pl<es.length:=by omega
   have e2:cutP E (some ((pl:Int)+1)) none=E.drop (pl+1):=by rw[<- c2];rfl
   rw[ai hlt,c1,e2];have:=fu hlt;rw[cm] at this;exact⟨by rw[N7,Y8];omega,this⟩
theorem TH:Mt=(qSeq (qPar 4 5 (sV (B7 b__law_draw (A3 (qV 0) (A3 (qC (.int 6)) qNil)))) (sV (B7 b__law_draw (A3 (qV 0) (A3 (qOp wAdd (qUn wLen (qV 2)) (qC (.int 1))) qNil)))))
   (qSeq (qSet 6 (qL (qCat (qL (X0 (qV 1))) (qL (X0 (qV 3))))))
   (qSeq (qPar 7 8 (sV (qOp wIx (qV 6) (B7 b__law_draw (A3 (qV 0) (A3 (qUn wLen (qV 6)) qNil))))) (sV (qOp wIx (qV 6) (B7 b__law_draw (A3 (qV 0) (A3 (qUn wLen (qV 6)) qNil))))))
   (qSeq (qSet 9 (qIf (qOr (qB (qOp (wEq 4) (qV 7) (qV 8))) (qB (qOp (wEq 4) (B7 b__law_draw (A3 (qV 0) (A3 (qC (.int 3)) qNil))) (qC (.int 0))))) (qL (qLst (A3 (qTup (A3 (qC (.str (A8 "drop"))) (A3 (qV 7) qNil))) qNil))) (qL (qLst (A3 (qTup (A3 (qC (.str (A8 "touch"))) (A3 (qV 7) (A3 (qV 8) qNil)))) qNil))))) Ed)))):=rfl
theorem m_bent {Bo:Str->Prop}{q n:Nat}{st sp:List Str}{es:List Ev}{R:PV->Nat->Prop}(h1:1<=(st++sp).length)(h2:(st++sp).length<=100)(hb:∀z∈st++sp,Bo z)(he:es.length<=60)(hg:∀e∈es,Gd Bo e)(hn:n<=999990000)(h:∀(es':List Ev) n',(∀e∈es',Gd Bo e)->SrE es'->es'.length<=es.length+1->n'<=n+10->R (shP es') n'):IU [.pot (q+1),rowP st,shP es,rowP sp] n R:=by
 refine⟨rfl,?_⟩;rw[TH];have hs0:shP es=.tup (es.map evP):=rfl;have hr0:rowP st=.tup (st.map PV.str):=rfl;have hr1:rowP sp=.tup (sp.map PV.str):=rfl
 have fin:∀(way:Int) (at_:Int) (one:Str) (e1:Ev) (n':Nat) (a1 a3 a6 a8:Option Pu.Slot),0<=at_->at_<(es.map evP).length+1->Bo one->Gd Bo e1->n'<=n+10->Ed { nx:=λ_ m=>R PV.non m,rt:=R } [some (.v (.pot (q+1))),a1,some (.v (.tup (es.map evP))),a3,some (.v (.int way)),some (.v (.int at_)),a6,some (.v (.str one)),a8,some (.v (.lst [evP e1])),none,none] n':=λway at_ one e1 n' a1 a3 a6 a8 p0 p1 ho g1 hn'=>by
  obtain⟨pl,rfl⟩:=ER p0;rw[B4] at p1;exact TF he (by omega) ho g1 hg λes' g hs l=>h es' n' g hs l hn'
 generalize hE:es.map evP=E at *;have El:E.length=es.length:=by rw[<- hE,B4]
 have hat:∀d:Int,0<=d->d<(st.map PV.str++sp.map PV.str).length->∃z:Str,atI (st.map PV.str++sp.map PV.str) d=some (.str z)/\Bo z:=λd d0 d1=>by
  obtain⟨x,hx,ex⟩:=KA d0 d1;rw[<- M6] at hx;obtain⟨z,hz,rfl⟩:=E5.mp hx;exact⟨z,ex,hb z hz⟩
 generalize hA:st.map PV.str=A at *;generalize hB:sp.map PV.str=B at *;have ABl:A.length+B.length=(st++sp).length:=by rw[<- hA,<- hB,B4,B4,D4]
 have ABl2:(A++B).length=(st++sp).length:=by rw[D4,ABl]
 rw[hs0,hr0,hr1];generalize hT:Ed=T at *;walk_at "pu";refine⟨by omega,λway w0 w1=>⟨by omega,λpl p0 p1=>⟨by omega,by omega,λa a0 a1=>?_⟩⟩⟩;obtain⟨x,ex,bx⟩:=hat a a0 a1;rw[ex];refine⟨by omega,λb b0 b1=>?_⟩;obtain⟨y,ey,by_⟩:=hat b b0 b1;rw[ey];refine gd2 rfl rfl ?_;rw[k6]
 by_cases c:x=y
 ·exact if_t (jq c) (fin way pl x (.d x) _ _ _ _ _ p0 p1 bx bx (by omega))
 ·refine if_f (jr c) ⟨by omega,λd d0 d1=>?_⟩
  by_cases c2:d=0
  ·exact if_t (jq c2) (fin way pl x (.d x) _ _ _ _ _ p0 p1 bx bx (by omega))
  ·exact if_f (jr c2) (fin way pl x (.t x y) _ _ _ _ _ p0 p1 bx ⟨c,bx,by_⟩ (by omega))
theorem Jl {st:List Str}{r:Int}:∀(es:List Ev) (k:Nat) (o:List Str),(∀e∈es,Good e)->wlk st r es k o=none->(es.flatMap evB).Nodup/\∀b∈es.flatMap evB,b∈st/\b∉o
 |[],_,_,_,_=>⟨Ew,λ_ z=>by cases z⟩
 | e :: es, k, o, hg, h => by
  have h':(if lcan st r o e=true then wlk st r es (k+1) (o++evB e) else some k)=none:=h
  by_cases c:lcan st r o e=true
  ·rw[jt c] at h';obtain⟨i1,i2⟩:=Jl es (k+1) (o++evB e) (λx hx=>hg x (C5 _ hx)) h';have hm:=Go c;have ge:=hg e C6
   have ne:(evB e).Nodup:=by
    cases e with
    |d x=>simp[evB]
    |t x y=>have:x≠y:=ge.1;simp[evB,this]
   rw[Y7];refine⟨BB.mpr ⟨ne,i1,λa ha b hb e'=>?_⟩,λb hb=>?_⟩
   ·subst e';exact(i2 a hb).2 (M2 _ ha)
   ·rcases E2.mp hb with hb|hb
    ·exact hm b hb
    ·exact⟨(i2 b hb).1,λz=>(i2 b hb).2 (n6 _ z)⟩
  ·rw[ju c] at h';cases h'
theorem Nc (h:ixS st y<ixS st x):btw st x y=btwU st x y:=by grind [btw,btwU,ixS]
theorem Jm:lcan st r out (.t x y)=true↔(x∈st/\x∉out)/\(y∈st/\y∉out)/\ixS st y<ixS st x/\((btwU st x y).length:Int)<=r/\∀z∈btwU st x y,z∈out:=by
 constructor
 ·intro h;have hm:=Go h;unfold lcan at h;rw[V4,V4,V4] at h;have h1:=jv h.2.1;rw[Nc h1] at h;exact⟨hm x (by simp[evB]),hm y (by simp[evB]),h1,jv h.2.2.1,λz hz=>jv (J4.mp h.2.2.2 z hz)⟩
 ·rintro⟨⟨a1,a2⟩,⟨b1,b2⟩,c,d,e⟩;unfold lcan;dsimp only;rw[Nc c];simp only[V4,decide_eq_true_eq,J4,evB,D0,AE,or_false,Bool.not_eq_true',decide_eq_false_iff_not];refine⟨λb hb=>?_,c,d,e⟩;rcases hb with rfl|rfl
  ·grind
  ·grind
theorem TJ:lcan st r out (.d x)=true↔x∈st/\x∉out:=by
 rw[lc_d];simp
theorem Jn {st:List Str}{r:Int}:∀(p:List Ev) (e:Ev) (s:List Ev) (k:Nat) (o:List Str),wlk st r (p++e::s) k o=none->lcan st r (o++p.flatMap evB) e=true
 | [], e, s, k, o, h => by
  have h':(if lcan st r o e=true then wlk st r s (k+1) (o++evB e) else some k)=none:=h
  by_cases c:lcan st r o e=true
  ·simpa using c
  ·rw[ju c] at h';cases h'
 | a :: p, e, s, k, o, h => by
  have h':(if lcan st r o a=true then wlk st r (p++e::s) (k+1) (o++evB a) else some k)=none:=h
  by_cases c:lcan st r o a=true
  ·rw[jt c] at h';have:=Jn p e s (k+1) (o++evB a) h';rw[N6] at this;exact this
  ·rw[ju c] at h';cases h'
theorem Nd {st:List Str}{r:Int}:∀(es:List Ev) (k:Nat) (o:List Str),(∀p e s,es=p++e::s->lcan st r (o++p.flatMap evB) e=true)->wlk st r es k o=none
 |[],_,_,_=>rfl
 | e :: es, k, o, h => by
  have h1:=h [] e es rfl;rw[List.flatMap_nil,R9] at h1;show(if lcan st r o e=true then wlk st r es (k+1) (o++evB e) else some k)=none;rw[jt h1];refine Nd es _ _ λp e' s he=>?_;have:=h (e::p) e' s (by rw[he];rfl);rw[Y7,<- N6] at this;exact this
theorem TL (nd:st.Nodup)(hg:∀e∈f,Good e)(h:wlk st r f 0 []=none):X7 r st f:=by
 obtain⟨f1,f2⟩:=Jl f 0 [] hg h;have fr:Fair st f:=⟨f1,λb hb=>(f2 b hb).1⟩
 have at_:∀x y,Ev.t x y∈f->∃p s,f=p++.t x y::s/\ixS st y<ixS st x/\((btwU st x y).length:Int)<=r/\∀z∈btwU st x y,z∈p.flatMap evB:=λx y he=>by
  obtain⟨p,s,e⟩:=List.append_of_mem he;have:=Jn p (.t x y) s 0 [] (by rw[<- e];exact h);rw[w9] at this;obtain⟨_,_,a,b,c⟩:=Jm.mp this;exact⟨p,s,e,a,b,c⟩
 -- a later one lies not between
 have later:∀x y x' y',Ev.t x y∈f->Ev.t x' y'∈f->(∃p s,f=p++.t x y::s/\Ev.t x' y'∈s/\∀z∈btwU st x y,z∈p.flatMap evB)->x'∉btwU st x y/\y'∉btwU st x y:=λx y x' y' _ _ ⟨p,s,e,hs,hb⟩=>by
  have nd2:=fr.nd;rw[e,Da,Y7] at nd2;have dis:=(BB.mp nd2).2.2;have no:∀z∈evB (.t x' y'),z∉btwU st x y:=λz hz hb'=>dis z (hb z hb') z (M2 _ (U2.mpr ⟨_,hs,hz⟩)) rfl;exact⟨no x' (by simp[evB]),no y' (by simp[evB])⟩
 refine⟨fr,λx y he=>?_,λx y he=>?_,λx y he z hz=>?_,λx y x' y' he he'=>?_⟩
 ·grind
 ·grind
 ·grind
 ·obtain⟨hx,hy⟩:=fr.tx he;obtain⟨hx',hy'⟩:=fr.tx he';obtain⟨p,s,e,a,b,c⟩:=at_ x y he;obtain⟨p',s',e',a',b',c'⟩:=at_ x' y' he'
  by_cases ce:Ev.t x' y'=Ev.t x y
  ·cases ce;rw[u9 nd hx hy,u9 nd hx hy];omega
  ·have hm:=he';rw[e] at hm;rcases E2.mp hm with hp|hs
   ·-- the ja one was ahead
    obtain⟨p1,s1,e1⟩:=List.append_of_mem hp;have e2:f=p1++.t x' y'::(s1++.t x y::s):=by rw[e,e1];simp
    have pre:=Jn p1 (.t x' y') (s1++.t x y::s) 0 [] (by rw[<- e2];exact h);rw[w9] at pre;obtain⟨_,_,_,_,c2⟩:=Jm.mp pre;obtain⟨n1,n2⟩:=later x' y' x y he' he ⟨p1,_,e2,by simp,c2⟩;rw[u9 nd hx' hy'] at n1 n2;rw[u9 nd hx hy,u9 nd hx hy]
    have q:∀z∈evB (.t x y),∀z'∈evB (.t x' y'),z∈st->z'∈st->ixS st z≠ixS st z':=λz hz z' hz' m m' ez=>by
     have:=Cv m m' ez;subst this;exact ce (Jj fr.nd _ he' _ he hz' hz)
    have q1:=q x (by simp[evB]) x' (by simp[evB]) hx hx';have q2:=q x (by simp[evB]) y' (by simp[evB]) hx hy';have q3:=q y (by simp[evB]) x' (by simp[evB]) hy hx';have q4:=q y (by simp[evB]) y' (by simp[evB]) hy hy';simp only[hx,hy,hx',hy',true_and] at n1 n2 ⊢;omega
   ·rcases D0.mp hs with hs|hs
    ·grind
    ·obtain⟨n1,n2⟩:=later x y x' y' he he' ⟨p,s,e,hs,c⟩;exact⟨λz=>absurd z n1,λz=>absurd z n2⟩
theorem TM (nd:st.Nodup)(so:X7 r st es)(he:Ev.t x y∈es)(he':Ev.t x' y'∈es)(hz:z∈btwU st x y)(hz':z∈evB (.t x' y')):(btwU st x' y').length<(btwU st x y).length:=by
 obtain⟨hx,hy⟩:=so.fair.tx he;obtain⟨hx',hy'⟩:=so.fair.tx he';have a:=so.ahead x y he;have a':=so.ahead x' y' he';have pl:=so.plain x y x' y' he he'
 have both:x'∈btwU st x y/\y'∈btwU st x y:=by
  simp only[evB,D0,AE,or_false] at hz';rcases hz' with rfl|rfl
  ·grind
  ·grind
 obtain⟨_,b1,b2⟩:=(u9 nd hx hy).mp both.1;obtain⟨_,b3,b4⟩:=(u9 nd hx hy).mp both.2;rw[Mn hx hy a,Mn hx' hy' a'];omega
theorem Nf (es:List Ev):(es.filter isDr++es.filter isTo).Perm es:=by
 have h:(es.filter isTo++es.filter (λe=>!isTo e)).Perm es:=List.filter_append_perm isTo es;exact List.perm_append_comm.trans h
theorem TN (nd:st.Nodup)(so:X7 r st es)(pt:ts.Perm (es.filter isTo))(ot:ts.Pairwise λa b=>evL st a<=evL st b):wlk st r (es.filter isDr++ts) 0 []=none:=by
 have pm:(es.filter isDr++ts).Perm es:=(pt.append_left _).trans (Nf es);have fr:=so.fair.perm pm;refine Nd _ 0 [] λp e s he=>?_;rw[w9];have nd2:=fr.nd;rw[he,Da,Y7] at nd2;have dis:=(BB.mp nd2).2.2;have mem:∀b∈evB e,b∈st/\b∉p.flatMap evB:=λb hb=>⟨fr.sub b (by grind),λz=>dis b z b (n6 _ hb) rfl⟩;have hes:e∈es:=pm.mem_iff.mp (by grind);cases e with
 |d x=>exact TJ.mpr (mem x (by simp[evB]))
 | t x y =>
  refine Jm.mpr ⟨mem x (by simp[evB]),mem y (by simp[evB]),so.ahead x y hes,so.near x y hes,λz hz=>?_⟩;obtain⟨e',he',hz'⟩:=U2.mp (so.full x y hes z hz);have hin:e'∈p++.t x y::s:=by rw[<- he];exact pm.mem_iff.mpr he'
  -- where the touch stands among the touches
  have tk:∃p2,ts=p2++.t x y::s/\p=es.filter isDr++p2:=by
   have hd:∀e∈es.filter isDr,e≠.t x y:=λe h z=>by
    have:=(K6.mp h).2;rw[z] at this;cases this
   rcases List.append_eq_append_iff.mp he with⟨a,h1,h2⟩|⟨a,h1,h2⟩
   ·grind
   ·cases a with
    |nil=>exact⟨[],by simpa using h2.symm,by simpa using h1.symm⟩
    | cons c a =>
     have ec:c=.t x y:=by rw[Eu] at h2;injection h2 with h2 _;exact h2.symm
     exact absurd ec (hd c (by grind))
  obtain⟨p2,t1,t2⟩:=tk;cases e' with
  | d w =>
   refine U2.mpr ⟨.d w,?_,hz'⟩;rw[t2];exact n6 _ (K6.mpr ⟨he',rfl⟩)
  | t x' y' =>
   have lt:=TM nd so hes he' hz hz';rcases E2.mp hin with h|h
   ·grind
   ·exfalso
    rcases D0.mp h with h|h
    ·cases h;omega
    ·rw[t1,GF,List.pairwise_cons] at ot;have:=ot.2.1.1 _ h;unfold evL at this;simp only at this;omega
theorem Ng (h1:cmpb d X=true)(h2:ys.all (cmpb d)=true)(h:R (.bl (if neg then !memP X ys else memP X ys))):wIn d neg X (.tup ys) R:=by grind [PV,cmpb,memP,wIn]
theorem ltr_le:∀k:Nat,k<26->(!decide ((⟨#[97+k]⟩:Str).cps.toList<(A8 "a").cps.toList))=true/\(!decide ((A8 "z").cps.toList<(⟨#[97+k]⟩:Str).cps.toList))=true:=by decide +kernel
theorem Gr {z:Str}{n:Nat}{R:PV->Nat->Prop}(hz:F4 z)(h:R (.bl true) n):CB [.str z] n R:=by
 refine⟨rfl,?_⟩;unfold MJ;obtain⟨h1,h2,h3⟩:=hz;have lx:z.length=z.cps.toList.length:=Ca z;have d1:decide ((1:Int)<=(z.length:Int))=true:=jq (by omega);have d2:decide ((z.length:Int)<=8)=true:=jq (by omega);have hlen:z.length<=1000000:=by omega
 walk_at "pu";simp only[hlen,d1,d2,true_and,reduceIte,AH,J5];refine⟨?_,by rw[B4];omega,?_⟩
 ·rw[<- Array.all_toList];exact J4.mpr λc hc=>jq (BG (h3 c hc).2 (by decide))
 ·refine Kx (λ_=>.bl true) _ _ _ _ (λy hy m Q hQ=>?_) ?_
  ·obtain⟨c,hc,rfl⟩:=E5.mp hy;have hc:=h3 c hc;unfold Ltr at hc;have:=ltr_le (c-97) (by omega);rw[show 97+(c-97)=c by omega] at this;obtain⟨l1,l2⟩:=this;walk_at "pu";simp only[l1,l2];exact hQ
  ·have e:=Ar (z.cps.toList.map λc=>PV.str ⟨#[c]⟩) λ_=>true;rw[e];dsimp only;rw[CC,J4.mpr λ_ _=>rfl];exact h
theorem m_ist {x y:Str}{n:Nat}{R:PV->Nat->Prop}(hx:F4 x)(hy:F4 y)(h:R (.bl (!decide (x=y))) n):IY [evP (.t x y)] n R:=by
 refine⟨rfl,?_⟩;unfold ML;rw[P2];walk_at "pu";exact if_f (by decide) (Gr hx (if_t rfl (Gr hy (if_t rfl h))))
theorem nin_ev {x y:Str}{es:List Ev}{E:List PV}(hE:es.map evP=E){R:PV->Prop}(q1:Ev.t x y∈es->R (.bl false))(q2:Ev.t x y∉es->R (.bl true)):wIn 4 true (.tup [.str N5,.str x,.str y]) (.tup E) R:=by
 subst hE;refine⟨rfl,Gn es 3,?_⟩
 have me:memP (.tup [.str N5,.str x,.str y]) (es.map evP)=true↔Ev.t x y∈es:=by
  unfold memP;rw[AG,Y9];exact⟨λ⟨a,ha,q⟩=>by rw[<- ev_eqP (b:=.t x y) q];exact ha,λh=>⟨_,h,To (.t x y)⟩⟩
 cases h:memP (.tup [.str N5,.str x,.str y]) (es.map evP) with
 |true=>exact q1 (me.mp h)
 |false=>exact q2 λz=>by rw[me.mpr z] at h;cases h
theorem Gs {st:List Str}{es:List Ev}{x y:Str}{n:Nat}{R:PV->Nat->Prop}(hx:F4 x)(hy:F4 y)(hg:∀e∈es,Good e)(q:∀b:Bool,(b=true↔Tin st es x y)->R (.bl b) n):l6 [rowP st,shP es,evP (.t x y)] n R:=by
 refine⟨rfl,?_⟩;unfold MM;have hr0:rowP st=.tup (st.map PV.str):=rfl;have hs0:shP es=.tup (es.map evP):=rfl;generalize hE:es.map evP=E at *;generalize hZ:st.map PV.str=Z at *;rw[hr0,hs0,P2];walk_at "pu";refine m_ist hx hy ?_
 by_cases c0:x=y
 ·exact if_t (by rw[jq c0];rfl) (q false ⟨nofun,λh=>absurd c0 (hg _ h.1).1⟩)
 refine if_f (by rw[jr c0];rfl) (nin_ev hE (λc=>if_f rfl (Bj hZ ?_)) λc=>if_t rfl (q false ⟨nofun,λh=>absurd h.1 c⟩))
 by_cases c1:x∈st
 ·exact if_t (jq c1) (Bj hZ (q _ (by rw[decide_eq_true_eq];exact⟨λh=>⟨c,c1,h⟩,λh=>h.2.2⟩)))
 ·exact if_f (jr c1) (q false ⟨nofun,λh=>absurd h.2.1 c1⟩)
theorem i23 (q:R (.bl false)):wIn 4 true (.int ((2:Nat):Int)) (.tup [.int 2,.int 3]) R:=Ng rfl rfl q
theorem i33 (q:R (.bl false)):wIn 4 true (.int ((3:Nat):Int)) (.tup [.int 2,.int 3]) R:=Ng rfl rfl q
def rsB:Rs->List Str
 |.strange b=>[b]
 |.twice b=>[b]
 |.wrong x y=>[x,y]
 |.far x y=>[x,y]
 |.stays x y z=>[x,y,z]
 |.cross x y x' y'=>[x,y,x',y']
theorem TQ {w:Rs}{W b:Str}{r:Int}{st:List Str}{es:List Ev}{n:Nat}{R:PV->Nat->Prop}(hw:(W=A8 "strange"/\w=.strange b)\/(W=A8 "twice"/\w=.twice b))(hb:F4 b)(hg:∀e∈es,Good e)(hl:es.length<=1000)(q:∀c:Bool,(c=true↔isRs r st es w)->R (.bl c) n):IX [rowP st,shP es,.str W,.str b] n R:=by
 refine⟨rfl,?_⟩;unfold MK;have hr0:rowP st=.tup (st.map PV.str):=rfl;generalize hS:shP es=S;generalize hZ:st.map PV.str=Z at *;rw[hr0];walk_at "pu";refine Gr hb (if_f rfl ?_);rw[<- hS];refine Eb hl ?_;have tx:=Fx (es.flatMap evB);rcases hw with⟨rfl,rfl⟩|⟨rfl,rfl⟩
 ·refine if_t (jq rfl) (RU rfl ?_)
  by_cases c:b∈es.flatMap evB
  ·exact if_t (jq c) (FX hZ (q _ (by rw[Bool.not_eq_true',decide_eq_false_iff_not];exact⟨λh=>⟨c,h⟩,λh=>h.2⟩)))
  ·exact if_f (jr c) (q false ⟨nofun,λh=>absurd h.1 c⟩)
 ·refine if_f wsb ⟨⟨_,rfl⟩,?_⟩;dsimp only;rw[tx];refine q _ ?_;have e:=Gq b hg;unfold cntS at e;rw[e,decide_eq_true_eq];show _↔2<=_;omega
theorem TR {w:Rs}{W x y:Str}{r:Int}{st:List Str}{es:List Ev}{n:Nat}{R:PV->Nat->Prop}(hw:(W=A8 "wrong"/\w=.wrong x y)\/(W=A8 "far"/\w=.far x y))(hx:F4 x)(hy:F4 y)(hg:∀e∈es,Good e)(hs:st.length<=100)(q:∀c:Bool,(c=true↔isRs r st es w)->R (.bl c) n):IZ [rowP st,.int r,shP es,.str W,evP (.t x y)] n R:=by
 refine⟨rfl,?_⟩;unfold MN;have mk:∀{R:PV->Nat->Prop},(∀b:Bool,(b=true↔Tin st es x y)->R (.bl b) n)->l6 [rowP st,shP es,evP (.t x y)] n R:=λq=>Gs hx hy hg q;have mw:=λhx hy (R:PV->Nat->Prop) q=>Jf (st:=st) (x:=x) (y:=y) (n:=n) (R:=R) hs hx hy q;have mf:=λhx hy (R:PV->Nat->Prop) q=>Jg (st:=st) (x:=x) (y:=y) (r:=r) (n:=n) (R:=R) hs hx hy q;generalize hS:shP es=S at *;generalize hZ:rowP st=Z at *;generalize hT:evP (.t x y)=T at *;have nt:∀{P:Prop},¬Tin st es x y->(false=true↔Tin st es x y/\P):=λh=>⟨nofun,λz=>absurd z.1 h⟩;rcases hw with⟨rfl,rfl⟩|⟨rfl,rfl⟩
 ·walk_at "pu";refine mk λb hb=>?_;cases b with
  |false=>exact if_t rfl (q false (nt λz=>nomatch hb.mpr z))
  | true =>
   have ti:=hb.mp rfl;exact if_f rfl (mw ti.2.1 ti.2.2 _ (q _ (by rw[decide_eq_true_eq];exact⟨λh=>⟨ti,h⟩,λh=>h.2⟩)))
 ·walk_at "pu";refine mk λb hb=>?_;cases b with
  |false=>exact if_t rfl (q false (nt λz=>nomatch hb.mpr z))
  | true =>
   have ti:=hb.mp rfl;exact if_f rfl (mf ti.2.1 ti.2.2 _ (q _ (by rw[decide_eq_true_eq];exact⟨λh=>⟨ti,h⟩,λh=>h.2⟩)))
theorem TU {x y z:Str}{r:Int}{st:List Str}{es:List Ev}{n:Nat}{R:PV->Nat->Prop}(hx:F4 x)(hy:F4 y)(hz:F4 z)(hg:∀e∈es,Good e)(hs:st.length<=100)(hl:es.length<=1000)(q:∀c:Bool,(c=true↔isRs r st es (.stays x y z))->R (.bl c) n):I_ [rowP st,shP es,evP (.t x y),.str z] n R:=by
 refine⟨rfl,?_⟩;unfold MO;have mk:∀{R:PV->Nat->Prop},(∀b:Bool,(b=true↔Tin st es x y)->R (.bl b) n)->l6 [rowP st,shP es,evP (.t x y)] n R:=λq=>Gs hx hy hg q;have mw:=λhx hy (R:PV->Nat->Prop) q=>CD (st:=st) (x:=x) (y:=y) (n:=n) (R:=R) hs hx hy q;have mo:=λ(R:PV->Nat->Prop) q=>Eb (es:=es) (n:=n) (R:=R) hl q;generalize hS:shP es=S at *;generalize hZ:rowP st=Z at *;generalize hT:evP (.t x y)=T at *;walk_at "pu";refine mk λb hb=>?_;cases b with
 |false=>exact if_t rfl (q false ⟨nofun,λh=>nomatch hb.mpr h.1⟩)
 | true =>
  have ti:=hb.mp rfl;refine if_f rfl (Gr hz (if_f rfl (mw ti.2.1 ti.2.2 _ (Bj rfl ?_))))
  by_cases c:z∈btwU st x y
  ·exact if_t (jq c) (mo _ (Iz rfl (q _ (by rw[Bool.not_eq_true',decide_eq_false_iff_not];exact⟨λh=>⟨ti,c,h⟩,λh=>h.2.2⟩))))
  ·exact if_f (jr c) (q false ⟨nofun,λh=>absurd h.2.1 c⟩)
theorem TV {x y x' y':Str}{r:Int}{st:List Str}{es:List Ev}{n:Nat}{R:PV->Nat->Prop}(hx:F4 x)(hy:F4 y)(hx':F4 x')(hy':F4 y')(hg:∀e∈es,Good e)(hs:st.length<=100)(q:∀c:Bool,(c=true↔isRs r st es (.cross x y x' y'))->R (.bl c) n):Ja [rowP st,shP es,evP (.t x y),evP (.t x' y')] n R:=by
 refine⟨rfl,?_⟩;unfold MP;have mk:∀{R:PV->Nat->Prop},(∀b:Bool,(b=true↔Tin st es x y)->R (.bl b) n)->l6 [rowP st,shP es,evP (.t x y)] n R:=λq=>Gs hx hy hg q;have mk':∀{R:PV->Nat->Prop},(∀b:Bool,(b=true↔Tin st es x' y')->R (.bl b) n)->l6 [rowP st,shP es,evP (.t x' y')] n R:=λq=>Gs hx' hy' hg q;have mc:=λhx hy (R:PV->Nat->Prop) q q'=>Nb (st:=st) (x:=x) (y:=y) (x':=x') (y':=y') (n:=n) (R:=R) hs hx hy q q';generalize hS:shP es=S at *;generalize hZ:rowP st=Z at *;generalize hT:evP (.t x y)=T at *;generalize hU:evP (.t x' y')=U at *;walk_at "pu";refine mk λb hb=>?_;cases b with
 |false=>exact if_t rfl (q false ⟨nofun,λh=>nomatch hb.mpr h.1⟩)
 | true =>
  have ti:=hb.mp rfl;refine if_f rfl (mk' λb hb'=>?_);cases b with
  |false=>exact if_t rfl (q false ⟨nofun,λh=>nomatch hb'.mpr h.2.1⟩)
  |true=>exact if_f rfl (mc ti.2.1 ti.2.2 _ (λh=>q false ⟨nofun,λz=>absurd (h z.2.2.1) z.2.2.2⟩) λh h'=>q true ⟨λ_=>⟨ti,hb'.mp rfl,h,h'⟩,λ_=>rfl⟩)
theorem Nh {w:Rs}{r:Int}{st:List Str}{es:List Ev}{n:Nat}{R:PV->Nat->Prop}(hw:∀z∈rsB w,F4 z)(hg:∀e∈es,Good e)(hs:st.length<=100)(hl:es.length<=1000)(q:∀c:Bool,(c=true↔isRs r st es w)->R (.bl c) n):Aq [rowP st,.int r,shP es,rsP w] n R:=by
 refine⟨rfl,?_⟩;unfold MQ;have m1:=λW b hw' (hb:F4 b) (R:PV->Nat->Prop) q=>TQ (w:=w) (W:=W) (b:=b) (r:=r) (st:=st) (es:=es) (n:=n) (R:=R) hw' hb hg hl q;have m2:=λW x y hw' (hx:F4 x) (hy:F4 y) (R:PV->Nat->Prop) q=>TR (w:=w) (W:=W) (x:=x) (y:=y) (r:=r) (st:=st) (es:=es) (n:=n) (R:=R) hw' hx hy hg hs q;have m3:=λx y z (hx:F4 x) (hy:F4 y) (hz:F4 z) (R:PV->Nat->Prop) q=>TU (x:=x) (y:=y) (z:=z) (r:=r) (st:=st) (es:=es) (n:=n) (R:=R) hx hy hz hg hs hl q;have m4:=λx y x' y' (hx:F4 x) (hy:F4 y) (hx':F4 x') (hy':F4 y') (R:PV->Nat->Prop) q=>TV (x:=x) (y:=y) (x':=x') (y':=y') (r:=r) (st:=st) (es:=es) (n:=n) (R:=R) hx hy hx' hy' hg hs q;generalize hS:shP es=S at *;generalize hZ:rowP st=Z at *;have ok:∀{z:Str} {zs:List Str} {A B:Prop},z∈zs->A->wIn 4 false (.str z) (.tup (zs.map PV.str)) λv=>match v with|.bl b=>if b=true then A else B|_=>False:=λh a=>Bj rfl (if_t (jq h) a)
 have no:∀{z:Str} {zs:List Str} {A B:Prop},z∉zs->B->wIn 4 false (.str z) (.tup (zs.map PV.str)) λv=>match v with|.bl b=>if b=true then A else B|_=>False:=λh a=>Bj rfl (if_f (jr h) a)
 cases w with
 | strange b =>
  unfold rsP;walk_at "pu";exact i23 (if_f rfl (if_t (jq rfl) (ok (zs:=[_,_]) (by simp) (m1 _ b (.inl ⟨rfl,rfl⟩) (hw b (by simp[rsB])) _ q))))
 | twice b =>
  unfold rsP;walk_at "pu";exact i23 (if_f rfl (if_t (jq rfl) (ok (zs:=[_,_]) (by simp) (m1 _ b (.inr ⟨rfl,rfl⟩) (hw b (by simp[rsB])) _ q))))
 | wrong x y =>
  rw[show rsP (.wrong x y)=.tup [.str (A8 "wrong"),evP (.t x y)] from rfl];generalize hT:evP (.t x y)=T at *;walk_at "pu";rw[show atI [T] 0=some T from rfl];dsimp only;have:=m2 _ x y (.inl ⟨rfl,rfl⟩) (hw x (by simp[rsB])) (hw y (by simp[rsB])) _ q;rw[hT] at this;exact i23 (if_f rfl (if_t (jq rfl) (no (zs:=[_,_]) (by decide +kernel) (if_t (jq rfl) (ok (zs:=[_,_]) (by simp) this)))))
 | far x y =>
  rw[show rsP (.far x y)=.tup [.str (A8 "far"),evP (.t x y)] from rfl];generalize hT:evP (.t x y)=T at *;walk_at "pu";rw[show atI [T] 0=some T from rfl];dsimp only;have:=m2 _ x y (.inr ⟨rfl,rfl⟩) (hw x (by simp[rsB])) (hw y (by simp[rsB])) _ q;rw[hT] at this;exact i23 (if_f rfl (if_t (jq rfl) (no (zs:=[_,_]) (by decide +kernel) (if_t (jq rfl) (ok (zs:=[_,_]) (by simp) this)))))
 | stays x y z =>
  rw[show rsP (.stays x y z)=.tup [.str (A8 "stays"),evP (.t x y),.str z] from rfl];generalize hT:evP (.t x y)=T at *;walk_at "pu";have:=m3 x y z (hw x (by simp[rsB])) (hw y (by simp[rsB])) (hw z (by simp[rsB])) _ q;rw[hT] at this;exact i33 (if_f rfl (if_f (by decide) (if_f (by decide) this)))
 | cross x y x' y' =>
  rw[show rsP (.cross x y x' y')=.tup [.str (A8 "cross"),evP (.t x y),evP (.t x' y')] from rfl];generalize hT:evP (.t x y)=T at *;generalize hU:evP (.t x' y')=U at *;walk_at "pu";have:=m4 x y x' y' (hw x (by simp[rsB])) (hw y (by simp[rsB])) (hw x' (by simp[rsB])) (hw y' (by simp[rsB])) _ q;rw[hT,hU] at this;exact i33 (if_f rfl (if_f (by decide) (if_f (by decide) this)))
theorem As (h:∀U:pS,U=q->p { D with nx:=λe m=>U D e m } env n):qSeq p q D env n:=h q rfl
theorem Ni:∀{l:List Str},l.Nodup->cntS b l<=1
 |[],_=>by show(0:Int)<=1;decide
 | y :: l, nd => by
  obtain⟨n1,n2⟩:=Q2.mp nd;have ih:=Ni (b:=b) n2;rw[v4]
  by_cases c:y=b
  ·subst c;rw[jt rfl]
   by_cases z:cntS y l=0
   ·omega
   ·exfalso
    have:∀l:List Str,y∉l->cntS y l=0:=λl=>by
     induction l with
     |nil=>intro _;rfl
     | cons a l ih =>
      intro h;rw[v4,ju (λe=>h (by grind)),ih λz=>h (C5 _ z)]
      rfl
    exact z (this l n1)
  ·grind
theorem Nj (hg:∀e∈es,Good e)(h:isRs r st es w):¬X7 r st es:=λso=>by
 cases w with
 |strange b=>exact h.2 (so.fair.sub b h.1)
 | twice b =>
  have h2:2<=(es.filter λe=>decide (b∈evB e)).length:=h;have:=Ni (b:=b) so.fair.nd;rw[Gq b hg] at this;omega
 |wrong x y=>have:=so.ahead x y h.1.1;have:=h.2;omega
 |far x y=>have:=so.near x y h.1.1;have:=h.2;omega
 |stays x y z=>exact h.2.2 (so.full x y h.1.1 z h.2.1)
 |cross x y x' y'=>exact h.2.2.2 (so.plain x y x' y' h.1.1 h.2.1.1)
theorem Nk {e:Ev}(h:Good e):∀b∈evB e,F4 b:=by
 cases e with
 |d x=>intro b hb;rw[E1.mp hb];exact h
 | t x y =>
  intro b hb;rcases D0.mp hb with rfl|hb
  ·exact h.2.1
  ·rw[E1.mp hb];exact h.2.2
theorem TW {r:Int}{st:List Str}{es:List Ev}{w:Rs}(hst:RowS st)(hg:∀e∈es,Good e)(h:isRs r st es w):∀z∈rsB w,F4 z:=by
 have gb:∀z∈es.flatMap evB,F4 z:=λz hz=>by obtain⟨e,he,hz⟩:=U2.mp hz;exact Nk (hg e he) z hz
 have gt:∀{x y},Tin st es x y->F4 x/\F4 y:=λh=>⟨hst.2 _ h.2.1,hst.2 _ h.2.2⟩;cases w with
 |strange b=>intro z hz;rw[E1.mp hz];exact gb b h.1
 | twice b =>
  intro z hz;rw[E1.mp hz];have h:2<=(es.filter λe=>decide (b∈evB e)).length:=h;obtain⟨e,he⟩:=List.exists_mem_of_length_pos (show 0<(es.filter λe=>decide (b∈evB e)).length by omega);obtain⟨he,hb⟩:=K6.mp he;exact Nk (hg e he) b (jv hb)
 |wrong x y=>have:=gt h.1;simp[rsB,this]
 |far x y=>have:=gt h.1;simp[rsB,this]
 |stays x y z=>have:=gt h.1;have:=hst.2 z (W3 (CY h.2.1));simp[*,rsB]
 |cross x y x' y'=>have:=gt h.1;have:=gt h.2.1;simp[*,rsB]
theorem TX {zs:List Str}{a b:Ev}(h:∀x∈evB a,∀y∈evB b,x≠y)(ha:∀x∈evB a,x∈zs)(hb:∀x∈evB b,x∈zs)(f:List Str):setE zs (setE zs f a) b=setE zs (setE zs f b) a:=by
 cases a with
 |d x=>rfl
 | t x y =>
  cases b with
  |d z=>rfl
  | t u v =>
   have ne:∀p∈evB (.t x y),∀q∈evB (.t u v),ixS zs p≠ixS zs q:=λp hp q hq e=>h p hp q hq (Cv (ha p hp) (hb q hq) e);have n1:=ne x (by simp[evB]) u (by simp[evB]);have n2:=ne x (by simp[evB]) v (by simp[evB]);have n3:=ne y (by simp[evB]) u (by simp[evB]);have n4:=ne y (by simp[evB]) v (by simp[evB]);show((((f.set (ixS zs x) y).set (ixS zs y) x).set (ixS zs u) v).set (ixS zs v) u)=((((f.set (ixS zs u) v).set (ixS zs v) u).set (ixS zs x) y).set (ixS zs y) x);rw[x4 _ _ n3,x4 _ _ n1,x4 _ _ n4,x4 _ _ n2]
theorem TY {zs:List Str}{es es':List Ev}(fr:Fair zs es)(pm:es'.Perm es):aft zs es'=aft zs es:=by
 unfold aft;have fe:=fr.perm pm;refine pm.foldl_eq' (λa ha b hb f=>?_) zs
 by_cases c:a=b
 ·subst c;rfl
 ·refine TX (λx hx y hy e=>?_) (λx hx=>fe.sub x (U2.mpr ⟨a,ha,hx⟩)) (λx hx=>fe.sub x (U2.mpr ⟨b,hb,hx⟩)) f;subst e;exact c (Jj fe.nd a ha b hb hx hy)
theorem TZ {R:PV->Nat->Prop}(hi:i<f.length)(hj:j<f.length)(h:R (rowP (exch f i j)) n):IV [rowP f,.int (i:Int),.int (j:Int)] n R:=by
 refine⟨rfl,?_⟩;unfold Mv;unfold rowP at *;have ai:∀{k:Nat},k<f.length->atI (f.map PV.str) (k:Int)=some (.str (nm f k)):=λ{k} hk=>Fe (by rw[G9,Cu hk];rfl);have e:((f.map PV.str).set i (.str (nm f j))).set j (.str (nm f i))=(exch f i j).map PV.str:=by unfold exch;rw[List.map_set,List.map_set]
 generalize hF:f.map PV.str=F at *;have Fl:F.length=f.length:=by rw[<- hF,B4]
 walk_at "pu";rw[ai hj];dsimp only;rw[ai hi];dsimp only;refine⟨⟨_,rfl⟩,?_⟩;rw[Dq (by omega) (by omega)];dsimp only;rw[Dq (by omega) (by rw[P0];omega)];dsimp only;rw[BS,BS,e];exact h
theorem Nl (h24:zs.length<=1000)(hl:es.length<=1000)(hb:∀b∈es.flatMap evB,b∈zs)(h:R (rowP (rbh zs es)) n):Bn [rowP zs,shP es] n R:=by
 refine⟨rfl,?_⟩;unfold Mw;have hix:∀z∈zs,∀{R:PV->Prop},R (.int (ixS zs z))->Bf (.tup (zs.map PV.str)) (.str z) R:=λz hz {R} q=>m_ix rfl hz (by omega) q;have hbe:∀e∈es,∀b∈evB e,b∈zs:=λe he b hb'=>hb b (U2.mpr ⟨e,he,hb'⟩);generalize hS:shP es=S;have hr0:rowP zs=.tup (zs.map PV.str):=rfl;generalize hZ:zs.map PV.str=Z at *;rw[hr0];walk_at "pu";rw[<- hS];refine Jh (by omega) ?_;dsimp only;rw[hS];refine Q8 (λi env m=>∃s3,env=[some (.v (.tup Z)),some (.v S),some (.v (rowP (((es.filter isTo).take i).foldl (exE zs) zs))),s3]/\m=n) _ 0 _ _ ⟨none,by rw[List.take_zero,List.foldl_nil,hr0],rfl⟩ (λi x env m N ex hI hN=>?_) (λenv m hI=>?_)
 ·obtain⟨s3,rfl,rfl⟩:=hI;obtain⟨e,ee,rfl⟩:=b9 ex;rw[K7] at hN ⊢;have st:((es.filter isTo).take (i+1)).foldl (exE zs) zs=exE zs (((es.filter isTo).take i).foldl (exE zs) zs) e:=by rw[Am ee,List.foldl_append];rfl
  have fl:(((es.filter isTo).take i).foldl (exE zs) zs).length=zs.length:=LM zs _ _;rw[st] at hN;generalize ((es.filter isTo).take i).foldl (exE zs) zs=f at *;obtain⟨he,ht⟩:=K6.mp (J8 ee);have em:=hbe e he;cases e with
  |d x=>cases ht
  | t x y =>
   have hx:=em x (by simp[evB]);have hy:=em y (by simp[evB]);have lx:=Cs hx;have ly:=Cs hy;rw[P2];generalize hF:rowP f=F;walk_at "pu";refine⟨⟨_,rfl⟩,hix x hx ?_⟩;refine⟨⟨_,rfl⟩,hix y hy ?_⟩;rw[<- hF];refine TZ (by omega) (by omega) ?_;exact hN _ _ ⟨_,rfl,rfl⟩
 ·obtain⟨s3,rfl,rfl⟩:=hI;rw[K7,B4,o7,IG];have h':R (rowP (es.foldl (exE zs) zs)) m:=h;generalize rowP (es.foldl (exE zs) zs)=F at *;walk_at "pu";exact h'
theorem T_ {st out:List Str}{r:Int}{ks:List Key}{xs:List PV}{e:Ev}{n:Nat}{R:PV->Nat->Prop}(hs:st.length<=100)(hg:Good e)(hk:∀b:Str,memK ks (.inr b)=(decide (b∈st) && !decide (b∈out)))(h:R (.bl (lcan st r out e)) n):Gk [rowP st,.int r,.dct ks xs,evP e] n R:=by
 refine⟨rfl,?_⟩;unfold MH
 have go:∀(bs:List Str) (s0:Option Pu.Slot) (R':List PV->Nat->Prop),R' (bs.map λb=>PV.bl (decide (b∈st)&&!decide (b∈out))) n->U8 (gN 0) qTru (qOp wInD (qV 0) (qV 1)) (bs.map PV.str) [s0,some (.v (.dct ks xs))] n R':=by
  intro bs s0 R' h';refine X4 PV.str _ bs s0 n R' (λb hb m Q hQ=>?_) h';walk_at "pu";rw[hk b];exact hQ
 have mb:∀{x y:Str} {n:Nat} {R:PV->Nat->Prop},x∈st->y∈st->R (rowP (btwU st x y)) n->V8 [rowP st,.tup [.str N5,.str x,.str y]] n R:=λhx hy q=>CD hs hx hy q;have mw:∀{x y:Str} {n:Nat} {R:PV->Nat->Prop},x∈st->y∈st->R (.bl (decide (ixS st x<ixS st y))) n->Cz [rowP st,.tup [.str N5,.str x,.str y]] n R:=λhx hy q=>Jf hs hx hy q;have mf:∀{x y:Str} {n:Nat} {R:PV->Nat->Prop},x∈st->y∈st->R (.bl (decide (r<((btwU st x y).length:Int)))) n->CA [rowP st,.int r,.tup [.str N5,.str x,.str y]] n R:=λhx hy q=>Jg hs hx hy q;cases e with
 | d x =>
  rw[X6];generalize hS:rowP st=S;generalize hD:PV.dct ks xs=DD at *;walk_at "pu";rw[show cutP [PV.str DROP,PV.str x] (some 1) none=[x].map PV.str from rfl];refine⟨by simp,go _ _ _ ?_⟩;rw[Ar];dsimp only;rw[CC];rw[lc_d] at h;cases hb:[x].all (λb=>decide (b∈st)&&!decide (b∈out)) with
  |false=>rw[hb] at h;exact h
  |true=>rw[hb] at h;exact h
 | t x y =>
  rw[P2];unfold lcan at h;rw[show evB (.t x y)=[x,y] from rfl] at h;dsimp only at h;generalize hS:rowP st=S at *;generalize hD:PV.dct ks xs=DD at *;walk_at "pu";rw[show cutP [PV.str N5,PV.str x,PV.str y] (some 1) none=[x,y].map PV.str from rfl];refine⟨by simp,go _ _ _ ?_⟩;rw[Ar];dsimp only;rw[CC];cases hb:[x,y].all (λb=>decide (b∈st)&&!decide (b∈out)) with
  |false=>rw[hb,p5] at h;exact h
  | true =>
   rw[hb,x6] at h
   have hm:∀b∈[x,y],b∈st:=λb hb'=>by
    have:=J4.mp hb b hb';rw[V4] at this;exact jv this.1
   have hx:x∈st:=hm x (by simp);have hy:y∈st:=hm y (by simp);have nxy:ixS st x≠ixS st y:=λz=>hg.1 (Cv hx hy z);rw[ju (by simp),ju (by rw[LK];simp)];refine mw hx hy ?_;dsimp only
   by_cases c1:ixS st x<ixS st y
   ·rw[jt (jq c1)];rw[jr (by omega),p5] at h;exact h
   ·rw[ju (by simpa using c1)];rw[jq (by omega),x6] at h
    have eb:btwU st x y=btw st x y:=by
     unfold btwU btw;rw[show max (ixS st x) (ixS st y)=ixS st x by omega,show min (ixS st x) (ixS st y)=ixS st y by omega]
    have sb:∀b∈btw st x y,b∈st:=λb hb'=>W3 (CY hb');have bl:(btw st x y).length<=100:=by unfold btw;rw[Y8,N7];omega
    refine mf hx hy ?_;rw[eb];dsimp only
    by_cases c2:r<((btw st x y).length:Int)
    ·rw[jt (jq c2)];rw[jr (by omega),p5] at h;exact h
    ·rw[ju (by simpa using c2)];rw[jq (by omega),x6] at h;refine mb hx hy ?_;rw[eb];refine⟨by rw[B4];omega,go _ _ _ ?_⟩;rw[Ar];dsimp only;rw[MX]
     have:(!(btw st x y).any λb=>decide (b∈st)&&!decide (b∈out))=(btw st x y).all λb=>decide (b∈out):=by
      rw[List.not_any_eq_all_not];rw[i6,J4,J4];constructor
      ·intro h b hb';have:=h b hb';rw[jq (sb b hb'),x6,Bool.not_not] at this;exact this
      ·intro h b hb';rw[h b hb'];simp
     rw[this];exact h
theorem Nm {rest:Pu.Env}{n:Nat}{R:List Key->List PV->Nat->Prop}:∀(zs jm:List Str) (ys:List PV) (s0:Option Pu.Slot),(jm++zs).Nodup->ys.length=jm.length->(∀ys':List PV,ys'.length=(jm++zs).length->R ((jm++zs).map M3) ys' n)->dcL (gN 0) (qV 0) (qC (.bl true)) (zs.map PV.str) (jm.map M3) ys (s0::rest) n R
 | [], jm, ys, s0, _, hl, h => by
  rw[R9] at h;exact h ys hl
 | z :: zs, jm, ys, s0, nd, hl, h => by
  have hz:(M3 z:Key)∉jm.map M3:=λc=>by
   obtain⟨y,hy,e⟩:=E5.mp c;cases e;have:=(BB.mp nd).2.2 z hy z C6;exact this rfl
  show dcL (gN 0) (qV 0) (qC (.bl true)) (zs.map PV.str) (l5 (jm.map M3) (M3 z)) (V7 (jm.map M3) ys (M3 z) (.bl true)) (some (.v (.str z))::rest) n R;unfold l5 V7;rw[ju hz,ju hz,show jm.map M3++[(M3 z:Key)]=(jm++[z]).map M3 by rw[M6];rfl];refine Nm zs (jm++[z]) _ _ (by rw[N6];exact nd) (by rw[D4,D4,hl];rfl) λys' h'=>?_;rw[N6] at h' ⊢;exact h ys' h'
def ksOf (st o:List Str):List Key:=(st.filter λb=>!decide (b∈o)).map M3
theorem Nn {st o:List Str}(b:Str):memK (ksOf st o) (.inr b)=(decide (b∈st)&&!decide (b∈o)):=by
 rw[i6,Ip,V4,decide_eq_true_iff];unfold ksOf;rw[E5];constructor
 ·rintro⟨a,h,e⟩;cases e;exact⟨(K6.mp h).1,(K6.mp h).2⟩
 ·rintro⟨h1,h2⟩;exact⟨b,K6.mpr ⟨h1,h2⟩,rfl⟩
theorem ks_del {st o:List Str}(b:Str):b8 (ksOf st o) (.inr b)=ksOf st (o++[b]):=by
 unfold b8 ksOf;rw[List.filter_map,List.filter_filter]
 congr 1
 refine List.filter_congr λa _=>?_;simp only[Function.comp];rw[i6];simp[E2,not_or,and_comm]
theorem No {α:Type}:∀{ks:List Key} {xs:List α} (k:Key),ks.length=xs.length->(b8 ks k).length=(b7 ks xs k).length
 |[],[],_,_=>rfl
 | z :: ks, x :: xs, k, h => by
  have ih:=No (ks:=ks) (xs:=xs) k (by simpa using h);unfold b8 b7 at ih ⊢
  by_cases c:z=k
  ·rw[O9,AA (by simp[c]),AA (by simp[c])];exact ih
  ·rw[O9,AB (by simp[c]),AB (by simp[c]),F2,K2,K2,ih]
theorem Np {st:List Str}{a0 a1 a2 a4 a5:Option Pu.Slot}{n:Nat}{D:AY}:∀(bs o:List Str) (xs:List PV) (s6:Option Pu.Slot),(∀b∈bs,b∈st/\b∉o)->bs.Nodup->(ksOf st o).length=xs.length->
   (∀(xs':List PV) s6',(ksOf st (o++bs)).length=xs'.length->D.nx [a0,a1,a2,some (.ow (.dk (ksOf st (o++bs))) xs'),a4,a5,s6'] n)->
   forL (gN 6) (DP 3 (qV 6)) D (bs.map PV.str) [a0,a1,a2,some (.ow (.dk (ksOf st o)) xs),a4,a5,s6] n
 | [], o, xs, s6, _, _, hl, h => by
  rw[R9] at h;exact h xs s6 hl
 | b :: bs, o, xs, s6, hb, nd, hl, h => by
  have hb0:=hb b C6;have nd':=Q2.mp nd;refine⟨⟨_,_,rfl⟩,?_⟩;show(ksOf st o).length=xs.length/\(M3 b:Key)∈ksOf st o/\forL (gN 6) (DP 3 (qV 6)) D (bs.map PV.str) [a0,a1,a2,some (.ow (.dk (b8 (ksOf st o) (.inr b))) (b7 (ksOf st o) xs (.inr b))),a4,a5,some (.v (.str b))] n;refine⟨hl,Ip.mp (by rw[Nn,jq hb0.1,jr hb0.2];rfl),?_⟩;have ll:=No (.inr b) hl;rw[ks_del] at ll ⊢;refine Np bs (o++[b]) _ _ (λc hc=>⟨(hb c (C5 _ hc)).1,λz=>?_⟩) nd'.2 ll λxs' s6' h'=>?_
  ·rcases E2.mp z with z|z
   ·exact(hb c (C5 _ hc)).2 z
   ·rw[E1.mp z] at hc;exact nd'.1 hc
  ·rw[N6] at h' ⊢;exact h xs' s6' h'
theorem Nq {st:List Str}{r:Int}{es:List Ev}{n:Nat}{R:PV->Nat->Prop}(hs:st.length<=100)(nd:st.Nodup)(he:es.length<=200)(hg:∀e∈es,Good e)(h:R (resW (wlk st r es 0 []) (rbh st es)) n):Ap [rowP st,.int r,shP es] n R:=by
 refine⟨rfl,?_⟩;unfold MI;have hc:∀(o:List Str) (xs:List PV) (e:Ev) {n:Nat} {R:PV->Nat->Prop},e∈es->R (.bl (lcan st r o e)) n->Gk [rowP st,.int r,.dct (ksOf st o) xs,evP e] n R:=λo xs e {n R} he q=>T_ hs (hg e he) (λb=>Nn b) q;have hrb:∀{n:Nat} {R:PV->Nat->Prop},(∀b∈es.flatMap evB,b∈st)->R (rowP (rbh st es)) n->Bn [rowP st,shP es] n R:=λhb q=>Nl (by omega) (by omega) hb q;have hr0:rowP st=.tup (st.map PV.str):=rfl;generalize hZ:st.map PV.str=Z at *;have Zl:Z.length=st.length:=by rw[<- hZ,B4]
 rw[hr0] at hc hrb ⊢;have hs0:shP es=.tup (es.map evP):=rfl;generalize hE:es.map evP=E at *;have El:E.length=es.length:=by rw[<- hE,B4]
 rw[hs0] at hrb ⊢;walk_at "pu";refine⟨by omega,?_⟩;rw[<- hZ];refine Nm st [] [] _ nd rfl λys0 l0=>?_;rw[hZ]
 have k0:([]++st).map M3=ksOf st []:=by
  unfold ksOf;rw[w9,List.filter_eq_self.mpr (λa _=>by simp:∀a∈st,(!decide (a∈([]:List Str)))=true)]
 rw[k0];have l1:(ksOf st []).length=ys0.length:=by rw[<- k0,B4,l0]
 refine Q8 (λi env m=>∃s4 s5 s6,∃(o:List Str) (xs:List PV),env=[some (.v (.tup Z)),some (.v (.int r)),some (.v (.tup E)),some (.ow (.dk (ksOf st o)) xs),s4,s5,s6]/\(ksOf st o).length=xs.length/\wlk st r es 0 []=wlk st r (es.drop i) i o/\m=n) _ 0 _ _ ⟨none,none,none,[],ys0,rfl,l1,rfl,rfl⟩ (λi x env m N ex hI hN=>?_) (λenv m hI=>?_)
 ·obtain⟨y,ey,rfl⟩:=HB ex;rw[<- hE] at ey;obtain⟨e,ee,rfl⟩:=b9 ey;obtain⟨s4,s5,s6,o,xs,rfl,lk,hw,rfl⟩:=hI;rw[K7] at hw hN;have hi:=(G4.mp ee).1;have hem:=J8 ee;rw[w8 hi,(G4.mp ee).2] at hw
  have hwl:∀b,lcan st r o e=b->wlk st r es 0 []=if b=true then wlk st r (es.drop (i+1)) (i+1) (o++evB e) else some i:=λb hb=>by
   rw[hw,<- hb];rfl
  have ne:(evB e).Nodup:=by
   have ge:=hg e hem;cases e with
   |d x=>simp[evB]
   |t x y=>have:x≠y:=ge.1;simp[evB,this]
  obtain⟨ws,hws⟩:∃ws,evP e=.tup ws:=⟨_,rfl⟩;have ec:=Tp e hws;have hcc:=λ{n:Nat} {R:PV->Nat->Prop}=>@hc o xs e n R hem;rw[hws] at hcc ⊢;generalize hK:ksOf st o=KK at *;walk_at "pu";rw[jt lk];walk_at "pu";refine hcc ?_;refine⟨rfl,?_⟩;dsimp only;cases hb:lcan st r o e with
  | false =>
   have:=hwl false hb;rw[ju (by simp)] at this;rw[this] at h;exact h
  | true =>
   have:=hwl true hb;rw[jt rfl] at this;rw[ec,ju (by simp),<- hK];refine Np (evB e) o xs s6 (Go hb) ne (by rw[hK];exact lk) λxs' s6' h'=>?_;exact hN _ _ ⟨some (.v (.int (i:Int))),some (.v (.tup ws)),s6',o++evB e,xs',rfl,h',this,rfl⟩
 ·obtain⟨s4,s5,s6,o,xs,rfl,lk,hw,rfl⟩:=hI;rw[HC,El,K7,AD] at hw;walk_at "pu";rw[hw] at h;exact hrb (λb hb=>((Jl es 0 [] hg hw).2 b hb).1) h
def ins (e:Ev)(o:List Ev):List (List Ev):=(F6 (o.length+1)).map λi=>o.take i++[e]++o.drop i
theorem Ua {p:List Ev}{os:List (List Ev)}(h:∀o,o∈os↔o.Perm p)(e:Ev)(o:List Ev):o∈os.flatMap (ins e)↔o.Perm (p++[e]):=by
 rw[U2];constructor
 ·rintro⟨a,ha,ho⟩;obtain⟨i,_,rfl⟩:=E5.mp ho;rw[N6];refine(List.perm_middle (l₁:=a.take i) (l₂:=a.drop i) (a:=e)).trans ?_;rw[GE];exact(((h a).mp ha).cons e).trans (List.perm_append_singleton e p).symm
 ·intro ho;have he:e∈o:=ho.mem_iff.mpr (E2.mpr (.inr (E1.mpr rfl)));obtain⟨s,t,rfl⟩:=List.append_of_mem he;have hp:(s++t).Perm p:=((List.perm_middle.symm.trans ho).trans (List.perm_append_singleton e p)).cons_inv;refine⟨s++t,(h _).mpr hp,E5.mpr ⟨s.length,M7.mpr (by rw[D4];omega),?_⟩⟩;rw[List.take_left,List.drop_left,N6]
  rfl
theorem Jo {e:Ev}{m:Nat}:∀(os:List (List Ev)),(∀o∈os,o.length=m)->(os.flatMap (ins e)).length=os.length*(m+1)
 |[],_=>by simp
 | o :: os, h => by
  rw[Y7,D4,Jo os λo' ho'=>h o' (C5 _ ho')];unfold ins;rw[B4,o6,h o C6,K2,Nat.add_mul,Nat.one_mul,Nat.add_comm]
theorem Ub {es:List Ev}{n:Nat}{R:PV->Nat->Prop}(hl:es.length<=4)(h:∀os:List (List Ev),(∀o,o∈os↔o.Perm es)->os.length<=625->R (.lst (os.map shP)) n):DW [shP es] n R:=by
 refine⟨rfl,?_⟩;unfold Mx;have hs0:shP es=.tup (es.map evP):=rfl;rw[hs0];generalize hE:es.map evP=E at *;have El:E.length=es.length:=by rw[<- hE,B4]
 walk_at "pu";refine Q8 (λi env m=>∃(os:List (List Ev)) (s2 s3 s4:Option Pu.Slot),env=[some (.v (.tup E)),some (.v (.lst (os.map shP))),s2,s3,s4]/\(∀o,o∈os↔o.Perm (es.take i))/\os.length<=5 ^ i/\m=n) _ 0 _ _ ⟨[[]],none,none,none,rfl,by simp,by decide,rfl⟩ (λi x env m N ex hI hN=>?_) (λenv m hI=>?_)
 ·obtain⟨os,s2,s3,s4,rfl,ho,ol,rfl⟩:=hI;rw[<- hE] at ex;obtain⟨e,ee,rfl⟩:=b9 ex;rw[K7] at hN ho ol;have hi:=(G4.mp ee).1;have olen:∀o∈os,o.length=i:=λo hm=>by rw[((ho o).mp hm).length_eq,N7];omega
  have il:=Jo (e:=e) os olen;have im:=Ua ho e;rw[<- Am ee] at im
  have i625:(os.flatMap (ins e)).length<=5 ^ (i+1):=by
   rw[il,Nat.pow_succ];exact Nat.mul_le_mul ol (by omega)
  have p625:5 ^ (i+1)<=625:=GG (n:=5) (by decide) (show i+1<=4 by omega);generalize hX:evP e=X at *;walk_at "pu";refine Q8 (λj env m'=>∃s4,env=[some (.v (.tup E)),some (.v (.lst (os.map shP))),some (.v X),some (.ow .lst (((os.take j).flatMap (ins e)).map shP)),s4]/\m'=m) _ 0 _ _ ⟨s4,rfl,rfl⟩ (λj y env m' N' ey hI hN'=>?_) (λenv m' hI=>?_)
  ·obtain⟨s4,rfl,rfl⟩:=hI;obtain⟨o,eo,rfl⟩:=b9 ey;rw[K7] at hN' ⊢;have st:((os.take (j+1)).flatMap (ins e)).map shP=((os.take j).flatMap (ins e)).map shP++(ins e o).map shP:=by rw[Am eo,Da,M6];simp
   rw[st] at hN'
   have tl:((os.take j).flatMap (ins e)).length<=625:=by
    rw[Jo (m:=i) _ λo ho=>olen o (W3 ho),N7];exact J9 (J9 (Nat.mul_le_mul_right _ (Nat.min_le_right _ _)) (by rw[<- il];exact i625)) p625
   have tl':(((os.take j).flatMap (ins e)).map shP).length<=625:=by rw[B4];exact tl
   have lo:=olen o (J8 eo);have Ol:(o.map evP).length=i:=by rw[B4,lo]
   have inL:(ins e o).map shP=(F6 (i+1)).map λk=>PV.tup ((o.map evP).take k++[X]++(o.map evP).drop k):=by
    unfold ins;rw[lo,T0];refine Es λk _=>?_;show PV.tup ((o.take k++[e]++o.drop k).map evP)=_;rw[M6,M6,List.map_take,List.map_drop,<- hX]
    rfl
   rw[inL] at hN';have hso:shP o=.tup (o.map evP):=rfl;generalize ((os.take j).flatMap (ins e)).map shP=AC at *;generalize hOS:os.map shP=OS at *;rw[hso];generalize hO:o.map evP=O at *;walk_at "pu";refine⟨⟨_,rfl⟩,⟨by omega,by omega⟩,by rw[B4,o6];omega,?_⟩;rw[show((O.length:Int)+1).toNat=i+1 by omega];refine X4 (λk:Nat=>PV.int (0+k)) (λk:Nat=>PV.tup (O.take k++[X]++O.drop k)) (F6 (i+1)) none _ _ (λk hk m Q hQ=>?_) ⟨by rw[B4,o6];omega,hN' _ _ ⟨_,rfl,rfl⟩⟩;rw[Int.zero_add] at hQ ⊢;walk_at "pu";rw[FY,IE];refine⟨by rw[N7];omega,by rw[D4,N7,Y8,O8];omega,hQ⟩
  ·obtain⟨s4,rfl,rfl⟩:=hI;rw[K7,B4,o7];exact hN _ _ ⟨_,_,_,_,rfl,im,i625,rfl⟩
 ·obtain⟨os,s2,s3,s4,rfl,ho,ol,rfl⟩:=hI;rw[K7,El,o7] at ho;exact h os ho (J9 ol (GG (n:=5) (by decide) (show 0+E.length<=4 by omega)))
def tRs (f:Str->Str->Rs):Ev->Rs
 |.t x y=>f x y
 |.d x=>.strange x
def blk (L:List Str)(ts:List Ev)(e:Ev):List Rs:=[tRs .wrong e,tRs .far e]++L.map (λz=>tRs (λx y=>.stays x y z) e)++ts.map λe'=>tRs (λx y=>tRs (.cross x y) e') e
def O1 (L:List Str)(es:List Ev):List Rs:=(L.map .strange++L.map .twice)++(es.filter isTo).flatMap (blk L (es.filter isTo))
theorem Jp {e:Ev}(h:isTo e=true):∃x y,e=.t x y:=by
 cases e with
 |d x=>cases h
 |t x y=>exact⟨x,y,rfl⟩
theorem all_in {r:Int}{st L:List Str}{es:List Ev}{w:Rs}(hst:∀z∈st,z∈L)(hg:∀e∈es,∀b∈evB e,b∈L)(h:isRs r st es w):w∈O1 L es:=by
 have gb:∀z∈es.flatMap evB,z∈L:=λz hz=>by obtain⟨e,he,hz⟩:=U2.mp hz;exact hg e he z hz
 have ht:∀{x y},Tin st es x y->Ev.t x y∈es.filter isTo:=λh=>K6.mpr ⟨h.1,rfl⟩;have go:∀{x y},Tin st es x y->w∈blk L (es.filter isTo) (.t x y)->w∈O1 L es:=λh q=>E2.mpr (.inr (U2.mpr ⟨_,ht h,q⟩));cases w with
 |strange b=>exact E2.mpr (.inl (E2.mpr (.inl (E5.mpr ⟨b,gb b h.1,rfl⟩))))
 | twice b =>
  have h:2<=(es.filter λe=>decide (b∈evB e)).length:=h;obtain⟨e,he⟩:=List.exists_mem_of_length_pos (show 0<(es.filter λe=>decide (b∈evB e)).length by omega);obtain⟨he,hb⟩:=K6.mp he;exact E2.mpr (.inl (E2.mpr (.inr (E5.mpr ⟨b,hg e he b (jv hb),rfl⟩))))
 |wrong x y=>exact go h.1 (E2.mpr (.inl (E2.mpr (.inl C6))))
 |far x y=>exact go h.1 (E2.mpr (.inl (E2.mpr (.inl (C5 _ C6)))))
 |stays x y z=>exact go h.1 (E2.mpr (.inl (E2.mpr (.inr (E5.mpr ⟨z,hst z (W3 (CY h.2.1)),rfl⟩)))))
 |cross x y x' y'=>exact go h.1 (E2.mpr (.inr (E5.mpr ⟨_,ht h.2.1,rfl⟩)))
theorem Uc {L:List Str}{es:List Ev}(hg:∀e∈es,∀b∈evB e,b∈L):∀w∈O1 L es,∀z∈rsB w,z∈L:=by
 intro w hw;rcases E2.mp hw with hw|hw
 ·rcases E2.mp hw with hw|hw
  ·obtain⟨b,hb,rfl⟩:=E5.mp hw;intro z hz;rw[E1.mp hz];exact hb
  ·obtain⟨b,hb,rfl⟩:=E5.mp hw;intro z hz;rw[E1.mp hz];exact hb
 ·obtain⟨e,he,hw⟩:=U2.mp hw
  have ge:∀{e},e∈es.filter isTo->∃x y,e=.t x y/\x∈L/\y∈L:=λ{e} he=>by
   obtain⟨h1,h2⟩:=K6.mp he;obtain⟨x,y,rfl⟩:=Jp h2;exact⟨x,y,rfl,hg _ h1 x (by simp[evB]),hg _ h1 y (by simp[evB])⟩
  obtain⟨x,y,rfl,hx,hy⟩:=ge he;rcases E2.mp hw with hw|hw
  ·rcases E2.mp hw with hw|hw
   ·rcases D0.mp hw with rfl|hw
    ·simp[rsB,tRs,hx,hy]
    ·rw[E1.mp hw];simp[rsB,tRs,hx,hy]
   ·obtain⟨z,hz,rfl⟩:=E5.mp hw;simp[rsB,tRs,hx,hy,hz]
  ·obtain⟨e',he',rfl⟩:=E5.mp hw;obtain⟨x',y',rfl,hx',hy'⟩:=ge he';simp[rsB,tRs,hx,hy,hx',hy']
theorem Ud {L:List Str}{es:List Ev}{n:Nat}{R:PV->Nat->Prop}(hL:L.length<=100)(hl:es.length<=100)(h:R (.lst ((O1 L es).map rsP)) n):DZ [shP es,rowP L] n R:=by
 refine⟨rfl,?_⟩;unfold MR;have hs0:shP es=.tup (es.map evP):=rfl;have hr0:rowP L=.tup (L.map PV.str):=rfl;rw[hs0,hr0];generalize hE:es.map evP=E at *;generalize hZ:L.map PV.str=Z at *;have El:E.length=es.length:=by rw[<- hE,B4]
 have Zl:Z.length=L.length:=by rw[<- hZ,B4]
 walk_at "pu";refine⟨by omega,?_⟩;rw[<- hZ];refine X4 PV.str (λb=>rsP (.strange b)) L _ _ _ (λb hb m Q hQ=>by walk_at "pu";exact hQ) ⟨by rw[hZ];omega,?_⟩;refine X4 PV.str (λb=>rsP (.twice b)) L _ _ _ (λb hb m Q hQ=>by walk_at "pu";exact hQ) ⟨by rw[B4,B4];omega,by omega,?_⟩;rw[<- hE];refine DS evP isTo _ _ _ _ (λe he m Q hQ=>?_) ?_
 ·cases e with
  | d x =>
   rw[X6] at *;walk_at "pu";rw[IF];exact hQ
  | t x y =>
   rw[P2] at *;walk_at "pu";exact hQ
 rw[hE,hZ];have e0:(L.map λb=>rsP (.strange b))++(L.map λb=>rsP (.twice b))=(L.map Rs.strange++L.map Rs.twice).map rsP:=by rw[M6,T0,T0];rfl
 rw[e0];have bl:(L.map Rs.strange++L.map Rs.twice).length<=200:=by rw[D4,B4,B4];omega
 have ht:∀e∈es.filter isTo,isTo e=true:=λe he=>(K6.mp he).2;have tl:(es.filter isTo).length<=100:=J9 (CV _ _) hl;unfold O1 at h;generalize es.filter isTo=ts at *
 have bk:∀e,(blk L ts e).length<=202:=λe=>by
  unfold blk;rw[D4,D4,B4,B4];show 2+L.length+ts.length<=202;omega
 have fl:∀l:List Ev,(l.flatMap (blk L ts)).length<=l.length*202:=λl=>by
  induction l with
  |nil=>simp
  |cons a l ih=>rw[Y7,D4,K2];have:=bk a;omega
 generalize L.map Rs.strange++L.map Rs.twice=B0 at *;refine Q8 (λi env m=>∃s4,env=[some (.v (.tup E)),some (.v (.tup Z)),some (.ow .lst ((B0++(ts.take i).flatMap (blk L ts)).map rsP)),some (.v (.lst (ts.map evP))),s4]/\m=n) _ 0 _ _ ⟨none,by simp,rfl⟩ (λi x env m N ex hI hN=>?_) (λenv m hI=>?_)
 ·obtain⟨s4,rfl,rfl⟩:=hI;obtain⟨e,ee,rfl⟩:=b9 ex;rw[K7] at hN ⊢;obtain⟨x,y,rfl⟩:=Jp (ht e (J8 ee))
  have e1:((B0++(ts.take (i+1)).flatMap (blk L ts)).map rsP)=(B0++(ts.take i).flatMap (blk L ts)).map rsP++([rsP (.wrong x y),rsP (.far x y)]++(L.map λz=>rsP (.stays x y z)))++ts.map λe'=>rsP (tRs (.cross x y) e'):=by
   rw[Am ee,Da];simp[blk,tRs,M6]
   rfl
  rw[e1] at hN
  have al:((B0++(ts.take i).flatMap (blk L ts)).map rsP).length<=30000:=by
   rw[B4,D4];have:=fl (ts.take i);rw[N7] at this;have:min i ts.length<=100:=by omega
   omega
  generalize (B0++(ts.take i).flatMap (blk L ts)).map rsP=AC at *;have Tl:(ts.map evP).length<=100:=by rw[B4];exact tl
  have tc:∀e'∈ts,rsP (tRs (.cross x y) e')=.tup [.str (A8 "cross"),evP (.t x y),evP e']:=λe' he'=>by
   obtain⟨x',y',rfl⟩:=Jp (ht e' he')
   rfl
  rw[Es tc] at hN;have hw:rsP (.wrong x y)=.tup [.str (A8 "wrong"),evP (.t x y)]:=rfl;have hf:rsP (.far x y)=.tup [.str (A8 "far"),evP (.t x y)]:=rfl;have hs:∀z,rsP (.stays x y z)=.tup [.str (A8 "stays"),evP (.t x y),.str z]:=λ_=>rfl;simp only[hw,hf,hs] at hN;generalize evP (.t x y)=P at *;generalize hT:ts.map evP=T at *;walk_at "pu";refine⟨⟨_,rfl⟩,by omega,?_⟩;rw[<- hZ];refine X4 PV.str (λz=>PV.tup [PV.str (A8 "stays"),P,PV.str z]) L _ _ _ (λb hb m Q hQ=>by walk_at "pu";exact hQ) ⟨by rw[B4];omega,by rw[B4];omega,⟨_,rfl⟩,by omega,?_⟩;rw[hZ,<- hT];refine X4 evP (λe=>PV.tup [PV.str (A8 "cross"),P,evP e]) ts _ _ _ (λb hb m Q hQ=>by walk_at "pu";exact hQ) ⟨?_,?_⟩
  ·rw[D4,K2,K2,B4,B4];omega
  rw[hT];exact hN _ _ ⟨_,rfl,rfl⟩
 ·obtain⟨s4,rfl,rfl⟩:=hI;rw[K7,B4,o7];exact h
theorem Nr {st:List Str}{r:Int}{e:Ev}:∀(f:List Ev) (k:Nat) (o:List Str),wlk st r f k o=none->lcan st r (o++f.flatMap evB) e=false->wlk st r (f++[e]) k o=some (k+f.length)
 | [], k, o, _, h => by
  rw[List.flatMap_nil,R9] at h;show(if lcan st r o e=true then _ else some k)=_;rw[h]
  rfl
 | a :: f, k, o, hw, h => by
  have hw':(if lcan st r o a=true then wlk st r f (k+1) (o++evB a) else some k)=none:=hw;show(if lcan st r o a=true then wlk st r (f++[e]) (k+1) (o++evB a) else some k)=_
  by_cases c:lcan st r o a=true
  ·rw[jt c] at hw' ⊢;rw[Nr f _ _ hw' (by rw[N6];exact h),K2]
   congr 1
   omega
  ·rw[ju c] at hw';cases hw'
def P3 (st:List Str)(r:Int)(o:List Ev):PV:=resW (wlk st r o 0 []) (rbh st o)
def isC (st:List Str)(r:Int)(o:List Ev):Bool:=(wlk st r o 0 []).isNone
theorem Nt {st:List Str}{r:Int}{n:Nat}:∀(os:List (List Ev)) (s0 s1:Option Pu.Slot) (R:List PV->Nat->Prop),R ((os.filter (isC st r)).map shP) n->U8 (gTp 2 (gCn (gN 0) (gCn (gN 1) gNl))) (qB (qOp (wEq 6) (qOp wIx (qV 1) (qC (.int 0))) (qC (.str (A8 "course"))))) (qV 0) (zipP (os.map shP) (os.map (P3 st r))) [s0,s1] n R
 |[],_,_,R,h=>h
 | o :: os, s0, s1, R, h => by
  have ih:=@Nt st r n os;show U8 (gTp 2 (gCn (gN 0) (gCn (gN 1) gNl))) (qB (qOp (wEq 6) (qOp wIx (qV 1) (qC (.int 0))) (qC (.str (A8 "course"))))) (qV 0) (.tup [shP o,P3 st r o]::zipP (os.map shP) (os.map (P3 st r))) [s0,s1] n R;generalize zipP (os.map shP) (os.map (P3 st r))=Z at *;unfold P3;cases hw:wlk st r o 0 [] with
  | none =>
   rw[AB (by unfold isC;rw[hw];rfl)] at h;rw[show resW (none:Option Nat) (rbh st o)=.tup [.str (A8 "course"),rowP (rbh st o)] from rfl];refine⟨rfl,?_⟩;walk_at "pu";exact ih _ _ _ h
  | some k =>
   rw[AA (by unfold isC;rw[hw];simp)] at h;rw[show resW (some k) (rbh st o)=.tup [.str (A8 "stuck"),.int k] from rfl];refine⟨rfl,?_⟩;walk_at "pu";exact ih _ _ _ h
def CF:pS:=(qSeq (qIfS (qB (qOp (wEq 6) (qV 7) (qL (qLst qNil)))) (qSeq (qSet 9 (T4 (qOp (wEq 6) (qOp wIx (qV 5) (qC (.int 0))) (qC (.str (A8 "unsound")))) (T4 (qOp wIsB (B7 Aq (A3 (qV 0) (A3 (qV 1) (A3 (qV 2) (A3 (qOp wIx (qV 5) (qC (.int 1))) qNil))))) (qC (.bl true))) (qOp (wIn 6 false) (qC (.bl true)) (qV 8)))))
   (qRet (T4 (qV 9) (qUn wAll (qL (L4 [none] (qIl (qV 6)) (gN 0) qTru (qOp (wEq 6) (qOp wIx (qV 0) (qC (.int 0))) (qC (.str (A8 "stuck")))))))))) qNx)
   (qSeq (qIfS (qOr (qB (qOp (wNe 6) (qOp wIx (qV 5) (qC (.int 0))) (qC (.str (A8 "course"))))) (qOr (qB (qOp (wIn 6 true) (qOp wIx (qV 5) (qC (.int 1))) (qV 7))) (qB (qOp (wIn 6 false) (qC (.bl true)) (qV 8))))) (qRet (qC (.bl false))) qNx)
   (qSeq (qSet 10 (B7 Bn (A3 (qV 0) (A3 (qV 2) qNil))))
   (qSeq (qIfS (qNot (qB (qUn wAll (qL (L4 [none,some 10] (qIl (qV 6)) (gN 0) qTru (qOrV (qOp (wEq 6) (qV 0) (qTup (A3 (qC (.str (A8 "course"))) (A3 (qV 1) qNil)))) (qOp (wEq 6) (qOp wIx (qV 0) (qC (.int 0))) (qC (.str (A8 "stuck")))))))))) (qRet (qC (.bl false))) qNx)
   (qSeq (qFor (qIt (qV 2)) (gN 11) (qIfS (qB (qOp (wNe 6) (B7 Ap (A3 (qV 0) (A3 (qV 1) (A3 (qOp wAdd (qOp wIx (qV 7) (qC (.int 0))) (qTup (A3 (qV 11) qNil))) qNil)))) (qTup (A3 (qC (.str (A8 "stuck"))) (A3 (qUn wLen (qV 2)) qNil))))) (qRet (qC (.bl false))) qNx))
   (qRet (qC (.bl true))))))))
theorem Ue:MS=(qSeq (qPar 4 5 (sV (B7 DW (A3 (qV 2) qNil))) (sV (B7 DY (A3 (qV 0) (A3 (qV 1) (A3 (qV 2) qNil))))))
   (qSeq (qSet 6 (qL (L4 [none,some 0,some 1] (qIl (qV 4)) (gN 0) qTru (B7 Ap (A3 (qV 1) (A3 (qV 2) (A3 (qV 0) qNil)))))))
   (qSeq (qSet 7 (qL (L4 [none,none] (qZip true true (qV 4) (qV 6)) (gTp 2 (gCn (gN 0) (gCn (gN 1) gNl))) (qB (qOp (wEq 6) (qOp wIx (qV 1) (qC (.int 0))) (qC (.str (A8 "course"))))) (qV 0))))
   (qSeq (qSet 8 (qL (L4 [none,some 0,some 1,some 2] (qIl (B7 DZ (A3 (qV 2) (A3 (qV 3) qNil)))) (gN 0) qTru (B7 Aq (A3 (qV 1) (A3 (qV 2) (A3 (qV 3) (A3 (qV 0) qNil))))))))
   CF)))):=rfl
theorem Nu {ws:List Rs}{c:Rs->Bool}:memP (.bl true) (ws.map λw=>PV.bl (c w))=ws.any c:=by
 unfold memP;rw[AG]
 congr 1
 funext w
 show eqP (.bl (c w)) (.bl true)=c w;rw[Jc];cases c w <;> rfl
theorem Uf {r:Int}{st L:List Str}{es:List Ev}{os:List (List Ev)}{w:Rs}{c:Rs->Bool}{n:Nat}{R:PV->Nat->Prop}(hs:st.length<=63)(hst:RowS st)(hg:∀e∈es,Good e)(hl:es.length<=60)(ol:os.length<=625)(hw:isRs r st es w)(ho:∀o∈os,isC st r o=false)(hc:(O1 L es).any c=true)(q:R (.bl true) n) :
   CF { nx:=λ_ m=>R PV.non m,rt:=R } [some (.v (rowP st)),some (.v (.int r)),some (.v (shP es)),some (.v (rowP L)),some (.v (.lst (os.map shP))),some (.v (.tup [.str (A8 "unsound"),rsP w])),some (.v (.lst (os.map (P3 st r)))),some (.v (.lst [])),some (.v (.lst ((O1 L es).map λw=>PV.bl (c w)))),none,none,none] n:=by
 have mw:∀{R:PV->Nat->Prop},(R (.bl true) n)->Aq [rowP st,.int r,shP es,rsP w] n R:=λ{R} q=>Nh (TW hst hg hw) hg (by omega) (by omega) λb hb=>by rw[hb.mpr hw];exact q
 have ms:((O1 L es).map λw=>PV.bl (c w)).all (cmpb 6)=true:=by rw[Db];exact J4.mpr λ_ _=>rfl
 have mm:=Nu (ws:=O1 L es) (c:=c);rw[hc] at mm;unfold CF;generalize ((O1 L es).map λw=>PV.bl (c w))=SH at *;generalize rowP st=W at *;generalize shP es=S at *;generalize rowP L=LL at *;generalize rsP w=P at *;generalize os.map shP=OS at *;walk_at "pu";refine gd2 rfl rfl (mw (if_t rfl ⟨rfl,ms,?_⟩));rw[mm];refine⟨by rw[B4];omega,?_⟩;refine X4 (P3 st r) (λ_=>PV.bl true) os _ _ _ (λo hm m Q hQ=>?_) ?_
 ·have h0:=ho o hm;unfold isC at h0;cases hk:wlk st r o 0 [] with
  |none=>rw[hk] at h0;cases h0
  | some k =>
   have e:P3 st r o=.tup [.str (A8 "stuck"),.int k]:=by unfold P3;rw[hk];rfl
   rw[e] at hQ ⊢;walk_at "pu";exact hQ
 ·rw[Ar];dsimp only;rw[CC,J4.mpr λ_ _=>rfl];exact q
theorem Ug (zs:List Str):eqP (rowP zs) (rowP zs)=true:=FH _ (HY _ λx hx=>by obtain⟨_,_,rfl⟩:=E5.mp hx;rfl)
theorem evs_in {os:List (List Ev)}{o:List Ev}(h:o∈os):memP (shP o) (os.map shP)=true:=by
 unfold memP;rw[AG];refine Y9.mpr ⟨o,h,FH _ (HY _ λx hx=>?_)⟩;obtain⟨e,_,rfl⟩:=E5.mp hx;cases e <;> rfl
theorem Uh {r:Int}{st L:List Str}{es co:List Ev}{os:List (List Ev)}{c:Rs->Bool}{n:Nat}{R:PV->Nat->Prop}(hs:st.length<=63)(hst:RowS st)(hg:∀e∈es,Good e)(hl:es.length<=60)(ol:os.length<=625)(ho:∀o∈os,o.Perm es)(sd:X7 r st es)(hco:co∈os.filter (isC st r))(hc:(O1 L es).any c=false)(q:R (.bl true) n) :
   CF { nx:=λ_ m=>R PV.non m,rt:=R } [some (.v (rowP st)),some (.v (.int r)),some (.v (shP es)),some (.v (rowP L)),some (.v (.lst (os.map shP))),some (.v (.tup [.str (A8 "course"),shP co])),some (.v (.lst (os.map (P3 st r)))),some (.v (.lst ((os.filter (isC st r)).map shP))),some (.v (.lst ((O1 L es).map λw=>PV.bl (c w)))),none,none,none] n:=by
 have ms:((O1 L es).map λw=>PV.bl (c w)).all (cmpb 6)=true:=by rw[Db];exact J4.mpr λ_ _=>rfl
 have mm:=Nu (ws:=O1 L es) (c:=c);rw[hc] at mm;have mc:=evs_in hco
 have cc:((os.filter (isC st r)).map shP).all (cmpb 6)=true:=J4.mpr λy hy=>by
  obtain⟨o,_,rfl⟩:=E5.mp hy;exact Gn o 4
 have cr:cmpb 6 (shP co)=true:=Gn co 4
 have c5:((os.filter (isC st r)).map shP).all (cmpb 5)=true:=J4.mpr λy hy=>by
  obtain⟨o,_,rfl⟩:=E5.mp hy;exact Gn o 3
 have mrow:∀{R:PV->Nat->Prop},R (rowP (rbh st es)) n->Bn [rowP st,shP es] n R:=λq=>Nl (by omega) (by omega) sd.fair.sub q;have hne:os.filter (isC st r)≠[]:=λz=>by rw[z] at hco;cases hco
 obtain⟨c0,cs,hcs⟩:∃c0 cs,os.filter (isC st r)=c0::cs:=by
  cases h:os.filter (isC st r) with
  |nil=>exact absurd h hne
  |cons a b=>exact⟨a,b,rfl⟩
 have h0:c0∈os.filter (isC st r):=by rw[hcs];exact C6
 rw[hcs] at mc cc c5 ⊢
 have mg:∀e∈es,∀{R:PV->Nat->Prop},R (.tup [.str (A8 "stuck"),.int (es.length:Int)]) n->Ap [rowP st,.int r,.tup (c0.map evP++[evP e])] n R:=λe he {R} q=>by
  obtain⟨hm,hw⟩:=K6.mp h0;have pm:=ho c0 hm
  have hw:wlk st r c0 0 []=none:=by
   unfold isC at hw;cases hk:wlk st r c0 0 [] with
   |none=>rfl
   |some k=>rw[hk] at hw;cases hw
  have hL:lcan st r ([]++c0.flatMap evB) e=false:=by
   cases hk:lcan st r ([]++c0.flatMap evB) e with
   |false=>rfl
   | true =>
    have hb:∃b,b∈evB e:=by cases e <;> exact⟨_,C6⟩
    obtain⟨b,hb⟩:=hb;exact absurd (E2.mpr (.inr (U2.mpr ⟨e,pm.mem_iff.mpr he,hb⟩))) (Go hk b hb).2
  have hx:=Nr c0 0 [] hw hL;rw[K7,pm.length_eq] at hx;have:shP (c0++[e])=.tup (c0.map evP++[evP e]):=by show PV.tup ((c0++[e]).map evP)=_;rw[M6];rfl
  rw[<- this];refine Nq (by omega) hst.1 (by rw[D4,pm.length_eq,O8];omega) (λa ha=>?_) ?_
  ·rcases E2.mp ha with z|z
   ·exact hg a (pm.mem_iff.mp z)
   ·rw[E1.mp z];exact hg e he
  ·rw[hx];exact q
 unfold CF;rw[F2] at mc cc c5 ⊢;generalize hSH:((O1 L es).map λw=>PV.bl (c w))=SH at *;generalize hW:rowP st=W at *;generalize hCS:cs.map shP=CS at *;have hs0:shP es=.tup (es.map evP):=rfl;generalize hE:es.map evP=E at *;have El:E.length=es.length:=by rw[<- hE,B4]
 rw[hs0] at mrow ⊢;have hc0:shP c0=.tup (c0.map evP):=rfl;generalize hC0:c0.map evP=C0 at *;have hcoP:shP co=.tup (co.map evP):=rfl;rw[hcoP] at mc cr ⊢;generalize co.map evP=CO at *;rw[hc0] at mc cc c5 ⊢;generalize rowP L=LL at *;generalize os.map shP=OS at *;walk_at "pu";refine gd2 c5 rfl (if_f rfl ⟨cr,cc,?_⟩);rw[mc];refine if_f rfl ⟨rfl,ms,?_⟩;rw[mm];refine if_f rfl (mrow ⟨by rw[B4];omega,?_⟩);refine X4 (P3 st r) (λ_=>PV.bl true) os _ _ _ (λo hm m Q hQ=>?_) ?_
 ·have rr:=Ug (rbh st es)
  have e:P3 st r o=.tup [.str (A8 "course"),rowP (rbh st es)]\/∃k:Nat,P3 st r o=.tup [.str (A8 "stuck"),.int k]:=by
   unfold P3;cases hk:wlk st r o 0 [] with
   |none=>exact .inl (by rw[<- LJ (sd.fair.perm (ho o hm)),<- LJ sd.fair,TY sd.fair (ho o hm)];rfl)
   |some k=>exact .inr ⟨k,rfl⟩
  have cR:cmpb 5 (rowP (rbh st es))=true:=Je _ 4;have cR4:cmpb 4 (rowP (rbh st es))=true:=Je _ 3;rcases e with e|⟨k,e⟩
  ·rw[e] at hQ ⊢;generalize rowP (rbh st es)=RW at *;walk_at "pu";refine gd2 (by simp[cmpb,Z6,cR]) (by simp[cmpb,Z6,cR]) (if_t (by rw[rr];rfl) hQ)
  ·rw[e] at hQ ⊢;generalize rowP (rbh st es)=RW at *;walk_at "pu";refine gd2 rfl (by simp[cmpb,Z6,cR]) (if_f rfl hQ)
 ·rw[Ar];dsimp only;rw[CC,J4.mpr λ_ _=>rfl];refine if_f rfl ?_;refine Q8 (λi env m=>∃s11,env=[some (.v W),some (.v (.int r)),some (.v (.tup E)),some (.v LL),some (.v (.lst OS)),some (.v (.tup [.str (A8 "course"),.tup CO])),some (.v (.lst (os.map (P3 st r)))),some (.v (.lst (.tup C0::CS))),some (.v (.lst SH)),none,some (.v (rowP (rbh st es))),s11]/\m=n) _ 0 _ _ ⟨none,rfl,rfl⟩ (λi x env m N ex hI hN=>?_) (λenv m hI=>?_)
  ·obtain⟨s11,rfl,rfl⟩:=hI;rw[<- hE] at ex;obtain⟨e,ee,rfl⟩:=b9 ex;have mg:=λR'=>@mg e (J8 ee) R';generalize evP e=X at *;generalize hHE:os.map (P3 st r)=HE at *;generalize hRW:rowP (rbh st es)=RW at *;rw[<- El] at mg;walk_at "pu";rw[at_hd];refine⟨by have:C0.length=es.length:=by { rw[<- hC0,B4];exact(ho c0 (K6.mp h0).1).length_eq };rw[O8];omega,?_⟩;refine mg _ (gd2 rfl rfl (if_f ?_ (hN _ _ ⟨_,rfl,rfl⟩)));rw[FH _ rfl]
   rfl
  ·obtain⟨s11,rfl,rfl⟩:=hI;exact q
open Classical in
theorem Ui {r:Int}{st L:List Str}{es:List Ev}{n:Nat}{R:PV->Nat->Prop}(hs:st.length<=63)(hst:RowS st)(hL:L.length<=100)(hLb:∀z∈L,F4 z)(hsL:∀z∈st,z∈L)(hg:∀e∈es,Good e)(hb:∀e∈es,∀b∈evB e,b∈L)(hl:es.length<=4)(q:R (.bl true) n):Gm [rowP st,.int r,shP es,rowP L] n R:=by
 refine⟨rfl,?_⟩;have rU:=λ{os:List (List Ev)} {w:Rs} {c:Rs->Bool}=>@Uf r st L es os w c n R hs hst hg (by omega);have rS:=λ{co:List Ev} {os:List (List Ev)} {c:Rs->Bool}=>@Uh r st L es co os c n R hs hst hg (by omega);rw[Ue];generalize CF=T at *;have mo:∀{R:PV->Nat->Prop},(X7 r st es->∀ts:List Ev,ts.Perm (es.filter isTo)->(ts.Pairwise λa b=>evL st a<=evL st b)->R (.tup [.str (A8 "course"),shP (es.filter isDr++ts)]) n)->(∀w,isRs r st es w->R (.tup [.str (A8 "unsound"),rsP w]) n)->DY [rowP st,.int r,shP es] n R:=λq q'=>Tx hs hst.1 hg (by omega) q q'
 have mw:∀{w:Rs} {n:Nat} {R:PV->Nat->Prop},w∈O1 L es->R (.bl (decide (isRs r st es w))) n->Aq [rowP st,.int r,shP es,rsP w] n R:=λ{w n R} h q=>Nh (λz hz=>hLb z (Uc hb w h z hz)) hg (by omega) (by omega) λb hb=>by
  rw[show b=decide (isRs r st es w) from i6.mpr (hb.trans (decide_eq_true_iff).symm)];exact q
 have mg:∀{o:List Ev} {n:Nat} {R:PV->Nat->Prop},o.Perm es->R (P3 st r o) n->Ap [rowP st,.int r,shP o] n R:=λ{o n R} pm q=>Nq (by omega) hst.1 (by rw[pm.length_eq];omega) (λe he=>hg e (pm.mem_iff.mp he)) q;have mos:∀{R:PV->Nat->Prop},(∀os:List (List Ev),(∀o,o∈os↔o.Perm es)->os.length<=625->R (.lst (os.map shP)) n)->DW [shP es] n R:=λq=>Ub hl q;have mre:∀{n:Nat} {R:PV->Nat->Prop},R (.lst ((O1 L es).map rsP)) n->DZ [shP es,rowP L] n R:=λq=>Ud hL (by omega) q
 have al:(O1 L es).length<=1000000:=by
  have tl:(es.filter isTo).length<=4:=J9 (CV _ _) hl;unfold O1;rw[D4,D4,B4,B4];generalize es.filter isTo=ts at *
  have fl:∀l:List Ev,(l.flatMap (blk L ts)).length<=l.length*106:=λl=>by
   induction l with
   |nil=>simp
   | cons a l ih =>
    rw[Y7,D4,K2]
    have:(blk L ts a).length<=106:=by
     unfold blk;rw[D4,D4,B4,B4];show 2+L.length+ts.length<=106;omega
    omega
  have:=fl ts;omega
 refine As λU hU=>?_;generalize hW:rowP st=W at *;generalize hS:shP es=S at *;generalize hLL:rowP L=LL at *;walk_at "pu";refine mos λos ho ol=>?_
 have rest:∀X:PV,T { nx:=λ_ m=>R PV.non m,rt:=R } [some (.v W),some (.v (.int r)),some (.v S),some (.v LL),some (.v (.lst (os.map shP))),some (.v X),some (.v (.lst (os.map (P3 st r)))),some (.v (.lst ((os.filter (isC st r)).map shP))),some (.v (.lst ((O1 L es).map λw=>PV.bl (decide (isRs r st es w))))),none,none,none] n->U { nx:=λ_ m=>R PV.non m,rt:=R } [some (.v W),some (.v (.int r)),some (.v S),some (.v LL),some (.v (.lst (os.map shP))),some (.v X),none,none,none,none,none,none] n:=λX hX=>by
  subst hU;walk_at "pu";refine⟨by rw[B4];omega,?_⟩;refine X4 shP (P3 st r) os _ _ _ (λo hm m Q hQ=>by walk_at "pu";exact mg ((ho o).mp hm) hQ) ?_;refine⟨by rw[K_,B4];omega,Nt os _ _ _ ?_⟩;refine mre ⟨by rw[B4];exact al,?_⟩;refine X4 rsP (λw=>PV.bl (decide (isRs r st es w))) (O1 L es) _ _ _ (λw hm m Q hQ=>by walk_at "pu";exact mw hm hQ) ?_;exact hX
 refine mo (λsd ts pt ot=>rest _ ?_) λw hw=>rest _ ?_
 ·have wn:=TN hst.1 sd pt ot;have pm:(es.filter isDr++ts).Perm es:=(List.Perm.append_left _ pt).trans (Nf es);refine rS ol (λo hm=>(ho o).mp hm) sd (K6.mpr ⟨(ho _).mpr pm,by unfold isC;rw[wn];rfl⟩) ?_ q;rw[Bool.eq_false_iff];intro z;obtain⟨w,_,hw⟩:=Y9.mp z;exact Nj hg (jv hw) sd
 ·have hC:∀o∈os,isC st r o=false:=λo hm=>by
   unfold isC;cases hk:wlk st r o 0 [] with
   |some k=>rfl
   | none =>
    have pm:=(ho o).mp hm;exact absurd ((TL hst.1 (λe he=>hg e (pm.mem_iff.mp he)) hk).perm pm.symm) (Nj hg hw)
  rw[List.filter_eq_nil_iff.mpr λo hm=>by rw[hC o hm];simp];exact rU ol hw hC (Y9.mpr ⟨w,all_in hsL hb hw,jq hw⟩) q
theorem Snd.gd {zs:List Str}{r:Int}{ps:List (Nat×Nat)}{ds:List Nat}(nd:zs.Nodup)(h:Snd zs.length r ps ds):∀e∈c7 zs ps ds,Gd (·∈zs) e:=λe he=>by
 rcases E2.mp he with he|he
 ·obtain⟨p,hp,rfl⟩:=E5.mp he;obtain⟨h1,h2,_⟩:=h.pr p hp;exact⟨λz=>by have:=nm_inj nd h2 (by omega) z;omega,IC (by omega),IC (by omega)⟩
 ·obtain⟨p,hp,rfl⟩:=E5.mp he;exact IC (h.dl p hp).1
theorem Gd.weak {A B:Str->Prop}(h:∀z,A z->B z){e:Ev}(g:Gd A e):Gd B e:=by
 cases e with
 |d x=>exact h x g
 |t x y=>exact⟨g.1,h x g.2.1,h y g.2.2⟩
theorem m_law (ns:List Int)(hl:ns.length<=63):Jb ⟨λ_ _=>False,λr _=>r=.bl true,λ_ _=>False,λ_ _=>False⟩ (Ab ["_law_script","_law_k","_law_pot_here","_law_many","_law_boats_here","_law_reach","_law_start","_law_tour","_law_sheet_here","_law_more"] [.scr ns]) 0:=by
 unfold Jb;refine As λV hV=>?_
 have hc:(cutP ns none (some 4)).length<=4:=by
  unfold cutP;rw[sx_int (by decide),N7];show min (min 4 ns.length-0) _<=4;omega
 simp only[qFor];walk_at "pd";refine⟨⟨by rw[B4];omega,by rw[B4];omega⟩,?_⟩;rw[B4];refine Q8 (λi env m=>∃s1 s2 s3 s4 s5 s6 s7 s8 s9,env=[some (.v (.scr ns)),s1,s2,s3,s4,s5,s6,s7,s8,s9]/\m<=i*10000) _ 0 _ _ ⟨none,none,none,none,none,none,none,none,none,rfl,by omega⟩ (λi x env m N ex hI hN=>?_) (λenv m hI=>?_)
 ·obtain⟨hi,rfl⟩:=DF ex;obtain⟨s1,s2,s3,s4,s5,s6,s7,s8,s9,rfl,hm⟩:=hI;rw[K7] at hm;refine As λU hU=>?_;walk_at "pu";refine⟨⟨by omega,by omega⟩,λq=>?_⟩;subst hU;refine As λU hU=>?_;walk_at "pu";refine⟨by omega,λa a0 a1=>?_⟩;obtain⟨k,hk⟩:∃k:Nat,(k:Int)=1+a:=⟨(1+a).toNat,by omega⟩;rw[<- hk];subst hU;refine As λU hU=>?_;walk_at "pu";refine Tn (by omega) (by omega) (by omega) λzs n1 lz rz h1=>⟨by omega,λr r0 r1=>?_⟩;subst hU;refine As λU hU=>?_;have hr0:rowP zs=.tup (zs.map PV.str):=rfl;have e1:cutP (zs.map PV.str) none (some (k:Int))=(zs.take k).map PV.str:=by rw[Hy,FY]
  have e2:cutP (zs.map PV.str) (some (k:Int)) none=(zs.drop k).map PV.str:=by rw[Hy,IE]
  have l1:(zs.take k).length=k:=by rw[N7];omega
  have l2:(zs.drop k).length=2:=by rw[Y8];omega
  have rz1:RowS (zs.take k):=⟨rz.1.sublist (List.take_sublist _ _),λz hz=>rz.2 z (W3 hz)⟩
  have rt:∀{es:List Ev} {m:Nat} {R:PV->Nat->Prop},(∀e∈es,Gd (·∈zs) e)->R (.bl true) m->Gm [rowP (zs.take k),.int r,.tup (cutP (es.map evP) none (some 4)),rowP zs] m R:=λ{es m R} hg q=>by
   have e4:cutP (es.map evP) none (some 4)=(es.take 4).map evP:=by rw[show(4:Int)=((4:Nat):Int) from rfl,FY,List.map_take]
   rw[e4];exact Ui (es:=es.take 4) (by omega) rz1 (by omega) rz.2 (λz hz=>W3 hz) (λe he=>(hg e (W3 he)).good rz.2) (λe he=>(hg e (W3 he)).mem) (by rw[N7];omega) q
  rw[hr0] at rt ⊢;walk_at "pu";rw[e1];subst hU;have Zl:(zs.map PV.str).length=k+2:=by rw[B4];omega
  generalize hZ:zs.map PV.str=Z at *;rw[show PV.tup ((zs.take k).map PV.str)=rowP (zs.take k) from rfl];walk_at "pu";refine Q8 (λt env m2=>∃v7 v8 v9,env=[some (.v (.scr ns)),some (.v (.int (0+i))),some (.v (.pot (q+1))),some (.v (.int k)),some (.v (.tup Z)),some (.v (.int r)),some (.v (rowP (zs.take k))),v7,v8,v9]/\m2<=n1+1+1000*t) _ 0 _ _ ⟨s7,s8,s9,rfl,by omega⟩ (λt x env m1 N1 ex1 hI hN1=>?_) (λenv m1 hI=>?_)
  ·obtain⟨ht,rfl⟩:=DF ex1;obtain⟨v7,v8,v9,rfl,hm1⟩:=hI;rw[K7] at hN1 hm1;refine As λU hU=>?_;generalize hR:rowP (zs.take k)=W at *;walk_at "pu";rw[<- hR];have ht2:t<2:=ht;refine TB (zs:=zs.take k) (by omega) (by omega) r0 (by omega) (by omega) λps ds es n2 sd pe se l3 l4 h2=>?_;have hg:∀e∈es,Gd (·∈zs) e:=λe he=>(Snd.gd rz1.1 sd e (pe.mem_iff.mp he)).weak λz hz=>W3 hz;have le:es.length<=48:=by rw[pe.length_eq];unfold c7;rw[D4,B4,B4];omega
   clear pe sd;rw[hR];subst hU;refine As λU hU=>?_;walk_at "pu";refine⟨by omega,λd d0 d1=>⟨by omega,?_⟩⟩;refine Q8 (λu env m2=>∃v9 es,env=[some (.v (.scr ns)),some (.v (.int (0+i))),some (.v (.pot (q+1))),some (.v (.int k)),some (.v (.tup Z)),some (.v (.int r)),some (.v W),some (.v (.int (0+t))),some (.v (shP es)),v9]/\(∀e∈es,Gd (·∈zs) e)/\es.length<=48+u/\m2<=n2+1+10*u) _ 0 _ _ ⟨v9,es,rfl,hg,by omega,by omega⟩ (λu x env m2 N2 ex2 hI hN2=>?_) (λenv m2 hI=>?_)
   ·obtain⟨hu,rfl⟩:=DF ex2;obtain⟨v9,es,rfl,hg,le,h3⟩:=hI;rw[K7] at hN2 le h3;have u3:u<3:=by omega
    generalize hE1:shP es=S1;walk_at "pu";rw[e2,<- hE1,<- hR];refine m_bent (Bo:=(·∈zs)) (st:=zs.take k) (sp:=zs.drop k) (by rw[D4];omega) (by rw[D4];omega) (λz hz=>?_) (by omega) hg (by omega) λes' n' hg' se' le' hn'=>?_
    ·rw[GE] at hz;exact hz
    ·rw[hR];exact hN2 _ _ ⟨_,es',rfl,hg',by omega,by omega⟩
   ·obtain⟨v9,es,rfl,hg,le,h3⟩:=hI;rw[K7,Bc] at le h3;have dd:Int.toNat d<=2:=by omega
    have rt:=λR=>@rt es m2 R hg;subst hU;have hs0:shP es=.tup (es.map evP):=rfl;rw[hs0];generalize es.map evP=E at *;walk_at "pu";refine rt _ (if_f rfl ?_);exact hN1 _ _ ⟨_,_,_,rfl,by omega⟩
  ·obtain⟨v7,v8,v9,rfl,hm1⟩:=hI;rw[K7,Bc,show Int.toNat 2=2 from rfl] at hm1;exact hN _ _ ⟨_,_,_,_,_,_,_,_,_,rfl,by omega⟩
 ·subst hV
  rfl
end Tb
end
section
namespace Tb
open PySem L2 Pu
section
variable {P:D1}{w:C9}{K:A9}{mg:Str->Option A1}{base:B6}
theorem ok_pot (F:Fn0 K mg "_law_pot" (top 28))(m_len:mg "len"=none)(m_abs:mg "abs"=none)(m_int:mg "int"=none):Kn P w K mg base "_law_pot" 1 ["_law_script","_law_k"] (Pu.Fw K):=by
 have sc:U4 ["_law_script","_law_k","_law_cell","_law_size","_law_own"] ["_law_script","_law_k"] (F7 (top 28)):=⟨rfl,rfl,rfl,by decide +kernel,rfl,by decide +kernel,by decide +kernel⟩;refine F.ok sc (λvs H Q E h=>?_) (λ_ _ _ _ _ _=>bd2 λ_ _=>rfl) (λf jo A outer s H vs Q E hr h=>?_)
 ·obtain⟨a,ns,k,rfl,_⟩:=h
  rfl
 obtain⟨a,ns,k,rfl,hS,h0,h1,q⟩:=h
 refine⟨_,(Z3 (y0 (i:=2) sc.nd rfl (Or.inl rfl) (GS (Dm GY (pv 1) (AR JO rfl m_len Hj (F8 (pv 0) K5)) (D6 _)) (t7 y9 (pv 0) (pv 1) (λ_ _=>rfl)) K8))
     (Z3 (y0 (i:=3) sc.nd rfl (Or.inl rfl) (L7 y4 (L7 y7 K8 (AR Ow rfl m_abs bt_abs (F8 (pv 2) K5))) (Dn Ox rfl m_int bt_int (F8 (Jz GY (pv 2) K8 (D6 _)) K5))))
     (Z3 (y0 (i:=4) sc.nd rfl (Or.inl rfl) (GS (Dm op_ge (pv 3) (L7 op_pow K8 K8) (D6 _)) (pv 3) K8))
     (EZ (Dk (JC (F8 (pv 4) (F8 (L7 y4 (L7 y4 (L7 AO (pv 3) K8) (L7 y7 K8 (pv 1))) K8) (F8 K8 K5))))))))),?_⟩
 refine Ka (λv=>∃c:Int,v=.int c) (λkey=>?_) ?_
 ·refine⟨_,rfl,_,rfl,a,_,rfl,.inl hS,_,_,rfl,rfl,_,rfl,?_⟩;refine ite2 (λc=>?_) (λc=>?_)
  ·have c':k<(((ns.map V.int).length:Nat):Int):=jv c;rw[B4] at c';obtain⟨v,qa⟩:=at_map (ns:=ns) h0 c';exact⟨_,rfl,_,rfl,a,_,_,_,rfl,rfl,hS,qa,key _ ⟨_,rfl⟩⟩
  ·exact key _ ⟨0,rfl⟩
 rintro v ⟨c,rfl⟩;refine⟨_,rfl,_,rfl,_,_,rfl,rfl,.inl ⟨by decide,by decide⟩,?_⟩;refine⟨_,rfl,_,_,rfl,rfl,.inr ⟨_,rfl,?_⟩⟩;refine⟨_,_,rfl,rfl,?_⟩;dsimp only[L9];generalize hz:(2:Int)*(if c<0 then -c else c)+(if decide (c<0)=true then 1 else 0)=z;have z0:0<=z:=by rw[<- hz];split <;> split <;> omega
 have m0:=BT z (show(2305843009213693951:Int)≠0 by decide);have m1:=BR z (show(0:Int)<2305843009213693951 by decide);refine Ka (λv=>∃o:Int,v=.int o/\0<=o) (λkey=>?_) ?_
 ·refine⟨_,rfl,_,_,rfl,rfl,⟨by decide,by decide,by decide⟩,_,_,rfl,rfl,_,rfl,?_⟩;exact ite2 (λ_=>⟨_,rfl,key _ ⟨_,rfl,z0⟩⟩) (λ_=>key _ ⟨_,rfl,by decide⟩)
 rintro v ⟨o,rfl,o0⟩;refine⟨_,rfl,_,rfl,_,_,rfl,rfl,(by show(0:Int)<2305843009213693951;decide),_,rfl,_,_,rfl,rfl,.inl ⟨by decide,by decide⟩,_,_,rfl,rfl,_,_,rfl,rfl,(by show 3<=C8;decide),λp hp=>?_⟩;exact q p _ _ hp ⟨o0,by omega,by omega,by decide,by decide⟩
theorem Uj (F:Fn0 K mg "_law_draw" (top 29)):Kn P w K mg base "_law_draw" 1 ["_law_pot_here","_law_many"] (F3 K potL Ci):=by
 refine PZ ?_;have sc:U4 ["_law_pot_here","_law_many","_law_digit","_law_go","_law_mixed"] ["_law_pot_here","_law_many"] (F7 (top 29)):=⟨rfl,rfl,rfl,by decide +kernel,rfl,by decide +kernel,by decide +kernel⟩;refine F.ok sc (λvs H Q E h=>?_) (λ_ _ _ _ _ _=>bd2 λ_ _=>rfl) (λf jo A outer s H vs Q E hr h=>?_)
 ·obtain⟨p,own,seed,go,many,rfl,_⟩:=h
  rfl
 obtain⟨p,own,seed,go,many,rfl,hp,⟨o0,s0,s1,g0,g1⟩,g2,n0,n1,q⟩:=h
 refine⟨_,(Z3 (ps_if (Dm op_gt (t7 y9 (pv 0) K8 (λ_ _=>rfl)) K8 (D6 _)) (Z3 (y0 (i:=2) sc.nd rfl (Or.inl rfl) (L7 AO (t7 y9 (pv 0) K8 (λ_ _=>rfl)) (pv 1)))
     (Z3 (GV (L7 GX (t7 y9 (pv 0) K8 (λ_ _=>rfl)) (pv 1)) (GU (pv 0) K8 Hf))
     (EZ (Dk (pv 2))))) Jy)
     (Z3 (GV (L7 y4 (t7 y9 (pv 0) K8 (λ_ _=>rfl)) K8) (GU (pv 0) K8 Hf))
     (Z3 (y0 (i:=3) sc.nd rfl (Or.inl rfl) (t7 y9 (pv 0) K8 (λ_ _=>rfl)))
     (Z3 (y0 (i:=4) sc.nd rfl (Or.inl rfl) (L7 AO (L7 y7 (L7 y4 (t7 y9 (pv 0) K8 (λ_ _=>rfl)) (L7 y7 K8 (pv 3))) (L7 y4 (L7 y7 (L7 y7 (pv 3) (pv 3)) K8) K8)) K8))
     (Z3 (y0 (i:=4) sc.nd rfl (Or.inl rfl) (L7 AO (L7 y7 (pv 4) (L7 y4 (L7 AO (pv 4) K8) (pv 3))) K8))
     (EZ (Dk (L7 AO (L7 GX (pv 4) K8) (pv 1))))))))),?_⟩
 refine⟨_,rfl,p,_,0,_,rfl,rfl,SqL.of hp,rfl,_,_,rfl,rfl,_,rfl,?_⟩;refine ite2 (λc=>?_) (λc=>?_)
 ·refine⟨_,rfl,p,_,0,_,rfl,rfl,SqL.of hp,rfl,_,rfl,_,_,rfl,rfl,n0,?_⟩;refine⟨_,rfl,p,_,0,_,rfl,rfl,SqL.of hp,rfl,_,rfl,_,_,rfl,rfl,⟨n0,by omega⟩,?_⟩;refine⟨_,rfl,p,_,0,0,rfl,rfl,hp,rfl,?_⟩;refine⟨_,rfl,?_⟩;exact q _ _ _ _ (BT _ (by omega)) (BR _ n0) ⟨Int.ediv_nonneg o0 (by omega),s0,s1,g0,g1⟩ (by omega)
 ·refine⟨_,rfl,p,_,2,_,rfl,rfl,SqL.of hp,rfl,_,_,rfl,rfl,?_⟩;refine⟨_,rfl,p,_,2,2,rfl,rfl,hp,rfl,?_⟩;refine⟨_,rfl,p,_,2,_,rfl,rfl,SqL.of E8,rfl,?_⟩;refine⟨_,rfl,p,_,1,_,rfl,rfl,SqL.of E8,rfl,_,rfl,_,_,rfl,rfl,.inl ⟨by decide,by decide⟩,_,_,rfl,rfl,?_⟩;refine⟨_,rfl,_,rfl,_,_,rfl,rfl,.inl ⟨by omega,by omega⟩,_,_,rfl,rfl,.inr ⟨by decide,by decide⟩,_,_,rfl,rfl,_,_,rfl,rfl,.inl ⟨by omega,by omega⟩,_,_,rfl,rfl,(by show(0:Int)<2305843009213693921;decide),?_⟩;dsimp only[L9];generalize (seed+40503*(go+1))*((go+1)*(go+1)*65539+97)=y;have m0:=BT y (show(2305843009213693921:Int)≠0 by decide);have m1:=BR y (show(0:Int)<2305843009213693921 by decide);generalize y%2305843009213693921=z at m0 m1 ⊢;refine⟨_,rfl,_,rfl,_,_,rfl,rfl,(by show(0:Int)<1000003;decide),_,rfl,_,_,rfl,rfl,_,_,rfl,rfl,.inl ⟨by omega,by omega⟩,_,_,rfl,rfl,(by show(0:Int)<2305843009213693907;decide),?_⟩;refine⟨_,rfl,_,_,rfl,rfl,⟨by decide,by decide⟩,_,rfl,_,_,rfl,rfl,n0,?_⟩;exact q _ _ _ _ (BT _ (by omega)) (BR _ n0) ⟨o0,s0,s1,by omega,by omega⟩ (by omega)
theorem Uk {Pt:A0}{lpos:Pos}{qual:Str}(F:Fn0 K mg "_law_draw" (top 29)):Kn P w K mg base "_law_draw" 1 ["_law_pot_here","_law_many"] (F3 K (tabK potL Pt lpos qual) Cr):=RH (Uj F) rfl
end
end Tb
end
section
namespace Pu
open PySem PySem.Spec L2
section
variable {T:PotK}{ι:Type}{K:A9}{F:ι->Cx}{e:Expr}{es:List Expr}{st:Stmt}{pe:pE}{pl:pA}{pos:Pos}{np:Bool}{x:Str}
theorem qv (i:Nat)(h:∀z,EW (F z) (.Name x pos) (tVar i):=by exact λ_=>vw _):QE T K F (.Name x pos) (qV i):=qe_var i h
theorem qf {p:Pos}{f:pF}{ps:List Str}{k j:Nat}{P:D1}{w:C9}{K0:A9}{mg:Str->Option A1}{base:B6}{A:D5}(hG:Kn P w K0 mg base x k ps (F3 K T f))(hr:Room j A)(ha:QA T K F (e::es) pl)(hF:∀z,(F z).prog=P/\(F z).w=w/\(F z).K=K0/\(F z).mg=mg/\(F z).base=base/\(F z).A=A:=by exact λ_=>⟨rfl,rfl,rfl,rfl,rfl,rfl⟩)(hk:k<=j:=by decide)(hg:∀z,Gl (F z) x:=by intro _;rfl)(hdb:(x == ("__debug__":Str))=false:=by decide)(hs:F9 e=true:=by rfl)(hpl:∀z,(backTo pos (F5 es (F z).env)).any (·.1)=false:=by intro _;rfl):QE T K F (.Call (.Name x p) (e::es) [] pos) (B7 f pl):=qe_fn (λz=>by obtain⟨h1,h2,h3,h4,h5,_⟩:=hF z;rw[h1,h2,h3,h4,h5];exact hG) (λz=>by rw[(hF z).2.2.2.2.2];exact hr) hk hg ha hdb hs hpl
theorem gn (i:Nat){N:List Str}(hN:N.Nodup)(hNF:∀z,(F z).N=N:=by exact λ_=>rfl)(hi:∀z,(F z).N[i]?=some x:=by intro _;rfl)(hx:∀z,Loc (F z).env.scope x:=by intro _;first|exact Or.inl rfl|exact Or.inr rfl)(hf:∀z,(F z).fn x=true\/(F z).env.scope.names.lookup x=some .local:=by intro _;first|exact .inl rfl|exact .inr rfl|assumption):QG K F (.Name x pos) (gN i):=PJ λz=>AV i (hNF z▸hN) (hi z) (hx z) (hf z)
theorem sws (i:Nat){pos':Pos}{N:List Str}(hN:N.Nodup)(hNF:∀z,(F z).N=N:=by exact λ_=>rfl)(hi:∀z,(F z).N[i]?=some x:=by intro _;rfl)(hx:∀z,Loc (F z).env.scope x:=by intro _;first|exact Or.inl rfl|exact Or.inr rfl)(hs:∀z,d8 e (some (.Name x pos')) pos.line (F z).env=pure false:=by intro _;rfl)(hf:∀z,(F z).fn x=true\/(F z).env.scope.names.lookup x=some .local:=by intro _;first|exact .inl rfl|exact .inr rfl|assumption)(z:ι)(te:TE)(h:EW (F z) e te):SW (F z) (.Assign [.Name x pos'] e pos) (tAsg te (L9 i)):=sw_set (hNF z▸hN) (hi z) (hx z) (hs z) (hf z) te h
end
section
variable {P:D1}{w:C9}{K:A9}{mg:Str->Option A1}{base:B6}{T:PotK}{x:Str}{st:Stmt}{N ps:List Str}{k:Nat}{body:pS}
theorem fnk (F0:Fn0 K mg x st)(h:U4 N ps (F7 st)->∀(f:A0) (jo:A1) (A:D5) (outer:List PySem.Env) (s:A5) (H:Hp) (E:XK),Room k (A.deeper (EJ x (F7 st) s.heap.objs.size f jo))->
     QSs T false K (λ_:Unit=>(cxOf CX0 P w K mg base N x (F7 st) f jo A outer s H E).nox) (N8 st) body) (sc:U4 N ps (F7 st):=by exact⟨rfl,rfl,rfl,by decide +kernel,rfl,by decide +kernel,by decide +kernel⟩)
   (bd:∀(kV doc pm:A1) (an:Option A0) (jo ct:A1) (us:List A1),us.length=ps.length->Y0 (W1 x x (U5 st) (N8 st) (F7 st) .none kV doc pm an jo ct) ⟨us,[]⟩=pure (ps.zip us):=by intro _ _ _ _ _ _;first|exact bd1 λ_=>rfl|exact bd2 λ_ _=>rfl|exact bd3 λ_ _ _=>rfl|exact bd4 λ_ _ _ _=>rfl|exact bd5 λ_ _ _ _ _=>rfl) :
   Kn P w K mg base x (k+1) ps (F3 K T (fnP N ps body)):=fn_ok F0 sc bd (h sc)
end
end Pu
end
section
namespace Tb
open PySem L2 Pu
section
variable (P:D1)(w:C9)(K:A9)(mg:Str->Option A1)(base:B6)(Pt:A0)
abbrev Ul:Prop:=Kn P w K mg base "_law_pot" 1 ["_law_script","_law_k"] (Fw K)
abbrev Ee:Prop:=Kn P w K mg base "_law_draw" 1 ["_law_pot_here","_law_many"] (F3 K (tabK potL Pt lamP lamQ) Cr)
abbrev Nv:Prop:=Kn P w K mg base "_law_shuffled" 2 ["_law_pot_here","_law_some"] (F3 K (tabK potL Pt lamP lamQ) Ge)
abbrev Nw:Prop:=Kn P w K mg base "_law_boats" 3 ["_law_pot_here","_law_many"] (F3 K (tabK potL Pt lamP lamQ) IR)
abbrev Nx:Prop:=Kn P w K mg base "_law_apart" 1 ["_law_one","_law_other"] (F3 K (tabK potL Pt lamP lamQ) IS)
abbrev Ny:Prop:=Kn P w K mg base "_law_sheet" 2 ["_law_pot_here","_law_start","_law_reach"] (F3 K (tabK potL Pt lamP lamQ) IT)
abbrev Nz:Prop:=Kn P w K mg base "_law_bent" 2 ["_law_pot_here","_law_start","_law_sheet_here","_law_spare"] (F3 K (tabK potL Pt lamP lamQ) IU)
abbrev Gu:Prop:=Kn P w K mg base "touches_of" 1 ["events"] (F3 K (tabK potL Pt lamP lamQ) Bm)
abbrev NA:Prop:=Kn P w K mg base "exchanged" 1 ["row","one","other"] (F3 K (tabK potL Pt lamP lamQ) IV)
abbrev Jq:Prop:=Kn P w K mg base "row_behind" 2 ["start","sheet"] (F3 K (tabK potL Pt lamP lamQ) Bn)
abbrev NB:Prop:=Kn P w K mg base "_law_orders" 1 ["_law_some"] (F3 K (tabK potL Pt lamP lamQ) DW)
abbrev CG:Prop:=Kn P w K mg base "boats_of" 1 ["events"] (F3 K (tabK potL Pt lamP lamQ) Ao)
abbrev NC:Prop:=Kn P w K mg base "boat_reason" 2 ["start","sheet"] (F3 K (tabK potL Pt lamP lamQ) Gf)
abbrev Gv:Prop:=Kn P w K mg base "is_wrong" 1 ["start","touch"] (F3 K (tabK potL Pt lamP lamQ) Cz)
abbrev Bq:Prop:=Kn P w K mg base "between" 1 ["start","touch"] (F3 K (tabK potL Pt lamP lamQ) V8)
abbrev Gw:Prop:=Kn P w K mg base "is_far" 2 ["start","reach","touch"] (F3 K (tabK potL Pt lamP lamQ) CA)
abbrev ND:Prop:=Kn P w K mg base "touch_reason" 3 ["start","reach","sheet","touch"] (F3 K (tabK potL Pt lamP lamQ) Gg)
abbrev Jr:Prop:=Kn P w K mg base "is_cross" 2 ["start","one","other"] (F3 K (tabK potL Pt lamP lamQ) DX)
abbrev NE:Prop:=Kn P w K mg base "cross_reason" 3 ["start","touch","touches"] (F3 K (tabK potL Pt lamP lamQ) Gi)
abbrev NF:Prop:=Kn P w K mg base "reason_of" 4 ["start","reach","sheet"] (F3 K (tabK potL Pt lamP lamQ) Gj)
abbrev NG:Prop:=Kn P w K mg base "order_of" 5 ["start","reach","sheet"] (F3 K (tabK potL Pt lamP lamQ) DY)
abbrev NH:Prop:=Kn P w K mg base "can_be" 3 ["start","reach","inside","event"] (F3 K (tabK potL Pt lamP lamQ) Gk)
abbrev NI:Prop:=Kn P w K mg base "gone_by" 4 ["start","reach","events"] (F3 K (tabK potL Pt lamP lamQ) Ap)
abbrev Gx:Prop:=Kn P w K mg base "is_boat" 1 ["thing"] (F3 K (tabK potL Pt lamP lamQ) CB)
abbrev NJ:Prop:=Kn P w K mg base "shows_boat" 2 ["start","sheet","word","thing"] (F3 K (tabK potL Pt lamP lamQ) IX)
abbrev NK:Prop:=Kn P w K mg base "is_touch" 2 ["thing"] (F3 K (tabK potL Pt lamP lamQ) IY)
abbrev Gy:Prop:=Kn P w K mg base "is_known" 3 ["start","sheet","thing"] (F3 K (tabK potL Pt lamP lamQ) l6)
abbrev NL:Prop:=Kn P w K mg base "shows_touch" 4 ["start","reach","sheet","word","thing"] (F3 K (tabK potL Pt lamP lamQ) IZ)
abbrev NM:Prop:=Kn P w K mg base "shows_stays" 4 ["start","sheet","touch","thing"] (F3 K (tabK potL Pt lamP lamQ) I_)
abbrev NN:Prop:=Kn P w K mg base "shows_cross" 4 ["start","sheet","one","other"] (F3 K (tabK potL Pt lamP lamQ) Ja)
abbrev NO:Prop:=Kn P w K mg base "shows_unsound" 5 ["start","reach","sheet","thing"] (F3 K (tabK potL Pt lamP lamQ) Aq)
abbrev NP:Prop:=Kn P w K mg base "_law_reasons" 1 ["_law_sheet_here","_law_boats_here"] (F3 K (tabK potL Pt lamP lamQ) DZ)
abbrev NQ:Prop:=Kn P w K mg base "_law_right" 6 ["_law_start","_law_reach","_law_sheet_here","_law_boats_here"] (F3 K (tabK potL Pt lamP lamQ) Gm)
end
section
variable {P:D1}{w:C9}{K:A9}{mg:Str->Option A1}{base:B6}{Pt cd:A0}
theorem Um (F0:Fn0 K mg "_law_shuffled" (top 30))(g1:Ee P w K mg base Pt)(m6:mg "len"=none)(m7:mg "list"=none)(m12:mg "tuple"=none):Nv P w K mg base Pt:=fnk F0 λsc _ _ _ _ _ _ _ hr=>(B5 (Bb 2 3 (λ_=>Ba (i:=2) (j:=3) rfl sc.nd rfl rfl (by decide) rfl rfl rfl) (ql_o (Cg (λ_=>rfl) (λ_=>m7) (QE.r (qv 1)))) (ql_o (T5 B3)))
   (B5 (PR (Pz (cNe 4 λ_=>hr) (P7 2 λ_=>vw 2) (QE.r (QN.ee (T5 B3))) (D6 _)) (B8 (X2 (λ_=>X1) (AZ 3 (λ_=>vw 3) (PU 2 (λ_=>vw 2) (qf g1 hr (A4 (qv 0) (A4 (P1 (λ_=>rfl) (λ_=>m6) (P7 2 λ_=>vw 2)) B3))))))))
   (B8 (D2 (Cf (λ_=>rfl) (λ_=>m12) (P7 3 λ_=>vw 3))))))
theorem Uo (F0:Fn0 K mg "_law_boats" (top 31))(g1:Ee P w K mg base Pt)(g2:Nv P w K mg base Pt)(m8:mg "range"=none):Nw P w K mg base Pt:=fnk F0 λsc _ _ _ _ _ _ _ hr=>(B5 (Qb 2 3 (λ_=>u8) (λ_=>gw_two K 2 3 rfl (AV 2 sc.nd rfl (Or.inr rfl)) (AV 3 sc.nd rfl (Or.inl rfl))) (ql_v D7) (ql_o (T5 B3)))
   (B5 (PY 4 5 6 (λ_=>PX (i:=4) (j:=5) (k:=6) rfl sc.nd rfl rfl rfl (by decide) (by decide) (by decide) rfl rfl rfl rfl) (qf g1 hr (A4 (qv 0) (A4 B9 B3))) (ql_v (qf g1 hr (A4 (qv 0) (A4 B9 B3)))) (ql_v (L0 B9 (qf g1 hr (A4 (qv 0) (A4 B9 B3))))))
   (B5 (Bb 7 8 (λ_=>Ba (i:=7) (j:=8) rfl sc.nd rfl rfl (by decide) rfl rfl rfl) (ql_v (qf g1 hr (A4 (qv 0) (A4 (qv 6) B3)))) (ql_v (G6 (qv 2) (qf g1 hr (A4 (qv 0) (A4 B9 B3))))))
   (B5 (Q7 (λ_=>rfl) (AX (λ_=>rfl) (λ_=>m8) (qv 1)) (gn 9 sc.nd) (B5 (L5 10 (sws 10 sc.nd) (G6 (qv 2) (Hr (L0 (qv 5) (Fh B9 (qv 9))) B9)))
   (B5 (E7 (E3 (cEq 4 λ_=>hr) (qv 4) (QE.r B9) (D6 _)) (B8 (L5 10 (sws 10 sc.nd) (L0 (qv 10) (P_ D7 (QE.r (QN.ee (U9 (N:=["_law_j","_law_letters","_law_pot_here"]) (cs:=[none,some 2,some 0]) (λ_=>N9 rfl rfl rfl rfl ⟨rfl,⟨rfl,trivial⟩⟩ rfl rfl rfl) (λ_=>rfl) (AX (λ_=>rfl) (λ_=>m8) (qf g1 hr (A4 (qv 0) (A4 B9 B3)))) (gn 0 (show L6 (["_law_j","_law_letters","_law_pot_here"]:List Str) by decide +kernel)) R6 (G6 (qv 1) (qf g1 hr (A4 (qv 2) (A4 B9 B3))))))))))) E6)
   (B5 (E7 (E3 (cEq 4 λ_=>hr) (qv 4) (QE.r B9) (D6 _)) (B8 (L5 10 (sws 10 sc.nd) (Fh (G6 (qv 2) (Hr (L0 (qv 5) (Px (qv 9) B9)) B9)) (L0 B9 (Hr (qv 9) B9))))) E6)
   (B5 (E7 (E3 cGt (qv 4) (QE.r B9) (D6 _)) (B8 (L5 10 (sws 10 sc.nd) (L0 (L0 (Fh (qv 8) (qv 7)) (qv 10)) (Fh (qv 8) (Hq (Hq (qv 6) B9) (qv 7)))))) E6)
   (B8 (X2 (λ_=>X1) (AZ 3 (λ_=>vw 3) (qv 10)))))))))
   (B5 (L5 11 (sws 11 sc.nd) (G6 (QN.ee (T5 (A4 D7 (A4 D7 (A4 D7 (A4 D7 (A4 D7 (A4 D7 (A4 D7 B3))))))))) (qf g1 hr (A4 (qv 0) (A4 B9 B3)))))
   (B5 (E7 (QW.qt (u5 (E3 (cEq 4 λ_=>hr) (qf g1 hr (A4 (qv 0) (A4 B9 B3))) (QE.r B9) (D6 _)) (u4 (E3 (j7 4 λ_=>hr) (qv 11) (P7 3 λ_=>vw 3) rfl)))) (B8 (qs_put 3 (λ_=>u8) (qv 11) (λ_=>HK (vw 3)) (qf g1 hr (A4 (qv 0) (A4 (qv 1) B3))))) E6)
   (B8 (HL 3 (D2 (qf g2 hr (A4 (qv 0) (A4 (qv 3) B3))))))))))))
theorem Up (F0:Fn0 K mg "_law_apart" (top 32)):Nx P w K mg base Pt:=fnk F0 λsc _ _ _ _ _ _ _ hr=>(B5 (Fs (λ_=>u8) (J1 (A4 (qv 0) (A4 (qv 1) B3))) (u6 (λ_=>rfl) (O0 (u6 (λ_=>rfl) (O0 (gn 2 sc.nd) (O0 (gn 3 sc.nd) k5))) (O0 (u6 (λ_=>rfl) (O0 (gn 4 sc.nd) (O0 (gn 5 sc.nd) k5))) k5))))
   (B8 (D2 (Fn (L3 cLt (qv 3) (QE.r (qv 4)) (D6 _)) (Fn (L3 cLt (qv 5) (QE.r (qv 2)) (D6 _)) (Fn (j8 (L3 cLt (qv 2) (QE.r (qv 4)) (D6 _)) (Z7 (L3 cLt (qv 5) (QE.r (qv 3)) (D6 _)))) (Z7 (j8 (L3 cLt (qv 4) (QE.r (qv 2)) (D6 _)) (Z7 (L3 cLt (qv 3) (QE.r (qv 5)) (D6 _)))))))))))
theorem Uq (F0:Fn0 K mg "_law_sheet" (top 33))(g1:Ee P w K mg base Pt)(g4:Nx P w K mg base Pt)(m1:mg "all"=none)(m2:mg "any"=none)(m3:mg "enumerate"=none)(m6:mg "len"=none)(m8:mg "range"=none)(m10:mg "sorted"=none)(m12:mg "tuple"=none):Ny P w K mg base Pt:=fnk F0 λsc _ _ _ _ _ _ _ hr=>(B5 (Rr [3,4,5,6] (λ_=>u8) (λ_=>gw_tup K rfl (FR (AV 3 sc.nd rfl (Or.inl rfl)) (FR (AV 4 sc.nd rfl (Or.inl rfl)) (FR (AV 5 sc.nd rfl (Or.inl rfl)) (FR (AV 6 sc.nd rfl (Or.inl rfl)) pgs_n))))) (FQ (ql_v (P1 (λ_=>rfl) (λ_=>m6) (QE.r (qv 1)))) (FQ (ql_o (T5 B3)) (FQ (ql_o (T5 B3)) (FQ (ql_o (T5 B3)) Rq)))))
   (B5 (Q7 (λ_=>rfl) (AX (λ_=>rfl) (λ_=>m8) (qf g1 hr (A4 (qv 0) (A4 (L0 (qv 3) B9) B3)))) (gn 7 sc.nd) (B5 (Fs (λ_=>u8) (J1 (A4 (qf g1 hr (A4 (qv 0) (A4 (qv 3) B3))) (A4 (L0 B9 (qf g1 hr (A4 (qv 0) (A4 (L0 (qv 2) B9) B3)))) B3))) (u6 (λ_=>rfl) (O0 (gn 8 sc.nd) (O0 (gn 9 sc.nd) k5))))
   (B8 (E7 (QW.qt (u5 (E3 cLt (L0 (qv 8) (qv 9)) (QE.r (qv 3)) (D6 _)) (u4 (N3 (Ls (Mo Lu) (Dx (λ_=>rfl) (λ_=>rfl) (λ_=>m1) (QE.r (QN.ee (U9 (N:=["_law_one","_law_at","_law_far"]) (cs:=[none,some 8,some 9]) (λ_=>N9 rfl rfl rfl rfl ⟨rfl,⟨rfl,trivial⟩⟩ rfl rfl rfl) (λ_=>rfl) (V6 (qv 4)) (gn 0 (show L6 (["_law_one","_law_at","_law_far"]:List Str) by decide +kernel)) R6 (qf g4 hr (A4 (J1 (A4 (qv 1) (A4 (L0 (qv 1) (qv 2)) B3))) (A4 (qv 0) B3)))))))))))) (B5 (X2 (λ_=>X1) (AZ 4 (λ_=>vw 4) (J1 (A4 (qv 8) (A4 (L0 (qv 8) (qv 9)) B3)))))
   (B5 (X2 (λ_=>X1) (DH 5 (λ_=>vw 5) (QN.ee (T5 (A4 (qv 8) (A4 (L0 (qv 8) (qv 9)) B3))))))
   (B8 (X2 (λ_=>X1) (AZ 6 (λ_=>vw 6) (J1 (A4 D7 (A4 (G6 (qv 1) (L0 (qv 8) (qv 9))) (A4 (G6 (qv 1) (qv 8)) B3))))))))) E6))))
   (B5 (Q7 (λ_=>rfl) (KY (λ_=>rfl) (λ_=>m3) (qv 1)) (u6 (λ_=>rfl) (O0 (gn 10 sc.nd) (O0 (gn 11 sc.nd) k5))) (B5 (HL 4 (L5 12 (sws 12 sc.nd) (Kq (λ_=>rfl) (λ_=>rfl) (λ_=>m2) (QE.r (QN.ee (U9 (N:=["_law_a","_law_b","_law_place"]) (cs:=[none,none,some 10]) (λ_=>N9 rfl rfl rfl rfl ⟨rfl,trivial⟩ rfl rfl rfl) (λ_=>rfl) (V6 (qv 4)) (u6 (λ_=>rfl) (O0 (gn 0 (show L6 (["_law_a","_law_b","_law_place"]:List Str) by decide +kernel)) (O0 (gn 1 (show L6 (["_law_a","_law_b","_law_place"]:List Str) by decide +kernel)) k5))) R6 (Kl cLt cLt (qv 0) (qv 2) (qv 1))))))))
   (B8 (E7 (QW.qt (u5 (E3 (j7 4 λ_=>hr) (qv 10) (P7 5 λ_=>vw 5) rfl) (u4 (QW.qt (U6 (Qa (QE.r (qv 12))) (W8 (E3 (cEq 4 λ_=>hr) (qf g1 hr (A4 (qv 0) (A4 B9 B3))) (QE.r B9) (D6 _)))))))) (B8 (X2 (λ_=>X1) (AZ 6 (λ_=>vw 6) (J1 (A4 D7 (A4 (qv 11) B3)))))) E6))))
   (B8 (D2 (Cf (λ_=>rfl) (λ_=>m12) (QE.r (QN.ee (Lq (λ_=>rfl) (λ_=>m10) (P7 6 λ_=>vw 6))))))))))
theorem Ur (F0:Fn0 K mg "_law_bent" (top 34))(g1:Ee P w K mg base Pt)(m6:mg "len"=none)(m7:mg "list"=none)(m9:mg "set"=none)(m10:mg "sorted"=none)(m12:mg "tuple"=none):Nz P w K mg base Pt:=fnk F0 λsc _ _ _ _ _ _ _ hr=>(B5 (Bb 4 5 (λ_=>Ba (i:=4) (j:=5) rfl sc.nd rfl rfl (by decide) rfl rfl rfl) (ql_v (qf g1 hr (A4 (qv 0) (A4 B9 B3)))) (ql_v (qf g1 hr (A4 (qv 0) (A4 (L0 (P1 (λ_=>rfl) (λ_=>m6) (QE.r (qv 2))) B9) B3)))))
   (B5 (L5 6 (sws 6 sc.nd) (QN.ee (DC (QE.r (QN.ee (Cg (λ_=>rfl) (λ_=>m7) (QE.r (qv 1))))) (QE.r (QN.ee (Cg (λ_=>rfl) (λ_=>m7) (QE.r (qv 3))))))))
   (B5 (Bb 7 8 (λ_=>Ba (i:=7) (j:=8) rfl sc.nd rfl rfl (by decide) rfl rfl rfl) (ql_v (G6 (qv 6) (qf g1 hr (A4 (qv 0) (A4 (P1 (λ_=>rfl) (λ_=>m6) (QE.r (qv 6))) B3))))) (ql_v (G6 (qv 6) (qf g1 hr (A4 (qv 0) (A4 (P1 (λ_=>rfl) (λ_=>m6) (QE.r (qv 6))) B3))))))
   (B5 (L5 9 (sws 9 sc.nd) (qe_if (QW.qt (U6 (E3 (cEq 4 λ_=>hr) (qv 7) (QE.r (qv 8)) (D6 _)) (W8 (E3 (cEq 4 λ_=>hr) (qf g1 hr (A4 (qv 0) (A4 B9 B3))) (QE.r B9) (D6 _))))) (QN.ee (T5 (A4 (J1 (A4 D7 (A4 (qv 7) B3))) B3))) (QN.ee (T5 (A4 (J1 (A4 D7 (A4 (qv 7) (A4 (qv 8) B3)))) B3)))))
   (B5 (E7 (QW.qt (U6 (E3 cGt (qv 4) (QE.r B9) (D6 _)) (W8 (E3 (cEq 4 λ_=>hr) (qv 5) (QE.r (P1 (λ_=>rfl) (λ_=>m6) (QE.r (qv 2)))) (D6 _))))) (B8 (D2 (Cf (λ_=>rfl) (λ_=>m12) (QE.r (QN.ee (Mm (λ_=>rfl) (λ_=>hr) (λ_=>rfl) (λ_=>m10) (λ_=>rfl) (λ_=>m9) (QE.r (QN.ee (DC (QE.r (QN.ee (Cg (λ_=>rfl) (λ_=>m7) (QE.r (qv 2))))) (QE.r (qv 9))))))))))) E6)
   (B5 (Bb 10 11 (λ_=>Ba (i:=10) (j:=11) rfl sc.nd rfl rfl (by decide) rfl rfl rfl) (ql_v (G6 (qv 2) (qv 5))) (ql_o (Cg (λ_=>rfl) (λ_=>m7) (QE.r (L0 (V5 (qv 2) W9 (U7 (qv 5))) (V5 (qv 2) (U7 (L0 (qv 5) B9)) W9))))))
   (B5 (E7 (QW.qt (u5 (E3 (cEq 4 λ_=>hr) (qv 4) (QE.r B9) (D6 _)) (u4 (E3 (cEq 4 λ_=>hr) (G6 (qv 10) B9) (QE.r D7) (D6 _))))) (B8 (X2 (λ_=>X1) (AZ 11 (λ_=>vw 11) (J1 (A4 D7 (A4 (G6 (qv 10) B9) (A4 (G6 (qv 10) B9) B3))))))) E6)
   (B5 (E7 (E3 (cEq 4 λ_=>hr) (qv 4) (QE.r B9) (D6 _)) (B8 (X2 (λ_=>X1) (DH 11 (λ_=>vw 11) (qv 9)))) E6)
   (B5 (E7 (QW.qt (u5 (E3 (cEq 4 λ_=>hr) (qv 4) (QE.r B9) (D6 _)) (u4 (E3 (j7 4 λ_=>hr) (qv 7) (QE.r (qv 10)) rfl)))) (B8 (X2 (λ_=>X1) (AZ 11 (λ_=>vw 11) (L0 (V5 (qv 10) W9 (U7 (Hq (P1 (λ_=>rfl) (λ_=>m6) (QE.r (qv 10))) B9))) (J1 (A4 (qv 7) B3)))))) E6)
   (B8 (D2 (Cf (λ_=>rfl) (λ_=>m12) (QE.r (QN.ee (Mm (λ_=>rfl) (λ_=>hr) (λ_=>rfl) (λ_=>m10) (λ_=>rfl) (λ_=>m9) (P7 11 λ_=>vw 11))))))))))))))))
theorem Us (F0:Fn0 K mg "touches_of" (top 7)):Gu P w K mg base Pt:=fnk F0 λsc _ _ _ _ _ _ _ hr=>(B8 (D2 (QN.ee (U9 (N:=["event"]) (cs:=[none]) (λ_=>N9 rfl rfl rfl rfl trivial rfl rfl rfl) (λ_=>rfl) (T6 (qv 0)) (gn 0 (show L6 (["event"]:List Str) by decide +kernel)) (Fo (E3 (cEq 4 λ_=>hr) (G6 (qv 0) B9) (QE.r D7) (D6 _))) (qv 0)))))
theorem Ut (F0:Fn0 K mg "exchanged" (top 3))(m7:mg "list"=none)(m12:mg "tuple"=none):NA P w K mg base Pt:=fnk F0 λsc _ _ _ _ _ _ _ hr=>(B5 (HD 3 (sws 3 sc.nd) (Cg (λ_=>rfl) (λ_=>m7) (QE.r (qv 0))))
   (B5 (RT 3 (λ_=>u8) (λ_ _ _ h1 h2=>RS K rfl (HK (vw 3) (by intro _;rfl) _ h1) (HK (vw 3) (by intro _;rfl) _ h2)) (G6 (qv 0) (qv 2)) (G6 (qv 0) (qv 1)) (qv 1) (qv 2))
   (B8 (D2 (Cf (λ_=>rfl) (λ_=>m12) (P7 3 λ_=>vw 3))))))
theorem Uu (F0:Fn0 K mg "row_behind" (top 14))(g7:Gu P w K mg base Pt)(g8:NA P w K mg base Pt):Jq P w K mg base Pt:=fnk F0 λsc _ _ _ _ _ _ _ hr=>(B5 (L5 2 (sws 2 sc.nd) (qv 0))
   (B5 (Q7 (λ_=>rfl) (V6 (qf g7 hr (A4 (qv 1) B3))) (gn 3 sc.nd) (B8 (L5 2 (sws 2 sc.nd) (qf g8 hr (A4 (qv 2) (A4 (Cn (qv 0) (G6 (qv 3) B9)) (A4 (Cn (qv 0) (G6 (qv 3) B9)) B3)))))))
   (B8 (D2 (qv 2)))))
theorem Uv (F0:Fn0 K mg "_law_orders" (top 35))(m6:mg "len"=none)(m8:mg "range"=none):NB P w K mg base Pt:=fnk F0 λsc _ _ _ _ _ _ _ hr=>(B5 (L5 1 (sws 1 sc.nd) (QN.ee (T5 (A4 (J1 B3) B3))))
   (B5 (Q7 (λ_=>rfl) (T6 (qv 0)) (gn 2 sc.nd) (B5 (HD 3 (sws 3 sc.nd) (T5 B3))
   (B5 (Q7 (λ_=>rfl) (V6 (qv 1)) (gn 4 sc.nd) (B8 (X2 (λ_=>X1) (DH 3 (λ_=>vw 3) (QN.ee (U9 (N:=["_law_at","_law_order","_law_event"]) (cs:=[none,some 4,some 2]) (λ_=>N9 rfl rfl rfl rfl ⟨rfl,⟨rfl,trivial⟩⟩ rfl rfl rfl) (λ_=>rfl) (AX (λ_=>rfl) (λ_=>m8) (L0 (P1 (λ_=>rfl) (λ_=>m6) (QE.r (qv 4))) B9)) (gn 0 (show L6 (["_law_at","_law_order","_law_event"]:List Str) by decide +kernel)) R6 (L0 (L0 (V5 (qv 1) W9 (U7 (qv 0))) (J1 (A4 (qv 2) B3))) (V5 (qv 1) (U7 (qv 0)) W9))))))))
   (B8 (HL 3 (L5 1 (sws 1 sc.nd) (qv 3)))))))
   (B8 (D2 (qv 1)))))
theorem Uw (F0:Fn0 K mg "boats_of" (top 6)):CG P w K mg base Pt:=fnk F0 λsc _ _ _ _ _ _ _ hr=>(B8 (D2 (QN.ee (Rz (N:=["event","boat"]) (cs:=[none,none]) (λ_=>N9 rfl rfl rfl rfl trivial rfl rfl rfl) (λ_=>rfl) (T6 (qv 0)) (gn 0 (show L6 (["event","boat"]:List Str) by decide +kernel)) (T6 (V5 (qv 0) (U7 B9) W9)) (gn 1 (show L6 (["event","boat"]:List Str) by decide +kernel)) R6 (qv 1)))))
theorem Ux (F0:Fn0 K mg "boat_reason" (top 15))(g11:CG P w K mg base Pt):NC P w K mg base Pt:=fnk F0 λsc _ _ _ _ _ _ _ hr=>(B5 (L5 2 (sws 2 sc.nd) (qf g11 hr (A4 (qv 1) B3)))
   (B5 (Q7 (λ_=>rfl) (V6 (qv 2)) (gn 3 sc.nd) (B5 (E7 (E3 (j7 4 λ_=>hr) (qv 3) (QE.r (qv 0)) rfl) (B8 (D2 (J1 (A4 D7 (A4 (qv 3) B3))))) E6)
   (B8 (E7 (E3 cGt (KL (qv 2) (qv 3)) (QE.r B9) (D6 _)) (B8 (D2 (J1 (A4 D7 (A4 (qv 3) B3))))) E6))))
   (B8 (D2 AS))))
theorem Uy (F0:Fn0 K mg "is_wrong" (top 9)):Gv P w K mg base Pt:=fnk F0 λsc _ _ _ _ _ _ _ hr=>(B8 (D2 (L3 cGt (Cn (qv 0) (G6 (qv 1) B9)) (QE.r (Cn (qv 0) (G6 (qv 1) B9))) (D6 _))))
theorem Uz (F0:Fn0 K mg "between" (top 8))(m10:mg "sorted"=none):Bq P w K mg base Pt:=fnk F0 λsc _ _ _ _ _ _ _ hr=>(B5 (Fs (λ_=>u8) (QN.ee (Lq (λ_=>rfl) (λ_=>m10) (QE.r (QN.ee (T5 (A4 (Cn (qv 0) (G6 (qv 1) B9)) (A4 (Cn (qv 0) (G6 (qv 1) B9)) B3))))))) (qg_lst (λ_=>rfl) (O0 (gn 2 sc.nd) (O0 (gn 3 sc.nd) k5))))
   (B8 (D2 (V5 (qv 0) (U7 (L0 (qv 2) B9)) (U7 (qv 3))))))
theorem UA (F0:Fn0 K mg "is_far" (top 10))(g14:Bq P w K mg base Pt)(m6:mg "len"=none):Gw P w K mg base Pt:=fnk F0 λsc _ _ _ _ _ _ _ hr=>(B8 (D2 (L3 cGt (P1 (λ_=>rfl) (λ_=>m6) (QE.r (qf g14 hr (A4 (qv 0) (A4 (qv 2) B3))))) (QE.r (qv 1)) (D6 _))))
theorem UB (F0:Fn0 K mg "touch_reason" (top 16))(g13:Gv P w K mg base Pt)(g15:Gw P w K mg base Pt)(g11:CG P w K mg base Pt)(g14:Bq P w K mg base Pt):ND P w K mg base Pt:=fnk F0 λsc _ _ _ _ _ _ _ hr=>(B5 (E7 (N3 (qf g13 hr (A4 (qv 0) (A4 (qv 3) B3)))) (B8 (D2 (J1 (A4 D7 (A4 (qv 3) B3))))) E6)
   (B5 (E7 (N3 (qf g15 hr (A4 (qv 0) (A4 (qv 1) (A4 (qv 3) B3))))) (B8 (D2 (J1 (A4 D7 (A4 (qv 3) B3))))) E6)
   (B5 (L5 4 (sws 4 sc.nd) (qf g11 hr (A4 (qv 2) B3)))
   (B5 (Q7 (λ_=>rfl) (T6 (qf g14 hr (A4 (qv 0) (A4 (qv 3) B3)))) (gn 5 sc.nd) (B8 (E7 (E3 (j7 4 λ_=>hr) (qv 5) (QE.r (qv 4)) rfl) (B8 (D2 (J1 (A4 D7 (A4 (qv 3) (A4 (qv 5) B3)))))) E6)))
   (B8 (D2 AS))))))
theorem UC (F0:Fn0 K mg "is_cross" (top 11))(g11:CG P w K mg base Pt)(g14:Bq P w K mg base Pt)(m6:mg "len"=none)(m9:mg "set"=none):Jr P w K mg base Pt:=fnk F0 λsc _ _ _ _ _ _ _ hr=>(B5 (E7 (E3 (cNe 4 λ_=>hr) (SZ (λ_=>rfl) (λ_=>rfl) (λ_=>m6) (λ_=>rfl) (λ_=>m9) (qf g11 hr (A4 (J1 (A4 (qv 1) (A4 (qv 2) B3))) B3))) (QE.r B9) (D6 _)) (B8 (D2 M4)) E6)
   (B5 (L5 3 (sws 3 sc.nd) (qf g14 hr (A4 (qv 0) (A4 (qv 1) B3))))
   (B8 (D2 (L3 (cNe 4 λ_=>hr) (L3 (cIn 4 λ_=>hr) (G6 (qv 2) B9) (QE.r (qv 3)) rfl) (QE.r (L3 (cIn 4 λ_=>hr) (G6 (qv 2) B9) (QE.r (qv 3)) rfl)) (D6 _))))))
theorem UD (F0:Fn0 K mg "cross_reason" (top 17))(g17:Jr P w K mg base Pt):NE P w K mg base Pt:=fnk F0 λsc _ _ _ _ _ _ _ hr=>(B5 (Q7 (λ_=>rfl) (V6 (qv 2)) (gn 3 sc.nd) (B8 (E7 (N3 (qf g17 hr (A4 (qv 0) (A4 (qv 1) (A4 (qv 3) B3))))) (B8 (D2 (J1 (A4 D7 (A4 (qv 1) (A4 (qv 3) B3)))))) E6)))
   (B8 (D2 AS)))
theorem UE (F0:Fn0 K mg "reason_of" (top 18))(g12:NC P w K mg base Pt)(g7:Gu P w K mg base Pt)(g18:NE P w K mg base Pt)(g16:ND P w K mg base Pt):NF P w K mg base Pt:=fnk F0 λsc _ _ _ _ _ _ _ hr=>(B5 (L5 3 (sws 3 sc.nd) (qf g12 hr (A4 (qv 0) (A4 (qv 2) B3))))
   (B5 (E7 (E3 Hu (qv 3) (QE.r AS) (D6 _)) (B8 (D2 (qv 3))) E6)
   (B5 (L5 4 (sws 4 sc.nd) (qf g7 hr (A4 (qv 2) B3)))
   (B5 (Q7 (λ_=>rfl) (V6 (qv 4)) (gn 5 sc.nd) (B5 (L5 3 (sws 3 sc.nd) (qe_orT (qf g16 hr (A4 (qv 0) (A4 (qv 1) (A4 (qv 2) (A4 (qv 5) B3))))) (Z7 (qf g18 hr (A4 (qv 0) (A4 (qv 5) (A4 (qv 4) B3)))))))
   (B8 (E7 (E3 Hu (qv 3) (QE.r AS) (D6 _)) (B8 (D2 (qv 3))) E6))))
   (B8 (D2 AS))))))
theorem UF (F0:Fn0C K mg "order_of" (top 19) cd)(hC:PySem.W.CodeHd base cd Pt)(hB:base.BuiltinsAt mg Pt)(g19:NF P w K mg base Pt)(g7:Gu P w K mg base Pt)(g14:Bq P w K mg base Pt)(m6:mg "len"=none)(m10:mg "sorted"=none)(m12:mg "tuple"=none):NG P w K mg base Pt:=by
 have sc:U4 ["start","reach","sheet","reason","drops","inner_first"] ["start","reach","sheet"] (F7 (top 19)):=⟨rfl,rfl,rfl,by decide +kernel,rfl,by decide +kernel,by decide +kernel⟩
 exact fn_okC F0 sc (λ_ _ _ _ _ _=>bd3 λ_ _ _=>rfl) (k:=4) (body:=IW) (λf A outer s H E hr=>(B5 (L5 3 (sws 3 sc.nd) (qf g19 hr (A4 (qv 0) (A4 (qv 1) (A4 (qv 2) B3)))))
   (B5 (E7 (E3 Hu (qv 3) (QE.r AS) (D6 _)) (B8 (D2 (J1 (A4 D7 (A4 (qv 3) B3))))) E6)
   (B5 (DJ 4 (DI (N:=["event"]) (cs:=[none]) (λ_=>N9 rfl rfl rfl rfl trivial rfl rfl rfl) (λ_=>rfl) (T6 (qv 2)) (gn 0 (show L6 (["event"]:List Str) by decide +kernel)) (Fo (E3 (cEq 4 λ_=>hr) (G6 (qv 0) B9) (QE.r D7) (D6 _))) (qv 0)) (λ_=>sc.nd) (λ_=>rfl) (λ_=>Or.inl rfl))
   (B5 (L5 5 (sws 5 sc.nd) (QN.ee (RK (x:="touch") (y:="start") (iy:=0) (c:=λ_=>s.heap.objs.size+1) (QE.r (qf g7 hr (A4 (qv 2) B3))) (P1 (λ_=>rfl) (λ_=>m6) (QE.r (qe_fn (λ_=>g14) (λ_=>RP hr) (by decide) (λ_=>rfl) (A4 (qv 1) (A4 (qv 0) B3))))) (RQ rfl rfl rfl rfl rfl rfl (by decide +kernel) (by decide +kernel)) (λ_=>hr) (λ_=>rfl) (λ_=>rfl) (λ_=>rfl) (λ_ _ _ _ _=>rfl) (λ_=>rfl) (λ_=>rfl) (λ_=>rfl) (λ_=>hC) (λ_=>hB) (λ_=>rfl) (λ_=>m10) (λ_=>rfl))))
   (B8 (D2 (J1 (A4 D7 (A4 (Cf (λ_=>rfl) (λ_=>m12) (QE.r (QN.ee (DC (QE.r (qv 4)) (QE.r (qv 5)))))) B3))))))))))
theorem UG (F0:Fn0 K mg "can_be" (top 12))(g15:Gw P w K mg base Pt)(g13:Gv P w K mg base Pt)(g14:Bq P w K mg base Pt)(m1:mg "all"=none)(m2:mg "any"=none):NH P w K mg base Pt:=fnk F0 λsc _ _ _ _ _ _ _ hr=>(B5 (E7 (Q5 (N3 (Dx (λ_=>rfl) (λ_=>rfl) (λ_=>m1) (QE.r (QN.ee (U9 (N:=["boat","inside"]) (cs:=[none,some 2]) (λ_=>N9 rfl rfl rfl rfl ⟨rfl,trivial⟩ rfl rfl rfl) (λ_=>rfl) (T6 (V5 (qv 3) (U7 B9) W9)) (gn 0 (show L6 (["boat","inside"]:List Str) by decide +kernel)) R6 (L3 (cInD λ_=>hr) (qv 0) (QE.r (qv 1)) rfl))))))) (B8 (D2 M4)) E6)
   (B5 (E7 (E3 (cEq 4 λ_=>hr) (G6 (qv 3) B9) (QE.r D7) (D6 _)) (B8 (D2 M4)) E6)
   (B5 (E7 (QW.qt (U6 (N3 (qf g13 hr (A4 (qv 0) (A4 (qv 3) B3)))) (W8 (N3 (qf g15 hr (A4 (qv 0) (A4 (qv 1) (A4 (qv 3) B3)))))))) (B8 (D2 M4)) E6)
   (B8 (D2 (qe_not (Kq (λ_=>rfl) (λ_=>rfl) (λ_=>m2) (QE.r (QN.ee (U9 (N:=["boat","inside"]) (cs:=[none,some 2]) (λ_=>N9 rfl rfl rfl rfl ⟨rfl,trivial⟩ rfl rfl rfl) (λ_=>rfl) (T6 (qf g14 hr (A4 (qv 0) (A4 (qv 3) B3)))) (gn 0 (show L6 (["boat","inside"]:List Str) by decide +kernel)) R6 (L3 (cInD λ_=>hr) (qv 0) (QE.r (qv 1)) rfl)))))))))))
theorem UH (F0:Fn0 K mg "gone_by" (top 13))(g21:NH P w K mg base Pt)(g9:Jq P w K mg base Pt)(m3:mg "enumerate"=none):NI P w K mg base Pt:=fnk F0 λsc _ _ _ _ _ _ _ hr=>(B5 (Rm 3 (N:=["boat"]) (cs:=[none]) (λ_=>N9 rfl rfl rfl rfl trivial rfl rfl rfl) (λ_=>rfl) (T6 (qv 0)) (gn 0 (show L6 (["boat"]:List Str) by decide +kernel)) (qv 0) M4 (λ_=>sc.nd) (λ_=>rfl) (λ_=>Or.inl rfl))
   (B5 (Q7 (λ_=>rfl) (KY (λ_=>rfl) (λ_=>m3) (qv 2)) (u6 (λ_=>rfl) (O0 (gn 4 sc.nd) (O0 (gn 5 sc.nd) k5))) (B5 (E7 (Q5 (N3 (Ls (Mo Lu) (qf g21 hr (A4 (qv 0) (A4 (qv 1) (A4 (qv 3) (A4 (qv 5) B3)))))))) (B8 (D2 (J1 (A4 D7 (A4 (qv 4) B3))))) E6)
   (B8 (Q7 (λ_=>rfl) (T6 (V5 (qv 5) (U7 B9) W9)) (gn 6 sc.nd) (B8 (Rp 3 (λ_=>vw 3) (qv 6)))))))
   (B8 (D2 (J1 (A4 D7 (A4 (qf g9 hr (A4 (qv 0) (A4 (qv 2) B3))) B3)))))))
theorem UI (F0:Fn0 K mg "is_boat" (top 2))(m1:mg "all"=none)(m5:mg "isinstance"=none)(m6:mg "len"=none)(m11:mg "str"=none)(c0:Num0 mg "MOST_LETTERS" 8):Gx P w K mg base Pt:=fnk F0 λsc _ _ _ _ _ _ _ hr=>(B5 (E7 (QW.qt (U6 (Q5 (N3 (Dy (n:="str") (by decide) (λ_=>rfl) (λ_=>m5) (qv 0) (λ_=>tyw rfl m11 Hl)))) (W8 (Q5 (PB cLe cLe B9 (P1 (λ_=>rfl) (λ_=>m6) (QE.r (qv 0))) (qe_num (λ_=>c0) λ_=>rfl)))))) (B8 (D2 M4)) E6)
   (B8 (D2 (Dx (λ_=>rfl) (λ_=>rfl) (λ_=>m1) (QE.r (QN.ee (U9 (N:=["sign"]) (cs:=[none]) (λ_=>N9 rfl rfl rfl rfl trivial rfl rfl rfl) (λ_=>rfl) (qi_str (qv 0)) (gn 0 (show L6 (["sign"]:List Str) by decide +kernel)) R6 (Kl cLe cLe D7 (qv 0) D7))))))))
theorem UJ (F0:Fn0 K mg "shows_boat" (top 21))(g23:Gx P w K mg base Pt)(g11:CG P w K mg base Pt):NJ P w K mg base Pt:=fnk F0 λsc _ _ _ _ _ _ _ hr=>(B5 (E7 (Q5 (N3 (qf g23 hr (A4 (qv 3) B3)))) (B8 (D2 M4)) E6)
   (B5 (L5 4 (sws 4 sc.nd) (qf g11 hr (A4 (qv 1) B3)))
   (B5 (E7 (E3 (cEq 4 λ_=>hr) (qv 2) (QE.r D7) (D6 _)) (B8 (D2 (j8 (L3 (cIn 4 λ_=>hr) (qv 3) (QE.r (qv 4)) rfl) (Z7 (L3 (j7 4 λ_=>hr) (qv 3) (QE.r (qv 0)) rfl))))) E6)
   (B8 (D2 (L3 cGt (KL (qv 4) (qv 3)) (QE.r B9) (D6 _)))))))
theorem UK (F0:Fn0 K mg "is_touch" (top 5))(g23:Gx P w K mg base Pt)(m5:mg "isinstance"=none)(m6:mg "len"=none)(m11:mg "str"=none)(m12:mg "tuple"=none):NK P w K mg base Pt:=fnk F0 λsc _ _ _ _ _ _ _ hr=>(B5 (E7 (QW.qt (U6 (Q5 (N3 (Dy (n:="tuple") (by decide) (λ_=>rfl) (λ_=>m5) (qv 0) (λ_=>tyw rfl m12 Hm)))) (W8 (E3 (cNe 4 λ_=>hr) (P1 (λ_=>rfl) (λ_=>m6) (QE.r (qv 0))) (QE.r B9) (D6 _))))) (B8 (D2 M4)) E6)
   (B5 (Fs (λ_=>u8) (qv 0) (u6 (λ_=>rfl) (O0 (gn 1 sc.nd) (O0 (gn 2 sc.nd) (O0 (gn 3 sc.nd) k5)))))
   (B5 (E7 (QW.qt (U6 (Q5 (N3 (Dy (n:="str") (by decide) (λ_=>rfl) (λ_=>m5) (qv 1) (λ_=>tyw rfl m11 Hl)))) (W8 (E3 (cNe 4 λ_=>hr) (qv 1) (QE.r D7) (D6 _))))) (B8 (D2 M4)) E6)
   (B8 (D2 (j8 (qf g23 hr (A4 (qv 2) B3)) (j8 (qf g23 hr (A4 (qv 3) B3)) (Z7 (L3 (cNe 4 λ_=>hr) (qv 2) (QE.r (qv 3)) (D6 _))))))))))
theorem UL (F0:Fn0 K mg "is_known" (top 22))(g25:NK P w K mg base Pt):Gy P w K mg base Pt:=fnk F0 λsc _ _ _ _ _ _ _ hr=>(B5 (E7 (QW.qt (U6 (Q5 (N3 (qf g25 hr (A4 (qv 2) B3)))) (W8 (E3 (j7 4 λ_=>hr) (qv 2) (QE.r (qv 1)) rfl)))) (B8 (D2 M4)) E6)
   (B8 (D2 (j8 (L3 (cIn 4 λ_=>hr) (G6 (qv 2) B9) (QE.r (qv 0)) rfl) (Z7 (L3 (cIn 4 λ_=>hr) (G6 (qv 2) B9) (QE.r (qv 0)) rfl))))))
theorem UM (F0:Fn0 K mg "shows_touch" (top 23))(g26:Gy P w K mg base Pt)(g13:Gv P w K mg base Pt)(g15:Gw P w K mg base Pt):NL P w K mg base Pt:=fnk F0 λsc _ _ _ _ _ _ _ hr=>(B5 (E7 (Q5 (N3 (qf g26 hr (A4 (qv 0) (A4 (qv 2) (A4 (qv 4) B3)))))) (B8 (D2 M4)) E6)
   (B5 (E7 (E3 (cEq 4 λ_=>hr) (qv 3) (QE.r D7) (D6 _)) (B8 (D2 (qf g13 hr (A4 (qv 0) (A4 (qv 4) B3))))) E6)
   (B8 (D2 (qf g15 hr (A4 (qv 0) (A4 (qv 1) (A4 (qv 4) B3))))))))
theorem UN (F0:Fn0 K mg "shows_stays" (top 24))(g23:Gx P w K mg base Pt)(g26:Gy P w K mg base Pt)(g11:CG P w K mg base Pt)(g14:Bq P w K mg base Pt):NM P w K mg base Pt:=fnk F0 λsc _ _ _ _ _ _ _ hr=>(B5 (E7 (QW.qt (U6 (Q5 (N3 (qf g26 hr (A4 (qv 0) (A4 (qv 1) (A4 (qv 2) B3)))))) (W8 (Q5 (N3 (qf g23 hr (A4 (qv 3) B3))))))) (B8 (D2 M4)) E6)
   (B8 (D2 (j8 (L3 (cIn 4 λ_=>hr) (qv 3) (QE.r (qf g14 hr (A4 (qv 0) (A4 (qv 2) B3)))) rfl) (Z7 (L3 (j7 4 λ_=>hr) (qv 3) (QE.r (qf g11 hr (A4 (qv 1) B3))) rfl))))))
theorem UO (F0:Fn0 K mg "shows_cross" (top 25))(g26:Gy P w K mg base Pt)(g17:Jr P w K mg base Pt):NN P w K mg base Pt:=fnk F0 λsc _ _ _ _ _ _ _ hr=>(B5 (E7 (QW.qt (U6 (Q5 (N3 (qf g26 hr (A4 (qv 0) (A4 (qv 1) (A4 (qv 2) B3)))))) (W8 (Q5 (N3 (qf g26 hr (A4 (qv 0) (A4 (qv 1) (A4 (qv 3) B3))))))))) (B8 (D2 M4)) E6)
   (B8 (D2 (qf g17 hr (A4 (qv 0) (A4 (qv 2) (A4 (qv 3) B3)))))))
theorem UP (F0:Fn0 K mg "shows_unsound" (top 26))(g24:NJ P w K mg base Pt)(g27:NL P w K mg base Pt)(g28:NM P w K mg base Pt)(g29:NN P w K mg base Pt)(m5:mg "isinstance"=none)(m6:mg "len"=none)(m11:mg "str"=none)(m12:mg "tuple"=none):NO P w K mg base Pt:=fnk F0 λsc _ _ _ _ _ _ _ hr=>(B5 (E7 (QW.qt (U6 (Q5 (N3 (Dy (n:="tuple") (by decide) (λ_=>rfl) (λ_=>m5) (qv 3) (λ_=>tyw rfl m12 Hm)))) (U6 (E3 (j7 4 λ_=>hr) (P1 (λ_=>rfl) (λ_=>m6) (QE.r (qv 3))) (QE.r (J1 (A4 B9 (A4 B9 B3)))) rfl) (W8 (Q5 (N3 (Dy (n:="str") (by decide) (λ_=>rfl) (λ_=>m5) (G6 (qv 3) B9) (λ_=>tyw rfl m11 Hl)))))))) (B8 (D2 M4)) E6)
   (B5 (Tg 4 5 (λ_=>u8) (λ_=>Tf K rfl sc.nd rfl rfl (Or.inl rfl) (Or.inl rfl)) (qv 3))
   (B5 (E7 (QW.qt (u5 (E3 (cEq 4 λ_=>hr) (P1 (λ_=>rfl) (λ_=>m6) (P7 5 λ_=>vw 5)) (QE.r B9) (D6 _)) (u4 (E3 (cIn 4 λ_=>hr) (qv 4) (QE.r (J1 (A4 D7 (A4 D7 B3)))) rfl)))) (B8 (D2 (qf g24 hr (A4 (qv 0) (A4 (qv 2) (A4 (qv 4) (A4 (Ce (P7 5 λ_=>vw 5) B9) B3))))))) E6)
   (B5 (E7 (QW.qt (u5 (E3 (cEq 4 λ_=>hr) (P1 (λ_=>rfl) (λ_=>m6) (P7 5 λ_=>vw 5)) (QE.r B9) (D6 _)) (u4 (E3 (cIn 4 λ_=>hr) (qv 4) (QE.r (J1 (A4 D7 (A4 D7 B3)))) rfl)))) (B8 (D2 (qf g27 hr (A4 (qv 0) (A4 (qv 1) (A4 (qv 2) (A4 (qv 4) (A4 (Ce (P7 5 λ_=>vw 5) B9) B3)))))))) E6)
   (B5 (E7 (QW.qt (u5 (E3 (cEq 4 λ_=>hr) (P1 (λ_=>rfl) (λ_=>m6) (P7 5 λ_=>vw 5)) (QE.r B9) (D6 _)) (u4 (E3 (cEq 4 λ_=>hr) (qv 4) (QE.r D7) (D6 _))))) (B8 (D2 (qf g28 hr (A4 (qv 0) (A4 (qv 2) (A4 (Ce (P7 5 λ_=>vw 5) B9) (A4 (Ce (P7 5 λ_=>vw 5) B9) B3))))))) E6)
   (B5 (E7 (QW.qt (u5 (E3 (cEq 4 λ_=>hr) (P1 (λ_=>rfl) (λ_=>m6) (P7 5 λ_=>vw 5)) (QE.r B9) (D6 _)) (u4 (E3 (cEq 4 λ_=>hr) (qv 4) (QE.r D7) (D6 _))))) (B8 (D2 (qf g29 hr (A4 (qv 0) (A4 (qv 2) (A4 (Ce (P7 5 λ_=>vw 5) B9) (A4 (Ce (P7 5 λ_=>vw 5) B9) B3))))))) E6)
   (B8 (D2 M4))))))))
theorem UQ (F0:Fn0 K mg "_law_reasons" (top 36)):NP P w K mg base Pt:=fnk F0 λsc _ _ _ _ _ _ _ hr=>(B5 (HD 2 (sws 2 sc.nd) (DC (QE.r (QN.ee (U9 (N:=["_law_boat"]) (cs:=[none]) (λ_=>N9 rfl rfl rfl rfl trivial rfl rfl rfl) (λ_=>rfl) (T6 (qv 1)) (gn 0 (show L6 (["_law_boat"]:List Str) by decide +kernel)) R6 (J1 (A4 D7 (A4 (qv 0) B3)))))) (QE.r (QN.ee (U9 (N:=["_law_boat"]) (cs:=[none]) (λ_=>N9 rfl rfl rfl rfl trivial rfl rfl rfl) (λ_=>rfl) (T6 (qv 1)) (gn 0 (show L6 (["_law_boat"]:List Str) by decide +kernel)) R6 (J1 (A4 D7 (A4 (qv 0) B3))))))))
   (B5 (DJ 3 (DI (N:=["_law_event"]) (cs:=[none]) (λ_=>N9 rfl rfl rfl rfl trivial rfl rfl rfl) (λ_=>rfl) (T6 (qv 0)) (gn 0 (show L6 (["_law_event"]:List Str) by decide +kernel)) (Fo (E3 (cEq 4 λ_=>hr) (G6 (qv 0) B9) (QE.r D7) (D6 _))) (qv 0)) (λ_=>sc.nd) (λ_=>rfl) (λ_=>Or.inl rfl))
   (B5 (Q7 (λ_=>rfl) (V6 (qv 3)) (gn 4 sc.nd) (B5 (X2 (λ_=>X1) (DH 2 (λ_=>vw 2) (QN.ee (DC (QE.r (QN.ee (T5 (A4 (J1 (A4 D7 (A4 (qv 4) B3))) (A4 (J1 (A4 D7 (A4 (qv 4) B3))) B3))))) (QE.r (QN.ee (U9 (N:=["_law_boat","_law_event"]) (cs:=[none,some 4]) (λ_=>N9 rfl rfl rfl rfl ⟨rfl,trivial⟩ rfl rfl rfl) (λ_=>rfl) (T6 (qv 1)) (gn 0 (show L6 (["_law_boat","_law_event"]:List Str) by decide +kernel)) R6 (J1 (A4 D7 (A4 (qv 1) (A4 (qv 0) B3)))))))))))
   (B8 (X2 (λ_=>X1) (DH 2 (λ_=>vw 2) (QN.ee (U9 (N:=["_law_other","_law_event"]) (cs:=[none,some 4]) (λ_=>N9 rfl rfl rfl rfl ⟨rfl,trivial⟩ rfl rfl rfl) (λ_=>rfl) (V6 (qv 3)) (gn 0 (show L6 (["_law_other","_law_event"]:List Str) by decide +kernel)) R6 (J1 (A4 D7 (A4 (qv 1) (A4 (qv 0) B3)))))))))))
   (B8 (PQ 2 λ_=>vw 2)))))
theorem UR (F0:Fn0 K mg "_law_right" (top 37))(g10:NB P w K mg base Pt)(g20:NG P w K mg base Pt)(g22:NI P w K mg base Pt)(g31:NP P w K mg base Pt)(g30:NO P w K mg base Pt)(g9:Jq P w K mg base Pt)(m1:mg "all"=none)(m6:mg "len"=none)(m13:mg "zip"=none):NQ P w K mg base Pt:=fnk F0 λsc _ _ _ _ _ _ _ hr=>(B5 (Bb 4 5 (λ_=>Ba (i:=4) (j:=5) rfl sc.nd rfl rfl (by decide) rfl rfl rfl) (ql_v (qf g10 hr (A4 (qv 2) B3))) (ql_v (qf g20 hr (A4 (qv 0) (A4 (qv 1) (A4 (qv 2) B3))))))
   (B5 (DJ 6 (DI (N:=["_law_order","_law_start","_law_reach"]) (cs:=[none,some 0,some 1]) (λ_=>N9 rfl rfl rfl rfl ⟨rfl,⟨rfl,trivial⟩⟩ rfl rfl rfl) (λ_=>rfl) (V6 (qv 4)) (gn 0 (show L6 (["_law_order","_law_start","_law_reach"]:List Str) by decide +kernel)) R6 (qf g22 hr (A4 (qv 1) (A4 (qv 2) (A4 (qv 0) B3))))) (λ_=>sc.nd) (λ_=>rfl) (λ_=>Or.inl rfl))
   (B5 (DJ 7 (DI (N:=["_law_order","_law_found"]) (cs:=[none,none]) (λ_=>N9 rfl rfl rfl rfl trivial rfl rfl rfl) (λ_=>rfl) (qi_zip true true (λ_=>rfl) (λ_=>m13) (qv 4) (qv 6)) (u6 (λ_=>rfl) (O0 (gn 0 (show L6 (["_law_order","_law_found"]:List Str) by decide +kernel)) (O0 (gn 1 (show L6 (["_law_order","_law_found"]:List Str) by decide +kernel)) k5))) (Fo (E3 (cEq 6 λ_=>hr) (G6 (qv 1) B9) (QE.r D7) (D6 _))) (qv 0)) (λ_=>sc.nd) (λ_=>rfl) (λ_=>Or.inl rfl))
   (B5 (DJ 8 (DI (N:=["_law_thing","_law_start","_law_reach","_law_sheet_here"]) (cs:=[none,some 0,some 1,some 2]) (λ_=>N9 rfl rfl rfl rfl ⟨rfl,⟨rfl,⟨rfl,trivial⟩⟩⟩ rfl rfl rfl) (λ_=>rfl) (V6 (qf g31 hr (A4 (qv 2) (A4 (qv 3) B3)))) (gn 0 (show L6 (["_law_thing","_law_start","_law_reach","_law_sheet_here"]:List Str) by decide +kernel)) R6 (qf g30 hr (A4 (qv 1) (A4 (qv 2) (A4 (qv 3) (A4 (qv 0) B3)))))) (λ_=>sc.nd) (λ_=>rfl) (λ_=>Or.inl rfl))
   (B5 (E7 (E3 (cEq 6 λ_=>hr) (qv 7) (QE.r (QN.ee (T5 B3))) (D6 _)) (B5 (L5 9 (sws 9 sc.nd) (j8 (L3 (cEq 6 λ_=>hr) (G6 (qv 5) B9) (QE.r D7) (D6 _)) (j8 (L3 cIsB (qf g30 hr (A4 (qv 0) (A4 (qv 1) (A4 (qv 2) (A4 (G6 (qv 5) B9) B3))))) (QE.r M4) (D6 _)) (Z7 (L3 (cIn 6 λ_=>hr) M4 (QE.r (qv 8)) rfl)))))
   (B8 (D2 (j8 (qv 9) (Z7 (Dx (λ_=>rfl) (λ_=>rfl) (λ_=>m1) (QE.r (QN.ee (U9 (N:=["_law_found"]) (cs:=[none]) (λ_=>N9 rfl rfl rfl rfl trivial rfl rfl rfl) (λ_=>rfl) (V6 (qv 6)) (gn 0 (show L6 (["_law_found"]:List Str) by decide +kernel)) R6 (L3 (cEq 6 λ_=>hr) (G6 (qv 0) B9) (QE.r D7) (D6 _))))))))))) E6)
   (B5 (E7 (QW.qt (U6 (E3 (cNe 6 λ_=>hr) (G6 (qv 5) B9) (QE.r D7) (D6 _)) (U6 (E3 (j7 6 λ_=>hr) (G6 (qv 5) B9) (QE.r (qv 7)) rfl) (W8 (E3 (cIn 6 λ_=>hr) M4 (QE.r (qv 8)) rfl))))) (B8 (D2 M4)) E6)
   (B5 (L5 10 (sws 10 sc.nd) (qf g9 hr (A4 (qv 0) (A4 (qv 2) B3))))
   (B5 (E7 (Q5 (N3 (Dx (λ_=>rfl) (λ_=>rfl) (λ_=>m1) (QE.r (QN.ee (U9 (N:=["_law_found","_law_row"]) (cs:=[none,some 10]) (λ_=>N9 rfl rfl rfl rfl ⟨rfl,trivial⟩ rfl rfl rfl) (λ_=>rfl) (V6 (qv 6)) (gn 0 (show L6 (["_law_found","_law_row"]:List Str) by decide +kernel)) R6 (Fn (L3 (cEq 6 λ_=>hr) (qv 0) (QE.r (J1 (A4 D7 (A4 (qv 1) B3)))) (D6 _)) (Z7 (L3 (cEq 6 λ_=>hr) (G6 (qv 0) B9) (QE.r D7) (D6 _)))))))))) (B8 (D2 M4)) E6)
   (B5 (Q7 (λ_=>rfl) (T6 (qv 2)) (gn 11 sc.nd) (B8 (E7 (E3 (cNe 6 λ_=>hr) (qf g22 hr (A4 (qv 0) (A4 (qv 1) (A4 (L0 (G6 (qv 7) B9) (J1 (A4 (qv 11) B3))) B3)))) (QE.r (J1 (A4 D7 (A4 (P1 (λ_=>rfl) (λ_=>m6) (QE.r (qv 2))) B3)))) (D6 _)) (B8 (D2 M4)) E6)))
   (B8 (D2 M4)))))))))))
theorem k_law (F0:Fn0 K mg "law" (top 38))(g0:Ul P w K mg base)(g1:Ee P w K mg base Pt)(g3:Nw P w K mg base Pt)(g5:Ny P w K mg base Pt)(g6:Nz P w K mg base Pt)(g32:NQ P w K mg base Pt)(m6:mg "len"=none)(m8:mg "range"=none):Kn P w K mg base "law" 7 ["_law_script"] (FV K Pt):=by
 have sc:U4 ["_law_script","_law_k","_law_pot_here","_law_many","_law_boats_here","_law_reach","_law_start","_law_tour","_law_sheet_here","_law_more"] ["_law_script"] (F7 (top 38)):=⟨rfl,rfl,rfl,by decide +kernel,rfl,by decide +kernel,by decide +kernel⟩
 exact RO (T:=potL) (Pt:=Pt) (lpos:=lamP) (qual:=lamQ) F0 sc (λ_ _ _ _ _ _=>bd1 λ_=>rfl) (k:=6) (body:=Jb) (λ_ _ _ _ _ _ _ hr=>(B5 (Q7 (λ_=>rfl) (AX (λ_=>rfl) (λ_=>m8) (L0 B9 (P1 (λ_=>rfl) (λ_=>m6) (QE.r (V5 (qv 0) W9 (U7 B9)))))) (gn 1 sc.nd) (B5 (S_ 2 (sws 2 sc.nd) (λ_=>g0) (λ_=>hr) (by decide) (λ_=>rfl) (qv 0) (qv 1))
   (B5 (L5 3 (sws 3 sc.nd) (L0 B9 (qf g1 hr (A4 (qv 2) (A4 B9 B3)))))
   (B5 (Bb 4 5 (λ_=>Ba (i:=4) (j:=5) rfl sc.nd rfl rfl (by decide) rfl rfl rfl) (ql_v (qf g3 hr (A4 (qv 2) (A4 (L0 (qv 3) B9) B3)))) (ql_v (qf g1 hr (A4 (qv 2) (A4 B9 B3)))))
   (B5 (L5 6 (sws 6 sc.nd) (V5 (qv 4) W9 (U7 (qv 3))))
   (B8 (Q7 (λ_=>rfl) (AX (λ_=>rfl) (λ_=>m8) B9) (gn 7 sc.nd) (B5 (L5 8 (sws 8 sc.nd) (qf g5 hr (A4 (qv 2) (A4 (qv 6) (A4 (qv 5) B3)))))
   (B5 (Q7 (λ_=>rfl) (AX (λ_=>rfl) (λ_=>m8) (qf g1 hr (A4 (qv 2) (A4 B9 B3)))) (gn 9 sc.nd) (B8 (L5 8 (sws 8 sc.nd) (qf g6 hr (A4 (qv 2) (A4 (qv 6) (A4 (qv 8) (A4 (V5 (qv 4) (U7 (qv 3)) W9) B3))))))))
   (B8 (E7 (Q5 (N3 (qf g32 hr (A4 (qv 6) (A4 (qv 5) (A4 (V5 (qv 8) W9 (U7 B9)) (A4 (qv 4) B3))))))) (B8 (D2 M4)) E6)))))))))))
   (B8 (D2 M4)))) m_law
end
end Tb
open PySem PySem.W PyProof.Rows L2 Tb
set_option hygiene false in
local macro_rules | `(tactic| walk_at "F")=>`(tactic| (dsimp only [KOf];refine' fn0_mk KX G ?a ?l ?c ?k;(case a=>k_is);(case l=>k_is);(case c=>k_is);(case k=>k_is)))
set_option hygiene false in
local macro_rules | `(tactic| walk_at "Z")=>`(tactic| (refine PySem.W.mg_none_of (K:=KOf KX) KX G ?_;dsimp only [KOf];k_is))
abbrev Tb.rwp:=PySem.Challenge.rw_touchboats_k11_whole_any_order.prog
set_option maxRecDepth 100000 in
set_option maxHeartbeats 0 in
theorem PySem.Challenge.cw_touchboats_k11_whole_any_order_holds : PySem.Challenge.rw_touchboats_k11_whole_any_order.Holds := by
 w_on;o_law;k_head;(case hw=>w_witness2)
 k_fill
 refine RN (l:=PySem.Challenge.rw_touchboats_k11_whole_any_order) (x:="_law_script") (k:=7) rfl rfl ⟨rfl,by decide,by decide,rfl⟩ (by decide) ?F
 case F=>
  intro w mg h KX G;have f0:Fn0 (KOf KX) mg "_law_pot" (top 28):=by walk_at "F"
  have f1:Fn0 (KOf KX) mg "_law_draw" (top 29):=by walk_at "F"
  have f2:Fn0 (KOf KX) mg "_law_shuffled" (top 30):=by walk_at "F"
  have f3:Fn0 (KOf KX) mg "_law_boats" (top 31):=by walk_at "F"
  have f4:Fn0 (KOf KX) mg "_law_apart" (top 32):=by walk_at "F"
  have f5:Fn0 (KOf KX) mg "_law_sheet" (top 33):=by walk_at "F"
  have f6:Fn0 (KOf KX) mg "_law_bent" (top 34):=by walk_at "F"
  have f7:Fn0 (KOf KX) mg "touches_of" (top 7):=by walk_at "F"
  have f8:Fn0 (KOf KX) mg "exchanged" (top 3):=by walk_at "F"
  have f9:Fn0 (KOf KX) mg "row_behind" (top 14):=by walk_at "F"
  have f10:Fn0 (KOf KX) mg "_law_orders" (top 35):=by walk_at "F"
  have f11:Fn0 (KOf KX) mg "boats_of" (top 6):=by walk_at "F"
  have f12:Fn0 (KOf KX) mg "boat_reason" (top 15):=by walk_at "F"
  have f13:Fn0 (KOf KX) mg "is_wrong" (top 9):=by walk_at "F"
  have f14:Fn0 (KOf KX) mg "between" (top 8):=by walk_at "F"
  have f15:Fn0 (KOf KX) mg "is_far" (top 10):=by walk_at "F"
  have f16:Fn0 (KOf KX) mg "touch_reason" (top 16):=by walk_at "F"
  have f17:Fn0 (KOf KX) mg "is_cross" (top 11):=by walk_at "F"
  have f18:Fn0 (KOf KX) mg "cross_reason" (top 17):=by walk_at "F"
  have f19:Fn0 (KOf KX) mg "reason_of" (top 18):=by walk_at "F"
  have f21:Fn0 (KOf KX) mg "can_be" (top 12):=by walk_at "F"
  have f22:Fn0 (KOf KX) mg "gone_by" (top 13):=by walk_at "F"
  have f23:Fn0 (KOf KX) mg "is_boat" (top 2):=by walk_at "F"
  have f24:Fn0 (KOf KX) mg "shows_boat" (top 21):=by walk_at "F"
  have f25:Fn0 (KOf KX) mg "is_touch" (top 5):=by walk_at "F"
  have f26:Fn0 (KOf KX) mg "is_known" (top 22):=by walk_at "F"
  have f27:Fn0 (KOf KX) mg "shows_touch" (top 23):=by walk_at "F"
  have f28:Fn0 (KOf KX) mg "shows_stays" (top 24):=by walk_at "F"
  have f29:Fn0 (KOf KX) mg "shows_cross" (top 25):=by walk_at "F"
  have f30:Fn0 (KOf KX) mg "shows_unsound" (top 26):=by walk_at "F"
  have f31:Fn0 (KOf KX) mg "_law_reasons" (top 36):=by walk_at "F"
  have f32:Fn0 (KOf KX) mg "_law_right" (top 37):=by walk_at "F"
  have f33:Fn0 (KOf KX) mg "law" (top 38):=by walk_at "F"
  have m0:mg "abs"=none:=by walk_at "Z"
  have m1:mg "all"=none:=by walk_at "Z"
  have m2:mg "any"=none:=by walk_at "Z"
  have m3:mg "enumerate"=none:=by walk_at "Z"
  have m4:mg "int"=none:=by walk_at "Z"
  have m5:mg "isinstance"=none:=by walk_at "Z"
  have m6:mg "len"=none:=by walk_at "Z"
  have m7:mg "list"=none:=by walk_at "Z"
  have m8:mg "range"=none:=by walk_at "Z"
  have m9:mg "set"=none:=by walk_at "Z"
  have m10:mg "sorted"=none:=by walk_at "Z"
  have m11:mg "str"=none:=by walk_at "Z"
  have m12:mg "tuple"=none:=by walk_at "Z"
  have m13:mg "zip"=none:=by walk_at "Z"
  have c0:Num0 mg "MOST_LETTERS" 8:=by
   refine' Pw (K:=KOf KX) KX G ?a
   (case a=>(dsimp only[KOf];k_is))
  refine⟨top 38,"order_of",top 19,f33,?zc,?zp,λ_ _ _ _ _ _ s u=>.of_eq rfl,λcd f20 base kb nb hC hB=>?_⟩
  case zc=>
   refine' ⟨_,RM KX G ?a ?l ?c ?k,?h⟩
   (case a=>k_is);(case l=>k_is);(case c=>k_is);(case k=>k_is);(case h=>kernel_rfl)
  case zp=>kernel_rfl
  have g0:=ok_pot (P:=rwp) (w:=w) (base:=base) f0 m6 m0 m4;have g1:=Uk (Pt:=ptOf hC) (lpos:=lamP) (qual:=lamQ) (P:=rwp) (w:=w) (base:=base) f1;have g2:=Um (Pt:=ptOf hC) (P:=rwp) (w:=w) (base:=base) f2 g1 m6 m7 m12;have g3:=Uo (Pt:=ptOf hC) (P:=rwp) (w:=w) (base:=base) f3 g1 g2 m8;have g4:=Up (Pt:=ptOf hC) (P:=rwp) (w:=w) (base:=base) f4;have g5:=Uq (Pt:=ptOf hC) (P:=rwp) (w:=w) (base:=base) f5 g1 g4 m1 m2 m3 m6 m8 m10 m12;have g6:=Ur (Pt:=ptOf hC) (P:=rwp) (w:=w) (base:=base) f6 g1 m6 m7 m9 m10 m12;have g7:=Us (Pt:=ptOf hC) (P:=rwp) (w:=w) (base:=base) f7;have g8:=Ut (Pt:=ptOf hC) (P:=rwp) (w:=w) (base:=base) f8 m7 m12;have g9:=Uu (Pt:=ptOf hC) (P:=rwp) (w:=w) (base:=base) f9 g7 g8;have g10:=Uv (Pt:=ptOf hC) (P:=rwp) (w:=w) (base:=base) f10 m6 m8;have g11:=Uw (Pt:=ptOf hC) (P:=rwp) (w:=w) (base:=base) f11;have g12:=Ux (Pt:=ptOf hC) (P:=rwp) (w:=w) (base:=base) f12 g11;have g13:=Uy (Pt:=ptOf hC) (P:=rwp) (w:=w) (base:=base) f13;have g14:=Uz (Pt:=ptOf hC) (P:=rwp) (w:=w) (base:=base) f14 m10;have g15:=UA (Pt:=ptOf hC) (P:=rwp) (w:=w) (base:=base) f15 g14 m6;have g16:=UB (Pt:=ptOf hC) (P:=rwp) (w:=w) (base:=base) f16 g13 g15 g11 g14;have g17:=UC (Pt:=ptOf hC) (P:=rwp) (w:=w) (base:=base) f17 g11 g14 m6 m9
  have g18:=UD (Pt:=ptOf hC) (P:=rwp) (w:=w) (base:=base) f18 g17;have g19:=UE (Pt:=ptOf hC) (P:=rwp) (w:=w) (base:=base) f19 g12 g7 g18 g16;have g20:=UF (Pt:=ptOf hC) (P:=rwp) (w:=w) (base:=base) f20 hC hB g19 g7 g14 m6 m10 m12;have g21:=UG (Pt:=ptOf hC) (P:=rwp) (w:=w) (base:=base) f21 g15 g13 g14 m1 m2;have g22:=UH (Pt:=ptOf hC) (P:=rwp) (w:=w) (base:=base) f22 g21 g9 m3;have g23:=UI (Pt:=ptOf hC) (P:=rwp) (w:=w) (base:=base) f23 m1 m5 m6 m11 c0;have g24:=UJ (Pt:=ptOf hC) (P:=rwp) (w:=w) (base:=base) f24 g23 g11;have g25:=UK (Pt:=ptOf hC) (P:=rwp) (w:=w) (base:=base) f25 g23 m5 m6 m11 m12;have g26:=UL (Pt:=ptOf hC) (P:=rwp) (w:=w) (base:=base) f26 g25;have g27:=UM (Pt:=ptOf hC) (P:=rwp) (w:=w) (base:=base) f27 g26 g13 g15;have g28:=UN (Pt:=ptOf hC) (P:=rwp) (w:=w) (base:=base) f28 g23 g26 g11 g14;have g29:=UO (Pt:=ptOf hC) (P:=rwp) (w:=w) (base:=base) f29 g26 g17;have g30:=UP (Pt:=ptOf hC) (P:=rwp) (w:=w) (base:=base) f30 g24 g27 g28 g29 m5 m6 m11 m12;have g31:=UQ (Pt:=ptOf hC) (P:=rwp) (w:=w) (base:=base) f31;have g32:=UR (Pt:=ptOf hC) (P:=rwp) (w:=w) (base:=base) f32 g10 g20 g22 g31 g30 g9 m1 m6 m13;exact k_law (Pt:=ptOf hC) (P:=rwp) (w:=w) (base:=base) f33 g0 g1 g3 g5 g6 g32 m6 m8
end
