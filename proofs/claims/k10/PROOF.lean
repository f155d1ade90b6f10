import PyProof.Rows.All
import Wide.All
import OpenK.AllK
import Wide.FinOn
import PyProof.EqAt
import PyProof.EqKinds
import PyProof.TupleCall
import PyProof.NeKinds
import PyProof.EnumMake
import PyProof.ConsumeWalk
import KE.LcSums
import PyProof.ReprLen
import PyProof.StrLawsRepr
import PyProof.Rows.StrNews2
import PyProof.Rows.SetFrom
import PyProof.WalksMore
import PyProof.StrLawsChain
import PyProof.StrLawsTight
import PyProof.StrLawsIdx
import PyProof.ZipIter
import PyProof.Draws
import PyProof.Rows.FactsT2
import PyProof.ListStr
import PyProof.Rows.StrPartPair
import KE.KSortTup
import KE.KDictSum
import KE.KRevIter
import KE.KSortKey
import KE.KLam
import KE.KNestM
import PyProof.DictItems
import KE.KPairComp
import PyProof.AutoSeq1
import PyProof.SetNew
import PyProof.AttrMissHeap
import KE.KDictOf
import PyProof.CollectIter
import PyProof.IsRules
import Lean
import PySem.Challenge.RW_touchboats_k10_reasons_of_anything
set_option Elab.async false
set_option linter.all false
set_option maxRecDepth 100000
set_option maxHeartbeats 4000000
namespace PySem.W.Fast
def tw9081312018407731657:=0
def tw1274380954312159312:=0
def tw14980243935481220580:=0
def tw6267632108406287055:=0
def tw2278416844986935656:=0
def tw10594871761540191003:=0
def tw12338692358931615631:=0
def tw6707984016443753861:=0
def tw10619121515849937632:=0
def tw1806211670714442309:=0
def tw16096410050758180899:=0
def tw4731190905164786010:=0
def tw17181386744463837593:=0
def tw878346223153049522:=0
def tw13323913617964304491:=0
def tw777252402125071145:=0
def tw15754249557374084222:=0
def tw10908497508839961191:=0
def tw15446096680299887148:=0
def tw10371678271869161805:=0
def tw2646172604053407828:=0
def tw9567053680132291551:=0
def tw13717055151238734073:=0
def tw15257131486986171386:=0
def tw15562748916102592806:=0
def tw15219174638588640662:=0
def tw14308713896107203961:=0
def tw13465648957345342023:=0
def tw4927774721923680002:=0
def tw7078421763934971973:=0
def tw6495119308683134332:=0
def tw9363711982599558181:=0
def tw3705955951275694041:=0
end PySem.W.Fast
open PySem renaming wpAny_bind->A3,wpAny_pure->B0,Value->A1,Shared->A5,wpAny->A6,Addr->A0,sizeLine->C4,model->A9,wpAny_holding->J7,wpAny_newObj_type->N5,Program->D1,sizeLine_eq->K5,wpAny_call_entry->P8,bootBuiltins->M4,wpAny_mono->K3,starEach->E9,wpAny_callSpecial?_slot->Y6,assignEach->K6,foldedSetIterable->R0,Around->D5,wpAny_truthy_bool->U5,wpAny_setState_of->U6,mem_of_lookup->d9,sysModules->N6,World->C8,compareOp->M5,wpAny_standAt->U7,codeAny_builtin->Y7,mainGlobals->R1,letOwnedTupleGo->k5,Heap->B7,plainId_quiet->e6,SetTable->O3,wpAny_field->V8,isSubtype_type->k6,wpAny_setField->k7,wpAny_passesOwn->w9,codeAny->N0,keywordEach->Y8,wpAny_getItem_str_slice->Dy,wpAny_setEntries_of->Ca,wpAny_pyIter_tuple->Cb,wpAny_typeOf->k8,Builtin->O4,wpAny_specialOf->AG,assignInOrder->x4,wpAny_pyIter_list->Cc,binaryOp->R3,behindInMarks->x5,attributeBase->x6,Scope->G5,wpAny_seqItems->AH,wpAny_isInstance->Cd,wpAny_rule->e7,codeAny_mono->x8,swapsWithSole->AI,swappedStores->AJ,wpAny_Call_Name_kw->Dz,Keyword->Q4,wpAny_attempt->AK,holding->R5,wpAny_assign_Name->DA,sliceBounds->x9,wpAny_bindName->Ce,bindArgs->V9,wpAny_askSetting->DB,wpAny_forIn_list->DC,bindName->Y9,backToKw->Z0,wpAny_newList->Cf,wpAny_execs_nil->DE,swapsWith->k9,post_val_or_str->DF,wpAny_of_eq->AL,wpAny_ite_split->DG,standAt->Z1
open PySem.W renaming Frag->A8,kia_one->W0,fnOf->U8,kas_place->T5,kas_rev->O5,kas_sort->P9,kas_asc->R6,kitOne->Cg,keepIn->Ch,kas_desc->Z2,codeIn->DH,methodObj->FM
open List renaming mem_cons_of_mem->C2,getElem?_eq_getElem->D3,mem_cons_self->C3,length_map->B8,getElem?_eq_some_iff->F7,mem_singleton->E2,length_append->E3,mem_cons->C6,all_eq_true->E4,size_toArray->F4,mem_of_getElem?->J5,getElem?_map->G6,map_cons->F2,getElem?_set_self->N9,mem_append->J8,mem_append_right->O6,length_singleton->O7,range->E5,mem_map->G0,length_cons->L8,mem_range->L4,getElem?_set_ne->Q1,getElem?_append_right->W3,getElem?_append_left->W4,pairwise_iff_getElem->W5,length_take->P4,mem_filter->O8,length_set->O9,getElem?_eq_none->W6,append_assoc->T6,length_replicate->Z3,map_append->Q5,any_eq_true->U9,eq_nil_of_length_eq_zero->AM,nodup_cons->V0,length_drop->W7,getD_eq_getElem?_getD->AN,mem_of_mem_take->l5,append_nil->W8,drop_eq_getElem_cons->AO,pairwise_map->e9,getElem?_cons_succ->AQ,zip_cons_cons->l6,not_mem_nil->h9,take_of_length_le->AR,filterMap_cons->y0,getElem_of_mem->y4,map_map->V1,Nodup->Q6,mem_flatMap->l7,mem_append_left->AS,mem_of_mem_drop->AT,drop_of_length_le->Ci,getElem_mem->y7,mem_iff_getElem?->Cj,length_range->AU,getElem?_replicate->DI,getElem?_cons_zero->DJ,replicate->y8,length_eraseIdx_of_lt->FN,drop_length->Ck,take_length->Cm,toList_toArray->DK,eq_of_mem_replicate->FO,getElem?_drop->DL,reverse_cons->DM,drop_zero->Cn,any_map->AV,of_mem_zip->DN,length_reverse->FP
open PySem.Heap renaming get?_push_of_some->D0,lt_size->C5,get?_push_size->G4,SameBut->T7,get?_update_other->AX,get?_update_self->AY,size_push->AZ,ExtBut->Co
open PySem.Str renaming ofString->A7
open Nat renaming le_refl->B9,ne_of_lt->D7,lt_of_lt_of_le->K7,zero_le->J9,le_trans->N1,lt_succ_of_lt->i3,zero_add->T8,lt_trichotomy->l8,lt_irrefl->Z4,le_of_lt->W9,lt_of_le_of_lt->A_,sub_succ_lt_self->Cp,le_of_not_lt->Ba,le_of_lt_succ->Cq,ne_of_gt->y9,le_succ->z9,lt_trans->Bb,min_self->Bc,sub_self->Bd,not_lt_zero->DO,min_eq_left->DP,le_of_eq->Cr
open Bool renaming false_eq_true->J3,false_ne_true->T9,and_eq_true->R7,eq_iff_iff->i5,beq_eq_decide_eq->Cs,or_false->Aa,not_true->Ab,not_eq_true'->Cu,false_and->Be,or_eq_true->Cv,and_true->Bf
open Array renaming length_toList->M6,getElem?_toList->P5,getElem?_eq_getElem->X0,getD_eq_getD_getElem?->Ac,getElem?_eq_none->DQ,perm_iff_toList_perm->FQ,getElem?_eq_some_iff->FR,forIn_toList->DR,replicate->DS
open Option.some renaming inj->M7
open PySem.Obj renaming mapSeq->F8,data_mapFields->DT
open PySem.Heap.SameBut renaming update->Q2
open PySem.Builtin.Slice renaming slicePlaces->l9,sliceAdjust->Cw,sliceApplied->DU,sliceFields->IC
open PySem.Value renaming type->L5,ref->L9,none->X1,str->Bg
open PyProof.Rows renaming slot_tuple_getitem->Bh,assignInOrder_cons->n6,callWith_type1->FS,get?_update_seq->Bi,listUpdate_at->Ad,envOfC->DV,assignInOrder_nil->DW
open PySem.Builtin.Tuple renaming tupleExact->o5,tupleItemsOf->FT
open PySem.Around renaming under_plainId->i6
open PyProof.Rows.F renaming plain_set_update_loop->Ae,entry_set_update_loop->DX
open PySem.Builtin.SmallTypes renaming nextOf->Bj
open Classical renaming byContradiction->Bk
open PySem.Builtin.Str renaming occurrences->Bm
open Int renaming eq_ofNat_of_zero_le->Cy,emod_lt_of_pos->Bn,emod_nonneg->Bp,toNat_natCast->DY
open ForInStep renaming yield->o6
open Array.Perm renaming refl->o7
open PySem.Builtin.List renaming listExtendWith->DZ,listSameRef->D_,listLengthHint->FU,listTooLong->FV
open PySem.F renaming slot_tuple_iterator_next->Ea,plainAttrs_list->Eb,args_tuple_add_2->FW,entry_tuple_add->FX,slot_tuple_add->FY
open Option renaming isSome_iff_exists->Ec,getD_some->Cz
open PySem.AutoSeq1 renaming wpAny_loadPart'->Ed
open Sum renaming inl->N7,inr->X2
open PySem.SeqAt renaming EqAt->X3,RcNeAt->Bq,RcAt->Af
open False renaming elim->Z5
open PySem.SetTable renaming grown->CA
open True renaming intro->Ag
open PySem.Walks renaming tuple->Br
open PySem.Heap.IsSliceOf renaming new->FZ
open List.Perm renaming swap->Ee
open List.Pairwise renaming nil->F_
open PySem.Data renaming fields->CB
open PySem.Txt renaming mul->i7
theorem jp{p:Prop}[Decidable p](h:p):decide p=true:=decide_eq_true h
theorem jq{p:Prop}[Decidable p](h:¬p):decide p=false:=decide_eq_false h
theorem jr{c:Prop}{h:Decidable c}(i:c){α:Type}{t e:α}:ite c t e=t:=if_pos i
theorem jt{c:Prop}{h:Decidable c}(i:¬c){α:Type}{t e:α}:ite c t e=e:=if_neg i
theorem ju{p:Prop}[Decidable p](h:decide p=true):p:=of_decide_eq_true h
local macro_rules|`(tactic|omega)=>`(tactic|lia)
section
namespace L2
open PySem PySem.Spec PyProof.Rows
abbrev Key:=Sum Int Str
def Bs:Key->A1->Bool
 |.inl k,v=>Value.isInt k v
 |.inr x,v=>Value.isStrOf x v
def keyH (w:C8):Key->Int
 |.inl k=>hashInt k
 |.inr x=>hashStr w x
theorem Z6:∀{k:Key} {v:A1},Bs k v=true->(∃i t,k=N7 i/\v=Value.int i t)\/(∃x t,k=X2 x/\v=Bg x t)
 | .inl i, v, h => by
  obtain⟨t,e⟩:=Value.isInt_shape (k:=i) (v:=v) h;exact .inl ⟨i,t,rfl,e⟩
 | .inr x, v, h => by
  obtain⟨t,e⟩:=Value.isStrOf_shape (x:=x) (v:=v) h;exact .inr ⟨x,t,rfl,e⟩
theorem MD (i:Int)(t:Tok):Bs (.inl i) (.int i t)=true:=by simp[Bs,Value.isInt]
theorem ME (x:Str)(t:Tok):Bs (.inr x) (.str x t)=true:=by simp[Bs,Value.isStrOf]
theorem key_ll (a b:Int):decide ((N7 a:Key)=N7 b)=(a == b):=by grind
theorem key_rr (a b:Str):decide ((X2 a:Key)=X2 b)=decide (a=b):=by simp
theorem key_lr (a:Int)(b:Str):decide ((N7 a:Key)=X2 b)=false:=rfl
theorem key_rl (a:Str)(b:Int):decide ((X2 a:Key)=N7 b)=false:=rfl
def K8 (prog:D1)(w:C8):PySem.KeyKind prog w Key where
 is:=Bs
 hash:=keyH w
 inj:=fun v a b ha hb=>by
  rcases Z6 ha with⟨i,t,rfl,rfl⟩|⟨x,t,rfl,rfl⟩
  ·rcases Z6 hb with⟨j,u,rfl,e⟩|⟨y,u,rfl,e⟩
   ·injection e with e1 _;rw[e1]
   ·exact nomatch e
  ·rcases Z6 hb with⟨j,u,rfl,e⟩|⟨y,u,rfl,e⟩
   ·exact nomatch e
   ·injection e with e1 _;rw[e1]
 byValue:=λk v h=>by
  rcases Z6 h with⟨i,t,rfl,rfl⟩|⟨x,t,rfl,rfl⟩ <;> rfl
 pyHash:=λhv h=>by
  rcases Z6 hv with⟨i,t,rfl,rfl⟩|⟨x,t,rfl,rfl⟩
  ·exact wpAny_pyHash_int h
  ·exact wpAny_pyHash_str h
 eqBool:=λhu hv h=>by
  rcases Z6 hu with⟨i,t,rfl,rfl⟩|⟨x,t,rfl,rfl⟩
  ·rcases Z6 hv with⟨j,u,rfl,rfl⟩|⟨y,u,rfl,rfl⟩
   ·rw[key_ll] at h;exact wpAny_eqBool_int h
   ·rw[key_lr] at h;exact SeqAt.EqAt.int_str i t y u _ _ _ _ h
  ·rcases Z6 hv with⟨j,u,rfl,rfl⟩|⟨y,u,rfl,rfl⟩
   ·rw[key_rl] at h;exact SeqAt.EqAt.str_int x t j u _ _ _ _ h
   ·rw[key_rr] at h;exact wpAny_eqBool_str h
 «strs»:=λk x t v h=>by
  rcases Z6 h with⟨i,u,rfl,e⟩|⟨y,u,rfl,e⟩
  ·exact nomatch e
  ·injection e with e1 _;subst e1;cases v <;> rfl
theorem ID (prog:D1)(w:C8)(i:Int)(t:Tok):(K8 prog w).is (.inl i) (.int i t)=true:=MD i t
theorem Ef (prog:D1)(w:C8)(x:Str)(t:Tok):(K8 prog w).is (.inr x) (.str x t)=true:=ME x t
inductive V where
 |non|bl (b:Bool)|int (i:Int)|str (x:Str)|byt (b:Array UInt8)|flt (b:UInt64)|ref (a:A0)|ty (n:String)
 deriving DecidableEq
def RelV:V->A1->Prop
 |.non,u=>u=X1
 |.bl b,u=>u=Value.bool b
 |.int i,u=>∃t,u=Value.int i t
 |.str x,u=>∃t,u=Bg x t
 |.byt b,u=>∃t,u=Value.bytes b t
 |.flt b,u=>∃t,u=Value.float b t
 |.ref a,u=>u=L9 a
 |.ty n,u=>u=L5 n
abbrev Vals:List V->List A1->Prop:=Paired RelV
theorem Vals.length (r:Vals xs us):xs.length=us.length:=Paired.length r
theorem Vals.get:∀{xs:List V} {us:List A1} {i:Nat} {x:V},Vals xs us->xs[i]?=some x->∃u,us[i]?=some u/\RelV x u
 |_,_,_,_,.nil,e=>by simp at e
 |_,_,0,_,.cons r _,e=>by simp at e;subst e;exact⟨_,rfl,r⟩
 | _, _, i + 1, x, .cons _ t, e => by
  obtain⟨u,h1,h2⟩:=Vals.get (i:=i) (x:=x) t (by grind);exact⟨u,by simpa using h1,h2⟩
theorem Vals.set (r:RelV x u):∀{xs:List V} {us:List A1} (i:Nat),Vals xs us->Vals (xs.set i x) (us.set i u)
 |_,_,_,.nil=>.nil
 |_,_,0,.cons _ t=>.cons r t
 |_,_,i+1,.cons q t=>.cons q (Vals.set r i t)
theorem Vals.append (h:Vals xs us)(s:Vals ys ws):Vals (xs++ys) (us++ws):=by
 induction h with
 |nil=>exact s
 |cons r _ ih=>exact .cons r ih
theorem Vals.take:∀{xs:List V} {us:List A1} (n:Nat),Vals xs us->Vals (xs.take n) (us.take n)
 |_,_,0,_=>.nil
 |_,_,_+1,.nil=>.nil
 |_,_,n+1,.cons r t=>.cons r (Vals.take n t)
theorem Vals.drop:∀{xs:List V} {us:List A1} (n:Nat),Vals xs us->Vals (xs.drop n) (us.drop n)
 |_,_,0,r=>r
 |_,_,_+1,.nil=>.nil
 |_,_,n+1,.cons _ t=>Vals.drop n t
def RelO:Option V->Option A1->Prop
 |some v,some u=>RelV v u
 |none,none=>True
 |_,_=>False
def KV {κ:Type}:List (κ×V)->List (κ×A1)->Prop:=Paired λ(p:κ×V) (q:κ×A1)=>p.1=q.1/\RelV p.2 q.2
def kV:Key->V
 |.inl i=>.int i
 |.inr x=>.str x
inductive HO where
 /-- a list -/
 |lst (xs:List V)
 /-- a tuple (never changes) -/
 |tup (xs:List V)
 /-- a dict whose keys are ints and O0; one whose keys are tuples of ints and O0 (the empty one is both) -/
 |dK (jg:List (Key×V))|dT (jg:List (List Key×V))
 /-- a set of ints: jf members, jf size -/
 |set (S:Key->Bool) (n:Nat)
 /-- an instance of the class at C, jf dict at dx, jf attributes -/
 |ins (C dx:A0) (fs:List (Str×V))
 /-- the dict of the instance at x -/
 |own (x:A0)
 /-- the dict of an exception -/
 |xd (fs:List (Str×V))
 /-- a bound method, f of x -/
 |met (f x:A0)
 /-- a range object lo, lo + 1, .. below hi -/
 |rng (lo hi:Int)
 /-- a thing that is known to the object (the script; a dict while a loop walks it): read, never written while it is so -/
 |frz (o:Obj) (u:HO)
 /-- a code object's table -/
 |tbl (ps:Array A1)
 /-- any ja thing, by what is true of jf one object (a def of one's own: SetO a S n := HO.ext fun h => ..) -/
 |ext (φ:B7->Prop)
abbrev Hp:=A0->Option HO
def upd (H:Hp)(a:A0)(o:HO):Hp:=λb=>if b=a then some o else H b
theorem E7:upd H a o a=some o:=by unfold upd;rw[jr rfl]
theorem C0 (h:b≠a):upd H a o b=H b:=by unfold upd;rw[jt h]
theorem X4 {H:Hp}(h:H a=some o)(h':H b=none):a≠b:=by
 intro e;subst e;rw[h] at h';cases h'
def X5 (h:B7)(a:A0)(items:Array A1):Prop:=∃o,h.get? a=some o/\(o.cls,o.dict)=(L5 "tuple",none)/\∃n,o.data=.seq items n
theorem X5.is (x:X5 h a items):IsTup h a items:=let ⟨o,e,c,r⟩:=x;⟨o,e,(Prod.mk.inj c).1,r⟩
theorem X5.lt (x:X5 h a items):a<h.objs.size:=let ⟨_,e,_⟩:=x;C5 e
theorem X5.new (h:B7)(items:Array A1):X5 (h.push { cls:=.type "tuple",data:=.seq items }) h.objs.size items:=⟨_,G4 _ rfl,rfl,_,rfl⟩
section
variable (P:D1)(w:C8)
def G7 (H:Hp)(h:B7)(a:A0):HO->Prop
 |.lst xs=>xs.length<=C4/\∃(jf:List A1) (n:Nat),Vals xs jf/\h.get? a=some { cls:=.type "list",data:=.seq jf.toArray n }
 |.tup xs=>xs.length<=C4/\∃jf:List A1,Vals xs jf/\X5 h a jf.toArray
 |.dK jg=>jg.length<=C4/\(a == N6)=false/\∃vs,KV jg vs/\h.DictOf (K8 P w) a vs
 |.dT jg=>jg.length<=C4/\(a == N6)=false/\∃xs:List (List Key×A0×A1),
     Paired (λ(p:List Key×V) (q:List Key×A0×A1)=>p.1=q.1/\H q.2.1=some (.tup (p.1.map kV))/\RelV p.2 q.2.2) jg xs/\
     ∃o es ep,h.get? a=some o/\o.ExactDict/\o.data=.dict es ep/\es.toList=xs.map (entryOfKey (tupleKind (K8 P w)))/\(xs.map (·.1)).Nodup
 |.set S n=>h.SetOf (K8 P w) a S n
 |.ins C dx fs=>H dx=some (.own a)/\fs.length<=1000/\dx≠a/\h.get? a=some (PySem.W.instObj C dx)/\
     ∃mA,h.Ns1 dx mA/\(∀f,RelO (fs.lookup f) (mA f))/\PySem.Within mA (fs.map (·.1))
 |.own _=>∃o,h.get? a=some o
 |.xd fs=>∃mA,h.Ns1 a mA/\∀f,RelO (fs.lookup f) (mA f)
 |.rng lo hi=>∃t u v,h.get? a=some { cls:=.type "range",data:=.fields #[.int lo t,.int hi u,.int 1 v] }
 |.frz o u=>h.get? a=some o/\G7 H h a u
 |.tbl ps=>h.get? a=some { cls:=.none,data:=.fields ps }
 |.met f x=>h.get? a=some (FM (.ref f) (.ref x))
 |.ext φ=>φ h/\(∃o,h.get? a=some o)/\∀h1 h2:B7,φ h1->(∀o,h1.get? a=some o->h2.get? a=some o)->φ h2
def HOk (H:Hp)(h:B7):Prop:=∀a o,H a=some o->G7 P w H h a o
end
section
variable {P:D1}{w:C8}{H H':Hp}{h h':B7}{a:A0}{o:HO}
theorem G7.lt (x:G7 P w H h a o):a<h.objs.size:=by
 cases o with
 |lst xs=>obtain⟨_,_,_,_,e⟩:=x;exact C5 e
 |tup xs=>obtain⟨_,_,_,p⟩:=x;exact p.lt
 |dK jg=>obtain⟨_,_,_,_,o,_,_,e,_⟩:=x;exact C5 e
 |dT jg=>obtain⟨_,_,_,_,o,_,_,e,_⟩:=x;exact C5 e
 |set S n=>obtain⟨o,_,_,_,e,_⟩:=x;exact C5 e
 |ins C dx fs=>obtain⟨_,_,_,e,_⟩:=x;exact C5 e
 |own y=>obtain⟨_,e⟩:=x;exact C5 e
 |xd fs=>obtain⟨_,⟨_,_,_,e,_⟩,_⟩:=x;exact C5 e
 |rng lo hi=>obtain⟨_,_,_,e⟩:=x;exact C5 e
 |frz ob u=>obtain⟨e,_⟩:=x;exact C5 e
 |tbl ps=>exact C5 (show h.get? a=some _ from x)
 |met f y=>exact C5 (show h.get? a=some _ from x)
 |ext φ=>obtain⟨_,⟨_,e⟩,_⟩:=x;exact C5 e
theorem Paired.mapP {α β:Type}{F G:α->β->Prop}{l₁:List α}{l₂:List β}(h:Paired F l₁ l₂)(f:∀a b,F a b->G a b):Paired G l₁ l₂:=by
 induction h with
 |nil=>exact .nil
 |cons r _ ih=>exact .cons (f _ _ r) ih
theorem Paired.imp' {α β:Type}{F G:α->β->Prop}(f:∀a b,F a b->G a b){l₁:List α}{l₂:List β}(r:Paired F l₁ l₂):Paired G l₁ l₂:=Paired.mapP r f
theorem G7.stay (x:G7 P w H h a o)(k:∀b u,(b=a\/H b=some (.own a))->h.get? b=some u->h'.get? b=some u)
   (ho:∀b,H b=some (.own a)->H' b=some (.own a)) (ht:∀b xs,H b=some (.tup xs)->H' b=some (.tup xs)):G7 P w H' h' a o:=by
 induction o with
 |lst xs=>obtain⟨z,jf,n,r,e⟩:=x;exact⟨z,jf,n,r,k _ _ (.inl rfl) e⟩
 |tup xs=>obtain⟨z,jf,r,ob,e,c⟩:=x;exact⟨z,jf,r,ob,k _ _ (.inl rfl) e,c⟩
 |dK jg=>obtain⟨z,y,vs,r,ob,es,ep,e,c⟩:=x;exact⟨z,y,vs,r,ob,es,ep,k _ _ (.inl rfl) e,c⟩
 | dT jg =>
  obtain⟨z,y,xs,r,ob,es,ep,e,c⟩:=x;exact⟨z,y,xs,Paired.mapP r λp q z=>⟨z.1,ht _ _ z.2.1,z.2.2⟩,ob,es,ep,k _ _ (.inl rfl) e,c⟩
 |set S n=>obtain⟨ob,es,ep,t,e,c⟩:=x;exact⟨ob,es,ep,t,k _ _ (.inl rfl) e,c⟩
 | ins C dx fs =>
  obtain⟨d,z,ne,e,mA,⟨od,es,ep,e2,c⟩,r⟩:=x;exact⟨ho _ d,z,ne,k _ _ (.inl rfl) e,mA,⟨od,es,ep,k _ _ (.inr d) e2,c⟩,r⟩
 |own y=>obtain⟨ob,e⟩:=x;exact⟨ob,k _ _ (.inl rfl) e⟩
 |xd fs=>obtain⟨mA,⟨od,es,ep,e,c⟩,r⟩:=x;exact⟨mA,⟨od,es,ep,k _ _ (.inl rfl) e,c⟩,r⟩
 |rng lo hi=>obtain⟨t,u,v,e⟩:=x;exact⟨t,u,v,k _ _ (.inl rfl) e⟩
 |frz ob u ih=>obtain⟨e,q⟩:=x;exact⟨k _ _ (.inl rfl) e,ih q⟩
 | tbl ps =>
  have e:h.get? a=some { cls:=.none,data:=.fields ps }:=x;show h'.get? a=some { cls:=.none,data:=.fields ps };exact k a _ (.inl rfl) e
 | met f y =>
  have e:h.get? a=some (FM (.ref f) (.ref y)):=x;show h'.get? a=some (FM (.ref f) (.ref y));exact k a _ (.inl rfl) e
 |ext φ=>obtain⟨p,⟨o,e⟩,st⟩:=x;exact⟨st _ _ p λo q=>k _ _ (.inl rfl) q,⟨o,k _ _ (.inl rfl) e⟩,st⟩
theorem HOk.lt (x:HOk P w H h)(e:H a=some o):a<h.objs.size:=(x a o e).lt
theorem HOk.fresh (x:HOk P w H h)(e:h.objs.size<=a):H a=none:=by
 cases q:H a with
 |none=>rfl
 |some u=>exact absurd (K7 (x.lt q) e) (Z4 _)
theorem HOk.kept (x:HOk P w H h)(k:∀b u,h.get? b=some u->h'.get? b=some u):HOk P w H h':=λa o e=>
 (x a o e).stay (λb u _ q=>k b u q) (λ_ q=>q) λ_ _ q=>q
theorem HOk.laid (x:HOk P w H h)(k:∀b u,h.get? b=some u->h'.get? b=some u)(hp:h.objs.size<=a)(new:G7 P w (upd H a o) h' a o):HOk P w (upd H a o) h':=λb u e=>by
 have hn:=x.fresh hp
 by_cases hb:b=a
 ·subst hb;rw[E7] at e;cases e;exact new
 ·rw[C0 hb] at e;exact(x b u e).stay (λc v _ q=>k c v q) (λc q=>by rw[C0 (X4 q hn)];exact q) λc xs q=>by rw[C0 (X4 q hn)];exact q
end
def Rd (H:Hp)(a:A0)(u:HO):Prop:=H a=some u\/∃o,H a=some (.frz o u)
theorem Rd.ok (r:Rd H a u)(x:HOk P w H h):G7 P w H h a u:=by
 rcases r with r|⟨o,r⟩
 ·exact x a u r
 ·obtain⟨_,q⟩:=x a _ r;exact q
def Mut:Option HO->Prop
 |some (.lst _)=>True
 |some (.dK _)=>True
 |some (.dT _)=>True
 |some (.set _ _)=>True
 |some (.ins _ _ _)=>True
 |some (.ext _)=>True
 |_=>False
section
variable {P:D1}{w:C8}{H:Hp}{h h':B7}{x e:A0}{o':HO}
theorem HOk.write (ok:HOk P w H h)(mu:Mut (H x))(he:e=x\/H e=some (.own x))(k:∀b u,b≠e->h.get? b=some u->h'.get? b=some u)(heo:∃u,h'.get? e=some u)
   (new:G7 P w (upd H x o') h' x o'):HOk P w (upd H x o') h':=λb u q=>by
 have nown:∀c y,H c=some (.own y)->c≠x:=λc y r z=>by subst z;rw[r] at mu;exact mu
 have ntup:∀c xs,H c=some (.tup xs)->c≠x:=λc xs r z=>by subst z;rw[r] at mu;exact mu
 by_cases hb:b=x
 ·subst hb;rw[E7] at q;cases q;exact new
 ·rw[C0 hb] at q
  by_cases hbe:b=e
  ·have q':H b=some (.own x):=by
    rcases he with z|z
    ·exact absurd (hbe.trans z) hb
    ·rw[hbe];exact z
   rw[q] at q';cases q';obtain⟨v,hv⟩:=heo;exact⟨v,by rw[hbe];exact hv⟩
  ·refine(ok b u q).stay (λc v hc r=>k c v ?_ r) (λc r=>by rw[C0 (nown c b r)];exact r) λc xs r=>by rw[C0 (ntup c xs r)];exact r
   rcases hc with rfl|hc
   ·exact hbe
   ·rintro rfl;rcases he with z|z
    ·exact nown c b hc z
    ·rw[hc] at z;cases z;exact hb rfl
end
def NS (H:Hp):Prop:=H N6=none\/∃o u,H N6=some (.frz o u)
structure Un (fs ex:List A0)(H H':Hp)(h h':B7):Prop where
 keep:∀b o,h.get? b=some o->H b=none->b∉fs->b∉ex->h'.get? b=some o
 slot:∀b o,h.get? b=some o->H b=none->b∈fs->b∉ex->∃sl,h'.get? b=some { o with slots:=sl }
 free:∀b o,h.get? b=some o->H b=none->b∉ex->H' b=none
 there:∀b o,h.get? b=some o->b∉ex->∃o',h'.get? b=some o'
 tups:∀b xs,H b=some (.tup xs)->H' b=some (.tup xs)
 frzs:∀b o u,H b=some (.frz o u)->H' b=some (.frz o u)
 tbls:∀b ps,H b=some (.tbl ps)->∃more,H' b=some (.tbl (ps++more))
 sys:NS H->NS H'
section
variable {fs fs' ex ex':List A0}{H H1 H2:Hp}{h h1 h2 h':B7}{a x e:A0}{o:HO}
theorem Un.any (u:Un fs ex H H1 h h1)(q:h.get? b=some ob)(n:H b=none)(hx:b∉ex):∃sl,h1.get? b=some { ob with slots:=sl }:=by
 by_cases hb:b∈fs
 ·exact u.slot b ob q n hb hx
 ·exact⟨ob.slots,u.keep b ob q n hb hx⟩
theorem Un.kept (k:∀b u,h.get? b=some u->h'.get? b=some u):Un fs ex H H h h':=
 ⟨λb ob q _ _ _=>k b ob q,λb ob q _ _ _=>⟨ob.slots,k b ob q⟩,λ_ _ _ n _=>n,λb ob q _=>⟨ob,k b ob q⟩,λ_ _ q=>q,λ_ _ _ q=>q,λ_ ps q=>⟨#[],by rw[q];simp⟩,λz=>z⟩
theorem Un.refl:Un fs ex H H h h:=Un.kept λ_ _ q=>q
theorem Un.laid (k:∀b u,h.get? b=some u->h'.get? b=some u)(hp:h.objs.size<=a)(hn:H a=none)(hy:N6<h.objs.size):Un fs ex H (upd H a o) h h' where
 keep:=λb u q _ _ _=>k b u q
 slot:=λb u q _ _ _=>⟨u.slots,k b u q⟩
 free:=λb u q n _=>by rw[C0 (D7 (K7 (C5 q) hp))];exact n
 there:=λb u q _=>⟨u,k b u q⟩
 tups:=λb xs q=>by rw[C0 (X4 q hn)];exact q
 frzs:=λb u xs q=>by rw[C0 (X4 q hn)];exact q
 tbls:=λb ps q=>⟨#[],by rw[C0 (X4 q hn),q];simp⟩
 sys:=λz=>by unfold NS;rw[C0 (D7 (K7 hy hp))];exact z
theorem Un.write (mu:Mut (H x))(he:e=x\/H e=some (.own x))(k:∀b u,b≠e->h.get? b=some u->h'.get? b=some u)(heo:∃u,h'.get? e=some u):Un fs ex H (upd H x o) h h':=by
 have hx:∀b,H b=none->b≠x:=λb n z=>by subst z;rw[n] at mu;exact mu
 have hb:∀b,H b=none->b≠e:=λb n z=>by
  subst z;rcases he with r|r
  ·exact hx b n r
  ·rw[n] at r;cases r
 have hm:∀b u,H b=some u->¬Mut (some u)->b≠x:=λb u q nm z=>by subst z;rw[q] at mu;exact nm mu
 refine⟨λb u q n _ _=>k b u (hb b n) q,λb u q n _ _=>⟨u.slots,k b u (hb b n) q⟩,λb u q n _=>by rw[C0 (hx b n)];exact n,λb u q _=>?_,
  λb xs q=>by rw[C0 (hm b _ q λz=>z)];exact q,λb u xs q=>by rw[C0 (hm b _ q λz=>z)];exact q,λb ps q=>⟨#[],by rw[C0 (hm b _ q λz=>z),q];simp⟩,λz=>by
   rcases z with z|⟨ob,u,z⟩
   ·exact .inl (by rw[C0 (hx _ z)];exact z)
   ·exact .inr ⟨ob,u,by rw[C0 (hm _ _ z λz=>z)];exact z⟩⟩
 by_cases hbe:b=e
 ·subst hbe;exact heo
 ·exact⟨u,k b u hbe q⟩
end
def trk (h:B7)(H:Hp):List A0:=(E5 h.objs.size).filter λa=>(H a).isSome
def hidT (h:B7)(H:Hp):B7:=PySem.W.hideAll h (trk h H)
theorem MF (h:B7)(H:Hp):(hidT h H).objs.size=h.objs.size:=PySem.W.hideAll_size _ _
theorem MG (e:h.get? b=some o)(n:H b=none):(hidT h H).get? b=some o:=
 PySem.W.hideAll_get _ e λhm=>by
  have q:(H b).isSome=true:=(O8.mp hm).2;rw[n] at q;simp at q
theorem MH (e:(hidT h H).get? b=some o):h.get? b=some o/\H b=none:=by
 have e':h.get? b=some o:=PySem.W.of_hideAll (trk h H) e;refine⟨e',?_⟩;cases q:H b with
 |none=>rfl
 | some x =>
  have hm:b∈trk h H:=O8.mpr ⟨L4.mpr (C5 e'),by simp[q]⟩;have z:(hidT h H).get? b=none:=PySem.W.hideAll_none (trk h H) hm;rw[z] at e;cases e
def MI (g h:B7)(L:A0):List (A0×Obj):=(E5 h.objs.size).filterMap λa=>if a=L\/(g.get? a).isSome=true then none else(h.get? a).map λo=>(a,o)
def rest (g h:B7)(L d:A0):List (A0×Obj):=(MI g h L).filter λp=>decide (p.1≠d)
structure Mod (K:A8)(mg:Str->Option A1)(base:B7):Prop where
 kin:K.In base
 glob:base.Ns R1 mg
 blt:∃mb,base.Ns builtinsNs mb/\∀x:Str,x≠"__name__"->mb x=M4 x
 nolimit:base.NoLimit
structure Cx where
 prog:D1
 w:C8
 K:A8
 mg:Str->Option A1
 base:B7
 A:D5
 N:List Str
 s₀:A5
 H₀:Hp
 env:Env
 outer:List Env
 stack:List Env
 ex:List A0
 fn:Str->Bool
 calm:Bool
 pn:List (A0×Obj)
 xe:A1->A5->Prop
def frs (l:List Env):List A0:=l.filterMap (·.frame)
abbrev Cx.fs (X:Cx):List A0:=frs X.outer
def Vis (sc:G5)(x:Str):Prop:=sc.names.lookup x=some .local\/sc.names.lookup x=some .cell\/sc.names.lookup x=some .free
def Loc (sc:G5)(x:Str):Prop:=sc.names.lookup x=some .local\/sc.names.lookup x=some .cell
def Look (env:Env)(h:B7)(m:Str->Option A1)(x:Str)(u:A1):Prop:=
 (env.kindOf x=some .local/\m x=some u)\/((env.kindOf x=some .cell\/env.kindOf x=some .free)/\∃c,env.cells.lookup x=some c/\h.IsCell c (some u))
structure Cx.Ok (X:Cx):Prop where
 mod:Mod X.K X.mg X.base
 kind:X.env.scope.kind=.function
 glob:X.env.globals=R1
 blt:X.env.builtins=builtinsNs
 above:X.s₀.heap.objs.size<=X.env.locals
 inj:∀x y c,X.env.cells.lookup x=some c->X.env.cells.lookup y=some c->x=y
 has:∀x,(X.env.kindOf x=some .cell\/X.env.kindOf x=some .free)->∃c,X.env.cells.lookup x=some c
 cab:∀x c,X.fn x=true->X.env.cells.lookup x=some c->X.s₀.heap.objs.size<=c
 hd:X.calm=true->X.A.handled=none
 frames:X.A.frames=some X.stack
 stk:X.stack=X.outer\/(X.stack=X.env::X.outer/\X.env.frame=some X.env.locals)
 exf:∀b∈X.ex,b≠X.env.locals/\∀x c,X.env.cells.lookup x=some c->c≠b
 bs:∀b o,X.base.get? b=some o->X.s₀.heap.get? b=some o/\X.H₀ b=none
 bsz:X.base.objs.size<=X.s₀.heap.objs.size
 noex:∀b o,X.base.get? b=some o->b∉X.ex
 exfs:∀b∈X.ex,b∉X.fs
 funs:X.s₀.heap.FunFrames X.base X.outer
 frf:∀b∈X.fs,X.H₀ b=none
 nos:NS X.H₀
structure Inv (X:Cx)(jb:List (A0×Obj))(σ:List (Option V))(H:Hp)(s:A5):Prop where
 ok:X.Ok
 os:s.os=X.s₀.os
 bare:AllBare s.gens
 base:Un X.fs X.ex X.H₀ H X.s₀.heap s.heap
 loc:∃m,s.heap.Ns X.env.locals m/\∀(i:Nat) (x:Str) (v:V),X.N[i]?=some x->σ[i]?=some (some v)->Vis X.env.scope x->∃u,RelV v u/\Look X.env s.heap m x u
 cell:∀x c,X.env.cells.lookup x=some c->∃v,s.heap.IsCell c v
 free:H X.env.locals=none
 freeC:∀x c,X.env.cells.lookup x=some c->H c=none
 pin:∀p∈X.pn++jb,s.heap.get? p.1=some p.2/\H p.1=none/\p.1≠X.env.locals/\p.1∉X.fs/\∀v,p.2.data≠.cell v
 hok:HOk X.prog X.w H s.heap
 len:σ.length=X.N.length
section
variable {X:Cx}{jb:List (A0×Obj)}{σ:List (Option V)}{H H':Hp}{s:A5}{h':B7}
theorem Cx.Ok.nofr (ok:X.Ok)(e:X.base.get? b=some o):b∉X.fs:=λhb=>by
 have:=(ok.funs.mem hb).1;rw[e] at this;cases this
theorem Inv.bs (I:Inv X jb σ H s):∀b o,X.base.get? b=some o->s.heap.get? b=some o/\H b=none:=λb o e=>
 ⟨I.base.keep b o (I.ok.bs b o e).1 (I.ok.bs b o e).2 (I.ok.nofr e) (I.ok.noex b o e),I.base.free b o (I.ok.bs b o e).1 (I.ok.bs b o e).2 (I.ok.noex b o e)⟩
theorem Inv.bk (I:Inv X jb σ H s):∀b o,X.base.get? b=some o->s.heap.get? b=some o:=λb o e=>(I.bs b o e).1
theorem Inv.mod (I:Inv X jb σ H s):Mod X.K X.mg X.base:=I.ok.mod
theorem Inv.nos (I:Inv X jb σ H s):NS H:=I.base.sys I.ok.nos
theorem Inv.bigS (I:Inv X jb σ H s):N6<s.heap.objs.size:=Bb (by decide) (I.mod.glob.keeps I.bk).lt
theorem Inv.kIn (I:Inv X jb σ H s):X.K.In s.heap:=I.ok.mod.kin.keeps I.bk
theorem Inv.nolimit (I:Inv X jb σ H s):s.heap.NoLimit:=I.ok.mod.nolimit.keeps I.bk
theorem Inv.lt (I:Inv X jb σ H s):X.env.locals<s.heap.objs.size:=let ⟨_,hn,_⟩:=I.loc;hn.lt
theorem Inv.sz (I:Inv X jb σ H s):X.s₀.heap.objs.size<=s.heap.objs.size:=N1 I.ok.above (W9 I.lt)
theorem Inv.nofs (I:Inv X jb σ H s)(h:s.heap.objs.size<=a):a∉X.fs:=λhb=>by
 obtain⟨_,o,ho,_⟩:=I.ok.funs.mem hb;exact absurd (K7 (C5 ho) (N1 I.sz h)) (Z4 _)
theorem Inv.cne (I:Inv X jb σ H s):∀x c,X.env.cells.lookup x=some c->c≠X.env.locals:=λx c e z=>by
 obtain⟨v,o,ho,hd⟩:=I.cell x c e;obtain⟨m,⟨o',es,ep,ho',hd',_⟩,_⟩:=I.loc;rw[z,ho'] at ho;cases ho;rw[hd'] at hd;cases hd
theorem Inv.funs (I:Inv X jb σ H s):s.heap.FunFrames X.base X.outer:=by
 have all:∀(l:List Env),(∀b∈frs l,b∈X.fs)->X.s₀.heap.FunFrames X.base l->s.heap.FunFrames X.base l:=by
  intro l
  induction l with
  |nil=>intro _ _;trivial
  | cons env r ih =>
   intro hs hl;obtain⟨hk,⟨L,o,hf,hn,ho,hd⟩,hr⟩:=hl;have hL:L∈X.fs:=hs L (by unfold frs;rw[y0,hf];exact C3);obtain⟨sl,e⟩:=I.base.slot L o ho (I.ok.frf L hL) hL λz=>I.ok.exfs L z hL;exact⟨hk,⟨L,_,hf,hn,e,hd⟩,ih (λb hb=>hs b (by unfold frs;rw[y0,hf];exact C2 _ hb)) hr⟩
 exact all X.outer (λ_ hb=>hb) I.ok.funs
theorem Inv.stack (I:Inv X jb σ H s):s.heap.FunFrames X.base X.stack:=by
 rcases I.ok.stk with e|⟨e,hf⟩
 ·rw[e];exact I.funs
 ·rw[e];obtain⟨m,hn,_⟩:=I.loc;refine .cons (by rw[I.ok.kind];decide) hf hn ?_ I.funs;exact Heap.get?_none_of_le (N1 I.ok.bsz I.ok.above)
theorem Inv.stkSub (I:Inv X jb σ H s):∀b∈frs X.stack,b∈X.env.locals::X.fs:=λb hb=>by
 rcases I.ok.stk with e|⟨e,hf⟩
 ·rw[e] at hb;exact C2 _ hb
 ·rw[e] at hb;unfold frs at hb;rw[y0,hf] at hb;exact hb
theorem Inv.stkFree (I:Inv X jb σ H s):∀b∈frs X.stack,H b=none:=λb hb=>by
 rcases C6.mp (I.stkSub b hb) with e|hb
 ·rw[e];exact I.free
 ·obtain⟨_,o,ho,_⟩:=I.ok.funs.mem hb;exact I.base.free b o ho (I.ok.frf b hb) λz=>I.ok.exfs b z hb
theorem Inv.step {ch:List A0}(I:Inv X jb σ H s)
   (hch:∀b∈ch,(b∈X.ex\/X.s₀.heap.objs.size<=b)/\b≠X.env.locals/\(∀x c,X.env.cells.lookup x=some c->c≠b)/\∀p∈X.pn++jb,p.1≠b)
   (keep:∀b o,b≠X.env.locals->b∉X.fs->b∉ch->s.heap.get? b=some o->H b=none->h'.get? b=some o)
   (slot:∀b o,b≠X.env.locals->b∈X.fs->b∉ch->s.heap.get? b=some o->H b=none->∃sl,h'.get? b=some { o with slots:=sl }) (free:∀b o,b∉ch->s.heap.get? b=some o->H b=none->H' b=none)
   (there:∀b o,b∉ch->s.heap.get? b=some o->∃o',h'.get? b=some o')
   (tups:∀b xs,H b=some (.tup xs)->H' b=some (.tup xs)) (frzs:∀b o u,H b=some (.frz o u)->H' b=some (.frz o u)) (tbls:∀b ps,H b=some (.tbl ps)->∃more,H' b=some (.tbl (ps++more))) (sys:NS H->NS H')
   (ns:∀m,s.heap.Ns X.env.locals m->h'.Ns X.env.locals m) (hok:HOk X.prog X.w H' h') (hg:AllBare g') :
   Inv X jb σ H' { s with heap:=h',gens:=g',drawn:=d',toks:=t' }:=by
 have neL:∀b o,X.s₀.heap.get? b=some o->b≠X.env.locals:=λb o e=>D7 (K7 (C5 e) I.ok.above)
 have neC:∀b o,X.s₀.heap.get? b=some o->b∉X.ex->b∉ch:=λb o e hx hb=>by
  rcases(hch b hb).1 with z|z
  ·exact hx z
  ·exact absurd (K7 (C5 e) z) (Z4 _)
 have cellK:∀x c,X.env.cells.lookup x=some c->∀v,s.heap.IsCell c v->h'.IsCell c v:=λx c e v ⟨o,ho,hd⟩=>by
  have nch:c∉ch:=λz=>(hch c z).2.2.1 x c e rfl
  by_cases hc:c∈X.fs
  ·obtain⟨sl,q⟩:=slot c o (I.cne x c e) hc nch ho (I.freeC x c e);exact⟨_,q,hd⟩
  ·exact⟨o,keep c o (I.cne x c e) hc nch ho (I.freeC x c e),hd⟩
 refine⟨I.ok,I.os,hg,⟨λb o e n hb hx=>?_,λb o e n hb hx=>?_,λb o e n hx=>?_,λb o e hx=>?_,λb xs e=>tups b xs (I.base.tups b xs e),λb o xs e=>frzs b o xs (I.base.frzs b o xs e),λb ps e=>?_,λz=>sys (I.base.sys z)⟩,?_,λx c e=>?_,?_,λx c e=>?_,λp hp=>?_,hok,I.len⟩
 ·exact keep b o (neL b o e) hb (neC b o e hx) (I.base.keep b o e n hb hx) (I.base.free b o e n hx)
 ·obtain⟨sl,e1⟩:=I.base.slot b o e n hb hx;obtain⟨sl',e2⟩:=slot b _ (neL b o e) hb (neC b o e hx) e1 (I.base.free b o e n hx);exact⟨sl',e2⟩
 ·obtain⟨o',e1⟩:=I.base.there b o e hx;exact free b o' (neC b o e hx) e1 (I.base.free b o e n hx)
 ·obtain⟨o',e1⟩:=I.base.there b o e hx;exact there b o' (neC b o e hx) e1
 ·obtain⟨m1,e1⟩:=I.base.tbls b ps e;obtain⟨m2,e2⟩:=tbls b _ e1;exact⟨m1++m2,by rw[e2,Array.append_assoc]⟩
 ·obtain⟨m,hn,hl⟩:=I.loc;refine⟨m,ns m hn,λi x v e1 e2 e3=>?_⟩;obtain⟨u,r,l⟩:=hl i x v e1 e2 e3;refine⟨u,r,?_⟩;rcases l with l|⟨k,c,e,z⟩
  ·exact .inl l
  ·exact .inr ⟨k,c,e,cellK x c e _ z⟩
 ·obtain⟨v,z⟩:=I.cell x c e;exact⟨v,cellK x c e v z⟩
 ·obtain⟨m,⟨o,_,_,ho,_⟩,_⟩:=I.loc;exact free _ o (λz=>(hch _ z).2.1 rfl) ho I.free
 ·obtain⟨v,o,ho,hd⟩:=I.cell x c e;exact free c o (λz=>(hch c z).2.2.1 x c e rfl) ho (I.freeC x c e)
 ·obtain⟨e,n,ne,nf,d⟩:=I.pin p hp;have nch:p.1∉ch:=λz=>(hch p.1 z).2.2.2 p hp rfl;exact⟨keep p.1 p.2 ne nf nch e n,free p.1 p.2 nch e n,ne,nf,d⟩
theorem Inv.un (I:Inv X jb σ H s)(u:Un X.fs [] H H' s.heap h')(hok:HOk X.prog X.w H' h'):Inv X jb σ H' { s with heap:=h',toks:=t' }:=by
 obtain⟨m,⟨o,es,ep,ho,r⟩,_⟩:=id I.loc;obtain⟨sl,hL⟩:=u.any ho I.free (by simp)
 exact I.step (g':=s.gens) (d':=s.drawn) (ch:=[]) (λ_ z=>nomatch z) (λb o _ hb _ e n=>u.keep b o e n hb (by simp)) (λb o _ hb _ e n=>u.slot b o e n hb (by simp)) (λb o _ e n=>u.free b o e n (by simp)) (λb o _ e=>u.there b o e (by simp)) u.tups u.frzs u.tbls u.sys (λm' hm=>by
  obtain⟨o',es',ep',ho',r'⟩:=hm;rw[ho] at ho';cases ho'
  exact⟨_,es',ep',hL,r'⟩) hok I.bare
theorem Inv.call (I:Inv X jb σ H s)(u:Un (frs X.stack) ch H H' s.heap h')(hok:HOk X.prog X.w H' h')(hg:AllBare g')
   (hch:∀b∈ch,(b∈X.ex\/X.s₀.heap.objs.size<=b)/\b≠X.env.locals/\(∀x c,X.env.cells.lookup x=some c->c≠b)/\∀p∈X.pn++jb,p.1≠b) :
   Inv X jb σ H' { s with heap:=h',gens:=g',drawn:=d',toks:=t' }:=by
 obtain⟨m,⟨o,es,ep,ho,r⟩,_⟩:=id I.loc;obtain⟨sl,hL⟩:=u.any ho I.free λz=>(hch _ z).2.1 rfl
 exact I.step (ch:=ch) hch (λb o hL hb hc e n=>u.keep b o e n (λz=>(C6.mp (I.stkSub b z)).elim hL hb) hc) (λb o _ _ hc e n=>u.any e n hc) (λb o hc e n=>u.free b o e n hc) (λb o hc e=>u.there b o e hc) u.tups u.frzs u.tbls u.sys (λm' hm=>by
  obtain⟨o',es',ep',ho',r'⟩:=hm;rw[ho] at ho';cases ho'
  exact⟨_,es',ep',hL,r'⟩) hok hg
theorem Inv.turned {t':Nat}{it:A0}(I:Inv X jb σ H s)(k:∀b o,b≠it->s.heap.get? b=some o->h'.get? b=some o)(hn:H it=none)(hL:it≠X.env.locals)
   (h1:it∈X.ex\/X.s₀.heap.objs.size<=it) (h2:∀x c,X.env.cells.lookup x=some c->c≠it) (h3:∀p∈X.pn++jb,p.1≠it):Inv X jb σ H { s with heap:=h',toks:=t' }:=by
 have nit:∀b u,H b=some u->b≠it:=λb u e z=>by rw[z,hn] at e;cases e
 refine I.step (g':=s.gens) (d':=s.drawn) (ch:=[it]) (λb hb=>?_) (λb o _ _ hc e _=>k b o (λz=>hc (by simp[z])) e) (λb o _ _ hc e _=>⟨o.slots,k b o (λz=>hc (by simp[z])) e⟩) (λ_ _ _ _ n=>n)
   (λb o hc e=>⟨o,k b o (λz=>hc (by simp[z])) e⟩) (λ_ _ e=>e) (λ_ _ _ e=>e) (λb ps e=>⟨#[],by rw[e];simp⟩) (λz=>z) (λm hm=>?_) (λb u e=>?_) I.bare
 ·grind
 ·obtain⟨o,es,ep,ho,r⟩:=hm;exact⟨o,es,ep,k _ o (Ne.symm hL) ho,r⟩
 ·refine(I.hok b u e).stay (λc v hc q=>k c v ?_ q) (λ_ q=>q) λ_ _ q=>q;rcases hc with z|z
  ·grind
  ·grind
theorem Inv.tok (I:Inv X jb σ H s)(t:Nat):Inv X jb σ H { s with toks:=t }:=I.un (h':=s.heap) (t':=t) Un.refl I.hok
theorem Inv.kept (I:Inv X jb σ H s)(k:∀b u,s.heap.get? b=some u->h'.get? b=some u):Inv X jb σ H { s with heap:=h',toks:=t' }:=I.un (Un.kept k) (I.hok.kept k)
theorem Inv.laid (I:Inv X jb σ H s)(k:∀b u,s.heap.get? b=some u->h'.get? b=some u)(hp:s.heap.objs.size<=a)(new:G7 X.prog X.w (upd H a o) h' a o) :
   Inv X jb σ (upd H a o) { s with heap:=h',toks:=t' }:=I.un (Un.laid k hp (I.hok.fresh hp) I.bigS) (I.hok.laid k hp new)
theorem Inv.write (I:Inv X jb σ H s)(mu:Mut (H x))(he:e=x\/H e=some (.own x))(k:∀b u,b≠e->s.heap.get? b=some u->h'.get? b=some u)(heo:∃u,h'.get? e=some u)
   (new:G7 X.prog X.w (upd H x o) h' x o):Inv X jb σ (upd H x o) { s with heap:=h',toks:=t' }:=I.un (Un.write mu he k heo) (I.hok.write mu he k heo new)
theorem Inv.pins_of (I:Inv X jb σ H s)(h:∀p∈pins',s.heap.get? p.1=some p.2/\H p.1=none/\p.1≠X.env.locals/\p.1∉X.fs/\∀v,p.2.data≠.cell v):Inv X pins' σ H s:=
 ⟨I.ok,I.os,I.bare,I.base,I.loc,I.cell,I.free,I.freeC,λp hp=>(J8.mp hp).elim (λz=>I.pin p (AS _ z)) (h p),I.hok,I.len⟩
theorem nodup_ix {N:List Str}(hN:N.Nodup){i j:Nat}{x:Str}(a:N[i]?=some x)(b:N[j]?=some x):i=j:=by
 obtain⟨h1,e1⟩:=F7.mp a;obtain⟨h2,e2⟩:=F7.mp b;exact(List.getElem_inj hN).mp (e1.trans e2.symm)
theorem IE (I:Inv X jb σ H s)(hN:X.N.Nodup)(hi:X.N[i]?=some x)(hx:Loc X.env.scope x)(r:RelV v u)
   (h:∀s',Inv X jb (σ.set i (some v)) H s'->(∃a,T7 a s.heap s'.heap/\(a=X.env.locals\/X.env.cells.lookup x=some a))->Q () s') (hf:X.fn x=true\/X.env.scope.names.lookup x=some .local:=by first|exact .inl rfl|exact .inr rfl|assumption):A6 M A (storeName X.env x u) Q E s:=by
 obtain⟨m,hn,hl⟩:=id I.loc;have hcls:(X.env.scope.kind == .class||(X.env.scope.kind == .module&&X.env.locals != X.env.globals))=false:=by rw[I.ok.kind];rfl
 have hiσ:i<σ.length:=by rw[I.len];exact(F7.mp hi).1
 have cne:=I.cne
 have tracked:∀{a:A0} {h':B7},(∃o,s.heap.get? a=some o/\H a=none)->T7 a s.heap h'->HOk X.prog X.w H h':=λ{a h'} ha hs b ob e=>by
  obtain⟨_,_,hfree⟩:=ha;refine(I.hok b ob e).stay (λc w' hc q=>(hs.2 c ?_).trans q) (λ_ q=>q) λ_ _ q=>q;rintro rfl;rcases hc with rfl|hc
  ·rw[hfree] at e;cases e
  ·rw[hfree] at hc;cases hc
 rcases hx with hk|hk
 ·refine wpAny_storeName_local hk hn (λh' hn' hs=>?_) hcls;obtain⟨oL,_,_,hoL,_⟩:=id hn;refine h _ ⟨I.ok,I.os,I.bare,⟨λb o e n hb hx=>?_,λb o e n hb hx=>?_,I.base.free,λb o e hx=>?_,I.base.tups,I.base.frzs,I.base.tbls,I.base.sys⟩,⟨_,hn',λj y v' e1 e2 e3=>?_⟩,λy c e=>?_,I.free,I.freeC,λp hp=>?_,tracked ⟨oL,hoL,I.free⟩ hs,by simpa using I.len⟩ ⟨_,hs,.inl rfl⟩
  ·exact(hs.2 b (D7 (K7 (C5 e) I.ok.above))).trans (I.base.keep b o e n hb hx)
  ·obtain⟨sl,e1⟩:=I.base.slot b o e n hb hx;exact⟨sl,(hs.2 b (D7 (K7 (C5 e) I.ok.above))).trans e1⟩
  ·obtain⟨o',e1⟩:=I.base.there b o e hx;exact⟨o',(hs.2 b (D7 (K7 (C5 e) I.ok.above))).trans e1⟩
  ·by_cases hj:j=i
   ·subst hj;rw[hi] at e1;cases e1;rw[N9 hiσ] at e2;cases e2;exact⟨u,r,.inl ⟨hk,by simp⟩⟩
   ·rw[Q1 (Ne.symm hj)] at e2;obtain⟨u',r',q⟩:=hl j y v' e1 e2 e3;refine⟨u',r',?_⟩;rcases q with⟨k,e⟩|⟨k,c,e,z⟩
    ·refine .inl ⟨k,?_⟩;have:y≠x:=λe=>hj (nodup_ix hN e1 (e▸hi));simp[this,e]
    ·exact .inr ⟨k,c,e,z.sameBut hs (cne y c e)⟩
  ·obtain⟨w',z⟩:=I.cell y c e;exact⟨w',z.sameBut hs (cne y c e)⟩
  ·obtain⟨e,n,ne,nf,d⟩:=I.pin p hp;exact⟨(hs.2 p.1 ne).trans e,n,ne,nf,d⟩
 ·have hfn:X.fn x=true:=by
   rcases hf with z|z
   ·exact z
   ·rw[z] at hk;cases hk
  obtain⟨c,hc⟩:=I.ok.has x (.inl hk);obtain⟨w',z⟩:=I.cell x c hc;refine wpAny_storeName_cell I.ok.kind hk hc z (λh' hc' hs=>?_);obtain⟨oc,hoc,hocd⟩:=id z;refine h { s with heap:=h' } ⟨I.ok,I.os,I.bare,⟨λb o e n hb hx=>?_,λb o e n hb hx=>?_,I.base.free,λb o e hx=>?_,I.base.tups,I.base.frzs,I.base.tbls,I.base.sys⟩,⟨m,hn.sameBut hs (Ne.symm (cne x c hc)),λj y v' e1 e2 e3=>?_⟩,λy c' e=>?_,I.free,I.freeC,λp hp=>?_,tracked ⟨oc,hoc,I.freeC x c hc⟩ hs,by simpa using I.len⟩ ⟨c,hs,.inr hc⟩
  ·exact(hs.2 b (D7 (K7 (C5 e) (I.ok.cab x c hfn hc)))).trans (I.base.keep b o e n hb hx)
  ·obtain⟨sl,e1⟩:=I.base.slot b o e n hb hx;exact⟨sl,(hs.2 b (D7 (K7 (C5 e) (I.ok.cab x c hfn hc)))).trans e1⟩
  ·obtain⟨o',e1⟩:=I.base.there b o e hx;exact⟨o',(hs.2 b (D7 (K7 (C5 e) (I.ok.cab x c hfn hc)))).trans e1⟩
  ·by_cases hj:j=i
   ·subst hj;rw[hi] at e1;cases e1;rw[N9 hiσ] at e2;cases e2;exact⟨u,r,.inr ⟨.inl hk,c,hc,hc'⟩⟩
   ·rw[Q1 (Ne.symm hj)] at e2;obtain⟨u',r',q⟩:=hl j y v' e1 e2 e3;refine⟨u',r',?_⟩;rcases q with q|⟨k,c',e,z'⟩
    ·exact .inl q
    ·refine .inr ⟨k,c',e,z'.sameBut hs ?_⟩;rintro rfl;exact hj (nodup_ix hN e1 (I.ok.inj _ _ _ e hc▸hi))
  ·by_cases hcc:c'=c
   ·subst hcc;exact⟨_,hc'⟩
   ·obtain⟨w2,z2⟩:=I.cell y c' e;exact⟨w2,z2.sameBut hs hcc⟩
  ·obtain⟨e,n,ne,nf,d⟩:=I.pin p hp;refine⟨(hs.2 p.1 ?_).trans e,n,ne,nf,d⟩;intro q;rw[q,hoc] at e;have q':oc=p.2:=M7 e;exact d w' (by rw[<- q'];exact hocd)
theorem i8 (I:Inv X jb σ H s)(hN:X.N.Nodup)(hi:X.N[i]?=some x)(hx:Loc X.env.scope x)(r:RelV v u)
   (h:∀s',Inv X jb (σ.set i (some v)) H s'->Q () s') (hf:X.fn x=true\/X.env.scope.names.lookup x=some .local:=by first|exact .inl rfl|exact .inr rfl|assumption):A6 M A (storeName X.env x u) Q E s:=
 IE I hN hi hx r (λs' I' _=>h s' I') hf
end
abbrev XK:=A1->Option A0->Hp->Prop
abbrev St:=List (Option V)
abbrev VK:=V->Hp->Prop
abbrev TE:=St->Hp->VK->Prop
abbrev TT:=St->Hp->(Bool->Hp->Prop)->Prop
abbrev TA:=St->Hp->(List V->Hp->Prop)->Prop
structure Ends where
 nx:St->Hp->Prop
 rt:VK
 bk:St->Hp->Prop:=λ_ _=>False
 ct:St->Hp->Prop:=λ_ _=>False
abbrev TS:=Ends->St->Hp->Prop
def EP (X:Cx)(jb:List (A0×Obj))(σ:St)(Q:VK)(u:A1)(s':A5):Prop:=∃v H',Inv X jb σ H' s'/\RelV v u/\Q v H'
def TP (X:Cx)(jb:List (A0×Obj))(σ:St)(Q:Bool->Hp->Prop)(b:Bool)(s':A5):Prop:=∃H',Inv X jb σ H' s'/\Q b H'
def AP (X:Cx)(jb:List (A0×Obj))(σ:St)(Q:List V->Hp->Prop)(us:List A1)(s':A5):Prop:=∃vs H',Inv X jb σ H' s'/\Vals vs us/\Q vs H'
def SP (X:Cx)(jb:List (A0×Obj))(D:Ends)(f:Flow)(s':A5):Prop:=
 match f with
 |.next=>∃σ' H',Inv X jb σ' H' s'/\D.nx σ' H'
 |.brk=>∃σ' H',Inv X jb σ' H' s'/\D.bk σ' H'
 |.cont=>∃σ' H',Inv X jb σ' H' s'/\D.ct σ' H'
 |.ret u=>∃v σ' H',Inv X jb σ' H' s'/\RelV v u/\D.rt v H'
def PE (X:Cx)(e:Expr)(t:TE):Prop:=
 ∀(jb:List (A0×Obj)) (s:A5) (σ:St) (H:Hp) (Q:VK),Inv X jb σ H s->t σ H Q->A6 (A9 X.prog X.w) X.A (eval e X.env) (EP X jb σ Q) X.xe s
def PT (X:Cx)(e:Expr)(t:TT):Prop:=
 ∀(jb:List (A0×Obj)) (s:A5) (σ:St) (H:Hp) (Q:Bool->Hp->Prop),Inv X jb σ H s->t σ H Q->A6 (A9 X.prog X.w) X.A (isTrue e X.env (eval e X.env)) (TP X jb σ Q) X.xe s
def PW (X:Cx)(e:Expr)(t:TT):Prop:=
 ∀(whole:Sem A1) (jb:List (A0×Obj)) (s:A5) (σ:St) (H:Hp) (Q:Bool->Hp->Prop),Inv X jb σ H s->t σ H Q->A6 (A9 X.prog X.w) X.A (isTrue e X.env whole) (TP X jb σ Q) X.xe s
theorem PW.pt (h:PW X e t):PT X e t:=h _
def PA (X:Cx)(es:List Expr)(t:TA):Prop:=
 ∀(pos:Pos) (jb:List (A0×Obj)) (s:A5) (σ:St) (H:Hp) (Q:List V->Hp->Prop),Inv X jb σ H s->t σ H Q->A6 (A9 X.prog X.w) X.A (spliced (backTo pos (E9 es X.env))) (AP X jb σ Q) X.xe s
def PS (X:Cx)(st:Stmt)(t:TS):Prop:=
 ∀(jb:List (A0×Obj)) (s:A5) (σ:St) (H:Hp) (D:Ends),Inv X jb σ H s->t D σ H->A6 (A9 X.prog X.w) X.A (exec st X.env) (SP X jb D) X.xe s
def PSs (X:Cx)(st:List Stmt)(t:TS):Prop:=
 ∀(jb:List (A0×Obj)) (s:A5) (σ:St) (H:Hp) (D:Ends),Inv X jb σ H s->t D σ H->A6 (A9 X.prog X.w) X.A (execs st X.env) (SP X jb D) X.xe s
theorem thn {α:Type}{t:Sem α}{Q Q':α->A5->Prop}{M:Model}{A:D5}{E:A1->A5->Prop}{s:A5}(h:A6 M A t Q E s)(hQ:∀a s,Q a s->Q' a s):A6 M A t Q' E s:=K3 h hQ λ_ _ x=>x
section
variable {X:Cx}
def tVar (i:Nat):TE:=λσ H Q=>∃v,σ[i]?=some (some v)/\Q v H
def tC (v:V):TE:=λ_ H Q=>Q v H
theorem IF (hN:X.N[i]?=some x)(hv:Vis X.env.scope x)(hd:(x == ("__debug__":Str))=false:=by decide)(hcd:(x == ("__classdict__":Str))=false:=by decide):PE X (.Name x pos) (tVar i):=by
 intro jb s σ H Q I h;obtain⟨v,e,h⟩:=h;obtain⟨m,hn,hl⟩:=I.loc;obtain⟨u,r,l⟩:=hl i x v hN e hv;have fin:EP X jb σ Q u s:=⟨v,H,I,r,h⟩;rcases l with⟨hk,hm⟩|⟨hk,c,hc,hcell⟩
 ·exact wpAny_Name (wpAny_loadName_local I.ok.kind hk hn hm fin) hd
 ·rcases hk with hk|hk
  ·exact wpAny_Name (wpAny_loadName_cell I.ok.kind hk hc hcell fin) hd
  ·exact wpAny_Name (wpAny_loadName_free I.ok.kind hk hc hcell fin hcd) hd
theorem K4 {i j pos}:PE X (.Constant (.int i) j pos) (tC (.int i)):=λ_ _ _ H _ I h=>wpAny_Constant_int ⟨.int i,H,I.tok _,⟨_,rfl⟩,h⟩
theorem pe_bl {b j pos}:PE X (.Constant (.bool b) j pos) (tC (.bl b)):=λ_ _ _ H _ I h=>Constant_bool ⟨.bl b,H,I,rfl,h⟩
theorem pe_non {j pos}:PE X (.Constant .none j pos) (tC .non):=λ_ _ _ H _ I h=>Constant_none ⟨.non,H,I,rfl,h⟩
theorem pe_str {x j pos}:PE X (.Constant (.str x) j pos) (tC (.str x)):=λ_ _ _ H _ I h=>Calls.Constant_str ⟨.str x,H,I.tok _,⟨_,rfl⟩,h⟩
def Gl (X:Cx)(x:Str):Prop:=X.env.kindOf x=some .globalImplicit
theorem IG (I:Inv X jb σ H s)(hg:Gl X x)(hm:X.mg x=some u)(h:Q u s)
   (hd:(x == ("__debug__":Str))=false:=by decide):A6 (A9 X.prog X.w) X.A (eval (.Name x pos) X.env) Q E s:=
 Calls.Name_function_global I.ok.kind hg (Calls.loadGlobal_global (by rw[I.ok.glob];exact I.mod.glob.keeps I.bk) hm h) hd
theorem Bt (I:Inv X jb σ H s)(hg:Gl X x)(hm:X.mg x=none)(hv:M4 x=some u)(h:Q u s)
   (hn:x≠"__name__":=by decide) (hd:(x == ("__debug__":Str))=false:=by decide):A6 (A9 X.prog X.w) X.A (eval (.Name x pos) X.env) Q E s:=by
 obtain⟨mb,h1,h2⟩:=I.mod.blt;exact Calls.Name_function_global I.ok.kind hg (Calls.loadGlobal_builtin (by rw[I.ok.glob];exact I.mod.glob.keeps I.bk) hm (by rw[I.ok.blt];exact h1.keeps I.bk) ((h2 x hn).trans hv) h) hd
theorem MJ {x:Str}{v:V}{u:A1}{pos:Pos}(hg:Gl X x)(hm:X.mg x=some u)(r:RelV v u)(hd:(x == ("__debug__":Str))=false:=by decide):PE X (.Name x pos) (tC v):=
 λ_ _ _ H _ I h=>IG I hg hm ⟨v,H,I,r,h⟩ hd
theorem MK (hg:Gl X x)(hm:X.mg x=none)(hv:M4 x=some u)(r:RelV v u)(hn:x≠"__name__":=by decide)(hd:(x == ("__debug__":Str))=false:=by decide):PE X (.Name x pos) (tC v):=
 λ_ _ _ H _ I h=>Bt I hg hm hv ⟨v,H,I,r,h⟩ hn hd
variable {a b:Expr}{ta tb:TE}{pos:Pos}
def tB (t:TE):TT:=λσ H Q=>t σ H λx H1=>∃c,x=.bl c/\Q c H1
theorem pt_val (h:PE X e t)(he:∀whole,isTrue e X.env whole=(do let v ← whole;Z1 e.pos;R5 [v] (truthy v)):=by intro _;rfl):PT X e (tB t):=by
 intro jb s σ H Q I hw;refine isTrue_plain (thn (h jb s σ H _ I hw) λv s1 ⟨x,H1,I1,r1,q1⟩=>?_) (he _);obtain⟨d,rfl,q⟩:=q1;cases r1;exact U5 ⟨H1,I1,q⟩
variable {tA tB':TT}{rest:List Expr}
def tAnd (t u:TT):TT:=λσ H Q=>t σ H λc H1=>if c=true then u σ H1 Q else Q false H1
def tOr (t u:TT):TT:=λσ H Q=>t σ H λc H1=>if c=true then Q true H1 else u σ H1 Q
def tNot (t:TT):TT:=λσ H Q=>t σ H λc H1=>Q (!c) H1
theorem ML (ha:PT X a tA):PW X (.BoolOp .And [a] pos) tA:=by
 intro wh jb s σ H Q I h;refine isTrue_and (thn (ha jb s σ H Q I h) λc s1 e=>?_);cases c with
 |true=>exact isTrue_and_nil e
 |false=>exact e
theorem pw_or1 (ha:PT X a tA):PW X (.BoolOp .Or [a] pos) tA:=by
 intro wh jb s σ H Q I h;refine isTrue_or (thn (ha jb s σ H Q I h) λc s1 e=>?_);cases c with
 |false=>exact isTrue_or_nil e
 |true=>exact e
theorem pw_and (ha:PT X a tA)(hb:PW X (.BoolOp .And (b::rest) pos) tB'):PW X (.BoolOp .And (a::b::rest) pos) (tAnd tA tB'):=by
 intro wh jb s σ H Q I h;refine isTrue_and (thn (ha jb s σ H _ I h) λc s1 ⟨H1,I1,q1⟩=>?_);cases c with
 |true=>exact hb wh jb s1 σ H1 Q I1 q1
 |false=>exact⟨H1,I1,q1⟩
theorem pw_or (ha:PT X a tA)(hb:PW X (.BoolOp .Or (b::rest) pos) tB'):PW X (.BoolOp .Or (a::b::rest) pos) (tOr tA tB'):=by
 intro wh jb s σ H Q I h;refine isTrue_or (thn (ha jb s σ H _ I h) λc s1 ⟨H1,I1,q1⟩=>?_);cases c with
 |true=>exact⟨H1,I1,q1⟩
 |false=>exact hb wh jb s1 σ H1 Q I1 q1
theorem pt_not (ha:PT X a tA):PT X (.UnaryOp .Not a pos) (tNot tA):=by
 intro jb s σ H Q I h;exact isTrue_not (ha jb s σ H (λc H1=>Q (!c) H1) I h)
def tAndV (ta tb:TE):TE:=λσ H Q=>ta σ H λx H1=>∃c,x=.bl c/\if c=true then tb σ H1 Q else Q (.bl false) H1
def tOrV (ta tb:TE):TE:=λσ H Q=>ta σ H λx H1=>∃c,x=.bl c/\if c=true then Q (.bl true) H1 else tb σ H1 Q
def tNotV (ta:TE):TE:=λσ H Q=>ta σ H λx H1=>∃c,x=.bl c/\Q (.bl (!c)) H1
theorem pe_one {op}{t:TE}(h:PE X a t):PE X (.BoolOp op [a] pos) t:=λjb s σ H Q I hw=>BoolOp_one (h jb s σ H Q I hw)
theorem pe_and (ha:PE X a ta)(hb:PE X (.BoolOp .And (b::rest) pos) tb):PE X (.BoolOp .And (a::b::rest) pos) (tAndV ta tb):=by
 intro jb s σ H Q I h;refine BoolOp_and (thn (ha jb s σ H _ I h) λv s1 ⟨x,H1,I1,r1,q1⟩=>?_);obtain⟨c,rfl,q1⟩:=q1;cases r1;refine U5 ?_;cases c with
 |true=>exact hb jb s1 σ H1 Q I1 q1
 |false=>exact⟨.bl false,H1,I1,rfl,q1⟩
theorem pe_or (ha:PE X a ta)(hb:PE X (.BoolOp .Or (b::rest) pos) tb):PE X (.BoolOp .Or (a::b::rest) pos) (tOrV ta tb):=by
 intro jb s σ H Q I h;refine BoolOp_or (thn (ha jb s σ H _ I h) λv s1 ⟨x,H1,I1,r1,q1⟩=>?_);obtain⟨c,rfl,q1⟩:=q1;cases r1;refine U5 ?_;cases c with
 |false=>exact hb jb s1 σ H1 Q I1 q1
 |true=>exact⟨.bl true,H1,I1,rfl,q1⟩
theorem pe_not (ha:PE X a ta):PE X (.UnaryOp .Not a pos) (tNotV ta):=by
 intro jb s σ H Q I h;refine UnaryOp_ (thn (ha jb s σ H _ I h) λv s1 ⟨x,H1,I1,r1,q1⟩=>?_);obtain⟨c,rfl,q1⟩:=q1;cases r1;exact not_of (U5 ⟨.bl (!c),H1,I1,rfl,q1⟩)
def tIf (t:TT)(ta tb:TE):TE:=λσ H Q=>t σ H λc H1=>if c=true then ta σ H1 Q else tb σ H1 Q
theorem Ga (hc:PT X c tA)(ha:PE X a ta)(hb:PE X b tb):PE X (.IfExp c a b pos) (tIf tA ta tb):=by
 intro jb s σ H Q I h;refine wpAny_IfExp (thn (hc jb s σ H _ I h) λd s1 ⟨H1,I1,q1⟩=>?_);cases d with
 |true=>exact ha jb s1 σ H1 Q I1 q1
 |false=>exact hb jb s1 σ H1 Q I1 q1
end
def SqL (K:A8)(H:Hp)(a:A0)(xs:List V):Prop:=
 Rd H a (.lst xs)\/
   ∃(o:Obj) (jf:Array A1) (n:Nat),K.lookup a=some o/\o.cls=.type "list"/\o.dict=none/\o.data=.seq jf n/\jf.size<=C4/\Vals xs jf.toList
def SqT (K:A8)(H:Hp)(a:A0)(xs:List V):Prop:=
 Rd H a (.tup xs)\/
   ∃(o:Obj) (jf:Array A1) (n:Nat),K.lookup a=some o/\o.cls=.type "tuple"/\o.data=.seq jf n/\jf.size<=C4/\Vals xs jf.toList
def absV:A1->Option V
 |.none=>some .non
 |.bool b=>some (.bl b)
 |.int i _=>some (.int i)
 |.str x _=>some (.str x)
 |.bytes b _=>some (.byt b)
 |.float b _=>some (.flt b)
 |.ref a=>some (.ref a)
 |.type n=>some (.ty n)
 |_=>none
theorem RelV.abs {x:V}{u:A1}(r:RelV x u):absV u=some x:=by grind [RelV,V,absV]
theorem RelV.inj {x y:V}{u:A1}(r:RelV x u)(q:RelV y u):x=y:=by grind [RelV,V]
theorem Vals.inj (h:Vals xs us)(h':Vals ys us):xs=ys:=by
 induction h generalizing ys with
 |nil=>cases h';rfl
 |cons r t ih=>cases h' with|cons r' t'=>rw[r.inj r',ih t']
section
variable {X:Cx}{jb:List (A0×Obj)}{σ:St}{H:Hp}{s:A5}{a:A0}{xs ys:List V}
theorem SqL.of {K:A8}(h:H a=some (.lst xs)):SqL K H a xs:=.inl (.inl h)
theorem SqT.of {K:A8}(h:H a=some (.tup xs)):SqT K H a xs:=.inl (.inl h)
theorem Inv.list (I:Inv X jb σ H s)(h:SqL X.K H a xs):∃jf:List A1,Vals xs jf/\PlainL s.heap a jf.toArray/\xs.length<=C4:=by
 rcases h with h|⟨o,jf,n,hk,hc,hd,hs,hz,r⟩
 ·obtain⟨z,jf,n,r,e⟩:=h.ok I.hok;exact⟨jf,r,⟨_,n,e,rfl,rfl,rfl⟩,z⟩
 ·refine⟨jf.toList,r,⟨o,n,I.kIn a o hk,hc,hd,by simpa using hs⟩,?_⟩;have e:=r.length;simp only[M6] at e;omega
theorem Inv.tuple (I:Inv X jb σ H s)(h:SqT X.K H a xs):∃jf:List A1,Vals xs jf/\IsTup s.heap a jf.toArray/\xs.length<=C4:=by
 rcases h with h|⟨o,jf,n,hk,hc,hs,hz,r⟩
 ·obtain⟨z,jf,r,p⟩:=h.ok I.hok;exact⟨jf,r,p.is,z⟩
 ·refine⟨jf.toList,r,⟨o,I.kIn a o hk,hc,n,by simpa using hs⟩,?_⟩;have e:=r.length;simp only[M6] at e;omega
theorem Inv.list_inj (I:Inv X jb σ H s)(h:SqL X.K H a xs)(h':SqL X.K H a ys):xs=ys:=by
 obtain⟨jf,r,⟨o,n,e,_,_,d⟩,_⟩:=I.list h;obtain⟨its',r',⟨o',n',e',_,_,d'⟩,_⟩:=I.list h';rw[e] at e';cases e';rw[d] at d';injection d' with d1 _;have:jf=its':=by simpa using congrArg Array.toList d1
 subst this;exact r.inj r'
theorem Inv.tuple_inj (I:Inv X jb σ H s)(h:SqT X.K H a xs)(h':SqT X.K H a ys):xs=ys:=by
 obtain⟨jf,r,⟨o,e,_,n,d⟩,_⟩:=I.tuple h;obtain⟨its',r',⟨o',e',_,n',d'⟩,_⟩:=I.tuple h';rw[e] at e';cases e';rw[d] at d';injection d' with d1 _;have:jf=its':=by simpa using congrArg Array.toList d1
 subst this;exact r.inj r'
end
abbrev Cx.wish (X:Cx)(E:A1->A5->Prop):Cx:={ X with xe:=E }
abbrev Cx.nox (X:Cx):Cx:=X.wish λ_ _=>False
theorem Cx.Ok.wish {X:Cx}(ok:X.Ok)(E:A1->A5->Prop):(X.wish E).Ok:=
 ⟨ok.mod,ok.kind,ok.glob,ok.blt,ok.above,ok.inj,ok.has,ok.cab,ok.hd,ok.frames,ok.stk,ok.exf,ok.bs,ok.bsz,ok.noex,ok.exfs,ok.funs,ok.frf,ok.nos⟩
theorem Cx.Ok.unwish {X:Cx}(ok:(X.wish E).Ok):X.Ok:=
 ⟨ok.mod,ok.kind,ok.glob,ok.blt,ok.above,ok.inj,ok.has,ok.cab,ok.hd,ok.frames,ok.stk,ok.exf,ok.bs,ok.bsz,ok.noex,ok.exfs,ok.funs,ok.frf,ok.nos⟩
section
variable {X:Cx}{jb:List (A0×Obj)}{σ:St}{H:Hp}{s:A5}{E:A1->A5->Prop}
theorem Inv.wish (I:Inv X jb σ H s)(E:A1->A5->Prop):Inv (X.wish E) jb σ H s:=⟨I.ok.wish E,I.os,I.bare,I.base,I.loc,I.cell,I.free,I.freeC,I.pin,I.hok,I.len⟩
theorem Inv.unwish (I:Inv (X.wish E) jb σ H s):Inv X jb σ H s:=⟨I.ok.unwish,I.os,I.bare,I.base,I.loc,I.cell,I.free,I.freeC,I.pin,I.hok,I.len⟩
theorem SP.unwish (h:SP (X.wish E) jb D f s'):SP X jb D f s':=by
 cases f with
 |next=>obtain⟨σ',H',I,q⟩:=h;exact⟨σ',H',I.unwish,q⟩
 |brk=>obtain⟨σ',H',I,q⟩:=h;exact⟨σ',H',I.unwish,q⟩
 |cont=>obtain⟨σ',H',I,q⟩:=h;exact⟨σ',H',I.unwish,q⟩
 |ret u=>obtain⟨v,σ',H',I,r,q⟩:=h;exact⟨v,σ',H',I.unwish,r,q⟩
theorem PSs.nox {st:List Stmt}(h:PSs X.nox st t):PSs X st t:=λjb s σ H D I hw=>
 K3 (h jb s σ H D (I.wish _) hw) (λ_ _ q=>q.unwish) λ_ _ z=>Z5 z
end
section
variable {X:Cx}{st:Stmt}{rest:List Stmt}{t u:TS}{e:Expr}{te:TE}{pos:Pos}
def tNext:TS:=λD σ H=>D.nx σ H
def tSeq (t u:TS):TS:=λD σ H=>t { D with nx:=u D } σ H
theorem IH:PSs X [] tNext:=λ_ _ σ H _ I h=>DE ⟨σ,H,I,h⟩
theorem X6 (h1:PS X st t)(h2:PSs X rest u):PSs X (st::rest) (tSeq t u):=by
 intro jb s σ H D I h;refine wpAny_execs_cons (thn (h1 jb s σ H { D with nx:=u D } I h) λf s1 q=>?_);cases f with
 | next =>
  obtain⟨σ',H',I',q⟩:=q;exact h2 jb s1 σ' H' D I' q
 |ret v=>exact q
 |brk=>exact q
 |cont=>exact q
theorem Eg (h1:PS X st t):PSs X [st] t:=by
 intro jb s σ H D I h;refine wpAny_execs_cons (thn (h1 jb s σ H D I h) λf s1 q=>?_);cases f with
 |next=>exact DE q
 |ret v=>exact q
 |brk=>exact q
 |cont=>exact q
theorem Inv.quiet (I:Inv X jb σ H s):interactive X.env=false:=by simp[interactive,I.ok.kind]
def Gb (te:TE):TS:=λD σ H=>te σ H λ_ H1=>D.nx σ H1
theorem MM (he:PE X e te)(hs:k9 e none pos.line X.env=pure false:=by rfl):PS X (.Expr e pos) (Gb te):=by
 intro jb s σ H D I h;exact wpAny_Expr_any (thn (he jb s σ H _ I h) λv s1 ⟨x,H1,I1,r1,q1⟩=>⟨σ,H1,I1,q1⟩) I.quiet hs
def tRet (te:TE):TS:=λD σ H=>te σ H D.rt
theorem CC (he:PE X e te):PS X (.Return (some e) pos) (tRet te):=by
 intro jb s σ H D I h;exact wpAny_Return_some (thn (he jb s σ H _ I h) λv s1 ⟨x,H1,I1,r1,q1⟩=>⟨x,σ,H1,I1,r1,q1⟩)
def tIfS (c:TT)(t u:TS):TS:=λD σ H=>c σ H λb H1=>if b=true then t D σ H1 else u D σ H1
theorem ps_if (hc:PT X c tc)(ha:PSs X a t)(hb:PSs X b u):PS X (.If c a b pos) (tIfS tc t u):=by
 intro jb s σ H D I h;refine wpAny_If (thn (hc jb s σ H _ I h) λd s1 ⟨H1,I1,q1⟩=>?_);cases d with
 |true=>exact ha jb s1 σ H1 D I1 q1
 |false=>exact hb jb s1 σ H1 D I1 q1
end
abbrev TG:=V->St->Hp->(St->Hp->Prop)->Prop
abbrev TGs:=List V->St->Hp->(St->Hp->Prop)->Prop
def PG (X:Cx)(target:Expr)(t:TG):Prop:=
 ∀ (jb : List (A0 × Obj)) (s : A5) (σ : St) (H : Hp) (v : V) (u : A1) (Q : St -> Hp -> Prop), Inv X jb σ H s -> RelV v u -> t v σ H Q ->
   A6 (A9 X.prog X.w) X.A (assign target X.env u) (λ_ s'=>∃σ' H',Inv X jb σ' H' s'/\Q σ' H') X.xe s
def PGs (X:Cx)(ts:List Expr)(t:TGs):Prop:=
 ∀ (jb : List (A0 × Obj)) (s : A5) (σ : St) (H : Hp) (vs : List V) (us : List A1) (Q : St -> Hp -> Prop), Inv X jb σ H s -> Vals vs us -> t vs σ H Q ->
   A6 (A9 X.prog X.w) X.A (x4 ((K6 ts X.env).map (·.2)) us) (λ_ s'=>∃σ' H',Inv X jb σ' H' s'/\Q σ' H') X.xe s
abbrev TSet:=V->V->V->Hp->(Hp->Prop)->Prop
def PSet (X:Cx)(t:TSet):Prop:=
 ∀ (jb : List (A0 × Obj)) (s : A5) (σ : St) (H : Hp) (o i v : V) (ov iv u : A1) (Q : Hp -> Prop), Inv X jb σ H s -> RelV o ov -> RelV i iv -> RelV v u -> t o i v H Q ->
   A6 (A9 X.prog X.w) X.A (setItem ov iv u) (λ_ s'=>∃H',Inv X jb σ H' s'/\Q H') X.xe s
section
variable {X:Cx}{pos:Pos}
def M1 (i:Nat):TG:=λv σ H Q=>Q (σ.set i (some v)) H
theorem MN (hN:X.N.Nodup)(hi:X.N[i]?=some x)(hx:Loc X.env.scope x)(hf:X.fn x=true\/X.env.scope.names.lookup x=some .local:=by first|exact .inl rfl|exact .inr rfl|assumption):PG X (.Name x pos) (M1 i):=by
 intro jb s σ H v u Q I r h;exact DA (i8 I hN hi hx r (λs' I'=>⟨_,H,I',h⟩) hf)
def gNil:TGs:=λvs σ H Q=>vs=[]/\Q σ H
def o8 (t:TG)(u:TGs):TGs:=λvs σ H Q=>∃v r,vs=v::r/\t v σ H λσ' H'=>u r σ' H' Q
theorem Gc:PGs X [] gNil:=by
 intro jb s σ H vs us Q I r h;obtain⟨e,h⟩:=h;subst e;cases r;exact DW ⟨σ,H,I,h⟩
theorem Eh (h1:PG X e t)(h2:PGs X es u)
   (hs:(K6 (e::es) X.env).map (·.2)=assign e X.env::(K6 es X.env).map (·.2):=by rfl):PGs X (e::es) (o8 t u):=by
 intro jb s σ H vs us Q I r h;obtain⟨v,vr,e1,h⟩:=h;subst e1;cases r with
 | cons r rr =>
  rw[hs];refine n6 (thn (h1 jb s σ H _ _ _ I r h) λ_ s1 ⟨σ1,H1,I1,q1⟩=>?_);exact h2 jb s1 σ1 H1 _ _ Q I1 rr q1
def gTup (K:A8)(n:Nat)(t:TGs):TG:=λv σ H Q=>∃a xs,v=.ref a/\SqT K H a xs/\xs.length=n/\t xs σ H Q
theorem Ge (hc:X.calm=true)(h:PGs X es t)
   (hn:(K6 es X.env).length=n:=by rfl) (hst:(K6 es X.env).findIdx? (·.1)=none:=by rfl):PG X (.Tuple es k pos) (gTup X.K n t):=by
 intro jb s σ H v u Q I r hw;obtain⟨a,xs,e1,hq,hl,hw⟩:=hw;subst e1;cases r;obtain⟨jf,rv,ht,hz⟩:=I.tuple hq;refine assign_Tuple_tuple (I.ok.hd hc) ht (by simp[hn,<- hl,rv.length]) hst λh' hx=>?_;have I1:Inv X jb σ H { s with heap:=h' }:=I.kept (t':=s.toks) λb o e=>hx b o (D7 (C5 e)) e;exact h jb _ σ H xs _ Q I1 (by simpa using rv) hw
def gSub (to ti:TE)(t:TSet):TG:=λv σ H Q=>to σ H λo H1=>ti σ H1 λi H2=>t o i v H2 λH3=>Q σ H3
theorem Gf (ho:PE X o to)(hi:PE X i ti)(hs:PSet X t)
   (ha:∀v,assign (.Subscript o i pos) X.env v=(do
    let ov ← R5 [v] (eval o X.env)
    let iv ← R5 [v,ov] (eval i X.env)
    Z1 pos
    R5 [v,ov,iv] (setItem ov iv v)
    release [v,ov,iv] []):=by intro _;rfl):PG X (.Subscript o i pos) (gSub to ti t):=by
 intro jb s σ H v u Q I r h;rw[ha];refine A3 (J7 (thn (ho jb s σ H _ I h) λov s1 ⟨x,H1,I1,r1,q1⟩=>?_));refine A3 (J7 (thn (hi jb s1 σ H1 _ I1 q1) λiv s2 ⟨y,H2,I2,r2,q2⟩=>?_));refine A3 (U7 (A3 (J7 (thn (hs jb s2 σ H2 x y v ov iv u _ I2 r1 r2 r q2) λ_ s3 ⟨H3,I3,q3⟩=>?_))));exact wpAny_release ⟨σ,H3,I3,q3⟩
def tAsg (te:TE)(g:TG):TS:=λD σ H=>te σ H λx H1=>g x σ H1 D.nx
theorem Gg (he:PE X e te)(hg:PG X tg g)(hs:AI [tg] e pos.line X.env=pure false:=by rfl)(hw:AJ [tg] e X.env=pure none:=by rfl)
   (h1:(K6 [tg] X.env).map (·.2)=[assign tg X.env]:=by rfl):PS X (.Assign [tg] e pos) (tAsg te g):=by
 intro jb s σ H D I h;refine wpAny_Assign_stores (thn (he jb s σ H _ I h) λv s1 ⟨x,H1,I1,r1,q1⟩=>?_) hs hw;rw[h1];exact thn (hg jb s1 σ H1 x v _ I1 r1 q1) λ_ s2 q=>q
theorem p6 (hN:X.N.Nodup)(hi:X.N[i]?=some x)(hx:Loc X.env.scope x)(he:PE X e te)(hs:k9 e (some (.Name x pos')) pos.line X.env=pure false:=by rfl)(hf:X.fn x=true\/X.env.scope.names.lookup x=some .local:=by first|exact .inl rfl|exact .inr rfl|assumption) :
   PS X (.Assign [.Name x pos'] e pos) (tAsg te (M1 i)):=by
 intro jb s σ H D I h;refine wpAny_Assign_Name (thn (he jb s σ H _ I h) λv s1 ⟨y,H1,I1,r1,q1⟩=>?_) hs;exact i8 I1 hN hi hx r1 (λs2 I2=>⟨_,H1,I2,q1⟩) hf
def tPar (i j:Nat)(ta:TA):TS:=λD σ H=>ta σ H λvs H1=>∃v w,vs=[v,w]/\D.nx ((σ.set i (some v)).set j (some w)) H1
theorem ps_par {i j:Nat}{x y:Str}{a b:Expr}{ta:TA}{px py pt:Pos}{kt k2 pt2}(hc:X.calm=true)(hN:X.N.Nodup)(hi:X.N[i]?=some x)(hj:X.N[j]?=some y)(hij:i≠j)
   (hx:X.env.scope.names.lookup x=some .local) (hy:X.env.scope.names.lookup y=some .local) (ha:PA X [a,b] ta)
   (hw:AJ [.Tuple [.Name x px,.Name y py] kt pt] (.Tuple [a,b] k2 pt2) X.env=pure (some [x,y]))
   (hs:AI [.Tuple [.Name x px,.Name y py] kt pt] (.Tuple [a,b] k2 pt2) pos.line X.env=pure false:=by rfl) :
   PS X (.Assign [.Tuple [.Name x px,.Name y py] kt pt] (.Tuple [a,b] k2 pt2) pos) (tPar i j ta):=by
 intro jb s σ H D I h;rw[exec_Assign_arm];refine A3 (U7 ?_);rw[hs];refine A3 (B0 ?_);rw[jt (by decide)];refine A3 (Tuple_ (thn (ha _ jb s σ H _ I h) λus s1 ⟨vs,H1,I1,r1,q1⟩=>?_));obtain⟨v,w,e1,q1⟩:=q1;subst e1
 obtain⟨u1,u2,rfl,rv,rw'⟩:∃u1 u2,us=[u1,u2]/\RelV v u1/\RelV w u2:=by
  cases r1 with
  | cons p q =>
   cases q with
   | cons p' q' =>
    cases q';exact⟨_,_,rfl,p,p'⟩
 refine N5 ?_ (by show 2<=C4;decide);have I2:Inv X jb σ H1 { s1 with heap:=s1.heap.push { cls:=.type "tuple",data:=.seq [u1,u2].toArray } }:=I1.kept (t':=s1.toks) λb o e=>D0 _ e;rw[hw];refine A3 (B0 ?_);show A6 (A9 X.prog X.w) X.A (do rule "assign.swapped-stores";let items ← unpackItems (.ref s1.heap.objs.size) 2 none;x4 [λv=>Y9 X.env y v,λv=>Y9 X.env x v] items.reverse;pure Flow.next) _ _ _;refine A3 (e7 (A3 (unpackItems_tuple (items:=#[u1,u2]) (I.ok.hd hc) (IsTup.new s1.heap _) λh' hx'=>?_)));have I3:=I2.kept (h':=h') (t':=s1.toks) λb o e=>hx' b o (D7 (C5 e)) e;show A6 _ _ (x4 [λv=>Y9 X.env y v,λv=>Y9 X.env x v] [u2,u1]>>=λ_=>pure Flow.next) _ _ _;refine A3 (n6 (Ce (i8 I3 hN hj (.inl hy) rw' (λs2 I4=>?_) (.inr hy))));refine n6 (Ce (i8 I4 hN hi (.inl hx) rv (λs3 I5=>DW (B0 ?_)) (.inr hx)));rw[List.set_comm _ _ (Ne.symm hij)] at I5;exact⟨_,H1,I5,q1⟩
end
section
variable {X:Cx}{pos:Pos}
def tWhile (c:TT)(tb:TS):TS:=λD σ H=>∃W:Nat->St->Hp->Prop,(∃m,W m σ H)/\∀m σ H,W m σ H->
 c σ H λb H1=>if b=true then ∃N:St->Hp->Prop,(∀σ' H',N σ' H'->∃m',m'<m/\W m' σ' H')/\tb { D with nx:=N,ct:=N,bk:=D.nx } σ H1 else D.nx σ H1
theorem MO (hp:PassesOwn (A9 X.prog X.w) X.A X.env X.xe)(hc:PT X c tc)(hb:PSs X body tb):PS X (.While c body [] pos) (tWhile tc tb):=by
 intro jb s σ H D I h;obtain⟨W,⟨m0,w0⟩,turn⟩:=h;refine wpAny_While (codeAny_whileLoop (λn s'=>∃σ' H',Inv X jb σ' H' s'/\W n σ' H') ?_ m0 ⟨σ,H,I,w0⟩);rintro n s1 ⟨σ1,H1,I1,w1⟩;refine w9 hp (thn (hc jb s1 σ1 H1 _ I1 (turn n σ1 H1 w1)) λb s2 ⟨H2,I2,q2⟩=>?_);cases b with
 | true =>
  obtain⟨N,hN,q2⟩:=q2;rw[jr rfl];refine w9 hp (thn (hb jb s2 σ1 H2 _ I2 q2) λf s3 q3=>?_);cases f with
  | next =>
   obtain⟨σ3,H3,I3,n3⟩:=q3;obtain⟨m',hm,w3⟩:=hN σ3 H3 n3;exact⟨m',hm,σ3,H3,I3,w3⟩
  | cont =>
   obtain⟨σ3,H3,I3,n3⟩:=q3;obtain⟨m',hm,w3⟩:=hN σ3 H3 n3;exact⟨m',hm,σ3,H3,I3,w3⟩
  |brk=>exact q3
  |ret v=>exact q3
 | false =>
  rw[jt T9];exact DE ⟨σ1,H2,I2,q2⟩
end
structure It where
 go:Nat->Hp->Prop
 yld:Nat->Hp->V->Hp->Prop
 stop:Nat->Hp->Prop
def FpOk (X:Cx)(jb:List (A0×Obj))(H:Hp)(b:A0):Prop:=
 H b=none/\b≠X.env.locals/\b∉X.fs/\(b∈X.ex\/X.s₀.heap.objs.size<=b)/\(∀x c,X.env.cells.lookup x=some c->c≠b)/\∀p∈X.pn++jb,p.1≠b
theorem Inv.fpOk (I:Inv X jb σ H s)(hb:s.heap.objs.size<=b)(hn:H' b=none):FpOk X jb H' b:=by
 refine⟨hn,y9 (K7 I.lt hb),I.nofs hb,.inr (N1 I.sz hb),λx c e z=>?_,λp hp z=>?_⟩
 ·obtain⟨v,q⟩:=I.cell x c e;exact absurd (K7 q.lt (by rw[z];exact hb)) (Z4 _)
 ·exact absurd (K7 (C5 (I.pin p hp).1) (by rw[z];exact hb)) (Z4 _)
structure Turn (P:D1)(w:C8)(K:A8)(tg:Expr)(J:It)(fp:List A0)(it:A0)(tn:Nat->B7->Prop):Prop where
 mem:it∈fp
 obj:∀i h,tn i h->∀b∈fp,∃o,h.get? b=some o/\∀v,o.data≠.cell v
 keep:∀i h h',tn i h->(∀b∈fp,∀o,h.get? b=some o->h'.get? b=some o)->tn i h'
 item:∀(X:Cx),X.prog=P->X.w=w->X.K=K->X.calm=true->∀(i:Nat) (jb:List (A0×Obj)) (s:A5) (σ:St) (H:Hp) (E:A1->A5->Prop),Inv X jb σ H s->(∀b∈fp,FpOk X jb H b)->tn i s.heap->J.go i H->
   A6 (A9 P w) X.A (pyNext (.ref it)) (λr s1=>∃u,r=some u/\
     A6 (A9 P w) X.A (k5 tg (.ref it) u) (λ_ s2=>∃x H',Inv X jb σ H' s2/\RelV x u/\J.yld i H x H'/\tn (i+1) s2.heap/\∀b∈fp,H' b=none) E s1) E s
 done:∀(X:Cx),X.prog=P->X.w=w->X.K=K->X.calm=true->∀(i:Nat) (jb:List (A0×Obj)) (s:A5) (σ:St) (H:Hp) (E:A1->A5->Prop),Inv X jb σ H s->(∀b∈fp,FpOk X jb H b)->tn i s.heap->J.stop i H->
   A6 (A9 P w) X.A (pyNext (.ref it)) (λr s1=>r=none/\Inv X jb σ H s1) E s
 self:∀(A:D5) (i:Nat) (s:A5) (Q:A1->A5->Prop) (E:A1->A5->Prop),tn i s.heap->Q (.ref it) s->A6 (A9 P w) A (pyIter (.ref it)) Q E s
abbrev TI:=St->Hp->(It->Hp->Prop)->Prop
def PIE (X:Cx)(jb:List (A0×Obj))(σ:St)(tg:Expr)(R:It->Hp->Prop)(itv:A1)(s2:A5):Prop:=
 ∃(it:A0) (fp:List A0) (tn:Nat->B7->Prop) (J:It) (H':Hp),itv=.ref it/\Inv X jb σ H' s2/\Turn X.prog X.w X.K tg J fp it tn/\tn 0 s2.heap/\(∀b∈fp,FpOk X jb H' b)/\R J H'
def PI (X:Cx)(tg iter:Expr)(wi:TI):Prop:=
 ∀ (jb : List (A0 × Obj)) (s : A5) (σ : St) (H : Hp) (R : It -> Hp -> Prop), Inv X jb σ H s -> wi σ H R ->
   A6 (A9 X.prog X.w) X.A (eval iter X.env) (λv s1=>A6 (A9 X.prog X.w) X.A (pyIter v) (PIE X jb σ tg R) X.xe s1) X.xe s
theorem Ei (ho:s.heap.get? it=some o)(hc:o.cls=.type n)(hd:o.data=.fields vs)
   (hn:["enumerate","zip","dict_itemiterator","dict_reverseitemiterator","odict_iterator","itertools.zip_longest","itertools.pairwise"].contains n=false) (hQ:Q () s):A6 M A (k5 tg (.ref it) u) Q E s:=by
 unfold k5
 cases tg <;> first
   |exact B0 hQ
   |(cases u <;> first
       |exact B0 hQ
       | (refine A3 (wpAny_load ho ?_)
          rw[hc,hd];show A6 M A (if(["enumerate","zip","dict_itemiterator","dict_reverseitemiterator","odict_iterator","itertools.zip_longest","itertools.pairwise"].contains n&&vs[0]? == some (rawInt _))=true then _ else _) Q E s;rw[jt (by intro h;rw[hn,Be] at h;cases h)]
          exact B0 hQ))
def Itl (K:A8)(a:A0):It:=
 ⟨λi H=>∃xs x,SqL K H a xs/\xs[i]?=some x,λi H x H'=>H'=H/\∀xs,SqL K H a xs->xs[i]?=some x,λi H=>∃xs,SqL K H a xs/\xs.length<=i⟩
def Itt (K:A8)(a:A0):It:=
 ⟨λi H=>∃xs x,SqT K H a xs/\xs[i]?=some x,λi H x H'=>H'=H/\∀xs,SqT K H a xs->xs[i]?=some x,λi H=>∃xs,SqT K H a xs/\xs.length<=i⟩
def Itr (lo:Int)(n:Nat):It:=⟨λi _=>i<n,λi H x H'=>H'=H/\x=.int (lo+i),λi _=>n<=i⟩
theorem MP {K:A8}(a it:A0):Turn P w K tg (Itl K a) [it] it (λi h=>h.IsListIter it a i) where
 mem:=by simp
 obj:=λi h st b hb=>by
  have e:b=it:=by simpa using hb
  subst e;obtain⟨o,e,c,d⟩:=st;exact⟨o,e,λv z=>by rw[d] at z;cases z⟩
 keep:=λi h h' st k=>st.at λo e=>k it (by simp) o e
 item:=by
  intro X hP hw hK hc i jb s σ H E I hf st hg;subst hP hw hK;obtain⟨xs,x,hq,hx⟩:=hg;obtain⟨jf,rv,p,hz⟩:=I.list hq;obtain⟨u,hu,ru⟩:=rv.get hx;obtain⟨f0,f1,f2,f3,f4,f5⟩:=hf it (by simp);refine wpAny_pyNext_list_item st p.isList (x:=u) (by simpa using hu) λh' st' sb=>?_;have I1:Inv X jb σ H { s with heap:=h' }:=I.turned (t':=s.toks) (λb o hb e=>(sb.2 b hb).trans e) f0 f1 f3 f4 f5;obtain⟨o,e,c,d⟩:=id st';exact⟨u,rfl,Ei (s:={ s with heap:=h' }) e c d (by decide) ⟨x,H,I1,ru,⟨rfl,λys hy=>by rw[I.list_inj hy hq];exact hx⟩,st',λb hb=>(hf b hb).1⟩⟩
 done:=by
  intro X hP hw hK hc i jb s σ H E I hf st hg;subst hP hw hK;obtain⟨xs,hq,hx⟩:=hg;obtain⟨jf,rv,p,hz⟩:=I.list hq;obtain⟨f0,f1,f2,f3,f4,f5⟩:=hf it (by simp);have hl:=rv.length;exact wpAny_pyNext_list_end (I.ok.hd hc) st p.isList (by simp;omega) λh' eb=>⟨rfl,I.turned (t':=s.toks) (λb o hb e=>eb b o hb e) f0 f1 f3 f4 f5⟩
 self:=λ_ _ _ _ _ st h=>wpAny_pyIter_listiter st h
theorem MQ {K:A8}(a it:A0):Turn P w K tg (Itt K a) [it] it (λi h=>h.IsTupleIter it a i) where
 mem:=by simp
 obj:=λi h st b hb=>by
  have e:b=it:=by simpa using hb
  subst e;obtain⟨o,e,c,d⟩:=st;exact⟨o,e,λv z=>by rw[d] at z;cases z⟩
 keep:=λi h h' st k=>st.at λo e=>k it (by simp) o e
 item:=by
  intro X hP hw hK hc i jb s σ H E I hf st hg;subst hP hw hK;obtain⟨xs,x,hq,hx⟩:=hg;obtain⟨jf,rv,p,hz⟩:=I.tuple hq;obtain⟨u,hu,ru⟩:=rv.get hx;obtain⟨f0,f1,f2,f3,f4,f5⟩:=hf it (by simp);refine wpAny_pyNext_tuple_item st (show s.heap.IsTuple a jf.toArray from p) (x:=u) (by simpa using hu) λh' st' sb=>?_;have I1:Inv X jb σ H { s with heap:=h' }:=I.turned (t':=s.toks) (λb o hb e=>(sb.2 b hb).trans e) f0 f1 f3 f4 f5;obtain⟨o,e,c,d⟩:=id st';exact⟨u,rfl,Ei (s:={ s with heap:=h' }) e c d (by decide) ⟨x,H,I1,ru,⟨rfl,λys hy=>by rw[I.tuple_inj hy hq];exact hx⟩,st',λb hb=>(hf b hb).1⟩⟩
 done:=by
  intro X hP hw hK hc i jb s σ H E I hf st hg;subst hP hw hK;obtain⟨xs,hq,hx⟩:=hg;obtain⟨jf,rv,p,hz⟩:=I.tuple hq;obtain⟨f0,f1,f2,f3,f4,f5⟩:=hf it (by simp);have hl:=rv.length;exact wpAny_pyNext_tuple_end (I.ok.hd hc) st (show s.heap.IsTuple a jf.toArray from p) (by simp;omega) λh' eb=>⟨rfl,I.turned (t':=s.toks) (λb o hb e=>eb b o hb e) f0 f1 f3 f4 f5⟩
 self:=λ_ _ _ _ _ st h=>wpAny_pyIter_tupleiter st h
theorem MR {K:A8}(it:A0)(lo:Int)(n:Nat):Turn P w K tg (Itr lo n) [it] it (λi h=>IsRangeIter h it (lo+(i:Nat)*1) ((n:Int)-(i:Nat)) 1) where
 mem:=by simp
 obj:=fun i h st b hb=>by
  have e:b=it:=by simpa using hb
  subst e
  exact⟨_,st,λv z=>by
   have z':CB _=Data.cell v:=z
   cases z'⟩
 keep:=λi h h' st k=>k it (by simp) _ st
 item:=by
  intro X hP hw hK hc i jb s σ H E I hf st hg;subst hP hw hK;obtain⟨f0,f1,f2,f3,f4,f5⟩:=hf it (by simp);have W:=Walks.range (prog:=X.prog) (w:=X.w) (I.ok.hd hc) it lo 1 n;refine W.item i s _ _ hg st λv h' tk hv st' kk=>?_;obtain⟨t,rfl⟩:=hv;have I1:Inv X jb σ H { s with heap:=h',toks:=tk }:=I.turned (λb o hb e=>kk b o (by simpa using hb) e) f0 f1 f3 f4 f5;refine⟨_,rfl,Ei (s:={ s with heap:=h',toks:=tk }) (n:="range_iterator") st' rfl rfl (by decide) ⟨.int (lo+i),H,I1,⟨t,?_⟩,⟨rfl,rfl⟩,st',λb hb=>(hf b hb).1⟩⟩;rw[Int.mul_one]
 done:=by
  intro X hP hw hK hc i jb s σ H E I hf st hg;subst hP hw hK;obtain⟨f0,f1,f2,f3,f4,f5⟩:=hf it (by simp);exact wpAny_pyNext_range_end (I.ok.hd hc) st (by have:n<=i:=hg;omega) λh' eb=>⟨rfl,I.turned (t':=s.toks) (λb o hb e=>eb b o hb e) f0 f1 f3 f4 f5⟩
 self:=λ_ _ _ _ _ st h=>wpAny_pyIter_rangeiter st h
section
variable {X:Cx}{tg:Expr}
def iList (K:A8)(tl:TE):TI:=λσ H R=>tl σ H λx H1=>∃a,x=.ref a/\(∃xs,SqL K H1 a xs)/\R (Itl K a) H1
def iTup (K:A8)(tl:TE):TI:=λσ H R=>tl σ H λx H1=>∃a,x=.ref a/\(∃xs,SqT K H1 a xs)/\R (Itt K a) H1
theorem MS (hl:PE X l tl):PI X tg l (iList X.K tl):=by
 intro jb s σ H R I h;refine thn (hl jb s σ H _ I h) λv s1 ⟨x,H1,I1,r1,q1⟩=>?_;obtain⟨a,e,⟨xs,hq⟩,q⟩:=q1;subst e;cases r1;obtain⟨jf,rv,p,hz⟩:=I1.list hq;refine Cc p.isList ?_;refine⟨s1.heap.objs.size,[s1.heap.objs.size],_,_,H1,rfl,I1.kept (t':=s1.toks) λb o e=>D0 _ e,MP a _,⟨_,G4 _ rfl,rfl,rfl⟩,λb hb=>?_,q⟩;have e:b=s1.heap.objs.size:=by simpa using hb
 subst e;exact I1.fpOk (B9 _) (I1.hok.fresh (B9 _))
theorem pi_tup (hl:PE X l tl):PI X tg l (iTup X.K tl):=by
 intro jb s σ H R I h;refine thn (hl jb s σ H _ I h) λv s1 ⟨x,H1,I1,r1,q1⟩=>?_;obtain⟨a,e,⟨xs,hq⟩,q⟩:=q1;subst e;cases r1;obtain⟨jf,rv,p,hz⟩:=I1.tuple hq;refine Cb (show s1.heap.IsTuple a jf.toArray from p) ?_;refine⟨s1.heap.objs.size,[s1.heap.objs.size],_,_,H1,rfl,I1.kept (t':=s1.toks) λb o e=>D0 _ e,MQ a _,⟨_,G4 _ rfl,rfl,rfl⟩,λb hb=>?_,q⟩;have e:b=s1.heap.objs.size:=by simpa using hb
 subst e;exact I1.fpOk (B9 _) (I1.hok.fresh (B9 _))
theorem MT {lo hi:Int}(I:Inv X jb σ H s)(h1:-(2 ^ 62)<=lo)(h2:lo<2 ^ 62)(h3:-(2 ^ 62)<=hi)(h4:hi<2 ^ 62)
   (q:R (Itr lo (hi-lo).toNat) H):A6 (A9 X.prog X.w) X.A (pyIter (.ref s.heap.objs.size)) (PIE X jb σ tg R) E { s with heap:=s.heap.push { cls:=.type "range",data:=.fields #[.int lo t,.int hi u,.int 1 v] },toks:=tk }:=by
 refine wpAny_pyIter_range (IsRange.new ..) (small_one h1 h2 h3 h4) ?_;have I1:Inv X jb σ H { s with heap:=s.heap.push { cls:=.type "range",data:=.fields #[.int lo t,.int hi u,.int 1 v] },toks:=tk }:=I.kept λb o e=>D0 _ e
 refine⟨(s.heap.push { cls:=.type "range",data:=.fields #[.int lo t,.int hi u,.int 1 v] }).objs.size,[(s.heap.push { cls:=.type "range",data:=.fields #[.int lo t,.int hi u,.int 1 v] }).objs.size],_,_,H,rfl,
  I1.kept (t':=tk) λb o e=>D0 _ e,MR _ lo (hi-lo).toNat,?_,λb hb=>?_,q⟩
 ·have e1:lo+((0:Nat):Int)*1=lo:=by simp
  have e2:(((hi-lo).toNat:Nat):Int)-((0:Nat):Int)=Builtin.Range.rangeSize lo hi 1:=by rw[rangeSize_one];split <;> omega
  show IsRangeIter _ _ (lo+((0:Nat):Int)*1) ((((hi-lo).toNat:Nat):Int)-((0:Nat):Int)) 1;rw[e1,e2];exact G4 _ rfl
 ·have e:b=(s.heap.push { cls:=.type "range",data:=.fields #[.int lo t,.int hi u,.int 1 v] }).objs.size:=by simpa using hb
  subst e;exact I1.fpOk (B9 _) (I1.hok.fresh (B9 _))
def iRng1 (ta:TA):TI:=λσ H R=>ta σ H λvs H1=>∃j:Int,vs=[.int j]/\-(2 ^ 62)<=j/\j<2 ^ 62/\R (Itr 0 j.toNat) H1
theorem MU (hg:Gl X "range")(hm:X.mg "range"=none)(ha:PA X [a] ta)(hs:E9 [a] X.env=[(false,eval a X.env)]:=by rfl):PI X tg (.Call (.Name "range" p) [a] [] pos) (iRng1 ta):=by
 intro jb s σ H R I h;refine Call_ (Bt I hg hm boot_range (FS (thn (ha pos jb s σ H _ I h) λus s1 ⟨vs,H1,I1,r1,q1⟩=>?_) hs rfl));obtain⟨j,e,q1,q2,q⟩:=q1;subst e;cases r1 with
 | cons r rr =>
  cases rr;obtain⟨t,rfl⟩:=r;exact call_range_1 (MT I1 (by omega) (by omega) q1 q2 (by simpa using q))
def tFor (wi:TI)(g:TG)(tb:TS):TS:=λD σ H=>wi σ H λJ H1=>∃W:Nat->Nat->St->Hp->Prop,(∃m,W 0 m σ H1)/\∀i m σ H,W i m σ H->
 (J.stop i H/\D.nx σ H)\/(J.go i H/\∃N:St->Hp->Prop,(∀σ' H',N σ' H'->∃m',m'<m/\W (i+1) m' σ' H')/\∀x H',J.yld i H x H'->g x σ H' λσ2 H2=>tb { D with nx:=N,ct:=N,bk:=D.nx } σ2 H2)
def Bu (fp:List A0)(h:B7):List (A0×Obj):=fp.filterMap λb=>(h.get? b).map λo=>(b,o)
theorem Gi (hb:b∈fp)(e:h.get? b=some o):(b,o)∈Bu fp h:=List.mem_filterMap.mpr ⟨b,hb,by rw[e];rfl⟩
theorem MV (hp:p∈Bu fp h):p.1∈fp/\h.get? p.1=some p.2:=by
 obtain⟨b,hb,e⟩:=List.mem_filterMap.mp hp;cases q:h.get? b with
 |none=>rw[q] at e;cases e
 | some o =>
  rw[q] at e;have e':(b,o)=p:=M7 e;subst e';exact⟨hb,q⟩
theorem Inv.pinned (I:Inv X jb σ H s)(hf:∀b∈fp,FpOk X jb H b)(ho:∀b∈fp,∃o,s.heap.get? b=some o/\∀v,o.data≠.cell v):Inv X (jb++Bu fp s.heap) σ H s:=
 I.pins_of fun p hp=>(J8.mp hp).elim (fun z=>I.pin p (O6 _ z)) fun z=>by
  obtain⟨hb,e⟩:=MV z;obtain⟨f0,f1,f2,_⟩:=hf p.1 hb;obtain⟨o,e',d⟩:=ho p.1 hb;rw[e] at e';cases e';exact⟨e,f0,f1,f2,d⟩
theorem Inv.unpinned (I:Inv X (jb++pl) σ H s):Inv X jb σ H s:=I.pins_of λp hp=>I.pin p (O6 _ (AS _ hp))
theorem ps_for (hp:PassesOwn (A9 X.prog X.w) X.A X.env X.xe)(hc:X.calm=true)(hi:PI X tg iter wi)(hg:PG X tg g)(hb:PSs X body tb)
   (hs:∀x,R0 iter X.env x=pure x:=by intro _;rfl):PS X (.For tg iter body [] pos) (tFor wi g tb):=by
 intro jb s σ H D I h;refine wpAny_For (thn (hi jb s σ H _ I h) λv s1 h1=>thn h1 λitv s2 h2=>?_) hs;obtain⟨it,fp,tn,J,H2,e,I2,T,st2,f2,W,⟨m0,w0⟩,turn⟩:=h2;subst e
 -- what stays true of the iterator's objects through the loop
 have stat:∀{H':Hp},(∀b∈fp,H' b=none)->∀b∈fp,FpOk X jb H' b:=λhn b hb=>⟨hn b hb,(f2 b hb).2⟩;refine codeAny_forLoop_any (λn s'=>∃i σ' H',Inv X jb σ' H' s'/\tn i s'.heap/\(∀b∈fp,H' b=none)/\W i n σ' H') ?_ m0 ⟨0,σ,H2,I2,st2,λb hb=>(f2 b hb).1,w0⟩;rintro n s3 ⟨i,σ3,H3,I3,st3,fr3,w3⟩;rcases turn i n σ3 H3 w3 with⟨stop,qn⟩|⟨go,N,hN,step⟩
 ·refine w9 hp (thn (T.done X rfl rfl rfl hc i jb s3 σ3 H3 X.xe I3 (stat fr3) st3 stop) λr s4 ⟨hr,I4⟩=>?_);subst hr;exact DE ⟨σ3,H3,I4,qn⟩
 ·refine w9 hp (thn (T.item X rfl rfl rfl hc i jb s3 σ3 H3 X.xe I3 (stat fr3) st3 go) λr s4 ⟨u,hr,h4⟩=>?_);subst hr;refine w9 hp (thn h4 λ_ s5 ⟨x,H5,I5,r5,y5,st5,fr5⟩=>?_);have I5':=I5.pinned (stat fr5) (T.obj _ _ st5);refine w9 hp (thn (hg _ s5 σ3 H5 x u _ I5' r5 (step x H5 y5)) λ_ s6 ⟨σ6,H6,I6,q6⟩=>?_);refine w9 hp (thn (hb _ s6 σ6 H6 _ I6 q6) λf s7 q7=>?_)
  have again:∀{σ7:St} {H7:Hp},Inv X (jb++Bu fp s5.heap) σ7 H7 s7->N σ7 H7->∃m,m<n/\∃i σ' H',Inv X jb σ' H' s7/\tn i s7.heap/\(∀b∈fp,H' b=none)/\W i m σ' H':=λ{σ7 H7} I7 n7=>by
   obtain⟨m',hm,w7⟩:=hN σ7 H7 n7;refine⟨m',hm,i+1,σ7,H7,I7.unpinned,T.keep _ _ _ st5 λb hb o e=>(I7.pin (b,o) (O6 _ (O6 _ (Gi hb e)))).1,λb hb=>?_,w7⟩;obtain⟨o,e,d⟩:=T.obj _ _ st5 b hb;exact(I7.pin (b,o) (O6 _ (O6 _ (Gi hb e)))).2.1
  cases f with
  |next=>obtain⟨σ7,H7,I7,n7⟩:=q7;exact again I7 n7
  |cont=>obtain⟨σ7,H7,I7,n7⟩:=q7;exact again I7 n7
  |brk=>obtain⟨σ7,H7,I7,q7⟩:=q7;exact⟨σ7,H7,I7.unpinned,q7⟩
  |ret v=>obtain⟨x7,σ7,H7,I7,r7,q7⟩:=q7;exact⟨x7,σ7,H7,I7.unpinned,r7,q7⟩
end
abbrev R2:=V->V->Hp->VK->Prop
def OpR (X:Cx)(f:A1->A1->Sem A1)(r:R2):Prop:=
 ∀ (jb : List (A0 × Obj)) (s : A5) (σ : St) (H : Hp) (x y : V) (v u : A1) (Q : VK), Inv X jb σ H s -> RelV x v -> RelV y u -> r x y H Q ->
   A6 (A9 X.prog X.w) X.A (f v u) (EP X jb σ Q) X.xe s
def UnR (X:Cx)(f:A1->Sem A1)(r:V->Hp->VK->Prop):Prop:=
 ∀ (jb : List (A0 × Obj)) (s : A5) (σ : St) (H : Hp) (x : V) (v : A1) (Q : VK), Inv X jb σ H s -> RelV x v -> r x H Q ->
   A6 (A9 X.prog X.w) X.A (f v) (EP X jb σ Q) X.xe s
def L6 (X:Cx)(f:A1)(r:List V->Hp->VK->Prop):Prop:=
 ∀ (jb : List (A0 × Obj)) (s : A5) (σ : St) (H : Hp) (xs : List V) (us : List A1) (Q : VK), Inv X jb σ H s -> Vals xs us -> r xs H Q ->
   A6 (A9 X.prog X.w) X.A (call f us) (EP X jb σ Q) X.xe s
def TruR (X:Cx)(r:V->Hp->(Bool->Hp->Prop)->Prop):Prop:=
 ∀ (jb : List (A0 × Obj)) (s : A5) (σ : St) (H : Hp) (x : V) (v : A1) (Q : Bool -> Hp -> Prop), Inv X jb σ H s -> RelV x v -> r x H Q ->
   A6 (A9 X.prog X.w) X.A (truthy v) (TP X jb σ Q) X.xe s
def tOp (r:R2)(ta tb:TE):TE:=λσ H Q=>ta σ H λx H1=>tb σ H1 λy H2=>r x y H2 Q
def tUn (r:V->Hp->VK->Prop)(ta:TE):TE:=λσ H Q=>ta σ H λx H1=>r x H1 Q
def rI (C:Int->Int->Prop)(g:Int->Int->V):R2:=λx y H Q=>∃i j,x=.int i/\y=.int j/\C i j/\Q (g i j) H
def rI0 (g:Int->Int->V):R2:=λx y H Q=>∃i j,x=.int i/\y=.int j/\Q (g i j) H
def rU (g:Int->V):V->Hp->VK->Prop:=λx H Q=>∃i,x=.int i/\Q (g i) H
section
variable {X:Cx}{a b c:Expr}{ta tb tc:TE}{pos:Pos}
theorem binT (ha:PE X a ta)(hb:PE X b tb){R:V->V->Hp->Prop}(I:Inv X jb σ H s)
   (h:ta σ H λx H1=>tb σ H1 λy H2=>R x y H2) {f:A1->A1->Sem A1}
   (hf:∀v u s2 x y H2,Inv X jb σ H2 s2->RelV x v->RelV y u->R x y H2->A6 (A9 X.prog X.w) X.A (f v u) Q X.xe s2) :
   A6 (A9 X.prog X.w) X.A (eval a X.env) (λv s₁=>A6 (A9 X.prog X.w) X.A (eval b X.env) (λu s₂=>A6 (A9 X.prog X.w) X.A (f v u) Q X.xe s₂) X.xe s₁) X.xe s:=by
 refine thn (ha jb s σ H _ I h) λv s1 ⟨x,H1,I1,r1,q1⟩=>?_;refine thn (hb jb s1 σ H1 _ I1 q1) λu s2 ⟨y,H2,I2,r2,q2⟩=>?_;exact hf v u s2 x y H2 I2 r1 r2 q2
theorem L3 (ho:OpR X (R3 op) r)(ha:PE X a ta)(hb:PE X b tb):PE X (.BinOp a op b pos) (tOp r ta tb):=by
 intro jb s σ H Q I h;exact wpAny_BinOp (binT ha hb I h λv u s2 x y H2 I2 rx ry q=>ho jb s2 σ H2 x y v u Q I2 rx ry q)
theorem pe_un (ho:UnR X (unaryOp op) r)(ha:PE X a ta):PE X (.UnaryOp op a pos) (tUn r ta):=by
 intro jb s σ H Q I h;exact UnaryOp_ (thn (ha jb s σ H _ I h) λv s1 ⟨x,H1,I1,r1,q1⟩=>ho jb s1 σ H1 x v Q I1 r1 q1)
theorem opI {g:Int->Int->Int}
   (rule:∀(i j:Int) (t u:Tok) (s:A5) (Q:A1->A5->Prop) (E:A1->A5->Prop),C i j->Q (.int (g i j) s.toks) { s with toks:=s.toks+1 }->A6 (A9 X.prog X.w) X.A (f (.int i t) (.int j u)) Q E s) :
   OpR X f (rI C λi j=>.int (g i j)):=by
 intro jb s σ H x y v u Q I rx ry h;obtain⟨i,j,rfl,rfl,hc,q⟩:=h;obtain⟨t,rfl⟩:=rx;obtain⟨t',rfl⟩:=ry;exact rule i j t t' s _ _ hc ⟨.int (g i j),H,I.tok _,⟨_,rfl⟩,q⟩
theorem opI0 {g:Int->Int->Int}
   (rule:∀(i j:Int) (t u:Tok) (s:A5) (Q:A1->A5->Prop) (E:A1->A5->Prop),Q (.int (g i j) s.toks) { s with toks:=s.toks+1 }->A6 (A9 X.prog X.w) X.A (f (.int i t) (.int j u)) Q E s) :
   OpR X f (rI0 λi j=>.int (g i j)):=by
 intro jb s σ H x y v u Q I rx ry h;obtain⟨i,j,rfl,rfl,q⟩:=h;obtain⟨t,rfl⟩:=rx;obtain⟨t',rfl⟩:=ry;exact rule i j t t' s _ _ ⟨.int (g i j),H,I.tok _,⟨_,rfl⟩,q⟩
theorem opB0 {g:Int->Int->Bool}
   (rule:∀(i j:Int) (t u:Tok) (s:A5) (Q:A1->A5->Prop) (E:A1->A5->Prop),Q (.bool (g i j)) s->A6 (A9 X.prog X.w) X.A (f (.int i t) (.int j u)) Q E s) :
   OpR X f (rI0 λi j=>.bl (g i j)):=by
 intro jb s σ H x y v u Q I rx ry h;obtain⟨i,j,rfl,rfl,q⟩:=h;obtain⟨t,rfl⟩:=rx;obtain⟨t',rfl⟩:=ry;exact rule i j t t' s _ _ ⟨.bl (g i j),H,I,rfl,q⟩
def CDiv (i j:Int):Prop:=0<j/\j<1073741824
def CPow (i j:Int):Prop:=0<=j/\j<=1000000/\i.natAbs<2 ^ 64
def CMul (i j:Int):Prop:=(-(2 ^ 64)<i/\i<2 ^ 64)\/(-(2 ^ 64)<j/\j<2 ^ 64)
theorem CMul.ok (h:CMul i j):IntMulOk i j:=by
 rcases h with⟨h1,h2⟩|⟨h1,h2⟩
 ·exact .of_left (intBits_le_64 h1 h2)
 ·exact .of_right (intBits_le_64 h1 h2)
theorem p7:OpR X (R3 .Add) (rI0 λi j=>.int (i+j)):=opI0 λ_ _ _ _ _ _ _ q=>add_int q
theorem op_sub:OpR X (R3 .Sub) (rI0 λi j=>.int (i-j)):=opI0 λ_ _ _ _ _ _ _ q=>sub_int q
theorem p8:OpR X (R3 .Mult) (rI CMul λi j=>.int (i*j)):=opI λ_ _ _ _ _ _ _ hc q=>mul_int q hc.ok
theorem Gj:OpR X (R3 .FloorDiv) (rI CDiv λi j=>.int (i/j)):=opI λi j _ _ _ _ _ hc q=>by
 have h1:(0:Int)<j:=hc.1;have h2:j<1073741824:=hc.2;exact floordiv_int (by omega) (by rw[Int.fdiv_eq_ediv_of_nonneg i (by omega)];exact q) (.inl (PyProof.noPylong_small (by omega)))
theorem Ah:OpR X (R3 .Mod) (rI (λ_ j=>0<j) λi j=>.int (i%j)):=opI λi j _ _ _ _ _ hc q=>by
 have h1:(0:Int)<j:=hc;exact mod_int' (by omega) (by rw[Int.fmod_eq_emod_of_nonneg i (by omega)];exact q)
theorem op_pow:OpR X (R3 .Pow) (rI CPow λi j=>.int (i ^ j.toNat)):=opI λ_ _ _ _ _ _ _ hc q=>pow_int_small hc.1 hc.2.1 hc.2.2 q
theorem unI {g:Int->Int}
   (rule:∀(i:Int) (t:Tok) (s:A5) (Q:A1->A5->Prop) (E:A1->A5->Prop),Q (.int (g i) s.toks) { s with toks:=s.toks+1 }->A6 (A9 X.prog X.w) X.A (f (.int i t)) Q E s) :
   UnR X f (rU λi=>.int (g i)):=by
 intro jb s σ H x v Q I rx h;obtain⟨i,rfl,q⟩:=h;obtain⟨t,rfl⟩:=rx;exact rule i t s _ _ ⟨.int (g i),H,I.tok _,⟨_,rfl⟩,q⟩
theorem II:UnR X (unaryOp .USub) (rU λi=>.int (-i)):=unI λ_ _ _ _ _ q=>neg_int q
end
section
variable {X:Cx}{a b c:Expr}{ta tb tc:TE}{pos:Pos}
theorem Gk (I:Inv X jb σ H s)(q:Q (.bl k) H)(e:k=k'):EP X jb σ Q (.bool k') s:=by
 subst e;exact⟨.bl k,H,I,rfl,q⟩
theorem Gm:OpR X (M5 .Lt) (rI0 λi j=>.bl (decide (i<j))):=opB0 λ_ _ _ _ _ _ _ q=>lt_int q
theorem op_le:OpR X (M5 .LtE) (rI0 λi j=>.bl (decide (i<=j))):=opB0 λ_ _ _ _ _ _ _ q=>le_int q
theorem op_gt:OpR X (M5 .Gt) (rI0 λi j=>.bl (decide (j<i))):=opB0 λ_ _ _ _ _ _ _ q=>gt_int q
theorem op_ge:OpR X (M5 .GtE) (rI0 λi j=>.bl (decide (j<=i))):=opB0 λ_ _ _ _ _ _ _ q=>ge_int q
theorem MW:OpR X (M5 .Lt) (λx y H Q=>∃i j,x=.str i/\y=.str j/\Q (.bl (decide (i.cps.toList<j.cps.toList))) H):=by
 intro jb s σ H x y v u Q I rx ry h;obtain⟨i,j,rfl,rfl,q⟩:=h;obtain⟨t,rfl⟩:=rx;obtain⟨t',rfl⟩:=ry;exact lt_str (Gk I q rfl)
theorem MX:OpR X (M5 .In) (λx y H Q=>∃i j,x=.str i/\y=.str j/\Q (.bl (!(Bm j i 0 j.length 1).isEmpty)) H):=by
 intro jb s σ H x y v u Q I rx ry h;obtain⟨i,j,rfl,rfl,q⟩:=h;obtain⟨t,rfl⟩:=rx;obtain⟨t',rfl⟩:=ry;exact in_str (Gk I q rfl)
theorem MY:OpR X (M5 .IsNot) (λx y H Q=>y=.non/\Q (.bl (!decide (x=.non))) H):=by
 intro jb s σ H x y v u Q I rx ry h;obtain⟨rfl,q⟩:=h;cases ry;refine isnot_none_gen (Gk I q ?_)
 cases x <;> first
   |(cases rx;rfl)
   |(obtain⟨t,rfl⟩:=rx;rfl)
theorem OpR.or (h:OpR X f r)(h':OpR X f r'):OpR X f (λx y H Q=>r x y H Q\/r' x y H Q):=by
 intro jb s σ H x y v u Q I rx ry q;rcases q with q|q
 ·exact h jb s σ H x y v u Q I rx ry q
 ·exact h' jb s σ H x y v u Q I rx ry q
theorem C7 (b:Expr)(h:op≠.In:=by decide)(h2:op≠.NotIn:=by decide):x5 op b=false:=by
 have e1:(op == CmpOp.In)=false:=by cases op <;> first|rfl|exact absurd rfl h
 have e2:(op == CmpOp.NotIn)=false:=by cases op <;> first|rfl|exact absurd rfl h2
 cases b <;> simp[x5,e1,e2]
theorem IJ (ho:OpR X (M5 op) r)(ha:PE X a ta)(hb:PE X b tb)(hm:x5 op b=false):PE X (.Compare a [op] [b] pos) (tOp r ta tb):=by
 intro jb s σ H Q I h;exact wpAny_Compare1 (binT ha hb I h λv u s2 x y H2 I2 rx ry q=>ho jb s2 σ H2 x y v u Q I2 rx ry q) hm
def Gn (t:TE):TT:=λσ H Q=>t σ H λx H'=>∃k,x=.bl k/\Q k H'
theorem CD (ho:OpR X (M5 op) r)(ha:PE X a ta)(hb:PE X b tb)(hm:x5 op b=false):PT X (.Compare a [op] [b] pos) (Gn (tOp r ta tb)):=by
 intro jb s σ H Q I h
 refine wpAny_isTrue_Compare1 (thn (ha jb s σ H _ I h) λv s1 ⟨x,H1,I1,r1,q1⟩=>thn (hb jb s1 σ H1 _ I1 q1) λu s2 ⟨y,H2,I2,r2,q2⟩=>
  thn (ho jb s2 σ H2 x y v u _ I2 r1 r2 q2) λc s3 ⟨z,H3,I3,r3,k,e,q3⟩=>?_) hm
 subst e;cases r3;exact U5 ⟨H3,I3,q3⟩
def Go (r r':R2)(ta tb tc:TE):TE:=λσ H Q=>ta σ H λx H1=>tb σ H1 λy H2=>r x y H2 λz H3=>∃k,z=.bl k/\
 (if k=true then tc σ H3 λw' H4=>r' y w' H4 Q else Q (.bl false) H3)
theorem MZ (ho:OpR X (M5 op) r)(ho':OpR X (M5 op') r')(ha:PE X a ta)(hb:PE X b tb)(hc:PE X c tc)
   (hm:lastMarks [op,op'] [b,c]=false:=by with_unfolding_all rfl):PE X (.Compare a [op,op'] [b,c] pos) (Go r r' ta tb tc):=by
 intro jb s σ H Q I h
 refine Compare_chain (thn (ha jb s σ H _ I h) λv s1 ⟨x,H1,I1,r1,q1⟩=>chain_link (thn (hb jb s1 σ H1 _ I1 q1) λu s2 ⟨y,H2,I2,r2,q2⟩=>
  thn (ho jb s2 σ H2 x y v u _ I2 r1 r2 q2) λd s3 ⟨z,H3,I3,r3,k,e,q3⟩=>?_)) hm
 subst e;cases r3;refine U5 ?_;cases k with
 |false=>exact ite_ff ⟨.bl false,H3,I3,rfl,q3⟩
 |true=>exact ite_tt (chain_last (thn (hc jb s3 σ H3 _ I3 q3) λw' s4 ⟨z',H4,I4,r4,q4⟩=>ho' jb s4 σ H4 y z' u w' Q I4 r2 r4 q4))
theorem M_ (ho:OpR X (M5 op) r)(ho':OpR X (M5 op') r')(ha:PE X a ta)(hb:PE X b tb)(hc:PE X c tc)
   (hm:lastMarks [op,op'] [b,c]=false:=by with_unfolding_all rfl):PT X (.Compare a [op,op'] [b,c] pos) (Gn (Go r r' ta tb tc)):=by
 intro jb s σ H Q I h
 refine isTrue_chain (thn (ha jb s σ H _ I h) λv s1 ⟨x,H1,I1,r1,q1⟩=>test_link (thn (hb jb s1 σ H1 _ I1 q1) λu s2 ⟨y,H2,I2,r2,q2⟩=>
  thn (ho jb s2 σ H2 x y v u _ I2 r1 r2 q2) λd s3 ⟨z,H3,I3,r3,k,e,q3⟩=>?_)) hm
 subst e;cases r3;refine U5 ?_;cases k with
 | false =>
  obtain⟨k',e',q'⟩:=q3;cases e';exact ite_ff ⟨H3,I3,q'⟩
 | true =>
  refine ite_tt (test_last (thn (hc jb s3 σ H3 _ I3 q3) λw' s4 ⟨z',H4,I4,r4,q4⟩=>thn (ho' jb s4 σ H4 y z' u w' _ I4 r2 r4 q4) λd' s5 ⟨z2,H5,I5,r5,k2,e2,q5⟩=>?_));subst e2;cases r5;exact U5 ⟨H5,I5,q5⟩
def TruV (K:A8)(x:V)(H:Hp)(k:Bool):Prop:=
 match x with
 |.non=>k=false
 |.bl b=>k=b
 |.int i=>k=(i != 0)
 |.str y=>y.length<=C4/\k=((y.length:Int) != 0)
 |.byt y=>y.size<=C4/\k=((y.size:Int) != 0)
 |.ref p=>(∃xs,SqL K H p xs/\k=!xs.isEmpty)\/(∃xs,SqT K H p xs/\k=!xs.isEmpty)\/∃jg,H p=some (.dK jg)/\k=!jg.isEmpty
 |_=>False
theorem Na {κ:Type}{jg:List (κ×V)}{vs:List (κ×A1)}(r:KV jg vs):(!vs.isEmpty)=!jg.isEmpty:=by
 cases r <;> rfl
theorem IK (r:Vals xs jf):(!jf.toArray.isEmpty)=!xs.isEmpty:=by
 cases r <;> simp
theorem Ai:(C4:Nat)<2 ^ 63:=by rw[K5];decide
theorem IL:TruR X (λx H Q=>∃k,TruV X.K x H k/\Q k H):=by
 intro jb s σ H x v Q I rx h;obtain⟨k,e,q⟩:=h;have hl:=Ai;have hs:C4=16777216:=K5;cases x with
 | non =>
  cases rx;have e':k=false:=e;subst e';exact truthy_none ⟨H,I,q⟩
 | bl b =>
  cases rx;have e':k=b:=e;subst e';exact U5 ⟨H,I,q⟩
 | int i =>
  obtain⟨t,rfl⟩:=rx;have e':k=(i != 0):=e;subst e';exact PySem.P.truthy_int ⟨H,I,q⟩
 | str y =>
  obtain⟨t,rfl⟩:=rx;obtain⟨hy,e'⟩:y.length<=C4/\k=((y.length:Int) != 0):=e;subst e';exact PySem.P.truthy_str (by omega) ⟨H,I.tok _,q⟩
 | byt y =>
  obtain⟨t,rfl⟩:=rx;obtain⟨hy,e'⟩:y.size<=C4/\k=((y.size:Int) != 0):=e;subst e';exact PySem.W.truthy_bytes (by omega) ⟨H,I.tok _,q⟩
 | ref p =>
  cases rx;have e':(∃xs,SqL X.K H p xs/\k=!xs.isEmpty)\/(∃xs,SqT X.K H p xs/\k=!xs.isEmpty)\/∃jg,H p=some (.dK jg)/\k=!jg.isEmpty:=e;rcases e' with⟨xs,hx,e'⟩|⟨xs,hx,e'⟩|⟨jg,hx,e'⟩
  ·subst e';obtain⟨jf,r,pl,hz⟩:=I.list hx;have hlen:=r.length;exact wpAny_truthy_list pl.isList (by simp only[F4];omega) ⟨H,I.tok _,by rw[IK r];exact q⟩
  ·subst e';obtain⟨jf,r,pl,hz⟩:=I.tuple hx;have hlen:=r.length;exact truthy_tuple pl (by simp only[F4];omega) ⟨H,I.tok _,by rw[IK r];exact q⟩
  ·subst e';obtain⟨hz,hS,vs,r,m⟩:jg.length<=C4/\(p == N6)=false/\∃vs,KV jg vs/\s.heap.DictOf (K8 X.prog X.w) p vs:=I.hok p _ hx;have hlen:jg.length=vs.length:=Paired.length r;exact wpAny_truthy_dict hS m (by omega) ⟨H,I.tok _,by rw[Na r];exact q⟩
 |_=>exact(show False from e).elim
theorem Nb (ha:PE X a ta)(he:∀whole,isTrue a X.env whole=(do let v ← whole;Z1 a.pos;R5 [v] (truthy v))) :
   PT X a (λσ H Q=>ta σ H λx H'=>∃k,TruV X.K x H' k/\Q k H'):=by
 intro jb s σ H Q I h;exact isTrue_plain (thn (ha jb s σ H _ I h) λv s1 ⟨x,H1,I1,r1,q1⟩=>IL jb s1 σ H1 x v Q I1 r1 q1) (he _)
theorem Nc:OpR X (R3 .Add) (λx y H Q=>∃i j,x=.str i/\y=.str j/\i.length+j.length<=C4/\Q (.str (i++j)) H):=by
 intro jb s σ H x y v u Q I rx ry h;obtain⟨i,j,rfl,rfl,hz,q⟩:=h;obtain⟨t,rfl⟩:=rx;obtain⟨t',rfl⟩:=ry;exact add_str (λt' tk=>⟨.str (i++j),H,I.tok _,⟨_,rfl⟩,q⟩) hz
theorem p9 (r:Vals [x] us):∃u,us=[u]/\RelV x u:=by
 cases r with
 |cons r1 r2=>cases r2;exact⟨_,rfl,r1⟩
theorem vals2 (r:Vals [x,y] us):∃u w',us=[u,w']/\RelV x u/\RelV y w':=by
 cases r with
 | cons r1 r2 =>
  cases r2 with
  |cons r3 r4=>cases r4;exact⟨_,_,rfl,r1,r3⟩
theorem Nd:L6 X (.builtin "abs") (λxs H Q=>∃i,xs=[.int i]/\Q (.int (if i<0 then -i else i)) H):=by
 intro jb s σ H xs us Q I r h;obtain⟨i,rfl,q⟩:=h;obtain⟨u,rfl,t,rfl⟩:=p9 r;exact call_abs_int λu tk=>⟨.int (if i<0 then -i else i),H,I.tok _,⟨_,rfl⟩,q⟩
theorem Nf (hc:X.calm=true):L6 X (.builtin "max") (λxs H Q=>∃i j,xs=[.int i,.int j]/\Q (.int (if j>i then j else i)) H):=by
 intro jb s σ H xs us Q I r h;obtain⟨i,j,rfl,q⟩:=h;obtain⟨u,w',rfl,⟨t,rfl⟩,⟨t',rfl⟩⟩:=vals2 r;refine max_two_ints (I.ok.hd hc) λh' tk k=>⟨_,H,I.kept k,?_,q⟩
 by_cases hj:j>i
 ·rw[jr hj,jr hj];exact⟨_,rfl⟩
 ·rw[jt hj,jt hj];exact⟨_,rfl⟩
theorem Ng (hc:X.calm=true):L6 X (.builtin "min") (λxs H Q=>∃i j,xs=[.int i,.int j]/\Q (.int (if j<i then j else i)) H):=by
 intro jb s σ H xs us Q I r h;obtain⟨i,j,rfl,q⟩:=h;obtain⟨u,w',rfl,⟨t,rfl⟩,⟨t',rfl⟩⟩:=vals2 r;refine min_two_ints (I.ok.hd hc) λh' tk k=>⟨_,H,I.kept k,?_,q⟩
 by_cases hj:j<i
 ·rw[jr hj,jr hj];exact⟨_,rfl⟩
 ·rw[jt hj,jt hj];exact⟨_,rfl⟩
theorem Nh:L6 X (.type "int") (λxs H Q=>(∃i,xs=[.int i]/\Q (.int i) H)\/∃k,xs=[.bl k]/\Q (.int (if k then 1 else 0)) H):=by
 intro jb s σ H xs us Q I r h;rcases h with⟨i,rfl,q⟩|⟨k,rfl,q⟩
 ·obtain⟨u,rfl,t,rfl⟩:=p9 r;exact call_int_int ⟨.int i,H,I,⟨_,rfl⟩,q⟩
 ·obtain⟨u,rfl,r1⟩:=p9 r;cases r1;exact call_int_bool ⟨.int (if k then 1 else 0),H,I.tok _,⟨_,rfl⟩,q⟩
end
structure ObjM (h:B7)(x dx C:A0)(mA:Str->Option A1):Prop where
 obj:h.get? x=some (PySem.W.instObj C dx)
 ns:h.Ns1 dx mA
 ne:dx≠x
theorem Ni {h:B7}(n:h.Ns1 dx mA):∃od,h.get? dx=some od/\∀name,PySem.W.lookIn name od=some (mA name):=by
 obtain⟨o,es,ep,ho,hd,hk,_,hm⟩:=n;refine⟨o,ho,λname=>?_⟩;have e:=hm name;unfold nsFind findBy at e;rw[<- Array.find?_toList] at e;unfold PySem.W.lookIn;rw[hd];dsimp only
 split
 ·grind
 ·rename_i q;rw[q] at e
  have a:es.toList.any (·.refKey)=false:=by
   rw[List.any_eq_false];intro y hy;obtain⟨z,t,hkey⟩:=hk y (Array.mem_toList_iff.mp hy);simp[DictEntry.refKey,hkey]
  have a':¬es.toList.any (·.refKey)=true:=by rw[a];exact T9
  rw[jt a'];exact congrArg some e
theorem ObjM.look (I:ObjM h x dx C mA):∃od,PySem.W.InstAt h x (PySem.W.instObj C dx) C (some od)/\∀name,PySem.W.lookIn name od=some (mA name):=
 let ⟨od,ho,hl⟩:=Ni I.ns
 ⟨od,⟨I.obj,rfl,rfl,ho⟩,hl⟩
section
variable {P:D1}{w:C8}{H H':Hp}{h h':B7}{a C dx:A0}{fs fs':List (Str×V)}
theorem Nj (hok:HOk P w H h)(e:H a=some (.ins C dx fs)):∃mA,ObjM h a dx C mA/\(∀f,RelO (fs.lookup f) (mA f))/\PySem.Within mA (fs.map (·.1))/\fs.length<=1000/\H dx=some (.own a):=by
 obtain⟨d,z,ne,ob,mA,n,r,q⟩:=(show G7 P w H h a (.ins C dx fs) from hok a _ e);exact⟨mA,⟨ob,n,ne⟩,r,q,z,d⟩
end
structure Cls (K:A8)(C:A0):Prop where
 pg:PySem.W.plainGet K C Str.empty=true
 hd:PySem.W.hasDictIn K C=true
 po:PySem.W.plainOver K C=true
 sa:PySem.W.findIn K (.ref C) "__setattr__"=some (some (.builtin "object.__setattr__"))
theorem Cls.get {K:A8}(c:Cls K C)(f:Str):PySem.W.plainGet K C f=true:=c.pg
section
variable {X:Cx}{jb:List (A0×Obj)}{σ:St}{H:Hp}{s:A5}{A:D5}{E:A1->A5->Prop}{Q:A1->A5->Prop}{c:A1}{b:Bool}
inductive TyOf (K:A8)(H:Hp):V->A1->Prop where
 |non:TyOf K H .non (.type "NoneType")
 |bl (x:Bool):TyOf K H (.bl x) (.type "bool")
 |int (i:Int):TyOf K H (.int i) (.type "int")
 |str (x:Str):TyOf K H (.str x) (.type "str")
 |flt (x:UInt64):TyOf K H (.flt x) (.type "float")
 |lst {a:A0} {xs:List V} (e:H a=some (.lst xs)):TyOf K H (.ref a) (.type "list")
 |frz {a:A0} {o:Obj} {xs:List V} (e:H a=some (.frz o (.lst xs))):TyOf K H (.ref a) (.type "list")
 |tup {a:A0} {xs:List V} (e:H a=some (.tup xs)):TyOf K H (.ref a) (.type "tuple")
 |dK {a:A0} {jg:List (Key×V)} (e:H a=some (.dK jg)):TyOf K H (.ref a) (.type "dict")
 |dT {a:A0} {jg:List (List Key×V)} (e:H a=some (.dT jg)):TyOf K H (.ref a) (.type "dict")
 |ins {a C dx:A0} {fs:List (Str×V)} (e:H a=some (.ins C dx fs)) (cl:Cls K C) (ha:PySem.W.findIn K (.ref C) "__class__"=some (some (.builtin "object.__class__")))
     (hn:PySem.W.specialIn K (.builtin "object.__class__") "__get__"=some (some (.builtin "getset_descriptor.__get__"))) (htk:PySem.W.takesIn K (.builtin "object.__class__")=some true)
     (hm:PySem.W.mroIn K C (.type "object")=some true):TyOf K H (.ref a) (.ref C)
theorem Nk (I:Inv X jb σ H s)(rx:RelV x u)(ty:TyOf X.K H x t)(e:Cg X.K t c=some b)(h:∀tk,Q (.bool b) { s with toks:=tk }) :
   A6 (A9 X.prog X.w) A (call (.builtin "isinstance") [u,c]) Q E s:=by
 cases ty with
 |non=>cases(show u=X1 from rx);exact W0 PySem.W.kitx_none I.kIn Ag e (λz=>nomatch z) h
 |bl y=>cases(show u=Value.bool y from rx);exact W0 PySem.W.kitx_bool I.kIn Ag e (λz=>nomatch z) h
 |int i=>obtain⟨t,q⟩:=(show ∃t,u=Value.int i t from rx);cases q;exact W0 PySem.W.kitx_int I.kIn Ag e (λz=>nomatch z) h
 |str y=>obtain⟨t,q⟩:=(show ∃t,u=Bg y t from rx);cases q;exact W0 PySem.W.kitx_str I.kIn Ag e (λz=>nomatch z) h
 |flt y=>obtain⟨t,q⟩:=(show ∃t,u=Value.float y t from rx);cases q;exact W0 PySem.W.kitx_float I.kIn Ag e (λz=>nomatch z) h
 | @lst a xs ea =>
  cases(show u=L9 a from rx);obtain⟨_,_,n,_,h1⟩:=(show G7 X.prog X.w H s.heap a (.lst xs) from I.hok a _ ea);exact W0 PySem.W.kitx_list I.kIn ⟨_,h1,rfl⟩ e (λz=>nomatch z) h
 | @frz a ob xs ea =>
  cases(show u=L9 a from rx);obtain⟨_,_,_,n,_,h1⟩:=(show G7 X.prog X.w H s.heap a (.frz ob (.lst xs)) from I.hok a _ ea);exact W0 PySem.W.kitx_list I.kIn ⟨_,h1,rfl⟩ e (λz=>nomatch z) h
 | @tup a xs ea =>
  cases(show u=L9 a from rx);obtain⟨_,_,_,p⟩:=(show G7 X.prog X.w H s.heap a (.tup xs) from I.hok a _ ea);obtain⟨o,h1,h2,_⟩:=p;exact W0 PySem.W.kitx_tuple I.kIn ⟨o,h1,(Prod.mk.inj h2).1⟩ e (λz=>nomatch z) h
 | @dK a jg ea =>
  cases(show u=L9 a from rx);obtain⟨_,_,vs,_,p⟩:=(show G7 X.prog X.w H s.heap a (.dK jg) from I.hok a _ ea);obtain⟨o,es,ep,h1,h2,_⟩:=p;exact W0 PySem.W.kitx_dict I.kIn ⟨o,h1,h2.1⟩ e (λz=>nomatch z) h
 | @dT a jg ea =>
  cases(show u=L9 a from rx);obtain⟨_,_,xs,_,o,es,ep,h1,h2,_⟩:=(show G7 X.prog X.w H s.heap a (.dT jg) from I.hok a _ ea);exact W0 PySem.W.kitx_dict I.kIn ⟨o,h1,h2.1⟩ e (λz=>nomatch z) h
 | @ins a C dx fs ea cl ha hn htk hm =>
  cases(show u=L9 a from rx);obtain⟨mA,O,_⟩:=Nj I.hok ea;obtain⟨od,J,_⟩:=O.look;exact W0 (PySem.W.kitx_own (cl.get _) cl.hd ha hn htk hm) I.kIn J e (λz=>nomatch z) h
end
structure Room (k:Nat)(A:D5):Prop where
 hd:A.handled=none
 dp:A.depth+3*k+5<recursionLimit
 un:A.units+16*k+200<cLine
 gd:A.guards=some []
theorem Room.mono (r:Room k A)(h:j<=k):Room j A:=⟨r.hd,by have:=r.dp;omega,by have:=r.un;omega,r.gd⟩
theorem Room.deeper (r:Room (k+1) A)(env:Env):Room k (A.deeper env):=
 ⟨r.hd,by have:=r.dp;show A.depth+1+3*k+5<_;omega,by have:=r.un;show A.units+3+16*k+200<_;omega,r.gd⟩
theorem Room.in1 {k:Nat}{A:D5}(r:Room (k+1) A):Room k A.in1:=
 ⟨r.hd,by have:=r.dp;show A.depth+3*k+5<_;omega,by have:=r.un;show A.units+1+16*k+200<_;omega,r.gd⟩
theorem Room.depth (r:Room k A):A.depth<recursionLimit:=by have:=r.dp;omega
theorem Room.units (r:Room k A):A.units+64<cLine:=by have:=r.un;omega
def tNil:TA:=λ_ H Q=>Q [] H
def U1 (ta:TE)(tr:TA):TA:=λσ H Q=>ta σ H λx H1=>tr σ H1 λxs H2=>Q (x::xs) H2
section
variable {X:Cx}{e:Expr}{es:List Expr}{te:TE}{t:TA}{pos:Pos}
theorem J6:PA X [] tNil:=λ_ _ _ _ H Q I h=>Calls.spliced_nil ⟨[],H,I,.nil,h⟩
theorem E8 (ha:PE X e te)(hr:PA X es t)(hs:E9 (e::es) X.env=(false,eval e X.env)::E9 es X.env:=by rfl):PA X (e::es) (U1 te t):=by
 intro pos jb s σ H Q I h;rw[hs];show A6 _ _ (spliced ((false,eval e X.env)::backTo pos (E9 es X.env))) _ _ s;refine Calls.spliced_cons (thn (ha jb s σ H _ I h) λu s1 ⟨x,H1,I1,r1,q1⟩=>?_);exact thn (hr pos jb s1 σ H1 _ I1 q1) λus s2 ⟨xs,H2,I2,r2,q2⟩=>⟨x::xs,H2,I2,.cons r1 r2,q2⟩
def tTup (t:TA):TE:=λσ H Q=>t σ H λxs H1=>xs.length<=C4/\∀p,H1 p=none->Q (.ref p) (upd H1 p (.tup xs))
def tLst (t:TA):TE:=λσ H Q=>t σ H λxs H1=>xs.length<=C4/\∀p,H1 p=none->Q (.ref p) (upd H1 p (.lst xs))
theorem Gp {x1}(h:PA X es t):PE X (.Tuple es x1 pos) (tTup t):=by
 intro jb s σ H Q I hq;refine wpAny_Tuple_spliced (thn (h pos jb s σ H _ I hq) λus s1 ⟨xs,H1,I1,r,z,q⟩=>⟨by rw[<- r.length];exact z,?_⟩);have hf:H1 s1.heap.objs.size=none:=I1.hok.fresh (B9 _);refine⟨.ref s1.heap.objs.size,upd H1 s1.heap.objs.size (.tup xs),I1.laid (t':=s1.toks) (λb u e=>D0 _ e) (B9 _) ?_,rfl,q _ hf⟩;exact⟨z,us,r,⟨_,G4 _ rfl,rfl,_,rfl⟩⟩
theorem IM (h:PA X es t):PE X (.List es pos) (tLst t):=by
 intro jb s σ H Q I hq;refine wpAny_List_spliced (thn (h pos jb s σ H _ I hq) λus s1 ⟨xs,H1,I1,r,z,q⟩=>⟨by rw[<- r.length];exact z,?_⟩);have hf:H1 s1.heap.objs.size=none:=I1.hok.fresh (B9 _);refine⟨.ref s1.heap.objs.size,upd H1 s1.heap.objs.size (.lst xs),I1.laid (t':=s1.toks) (λb u e=>D0 _ e) (B9 _) ?_,rfl,q _ hf⟩;exact⟨z,us,0,r,G4 _ rfl⟩
end
abbrev Sp:=List V->Hp->VK->XK->Prop
abbrev CXT:=List Env->Hp->A5->XK->A1->A5->Prop
structure Env0 (P:D1)(w:C8)(K:A8)(mg:Str->Option A1)(base:B7)(A:D5)(outer:List Env)(s:A5)(H:Hp):Prop where
 frames:A.frames=some outer
 mod:Mod K mg base
 bs:∀b o,base.get? b=some o->s.heap.get? b=some o/\H b=none
 bsz:base.objs.size<=s.heap.objs.size
 funs:s.heap.FunFrames base outer
 frf:∀b∈frs outer,H b=none
 hok:HOk P w H s.heap
 bare:AllBare s.gens
 nos:NS H
def CE (outer:List Env)(P:D1)(w:C8)(H:Hp)(s:A5)(Q:VK)(u:A1)(s':A5):Prop:=
 ∃v H',s'.os=s.os/\AllBare s'.gens/\Un (frs outer) [] H H' s.heap s'.heap/\HOk P w H' s'.heap/\RelV v u/\Q v H'
def CR (CX:CXT)(outer:List Env)(P:D1)(w:C8)(H:Hp)(s:A5)(Q:VK)(E:XK)(r:Result)(s':A5):Prop:=
 match r with
 |.ok (.ret u)=>CE outer P w H s Q u s'
 |.ok _=>False
 |.error e=>CX outer H s E e s'
structure FnOk (P:D1)(w:C8)(K:A8)(mg:Str->Option A1)(base:B7)(CX:CXT)(k:Nat)(f:A0)(fd:FuncData)(ps:List Str)(sp:Sp):Prop where
 len:∀vs H Q E,sp vs H Q E->vs.length=ps.length
 run:∀(A:D5) (outer:List Env) (s:A5) (H:Hp) (args:Args) (us:List A1) (vs:List V) (Q:VK) (E:XK),Room k A->Env0 P w K mg base A outer s H->BindsTo s fd args (ps.zip us)->Vals vs us->sp vs H Q E->
   N0 (A9 P w) A (.call (.ref f) args) (CR CX outer P w H s Q E) s
theorem FnOk.imp {K:A8}(F:FnOk P w K mg base CX k f fd ps sp)
   (h:∀vs H Q E,sp' vs H Q E->sp vs H Q E):FnOk P w K mg base CX k f fd ps sp':=
 ⟨λvs H Q E q=>F.len vs H Q E (h _ _ _ _ q),λA outer s H args us vs Q E hr he hb hv hs=>F.run A outer s H args us vs Q E hr he hb hv (h _ _ _ _ hs)⟩
section
variable {X:Cx}{jb:List (A0×Obj)}{σ:St}{H:Hp}{s s':A5}
theorem Inv.env0 (I:Inv X jb σ H s):Env0 X.prog X.w X.K X.mg X.base X.A X.stack s H:=
 ⟨I.ok.frames,I.ok.mod,I.bs,N1 I.ok.bsz I.sz,I.stack,I.stkFree,I.hok,I.bare,I.nos⟩
theorem Inv.after (I:Inv X jb σ H s)(h:CE X.stack X.prog X.w H s Q u s'):EP X jb σ Q u s':=by
 obtain⟨v,H',os,bare,un,hok,r,q⟩:=h;obtain⟨hh,g,d,t,os'⟩:=s';obtain rfl:os'=s.os:=os;exact⟨v,H',I.call (h':=hh) (g':=g) (d':=d) (t':=t) (ch:=[]) un hok bare (λb z=>absurd z (by simp)),r,q⟩
end
def tCall (sp:Sp)(dvs:List V)(E:XK)(t:TA):TE:=λσ H Q=>t σ H λvs H1=>sp (vs++dvs) H1 Q E
def Bv (K:A8)(fd:FuncData)(ps:List Str)(ds:List A1):Prop:=
 ∀(s:A5) (us:List A1),K.In s.heap->(us++ds).length=ps.length->BindsTo s fd ⟨us,[]⟩ (ps.zip (us++ds))
theorem Bv.all {K:A8}(h:∀us:List A1,us.length=ps.length->V9 fd ⟨us,[]⟩=pure (ps.zip us)):Bv K fd ps []:=λs us _ hl=>by
 rw[W8] at hl ⊢;exact .of_eq (h us hl)
def Gq (CX:CXT)(X:Cx)(E:XK):Prop:=∀(jb:List (A0×Obj)) (σ:St) (H:Hp) (s:A5) (e:A1) (s':A5),Inv X jb σ H s->CX X.stack H s E e s'->X.xe e s'
section
variable {X:Cx}{CX:CXT}{k:Nat}{f C:A0}{fd:FuncData}{ps:List Str}{sp:Sp}{dvs:List V}{ds:List A1}{E:XK}{x m:Str}{p pos apos:Pos}{e o:Expr}{es:List Expr}{ta:TE}{t:TA}
theorem run_fn (F:FnOk X.prog X.w X.K X.mg X.base CX k f fd ps sp)(hr:Room k X.A)(hb:Bv X.K fd ps ds)(hd:Vals dvs ds)(hx:Gq CX X E)
   (I:Inv X jb σ H s) (r:Vals vs us) (h:sp (vs++dvs) H Q E):A6 (A9 X.prog X.w) X.A (call (.ref f) us) (EP X jb σ Q) X.xe s:=by
 have r2:Vals (vs++dvs) (us++ds):=r.append hd;have hl:(us++ds).length=ps.length:=by rw[<- r2.length];exact F.len _ _ _ _ h
 refine wpAny_call (x8 (F.run X.A X.stack s H ⟨us,[]⟩ (us++ds) (vs++dvs) Q E hr I.env0 (hb s us I.kIn hl) r2 h) λr s' hq=>?_);cases r with
 |error e=>exact hx jb σ H s e s' I hq
 | ok fl =>
  cases fl with
  |ret u=>exact I.after hq
  |next=>exact Z5 hq
  |brk=>exact Z5 hq
  |cont=>exact Z5 hq
theorem Nl (F:FnOk X.prog X.w X.K X.mg X.base CX k f fd ps sp)(hr:Room k X.A)(hg:Gl X x)(hm:X.mg x=some (.ref f))(hk:Ch X.K (.ref f)=true)(hb:Bv X.K fd ps ds)(hd:Vals dvs ds)(hx:Gq CX X E)
   (ha:PA X (e::es) t) (hdb:(x == ("__debug__":Str))=false:=by decide) (he:E9 (e::es) X.env=(false,eval e X.env)::E9 es X.env:=by rfl) (hpl:(backTo pos (E9 es X.env)).any (·.1)=false:=by rfl) :
   PE X (.Call (.Name x p) (e::es) [] pos) (tCall sp dvs E t):=by
 intro jb s σ H Q I h;refine Dz (IG I hg hm ?_ hdb);refine PySem.W.callWith_K (h₀:=X.base) I.ok.mod.kin hk (thn (ha pos jb s σ H _ I h) λus s1 ⟨vs,H1,I1,r,q⟩=>⟨I1.kIn,?_⟩) he hpl;exact run_fn F hr hb hd hx I1 r q
end
def PK (X:Cx)(kws:List Q4)(t:TA):Prop:=
 ∀(pos:Pos) (jb:List (A0×Obj)) (s:A5) (σ:St) (H:Hp) (Q:List V->Hp->Prop),Inv X jb σ H s->t σ H Q->A6 (A9 X.prog X.w) X.A (evalAll ((Z0 pos (Y8 kws X.env)).map (·.2))) (AP X jb σ Q) X.xe s
structure R8 (N P:List Str)(sc:G5):Prop where
 kind:sc.kind=.function
 co:sc.isCoroutine=false
 gen:sc.isGenerator=false
 nd:N.Nodup
 pre:N.take P.length=P
 par:∀x∈P,sc.names.lookup x=some .local\/sc.names.lookup x=some .cell
 nofree:∀y∈sc.names,y.2≠.free
theorem IN {kindOf:Str->Option NameKind}:∀{binds:List (Str×A1)} {m:Str->Option A1},(∀v,(x,v)∉binds)->bindL kindOf binds m x=m x
 |[],_,_=>rfl
 | (n, v) :: r, m, h => by
  unfold bindL;rw[IN λw hw=>h w (C2 _ hw)]
  split
  ·have:x≠n:=by rintro rfl;exact h v C3
   simp[this]
  ·rfl
theorem IP {kindOf:Str->Option NameKind}:∀{binds:List (Str×A1)} {m:Str->Option A1},(∀v,(x,v)∉binds)->bindC kindOf binds m x=m x
 |[],_,_=>rfl
 | (n, v) :: r, m, h => by
  unfold bindC;rw[IP λw hw=>h w (C2 _ hw)]
  split
  ·rfl
  ·have:x≠n:=by rintro rfl;exact h v C3
   simp[this]
theorem IQ {kindOf:Str->Option NameKind}:∀{P:List Str} {vs:List A1} {i:Nat} {m:Str->Option A1},P.Nodup->P[i]?=some x->vs[i]?=some v->kindOf x=some .local->
   bindL kindOf (P.zip vs) m x=some v
 |[],_,_,_,_,h,_,_=>by simp at h
 |_::_,[],_,_,_,_,h,_=>by simp at h
 | p :: P, w :: vs, 0, m, nd, h1, h2, hk => by
  simp at h1 h2;subst h1;subst h2;show bindL kindOf ((p,w)::P.zip vs) m p=_;unfold bindL;rw[IN λv hv=>(V0.mp nd).1 (DN hv).1,jr hk];simp
 | p :: P, w :: vs, i + 1, m, nd, h1, h2, hk => by
  show bindL kindOf ((p,w)::P.zip vs) m x=_;unfold bindL;exact IQ (i:=i) (V0.mp nd).2 (by simpa using h1) (by simpa using h2) hk
theorem IR {kindOf:Str->Option NameKind}:∀{P:List Str} {vs:List A1} {i:Nat} {m:Str->Option A1},P.Nodup->P[i]?=some x->vs[i]?=some v->kindOf x≠some .local->
   bindC kindOf (P.zip vs) m x=some v
 |[],_,_,_,_,h,_,_=>by simp at h
 |_::_,[],_,_,_,_,h,_=>by simp at h
 | p :: P, w :: vs, 0, m, nd, h1, h2, hk => by
  simp at h1 h2;subst h1;subst h2;show bindC kindOf ((p,w)::P.zip vs) m p=_;unfold bindC;rw[IP λv hv=>(V0.mp nd).1 (DN hv).1,jt hk];simp
 | p :: P, w :: vs, i + 1, m, nd, h1, h2, hk => by
  show bindC kindOf ((p,w)::P.zip vs) m x=_;unfold bindC;exact IR (i:=i) (V0.mp nd).2 (by simpa using h1) (by simpa using h2) hk
def start (N:List Str)(vs:List V):St:=vs.map some++y8 (N.length-vs.length) none
def cxOf (CX:CXT)(P:D1)(w:C8)(K:A8)(mg:Str->Option A1)(base:B7)(N:List Str)(qual:Str)(scope:G5)(f:A0)(cd:A1)(A:D5)(outer:List Env)(s:A5)(H:Hp)(E:XK):Cx where
 prog:=P
 w:=w
 K:=K
 mg:=mg
 base:=base
 A:=A.deeper (envOfC qual scope s.heap.objs.size f cd)
 N:=N
 s₀:=s
 H₀:=H
 env:=envOfC qual scope s.heap.objs.size f cd
 outer:=outer
 stack:=envOfC qual scope s.heap.objs.size f cd::outer
 ex:=[]
 calm:=true
 fn:=λ_=>true
 pn:=[]
 xe:=λe s'=>A6 (A9 P w) (A.deeper (envOfC qual scope s.heap.objs.size f cd)) (leaving (envOfC qual scope s.heap.objs.size f cd) e) (λ_ s''=>CX outer H s E e s'') (λe' s''=>CX outer H s E e' s'') s'
theorem IS {sc:G5}(h:sc.names.lookup x=some .cell):∃c,(cellsFrom n sc.names []).lookup x=some c:=by
 have q:=PySem.W.cellsFrom_some sc.names n [] (.inl h);exact Ec.mp q
theorem Nm {K:A8}
   (S:R8 N ps scope) (hd:A.handled=none) (e0:Env0 P w K mg base A outer s H) (hl:vs.length=ps.length) (r:Vals vs us)
   (x:InCallC s s.heap.objs.size (bindL (envOfC qual scope s.heap.objs.size f cd).kindOf (ps.zip us) λ_=>none) (cellsFrom (s.heap.objs.size+1) scope.names []) (bindC (envOfC qual scope s.heap.objs.size f cd).kindOf (ps.zip us) λ_=>none) s1) :
   Inv (cxOf CX P w K mg base N qual scope f cd A outer s H E) [] (start N vs) H s1:=by
 have hpl:ps.length<=N.length:=by have:=congrArg List.length S.pre;rw[P4] at this;omega
 obtain⟨h1,tk,rfl,hk⟩:=x.done;have noA:∀b:A0,b∉(cxOf CX P w K mg base N qual scope f cd A outer s H E).ex:=λb z=>absurd (show b∈([]:List A0) from z) (by simp)
 refine⟨⟨e0.mod,S.kind,rfl,rfl,B9 _,λy z c h1 h2=>?_,λy hy=>?_,λy c _ h=>?_,λ_=>hd,Around.frames_deeper e0.frames,.inr ⟨rfl,rfl⟩,λb z=>absurd z (noA b),e0.bs,e0.bsz,λb _ _=>noA b,λb z=>absurd z (noA b),e0.funs,e0.frf,e0.nos⟩,
  rfl,e0.bare,Un.kept hk,⟨_,x.toInCall.ns,λi y v h1 h2 h3=>?_⟩,λy c h=>⟨_,x.cell y c h⟩,e0.hok.fresh (B9 _),λy c h=>?_,λp hp=>absurd (show p∈([]:List (A0×Obj)) from hp) (by simp),e0.hok.kept hk,?_⟩
 ·exact name_of_addr x.apart (d9 h1) (d9 h2)
 ·have hy:scope.names.lookup y=some .cell\/scope.names.lookup y=some .free:=hy;rcases hy with hy|hy
  ·exact IS hy
  ·exact absurd rfl (S.nofree _ (d9 hy))
 ·exact W9 (x.above y c (d9 h))
 ·have hi:i<vs.length:=by
   unfold start at h2
   by_cases hi:i<vs.length
   ·exact hi
   ·rw[W3 (by simpa using hi)] at h2;rw[DI] at h2
    split at h2 <;> cases h2
  have ha:vs[i]?=some v:=by
   unfold start at h2;rw[W4 (by simpa using hi),G6] at h2;cases e:vs[i]? with
   |none=>rw[e] at h2;cases h2
   |some a=>rw[e] at h2;cases h2;rfl
  obtain⟨u,hu,rv⟩:=r.get ha
  have hp:ps[i]?=some y:=by
   rw[<- S.pre,List.getElem?_take_of_lt (by omega)];exact h1
  have ndP:ps.Nodup:=by rw[<- S.pre];exact S.nd.sublist (List.take_sublist _ _)
  refine⟨u,rv,?_⟩;rcases S.par y (J5 hp) with k|k
  ·exact .inl ⟨k,IQ ndP hp hu k⟩
  ·obtain⟨c,e⟩:=IS (n:=s.heap.objs.size+1) k;refine .inr ⟨.inl k,c,e,?_⟩;have q:=x.cell y c e;rw[IR ndP hp hu (by show scope.names.lookup y≠_;rw[k];decide)] at q;exact q
 ·exact e0.hok.fresh (W9 (x.above y c (d9 h)))
 ·unfold start;show _=N.length;rw[E3,B8,Z3];omega
theorem fn_of {K:A8}{dV kV doc pm jn ct oc:A1}
 (lk:K.lookup f=some ⟨oc,od,.func (U8 name qual params body scope dV kV doc pm an jn ct),osl⟩) (hcd:DH K jn qual=true) (S:R8 N ps scope)
   (len:∀vs H Q E,sp vs H Q E->vs.length=ps.length)
   (hbody:∀(A:D5) (outer:List Env) (s:A5) (H:Hp) (vs:List V) (Q:VK) (E:XK),Room k (A.deeper (envOfC qual scope s.heap.objs.size f jn))->sp vs H Q E->
     ∃t,PSs (cxOf CX P w K mg base N qual scope f jn A outer s H E) body t/\t { nx:=λ_ H'=>Q .non H',rt:=Q } (start N vs) H) :
   FnOk P w K mg base CX (k+1) f (U8 name qual params body scope dV kV doc pm an jn ct) ps sp:=by
 refine⟨len,λA outer s H args us vs Q E hr e0 hb r hsp=>?_⟩;have hl:=len _ _ _ _ hsp;have KX:K.In s.heap:=e0.mod.kin.keeps λb o e=>(e0.bs b o e).1;have lim:s.heap.NoLimit:=e0.mod.nolimit.keeps λb o e=>(e0.bs b o e).1
 have hkind:∀y∈ps.zip us,scope.names.lookup y.1=some .local\/(scope.names.lookup y.1=some .cell/\((cellsFrom (s.heap.objs.size+1) scope.names []).lookup y.1).isSome=true):=λ⟨n,v⟩ hy=>by
  rcases S.par n (DN hy).1 with q|q
  ·exact .inl q
  ·exact .inr ⟨q,PySem.W.cellsFrom_some _ _ _ (.inl q)⟩
 refine codeAny_call_function hr.depth (KX _ _ lk) rfl S.co S.gen rfl (PySem.W.codeRec_of KX hcd) (hb _ _ _ _ ?_);refine wpAny_newFunctionEnv_cells S.kind hkind λenv he s1 x=>?_;subst he;refine⟨lim.keeps x.toInCall.keep,codeAny_func ?_⟩;obtain⟨t,ht,hq⟩:=hbody A outer s H vs Q E (hr.deeper _) hsp;have I:Inv (cxOf CX P w K mg base N qual scope f jn A outer s H E) [] (start N vs) H s1:=Nm S hr.hd e0 hl r x;refine K3 (ht [] s1 (start N vs) H _ I hq) (λfl s' hs=>?_) λe s' hs=>hs
 have fin:∀{σ':St} {H':Hp} {v:V} {u:A1},Inv (cxOf CX P w K mg base N qual scope f jn A outer s H E) [] σ' H' s'->RelV v u->Q v H'->CE outer P w H s Q u s':=
  λ{σ' H' v u} J rv q=>⟨v,H',J.os,J.bare,J.base,J.hok,rv,q⟩
 cases fl with
 | ret u =>
  obtain⟨v,σ',H',J,rv,q⟩:=hs;exact fin J rv q
 | next =>
  obtain⟨σ',H',J,q⟩:=hs;exact fin (v:=V.non) (u:=X1) J rfl q
 | brk =>
  obtain⟨_,_,_,q⟩:=hs;exact Z5 q
 | cont =>
  obtain⟨_,_,_,q⟩:=hs;exact Z5 q
section
variable {X:Cx}{x:Str}{p pos:Pos}{e:Expr}{es:List Expr}{t:TA}{id T:String}{r:List V->Hp->VK->Prop}
def tCB (r:List V->Hp->VK->Prop)(t:TA):TE:=λσ H Q=>t σ H λvs H1=>r vs H1 Q
theorem Z7 (hc:L6 X (.builtin id) r)(hg:Gl X x)(hm:X.mg x=none)(hv:M4 x=some (.builtin id))(ha:PA X (e::es) t)(hn:x≠"__name__":=by decide)(hdb:(x == ("__debug__":Str))=false:=by decide)
   (he:E9 (e::es) X.env=(false,eval e X.env)::E9 es X.env:=by rfl) (hpl:(backTo pos (E9 es X.env)).any (·.1)=false:=by rfl):PE X (.Call (.Name x p) (e::es) [] pos) (tCB r t):=by
 intro jb s σ H Q I h;refine Dz (Bt I hg hm hv ?_ hn hdb);exact PyProof.Rows.callWith_builtin1 (thn (ha pos jb s σ H _ I h) λus s1 ⟨vs,H1,I1,r1,q1⟩=>hc jb s1 σ H1 vs us Q I1 r1 q1) he hpl
theorem Bw (hc:L6 X (.type T) r)(hg:Gl X x)(hm:X.mg x=none)(hv:M4 x=some (.type T))(ha:PA X (e::es) t)(hn:x≠"__name__":=by decide)(hdb:(x == ("__debug__":Str))=false:=by decide)
   (he:E9 (e::es) X.env=(false,eval e X.env)::E9 es X.env:=by rfl) (hpl:(backTo pos (E9 es X.env)).any (·.1)=false:=by rfl):PE X (.Call (.Name x p) (e::es) [] pos) (tCB r t):=by
 intro jb s σ H Q I h;refine Dz (Bt I hg hm hv ?_ hn hdb);exact FS (thn (ha pos jb s σ H _ I h) λus s1 ⟨vs,H1,I1,r1,q1⟩=>hc jb s1 σ H1 vs us Q I1 r1 q1) he hpl
end
end L2
namespace HT
open PySem PyProof.Rows
section
variable {prog:D1}{w:C8}{A:D5}{E:A1->A5->Prop}{s:A5}
theorem cat_tup (ht:IsTup s.heap t vs.toArray)(hb:IsTup s.heap b ws.toArray)(hv:vs≠[])
   (h1:ws=[]->Q (.ref t) s) (h2:ws≠[]->Q (.ref s.heap.objs.size) { s with heap:=s.heap.push { cls:=.type "tuple",data:=.seq (vs++ws).toArray } })
   (hsz:vs.length+ws.length<=C4):A6 (A9 prog w) A (R3 .Add (.ref t) (.ref b)) Q E s:=by
 obtain⟨⟨cls,dd,data,sl⟩,ho,hc,n,hd⟩:=id ht;obtain⟨⟨cls2,dd2,data2,sl2⟩,ho2,hc2,n2,hd2⟩:=id hb;simp only at hc hd hc2 hd2;subst hc hd hc2 hd2;have e:vs.toArray++ws.toArray=(vs++ws).toArray:=by simp
 by_cases hw:ws=[]
 ·exact concat_meets ⟨_,ho,rfl⟩ ⟨_,ho2,rfl⟩ noFill_tuple_add seq_tuple_add FY FX (FW _ _)
    (tuple_addW1 t b vs.toArray ws.toArray n n2 dd dd2 sl sl2 (by simpa using hv) (by simp[hw])) ⟨ho,ho2,h1 hw⟩
 ·refine concat_meets ⟨_,ho,rfl⟩ ⟨_,ho2,rfl⟩ noFill_tuple_add seq_tuple_add FY FX (FW _ _)
    (tuple_addW2 t b vs.toArray ws.toArray n n2 dd dd2 sl sl2 (by simpa using hv) (by simpa using hw) (by rw[F4,F4];exact hsz)) ⟨ho,ho2,?_⟩
  rw[e];exact h2 hw
def sIx (n d:Nat):Option Int->Nat
 |none=>d
 |some v=>if v<0 then(v+(n:Int)).toNat else min v.toNat n
theorem sIx_none (n d:Nat):sIx n d none=d:=rfl
theorem sIx_nat (n d k:Nat):sIx n d (some (k:Int))=min k n:=by
 show(if(k:Int)<0 then((k:Int)+(n:Int)).toNat else min (k:Int).toNat n)=min k n;rw[jt (by omega),DY]
theorem sIx_le (n d:Nat)(hd:d<=n)(o:Option Int):sIx n d o<=n:=by
 cases o with
 |none=>exact hd
 | some v =>
  show(if v<0 then(v+(n:Int)).toNat else min v.toNat n)<=n
  by_cases hv:v<0
  ·rw[jr hv];omega
  ·rw[jt hv];exact Nat.min_le_right _ _
theorem IT (v:Int)(n d:Nat):(if v<0 then max (v+(n:Int)) 0 else min v (n:Int))=((sIx n d (some v):Nat):Int):=by
 show(if v<0 then max (v+(n:Int)) 0 else min v (n:Int))=(((if v<0 then(v+(n:Int)).toNat else min v.toNat n):Nat):Int)
 by_cases hv:v<0
 ·simp only[jr hv];omega
 ·simp only[jt hv];omega
theorem Nn (lo hi:Option Int)(n:Nat):Cw lo hi 1 (n:Int)=(((sIx n 0 lo:Nat):Int),((sIx n n hi:Nat):Int)):=by
 have h1:¬((1:Int)<0):=by omega
 unfold Cw;simp only[h1,if_false];refine Prod.ext ?_ ?_
 ·cases lo with
  |none=>rfl
  |some v=>exact IT v n 0
 ·cases hi with
  |none=>rfl
  |some v=>exact IT v n n
theorem No (i j:Nat):l9 (i:Int) (j:Int) 1=j-i:=by
 unfold l9;have h1:(1:Int)>0:=by omega
 simp only[h1,if_true,Int.ediv_one]
 split <;> omega
theorem CF (p:IsPart v o)(h:Q o s):A6 (A9 prog w) A (Builtin.Slice.slicePartIndex v) Q E s:=by
 cases p with
 |none=>exact slicePart_none h
 |int i t=>exact slicePart_int h
theorem IU {lo hi:Option Int}{n:Nat}{Q:Int×Int×Nat->A5->Prop}(hs:s.heap.IsSliceOf sl vl vu .none)(pl:IsPart vl lo)(pu:IsPart vu hi)
   (h:Q (((sIx n 0 lo:Nat):Int),1,sIx n n hi-sIx n 0 lo) s):A6 (A9 prog w) A (DU (.ref sl) (pure (n:Int))) Q E s:=by
 obtain⟨os,hos,hcs,hds⟩:=id hs;unfold DU IC;refine A3 (A3 (V8 hos hds (x:=vl) rfl (A3 (V8 hos hds (x:=vu) rfl (A3 (V8 hos hds (x:=.none) rfl (B0 ?_)))))));refine A3 (slicePart_none ?_);show A6 _ _ (if((1:Int) == 0)=true then _ else _) _ _ s;rw[jt (by decide)];refine A3 (CF pl (A3 (CF pu (A3 (B0 ?_)))));show A6 _ _ (match Cw lo hi 1 (n:Int) with|(lo,hi)=>pure (lo,(1:Int),l9 lo hi 1)) _ _ s;rw[Nn lo hi n];show A6 _ _ (pure (((sIx n 0 lo:Nat):Int),(1:Int),l9 ((sIx n 0 lo:Nat):Int) ((sIx n n hi:Nat):Int) 1)) _ _ s;rw[No];exact B0 h
theorem Np (xs:Array A1)(i k:Nat):((E5 k).filterMap λ(m:Nat)=>xs[((i:Int)+(m:Int)*1).toNat]?).toArray=((xs.toList.drop i).take k).toArray:=by
 have e:(λ(m:Nat)=>xs[((i:Int)+(m:Int)*1).toNat]?)=λm=>xs[i+m]?:=by
  funext m
  have:((i:Int)+(m:Int)*1).toNat=i+m:=by omega
  rw[this]
 rw[e];have:=pick_run xs i k;rw[List.filterMap_map] at this;have e2:((λx=>xs[x]?)∘λx=>i+x)=λm=>xs[i+m]?:=rfl
 grind
theorem getItem_tuple_cut {lo hi:Option Int}(ht:IsTup s.heap t items)(hs:s.heap.IsSliceOf sl vl vu .none)(pl:IsPart vl lo)(pu:IsPart vu hi)
   (hw:¬(sIx items.size 0 lo=0/\sIx items.size items.size hi=items.size))
   (h:Q (.ref s.heap.objs.size) { s with heap:=s.heap.push { cls:=.type "tuple",data:=.seq ((items.toList.drop (sIx items.size 0 lo)).take (sIx items.size items.size hi-sIx items.size 0 lo)).toArray } })
   (hsz:items.size<=C4):A6 (A9 prog w) A (getItem (.ref t) (.ref sl)) Q E s:=by
 have htake:sizeOk (.seq ((items.toList.drop (sIx items.size 0 lo)).take (sIx items.size items.size hi-sIx items.size 0 lo)).toArray):=by
  show((items.toList.drop (sIx items.size 0 lo)).take (sIx items.size items.size hi-sIx items.size 0 lo)).toArray.size<=C4;rw[F4,P4,W7,M6];omega
 have hj:sIx items.size items.size hi<=items.size:=sIx_le _ _ (B9 _) hi;obtain⟨os,hos,hcs,hds⟩:=id hs;have hTs:s.TypeIs (.ref sl) "slice":=⟨os,hos,hcs⟩;unfold getItem
 try with_reducible refine J7 ?_
 first|refine A3 (B0 ?_)|skip
 refine A3 (wpAny_sequenceKey ht.typeIs (by decide) ?_)
 refine A3 (Y6 (name:=A7 "__getitem__") ht.typeIs Bh
   (P8 Bh ht.typeIs entry_tuple_getitem ?_ (args_tuple_getitem _ _)))
 show A6 _ _ (FT (.ref t)>>=_) _ _ s;refine A3 (tupleItemsOf_ ht ?_);refine A3 (k8 hTs ?_);rw[jr (by decide)];refine A3 (IU hs pl pu ?_)
 have hno:¬((((sIx items.size 0 lo:Nat):Int) == 0&&(1:Int) == 1&&(sIx items.size items.size hi-sIx items.size 0 lo) == items.size)=true):=by
  intro q;rw[R7,R7] at q;have q1:((sIx items.size 0 lo:Nat):Int)=0:=eq_of_beq q.1.1;have q2:sIx items.size items.size hi-sIx items.size 0 lo=items.size:=eq_of_beq q.2;exact hw ⟨by omega,by omega⟩
 show A6 _ _ (if(((sIx items.size 0 lo:Nat):Int) == 0&&(1:Int) == 1&&(sIx items.size items.size hi-sIx items.size 0 lo) == items.size)=true then _ else _) _ _ s;rw[jt hno,Np]
 first
   |exact A3 (m:=o5 _) (N5 (B0 ⟨_,rfl,B0 h⟩) htake)
   |exact A3 (m:=o5 _) (N5 (A3 (B0 (B0 ⟨_,rfl,B0 h⟩))) htake)
   |exact A3 (A3 (m:=o5 _) (N5 (B0 (B0 ⟨_,rfl,B0 h⟩)) htake))
   |exact A3 (A3 (m:=o5 _) (N5 (B0 ⟨_,rfl,B0 h⟩) htake))
end
end HT
namespace L2
open PySem PySem.Spec PyProof.Rows
abbrev TO:=St->Hp->(Option Int->Hp->Prop)->Prop
def PO (X:Cx)(e:Option Expr)(t:TO):Prop:=
 ∀ (jb : List (A0 × Obj)) (s : A5) (σ : St) (H : Hp) (Q : Option Int -> Hp -> Prop), Inv X jb σ H s -> t σ H Q ->
   A6 (A9 X.prog X.w) X.A (evalPart e X.env) (λu s'=>∃o H',Inv X jb σ H' s'/\IsPart u o/\Q o H') X.xe s
def Nq:TO:=λ_ H Q=>Q none H
def tPart (t:TE):TO:=λσ H Q=>t σ H λx H1=>∃i,x=.int i/\Q (some i) H1
section
variable {X:Cx}{e:Expr}{te:TE}{lo hi:Option Expr}{tl th:TO}{pos p2:Pos}
theorem Nr:PO X none Nq:=by
 intro jb s σ H Q I h;rw[evalPart_none];exact B0 ⟨none,H,I,.none,h⟩
theorem Nt (h:PE X e te):PO X (some e) (tPart te):=by
 intro jb s σ H Q I hw;rw[evalPart_some];refine thn (h jb s σ H _ I hw) λu s1 ⟨x,H1,I1,r1,q1⟩=>?_;obtain⟨i,rfl,q⟩:=q1;obtain⟨t,rfl⟩:=r1;exact⟨some i,H1,I1,.int i t,q⟩
def SlR (X:Cx)(r:V->Option Int->Option Int->Hp->VK->Prop):Prop:=
 ∀ (jb : List (A0 × Obj)) (s : A5) (σ : St) (H : Hp) (x : V) (v vl vu : A1) (lo hi : Option Int) (sl : A0) (Q : VK), Inv X jb σ H s -> RelV x v -> s.heap.IsSliceOf sl vl vu .none -> IsPart vl lo -> IsPart vu hi -> r x lo hi H Q ->
   ∃T id,typeLookup (.type T) "__getitem__"=pure (some (.builtin id))/\s.TypeIs v T/\A6 (A9 X.prog X.w) X.A (getItem v (.ref sl)) (EP X jb σ Q) X.xe s
theorem SlR.or (h:SlR X r)(h':SlR X r'):SlR X (λx lo hi H Q=>r x lo hi H Q\/r' x lo hi H Q):=by
 intro jb s σ H x v vl vu lo hi sl Q I rx hs pl pu q;rcases q with q|q
 ·exact h jb s σ H x v vl vu lo hi sl Q I rx hs pl pu q
 ·exact h' jb s σ H x v vl vu lo hi sl Q I rx hs pl pu q
def tSl (r:V->Option Int->Option Int->Hp->VK->Prop)(te:TE)(tl th:TO):TE:=λσ H Q=>te σ H λx H1=>tl σ H1 λl H2=>th σ H2 λu H3=>r x l u H3 Q
theorem Nu (hr:SlR X r)(he:PE X e te)(hl:PO X lo tl)(hu:PO X hi th):PE X (.Subscript e (.Slice lo hi none p2) pos) (tSl r te tl th):=by
 intro jb s σ H Q I h;refine Subscript_ (thn (he jb s σ H _ I h) λv s1 ⟨x,H1,I1,r1,q1⟩=>?_);refine wpAny_Slice (thn (hl jb s1 σ H1 _ I1 q1) λvl s2 ⟨l,H2,I2,pl,q2⟩=>thn (hu jb s2 σ H2 _ I2 q2) λvu s3 ⟨u,H3,I3,pu,q3⟩=>?_);rw[evalPart_none];refine B0 ?_;have I4:Inv X jb σ H3 { s3 with heap:=s3.heap.push { cls:=.type "slice",data:=.fields #[vl,vu,.none] } }:=I3.kept (t':=s3.toks) λb ob q=>D0 _ q;obtain⟨T,id,hT,ht,hg⟩:=hr jb { s3 with heap:=s3.heap.push { cls:=.type "slice",data:=.fields #[vl,vu,.none] } } σ H3 x v vl vu l u s3.heap.objs.size Q I4 r1 (FZ ..) pl pu q3;show A6 (A9 X.prog X.w) X.A (subscriptTail e (.Slice lo hi none p2) v (.ref s3.heap.objs.size)) (EP X jb σ Q) X.xe { s3 with heap:=s3.heap.push { cls:=.type "slice",data:=.fields #[vl,vu,.none] } };exact tail_any (ops:=[.ref s3.heap.objs.size,v]) ht hT hg (by with_unfolding_all rfl)
def cutV (xs:List V)(lo hi:Option Int):List V:=(xs.drop (HT.sIx xs.length 0 lo)).take (HT.sIx xs.length xs.length hi-HT.sIx xs.length 0 lo)
theorem IV (xs:List V)(lo hi:Option Int):(cutV xs lo hi).length<=xs.length:=by
 unfold cutV;rw[P4,W7];omega
def rSlT (K:A8):V->Option Int->Option Int->Hp->VK->Prop:=λx lo hi H Q=>∃a xs,x=.ref a/\SqT K H a xs/\
 ¬(HT.sIx xs.length 0 lo=0/\HT.sIx xs.length xs.length hi=xs.length)/\∀p,H p=none->Q (.ref p) (upd H p (.tup (cutV xs lo hi)))
theorem sl_tup:SlR X (rSlT X.K):=by
 intro jb s σ H x v vl vu lo hi sl Q I rx hs pl pu h;obtain⟨a,xs,rfl,hx,hw,q⟩:=h;cases rx;obtain⟨jf,r,ht,hz⟩:=I.tuple hx;have hlen:jf.toArray.size=xs.length:=by rw[F4];exact r.length.symm
 refine⟨"tuple",_,PyProof.Rows.slot_tuple_getitem.lookup,ht.typeIs,?_⟩;refine HT.getItem_tuple_cut ht hs pl pu (by rw[hlen];exact hw) ?_ (by rw[hlen];exact hz);rw[hlen];refine⟨.ref s.heap.objs.size,_,I.laid (t':=s.toks) (o:=.tup (cutV xs lo hi)) (λb ob q=>D0 _ q) (B9 _) ?_,rfl,q _ (I.hok.fresh (B9 _))⟩;exact⟨N1 (IV xs lo hi) hz,_,(r.drop (HT.sIx xs.length 0 lo)).take (HT.sIx xs.length xs.length hi-HT.sIx xs.length 0 lo),X5.new _ _⟩
def rCatT (K:A8):R2:=λx y H Q=>∃a b xs ys,x=.ref a/\y=.ref b/\SqT K H a xs/\SqT K H b ys/\xs≠[]/\xs.length+ys.length<=C4/\
 (ys=[]->Q (.ref a) H)/\(ys≠[]->∀p,H p=none->Q (.ref p) (upd H p (.tup (xs++ys))))
theorem Vals.nil_iff (r:Vals xs us):us=[]↔xs=[]:=by
 cases r with
 |nil=>simp
 |cons _ _=>simp
theorem Nv:OpR X (R3 .Add) (rCatT X.K):=by
 intro jb s σ H x y v u Q I rx ry h;obtain⟨a,b,xs,ys,rfl,rfl,ha,hb,hx,hz,q1,q2⟩:=h;cases rx;cases ry;obtain⟨jf,r1,p1,_⟩:=I.tuple ha;obtain⟨its2,r2,p2,_⟩:=I.tuple hb;refine HT.cat_tup p1 p2 (λz=>hx (r1.nil_iff.mp z)) (λz=>⟨.ref a,H,I,rfl,q1 (r2.nil_iff.mp z)⟩) (λz=>?_) (by rw[<- r1.length,<- r2.length];exact hz);refine⟨.ref s.heap.objs.size,_,I.laid (t':=s.toks) (o:=.tup (xs++ys)) (λb ob q=>D0 _ q) (B9 _) ?_,rfl,q2 (λw=>z (r2.nil_iff.mpr w)) _ (I.hok.fresh (B9 _))⟩;exact⟨by rw[E3];exact hz,_,r1.append r2,X5.new _ _⟩
end
def ixN (n:Nat)(i:Int):Option Nat:=if 0<=i then(if i<n then some i.toNat else none) else if -(n:Int)<=i then some (i+n).toNat else none
def atI {α:Type}(xs:List α)(i:Int):Option α:=(ixN xs.length i).bind λj=>xs[j]?
theorem Gr (h:ixN n i=some j):seqIndex? i n=some j/\j<n/\-(n:Int)<=i/\i<n:=by
 unfold ixN at h
 by_cases h0:0<=i
 ·rw[jr h0] at h
  by_cases h1:i<n
  ·rw[jr h1] at h;have e:i.toNat=j:=M7 h;exact⟨by rw[seqIndex_of h0 h1,e],by omega,by omega,h1⟩
  ·rw[jt h1] at h;cases h
 ·rw[jt h0] at h
  by_cases h1:-(n:Int)<=i
  ·rw[jr h1] at h;have e:(i+n).toNat=j:=M7 h;exact⟨by rw[seqIndex_neg (by omega) h1,e],by omega,h1,by omega⟩
  ·rw[jt h1] at h;cases h
theorem Gs {α:Type}{xs:List α}{i:Int}{v:α}(h:atI xs i=some v):∃j,seqIndex? i xs.length=some j/\xs[j]?=some v/\j<xs.length/\-(xs.length:Int)<=i/\i<xs.length:=by
 unfold atI at h;cases e:ixN xs.length i with
 |none=>rw[e] at h;cases h
 | some j =>
  rw[e] at h;obtain⟨h1,h2,h3,h4⟩:=Gr e;exact⟨j,h1,h,h2,h3,h4⟩
theorem CG {α:Type}{xs:List α}{j:Nat}{v:α}(h:xs[j]?=some v):atI xs (j:Int)=some v:=by
 have hj:j<xs.length:=(F7.mp h).1
 have e:ixN xs.length (j:Int)=some j:=by
  unfold ixN;rw[jr (by omega),jr (by omega)];simp
 unfold atI;rw[e];exact h
def Gu (b:Expr):Prop:=∀o i,subscripted b false o i=operate [o,i] (getItem o i)
def IxR (X:Cx)(r:R2):Prop:=
 ∀ (value slice : Expr) (jb : List (A0 × Obj)) (s : A5) (σ : St) (H : Hp) (x y : V) (v u : A1) (Q : VK), Inv X jb σ H s -> RelV x v -> RelV y u -> r x y H Q ->
   subscripted slice false v u=operate [v,u] (getItem v u)->A6 (A9 X.prog X.w) X.A (subscriptTail value slice v u) (EP X jb σ Q) X.xe s
def MtR (X:Cx)(id:String)(r:V->List V->Hp->VK->Prop):Prop:=
 ∀ (jb : List (A0 × Obj)) (s : A5) (σ : St) (H : Hp) (x : V) (xs : List V) (v : A1) (us : List A1) (Q : VK), Inv X jb σ H s -> RelV x v -> Vals xs us -> r x xs H Q ->
   A6 (A9 X.prog X.w) X.A (call (.builtin id) (v::us)) (EP X jb σ Q) X.xe s
section
variable {X:Cx}{a b:Expr}{ta tb:TE}{pos:Pos}
theorem IxR.or (h:IxR X r)(h':IxR X r'):IxR X (λx y H Q=>r x y H Q\/r' x y H Q):=by
 intro value slice jb s σ H x y v u Q I rx ry q hs;rcases q with q|q
 ·exact h value slice jb s σ H x y v u Q I rx ry q hs
 ·exact h' value slice jb s σ H x y v u Q I rx ry q hs
theorem i9 (hr:IxR X r)(ha:PE X a ta)(hb:PE X b tb)(hs:Gu b):PE X (.Subscript a b pos) (tOp r ta tb):=by
 intro jb s σ H Q I h;exact Subscript_ (binT ha hb I h λv u s2 x y H2 I2 rx ry q=>hr a b jb s2 σ H2 x y v u Q I2 rx ry q (hs _ _))
def rIxL (K:A8):R2:=λx y H Q=>∃p xs i v,x=.ref p/\y=.int i/\SqL K H p xs/\atI xs i=some v/\Q v H
def rIxT (K:A8):R2:=λx y H Q=>∃p xs i v,x=.ref p/\y=.int i/\SqT K H p xs/\atI xs i=some v/\Q v H
def rIxS:R2:=λx y H Q=>∃z i c,x=.str z/\y=.int i/\z.length<=C4/\atI z.cps.toList i=some c/\Q (.str ⟨#[c]⟩) H
theorem q8:IxR X (rIxL X.K):=by
 intro value slice jb s σ H x y v u Q I rx ry h hs;obtain⟨p,xs,i,z,rfl,rfl,hq,he,q⟩:=h;cases rx;obtain⟨t,rfl⟩:=ry;obtain⟨jf,r,pl,hz⟩:=I.list hq;obtain⟨j,h1,h2,h3,h4,h5⟩:=Gs he;obtain⟨w,ew,rw'⟩:=r.get h2;have hl:=r.length;have hn:=Ai;have fin:EP X jb σ Q w s:=⟨z,H,I,rw',q⟩
 by_cases h0:0<=i
 ·have hj:i.toNat=j:=by
   rw[seqIndex_of h0 h5] at h1;exact M7 h1
  exact item_listR pl.isList h0 (by omega) (by rw[hj];simpa using ew) fin hs
 ·have hj:(i+(jf.toArray.size:Int)).toNat=j:=by
   rw[seqIndex_neg (by omega) h4] at h1;rw[F4,<- hl];exact M7 h1
  exact subscriptTail_builtinR (x:=w) pl.isList.typeIs slot_list_getitem.lookup
    (wpAny_getItem_list_neg (Q:=λr s'=>r=w/\EP X jb σ Q r s') pl.isList (by omega) (by rw[F4] <;> omega) (by omega) (by rw[hj];simpa using ew) ⟨rfl,fin⟩) hs
theorem ix_tup:IxR X (rIxT X.K):=by
 intro value slice jb s σ H x y v u Q I rx ry h hs;obtain⟨p,xs,i,z,rfl,rfl,hq,he,q⟩:=h;cases rx;obtain⟨t,rfl⟩:=ry;obtain⟨jf,r,pl,hz⟩:=I.tuple hq;obtain⟨j,h1,h2,h3,h4,h5⟩:=Gs he;obtain⟨w,ew,rw'⟩:=r.get h2;have hl:=r.length;have hn:=Ai;have fin:EP X jb σ Q w s:=⟨z,H,I,rw',q⟩
 exact subscriptTail_builtinR (x:=w) pl.typeIs slot_tuple_getitem.lookup
   (getItem_tuple (j:=j) (Q:=λr s'=>r=w/\EP X jb σ Q r s') pl (by omega) (by omega) (by grind) (by grind) ⟨rfl,fin⟩) hs
theorem ix_str:IxR X rIxS:=by
 intro value slice jb s σ H x y v u Q I rx ry h hs;obtain⟨z,i,c,rfl,rfl,hz,he,q⟩:=h;obtain⟨t,rfl⟩:=rx;obtain⟨t',rfl⟩:=ry;obtain⟨j,h1,h2,h3,h4,h5⟩:=Gs he;have hl:z.cps.toList.length=z.length:=by simp[Str.length]
 rw[hl] at h1 h4 h5;have hn:=Ai
 exact tail_any (typeIs_str s z t) slot_str_getitem.lookup (getItem_str (c:=c) (by
  have e1:decide (i < -(2 ^ 63:Int))=false:=jq (by omega);have e2:decide (i>=2 ^ 63)=false:=jq (by omega)
  rw[e1,e2,Aa]) (by grind) ⟨.str ⟨#[c]⟩,H,I.tok _,⟨_,rfl⟩,q⟩) hs
def rIx (K:A8):R2:=λx y H Q=>rIxL K x y H Q\/rIxT K x y H Q\/rIxS x y H Q
theorem IW:IxR X (rIx X.K):=q8.or (ix_tup.or ix_str)
theorem Nw (jf:List A1)(n j:Nat)(u:A1):F8 (·.setIfInBounds j u) { cls:=.type "list",data:=.seq jf.toArray n }={ cls:=.type "list",data:=.seq (jf.set j u).toArray n }:=by
 simp[F8]
theorem Inv.lst (I:Inv X jb σ H s)(h:H p=some (.lst xs)) :
   ∃(jf:List A1) (n:Nat),Vals xs jf/\s.heap.get? p=some { cls:=.type "list",data:=.seq jf.toArray n }/\xs.length<=C4:=by
 obtain⟨z,jf,n,r,e⟩:=I.hok p _ h;exact⟨jf,n,r,e,z⟩
theorem Inv.lstUpd {jf its':List A1}(I:Inv X jb σ H s)(h:H p=some (.lst xs))
   (ho:s.heap.get? p=some { cls:=.type "list",data:=.seq jf.toArray n }) (hf:f { cls:=.type "list",data:=.seq jf.toArray n }={ cls:=.type "list",data:=.seq its'.toArray n' }) (r:Vals ys its') (hz:ys.length<=C4) (t:Nat) :
   Inv X jb σ (upd H p (.lst ys)) { s with heap:=s.heap.update p f,toks:=t }:=by
 have e:(s.heap.update p f).get? p=some { cls:=.type "list",data:=.seq its'.toArray n' }:=by
  rw[AY f ho (by rw[hf] <;> rfl),hf]
 refine I.write (x:=p) (e:=p) (by rw[h];trivial) (.inl rfl) (λb u hb q=>(AX _ _ (Ne.symm hb)).trans q) ⟨_,e⟩ ?_;exact⟨hz,its',n',r,e⟩
def Gv:V->V->V->Hp->(Hp->Prop)->Prop:=λo i v H Q=>∃p xs k j,o=.ref p/\i=.int k/\H p=some (.lst xs)/\ixN xs.length k=some j/\Q (upd H p (.lst (xs.set j v)))
theorem Gw:PSet X Gv:=by
 intro jb s σ H o i v ov iv u Q I ro ri rv h;obtain⟨p,xs,k,j,rfl,rfl,hp,hj,q⟩:=h;cases ro;obtain⟨t,rfl⟩:=ri;obtain⟨jf,n,r,ho,hz⟩:=I.lst hp;obtain⟨h1,h2,h3,h4⟩:=Gr hj;have hl:=r.length;have hn:=Ai
 have I':Inv X jb σ (upd H p (.lst (xs.set j v))) { s with heap:=s.heap.update p (F8 (·.setIfInBounds j u)) }:=
  I.lstUpd hp ho (Nw jf n j u) (r.set rv j) (by grind) s.toks
 by_cases h0:0<=k
 ·have hk:k.toNat=j:=by
   rw[seqIndex_of h0 h4] at h1;exact M7 h1
  exact PySem.W.ki_setAt ho h0 (by omega) (by grind) (by grind)
 ·have hk:(k+(jf.toArray.size:Int)).toNat=j:=by
   rw[seqIndex_neg (by omega) h3] at h1;rw[F4,<- hl];exact M7 h1
  exact PySem.W.ki_setBack ho (by omega) (by rw[F4,<- hl];exact h3) (by omega) (by rw[hk];exact⟨_,I',q⟩)
theorem Nx (lo hi:Option Int)(n:Nat):(x9 lo hi none n).1=((HT.sIx n 0 lo:Nat):Int)/\(x9 lo hi none n).2.1=((HT.sIx n n hi:Nat):Int)/\(x9 lo hi none n).2.2=1:=by
 refine⟨?_,?_,rfl⟩
 ·cases lo with
  |none=>simp[x9,HT.sIx]
  | some i =>
   simp only[x9,HT.sIx,Option.getD_none,show(1:Int)>0 by decide,if_true]
   by_cases h:i<0
   ·simp only[h,if_true] <;> omega
   ·simp only[h,if_false] <;> omega
 ·cases hi with
  |none=>simp[x9,HT.sIx]
  | some i =>
   simp only[x9,HT.sIx,Option.getD_none,show(1:Int)>0 by decide,if_true]
   by_cases h:i<0
   ·simp only[h,if_true] <;> omega
   ·simp only[h,if_false] <;> omega
theorem Ny (jf:List A1)(lo hi:Option Int):slicePick jf.toArray lo hi none=((jf.drop (HT.sIx jf.length 0 lo)).take (HT.sIx jf.length jf.length hi-HT.sIx jf.length 0 lo)).toArray:=by
 obtain⟨h1,h2,h3⟩:=Nx lo hi jf.toArray.size;unfold slicePick;rw[h1,h2,h3];simp only[sliceRange_one,pick_run,F4] <;> rfl
def rSlL (K:A8):V->Option Int->Option Int->Hp->VK->Prop:=λx lo hi H Q=>∃a xs,x=.ref a/\SqL K H a xs/\∀p,H p=none->Q (.ref p) (upd H p (.lst (cutV xs lo hi)))
theorem Nz:SlR X (rSlL X.K):=by
 intro jb s σ H x v vl vu lo hi sl Q I rx hs pl pu h;obtain⟨a,xs,rfl,hx,q⟩:=h;cases rx;obtain⟨jf,r,ht,hz⟩:=I.list hx;have hlen:=r.length;refine⟨"list",_,slot_list_getitem.lookup,ht.isList.typeIs,?_⟩;refine wpAny_getItem_list_slice ht.isList hs pl pu .none (by simp) ?_ (by rw[F4] <;> omega)
 rw[Ny,<- hlen];refine⟨.ref s.heap.objs.size,_,I.laid (t':=s.toks) (o:=.lst (cutV xs lo hi)) (λb ob q=>D0 _ q) (B9 _) ?_,rfl,q _ (I.hok.fresh (B9 _))⟩;exact⟨N1 (IV xs lo hi) hz,_,0,(r.drop (HT.sIx xs.length 0 lo)).take (HT.sIx xs.length xs.length hi-HT.sIx xs.length 0 lo),G4 _ rfl⟩
def P6:V->Bool
 |.non=>true
 |.bl _=>true
 |.int _=>true
 |.str _=>true
 |_=>false
def eqV:V->V->Bool
 |.non,.non=>true
 |.bl a,.bl b=>a == b
 |.bl a,.int b=>(if a then 1 else 0) == b
 |.int a,.bl b=>a == (if b then 1 else 0)
 |.int a,.int b=>a == b
 |.str a,.str b=>a == b
 |_,_=>false
theorem Gx (ry:RelV y u)(rx:RelV x v)(fy:P6 y=true)(fx:P6 x=true):X3 A s u v (eqV y x):=by
 cases y with
 | non =>
  cases ry;cases x with
  |non=>cases rx;exact SeqAt.EqAt.same _
  |bl b=>cases rx;exact SeqAt.EqAt.none_bool b
  |int b=>obtain⟨t,rfl⟩:=rx;exact SeqAt.EqAt.none_int b t
  |str b=>obtain⟨t,rfl⟩:=rx;exact SeqAt.EqAt.none_str b t
  |_=>exact absurd (show false=true from fx) T9
 | bl a =>
  cases ry;cases x with
  |non=>cases rx;exact SeqAt.EqAt.bool_none a
  |bl b=>cases rx;exact SeqAt.EqAt.bool_bool a b
  |int b=>obtain⟨t,rfl⟩:=rx;exact SeqAt.EqAt.bool_int a b t
  |str b=>obtain⟨t,rfl⟩:=rx;exact SeqAt.EqAt.bool_str a b t
  |_=>exact absurd (show false=true from fx) T9
 | int a =>
  obtain⟨t',rfl⟩:=ry;cases x with
  |non=>cases rx;exact SeqAt.EqAt.int_none a t'
  |bl b=>cases rx;exact SeqAt.EqAt.int_bool a t' b
  |int b=>obtain⟨t,rfl⟩:=rx;exact SeqAt.EqAt.int_int a t' b t
  |str b=>obtain⟨t,rfl⟩:=rx;exact SeqAt.EqAt.int_str a t' b t
  |_=>exact absurd (show false=true from fx) T9
 | str a =>
  obtain⟨t',rfl⟩:=ry;cases x with
  |non=>cases rx;exact SeqAt.EqAt.str_none a t'
  |bl b=>cases rx;exact SeqAt.EqAt.str_bool a t' b
  |int b=>obtain⟨t,rfl⟩:=rx;exact SeqAt.EqAt.str_int a t' b t
  |str b=>obtain⟨t,rfl⟩:=rx;exact SeqAt.EqAt.str_str a t' b t
  |_=>exact absurd (show false=true from fx) T9
 |_=>exact absurd (show false=true from fy) T9
theorem NA:OpR X (M5 .NotIn) (λx y H Q=>∃i j,x=.str i/\y=.str j/\Q (.bl (!(!(Bm j i 0 j.length 1).isEmpty))) H):=by
 intro jb s σ H x y v u Q I rx ry h;obtain⟨i,j,rfl,rfl,q⟩:=h;obtain⟨t,rfl⟩:=rx;obtain⟨t',rfl⟩:=ry;exact notIn_str ⟨.bl _,H,I,rfl,q⟩
theorem IX:L6 X (.builtin "len") (λxs H Q=>∃p ys,xs=[.ref p]/\(SqL X.K H p ys\/SqT X.K H p ys)/\Q (.int ys.length) H):=by
 intro jb s σ H xs us Q I r h;obtain⟨p,ys,rfl,hq,q⟩:=h;obtain⟨u,rfl,rx⟩:=p9 r;cases rx;have hn:=Ai;rcases hq with hq|hq
 ·obtain⟨jf,r',pl,hz⟩:=I.list hq;have hlen:=r'.length;exact Calls.call_len_list pl.isList (by simp only[F4] <;> omega) ⟨.int ys.length,H,I.tok _,⟨s.toks+1,by rw[F4,hlen]⟩,q⟩
 ·obtain⟨jf,r',pl,hz⟩:=I.tuple hq;have hlen:=r'.length;exact len_tuple pl (by simp only[F4] <;> omega) ⟨.int ys.length,H,I.tok _,⟨s.toks+1,by rw[F4,hlen]⟩,q⟩
theorem NB:L6 X (.builtin "len") (λxs H Q=>∃z,xs=[.str z]/\z.length<=C4/\Q (.int z.length) H):=by
 intro jb s σ H xs us Q I r h;obtain⟨z,rfl,hz,q⟩:=h;obtain⟨u,rfl,t,rfl⟩:=p9 r;have hn:=Ai;exact len_str (by omega) ⟨.int z.length,H,I.tok _,⟨_,rfl⟩,q⟩
theorem L6.or (h:L6 X f r)(h':L6 X f r'):L6 X f (λxs H Q=>r xs H Q\/r' xs H Q):=by
 intro jb s σ H xs us Q I rs q;rcases q with q|q
 ·exact h jb s σ H xs us Q I rs q
 ·exact h' jb s σ H xs us Q I rs q
theorem NC:L6 X (.type "list") (λxs H Q=>∃p ys,xs=[.ref p]/\(SqL X.K H p ys\/SqT X.K H p ys)/\∀l,H l=none->Q (.ref l) (upd H l (.lst ys))):=by
 intro jb s σ H xs us Q I r h;obtain⟨p,ys,rfl,hq,q⟩:=h;obtain⟨u,rfl,rx⟩:=p9 r;cases rx
 have fin:∀(jf:List A1),Vals ys jf->ys.length<=C4->∀(h':B7) (c':Nat),(∀b o',s.heap.get? b=some o'->h'.get? b=some o')->
     h'.get? s.heap.objs.size=some { cls:=.type "list",dict:=none,data:=.seq jf.toArray c',slots:=#[] }->EP X jb σ Q (.ref s.heap.objs.size) { s with heap:=h' }:=λjf r' hz h' c' kp e=>
   ⟨.ref s.heap.objs.size,_,I.laid (t':=s.toks) kp (B9 _) (show G7 X.prog X.w _ h' _ (.lst ys) from⟨hz,jf,c',r',e⟩),rfl,q _ (I.hok.fresh (B9 _))⟩
 rcases hq with hq|hq
 ·obtain⟨jf,r',pl,hz⟩:=I.list hq;have hlen:=r'.length;obtain⟨o,ho,hc,n,hd⟩:=pl.isList;exact call_list_seq p (.inl rfl) ho hc hd (λh' c' kp e=>fin jf r' hz h' c' kp e) (by simp only[F4] <;> omega)
 ·obtain⟨jf,r',pl,hz⟩:=I.tuple hq;have hlen:=r'.length;obtain⟨o,ho,hc,n,hd⟩:=pl;exact call_list_seq p (.inr rfl) ho hc hd (λh' c' kp e=>fin jf r' hz h' c' kp e) (by simp only[F4] <;> omega)
theorem ND:L6 X (.type "tuple") (λxs H Q=>∃p ys,xs=[.ref p]/\((SqL X.K H p ys/\∀l,H l=none->Q (.ref l) (upd H l (.tup ys)))\/(SqT X.K H p ys/\Q (.ref p) H))):=by
 intro jb s σ H xs us Q I r h;obtain⟨p,ys,rfl,h⟩:=h;obtain⟨u,rfl,rx⟩:=p9 r;cases rx;rcases h with⟨hq,q⟩|⟨hq,q⟩
 ·obtain⟨jf,r',pl,hz⟩:=I.list hq;have hlen:=r'.length;refine call_tuple_list pl.isList (λh' kp=>?_) (by simp only[F4] <;> omega)
  have I1:Inv X jb σ H { s with heap:=h' }:=I.kept (t':=s.toks) kp
  have I2:Inv X jb σ (upd H h'.objs.size (.tup ys)) { s with heap:=h'.push { cls:=.type "tuple",data:=.seq jf.toArray } }:=
   I1.laid (t':=s.toks) (λb o e=>D0 _ e) (B9 _) (show G7 X.prog X.w _ _ _ (.tup ys) from⟨hz,jf,r',X5.new _ _⟩)
  exact⟨.ref h'.objs.size,_,I2,rfl,q _ (I1.hok.fresh (B9 _))⟩
 ·obtain⟨jf,r',pl,hz⟩:=I.tuple hq;exact call_tuple_same pl ⟨.ref p,H,I,rfl,q⟩
def tyV (K:A8)(T:String)(x:V)(H:Hp):Prop:=match x with
 |.str _=>T="str"
 |.int _=>T="int"
 |.ref p=>(T="list"/\∃xs,SqL K H p xs)\/(T="tuple"/\((∃o,K.lookup p=some o/\o.cls=.type "tuple"/\o.dict=none)\/∃xs,H p=some (.tup xs)))\/
     (T="dict"/\((∃jg,H p=some (.dK jg))\/∃jg,H p=some (.dT jg)))\/(T="set"/\∃S n,H p=some (.set S n))
 |_=>False
theorem tyV_is (I:Inv X jb σ H s)(r:RelV x v)(ty:tyV X.K T x H) :
   s.TypeIs v T/\∀a,v=.ref a->∃ob,s.heap.get? a=some ob/\ob.dict=none:=by
 cases x with
 | str z =>
  obtain⟨t,rfl⟩:=r;cases(show T="str" from ty);exact⟨typeIs_str s z t,λ_ e=>nomatch e⟩
 | int i =>
  obtain⟨t,rfl⟩:=r;cases(show T="int" from ty);exact⟨typeIs_int s i t,λ_ e=>nomatch e⟩
 | ref p =>
  cases r;rcases ty with⟨rfl,xs,hq⟩|⟨rfl,hk⟩|⟨rfl,hk⟩|⟨rfl,S,n,hk⟩
  ·obtain⟨jf,_,pl,_⟩:=I.list hq;refine⟨pl.isList.typeIs,λa e=>?_⟩;cases e;obtain⟨o,n,e,c,hd,_⟩:=pl;exact⟨o,e,hd⟩
  ·rcases hk with⟨o,hk,hc,hd⟩|⟨xs,hk⟩
   ·refine⟨⟨o,I.kIn p o hk,hc⟩,λa e=>?_⟩;cases e;exact⟨o,I.kIn _ o hk,hd⟩
   ·obtain⟨_,_,_,o,e,c,_⟩:=(show G7 X.prog X.w H s.heap p (.tup xs) from I.hok p _ hk);refine⟨⟨o,e,(Prod.mk.inj c).1⟩,λa e2=>?_⟩;cases e2;exact⟨o,e,(Prod.mk.inj c).2⟩
  ·have z:∃o,s.heap.get? p=some o/\o.ExactDict:=by
    rcases hk with⟨jg,hk⟩|⟨jg,hk⟩
    ·obtain⟨_,_,_,_,o,_,_,e,ex,_⟩:=I.hok p _ hk;exact⟨o,e,ex⟩
    ·obtain⟨_,_,_,_,o,_,_,e,ex,_⟩:=I.hok p _ hk;exact⟨o,e,ex⟩
   obtain⟨o,e,ex⟩:=z;refine⟨⟨o,e,ex.1⟩,λa e2=>?_⟩;cases e2;exact⟨o,e,ex.2.1⟩
  ·obtain⟨o,_,_,_,e,ex,_⟩:=I.hok p _ hk;refine⟨⟨o,e,ex.1⟩,λa e2=>?_⟩;cases e2;exact⟨o,e,ex.2.1⟩
 |_=>exact Z5 ty
def tBM (K:A8)(T:String)(r:V->List V->Hp->VK->Prop)(to:TE)(t:TA):TE:=λσ H Q=>to σ H λx H1=>tyV K T x H1/\t σ H1 λxs H2=>r x xs H2 Q
variable {o e:Expr}{es:List Expr}{to:TE}{t:TA}{name:Str}{apos cpos:Pos}{T id:String}{r:V->List V->Hp->VK->Prop}
theorem Bx (pa:PlainAttrs T)(slot:Slot T name id)(hty:typeOf (.builtin id)=pure (.type "method_descriptor"))(hm:MtR X id r)(ho:PE X o to)(ha:PA X (e::es) t)
   (hbase:x6 o name X.env (eval o X.env)=eval o X.env:=by rfl)
   (hfew:((backTo cpos (E9 (e::es) X.env)).all (λx=>!x.1)&&(Z0 cpos (Y8 [] X.env)).all (λx=>x.1.isSome)
     && decide ((e::es).length+([]:List Q4).length+(if([]:List Q4).isEmpty then 0 else 1)<30))=true:=by rfl)
   (hline:(apos.endLine == cpos.line)=true:=by rfl) (hs:E9 (e::es) X.env=(false,eval e X.env)::E9 es X.env:=by rfl) (hplain:(backTo cpos (E9 es X.env)).any (·.1)=false:=by rfl) :
   PE X (.Call (.Attribute o name apos) (e::es) [] cpos) (tBM X.K T r to t):=by
 intro jb s σ H Q I h;refine wpAny_Call_method_late hbase hfew hline rfl (thn (ho jb s σ H _ I h) λv s1 ⟨x,H1,I1,r1,ty,q1⟩=>?_);obtain⟨h1,h2⟩:=tyV_is I1 r1 ty;refine⟨T,id,pa,slot,hty,h1,h2,?_⟩;have hA:=ha cpos jb s1 σ H1 _ I1 q1;rw[hs] at hA ⊢;refine Calls.callWith_builtin (by show(false||(backTo cpos (E9 es X.env)).any (·.1))=false;rw[hplain] <;> rfl) (Calls.evalArgs_plain ?_)
 exact thn hA λus s2 ⟨vs,H2,I2,r2,q2⟩=>hm jb s2 σ H2 x vs v us Q I2 r1 r2 q2
end
def MtM (X:Cx)(id:String)(r:V->List V->Hp->VK->Prop):Prop:=
 ∀ (jb : List (A0 × Obj)) (s : A5) (σ : St) (H : Hp) (x : V) (xs : List V) (v : A1) (us : List A1) (Q : VK), Inv X jb σ H s -> RelV x v -> Vals xs us -> r x xs H Q ->
   A6 (A9 X.prog X.w) X.A (call (.builtin id) (v::us)) (EP X jb σ Q) X.xe s
theorem Vals.one (h:Vals [x] us):∃u,us=[u]/\RelV x u:=by
 cases h with|cons r h=>cases h;exact⟨_,rfl,r⟩
theorem Vals.two (h:Vals [x,y] us):∃u v,us=[u,v]/\RelV x u/\RelV y v:=by
 cases h with|cons r h=>cases h with|cons q h=>cases h;exact⟨_,_,rfl,r,q⟩
theorem Vals.eraseIdx:∀{xs:List V} {us:List A1} (i:Nat),Vals xs us->Vals (xs.eraseIdx i) (us.eraseIdx i)
 |_,_,_,.nil=>.nil
 |_,_,0,.cons _ t=>t
 |_,_,i+1,.cons r t=>.cons r (Vals.eraseIdx i t)
theorem len_erase {α:Type}:∀(l:List α) (i:Nat),(l.eraseIdx i).length<=l.length:=by grind
section
variable {X:Cx}{jb:List (A0×Obj)}{σ:St}{H:Hp}{s:A5}{l b:A0}{xs ys zs:List V}
theorem Inv.lset {jf its':List A1}(I:Inv X jb σ H s)(hH:H l=some (.lst xs))
   (e:s.heap.get? l=some { cls:=.type "list",data:=.seq jf.toArray n }) (hf:f jf.toArray=its'.toArray) (hv:Vals ys its') (hz:ys.length<=C4) :
   Inv X jb σ (upd H l (.lst ys)) { s with heap:=s.heap.update l (F8 f),toks:=t' }:=by
 have q:=PySem.IsL.update e f;rw[hf] at q;refine I.write (x:=l) (e:=l) (by rw[hH];exact trivial) (.inl rfl) (λb' u hb hu=>(AX s.heap (F8 f) (Ne.symm hb)).trans hu) ⟨_,q⟩ ?_;exact⟨hz,its',_,hv,q⟩
theorem Inv.lnew {jf:List A1}{t':Nat}(I:Inv X jb σ H s)(hv:Vals ys jf)(hz:ys.length<=C4) :
   Inv X jb σ (upd H s.heap.objs.size (.lst ys)) { s with heap:=s.heap.push { cls:=.type "list",data:=.seq jf.toArray },toks:=t' }:=
 I.laid (λ_ _ q=>D0 _ q) (B9 _) ⟨hz,jf,0,hv,G4 _ rfl⟩
theorem Inv.fresh (I:Inv X jb σ H s):H s.heap.objs.size=none:=I.hok.fresh (B9 _)
theorem Inv.lstM (I:Inv X jb σ H s)(hH:H l=some (.lst xs)):xs.length<=C4/\∃(jf:List A1) (n:Nat),Vals xs jf/\xs.length=jf.length/\s.heap.get? l=some { cls:=.type "list",data:=.seq jf.toArray n }:=by
 obtain⟨z,jf,n,r,e⟩:=I.hok l _ hH;exact⟨z,jf,n,r,r.length,e⟩
theorem NE (h:n<=C4):FV n=false:=by
 unfold FV;exact jq (by omega)
end
section
variable {X:Cx}
def IY:V->List V->Hp->VK->Prop:=λx vs H Q=>∃l xs y,x=.ref l/\vs=[y]/\H l=some (.lst xs)/\xs.length<C4/\Q .non (upd H l (.lst (xs++[y])))
theorem IZ:MtM X "list.append" IY:=by
 intro jb s σ H x vs v us Q I rx rv h;obtain⟨l,xs,y,rfl,rfl,hH,hz,q⟩:=h;cases rx;obtain⟨u,rfl,ru⟩:=rv.one;obtain⟨z,jf,n,r,hl,e⟩:=I.lstM hH;refine call_meets F.slot_list_append ⟨_,e,rfl⟩ F.entry_list_append (F.args_list_append_2 _ _) (PySem.list_append l jf.toArray n u (by rw[F4];omega)) ⟨e,?_⟩;refine⟨.non,_,I.lset (its':=jf++[u]) hH e (by simp) (r.append (.cons ru .nil)) ?_,rfl,q⟩;rw[E3,O7];omega
def I_:V->List V->Hp->VK->Prop:=λx vs H Q=>∃l b xs zs,x=.ref l/\vs=[.ref b]/\H l=some (.lst xs)/\H b=some (.lst zs)/\xs.length+zs.length<=C4/\Q .non (upd H l (.lst (xs++zs)))
theorem NF:MtM X "list.extend" I_:=by
 intro jb s σ H x vs v us Q I rx rv h;obtain⟨l,b,xs,zs,rfl,rfl,hH,hB,hz,q⟩:=h;cases rx;obtain⟨u,rfl,ru⟩:=rv.one;cases ru;obtain⟨z,jf,n,r,hl,e⟩:=I.lstM hH;obtain⟨z2,its2,n2,r2,hl2,e2⟩:=I.lstM hB;have hsz:jf.toArray.size+its2.toArray.size<=C4:=by rw[F4,F4];omega
 have hlong:¬(!jf.toArray.isEmpty&&FV (jf.toArray.size+its2.toArray.size))=true:=by
  rw[NE hsz,Bool.and_false];exact T9
 refine call_meets F.slot_list_extend ⟨_,e,rfl⟩ F.entry_list_extend (F.args_list_extend_2 _ _)
   (AutoSeq1.list_extend_list_list_0 l jf.toArray n b its2.toArray n2 hlong (by grind) (by omega)) ⟨e,e2,?_⟩
 refine⟨.non,_,I.lset (its':=jf++its2) hH e (by simp) (r.append r2) ?_,rfl,q⟩
 grind
def Ja:V->List V->Hp->VK->Prop:=λx vs H Q=>∃l xs i k y,x=.ref l/\vs=[.int i]/\H l=some (.lst xs)/\-(2 ^ 63)<=i/\i<2 ^ 63/\seqIndex? i xs.length=some k/\xs[k]?=some y/\Q y (upd H l (.lst (xs.eraseIdx k)))
theorem NG:MtM X "list.pop" Ja:=by
 intro jb s σ H x vs v us Q I rx rv h;obtain⟨l,xs,i,k,y,rfl,rfl,hH,h1,h2,hk,hy,q⟩:=h;cases rx;obtain⟨u,rfl,ru⟩:=rv.one;obtain⟨t,rfl⟩:=ru;obtain⟨z,jf,n,r,hl,e⟩:=I.lstM hH;obtain⟨w,hw,rw'⟩:=r.get hy
 refine call_meets F.slot_list_pop ⟨_,e,rfl⟩ F.entry_list_pop (F.args_list_pop_2 _ _)
   (MeetsSeq.list_pop_at l jf.toArray n i t k w (fitsIndex_both h1 h2) (by grind) (by grind) (by grind)) ⟨e,?_⟩
 refine⟨y,_,I.lset (its':=jf.eraseIdx k) hH e ?_ (r.eraseIdx k) ?_,rw',q⟩
 ·grind
 grind
def rCat:R2:=λx y H Q=>∃l b xs zs,x=.ref l/\y=.ref b/\H l=some (.lst xs)/\H b=some (.lst zs)/\xs.length+zs.length<=C4/\∀p,H p=none->Q (.ref p) (upd H p (.lst (xs++zs)))
theorem op_cat:OpR X (R3 .Add) rCat:=by
 intro jb s σ H x y v u Q I rx ry h;obtain⟨l,b,xs,zs,rfl,rfl,hH,hB,hz,q⟩:=h;cases rx;cases ry;obtain⟨z,jf,n,r,hl,e⟩:=I.lstM hH;obtain⟨z2,its2,n2,r2,hl2,e2⟩:=I.lstM hB;refine PySem.P.add_list e e2 ?_ (by rw[F4,F4];omega);have ea:jf.toArray++its2.toArray=(jf++its2).toArray:=by simp
 rw[ea];exact⟨.ref _,_,I.lnew (t':=s.toks) (r.append r2) (by rw[E3];omega),rfl,q _ I.fresh⟩
end
end L2
namespace Att
open PySem PySem.W PySem.Calls PyProof.Rows
theorem NH:∀(ns:List Int) (vs:List A1),WellAll P h vs (ns.map WData.int)->IntsAre vs ns:=by
 intro ns
 induction ns with
 | nil =>
  intro vs w;rw[List.map_nil] at w;cases w;exact .nil
 | cons n ns ih =>
  intro vs w;rw[F2] at w;cases w with
  | cons a b =>
   cases a;exact .cons _ _ (ih _ b)
theorem NI {l:OpenLaw}(hn:l.most=some n)
   (hpre:l.row.toRowW.claim.pre args=true) (hwl:WellAll P h vals args) :
   ∃a vs ns,vals=[L9 a]/\args=[WData.list (ns.map WData.int)]/\h.get? a=some { cls:=.type "list",data:=.seq vs.toArray }/\IntsAre vs ns/\ns.length<=n:=by
 have hsh:WShape.hasAll [] args [.list .int]=true:=(pre_splitW hpre).1;have hc:l.pre.holds [] { args:=args }=true:=(pre_splitW hpre).2;obtain⟨d,r,rfl,h1,h2⟩:=hasAllW_cons hsh;obtain rfl:=hasAllW_nil h2;obtain⟨xs,rfl,h3⟩:=hasW_list h1;obtain⟨ns,rfl⟩:=items_int h3
 have hlen:ns.length<=n:=by
  unfold OpenLaw.pre at hc
  have h4:(WTm.not (.lt (.lit (.int (n:Int))) (.len (.arg 0)))).holds [] { args:=[.list (ns.map .int)] }=true:=by
   have h4:=(holds_andW hc).1;rw[hn] at h4;exact h4
  have h5:=condW_of h4 (w_not (w_lt w_lit (w_len_list (w_arg rfl))));rw[B8] at h5;refine Ba λq=>?_;have q':(n:Int)<((ns.length:Nat):Int):=by omega
  first
    |(rw[jp q'] at h5;exact absurd h5 (by decide))
    |(simp at h5;omega)
 cases hwl with
 | cons w1 w2 =>
  cases w2;cases w1 with
  |list ho hall=>exact⟨_,_,ns,rfl,rfl,ho,NH ns _ hall,hlen⟩
theorem NJ (l:OpenLaw)(args:List WData):l.row.toRowW.claim.post args (.bool true) args=true:=
 postW_of (r:=l.row.toRowW) (X:=(true == true))
   (show WShape.has [] (.bool true) .bool=true by first|rfl|decide|simp[WShape.has,WShape.arms,WShape.armsAll])
   (show(WTm.eq .res (.lit (.bool true))).value [] { args:=args,res:=some (.bool true),after:=args }=some (.bool (true == true)) from w_eq_bool (w_res rfl) w_lit) rfl
theorem attach_call {l:OpenLaw}
   (hn:l.most=some n) (hdf:d.params.defaults=[])
   (call:∀(w:C8) (s₀ s₁:A5) (mg mb:Str->Option A1) (fa:A0) (o:Obj) (pm cd doc:A1) (a:A0) (vs:List A1) (ns:List Int),
    Ground q loose [] XP w s₀ mg mb s₁.heap->YP w s₁.heap->
    s₁.heap.get? fa=some o->o.data=.func (docDef d.name d.params d.body d.scope pm cd doc)->s₁.heap.CodeRec cd d.name->mg d.name=some (.ref fa)->
    s₁.heap.get? a=some { cls:=.type "list",data:=.seq vs.toArray }->IntsAre vs ns->ns.length<=n->s₁.gens=#[]->
    N0 (A9 l.prog w) callerA (.call (.ref fa) ⟨[.ref a],[]⟩) (λr s'=>r=.ok (.ret (.bool true))/\OldK s₁.heap s'.heap/\s'.os=s₁.os/\AllBare s'.gens) s₁) :
   WalkO q loose XP YP l.row.toRowW d [] (λf vs=>PySem.call f vs):=by
 intro w s₀ s₁ mg mb G Y fa o pm cd doc dV kV ho hd hcd hD hmg hg args vals as hpre hlay hrd hwl hlo;obtain rfl:dV=.none:=Dflts.none hD hdf;obtain rfl:kV=.none:=Dflts.noKw hD;obtain⟨a,vs,ns,rfl,rfl,hobj,hints,hlen⟩:=NI hn hpre hwl;refine enter_call (x8 (call w s₀ s₁ mg mb fa o pm cd doc a vs ns G Y ho (fd_plain hd) hcd hmg hobj hints hlen hg) λr s' hq=>?_);obtain⟨rfl,h2,h3,h4⟩:=hq;exact⟨.inl ⟨.bool true,.bool true,[],rfl,λ_=>rfl,.bool true,NJ l _,λ_=>⟨F_,λ_ hm=>(nomatch hm)⟩⟩,h2,h3,h4⟩
end Att
namespace L2
open PySem PySem.Spec PyProof.Rows
theorem NK (h:IntsAre vs ns):Vals (ns.map V.int) vs:=by
 induction h with
 |nil=>exact .nil
 |cons n t _ ih=>exact .cons ⟨t,rfl⟩ ih
abbrev KOf {K:A8}{h:B7}(_:K.In h):A8:=K
def R9 (s:Stmt):Arguments:=match s with
 |.FunctionDef _ a _ _ _ _ _ _ _ _=>a
 |_=>{ posonlyargs:=[],args:=[],vararg:=none,kwonlyargs:=[],kw_defaults:=[],kwarg:=none,defaults:=[] }
def N3 (s:Stmt):List Stmt:=match s with
 |.FunctionDef _ _ b _ _ _ _ _ _ _=>b
 |_=>[]
def F3 (s:Stmt):G5:=match s with
 |.FunctionDef _ _ _ _ _ _ sc _ _ _=>sc
 |_=>{ kind:=.function,names:=[],isGenerator:=false,isCoroutine:=false }
abbrev CX0:CXT:=λ_ _ _ _ _ _=>False
abbrev E0:XK:=λ_ _ _=>False
theorem pass0:Gq CX0 X E0:=λ_ _ _ _ _ _ _ h=>h.elim
structure Fun (K:A8)(x qual:Str)(st:Stmt)(f:A0)(fd:FuncData):Prop where
 ex:∃(oc:A1) (od:Option A0) (kV doc pm:A1) (an:Option A0) (jn ct:A1) (osl:Array (Option A1)),
  fd=U8 x qual (R9 st) (N3 st) (F3 st) .none kV doc pm an jn ct/\K.lookup f=some ⟨oc,od,.func fd,osl⟩/\DH K jn qual=true
 kp:Ch K (.ref f)=true
section
variable {P:D1}{w:C8}{K:A8}{mg:Str->Option A1}{base:B7}
theorem Fun.ok {st:Stmt}(F:Fun K x qual st f fd)(S:R8 N ps (F3 st))(len:∀vs H Q E,sp vs H Q E->vs.length=ps.length)
   (hbody:∀(jn:A1) (A:D5) (outer:List Env) (s:A5) (H:Hp) (vs:List V) (Q:VK) (E:XK),Room k (A.deeper (envOfC qual (F3 st) s.heap.objs.size f jn))->sp vs H Q E->
     ∃t,PSs (cxOf CX0 P w K mg base N qual (F3 st) f jn A outer s H E).nox (N3 st) t/\t { nx:=λ_ H'=>Q .non H',rt:=Q } (start N vs) H):FnOk P w K mg base CX0 (k+1) f fd ps sp:=by
 obtain⟨oc,od,kV,doc,pm,an,jn,ct,osl,rfl,lk,hcd⟩:=F.ex;refine fn_of lk hcd S len λA outer s H vs Q E hr hsp=>?_;obtain⟨t,h,q⟩:=hbody jn A outer s H vs Q E hr hsp;exact⟨t,h.nox,q⟩
theorem Fun.binds {st:Stmt}{f:A0}{fd:FuncData}{ps:List Str}(F:Fun K x qual st f fd)
   (h:∀(kV doc pm:A1) (an:Option A0) (jn ct:A1) (us:List A1),us.length=ps.length->V9 (U8 x qual (R9 st) (N3 st) (F3 st) .none kV doc pm an jn ct) ⟨us,[]⟩=pure (ps.zip us)):Bv K fd ps []:=by
 obtain⟨oc,od,kV,doc,pm,an,jn,ct,osl,rfl,lk,hcd⟩:=F.ex;exact .all (h kV doc pm an jn ct)
theorem fun_mk {x qual:Str}{st:Stmt}{f:A0}{oc:A1}{od an:Option A0}{osl:Array (Option A1)}{kV doc pm jn ct:A1}(l:K.lookup f=some ⟨oc,od,.func (U8 x qual (R9 st) (N3 st) (F3 st) .none kV doc pm an jn ct),osl⟩)
   (c:DH K jn qual=true) (k:Ch K (.ref f)=true):Fun K x qual st f (U8 x qual (R9 st) (N3 st) (F3 st) .none kV doc pm an jn ct):=⟨⟨oc,od,kV,doc,pm,an,jn,ct,osl,rfl,l,c⟩,k⟩
end
section
variable {X:Cx}
theorem pv (i:Nat){x:Str}{pos:Pos}(hN:X.N[i]?=some x:=by rfl)(hv:Vis X.env.scope x:=by first|exact Or.inl rfl|exact Or.inr (Or.inl rfl)|exact Or.inr (Or.inr rfl))(hd:(x == ("__debug__":Str))=false:=by decide)
   (hcd:(x == ("__classdict__":Str))=false:=by decide):PE X (.Name x pos) (tVar i):=IF hN hv hd hcd
end
theorem iteF {A B:Prop}(h:B):if false=true then A else B:=by grind
theorem iteT {A B:Prop}(h:A):if true=true then A else B:=by grind
theorem ite2 {c A B:Prop}[Decidable c](h1:c->A)(h2:¬c->B):if c then A else B:=by grind
def Same (H H':Hp):Prop:=∀b o,H b=some o->H' b=some o
theorem Same.refl (H:Hp):Same H H:=λ_ _ h=>h
end L2
end
section
namespace L2
open PySem PySem.Spec PyProof.Rows
theorem Jb {prog:D1}{w:C8}{A:D5}{R:Result->A5->Prop}{s:A5}{ji target iter:Expr}{jj:List Expr}{scope:G5}{pos:Pos}{it jk:A1}{env:Env}(I:Nat->A5->Prop)
   (turn:∀n s,I n s->A6 (A9 prog w) A (pyNext it) (fun r s₁=>match r with
    |none=>R (.ok .next) s₁
    |some v=>A6 (A9 prog w) A (k5 target it v) (λ_ s₁'=>A6 (A9 prog w) A (assign target env v) (λ_ s₂=>
        A6 (A9 prog w) A (forIn jj true fun c r=>if r=true then do let ok ← isTrue c env (eval c env);pure (o6 ok) else pure (o6 r)) (fun ok s₃=>
         if ok=true then A6 (A9 prog w) A (eval ji env) (λx s₄=>
          A6 (A9 prog w) A (call (.builtin "list.append") [jk,x]) (λ_ s₅=>∃m,m<n/\I m s₅) (λ_ _=>False) s₄) (λ_ _=>False) s₃
         else ∃m,m<n/\I m s₃) (λ_ _=>False) s₂) (λ_ _=>False) s₁') (λ_ _=>False) s₁) (λ_ _=>False) s)
   (n:Nat) (h:I n s) :
   N0 (A9 prog w) A (.compLoop (.ListComp ji [⟨target,iter,jj,0⟩] scope pos) 0 it jk env) R s:=by
 refine codeAny_loop rfl I (λn s hI=>?_) n h;show A6 _ A ((compTurn (.ListComp ji [⟨target,iter,jj,0⟩] scope pos) 0 it jk env).onRaise (λx=>do noteFrame x env;theTreesLotGoes x)) _ _ s;refine wpAny_noted ?_;rw[compTurn_list];refine A3 (U7 (A3 (K3 (turn n s hI) (λr s₁ h₁=>?_) λ_ _ h'=>h'.elim)));cases r with
 |none=>exact B0 h₁
 | some v =>
  refine A3 (K3 h₁ (λ_ s₁' h₁'=>?_) λ_ _ h'=>h'.elim);refine A3 (K3 h₁' (λ_ s₂ h₂=>A3 (K3 h₂ (λok s₃ h₃=>?_) λ_ _ h'=>h'.elim)) λ_ _ h'=>h'.elim);cases ok with
  |false=>exact B0 ⟨rfl,h₃⟩
  | true =>
   exact A3 (A3 (K3 h₃ (λx s₄ h₄=>A3 (K3 h₄ (λ_ s₅ h₅=>B0 (B0 ⟨rfl,h₅⟩)) λ_ _ h'=>h'.elim)) λ_ _ h'=>h'.elim))
def G9 (X:Cx)(scope:G5)(cl:List (Str×A0))(N:List Str)(fp:List A0)(C:A0)(s:A5)(H:Hp):Cx where
 prog:=X.prog
 w:=X.w
 K:=X.K
 mg:=X.mg
 base:=X.base
 A:=X.A
 N:=N
 s₀:=s
 H₀:=H
 env:=compEnvC scope cl C X.env
 outer:=X.stack
 stack:=X.stack
 ex:=fp
 fn:=λ_=>false
 calm:=X.calm
 pn:=X.pn
 xe:=λ_ _=>False
structure j3 (X:Cx)(scope:G5)(cl:List (Str×A0))(N:List Str)(cs:List (Option Nat)):Prop where
 clos:closureFor scope X.env=pure cl
 kind:scope.kind=.function
 nocell:∀y∈scope.names,y.2≠.cell
 names:∀y∈scope.names,y.2=.local->scope.names.lookup y.1=some .local
 sub:∀x c,cl.lookup x=some c->X.env.cells.lookup x=some c
 has:∀x,((relabel scope X.env).names.lookup x=some .cell\/(relabel scope X.env).names.lookup x=some .free)->∃c,cl.lookup x=some c
 len:cs.length=N.length
 cap:∀(k j:Nat) (x:Str),cs[k]?=some (some j)->N[k]?=some x->X.N[j]?=some x/\Vis X.env.scope x/\X.env.kindOf x≠some .local/\(∃c,cl.lookup x=some c)/\((relabel scope X.env).names.lookup x=some .cell\/(relabel scope X.env).names.lookup x=some .free)
def CH:List (Str×A0)->List (Str×A0)->Prop
 |[],_=>True
 |y::r,cells=>cells.lookup y.1=some y.2/\CH r cells
theorem CH.get:∀{cl cells:List (Str×A0)},CH cl cells->∀x c,cl.lookup x=some c->cells.lookup x=some c:=by intro a;induction a <;> intros <;> grind [CH]
theorem Z8 {X:Cx}{scope:G5}{cl:List (Str×A0)}{N:List Str}{cs:List (Option Nat)}(clos:closureFor scope X.env=pure cl)(kind:scope.kind=.function)(nocell:(scope.names.all λy=>!(y.2 == .cell))=true)
   (names:(scope.names.all λy=>!(y.2 == .local)||scope.names.lookup y.1 == some .local)=true) (sub:CH cl X.env.cells)
   (has:((relabel scope X.env).names.all λy=>!(y.2 == .cell||y.2 == .free)||(cl.lookup y.1).isSome)=true) (len:cs.length=N.length)
   (cap:((cs.zip N).all λy=>match y.1 with|none=>true|some j=>X.N[j]? == some y.2&&(X.env.scope.names.lookup y.2 == some .cell||X.env.scope.names.lookup y.2 == some .free)&&(cl.lookup y.2).isSome &&
     ((relabel scope X.env).names.lookup y.2 == some .cell||(relabel scope X.env).names.lookup y.2 == some .free))=true):j3 X scope cl N cs:=by
 refine⟨clos,kind,λy hy=>?_,λy hy e=>?_,sub.get,λx hx=>?_,len,λk j x hk hN=>?_⟩
 ·have:=E4.mp nocell y hy;intro z;rw[z] at this;cases this
 ·have:=E4.mp names y hy;rw[e] at this
  simpa using this
 ·rcases hx with hx|hx
  ·have:=E4.mp has _ (d9 hx);exact Ec.mp (by simpa using this)
  ·have:=E4.mp has _ (d9 hx);exact Ec.mp (by simpa using this)
 ·have hz:(cs.zip N)[k]?=some (some j,x):=by rw[List.getElem?_zip_eq_some];exact⟨hk,hN⟩
  have:=E4.mp cap _ (J5 hz);simp only[R7,Cv,beq_iff_eq] at this;obtain⟨⟨⟨h1,h2⟩,h3⟩,h4⟩:=this;refine⟨h1,?_,?_,Ec.mp h3,h4⟩
  ·rcases h2 with h2|h2
   ·exact .inr (.inl h2)
   ·exact .inr (.inr h2)
  ·intro z;have z':X.env.scope.names.lookup x=some .local:=z;rw[z'] at h2;rcases h2 with h2|h2 <;> cases h2
def j4 (cs:List (Option Nat))(σ:St):St:=cs.map λo=>o.bind λj=>(σ[j]?).bind id
def PIf (X:Cx)(jj:List Expr)(t:TT):Prop:=
 ∀ (jb : List (A0 × Obj)) (s : A5) (σ : St) (H : Hp) (Q : Bool -> Hp -> Prop), Inv X jb σ H s -> t σ H Q ->
   A6 (A9 X.prog X.w) X.A (forIn jj true λc r=>if r=true then do let ok ← isTrue c X.env (eval c X.env);pure (o6 ok) else pure (o6 r)) (TP X jb σ Q) X.xe s
def tTru:TT:=λ_ H Q=>Q true H
theorem NL {X:Cx}:PIf X [] tTru:=λjb s σ H Q I h=>wpAny_tests_nil ⟨H,I,h⟩
theorem NM {X:Cx}{c:Expr}{t:TT}(h:PT X c t):PIf X [c] t:=λjb s σ H Q I hq=>wpAny_tests_one (h jb s σ H Q I hq)
def CompW (J:It)(g:TG)(tt:TT)(te:TE)(Q:VK)(D:A0)(σc:St)(H1:Hp):Prop:=∃W:Nat->Nat->St->Hp->Prop,(∃m,W 0 m σc H1)/\
 ∀i m σ' H',W i m σ' H'->(J.stop i H'/\Q (.ref D) H')\/(J.go i H'/\∀x H2,J.yld i H' x H2->g x σ' H2 fun σ3 H3=>tt σ3 H3 fun b H4=>
    if b=true then te σ3 H4 λv H5=>∃ys,H5 D=some (.lst ys)/\ys.length<C4/\∃m',m'<m/\W (i+1) m' σ3 (upd H5 D (.lst (ys++[v])))
    else ∃m',m'<m/\W (i+1) m' σ3 H4)
def tComp (cs:List (Option Nat))(wi:TI)(g:TG)(tt:TT)(te:TE):TE:=λσ H Q=>wi σ H λJ H1=>∀D,H1 D=none->CompW J g tt te Q D (j4 cs σ) (upd H1 D (.lst []))
theorem NN {X:Cx}{scope:G5}{cl:List (Str×A0)}{N:List Str}{cs:List (Option Nat)}(S:j3 X scope cl N cs){jb:List (A0×Obj)}{σ:St}{H:Hp}{s:A5}{fp:List A0}{h₁:B7}{tk:Nat}
   (I:Inv X jb σ H s) (f2:∀b∈fp,FpOk X jb H b) (ho:∀b∈fp,∃o,s.heap.get? b=some o)
   (old:∀b o,s.heap.get? b=some o->h₁.get? b=some o) (hns:h₁.Ns (s.heap.objs.size+1) (λx=>([]:List (Str×A1)).reverse.lookup x))
   (hD:h₁.get? s.heap.objs.size=some { cls:=.type "list",data:=.seq ([]:List A1).toArray }) :
   Inv (G9 X scope cl N fp (s.heap.objs.size+1) s H) jb (j4 cs σ) (upd H s.heap.objs.size (.lst [])) { s with heap:=h₁,toks:=tk }:=by
 have lt:∀b o,s.heap.get? b=some o->b<s.heap.objs.size:=λb o e=>C5 e;have neC:∀b o,s.heap.get? b=some o->b≠s.heap.objs.size+1:=λb o e=>D7 (i3 (lt b o e));have neD:∀b o,s.heap.get? b=some o->b≠s.heap.objs.size:=λb o e=>D7 (lt b o e);have nstk:∀b,b≠X.env.locals->b∉X.fs->b∉frs X.stack:=λb h1 h2 hb=>(C6.mp (I.stkSub b hb)).elim h1 h2
 have cellO:∀x c,cl.lookup x=some c->∃v o,s.heap.get? c=some o/\s.heap.IsCell c v:=λx c e=>by
  obtain⟨v,q⟩:=I.cell x c (S.sub x c e);obtain⟨o,h1,_⟩:=id q;exact⟨v,o,h1,q⟩
 refine⟨⟨I.ok.mod,S.kind,I.ok.glob,I.ok.blt,z9 _,λx y c h1 h2=>I.ok.inj x y c (S.sub x c h1) (S.sub y c h2),λx hx=>S.has x hx,λx c hx=>(by cases hx),I.ok.hd,I.ok.frames,.inl rfl,λb hb=>?_,I.bs,N1 I.ok.bsz I.sz,λb o e hb=>?_,λb hb=>?_,I.stack,I.stkFree,I.nos⟩,
  rfl,I.bare,Un.laid old (B9 _) I.fresh I.bigS,⟨_,hns,λi x v e1 e2 e3=>?_⟩,λx c e=>?_,?_,λx c e=>?_,λp hp=>?_,I.hok.laid old (B9 _) ⟨J9 _,[],0,.nil,hD⟩,?_⟩
 ·obtain⟨o,e⟩:=ho b hb;exact⟨neC b o e,λx c ec=>(f2 b hb).2.2.2.2.1 x c (S.sub x c ec)⟩
 ·rcases(f2 b hb).2.2.2.1 with z|z
  ·exact I.ok.noex b o e z
  ·exact absurd (K7 (C5 e) (N1 I.ok.bsz z)) (Z4 _)
 ·exact nstk b (f2 b hb).2.1 (f2 b hb).2.2.1
 ·have e2':(cs.map λo=>o.bind λj=>(σ[j]?).bind id)[i]?=some (some v):=e2;rw[G6] at e2';cases ec:cs[i]? with
  |none=>rw[ec] at e2';cases e2'
  | some o =>
   rw[ec] at e2';cases o with
   |none=>cases e2'
   | some j =>
    have e2'':(σ[j]?).bind id=some v:=by simpa using e2'
    cases es:σ[j]? with
    |none=>rw[es] at e2'';cases e2''
    | some ov =>
     rw[es] at e2'';have e4:ov=some v:=by simpa using e2''
     subst e4;obtain⟨hN,hv,hnl,⟨c,hc⟩,hk⟩:=S.cap i j x ec e1;obtain⟨m,hn,hl⟩:=I.loc;obtain⟨u,r,l⟩:=hl j x v hN es hv;refine⟨u,r,?_⟩;rcases l with⟨hk',_⟩|⟨_,c',hc',z⟩
     ·grind
     ·have ecc:c'=c:=by
       have:=S.sub x c hc;rw[hc'] at this;exact M7 this
      subst ecc;obtain⟨o,h1,h2⟩:=z;exact .inr ⟨hk,c',hc,⟨o,old _ o h1,h2⟩⟩
 ·obtain⟨v,o,h1,o',h2,h3⟩:=cellO x c e;exact⟨v,o',old _ o' h2,h3⟩
 ·show upd H s.heap.objs.size (.lst []) (s.heap.objs.size+1)=none;rw[C0 (Nat.succ_ne_self _)];exact I.hok.fresh (z9 _)
 ·obtain⟨v,o,h1,_⟩:=cellO x c e;rw[C0 (neD c o h1)];exact I.freeC x c (S.sub x c e)
 ·obtain⟨e,n,ne,nf,d⟩:=I.pin p hp;exact⟨old _ _ e,by rw[C0 (neD _ _ e)];exact n,neC _ _ e,nstk _ ne nf,d⟩
 ·show(cs.map _).length=N.length;rw[B8];exact S.len
theorem Inv.uncomp
   (I:Inv X jb σ H s) (f2:∀b∈fp,FpOk X jb H b)
   (J:Inv (G9 X scope cl N fp (s.heap.objs.size+1) s H) jb σ' H' s') (hs:∀b,b≠s.heap.objs.size+1->h'.get? b=s'.heap.get? b) :
   Inv X jb σ H' { s' with heap:=h' }:=by
 obtain⟨hh,g,d,t,os'⟩:=s';obtain rfl:os'=s.os:=J.os;have U:Un (frs X.stack) fp H H' s.heap hh:=J.base;have old:∀b o,s.heap.get? b=some o->b≠s.heap.objs.size+1:=λb o e=>D7 (i3 (C5 e));have hs':∀b,b≠s.heap.objs.size+1->h'.get? b=hh.get? b:=hs
 have trC:∀b u,H' b=some u->b≠s.heap.objs.size+1:=λb u e z=>by
  have q:H' (s.heap.objs.size+1)=none:=J.free;rw[z,q] at e;cases e
 show Inv X jb σ H' { s with heap:=h',gens:=g,drawn:=d,toks:=t };refine I.call (h':=h') (g':=g) (d':=d) (t':=t) (ch:=fp) ⟨λb o e n hb hx=>?_,λb o e n hb hx=>?_,U.free,λb o e hx=>?_,U.tups,U.frzs,U.tbls,U.sys⟩ (λb u e=>?_) J.bare λb hb=>?_
 ·rw[hs' b (old b o e)];exact U.keep b o e n hb hx
 ·rw[hs' b (old b o e)];exact U.slot b o e n hb hx
 ·rw[hs' b (old b o e)];exact U.there b o e hx
 ·refine(J.hok b u e).stay (λc v hc q=>?_) (λ_ q=>q) λ_ _ q=>q
  have ne:c≠s.heap.objs.size+1:=by
   rcases hc with z|z
   ·rw[z];exact trC b u e
   ·exact trC c _ z
  rw[hs' c ne];exact q
 ·exact⟨(f2 b hb).2.2.2.1,(f2 b hb).2.1,(f2 b hb).2.2.2.2.1,(f2 b hb).2.2.2.2.2⟩
theorem Gy {K:A8}{W:Nat->Nat->St->Hp->Prop}{s5 s7:A5}(T:Turn P w K tg J fp it tn)(st5:tn (i+1) s5.heap)(I7:Inv Y (jb++Bu fp s5.heap) σ7 H7 s7)(n7:∃m',m'<n/\W (i+1) m' σ7 H7):∃m,m<n/\∃i σ' H',Inv Y jb σ' H' s7/\tn i s7.heap/\(∀b∈fp,H' b=none)/\W i m σ' H':=by
 obtain⟨m',hm,w7⟩:=n7;have pn:∀b∈fp,∀o,s5.heap.get? b=some o->_:=λb hb o e=>I7.pin (b,o) (O6 _ (O6 _ (Gi hb e)));refine⟨m',hm,i+1,σ7,H7,I7.unpinned,T.keep _ _ _ st5 λb hb o e=>(pn b hb o e).1,λb hb=>?_,w7⟩;obtain⟨o,e,d⟩:=T.obj _ _ st5 b hb;exact(pn b hb o e).2.1
theorem Gz {Y:Cx}{jb:List (A0×Obj)}{tg ji:Expr}{jj:List Expr}{g:TG}{tt:TT}{te:TE}{J:It}{fp:List A0}{it D:A0}{tn:Nat->B7->Prop}{W:Nat->Nat->St->Hp->Prop}{N:St->Hp->Prop}{Rn:A5->Prop}(T:Turn Y.prog Y.w Y.K tg J fp it tn)(hc:Y.calm=true)(stat:∀{H':Hp},(∀b∈fp,H' b=none)->∀b∈fp,FpOk Y jb H' b)(hg:PG Y tg g)(hf:PIf Y jj tt)(he:PE Y ji te)(fin:∀s σ H,Inv Y jb σ H s->N σ H->Rn s)
   (turn:∀i m σ' H',W i m σ' H'->(J.stop i H'/\N σ' H')\/(J.go i H'/\∀x H2,J.yld i H' x H2->g x σ' H2 λσ3 H3=>tt σ3 H3 λb H4=>
    if b=true then te σ3 H4 λv H5=>∃ys,H5 D=some (.lst ys)/\ys.length<C4/\∃m',m'<m/\W (i+1) m' σ3 (upd H5 D (.lst (ys++[v])))
    else ∃m',m'<m/\W (i+1) m' σ3 H4)) (n:Nat) (s:A5) (hI:∃i σ' H',Inv Y jb σ' H' s/\tn i s.heap/\(∀b∈fp,H' b=none)/\W i n σ' H') :
   A6 (A9 Y.prog Y.w) Y.A (pyNext (.ref it)) (λr s₁=>match r with
    |none=>Rn s₁
    |some v=>A6 (A9 Y.prog Y.w) Y.A (k5 tg (.ref it) v) (λ_ s₁'=>A6 (A9 Y.prog Y.w) Y.A (assign tg Y.env v) (λ_ s₂=>
        A6 (A9 Y.prog Y.w) Y.A (forIn jj true fun c r=>if r=true then do let ok ← isTrue c Y.env (eval c Y.env);pure (o6 ok) else pure (o6 r)) (fun ok s₃=>
         if ok=true then A6 (A9 Y.prog Y.w) Y.A (eval ji Y.env) (λx s₄=>
          A6 (A9 Y.prog Y.w) Y.A (call (.builtin "list.append") [.ref D,x]) (λ_ s₅=>∃m,m<n/\∃i σ' H',Inv Y jb σ' H' s₅/\tn i s₅.heap/\(∀b∈fp,H' b=none)/\W i m σ' H') Y.xe s₄) Y.xe s₃
         else ∃m,m<n/\∃i σ' H',Inv Y jb σ' H' s₃/\tn i s₃.heap/\(∀b∈fp,H' b=none)/\W i m σ' H') Y.xe s₂) Y.xe s₁') Y.xe s₁) Y.xe s:=by
 obtain⟨i,σ3,H3,I3,st3,fr3,w3⟩:=hI;rcases turn i n σ3 H3 w3 with⟨stop,qn⟩|⟨go,step⟩
 ·refine thn (T.done Y rfl rfl rfl hc i jb s σ3 H3 Y.xe I3 (stat fr3) st3 stop) λr s4 ⟨hr,I4⟩=>?_;subst hr;exact fin s4 σ3 H3 I4 qn
 ·refine thn (T.item Y rfl rfl rfl hc i jb s σ3 H3 Y.xe I3 (stat fr3) st3 go) λr s4 ⟨u,hr,h4⟩=>?_;subst hr;refine thn h4 λ_ s5 ⟨x,H5,I5,r5,y5,st5,fr5⟩=>?_;refine thn (hg _ s5 σ3 H5 x u _ (I5.pinned (stat fr5) (T.obj _ _ st5)) r5 (step x H5 y5)) λ_ s6 ⟨σ6,H6,I6,q6⟩=>?_;refine thn (hf _ s6 σ6 H6 _ I6 q6) λok s7 ⟨H7,I7,q7⟩=>?_;cases ok with
  |false=>exact Gy T st5 I7 q7
  | true =>
   refine thn (he _ s7 σ6 H7 _ I7 q7) λy s8 ⟨v8,H8,I8,r8,ys,e8,z8,n8⟩=>?_;have ma:=IZ (X:=Y) _ s8 σ6 H8 (.ref D) [v8] (.ref D) [y] (λv H9=>∃m',m'<n/\W (i+1) m' σ6 H9) I8 rfl (.cons r8 .nil) ⟨_,ys,v8,rfl,rfl,e8,z8,n8⟩;exact thn ma λ_ s9 ⟨v9,H9,I9,_,q9⟩=>Gy T st5 I9 q9
theorem GA {X:Cx}{scope:G5}{cl:List (Str×A0)}{N:List Str}{cs:List (Option Nat)}{ji tg iter:Expr}{jj:List Expr}{gs:List Comprehension}{pos p0:Pos}{wi:TI}{use:Option (A1->Sem Unit)}{Qf:A1->A5->Prop}{QQ:It->A0->St->Hp->Prop}(S:j3 X scope cl N cs)(hc:X.calm=true)(hi:PI X tg iter wi)
   (hs:∀x,R0 iter X.env x=pure x) {jb:List (A0×Obj)} {s:A5} {σ:St} {H:Hp} (I:Inv X jb σ H s) (h:wi σ H λJ H1=>∀D,H1 D=none->QQ J D (j4 cs σ) (upd H1 D (.lst [])))
   (loop:∀(fp:List A0) (it:A0) (tn:Nat->B7->Prop) (J:It) (s2:A5) (H2:Hp) (s₃:A5),Turn X.prog X.w X.K tg J fp it tn->(∀{H':Hp},(∀b∈fp,H' b=none)->∀b∈fp,FpOk (G9 X scope cl N fp (s2.heap.objs.size+1) s2 H2) jb H' b)->Inv X jb σ H2 s2->(∀b∈fp,FpOk X jb H2 b)->QQ J s2.heap.objs.size (j4 cs σ) (upd H2 s2.heap.objs.size (.lst []))->
     Inv (G9 X scope cl N fp (s2.heap.objs.size+1) s2 H2) jb (j4 cs σ) (upd H2 s2.heap.objs.size (.lst [])) s₃->tn 0 s₃.heap->(∀b∈fp,upd H2 s2.heap.objs.size (.lst []) b=none)->
     N0 (A9 X.prog X.w) X.A (.compLoop (.ListComp ji (⟨tg,iter,jj,0⟩::gs) scope pos) 0 (.ref it) (.ref s2.heap.objs.size) (compEnvC scope cl (s2.heap.objs.size+1) X.env)) (compPost (A9 X.prog X.w) X.A X.xe use Qf (.ref s2.heap.objs.size) (s2.heap.objs.size+1)) s₃) :
   A6 (A9 X.prog X.w) X.A (comprehension (.ListComp ji (⟨tg,iter,jj,0⟩::gs) scope pos) scope X.env p0 (newList []) false (eval iter X.env) use) Qf X.xe s:=by
 refine wpAny_comprehension_free rfl hs S.clos S.kind S.names (thn (hi jb s σ H _ I h) λv s1 h1=>thn h1 λitv s2 h2=>?_);obtain⟨it,fp,tn,J,H2,rfl,I2,T,st2,f2,q⟩:=h2
 have ho:∀b∈fp,∃o,s2.heap.get? b=some o:=λb hb=>by
  obtain⟨o,e,_⟩:=T.obj 0 _ st2 b hb;exact⟨o,e⟩
 refine N5 (wpAny_newFunctionEnv S.nocell (by intro y hy;simp at hy) (λh₁ hns₁ hsb₁=>?_) S.kind);dsimp only at hns₁ hsb₁ ⊢;have hC:(s2.heap.push { cls:=.type "list",dict:=none,data:=.seq ([]:List A1).toArray }).objs.size=s2.heap.objs.size+1:=by rw[AZ]
 generalize hH2:s2.heap.push { cls:=.type "list",dict:=none,data:=.seq ([]:List A1).toArray }=hp2 at hns₁ hsb₁ hC ⊢;have lt:∀{b o},s2.heap.get? b=some o->b<s2.heap.objs.size+1:=λe=>i3 (C5 e);have old:∀b o,s2.heap.get? b=some o->h₁.get? b=some o:=λb o e=>hsb₁.extBut b o (by rw[hC];exact D7 (lt e)) (D0 _ (hH2▸D0 _ e));have hD:h₁.get? s2.heap.objs.size=some { cls:=.type "list",data:=.seq ([]:List A1).toArray }:=hsb₁.extBut _ _ (by rw[hC];exact D7 (Nat.lt_succ_self _)) (D0 _ (hH2▸G4 _ rfl));rw[hC] at hns₁ ⊢;have st1:tn 0 h₁:=T.keep _ _ _ st2 λb hb o e=>old b o e
 have L:=loop fp it tn J s2 H2 _ T (λhn b hb=>by
  obtain⟨o,e⟩:=ho b hb
  exact⟨hn b hb,D7 (lt e),λz=>(C6.mp (I2.stkSub b z)).elim (f2 b hb).2.1 (f2 b hb).2.2.1,.inl hb,λx c ec=>(f2 b hb).2.2.2.2.1 x c (S.sub x c ec),(f2 b hb).2.2.2.2.2⟩) I2 f2 (q _ I2.fresh) (NN S (tk:=s2.toks+([]:List (Str×A1)).length) I2 f2 ho old hns₁ hD) st1 λb hb=>by
  obtain⟨o,e⟩:=ho b hb;rw[C0 (D7 (C5 e))];exact(f2 b hb).1
 exact codeAny_compStart_list L (T.self _ 0 _ _ _ st1 L)
theorem Jc {X:Cx}{scope:G5}{cl:List (Str×A0)}{N:List Str}{jb:List (A0×Obj)}{σ σ3:St}{H2 H3:Hp}{s2 s4:A5}{fp:List A0}{Q:VK}(I2:Inv X jb σ H2 s2)(f2:∀b∈fp,FpOk X jb H2 b)(I4:Inv (G9 X scope cl N fp (s2.heap.objs.size+1) s2 H2) jb σ3 H3 s4)(qn:Q (.ref s2.heap.objs.size) H3) :
   compPost (A9 X.prog X.w) X.A X.xe none (EP X jb σ Q) (.ref s2.heap.objs.size) (s2.heap.objs.size+1) (.ok .next) s4:=by
 obtain⟨m4,hn4,_⟩:=I4.loc;exact⟨m4,hn4,λh' hs'=>⟨.ref s2.heap.objs.size,H3,Inv.uncomp I2 f2 I4 λb hb=>hs'.2 b hb,rfl,qn⟩⟩
theorem Jd {X:Cx}{scope:G5}{cl:List (Str×A0)}{N:List Str}{cs:List (Option Nat)}{ji tg iter:Expr}{jj:List Expr}{pos:Pos}{wi:TI}{g:TG}{tt:TT}{te:TE}(S:j3 X scope cl N cs)(hc:X.calm=true)(hi:PI X tg iter wi)
   (hb:∀(fp:List A0) (C:A0) (s:A5) (H:Hp),PG (G9 X scope cl N fp C s H) tg g/\PIf (G9 X scope cl N fp C s H) jj tt/\PE (G9 X scope cl N fp C s H) ji te)
   (hs:∀x,R0 iter X.env x=pure x:=by intro _;rfl) :
   PE X (.ListComp ji [⟨tg,iter,jj,0⟩] scope pos) (tComp cs wi g tt te):=by
 intro jb s σ H Q I h;rw[eval_ListComp];refine GA S hc hi hs I h λfp it tn J s2 H2 s₃ T stat I2 f2 q Ic st1 fr1=>?_;obtain⟨W,⟨m0,w0⟩,turn⟩:=q;obtain⟨hg,hf,he⟩:=hb fp (s2.heap.objs.size+1) s2 H2;exact Jb _ (Gz (Y:=G9 X scope cl N fp (s2.heap.objs.size+1) s2 H2) T hc stat hg hf he (λs4 σ3 H3 I4 qn=>Jc I2 f2 I4 qn) turn) m0 ⟨0,_,_,Ic,st1,fr1,w0⟩
end L2
end
section
namespace L2
open PySem PySem.Spec PyProof.Rows
section
variable {X:Cx}
theorem Vals.getE (r:Vals xs us)(h:j<us.length):∃x,xs[j]?=some x/\RelV x us[j]:=by
 have hl:=r.length;have h':j<xs.length:=by omega
 obtain⟨u,e,q⟩:=r.get (i:=j) (x:=xs[j]) (by simp[h']);refine⟨xs[j],by simp[h'],?_⟩;have e':us[j]?=some us[j]:=by simp[h]
 rw[e'] at e;cases e;exact q
theorem GB (h:P6 x=true):eqV x x=true:=by
 cases x <;> simp_all [P6,eqV]
theorem NO:L6 X (.builtin "isinstance") (λvs H Q=>∃x n t b,vs=[x,.ty n]/\TyOf X.K H x t/\Cg X.K t (.type n)=some b/\Q (.bl b) H):=by
 intro jb s σ H vs us Q I rv h;obtain⟨x,n,t,b,rfl,ty,e,q⟩:=h;obtain⟨u,v,rfl,r1,r2⟩:=rv.two;cases r2;exact Nk I r1 ty e λtk=>⟨.bl b,H,I.tok tk,rfl,q⟩
theorem Je:∀{bs:List Bool} {us:List A1} {j:Nat} {u:A1},Vals (bs.map V.bl) us->us[j]?=some u->∃b,bs[j]?=some b/\u=Value.bool b:=by
 intro bs us j u r e
 have hj:j<us.length:=by
  obtain⟨h,_⟩:=F7.mp e;exact h
 obtain⟨x,e1,q1⟩:=r.getE hj;rw[G6] at e1;cases eb:bs[j]? with
 |none=>rw[eb] at e1;cases e1
 | some b =>
  rw[eb] at e1;cases e1;have e2:us[j]?=some us[j]:=by simp[hj]
  rw[e2] at e;cases e;exact⟨b,rfl,q1⟩
theorem NP (bs:List Bool):((E5 bs.length).all λi=>(bs[i]?).getD true)=bs.all id:=by
 rw[i5,E4,E4];constructor
 ·intro h b hb;obtain⟨i,hi,rfl⟩:=y4 hb;have:=h i (L4.mpr hi)
  simpa[D3 hi] using this
 ·intro h i hi;have hi':=L4.mp hi;simp only[D3 hi',Cz];exact h _ (y7 hi')
theorem NQ (bs:List Bool):((E5 bs.length).any λi=>(bs[i]?).getD false)=bs.any id:=by
 rw[i5,U9,U9];constructor
 ·rintro⟨i,hi,e⟩;have hi':=L4.mp hi;simp only[D3 hi',Cz] at e;exact⟨_,y7 hi',e⟩
 ·rintro⟨b,hb,e⟩;obtain⟨i,hi,rfl⟩:=y4 hb;exact⟨i,L4.mpr hi,by simp only[D3 hi,Cz];exact e⟩
theorem Jf {s:A5}{h':B7}{o:Obj}(hk:∀b x,b∉[s.heap.objs.size]->(s.heap.push o).get? b=some x->h'.get? b=some x):∀b x,s.heap.get? b=some x->h'.get? b=some x:=
 λb x e=>hk b x (λhm=>by rw[E2.mp hm] at e;exact Z4 _ (C5 e)) (D0 _ e)
def rAll (K:A8):List V->Hp->VK->Prop:=λvs H Q=>∃(p:A0) (bs:List Bool),vs=[.ref p]/\SqL K H p (bs.map V.bl)/\Q (.bl (bs.all id)) H
def rAny (K:A8):List V->Hp->VK->Prop:=λvs H Q=>∃(p:A0) (bs:List Bool),vs=[.ref p]/\SqL K H p (bs.map V.bl)/\Q (.bl (bs.any id)) H
theorem NR (hc:X.calm=true):L6 X (.builtin "all") (rAll X.K):=by
 intro jb s σ H vs us Q I rv h;obtain⟨p,bs,rfl,hq,q⟩:=h;obtain⟨u,rfl,r1⟩:=rv.one;cases r1;obtain⟨jf,r,pl,hz⟩:=I.list hq;have hl:=pl.isList;have hlt:p<s.heap.objs.size:=by obtain⟨_,e,_⟩:=hl;exact C5 e
 have len:jf.toArray.size=bs.length:=by simpa using r.length.symm
 refine call_all_walk (Cc hl ?_)
 refine⟨s.heap.objs.size,[s.heap.objs.size,p],[s.heap.objs.size],jf.toArray.size,_,_,λi=>(bs[i]?).getD true,rfl,Walks.list (A:=X.A.in1) (I.ok.hd hc) _ p (D7 hlt) jf.toArray,
  ⟨⟨_,G4 _ rfl,rfl,rfl⟩,hl.push _⟩,λi v s' Q' E' hP hQ=>?_,λh' tk hk=>?_⟩
 ·obtain⟨b,e,rfl⟩:=Je r (j:=i) (u:=v) (by grind);simp only[e,Cz] at hQ;exact U5 hQ
 ·rw[len,NP];exact⟨.bl _,H,I.kept (Jf hk),rfl,q⟩
theorem NT (hc:X.calm=true):L6 X (.builtin "any") (rAny X.K):=by
 intro jb s σ H vs us Q I rv h;obtain⟨p,bs,rfl,hq,q⟩:=h;obtain⟨u,rfl,r1⟩:=rv.one;cases r1;obtain⟨jf,r,pl,hz⟩:=I.list hq;have hl:=pl.isList;have hlt:p<s.heap.objs.size:=by obtain⟨_,e,_⟩:=hl;exact C5 e
 have len:jf.toArray.size=bs.length:=by simpa using r.length.symm
 refine call_any_walk (Cc hl ?_)
 refine⟨s.heap.objs.size,[s.heap.objs.size,p],[s.heap.objs.size],jf.toArray.size,_,_,λi=>(bs[i]?).getD false,rfl,Walks.list (A:=X.A.in1) (I.ok.hd hc) _ p (D7 hlt) jf.toArray,
  ⟨⟨_,G4 _ rfl,rfl,rfl⟩,hl.push _⟩,λi v s' Q' E' hP hQ=>?_,λh' tk hk=>?_⟩
 ·obtain⟨b,e,rfl⟩:=Je r (j:=i) (u:=v) (by simpa using hP);simp only[e,Cz] at hQ;exact U5 hQ
 ·rw[len,NQ];exact⟨.bl _,H,I.kept (Jf hk),rfl,q⟩
theorem Inv.turnedNew {ch:List A0}(I:Inv X jb σ H s)(k:∀b o,b∉ch->s.heap.get? b=some o->h'.get? b=some o)
   (hf:∀b∈ch,FpOk X jb H b) (new:G7 X.prog X.w (upd H s.heap.objs.size (.tup xs)) h' s.heap.objs.size (.tup xs)):Inv X jb σ (upd H s.heap.objs.size (.tup xs)) { s with heap:=h',toks:=t' }:=by
 have nch:∀b u,H b=some u->b∉ch:=λb u e z=>by rw[(hf b z).1] at e;cases e
 have nD:∀b o,s.heap.get? b=some o->b≠s.heap.objs.size:=λb o e=>D7 (C5 e)
 refine I.step (g':=s.gens) (d':=s.drawn) (ch:=ch) (λb hb=>⟨(hf b hb).2.2.2.1,(hf b hb).2.1,(hf b hb).2.2.2.2.1,(hf b hb).2.2.2.2.2⟩) (λb o _ _ hc e _=>k b o hc e) (λb o _ _ hc e _=>⟨o.slots,k b o hc e⟩) (λb o _ e n=>by rw[C0 (nD b o e)];exact n)
   (λb o hc e=>⟨o,k b o hc e⟩) (λb ys e=>by rw[C0 (X4 e I.fresh)];exact e) (λb o u e=>by rw[C0 (X4 e I.fresh)];exact e) (λb ps e=>⟨#[],by rw[C0 (X4 e I.fresh),e];simp⟩) (λz=>by unfold NS;rw[C0 (D7 I.bigS)];exact z) (λm hm=>?_) (λb u e=>?_) I.bare
 ·obtain⟨o,es,ep,ho,r⟩:=hm;exact⟨o,es,ep,k _ o (λz=>(hf _ z).2.1 rfl) ho,r⟩
 ·by_cases hb:b=s.heap.objs.size
  ·subst hb;rw[E7] at e;cases e;exact new
  ·rw[C0 hb] at e;refine(I.hok b u e).stay (λc v hc q=>k c v ?_ q) (λc q=>by rw[C0 (X4 q I.fresh)];exact q) λc ys q=>by rw[C0 (X4 q I.fresh)];exact q
   rcases hc with z|z
   ·rw[z];exact nch b u e
   ·exact nch c _ z
end
end L2
end
section
namespace L2
open PySem PySem.Spec PyProof.Rows
theorem Ej:M4 "len"=some (.builtin "len"):=by decide +kernel
theorem bt_abs:M4 "abs"=some (.builtin "abs"):=by decide +kernel
theorem bt_min:M4 "min"=some (.builtin "min"):=by decide +kernel
theorem bt_max:M4 "max"=some (.builtin "max"):=by decide +kernel
theorem bt_all:M4 "all"=some (.builtin "all"):=by decide +kernel
theorem bt_any:M4 "any"=some (.builtin "any"):=by decide +kernel
theorem NU:M4 "isinstance"=some (.builtin "isinstance"):=by decide +kernel
theorem GC:M4 "sorted"=some (.builtin "sorted"):=by decide +kernel
theorem bt_int:M4 "int"=some (.type "int"):=by decide +kernel
theorem Ek:M4 "str"=some (.type "str"):=by decide +kernel
theorem NV:M4 "bool"=some (.type "bool"):=by decide +kernel
theorem NW:M4 "list"=some (.type "list"):=by decide +kernel
theorem Aj:M4 "tuple"=some (.type "tuple"):=by decide +kernel
theorem GE:M4 "set"=some (.type "set"):=by decide +kernel
theorem Jg (p:V->Prop)(h:(∀v,p v->R v H)->tIf tA ta tb σ H R)(hp:∀v,p v->R v H):tIf tA ta tb σ H R:=h hp
theorem at_map {ns:List Int}(h0:0<=k)(h:k<(ns.length:Int)):∃v,atI (ns.map V.int) k=some (.int v):=by
 have hk:k.toNat<ns.length:=by omega
 have q:atI (ns.map V.int) ((k.toNat:Nat):Int)=some (.int ns[k.toNat]):=CG (by rw[G6,D3 hk] <;> rfl)
 rw[show((k.toNat:Nat):Int)=k by omega] at q;exact⟨_,q⟩
theorem kit_of {K:A8}(h:(if(L5 T == L5 S)=true then some true else if PySem.W.kitMeta S=true then(fastBuiltinMro T).map (·.contains (.type S)) else none)=some b):Cg K (.type T) (.type S)=some b:=h
structure Kn (P:D1)(w:C8)(K:A8)(mg:Str->Option A1)(base:B7)(x:Str)(k:Nat)(ps:List Str)(sp:Sp):Prop where
 ex:∃(f:A0) (fd:FuncData),FnOk P w K mg base CX0 k f fd ps sp/\Bv K fd ps []/\Ch K (.ref f)=true/\mg x=some (.ref f)/\∃oc od osl,K.lookup f=some ⟨oc,od,.func fd,osl⟩
structure Fn0 (K:A8)(mg:Str->Option A1)(x:Str)(st:Stmt):Prop where
 ex:∃(f:A0) (fd:FuncData),Fun K x x st f fd/\mg x=some (.ref f)
theorem fn0_mk {K:A8}{st:Stmt}(X:K.In h)(G:h.Ns R1 mg){kV doc pm jn ct:A1}
   (a:PySem.W.nsIn K R1 x=some (some (.ref f))) (l:K.lookup f=some ⟨oc,od,.func (U8 x x (R9 st) (N3 st) (F3 st) .none kV doc pm an jn ct),osl⟩)
   (c:DH K jn x=true) (k:Ch K (.ref f)=true):Fn0 K mg x st:=⟨f,_,fun_mk l c k,PySem.W.mg_of X G a⟩
section
variable {P:D1}{w:C8}{K:A8}{mg:Str->Option A1}{base:B7}
theorem Fn0.ok {st:Stmt}{N ps:List Str}{k:Nat}{sp:Sp}(F:Fn0 K mg x st)(S:R8 N ps (F3 st))(len:∀vs H Q E,sp vs H Q E->vs.length=ps.length)
   (bd:∀(kV doc pm:A1) (an:Option A0) (jn ct:A1) (us:List A1),us.length=ps.length->V9 (U8 x x (R9 st) (N3 st) (F3 st) .none kV doc pm an jn ct) ⟨us,[]⟩=pure (ps.zip us))
   (hbody:∀(f:A0) (jn:A1) (A:D5) (outer:List Env) (s:A5) (H:Hp) (vs:List V) (Q:VK) (E:XK),Room k (A.deeper (envOfC x (F3 st) s.heap.objs.size f jn))->sp vs H Q E->
     ∃t,PSs (cxOf CX0 P w K mg base N x (F3 st) f jn A outer s H E).nox (N3 st) t/\t { nx:=λ_ H'=>Q .non H',rt:=Q } (start N vs) H):Kn P w K mg base x (k+1) ps sp:=by
 obtain⟨f,fd,F1,m⟩:=F.ex
 have lk:∃oc od osl,K.lookup f=some ⟨oc,od,.func fd,osl⟩:=by
  obtain⟨oc,od,kV,doc,pm,an,jn,ct,osl,_,lk,hcd⟩:=F1.ex;exact⟨oc,od,osl,lk⟩
 exact⟨f,fd,F1.ok S len λjn A outer s H vs Q E hr h=>hbody f jn A outer s H vs Q E hr h,F1.binds bd,F1.kp,m,lk⟩
theorem Kn.imp {x:Str}{k:Nat}{ps:List Str}{sp sp':Sp}(G:Kn P w K mg base x k ps sp)(h:∀vs H Q E,sp' vs H Q E->sp vs H Q E):Kn P w K mg base x k ps sp':=by
 obtain⟨f,fd,a,b,c,d⟩:=G.ex;exact⟨f,fd,a.imp h,b,c,d⟩
end
section
variable {X:Cx}{x:Str}{p pos:Pos}{e:Expr}{es:List Expr}{t:TA}{ps:List Str}{sp:Sp}{j k:Nat}
theorem pe_fn (G:Kn X.prog X.w X.K X.mg X.base x k ps sp)(hr:Room j X.A)(hk:k<=j)(hg:Gl X x)(ha:PA X (e::es) t)(hdb:(x == ("__debug__":Str))=false:=by decide)
   (he:E9 (e::es) X.env=(false,eval e X.env)::E9 es X.env:=by rfl) (hpl:(backTo pos (E9 es X.env)).any (·.1)=false:=by rfl) :
   PE X (.Call (.Name x p) (e::es) [] pos) (tCall sp [] E0 t):=by
 intro jb s σ H Q I h;obtain⟨f,fd,F,hb,hkp,hm,_⟩:=G.ex;exact Nl F (hr.mono hk) hg hm hkp hb .nil pass0 ha hdb he hpl jb s σ H Q I h
end
end L2
end
section
namespace L2
open PySem PySem.Spec PyProof.Rows
section
variable {X:Cx}
theorem NY:OpR X (R3 .Mult) (λx y H Q=>∃i n,x=.str i/\y=.int n/\i.length<=100/\0<=n/\n<=1000/\Q (.str (i7 i n)) H):=by
 intro jb s σ H x y v u Q I rx ry h;obtain⟨i,n,rfl,rfl,h1,h2,h3,q⟩:=h;obtain⟨t,rfl⟩:=rx;obtain⟨t',rfl⟩:=ry;exact SB.mul (mulOk_of 100 1000 h1 h3 (by omega) (by decide) (by decide)) λt' tk=>⟨.str _,H,I.tok _,⟨_,rfl⟩,q⟩
theorem NZ:∀{ys:List Str} {us:List A1},Vals (ys.map V.str) us->StrsAre us ys:=by
 intro ys
 induction ys with
 | nil => intro us r; cases us with
  |nil=>exact .nil
  |cons a b=>cases r
 | cons y ys ih =>
  intro us r;cases us with
  |nil=>cases r
  | cons u us =>
   have r':Vals (V.str y::ys.map V.str) (u::us):=r;cases r' with
   | cons h t =>
    obtain⟨tk,rfl⟩:=h;exact .cons y tk (ih t)
theorem N_:MtR X "str.join" (λx vs H Q=>∃(sep:Str) (l:A0) (ys:List Str),x=.str sep/\vs=[.ref l]/\SqL X.K H l (ys.map V.str)/\(ys.map (·.length)).sum+ys.length*sep.length<=16777216/\Q (.str (Txt.join sep ys)) H):=by
 intro jb s σ H x vs v us Q I rx rv h;obtain⟨sep,l,ys,rfl,rfl,hq,hz,q⟩:=h;obtain⟨t,rfl⟩:=rx;obtain⟨u,rfl,ru⟩:=rv.one;obtain rfl:u=L9 l:=ru;obtain⟨jf,r,pl,_⟩:=I.list hq;exact join_list pl.isList (by simpa using NZ r) hz λt' k=>⟨.str _,H,I.tok _,⟨_,rfl⟩,q⟩
theorem j5 (x y:Str):(x++y).cps.toList=x.cps.toList++y.cps.toList:=by
 show(x.cps++y.cps).toList=_;simp
theorem Oa (l:List (Array Nat)):∀jk:Array Nat,(l.foldl (·++·) jk).toList=jk.toList++(l.map (·.toList)).flatten:=by induction l <;> grind
theorem Ob (x:Str)(n:Int):(i7 x n).cps.toList=(y8 n.toNat x.cps.toList).flatten:=by
 unfold i7
 split
 ·rename_i h;rw[show n.toNat=0 by omega]
  rfl
 ·split
  ·rename_i h0 h;rw[Cv] at h;rcases h with h|h
   ·simp_all
   ·have hz:x.cps.toList=[]:=by
     have:x.length=0:=by simpa using h
     have h2:x.cps.size=0:=this;exact AM (by grind)
    rw[hz];simp
  ·show((y8 n.toNat x.cps).foldl (·++·) #[]).toList=_;rw[Oa];simp
theorem Jh:∀ys:List Str,(Txt.join (A7 "") ys).cps.toList=(ys.map (·.cps.toList)).flatten:=by
 have h:∀ys:List Str,(Str.join (A7 "") ys).cps.toList=(ys.map (·.cps.toList)).flatten:=by
  intro ys
  induction ys with
  |nil=>rfl
  | cons a r ih =>
   cases r with
   |nil=>simp[Str.join]
   | cons b r =>
    show((a++A7 "")++Str.join (A7 "") (b::r)).cps.toList=_;rw[j5,j5,ih];have z:(A7 "").cps.toList=[]:=by decide
    rw[z];simp
 intro ys;show(Builtin.Str.glued (A7 "") ys).cps.toList=_;rw[StrLaws.glued_eq_join];exact h ys
theorem t3 (x:Str):x.length=x.cps.toList.length:=by
 show x.cps.size=_;simp
end
section
variable {X:Cx}{pos:Pos}
def GF (i j k:Nat)(ta:TA):TS:=λD σ H=>ta σ H λvs H1=>∃u v w,vs=[u,v,w]/\D.nx (((σ.set i (some u)).set j (some v)).set k (some w)) H1
theorem Oc (hc:X.calm=true)(hN:X.N.Nodup)(hi:X.N[i]?=some x)(hj:X.N[j]?=some y)(hk:X.N[k]?=some z)(hij:i≠j)(hik:i≠k)(hjk:j≠k)
   (hx:X.env.scope.names.lookup x=some .local) (hy:X.env.scope.names.lookup y=some .local) (hz:X.env.scope.names.lookup z=some .local) (ha:PA X [a,b,c] ta)
   (hw:AJ [.Tuple [.Name x px,.Name y py,.Name z pz] kt pt] (.Tuple [a,b,c] k2 pt2) X.env=pure (some [x,y,z]))
   (hs:AI [.Tuple [.Name x px,.Name y py,.Name z pz] kt pt] (.Tuple [a,b,c] k2 pt2) pos.line X.env=pure false:=by rfl) :
   PS X (.Assign [.Tuple [.Name x px,.Name y py,.Name z pz] kt pt] (.Tuple [a,b,c] k2 pt2) pos) (GF i j k ta):=by
 intro jb s σ H D I h;rw[exec_Assign_arm];refine A3 (U7 ?_);rw[hs];refine A3 (B0 ?_);rw[jt (by decide)];refine A3 (Tuple_ (thn (ha _ jb s σ H _ I h) λus s1 ⟨vs,H1,I1,r1,q1⟩=>?_));obtain⟨v,w,w2,e1,q1⟩:=q1;subst e1
 obtain⟨u1,u2,u3,rfl,rv,rw',rw2⟩:∃u1 u2 u3,us=[u1,u2,u3]/\RelV v u1/\RelV w u2/\RelV w2 u3:=by
  cases r1 with
  | cons p q =>
   cases q with
   | cons p' q' =>
    cases q' with
    | cons p2 q2 =>
     cases q2;exact⟨_,_,_,rfl,p,p',p2⟩
 refine N5 ?_ (by show 3<=C4;decide);have I2:Inv X jb σ H1 { s1 with heap:=s1.heap.push { cls:=.type "tuple",data:=.seq [u1,u2,u3].toArray } }:=I1.kept (t':=s1.toks) λb o e=>D0 _ e;rw[hw];refine A3 (B0 ?_);show A6 (A9 X.prog X.w) X.A (do rule "assign.swapped-stores";let items ← unpackItems (.ref s1.heap.objs.size) 3 none;x4 [λv=>Y9 X.env z v,λv=>Y9 X.env y v,λv=>Y9 X.env x v] items.reverse;pure Flow.next) _ _ _;refine A3 (e7 (A3 (unpackItems_tuple (items:=#[u1,u2,u3]) (I.ok.hd hc) (IsTup.new s1.heap _) λh' hx'=>?_)));have I3:=I2.kept (h':=h') (t':=s1.toks) λb o e=>hx' b o (D7 (C5 e)) e;show A6 _ _ (x4 [λv=>Y9 X.env z v,λv=>Y9 X.env y v,λv=>Y9 X.env x v] [u3,u2,u1]>>=λ_=>pure Flow.next) _ _ _;refine A3 (n6 (Ce (i8 I3 hN hk (.inl hz) rw2 (λs2 I4=>?_) (.inr hz))));refine n6 (Ce (i8 I4 hN hj (.inl hy) rw' (λs3 I5=>?_) (.inr hy)));refine n6 (Ce (i8 I5 hN hi (.inl hx) rv (λs4 I6=>DW (B0 ?_)) (.inr hx)));rw[List.set_comm _ _ (Ne.symm hjk),List.set_comm _ _ (Ne.symm hik),List.set_comm _ _ (Ne.symm hij)] at I6;exact⟨_,H1,I6,q1⟩
end
theorem Same.lay {H H':Hp}{p:A0}{o:HO}(s:Same H H')(h:H' p=none):Same H (upd H' p o):=λb u e=>by
 rw[C0 (X4 (s b u e) h)];exact s b u e
theorem GG {n:Nat}{d:Int}(h0:0<=d)(h1:d<n):ixN n d=some d.toNat:=by grind [ixN]
theorem Ji {α:Type}{xs:List α}{d:Int}(h0:0<=d)(h1:d<xs.length):∃x,xs[d.toNat]?=some x/\atI xs d=some x:=by
 have hk:d.toNat<xs.length:=by omega
 refine⟨xs[d.toNat],D3 hk,?_⟩;unfold atI;rw[GG h0 h1];simp
end L2
end
section
namespace L2
open PySem PySem.Spec PyProof.Rows
section
variable {X:Cx}
theorem Od:OpR X (M5 .LtE) (λx y H Q=>∃i j,x=.str i/\y=.str j/\Q (.bl (!decide (j.cps.toList<i.cps.toList))) H):=by
 intro jb s σ H x y v u Q I rx ry h;obtain⟨i,j,rfl,rfl,q⟩:=h;obtain⟨t,rfl⟩:=rx;obtain⟨t',rfl⟩:=ry;exact PySem.P.le_str ⟨.bl _,H,I,rfl,q⟩
def rSlS:V->Option Int->Option Int->Hp->VK->Prop:=λx lo hi H Q=>∃z,x=.str z/\z.length<=C4/\Q (.str (Txt.slice z lo hi)) H
theorem sl_str:SlR X rSlS:=by
 intro jb s σ H x v vl vu lo hi sl Q I rx hs pl pu h;obtain⟨z,rfl,hz,q⟩:=h;obtain⟨t,rfl⟩:=rx;refine⟨"str",_,F.slot_str_getitem.lookup,typeIs_str _ _ _,?_⟩;cases pl with
 | none =>
  cases pu with
  |none=>exact Dy (l:=none) (u:=none) (st:=none) hs rfl (DF ⟨N1 (Txt.slice_le z _ _) hz,λt' k=>⟨.str _,H,I.tok _,⟨_,rfl⟩,q⟩⟩)
  |int j tj=>exact Dy (l:=none) (u:=some (j,tj)) (st:=none) hs rfl (DF ⟨N1 (Txt.slice_le z _ _) hz,λt' k=>⟨.str _,H,I.tok _,⟨_,rfl⟩,q⟩⟩)
 | int i ti =>
  cases pu with
  |none=>exact Dy (l:=some (i,ti)) (u:=none) (st:=none) hs rfl (DF ⟨N1 (Txt.slice_le z _ _) hz,λt' k=>⟨.str _,H,I.tok _,⟨_,rfl⟩,q⟩⟩)
  |int j tj=>exact Dy (l:=some (i,ti)) (u:=some (j,tj)) (st:=none) hs rfl (DF ⟨N1 (Txt.slice_le z _ _) hz,λt' k=>⟨.str _,H,I.tok _,⟨_,rfl⟩,q⟩⟩)
def Its (x:Str):It:=⟨λi _=>i<x.cps.toList.length,λi H v H'=>H'=H/\∃c,x.cps.toList[i]?=some c/\v=.str ⟨#[c]⟩,λi _=>x.cps.toList.length<=i⟩
theorem Oe {P:D1}{w:C8}{K:A8}{tg:Expr}(x:Str)(t:Tok)(it:A0):Turn P w K tg (Its x) [it] it (λi h=>h.IsStrIter it "str_ascii_iterator" x t i) where
 mem:=by simp
 obj:=λi h st b hb=>by
  have e:b=it:=by simpa using hb
  subst e;obtain⟨o,e,c,d⟩:=st;exact⟨o,e,λv z=>by rw[d] at z;cases z⟩
 keep:=λi h h' st k=>by
  obtain⟨o,e,c,d⟩:=st;exact⟨o,k it (by simp) o e,c,d⟩
 item:=by
  intro X hP hw hK hc i jb s σ H E I hf st hg;subst hP hw hK;have hg':i<x.cps.toList.length:=hg;have hx:x.cps[i]?=some x.cps.toList[i]:=by rw[<- P5];exact D3 hg'
  obtain⟨f0,f1,f2,f3,f4,f5⟩:=hf it (by simp);refine wpAny_pyNext_ascii_item st hx λh' st' sb=>?_;have I1:Inv X jb σ H { s with heap:=h',toks:=s.toks+1 }:=I.turned (t':=s.toks+1) (λb o hb e=>(sb.2 b hb).trans e) f0 f1 f3 f4 f5;obtain⟨o,e,c,d⟩:=id st';exact⟨_,rfl,Ei (s:={ s with heap:=h',toks:=s.toks+1 }) e c d (by decide) ⟨.str ⟨#[x.cps.toList[i]]⟩,H,I1,⟨_,rfl⟩,⟨rfl,_,D3 hg',rfl⟩,st',λb hb=>(hf b hb).1⟩⟩
 done:=by
  intro X hP hw hK hc i jb s σ H E I hf st hg;subst hP hw hK;have hg':x.cps.toList.length<=i:=hg;have hx:x.cps[i]?=none:=by rw[<- P5];exact W6 hg'
  obtain⟨f0,f1,f2,f3,f4,f5⟩:=hf it (by simp);exact wpAny_pyNext_ascii_end (I.ok.hd hc) st hx λh' eb=>⟨rfl,I.turned (t':=s.toks) (λb o hb e=>eb b o hb e) f0 f1 f3 f4 f5⟩
 self:=λ_ _ _ _ _ st h=>wpAny_pyIter_striter_ascii st h
def iStr (te:TE):TI:=λσ H R=>te σ H λv H1=>∃x,v=.str x/\x.cps.all (· < 128)=true/\R (Its x) H1
theorem pi_str {tg l:Expr}{tl:TE}(hl:PE X l tl):PI X tg l (iStr tl):=by
 intro jb s σ H R I h;refine thn (hl jb s σ H _ I h) λv s1 ⟨x,H1,I1,r1,q1⟩=>?_;obtain⟨x,rfl,ha,q⟩:=q1;obtain⟨t,rfl⟩:=r1;refine wpAny_pyIter_ascii ha ?_;refine⟨s1.heap.objs.size,[s1.heap.objs.size],_,_,H1,rfl,I1.kept (t':=s1.toks) λb o e=>D0 _ e,Oe x t _,⟨_,G4 _ rfl,rfl,rfl⟩,λb hb=>?_,q⟩;have e:b=s1.heap.objs.size:=by simpa using hb
 subst e;exact I1.fpOk (B9 _) (I1.hok.fresh (B9 _))
def rCatA (K:A8):R2:=λx y H Q=>∃a b xs ys,x=.ref a/\y=.ref b/\SqT K H a xs/\SqT K H b ys/\xs.length+ys.length<=C4/\
 (xs=[]->Q (.ref b) H)/\(xs≠[]->ys=[]->Q (.ref a) H)/\(xs≠[]->ys≠[]->∀p,H p=none->Q (.ref p) (upd H p (.tup (xs++ys))))
theorem Of:OpR X (R3 .Add) (rCatA X.K):=by
 intro jb s σ H x y v u Q I rx ry h;obtain⟨a,b,xs,ys,rfl,rfl,ha,hb,hz,q0,q1,q2⟩:=h
 by_cases hx:xs=[]
 ·cases rx;cases ry;obtain⟨jf,r1,p1,_⟩:=I.tuple ha;obtain⟨its2,r2,p2,_⟩:=I.tuple hb;obtain⟨⟨cls,dd,data,sl⟩,ho,hc,n,hd⟩:=id p1;obtain⟨⟨cls2,dd2,data2,sl2⟩,ho2,hc2,n2,hd2⟩:=id p2;simp only at hc hd hc2 hd2;subst hc hd hc2 hd2;have he:jf=[]:=r1.nil_iff.mpr hx
  exact concat_meets ⟨_,ho,rfl⟩ ⟨_,ho2,rfl⟩ noFill_tuple_add seq_tuple_add FY FX (FW _ _)
    (tuple_addW0 a b jf.toArray its2.toArray n n2 dd dd2 sl sl2 (by simp[he])) ⟨ho,ho2,⟨.ref b,H,I,rfl,q0 hx⟩⟩
 ·exact Nv jb s σ H _ _ v u Q I rx ry ⟨a,b,xs,ys,rfl,rfl,ha,hb,hx,hz,q1 hx,q2 hx⟩
theorem Inv.big {jb:List (A0×Obj)}{σ:St}{H:Hp}{s:A5}(I:Inv X jb σ H s):N6<s.heap.objs.size:=by
 have h:R1<s.heap.objs.size:=(I.mod.glob.keeps I.bk).lt;exact Bb (by decide) h
theorem Og {P:D1}{w:C8}{H:Hp}(h:B7)(hb:N6<h.objs.size):G7 P w H (h.push { cls:=.type "dict",data:=.dict #[] }) h.objs.size (.dK []):=
 ⟨J9 _,beq_eq_false_iff_ne.mpr (Ne.symm (D7 hb)),[],.nil,Heap.DictOf.new h⟩
end
structure Num0 (mg:Str->Option A1)(x:Str)(i:Int):Prop where
 ex:∃t,mg x=some (.int i t)
theorem Oh {K:A8}{h:B7}{mg:Str->Option A1}{x:Str}{i:Int}{t:Tok}(X:K.In h)(G:h.Ns R1 mg)(a:PySem.W.nsIn K R1 x=some (some (.int i t))):Num0 mg x i:=⟨t,PySem.W.mg_of X G a⟩
theorem pe_num {X:Cx}{x:Str}{i:Int}{pos:Pos}(n:Num0 X.mg x i)(hg:Gl X x)(hd:(x == ("__debug__":Str))=false:=by decide):PE X (.Name x pos) (tC (.int i)):=λjb s σ H Q I h=>by
 obtain⟨t,e⟩:=n.ex;exact MJ (v:=.int i) hg e ⟨t,rfl⟩ hd jb s σ H Q I h
end L2
end
section
namespace Pu
open PySem PySem.Spec L2
inductive PV where
 |non|bl (b:Bool)|int (i:Int)|str (x:Str)|ty (n:String)|pot (k:Nat)
 |tup (xs:List PV)|lst (xs:List PV)|dct (ks:List Key) (xs:List PV)
 /-- the script -/
 |scr (ns:List Int)
 /-- a dict by tuples that nothing changes any more -/
 |fdt (ks:List (List Key)) (xs:List PV)
structure Gh where
 M:List A0
 pots:List A0
def KLst (K:A8)(a:A0)(xs:List V):Prop:=∃(o:Obj) (jf:Array A1) (n:Nat),K.lookup a=some o/\o.cls=.type "list"/\o.dict=none/\o.data=.seq jf n/\jf.size<=C4/\Vals xs jf.toList
def AtL (M:List A0)(H:Hp)(a:A0)(xs:List V):Prop:=a∉M/\H a=some (.lst xs)
def AtT (M:List A0)(H:Hp)(a:A0)(xs:List V):Prop:=a∉M/\H a=some (.tup xs)
theorem AtL.sq {K:A8}{M:List A0}{H:Hp}{a:A0}{xs:List V}(h:AtL M H a xs):SqL K H a xs:=SqL.of h.2
theorem AtT.sq {K:A8}{M:List A0}{H:Hp}{a:A0}{xs:List V}(h:AtT M H a xs):SqT K H a xs:=SqT.of h.2
mutual
def Rep (K:A8)(G:Gh)(H:Hp):PV->V->Prop
 |.non,v=>v=.non
 |.bl b,v=>v=.bl b
 |.int i,v=>v=.int i
 |.str x,v=>v=.str x
 |.ty n,v=>v=.ty n
 |.pot k,v=>∃p,G.pots[k]?=some p/\v=.ref p
 |.tup xs,v=>∃a vs,v=.ref a/\AtT G.M H a vs/\Reps K G H xs vs
 |.lst xs,v=>∃a vs,v=.ref a/\AtL G.M H a vs/\Reps K G H xs vs
 |.scr ns,v=>∃a,v=.ref a/\((a∉G.M/\∃o,H a=some (.frz o (.lst (ns.map V.int))))\/KLst K a (ns.map V.int))
 |.dct ks xs,v=>∃a jg,v=.ref a/\a∉G.M/\H a=some (.dK jg)/\jg.map (·.1)=ks/\Reps K G H xs (jg.map (·.2))
 |.fdt ks xs,v=>∃a jg,v=.ref a/\a∉G.M/\Rd H a (.dT jg)/\jg.map (·.1)=ks/\Reps K G H xs (jg.map (·.2))
def Reps (K:A8)(G:Gh)(H:Hp):List PV->List V->Prop
 |[],vs=>vs=[]
 |x::xs,vs=>∃v r,vs=v::r/\Rep K G H x v/\Reps K G H xs r
end
section
variable {K:A8}{G G':Gh}{H H':Hp}
theorem Rd.keep {a:A0}{u:HO}(h:Rd H a u)(k:∀o,H a=some o->H' a=some o):Rd H' a u:=by grind [HO,Rd]
theorem Rd.ne {a:A0}{u:HO}(h:Rd H a u):H a≠none:=by grind [HO,Rd]
mutual
theorem Rep.mono (hk:∀b o,b∉G.M->H b=some o->H' b=some o)(hM:∀a∈G'.M,a∈G.M\/H a=none)(hp:∀(k:Nat) (p:A0),G.pots[k]?=some p->G'.pots[k]?=some p):∀(x:PV) (v:V),Rep K G H x v->Rep K G' H' x v
 |.non,v,h=>h
 |.bl b,v,h=>h
 |.int i,v,h=>h
 |.str x,v,h=>h
 |.ty n,v,h=>h
 | .pot k, v, h => by
  obtain⟨p,e,r⟩:=h;exact⟨p,hp k p e,r⟩
 | .tup xs, v, h => by
  obtain⟨a,vs,e,t,r⟩:=h;refine⟨a,vs,e,?_,Reps.mono hk hM hp xs vs r⟩;obtain⟨n,t⟩:=t;exact⟨λz=>(hM a z).elim n (λz=>by rw[z] at t;cases t),hk a _ n t⟩
 | .lst xs, v, h => by
  obtain⟨a,vs,e,t,r⟩:=h;refine⟨a,vs,e,?_,Reps.mono hk hM hp xs vs r⟩;obtain⟨n,t⟩:=t;exact⟨λz=>(hM a z).elim n (λz=>by rw[z] at t;cases t),hk a _ n t⟩
 | .scr ns, v, h => by
  obtain⟨a,e,h⟩:=h;refine⟨a,e,?_⟩;rcases h with⟨n,o,t⟩|h
  ·exact .inl ⟨λz=>(hM a z).elim n (λz=>by rw[z] at t;cases t),o,hk a _ n t⟩
  ·exact .inr h
 | .dct ks xs, v, h => by
  obtain⟨a,jg,e,n,t,ek,r⟩:=h;exact⟨a,jg,e,λz=>(hM a z).elim n (λz=>by rw[z] at t;cases t),hk a _ n t,ek,Reps.mono hk hM hp xs _ r⟩
 | .fdt ks xs, v, h => by
  obtain⟨a,jg,e,n,t,ek,r⟩:=h;exact⟨a,jg,e,λz=>(hM a z).elim n (λz=>Rd.ne (u:=.dT jg) t z),Rd.keep (u:=.dT jg) t (λo e=>hk a o n e),ek,Reps.mono hk hM hp xs _ r⟩
theorem Reps.mono (hk:∀b o,b∉G.M->H b=some o->H' b=some o)(hM:∀a∈G'.M,a∈G.M\/H a=none)(hp:∀(k:Nat) (p:A0),G.pots[k]?=some p->G'.pots[k]?=some p):∀(xs:List PV) (vs:List V),Reps K G H xs vs->Reps K G' H' xs vs
 |[],vs,h=>h
 | x :: xs, vs, h => by
  obtain⟨v,r,e,hx,hr⟩:=h;exact⟨v,r,e,Rep.mono hk hM hp x v hx,Reps.mono hk hM hp xs r hr⟩
end
theorem Rep.same (h:Rep K G H x v)(s:Same H H'):Rep K G H' x v:=Rep.mono (λb o _ e=>s b o e) (λa z=>.inl z) (λ_ _ e=>e) x v h
theorem Reps.same (h:Reps K G H x v)(s:Same H H'):Reps K G H' x v:=Reps.mono (λb o _ e=>s b o e) (λa z=>.inl z) (λ_ _ e=>e) x v h
def Fr (G:Gh)(H H':Hp):Prop:=∀b o,b∉G.M->H b=some o->H' b=some o
theorem Fr.refl:Fr G H H:=λ_ _ _ e=>e
theorem Fr.trans (a:Fr G H H')(b:Fr G H' H2):Fr G H H2:=λc o n e=>b c o n (a c o n e)
theorem Fr.of (s:Same H H'):Fr G H H':=λb o _ e=>s b o e
theorem Rep.fr (h:Rep K G H x v)(s:Fr G H H'):Rep K G H' x v:=Rep.mono s (λa z=>.inl z) (λ_ _ e=>e) x v h
theorem Reps.fr (h:Reps K G H x v)(s:Fr G H H'):Reps K G H' x v:=Reps.mono s (λa z=>.inl z) (λ_ _ e=>e) x v h
theorem Reps.length:∀{xs:List PV} {vs:List V},Reps K G H xs vs->xs.length=vs.length
 |[],vs,h=>by cases(show vs=[] from h);rfl
 | x :: xs, vs, h => by
  obtain⟨v,r,e,hx,hr⟩:=h;subst e;simp[Reps.length hr]
theorem Reps.get:∀{xs:List PV} {vs:List V} {i:Nat} {v:V},Reps K G H xs vs->vs[i]?=some v->∃x,xs[i]?=some x/\Rep K G H x v
 |[],vs,i,v,h,e=>by cases(show vs=[] from h);simp at e
 | x :: xs, vs, i, v, h, e => by
  obtain⟨w,r,e1,hx,hr⟩:=h;subst e1;cases i with
  |zero=>simp at e;subst e;exact⟨x,rfl,hx⟩
  |succ i=>simpa using Reps.get (i:=i) hr (by grind)
theorem Reps.get':∀{xs:List PV} {vs:List V} {i:Nat} {x:PV},Reps K G H xs vs->xs[i]?=some x->∃v,vs[i]?=some v/\Rep K G H x v:=λ{xs vs i x} h e=>by
 obtain⟨hi,_⟩:=F7.mp e;have hl:=h.length;have e2:vs[i]?=some (vs[i]'(by omega)):=D3 (by omega);obtain⟨y,ey,r⟩:=h.get e2;rw[e] at ey;cases ey;exact⟨_,e2,r⟩
theorem Reps.append:∀{xs ys:List PV} {vs us:List V},Reps K G H xs vs->Reps K G H ys us->Reps K G H (xs++ys) (vs++us)
 |[],ys,vs,us,h,h'=>by cases(show vs=[] from h);exact h'
 | x :: xs, ys, vs, us, h, h' => by
  obtain⟨w,r,e1,hx,hr⟩:=h;subst e1;exact⟨w,r++us,rfl,hx,Reps.append hr h'⟩
theorem Reps.take:∀{xs:List PV} {vs:List V} (n:Nat),Reps K G H xs vs->Reps K G H (xs.take n) (vs.take n)
 |xs,vs,0,h=>by simp[Reps]
 |[],vs,n+1,h=>by cases(show vs=[] from h);exact rfl
 | x :: xs, vs, n + 1, h => by
  obtain⟨w,r,e1,hx,hr⟩:=h;subst e1;exact⟨w,r.take n,rfl,hx,Reps.take n hr⟩
theorem Reps.drop:∀{xs:List PV} {vs:List V} (n:Nat),Reps K G H xs vs->Reps K G H (xs.drop n) (vs.drop n)
 |xs,vs,0,h=>by simpa using h
 |[],vs,n+1,h=>by cases(show vs=[] from h);exact rfl
 | x :: xs, vs, n + 1, h => by
  obtain⟨w,r,e1,hx,hr⟩:=h;subst e1;exact Reps.drop n hr
theorem Reps.one (h:Rep K G H x v):Reps K G H [x] [v]:=⟨v,[],rfl,h,rfl⟩
theorem Reps.set:∀{xs:List PV} {vs:List V} (n:Nat) {x:PV} {v:V},Reps K G H xs vs->Rep K G H x v->Reps K G H (xs.set n x) (vs.set n v)
 |[],vs,n,x,v,h,_=>by cases(show vs=[] from h);exact rfl
 | y :: xs, vs, 0, x, v, h, h' => by
  obtain⟨w,r,e1,hx,hr⟩:=h;subst e1;exact⟨v,r,rfl,h',hr⟩
 | y :: xs, vs, n + 1, x, v, h, h' => by
  obtain⟨w,r,e1,hx,hr⟩:=h;subst e1;exact⟨w,r.set n v,rfl,hx,Reps.set n hr h'⟩
theorem Reps.eraseIdx:∀{xs:List PV} {vs:List V} (n:Nat),Reps K G H xs vs->Reps K G H (xs.eraseIdx n) (vs.eraseIdx n)
 |[],vs,n,h=>by cases(show vs=[] from h);exact rfl
 | y :: xs, vs, 0, h => by
  obtain⟨w,r,e1,hx,hr⟩:=h;subst e1;exact hr
 | y :: xs, vs, n + 1, h => by
  obtain⟨w,r,e1,hx,hr⟩:=h;subst e1;exact⟨w,r.eraseIdx n,rfl,hx,Reps.eraseIdx n hr⟩
mutual
def noMut:PV->Bool
 |.lst _=>false
 |.dct _ _=>false
 |.fdt _ _=>false
 |.tup xs=>CJ xs
 |_=>true
def CJ:List PV->Bool
 |[]=>true
 |x::xs=>noMut x&&CJ xs
end
def MutO:HO->Prop
 |.lst _=>True
 |.dK _=>True
 |.dT _=>True
 |.set _ _=>True
 |.tbl _=>True
 |_=>False
mutual
theorem Rep.noMut {M':List A0}(hm:∀a∈G.M,∃o,H a=some o/\MutO o):∀(x:PV) (v:V),Pu.noMut x=true->Rep K ⟨M',G.pots⟩ H x v->Rep K G H x v
 |.non,v,_,h=>h
 |.bl b,v,_,h=>h
 |.int i,v,_,h=>h
 |.str x,v,_,h=>h
 |.ty n,v,_,h=>h
 |.pot k,v,_,h=>h
 | .tup xs, v, e, h => by
  obtain⟨a,vs,ev,t,r⟩:=h;refine⟨a,vs,ev,?_,Reps.noMut hm xs vs (by simpa[Pu.noMut] using e) r⟩;obtain⟨n,t⟩:=t;refine⟨λz=>?_,t⟩;obtain⟨o,e1,e2⟩:=hm a z;rw[e1] at t;cases t;exact e2
 | .scr ns, v, _, h => by
  obtain⟨a,e,h⟩:=h;refine⟨a,e,?_⟩;rcases h with⟨n,o,t⟩|h
  ·refine .inl ⟨λz=>?_,o,t⟩;obtain⟨o',e1,e2⟩:=hm a z;rw[e1] at t;cases t;exact e2
  ·exact .inr h
theorem Reps.noMut {M':List A0}(hm:∀a∈G.M,∃o,H a=some o/\MutO o):∀(xs:List PV) (vs:List V),Pu.CJ xs=true->Reps K ⟨M',G.pots⟩ H xs vs->Reps K G H xs vs
 |[],vs,_,h=>h
 | x :: xs, vs, e, h => by
  obtain⟨v,r,ev,hx,hr⟩:=h;have e':Pu.noMut x=true/\Pu.CJ xs=true:=by simpa[Pu.CJ] using e
  exact⟨v,r,ev,Rep.noMut hm x v e'.1 hx,Reps.noMut hm xs r e'.2 hr⟩
end
end
inductive OK where
 |lst|dk (ks:List Key)|dt (ks:List (List Key))|st (zs:List Key)
def memS (zs:List Key)(k:Key):Bool:=zs.any λz=>decide (z=k)
def mkO:OK->List V->HO
 |.lst,vs=>.lst vs
 |.dk ks,vs=>.dK (ks.zip vs)
 |.dt ks,vs=>.dT (ks.zip vs)
 |.st zs,_=>.set (memS zs) zs.length
theorem Jj (k:OK)(vs:List V):MutO (mkO k vs):=by cases k <;> trivial
inductive Slot where
 |v (x:PV)
 |ow (k:OK) (xs:List PV)
abbrev Slot.own (xs:List PV):Slot:=.ow .lst xs
abbrev Env:=List (Option Slot)
structure PotK where
 at_:List A0->Hp->A0->Nat->Prop
 mono:∀{M H p n m},at_ M H p n->n<=m->at_ M H p m
 keep:∀{M H H' p n},at_ M H p n->H' p=H p->(∀b o,b∉M->H b=some o->H' b=some o)->at_ M H' p n
 more:∀{M M' H p n},at_ M H p n->(∀a∈M',a∈M\/H a=none)->at_ M' H p n
 mu:∀{M H p n},at_ M H p n->∃o,H p=some o/\MutO o
 /-- what is known of all pots together -/
 has:List A0->Prop:=λ_=>True
 hasM:∀{l:List A0} {p:A0},has l->p∉l->has (l++[p]):=by intro _ _ _ _;trivial
structure Ct where
 K:A8
 T:PotK
 M0:List A0
 pots0:List A0
 H0:Hp
 np:Bool
def CK (C:Ct)(G:Gh)(H:Hp)(o:Option (Option V)):Slot->Prop
 |.v x=>∃v,o=some (some v)/\Rep C.K G H x v
 |.ow k xs=>∃a vs,o=some (some (.ref a))/\a∈G.M/\a∉C.M0/\a∉G.pots/\H a=some (mkO k vs)/\Reps C.K G H xs vs
structure SR (C:Ct)(G:Gh)(σ:St)(H:Hp)(env:Env)(n:Nat):Prop where
 frame:∀b o,b∉C.pots0->C.H0 b=some o->H b=some o
 sub:∀a∈G.M,a∈C.M0\/C.H0 a=none
 sup:∀a∈C.M0,a∈G.M
 pots:∀p∈G.pots,p∈G.M/\C.T.at_ G.M H p n
 pre:∃l,G.pots=C.pots0++l/\(l=[]\/C.np=true)
 mu:∀a∈G.M,∃o,H a=some o/\MutO o
 slots:∀(i:Nat) (s:Slot),env[i]?=some (some s)->CK C G H (σ[i]?) s
 inj:∀(i j:Nat) (xs ys:OK×List PV) (a:A0),env[i]?=some (some (.ow xs.1 xs.2))->env[j]?=some (some (.ow ys.1 ys.2))->σ[i]?=some (some (.ref a))->σ[j]?=some (some (.ref a))->i=j
 p0:(∀p∈C.pots0,p∈C.M0)/\C.T.has G.pots
 len:env.length=σ.length
 newp:∀p∈G.pots,p∉C.pots0->p∈C.M0->False
section
variable {C:Ct}{G G':Gh}{σ:St}{H H':Hp}{env:Env}{n:Nat}
theorem SR.hasG (S:SR C G σ H env n):C.T.has G.pots:=S.p0.2
theorem SR.fresh (S:SR C G σ H env n)(h:H p=none):p∉G.M:=λz=>by
 obtain⟨o,e,_⟩:=S.mu p z;rw[h] at e;cases e
theorem SR.same (S:SR C G σ H env n)(s:Same H H'):SR C G σ H' env n where
 frame b o hb e:=s b o (S.frame b o hb e)
 sub:=S.sub
 sup:=S.sup
 pots p hp:=⟨(S.pots p hp).1,C.T.keep (S.pots p hp).2 (by
  obtain⟨o,e,_⟩:=C.T.mu (S.pots p hp).2
  rw[e,s p o e]) λb o _ e=>s b o e⟩
 pre:=S.pre
 mu a ha:=by
  obtain⟨o,e,m⟩:=S.mu a ha;exact⟨o,s a o e,m⟩
 slots i x e:=by
  have:=S.slots i x e;cases x with
  | v x =>
   obtain⟨v,e1,r⟩:=this;exact⟨v,e1,r.same s⟩
  | ow kk xs =>
   obtain⟨a,vs,e1,h1,h2,h3,h4,r⟩:=this;exact⟨a,vs,e1,h1,h2,h3,s _ _ h4,r.same s⟩
 inj:=S.inj
 p0:=S.p0
 len:=S.len
 newp:=S.newp
theorem Same.lay1 (h:H p=none):Same H (upd H p o):=(Same.refl H).lay h
end
end Pu
end
section
namespace Pu
open PySem PySem.Spec L2
abbrev PK:=PV->Env->Nat->Prop
abbrev pE:=Env->Nat->PK->Prop
abbrev pT:=Env->Nat->(Bool->Env->Nat->Prop)->Prop
abbrev pA:=Env->Nat->(List PV->Env->Nat->Prop)->Prop
abbrev pF:=List PV->Nat->(PV->Nat->Prop)->Prop
def RdV (K:A8)(G:Gh)(H:Hp)(x:PV)(v:V):Prop:=Rep K G H x v\/∃a vs xs,x=.lst xs/\v=.ref a/\H a=some (.lst vs)/\Reps K G H xs vs
def RdS (C:Ct)(G:Gh)(σ:St)(H:Hp)(env:Env)(x:PV)(v:V):Prop:=Rep C.K G H x v\/∃(i:Nat) (a:A0) (xs:List PV),env[i]?=some (some (.ow .lst xs))/\σ[i]?=some (some (.ref a))/\x=.lst xs/\v=.ref a
def EOk (K:A8)(T:PotK)(t:TE)(pe:pE):Prop:=∀(C:Ct) (G:Gh) (σ:St) (H:Hp) (env:Env) (n:Nat) (R:PK) (Q:VK),C.K=K->C.T=T->SR C G σ H env n->pe env n R->
 (∀x jh n' v H',R x jh n'->SR C G σ H' jh n'->Rep K G H' x v->Fr G H H'->Q v H')->t σ H Q
def ROk (K:A8)(T:PotK)(t:TE)(pe:pE):Prop:=∀(C:Ct) (G:Gh) (σ:St) (H:Hp) (env:Env) (n:Nat) (R:PK) (Q:VK),C.K=K->C.T=T->SR C G σ H env n->pe env n R->
 (∀x jh n' v H',R x jh n'->SR C G σ H' jh n'->RdS C G σ H' jh x v->Fr G H H'->Q v H')->t σ H Q
def NOk (K:A8)(T:PotK)(t:TE)(pn:pA):Prop:=∀(C:Ct) (G:Gh) (σ:St) (H:Hp) (env:Env) (n:Nat) (R:List PV->Env->Nat->Prop) (Q:VK),C.K=K->C.T=T->SR C G σ H env n->pn env n R->
 (∀xs jh n' a vs Hb,R xs jh n'->SR C G σ Hb jh n'->Fr G H Hb->Hb a=none->Reps K G Hb xs vs->Q (.ref a) (upd Hb a (.lst vs)))->t σ H Q
def TOk (K:A8)(T:PotK)(t:TT)(pt:pT):Prop:=∀(C:Ct) (G:Gh) (σ:St) (H:Hp) (env:Env) (n:Nat) (R:Bool->Env->Nat->Prop) (Q:Bool->Hp->Prop),C.K=K->C.T=T->SR C G σ H env n->pt env n R->
 (∀b jh n' H',R b jh n'->SR C G σ H' jh n'->Fr G H H'->Q b H')->t σ H Q
def AOk (K:A8)(T:PotK)(t:TA)(pa:pA):Prop:=∀(C:Ct) (G:Gh) (σ:St) (H:Hp) (env:Env) (n:Nat) (R:List PV->Env->Nat->Prop) (Q:List V->Hp->Prop),C.K=K->C.T=T->SR C G σ H env n->pa env n R->
 (∀xs jh n' vs H',R xs jh n'->SR C G σ H' jh n'->Reps K G H' xs vs->Fr G H H'->Q vs H')->t σ H Q
structure EW (X:Cx)(e:Expr)(t:TE):Prop where
 h:PE X e t
structure SW (X:Cx)(st:Stmt)(t:TS):Prop where
 h:PS X st t
structure GW (X:Cx)(e:Expr)(g:TG):Prop where
 h:PG X e g
theorem vw (i:Nat)(hN:X.N[i]?=some x:=by rfl)(hv:Vis X.env.scope x:=by first|exact Or.inl rfl|exact Or.inr (Or.inl rfl)|exact Or.inr (Or.inr rfl))(hd:(x == ("__debug__":Str))=false:=by decide)(hcd:(x == ("__classdict__":Str))=false:=by decide):EW X (.Name x pos) (tVar i):=⟨IF hN hv hd hcd⟩
def QE {ι:Type}(T:PotK)(K:A8)(F:ι->Cx)(e:Expr)(pe:pE):Prop:=∃t,(∀z,PE (F z) e t)/\EOk K T t pe
def QR {ι:Type}(T:PotK)(K:A8)(F:ι->Cx)(e:Expr)(pe:pE):Prop:=∃t,(∀z,PE (F z) e t)/\ROk K T t pe
def QN {ι:Type}(T:PotK)(K:A8)(F:ι->Cx)(e:Expr)(pn:pA):Prop:=∃t,(∀z,PE (F z) e t)/\NOk K T t pn
def QT {ι:Type}(T:PotK)(K:A8)(F:ι->Cx)(e:Expr)(pt:pT):Prop:=∃t,(∀z,PT (F z) e t)/\TOk K T t pt
def QW {ι:Type}(T:PotK)(K:A8)(F:ι->Cx)(e:Expr)(pt:pT):Prop:=∃t,(∀z,PW (F z) e t)/\TOk K T t pt
def QA {ι:Type}(T:PotK)(K:A8)(F:ι->Cx)(es:List Expr)(pa:pA):Prop:=∃t,(∀z,PA (F z) es t)/\AOk K T t pa
section
variable {T:PotK}{ι:Type}{K:A8}{F:ι->Cx}{e a b:Expr}{es:List Expr}{pe pa pb:pE}
theorem Reps.nil:Reps K G H [] []:=rfl
theorem Reps.cons (h:Rep K G H x v)(h':Reps K G H xs vs):Reps K G H (x::xs) (v::vs):=⟨v,vs,rfl,h,h'⟩
theorem RdS.rd (S:SR C G σ H env n)(h:RdS C G σ H env x v):RdV C.K G H x v:=by
 rcases h with h|⟨i,a,xs,e1,e2,ex,ev⟩
 ·exact .inl h
 ·obtain⟨a',vs,e3,_,_,_,h4,r⟩:=S.slots i _ e1;rw[e2] at e3;cases e3;exact .inr ⟨a,vs,xs,ex,ev,h4,r⟩
theorem RdS.fr (h:RdS C G σ H env x v)(f:Fr G H H'):RdS C G σ H' env x v:=by
 rcases h with h|h
 ·exact .inl (h.fr f)
 ·exact .inr h
theorem RdV.lst (h:RdV K G H (.lst xs) v):∃a vs,v=.ref a/\SqL K H a vs/\Reps K G H xs vs:=by
 rcases h with⟨a,vs,e,t,r⟩|⟨a,vs,ys,ex,ev,h4,r⟩
 ·exact⟨a,vs,e,t.sq,r⟩
 ·cases ex;exact⟨a,vs,ev,SqL.of h4,r⟩
theorem RdV.rep {K:A8}{G:Gh}{H:Hp}{x:PV}{v:V}(h:RdV K G H x v)(hx:∀xs,x≠.lst xs):Rep K G H x v:=by simp_all [Gh,Hp,PV,RdV,V]
theorem RdV.tup (h:RdV K G H (.tup xs) v):∃a vs,v=.ref a/\SqT K H a vs/\Reps K G H xs vs:=by
 obtain⟨a,vs,e,t,r⟩:=h.rep (λ_ z=>nomatch z);exact⟨a,vs,e,t.sq,r⟩
theorem RdV.int (h:RdV K G H (.int i) v):v=.int i:=h.rep (λ_ z=>nomatch z)
theorem RdV.str (h:RdV K G H (.str i) v):v=.str i:=h.rep (λ_ z=>nomatch z)
theorem RdV.bl (h:RdV K G H (.bl i) v):v=.bl i:=h.rep (λ_ z=>nomatch z)
theorem RdV.non (h:RdV K G H .non v):v=.non:=h.rep (λ_ z=>nomatch z)
def qV (i:Nat):pE:=λenv n R=>match env[i]? with|some (some (.v x))=>R x env n|_=>False
def qO (i:Nat):pE:=λenv n R=>match env[i]? with|some (some (.ow .lst xs))=>R (.lst xs) env n|_=>False
def qC (c:PV):pE:=λenv n R=>R c env n
theorem qV_ex (h:qV i env n R):∃x,env[i]?=some (some (.v x))/\R x env n:=by
 unfold qV at h
 split at h
 ·exact⟨_,by assumption,h⟩
 ·exact h.elim
theorem qO_ex (h:qO i env n R):∃xs,env[i]?=some (some (.ow .lst xs))/\R (.lst xs) env n:=by
 unfold qO at h
 split at h
 ·exact⟨_,by assumption,h⟩
 ·exact h.elim
theorem qe_var (i:Nat)(h:∀z,EW (F z) (.Name x pos) (tVar i)):QE T K F (.Name x pos) (qV i):=by
 refine⟨_,λz=>(h z).h,λC G σ H env n R Q hK hT S hp k=>?_⟩;obtain⟨x,e,r⟩:=qV_ex hp;obtain⟨v,ev,rv⟩:=S.slots i _ e;exact⟨v,ev,k _ _ _ _ _ r S (hK▸rv) Fr.refl⟩
theorem P7 (i:Nat)(h:∀z,EW (F z) (.Name x pos) (tVar i)):QR T K F (.Name x pos) (qO i):=by
 refine⟨_,λz=>(h z).h,λC G σ H env n R Q hK hT S hp k=>?_⟩;obtain⟨xs,e,r⟩:=qO_ex hp;obtain⟨a,vs,ev,_,_,_,_,rv⟩:=S.slots i _ e;exact⟨.ref a,ev,k _ _ _ _ _ r S (.inr ⟨i,a,xs,e,ev,rfl,rfl⟩) Fr.refl⟩
theorem QE.r (h:QE T K F e pe):QR T K F e pe:=by
 obtain⟨t,h1,h2⟩:=h;exact⟨t,h1,λC G σ H env n R Q hK hT S hp k=>h2 C G σ H env n R Q hK hT S hp λx jh n' v H' r S' rp f=>k x jh n' v H' r S' (.inl (by rw[hK];exact rp)) f⟩
theorem ok_c (h:∀G H,Rep K G H c v):EOk K T (tC v) (qC c):=λC G σ H env n R Q hK hT S hp k=>k _ _ _ _ _ hp S (h G H) Fr.refl
theorem B3 {i j pos}:QE T K F (.Constant (.int i) j pos) (qC (.int i)):=⟨_,λz=>K4,ok_c λ_ _=>rfl⟩
theorem P1 {i j pos}:QE T K F (.Constant (.bool i) j pos) (qC (.bl i)):=⟨_,λz=>pe_bl,ok_c λ_ _=>rfl⟩
theorem D6 {i j pos}:QE T K F (.Constant (.str i) j pos) (qC (.str i)):=⟨_,λz=>pe_str,ok_c λ_ _=>rfl⟩
theorem t4 {j pos}:QE T K F (.Constant .none j pos) (qC .non):=⟨_,λz=>pe_non,ok_c λ_ _=>rfl⟩
theorem qe_num {x:Str}{i:Int}{pos:Pos}(n:∀z,Num0 (F z).mg x i)(hg:∀z,Gl (F z) x)(hd:(x == ("__debug__":Str))=false:=by decide):QE T K F (.Name x pos) (qC (.int i)):=⟨_,λz=>pe_num (n z) (hg z) hd,ok_c λ_ _=>rfl⟩
abbrev w1:=PV->(PV->Prop)->Prop
abbrev w2:=PV->PV->(PV->Prop)->Prop
def W2 (K:A8)(r:R2)(w:w2):Prop:=∀(G:Gh) (H:Hp) (x y:PV) (v u:V) (R:PV->Prop) (Q:VK),(∀p,H p=none->p∉G.M)->RdV K G H x v->RdV K G H y u->w x y R->
 (∀z v' H',R z->Same H H'->Rep K G H' z v'->Q v' H')->r v u H Q
def W1 (K:A8)(r:V->Hp->VK->Prop)(w:w1):Prop:=∀(G:Gh) (H:Hp) (x:PV) (v:V) (R:PV->Prop) (Q:VK),(∀p,H p=none->p∉G.M)->RdV K G H x v->w x R->
 (∀z v' H',R z->Same H H'->Rep K G H' z v'->Q v' H')->r v H Q
def qOp (w:w2)(pa pb:pE):pE:=λenv n R=>pa env n λx jc n1=>pb jc n1 λy jd n2=>w x y λz=>R z jd n2
def qOpR (w:w2)(pa pb:pE):pE:=λenv n R=>pa env n λx jc n1=>pb jc n1 λy jd n2=>jd=jc/\w x y λz=>R z jd n2
def qUn (w:w1)(pa:pE):pE:=λenv n R=>pa env n λx jc n1=>w x λz=>R z jc n1
theorem CL (hw:W2 K r w)(ha:EOk K T ta pa)(hb:ROk K T tb pb):EOk K T (tOp r ta tb) (qOp w pa pb):=λC G σ H env n R Q hK hT S hp k=>by
 refine ha C G σ H env n _ _ hK hT S hp λx jc n1 v H1 p1 S1 r1 f1=>?_;refine hb C G σ H1 jc n1 _ _ hK hT S1 p1 λy jd n2 u H2 p2 S2 r2 f2=>?_;subst hK;exact hw G H2 x y v u _ _ (λp hp=>S2.fresh hp) (.inl (r1.fr f2)) (r2.rd S2) p2 λz v' H' rz s rv=>k _ _ _ _ _ rz (S2.same s) rv ((f1.trans f2).trans (Fr.of s))
theorem Jk (hw:W2 K r w)(ha:ROk K T ta pa)(hb:ROk K T tb pb):EOk K T (tOp r ta tb) (qOpR w pa pb):=λC G σ H env n R Q hK hT S hp k=>by
 refine ha C G σ H env n _ _ hK hT S hp λx jc n1 v H1 p1 S1 r1 f1=>?_;refine hb C G σ H1 jc n1 _ _ hK hT S1 p1 λy jd n2 u H2 p2 S2 r2 f2=>?_;subst hK;obtain⟨e,p2⟩:=p2;subst e;exact hw G H2 x y v u _ _ (λp hp=>S2.fresh hp) ((r1.fr f2).rd S2) (r2.rd S2) p2 λz v' H' rz s rv=>k _ _ _ _ _ rz (S2.same s) rv ((f1.trans f2).trans (Fr.of s))
theorem ok_un (hw:W1 K r w)(ha:ROk K T ta pa):EOk K T (tUn r ta) (qUn w pa):=λC G σ H env n R Q hK hT S hp k=>by
 refine ha C G σ H env n _ _ hK hT S hp λx jc n1 v H1 p1 S1 r1 f1=>?_;subst hK;exact hw G H1 x v _ _ (λp hp=>S1.fresh hp) (r1.rd S1) p1 λz v' H' rz s rv=>k _ _ _ _ _ rz (S1.same s) rv (f1.trans (Fr.of s))
def wI (C:Int->Int->Prop)(g:Int->Int->PV):w2:=λx y R=>match x,y with|.int i,.int j=>C i j/\R (g i j)|_,_=>False
theorem W2.I (hg:∀i j G H,Rep K G H (g' i j) (g i j)):W2 K (rI C g) (wI C g'):=by
 intro G H x y v u R Q hf rx ry hw k;unfold wI at hw
 split at hw
 ·exact⟨_,_,rx.int,ry.int,hw.1,k _ _ _ hw.2 (Same.refl _) (hg _ _ _ _)⟩
 ·exact hw.elim
def wI0 (g:Int->Int->PV):w2:=λx y R=>match x,y with|.int i,.int j=>R (g i j)|_,_=>False
theorem W2.I0 (hg:∀i j G H,Rep K G H (g' i j) (g i j)):W2 K (rI0 g) (wI0 g'):=by
 intro G H x y v u R Q hf rx ry hw k;unfold wI0 at hw
 split at hw
 ·exact⟨_,_,rx.int,ry.int,k _ _ _ hw (Same.refl _) (hg _ _ _ _)⟩
 ·exact hw.elim
def wAdd:w2:=λx y R=>match x,y with
 |.int i,.int j=>R (.int (i+j))
 |.str i,.str j=>i.length+j.length<=1000000/\R (.str (i++j))
 |.tup xs,.tup ys=>xs.length+ys.length<=1000000/\R (.tup (xs++ys))
 |_,_=>False
theorem mil (h:n<=1000000):n<=C4:=N1 h (by rw[K5];decide)
theorem mil' (h:n<=1000000):n<C4:=A_ h (by rw[K5];decide)
theorem By (hf:p∉G.M)(hn:H p=none)(r:Reps K G H xs vs):Rep K G (upd H p (.tup vs)) (.tup xs) (.ref p):=
 ⟨p,vs,rfl,⟨hf,E7⟩,r.same (Same.lay1 hn)⟩
theorem CM (hf:p∉G.M)(hn:H p=none)(r:Reps K G H xs vs):Rep K G (upd H p (.lst vs)) (.lst xs) (.ref p):=
 ⟨p,vs,rfl,⟨hf,E7⟩,r.same (Same.lay1 hn)⟩
theorem W2.add:W2 K (λx y H Q=>(rI0 λi j=>.int (i+j)) x y H Q\/(∃i j,x=.str i/\y=.str j/\i.length+j.length<=C4/\Q (.str (i++j)) H)\/rCatA K x y H Q) wAdd:=by
 intro G H x y v u R Q hf rx ry hw k;unfold wAdd at hw
 split at hw
 ·exact .inl ⟨_,_,rx.int,ry.int,k _ _ _ hw (Same.refl _) rfl⟩
 ·exact .inr (.inl ⟨_,_,rx.str,ry.str,mil hw.1,k _ _ _ hw.2 (Same.refl _) rfl⟩)
 ·rename_i xs ys;obtain⟨a,vs,ea,ta,ra⟩:=rx.rep (λ_ z=>nomatch z);obtain⟨b,us,eb,tb,rb⟩:=ry.rep (λ_ z=>nomatch z);refine .inr (.inr ⟨a,b,vs,us,ea,eb,ta.sq,tb.sq,?_,λz=>?_,λz1 z2=>?_,λz1 z2 p hp=>?_⟩)
  ·rw[<- ra.length,<- rb.length];exact mil hw.1
  ·subst z;have:xs=[]:=AM ra.length;subst this;exact k _ _ _ hw.2 (Same.refl _) ⟨b,us,rfl,tb,rb⟩
  ·subst z2;have:ys=[]:=AM rb.length;subst this;exact k _ _ _ hw.2 (Same.refl _) (by rw[W8];exact⟨a,vs,rfl,ta,ra⟩)
  ·exact k _ _ _ hw.2 (Same.lay1 hp) (By (hf p hp) hp (ra.append rb))
 ·exact hw.elim
theorem J0 (ha:QE T K F a pa)(hb:QE T K F b pb)(hK:∀z,(F z).K=K:=by intro _;rfl):QE T K F (.BinOp a .Add b pos) (qOp wAdd pa pb):=by
 obtain⟨ta,h1,h2⟩:=ha;obtain⟨tb,h3,h4⟩:=hb.r;exact⟨_,λz=>L3 (p7.or (Nc.or (hK z▸Of))) (h1 z) (h3 z),CL W2.add h2 h4⟩
theorem Em (ho:∀z,OpR (F z) (R3 op) r)(hw:W2 K r w)(ha:QE T K F a pa)(hb:QE T K F b pb):QE T K F (.BinOp a op b pos) (qOp w pa pb):=by
 obtain⟨ta,h1,h2⟩:=ha;obtain⟨tb,h3,h4⟩:=hb.r;exact⟨_,λz=>L3 (ho z) (h1 z) (h3 z),CL hw h2 h4⟩
def wSub:w2:=wI0 λi j=>.int (i-j)
def wMul:w2:=λx y R=>match x,y with
 |.int i,.int j=>CMul i j/\R (.int (i*j))
 |.str i,.int n=>i.length<=100/\0<=n/\n<=1000/\R (.str (i7 i n))
 |_,_=>False
def GH:w2:=wI CDiv λi j=>.int (i/j)
def wMod:w2:=wI (λ_ j=>0<j) λi j=>.int (i%j)
theorem W2.mul:W2 K (λx y H Q=>(rI CMul λi j=>.int (i*j)) x y H Q\/(∃i n,x=.str i/\y=.int n/\i.length<=100/\0<=n/\n<=1000/\Q (.str (i7 i n)) H)) wMul:=by
 intro G H x y v u R Q hf rx ry hw k;unfold wMul at hw
 split at hw
 ·exact .inl ⟨_,_,rx.int,ry.int,hw.1,k _ _ _ hw.2 (Same.refl _) rfl⟩
 ·exact .inr ⟨_,_,rx.str,ry.int,hw.1,hw.2.1,hw.2.2.1,k _ _ _ hw.2.2.2 (Same.refl _) rfl⟩
 ·exact hw.elim
theorem GI (ha:QE T K F a pa)(hb:QE T K F b pb):QE T K F (.BinOp a .Sub b pos) (qOp wSub pa pb):=Em (λ_=>op_sub) (W2.I0 λ_ _ _ _=>rfl) ha hb
theorem Eo (ha:QE T K F a pa)(hb:QE T K F b pb):QE T K F (.BinOp a .Mult b pos) (qOp wMul pa pb):=Em (λ_=>p8.or NY) W2.mul ha hb
theorem Oi (ha:QE T K F a pa)(hb:QE T K F b pb):QE T K F (.BinOp a .FloorDiv b pos) (qOp GH pa pb):=Em (λ_=>Gj) (W2.I λ_ _ _ _=>rfl) ha hb
theorem GJ (ha:QE T K F a pa)(hb:QE T K F b pb):QE T K F (.BinOp a .Mod b pos) (qOp wMod pa pb):=Em (λ_=>Ah) (W2.I λ_ _ _ _=>rfl) ha hb
end
end Pu
end
section
namespace L2
open PySem PySem.Spec PyProof.Rows
def EqD (K:A8)(H:Hp):Nat->V->V->Bool->Prop
 |0,x,y,b=>P6 x=true/\P6 y=true/\b=eqV x y
 | d + 1, x, y, b => (P6 x = true /\ P6 y = true /\ b = eqV x y) \/
   (∃p q xs ys,∃f:Nat->Bool,x=.ref p/\y=.ref q/\SqT K H p xs/\SqT K H q ys/\(∀(j:Nat) x' y',xs[j]?=some x'->ys[j]?=some y'->EqD K H d x' y' (f j))/\b=((E5 (min xs.length ys.length)).all f&&xs.length == ys.length))\/
   (∃p q xs ys,∃f:Nat->Bool,x=.ref p/\y=.ref q/\SqL K H p xs/\SqL K H q ys/\(∀(j:Nat) x' y',xs[j]?=some x'->ys[j]?=some y'->EqD K H d x' y' (f j))/\b=((E5 (min xs.length ys.length)).all f&&xs.length == ys.length))\/
   (b=false/\((∃p xs,x=.ref p/\(SqT K H p xs\/SqL K H p xs)/\P6 y=true)\/(∃p xs,y=.ref p/\(SqT K H p xs\/SqL K H p xs)/\P6 x=true)\/
     (∃p q xs ys,x=.ref p/\y=.ref q/\SqT K H p xs/\SqL K H q ys)\/(∃p q xs ys,x=.ref p/\y=.ref q/\SqL K H p xs/\SqT K H q ys)))
section
variable {X:Cx}{jb:List (A0×Obj)}{σ:St}{H:Hp}{s:A5}
theorem Q7 (I:Inv X jb σ H s)(h:SqT X.K H p xs)(h':SqL X.K H p ys):False:=by
 obtain⟨jf,r,⟨o,e,c,n,d⟩,_⟩:=I.tuple h;obtain⟨its',r',⟨o',n',e',c',_,d'⟩,_⟩:=I.list h';rw[e] at e';cases e';rw[c] at c';injection c' with c';exact absurd c' (by decide)
theorem EqD.refl (I:Inv X jb σ H s):∀(d:Nat) (x:V) (b:Bool),EqD X.K H d x x b->b=true:=by
 intro d
 induction d with
 | zero =>
  intro x b h;obtain⟨h1,_,rfl⟩:=h;exact GB h1
 | succ d ih =>
  intro x b h;rcases h with⟨h1,_,rfl⟩|⟨p,q,xs,ys,f,e1,e2,s1,s2,hf,rfl⟩|⟨p,q,xs,ys,f,e1,e2,s1,s2,hf,rfl⟩|⟨rfl,h⟩
  ·exact GB h1
  ·subst e1;cases e2;have:=I.tuple_inj s1 s2;subst this;simp only[Bc,beq_self_eq_true,Bf,E4,L4];intro j hj;exact ih _ _ (hf j xs[j] xs[j] (by simp[hj]) (by simp[hj]))
  ·subst e1;cases e2;have:=I.list_inj s1 s2;subst this;simp only[Bc,beq_self_eq_true,Bf,E4,L4];intro j hj;exact ih _ _ (hf j xs[j] xs[j] (by simp[hj]) (by simp[hj]))
  ·rcases h with⟨p,xs,rfl,_,h⟩|⟨p,xs,rfl,_,h⟩|⟨p,q,xs,ys,e1,e2,s1,s2⟩|⟨p,q,xs,ys,e1,e2,s1,s2⟩
   ·cases h
   ·cases h
   ·subst e1;cases e2;exact(Q7 I s1 s2).elim
   ·subst e1;cases e2;exact(Q7 I s2 s1).elim
theorem Inv.sqL (I:Inv X jb σ H s)(h:SqL X.K H p xs):∃jf:List A1,Vals xs jf/\s.heap.IsList p jf.toArray:=by
 obtain⟨jf,r,pl,_⟩:=I.list h;exact⟨jf,r,pl.isList⟩
theorem Inv.sqT (I:Inv X jb σ H s)(h:SqT X.K H p xs):∃jf:List A1,Vals xs jf/\s.heap.IsTuple p jf.toArray:=by
 obtain⟨jf,r,pl,_⟩:=I.tuple h;exact⟨jf,r,pl⟩
theorem Ep (I:Inv X jb σ H s)(hu:A.units<cLine)(hq:SqT X.K H p xs\/SqL X.K H p xs)(ry:RelV y w)(fy:P6 y=true) :
   Af A s (.ref p) w false/\Bq A s (.ref p) w true/\Af A s w (.ref p) false/\Bq A s w (.ref p) true/\X3 A s (.ref p) w false/\X3 A s w (.ref p) false:=by
 rcases hq with hq|hq
 ·obtain⟨jf,r,il⟩:=I.sqT hq;cases y with
  |non=>cases ry;exact⟨.tuple_none il hu,.tuple_none il hu,.none_tuple il hu,.none_tuple il hu,.tuple_none il hu,.none_tuple il hu⟩
  |bl b=>cases ry;exact⟨.tuple_bool b il hu,.tuple_bool b il hu,.bool_tuple b il hu,.bool_tuple b il hu,.tuple_bool b il hu,.bool_tuple b il hu⟩
  |int i=>obtain⟨t,rfl⟩:=ry;exact⟨.tuple_int i t il hu,.tuple_int i t il hu,.int_tuple i t il hu,.int_tuple i t il hu,.tuple_int i t il hu,.int_tuple i t il hu⟩
  |str i=>obtain⟨t,rfl⟩:=ry;exact⟨.tuple_str i t il hu,.tuple_str i t il hu,.str_tuple i t il hu,.str_tuple i t il hu,.tuple_str i t il hu,.str_tuple i t il hu⟩
  |_=>cases fy
 ·obtain⟨jf,r,il⟩:=I.sqL hq;cases y with
  |non=>cases ry;exact⟨.list_none il hu,.list_none il hu,.none_list il hu,.none_list il hu,.list_none il hu,.none_list il hu⟩
  |bl b=>cases ry;exact⟨.list_bool b il hu,.list_bool b il hu,.bool_list b il hu,.bool_list b il hu,.list_bool b il hu,.bool_list b il hu⟩
  |int i=>obtain⟨t,rfl⟩:=ry;exact⟨.list_int i t il hu,.list_int i t il hu,.int_list i t il hu,.int_list i t il hu,.list_int i t il hu,.int_list i t il hu⟩
  |str i=>obtain⟨t,rfl⟩:=ry;exact⟨.list_str i t il hu,.list_str i t il hu,.str_list i t il hu,.str_list i t il hu,.list_str i t il hu,.str_list i t il hu⟩
  |_=>cases fy
theorem Jl (rx:RelV x u)(ry:RelV y w)(fx:P6 x=true)(fy:P6 y=true):Af A s u w (eqV x y)/\Bq A s u w (!eqV x y):=by
 cases x with
 | non =>
  cases rx;cases y with
  |non=>cases ry;exact⟨.none_none,.none_none⟩
  |bl j=>cases ry;exact⟨.none_bool j,.none_bool j⟩
  |int j=>obtain⟨t,rfl⟩:=ry;exact⟨.none_int j t,.none_int j t⟩
  |str j=>obtain⟨t,rfl⟩:=ry;exact⟨.none_str j t,.none_str j t⟩
  |_=>cases fy
 | bl i =>
  cases rx;cases y with
  |non=>cases ry;exact⟨.bool_none i,.bool_none i⟩
  |bl j=>cases ry;exact⟨.bool_bool i j,.bool_bool i j⟩
  |int j=>obtain⟨t,rfl⟩:=ry;exact⟨.bool_int i j t,.bool_int i j t⟩
  |str j=>obtain⟨t,rfl⟩:=ry;exact⟨.bool_str i j t,.bool_str i j t⟩
  |_=>cases fy
 | int i =>
  obtain⟨ti,rfl⟩:=rx;cases y with
  |non=>cases ry;exact⟨.int_none i ti,.int_none i ti⟩
  |bl j=>cases ry;exact⟨.int_bool i ti j,.int_bool i ti j⟩
  |int j=>obtain⟨t,rfl⟩:=ry;exact⟨.int_int i ti j t,.int_int i ti j t⟩
  |str j=>obtain⟨t,rfl⟩:=ry;exact⟨.int_str i ti j t,.int_str i ti j t⟩
  |_=>cases fy
 | str i =>
  obtain⟨ti,rfl⟩:=rx;cases y with
  |non=>cases ry;exact⟨.str_none i ti,.str_none i ti⟩
  |bl j=>cases ry;exact⟨.str_bool i ti j,.str_bool i ti j⟩
  |int j=>obtain⟨t,rfl⟩:=ry;exact⟨.str_int i ti j t,.str_int i ti j t⟩
  |str j=>obtain⟨t,rfl⟩:=ry;exact⟨.str_str i ti j t,.str_str i ti j t⟩
  |_=>cases fy
 |_=>cases fx
theorem Z9 (A:D5):A.in1.units=A.units+1:=rfl
theorem EqD.at (I:Inv X jb σ H s):∀(d:Nat) (A:D5) (x y:V) (u w:A1) (b:Bool),A.units+d<cLine->RelV x u->RelV y w->EqD X.K H d x y b->X3 A s u w b/\Af A s u w b/\Bq A s u w (!b):=by
 intro d
 induction d with
 | zero =>
  intro A x y u w b hu rx ry h;obtain⟨h1,h2,rfl⟩:=h;exact⟨Gx rx ry h1 h2,Jl rx ry h1 h2⟩
 | succ d ih =>
  intro A x y u w b hu rx ry h;have hu0:A.units<cLine:=by omega
  have hu1:A.in1.units+d<cLine:=by rw[Z9];omega
  have hrefl:=EqD.refl I (d+1) x b;rcases h with⟨h1,h2,rfl⟩|⟨p,q,xs,ys,f,e1,e2,s1,s2,hf,eb⟩|⟨p,q,xs,ys,f,e1,e2,s1,s2,hf,eb⟩|⟨rfl,h⟩
  ·exact⟨Gx rx ry h1 h2,Jl rx ry h1 h2⟩
  ·subst e1 e2;cases rx;cases ry;obtain⟨jf,r1,t1⟩:=I.sqT s1;obtain⟨its2,r2,t2⟩:=I.sqT s2;have z1:jf.toArray.size=xs.length:=by simpa using r1.length.symm
   have z2:its2.toArray.size=ys.length:=by simpa using r2.length.symm
   have he:∀j (h1:j<jf.toArray.size) (h2:j<its2.toArray.size),X3 A.in1 s jf.toArray[j] its2.toArray[j] (f j):=by
    intro j h1 h2;obtain⟨x',e1,q1⟩:=r1.getE (j:=j) (by omega);obtain⟨y',e2,q2⟩:=r2.getE (j:=j) (by grind);exact(ih A.in1 x' y' _ _ (f j) hu1 (by grind) (by grind) (hf j x' y' e1 e2)).1
   have rc:Af A s (.ref p) (.ref q) b:=by
    rw[eb,<- z1,<- z2];exact SeqAt.RcAt.tuples t1 t2 hu0 he
   have rn:Bq A s (.ref p) (.ref q) (!b):=by
    rw[eb,<- z1,<- z2];exact SeqAt.RcNeAt.tuples t1 t2 hu0 he
   refine⟨?_,rc,rn⟩
   by_cases hpq:p=q
   ·subst hpq;rw[hrefl (.inr (.inl ⟨p,p,xs,ys,f,rfl,rfl,s1,s2,hf,eb⟩))];exact .same _
   ·exact .of_refs hpq rc
  ·subst e1 e2;cases rx;cases ry;obtain⟨jf,r1,t1⟩:=I.sqL s1;obtain⟨its2,r2,t2⟩:=I.sqL s2;have z1:jf.toArray.size=xs.length:=by simpa using r1.length.symm
   have z2:its2.toArray.size=ys.length:=by simpa using r2.length.symm
   have he:∀j (h1:j<jf.toArray.size) (h2:j<its2.toArray.size),X3 A.in1 s jf.toArray[j] its2.toArray[j] (f j):=by
    intro j h1 h2;obtain⟨x',e1,q1⟩:=r1.getE (j:=j) (by omega);obtain⟨y',e2,q2⟩:=r2.getE (j:=j) (by grind);exact(ih A.in1 x' y' _ _ (f j) hu1 (by grind) (by grind) (hf j x' y' e1 e2)).1
   have rr:Af A s (.ref p) (.ref q) b/\Bq A s (.ref p) (.ref q) (!b):=by
    by_cases hl:xs.length=ys.length
    ·have e3:b=(E5 jf.toArray.size).all f:=by rw[eb,hl,Bc,beq_self_eq_true,Bf,z1,hl]
     rw[e3];exact⟨SeqAt.RcAt.lists t1 t2 (by grind) hu0 he,SeqAt.RcNeAt.lists t1 t2 (by grind) hu0 he⟩
    ·have e3:b=false:=by
      rw[eb];have:(xs.length == ys.length)=false:=by simpa using hl
      rw[this,Bool.and_false]
     rw[e3];have e4:(jf.toArray.size != its2.toArray.size)=true:=by rw[z1,z2];simpa using hl
     exact⟨SeqAt.RcAt.lists_lengths t1 t2 e4 hu0,SeqAt.RcNeAt.lists_lengths t1 t2 e4 hu0⟩
   refine⟨?_,rr⟩
   by_cases hpq:p=q
   ·subst hpq;rw[hrefl (.inr (.inr (.inl ⟨p,p,xs,ys,f,rfl,rfl,s1,s2,hf,eb⟩)))];exact .same _
   ·exact .of_refs hpq rr.1
  ·rcases h with⟨p,xs,rfl,hq,fy⟩|⟨p,xs,rfl,hq,fx⟩|⟨p,q,xs,ys,e1,e2,s1,s2⟩|⟨p,q,xs,ys,e1,e2,s1,s2⟩
   ·cases rx;obtain⟨a1,a2,a3,a4,a5,a6⟩:=Ep I hu0 hq ry fy;exact⟨a5,a1,a2⟩
   ·cases ry;obtain⟨a1,a2,a3,a4,a5,a6⟩:=Ep I hu0 hq rx fx;exact⟨a6,a3,a4⟩
   ·subst e1 e2;cases rx;cases ry;obtain⟨jf,r1,t1⟩:=I.sqT s1;obtain⟨its2,r2,t2⟩:=I.sqL s2;exact⟨.tuple_list t1 t2 hu0,.tuple_list t1 t2 hu0,.tuple_list t1 t2 hu0⟩
   ·subst e1 e2;cases rx;cases ry;obtain⟨jf,r1,t1⟩:=I.sqL s1;obtain⟨its2,r2,t2⟩:=I.sqT s2;exact⟨.list_tuple t1 t2 hu0,.list_tuple t1 t2 hu0,.list_tuple t1 t2 hu0⟩
end
section
variable {X:Cx}
def rEqD (K:A8)(d:Nat)(neg:Bool):R2:=λx y H Q=>∃b,EqD K H d x y b/\Q (.bl (if neg then !b else b)) H
theorem op_eqD (d:Nat)(hu:X.A.units+d<cLine):OpR X (M5 .Eq) (rEqD X.K d false):=by
 intro jb s σ H x y v u Q I rx ry h;obtain⟨b,hb,q⟩:=h;exact(hb.at I d X.A x y v u b hu rx ry).2.1 X.prog X.w X.xe _ ⟨.bl _,H,I,rfl,q⟩
theorem op_neD (d:Nat)(hu:X.A.units+d<cLine):OpR X (M5 .NotEq) (rEqD X.K d true):=by
 intro jb s σ H x y v u Q I rx ry h;obtain⟨b,hb,q⟩:=h;exact(hb.at I d X.A x y v u b hu rx ry).2.2 X.prog X.w X.xe _ ⟨.bl _,H,I,rfl,q⟩
def rInD (K:A8)(d:Nat)(neg:Bool):R2:=λx y H Q=>∃p ys,∃f:Nat->Bool,y=.ref p/\(SqL K H p ys\/SqT K H p ys)/\(∀(j:Nat) z,ys[j]?=some z->EqD K H d z x (f j))/\Q (.bl (if neg then !((E5 ys.length).any f) else(E5 ys.length).any f)) H
theorem GK (h:∀j,j<n->f j=g j):(E5 n).all f=(E5 n).all g:=by
 rw[i5,E4,E4];constructor
 ·intro k j hj;rw[<- h j (L4.mp hj)];exact k j hj
 ·intro k j hj;rw[h j (L4.mp hj)];exact k j hj
theorem EqD.det (I:Inv X jb σ H s):∀(d:Nat) (x y:V) (b b':Bool),EqD X.K H d x y b->EqD X.K H d x y b'->b=b':=by
 intro d
 induction d with
 | zero =>
  intro x y b b' h h';rw[h.2.2,h'.2.2]
 | succ d ih =>
  intro x y b b' h h';rcases h with⟨h1,h2,rfl⟩|⟨p,q,xs,ys,f,rfl,rfl,s1,s2,hf,rfl⟩|⟨p,q,xs,ys,f,rfl,rfl,s1,s2,hf,rfl⟩|⟨rfl,h⟩
  ·rcases h' with⟨h1',h2',rfl⟩|⟨p,q,xs,ys,f,rfl,rfl,s1,s2,hf,rfl⟩|⟨p,q,xs,ys,f,rfl,rfl,s1,s2,hf,rfl⟩|⟨rfl,h⟩
   ·rfl
   ·cases h1
   ·cases h1
   ·rcases h with⟨p,xs,rfl,_,h⟩|⟨p,xs,rfl,_,h⟩|⟨p,q,xs,ys,rfl,rfl,s1,s2⟩|⟨p,q,xs,ys,rfl,rfl,s1,s2⟩
    ·cases h1
    ·cases h2
    ·cases h1
    ·cases h1
  ·rcases h' with⟨h1',h2',rfl⟩|⟨p',q',xs',ys',f',e1,e2,s1',s2',hf',rfl⟩|⟨p',q',xs',ys',f',e1,e2,s1',s2',hf',rfl⟩|⟨rfl,h⟩
   ·cases h1'
   ·cases e1;cases e2;have:=I.tuple_inj s1 s1';subst this;have:=I.tuple_inj s2 s2';subst this;rw[GK λj hj=>ih _ _ _ _ (hf j (xs[j]'(by omega)) (ys[j]'(by omega)) (D3 _) (D3 _)) (hf' j (xs[j]'(by omega)) (ys[j]'(by omega)) (D3 _) (D3 _))]
   ·cases e1;exact(Q7 I s1 s1').elim
   ·rcases h with⟨p',xs',e1,_,h⟩|⟨p',xs',e1,_,h⟩|⟨p',q',xs',ys',e1,e2,s1',s2'⟩|⟨p',q',xs',ys',e1,e2,s1',s2'⟩
    ·cases h
    ·cases h
    ·cases e2;exact(Q7 I s2 s2').elim
    ·cases e1;exact(Q7 I s1 s1').elim
  ·rcases h' with⟨h1',h2',rfl⟩|⟨p',q',xs',ys',f',e1,e2,s1',s2',hf',rfl⟩|⟨p',q',xs',ys',f',e1,e2,s1',s2',hf',rfl⟩|⟨rfl,h⟩
   ·cases h1'
   ·cases e1;exact(Q7 I s1' s1).elim
   ·cases e1;cases e2;have:=I.list_inj s1 s1';subst this;have:=I.list_inj s2 s2';subst this;rw[GK λj hj=>ih _ _ _ _ (hf j (xs[j]'(by omega)) (ys[j]'(by omega)) (D3 _) (D3 _)) (hf' j (xs[j]'(by omega)) (ys[j]'(by omega)) (D3 _) (D3 _))]
   ·rcases h with⟨p',xs',e1,_,h⟩|⟨p',xs',e1,_,h⟩|⟨p',q',xs',ys',e1,e2,s1',s2'⟩|⟨p',q',xs',ys',e1,e2,s1',s2'⟩
    ·cases h
    ·cases h
    ·cases e1;exact(Q7 I s1' s1).elim
    ·cases e2;exact(Q7 I s2' s2).elim
  ·rcases h' with⟨h1',h2',rfl⟩|⟨p',q',xs',ys',f',rfl,rfl,s1',s2',hf',rfl⟩|⟨p',q',xs',ys',f',rfl,rfl,s1',s2',hf',rfl⟩|⟨rfl,h'⟩
   ·rcases h with⟨p,xs,rfl,_,h⟩|⟨p,xs,rfl,_,h⟩|⟨p,q,xs,ys,rfl,rfl,s1,s2⟩|⟨p,q,xs,ys,rfl,rfl,s1,s2⟩
    ·cases h1'
    ·cases h2'
    ·cases h1'
    ·cases h1'
   ·rcases h with⟨p,xs,e1,_,h⟩|⟨p,xs,e1,_,h⟩|⟨p,q,xs,ys,e1,e2,s1,s2⟩|⟨p,q,xs,ys,e1,e2,s1,s2⟩
    ·cases h
    ·cases h
    ·cases e2;exact(Q7 I s2' s2).elim
    ·cases e1;exact(Q7 I s1' s1).elim
   ·rcases h with⟨p,xs,e1,_,h⟩|⟨p,xs,e1,_,h⟩|⟨p,q,xs,ys,e1,e2,s1,s2⟩|⟨p,q,xs,ys,e1,e2,s1,s2⟩
    ·cases h
    ·cases h
    ·cases e1;exact(Q7 I s1 s1').elim
    ·cases e2;exact(Q7 I s2 s2').elim
   ·rfl
open Classical in
theorem Er (I:Inv X jb σ H s)(hu:A.units+d<cLine)(r:Vals ys jf)(rx:RelV x v)(hf:∀(j:Nat) z,ys[j]?=some z->EqD X.K H d z x (f j)) :
   ∃e:A1->Bool,(∀y,y∈jf->X3 A s y v (e y))/\jf.any e=(E5 ys.length).any f:=by
 have key:∀(j j':Nat) (z:A1),jf[j]?=some z->jf[j']?=some z->f j=f j':=by
  intro j j' z h h';obtain⟨hj,_⟩:=F7.mp h;obtain⟨hj',_⟩:=F7.mp h';obtain⟨w1,a1,b1⟩:=r.getE hj;obtain⟨w2,a2,b2⟩:=r.getE hj';rw[D3 hj] at h;rw[D3 hj'] at h';cases h;rw[M7 h'] at b2;have:=b1.inj b2;subst this;exact EqD.det I d _ _ _ _ (hf j _ a1) (hf j' _ a2)
 let e:A1->Bool:=λy=>decide (∃j,jf[j]?=some y/\f j=true)
 have he:∀(j:Nat) (y:A1),jf[j]?=some y->e y=f j:=by
  intro j y h;show decide _=_;cases hb:f j with
  |true=>exact jp ⟨j,h,hb⟩
  |false=>exact jq λ⟨j',h1,h2⟩=>by rw[key j j' y h h1,h2] at hb;cases hb
 refine⟨e,λy hy=>?_,?_⟩
 ·obtain⟨j,hj,rfl⟩:=y4 hy;obtain⟨w1,a1,b1⟩:=r.getE hj;rw[he j _ (D3 hj)];exact((hf j w1 a1).at I d A w1 x _ v (f j) hu b1 rx).1
 ·have hl:=r.length;rw[i5,U9,U9];constructor
  ·rintro⟨y,hy,h⟩;obtain⟨j,hj,rfl⟩:=y4 hy;exact⟨j,L4.mpr (by omega),by rw[<- he j _ (D3 hj)];exact h⟩
  ·rintro⟨j,hj,h⟩;have hj':j<jf.length:=by have:=L4.mp hj;omega
   exact⟨jf[j],y7 hj',by rw[he j _ (D3 hj')];exact h⟩
theorem op_inD (d:Nat)(hu:X.A.units+(d+1)<cLine):OpR X (M5 .In) (rInD X.K d false):=by
 intro jb s σ H x y v u Q I rx ry h;obtain⟨p,ys,f,rfl,hq,hf,q⟩:=h;cases ry;rcases hq with hq|hq
 ·obtain⟨jf,r,il⟩:=I.sqL hq;obtain⟨e,h1,h2⟩:=Er I (A:=X.A.in1) (by rw[Z9];omega) r rx hf;refine SeqAt.in_listAt e il (λy hy=>h1 y (by simpa using hy)) ⟨.bl _,H,I,rfl,?_⟩;rw[show jf.toArray.any e=jf.any e by simp,h2];exact q
 ·obtain⟨jf,r,il⟩:=I.sqT hq;obtain⟨e,h1,h2⟩:=Er I (A:=X.A.in1) (by rw[Z9];omega) r rx hf;refine SeqAt.in_tupleAt e il (λy hy=>h1 y (by simpa using hy)) ⟨.bl _,H,I,rfl,?_⟩;rw[show jf.toArray.any e=jf.any e by simp,h2];exact q
theorem Oj (d:Nat)(hu:X.A.units+(d+1)<cLine):OpR X (M5 .NotIn) (rInD X.K d true):=by
 intro jb s σ H x y v u Q I rx ry h;obtain⟨p,ys,f,rfl,hq,hf,q⟩:=h;cases ry;rcases hq with hq|hq
 ·obtain⟨jf,r,il⟩:=I.sqL hq;obtain⟨e,h1,h2⟩:=Er I (A:=X.A.in1) (by rw[Z9];omega) r rx hf;refine SeqAt.notIn_listAt e il (λy hy=>h1 y (by simpa using hy)) ⟨.bl _,H,I,rfl,?_⟩;rw[show jf.toArray.any e=jf.any e by simp,h2];exact q
 ·obtain⟨jf,r,il⟩:=I.sqT hq;obtain⟨e,h1,h2⟩:=Er I (A:=X.A.in1) (by rw[Z9];omega) r rx hf;refine SeqAt.notIn_tupleAt e il (λy hy=>h1 y (by simpa using hy)) ⟨.bl _,H,I,rfl,?_⟩;rw[show jf.toArray.any e=jf.any e by simp,h2];exact q
end
end L2
namespace Pu
open PySem PySem.Spec L2
def a9:PV->Bool
 |.non=>true
 |.bl _=>true
 |.int _=>true
 |.str _=>true
 |_=>false
def cmpb:Nat->PV->Bool
 |0,x=>a9 x
 |d+1,.tup xs=>xs.all (cmpb d)
 |d+1,.lst xs=>xs.all (cmpb d)
 |_+1,x=>a9 x
mutual
def eqP:PV->PV->Bool
 |.non,.non=>true
 |.bl a,.bl b=>a == b
 |.bl a,.int b=>(if a then 1 else 0) == b
 |.int a,.bl b=>a == (if b then 1 else 0)
 |.int a,.int b=>a == b
 |.str a,.str b=>a == b
 |.tup xs,.tup ys=>eqPs xs ys
 |.lst xs,.lst ys=>eqPs xs ys
 |_,_=>false
def eqPs:List PV->List PV->Bool
 |[],[]=>true
 |x::xs,y::ys=>eqP x y&&eqPs xs ys
 |_,_=>false
end
theorem Es:∀(xs ys:List PV),((E5 (min xs.length ys.length)).all (λj=>match xs[j]?,ys[j]? with|some x,some y=>eqP x y|_,_=>false)&&xs.length == ys.length)=eqPs xs ys
 |[],[]=>rfl
 |[],_::_=>rfl
 |_::_,[]=>rfl
 | x :: xs, y :: ys => by
  have ih:=Es xs ys;show _=(eqP x y&&eqPs xs ys);rw[<- ih];simp only[L8,Nat.succ_min_succ,List.range_succ_eq_map,List.all_cons,List.all_map,Function.comp_def,DJ,AQ];rw[Bool.and_assoc]
  congr 1
  simp
end Pu
end
section
namespace Pu
open PySem PySem.Spec L2
section
variable {K:A8}{G:Gh}{H:Hp}
inductive Sort3 (K:A8)(G:Gh)(H:Hp)(d:Nat)(x:PV)(v:V):Prop where
 |fl (h:P6 v=true) (s:a9 x=true)
 |tp (p:A0) (xs:List PV) (vs:List V) (e:x=.tup xs) (ev:v=.ref p) (h:SqT K H p vs) (r:Reps K G H xs vs) (c:xs.all (cmpb d)=true)
 |ls (p:A0) (xs:List PV) (vs:List V) (e:x=.lst xs) (ev:v=.ref p) (h:SqL K H p vs) (r:Reps K G H xs vs) (c:xs.all (cmpb d)=true)
theorem S6 (s:a9 x=true)(h:RdV K G H x v):P6 v=true:=by
 cases x with
 |non=>rw[h.non];rfl
 |bl b=>rw[h.bl];rfl
 |int b=>rw[h.int];rfl
 |str b=>rw[h.str];rfl
 |_=>cases s
theorem Et (c:cmpb (d+1) x=true)(h:RdV K G H x v):Sort3 K G H d x v:=by
 cases x with
 | tup xs =>
  obtain⟨a,vs,e,t,r⟩:=h.tup;exact .tp a xs vs rfl e t r c
 | lst xs =>
  obtain⟨a,vs,e,t,r⟩:=h.lst;exact .ls a xs vs rfl e t r c
 |non=>exact .fl (S6 c h) c
 |bl _=>exact .fl (S6 c h) c
 |int _=>exact .fl (S6 c h) c
 |str _=>exact .fl (S6 c h) c
 |ty _=>cases c
 |pot _=>cases c
 |scr _=>cases c
 |dct _ _=>cases c
 |fdt _ _=>cases c
theorem Bz (sx:a9 x=true)(sy:a9 y=true)(hx:RdV K G H x v)(hy:RdV K G H y u):eqP x y=eqV v u:=by
 cases x with
 | non =>
  cases hx.non;cases y with
  |non=>cases hy.non;rfl
  |bl j=>cases hy.bl;rfl
  |int j=>cases hy.int;rfl
  |str j=>cases hy.str;rfl
  |_=>cases sy
 | bl i =>
  cases hx.bl;cases y with
  |non=>cases hy.non;rfl
  |bl j=>cases hy.bl;rfl
  |int j=>cases hy.int;rfl
  |str j=>cases hy.str;rfl
  |_=>cases sy
 | int i =>
  cases hx.int;cases y with
  |non=>cases hy.non;rfl
  |bl j=>cases hy.bl;rfl
  |int j=>cases hy.int;rfl
  |str j=>cases hy.str;rfl
  |_=>cases sy
 | str i =>
  cases hx.str;cases y with
  |non=>cases hy.non;rfl
  |bl j=>cases hy.bl;rfl
  |int j=>cases hy.int;rfl
  |str j=>cases hy.str;rfl
  |_=>cases sy
 |_=>cases sx
theorem Eu (sy:a9 y=true):eqP (.tup xs) y=false/\eqP (.lst xs) y=false/\eqP y (.tup xs)=false/\eqP y (.lst xs)=false:=by
 cases y <;> first|exact⟨rfl,rfl,rfl,rfl⟩|cases sy
theorem GL:∀(d:Nat) (x y:PV) (v u:V),cmpb d x=true->cmpb d y=true->RdV K G H x v->RdV K G H y u->EqD K H d v u (eqP x y):=by
 intro d
 induction d with
 |zero=>intro x y v u cx cy hx hy;exact⟨S6 cx hx,S6 cy hy,Bz cx cy hx hy⟩
 | succ d ih =>
  intro x y v u cx cy hx hy
  have el:∀(xs ys:List PV) (vs us:List V),Reps K G H xs vs->Reps K G H ys us->xs.all (cmpb d)=true->ys.all (cmpb d)=true->∀(j:Nat) x' y',vs[j]?=some x'->us[j]?=some y'->EqD K H d x' y' (match xs[j]?,ys[j]? with|some x,some y=>eqP x y|_,_=>false):=by
   intro xs ys vs us r1 r2 c1 c2 j x' y' e1 e2;obtain⟨x1,ex,rx⟩:=r1.get e1;obtain⟨y1,ey,ry⟩:=r2.get e2;rw[ex,ey];exact ih x1 y1 x' y' (E4.mp c1 x1 (J5 ex)) (E4.mp c2 y1 (J5 ey)) (.inl rx) (.inl ry)
  cases Et cx hx with
  | fl fx sx =>
   cases Et cy hy with
   |fl fy sy=>exact .inl ⟨fx,fy,Bz sx sy hx hy⟩
   |tp q ys us e ev h r c=>subst e;exact .inr (.inr (.inr ⟨(Eu sx).2.2.1,.inr (.inl ⟨q,us,ev,.inl h,fx⟩)⟩))
   |ls q ys us e ev h r c=>subst e;exact .inr (.inr (.inr ⟨(Eu sx).2.2.2,.inr (.inl ⟨q,us,ev,.inr h,fx⟩)⟩))
  | tp p xs vs e ev h r c =>
   subst e;cases Et cy hy with
   |fl fy sy=>exact .inr (.inr (.inr ⟨(Eu sy).1,.inl ⟨p,vs,ev,.inl h,fy⟩⟩))
   | tp q ys us e2 ev2 h2 r2 c2 =>
    subst e2;refine .inr (.inl ⟨p,q,vs,us,_,ev,ev2,h,h2,el xs ys vs us r r2 c c2,?_⟩);rw[<- r.length,<- r2.length];exact(Es xs ys).symm
   |ls q ys us e2 ev2 h2 r2 c2=>subst e2;exact .inr (.inr (.inr ⟨rfl,.inr (.inr (.inl ⟨p,q,vs,us,ev,ev2,h,h2⟩))⟩))
  | ls p xs vs e ev h r c =>
   subst e;cases Et cy hy with
   |fl fy sy=>exact .inr (.inr (.inr ⟨(Eu sy).2.1,.inl ⟨p,vs,ev,.inr h,fy⟩⟩))
   |tp q ys us e2 ev2 h2 r2 c2=>subst e2;exact .inr (.inr (.inr ⟨rfl,.inr (.inr (.inr ⟨p,q,vs,us,ev,ev2,h,h2⟩))⟩))
   | ls q ys us e2 ev2 h2 r2 c2 =>
    subst e2;refine .inr (.inr (.inl ⟨p,q,vs,us,_,ev,ev2,h,h2,el xs ys vs us r r2 c c2,?_⟩));rw[<- r.length,<- r2.length];exact(Es xs ys).symm
end
section
variable {T:PotK}{ι:Type}{K:A8}{F:ι->Cx}{e a b c:Expr}{es rest:List Expr}{pe pa pb pc:pE}{pos:Pos}
def grd (b:Bool)(P:Prop):Prop:=match b with|true=>P|false=>False
theorem grd_t {P:Prop}:grd true P=P:=rfl
theorem GM {b:Bool}{P:Prop}(h:b=true)(p:P):grd b P:=by subst h;exact p
theorem Ew {b:Bool}{P:Prop}(h:grd b P):b=true:=by grind [grd]
theorem BA {b:Bool}{P:Prop}(h:grd b P):P:=by cases b;exact h.elim;exact h
theorem gd2 {a b:Bool}{P:Prop}(h1:a=true)(h2:b=true)(p:P):grd a (grd b P):=GM h1 (GM h2 p)
def wEq (d:Nat):w2:=λx y R=>grd (cmpb d x) (grd (cmpb d y) (R (.bl (eqP x y))))
def wNe (d:Nat):w2:=λx y R=>grd (cmpb d x) (grd (cmpb d y) (R (.bl (!eqP x y))))
theorem W2.eq (d:Nat):W2 K (rEqD K d false) (wEq d):=λG H x y v u R Q hf rx ry hw k=>⟨_,GL d x y v u (Ew hw) (Ew (BA hw)) rx ry,k _ _ _ (BA (BA hw)) (Same.refl _) rfl⟩
theorem W2.ne (d:Nat):W2 K (rEqD K d true) (wNe d):=λG H x y v u R Q hf rx ry hw k=>⟨_,GL d x y v u (Ew hw) (Ew (BA hw)) rx ry,k _ _ _ (BA (BA hw)) (Same.refl _) rfl⟩
def memP (x:PV)(ys:List PV):Bool:=ys.any λy=>eqP y x
def wIn (d:Nat)(neg:Bool):w2:=λx y R=>match x,y with
 |.str i,.str j=>R (.bl (if neg then !(!(Bm j i 0 j.length 1).isEmpty) else !(Bm j i 0 j.length 1).isEmpty))
 |x,.lst ys=>cmpb d x=true/\ys.all (cmpb d)=true/\R (.bl (if neg then !memP x ys else memP x ys))
 |x,.tup ys=>cmpb d x=true/\ys.all (cmpb d)=true/\R (.bl (if neg then !memP x ys else memP x ys))
 |_,_=>False
theorem GN {x:PV}:∀ys:List PV,((E5 ys.length).any λj=>match ys[j]? with|some y=>eqP y x|none=>false)=memP x ys
 |[]=>rfl
 | y :: ys => by
  have ih:=GN (x:=x) ys;show _=(eqP y x||memP x ys);rw[<- ih];simp only[L8,List.range_succ_eq_map,List.any_cons,AV,Function.comp_def,DJ,AQ]
theorem W2.in_ {K:A8}(d:Nat)(neg:Bool){r:R2}(hr:∀x y H Q,(∃i j,x=.str i/\y=.str j/\Q (.bl (if neg then !(!(Bm j i 0 j.length 1).isEmpty) else !(Bm j i 0 j.length 1).isEmpty)) H)\/rInD K d neg x y H Q->r x y H Q):W2 K r (wIn d neg):=by
 intro G H x y v u R Q hf rx ry hw k;refine hr _ _ _ _ ?_
 have seq:∀(ys:List PV) (p:A0) (us:List V),u=.ref p->(SqL K H p us\/SqT K H p us)->Reps K G H ys us->cmpb d x=true/\ys.all (cmpb d)=true/\R (.bl (if neg then !memP x ys else memP x ys))->rInD K d neg v u H Q:=by
  intro ys p us eu hq r h;refine⟨p,us,λj=>match ys[j]? with|some y=>eqP y x|none=>false,eu,hq,λj z ez=>?_,?_⟩
  ·obtain⟨y1,ey,ry⟩:=r.get ez;dsimp only;rw[ey];exact GL d y1 x z v (E4.mp h.2.1 y1 (J5 ey)) h.1 (.inl ry) rx
  ·rw[<- r.length,GN];exact k _ _ _ h.2.2 (Same.refl _) rfl
 unfold wIn at hw
 split at hw
 ·exact .inl ⟨_,_,rx.str,ry.str,k _ _ _ hw (Same.refl _) rfl⟩
 ·obtain⟨p,us,eu,hq,r⟩:=ry.lst;exact .inr (seq _ p us eu (.inl hq) r hw)
 ·obtain⟨p,us,eu,hq,r⟩:=ry.tup;exact .inr (seq _ p us eu (.inr hq) r hw)
 ·exact hw.elim
def wLt:w2:=λx y R=>match x,y with|.int i,.int j=>R (.bl (decide (i<j)))|.str i,.str j=>R (.bl (decide (i.cps.toList<j.cps.toList)))|_,_=>False
def wLe:w2:=λx y R=>match x,y with|.int i,.int j=>R (.bl (decide (i<=j)))|.str i,.str j=>R (.bl (!decide (j.cps.toList<i.cps.toList)))|_,_=>False
def wGt:w2:=wI0 λi j=>.bl (decide (j<i))
theorem W2.lt:W2 K (λx y H Q=>(rI0 λi j=>.bl (decide (i<j))) x y H Q\/∃i j,x=.str i/\y=.str j/\Q (.bl (decide (i.cps.toList<j.cps.toList))) H) wLt:=by
 intro G H x y v u R Q hf rx ry hw k;unfold wLt at hw
 split at hw
 ·exact .inl ⟨_,_,rx.int,ry.int,k _ _ _ hw (Same.refl _) rfl⟩
 ·exact .inr ⟨_,_,rx.str,ry.str,k _ _ _ hw (Same.refl _) rfl⟩
 ·exact hw.elim
theorem W2.le:W2 K (λx y H Q=>(rI0 λi j=>.bl (decide (i<=j))) x y H Q\/∃i j,x=.str i/\y=.str j/\Q (.bl (!decide (j.cps.toList<i.cps.toList))) H) wLe:=by
 intro G H x y v u R Q hf rx ry hw k;unfold wLe at hw
 split at hw
 ·exact .inl ⟨_,_,rx.int,ry.int,k _ _ _ hw (Same.refl _) rfl⟩
 ·exact .inr ⟨_,_,rx.str,ry.str,k _ _ _ hw (Same.refl _) rfl⟩
 grind
def isNon:PV->Bool
 |.non=>true
 |_=>false
def Ak:w2:=λx y R=>match y with|.non=>R (.bl (!isNon x))|_=>False
theorem isnon {K:A8}{G:Gh}{H:Hp}{x:PV}{v:V}(h:RdV K G H x v):decide (v=.non)=isNon x:=by
 cases x with
 |non=>rw[h.non];rfl
 |bl b=>rw[h.bl];rfl
 |int b=>rw[h.int];rfl
 |str b=>rw[h.str];rfl
 |tup xs=>obtain⟨a,vs,e,_⟩:=h.tup;rw[e];rfl
 |lst xs=>obtain⟨a,vs,e,_⟩:=h.lst;rw[e];rfl
 |ty n=>rw[show v=.ty n from h.rep (λ_ z=>nomatch z)];rfl
 |pot k=>obtain⟨p,_,e⟩:=h.rep (λ_ z=>nomatch z);rw[e];rfl
 |scr k=>obtain⟨p,e,_⟩:=h.rep (λ_ z=>nomatch z);rw[e];rfl
 |dct ks xs=>obtain⟨a,jg,e,_⟩:=h.rep (λ_ z=>nomatch z);rw[e];rfl
 |fdt ks xs=>obtain⟨a,jg,e,_⟩:=h.rep (λ_ z=>nomatch z);rw[e];rfl
theorem W2.notN {K:A8}:W2 K (λx y H Q=>y=.non/\Q (.bl (!decide (x=.non))) H) Ak:=by
 intro G H x y v u R Q hf rx ry hw k;unfold Ak at hw
 split at hw
 ·refine⟨ry.non,k _ _ _ hw (Same.refl _) ?_⟩;rw[isnon rx]
  rfl
 ·exact hw.elim
structure Cmp {ι:Type}(K:A8)(F:ι->Cx)(op:CmpOp)(w:w2):Prop where
 ex:∃r,(∀z,OpR (F z) (M5 op) r)/\W2 K r w
theorem cEq (d:Nat)(hr:∀z,Room k (F z).A)(hd:d<=30:=by decide)(hK:∀z,(F z).K=K:=by intro _;rfl):Cmp K F .Eq (wEq d):=⟨_,λz=>hK z▸op_eqD d (by have:=(hr z).units;omega),W2.eq d⟩
theorem cNe (d:Nat)(hr:∀z,Room k (F z).A)(hd:d<=30:=by decide)(hK:∀z,(F z).K=K:=by intro _;rfl):Cmp K F .NotEq (wNe d):=⟨_,λz=>hK z▸op_neD d (by have:=(hr z).units;omega),W2.ne d⟩
theorem cIn (d:Nat)(hr:∀z,Room k (F z).A)(hd:d<=30:=by decide)(hK:∀z,(F z).K=K:=by intro _;rfl):Cmp K F .In (wIn d false):=⟨_,λz=>MX.or (hK z▸op_inD d (by have:=(hr z).units;omega)),W2.in_ d false λ_ _ _ _ h=>h⟩
theorem b7 (d:Nat)(hr:∀z,Room k (F z).A)(hd:d<=30:=by decide)(hK:∀z,(F z).K=K:=by intro _;rfl):Cmp K F .NotIn (wIn d true):=⟨_,λz=>NA.or (hK z▸Oj d (by have:=(hr z).units;omega)),W2.in_ d true λ_ _ _ _ h=>h⟩
theorem cLt:Cmp K F .Lt wLt:=⟨_,λ_=>Gm.or MW,W2.lt⟩
theorem cLe:Cmp K F .LtE wLe:=⟨_,λ_=>op_le.or Od,W2.le⟩
theorem cGt:Cmp K F .Gt wGt:=⟨_,λ_=>op_gt,W2.I0 λ_ _ _ _=>rfl⟩
theorem GO:Cmp K F .IsNot Ak:=⟨_,λ_=>MY,W2.notN⟩
theorem G8 (hc:Cmp K F op w)(ha:QE T K F a pa)(hb:QR T K F b pb)(hm:x5 op b=false):QE T K F (.Compare a [op] [b] pos) (qOp w pa pb):=by
 obtain⟨r,ho,hw⟩:=hc.ex;obtain⟨ta,h1,h2⟩:=ha;obtain⟨tb,h3,h4⟩:=hb;exact⟨_,λz=>IJ (ho z) (h1 z) (h3 z) hm,CL hw h2 h4⟩
def qB (pe:pE):pT:=λenv n R=>pe env n λx jh n'=>match x with|.bl b=>R b jh n'|_=>False
theorem ok_b (h:EOk K T t pe):TOk K T (tB t) (qB pe):=λC G σ H env n R Q hK hT S hp k=>by
 refine h C G σ H env n _ _ hK hT S hp λx jh n' v H' r S' rp f=>?_;cases x with
 |bl b=>exact⟨b,rp,k _ _ _ _ r S' f⟩
 |_=>exact r.elim
theorem GP (h:EOk K T t pe):TOk K T (Gn t) (qB pe):=λC G σ H env n R Q hK hT S hp k=>by
 refine h C G σ H env n _ _ hK hT S hp λx jh n' v H' r S' rp f=>?_;cases x with
 |bl b=>exact⟨b,rp,k _ _ _ _ r S' f⟩
 |_=>exact r.elim
theorem M2 (h:QE T K F e pe)(he:∀z whole,isTrue e (F z).env whole=(do let v ← whole;Z1 e.pos;R5 [v] (truthy v)):=by intro _ _;rfl):QT T K F e (qB pe):=by
 obtain⟨t,h1,h2⟩:=h;exact⟨_,λz=>pt_val (h1 z) (he z),ok_b h2⟩
theorem D4 (hc:Cmp K F op w)(ha:QE T K F a pa)(hb:QR T K F b pb)(hm:x5 op b=false):QT T K F (.Compare a [op] [b] pos) (qB (qOp w pa pb)):=by
 obtain⟨r,ho,hw⟩:=hc.ex;obtain⟨ta,h1,h2⟩:=ha;obtain⟨tb,h3,h4⟩:=hb;exact⟨_,λz=>CD (ho z) (h1 z) (h3 z) hm,GP (CL hw h2 h4)⟩
theorem Ol (hc:Cmp K F op w)(ha:QR T K F a pa)(hb:QR T K F b pb)(hm:x5 op b=false):QT T K F (.Compare a [op] [b] pos) (qB (qOpR w pa pb)):=by
 obtain⟨r,ho,hw⟩:=hc.ex;obtain⟨ta,h1,h2⟩:=ha;obtain⟨tb,h3,h4⟩:=hb;exact⟨_,λz=>CD (ho z) (h1 z) (h3 z) hm,GP (Jk hw h2 h4)⟩
def j6 (w w':w2)(pa pb pc:pE):pE:=λenv n R=>pa env n λx jc n1=>pb jc n1 λy jd n2=>w x y λz=>match z with|.bl k=>if k=true then pc jd n2 λu je n3=>w' y u λz=>R z je n3 else R (.bl false) jd n2|_=>False
theorem Jm (hw:W2 K r w)(hw':W2 K r' w')(ha:EOk K T ta pa)(hb:EOk K T tb pb)(hc:EOk K T tc pc):EOk K T (Go r r' ta tb tc) (j6 w w' pa pb pc):=λC G σ H env n R Q hK hT S hp k=>by
 refine ha C G σ H env n _ _ hK hT S hp λx jc n1 v H1 p1 S1 r1 f1=>?_;refine hb C G σ H1 jc n1 _ _ hK hT S1 p1 λy jd n2 u H2 p2 S2 r2 f2=>?_;subst hK;refine hw G H2 x y v u _ _ (λp hp=>S2.fresh hp) (.inl (r1.fr f2)) (.inl r2) p2 λz v' H' rz s rv=>?_;cases z with
 | bl kk =>
  refine⟨kk,rv,?_⟩;cases kk with
  |false=>exact k _ _ _ _ _ rz (S2.same s) rfl ((f1.trans f2).trans (Fr.of s))
  | true =>
   refine hc C G σ H' jd n2 _ _ rfl hT (S2.same s) rz λc3 je n3 v3 H3 p3 S3 r3 f3=>?_;exact hw' G H3 y c3 u v3 _ _ (λp hp=>S3.fresh hp) (.inl ((r2.same s).fr f3)) (.inl r3) p3 λz v' H4 rz s4 rv=>k _ _ _ _ _ rz (S3.same s4) rv ((((f1.trans f2).trans (Fr.of s)).trans f3).trans (Fr.of s4))
 |_=>exact rz.elim
theorem Jn (hc:Cmp K F op w)(hc':Cmp K F op' w')(ha:QE T K F a pa)(hb:QE T K F b pb)(hcc:QE T K F c pc)(hm:lastMarks [op,op'] [b,c]=false:=by with_unfolding_all rfl):QE T K F (.Compare a [op,op'] [b,c] pos) (j6 w w' pa pb pc):=by
 obtain⟨r,ho,hw⟩:=hc.ex;obtain⟨r',ho',hw'⟩:=hc'.ex;obtain⟨ta,a1,a2⟩:=ha;obtain⟨tb,b1,b2⟩:=hb;obtain⟨tc,c1,c2⟩:=hcc;exact⟨_,λz=>MZ (ho z) (ho' z) (a1 z) (b1 z) (c1 z) hm,Jm hw hw' a2 b2 c2⟩
theorem Jo (hc:Cmp K F op w)(hc':Cmp K F op' w')(ha:QE T K F a pa)(hb:QE T K F b pb)(hcc:QE T K F c pc)(hm:lastMarks [op,op'] [b,c]=false:=by with_unfolding_all rfl):QT T K F (.Compare a [op,op'] [b,c] pos) (qB (j6 w w' pa pb pc)):=by
 obtain⟨r,ho,hw⟩:=hc.ex;obtain⟨r',ho',hw'⟩:=hc'.ex;obtain⟨ta,a1,a2⟩:=ha;obtain⟨tb,b1,b2⟩:=hb;obtain⟨tc,c1,c2⟩:=hcc;exact⟨_,λz=>M_ (ho z) (ho' z) (a1 z) (b1 z) (c1 z) hm,GP (Jm hw hw' a2 b2 c2)⟩
variable {pt pu:pT}
def qAnd (t u:pT):pT:=λenv n R=>t env n λb jc n1=>if b=true then u jc n1 R else R false jc n1
def qOr (t u:pT):pT:=λenv n R=>t env n λb jc n1=>if b=true then R true jc n1 else u jc n1 R
def qNot (t:pT):pT:=λenv n R=>t env n λb jc n1=>R (!b) jc n1
theorem ok_and (h:TOk K T t pt)(h':TOk K T u pu):TOk K T (tAnd t u) (qAnd pt pu):=λC G σ H env n R Q hK hT S hp k=>by
 refine h C G σ H env n _ _ hK hT S hp λb jc n1 H1 p1 S1 f1=>?_;cases b with
 |true=>exact h' C G σ H1 jc n1 _ _ hK hT S1 p1 λb jd n2 H2 p2 S2 f2=>k _ _ _ _ p2 S2 (f1.trans f2)
 |false=>exact k _ _ _ _ p1 S1 f1
theorem ok_or (h:TOk K T t pt)(h':TOk K T u pu):TOk K T (tOr t u) (qOr pt pu):=λC G σ H env n R Q hK hT S hp k=>by
 refine h C G σ H env n _ _ hK hT S hp λb jc n1 H1 p1 S1 f1=>?_;cases b with
 |false=>exact h' C G σ H1 jc n1 _ _ hK hT S1 p1 λb jd n2 H2 p2 S2 f2=>k _ _ _ _ p2 S2 (f1.trans f2)
 |true=>exact k _ _ _ _ p1 S1 f1
theorem ok_not {K:A8}{t:TT}(h:TOk K T t pt):TOk K T (tNot t) (qNot pt):=λC G σ H env n R Q hK hT S hp k=>h C G σ H env n _ _ hK hT S hp λb jc n1 H1 p1 S1 f1=>k _ _ _ _ p1 S1 f1
theorem X7 (ha:QT T K F a pt):QW T K F (.BoolOp .And [a] pos) pt:=let ⟨t,h1,h2⟩:=ha;⟨t,λz=>ML (h1 z),h2⟩
theorem Q8 (ha:QT T K F a pt):QW T K F (.BoolOp .Or [a] pos) pt:=let ⟨t,h1,h2⟩:=ha;⟨t,λz=>pw_or1 (h1 z),h2⟩
theorem X8 (ha:QT T K F a pt)(hb:QW T K F (.BoolOp .And (b::rest) pos) pu):QW T K F (.BoolOp .And (a::b::rest) pos) (qAnd pt pu):=let ⟨t,h1,h2⟩:=ha;let ⟨u,h3,h4⟩:=hb;⟨_,λz=>pw_and (h1 z) (h3 z),ok_and h2 h4⟩
theorem P2 (ha:QT T K F a pt)(hb:QW T K F (.BoolOp .Or (b::rest) pos) pu):QW T K F (.BoolOp .Or (a::b::rest) pos) (qOr pt pu):=let ⟨t,h1,h2⟩:=ha;let ⟨u,h3,h4⟩:=hb;⟨_,λz=>pw_or (h1 z) (h3 z),ok_or h2 h4⟩
theorem QW.qt (h:QW T K F e pt):QT T K F e pt:=let ⟨t,h1,h2⟩:=h;⟨t,λz=>(h1 z).pt,h2⟩
theorem O1 (ha:QT T K F a pt):QT T K F (.UnaryOp .Not a pos) (qNot pt):=let ⟨t,h1,h2⟩:=ha;⟨_,λz=>pt_not (h1 z),ok_not h2⟩
def Q9 (pa pb:pE):pE:=λenv n R=>pa env n λx jc n1=>match x with|.bl b=>if b=true then pb jc n1 R else R (.bl false) jc n1|_=>False
def qOrV (pa pb:pE):pE:=λenv n R=>pa env n λx jc n1=>match x with|.bl b=>if b=true then R (.bl true) jc n1 else pb jc n1 R|_=>False
def GQ (pa:pE):pE:=λenv n R=>pa env n λx jc n1=>match x with|.bl b=>R (.bl (!b)) jc n1|_=>False
theorem T0 {op}(h:QE T K F a pa):QE T K F (.BoolOp op [a] pos) pa:=let ⟨t,h1,h2⟩:=h;⟨t,λz=>pe_one (h1 z),h2⟩
theorem U2 (ha:QE T K F a pa)(hb:QE T K F (.BoolOp .And (b::rest) pos) pb):QE T K F (.BoolOp .And (a::b::rest) pos) (Q9 pa pb):=by
 obtain⟨t,h1,h2⟩:=ha;obtain⟨u,h3,h4⟩:=hb;refine⟨_,λz=>pe_and (h1 z) (h3 z),λC G σ H env n R Q hK hT S hp k=>?_⟩;refine h2 C G σ H env n _ _ hK hT S hp λx jc n1 v H1 p1 S1 r1 f1=>?_;cases x with
 | bl c =>
  refine⟨c,r1,?_⟩;cases c with
  |true=>exact h4 C G σ H1 jc n1 _ _ hK hT S1 p1 λx jd n2 v H2 p2 S2 r2 f2=>k _ _ _ _ _ p2 S2 r2 (f1.trans f2)
  |false=>exact k _ _ _ _ _ p1 S1 rfl f1
 |_=>exact p1.elim
theorem GR (ha:QE T K F a pa)(hb:QE T K F (.BoolOp .Or (b::rest) pos) pb):QE T K F (.BoolOp .Or (a::b::rest) pos) (qOrV pa pb):=by
 obtain⟨t,h1,h2⟩:=ha;obtain⟨u,h3,h4⟩:=hb;refine⟨_,λz=>pe_or (h1 z) (h3 z),λC G σ H env n R Q hK hT S hp k=>?_⟩;refine h2 C G σ H env n _ _ hK hT S hp λx jc n1 v H1 p1 S1 r1 f1=>?_;cases x with
 | bl c =>
  refine⟨c,r1,?_⟩;cases c with
  |false=>exact h4 C G σ H1 jc n1 _ _ hK hT S1 p1 λx jd n2 v H2 p2 S2 r2 f2=>k _ _ _ _ _ p2 S2 r2 (f1.trans f2)
  |true=>exact k _ _ _ _ _ p1 S1 rfl f1
 |_=>exact p1.elim
theorem qe_not (ha:QE T K F a pa):QE T K F (.UnaryOp .Not a pos) (GQ pa):=by
 obtain⟨t,h1,h2⟩:=ha;refine⟨_,λz=>pe_not (h1 z),λC G σ H env n R Q hK hT S hp k=>?_⟩;refine h2 C G σ H env n _ _ hK hT S hp λx jc n1 v H1 p1 S1 r1 f1=>?_;cases x with
 |bl c=>exact⟨c,r1,k _ _ _ _ _ p1 S1 rfl f1⟩
 |_=>exact p1.elim
def qIf (t:pT)(pa pb:pE):pE:=λenv n R=>t env n λb jc n1=>if b=true then pa jc n1 R else pb jc n1 R
theorem qe_if (hc:QT T K F c pt)(ha:QE T K F a pa)(hb:QE T K F b pb):QE T K F (.IfExp c a b pos) (qIf pt pa pb):=by
 obtain⟨tc,c1,c2⟩:=hc;obtain⟨t,h1,h2⟩:=ha;obtain⟨u,h3,h4⟩:=hb;refine⟨_,λz=>Ga (c1 z) (h1 z) (h3 z),λC G σ H env n R Q hK hT S hp k=>?_⟩;refine c2 C G σ H env n _ _ hK hT S hp λd jc n1 H1 p1 S1 f1=>?_;cases d with
 |true=>exact h2 C G σ H1 jc n1 _ _ hK hT S1 p1 λx jd n2 v H2 p2 S2 r2 f2=>k _ _ _ _ _ p2 S2 r2 (f1.trans f2)
 |false=>exact h4 C G σ H1 jc n1 _ _ hK hT S1 p1 λx jd n2 v H2 p2 S2 r2 f2=>k _ _ _ _ _ p2 S2 r2 (f1.trans f2)
variable {pl pr:pA}
def qNil:pA:=λenv n R=>R [] env n
def A2 (pe:pE)(pr:pA):pA:=λenv n R=>pe env n λx jc n1=>pr jc n1 λxs jd n2=>R (x::xs) jd n2
theorem B2:QA T K F [] qNil:=⟨_,λ_=>J6,λC G σ H env n R Q hK hT S hp k=>k _ _ _ _ _ hp S Reps.nil Fr.refl⟩
theorem Om (h:EOk K T t pe)(h':AOk K T u pr):AOk K T (U1 t u) (A2 pe pr):=λC G σ H env n R Q hK hT S hp k=>by
 refine h C G σ H env n _ _ hK hT S hp λx jc n1 v H1 p1 S1 r1 f1=>?_;exact h' C G σ H1 jc n1 _ _ hK hT S1 p1 λxs jd n2 vs H2 p2 S2 r2 f2=>k _ _ _ _ _ p2 S2 (.cons (r1.fr f2) r2) (f1.trans f2)
def F5:Expr->Bool
 |.Starred ..=>false
 |_=>true
theorem D8 (h:F5 e=true):E9 (e::es) env=(false,eval e env)::E9 es env:=by
 cases e <;> first|rfl|cases h
theorem A4 (ha:QE T K F e pe)(hr:QA T K F es pr)(h:F5 e=true:=by rfl):QA T K F (e::es) (A2 pe pr):=by
 obtain⟨t,h1,h2⟩:=ha;obtain⟨u,h3,h4⟩:=hr;exact⟨_,λz=>E8 (h1 z) (h3 z) (D8 h),Om h2 h4⟩
def qTup (pa:pA):pE:=λenv n R=>pa env n λxs jc n1=>xs.length<=1000000/\R (.tup xs) jc n1
def qLst (pa:pA):pA:=λenv n R=>pa env n λxs jc n1=>xs.length<=1000000/\R xs jc n1
def qL (pn:pA):pE:=λenv n R=>pn env n λxs jc n1=>R (.lst xs) jc n1
theorem K1 {x1}(h:QA T K F es pl):QE T K F (.Tuple es x1 pos) (qTup pl):=by
 obtain⟨t,h1,h2⟩:=h;refine⟨_,λz=>Gp (h1 z),λC G σ H env n R Q hK hT S hp k=>?_⟩;refine h2 C G σ H env n _ _ hK hT S hp λxs jc n1 vs H1 p1 S1 r1 f1=>⟨by rw[<- r1.length];exact mil p1.1,λp hp=>?_⟩;exact k _ _ _ _ _ p1.2 (S1.same (Same.lay1 hp)) (By (S1.fresh hp) hp r1) (f1.trans (Fr.of (Same.lay1 hp)))
theorem M3 (h:QA T K F es pl):QN T K F (.List es pos) (qLst pl):=by
 obtain⟨t,h1,h2⟩:=h;refine⟨_,λz=>IM (h1 z),λC G σ H env n R Q hK hT S hp k=>?_⟩;exact h2 C G σ H env n _ _ hK hT S hp λxs jc n1 vs H1 p1 S1 r1 f1=>⟨by rw[<- r1.length];exact mil p1.1,λp hp=>k _ _ _ _ _ _ p1.2 S1 f1 hp r1⟩
theorem QN.ee (h:QN T K F e pl):QE T K F e (qL pl):=by
 obtain⟨t,h1,h2⟩:=h;refine⟨t,h1,λC G σ H env n R Q hK hT S hp k=>?_⟩;refine h2 C G σ H env n _ _ hK hT S hp λxs jc n1 a vs Hb p1 S1 f1 hn r1=>?_;exact k _ _ _ _ _ p1 (S1.same (Same.lay1 hn)) (CM (S1.fresh hn) hn r1) (f1.trans (Fr.of (Same.lay1 hn)))
theorem CN (h:ROk K T t pe)(hK:C.K=K)(hT:C.T=T)(S:SR C G σ H env n)(hp:pe env n R)
   (k:∀x jh n' v H',R x jh n'->SR C G σ H' jh n'->RdS C G σ H' jh x v->Fr G H H'->Q [v] H'):U1 t tNil σ H Q:=
 h C G σ H env n _ _ hK hT S hp λx jc n1 v H1 p1 S1 r1 f1=>k _ _ _ _ _ p1 S1 r1 f1
end
end Pu
end
section
namespace HT
open PySem PySem.Spec PyProof.Rows
section
variable {prog:D1}{w:C8}{A:D5}{E:A1->A5->Prop}{s:A5}
theorem getItem_tuple_whole {lo hi:Option Int}(ht:IsTup s.heap t items)(hs:s.heap.IsSliceOf sl vl vu .none)(pl:IsPart vl lo)(pu:IsPart vu hi)
   (hw:sIx items.size 0 lo=0/\sIx items.size items.size hi=items.size) (h:Q (.ref t) s):A6 (A9 prog w) A (getItem (.ref t) (.ref sl)) Q E s:=by
 obtain⟨os,hos,hcs,hds⟩:=id hs;have hTs:s.TypeIs (.ref sl) "slice":=⟨os,hos,hcs⟩;have hTt:s.TypeIs (.ref t) "tuple":=ht.typeIs;unfold getItem
 try with_reducible refine J7 ?_
 first|refine A3 (B0 ?_)|skip
 refine A3 (wpAny_sequenceKey ht.typeIs (by decide) ?_)
 refine A3 (Y6 (name:=A7 "__getitem__") ht.typeIs Bh
   (P8 Bh ht.typeIs entry_tuple_getitem ?_ (args_tuple_getitem _ _)))
 show A6 _ _ (FT (.ref t)>>=_) _ _ s;refine A3 (tupleItemsOf_ ht ?_);refine A3 (k8 hTs ?_);rw[jr (by decide)];refine A3 (IU hs pl pu ?_)
 have hyes:(((sIx items.size 0 lo:Nat):Int) == 0&&(1:Int) == 1&&(sIx items.size items.size hi-sIx items.size 0 lo) == items.size)=true:=by
  rw[hw.1,hw.2];simp
 show A6 _ _ (if(((sIx items.size 0 lo:Nat):Int) == 0&&(1:Int) == 1&&(sIx items.size items.size hi-sIx items.size 0 lo) == items.size)=true then _ else _) _ _ s;rw[jr hyes];unfold Builtin.Tuple.tupleIsExact;refine A3 (A3 (k8 hTt (B0 ?_)));rw[jr (by rfl)];exact A3 (e7 (B0 ⟨_,rfl,B0 h⟩))
end
end HT
namespace L2
open PySem PySem.Spec PyProof.Rows
section
variable {X:Cx}
def rSlTA (K:A8):V->Option Int->Option Int->Hp->VK->Prop:=λx lo hi H Q=>∃a xs,x=.ref a/\SqT K H a xs/\
 (cutV xs lo hi=xs->Q (.ref a) H)/\∀p,H p=none->Q (.ref p) (upd H p (.tup (cutV xs lo hi)))
theorem On:SlR X (rSlTA X.K):=by
 intro jb s σ H x v vl vu lo hi sl Q I rx hs pl pu h;obtain⟨a,xs,rfl,hx,h1,h2⟩:=h
 by_cases hw:HT.sIx xs.length 0 lo=0/\HT.sIx xs.length xs.length hi=xs.length
 ·cases rx;obtain⟨jf,r,ht,hz⟩:=I.tuple hx;have hlen:jf.toArray.size=xs.length:=by rw[F4];exact r.length.symm
  refine⟨"tuple",_,PyProof.Rows.slot_tuple_getitem.lookup,ht.typeIs,?_⟩;refine HT.getItem_tuple_whole ht hs pl pu (by rw[hlen];exact hw) ⟨.ref a,H,I,rfl,h1 ?_⟩;unfold cutV;rw[hw.1,hw.2];simp
 ·exact sl_tup jb s σ H (.ref a) v vl vu lo hi sl Q I rx hs pl pu ⟨a,xs,rfl,hx,hw,h2⟩
end
end L2
namespace Pu
open PySem PySem.Spec L2
section
variable {T:PotK}{ι:Type}{K:A8}{F:ι->Cx}{e a b c:Expr}{es rest:List Expr}{pe pa pb pc:pE}{pos:Pos}{pl pr:pA}
def wIx:w2:=λx y R=>match x,y with
 |.lst xs,.int i=>match atI xs i with|some z=>R z|none=>False
 |.tup xs,.int i=>match atI xs i with|some z=>R z|none=>False
 |.scr ns,.int i=>match atI ns i with|some z=>R (.int z)|none=>False
 |.str z,.int i=>z.length<=1000000/\match atI z.cps.toList i with|some c=>R (.str ⟨#[c]⟩)|none=>False
 |_,_=>False
theorem Jp (r:Reps K G H xs vs)(h:atI xs i=some z):∃v,atI vs i=some v/\Rep K G H z v:=by
 unfold atI at h ⊢;rw[<- r.length];cases e:ixN xs.length i with
 |none=>rw[e] at h;cases h
 | some j =>
  rw[e] at h;exact r.get' h
theorem CO (h:RdV K G H (.scr ns) v):∃a,v=.ref a/\SqL K H a (ns.map V.int):=by
 obtain⟨a,e,h⟩:=h.rep (λ_ z=>nomatch z);refine⟨a,e,?_⟩;rcases h with⟨_,o,h⟩|h
 ·exact .inl (.inr ⟨o,h⟩)
 ·exact .inr h
theorem W2.ix:W2 K (rIx K) wIx:=by
 intro G H x y v u R Q hf rx ry hw k;unfold wIx at hw
 split at hw
 ·rename_i xs i;obtain⟨a,vs,ev,hq,r⟩:=rx.lst;cases ez:atI xs i with
  |none=>rw[ez] at hw;exact hw.elim
  | some z =>
   rw[ez] at hw;obtain⟨v',e1,r1⟩:=Jp r ez;exact .inl ⟨a,vs,i,v',ev,ry.int,hq,e1,k _ _ _ hw (Same.refl _) r1⟩
 ·rename_i xs i;obtain⟨a,vs,ev,hq,r⟩:=rx.tup;cases ez:atI xs i with
  |none=>rw[ez] at hw;exact hw.elim
  | some z =>
   rw[ez] at hw;obtain⟨v',e1,r1⟩:=Jp r ez;exact .inr (.inl ⟨a,vs,i,v',ev,ry.int,hq,e1,k _ _ _ hw (Same.refl _) r1⟩)
 ·rename_i ns i;obtain⟨a,ev,hq⟩:=CO rx;cases ez:atI ns i with
  |none=>rw[ez] at hw;exact hw.elim
  | some z =>
   rw[ez] at hw;refine .inl ⟨a,_,i,.int z,ev,ry.int,hq,?_,k _ _ _ hw (Same.refl _) rfl⟩;unfold atI at ez ⊢;rw[B8];cases e:ixN ns.length i with
   |none=>rw[e] at ez;cases ez
   | some j =>
    rw[e] at ez;show(ns.map V.int)[j]?=_;rw[G6,show ns[j]?=some z from ez]
    rfl
 ·rename_i z i;obtain⟨hz,hw⟩:=hw;cases ez:atI z.cps.toList i with
  |none=>rw[ez] at hw;exact hw.elim
  | some c =>
   rw[ez] at hw;exact .inr (.inr ⟨z,i,c,rx.str,ry.int,mil hz,ez,k _ _ _ hw (Same.refl _) rfl⟩)
 ·exact hw.elim
theorem D2 (ha:QE T K F a pa)(hb:QE T K F b pb)(hs:Gu b:=by exact λ_ _=>rfl)(hK:∀z,(F z).K=K:=by intro _;rfl):QE T K F (.Subscript a b pos) (qOp wIx pa pb):=by
 obtain⟨ta,h1,h2⟩:=ha;obtain⟨tb,h3,h4⟩:=hb.r;exact⟨_,λz=>i9 (hK z▸IW) (h1 z) (h3 z) hs,CL W2.ix h2 h4⟩
theorem BB (ha:QR T K F a pa)(hb:QE T K F b pb)(hs:Gu b:=by exact λ_ _=>rfl)(hK:∀z,(F z).K=K:=by intro _;rfl):QE T K F (.Subscript a b pos) (qOpR wIx pa pb):=by
 obtain⟨ta,h1,h2⟩:=ha;obtain⟨tb,h3,h4⟩:=hb.r;exact⟨_,λz=>i9 (hK z▸IW) (h1 z) (h3 z) hs,Jk W2.ix h2 h4⟩
abbrev pO:=Env->Nat->(Option Int->Env->Nat->Prop)->Prop
def qNo:pO:=λenv n R=>R none env n
def K2 (pe:pE):pO:=λenv n R=>pe env n λx jc n1=>match x with|.int i=>R (some i) jc n1|_=>False
def OOk (K:A8)(T:PotK)(t:TO)(po:pO):Prop:=∀(C:Ct) (G:Gh) (σ:St) (H:Hp) (env:Env) (n:Nat) (R:Option Int->Env->Nat->Prop) (Q:Option Int->Hp->Prop),C.K=K->C.T=T->SR C G σ H env n->po env n R->
 (∀x jh n' H',R x jh n'->SR C G σ H' jh n'->Fr G H H'->Q x H')->t σ H Q
def QO {ι:Type}(T:PotK)(K:A8)(F:ι->Cx)(e:Option Expr)(po:pO):Prop:=∃t,(∀z,PO (F z) e t)/\OOk K T t po
theorem N8:QO T K F none qNo:=⟨_,λ_=>Nr,λC G σ H env n R Q hK hT S hp k=>k _ _ _ _ hp S Fr.refl⟩
theorem M8 (h:QE T K F e pe):QO T K F (some e) (K2 pe):=by
 obtain⟨t,h1,h2⟩:=h;refine⟨_,λz=>Nt (h1 z),λC G σ H env n R Q hK hT S hp k=>?_⟩;refine h2 C G σ H env n _ _ hK hT S hp λx jc n1 v H1 p1 S1 r1 f1=>?_;cases x with
 |int i=>exact⟨i,r1,k _ _ _ _ p1 S1 f1⟩
 |_=>exact p1.elim
def cutP {α:Type}(xs:List α)(lo hi:Option Int):List α:=(xs.drop (HT.sIx xs.length 0 lo)).take (HT.sIx xs.length xs.length hi-HT.sIx xs.length 0 lo)
theorem Reps.cut (r:Reps K G H xs vs)(lo hi:Option Int):Reps K G H (cutP xs lo hi) (cutV vs lo hi):=by
 unfold cutP cutV;rw[<- r.length];exact(r.drop _).take _
def wSl (x:PV)(lo hi:Option Int)(R:PV->Prop):Prop:=match x with
 |.lst xs=>R (.lst (cutP xs lo hi))
 |.scr ns=>R (.lst ((cutP ns lo hi).map PV.int))
 |.tup xs=>R (.tup (cutP xs lo hi))
 |.str z=>z.length<=1000000/\R (.str (Txt.slice z lo hi))
 |_=>False
def qSl (pe:pE)(pl ph:pO):pE:=λenv n R=>pe env n λx jc n1=>pl jc n1 λlo jd n2=>ph jd n2 λhi je n3=>wSl x lo hi λz=>R z je n3
theorem GS {K:A8}{G:Gh}{H:Hp}:∀ns:List Int,Reps K G H (ns.map PV.int) (ns.map V.int)
 |[]=>rfl
 |i::ns=>⟨.int i,ns.map V.int,rfl,rfl,GS ns⟩
theorem GT {α β:Type}(f:α->β)(xs:List α)(lo hi:Option Int):cutP (xs.map f) lo hi=(cutP xs lo hi).map f:=by simp[cutP]
theorem sl_ok (hf:∀p,H p=none->p∉G.M)(rx:RdV K G H x v)(hw:wSl x lo hi R)(k:∀z v' H',R z->Same H H'->Rep K G H' z v'->Q v' H') :
   rSlL K v lo hi H Q\/rSlTA K v lo hi H Q\/rSlS v lo hi H Q:=by
 unfold wSl at hw
 split at hw
 ·obtain⟨a,vs,ev,hq,r⟩:=rx.lst;exact .inl ⟨a,vs,ev,hq,λp hp=>k _ _ _ hw (Same.lay1 hp) (CM (hf p hp) hp (r.cut lo hi))⟩
 ·rename_i ns;obtain⟨a,ev,hq⟩:=CO rx;refine .inl ⟨a,_,ev,hq,λp hp=>k _ _ _ hw (Same.lay1 hp) (CM (hf p hp) hp ?_)⟩;have:=(GS (K:=K) (G:=G) (H:=H) ns).cut lo hi;rw[GT] at this;exact this
 ·obtain⟨a,vs,ev,t,r⟩:=rx.rep (λ_ z=>nomatch z);refine .inr (.inl ⟨a,vs,ev,t.sq,λz=>k _ _ _ hw (Same.refl _) ?_,λp hp=>k _ _ _ hw (Same.lay1 hp) (By (hf p hp) hp (r.cut lo hi))⟩);have rc:=r.cut lo hi;rw[z] at rc;exact⟨a,vs,rfl,t,rc⟩
 ·exact .inr (.inr ⟨_,rx.str,mil hw.1,k _ _ _ hw.2 (Same.refl _) rfl⟩)
 ·exact hw.elim
theorem N4 (he:QE T K F e pe)(hl:QO T K F lo ql)(hh:QO T K F hi qh)(hK:∀z,(F z).K=K:=by intro _;rfl):QE T K F (.Subscript e (.Slice lo hi none p2) pos) (qSl pe ql qh):=by
 obtain⟨t,h1,h2⟩:=he;obtain⟨tl,l1,l2⟩:=hl;obtain⟨th,u1,u2⟩:=hh;refine⟨_,λz=>Nu ((hK z▸Nz).or ((hK z▸On).or sl_str)) (h1 z) (l1 z) (u1 z),λC G σ H env n R Q hK hT S hp k=>?_⟩;refine h2 C G σ H env n _ _ hK hT S hp λx jc n1 v H1 p1 S1 r1 f1=>?_;refine l2 C G σ H1 jc n1 _ _ hK hT S1 p1 λlo jd n2 H2 p2 S2 f2=>?_;refine u2 C G σ H2 jd n2 _ _ hK hT S2 p2 λhi je n3 H3 p3 S3 f3=>?_;exact sl_ok (λp hp=>S3.fresh hp) (.inl ((r1.fr f2).fr f3)) p3 λz v' H' rz s rv=>k _ _ _ _ _ rz (S3.same s) rv (((f1.trans f2).trans f3).trans (Fr.of s))
def WA1 (K:A8)(r:List V->Hp->VK->Prop)(w:w1):Prop:=∀(G:Gh) (H:Hp) (x:PV) (v:V) (R:PV->Prop) (Q:VK),(∀p,H p=none->p∉G.M)->RdV K G H x v->w x R->
 (∀z v' H',R z->Same H H'->Rep K G H' z v'->Q v' H')->r [v] H Q
theorem Jq (hw:WA1 K r w)(h:ROk K T t pe):EOk K T (tCB r (U1 t tNil)) (qUn w pe):=λC G σ H env n R Q hK hT S hp k=>by
 refine CN h hK hT S hp λx jc n1 v H1 p1 S1 r1 f1=>?_;subst hK;exact hw G H1 x v _ _ (λp hp=>S1.fresh hp) (r1.rd S1) p1 λz v' H' rz s rv=>k _ _ _ _ _ rz (S1.same s) rv (f1.trans (Fr.of s))
theorem GU {id:String}(hc:∀z,L6 (F z) (.builtin id) r)(hw:WA1 K r w)(hg:∀z,Gl (F z) x)(hm:∀z,(F z).mg x=none)(hv:M4 x=some (.builtin id))(ha:QR T K F e pe)(hs:F5 e=true:=by rfl)(hn:x≠"__name__":=by decide)(hdb:(x == ("__debug__":Str))=false:=by decide) :
   QE T K F (.Call (.Name x p) [e] [] pos) (qUn w pe):=by
 obtain⟨t,h1,h2⟩:=ha;exact⟨_,λz=>Z7 (hc z) (hg z) (hm z) hv (E8 (h1 z) J6 (D8 hs)) hn hdb (D8 hs),Jq hw h2⟩
theorem qe_ct1 {id:String}(hc:∀z,L6 (F z) (.type id) r)(hw:WA1 K r w)(hg:∀z,Gl (F z) x)(hm:∀z,(F z).mg x=none)(hv:M4 x=some (.type id))(ha:QR T K F e pe)(hs:F5 e=true:=by rfl)(hn:x≠"__name__":=by decide)(hdb:(x == ("__debug__":Str))=false:=by decide) :
   QE T K F (.Call (.Name x p) [e] [] pos) (qUn w pe):=by
 obtain⟨t,h1,h2⟩:=ha;exact⟨_,λz=>Bw (hc z) (hg z) (hm z) hv (E8 (h1 z) J6 (D8 hs)) hn hdb (D8 hs),Jq hw h2⟩
def wLen:w1:=λx R=>match x with
 |.lst xs=>R (.int xs.length)
 |.tup xs=>R (.int xs.length)
 |.scr xs=>R (.int xs.length)
 |.str z=>z.length<=1000000/\R (.int z.length)
 |_=>False
theorem WA1.len:WA1 K (λxs H Q=>(∃p ys,xs=[.ref p]/\(SqL K H p ys\/SqT K H p ys)/\Q (.int ys.length) H)\/∃z,xs=[.str z]/\z.length<=C4/\Q (.int z.length) H) wLen:=by
 intro G H x v R Q hf rx hw k;unfold wLen at hw
 split at hw
 ·obtain⟨a,vs,ev,hq,r⟩:=rx.lst;exact .inl ⟨a,vs,by rw[ev],.inl hq,k _ _ _ hw (Same.refl _) (by rw[r.length];rfl)⟩
 ·obtain⟨a,vs,ev,hq,r⟩:=rx.tup;exact .inl ⟨a,vs,by rw[ev],.inr hq,k _ _ _ hw (Same.refl _) (by rw[r.length];rfl)⟩
 ·obtain⟨a,ev,hq⟩:=CO rx;exact .inl ⟨a,_,by rw[ev],.inl hq,k _ _ _ hw (Same.refl _) (by rw[B8];rfl)⟩
 ·exact .inr ⟨_,by rw[rx.str],mil hw.1,k _ _ _ hw.2 (Same.refl _) rfl⟩
 ·exact hw.elim
theorem K9 (hg:∀z,Gl (F z) "len")(hm:∀z,(F z).mg "len"=none)(ha:QR T K F e pe)(hs:F5 e=true:=by rfl)(hK:∀z,(F z).K=K:=by intro _;rfl):QE T K F (.Call (.Name "len" p) [e] [] pos) (qUn wLen pe):=GU (λz=>(hK z▸IX).or NB) WA1.len hg hm Ej ha hs
def b8:List PV->Option (List Bool)
 |[]=>some []
 |.bl b::xs=>(b8 xs).map (b::·)
 |_=>none
theorem GV {K:A8}{G:Gh}{H:Hp}:∀{xs:List PV} {vs:List V} {bs:List Bool},b8 xs=some bs->Reps K G H xs vs->vs=bs.map V.bl
 |[],vs,bs,h,r=>by cases h;exact r
 | .bl b :: xs, vs, bs, h, r => by
  obtain⟨v,t,e,rv,rt⟩:=r;cases e1:b8 xs with
  |none=>simp[b8,e1] at h
  | some cs =>
   have:b::cs=bs:=by simpa[b8,e1] using h
   subst this;rw[e,show v=.bl b from rv,GV e1 rt]
   rfl
 |.non::_,_,_,h,_=>by cases h
 |.int _::_,_,_,h,_=>by cases h
 |.str _::_,_,_,h,_=>by cases h
 |.ty _::_,_,_,h,_=>by cases h
 |.pot _::_,_,_,h,_=>by cases h
 |.tup _::_,_,_,h,_=>by cases h
 |.lst _::_,_,_,h,_=>by cases h
 |.dct _ _::_,_,_,h,_=>by cases h
 |.fdt _ _::_,_,_,h,_=>by cases h
 |.scr _::_,_,_,h,_=>by cases h
theorem Jr:∀bs:List Bool,b8 (bs.map PV.bl)=some bs
 |[]=>rfl
 |b::bs=>by simp[b8,Jr bs]
def wAll:w1:=λx R=>match x with|.lst xs=>(match b8 xs with|some bs=>R (.bl (bs.all id))|none=>False)|_=>False
def wAny:w1:=λx R=>match x with|.lst xs=>(match b8 xs with|some bs=>R (.bl (bs.any id))|none=>False)|_=>False
theorem Js (hc:∀z,(F z).calm=true)(hg:∀z,Gl (F z) "all")(hm:∀z,(F z).mg "all"=none)(ha:QR T K F e pe)(hs:F5 e=true:=by rfl)(hK:∀z,(F z).K=K:=by intro _;rfl):QE T K F (.Call (.Name "all" p) [e] [] pos) (qUn wAll pe):=GU (λz=>hK z▸NR (hc z)) (λG H x v R Q hf rx hw k=>by
 unfold wAll at hw
 split at hw
 ·rename_i xs;obtain⟨a,vs,ev,hq,r⟩:=rx.lst
  split at hw
  ·rename_i bs eb;exact⟨a,bs,by rw[ev],GV eb r▸hq,k _ _ _ hw (Same.refl _) rfl⟩
  ·exact hw.elim
 ·exact hw.elim) hg hm bt_all ha hs
theorem Jt {p:Pos}(hc:∀z,(F z).calm=true)(hg:∀z,Gl (F z) "any")(hm:∀z,(F z).mg "any"=none)(ha:QR T K F e pe)(hs:F5 e=true:=by rfl)(hK:∀z,(F z).K=K:=by intro _;rfl):QE T K F (.Call (.Name "any" p) [e] [] pos) (qUn wAny pe):=GU (λz=>hK z▸NT (hc z)) (λG H x v R Q hf rx hw k=>by
 unfold wAny at hw
 split at hw
 ·rename_i xs;obtain⟨a,vs,ev,hq,r⟩:=rx.lst
  split at hw
  ·rename_i bs eb;exact⟨a,bs,by rw[ev],GV eb r▸hq,k _ _ _ hw (Same.refl _) rfl⟩
  ·exact hw.elim
 ·exact hw.elim) hg hm bt_any ha hs
def b9:w1:=λx R=>match x with|.lst xs=>R (.tup xs)|.tup xs=>R (.tup xs)|_=>False
theorem CP (hg:∀z,Gl (F z) "tuple")(hm:∀z,(F z).mg "tuple"=none)(ha:QR T K F e pe)(hs:F5 e=true:=by rfl)(hK:∀z,(F z).K=K:=by intro _;rfl):QE T K F (.Call (.Name "tuple" p) [e] [] pos) (qUn b9 pe):=qe_ct1 (λz=>hK z▸ND) (λG H x v R Q hf rx hw k=>by
 unfold b9 at hw
 split at hw
 ·obtain⟨a,vs,ev,hq,r⟩:=rx.lst;exact⟨a,vs,by rw[ev],.inl ⟨hq,λl hl=>k _ _ _ hw (Same.lay1 hl) (By (hf l hl) hl r)⟩⟩
 ·obtain⟨a,vs,ev,t,r⟩:=rx.rep (λ_ z=>nomatch z);exact⟨a,vs,by rw[ev],.inr ⟨t.sq,k _ _ _ hw (Same.refl _) ⟨a,vs,rfl,t,r⟩⟩⟩
 ·exact hw.elim) hg hm Aj ha hs
def V2 (pe:pE):pA:=λenv n R=>pe env n λx jc n1=>match x with|.lst xs=>R xs jc n1|.tup xs=>R xs jc n1|.scr ns=>R (ns.map PV.int) jc n1|_=>False
theorem BC (hg:∀z,Gl (F z) "list")(hm:∀z,(F z).mg "list"=none)(ha:QR T K F e pe)(hs:F5 e=true:=by rfl)(hK:∀z,(F z).K=K:=by intro _;rfl):QN T K F (.Call (.Name "list" p) [e] [] pos) (V2 pe):=by
 obtain⟨t,h1,h2⟩:=ha;refine⟨_,λz=>Bw (hK z▸NC) (hg z) (hm z) NW (E8 (h1 z) J6 (D8 hs)) (by decide) (by decide) (D8 hs),λC G σ H env n R Q hK hT S hp k=>?_⟩;refine CN h2 hK hT S hp λx jc n1 v H1 p1 S1 r1 f1=>?_;have rd:RdV K G H1 x v:=hK▸r1.rd S1;cases x with
 | lst xs =>
  obtain⟨a,vs,ev,hq,r⟩:=rd.lst;exact⟨a,vs,by rw[ev],.inl hq,λl hl=>k _ _ _ _ _ _ p1 S1 f1 hl r⟩
 | tup xs =>
  obtain⟨a,vs,ev,hq,r⟩:=rd.tup;exact⟨a,vs,by rw[ev],.inr hq,λl hl=>k _ _ _ _ _ _ p1 S1 f1 hl r⟩
 | scr ns =>
  obtain⟨a,ev,hq⟩:=CO rd;exact⟨a,_,by rw[ev],.inl hq,λl hl=>k _ _ _ _ _ _ p1 S1 f1 hl (GS ns)⟩
 |_=>exact p1.elim
theorem tyw (hg:Gl X x)(hm:X.mg x=none)(hv:M4 x=some (.type m))(hn:x≠"__name__":=by decide)(hd:(x == ("__debug__":Str))=false:=by decide):EW X (.Name x pos) (tC (.ty m)):=⟨MK (v:=.ty m) hg hm hv rfl hn hd⟩
def tyP:PV->Option String
 |.non=>some "NoneType"
 |.bl _=>some "bool"
 |.int _=>some "int"
 |.str _=>some "str"
 |.tup _=>some "tuple"
 |.lst _=>some "list"
 |.dct _ _=>some "dict"
 |_=>none
def isT (t n:String):Bool:=t == n||(t == "bool" && n == "int")
def wIsi (n:String):w1:=λx R=>match tyP x with|some t=>R (.bl (isT t n))|none=>False
theorem Oo (ht:t∈["NoneType","bool","int","str","tuple","list","dict"])(hn:n∈["bool","int","str","tuple","list"]):Cg K (.type t) (.type n)=some (isT t n):=by
 refine kit_of ?_;have:∀t∈["NoneType","bool","int","str","tuple","list","dict"],∀n∈["bool","int","str","tuple","list"],(if(L5 t == L5 n)=true then some true else if PySem.W.kitMeta n=true then(fastBuiltinMro t).map (·.contains (.type n)) else none)=some (isT t n):=by decide +kernel
 exact this t ht n hn
theorem X9 (hn:n∈["bool","int","str","tuple","list"])(hg:∀z,Gl (F z) "isinstance")(hm:∀z,(F z).mg "isinstance"=none)(ha:QE T K F a pa)(hb:∀z,EW (F z) b (tC (.ty n)))(hs:F5 a=true:=by rfl)(hs2:F5 b=true:=by rfl)(hK:∀z,(F z).K=K:=by intro _;rfl):QE T K F (.Call (.Name "isinstance" p) [a,b] [] pos) (qUn (wIsi n) pa):=by
 obtain⟨t,h1,h2⟩:=ha;refine⟨_,λz=>Z7 (hK z▸NO) (hg z) (hm z) NU (E8 (h1 z) (E8 (hb z).h J6 (D8 hs2)) (D8 hs)) (by decide) (by decide) (D8 hs) (by rw[D8 hs2];rfl),λC G σ H env n' R Q hK hT S hp k=>?_⟩;refine h2 C G σ H env n' _ _ hK hT S hp λx jc n1 v H1 p1 S1 r1 f1=>?_;unfold wIsi at p1
 have fin:∀t,TyOf K H1 v (.type t)->tyP x=some t->t∈["NoneType","bool","int","str","tuple","list","dict"]->∃x' n'' t' b',[v,V.ty n]=[x',.ty n'']/\TyOf K H1 x' t'/\Cg K t' (.type n'')=some b'/\Q (.bl b') H1:=by
  intro t ty e m;rw[e] at p1;exact⟨v,n,_,_,rfl,ty,Oo m hn,k _ _ _ _ _ p1 S1 rfl f1⟩
 cases x with
 |non=>cases(show v=.non from r1);exact fin _ .non rfl (by decide)
 |bl b=>cases(show v=.bl b from r1);exact fin _ (.bl b) rfl (by decide)
 |int b=>cases(show v=.int b from r1);exact fin _ (.int b) rfl (by decide)
 |str b=>cases(show v=.str b from r1);exact fin _ (.str b) rfl (by decide)
 |tup xs=>obtain⟨a,vs,rfl,t,r⟩:=r1;exact fin _ (.tup t.2) rfl (by decide)
 |lst xs=>obtain⟨a,vs,rfl,t,r⟩:=r1;exact fin _ (.lst t.2) rfl (by decide)
 |dct ks xs=>obtain⟨a,jg,rfl,_,t,r⟩:=r1;exact fin _ (.dK t) rfl (by decide)
 |ty n=>exact p1.elim
 |pot k=>exact p1.elim
 |fdt ks xs=>exact p1.elim
 |scr ns=>exact p1.elim
def wMin:w2:=λx y R=>match x,y with|.int i,.int j=>R (.int (if j<i then j else i))|_,_=>False
def wMax:w2:=λx y R=>match x,y with|.int i,.int j=>R (.int (if j>i then j else i))|_,_=>False
theorem Ju (hw:W2 K (λx y H Q=>r [x,y] H Q) w)(h:EOk K T t pa)(h':EOk K T u pb):EOk K T (tCB r (U1 t (U1 u tNil))) (qOp w pa pb):=λC G σ H env n R Q hK hT S hp k=>by
 refine h C G σ H env n _ _ hK hT S hp λx jc n1 v H1 p1 S1 r1 f1=>?_;refine h' C G σ H1 jc n1 _ _ hK hT S1 p1 λy jd n2 u H2 p2 S2 r2 f2=>?_;exact hw G H2 x y v u _ _ (λp hp=>S2.fresh hp) (.inl (r1.fr f2)) (.inl r2) p2 λz v' H' rz s rv=>k _ _ _ _ _ rz (S2.same s) rv ((f1.trans f2).trans (Fr.of s))
theorem qe_min (hc:∀z,(F z).calm=true)(hg:∀z,Gl (F z) "min")(hm:∀z,(F z).mg "min"=none)(ha:QE T K F a pa)(hb:QE T K F b pb)(hs:F5 a=true:=by rfl)(hs2:F5 b=true:=by rfl):QE T K F (.Call (.Name "min" p) [a,b] [] pos) (qOp wMin pa pb):=by
 obtain⟨t,h1,h2⟩:=ha;obtain⟨u,h3,h4⟩:=hb;refine⟨_,λz=>Z7 (Ng (hc z)) (hg z) (hm z) bt_min (E8 (h1 z) (E8 (h3 z) J6 (D8 hs2)) (D8 hs)) (by decide) (by decide) (D8 hs) (by rw[D8 hs2];rfl),Ju (λG H x y v u R Q hf rx ry hw k=>?_) h2 h4⟩;unfold wMin at hw
 split at hw
 ·exact⟨_,_,by rw[rx.int,ry.int],k _ _ _ hw (Same.refl _) rfl⟩
 ·exact hw.elim
theorem qe_max {p:Pos}(hc:∀z,(F z).calm=true)(hg:∀z,Gl (F z) "max")(hm:∀z,(F z).mg "max"=none)(ha:QE T K F a pa)(hb:QE T K F b pb)(hs:F5 a=true:=by rfl)(hs2:F5 b=true:=by rfl):QE T K F (.Call (.Name "max" p) [a,b] [] pos) (qOp wMax pa pb):=by
 obtain⟨t,h1,h2⟩:=ha;obtain⟨u,h3,h4⟩:=hb;refine⟨_,λz=>Z7 (Nf (hc z)) (hg z) (hm z) bt_max (E8 (h1 z) (E8 (h3 z) J6 (D8 hs2)) (D8 hs)) (by decide) (by decide) (D8 hs) (by rw[D8 hs2];rfl),Ju (λG H x y v u R Q hf rx ry hw k=>?_) h2 h4⟩;unfold wMax at hw
 split at hw
 ·exact⟨_,_,by rw[rx.int,ry.int],k _ _ _ hw (Same.refl _) rfl⟩
 ·exact hw.elim
def E6 (K:A8)(T:PotK)(f:pF):Sp:=λvs H Q _=>∃(G:Gh) (xs:List PV) (n:Nat) (R:PV->Nat->Prop),(∀p∈G.pots,p∈G.M/\T.at_ G.M H p n)/\(∀a∈G.M,∃o,H a=some o/\MutO o)/\T.has G.pots/\Reps K G H xs vs/\f xs n R/\
 ∀r n' v H',R r n'->Rep K G H' r v->(∀p∈G.pots,T.at_ G.M H' p n')->(∀b o,b∉G.pots->H b=some o->H' b=some o)->Q v H'
def B5 (f:pF)(pa:pA):pE:=λenv n R=>pa env n λxs jc n1=>f xs n1 λr n2=>R r jc n2
theorem SR.call (S:SR C G σ H env n)(hk:∀b o,b∉G.pots->H b=some o->H' b=some o)(hp:∀p∈G.pots,C.T.at_ G.M H' p n'):SR C G σ H' env n' where
 frame b o hb e:=by
  by_cases hp:b∈G.pots
  ·-- a pot that is new since the entry has no old object
   obtain⟨l,el,_⟩:=S.pre;rw[el] at hp;rcases J8.mp hp with z|z
   ·exact absurd z hb
   ·have hM:=(S.pots b (by rw[el];exact hp)).1;rcases S.sub b hM with z2|z2
    ·exact(S.newp b (by rw[el];exact hp) hb z2).elim
    ·rw[z2] at e;cases e
  ·exact hk b o hp (S.frame b o hb e)
 sub:=S.sub
 sup:=S.sup
 pots p h:=⟨(S.pots p h).1,hp p h⟩
 pre:=S.pre
 mu a ha:=by
  by_cases h:a∈G.pots
  ·exact C.T.mu (hp a h)
  ·obtain⟨o,e,m⟩:=S.mu a ha;exact⟨o,hk a o h e,m⟩
 slots i x e:=by
  have f:Fr G H H':=λb o hb he=>hk b o (λz=>hb (S.pots b z).1) he;have:=S.slots i x e;cases x with
  | v x =>
   obtain⟨v,e1,r⟩:=this;exact⟨v,e1,r.fr f⟩
  | ow kk xs =>
   obtain⟨a,vs,e1,h1,h2,h3,h4,r⟩:=this;exact⟨a,vs,e1,h1,h2,h3,hk _ _ h3 h4,r.fr f⟩
 inj:=S.inj
 p0:=S.p0
 len:=S.len
 newp:=S.newp
theorem Ex (hG:∀z,Kn (F z).prog (F z).w (F z).K (F z).mg (F z).base x k ps (E6 K T f))(hr:∀z,Room j (F z).A)(hk:k<=j)(hg:∀z,Gl (F z) x)(ha:QA T K F (e::es) pl)(hdb:(x == ("__debug__":Str))=false:=by decide)
   (hs:F5 e=true:=by rfl) (hpl:∀z,(backTo pos (E9 es (F z).env)).any (·.1)=false:=by intro _;rfl):QE T K F (.Call (.Name x p) (e::es) [] pos) (B5 f pl):=by
 obtain⟨t,h1,h2⟩:=ha;refine⟨_,λz=>pe_fn (hG z) (hr z) hk (hg z) (h1 z) hdb (D8 hs) (hpl z),λC G σ H env n R Q hK hT S hp k=>?_⟩;refine h2 C G σ H env n _ _ hK hT S hp λxs jc n1 vs H1 p1 S1 r1 f1=>?_;subst hT;rw[W8];refine⟨G,xs,n1,_,λp hp=>S1.pots p hp,S1.mu,S1.hasG,r1,p1,λr n' v H' rr rv hp hk'=>?_⟩;exact k _ _ _ _ _ rr (S1.call hk' hp) rv (f1.trans λb o hb e=>hk' b o (λz=>hb (S1.pots b z).1) e)
end
end Pu
end
section
namespace Pu
open PySem PySem.Spec L2
abbrev pG:=PV->Env->(Env->Prop)->Prop
abbrev pGs:=List PV->Env->(Env->Prop)->Prop
def GOk (K:A8)(g:TG)(pg:pG):Prop:=∀(C:Ct) (G:Gh) (σ:St) (H:Hp) (env:Env) (n:Nat) (x:PV) (v:V) (R:Env->Prop) (Q:St->Hp->Prop),C.K=K->SR C G σ H env n->Rep K G H x v->pg x env R->
 (∀jh σ',R jh->SR C G σ' H jh n->Q σ' H)->g v σ H Q
def GsOk (K:A8)(g:TGs)(pg:pGs):Prop:=∀(C:Ct) (G:Gh) (σ:St) (H:Hp) (env:Env) (n:Nat) (x:List PV) (v:List V) (R:Env->Prop) (Q:St->Hp->Prop),C.K=K->SR C G σ H env n->Reps K G H x v->pg x env R->
 (∀jh σ',R jh->SR C G σ' H jh n->Q σ' H)->g v σ H Q
def QG {ι:Type}(K:A8)(F:ι->Cx)(e:Expr)(pg:pG):Prop:=∃g,(∀z,PG (F z) e g)/\GOk K g pg
def QGs {ι:Type}(K:A8)(F:ι->Cx)(e:List Expr)(pg:pGs):Prop:=∃g,(∀z,PGs (F z) e g)/\GsOk K g pg
def gN (i:Nat):pG:=λx env R=>R (env.set i (some (.v x)))
def gNl:pGs:=λxs env R=>match xs with|[]=>R env|_=>False
def gCn (g:pG)(r:pGs):pGs:=λxs env R=>match xs with|x::xs=>g x env λjc=>r xs jc R|[]=>False
def gTp (k:Nat)(g:pGs):pG:=λx env R=>match x with|.tup xs=>xs.length=k/\g xs env R|_=>False
theorem SR.set (S:SR C G σ H env n)(i:Nat)(r:Rep C.K G H x v):SR C G (σ.set i (some v)) H (env.set i (some (.v x))) n where
 frame:=S.frame
 sub:=S.sub
 sup:=S.sup
 pots:=S.pots
 pre:=S.pre
 mu:=S.mu
 slots j s e:=by
  by_cases h:i=j
  ·subst h
   by_cases hl:i<env.length
   ·rw[N9 hl] at e;cases e;exact⟨v,by rw[N9 (by rw[<- S.len];exact hl)],r⟩
   ·rw[W6 (by rw[O9];omega)] at e;cases e
  ·rw[Q1 h] at e ⊢;exact S.slots j s e
 inj j k xs ys a e1 e2 e3 e4:=by
  have nj:∀(j:Nat) (xs:OK×List PV),(env.set i (some (.v x)))[j]?=some (some (Slot.ow xs.1 xs.2))->i≠j:=by
   intro j xs e h;subst h
   by_cases hl:i<env.length
   ·rw[N9 hl] at e;cases e
   ·rw[W6 (by rw[O9];omega)] at e;cases e
  have n1:=nj j xs e1;have n2:=nj k ys e2;rw[Q1 n1] at e1 e3;rw[Q1 n2] at e2 e4;exact S.inj j k xs ys a e1 e2 e3 e4
 p0:=S.p0
 len:=by rw[O9,O9];exact S.len
 newp:=S.newp
section
variable {T:PotK}{ι:Type}{K:A8}{F:ι->Cx}{e a b c:Expr}{es rest:List Expr}{pe pa pb pc:pE}{pos:Pos}{pl pr:pA}{pg:pG}{pgs:pGs}{pt:pT}
theorem Am (i:Nat)(hN:X.N.Nodup)(hi:X.N[i]?=some x)(hx:Loc X.env.scope x)(hf:X.fn x=true\/X.env.scope.names.lookup x=some .local:=by first|exact .inl rfl|exact .inr rfl|assumption):GW X (.Name x pos) (M1 i):=⟨MN hN hi hx hf⟩
theorem Op (h:∀z,GW (F z) (.Name x pos) (M1 i)):QG K F (.Name x pos) (gN i):=⟨_,λz=>(h z).h,λC G σ H env n x v R Q hK S r hp k=>k _ _ hp (S.set i (hK▸r))⟩
theorem V3:QGs K F [] gNl:=⟨_,λ_=>Gc,λC G σ H env n x v R Q hK S r hp k=>by
 cases x with
 |nil=>exact⟨r,k _ _ hp S⟩
 |cons _ _=>exact hp.elim⟩
theorem L7 (h1:QG K F e pg)(h2:QGs K F es pgs)(hs:∀z,(K6 (e::es) (F z).env).map (·.2)=assign e (F z).env::(K6 es (F z).env).map (·.2):=by intro _;rfl):QGs K F (e::es) (gCn pg pgs):=by
 obtain⟨g,a1,a2⟩:=h1;obtain⟨gs,b1,b2⟩:=h2;refine⟨_,λz=>Eh (a1 z) (b1 z) (hs z),λC G σ H env n x v R Q hK S r hp k=>?_⟩;cases x with
 |nil=>exact hp.elim
 | cons x xs =>
  obtain⟨u,us,rfl,ru,rs⟩:=r;exact⟨u,us,rfl,a2 C G σ H env n x u _ _ hK S ru hp λjh σ' re S'=>b2 C G σ' H jh n xs us _ _ hK S' rs re k⟩
theorem Y0 (hc:∀z,(F z).calm=true)(h:QGs K F es pgs)(hn:∀z,(K6 es (F z).env).length=m:=by intro _;rfl)(hst:∀z,(K6 es (F z).env).findIdx? (·.1)=none:=by intro _;rfl)(hK:∀z,(F z).K=K:=by intro _;rfl):QG K F (.Tuple es k pos) (gTp m pgs):=by
 obtain⟨g,a1,a2⟩:=h;refine⟨_,λz=>hK z▸Ge (hc z) (a1 z) (hn z) (hst z),λC G σ H env n x v R Q hK S r hp k=>?_⟩;cases x with
 | tup xs =>
  obtain⟨a,vs,rfl,t,rs⟩:=r;exact⟨a,vs,rfl,t.sq,by rw[<- rs.length];exact hp.1,a2 C G σ H env n xs vs _ _ hK S rs hp.2 k⟩
 |_=>exact hp.elim
def ItR (K:A8)(G:Gh)(H:Hp)(J:It)(xs:List PV):Prop:=∀(G2:Gh) (H2:Hp),(∀b o,b∉G.M->H b=some o->H2 b=some o)->(∀a∈G2.M,a∈G.M\/H a=none)->(∀(k:Nat) (p:A0),G.pots[k]?=some p->G2.pots[k]?=some p)->(∀p,H2 p=none->p∉G2.M)->
 (∀(i:Nat) x,xs[i]?=some x->J.go i H2/\∀v H3,J.yld i H2 v H3->Same H2 H3/\Rep K G2 H3 x v)/\∀i,xs.length<=i->J.stop i H2
def IOk (K:A8)(T:PotK)(wi:TI)(pi:pA):Prop:=∀(C:Ct) (G:Gh) (σ:St) (H:Hp) (env:Env) (n:Nat) (R:List PV->Env->Nat->Prop) (Q:It->Hp->Prop),C.K=K->C.T=T->SR C G σ H env n->pi env n R->
 (∀xs jh n' J H',R xs jh n'->SR C G σ H' jh n'->Fr G H H'->ItR K G H' J xs->Q J H')->wi σ H Q
def QI {ι:Type}(T:PotK)(K:A8)(F:ι->Cx)(tg iter:Expr)(pi:pA):Prop:=∃wi,(∀z,PI (F z) tg iter wi)/\IOk K T wi pi
variable {tg:Expr}
theorem Oq {a:A0}(t:AtL G.M H a vs)(r:Reps K G H xs vs):ItR K G H (Itl K a) xs:=by
 intro G2 H2 hk hM hp hf;have hq:SqL K H2 a vs:=SqL.of (hk a _ t.1 t.2);have r2:Reps K G2 H2 xs vs:=Reps.mono hk hM hp _ _ r;refine⟨λi x e=>?_,λi hi=>⟨vs,hq,by rw[<- r.length];exact hi⟩⟩;obtain⟨v,ev,rv⟩:=r2.get' e;refine⟨⟨vs,v,hq,ev⟩,λv' H3 y=>?_⟩;obtain⟨e3,y⟩:=y;subst e3;have:=y vs hq;rw[ev] at this;cases this;exact⟨Same.refl _,rv⟩
theorem Os {a:A0}(t:AtT G.M H a vs)(r:Reps K G H xs vs):ItR K G H (Itt K a) xs:=by
 intro G2 H2 hk hM hp hf;have hq:SqT K H2 a vs:=SqT.of (hk a _ t.1 t.2);have r2:Reps K G2 H2 xs vs:=Reps.mono hk hM hp _ _ r;refine⟨λi x e=>?_,λi hi=>⟨vs,hq,by rw[<- r.length];exact hi⟩⟩;obtain⟨v,ev,rv⟩:=r2.get' e;refine⟨⟨vs,v,hq,ev⟩,λv' H3 y=>?_⟩;obtain⟨e3,y⟩:=y;subst e3;have:=y vs hq;rw[ev] at this;cases this;exact⟨Same.refl _,rv⟩
def qIl (pe:pE):pA:=λenv n R=>pe env n λx jc n1=>match x with|.lst xs=>R xs jc n1|_=>False
def qIt (pe:pE):pA:=λenv n R=>pe env n λx jc n1=>match x with|.tup xs=>R xs jc n1|_=>False
theorem BD (h:QE T K F e pe)(hK:∀z,(F z).K=K:=by intro _;rfl):QI T K F tg e (qIl pe):=by
 obtain⟨t,h1,h2⟩:=h;refine⟨_,λz=>hK z▸MS (h1 z),λC G σ H env n R Q hK hT S hp k=>?_⟩;refine h2 C G σ H env n _ _ hK hT S hp λx jc n1 v H1 p1 S1 r1 f1=>?_;cases x with
 | lst xs =>
  obtain⟨a,vs,rfl,t,r⟩:=r1;exact⟨a,rfl,⟨vs,t.sq⟩,k _ _ _ _ _ p1 S1 f1 (Oq t r)⟩
 |_=>exact p1.elim
theorem An (h:QE T K F e pe)(hK:∀z,(F z).K=K:=by intro _;rfl):QI T K F tg e (qIt pe):=by
 obtain⟨t,h1,h2⟩:=h;refine⟨_,λz=>hK z▸pi_tup (h1 z),λC G σ H env n R Q hK hT S hp k=>?_⟩;refine h2 C G σ H env n _ _ hK hT S hp λx jc n1 v H1 p1 S1 r1 f1=>?_;cases x with
 | tup xs =>
  obtain⟨a,vs,rfl,t,r⟩:=r1;exact⟨a,rfl,⟨vs,t.sq⟩,k _ _ _ _ _ p1 S1 f1 (Os t r)⟩
 |_=>exact p1.elim
theorem Ot (lo:Int)(m:Nat):ItR K G H (Itr lo m) ((E5 m).map λ(k:Nat)=>PV.int (lo+k)):=by
 intro G2 H2 hk hM hp hf;refine⟨λi x e=>?_,λi hi=>(show m<=i by simpa using hi)⟩;rw[G6] at e;cases e1:(E5 m)[i]? with
 |none=>rw[e1] at e;cases e
 | some j =>
  rw[e1] at e;cases e;obtain⟨hi,e2⟩:=F7.mp e1;rw[List.getElem_range] at e2;subst e2;refine⟨(show i<m by simpa using hi),λv H3 y=>?_⟩;obtain⟨e3,y⟩:=y;subst e3 y;exact⟨Same.refl _,rfl⟩
def t5 (pe:pE):pA:=λenv n R=>pe env n λx jc n1=>match x with|.int j=>(-1000000<=j/\j<=1000000)/\R ((E5 j.toNat).map λ(k:Nat)=>PV.int (0+k)) jc n1|_=>False
theorem BE (hg:∀z,Gl (F z) "range")(hm:∀z,(F z).mg "range"=none)(h:QE T K F e pe)(hs:F5 e=true:=by rfl):QI T K F tg (.Call (.Name "range" p) [e] [] pos) (t5 pe):=by
 obtain⟨t,h1,h2⟩:=h;refine⟨_,λz=>MU (hg z) (hm z) (E8 (h1 z) J6 (D8 hs)) (by rw[D8 hs];rfl),λC G σ H env n R Q hK hT S hp k=>?_⟩;refine CN (pe:=pe) (λC G σ H env n R Q hK hT S hp k=>h2 C G σ H env n R Q hK hT S hp λx jh n' v H' r S' rp f=>k x jh n' v H' r S' (.inl (hK▸rp)) f) hK hT S hp λx jc n1 v H1 p1 S1 r1 f1=>?_;cases x with
 |int j=>exact⟨j,by rw[(r1.rd S1).int],by omega,by omega,k _ _ _ _ _ p1.2 S1 f1 (Ot 0 _)⟩
 |_=>exact p1.elim
def qIs (pe:pE):pA:=λenv n R=>pe env n λx jc n1=>match x with|.str z=>z.cps.all (· < 128)=true/\R (z.cps.toList.map λc=>.str ⟨#[c]⟩) jc n1|_=>False
theorem qi_str (h:QE T K F e pe):QI T K F tg e (qIs pe):=by
 obtain⟨t,h1,h2⟩:=h;refine⟨_,λz=>pi_str (h1 z),λC G σ H env n R Q hK hT S hp k=>?_⟩;refine h2 C G σ H env n _ _ hK hT S hp λx jc n1 v H1 p1 S1 r1 f1=>?_;cases x with
 | str z =>
  refine⟨z,r1,p1.1,k _ _ _ _ _ p1.2 S1 f1 ?_⟩;intro G2 H2 hk hM hp hf;refine⟨λi x e=>?_,λi hi=>(show z.cps.toList.length<=i by simpa using hi)⟩;rw[G6] at e;cases e1:z.cps.toList[i]? with
  |none=>rw[e1] at e;cases e
  | some c =>
   rw[e1] at e;cases e;obtain⟨hi,_⟩:=F7.mp e1;refine⟨hi,λv H3 y=>?_⟩;obtain⟨e3,c',ec,ev⟩:=y;subst e3 ev;rw[e1] at ec;cases ec;exact⟨Same.refl _,rfl⟩
 |_=>exact p1.elim
def t7 (xs:List PV):List PV:=xs.zipIdx.map λy=>.tup [.int (y.2:Nat),y.1]
theorem GX {xs:List PV}{i:Nat}{x:PV}(h:(t7 xs)[i]?=some x):∃y,xs[i]?=some y/\x=.tup [.int (i:Nat),y]:=by
 unfold t7 at h;rw[G6,List.getElem?_zipIdx] at h;cases e:xs[i]? with
 |none=>rw[e] at h;cases h
 | some y =>
  rw[e] at h;cases h;exact⟨y,rfl,by simp⟩
theorem Ey (xs:List PV):(t7 xs).length=xs.length:=by unfold t7;simp
def capS:Option (Option Slot)->Option Slot
 |some (some (.v x))=>some (.v x)
 |_=>none
def capV (cs:List (Option Nat))(env:Env):Env:=cs.map λo=>o.bind λj=>capS (env[j]?)
def T3 (g:pG)(tt:pT)(te:pE):List PV->Env->Nat->(List PV->Nat->Prop)->Prop
 |[],_,n,R=>R [] n
 |x::xs,env,n,R=>g x env λjc=>tt jc n λb jd n2=>if b=true then te jd n2 λy je n3=>T3 g tt te xs je n3 λys n4=>R (y::ys) n4 else T3 g tt te xs jd n2 R
def qTru:pT:=λenv n R=>R true env n
def V4 (cs:List (Option Nat))(pi:pA)(g:pG)(tt:pT)(te:pE):pA:=λenv n R=>pi env n λxs jc n1=>xs.length<=1000000/\T3 g tt te xs (capV cs jc) n1 λys n2=>R ys jc n2
structure Inn (K:A8)(T:PotK)(G:Gh)(σ:St)(H:Hp)(env:Env)(n:Nat):Prop where
 pots:∀p∈G.pots,p∈G.M/\T.at_ G.M H p n
 has:T.has G.pots
 mu:∀a∈G.M,∃o,H a=some o/\MutO o
 slots:∀(i:Nat) (s:Slot),env[i]?=some (some s)->∃x v,s=.v x/\σ[i]?=some (some v)/\Rep K G H x v
 len:env.length=σ.length
theorem Inn.sr (I:Inn K T G σ H env n):SR ⟨K,T,G.M,G.pots,H,false⟩ G σ H env n where
 frame b o _ e:=e
 sub a ha:=.inl ha
 sup a ha:=ha
 pots:=I.pots
 pre:=⟨[],by simp,.inl rfl⟩
 mu:=I.mu
 slots i s e:=by
  obtain⟨x,v,rfl,ev,r⟩:=I.slots i s e;exact⟨v,ev,r⟩
 inj i j xs ys a e1:=by
  obtain⟨x,v,z,_⟩:=I.slots i _ e1;cases z
 p0:=⟨λp hp=>(I.pots p hp).1,I.has⟩
 len:=I.len
 newp p hp hn:=absurd hp hn
theorem SR.inn (S:SR ⟨K,T,G.M,G.pots,H0,false⟩ G σ H env n):Inn K T G σ H env n where
 pots:=S.pots
 has:=S.hasG
 mu:=S.mu
 slots i s e:=by
  cases s with
  | v x =>
   obtain⟨v,ev,r⟩:=S.slots i _ e;exact⟨x,v,rfl,ev,r⟩
  | ow kk xs =>
   obtain⟨a,vs,ev,h1,h2,_⟩:=S.slots i _ e;exact absurd h1 h2
 len:=S.len
theorem Ou:TOk K T tTru qTru:=λC G σ H env n R Q hK hT S hp k=>k _ _ _ _ hp S Fr.refl
structure CI (K:A8)(T:PotK)(G:Gh)(H1:Hp)(D:A0)(σ:St)(H:Hp)(env:Env)(n:Nat)(jk:List PV)(us:List V):Prop where
 inn:Inn K T ⟨D::G.M,G.pots⟩ σ H env n
 kp:∀b o,b∉G.pots->H1 b=some o->H b=some o
 eD:H D=some (.lst us)
 ra:Reps K ⟨D::G.M,G.pots⟩ H jk us
theorem CI.start {K:A8}{T:PotK}{G:Gh}{H1:Hp}{D:A0}{σ:St}{env:Env}{n:Nat}(hD:H1 D=none)(I0:Inn K T G σ H1 env n):CI K T G H1 D σ (upd H1 D (.lst [])) env n [] []:=by
 have lay:∀b o,H1 b=some o->upd H1 D (.lst []) b=some o:=λb o e=>Same.lay1 hD b o e;have new:∀a,a∈D::G.M->a∈G.M\/H1 a=none:=λa ha=>(C6.mp ha).elim (λz=>.inr (z▸hD)) .inl;refine⟨⟨λp hp=>⟨C2 _ (I0.pots p hp).1,?_⟩,I0.has,λa ha=>?_,λi s e=>?_,I0.len⟩,λb o _ e=>lay b o e,E7,rfl⟩
 ·have h1:=T.more (M':=D::G.M) (I0.pots p hp).2 new;obtain⟨o,e,_⟩:=T.mu h1;exact T.keep h1 (by rw[e,lay p o e]) λb o _ e=>lay b o e
 ·rcases C6.mp ha with rfl|ha
  ·exact⟨_,E7,trivial⟩
  ·obtain⟨o,e,m⟩:=I0.mu a ha;exact⟨o,lay a o e,m⟩
 ·obtain⟨x,v,rfl,ev,r⟩:=I0.slots i s e;exact⟨x,v,rfl,ev,Rep.mono (G':=⟨D::G.M,G.pots⟩) (λb o _ e=>lay b o e) new (λ_ _ e=>e) _ _ r⟩
theorem CI.go {K:A8}{T:PotK}{G:Gh}{H1:Hp}{D:A0}{σ σ':St}{H H':Hp}{env jh:Env}{n n':Nat}{jk:List PV}{us:List V}(c:CI K T G H1 D σ H env n jk us)(nD:D∉G.pots)(S:SR ⟨K,T,D::G.M,G.pots,H,false⟩ ⟨D::G.M,G.pots⟩ σ' H' jh n'):CI K T G H1 D σ' H' jh n' jk us:=
 ⟨S.inn,λb o hb e=>S.frame b o hb (c.kp b o hb e),S.frame D _ nD c.eD,Reps.mono (λb o hb e=>S.frame b o (λz=>hb (c.inn.pots b z).1) e) (λa ha=>.inl ha) (λ_ _ e=>e) _ _ c.ra⟩
theorem CI.fD {G:Gh}(o:HO):Fr ⟨D::G.M,G.pots⟩ H (upd H D o):=λb u hb e=>by
 rw[C0 (λz=>hb (by rw[z];exact C3))];exact e
theorem CI.add {K:A8}{T:PotK}{G:Gh}{H1:Hp}{D:A0}{σ:St}{H:Hp}{env:Env}{n:Nat}{jk:List PV}{us:List V}{y:PV}{u:V}(c:CI K T G H1 D σ H env n jk us)(nD:D∉G.pots)(hD:H1 D=none)(r:Rep K ⟨D::G.M,G.pots⟩ H y u):CI K T G H1 D σ (upd H D (.lst (us++[u]))) env n (jk++[y]) (us++[u]):=by
 refine⟨⟨λp hp=>⟨(c.inn.pots p hp).1,T.keep (c.inn.pots p hp).2 (C0 λz=>nD (by rw[<- z];exact hp)) (CI.fD _)⟩,c.inn.has,λa ha=>?_,λq s e=>?_,c.inn.len⟩,λb o hb e=>?_,E7,(c.ra.append (.one r)).fr (CI.fD _)⟩
 ·by_cases haD:a=D
  ·subst haD;exact⟨_,E7,trivial⟩
  ·rw[C0 haD];exact c.inn.mu a ha
 ·obtain⟨x,v,rfl,ev,r⟩:=c.inn.slots q s e;exact⟨x,v,rfl,ev,r.fr (CI.fD _)⟩
 ·rw[C0 (λz=>by rw[z,hD] at e;cases e)];exact c.kp b o hb e
theorem CI.it {K:A8}{T:PotK}{G:Gh}{H1:Hp}{D:A0}{σ:St}{H:Hp}{env:Env}{n:Nat}{jk:List PV}{us:List V}{J:It}{xs:List PV}(c:CI K T G H1 D σ H env n jk us)(hD:H1 D=none)(hJ:ItR K G H1 J xs):(∀(i:Nat) x,xs[i]?=some x->J.go i H/\∀v H3,J.yld i H v H3->Same H H3/\Rep K ⟨D::G.M,G.pots⟩ H3 x v)/\∀i,xs.length<=i->J.stop i H:=
 hJ ⟨D::G.M,G.pots⟩ H (fun b o hb e=>by
  by_cases z:b∈G.pots
  ·obtain⟨h1,_⟩:=c.inn.pots b z;rcases C6.mp h1 with rfl|h1
   ·rw[hD] at e;cases e
   ·exact absurd h1 hb
  ·exact c.kp b o z e) (λa ha=>(C6.mp (show a∈D::G.M from ha)).elim (λz=>.inr (z▸hD)) .inl) (λ_ _ e=>e) λp hp=>c.inn.sr.fresh hp
theorem Jv {K:A8}{T:PotK}{J:It}{g:TG}{tt:TT}{te:TE}{pg:pG}{ptt:pT}{pte:pE}(hg:GOk K g pg)(ht:TOk K T tt ptt)(he:EOk K T te pte){G:Gh}{H1:Hp}{xs:List PV}(hJ:ItR K G H1 J xs)(hl:xs.length<=1000000)
   {σc:St} {env:Env} {n:Nat} {R:List PV->Nat->Prop} {Q:VK} {D:A0} (hD:H1 D=none) (I0:Inn K T G σc H1 env n) (hp:T3 pg ptt pte xs env n R)
   (hQ:∀ys n' us H',R ys n'->(∀p∈G.pots,T.at_ (D::G.M) H' p n')->(∀b o,b∉G.pots->H1 b=some o->H' b=some o)->H' D=some (.lst us)->Reps K ⟨D::G.M,G.pots⟩ H' ys us->Q (.ref D) H') :
   CompW J g tt te Q D σc (upd H1 D (.lst [])):=by
 have nD:D∉G.pots:=λz=>I0.sr.fresh hD (I0.pots D z).1;refine⟨λi m σ H=>m=xs.length-i/\i<=xs.length/\∃env n jk us,CI K T G H1 D σ H env n jk us/\jk.length<=i/\T3 pg ptt pte (xs.drop i) env n λys n'=>R (jk++ys) n',⟨xs.length,rfl,J9 _,env,n,[],[],.start hD I0,B9 _,hp⟩,?_⟩;rintro i m σ H ⟨rfl,hi,env,n,jk,us,c,la,hc⟩;obtain⟨hgo,hstop⟩:=c.it hD hJ
 by_cases hlt:i<xs.length
 ·obtain⟨g1,g2⟩:=hgo i _ (D3 hlt);refine .inr ⟨g1,λv H2 y=>?_⟩;obtain⟨s2,rv⟩:=g2 v H2 y;rw[AO hlt] at hc;refine hg _ _ σ H2 env n xs[i] v _ _ rfl (c.inn.sr.same s2) rv hc λjc σ1 hc1 S2=>?_;refine ht _ _ σ1 H2 jc n _ _ rfl rfl S2 hc1 λb jd n2 H4 hc2 S4 f4=>?_;cases b with
  |false=>exact⟨xs.length-(i+1),Cp _ _ hlt,rfl,hlt,jd,n2,jk,us,c.go nD S4,Nat.le_succ_of_le la,hc2⟩
  | true =>
   refine he _ _ σ1 H4 jd n2 _ _ rfl rfl S4 hc2 λy je n3 u H5 hc3 S5 r5 f5=>?_;have c5:=c.go nD S5;refine⟨us,c5.eD,by rw[<- c.ra.length];exact mil' (by omega),xs.length-(i+1),Cp _ _ hlt,rfl,hlt,je,n3,jk++[y],us++[u],c5.add nD hD r5,by rw[E3,O7];omega,?_⟩;simp only[T6];exact hc3
 ·obtain rfl:i=xs.length:=Nat.le_antisymm hi (Ba hlt);refine .inl ⟨hstop _ (B9 _),?_⟩;rw[Ck] at hc;have hc':R (jk++[]) n:=hc;rw[W8] at hc';exact hQ _ n us H hc' (λp hp=>(c.inn.pots p hp).2) c.kp c.eD c.ra
end
end Pu
end
section
namespace Pu
open PySem PySem.Spec L2
section
variable {T:PotK}{ι:Type}{K:A8}{F:ι->Cx}{e a b c:Expr}{es rest:List Expr}{pe pa pb pc:pE}{pos:Pos}{pl pr:pA}{pg:pG}{pgs:pGs}{pt:pT}
def QIf {ι:Type}(T:PotK)(K:A8)(F:ι->Cx)(jj:List Expr)(pt:pT):Prop:=∃t,(∀z,PIf (F z) jj t)/\TOk K T t pt
theorem BF:QIf T K F [] qTru:=⟨_,λ_=>NL,Ou⟩
theorem Ez (h:QT T K F c pt):QIf T K F [c] pt:=let ⟨t,h1,h2⟩:=h;⟨t,λz=>NM (h1 z),h2⟩
theorem GY {C:Ct}{G:Gh}{σ:St}{H:Hp}{env:Env}{n:Nat}(S:SR C G σ H env n)(cs:List (Option Nat)):Inn C.K C.T G (j4 cs σ) H (capV cs env) n where
 pots:=S.pots
 has:=S.hasG
 mu:=S.mu
 len:=by simp[capV,j4]
 slots i s e:=by
  unfold capV at e;rw[G6] at e;cases ec:cs[i]? with
  |none=>rw[ec] at e;cases e
  | some o =>
   rw[ec] at e;cases o with
   |none=>cases e
   | some j =>
    have e':capS (env[j]?)=some s:=by simpa using e
    unfold capS at e'
    split at e'
    ·rename_i x ex;cases e';obtain⟨v,ev,r⟩:=S.slots j _ ex;refine⟨x,v,rfl,?_,r⟩;unfold j4;rw[G6,ec];simp[ev]
    ·cases e'
def cutH (H:Hp)(D:A0):Hp:=λb=>if b=D then none else H b
theorem U3 {H:Hp}{D b:A0}(h:b≠D):cutH H D b=H b:=jt h
theorem GZ {H:Hp}{D:A0}{o:HO}(h:H D=some o):upd (cutH H D) D o=H:=by
 funext b
 by_cases hb:b=D
 ·subst hb;rw[E7,h]
 ·rw[C0 hb,U3 hb]
theorem t8 {scope:G5}{cl:ι->List (Str×A0)}{N:List Str}{cs:List (Option Nat)}{ji tg iter:Expr}{jj:List Expr}{pi:pA}{ptt:pT}{pte:pE}(S:∀z,j3 (F z) scope (cl z) N cs)(hc:∀z,(F z).calm=true)(hi:QI T K F tg iter pi)
   (hg:QG K (λy:ι×List A0×A0×A5×Hp=>G9 (F y.1) scope (cl y.1) N y.2.1 y.2.2.1 y.2.2.2.1 y.2.2.2.2) tg pg) (ht:QIf T K (λy:ι×List A0×A0×A5×Hp=>G9 (F y.1) scope (cl y.1) N y.2.1 y.2.2.1 y.2.2.2.1 y.2.2.2.2) jj ptt)
   (he:QE T K (λy:ι×List A0×A0×A5×Hp=>G9 (F y.1) scope (cl y.1) N y.2.1 y.2.2.1 y.2.2.2.1 y.2.2.2.2) ji pte)
   (hs:∀z x,R0 iter (F z).env x=pure x:=by intro _ _;rfl):QN T K F (.ListComp ji [⟨tg,iter,jj,0⟩] scope pos) (V4 cs pi pg ptt pte):=by
 obtain⟨wi,i1,i2⟩:=hi;obtain⟨g,hg0,hg⟩:=hg;obtain⟨tt,ht0,ht⟩:=ht;obtain⟨te,he0,he⟩:=he;refine⟨_,λz=>Jd (S z) (hc z) (i1 z) (λfp C s H=>⟨hg0 (z,fp,C,s,H),ht0 (z,fp,C,s,H),he0 (z,fp,C,s,H)⟩) (hs z),λC G σ H env n R Q hK hT S hp k=>?_⟩;refine i2 C G σ H env n _ _ hK hT S hp λxs jc n1 J H1 p1 S1 f1 hJ=>?_;intro D hD;have hDM:=S1.fresh hD;refine Jv (G:=G) hg ht he hJ p1.1 hD (hT▸hK▸GY S1 cs) p1.2 λys n2 us H' rr hpots hk eD ry=>?_
 -- the heap without D
 have nD:∀b o,H1 b=some o->b≠D:=λb o e z=>by rw[z,hD] at e;cases e
 have hD0:C.H0 D=none:=by
  cases z:C.H0 D with
  |none=>rfl
  | some o =>
   by_cases hp:D∈C.pots0
   ·exact absurd (S1.sup D (S1.p0.1 D hp)) hDM
   ·have:=S1.frame D o hp z;rw[hD] at this;cases this
 have hk2:∀b o,b∉G.pots->H1 b=some o->cutH H' D b=some o:=λb o hb e=>by rw[U3 (nD b o e)];exact hk b o hb e
 have nc:∀b,b∉D::G.M->b≠D:=λb hb z=>hb (by rw[z];exact C3);have np:∀p∈G.pots,p≠D:=λp hp z=>hDM (z▸(S1.pots p hp).1)
 have Sb:SR C G σ (cutH H' D) jc n2:=S1.call hk2 λp hp=>by
  subst hT;have h2:=C.T.keep (hpots p hp) (H':=cutH H' D) (U3 (np p hp)) λb o hb e=>by rw[U3 (nc b hb)];exact e
  exact C.T.more h2 λa ha=>.inl (C2 _ ha)
 have:=k ys jc n2 D us (cutH H' D) rr Sb (f1.trans λb o hb e=>hk2 b o (λz=>hb (S1.pots b z).1) e) (by unfold cutH;rw[jr rfl]) ?_
 ·rw[GZ eD] at this;exact this
 ·exact Reps.mono (G:=⟨D::G.M,G.pots⟩) (λb o hb e=>by rw[U3 (nc b hb)];exact e) (λa ha=>.inl (C2 _ ha)) (λ_ _ e=>e) _ _ ry
end
end Pu
end
section
namespace Pu
open PySem PySem.Spec L2
structure j7 where
 nx:Env->Nat->Prop
 rt:PV->Nat->Prop
 bk:Env->Nat->Prop:=λ_ _=>False
 ct:Env->Nat->Prop:=λ_ _=>False
abbrev pS:=j7->Env->Nat->Prop
structure Ext (G:Gh)(H:Hp)(G':Gh)(H':Hp):Prop where
 keep:∀b o,b∉G.M->H b=some o->H' b=some o
 new:∀a∈G'.M,a∈G.M\/H a=none
 pot:∀(k:Nat) (p:A0),G.pots[k]?=some p->G'.pots[k]?=some p
theorem Ext.refl:Ext G H G H:=⟨λ_ _ _ e=>e,λ_ h=>.inl h,λ_ _ e=>e⟩
theorem Ext.fr (f:Fr G H H'):Ext G H G H':=⟨f,λ_ h=>.inl h,λ_ _ e=>e⟩
theorem Ext.trans (a:Ext G H G1 H1)(b:Ext G1 H1 G2 H2):Ext G H G2 H2 where
 keep c o hc e:=b.keep c o (λz=>(a.new c z).elim hc λz=>by rw[z] at e;cases e) (a.keep c o hc e)
 new c hc:=(b.new c hc).elim (fun z=>a.new c z) fun z=>by
  by_cases hM:c∈G.M
  ·exact .inl hM
  ·refine .inr ?_;cases e:H c with
   |none=>rfl
   |some o=>rw[a.keep c o hM e] at z;cases z
 pot k p e:=b.pot k p (a.pot k p e)
structure Link (C:Ct)(G:Gh)(H:Hp)(PD:j7)(D:Ends):Prop where
 nx:∀env n G' σ H',PD.nx env n->SR C G' σ H' env n->Ext G H G' H'->D.nx σ H'
 rt:∀x n v G' σ H' env,PD.rt x n->SR C G' σ H' env n->Rep C.K ⟨C.M0,G'.pots⟩ H' x v->Ext G H G' H'->D.rt v H'
 bk:∀env n G' σ H',PD.bk env n->SR C G' σ H' env n->Ext G H G' H'->D.bk σ H'
 ct:∀env n G' σ H',PD.ct env n->SR C G' σ H' env n->Ext G H G' H'->D.ct σ H'
theorem Link.ext (L:Link C G H PD D)(x:Ext G H G' H'):Link C G' H' PD D:=
 ⟨λenv n G2 σ H2 p S e=>L.nx env n G2 σ H2 p S (x.trans e),λy n v G2 σ H2 env p S r e=>L.rt y n v G2 σ H2 env p S r (x.trans e),λenv n G2 σ H2 p S e=>L.bk env n G2 σ H2 p S (x.trans e),λenv n G2 σ H2 p S e=>L.ct env n G2 σ H2 p S (x.trans e)⟩
def SOk (K:A8)(T:PotK)(np:Bool)(t:TS)(ps:pS):Prop:=∀(C:Ct) (G:Gh) (σ:St) (H:Hp) (env:Env) (n:Nat) (PD:j7) (D:Ends),C.K=K->C.T=T->C.np=np->SR C G σ H env n->ps PD env n->Link C G H PD D->t D σ H
def QS {ι:Type}(T:PotK)(np:Bool)(K:A8)(F:ι->Cx)(st:Stmt)(ps:pS):Prop:=∃t,(∀z,PS (F z) st t)/\SOk K T np t ps
def QSs {ι:Type}(T:PotK)(np:Bool)(K:A8)(F:ι->Cx)(st:List Stmt)(ps:pS):Prop:=∃t,(∀z,PSs (F z) st t)/\SOk K T np t ps
theorem SR.out (S:SR C G σ H env n)(r:Rep C.K G H x v):Rep C.K ⟨C.M0,G.pots⟩ H x v:=
 Rep.mono (G':=⟨C.M0,G.pots⟩) (λ_ _ _ e=>e) (λa ha=>.inl (S.sup a ha)) (λ_ _ e=>e) _ _ r
theorem SR.old (S:SR C G σ H env n)(h:H a=none):C.H0 a=none:=by
 cases z:C.H0 a with
 |none=>rfl
 | some o =>
  by_cases hp:a∈C.pots0
  ·exact absurd (S.sup a (S.p0.1 a hp)) (S.fresh h)
  ·have:=S.frame a o hp z;rw[h] at this;cases this
theorem SR.moreO (S:SR C G σ H env n)(mo:MutO ob)(h:H a=none):SR C ⟨a::G.M,G.pots⟩ σ (upd H a ob) env n where
 frame b o hb e:=Same.lay1 h b o (S.frame b o hb e)
 sub b hb:=(C6.mp hb).elim (λz=>.inr (z▸S.old h)) (S.sub b)
 sup b hb:=C2 _ (S.sup b hb)
 pots p hp:=⟨C2 _ (S.pots p hp).1,by
  have h1:=C.T.more (M':=a::G.M) (S.pots p hp).2 (λc hc=>(C6.mp hc).elim (λz=>.inr (z▸h)) .inl);obtain⟨o,e,_⟩:=C.T.mu h1
  exact C.T.keep h1 (by rw[e,Same.lay1 h p o e]) λb o _ e=>Same.lay1 h b o e⟩
 pre:=S.pre
 mu b hb:=by
  rcases C6.mp hb with rfl|hb
  ·exact⟨_,E7,mo⟩
  ·obtain⟨o,e,m⟩:=S.mu b hb;exact⟨o,Same.lay1 h b o e,m⟩
 slots i s e:=by
  have mm:∀{x:PV} {v:V},Rep C.K G H x v->Rep C.K ⟨a::G.M,G.pots⟩ (upd H a ob) x v:=λr=>Rep.mono (G':=⟨a::G.M,G.pots⟩) (H':=upd H a ob) (λb o _ e=>Same.lay1 h b o e) (λc hc=>(C6.mp (show c∈a::G.M from hc)).elim (λz=>.inr (z▸h)) .inl) (λ_ _ e=>e) _ _ r;have:=S.slots i s e;cases s with
  | v x =>
   obtain⟨v,e1,r⟩:=this;exact⟨v,e1,mm r⟩
  | ow kk xs =>
   obtain⟨b,us,e1,h1,h2,h3,h4,r⟩:=this;exact⟨b,us,e1,C2 _ h1,h2,h3,Same.lay1 h _ _ h4,Reps.mono (G':=⟨a::G.M,G.pots⟩) (H':=upd H a ob) (λb o _ e=>Same.lay1 h b o e) (λc hc=>(C6.mp (show c∈a::G.M from hc)).elim (λz=>.inr (z▸h)) .inl) (λ_ _ e=>e) _ _ r⟩
 inj:=S.inj
 p0:=S.p0
 len:=S.len
 newp:=S.newp
theorem SR.more (S:SR C G σ H env n)(h:H a=none):SR C ⟨a::G.M,G.pots⟩ σ (upd H a (.lst vs)) env n:=S.moreO (ob:=.lst vs) trivial h
theorem SR.ow (S:SR C G σ H env n)(i:Nat)(kk:OK)(h:H a=none)(r:Reps C.K G H xs vs) :
   SR C ⟨a::G.M,G.pots⟩ (σ.set i (some (.ref a))) (upd H a (mkO kk vs)) (env.set i (some (.ow kk xs))) n:=by
 have S1:=S.moreO (Jj kk vs) h;have aM:a∉G.M:=S.fresh h;have r1:Reps C.K ⟨a::G.M,G.pots⟩ (upd H a (mkO kk vs)) xs vs:=Reps.mono (G':=⟨a::G.M,G.pots⟩) (H':=upd H a (mkO kk vs)) (λb o _ e=>Same.lay1 h b o e) (λc hc=>(C6.mp (show c∈a::G.M from hc)).elim (λz=>.inr (z▸h)) .inl) (λ_ _ e=>e) _ _ r
 have ja:∀(j:Nat) (ys:OK×List PV),env[j]?=some (some (Slot.ow ys.1 ys.2))->σ[j]?≠some (some (.ref a)):=by
  intro j ys e z;obtain⟨b,us,e1,h1,_⟩:=S.slots j _ e;rw[z] at e1;cases e1;exact aM h1
 exact {
  frame:=S1.frame
  sub:=S1.sub
  sup:=S1.sup
  pots:=S1.pots
  pre:=S1.pre
  mu:=S1.mu
  slots:=λj s e=>by
   by_cases hj:i=j
   ·subst hj
    by_cases hl:i<env.length
    ·rw[N9 hl] at e;cases e;exact⟨a,vs,by rw[N9 (by rw[<- S.len];exact hl)],C3,λz=>aM (S.sup a z),λz=>aM (S.pots a z).1,E7,r1⟩
    ·rw[W6 (by rw[O9];omega)] at e;cases e
   ·rw[Q1 hj] at e ⊢;exact S1.slots j s e
  inj:=fun j k xs' ys b e1 e2 e3 e4=>by
   by_cases hj:i=j
   ·by_cases hk:i=k
    ·omega
    ·subst hj;rw[Q1 hk] at e2 e4
     by_cases hl:i<σ.length
     ·rw[N9 hl] at e3;cases e3;exact absurd e4 (ja k ys e2)
     ·rw[W6 (by rw[O9];omega)] at e3;cases e3
   ·rw[Q1 hj] at e1 e3
    by_cases hk:i=k
    ·subst hk
     by_cases hl:i<σ.length
     ·rw[N9 hl] at e4;cases e4;exact absurd e3 (ja j xs' e1)
     ·rw[W6 (by rw[O9];omega)] at e4;cases e4
    ·rw[Q1 hk] at e2 e4;exact S.inj j k xs' ys b e1 e2 e3 e4
  p0:=S.p0
  len:=by rw[O9,O9];exact S.len
  newp:=S.newp }
theorem SR.own (S:SR C G σ H env n)(i:Nat)(h:H a=none)(r:Reps C.K G H xs vs) :
   SR C ⟨a::G.M,G.pots⟩ (σ.set i (some (.ref a))) (upd H a (.lst vs)) (env.set i (some (.ow .lst xs))) n:=S.ow i .lst h r
theorem SR.putO {C:Ct}{G:Gh}{σ:St}{H:Hp}{env:Env}{n:Nat}(S:SR C G σ H env n){i:Nat}{kk:OK}(k':OK){a:A0}{xs ys:List PV}{vs:List V}(e:env[i]?=some (some (.ow kk xs)))(ea:σ[i]?=some (some (.ref a)))(r:Reps C.K G H ys vs) :
   SR C G σ (upd H a (mkO k' vs)) (env.set i (some (.ow k' ys))) n/\Fr G H (upd H a (mkO k' vs)):=by
 obtain⟨a',us,ea',aM,a0,ap,eH,_⟩:=S.slots i _ e;rw[ea] at ea';cases ea';have f:Fr G H (upd H a (mkO k' vs)):=λb o hb he=>by rw[C0 (λz=>hb (by grind))];exact he
 refine⟨{
  frame:=λb o hb he=>?_
  sub:=S.sub
  sup:=S.sup
  pots:=λp hp=>⟨(S.pots p hp).1,C.T.keep (S.pots p hp).2 (C0 λz=>ap (by grind)) f⟩
  pre:=S.pre
  mu:=λb hb=>?_
  slots:=λj s es=>?_
  inj:=λj k xs' ys' b e1 e2 e3 e4=>?_
  p0:=S.p0
  len:=by rw[O9];exact S.len
  newp:=S.newp },f⟩
 ·have hb2:b≠a:=λz=>by
   rcases S.sub a aM with z2|z2
   ·grind
   ·grind
  rw[C0 hb2];exact S.frame b o hb he
 ·by_cases hba:b=a
  ·subst hba;exact⟨_,E7,Jj k' vs⟩
  ·obtain⟨o,he,m⟩:=S.mu b hb;exact⟨o,by rw[C0 hba];exact he,m⟩
 ·by_cases hj:i=j
  ·subst hj;have hl:i<env.length:=(F7.mp e).1;rw[N9 hl] at es;cases es;exact⟨a,vs,ea,aM,a0,ap,E7,r.fr f⟩
  ·rw[Q1 hj] at es;have:=S.slots j s es;cases s with
   | v x =>
    obtain⟨v,e1,r⟩:=this;exact⟨v,e1,r.fr f⟩
   | ow kz zs =>
    obtain⟨b,us',e1,h1,h2,h3,h4,r⟩:=this;have hba:b≠a:=λz=>hj (S.inj i j (kk,xs) (kz,zs) a e es ea (by rw[e1,z]));exact⟨b,us',e1,h1,h2,h3,by rw[C0 hba];exact h4,r.fr f⟩
 ·have back:∀(j:Nat) (zs:OK×List PV),(env.set i (some (.ow k' ys)))[j]?=some (some (Slot.ow zs.1 zs.2))->∃zs':OK×List PV,env[j]?=some (some (.ow zs'.1 zs'.2)):=by
   intro j zs h
   by_cases hj:i=j
   ·simp_all
   ·grind
  obtain⟨z1,e1'⟩:=back j xs' e1;obtain⟨z2,e2'⟩:=back k ys' e2;exact S.inj j k z1 z2 b e1' e2' e3 e4
theorem SR.put (S:SR C G σ H env n)(e:env[i]?=some (some (.ow .lst xs)))(ea:σ[i]?=some (some (.ref a)))(r:Reps C.K G H ys vs) :
   SR C G σ (upd H a (.lst vs)) (env.set i (some (.ow .lst ys))) n/\Fr G H (upd H a (.lst vs)):=S.putO .lst e ea r
section
variable {T:PotK}{np:Bool}{ι:Type}{K:A8}{F:ι->Cx}{e a b c:Expr}{es:List Expr}{st:Stmt}{rest:List Stmt}{pe pa pb pc:pE}{pos:Pos}{pl pr:pA}{pg:pG}{pt:pT}{p1 p2:pS}
def qNx:pS:=λD env n=>D.nx env n
def qSeq (p q:pS):pS:=λD env n=>p { D with nx:=λe m=>q D e m } env n
theorem D9:QSs T np K F [] qNx:=⟨_,λ_=>IH,λC G σ H env n PD D hK hT hn S hp L=>L.nx _ _ _ _ _ hp S Ext.refl⟩
theorem B6 (h:QS T np K F st p1):QSs T np K F [st] p1:=let ⟨t,h1,h2⟩:=h;⟨t,λz=>Eg (h1 z),h2⟩
theorem B4 (h:QS T np K F st p1)(h':QSs T np K F rest p2):QSs T np K F (st::rest) (qSeq p1 p2):=by
 obtain⟨t,a1,a2⟩:=h;obtain⟨u,b1,b2⟩:=h';refine⟨_,λz=>X6 (a1 z) (b1 z),λC G σ H env n PD D hK hT hn S hp L=>?_⟩;refine a2 C G σ H env n _ _ hK hT hn S hp ⟨λjc n1 G1 σ1 H1 q1 S1 x1=>?_,L.rt,L.bk,L.ct⟩;exact b2 C G1 σ1 H1 jc n1 PD D hK hT hn S1 q1 (L.ext x1)
theorem sw_set (hN:X.N.Nodup)(hi:X.N[i]?=some x)(hx:Loc X.env.scope x)(hs:k9 e (some (.Name x pos')) pos.line X.env=pure false:=by rfl)(hf:X.fn x=true\/X.env.scope.names.lookup x=some .local:=by first|exact .inl rfl|exact .inr rfl|assumption)(te:TE)(h:EW X e te):SW X (.Assign [.Name x pos'] e pos) (tAsg te (M1 i)):=⟨p6 hN hi hx h.h hs hf⟩
theorem c6 (hs:AI [tg] e pos.line X.env=pure false:=by rfl)(hw:AJ [tg] e X.env=pure none:=by rfl)(h1:(K6 [tg] X.env).map (·.2)=[assign tg X.env]:=by rfl)(te:TE)(g:TG)(h:EW X e te)(hg:GW X tg g):SW X (.Assign [tg] e pos) (tAsg te g):=⟨Gg h.h hg.h hs hw h1⟩
theorem c7 (hs:k9 e none pos.line X.env=pure false:=by rfl)(te:TE)(h:EW X e te):SW X (.Expr e pos) (Gb te):=⟨MM h.h hs⟩
def qSet (i:Nat)(pe:pE):pS:=λD env n=>pe env n λx jc n1=>D.nx (jc.set i (some (.v x))) n1
theorem F9 (i:Nat)(h:∀z te,EW (F z) e te->SW (F z) st (tAsg te (M1 i)))(he:QE T K F e pe):QS T np K F st (qSet i pe):=by
 obtain⟨t,a1,a2⟩:=he;refine⟨_,λz=>(h z _ ⟨a1 z⟩).h,λC G σ H env n PD D hK hT hn S hp L=>?_⟩;refine a2 C G σ H env n _ _ hK hT S hp λx jc n1 v H1 q1 S1 r1 f1=>?_;exact L.nx _ _ _ _ _ q1 (S1.set i (hK▸r1)) (Ext.fr f1)
def qOwn (i:Nat)(pn:pA):pS:=λD env n=>pn env n λxs jc n1=>D.nx (jc.set i (some (.ow .lst xs))) n1
theorem CQ {a:A0}(h:H a=none):Ext G H ⟨a::G.M,G.pots⟩ (upd H a o):=⟨λb u _ e=>Same.lay1 h b u e,λc hc=>(C6.mp (show c∈a::G.M from hc)).elim (λz=>.inr (z▸h)) .inl,λ_ _ e=>e⟩
theorem qs_own (i:Nat)(h:∀z te,EW (F z) e te->SW (F z) st (tAsg te (M1 i)))(he:QN T K F e pl):QS T np K F st (qOwn i pl):=by
 obtain⟨t,a1,a2⟩:=he;refine⟨_,λz=>(h z _ ⟨a1 z⟩).h,λC G σ H env n PD D hK hT hn S hp L=>?_⟩;refine a2 C G σ H env n _ _ hK hT S hp λxs jc n1 a vs Hb q1 S1 f1 hn1 r1=>?_;exact L.nx _ _ _ _ _ q1 (S1.own i hn1 (hK▸r1)) ((Ext.fr f1).trans (CQ hn1))
def qAsg (pe:pE)(g:pG):pS:=λD env n=>pe env n λx jc n1=>g x jc λjd=>D.nx jd n1
theorem BG (h:∀z te g,EW (F z) e te->GW (F z) tg g->SW (F z) st (tAsg te g))(he:QE T K F e pe)(hg:QG K F tg pg):QS T np K F st (qAsg pe pg):=by
 obtain⟨t,a1,a2⟩:=he;obtain⟨g,b1,b2⟩:=hg;refine⟨_,λz=>(h z _ _ ⟨a1 z⟩ ⟨b1 z⟩).h,λC G σ H env n PD D hK hT hn S hp L=>?_⟩;refine a2 C G σ H env n _ _ hK hT S hp λx jc n1 v H1 q1 S1 r1 f1=>?_;exact b2 C G σ H1 jc n1 x v _ _ hK S1 r1 q1 λjh σ' re S'=>L.nx _ _ _ _ _ re S' (Ext.fr f1)
def Q3 (pe:pE):pS:=λD env n=>pe env n λ_ jc n1=>D.nx jc n1
theorem c8 (h:∀z te,EW (F z) e te->SW (F z) st (Gb te))(he:QE T K F e pe):QS T np K F st (Q3 pe):=by
 obtain⟨t,a1,a2⟩:=he;refine⟨_,λz=>(h z _ ⟨a1 z⟩).h,λC G σ H env n PD D hK hT hn S hp L=>?_⟩;exact a2 C G σ H env n _ _ hK hT S hp λx jc n1 v H1 q1 S1 r1 f1=>L.nx _ _ _ _ _ q1 S1 (Ext.fr f1)
def qRet (pe:pE):pS:=λD env n=>pe env n λx _ n1=>D.rt x n1
theorem C9 (he:QE T K F e pe):QS T np K F (.Return (some e) pos) (qRet pe):=by
 obtain⟨t,a1,a2⟩:=he;refine⟨_,λz=>CC (a1 z),λC G σ H env n PD D hK hT hn S hp L=>?_⟩;exact a2 C G σ H env n _ _ hK hT S hp λx jc n1 v H1 q1 S1 r1 f1=>L.rt _ _ _ _ _ _ _ q1 S1 (S1.out (hK▸r1)) (Ext.fr f1)
def EA (i:Nat):pS:=λD env n=>match env[i]? with|some (some (.ow .lst xs))=>D.rt (.lst xs) n|_=>False
theorem Ov (i:Nat)(h:∀z,EW (F z) (.Name x p) (tVar i)):QS T np K F (.Return (some (.Name x p)) pos) (EA i):=by
 refine⟨_,λz=>CC (h z).h,λC G σ H env n PD D hK hT hn S hp L=>?_⟩;unfold EA at hp
 split at hp
 ·rename_i xs ex;obtain⟨a,vs,ev,h1,h2,h3,h4,r⟩:=S.slots i _ ex;refine⟨.ref a,ev,L.rt _ _ _ _ _ _ _ hp S ⟨a,vs,rfl,⟨h2,h4⟩,?_⟩ Ext.refl⟩;exact Reps.mono (G':=⟨C.M0,G.pots⟩) (λ_ _ _ e=>e) (λa ha=>.inl (S.sup a ha)) (λ_ _ e=>e) _ _ r
 ·exact hp.elim
def qIfS (t:pT)(p q:pS):pS:=λD env n=>t env n λb jc n1=>if b=true then p D jc n1 else q D jc n1
theorem E1 (hc:QT T K F c pt)(h1:QSs T np K F x p1)(h2:QSs T np K F y p2):QS T np K F (.If c x y pos) (qIfS pt p1 p2):=by
 obtain⟨tc,c1,c2⟩:=hc;obtain⟨t,a1,a2⟩:=h1;obtain⟨u,b1,b2⟩:=h2;refine⟨_,λz=>ps_if (c1 z) (a1 z) (b1 z),λC G σ H env n PD D hK hT hn S hp L=>?_⟩;refine c2 C G σ H env n _ _ hK hT S hp λd jc n1 H1 q1 S1 f1=>?_;cases d with
 |true=>exact a2 C G σ H1 jc n1 PD D hK hT hn S1 q1 (L.ext (Ext.fr f1))
 |false=>exact b2 C G σ H1 jc n1 PD D hK hT hn S1 q1 (L.ext (Ext.fr f1))
def forL (g:pG)(b:pS)(D:j7):List PV->Env->Nat->Prop
 |[],env,n=>D.nx env n
 |x::xs,env,n=>g x env λjc=>b { D with nx:=λe m=>forL g b D xs e m,ct:=λe m=>forL g b D xs e m,bk:=D.nx } jc n
def qFor (pi:pA)(g:pG)(b:pS):pS:=λD env n=>pi env n λxs jc n1=>forL g b D xs jc n1
theorem V5 (hc:∀z,(F z).calm=true)(hi:QI T K F tg iter pl)(hg:QG K F tg pg)(hb:QSs T np K F body p1)(hp:∀z,PassesOwn (A9 (F z).prog (F z).w) (F z).A (F z).env (F z).xe:=by intro _;exact PassesOwn.never)(hs:∀z x,R0 iter (F z).env x=pure x:=by intro _ _;rfl):QS T np K F (.For tg iter body [] pos) (qFor pl pg p1):=by
 obtain⟨wi,i1,i2⟩:=hi;obtain⟨g,g1,g2⟩:=hg;obtain⟨t,b1,b2⟩:=hb;refine⟨_,λz=>ps_for (hp z) (hc z) (i1 z) (g1 z) (b1 z) (hs z),λC G σ H env n PD D hK hT hn S hp L=>?_⟩;refine i2 C G σ H env n _ _ hK hT S hp λxs jc n1 J H1 q1 S1 f1 hJ=>?_;have L1:=L.ext (Ext.fr f1);refine⟨λi m σ H=>m=xs.length-i/\i<=xs.length/\∃G' env n,SR C G' σ H env n/\Ext G H1 G' H/\forL pg p1 PD (xs.drop i) env n,⟨xs.length,by simp,J9 _,G,jc,n1,S1,Ext.refl,by simpa using q1⟩,?_⟩;rintro i m σ' H' ⟨rfl,hi,G',jh,n',S',x',q'⟩;have hf:∀p,H' p=none->p∉G'.M:=λp hp=>S'.fresh hp;obtain⟨hgo,hstop⟩:=hJ G' H' x'.keep x'.new x'.pot hf
 by_cases hlt:i<xs.length
 ·obtain⟨go1,go2⟩:=hgo i _ (D3 hlt);rw[AO hlt] at q';refine .inr ⟨go1,λσ H=>∃G' env n,SR C G' σ H env n/\Ext G H1 G' H/\forL pg p1 PD (xs.drop (i+1)) env n,λσ2 H2 h2=>⟨xs.length-(i+1),by omega,rfl,hlt,h2⟩,λv H2 y=>?_⟩;obtain⟨s2,rv⟩:=go2 v H2 y;have x2:Ext G' H' G' H2:=Ext.fr (Fr.of s2);refine g2 C G' σ' H2 jh n' _ v _ _ hK (S'.same s2) rv q' λjd σ2 q2 S2=>?_;refine b2 C G' σ2 H2 jd n' _ _ hK hT hn S2 q2 ⟨λe3 n3 G3 σ3 H3 q3 S3 x3=>?_,λy n3 v G3 σ3 H3 e3 q3 S3 r3 x3=>?_,λe3 n3 G3 σ3 H3 q3 S3 x3=>?_,λe3 n3 G3 σ3 H3 q3 S3 x3=>?_⟩
  ·exact⟨G3,e3,n3,S3,(x'.trans x2).trans x3,q3⟩
  ·exact L1.rt _ _ _ _ _ _ _ q3 S3 r3 ((x'.trans x2).trans x3)
  ·exact L1.nx _ _ _ _ _ q3 S3 ((x'.trans x2).trans x3)
  ·exact⟨G3,e3,n3,S3,(x'.trans x2).trans x3,q3⟩
 ·have ei:i=xs.length:=by omega
  subst ei;rw[Ck] at q';exact .inl ⟨hstop _ (B9 _),L1.nx _ _ _ _ _ q' S' x'⟩
def t9 (t:pT)(b:pS)(D:j7):Nat->Env->Nat->Prop
 |0,_,_=>False
 |k+1,env,n=>t env n λc jc n1=>if c=true then b { D with nx:=λe m=>t9 t b D k e m,ct:=λe m=>t9 t b D k e m,bk:=D.nx } jc n1 else D.nx jc n1
def Jw (t:pT)(b:pS):pS:=λD env n=>∃k,t9 t b D k env n
theorem Ow (hc:QT T K F c pt)(hb:QSs T np K F body p1)(hp:∀z,PassesOwn (A9 (F z).prog (F z).w) (F z).A (F z).env (F z).xe:=by intro _;exact PassesOwn.never):QS T np K F (.While c body [] pos) (Jw pt p1):=by
 obtain⟨tc,c1,c2⟩:=hc;obtain⟨t,b1,b2⟩:=hb;refine⟨_,λz=>MO (hp z) (c1 z) (b1 z),λC G σ H env n PD D hK hT hn S hp L=>?_⟩;obtain⟨k,hp⟩:=hp;refine⟨λm σ H'=>∃G' env n,SR C G' σ H' env n/\Ext G H G' H'/\t9 pt p1 PD m env n,⟨k,G,env,n,S,Ext.refl,hp⟩,?_⟩;rintro m σ1 H1 ⟨G1,jc,n1,S1,x1,q1⟩;cases m with
 |zero=>exact q1.elim
 | succ m =>
  refine c2 C G1 σ1 H1 jc n1 _ _ hK hT S1 q1 λd jd n2 H2 q2 S2 f2=>?_;have x2:=x1.trans (Ext.fr f2);cases d with
  |false=>exact iteF (L.nx _ _ _ _ _ q2 S2 x2)
  | true =>
   refine iteT ⟨λσ H'=>∃G' env n,SR C G' σ H' env n/\Ext G H G' H'/\t9 pt p1 PD m env n,λσ' H' h=>⟨m,by omega,h⟩,?_⟩;exact b2 C G1 σ1 H2 jd n2 _ _ hK hT hn S2 q2 ⟨λe3 n3 G3 σ3 H3 q3 S3 x3=>⟨G3,e3,n3,S3,x2.trans x3,q3⟩,λy n3 v G3 σ3 H3 e3 q3 S3 r3 x3=>L.rt _ _ _ _ _ _ _ q3 S3 r3 (x2.trans x3),λe3 n3 G3 σ3 H3 q3 S3 x3=>L.nx _ _ _ _ _ q3 S3 (x2.trans x3),λe3 n3 G3 σ3 H3 q3 S3 x3=>⟨G3,e3,n3,S3,x2.trans x3,q3⟩⟩
def G_ (i:Nat)(pe:pE):pE:=λenv n R=>pe env n λy jc n1=>match jc[i]? with|some (some (.ow .lst xs))=>xs.length<1000000/\R .non (jc.set i (some (.ow .lst (xs++[y])))) n1|_=>False
theorem Ao (i:Nat)(hv:∀z,EW (F z) (.Name x p) (tVar i))(he:QE T K F e pe)(hs:F5 e=true:=by rfl)(hbase:∀z,x6 (.Name x p) "append" (F z).env (eval (.Name x p) (F z).env)=eval (.Name x p) (F z).env:=by intro _;rfl)(hline:(ap.endLine == pos.line)=true:=by rfl)
   (hfew:∀z,((backTo pos (E9 [e] (F z).env)).all (λx=>!x.1)&&(Z0 pos (Y8 [] (F z).env)).all (λx=>x.1.isSome)&&decide (([e]:List Expr).length+([]:List Q4).length+(if([]:List Q4).isEmpty then 0 else 1)<30))=true:=by intro _;rfl) (hK:∀z,(F z).K=K:=by intro _;rfl):QE T K F (.Call (.Attribute (.Name x p) "append" ap) [e] [] pos) (λenv n R=>(∃xs,env[i]?=some (some (.ow .lst xs)))/\G_ i pe env n R):=by
 obtain⟨t,a1,a2⟩:=he;refine⟨tBM K "list" IY (tVar i) (U1 t tNil),λz=>hK z▸Bx Eb PySem.F.slot_list_append PySem.F.type_list_append IZ (hv z).h (E8 (a1 z) J6 (D8 hs)) (hbase z) (hfew z) hline (D8 hs),λC G σ H env n R Q hK hT S hp k=>?_⟩;obtain⟨⟨xs0,e0⟩,hp⟩:=hp;obtain⟨a,vs,ev,h1,h2,h3,h4,r⟩:=S.slots i _ e0;refine⟨.ref a,ev,.inl ⟨rfl,vs,SqL.of h4⟩,?_⟩;refine a2 C G σ H env n _ _ hK hT S hp λy jc n1 v H1 q1 S1 r1 f1=>?_
 split at q1
 ·rename_i xs ex;obtain⟨a',us,ev',g1,g2,g3,g4,r'⟩:=S1.slots i _ ex;rw[ev] at ev';cases ev';subst hK;obtain⟨S2,f2⟩:=S1.put ex ev (r'.append (.one r1));exact⟨a,us,v,rfl,rfl,g4,by rw[<- r'.length];exact mil' (by omega),k _ _ _ _ _ q1.2 S2 rfl (f1.trans f2)⟩
 ·exact q1.elim
def Ha (i:Nat)(pe:pE):pE:=λenv n R=>pe env n λy jc n1=>match jc[i]?,y with|some (some (.ow .lst xs)),.int d=>xs.length<=1000000/\(match ixN xs.length d with|some j=>(match xs[j]? with|some z=>R z (jc.set i (some (.ow .lst (xs.eraseIdx j)))) n1|none=>False)|none=>False)|_,_=>False
theorem Ox (i:Nat)(hv:∀z,EW (F z) (.Name x p) (tVar i))(he:QE T K F e pe)(hs:F5 e=true:=by rfl)(hbase:∀z,x6 (.Name x p) "pop" (F z).env (eval (.Name x p) (F z).env)=eval (.Name x p) (F z).env:=by intro _;rfl)(hline:(ap.endLine == pos.line)=true:=by rfl)
   (hfew:∀z,((backTo pos (E9 [e] (F z).env)).all (λx=>!x.1)&&(Z0 pos (Y8 [] (F z).env)).all (λx=>x.1.isSome)&&decide (([e]:List Expr).length+([]:List Q4).length+(if([]:List Q4).isEmpty then 0 else 1)<30))=true:=by intro _;rfl) (hK:∀z,(F z).K=K:=by intro _;rfl) :
   QE T K F (.Call (.Attribute (.Name x p) "pop" ap) [e] [] pos) (λenv n R=>(∃xs,env[i]?=some (some (.ow .lst xs)))/\Ha i pe env n R):=by
 obtain⟨t,a1,a2⟩:=he;refine⟨tBM K "list" Ja (tVar i) (U1 t tNil),λz=>hK z▸Bx Eb PySem.F.slot_list_pop PySem.F.type_list_pop NG (hv z).h (E8 (a1 z) J6 (D8 hs)) (hbase z) (hfew z) hline (D8 hs),λC G σ H env n R Q hK hT S hp k=>?_⟩;obtain⟨⟨xs0,e0⟩,hp⟩:=hp;obtain⟨a,vs,ev,h1,h2,h3,h4,r⟩:=S.slots i _ e0;refine⟨.ref a,ev,.inl ⟨rfl,vs,SqL.of h4⟩,?_⟩;refine a2 C G σ H env n _ _ hK hT S hp λy jc n1 v H1 q1 S1 r1 f1=>?_
 split at q1
 ·rename_i xs d ex;obtain⟨hlen,q1⟩:=q1
  split at q1
  ·rename_i j ej
   split at q1
   ·rename_i z ez;obtain⟨a',us,ev',g1,g2,g3,g4,r'⟩:=S1.slots i _ ex;rw[ev] at ev';cases ev';subst hK;obtain⟨S2,f2⟩:=S1.put ex ev (r'.eraseIdx j);obtain⟨w,e1,rw'⟩:=r'.get' ez;obtain⟨q1',q2',q3',q4'⟩:=Gr ej;refine⟨a,us,d,j,w,rfl,by rw[show v=.int d from r1],g4,?_,?_,by rw[<- r'.length];exact q1',e1,k _ _ _ _ _ q1 S2 (rw'.fr f2) (f1.trans f2)⟩
    ·omega
    ·omega
   ·exact q1.elim
  ·exact q1.elim
 ·exact q1.elim
end
end Pu
end
section
namespace Pu
open PySem PySem.Spec L2
abbrev pSl:=Env->Nat->(Slot->Env->Nat->Prop)->Prop
def Ap (σ:St)(env:Env)(a:A0):Prop:=∃(j:Nat) (ys:OK×List PV),env[j]?=some (some (.ow ys.1 ys.2))/\σ[j]?=some (some (.ref a))
theorem SR.slot (S:SR C G σ H env n)(i:Nat)(r:CK C G H (some (some v)) s)(h:∀(xs:OK×List PV) a,s=.ow xs.1 xs.2->v=.ref a->¬Ap σ env a):SR C G (σ.set i (some v)) H (env.set i (some s)) n where
 frame:=S.frame
 sub:=S.sub
 sup:=S.sup
 pots:=S.pots
 pre:=S.pre
 mu:=S.mu
 slots j t e:=by
  by_cases hj:i=j
  ·subst hj
   by_cases hl:i<env.length
   ·rw[N9 hl] at e;cases e;rw[N9 (by rw[<- S.len];exact hl)];exact r
   ·rw[W6 (by rw[O9];omega)] at e;cases e
  ·rw[Q1 hj] at e ⊢;exact S.slots j t e
 inj j k xs ys b e1 e2 e3 e4:=by
  by_cases hj:i=j
  ·by_cases hk:i=k
   ·omega
   ·subst hj;rw[Q1 hk] at e2 e4
    by_cases hl:i<env.length
    ·rw[N9 hl] at e1;rw[N9 (by rw[<- S.len];exact hl)] at e3;cases e1;cases e3;exact absurd ⟨k,ys,e2,e4⟩ (h xs b rfl rfl)
    ·rw[W6 (by rw[O9];omega)] at e1;cases e1
  ·rw[Q1 hj] at e1 e3
   by_cases hk:i=k
   ·subst hk
    by_cases hl:i<env.length
    ·rw[N9 hl] at e2;rw[N9 (by rw[<- S.len];exact hl)] at e4;cases e2;cases e4;exact absurd ⟨j,xs,e1,e3⟩ (h ys b rfl rfl)
    ·rw[W6 (by rw[O9];omega)] at e2;cases e2
   ·rw[Q1 hk] at e2 e4;exact S.inj j k xs ys b e1 e2 e3 e4
 p0:=S.p0
 len:=by rw[O9,O9];exact S.len
 newp:=S.newp
def Ct.guard (C:Ct)(a:A0)(vs:List V):Ct:={ C with M0:=a::C.M0,H0:=upd C.H0 a (.lst vs) }
theorem SR.guard (S:SR C G σ H env n)(vs:List V)(h:H a=none):SR (C.guard a vs) ⟨a::G.M,G.pots⟩ σ (upd H a (.lst vs)) env n:=by
 have S1:=S.more (vs:=vs) h;have aM:=S.fresh h
 exact {
  frame:=λb o hb e=>by
   by_cases hba:b=a
   ·subst hba;have e':upd C.H0 b (.lst vs) b=some o:=e;rw[E7] at e' ⊢;exact e'
   ·have e':upd C.H0 a (.lst vs) b=some o:=e;rw[C0 hba] at e';exact S1.frame b o hb e'
  sub:=fun b hb=>by
   by_cases hba:b=a
   ·exact .inl (by rw[hba];exact C3)
   ·rcases S1.sub b hb with z|z
    ·exact .inl (C2 _ z)
    ·refine .inr ?_;show upd C.H0 a (.lst vs) b=none;rw[C0 hba];exact z
  sup:=λb hb=>by
   rcases C6.mp (show b∈a::C.M0 from hb) with rfl|z
   ·exact C3
   ·exact S1.sup b z
  pots:=S1.pots
  pre:=S1.pre
  mu:=S1.mu
  slots:=λi s e=>by
   cases s with
   | v x =>
    obtain⟨v,ev,r⟩:=S1.slots i _ e;exact⟨v,ev,r⟩
   | ow kk xs =>
    obtain⟨b,us,ev,h1,h2,h3,h4,r⟩:=S1.slots i _ e;obtain⟨b',us',ev',g1,_⟩:=S.slots i _ e;rw[ev] at ev';cases ev';refine⟨b,us,ev,h1,λz=>?_,h3,h4,r⟩;rcases C6.mp (show b∈a::C.M0 from z) with rfl|z
    ·exact aM g1
    ·exact h2 z
  inj:=S1.inj
  p0:=⟨λp hp=>C2 _ (S1.p0.1 p hp),S1.p0.2⟩
  len:=S1.len
  newp:=λp hp hn hM=>by
   rcases C6.mp (show p∈a::C.M0 from hM) with rfl|z
   ·exact aM (S.pots p hp).1
   ·exact S1.newp p hp hn z }
theorem SR.unguard (S:SR (C.guard a vs) G σ H env n)(ha:a∉C.M0)(hp0:∀p∈C.pots0,p∈C.M0)(h0:C.H0 a=none):SR C G σ H env n/\H a=some (.lst vs)/\¬Ap σ env a:=by
 have hap:a∉C.pots0:=λz=>ha (hp0 a z)
 refine⟨{
  frame:=λb o hb e=>S.frame b o hb (by
   show upd C.H0 a (.lst vs) b=some o
   rw[C0 (λz=>by rw[z,h0] at e;cases e)];exact e)
  sub:=fun b hb=>by
   by_cases hba:b=a
   ·exact .inr (hba▸h0)
   ·rcases S.sub b hb with z|z
    ·rcases C6.mp (show b∈a::C.M0 from z) with z|z
     ·exact absurd z hba
     ·exact .inl z
    ·have z':upd C.H0 a (.lst vs) b=none:=z;rw[C0 hba] at z';exact .inr z'
  sup:=λb hb=>S.sup b (C2 _ hb)
  pots:=S.pots
  pre:=S.pre
  mu:=S.mu
  slots:=λi s e=>by
   cases s with
   | v x =>
    obtain⟨v,ev,r⟩:=S.slots i _ e;exact⟨v,ev,r⟩
   | ow kk xs =>
    obtain⟨b,us,ev,h1,h2,h3,h4,r⟩:=S.slots i _ e;exact⟨b,us,ev,h1,λz=>h2 (C2 _ z),h3,h4,r⟩
  inj:=S.inj
  p0:=⟨hp0,S.p0.2⟩
  len:=S.len
  newp:=λp hp hn hM=>S.newp p hp hn (C2 _ hM) },S.frame a _ hap E7,?_⟩
 rintro⟨j,ys,e1,e2⟩;obtain⟨b,us,ev,h1,h2,_⟩:=S.slots j _ e1;rw[e2] at ev;cases ev;exact h2 C3
def LOk (K:A8)(T:PotK)(t:TE)(pl:pSl):Prop:=∀(C:Ct) (G:Gh) (σ:St) (H:Hp) (env:Env) (n:Nat) (R:Slot->Env->Nat->Prop) (Q:VK),C.K=K->C.T=T->SR C G σ H env n->pl env n R->
 (∀x jh n' v H',R (.v x) jh n'->SR C G σ H' jh n'->Rep K G H' x v->Fr G H H'->Q v H')->
 (∀xs jh n' a vs Hb,R (.ow .lst xs) jh n'->SR C G σ Hb jh n'->Fr G H Hb->Hb a=none->Reps K G Hb xs vs->Q (.ref a) (upd Hb a (.lst vs)))->t σ H Q
def QL {ι:Type}(T:PotK)(K:A8)(F:ι->Cx)(e:Expr)(pl:pSl):Prop:=∃t,(∀z,PE (F z) e t)/\LOk K T t pl
def sV (pe:pE):pSl:=λenv n R=>pe env n λx jc n1=>R (.v x) jc n1
def sO (pn:pA):pSl:=λenv n R=>pn env n λxs jc n1=>R (.ow .lst xs) jc n1
section
variable {T:PotK}{np:Bool}{ι:Type}{K:A8}{F:ι->Cx}{e a b c:Expr}{es:List Expr}{st:Stmt}{rest:List Stmt}{pe pa pb pc:pE}{pos:Pos}{pl pr:pA}{pg:pG}{pt:pT}{p1 p2:pS}{s1 s2 s3:pSl}
theorem ql_v (h:QE T K F e pe):QL T K F e (sV pe):=let ⟨t,h1,h2⟩:=h;⟨t,h1,λC G σ H env n R Q hK hT S hp k _=>h2 C G σ H env n _ _ hK hT S hp λx jh n' v H' r S' rp f=>k x jh n' v H' r S' rp f⟩
theorem ql_o (h:QN T K F e pl):QL T K F e (sO pl):=let ⟨t,h1,h2⟩:=h;⟨t,h1,λC G σ H env n R Q hK hT S hp _ k=>h2 C G σ H env n _ _ hK hT S hp λxs jh n' a vs Hb r S' f hn rs=>k xs jh n' a vs Hb r S' f hn rs⟩
def Got (C:Ct)(G:Gh)(H:Hp)(σ:St)(env:Env)(s:Slot)(v:V):Prop:=CK C G H (some (some v)) s/\∀(xs:OK×List PV) a,s=.ow xs.1 xs.2->v=.ref a->¬Ap σ env a
theorem Jx (h:LOk K T t s1)(hK:C.K=K)(hT:C.T=T)(S:SR C G σ H env n)(hp:s1 env n R)
   (k:∀s jh n' v G' H',R s jh n'->SR C G' σ H' jh n'->Ext G H G' H'->Got C G' H' σ jh s v->Q v H'):t σ H Q:=by
 refine h C G σ H env n _ _ hK hT S hp (λx jh n' v H' r S' rp f=>?_) λxs jh n' a vs Hb r S' f hn rs=>?_
 ·exact k _ _ _ _ _ _ r S' (Ext.fr f) ⟨⟨v,rfl,hK▸rp⟩,λ_ _ z=>nomatch z⟩
 ·have aM:=S'.fresh hn;have S1:=S'.more (vs:=vs) hn;refine k _ _ _ _ _ _ r S1 ((Ext.fr f).trans (CQ hn)) ⟨⟨a,vs,rfl,C3,λz=>aM (S'.sup a z),λz=>aM (S'.pots a z).1,E7,?_⟩,λys b e1 e2=>?_⟩
  ·exact Reps.mono (G':=⟨a::G.M,G.pots⟩) (H':=upd Hb a (.lst vs)) (λb o _ e=>Same.lay1 hn b o e) (λc hc=>(C6.mp (show c∈a::G.M from hc)).elim (λz=>.inr (z▸hn)) .inl) (λ_ _ e=>e) _ _ (hK▸rs)
  ·cases e2;rintro⟨j,zs,z1,z2⟩;obtain⟨b,us,ev,g1,_⟩:=S'.slots j _ z1;rw[z2] at ev;cases ev;exact aM g1
theorem Hc {R:Slot->Slot->Env->Nat->Prop}{Q:V->V->Hp->Prop}(h:LOk K T t s1)(h':LOk K T u s2)(hK:C.K=K)(hT:C.T=T)(S:SR C G σ H env n)(hp:s1 env n λx jc n1=>s2 jc n1 λy jd n2=>R x y jd n2)
   (k:∀x y jh n' v w G' H',R x y jh n'->SR C G' σ H' jh n'->Ext G H G' H'->Got C G' H' σ jh x v->Got C G' H' σ jh y w->(∀(xs ys:OK×List PV) a,x=.ow xs.1 xs.2->y=.ow ys.1 ys.2->v=.ref a->w≠.ref a)->Q v w H'):t σ H λv H1=>u σ H1 λw H2=>Q v w H2:=by
 refine h C G σ H env n _ _ hK hT S hp (λx jc n1 v H1 q1 S1 r1 f1=>?_) λxs jc n1 a vs Hb q1 S1 f1 hn rs=>?_
 ·refine Jx h' hK hT S1 q1 λy jd n2 w G2 H2 q2 S2 x2 g2=>?_;exact k _ _ _ _ _ _ _ _ q2 S2 ((Ext.fr f1).trans x2) ⟨⟨v,rfl,Rep.mono x2.keep x2.new x2.pot _ _ (hK▸r1)⟩,λ_ _ z=>nomatch z⟩ g2 (λ_ _ _ z=>nomatch z)
 ·have aM:=S1.fresh hn;have Hd:=S1.guard vs hn;have a0:a∉C.M0:=λz=>aM (S1.sup a z);have aH:=S1.old hn;have x1:Ext G H ⟨a::G.M,G.pots⟩ (upd Hb a (.lst vs)):=(Ext.fr f1).trans (CQ hn);have r1:Reps C.K ⟨a::G.M,G.pots⟩ (upd Hb a (.lst vs)) xs vs:=Reps.mono (G':=⟨a::G.M,G.pots⟩) (H':=upd Hb a (.lst vs)) (λb o _ e=>Same.lay1 hn b o e) (λc hc=>(C6.mp (show c∈a::G.M from hc)).elim (λz=>.inr (z▸hn)) .inl) (λ_ _ e=>e) _ _ (hK▸rs);refine Jx (C:=C.guard a vs) h' hK hT Hd q1 λy jd n2 w G2 H2 q2 S2 x2 g2=>?_;obtain⟨S3,e3,no⟩:=S2.unguard a0 S1.p0.1 aH;have aM2:a∈G2.M:=S2.sup a C3
  have ap2:a∉G2.pots:=λz=>by
   by_cases hz:a∈C.pots0
   ·exact a0 (S1.p0.1 a hz)
   ·exact S2.newp a z hz C3
  have gy:Got C G2 H2 σ jd y w:=by
   refine⟨?_,g2.2⟩;cases y with
   |v x=>exact g2.1
   | ow kk ys =>
    obtain⟨b,us,ev,h1,h2,h3,h4,r⟩:=g2.1;exact⟨b,us,ev,h1,λz=>h2 (C2 _ z),h3,h4,r⟩
  refine k _ _ _ _ _ _ _ _ q2 S3 (x1.trans x2) ⟨⟨a,vs,rfl,aM2,a0,ap2,e3,Reps.mono x2.keep x2.new x2.pot _ _ r1⟩,λ_ _ _ e=>by cases e;exact no⟩ gy λxs' ys b ex ey ev ew=>?_;subst ey;cases ev;obtain⟨b,us,ev,h1,h2,_⟩:=g2.1;rw[ew] at ev;cases ev;exact h2 C3
structure AW (X:Cx)(es:List Expr)(t:TA):Prop where
 h:PA X es t
theorem Aq {X:Cx}{i j:Nat}{x y:Str}{a b:Expr}{px py pt:Pos}{kt k2 pt2}{pos:Pos}(hc:X.calm=true)(hN:X.N.Nodup)(hi:X.N[i]?=some x)(hj:X.N[j]?=some y)(hij:i≠j)
   (hx:X.env.scope.names.lookup x=some .local) (hy:X.env.scope.names.lookup y=some .local) (hw:AJ [.Tuple [.Name x px,.Name y py] kt pt] (.Tuple [a,b] k2 pt2) X.env=pure (some [x,y]))
   (hs:AI [.Tuple [.Name x px,.Name y py] kt pt] (.Tuple [a,b] k2 pt2) pos.line X.env=pure false:=by rfl) (ta:TA) (h:AW X [a,b] ta) :
   SW X (.Assign [.Tuple [.Name x px,.Name y py] kt pt] (.Tuple [a,b] k2 pt2) pos) (tPar i j ta):=⟨ps_par hc hN hi hj hij hx hy h.h hw hs⟩
theorem Oy {px py pz pt:Pos}(hc:X.calm=true)(hN:X.N.Nodup)(hi:X.N[i]?=some x)(hj:X.N[j]?=some y)(hk:X.N[k]?=some z)(hij:i≠j)(hik:i≠k)(hjk:j≠k)
   (hx:X.env.scope.names.lookup x=some .local) (hy:X.env.scope.names.lookup y=some .local) (hz:X.env.scope.names.lookup z=some .local) (hw:AJ [.Tuple [.Name x px,.Name y py,.Name z pz] kt pt] (.Tuple [a,b,c] k2 pt2) X.env=pure (some [x,y,z]))
   (hs:AI [.Tuple [.Name x px,.Name y py,.Name z pz] kt pt] (.Tuple [a,b,c] k2 pt2) pos.line X.env=pure false:=by rfl) (ta:TA) (h:AW X [a,b,c] ta) :
   SW X (.Assign [.Tuple [.Name x px,.Name y py,.Name z pz] kt pt] (.Tuple [a,b,c] k2 pt2) pos) (GF i j k ta):=⟨Oc hc hN hi hj hk hij hik hjk hx hy hz h.h hw hs⟩
def qPar (i j:Nat)(s1 s2:pSl):pS:=λD env n=>s1 env n λa jc n1=>s2 jc n1 λb jd n2=>D.nx ((jd.set i (some a)).set j (some b)) n2
theorem CS {a:A0}(hl:env.length=σ.length)(h:Ap (σ.set i (some v)) (env.set i (some s)) a):Ap σ env a\/((∃xs:OK×List PV,s=.ow xs.1 xs.2)/\v=.ref a):=by
 obtain⟨j,ys,e1,e2⟩:=h
 by_cases hj:i=j
 ·subst hj
  by_cases hl':i<env.length
  ·rw[N9 hl'] at e1;rw[N9 (by omega)] at e2;cases e1;cases e2;exact .inr ⟨⟨_,rfl⟩,rfl⟩
  ·rw[W6 (by rw[O9];omega)] at e1;cases e1
 ·rw[Q1 hj] at e1 e2;exact .inl ⟨j,ys,e1,e2⟩
theorem Ar (i j:Nat)(h:∀z ta,AW (F z) [a,b] ta->SW (F z) st (tPar i j ta))(h1:QL T K F a s1)(h2:QL T K F b s2)(n1:F5 a=true:=by rfl)(n2:F5 b=true:=by rfl):QS T np K F st (qPar i j s1 s2):=by
 obtain⟨t,a1,a2⟩:=h1;obtain⟨u,b1,b2⟩:=h2;refine⟨_,λz=>(h z _ ⟨E8 (a1 z) (E8 (b1 z) J6 (D8 n2)) (D8 n1)⟩).h,λC G σ H env n PD D hK hT hn S hp L=>?_⟩;refine Hc (Q:=λv w H2=>∃v' w',[v,w]=[v',w']/\D.nx ((σ.set i (some v')).set j (some w')) H2) a2 b2 hK hT S hp λx y jd n2 v w G2 H2 q S2 x2 gx gy ne=>?_;refine⟨v,w,rfl,L.nx _ _ _ _ _ q ((S2.slot i gx.1 gx.2).slot j gy.1 λys b e1 e2 z=>?_) x2⟩;rcases CS S2.len z with z|⟨⟨xs,ex⟩,ev⟩
 ·exact gy.2 ys b e1 e2 z
 ·exact ne xs ys b ex e1 ev e2
def He (i j k:Nat)(s1:pE)(s2 s3:pSl):pS:=λD env n=>s1 env n λa jc n1=>s2 jc n1 λb jd n2=>s3 jd n2 λc je n3=>D.nx (((je.set i (some (.v a))).set j (some b)).set k (some c)) n3
theorem Oz (i j k:Nat)(h:∀z ta,AW (F z) [a,b,c] ta->SW (F z) st (GF i j k ta))(h0:QE T K F a pe)(h1:QL T K F b s1)(h2:QL T K F c s2)(n0:F5 a=true:=by rfl)(n1:F5 b=true:=by rfl)(n2:F5 c=true:=by rfl):QS T np K F st (He i j k pe s1 s2):=by
 obtain⟨t0,z1,z2⟩:=h0;obtain⟨t,a1,a2⟩:=h1;obtain⟨u,b1,b2⟩:=h2;refine⟨_,λz=>(h z _ ⟨E8 (z1 z) (E8 (a1 z) (E8 (b1 z) J6 (D8 n2)) (D8 n1)) (D8 n0)⟩).h,λC G σ H env n PD D hK hT hn S hp L=>?_⟩;refine z2 C G σ H env n _ _ hK hT S hp λx0 env0 m0 v0 H0 q0 S0 r0 f0=>?_;refine Hc (Q:=λv w H2=>∃u' v' w',[v0,v,w]=[u',v',w']/\D.nx (((σ.set i (some u')).set j (some v')).set k (some w')) H2) a2 b2 hK hT S0 q0 λx y jd n2 v w G2 H2 q S2 x2 gx gy ne=>?_;have r2:Rep C.K G2 H2 x0 v0:=Rep.mono x2.keep x2.new x2.pot _ _ (hK▸r0);have S3:=S2.set i r2
 have o3:∀a,Ap (σ.set i (some v0)) (jd.set i (some (.v x0))) a->Ap σ jd a:=λa z=>by
  rcases CS S2.len z with z|⟨⟨xs,ex⟩,_⟩
  ·exact z
  ·cases ex
 have S4:=S3.slot j gx.1 λxs b e1 e2 z=>gx.2 xs b e1 e2 (o3 b z);refine⟨v0,v,w,rfl,L.nx _ _ _ _ _ q (S4.slot k gy.1 λys b e1 e2 z=>?_) ((Ext.fr f0).trans x2)⟩;rcases CS S3.len z with z|⟨⟨xs,ex⟩,ev⟩
 ·exact gy.2 ys b e1 e2 (o3 b z)
 ·exact ne xs ys b ex e1 ev e2
theorem gw_at (ho:EW X o (tVar i))(ha:∀v,assign (.Subscript o ix pos) X.env v=(do
     let ov ← R5 [v] (eval o X.env)
     let iv ← R5 [v,ov] (eval ix X.env)
     Z1 pos
     R5 [v,ov,iv] (setItem ov iv v)
     release [v,ov,iv] []):=by intro _;rfl) (ti:TE) (hi:EW X ix ti):GW X (.Subscript o ix pos) (gSub (tVar i) ti Gv):=⟨Gf ho.h hi.h Gw ha⟩
def gAt (i:Nat)(pe:pE):PV->Env->Nat->(Env->Nat->Prop)->Prop:=λx env n R=>pe env n λy jc n1=>match jc[i]?,y with|some (some (.ow .lst xs)),.int d=>(match ixN xs.length d with|some j=>R (jc.set i (some (.ow .lst (xs.set j x)))) n1|none=>False)|_,_=>False
def qPut (i:Nat)(pv:pE)(pe:pE):pS:=λD env n=>pv env n λx jc n1=>(∃xs,jc[i]?=some (some (.ow .lst xs)))/\gAt i pe x jc n1 D.nx
theorem qs_put (i:Nat){pv:pE}(h:∀z te g,EW (F z) v te->GW (F z) (.Subscript o ix pos) g->SW (F z) st (tAsg te g))(hv:QE T K F v pv)(hg:∀z ti,EW (F z) ix ti->GW (F z) (.Subscript o ix pos) (gSub (tVar i) ti Gv))(he:QE T K F ix pe):QS T np K F st (qPut i pv pe):=by
 obtain⟨tv,v1,v2⟩:=hv;obtain⟨ti,i1,i2⟩:=he;refine⟨_,λz=>(h z _ _ ⟨v1 z⟩ (hg z _ ⟨i1 z⟩)).h,λC G σ H env n PD D hK hT hn S hp L=>?_⟩;refine v2 C G σ H env n _ _ hK hT S hp λx jc n1 v H1 q1 S1 r1 f1=>?_;obtain⟨⟨xs0,e0⟩,q1⟩:=q1;obtain⟨a,vs,ev,h1,h2,h3,h4,r⟩:=S1.slots i _ e0;refine⟨.ref a,ev,?_⟩;refine i2 C G σ H1 jc n1 _ _ hK hT S1 q1 λy jd n2 w H2 q2 S2 r2 f2=>?_
 split at q2
 ·rename_i xs d ex
  split at q2
  ·rename_i j ej;obtain⟨a',us,ev',g1,g2,g3,g4,r'⟩:=S2.slots i _ ex;rw[ev] at ev';cases ev';subst hK;obtain⟨S3,f3⟩:=S2.put ex ev (r'.set j (r1.fr f2));exact⟨a,us,d,j,rfl,r2,g4,by rw[<- r'.length];exact ej,L.nx _ _ _ _ _ q2 S3 (Ext.fr ((f1.trans f2).trans f3))⟩
  ·exact q2.elim
 ·exact q2.elim
def EB (i:Nat)(env:Env):Env:=match env[i]? with|some (some (.ow .lst xs))=>env.set i (some (.v (.lst xs)))|_=>env
theorem SR.freeze (S:SR C G σ H env n)(i:Nat):∃G',SR C G' σ H (EB i env) n/\Ext G H G' H:=by
 unfold EB
 split
 ·rename_i xs ex;obtain⟨a,vs,ev,h1,h2,h3,h4,r⟩:=S.slots i _ ex
  let G':Gh:=⟨G.M.filter (·≠a),G.pots⟩
  have sub:∀b∈G'.M,b∈G.M:=λb hb=>(O8.mp hb).1;have mm:∀{x:PV} {v:V},Rep C.K G H x v->Rep C.K G' H x v:=λr=>Rep.mono (G':=G') (λ_ _ _ e=>e) (λb hb=>.inl (sub b hb)) (λ_ _ e=>e) _ _ r;have mms:∀{x:List PV} {v:List V},Reps C.K G H x v->Reps C.K G' H x v:=λr=>Reps.mono (G':=G') (λ_ _ _ e=>e) (λb hb=>.inl (sub b hb)) (λ_ _ e=>e) _ _ r
  refine⟨G',{
   frame:=S.frame
   sub:=λb hb=>S.sub b (sub b hb)
   sup:=λb hb=>O8.mpr ⟨S.sup b hb,jp (show b≠a from λz=>h2 (by grind))⟩
   pots:=λp hp=>⟨O8.mpr ⟨(S.pots p hp).1,jp (show p≠a from λz=>h3 (by grind))⟩,C.T.more (S.pots p hp).2 λb hb=>.inl (sub b hb)⟩
   pre:=S.pre
   mu:=λb hb=>S.mu b (sub b hb)
   slots:=λj s es=>?_
   inj:=λj k xs' ys b e1 e2 e3 e4=>?_
   p0:=S.p0
   len:=by rw[O9];exact S.len
   newp:=S.newp },⟨λ_ _ _ e=>e,λb hb=>.inl (sub b hb),λ_ _ e=>e⟩⟩
  ·by_cases hj:i=j
   ·subst hj;rw[N9 (F7.mp ex).1] at es;cases es;exact⟨.ref a,ev,a,vs,rfl,⟨λz=>by simpa using(O8.mp z).2,h4⟩,mms r⟩
   ·rw[Q1 hj] at es;have:=S.slots j s es;cases s with
    | v x =>
     obtain⟨v,e1,r⟩:=this;exact⟨v,e1,mm r⟩
    | ow kz zs =>
     obtain⟨b,us,e1,g1,g2,g3,g4,r⟩:=this;have hba:b≠a:=λz=>hj (S.inj i j (.lst,xs) (kz,zs) a ex es ev (by rw[e1,z]));exact⟨b,us,e1,O8.mpr ⟨g1,by simpa using hba⟩,g2,g3,g4,mms r⟩
  ·have back:∀(j:Nat) (zs:OK×List PV),(env.set i (some (.v (.lst xs))))[j]?=some (some (Slot.ow zs.1 zs.2))->env[j]?=some (some (.ow zs.1 zs.2)):=by
    intro j zs h
    by_cases hj:i=j
    ·grind
    ·grind
   exact S.inj j k xs' ys b (back j _ e1) (back k _ e2) e3 e4
 ·exact⟨G,S,Ext.refl⟩
def EC (i:Nat)(p:pS):pS:=λD env n=>p D (EB i env) n
theorem Jy (i:Nat)(h:QS T np K F st p1):QS T np K F st (EC i p1):=by
 obtain⟨t,a1,a2⟩:=h;refine⟨t,a1,λC G σ H env n PD D hK hT hn S hp L=>?_⟩;obtain⟨G',S',x'⟩:=S.freeze i;exact a2 C G' σ H _ n PD D hK hT hn S' hp (L.ext x')
end
end Pu
end
section
namespace Pu
open PySem PySem.Spec L2
def u4 (N:List Str)(xs:List PV):Env:=xs.map (λx=>some (.v x))++y8 (N.length-xs.length) none
def fnP (N ps:List Str)(body:pS):pF:=λxs n R=>xs.length=ps.length/\body ⟨λ_ m=>R .non m,R,λ_ _=>False,λ_ _=>False⟩ (u4 N xs) n
theorem Hf (hp:∀p∈G.pots,p∈G.M/\T.at_ G.M H p n)(hm:∀a∈G.M,∃o,H a=some o/\MutO o)(hh:T.has G.pots)(r:Reps K G H xs vs) :
   SR ⟨K,T,G.M,G.pots,H,np⟩ G (L2.start N vs) H (u4 N xs) n where
 frame b o _ e:=e
 sub a ha:=.inl ha
 sup a ha:=ha
 pots:=hp
 pre:=⟨[],by simp,.inl rfl⟩
 mu:=hm
 slots i s e:=by
  unfold u4 at e
  by_cases hi:i<xs.length
  ·rw[W4 (by simpa using hi),G6] at e;cases ex:xs[i]? with
   |none=>rw[ex] at e;cases e
   | some x =>
    rw[ex] at e;cases e;obtain⟨v,ev,rv⟩:=r.get' ex;refine⟨v,?_,rv⟩;unfold L2.start;rw[W4 (by rw[B8,<- r.length];exact hi),G6,ev]
    rfl
  ·rw[W3 (by simpa using hi),DI] at e
   split at e <;> cases e
 inj i j xs' ys a e1:=by
  exfalso
  unfold u4 at e1
  by_cases hi:i<xs.length
  ·rw[W4 (by simpa using hi),G6] at e1;cases ex:xs[i]? with
   |none=>rw[ex] at e1;cases e1
   |some x=>rw[ex] at e1;cases e1
  ·rw[W3 (by simpa using hi),DI] at e1
   split at e1 <;> cases e1
 p0:=⟨λp h=>(hp p h).1,hh⟩
 len:=by unfold u4 L2.start;simp[r.length]
 newp p h hn:=absurd h hn
section
variable {P:D1}{w:C8}{K:A8}{mg:Str->Option A1}{base:B7}{T:PotK}
theorem bd1 {P:List A1->Prop}(h:∀a,P [a])(us:List A1)(e:us.length=1):P us:=by
 obtain⟨a,rfl⟩:=List.length_eq_one_iff.mp e;exact h a
theorem bdS {P:List A1->Prop}(h:∀a us,us.length=n->P (a::us))(us:List A1)(e:us.length=n+1):P us:=by
 obtain⟨a,us,rfl⟩:=List.exists_cons_of_length_eq_add_one e;exact h a us (Nat.succ.inj e)
theorem bd2 {P:List A1->Prop}(h:∀a b,P [a,b])(us:List A1)(e:us.length=2):P us:=bdS (λa us e=>bd1 (P:=λus=>P (a::us)) (h a) us e) us e
theorem bd3 {P:List A1->Prop}(h:∀a b c,P [a,b,c])(us:List A1)(e:us.length=3):P us:=bdS (λa us e=>bd2 (P:=λus=>P (a::us)) (h a) us e) us e
theorem bd4 {P:List A1->Prop}(h:∀a b c d,P [a,b,c,d])(us:List A1)(e:us.length=4):P us:=bdS (λa us e=>bd3 (P:=λus=>P (a::us)) (h a) us e) us e
theorem bd5 {P:List A1->Prop}(h:∀a b c d e,P [a,b,c,d,e])(us:List A1)(e:us.length=5):P us:=bdS (λa us e=>bd4 (P:=λus=>P (a::us)) (h a) us e) us e
theorem fn_ok (F0:Fn0 K mg x st)(sc:R8 N ps (F3 st))
   (bd:∀(kV doc pm:A1) (an:Option A0) (jn ct:A1) (us:List A1),us.length=ps.length->V9 (U8 x x (R9 st) (N3 st) (F3 st) .none kV doc pm an jn ct) ⟨us,[]⟩=pure (ps.zip us))
   (h:∀(f:A0) (jn:A1) (A:D5) (outer:List PySem.Env) (s:A5) (H:Hp) (E:XK),Room k (A.deeper (DV x (F3 st) s.heap.objs.size f jn))->
     QSs T false K (λ_:Unit=>(cxOf CX0 P w K mg base N x (F3 st) f jn A outer s H E).nox) (N3 st) body) :
   Kn P w K mg base x (k+1) ps (E6 K T (fnP N ps body)):=by
 refine F0.ok sc (λvs H Q E h=>?_) bd (λf jn A outer s H vs Q E hr hsp=>?_)
 ·obtain⟨G,xs,n,R,_,_,_,r,hf,_⟩:=h;rw[<- r.length];exact hf.1
 ·obtain⟨t,h1,h2⟩:=h f jn A outer s H E hr;obtain⟨G,xs,n,R,hp,hm,hh,r,hf,k'⟩:=hsp;refine⟨t,h1 (),?_⟩;have S0:=Hf (N:=N) (np:=false) hp hm hh r
  have fin:∀(x:PV) (n':Nat) (v:V) (G':Gh) (σ:St) (H':Hp) (env:Env),R x n'->SR ⟨K,T,G.M,G.pots,H,false⟩ G' σ H' env n'->Rep K ⟨G.M,G'.pots⟩ H' x v->Q v H':=by
   intro x n' v G' σ H' env rr S' rv
   have ep:G'.pots=G.pots:=by
    obtain⟨l,el,hl⟩:=S'.pre;rcases hl with hl|hl
    ·rw[el,hl,W8]
    ·cases hl
   rw[ep] at rv;exact k' _ _ _ _ rr rv (λp hp'=>T.more (S'.pots p (by rw[ep];exact hp')).2 λa ha=>.inl (S'.sup a ha)) S'.frame
  refine h2 _ G _ H _ n _ _ rfl rfl rfl S0 hf.2 ⟨λenv n' G' σ H' q S' _=>?_,λx n' v G' σ H' env q S' rv _=>fin x n' v G' σ H' env q S' rv,λ_ _ _ _ _ q=>q.elim,λ_ _ _ _ _ q=>q.elim⟩;exact fin .non n' .non G' σ H' env q S' rfl
end
structure ED (own seed go:Int):Prop where
 o0:0<=own
 s0:0<=seed
 s1:seed<2 ^ 62
 g0:0<=go
 g1:go<=2 ^ 40
def PotAt (H:Hp)(p:A0)(n:Nat):Prop:=∃own seed go,H p=some (.lst [.int own,.int seed,.int go])/\ED own seed go/\go<=(n:Int)
def potL:PotK where
 at_:=λ_ H p n=>PotAt H p n
 mono:=λ⟨own,seed,go,a,b,c⟩ h=>⟨own,seed,go,a,b,by omega⟩
 keep:=λ⟨own,seed,go,a,b,c⟩ e _=>⟨own,seed,go,e.trans a,b,c⟩
 more:=λh _=>h
 mu:=λ⟨own,seed,go,a,b,c⟩=>⟨_,a,trivial⟩
def BH:pF:=λxs n R=>match xs with|[.pot _,.int m]=>(0<m/\m<1000000/\n<1000000000)/\∀d:Int,0<=d->d<m->R (.int d) (n+1)|_=>False
section
variable {P:D1}{w:C8}{K:A8}{mg:Str->Option A1}{base:B7}
def spDraw:Sp:=λvs H Q _=>∃(p:A0) (own seed go many:Int),vs=[.ref p,.int many]/\H p=some (.lst [.int own,.int seed,.int go])/\ED own seed go/\go<2 ^ 40/\0<many/\many<1000000/\
 ∀d own' seed' go',0<=d->d<many->ED own' seed' go'->go'<=go+1->Q (.int d) (upd H p (.lst [.int own',.int seed',.int go']))
theorem OA (G:Kn P w K mg base x k ps spDraw):Kn P w K mg base x k ps (E6 K potL BH):=G.imp λvs H Q E h=>by
 obtain⟨G,xs,n,R,hp,hm,_,r,hf,k⟩:=h;unfold BH at hf
 split at hf
 ·rename_i kk m;obtain⟨v,rr,rfl,rv,u,r2,rfl,ru,rfl⟩:=r;obtain⟨p,ep,rfl⟩:=rv;obtain rfl:u=.int m:=ru;have pin:p∈G.pots:=J5 ep;obtain⟨pM,own,seed,go,e,ok,hg⟩:=hp p pin;refine⟨p,own,seed,go,m,rfl,e,ok,by omega,hf.1.1,hf.1.2.1,λd own' seed' go' d0 d1 ok' g'=>?_⟩;refine k _ _ _ _ (hf.2 d d0 d1) rfl (λq hq=>?_) λb o hb eb=>?_
  ·by_cases hqp:q=p
   ·subst hqp;exact⟨own',seed',go',E7,ok',by omega⟩
   ·obtain⟨_,o2,s2,g2,e2,ok2,hg2⟩:=hp q hq;exact⟨o2,s2,g2,by rw[C0 hqp];exact e2,ok2,by omega⟩
  ·rw[C0 (λz=>hb (by grind))];exact eb
 ·grind
def EE (K:A8):Sp:=λvs H Q _=>∃(a:A0) (ns:List Int) (k:Int),vs=[.ref a,.int k]/\SqL K H a (ns.map V.int)/\0<=k/\k<=1000/\
 ∀p own seed,H p=none->ED own seed 0->Q (.ref p) (upd H p (.lst [.int own,.int seed,.int 0]))
end
end Pu
end
section
namespace Pu
open PySem PySem.Spec L2
section
variable {T:PotK}{np:Bool}{ι:Type}{K:A8}{F:ι->Cx}{e a b c:Expr}{es:List Expr}{pe pa pb pc:pE}{pos:Pos}{pl pr:pA}
theorem RdV.lst' {G:Gh}{H:Hp}{xs:List PV}{v:V}(h:RdV K G H (.lst xs) v):∃a vs,v=.ref a/\H a=some (.lst vs)/\Reps K G H xs vs:=by
 rcases h with⟨a,vs,e,t,r⟩|⟨a,vs,ys,ex,ev,h4,r⟩
 ·exact⟨a,vs,e,t.2,r⟩
 ·cases ex;exact⟨a,vs,ev,h4,r⟩
def qCat (pa pb:pE):pA:=λenv n R=>pa env n λx jc n1=>pb jc n1 λy jd n2=>match x,y with|.lst xs,.lst ys=>jd=jc/\xs.length+ys.length<=1000000/\R (xs++ys) jd n2|_,_=>False
theorem BI (ha:QR T K F a pa)(hb:QR T K F b pb):QN T K F (.BinOp a .Add b pos) (qCat pa pb):=by
 obtain⟨t,a1,a2⟩:=ha;obtain⟨u,b1,b2⟩:=hb;refine⟨_,λz=>L3 op_cat (a1 z) (b1 z),λC G σ H env n R Q hK hT S hp k=>?_⟩;refine a2 C G σ H env n _ _ hK hT S hp λx jc n1 v H1 q1 S1 r1 f1=>?_;refine b2 C G σ H1 jc n1 _ _ hK hT S1 q1 λy jd n2 w H2 q2 S2 r2 f2=>?_
 split at q2
 ·rename_i xs ys;obtain⟨e1,hl,q2⟩:=q2;subst e1;obtain⟨l,vs,ev,e1,rx⟩:=RdV.lst' ((r1.fr f2).rd S2);obtain⟨m,us,ew,e2,ry⟩:=RdV.lst' (r2.rd S2);exact⟨l,m,vs,us,ev,ew,e1,e2,by rw[<- rx.length,<- ry.length];exact mil hl,λp hn=>k _ _ _ _ _ _ q2 S2 (f1.trans f2) hn (hK▸rx.append ry)⟩
 ·exact q2.elim
def O0:List PV->Option (List Str)
 |[]=>some []
 |.str b::xs=>(O0 xs).map (b::·)
 |_=>none
theorem BJ:∀{xs:List PV} {vs:List V} {bs:List Str},O0 xs=some bs->Reps K G H xs vs->vs=bs.map V.str
 |[],vs,bs,h,r=>by cases h;exact r
 | .str b :: xs, vs, bs, h, r => by
  obtain⟨v,t,e,rv,rt⟩:=r;cases e1:O0 xs with
  |none=>simp[O0,e1] at h
  | some cs =>
   have:b::cs=bs:=by simpa[O0,e1] using h
   subst this;rw[e,show v=.str b from rv,BJ e1 rt]
   rfl
 |.non::_,_,_,h,_=>by cases h
 |.int _::_,_,_,h,_=>by cases h
 |.bl _::_,_,_,h,_=>by cases h
 |.ty _::_,_,_,h,_=>by cases h
 |.pot _::_,_,_,h,_=>by cases h
 |.tup _::_,_,_,h,_=>by cases h
 |.lst _::_,_,_,h,_=>by cases h
 |.dct _ _::_,_,_,h,_=>by cases h
 |.fdt _ _::_,_,_,h,_=>by cases h
 |.scr _::_,_,_,h,_=>by cases h
theorem EF:∀bs:List Str,O0 (bs.map PV.str)=some bs
 |[]=>rfl
 |b::bs=>by simp[O0,EF bs]
def Hg:w2:=λx y R=>match x,y with|.str sep,.lst xs=>(match O0 xs with|some ys=>(ys.map (·.length)).sum+ys.length*sep.length<=1000000/\R (.str (Txt.join sep ys))|none=>False)|_,_=>False
def Hh (pa pb:pE):pE:=λenv n R=>pa env n λx jc n1=>match x with|.str sep=>pb jc n1 λy jd n2=>Hg (.str sep) y λz=>R z jd n2|_=>False
theorem OB (ha:QE T K F a pa)(hb:QR T K F b pb)(hs:F5 b=true:=by rfl)(hbase:∀z,x6 a "join" (F z).env (eval a (F z).env)=eval a (F z).env:=by intro _;rfl)(hline:(ap.endLine == pos.line)=true:=by rfl)
   (hfew:∀z,((backTo pos (E9 [b] (F z).env)).all (λx=>!x.1)&&(Z0 pos (Y8 [] (F z).env)).all (λx=>x.1.isSome)&&decide (([b]:List Expr).length+([]:List Q4).length+(if([]:List Q4).isEmpty then 0 else 1)<30))=true:=by intro _;rfl)
   (hK:∀z,(F z).K=K:=by intro _;rfl):QE T K F (.Call (.Attribute a "join" ap) [b] [] pos) (Hh pa pb):=by
 obtain⟨t,a1,a2⟩:=ha;obtain⟨u,b1,b2⟩:=hb
 refine⟨tBM K "str" (λx vs H Q=>∃(sep:Str) (l:A0) (ys:List Str),x=.str sep/\vs=[.ref l]/\SqL K H l (ys.map V.str)/\(ys.map (·.length)).sum+ys.length*sep.length<=16777216/\Q (.str (Txt.join sep ys)) H) t (U1 u tNil),
  λz=>hK z▸Bx PySem.F.plainAttrs_str PySem.F.slot_str_join PySem.F.type_str_join N_ (a1 z) (E8 (b1 z) J6 (D8 hs)) (hbase z) (hfew z) hline (D8 hs),λC G σ H env n R Q hK hT S hp k=>?_⟩
 refine a2 C G σ H env n _ _ hK hT S hp λx jc n1 v H1 q1 S1 r1 f1=>?_;cases x with
 | str sep =>
  obtain rfl:v=.str sep:=r1;refine⟨rfl,CN b2 hK hT S1 q1 λy jd n2 w H2 q2 S2 r2 f2=>?_⟩;unfold Hg at q2
  split at q2
  ·rename_i sep' xs e1;cases e1
   split at q2
   ·rename_i ys ey;have rd:RdV K G H2 (.lst xs) w:=hK▸r2.rd S2;obtain⟨l,vs,ev,hq,rs⟩:=rd.lst;exact⟨sep,l,ys,rfl,by rw[ev],BJ ey rs▸hq,by omega,k _ _ _ _ _ q2.2 S2 rfl (f1.trans f2)⟩
   ·grind
  ·grind
 |_=>exact q1.elim
def EG:PV->Option Bool
 |.non=>some false
 |.bl b=>some b
 |.int i=>some (i != 0)
 |.str z=>if z.length<=1000000 then some ((z.length:Int) != 0) else none
 |.lst xs=>some (!xs.isEmpty)
 |.tup xs=>some (!xs.isEmpty)
 |_=>none
def Hi (pe:pE):pT:=λenv n R=>pe env n λx jc n1=>match EG x with|some b=>R b jc n1|none=>False
theorem Jz (r:Reps K G H xs vs):(!vs.isEmpty)=!xs.isEmpty:=by
 have:=r.length;cases xs <;> cases vs <;> simp_all
theorem JA {b:Bool}(h:EG x=some b)(r:RdV K G H x v):TruV K v H b:=by
 cases x with
 |non=>rw[r.non];cases h;rfl
 |bl c=>rw[r.bl];cases h;rfl
 |int i=>rw[r.int];cases h;rfl
 | str z =>
  rw[r.str]
  by_cases hz:z.length<=1000000
  ·have h':(if z.length<=1000000 then some ((z.length:Int) != 0) else none)=some b:=h;rw[jr hz] at h';cases h';exact⟨mil hz,rfl⟩
  ·have h':(if z.length<=1000000 then some ((z.length:Int) != 0) else none)=some b:=h;rw[jt hz] at h';cases h'
 |lst xs=>obtain⟨a,vs,ev,hq,rs⟩:=r.lst;rw[ev];cases h;exact .inl ⟨vs,hq,(Jz rs).symm⟩
 |tup xs=>obtain⟨a,vs,ev,hq,rs⟩:=r.tup;rw[ev];cases h;exact .inr (.inl ⟨vs,hq,(Jz rs).symm⟩)
 |_=>cases h
theorem OC (h:QR T K F e pe)(he:∀z whole,isTrue e (F z).env whole=(do let v ← whole;Z1 e.pos;R5 [v] (truthy v)):=by intro _ _;rfl)(hK:∀z,(F z).K=K:=by intro _;rfl):QT T K F e (Hi pe):=by
 obtain⟨t,a1,a2⟩:=h;refine⟨_,λz=>hK z▸Nb (a1 z) (he z),λC G σ H env n R Q hK hT S hp k=>?_⟩;refine a2 C G σ H env n _ _ hK hT S hp λx jc n1 v H1 q1 S1 r1 f1=>?_
 split at q1
 ·rename_i b eb;exact⟨b,hK▸JA eb (r1.rd S1),k _ _ _ _ q1 S1 f1⟩
 grind
def wNeg:w1:=λx R=>match x with|.int i=>R (.int (-i))|_=>False
theorem qe_neg (h:QE T K F a pa):QE T K F (.UnaryOp .USub a pos) (qUn wNeg pa):=by
 obtain⟨t,a1,a2⟩:=h.r;refine⟨_,λz=>pe_un II (a1 z),ok_un (λG H x v R Q hf rx hw k=>?_) a2⟩;unfold wNeg at hw
 split at hw
 ·exact⟨_,rx.int,k _ _ _ hw (Same.refl _) rfl⟩
 ·exact hw.elim
end
def Y1 (i:Nat)(pe:pE):pE:=λenv n R=>(∃xs,env[i]?=some (some (.ow .lst xs)))/\G_ i pe env n R
def Hj (i:Nat)(pe:pE):pE:=λenv n R=>(∃xs,env[i]?=some (some (.ow .lst xs)))/\Ha i pe env n R
abbrev b__law_draw:pF:=BH
end Pu
end
section
namespace Pu
open PySem PySem.Spec L2
theorem JB {te:pE}{rest:Env}(f:PV->PV):∀(xs:List PV) (s0:Option Slot) (n:Nat) (R:List PV->Nat->Prop),(∀x∈xs,∀m Q,Q (f x) (some (.v x)::rest) m->te (some (.v x)::rest) m Q)->R (xs.map f) n->T3 (gN 0) qTru te xs (s0::rest) n R
 |[],_,_,_,_,h=>h
 | x :: xs, s0, n, R, ht, h => by
  show te (some (.v x)::rest) n _;refine ht x C3 n _ ?_;exact JB f xs _ n _ (λy hy=>ht y (C2 _ hy)) h
theorem JC {te:pE}{rest:Env}(P:PV->Prop)(c N:Nat):∀(xs:List PV) (s0:Option Slot) (n:Nat) (R:List PV->Nat->Prop),
   (∀x∈xs,∀m Q,m<=N->(∀y m',P y->m'<=m+c->Q y (some (.v x)::rest) m')->te (some (.v x)::rest) m Q)->n+c*xs.length<=N->(∀ys n',ys.length=xs.length->(∀y∈ys,P y)->n'<=n+c*xs.length->R ys n')->T3 (gN 0) qTru te xs (s0::rest) n R
 |[],_,n,_,_,_,h=>h [] n rfl (λ_ z=>nomatch z) (by omega)
 | x :: xs, s0, n, R, ht, hN, h => by
  have hl:c*(x::xs).length=c*xs.length+c:=by rw[L8,Nat.mul_succ]
  show te (some (.v x)::rest) n _;refine ht x C3 n _ (by omega) λy m' py hm=>?_;refine JC P c N xs _ m' _ (λy hy=>ht y (C2 _ hy)) (by omega) λys n' e p hn=>?_;exact h (y::ys) n' (by simp[e]) (λz hz=>(C6.mp hz).elim (λe=>e▸py) (p z)) (by omega)
theorem V6 {g:pG}{b:pS}{D:j7}(I:Nat->Env->Nat->Prop):∀(xs:List PV) (k:Nat) (env:Env) (n:Nat),I k env n->
   (∀(i:Nat) x env n (N:Env->Nat->Prop),xs[i]?=some x->I (k+i) env n->(∀e m,I (k+i+1) e m->N e m)->g x env λjc=>b { D with nx:=N,ct:=N,bk:=D.nx } jc n)->(∀env n,I (k+xs.length) env n->D.nx env n)->forL g b D xs env n
 |[],k,env,n,h0,_,hd=>hd env n h0
 | x :: xs, k, env, n, h0, hs, hd => by
  show g x env λjc=>b { D with nx:=λe m=>forL g b D xs e m,ct:=λe m=>forL g b D xs e m,bk:=D.nx } jc n;refine hs 0 x env n _ rfl h0 λe m h1=>?_;refine V6 I xs (k+1) e m h1 (λi y env n N e1 h2 h3=>?_) λenv n h2=>hd env n (by rw[L8,show k+(xs.length+1)=k+1+xs.length by omega];exact h2);refine hs (i+1) y env n N (by simpa using e1) (by rw[show k+(i+1)=k+1+i by omega];exact h2) λe m h4=>h3 e m (by rw[show k+1+i+1=k+(i+1)+1 by omega];exact h4)
theorem CT {j i:Nat}{lo:Int}{x:PV}(h:((E5 j).map λ(k:Nat)=>PV.int (lo+k))[i]?=some x):i<j/\x=.int (lo+i):=by grind
theorem As:((E5 j).map λ(k:Nat)=>PV.int (lo+k)).length=j:=by simp
theorem j8 {α:Type}{xs:List α}{d:Int}(h0:0<=d)(h1:d<xs.length):∃x,x∈xs/\atI xs d=some x:=by
 obtain⟨x,e1,e2⟩:=Ji h0 h1;exact⟨x,J5 e1,e2⟩
theorem sx_int (h:0<=k):HT.sIx n d (some k)=min k.toNat n:=by
 obtain⟨j,rfl⟩:=Cy h;exact HT.sIx_nat n d j
theorem OD {α:Type}{xs:List α}{lo hi:Option Int}:∀x∈cutP xs lo hi,x∈xs:=λx hx=>AT (l5 hx)
theorem CU (a b:Int):eqP (.int a) (.int b)=decide (a=b):=rfl
theorem U4 (a b:Str):eqP (.str a) (.str b)=decide (a=b):=rfl
theorem Hk (a b:Bool):eqP (.bl a) (.bl b)=decide (a=b):=rfl
theorem eqP_ll (xs ys:List PV):eqP (.lst xs) (.lst ys)=eqPs xs ys:=rfl
theorem At (xs ys:List PV):eqP (.tup xs) (.tup ys)=eqPs xs ys:=rfl
theorem Au (x y:PV)(xs ys:List PV):eqPs (x::xs) (y::ys)=(eqP x y&&eqPs xs ys):=rfl
theorem CV:eqPs [] []=true:=rfl
theorem if_t {A B:Prop}(h:b=true)(q:A):if b=true then A else B:=by rw[jr h];exact q
theorem if_f {A B:Prop}{b:Bool}(h:b=false)(q:B):if b=true then A else B:=by grind
end Pu
end
section
namespace Pu
open PySem PySem.Spec L2
section
variable {T:PotK}{np:Bool}{ι:Type}{K:A8}{F:ι->Cx}{a b:Expr}{st:Stmt}{pos:Pos}{s1 s2:pSl}
theorem gw_two (K:A8)(i j:Nat)(hc:X.calm=true)(h1:GW X (.Name x px) (M1 i))(h2:GW X (.Name y py) (M1 j))(hn:(K6 [.Name x px,.Name y py] X.env).length=2:=by rfl)(hst:(K6 [.Name x px,.Name y py] X.env).findIdx? (·.1)=none:=by rfl)
   (hs:(K6 [.Name x px,.Name y py] X.env).map (·.2)=assign (.Name x px) X.env::(K6 [.Name y py] X.env).map (·.2):=by rfl) (hs2:(K6 [.Name y py] X.env).map (·.2)=assign (.Name y py) X.env::(K6 [] X.env).map (·.2):=by rfl) (hK:X.K=K:=by rfl) :
   GW X (.Tuple [.Name x px,.Name y py] k pos) (gTup K 2 (o8 (M1 i) (o8 (M1 j) gNil))):=⟨hK▸Ge hc (Eh h1.h (Eh h2.h Gc hs2) hs) hn hst⟩
theorem OE (i j:Nat)(h:∀z te g,EW (F z) (.Tuple [a,b] k p) te->GW (F z) tg g->SW (F z) st (tAsg te g))(hg:∀z,GW (F z) tg (gTup K 2 (o8 (M1 i) (o8 (M1 j) gNil))))(h1:QL T K F a s1)(h2:QL T K F b s2)(n1:F5 a=true:=by rfl)(n2:F5 b=true:=by rfl):QS T np K F st (qPar i j s1 s2):=by
 obtain⟨t,a1,a2⟩:=h1;obtain⟨u,b1,b2⟩:=h2;refine⟨_,λz=>(h z _ _ ⟨Gp (E8 (a1 z) (E8 (b1 z) J6 (D8 n2)) (D8 n1))⟩ (hg z)).h,λC G σ H env n PD D hK hT hn S hp L=>?_⟩;refine Hc (Q:=λv w H2=>[v,w].length<=C4/\∀p,H2 p=none->gTup K 2 (o8 (M1 i) (o8 (M1 j) gNil)) (.ref p) σ (upd H2 p (.tup [v,w])) D.nx) a2 b2 hK hT S hp λx y jd n2 v w G2 H2 q S2 x2 gx gy ne=>?_;refine⟨by show 2<=C4;decide,λp hn'=>⟨p,[v,w],rfl,SqT.of E7,rfl,v,[w],rfl,w,[],rfl,rfl,?_⟩⟩;have sm:Same H2 (upd H2 p (.tup [v,w])):=Same.lay1 hn';have S3:=S2.same sm
 have keep:∀{s:Slot} {u:V},CK C G2 H2 (some (some u)) s->CK C G2 (upd H2 p (.tup [v,w])) (some (some u)) s:=λ{s u} r=>by
  cases s with
  |v x=>obtain⟨v',e,r⟩:=r;exact⟨v',e,r.same sm⟩
  |ow kk xs=>obtain⟨b,us,e,h1,h2,h3,h4,r⟩:=r;exact⟨b,us,e,h1,h2,h3,sm _ _ h4,r.same sm⟩
 refine L.nx _ _ _ _ _ q ((S3.slot i (keep gx.1) gx.2).slot j (keep gy.1) λys b e1 e2 z=>?_) (x2.trans (Ext.fr (Fr.of sm)));rcases CS S3.len z with z|⟨⟨xs,ex⟩,ev⟩
 ·exact gy.2 ys b e1 e2 z
 ·exact ne xs ys b ex e1 ev e2
end
end Pu
end
section
namespace L2
open PySem PySem.Spec PyProof.Rows
section
variable {κ:Type}[DecidableEq κ]
def valV (jg:List (κ×V))(k:κ):Option V:=(jg.find? λkv=>decide (kv.1=k)).map (·.2)
def putK (jg:List (κ×V))(k:κ)(v:V):List (κ×V):=
 if(jg.any λkv=>decide (kv.1=k))=true then jg.map (λkv=>if kv.1=k then(kv.1,v) else kv) else jg++[(k,v)]
theorem OF (jg:List (κ×V))(k:κ)(v:V):(putK jg k v).length<=jg.length+1:=by
 unfold putK
 split
 ·rw[B8];omega
 ·rw[E3,L8,List.length_nil];omega
theorem KV.any {jg:List (κ×V)}{vs:List (κ×A1)}(r:KV jg vs)(k:κ):(jg.any λkv=>decide (kv.1=k))=vs.any λkv=>decide (kv.1=k):=by induction r <;> grind
theorem KV.repl (r:KV jg vs)(k:κ)(ry:RelV y u) :
   KV (jg.map λkv=>if kv.1=k then(kv.1,y) else kv) (vs.map λkv=>if kv.1=k then(kv.1,u) else kv):=by
 unfold KV at r ⊢
 induction r with
 |nil=>exact .nil
 | @cons p q ps qs h t ih =>
  rw[F2,F2];refine .cons ?_ ih;obtain⟨h1,h2⟩:=h
  by_cases e:p.1=k
  ·rw[jr e,jr (h1.symm.trans e)];exact⟨h1,ry⟩
  ·rw[jt e,jt (λz=>e (h1.trans z))];exact⟨h1,h2⟩
theorem KV.put (r:KV jg vs)(k:κ)(ry:RelV y u):KV (putK jg k y) (stored vs k u):=by
 unfold putK stored;rw[r.any k]
 by_cases e:(vs.any λkv=>decide (kv.1=k))=true
 ·rw[jr e,jr e];exact r.repl k ry
 ·rw[jt e,jt e];exact Paired.snoc r ⟨rfl,ry⟩
theorem KV.keys {jg:List (κ×V)}{vs:List (κ×A1)}(r:KV jg vs):jg.map (·.1)=vs.map (·.1):=by induction r <;> grind
end
theorem kV_is (r:RelV (kV k) u):(K8 P w).is k u=true:=by
 cases k with
 |inl i=>obtain⟨t,e⟩:=(show ∃t,u=Value.int i t from r);subst e;exact ID P w i t
 |inr x=>obtain⟨t,e⟩:=(show ∃t,u=Bg x t from r);subst e;exact Ef P w x t
theorem items_are {P:D1}{w:C8}:∀{ks:List Key} {us:List A1},Vals (ks.map kV) us->ItemsAre (K8 P w) ks us
 |[],_,r=>by rw[List.map_nil] at r;cases r;exact .nil
 | k :: ks, _, r => by
  rw[F2] at r;cases r with
  |cons h t=>exact .cons (kV_is h) (items_are t)
section
variable {P:D1}{w:C8}{H:Hp}{h:B7}{a:A0}
theorem rd_of (ok:HOk P w H h)(e:Rd H a u):G7 P w H h a u:=e.ok ok
theorem dk_rd (ok:HOk P w H h)(e:Rd H a (.dK jg)):jg.length<=C4/\(a == N6)=false/\∃vs,KV jg vs/\h.DictOf (K8 P w) a vs:=
 show G7 P w H h a (.dK jg) from rd_of ok e
theorem dk_of (ok:HOk P w H h)(e:H a=some (.dK jg)):jg.length<=C4/\(a == N6)=false/\∃vs,KV jg vs/\h.DictOf (K8 P w) a vs:=dk_rd ok (.inl e)
end
def DGet (H:Hp)(a:A0)(y:V)(r:Option V):Prop:=
 (∃jg k,Rd H a (.dK jg)/\y=kV k/\r=valV jg k)\/∃jg k b,Rd H a (.dT jg)/\y=.ref b/\H b=some (.tup (k.map kV))/\r=valV jg k
def DPut (H:Hp)(a:A0)(y v:V)(H':Hp):Prop:=
 (∃jg k,H a=some (.dK jg)/\y=kV k/\jg.length<C4/\H'=upd H a (.dK (putK jg k v)))\/
 ∃jg k b,H a=some (.dT jg)/\y=.ref b/\H b=some (.tup (k.map kV))/\jg.length<C4/\H'=upd H a (.dT (putK jg k v))
theorem DGet.k {k:Key}(e:H a=some (.dK jg)):DGet H a (kV k) (valV jg k):=.inl ⟨jg,k,.inl e,rfl,rfl⟩
theorem DGet.t {k:List Key}(e:H a=some (.dT jg))(eb:H b=some (.tup (k.map kV))):DGet H a (.ref b) (valV jg k):=.inr ⟨jg,k,b,.inl e,rfl,eb,rfl⟩
theorem DPut.k {k:Key}(e:H a=some (.dK jg))(hl:jg.length<C4):DPut H a (kV k) v (upd H a (.dK (putK jg k v))):=.inl ⟨jg,k,e,rfl,hl,rfl⟩
theorem DPut.t {k:List Key}(e:H a=some (.dT jg))(eb:H b=some (.tup (k.map kV)))(hl:jg.length<C4) :
   DPut H a (.ref b) v (upd H a (.dT (putK jg k v))):=.inr ⟨jg,k,b,e,rfl,eb,hl,rfl⟩
section
variable {X:Cx}{jb:List (A0×Obj)}{σ:St}{H:Hp}{s:A5}{a:A0}{y v:V}{u r:A1}{o:Option V}{A:D5}{E:A1->A5->Prop}
theorem OG (I:Inv X jb σ H s)(mu:Mut (H a))(hs:T7 a s.heap h')(he:∃q,h'.get? a=some q)(new:G7 X.prog X.w (upd H a ob) h' a ob) :
   Inv X jb σ (upd H a ob) { s with heap:=h',toks:=t' }:=
 I.write (x:=a) (e:=a) mu (.inl rfl) (λb q hb z=>(hs.2 b hb).trans z) he new
theorem dk_new (z:jg.length<=C4)(hd:(a == N6)=false)(rel:KV jg vs)(dd:h'.DictOf (K8 P w) a vs) :
   G7 P w H' h' a (.dK jg):=⟨z,hd,vs,rel,dd⟩
end
def Hl:List (TE×TE)->St->Hp->(List (V×V)->Hp->Prop)->Prop
 |[],_,H,Q=>Q [] H
 |(tk,tv)::r,σ,H,Q=>tk σ H λx H1=>tv σ H1 λy H2=>Hl r σ H2 λps H3=>Q ((x,y)::ps) H3
abbrev VV:List (V×V)->List (A1×A1)->Prop:=Paired λp q=>RelV p.1 q.1/\RelV p.2 q.2
def PPs (X:Cx)(pos:Pos)(keys:List (Option Expr))(values:List Expr)(trs:List (TE×TE)):Prop:=
 ∀ (jb : List (A0 × Obj)) (s : A5) (σ : St) (H : Hp) (Q : List (V × V) -> Hp -> Prop), Inv X jb σ H s -> Hl trs σ H Q ->
   A6 (A9 X.prog X.w) X.A (evalPairs (pairTrees keys values X.env pos)) (λvs s'=>∃ps H',Inv X jb σ H' s'/\VV ps vs/\Q ps H') X.xe s
theorem OH:PPs X pos [] [] []:=λjb s σ H Q I h=>pairTrees_nil_walk ⟨[],H,I,.nil,h⟩
theorem OI (hk:PE X k tk)(hv:PE X v tv)(hr:PPs X pos ks vs trs) :
   PPs X pos (some k::ks) (v::vs) ((tk,tv)::trs):=λjb s σ H Q I h=>
 pairTrees_cons_walk (thn (hk jb s σ H _ I h) λu s1 ⟨x,H1,I1,rx,q1⟩=>thn (hv jb s1 σ H1 _ I1 q1) λw2 s2 ⟨y,H2,I2,ry,q2⟩=>
  thn (hr jb s2 σ H2 _ I2 q2) λws s3 ⟨ps,H3,I3,rel,q3⟩=>⟨(x,y)::ps,H3,I3,.cons ⟨rx,ry⟩ rel,q3⟩)
def CW (jg more:List (Key×V)):List (Key×V):=more.foldl (λjk kv=>putK jk kv.1 kv.2) jg
theorem KV.merge:∀{more:List (Key×V)} {rs:List (Key×A1)} {jg:List (Key×V)} {vs:List (Key×A1)},KV more rs->KV jg vs->KV (CW jg more) (merged vs rs):=by
 intro more rs jg vs r;unfold KV at r
 induction r generalizing jg vs with
 |nil=>intro q;exact q
 | @cons p q ps qs h t ih =>
  intro r0
  have e:KV (putK jg p.1 p.2) (stored vs q.1 q.2):=by
   have:=r0.put p.1 h.2;rw[<- h.1];exact this
  exact ih e
theorem JD:∀(more jg:List (Key×V)),(CW jg more).length<=jg.length+more.length
 |[],jg=>by show jg.length<=jg.length+0;omega
 | p :: r, jg => by
  have h1:=JD r (putK jg p.1 p.2);have h2:=OF jg p.1 p.2;show(CW (putK jg p.1 p.2) r).length<=_;rw[L8];omega
theorem JE:∀{jg:List (Key×V)} {ws:List (A1×A1)},VV (jg.map λkv=>(kV kv.1,kv.2)) ws->∃rs,Carries (K8 P w) ws rs/\KV jg rs
 |[],_,r=>by rw[List.map_nil] at r;cases r;exact⟨[],Ag,.nil⟩
 | p :: jg, _, r => by
  rw[F2] at r;cases r with
  | @cons a b as bs h t =>
   obtain⟨rs,c,q⟩:=JE (P:=P) (w:=w) t;obtain⟨b1,b2⟩:=b;exact⟨(p.1,b2)::rs,⟨kV_is h.1,rfl,c⟩,.cons ⟨rfl,h.2⟩ q⟩
def tDisp (trs:List (TE×TE)):TE:=λσ H Q=>∀p,H p=none->Hl trs σ (upd H p (.dK [])) λps H2=>H2 p=some (.dK [])/\∃jg:List (Key×V),ps=jg.map (λkv=>(kV kv.1,kv.2))/\jg.length<=15/\Q (.ref p) (upd H2 p (.dK (CW [] jg)))
theorem OJ (h:PPs X pos keys values trs)(hall:keys.all (·.isSome)=true)(hl:keys.length=values.length)(h0:keys≠[])
   (h15:keys.length<=15):PE X (.Dict keys values pos) (tDisp trs):=by
 intro jb s σ H Q I q;have hn:=I.hok.fresh (B9 s.heap.objs.size);have I1:=I.laid (a:=s.heap.objs.size) (o:=.dK []) (h':=s.heap.push { cls:=.type "dict",data:=.dict #[] }) (t':=s.toks) (λ_ _ q=>D0 _ q) (B9 _) (Og s.heap I.big);refine wpAny_Dict_walk (knd:=K8 X.prog X.w) hall hl h0 h15 (thn (h jb _ σ _ _ I1 (q _ hn)) λws s2 ⟨ps,H2,I2,rel,e,jg,ep,lk,q2⟩=>?_);subst ep;obtain⟨rs,c,rk⟩:=JE (P:=X.prog) (w:=X.w) rel;obtain⟨z,hd,vs0,r0,dd⟩:=dk_of I2.hok e;cases r0;refine⟨rs,c,dd,λh' dd' hs=>⟨.ref s.heap.objs.size,_,?_,rfl,q2⟩⟩
 have hz:(CW [] jg).length<=C4:=by
  have h1:=JD jg [];rw[List.length_nil] at h1;rw[K5];omega
 have he:∃q,h'.get? s.heap.objs.size=some q:=let ⟨q,_,_,hq,_⟩:=dd';⟨q,hq⟩;exact OG I2 (by rw[e];exact Ag) hs he (dk_new hz hd (rk.merge .nil) dd')
end L2
end
section
namespace HT
open PySem PySem.Spec PyProof.Rows
section
variable {prog:D1}{w:C8}{A:D5}{E:A1->A5->Prop}{s:A5}
theorem OL (n:Nat):Cw none none (-1) (n:Int)=((n:Int)-1,-1):=rfl
theorem OM (n:Nat):l9 ((n:Int)-1) (-1) (-1)=n:=by
 unfold l9;rw[jt (by decide)];have h1:(- -1:Int)=1:=by decide
 rw[h1]
 by_cases h:(n:Int)-1 > -1
 ·rw[jr h,Int.ediv_one];omega
 ·rw[jt h];omega
theorem ON {n:Nat}(hs:s.heap.IsSliceOf sl .none .none vk)(pk:IsPart vk (some (-1)))
   (h:Q ((n:Int)-1,-1,n) s):A6 (A9 prog w) A (DU (.ref sl) (pure (n:Int))) Q E s:=by
 obtain⟨os,hos,hcs,hds⟩:=id hs;unfold DU IC;refine A3 (A3 (V8 hos hds (x:=.none) rfl (A3 (V8 hos hds (x:=.none) rfl (A3 (V8 hos hds (x:=vk) rfl (B0 ?_)))))));refine A3 (CF pk ?_);show A6 _ _ (if((-1:Int) == 0)=true then _ else _) _ _ s;rw[jt (by decide)];refine A3 (CF .none (A3 (CF .none (A3 (B0 ?_)))));show A6 _ _ (match Cw none none (-1) (n:Int) with|(lo,hi)=>pure (lo,(-1:Int),l9 lo hi (-1))) _ _ s;rw[OL];show A6 _ _ (pure ((n:Int)-1,(-1:Int),l9 ((n:Int)-1) (-1) (-1))) _ _ s;rw[OM];exact B0 h
theorem JF {α β:Type}{f g:α->Option β}:∀l:List α,(∀m∈l,f m=g m)->l.filterMap f=l.filterMap g
 |[],_=>rfl
 |x::l,h=>by rw[y0,y0,h x C3,JF l λm hm=>h m (C2 _ hm)]
theorem OP (xs:Array A1):((E5 xs.size).filterMap λ(m:Nat)=>xs[((xs.size:Int)-1+(m:Int) * -1).toNat]?).toArray=xs.toList.reverse.toArray:=by
 congr 1
 have e:(E5 xs.size).filterMap (λ(m:Nat)=>xs[((xs.size:Int)-1+(m:Int) * -1).toNat]?)=((E5 xs.size).map λk=>xs.size-1-k).filterMap (xs[·]?):=by
  rw[List.filterMap_map];refine JF _ λm hm=>?_;have:=L4.mp hm;show _=xs[xs.size-1-m]?
  congr 1
  omega
 rw[e,PySem.W.krv_range,List.filterMap_reverse,PySem.W.krv_all]
theorem getItem_tuple_rev (ht:IsTup s.heap t items)(hs:s.heap.IsSliceOf sl .none .none vk)(pk:IsPart vk (some (-1)))
   (h:Q (.ref s.heap.objs.size) { s with heap:=s.heap.push { cls:=.type "tuple",data:=.seq items.toList.reverse.toArray } })
   (hsz:items.size<=C4):A6 (A9 prog w) A (getItem (.ref t) (.ref sl)) Q E s:=by
 have htake:sizeOk (.seq items.toList.reverse.toArray):=by
  show items.toList.reverse.toArray.size<=C4;rw[F4,FP,M6];omega
 obtain⟨os,hos,hcs,hds⟩:=id hs;have hTs:s.TypeIs (.ref sl) "slice":=⟨os,hos,hcs⟩;unfold getItem
 try with_reducible refine J7 ?_
 first|refine A3 (B0 ?_)|skip
 refine A3 (wpAny_sequenceKey ht.typeIs (by decide) ?_)
 refine A3 (Y6 (name:=A7 "__getitem__") ht.typeIs Bh
   (P8 Bh ht.typeIs entry_tuple_getitem ?_ (args_tuple_getitem _ _)))
 show A6 _ _ (FT (.ref t)>>=_) _ _ s;refine A3 (tupleItemsOf_ ht ?_);refine A3 (k8 hTs ?_);rw[jr (by decide)];refine A3 (ON hs pk ?_)
 have hno:¬((((items.size:Int)-1) == 0&&(-1:Int) == 1&&items.size == items.size)=true):=by
  intro q;rw[R7,R7] at q;exact absurd (eq_of_beq q.1.2) (by decide)
 show A6 _ _ (if(((items.size:Int)-1) == 0&&(-1:Int) == 1&&items.size == items.size)=true then _ else _) _ _ s;rw[jt hno,OP]
 first
   |exact A3 (m:=o5 _) (N5 (B0 ⟨_,rfl,B0 h⟩) htake)
   |exact A3 (m:=o5 _) (N5 (A3 (B0 (B0 ⟨_,rfl,B0 h⟩))) htake)
   |exact A3 (A3 (m:=o5 _) (N5 (B0 (B0 ⟨_,rfl,B0 h⟩)) htake))
   |exact A3 (A3 (m:=o5 _) (N5 (B0 ⟨_,rfl,B0 h⟩) htake))
end
end HT
namespace L2
open PySem PySem.Spec PyProof.Rows
section
variable {X:Cx}{e st:Expr}{te:TE}{ts:TE}{pos p2:Pos}
def rRev (K:A8):V->Hp->VK->Prop:=λx H Q=>∃a xs,x=.ref a/\((SqL K H a xs/\∀p,H p=none->Q (.ref p) (upd H p (.lst xs.reverse)))\/(SqT K H a xs/\∀p,H p=none->Q (.ref p) (upd H p (.tup xs.reverse))))
def tRev (K:A8)(te ts:TE):TE:=λσ H Q=>te σ H λx H1=>ts σ H1 λy H2=>y=.int (-1)/\rRev K x H2 Q
theorem Vals.rev (r:Vals xs us):Vals xs.reverse us.reverse:=by
 induction r with
 |nil=>exact .nil
 | cons r1 _ ih =>
  rw[DM,DM];exact ih.append (.cons r1 .nil)
theorem pe_rev (he:PE X e te)(hs:PE X st ts):PE X (.Subscript e (.Slice none none (some st) p2) pos) (tRev X.K te ts):=by
 intro jb s σ H Q I h;refine Subscript_ (thn (he jb s σ H _ I h) λv s1 ⟨x,H1,I1,r1,q1⟩=>?_);refine wpAny_Slice ?_;rw[evalPart_none];refine B0 (B0 ?_);rw[evalPart_some];refine thn (hs jb s1 σ H1 _ I1 q1) λvk s3 ⟨y,H3,I3,ry,q3⟩=>?_;obtain⟨rfl,a,xs,rfl,q⟩:=q3;obtain⟨t,rfl⟩:=ry;obtain rfl:v=.ref a:=r1;have I4:Inv X jb σ H3 { s3 with heap:=s3.heap.push { cls:=.type "slice",data:=.fields #[.none,.none,.int (-1) t] } }:=I3.kept (t':=s3.toks) λb ob q=>D0 _ q;show A6 (A9 X.prog X.w) X.A (subscriptTail e (.Slice none none (some st) p2) (.ref a) (.ref s3.heap.objs.size)) (EP X jb σ Q) X.xe { s3 with heap:=s3.heap.push { cls:=.type "slice",data:=.fields #[.none,.none,.int (-1) t] } };rcases q with⟨hq,q⟩|⟨hq,q⟩
 ·obtain⟨jf,r,ht,hz⟩:=I4.list hq;refine tail_any (ops:=[.ref a,.ref s3.heap.objs.size]) ht.isList.typeIs slot_list_getitem.lookup ?_ (by with_unfolding_all rfl);refine wpAny_getItem_list_slice ht.isList (FZ ..) .none .none (.int (-1) t) (by decide) ?_ (by rw[F4];have:=r.length;omega);rw[PySem.W.krv_pick];refine⟨.ref _,_,I4.laid (t':=s3.toks) (o:=.lst xs.reverse) (λb ob q=>D0 _ q) (B9 _) ?_,rfl,q _ (I4.hok.fresh (B9 _))⟩;exact⟨by rw[FP];exact hz,jf.reverse,0,r.rev,G4 _ rfl⟩
 ·obtain⟨jf,r,ht,hz⟩:=I4.tuple hq;refine tail_any (ops:=[.ref a,.ref s3.heap.objs.size]) ht.typeIs PyProof.Rows.slot_tuple_getitem.lookup ?_ (by with_unfolding_all rfl);refine HT.getItem_tuple_rev ht (FZ ..) (.int (-1) t) ?_ (by rw[F4];have:=r.length;omega);refine⟨.ref _,_,I4.laid (t':=s3.toks) (o:=.tup xs.reverse) (λb ob q=>D0 _ q) (B9 _) ?_,rfl,q _ (I4.hok.fresh (B9 _))⟩;exact⟨by rw[FP];exact hz,jf.reverse,r.rev,X5.new _ _⟩
end
end L2
namespace Pu
open PySem PySem.Spec L2
section
variable {T:PotK}{ι:Type}{K:A8}{F:ι->Cx}{e:Expr}{pe:pE}{pos p2 p3 p4:Pos}
theorem Reps.rev:∀{xs:List PV} {vs:List V},Reps K G H xs vs->Reps K G H xs.reverse vs.reverse
 |[],vs,r=>by obtain rfl:vs=[]:=r;exact rfl
 | x :: xs, vs, r => by
  obtain⟨v,r',rfl,r1,r2⟩:=r;rw[DM,DM];exact(Reps.rev r2).append ⟨v,[],rfl,r1,rfl⟩
def wRev:w1:=λx R=>match x with|.lst xs=>R (.lst xs.reverse)|.tup xs=>R (.tup xs.reverse)|_=>False
theorem qe_rev {i:Nat}(he:QR T K F e pe)(hK:∀z,(F z).K=K:=by intro _;rfl):QE T K F (.Subscript e (.Slice none none (some (.UnaryOp .USub (.Constant (.int 1) i p3) p4)) p2) pos) (qUn wRev pe):=by
 obtain⟨t,h1,h2⟩:=he;refine⟨_,λz=>hK z▸pe_rev (h1 z) (pe_un II K4),λC G σ H env n R Q hK hT S hp k=>?_⟩;refine h2 C G σ H env n _ _ hK hT S hp λx jc n1 v H1 p1 S1 r1 f1=>?_;subst hK;have rx:=r1.rd S1;refine⟨1,rfl,rfl,?_⟩;unfold wRev at p1
 split at p1
 ·obtain⟨a,vs,ev,hq,r⟩:=rx.lst;exact⟨a,vs,ev,.inl ⟨hq,λp hn=>k _ _ _ _ _ p1 (S1.same (Same.lay1 hn)) (CM (S1.fresh hn) hn r.rev) (f1.trans (Fr.of (Same.lay1 hn)))⟩⟩
 ·obtain⟨a,vs,ev,hq,r⟩:=rx.tup;exact⟨a,vs,ev,.inr ⟨hq,λp hn=>k _ _ _ _ _ p1 (S1.same (Same.lay1 hn)) (By (S1.fresh hn) hn r.rev) (f1.trans (Fr.of (Same.lay1 hn)))⟩⟩
 grind
end
end Pu
end
section
namespace Pu
open PySem PySem.Spec L2
section
variable {T:PotK}{ι:Type}{K:A8}{F:ι->Cx}{e:Expr}{pe:pE}{pos:Pos}
def BK (i:Nat)(pe:pE):pE:=λenv n R=>(∃xs,env[i]?=some (some (.ow .lst xs)))/\pe env n λy jc n1=>match jc[i]?,y with|some (some (.ow .lst xs)),.lst ys=>xs.length+ys.length<=1000000/\R .non (jc.set i (some (.ow .lst (xs++ys)))) n1|_,_=>False
theorem Hm (i:Nat)(hv:∀z,EW (F z) (.Name x p) (tVar i))(he:QE T K F e pe)(hs:F5 e=true:=by rfl)(hbase:∀z,x6 (.Name x p) "extend" (F z).env (eval (.Name x p) (F z).env)=eval (.Name x p) (F z).env:=by intro _;rfl)(hline:(ap.endLine == pos.line)=true:=by rfl)
   (hfew:∀z,((backTo pos (E9 [e] (F z).env)).all (λx=>!x.1)&&(Z0 pos (Y8 [] (F z).env)).all (λx=>x.1.isSome)&&decide (([e]:List Expr).length+([]:List Q4).length+(if([]:List Q4).isEmpty then 0 else 1)<30))=true:=by intro _;rfl) (hK:∀z,(F z).K=K:=by intro _;rfl):QE T K F (.Call (.Attribute (.Name x p) "extend" ap) [e] [] pos) (BK i pe):=by
 obtain⟨t,a1,a2⟩:=he;refine⟨tBM K "list" I_ (tVar i) (U1 t tNil),λz=>hK z▸Bx Eb PySem.F.slot_list_extend PySem.F.type_list_extend NF (hv z).h (E8 (a1 z) J6 (D8 hs)) (hbase z) (hfew z) hline (D8 hs),λC G σ H env n R Q hK hT S hp k=>?_⟩;obtain⟨⟨xs0,e0⟩,hp⟩:=hp;obtain⟨a,vs,ev,h1,h2,h3,h4,r⟩:=S.slots i _ e0;refine⟨.ref a,ev,.inl ⟨rfl,vs,SqL.of h4⟩,?_⟩;refine a2 C G σ H env n _ _ hK hT S hp λy jc n1 v H1 q1 S1 r1 f1=>?_
 split at q1
 ·rename_i xs ys ex;obtain⟨a',us,ev',g1,g2,g3,g4,r'⟩:=S1.slots i _ ex;rw[ev] at ev';cases ev';subst hK;obtain⟨b,ws,rfl,tb,rb⟩:=r1;obtain⟨S2,f2⟩:=S1.put ex ev (r'.append rb);exact⟨a,b,us,ws,rfl,rfl,g4,tb.2,by rw[<- r'.length,<- rb.length];exact mil q1.1,k _ _ _ _ _ q1.2 S2 rfl (f1.trans f2)⟩
 ·exact q1.elim
end
end Pu
end
section
namespace L2
open PySem PySem.Spec PyProof.Rows
theorem Hn:∀{ys:List Str} {us:List A1},Vals (ys.map V.str) us->StrsAre us ys
 |[],us,r=>by rw[List.map_nil] at r;cases r;exact .nil
 | y :: ys, us, r => by
  rw[F2] at r;cases r with
  | cons r1 r2 =>
   obtain⟨t,e⟩:=r1;subst e;exact .cons y t (Hn r2)
section
variable {X:Cx}
def JG (K:A8):V->List V->Hp->VK->Prop:=λx vs H Q=>∃(l:A0) (k:Str) (ys:List Str),x=.ref l/\vs=[.str k]/\SqL K H l (ys.map V.str)/\Q (.int (countIn (.str k) (ys.map PyData.str))) H
theorem OQ:MtM X "list.count" (JG X.K):=by
 intro jb s σ H x vs v us Q I rx rv h;obtain⟨l,k,ys,rfl,rfl,hq,q⟩:=h;cases rx;obtain⟨u,rfl,ru⟩:=rv.one;obtain⟨t,rfl⟩:=ru;obtain⟨jf,r,p,hz⟩:=I.list hq;exact count_list_strs p.isList (Hn r) ⟨.int _,H,I.tok _,⟨_,rfl⟩,q⟩
end
end L2
namespace Pu
open PySem PySem.Spec PyProof.Rows L2
section
variable {T:PotK}{ι:Type}{K:A8}{F:ι->Cx}{e c:Expr}{pe pc:pE}{pos:Pos}
def EH:w2:=λx y R=>match x,y with|.lst xs,.str k=>(match O0 xs with|some ys=>R (.int (countIn (.str k) (ys.map PyData.str)))|none=>False)|_,_=>False
theorem JH {ap:Pos}(he:QE T K F e pe)(hc:QE T K F c pc)(hs:F5 c=true:=by rfl)(hbase:∀z,x6 e "count" (F z).env (eval e (F z).env)=eval e (F z).env:=by intro _;rfl)(hline:(ap.endLine == pos.line)=true:=by rfl)
   (hfew:∀z,((backTo pos (E9 [c] (F z).env)).all (λx=>!x.1)&&(Z0 pos (Y8 [] (F z).env)).all (λx=>x.1.isSome)&&decide (([c]:List Expr).length+([]:List Q4).length+(if([]:List Q4).isEmpty then 0 else 1)<30))=true:=by intro _;rfl) (hK:∀z,(F z).K=K:=by intro _;rfl):QE T K F (.Call (.Attribute e "count" ap) [c] [] pos) (λenv n R=>pe env n λx jc n1=>(∃xs,x=.lst xs)/\pc jc n1 λy jd n2=>EH x y λz=>R z jd n2):=by
 obtain⟨t,a1,a2⟩:=he;obtain⟨u,b1,b2⟩:=hc;refine⟨tBM K "list" (JG K) t (U1 u tNil),λz=>hK z▸Bx Eb PySem.F.slot_list_count PySem.F.type_list_count OQ (a1 z) (E8 (b1 z) J6 (D8 hs)) (hbase z) (hfew z) hline (D8 hs),λC G σ H env n R Q hK hT S hp k=>?_⟩;refine a2 C G σ H env n _ _ hK hT S hp λx jc n1 v H1 q1 S1 r1 f1=>?_;obtain⟨⟨xs,rfl⟩,q1⟩:=q1;obtain⟨a,vs,rfl,ta,ra⟩:=r1;refine⟨.inl ⟨rfl,vs,SqL.of ta.2⟩,?_⟩;refine b2 C G σ H1 jc n1 _ _ hK hT S1 q1 λy jd n2 w H2 q2 S2 r2 f2=>?_;unfold EH at q2
 split at q2
 ·rename_i xs' kk e1;cases e1
  split at q2
  ·rename_i ys ey;obtain⟨a',vs',e3,ta',ra'⟩:=(show Rep K G H1 (.lst xs) (.ref a) from⟨a,vs,rfl,ta,ra⟩).fr f2;cases e3;exact⟨a,kk,ys,rfl,by rw[show w=.str kk from r2],BJ ey ra'▸SqL.of ta'.2,k _ _ _ _ _ q2 S2 rfl (f1.trans f2)⟩
  ·exact q2.elim
 ·exact q2.elim
end
end Pu
namespace Pu
def Ho (pe pc:pE):pE:=λenv n R=>pe env n λx jc n1=>(∃xs,x=.lst xs)/\pc jc n1 λy jd n2=>EH x y λz=>R z jd n2
end Pu
end
section
namespace L2
open PySem PySem.Spec PyProof.Rows
theorem OR {X:Cx}{scope:G5}{cl:List (Str×A0)}{N:List Str}{jb:List (A0×Obj)}{σ σ3:St}{H2 H3:Hp}{s2 s4:A5}{fp:List A0}{i:Nat}{y:Str}{py:Pos}{DD:Ends}(hN:X.N.Nodup)(hiy:X.N[i]?=some y)(hy:Loc X.env.scope y)(hff:X.fn y=true\/X.env.scope.names.lookup y=some .local)(I2:Inv X jb σ H2 s2)(f2:∀b∈fp,FpOk X jb H2 b)(I4:Inv (G9 X scope cl N fp (s2.heap.objs.size+1) s2 H2) jb σ3 H3 s4)(qn:DD.nx (σ.set i (some (.ref s2.heap.objs.size))) H3) :
   compPost (A9 X.prog X.w) X.A X.xe (some (assign (.Name y py) X.env)) (λ_ s'=>SP X jb DD .next s') (.ref s2.heap.objs.size) (s2.heap.objs.size+1) (.ok .next) s4:=by
 obtain⟨m4,hn4,_⟩:=I4.loc;have I5:Inv X jb σ H3 s4:=Inv.uncomp (h':=s4.heap) I2 f2 I4 λb hb=>rfl;have fr:H3 (s2.heap.objs.size+1)=none:=I4.free;have oldne:∀{b o},s2.heap.get? b=some o->b≠s2.heap.objs.size+1:=λe=>D7 (i3 (C5 e));have locne:X.env.locals≠s2.heap.objs.size+1:=D7 (i3 I2.lt)
 have cellne:∀x c,X.env.cells.lookup x=some c->c≠s2.heap.objs.size+1:=λx c e=>by
  obtain⟨v,o,h1,_⟩:=I2.cell x c e;exact oldne h1
 have pinne:∀p∈X.pn++jb,p.1≠s2.heap.objs.size+1:=λp hp=>oldne (I2.pin p hp).1;have sz:X.s₀.heap.objs.size<=s2.heap.objs.size+1:=Nat.le_succ_of_le I2.sz;clear I4 I2;generalize s2.heap.objs.size+1=C at *;refine DA (IE I5 hN hiy hy (v:=.ref s2.heap.objs.size) rfl (λs6 I6 ⟨a6,sb6,ha6⟩=>?_) hff);refine⟨m4,hn4.sameBut sb6 (ha6.elim (λz=>by rw[z];exact Ne.symm locne) λz=>Ne.symm (cellne _ _ z)),λh' hs'=>⟨_,H3,?_,qn⟩⟩;have U0:Un (frs X.stack) [C] H3 H3 s6.heap s6.heap:=Un.refl;have hx':∀{b},b∉[C]->h'.get? b=s6.heap.get? b:=λ{b} hx=>hs'.2 b λz=>hx (by rw[z];simp)
 have trC:∀{b u},H3 b=some u->b∉[C]:=λ{b u} e z=>by
  rw[E2.mp z,fr] at e;cases e
 obtain⟨hh6,g6,d6,t6,os6⟩:=s6;refine I6.call (h':=h') (g':=g6) (d':=d6) (t':=t6) (ch:=[C]) ⟨λb o e n hb hx=>?_,λb o e n hb hx=>?_,U0.free,λb o e hx=>?_,U0.tups,U0.frzs,U0.tbls,U0.sys⟩ (λb u e=>?_) I6.bare λb hb=>?_
 ·rw[hx' hx];exact U0.keep b o e n hb hx
 ·rw[hx' hx];exact U0.slot b o e n hb hx
 ·rw[hx' hx];exact U0.there b o e hx
 ·refine(I6.hok b u e).stay (λc v hc q=>?_) (λ_ q=>q) λ_ _ q=>q;rw[hx' (hc.elim (λz=>by rw[z];exact trC e) trC)];exact q
 ·rw[E2.mp hb];exact⟨.inr sz,Ne.symm locne,cellne,pinne⟩
theorem OS {X:Cx}{scope:G5}{cl:List (Str×A0)}{N:List Str}{cs:List (Option Nat)}{ji tg iter:Expr}{jj:List Expr}{pos spos py:Pos}{wi:TI}{g:TG}{tt:TT}{te:TE}{i:Nat}{y:Str}(hN:X.N.Nodup)(hiy:X.N[i]?=some y)(hy:Loc X.env.scope y)(S:j3 X scope cl N cs)(hc:X.calm=true)(hi:PI X tg iter wi)
   (hb:∀(fp:List A0) (C:A0) (s:A5) (H:Hp),PG (G9 X scope cl N fp C s H) tg g/\PIf (G9 X scope cl N fp C s H) jj tt/\PE (G9 X scope cl N fp C s H) ji te)
   (hsw:k9 (.ListComp ji [⟨tg,iter,jj,0⟩] scope pos) (some (.Name y py)) spos.line X.env=pure true:=by rfl)
   (hs:∀x,R0 iter X.env x=pure x:=by intro _;rfl) (hff:X.fn y=true\/X.env.scope.names.lookup y=some .local:=by first|exact .inl rfl|exact .inr rfl|assumption) :
   PS X (.Assign [.Name y py] (.ListComp ji [⟨tg,iter,jj,0⟩] scope pos) spos) (tAsg (tComp cs wi g tt te) (M1 i)):=by
 intro jb s σ H DD I h;rw[exec_Assign_Name_used _ _ _ _ hsw];refine A3 (U7 (A3 (A3 (K3 (Q:=λ_ s'=>SP X jb DD .next s') (GA S hc hi hs I h λfp it tn J s2 H2 s₃ T stat I2 f2 q Ic st1 fr1=>?_) (λ_ s' hq=>B0 (B0 hq)) λ_ _ e=>e))));obtain⟨W,⟨m0,w0⟩,turn⟩:=q;obtain⟨hg,hf,he⟩:=hb fp (s2.heap.objs.size+1) s2 H2;exact Jb _ (Gz (Y:=G9 X scope cl N fp (s2.heap.objs.size+1) s2 H2) T hc stat hg hf he (λs4 σ3 H3 I4 qn=>OR hN hiy hy hff I2 f2 I4 qn) turn) m0 ⟨0,_,_,Ic,st1,fr1,w0⟩
end L2
namespace Pu
open PySem PySem.Spec L2
def SwOk (X:Cx)(e:Expr)(t:TE):Prop:=∀(i:Nat) (y:Str) (py spos:Pos),X.N.Nodup->X.N[i]?=some y->Loc X.env.scope y->k9 e (some (.Name y py)) spos.line X.env=pure true->(X.fn y=true\/X.env.scope.names.lookup y=some .local)->PS X (.Assign [.Name y py] e spos) (tAsg t (M1 i))
def QNC {ι:Type}(T:PotK)(K:A8)(F:ι->Cx)(e:Expr)(pn:pA):Prop:=∃t,(∀z,PE (F z) e t)/\(∀z,SwOk (F z) e t)/\NOk K T t pn
section
variable {T:PotK}{np:Bool}{ι:Type}{K:A8}{F:ι->Cx}{e:Expr}{pl:pA}{pg:pG}{pos:Pos}
theorem OT {scope:G5}{cl:ι->List (Str×A0)}{N:List Str}{cs:List (Option Nat)}{ji tg iter:Expr}{jj:List Expr}{pi:pA}{ptt:pT}{pte:pE}(S:∀z,j3 (F z) scope (cl z) N cs)(hc:∀z,(F z).calm=true)(hi:QI T K F tg iter pi)
   (hg:QG K (λy:ι×List A0×A0×A5×Hp=>G9 (F y.1) scope (cl y.1) N y.2.1 y.2.2.1 y.2.2.2.1 y.2.2.2.2) tg pg) (ht:QIf T K (λy:ι×List A0×A0×A5×Hp=>G9 (F y.1) scope (cl y.1) N y.2.1 y.2.2.1 y.2.2.2.1 y.2.2.2.2) jj ptt)
   (he:QE T K (λy:ι×List A0×A0×A5×Hp=>G9 (F y.1) scope (cl y.1) N y.2.1 y.2.2.1 y.2.2.2.1 y.2.2.2.2) ji pte)
   (hs:∀z x,R0 iter (F z).env x=pure x:=by intro _ _;rfl):QNC T K F (.ListComp ji [⟨tg,iter,jj,0⟩] scope pos) (V4 cs pi pg ptt pte):=by
 obtain⟨wi,i1,i2⟩:=hi;obtain⟨g,hg0,hg⟩:=hg;obtain⟨tt,ht0,ht⟩:=ht;obtain⟨te,he0,he⟩:=he;refine⟨_,λz=>Jd (S z) (hc z) (i1 z) (λfp C s H=>⟨hg0 (z,fp,C,s,H),ht0 (z,fp,C,s,H),he0 (z,fp,C,s,H)⟩) (hs z),λz i y py spos hN hi hy hsw hf=>OS hN hi hy (S z) (hc z) (i1 z) (λfp C s H=>⟨hg0 (z,fp,C,s,H),ht0 (z,fp,C,s,H),he0 (z,fp,C,s,H)⟩) hsw (hs z) hf,λC G σ H env n R Q hK hT S hp k=>?_⟩;refine i2 C G σ H env n _ _ hK hT S hp λxs jc n1 J H1 p1 S1 f1 hJ=>?_;intro D hD;have hDM:=S1.fresh hD;refine Jv (G:=G) hg ht he hJ p1.1 hD (hT▸hK▸GY S1 cs) p1.2 λys n2 us H' rr hpots hk eD ry=>?_
 -- the heap without D
 have nD:∀b o,H1 b=some o->b≠D:=λb o e z=>by rw[z,hD] at e;cases e
 have hD0:C.H0 D=none:=by
  cases z:C.H0 D with
  |none=>rfl
  | some o =>
   by_cases hp:D∈C.pots0
   ·exact absurd (S1.sup D (S1.p0.1 D hp)) hDM
   ·have:=S1.frame D o hp z;rw[hD] at this;cases this
 have hk2:∀b o,b∉G.pots->H1 b=some o->cutH H' D b=some o:=λb o hb e=>by rw[U3 (nD b o e)];exact hk b o hb e
 have nc:∀b,b∉D::G.M->b≠D:=λb hb z=>hb (by rw[z];exact C3);have np:∀p∈G.pots,p≠D:=λp hp z=>hDM (z▸(S1.pots p hp).1)
 have Sb:SR C G σ (cutH H' D) jc n2:=S1.call hk2 λp hp=>by
  subst hT;have h2:=C.T.keep (hpots p hp) (H':=cutH H' D) (U3 (np p hp)) λb o hb e=>by rw[U3 (nc b hb)];exact e
  exact C.T.more h2 λa ha=>.inl (C2 _ ha)
 have:=k ys jc n2 D us (cutH H' D) rr Sb (f1.trans λb o hb e=>hk2 b o (λz=>hb (S1.pots b z).1) e) (by unfold cutH;rw[jr rfl]) ?_
 ·rw[GZ eD] at this;exact this
 ·exact Reps.mono (G:=⟨D::G.M,G.pots⟩) (λb o hb e=>by rw[U3 (nc b hb)];exact e) (λa ha=>.inl (C2 _ ha)) (λ_ _ e=>e) _ _ ry
theorem OU (i:Nat){y:Str}{py spos:Pos}(h:QNC T K F e pl)(hN:∀z,(F z).N.Nodup)(hi:∀z,(F z).N[i]?=some y)(hy:∀z,Loc (F z).env.scope y)(hsw:∀z,k9 e (some (.Name y py)) spos.line (F z).env=pure true:=by intro _;rfl)(hf:∀z,(F z).fn y=true\/(F z).env.scope.names.lookup y=some .local:=by intro _;first|exact .inl rfl|exact .inr rfl):QS T np K F (.Assign [.Name y py] e spos) (qSet i (qL pl)):=by
 obtain⟨t,a1,a3,a2⟩:=h
 have he:EOk K T t (qL pl):=λC G σ H env n R Q hK hT S hp k=>by
  refine a2 C G σ H env n _ _ hK hT S hp λxs jc n1 a vs Hb p1 S1 f1 hn r1=>?_;exact k _ _ _ _ _ p1 (S1.same (Same.lay1 hn)) (CM (S1.fresh hn) hn r1) (f1.trans (Fr.of (Same.lay1 hn)))
 refine⟨_,λz=>a3 z i y py spos (hN z) (hi z) (hy z) (hsw z) (hf z),λC G σ H env n PD D hK hT hn S hp L=>?_⟩;refine he C G σ H env n _ _ hK hT S hp λx jc n1 v H1 q1 S1 r1 f1=>?_;exact L.nx _ _ _ _ _ q1 (S1.set i (hK▸r1)) (Ext.fr f1)
end
end Pu
end
section
namespace L2
open PySem PySem.Spec PyProof.Rows
def met (val:Nat->Key):Nat->List Key
 |0=>[]
 |i+1=>if(met val i).any (λy=>decide (y=val i)) then met val i else met val i++[val i]
theorem JI (val:Nat->Key):∀i,(met val i).length<=i
 |0=>B9 _
 | i + 1 => by
  have:=JI val i;unfold met
  split
  ·omega
  ·rw[E3,O7];omega
theorem JJ (val:Nat->Key)(i:Nat)(k:Key):(met val (i+1)).any (λy=>decide (y=k))=((met val i).any (λy=>decide (y=k))||decide (k=val i)):=by
 show(if(met val i).any (λy=>decide (y=val i)) then met val i else met val i++[val i]).any (λy=>decide (y=k))=_
 by_cases hk:k=val i
 ·subst hk;rw[jp rfl,Bool.or_true]
  split
  ·assumption
  ·rw[List.any_append];simp
 ·rw[jq hk,Aa]
  split
  ·rfl
  ·rw[List.any_append]
   have:([val i].any (λy=>decide (y=k)))=false:=by
    rw[List.any_cons,List.any_nil,Aa];exact jq (Ne.symm hk)
   rw[this,Aa]
theorem JK (val:Nat->Key)(i:Nat):(met val (i+1)).length=if(met val i).any (λy=>decide (y=val i)) then(met val i).length else(met val i).length+1:=by
 show(if(met val i).any (λy=>decide (y=val i)) then met val i else met val i++[val i]).length=_
 split
 ·rfl
 ·rw[E3,O7]
section
variable {prog:D1}{w:C8}{A:D5}{R:Result->A5->Prop}{I:A0}{fp wr:List A0}{G:Array GenState->Array GenState->Prop}{n:Nat}{P:Nat->A1->Prop}{St:Nat->A5->Prop}
theorem OV (Wk:WalksS prog w A.in1 I fp wr G n P St)(S:A0)(nf:S∉fp)(val:Nat->Key)(hv:∀i v,P i v->(K8 prog w).is (val i) v=true/\v.scannable=true)(room:n+1<scanBound) :
   ∀ (k i : Nat) (s : A5), n - i = k -> i <= n -> St i s -> s.heap.SetOf (K8 prog w) S (fun q => (met val i).any (fun y => decide (y = q))) (met val i).length ->
     (∀s',Moved (S::wr) G s s'->s'.heap.SetOf (K8 prog w) S (λq=>(met val n).any (λy=>decide (y=q))) (met val n).length->R (.ok (.ret .none)) s')->
     N0 (A9 prog w) A (.builtin "set.update.loop" ⟨[.ref S,.ref I],[]⟩) R s:=by
 have nw:S∉wr:=λh=>nf (Wk.sub _ h);have sub:∀b∈wr,b∈S::wr:=λb hb=>C2 _ hb;intro k
 induction k with
 | zero =>
  intro i s hk hi st so fin;have ei:i=n:=by omega
  subst ei;refine Y7 DX ?_;rw[i6 Ae _];refine A3 (m:=pyNext (.ref I)) (Wk.done s _ _ st λs' mv=>?_);refine B0 (fin s' (mv.mono sub) ?_);obtain⟨o,es,ep,t,ho,more⟩:=so;exact⟨o,es,ep,t,mv.heap S _ nw ho,more⟩
 | succ k ih =>
  intro i s hk hi st so fin;have lt:i<n:=by omega
  refine Y7 DX ?_;rw[i6 Ae _];refine A3 (m:=pyNext (.ref I)) (Wk.item i s _ _ lt st λv s' pv' st' mv=>?_);obtain⟨kv,sc⟩:=hv i v pv'
  have so':s'.heap.SetOf (K8 prog w) S (λq=>(met val i).any (λy=>decide (y=q))) (met val i).length:=by
   obtain⟨o,es,ep,t,ho,more⟩:=so;exact⟨o,es,ep,t,mv.heap S _ nw ho,more⟩
  refine A3 (m:=R5 [v] (setAdd S v)) (J7 ?_);unfold setAdd;refine J7 (A3 ((K8 prog w).pyHash (k:=val i) kv ?_));have rm:(met val i).length+1<scanBound:=by have:=JI val i;omega
  refine wpAny_setAddHashed_of (knd:=K8 prog w) (s:={ s' with toks:=s'.toks+1 }) kv sc so' rm λh' sb so2=>?_
  have so3:h'.SetOf (K8 prog w) S (λq=>(met val (i+1)).any (λy=>decide (y=q))) (met val (i+1)).length:=by
   have e1:(λq=>(met val i).any (λy=>decide (y=q))||decide (q=val i))=λq=>(met val (i+1)).any (λy=>decide (y=q)):=funext λq=>(JJ val i q).symm;rw[JK,<- e1];exact so2
  refine B0 ⟨e6 Ae _,ih (i+1) _ (by omega) lt (Wk.frame _ s' _ _ st' (z9 _) λb hb o e=>?_) so3 λs2 mv2 so4=>?_⟩
  ·rw[sb.2 b (λz:b=S=>nf (by rw[<- z];exact hb))];exact e
  ·refine fin s2 (Moved.trans Wk.gtrans ((mv.mono sub).then_heap (z9 _) λb o hb e=>?_) mv2) so4;rw[sb.2 b (λz:b=S=>hb (by rw[z];exact C3))];exact e
end
section
variable {prog:D1}{w:C8}{A:D5}{E:A1->A5->Prop}{s:A5}
theorem OW:isSubtype (.type "tuple") (.type "set")=pure false:=by rw[k6] <;> kernel_rfl
theorem OX:isSubtype (.type "tuple") (.type "frozenset")=pure false:=by rw[k6] <;> kernel_rfl
theorem OY:isSubtype (.type "list") (.type "set")=pure false:=by rw[k6] <;> kernel_rfl
theorem OZ:isSubtype (.type "list") (.type "frozenset")=pure false:=by rw[k6] <;> kernel_rfl
theorem O_ (x:A1){Q₁:A1->A5->Prop}
   (h:∀led:Bool,led=(!(w.params.followText "set-order"))->Q₁ (.ref s.heap.objs.size) { s with heap:=s.heap.push { cls:=.type "set",dict:=none,data:=.set #[] 0 (.fresh 0 0 led) } }) :
   N0 (A9 prog w) A (.call (.builtin "set.__new__") ⟨[.type "set",x],[]⟩) (wants Q₁ E) s:=by
 refine codeAny_of_tree (show A6 (A9 prog w) A.in1 (checkBuiltinCall "set.__new__" ⟨[.type "set",x],[]⟩>>=λ_=>again (.builtin "set.__new__" ⟨[.type "set",x],[]⟩)) _ _ s from ?_);refine A3 (AL (F.newCall_set_1 x) (B0 ⟨e6 F.plain_set_new _,Y7 F.entry_set_new ?_⟩));rw[i6 F.plain_set_new _];unfold O4.«set.__new__» Builtin.Frozenset.newClass;have ss:=sub_set_self;obtain⟨hp,gs,dr,tk,sy⟩:=s;dsimp only
 wp_walk
 refine DB (B0 ?_);dsimp only;unfold newObj;refine A3 (wpAny_alloc (B0 (B0 (h _ ?_))))
 first|rfl|simp
abbrev soN (led:Bool):Obj:={ cls:=.type "set",dict:=none,data:=.set #[] 0 (.fresh 0 0 led) }
theorem JL {a:A0}{jf:Array A1}{Z:B7->Prop}{Q:A1->A5->Prop}(hd:A.handled=none)(ht:s.heap.IsList a jf\/s.heap.IsTuple a jf)
   (lp:∀(I:A0) (St:Nat->A5->Prop) (fp:List A0) (G:Array GenState->Array GenState->Prop) (s1:A5) (R:Result->A5->Prop) (led:Bool),led=(!(w.params.followText "set-order"))->s.heap.objs.size<I->
     WalksS prog w A.in1.in1.in1 I fp [I] G jf.size (λi v=>jf[i]?=some v) St->s.heap.objs.size∉fp->St 0 s1->s1.heap.get? s.heap.objs.size=some (soN led)->(∀b o,s.heap.get? b=some o->s1.heap.get? b=some o)->
     (∀s',Moved [s.heap.objs.size,I] G s1 s'->Z s'.heap->R (.ok (.ret .none)) s')->N0 (A9 prog w) A.in1.in1 (.builtin "set.update.loop" ⟨[.ref s.heap.objs.size,.ref I],[]⟩) R s1)
   (fin:∀(h':B7) (tk:Nat),Z h'->(∀b o,b<s.heap.objs.size->s.heap.get? b=some o->h'.get? b=some o)->Q (.ref s.heap.objs.size) { s with heap:=h',toks:=tk }):A6 (A9 prog w) A (call (.type "set") [.ref a]) Q E s:=by
 obtain⟨c,tl,mr⟩:=PySem.F.called_set.mro;have md:=PySem.F.called_set.made;have sb:=PySem.F.called_set.sub;refine wpAny_call (codeAny_of_tree (show A6 (A9 prog w) _ (callAny (.type "set") _) _ _ s from ?_));refine B0 ⟨Code.quiet_builtin _ (by decide +kernel),Y7 PySem.F.entry_type_call ?_⟩;rw[Around.under_plain (weight_type_call_type "set" [.ref a] []) rfl];have x1:=PySem.F.called_set.notType;have x2:=PySem.F.called_set.canCreate;have x3:=PySem.F.typeCall_set_1 (.ref a)
 repeat (any_goals (first|wp_step|assumption))
 refine x8 (O_ (.ref a) (E:=E) (Q₁:=λob s₁=>∃led:Bool,led=(!(w.params.followText "set-order"))/\ob=.ref s.heap.objs.size/\s₁={ s with heap:=s.heap.push (soN led) }) λled hl=>⟨led,hl,rfl,rfl⟩) λr s₁ hr=>?_;cases r with
 |error e=>exact hr
 | ok fl =>
  cases fl with
  | ret ob =>
   obtain⟨led,hled,rfl,rfl⟩:=hr;have g0:(s.heap.push (soN led)).get? s.heap.objs.size=some (soN led):=G4 _ rfl;have ty:Shared.TypeIs { s with heap:=s.heap.push (soN led) } (.ref s.heap.objs.size) "set":=⟨_,g0,rfl⟩;have y1:=PySem.F.called_set.init.lookup;have y2:=PySem.F.called_set.init.bind (.ref s.heap.objs.size)
   repeat (any_goals (first|wp_step|assumption))
   refine x8 (codeAny_call_builtin (R:=wants (λr s₂=>r=.none/\∃h' tk,s₂={ s with heap:=h',toks:=tk }/\Z h'/\
       (∀b o,b<s.heap.objs.size->s.heap.get? b=some o->h'.get? b=some o)) E) PySem.F.called_set.init.plain PySem.F.entry_set_init (PySem.check_set_init_1 ty ?_)) λr₂ s₂ hr₂=>?_
   ·clear fin;have h3:A.in1.in1.in1.handled=none:=by simp[hd]
    unfold O4.«set.__init__» noKeywords Builtin.Frozenset.updateFrom;generalize hP:pyIter=PI;rcases ht with⟨⟨oc,od,odt,os⟩,ho,hc,nl,hdl⟩|⟨⟨oc,od,odt,os⟩,ho,hc,nl,hdl⟩ <;>
    ·cases hc;cases hdl;have ho':=D0 (soN led) ho;have z1:=OY;have z2:=OZ;have z3:(L5 "list" == L5 "dict")=false:=by decide
     have z4:=OW;have z5:=OX;have z6:(L5 "tuple" == L5 "dict")=false:=by decide
     wp_walk
     subst hP;have la:a<s.heap.objs.size:=C5 ho;have n1:a≠(s.heap.push (soN led)).objs.size:=by rw[AZ];exact D7 (i3 la)
     have lI:s.heap.objs.size<(s.heap.push (soN led)).objs.size:=by rw[AZ];exact Nat.lt_succ_self _
     have n2:s.heap.objs.size∉[(s.heap.push (soN led)).objs.size,a]:=λz=>by
      rcases C6.mp z with z|z
      ·exact D7 lI z
      ·exact y9 la (E2.mp z)
     have en:∀{s1 s':A5} {G},Moved [s.heap.objs.size,(s.heap.push (soN led)).objs.size] G s1 s'->Z s'.heap->s1.gens=s.gens->s1.drawn=s.drawn->s1.os=s.os->(∀b o,s.heap.get? b=some o->s1.heap.get? b=some o)->(∀x y,G x y->y=x)->∃h' tk,s'={ s with heap:=h',toks:=tk }/\Z h'/\(∀b o,b<s.heap.objs.size->s.heap.get? b=some o->h'.get? b=some o):=by
      intro s1 s' G mv zz e1 e2 e3 kp hG;obtain⟨h',g',d',tk',os'⟩:=s';obtain rfl:g'=s.gens:=(hG _ _ mv.gens).trans e1;obtain rfl:d'=s.drawn:=mv.drawn.trans e2;obtain rfl:os'=s.os:=mv.os.trans e3;refine⟨h',tk',rfl,zz,λb o hb e=>mv.heap b o (λz=>?_) (kp _ _ e)⟩;rcases C6.mp z with z|z
      ·exact D7 hb z
      ·exact D7 (Bb hb lI) (E2.mp z)
     first
       | (refine Cc ⟨_,ho',rfl,nl,rfl⟩ (A3 (wpAny_runValue ?_))
          refine lp _ _ _ _ _ _ led hled lI ((Walks.list h3 _ a n1 jf).toS) n2 ⟨⟨_,G4 _ rfl,rfl,rfl⟩,⟨_,D0 _ ho',rfl,nl,rfl⟩⟩ (D0 _ g0) (λb o e=>D0 _ (D0 _ e)) λs' mv zz=>B0 (B0 ⟨rfl,?_⟩))
       | (refine Cb ⟨_,ho',rfl,nl,rfl⟩ (A3 (wpAny_runValue ?_))
          refine lp _ _ _ _ _ _ led hled lI ((Br h3 _ a n1 jf).toS) n2 ⟨⟨_,G4 _ rfl,rfl,rfl⟩,⟨_,D0 _ ho',rfl,nl,rfl⟩⟩ (D0 _ g0) (λb o e=>D0 _ (D0 _ e)) λs' mv zz=>B0 (B0 ⟨rfl,?_⟩))
     exact en mv zz rfl rfl rfl (λb o e=>D0 _ (D0 _ e)) λ_ _ e=>e
   ·cases r₂ with
    |error e=>exact hr₂
    | ok fl₂ =>
     cases fl₂ with
     | ret r =>
      obtain⟨rfl,h',tk,rfl,so',kp⟩:=hr₂
      repeat (any_goals (first|wp_step|assumption))
      exact fin _ _ so' kp
     |_=>exact hr₂.elim
  |_=>exact hr.elim
theorem set_of {h:B7}{S:A0}{val:Nat->Key}{led:Bool}(g1:h.get? S=some (soN led)):h.SetOf (K8 prog w) S (λq=>(met val 0).any (λy=>decide (y=q))) (met val 0).length:=by
 refine⟨soN led,#[],0,.fresh 0 0 led,g1,⟨rfl,rfl,rfl⟩,rfl,λe he=>(nomatch he),λk=>⟨λz=>(nomatch z),λ⟨e,he,_⟩=>(nomatch he)⟩,by decide,?_,rfl⟩;cases led <;> decide
theorem JM {a:A0}{jf:Array A1}{val:Nat->Key}{Q:A1->A5->Prop}(hd:A.handled=none)(ht:s.heap.IsList a jf\/s.heap.IsTuple a jf)(hv:∀(i:Nat) (v:A1),jf[i]?=some v->(K8 prog w).is (val i) v=true/\v.scannable=true)(room:jf.size+1<scanBound)
   (fin:∀(h':B7) (tk:Nat),h'.SetOf (K8 prog w) s.heap.objs.size (λq=>(met val jf.size).any (λy=>decide (y=q))) (met val jf.size).length->
     (∀b o,b<s.heap.objs.size->s.heap.get? b=some o->h'.get? b=some o)->Q (.ref s.heap.objs.size) { s with heap:=h',toks:=tk }):A6 (A9 prog w) A (call (.type "set") [.ref a]) Q E s:=
 JL hd ht (λI St fp G s1 R led _ _ Wk nf h0 g1 _ k=>OV Wk _ nf val hv room (jf.size-0) 0 s1 rfl (J9 _) h0 (set_of g1) k) fin
end
end L2
end
section
namespace L2
open PySem PySem.Spec PyProof.Rows
def O2 (ys:List Str)(i:Nat):Key:=X2 (ys.getD i (A7 ""))
def SetX (X:Cx)(p:A0)(S:Key->Bool)(n:Nat):HO:=.ext λh=>h.SetOf (K8 X.prog X.w) p S n
theorem JN {ys:List Str}{us:List A1}(r:Vals (ys.map V.str) us){i:Nat}{u:A1}(h:us[i]?=some u):∃t,u=.str (ys.getD i (A7 "")) t:=by
 obtain⟨hi,e⟩:=F7.mp h;obtain⟨x,ex,rx⟩:=r.getE hi;rw[G6] at ex;cases ey:ys[i]? with
 |none=>rw[ey] at ex;cases ex
 | some y =>
  rw[ey] at ex;cases ex;obtain⟨t,et⟩:=rx;refine⟨t,?_⟩;rw[<- e,et,List.getD,ey]
  rfl
section
variable {X:Cx}
theorem Pa (hc:X.calm=true):L6 X (.type "set") (λvs H Q=>∃(a:A0) (ys:List Str),vs=[.ref a]/\SqT X.K H a (ys.map V.str)/\ys.length<=1000/\∀p,H p=none->Q (.ref p) (upd H p (SetX X p (λq=>(met (O2 ys) ys.length).any (λy=>decide (y=q))) (met (O2 ys) ys.length).length))):=by
 intro jb s σ H vs us Q I rv h;obtain⟨a,ys,rfl,hq,hl,k⟩:=h;obtain⟨u,rfl,ru⟩:=rv.one;obtain rfl:u=.ref a:=ru;obtain⟨jf,r,ht,_⟩:=I.tuple hq;have sz:jf.toArray.size=ys.length:=by have:=r.length;rw[B8] at this;simpa using this.symm
 refine JM (val:=O2 ys) (I.ok.hd hc) (.inr ht) (λi v e=>?_) (by rw[sz];unfold scanBound;omega) λh' tk so kp=>?_
 ·obtain⟨t,rfl⟩:=JN r (by simpa using e);exact⟨Ef _ _ _ _,rfl⟩
 ·rw[sz] at so
  have I1:Inv X jb σ (upd H s.heap.objs.size (SetX X s.heap.objs.size (λq=>(met (O2 ys) ys.length).any (λy=>decide (y=q))) (met (O2 ys) ys.length).length)) { s with heap:=h',toks:=tk }:=
   I.laid (fun b o e=>kp b o (C5 e) e) (B9 _) ⟨so,by obtain⟨o,_,_,_,e,_⟩:=so;exact⟨o,e⟩,fun h1 h2 x k2=>by
    obtain⟨o,es,ep,t,e,more⟩:=x
    exact⟨o,es,ep,t,k2 o e,more⟩⟩
  exact⟨.ref s.heap.objs.size,_,I1,rfl,k _ (I.hok.fresh (B9 _))⟩
theorem JO:L6 X (.builtin "len") (λvs H Q=>∃p S n,vs=[.ref p]/\H p=some (SetX X p S n)/\Q (.int n) H):=by
 intro jb s σ H vs us Q I rv h;obtain⟨p,S,n,rfl,e,q⟩:=h;obtain⟨u,rfl,ru⟩:=rv.one;obtain rfl:u=.ref p:=ru;obtain⟨so,_,_⟩:=I.hok p _ e;obtain⟨o,es,ep,t,ho,hex,hd,_,_,hb,hf,hn⟩:=so;refine call_len_set ho hex hd hf (by unfold scanBound at hb;omega) ⟨.int n,H,I.tok _,⟨_,by rw[hn]⟩,q⟩
def Pb (K:A8)(t:TE):TE:=λσ H Q=>t σ H λx H1=>∃(a:A0) (ys:List Str),x=.ref a/\SqT K H1 a (ys.map V.str)/\ys.length<=1000/\∀H2,Same H1 H2->Q (.int (met (O2 ys) ys.length).length) H2
theorem Pc (hc:X.calm=true)(g1:Gl X "len")(m1:X.mg "len"=none)(g2:Gl X "set")(m2:X.mg "set"=none)(he:PE X e t)(hs:E9 [e] X.env=(false,eval e X.env)::E9 [] X.env)(tm:∀(σ:St) (H:Hp) (Q Q':VK),t σ H Q->(∀v H',Q v H'->Q' v H')->t σ H Q') :
   PE X (.Call (.Name "len" p1) [.Call (.Name "set" p2) [e] [] pos2] [] pos) (Pb X.K t):=by
 have i1:=Bw (p:=p2) (pos:=pos2) (Pa hc) g2 m2 GE (E8 he J6 hs) (by decide) (by decide) hs rfl;have i2:=Z7 (p:=p1) (pos:=pos) JO g1 m1 Ej (E8 i1 J6 rfl) (by decide) (by decide) rfl rfl;intro jb s σ H Q I h;refine i2 jb s σ H Q I ?_;refine tm σ H _ _ h λx H1 hx=>?_;obtain⟨a,ys,rfl,hq,hl,k⟩:=hx;exact⟨a,ys,rfl,hq,hl,λp hn=>⟨p,_,_,rfl,E7,k _ ((Same.refl _).lay hn)⟩⟩
end
end L2
namespace Pu
open PySem PySem.Spec L2
section
variable {T:PotK}{ι:Type}{K:A8}{F:ι->Cx}{pos:Pos}
def EI:w1:=λx R=>match x with|.tup xs=>(match O0 xs with|some ys=>ys.length<=1000/\R (.int (met (O2 ys) ys.length).length)|none=>False)|_=>False
theorem Pd (i:Nat)(hc:∀z,(F z).calm=true)(g1:∀z,Gl (F z) "len")(m1:∀z,(F z).mg "len"=none)(g2:∀z,Gl (F z) "set")(m2:∀z,(F z).mg "set"=none)(hv:∀z,EW (F z) (.Name x p) (tVar i))(hK:∀z,(F z).K=K:=by intro _;rfl) :
   QE T K F (.Call (.Name "len" p1) [.Call (.Name "set" p2) [.Name x p] [] pos2] [] pos) (qUn EI (qV i)):=by
 refine⟨_,λz=>hK z▸Pc (hc z) (g1 z) (m1 z) (g2 z) (m2 z) (hv z).h rfl (λσ H Q Q' ⟨v,e,q⟩ k=>⟨v,e,k _ _ q⟩),λC G σ H env n R Q hK hT S hp k=>?_⟩;obtain⟨x,e,r⟩:=qV_ex hp;obtain⟨v,ev,rv⟩:=S.slots i _ e;refine⟨v,ev,?_⟩;unfold EI at r
 split at r
 ·rename_i xs
  split at r
  ·rename_i ys ey;obtain⟨a,vs,rfl,t,rs⟩:=rv;exact⟨a,ys,rfl,BJ ey rs▸t.sq,r.1,λH2 s2=>k _ _ _ _ _ r.2 (S.same s2) rfl (Fr.of s2)⟩
  ·grind
 grind
end
end Pu
end
section
namespace Pu
open PySem PySem.Spec L2
def Ltr (c:Nat):Prop:=97<=c/\c<=122
def F6 (z:Str):Prop:=1<=z.cps.toList.length/\z.cps.toList.length<=8/\∀c∈z.cps.toList,Ltr c
abbrev LETS:Str:=A7 "abcdefghijklmnopqrstuvwxyz"
theorem JP (val:Nat->Key)(k:Key):∀i,(met val i).any (λy=>decide (y=k))=true->∃j,j<i/\k=val j
 |0,h=>by simp[met] at h
 | i + 1, h => by
  rw[JJ,Cv] at h;rcases h with h|h
  ·obtain⟨j,hj,e⟩:=JP val k i h;exact⟨j,by omega,e⟩
  ·exact⟨i,by omega,ju h⟩
theorem JQ (ys:List Str)(h:ys.Nodup):∀n,n<=ys.length->(met (O2 ys) n).length=n
 |0,_=>rfl
 | n + 1, hn => by
  have ih:=JQ ys h n (by omega);rw[JK,jt,ih];intro z;obtain⟨j,hj,e⟩:=JP _ _ n z
  have kat:∀m,(hm:m<ys.length)->O2 ys m=X2 ys[m]:=λm hm=>by
   unfold O2;rw[List.getD,D3 hm];rfl
  rw[kat n (by omega),kat j (by omega)] at e;have e2:ys[n]'(by omega)=ys[j]'(by omega):=Sum.inr.inj e;exact(W5.mp h j n (by omega) (by omega) hj) e2.symm
end Pu
end
section
namespace L2
open PySem PySem.Spec PyProof.Rows
def ItB (b:Bool)(h:B7)(it l:A0)(i:Nat):Prop:=match b with|true=>h.IsListIter it l i|false=>h.IsTupleIter it l i
def SeB (b:Bool)(h:B7)(l:A0)(items:Array A1):Prop:=match b with|true=>h.IsList l items|false=>h.IsTuple l items
theorem ItB.at {b:Bool}{h h':B7}{it l:A0}{i:Nat}(x:ItB b h it l i)(e:∀o,h.get? it=some o->h'.get? it=some o):ItB b h' it l i:=by
 cases b with
 |true=>exact(show h.IsListIter it l i from x).at e
 |false=>exact(show h.IsTupleIter it l i from x).at e
theorem SeB.at (x:SeB b h l items)(e:∀o,h.get? l=some o->h'.get? l=some o):SeB b h' l items:=by
 cases b with
 |true=>exact(show h.IsList l items from x).at e
 |false=>exact(show h.IsTuple l items from x).at e
theorem ItB.obj (x:ItB b h it l i):∃o,h.get? it=some o/\(o.cls=.type "list_iterator"\/o.cls=.type "tuple_iterator")/\∀v,o.data≠.cell v:=by
 cases b with
 |true=>obtain⟨o,e,c,d⟩:=(show h.IsListIter it l i from x);exact⟨o,e,.inl c,λv z=>by rw[d] at z;cases z⟩
 |false=>obtain⟨o,e,c,d⟩:=(show h.IsTupleIter it l i from x);exact⟨o,e,.inr c,λv z=>by rw[d] at z;cases z⟩
theorem SeB.obj (x:SeB b h l items):∃o,h.get? l=some o/\(o.cls=.type "list"\/o.cls=.type "tuple"):=by
 cases b with
 |true=>obtain⟨o,e,c,d⟩:=(show h.IsList l items from x);exact⟨o,e,.inl c⟩
 |false=>obtain⟨o,e,c,d⟩:=(show h.IsTuple l items from x);exact⟨o,e,.inr c⟩
theorem ItB.ne (x:ItB b h it l i)(y:SeB b' h a items):a≠it:=λz=>by
 obtain⟨o,e,c,_⟩:=x.obj;obtain⟨o',e',c'⟩:=y.obj;rw[z,e] at e';cases e';rcases c with c|c <;> rcases c' with c'|c' <;> (rw[c] at c';exact absurd c' (by decide))
section
variable {prog:D1}{w:C8}{A:D5}{E:A1->A5->Prop}{s:A5}
theorem Pe (hit:s.heap.IsTupleIter it t i)(ht:s.heap.IsTuple t items)(hx:items[i]?=some x)
   (hQ:∀h',h'.IsTupleIter it t (i+1)->T7 it s.heap h'->Q x { s with heap:=h' }):A6 (A9 prog w) A (Bj (.ref it)) Q E s:=by
 obtain⟨oi,hoi,hci,hdi⟩:=id hit;obtain⟨ot,hot,_,nt,hdt⟩:=ht;have ty:=hit.typeIs;unfold Bj
 refine A3 (Y6 (name:=A7 "__next__") ty Ea
   (P8 Ea ty F.entry_tuple_iterator_next ?_ (F.args_tuple_iterator_next_1 _)))
 show A6 _ _ (field (.ref it) 0>>=_) _ _ s;refine A3 (V8 hoi hdi (x:=.ref t) rfl ?_);show A6 _ _ (if(L9 t == X1)=true then _ else _) _ _ s;rw[jt (show ¬((L9 t == X1)=true) from T9)];show A6 _ _ (field (.ref it) 1>>=_) _ _ s;refine A3 (V8 hoi hdi (x:=.int i 0) rfl ?_);show A6 _ _ (seqItems? (.ref t)>>=_) _ _ s;refine A3 (AH hot hdt ?_);simp only[DY,hx];refine A3 (k7 hoi hdi (by simp) (B0 ⟨x,rfl,B0 (hQ _ ?_ (Q2 ..))⟩));exact⟨_,AY _ hoi (Obj.isFreed_of_fields (DT hdi _)),(Obj.cls_mapFields ..).trans hci,by rw[DT hdi];simp[rawInt]⟩
theorem Pf (hh:A.handled=none)(hit:s.heap.IsTupleIter it t i)(ht:s.heap.IsTuple t items)(hx:items[i]?=none)
   (hE:∀h' e,Co it s.heap h'->(∃o,h'.get? e=some o/\o.cls=.type "StopIteration")->E (.ref e) { s with heap:=h' }):A6 (A9 prog w) A (Bj (.ref it)) Q E s:=by
 obtain⟨oi,hoi,hci,hdi⟩:=id hit;obtain⟨ot,hot,_,nt,hdt⟩:=ht;have ty:=hit.typeIs;unfold Bj
 refine A3 (Y6 (name:=A7 "__next__") ty Ea
   (P8 Ea ty F.entry_tuple_iterator_next ?_ (F.args_tuple_iterator_next_1 _)))
 show A6 _ _ (field (.ref it) 0>>=_) _ _ s;refine A3 (V8 hoi hdi (x:=.ref t) rfl ?_);show A6 _ _ (if(L9 t == X1)=true then _ else _) _ _ s;rw[jt (show ¬((L9 t == X1)=true) from T9)];show A6 _ _ (field (.ref it) 1>>=_) _ _ s;refine A3 (V8 hoi hdi (x:=.int i 0) rfl ?_);show A6 _ _ (seqItems? (.ref t)>>=_) _ _ s;refine A3 (AH hot hdt ?_);simp only[DY,hx];refine A3 (e7 (A3 (k7 hoi hdi (by simp) ?_)));show A6 _ _ (newExc (.type "StopIteration") []>>=_) _ _ _;refine A3 ?_;simp only[newExc,newTuple];refine A3 (N5 ?_ (by size_fits));refine A3 (m:=firstArgMember _ _) (AL (a:=X1) (by first|rfl|(simp only[firstArgMember];rfl)) ?_);refine N5 ?_ (by size_fits);simp only[raiseNew];refine A3 (wpAny_handled ?_)
 first|rw[show A.in1.handled=none from hh]|rw[hh]
 refine A3 (B0 (wpAny_throw ?_));exact hE _ _ (((Q2 ..).extBut.push _).push _) ⟨_,G4 _ rfl,rfl⟩
theorem Pg (hit:ItB b s.heap it t i)(ht:SeB b s.heap t items)(hx:items[i]?=some x)
   (hQ:∀h',ItB b h' it t (i+1)->T7 it s.heap h'->Q x { s with heap:=h' }):A6 (A9 prog w) A (Bj (.ref it)) Q E s:=by
 cases b with
 |true=>exact wpAny_nextOf_list_item hit ht hx hQ
 |false=>exact Pe hit ht hx hQ
theorem JR (hh:A.handled=none)(hit:ItB b s.heap it t i)(ht:SeB b s.heap t items)(hx:items[i]?=none)
   (hE:∀h' e,Co it s.heap h'->(∃o,h'.get? e=some o/\o.cls=.type "StopIteration")->E (.ref e) { s with heap:=h' }):A6 (A9 prog w) A (Bj (.ref it)) Q E s:=by
 cases b with
 |true=>exact wpAny_nextOf_list_end hh hit ht hx hE
 |false=>exact Pf hh hit ht hx hE
theorem drawsB {b:Bool}(hh:A.handled=none)(it l:A0)(hne:l≠it)(items:Array A1):Draws prog w A it [it,l] items.size (λi v=>items[i]?=some v) (λi h=>ItB b h it l i/\SeB b h l items) where
 live:=λ_ _ st=>let ⟨o,ho,_⟩:=st.1.obj;⟨o,ho⟩
 frame:=λ_ _ _ st hk=>⟨st.1.at λo e=>hk it (by simp) o e,st.2.at λo e=>hk l (by simp) o e⟩
 item:=λi s Q E hi st hQ=>by
  refine Pg st.1 st.2 (x:=items[i]) (by simp[hi]) λh' hit' hs'=>?_;exact hQ _ h' s.toks (by simp[hi]) ⟨hit',st.2.at λo e=>hs'.extBut _ o hne e⟩ hs'
 done:=λs Q E st hE=>JR hh st.1 st.2 (by simp) hE
theorem Ph (l:A0)(items:Array A1)(n:Nat)(dct:Option A0)(sl:Array (Option A1)) :
   Meets (O4.«enumerate.__new__» ⟨[.type "enumerate",.ref l],[]⟩) (λ_ R s=>s.heap.get? l=some { cls:=.type "tuple",dict:=dct,data:=.seq items n,slots:=sl }/\
     R (.ok (.ret (.ref (s.heap.push { cls := .type "tuple_iterator", data := .fields #[.ref l, .int 0 0] }).objs.size)))
       { s with heap:=(s.heap.push { cls:=.type "tuple_iterator",data:=.fields #[.ref l,.int 0 0] }).push { cls:=.type "enumerate",data:=.fields #[.none,.bool false,.ref s.heap.objs.size,rawInt 0,.none,.none] } }):=
 .of_wp λprog w A R s hyp=>by
  obtain⟨hp,g,d,tk,os⟩:=s;obtain⟨hl,fin⟩:=hyp;have hsub:=sub_enumerate;have hL:Heap.IsTuple (Shared.heap ⟨hp,g,d,tk,os⟩) l items:=⟨_,hl,rfl,n,rfl⟩
  wp_walk using Ed hl
  refine wpAny_stack_any λst=>B0 ?_
  split
  ·rename_i c _ _ _ _ _;cases(c == L5 "enumerate")
   ·wp_walk using Ed hl,Cb hL
    exact⟨_,rfl,fin⟩
   ·wp_walk using Ed hl,Cb hL
    exact⟨_,rfl,fin⟩
  ·wp_walk using Ed hl,Cb hL
   exact⟨_,rfl,fin⟩
theorem enumT {l:A0}{items:Array A1}{Q:A1->A5->Prop}(hL:s.heap.IsTuple l items)
   (h:∀h',IsEnum h' (s.heap.objs.size+1) s.heap.objs.size 0 .none->h'.IsTupleIter s.heap.objs.size l 0->(∀b o,s.heap.get? b=some o->h'.get? b=some o)->Q (.ref (s.heap.objs.size+1)) { s with heap:=h' }) :
   A6 (A9 prog w) A (call (.type "enumerate") [.ref l]) Q E s:=by
 obtain⟨⟨c,dct,dt,sl⟩,hl,hc,n,hd⟩:=hL
 replace hc:c=.type "tuple":=hc
 replace hd:dt=.seq items n:=hd
 subst hc hd;refine callType_new F.called_enumerate (by decide) (F.typeCall_enumerate_1 _) (F.newCall_enumerate_1 _) (λobj=>F.args_object_init_2 obj _) F.entry_enumerate_new (Ph l items n dct sl) ⟨hl,?_⟩;have hz:(s.heap.push { cls:=.type "tuple_iterator",data:=.fields #[.ref l,.int 0 0] }).objs.size=s.heap.objs.size+1:=AZ ..;show _/\_;rw[hz]
 have he:IsEnum ((s.heap.push { cls:=.type "tuple_iterator",data:=.fields #[.ref l,.int 0 0] }).push { cls:=.type "enumerate",data:=.fields #[.none,.bool false,.ref s.heap.objs.size,rawInt 0,.none,.none] }) (s.heap.objs.size+1) s.heap.objs.size 0 .none:=by
  have:=G4 (s.heap.push { cls:=.type "tuple_iterator",data:=.fields #[.ref l,.int 0 0] }) (o:={ cls:=.type "enumerate",data:=.fields #[.none,.bool false,.ref s.heap.objs.size,rawInt 0,.none,.none] }) rfl;rw[hz] at this;exact this
 exact⟨⟨_,he,rfl⟩,h _ he ⟨_,D0 _ (G4 _ rfl),rfl,rfl⟩ λb o x=>D0 _ (D0 _ x)⟩
theorem enumB {b:Bool}{l:A0}{items:Array A1}{Q:A1->A5->Prop}(hL:SeB b s.heap l items)
   (h:∀h',IsEnum h' (s.heap.objs.size+1) s.heap.objs.size 0 .none->ItB b h' s.heap.objs.size l 0->(∀b o,s.heap.get? b=some o->h'.get? b=some o)->Q (.ref (s.heap.objs.size+1)) { s with heap:=h' }) :
   A6 (A9 prog w) A (call (.type "enumerate") [.ref l]) Q E s:=by
 cases b with
 |true=>exact call_enumerate_list hL λh' a b _ c=>h h' a b c
 |false=>exact enumT hL h
theorem Pi {b:Bool}{e it l:A0}{j:Nat}{i:Int}{items:Array A1}{old:A1}{Q:Option A1->A5->Prop}(hh:A.handled=none)(he:IsEnum s.heap e it i old)(hit:ItB b s.heap it l j)(ht:SeB b s.heap l items)(hx:items[j]?=none)
   (hQ:∀h',Co it s.heap h'->Q none { s with heap:=h' }):A6 (A9 prog w) A (pyNext (.ref e)) Q E s:=by
 have ty:s.TypeIs (.ref e) "enumerate":=⟨_,he,rfl⟩;unfold pyNext;refine A3 (AK (Y6 (name:=A7 "__next__") ty F.slot_enumerate_next (P8 F.slot_enumerate_next ty F.entry_enumerate_next ?_ (F.args_enumerate_next_1 _))));show A6 _ _ (field (.ref e) 2>>=_) _ _ _;refine A3 (V8 he rfl (x:=.ref it) rfl ?_);refine A3 (JR (A:=A.in1) hh hit ht hx λh' x he' hx'=>?_);obtain⟨o,ho,hc⟩:=hx';exact A3 (Cd (T:="StopIteration") (b:=true) ⟨o,ho,hc⟩ isSubtype_stop (B0 (hQ _ he')))
end
def SqB (b:Bool)(K:A8)(H:Hp)(a:A0)(xs:List V):Prop:=match b with|true=>SqL K H a xs|false=>SqT K H a xs
section
variable {X:Cx}
theorem Inv.seqB (I:Inv X jb σ H s)(h:SqB b X.K H a xs):∃jf:List A1,Vals xs jf/\SeB b s.heap a jf.toArray/\xs.length<=C4:=by
 cases b with
 |true=>obtain⟨jf,r,p,z⟩:=I.list h;exact⟨jf,r,p.isList,z⟩
 |false=>obtain⟨jf,r,p,z⟩:=I.tuple h;exact⟨jf,r,p,z⟩
theorem Inv.seqB_inj (I:Inv X jb σ H s)(h:SqB b X.K H a xs)(h':SqB b X.K H a ys):xs=ys:=by
 cases b with
 |true=>exact I.list_inj h h'
 |false=>exact I.tuple_inj h h'
def IteB (b:Bool)(K:A8)(a:A0):It:=
 ⟨λi H=>∃xs x,SqB b K H a xs/\xs[i]?=some x,λi H x H'=>∃p v,H p=none/\x=.ref p/\H'=upd H p (.tup [.int i,v])/\∀xs,SqB b K H a xs->xs[i]?=some v,λi H=>∃xs,SqB b K H a xs/\xs.length<=i⟩
theorem Pj {b:Bool}{P:D1}{w:C8}{K:A8}{elts:List Expr}{x1}{pos:Pos}(a e it:A0)(hne:e≠it) :
   Turn P w K (.Tuple elts x1 pos) (IteB b K a) [e,it] e (λi h=>(∃old,IsEnum h e it i old)/\ItB b h it a i) where
 mem:=by simp
 obj:=λi h st c hc=>by
  obtain⟨⟨old,he⟩,st⟩:=st;obtain⟨o,e1,_,d⟩:=st.obj;have hc':c=e\/c=it:=by simpa using hc
  rcases hc' with rfl|rfl
  ·exact⟨_,he,λv z=>by cases z⟩
  ·exact⟨o,e1,d⟩
 keep:=λi h h' st k=>by
  obtain⟨⟨old,he⟩,st⟩:=st;exact⟨⟨old,k e (by simp) _ he⟩,st.at λo e=>k it (by simp) o e⟩
 item:=by
  intro X hP hw hK hc i jb s σ H E I hf st hg;subst hP hw hK;obtain⟨⟨old,he⟩,st⟩:=st;obtain⟨xs,x,hq,hx⟩:=hg;obtain⟨jf,rv,p,hz⟩:=I.seqB hq;obtain⟨u,hu,ru⟩:=rv.get hx;have nla:a≠it:=st.ne p
  have nea:e≠a:=λz=>by
   obtain⟨o,e1,c1⟩:=p.obj;rw[<- z,he] at e1;cases e1;rcases c1 with c1|c1
   ·exact absurd (show L5 "enumerate"=L5 "list" from c1) (by decide)
   ·exact absurd (show L5 "enumerate"=L5 "tuple" from c1) (by decide)
  have hi:i<jf.toArray.size:=by
   obtain⟨h1,_⟩:=F7.mp hu
   simpa using h1
  refine wpAny_pyNext_enum_itemD (drawsB (A:=X.A.in1) (I.ok.hd hc) it a nla jf.toArray) he ⟨st,p⟩ hi hne (by simp[hne,nea]) λy h' tk hy he' st' ht hz' k=>?_
  have ey:y=u:=by
   have:jf[i]?=some y:=by simpa using hy
   rw[hu] at this;exact(M7 this).symm
  subst ey;refine⟨_,rfl,wpAny_letOwnedTupleGo_enum (s:={ s with heap:=h',toks:=tk+1 }) he' λh'' he'' sb=>?_⟩;have hpe:s.heap.objs.size≠e:=y9 (C5 he);have ht'':h''.get? s.heap.objs.size=some { cls:=.type "tuple",data:=.seq #[.int i tk,y] }:=(sb.2 _ hpe).trans ht
  have k':∀c o,c∉[e,it]->s.heap.get? c=some o->h''.get? c=some o:=λc o hb q=>by
   have hb1:c≠e:=λz=>hb (by simp[z]);have hb2:c≠it:=λz=>hb (by simp[z]);exact(sb.2 c hb1).trans (k c o hb1 hb2 q)
  have I1:Inv X jb σ (upd H s.heap.objs.size (.tup [.int i,x])) { s with heap:=h'',toks:=tk+1 }:=
   I.turnedNew k' hf ⟨by show 2<=C4;decide,[.int i tk,y],.cons ⟨_,rfl⟩ (.cons ru .nil),⟨_,ht'',rfl,_,rfl⟩⟩
  refine⟨.ref s.heap.objs.size,_,I1,rfl,⟨_,x,I.fresh,rfl,rfl,λys hy=>by rw[I.seqB_inj hy hq];exact hx⟩,⟨⟨y,he''⟩,st'.1.at λo q=>(sb.2 it (Ne.symm hne)).trans q⟩,λc hb=>?_⟩;have hb':c=e\/c=it:=by simpa using hb
  have hbs:c≠s.heap.objs.size:=by
   rcases hb' with rfl|rfl
   ·exact Ne.symm hpe
   ·obtain⟨o,e1,_⟩:=st.obj;exact D7 (C5 e1)
  rw[C0 hbs];exact(hf c hb).1
 done:=by
  intro X hP hw hK hc i jb s σ H E I hf st hg;subst hP hw hK;obtain⟨⟨old,he⟩,st⟩:=st;obtain⟨xs,hq,hx⟩:=hg;obtain⟨jf,rv,p,hz⟩:=I.seqB hq;obtain⟨f0,f1,f2,f3,f4,f5⟩:=hf it (by simp);have hl:=rv.length;refine Pi (I.ok.hd hc) he st p (DQ (by rw[F4];omega)) λh' eb=>⟨rfl,I.turned (t':=s.toks) (λc o hb e=>eb c o hb e) f0 f1 f3 f4 f5⟩
 self:=λ_ _ _ _ _ st h=>by
  obtain⟨⟨old,he⟩,_⟩:=st;exact wpAny_pyIter_enum he h
def iEnumB (b:Bool)(K:A8)(ta:TA):TI:=λσ H R=>ta σ H λvs H1=>∃a,vs=[.ref a]/\(∃xs,SqB b K H1 a xs)/\R (IteB b K a) H1
theorem Pk (b:Bool){l:Expr}{ta:TA}{p pos:Pos}{elts:List Expr}{x1}{tpos:Pos}(hg:Gl X "enumerate")(hm:X.mg "enumerate"=none)(ha:PA X [l] ta)(hs:E9 [l] X.env=[(false,eval l X.env)]:=by rfl) :
   PI X (.Tuple elts x1 tpos) (.Call (.Name "enumerate" p) [l] [] pos) (iEnumB b X.K ta):=by
 intro jb s σ H R I h;refine Call_ (Bt I hg hm boot_enumerate (FS (thn (ha pos jb s σ H _ I h) λus s1 ⟨vs,H1,I1,r1,q1⟩=>?_) hs rfl));obtain⟨a,e,⟨xs,hq⟩,q⟩:=q1;subst e;obtain⟨u,rfl,ru⟩:=r1.one;obtain rfl:u=L9 a:=ru;obtain⟨jf,rv,pl,hz⟩:=I1.seqB hq;refine enumB pl λh' hE hI hk=>?_;refine wpAny_pyIter_enum hE ?_;have I2:Inv X jb σ H1 { s1 with heap:=h' }:=I1.kept (t':=s1.toks) hk;refine⟨s1.heap.objs.size+1,[s1.heap.objs.size+1,s1.heap.objs.size],_,_,H1,rfl,I2,Pj a _ _ (Nat.succ_ne_self _),⟨⟨_,hE⟩,hI⟩,λc hb=>?_,q⟩;have hb':c=s1.heap.objs.size+1\/c=s1.heap.objs.size:=by simpa using hb
 rcases hb' with rfl|rfl
 ·exact I1.fpOk (z9 _) (I1.hok.fresh (z9 _))
 ·exact I1.fpOk (B9 _) (I1.hok.fresh (B9 _))
end
end L2
end
section
namespace Pu
open PySem PySem.Spec L2
section
variable {T:PotK}{ι:Type}{K:A8}{F:ι->Cx}{e a b tg:Expr}{pe pa pb:pE}{pos:Pos}
def CY (pe:pE):pA:=λenv n R=>pe env n λx jc n1=>match x with|.tup xs=>R (t7 xs) jc n1|_=>False
theorem Hq {p:Pos}{elts:List Expr}{x1:Nat}{tpos:Pos}(hg:∀z,Gl (F z) "enumerate")(hm:∀z,(F z).mg "enumerate"=none)(h:QE T K F e pe)(hs:F5 e=true:=by rfl)(hK:∀z,(F z).K=K:=by intro _;rfl):QI T K F (.Tuple elts x1 tpos) (.Call (.Name "enumerate" p) [e] [] pos) (CY pe):=by
 obtain⟨t,h1,h2⟩:=h;refine⟨_,λz=>hK z▸Pk false (hg z) (hm z) (E8 (h1 z) J6 (D8 hs)) (by rw[D8 hs];rfl),λC G σ H env n R Q hK hT S hp k=>?_⟩;refine h2 C G σ H env n _ _ hK hT S hp λx jc n1 v H1 p1 S1 r1 f1=>?_;cases x with
 | tup xs =>
  obtain⟨a,vs,rfl,t,r⟩:=r1;refine⟨a,rfl,⟨vs,t.sq⟩,k _ _ _ _ _ p1 S1 f1 ?_⟩;intro G2 H2 hk hM hp hf;have hq:SqB false K H2 a vs:=SqT.of (hk a _ t.1 t.2);have r2:Reps K G2 H2 xs vs:=Reps.mono hk hM hp _ _ r;refine⟨λi x e=>?_,λi hi=>⟨vs,hq,by rw[<- r.length,<- Ey];exact hi⟩⟩;obtain⟨y,ey,rfl⟩:=GX e;obtain⟨v,ev,rv⟩:=r2.get' ey;refine⟨⟨vs,v,hq,ev⟩,λv' H3 y=>?_⟩;obtain⟨p,w,hn,rfl,rfl,y⟩:=y;have:=y vs hq;rw[ev] at this;cases this;exact⟨Same.lay1 hn,By (hf p hn) hn (.cons rfl (.one rv))⟩
 |_=>exact p1.elim
end
end Pu
end
section
namespace Pu
open PySem PySem.Spec L2
theorem EJ {te:pE}{rest:Env}{α:Type}(f:α->PV)(g:α->PV):∀(xs:List α) (s0:Option Slot) (n:Nat) (R:List PV->Nat->Prop),(∀x∈xs,∀m Q,Q (g x) (some (.v (f x))::rest) m->te (some (.v (f x))::rest) m Q)->R (xs.map g) n->T3 (gN 0) qTru te (xs.map f) (s0::rest) n R
 |[],_,_,_,_,h=>h
 | x :: xs, s0, n, R, ht, h => by
  show te (some (.v (f x))::rest) n _;refine ht x C3 n _ ?_;exact EJ f g xs _ n _ (λy hy=>ht y (C2 _ hy)) h
theorem JS {te:pE}{rest:Env}{α:Type}(u v g:α->PV):∀(xs:List α) (s0 s1:Option Slot) (n:Nat) (R:List PV->Nat->Prop),(∀x∈xs,∀m Q,Q (g x) (some (.v (u x))::some (.v (v x))::rest) m->te (some (.v (u x))::some (.v (v x))::rest) m Q)->R (xs.map g) n->T3 (gTp 2 (gCn (gN 0) (gCn (gN 1) gNl))) qTru te (xs.map λx=>.tup [u x,v x]) (s0::s1::rest) n R
 |[],_,_,_,_,_,h=>h
 | x :: xs, s0, s1, n, R, ht, h => by
  refine⟨rfl,?_⟩;show te (some (.v (u x))::some (.v (v x))::rest) n _;refine ht x C3 n _ ?_;exact JS u v g xs _ _ n _ (λy hy=>ht y (C2 _ hy)) h
end Pu
end
section
namespace L2
open PySem PySem.W PyProof.Rows
namespace Kr
def run {α:Type}(lt:Nat->Nat->Bool):KasT α->α
 |.ret a=>a
 |.ask i j k=>run lt (k (lt i j))
theorem BL {α β:Type}(lt:Nat->Nat->Bool)(f:α->KasT β):∀t:KasT α,run lt (t.bind f)=run lt (f (run lt t))
 |.ret a=>rfl
 |.ask i j k=>BL lt f (k (lt i j))
structure Ord (lt:Nat->Nat->Bool):Prop where
 ir:∀a,lt a a=false
 tr:∀a b c,lt a b=true->lt b c=true->lt a c=true
 nt:∀a b c,lt a c=true->lt a b=true\/lt b c=true
variable {lt:Nat->Nat->Bool}(O:Ord lt)
include O
theorem Ord.as (h:lt a b=true):lt b a=false:=by
 cases e:lt b a with
 |false=>rfl
 |true=>have:=O.tr _ _ _ h e;rw[O.ir] at this;cases this
theorem Ord.le (h1:lt b a=false)(h2:lt c b=false):lt c a=false:=by
 cases e:lt c a with
 |false=>rfl
 |true=>rcases O.nt c b a e with h|h <;> simp_all
theorem Ord.l1 (h1:lt a b=true)(h2:lt c b=false):lt a c=true:=by
 rcases O.nt a c b h1 with h|h
 ·exact h
 ·rw[h2] at h;cases h
theorem Ord.l2 (h1:lt b a=false)(h2:lt b c=true):lt a c=true:=by
 rcases O.nt b a c h2 with h|h
 ·rw[h1] at h;cases h
 ·exact h
omit O
def g (p:Array Nat)(i:Nat):Nat:=p.getD i 0
theorem g_eq (p:Array Nat)(i:Nat):g p i=(p[i]?).getD 0:=by unfold g;rw[Ac]
theorem d3 (h:j<=p.size)(k:Nat):g (O5 p i j) k=if i<=k/\k<j then g p (i+j-1-k) else g p k:=by
 unfold O5;rw[g_eq,getElem?_mirror_all h]
 split <;> rw[g_eq]
theorem g_bub (h:k<p.size)(hl:l<=k)(i:Nat):g (bubble p k (k-l)) i=if i=l then g p k else if l<i/\i<=k then g p (i-1) else g p i:=by
 rw[g_eq,getElem?_bubble h (k-l) (by omega),show k-(k-l)=l by omega]
 split
 ·rw[g_eq]
 ·split <;> rw[g_eq]
theorem Av (p:Array Nat)(i j:Nat):(O5 p i j).size=p.size:=mirror_size _ _ _ _
theorem CZ (p:Array Nat)(i j:Nat):(O5 p i j).Perm p:=mirror_perm _ _ _ _
def S (lt:Nat->Nat->Bool)(p:Array Nat)(k:Nat):Prop:=∀i j,i<=j->j<k->lt (g p j) (g p i)=false
def D (lt:Nat->Nat->Bool)(p:Array Nat)(k:Nat):Prop:=∀i j,i<=j->j<k->lt (g p i) (g p j)=false
def B (lt:Nat->Nat->Bool)(p:Array Nat)(a k:Nat):Prop:=∀i j,a<=i->i<k->a<=j->j<k->lt (g p i) (g p j)=false
include O
theorem S_succ (h:S lt p n)(hn:1<=n)(hl:lt (g p n) (g p (n-1))=false):S lt p (n+1):=by
 intro i j hij hj;rcases Nat.lt_succ_iff_lt_or_eq.mp hj with h1|h1
 ·exact h i j hij h1
 ·subst h1;rcases Nat.lt_or_eq_of_le hij with h2|h2
  ·exact O.le (h i (j-1) (by omega) (by omega)) hl
  ·rw[h2];exact O.ir _
theorem Hr (p:Array Nat):∀(f n:Nat),1<=n->S lt p n->n<=run lt (R6 p f n)/\run lt (R6 p f n)<=n+f/\S lt p (run lt (R6 p f n))/\(run lt (R6 p f n)=n+f\/lt (g p (run lt (R6 p f n))) (g p (run lt (R6 p f n)-1))=true)
 |0,n,hn,h=>⟨B9 _,B9 _,h,.inl rfl⟩
 | f + 1, n, hn, h => by
  show n<=run lt (if lt (g p n) (g p (n-1))=true then .ret n else R6 p f (n+1))/\run lt (if lt (g p n) (g p (n-1))=true then .ret n else R6 p f (n+1))<=n+(f+1)/\S lt p (run lt (if lt (g p n) (g p (n-1))=true then .ret n else R6 p f (n+1)))/\(run lt (if lt (g p n) (g p (n-1))=true then .ret n else R6 p f (n+1))=n+(f+1)\/lt (g p (run lt (if lt (g p n) (g p (n-1))=true then .ret n else R6 p f (n+1)))) (g p (run lt (if lt (g p n) (g p (n-1))=true then .ret n else R6 p f (n+1))-1))=true);cases e:lt (g p n) (g p (n-1)) with
  | true =>
   rw[jr rfl];exact⟨B9 _,by show n<=_;omega,h,.inr e⟩
  | false =>
   rw[jt (by simp)];obtain⟨h1,h2,h3,h4⟩:=Hr p f (n+1) (by omega) (S_succ O h hn e);exact⟨by omega,by omega,h3,h4.imp (λx=>by omega) id⟩
theorem D_rev (hn:n<=p.size)(h:D lt p n)(hb:B lt p a n):D lt (O5 p a n) n:=by
 intro i j hij hj;rw[d3 hn,d3 hn]
 by_cases c1:a<=i
 ·rw[jr ⟨c1,by omega⟩,jr ⟨by omega,hj⟩];exact hb _ _ (by omega) (by omega) (by omega) (by omega)
 ·rw[jt (by omega)]
  by_cases c2:a<=j
  ·rw[jr ⟨c2,hj⟩];exact h _ _ (by omega) (by omega)
  ·rw[jt (by omega)];exact h _ _ hij hj
theorem C_ (h:D lt p n)(hn:1<=n)(hl:lt (g p (n-1)) (g p n)=false):D lt p (n+1):=by
 intro i j hij hj;rcases Nat.lt_succ_iff_lt_or_eq.mp hj with h1|h1
 ·exact h i j hij h1
 ·subst h1;rcases Nat.lt_or_eq_of_le hij with h2|h2
  ·exact O.le hl (h i (j-1) (by omega) (by omega))
  ·rw[h2];exact O.ir _
theorem EK:∀(f:Nat) (p:Array Nat) (n q:Nat),q + 1<=n->n + f<=p.size->D lt p n->B lt p (n - (q + 1)) n->
   ∃p' n' q',run lt (Z2 f p n q)=(p',n',q')/\p'.Perm p/\p'.size=p.size/\n<=n'/\n'<=n+f/\q'+1<=n'/\D lt p' n'/\B lt p' (n'-(q'+1)) n'
 |0,p,n,q,hq,hs,h,hb=>⟨p,n,q,rfl,o7 _,rfl,B9 _,B9 _,hq,h,hb⟩
 | f + 1, p, n, q, hq, hs, h, hb => by
  have one:∀p n,B lt p (n+1-(0+1)) (n+1):=λp n i j h1 h2 h3 h4=>by
   have:i=j:=by omega
   rw[this];exact O.ir _
  cases e:lt (g p n) (g p (n-1)) with
  | true =>
   by_cases c:q>0
   ·have hd:=D_rev O (by omega:n<=p.size) h hb;have e1:g (O5 p (n-(q+1)) n) n=g p n:=by rw[d3 (by omega),jt (by omega)]
    have e2:g (O5 p (n-(q+1)) n) (n-1)=g p (n-(q+1)):=by rw[d3 (by omega),jr (by omega)];congr 1;omega
    have e3:lt (g p (n-(q+1))) (g p n)=false:=O.as (O.l1 e (hb _ _ (by omega) (by omega) (by omega) (by omega)));obtain⟨p',n',q',a1,a2,a3,a4,a5,a6,a7,a8⟩:=EK f (O5 p (n-(q+1)) n) (n+1) 0 (by omega) (by rw[Av];omega) (C_ O hd (by omega) (by rw[e1,e2];exact e3)) (one _ _);refine⟨p',n',q',?_,a2.trans (CZ _ _ _),by rw[a3,Av],by omega,by omega,a6,a7,a8⟩;show run lt (if lt (g p n) (g p (n-1))=true then(if q>0 then Z2 f (O5 p (n-(q+1)) n) (n+1) 0 else Z2 f p (n+1) 0) else _)=_;rw[jr e,jr c];exact a1
   ·obtain⟨p',n',q',a1,a2,a3,a4,a5,a6,a7,a8⟩:=EK f p (n+1) 0 (by omega) (by omega) (C_ O h (by omega) (O.as e)) (one _ _);refine⟨p',n',q',?_,a2,a3,by omega,by omega,a6,a7,a8⟩;show run lt (if lt (g p n) (g p (n-1))=true then(if q>0 then Z2 f (O5 p (n-(q+1)) n) (n+1) 0 else Z2 f p (n+1) 0) else _)=_;rw[jr e,jt c];exact a1
  | false =>
   cases e':lt (g p (n-1)) (g p n) with
   | true =>
    refine⟨p,n,q,?_,o7 _,rfl,B9 _,by omega,hq,h,hb⟩;show run lt (if lt (g p n) (g p (n-1))=true then _ else KasT.ask (g p (n-1)) (g p n) λd=>if d=true then .ret (p,n,q) else Z2 f p (n+1) (q+1))=_;rw[jt (by rw[e];simp)];show run lt (if lt (g p (n-1)) (g p n)=true then .ret (p,n,q) else Z2 f p (n+1) (q+1))=_;rw[jr e'];rfl
   | false =>
    have hb':B lt p (n+1-(q+1+1)) (n+1):=by
     have up:∀i,n-(q+1)<=i->i<n->lt (g p i) (g p n)=false/\lt (g p n) (g p i)=false:=λi h1 h2=>
      ⟨O.le e' (hb i (n-1) h1 h2 (by omega) (by omega)),O.le (hb (n-1) i (by omega) (by omega) h1 h2) e⟩
     intro i j h1 h2 h3 h4
     by_cases ci:i<n
     ·by_cases cj:j<n
      ·exact hb i j (by omega) ci (by omega) cj
      ·rw[show j=n by omega];exact(up i (by omega) ci).1
     ·rw[show i=n by omega]
      by_cases cj:j<n
      ·exact(up j (by omega) cj).2
      ·rw[show j=n by omega];exact O.ir _
    obtain⟨p',n',q',a1,a2,a3,a4,a5,a6,a7,a8⟩:=EK f p (n+1) (q+1) (by omega) (by omega) (C_ O h (by omega) e') hb';refine⟨p',n',q',?_,a2,a3,by omega,by omega,a6,a7,a8⟩;show run lt (if lt (g p n) (g p (n-1))=true then _ else KasT.ask (g p (n-1)) (g p n) λd=>if d=true then .ret (p,n,q) else Z2 f p (n+1) (q+1))=_;rw[jt (by rw[e];simp)];show run lt (if lt (g p (n-1)) (g p n)=true then .ret (p,n,q) else Z2 f p (n+1) (q+1))=_;rw[jt (by rw[e'];simp)];exact a1
theorem S_of_D (hn:n<=p.size)(h:D lt p n):S lt (O5 p 0 n) n:=by
 intro i j hij hj;rw[d3 hn,d3 hn,jr ⟨by omega,hj⟩,jr ⟨by omega,by omega⟩];exact h _ _ (by omega) (by omega)
theorem JT (h1:1<=n)(hn:n<=nrem)(hs:nrem<=p.size)(h:D lt p n) :
   ∃m p',run lt (kas_tail3 n nrem p)=(m,p')/\p'.Perm p/\p'.size=p.size/\1<=m/\m<=nrem/\S lt p' m:=by
 obtain⟨a1,a2,a3,_⟩:=Hr O (O5 p 0 n) (nrem-n) n h1 (S_of_D O (by omega) h);refine⟨_,O5 p 0 n,?_,CZ _ _ _,Av _ _ _,?_,?_,a3⟩
 ·unfold kas_tail3;rw[BL];rfl
 ·omega
 ·omega
theorem JU (h1:1<=n)(hn:n+1<=nrem)(hs:nrem<=p.size)(h:D lt p (n+1)) :
   ∃m p',run lt (kas_descPart n nrem p)=(m,p')/\p'.Perm p/\p'.size=p.size/\1<=m/\m<=nrem/\S lt p' m:=by
 obtain⟨p',n',q',a1,a2,a3,a4,a5,a6,a7,a8⟩:=EK O (nrem-(n+1)) p (n+1) 0 (by omega) (by omega) h (λi j h1 h2 h3 h4=>by
  have:i=j:=by omega
  rw[this];exact O.ir _)
 unfold kas_descPart;rw[BL,a1];dsimp only
 by_cases c:q'>0
 ·rw[jr c];obtain⟨m,p2,b1,b2,b3,b4,b5,b6⟩:=JT O (p:=O5 p' (n'-(q'+1)) n') (n:=n') (nrem:=nrem) (by omega) (by omega) (by rw[Av];omega) (D_rev O (by omega) a7 a8);exact⟨m,p2,b1,(b2.trans (CZ _ _ _)).trans a2,by rw[b3,Av,a3],b4,b5,b6⟩
 ·rw[jt c];obtain⟨m,p2,b1,b2,b3,b4,b5,b6⟩:=JT O (p:=p') (n:=n') (nrem:=nrem) (by omega) (by omega) (by omega) a7;exact⟨m,p2,b1,b2.trans a2,by rw[b3,a3],b4,b5,b6⟩
theorem Pl (h1:1<=n)(hs:p.size=n):∃m p',run lt (kas_count n p)=(m,p')/\p'.Perm p/\p'.size=p.size/\1<=m/\m<=n/\S lt p' m:=by
 have s1:S lt p 1:=λi j h2 h3=>by
  have:i=j:=by omega
  rw[this];exact O.ir _
 obtain⟨a1,a2,a3,a4⟩:=Hr O p (n-1) 1 (B9 _) s1;unfold kas_count;rw[BL];generalize run lt (R6 p (n-1) 1)=k at a1 a2 a3 a4 ⊢
 by_cases c:k=n
 ·rw[jr (by rw[c];exact beq_self_eq_true n)];exact⟨k,p,rfl,o7 _,rfl,a1,by omega,a3⟩
 ·rw[jt (by simpa using c)];have a5:lt (g p k) (g p (k-1))=true:=a4.resolve_left (by omega)
  by_cases c1:k>1
  ·rw[jr c1];show ∃m p',run lt (if lt (g p 0) (g p (k-1))=true then .ret (k,p) else kas_descPart k n (O5 p 0 k))=(m,p')/\_;cases e:lt (g p 0) (g p (k-1)) with
   |true=>rw[jr rfl];exact⟨k,p,rfl,o7 _,rfl,a1,by omega,a3⟩
   | false =>
    rw[jt (by simp)]
    have al:∀i j,i<k->j<k->lt (g p i) (g p j)=false:=λi j hi hj=>by
     have x1:=a3 j (k-1) (by omega) (by omega);have x2:=a3 0 i (by omega) hi;exact O.le (O.le x1 e) x2
    have hd:D lt (O5 p 0 k) (k+1):=by
     refine C_ O (λi j hij hj=>?_) a1 ?_
     ·rw[d3 (by omega),d3 (by omega),jr ⟨by omega,by omega⟩,jr ⟨by omega,hj⟩];exact al _ _ (by omega) (by omega)
     ·rw[d3 (by omega),d3 (by omega),jr ⟨by omega,by omega⟩,jt (by omega)];exact O.as (O.l1 a5 (al _ _ (by omega) (by omega)))
    obtain⟨m,p2,b1,b2,b3,b4,b5,b6⟩:=JU O (p:=O5 p 0 k) (n:=k) (nrem:=n) a1 (by omega) (by rw[Av];omega) hd;exact⟨m,p2,b1,b2.trans (CZ _ _ _),by rw[b3,Av],b4,b5,b6⟩
  ·rw[jt c1];have hk:k=1:=by omega
   subst hk
   exact JU O (B9 _) (by omega) (by omega) (C_ O (λi j h2 h3=>by
    have:i=j:=by omega
    rw[this];exact O.ir _) (B9 _) (O.as a5))
theorem Hs {p:Array Nat}{k:Nat}(h:S lt p k):∀(f l r:Nat),l<=r->r<=k->r-l<=f->(∀i,i<l->lt (g p k) (g p i)=false)->(∀i,r<=i->i<k->lt (g p k) (g p i)=true)->
   run lt (T5 p k f l r)<=k/\(∀i,i<run lt (T5 p k f l r)->lt (g p k) (g p i)=false)/\(∀i,run lt (T5 p k f l r)<=i->i<k->lt (g p k) (g p i)=true)
 | 0, l, r, h1, h2, h3, h4, h5 => by
  have:l=r:=by omega
  subst this;exact⟨h2,h4,h5⟩
 | f + 1, l, r, h1, h2, h3, h4, h5 => by
  by_cases c:l>=r
  ·have:l=r:=by omega
   subst this;unfold T5;rw[jr c];exact⟨h2,h4,h5⟩
  ·have e:run lt (T5 p k (f+1) l r)=run lt (if lt (g p k) (g p ((l+r)/2))=true then T5 p k f l ((l+r)/2) else T5 p k f ((l+r)/2+1) r):=by
    conv=>lhs;unfold T5
    rw[jt c];rfl
   rw[e];cases e2:lt (g p k) (g p ((l+r)/2)) with
   | true =>
    rw[jr rfl];exact Hs h f l ((l+r)/2) (by omega) (by omega) (by omega) h4 λi i1 i2=>O.l1 e2 (h _ _ i1 i2)
   | false =>
    rw[jt (by simp)];exact Hs h f ((l+r)/2+1) r (by omega) h2 (by omega) (λi i1=>O.le (h i ((l+r)/2) (by omega) (by omega)) e2) h5
theorem JV:∀(f:Nat) (p:Array Nat) (k:Nat),k + f<=p.size->S lt p k->(run lt (kas_bin f p k)).Perm p/\(run lt (kas_bin f p k)).size=p.size/\S lt (run lt (kas_bin f p k)) (k + f)
 |0,p,k,_,h=>⟨o7 _,rfl,h⟩
 | f + 1, p, k, hs, h => by
  obtain⟨a1,a2,a3⟩:=Hs O h k 0 k (by omega) (B9 _) (by omega) (λi z=>by omega) (λi z z2=>by omega)
  have e:run lt (kas_bin (f+1) p k)=run lt (kas_bin f (bubble p k (k-run lt (T5 p k k 0 k))) (k+1)):=by
   show run lt ((T5 p k k 0 k).bind λl=>kas_bin f (bubble p k (k-l)) (k+1))=_;rw[BL]
  rw[e];generalize run lt (T5 p k k 0 k)=l at a1 a2 a3 ⊢
  have hS:S lt (bubble p k (k - l)) (k + 1):=by
   intro i j hij hj;rw[g_bub (by omega) a1,g_bub (by omega) a1]
   by_cases ci:i=l
   ·rw[jr ci]
    by_cases cj:j=l
    ·rw[jr cj];exact O.ir _
    ·rw[jt cj,jr ⟨by omega,by omega⟩];exact O.as (a3 _ (by omega) (by omega))
   ·rw[jt ci]
    by_cases cj:j=l
    ·rw[jr cj,jt (by omega)];exact a2 _ (by omega)
    ·rw[jt cj]
     by_cases c2:l<j
     ·rw[jr ⟨c2,by omega⟩]
      by_cases c3:l<i
      ·rw[jr ⟨c3,by omega⟩];exact h _ _ (by omega) (by omega)
      ·rw[jt (by omega)];exact h _ _ (by omega) (by omega)
     ·rw[jt (by omega),jt (by omega)];exact h _ _ hij (by omega)
  obtain⟨b1,b2,b3⟩:=JV f (bubble p k (k-l)) (k+1) (by rw[bubble_size];omega) hS;exact⟨b1.trans (bubble_perm _ _ _),by rw[b2,bubble_size],by rw[show k+(f+1)=k+1+f by omega];exact b3⟩
theorem sort_ok (h1:1<=n):(run lt (P9 n)).Perm (List.toArray (E5 n))/\(run lt (P9 n)).size=n/\S lt (run lt (P9 n)) n:=by
 have hz:(List.toArray (E5 n)).size=n:=by simp
 obtain⟨m,p,a1,a2,a3,a4,a5,a6⟩:=Pl O (p:=List.toArray (E5 n)) h1 hz;unfold P9;rw[BL,a1];dsimp only
 by_cases c:m<n
 ·rw[jr c,Nat.max_eq_left a4];obtain⟨b1,b2,b3⟩:=JV O (n-m) p m (by omega) a6;rw[show m+(n-m)=n by omega] at b3;exact⟨b1.trans a2,by rw[b2,a3,hz],b3⟩
 ·rw[jt c];have:m=n:=by omega
  subst this;exact⟨a2,by rw[<- hz,<- a3];rfl,a6⟩
omit O
def InQ {α:Type}(n:Nat)(Q:α->Prop):KasT α->Prop
 |.ret a=>Q a
 |.ask i j k=>i<n/\j<n/\∀b,InQ n Q (k b)
theorem BM {α β:Type}{n:Nat}{Q:α->Prop}{R:β->Prop}{f:α->KasT β}(hf:∀a,Q a->InQ n R (f a)):∀t:KasT α,InQ n Q t->InQ n R (t.bind f)
 |.ret a,h=>hf a h
 |.ask _ _ k,h=>⟨h.1,h.2.1,λb=>BM hf (k b) (h.2.2 b)⟩
def En (n:Nat)(p:Array Nat):Prop:=0<n/\p.Perm (List.toArray (E5 n))
theorem En.g {n:Nat}{p:Array Nat}(h:En n p)(i:Nat):p.getD i 0<n:=by
 by_cases c:i<p.size
 ·rw[show p.getD i 0=p[i] by simp[Array.getD,c]]
  simpa using h.2.mem_iff.mp (Array.getElem_mem c)
 ·rw[show p.getD i 0=0 by simp[Array.getD,c]];exact h.1
theorem En.perm {n:Nat}{p q:Array Nat}(h:En n p)(hp:q.Perm p):En n q:=⟨h.1,hp.trans h.2⟩
theorem En.rev (h:En n p)(i j:Nat):En n (O5 p i j):=h.perm (CZ _ _ _)
theorem Ht {n:Nat}{p:Array Nat}(h:En n p):∀f m,InQ n (λ_=>True) (R6 p f m)
 |0,_=>trivial
 | f + 1, m => ⟨h.g _, h.g _, fun b => by
  cases b with
  |true=>exact trivial
  |false=>exact Ht h f (m+1)⟩
theorem EL {n:Nat}:∀f p m q,En n p->InQ n (λr=>En n r.1) (Z2 f p m q)
 |0,_,_,_,h=>h
 | f + 1, p, m, q, h => ⟨h.g _, h.g _, fun b => by
  cases b with
  | true =>
   show InQ n _ (if q>0 then _ else _)
   by_cases c:q>0
   ·rw[jr c];exact EL f _ _ _ (h.rev _ _)
   ·rw[jt c];exact EL f _ _ _ h
  | false =>
   refine⟨h.g _,h.g _,λd=>?_⟩;cases d with
   |true=>exact h
   |false=>exact EL f _ _ _ h⟩
theorem JW (h:En n p):InQ n (λr=>En n r.2) (kas_tail3 m k p):=by
 unfold kas_tail3;refine BM (Q:=λ_=>True) (λa _=>?_) _ (Ht (h.rev _ _) _ _);exact(h.rev _ _:En n _)
theorem JX (h:En n p):InQ n (λr=>En n r.2) (kas_descPart m k p):=BM (λr hr=>by
   by_cases c:r.2.2>0
   ·rw[jr c];exact JW (hr.rev _ _)
   ·rw[jt c];exact JW hr) _ (EL _ _ _ _ h)
theorem Pm (h:En n p):InQ n (λr=>En n r.2) (kas_count k p):=BM (λm _=>by
   by_cases c:(m == k)=true
   ·rw[jr c];exact h
   ·rw[jt c]
    by_cases c1:m>1
    ·rw[jr c1];refine⟨h.g _,h.g _,λb=>?_⟩;cases b with
     |true=>exact h
     |false=>exact JX (h.rev _ _)
    ·rw[jt c1];exact JX h) _ (Ht h _ _)
theorem Hu {n k:Nat}{p:Array Nat}(h:En n p):∀f l r,InQ n (λ_=>True) (T5 p k f l r)
 |0,_,_=>trivial
 | f + 1, l, r => by
  unfold T5
  by_cases c:l>=r
  ·rw[jr c];exact trivial
  ·rw[jt c];refine⟨h.g _,h.g _,λb=>?_⟩;cases b with
   |true=>exact Hu h f _ _
   |false=>exact Hu h f _ _
theorem JY {n:Nat}:∀f p k,En n p->InQ n (En n) (kas_bin f p k)
 |0,_,_,h=>h
 |f+1,p,k,h=>BM (λl _=>JY f _ _ (h.perm (bubble_perm _ _ _))) _ (Hu h k 0 k)
theorem sort_in {n:Nat}(h1:1<=n):InQ n (En n) (P9 n):=BM (λr hr=>by
   by_cases c:r.1<n
   ·rw[jr c];exact JY _ _ _ hr
   ·rw[jt c];exact hr) _ (Pm ⟨h1,o7 _⟩)
theorem wp_run {α:Type}{lt:Nat->Nat->Bool}{n:Nat}{P:α->Prop}{ask:Nat->Nat->(Bool->A5->Prop)->A5->Prop}{Q:α->A5->Prop}{s:A5}(h:∀i j C,i<n->j<n->C (lt i j) s->ask i j C s):∀t:KasT α,InQ n P t->Q (run lt t) s->t.kasWp ask Q s
 |.ret a,_,q=>q
 |.ask i j k,hi,q=>h i j _ hi.1 hi.2.1 (wp_run h (k (lt i j)) (hi.2.2 _) q)
theorem out_ok {α:Type}(lt:α->α->Bool)(O:(∀a,lt a a=false)/\(∀a b c,lt a b=true->lt b c=true->lt a c=true)/\(∀a b c,lt a c=true->lt a b=true\/lt b c=true))(d:α)(xs:List α)(h1:1<=xs.length) :
   let p:=run (λi j=>lt (xs.getD i d) (xs.getD j d)) (P9 xs.length)
   (p.toList.map λi=>xs.getD i d).Perm xs/\(p.toList.map λi=>xs.getD i d).Pairwise (λa b=>lt b a=false):=by
 intro p;have OO:Ord λi j=>lt (xs.getD i d) (xs.getD j d):=⟨λa=>O.1 _,λa b c=>O.2.1 _ _ _,λa b c=>O.2.2 _ _ _⟩;obtain⟨a1,a2,a3⟩:=sort_ok OO h1;constructor
 ·have hp:p.toList.Perm (E5 xs.length):=FQ.mp a1;have:=hp.map λi=>xs.getD i d;refine this.trans (List.Perm.of_eq ?_)
  apply List.ext_getElem (by simp)
  intro i h2 h3;simp[h3]
 ·rw[W5];intro i j hi hj hij;have hi':i<p.size:=by simpa using hi
  have hj':j<p.size:=by simpa using hj
  have:=a3 i j (W9 hij) (by rw[<- a2];exact hj');simp only[List.getElem_map,Array.getElem_toList];have e1:g p i=p[i]:=by unfold g;simp[Array.getD,hi']
  have e2:g p j=p[j]:=by unfold g;simp[Array.getD,hj']
  have this':lt (xs.getD (g p j) d) (xs.getD (g p i) d)=false:=this;rw[e1,e2] at this';exact this'
end Kr
end L2
end
section
namespace L2
open PySem PySem.W PySem.Spec PyProof.Rows
def T4 (lt:Nat->Nat->Bool)(vs:List A1):List A1:=if vs.length<2 then vs else(Kr.run lt (P9 vs.length)).toList.map λi=>vs.getD i X1
section
variable {prog:D1}{w:C8}{A:D5}{E:A1->A5->Prop}{s:A5}
def EM (h h1:B7)(a:A0):Prop:=∀b o,b≠a->h.get? b=some o->h1.get? b=some o
theorem JZ {a:A0}{vs:List A1}{n:Nat}{lt:Nat->Nat->Bool}{P:PySem.Fin->A5->Prop}(ho:s.heap.get? a=some (seqObj "list" vs.toArray n))(h64:vs.length<64)
   (hk:2<=vs.length->∀h1,EM s.heap h1 a->∃κ,(∀Q:SortKind->A5->Prop,Q κ { s with heap:=h1 }->A6 (A9 prog w) A (keyKind' vs.toArray) Q E { s with heap:=h1 })/\∀i j (C:Bool->A5->Prop),i<vs.length->j<vs.length->C (lt i j) { s with heap:=h1 }->kas_ask prog w A κ vs i j C { s with heap:=h1 })
   (h:∀h2 e,EM s.heap h2 a->h2.get? a=some (seqObj "list" (T4 lt vs).toArray e)->P (.done (.ret .none)) { s with heap:=h2 }):A6 (A9 prog w) A (O4.«list.sort» ⟨[.ref a],[]⟩) P E s:=by
 have ha:a<s.heap.objs.size:=C5 ho;have hsz:vs.toArray.size=vs.length:=by simp
 rw[list_sort_plain];refine A3 (listItems_at ho rfl ?_);refine A3 (Ad ho rfl ?_ (by rw[hsz,K5];omega) (J9 _));obtain⟨e1,ho1⟩:∃e1,(s.heap.update a (F8 λ_=>(#[]:Array A1))).get? a=some (seqObj "list" #[] e1):=⟨_,Bi ho λ_=>#[]⟩;refine A3 (seqEpoch_at ho1 rfl ?_);refine A3 (wpAny_newTuple ?_ (by show vs.length<=_;rw[K5];omega));refine A3 (Cf ?_ (J9 _));refine J7 ?_;show A6 (A9 prog w) A _ P E { s with heap:=((s.heap.update a (F8 λ_=>(#[]:Array A1))).push (seqObj "tuple" vs.toArray 0)).push (seqObj "list" #[] 0) };have ho3:=D0 (seqObj "list" #[] 0) (D0 (seqObj "tuple" vs.toArray 0) ho1)
 have k3:EM s.heap (((s.heap.update a (F8 λ_=>(#[]:Array A1))).push (seqObj "tuple" vs.toArray 0)).push (seqObj "list" #[] 0)) a:=λb o hb e=>
  D0 _ (D0 _ (((Q2 s.heap a (F8 λ_=>(#[]:Array A1))).2 b hb).trans e))
 generalize ((s.heap.update a (F8 λ_=>(#[]:Array A1))).push (seqObj "tuple" vs.toArray 0)).push (seqObj "list" #[] 0)=h3 at ho3 k3 ⊢;dsimp only
 have last:∀out:Array A1,out.size=vs.length->out=(T4 lt vs).toArray->∃e,(h3.update a (F8 λ_=>out)).get? a=some (seqObj "list" (T4 lt vs).toArray e)/\EM s.heap (h3.update a (F8 λ_=>out)) a:=λout _ eo=>
  ⟨_,by rw[<- eo];exact Bi ho3 λ_=>out,λb o hb e=>((Q2 h3 a (F8 λ_=>out)).2 b hb).trans (k3 b o hb e)⟩
 by_cases h2:vs.toArray.size<2
 ·rw[jr h2,jr h2];refine A3 (B0 ?_);rw[StateT.run_pure];refine A3 (B0 ?_);dsimp only
  have eo:(arrOf (SortSt.mk' general' (vs.toArray.zip vs.toArray) #[] 7 none)).map (·.2)=(T4 lt vs).toArray:=by
   have e2:(arrOf (SortSt.mk' general' (vs.toArray.zip vs.toArray) #[] 7 none))=vs.toArray.zip vs.toArray:=rfl;rw[e2];unfold T4;rw[jr (by omega)]
   apply Array.toList_inj.mp
   rw[Array.toList_map,Array.toList_zip];exact List.map_snd_zip (B9 _)
  obtain⟨e,x1,x2⟩:=last _ (by rw[eo];unfold T4;rw[jr (by omega)];simp) eo;refine A3 (seqEpoch_at ho3 rfl ?_);refine A3 (Ad ho3 rfl ?_ (J9 _) (by rw[eo];unfold T4;rw[jr (by omega),hsz,K5];omega));simp only[bne_self_eq_false,J3,if_false];exact B0 (h _ e x2 x1)
 ·rw[jt h2,jt h2];have l2:2<=vs.length:=by omega
  obtain⟨κ,q1,q2⟩:=hk l2 h3 k3;refine A3 (q1 _ ?_);have wp:=Kr.wp_run (Q:=λp s'=>p=Kr.run lt (P9 vs.length)/\s'={ s with heap:=h3 }) (P:=Kr.En vs.length) q2 (P9 vs.length) (Kr.sort_in (by omega)) ⟨rfl,rfl⟩;refine A3 (K3 (kat_run (E:=E) (Q:=λst' s'=>∃p:Array Nat,p.size=vs.length/\arrOf st'=p.map (kas_item (vs.toArray.zip vs.toArray))/\failedOf st'=none/\p=Kr.run lt (P9 vs.length)/\s'={ s with heap:=h3 }) rfl l2 h64 (λp' st' s' a1 a2 a3 a4=>⟨p',a1,a2,a3,a4⟩) wp) ?_ λ_ _ e=>e);rintro⟨⟨⟩,st'⟩ s' ⟨p,hp,har,hf,ep,rfl⟩;dsimp only
  have eo:(arrOf st').map (·.2)=(T4 lt vs).toArray:=by
   rw[kat_snds rfl har,ep];unfold T4;rw[jt (by omega)]
  have so:((arrOf st').map (·.2)).size=vs.length:=by rw[eo];unfold T4;rw[jt (by omega),F4,B8,M6,<- ep,hp]
  obtain⟨e,x1,x2⟩:=last _ so eo;refine A3 (seqEpoch_at ho3 rfl ?_);refine A3 (Ad ho3 rfl ?_ (J9 _) (by rw[so,K5];omega));rw[hf];simp only[bne_self_eq_false,J3,if_false];exact B0 (h _ e x2 x1)
theorem Pn (h64:vs.length<64)
   (hcol:∀(R:List A1->A5->Prop),(∀h1 tk,(∀b o,s.heap.get? b=some o->h1.get? b=some o)->s.heap.objs.size<=h1.objs.size->R vs { s with heap:=h1,toks:=tk })->A6 (A9 prog w) A.in1 (collect v) R E s)
   (hk:2<=vs.length->∀(A:D5) (E:A1->A5->Prop) h1 tk,(∀b o,s.heap.get? b=some o->h1.get? b=some o)->∃κ,(∀Q:SortKind->A5->Prop,Q κ { s with heap:=h1,toks:=tk }->A6 (A9 prog w) A (keyKind' vs.toArray) Q E { s with heap:=h1,toks:=tk })/\∀i j (C:Bool->A5->Prop),i<vs.length->j<vs.length->C (lt i j) { s with heap:=h1,toks:=tk }->kas_ask prog w A κ vs i j C { s with heap:=h1,toks:=tk })
   (h:∀h2 tk D e,(∀b o,s.heap.get? b=some o->h2.get? b=some o)->s.heap.objs.size<=D->h2.get? D=some (seqObj "list" (T4 lt vs).toArray e)->Q (.ref D) { s with heap:=h2,toks:=tk }) :
   A6 (A9 prog w) A (call (.builtin "sorted") [v]) Q E s:=by
 refine Calls.call_function_entry kind_sorted plain_sorted entry_sorted (args_sorted1 _) ?_;unfold O4.«sorted»;refine A3 (m:=checkCount "sorted" 1 1 _) (B0 ?_);refine A3 (hcol _ λh1 tk k1 z1=>?_);refine A3 (Cf ?_ (by rw[K5];omega));have hoL:(h1.push (seqObj "list" vs.toArray 0)).get? h1.objs.size=some (seqObj "list" vs.toArray 0):=G4 _ rfl;have kL:∀b o,s.heap.get? b=some o->(h1.push (seqObj "list" vs.toArray 0)).get? b=some o:=λb o e=>D0 _ (k1 b o e);have ne:∀b o,s.heap.get? b=some o->b≠h1.objs.size:=λb o e=>D7 (K7 (C5 e) z1);refine A3 (J7 (P8 slot_list_sort ⟨_,hoL,rfl⟩ entry_list_sort ?body (args_list_sort _)))
 case body=>
  refine JZ (lt:=lt) (s:={ s with heap:=h1.push (seqObj "list" vs.toArray 0),toks:=tk }) hoL h64 (λl2 h3 k3=>?_) λh3 e k3 e3=>?_
  ·exact hk l2 _ _ h3 tk λb o x=>k3 b o (ne b o x) (kL b o x)
  ·exact⟨_,rfl,B0 ⟨_,rfl,h h3 tk _ e (λb o x=>k3 b o (ne b o x) (kL b o x)) z1 e3⟩⟩
end
end L2
end
section
namespace L2
open PySem PySem.W PySem.Spec PyProof.Rows
def M9:Key->Key->Bool
 |.inl a,.inl b=>decide (a<b)
 |.inr a,.inr b=>decide (a.cps.toList<b.cps.toList)
 |.inl _,.inr _=>true
 |.inr _,.inl _=>false
def lexK:List Key->List Key->Bool
 |[],[]=>false
 |[],_::_=>true
 |_::_,[]=>false
 |x::xs,y::ys=>if x=y then lexK xs ys else M9 x y
theorem Po {a b:Str}(h:a.cps.toList=b.cps.toList):a=b:=by
 cases a;cases b
 congr 1
 exact Array.toList_inj.mp h
theorem Hv (x:Key):M9 x x=false:=by
 cases x with
 |inl a=>exact jq (Int.lt_irrefl a)
 |inr a=>exact jq (List.lt_irrefl _)
theorem Pp (h1:M9 x y=true)(h2:M9 y z=true):M9 x z=true:=by
 cases x <;> cases y <;> cases z <;> simp only[M9,decide_eq_true_eq,reduceCtorEq] at * <;> first|omega|exact List.lt_trans h1 h2|skip
theorem Pq (h:x≠y):M9 x y=true\/M9 y x=true:=by
 cases x with
 | inl a =>
  cases y with
  | inl b =>
   have:a≠b:=λe=>h (by rw[e]);simp only[M9,decide_eq_true_eq];omega
  |inr b=>exact .inl rfl
 | inr a =>
  cases y with
  |inl b=>exact .inr rfl
  | inr b =>
   have hn:a.cps.toList≠b.cps.toList:=λe=>h (by rw[Po e]);simp only[M9,decide_eq_true_eq]
   by_cases c:a.cps.toList<b.cps.toList
   ·exact .inl c
   ·by_cases c2:b.cps.toList<a.cps.toList
    ·exact .inr c2
    ·exact absurd (List.le_antisymm (List.not_lt.mp c2) (List.not_lt.mp c)) hn
theorem Hw:∀x:List Key,lexK x x=false
 |[]=>rfl
 |x::xs=>by show(if x=x then lexK xs xs else _)=false;rw[jr rfl,Hw xs]
theorem EN:∀{x y z:List Key},lexK x y=true->lexK y z=true->lexK x z=true
 |[],[],_,h,_=>by cases h
 |[],_::_,[],_,h=>by cases h
 |[],_::_,_::_,_,_=>rfl
 |_::_,[],_,h,_=>by cases h
 |_::_,_::_,[],_,h=>by cases h
 | x :: xs, y :: ys, z :: zs, h1, h2 => by
  change (if x=y then lexK xs ys else M9 x y)=true at h1
  change (if y=z then lexK ys zs else M9 y z)=true at h2
  show(if x=z then lexK xs zs else M9 x z)=true
  by_cases c1:x=y
  ·rw[jr c1] at h1;subst c1
   by_cases c2:x=z
   ·rw[jr c2] at h2 ⊢;exact EN h1 h2
   ·rw[jt c2] at h2 ⊢;exact h2
  ·rw[jt c1] at h1
   by_cases c2:y=z
   ·subst c2;rw[jt c1];exact h1
   ·rw[jt c2] at h2;have h3:=Pp h1 h2
    by_cases c3:x=z
    ·rw[c3,Hv] at h3;cases h3
    ·rw[jt c3];exact h3
theorem J_:∀{x y:List Key},x≠y->lexK x y=true\/lexK y x=true
 |[],[],h=>absurd rfl h
 |[],_::_,_=>.inl rfl
 |_::_,[],_=>.inr rfl
 | x :: xs, y :: ys, h => by
  show(if x=y then lexK xs ys else M9 x y)=true\/(if y=x then lexK ys xs else M9 y x)=true
  by_cases c:x=y
  ·rw[jr c,jr c.symm];exact J_ λe=>h (by rw[c,e])
  ·rw[jt c,jt (λe=>c e.symm)];exact Pq c
theorem Ka {x y z:List Key}(h:lexK x z=true):lexK x y=true\/lexK y z=true:=by
 by_cases c:x=y
 ·grind
 ·rcases J_ c with h1|h1
  ·grind
  ·exact .inr (EN h1 h)
def Al:List Key->List Key->Prop
 |.inl _::xs,.inl _::ys=>Al xs ys
 |.inr _::xs,.inr _::ys=>Al xs ys
 |_::_,_::_=>False
 |_,_=>True
def KeyV:Key->A1->Prop
 |.inl i,v=>∃t,v=.int i t
 |.inr z,v=>∃t,v=.str z t
inductive u5:List Key->List A1->Prop
 |nil:u5 [] []
 |cons {k v ks vs} (h:KeyV k v) (t:u5 ks vs):u5 (k::ks) (v::vs)
section
variable {prog:D1}{w:C8}{A:D5}{E:A1->A5->Prop}{s:A5}
theorem Pr (hx:KeyV x u)(hy:KeyV y v)(al:Al (x::xs) (y::ys))(h:Q (decide (x=y)) s):A6 (A9 prog w) A (eqBool u v) Q E s:=by
 cases x with
 | inl a =>
  cases y with
  | inl b =>
   obtain⟨t,rfl⟩:=hx;obtain⟨t',rfl⟩:=hy;refine wpAny_eqBool_int ?_
   have e:(a == b)=decide ((N7 a:Key)=.inl b):=by
    rw[Cs];exact decide_eq_decide.mpr ⟨λe=>by rw[e],λe=>by injection e⟩
   rw[e];exact h
  |inr b=>exact al.elim
 | inr a =>
  cases y with
  |inl b=>exact al.elim
  | inr b =>
   obtain⟨t,rfl⟩:=hx;obtain⟨t',rfl⟩:=hy;refine eqBool_str ?_
   have e:(a == b)=decide ((X2 a:Key)=.inr b):=by
    rw[Cs];exact decide_eq_decide.mpr ⟨λe=>by rw[e],λe=>by injection e⟩
   rw[e];exact h
theorem lt_key (hx:KeyV x u)(hy:KeyV y v)(al:Al (x::xs) (y::ys))(h:Q (.bool (M9 x y)) s):A6 (A9 prog w) A (M5 .Lt u v) Q E s:=by
 cases x with
 | inl a =>
  cases y with
  | inl b =>
   obtain⟨t,rfl⟩:=hx;obtain⟨t',rfl⟩:=hy;exact PyProof.Rows.lt_int h
  |inr b=>exact al.elim
 | inr a =>
  cases y with
  |inl b=>exact al.elim
  | inr b =>
   obtain⟨t,rfl⟩:=hx;obtain⟨t',rfl⟩:=hy;exact PyProof.Rows.lt_str h
theorem Hx (hx:KeyV x u)(hy:KeyV y v)(al:Al (x::xs) (y::ys))(h:Q (M9 x y) s):A6 (A9 prog w) A (oneLt' b u v) Q E s:=by
 cases b with
 |false=>exact kat_one u v (lt_key hx hy al h)
 | true =>
  cases x with
  | inl a =>
   cases y with
   | inl b =>
    obtain⟨t,rfl⟩:=hx;obtain⟨t',rfl⟩:=hy;exact oneLt_int h
   |inr b=>exact al.elim
  | inr a =>
   cases y with
   |inl b=>exact al.elim
   | inr b =>
    obtain⟨t,rfl⟩:=hx;obtain⟨t',rfl⟩:=hy;exact oneLt_str h
theorem Ps:∀{xs ys:List Key} {us vs:List A1} (i:Nat),u5 xs us->u5 ys vs->Al xs ys->fin=decide (us.length<vs.length)->Q (lexK xs ys) s->KatLex prog w A b fin Q (us.zip vs) i s:=by
 intro xs
 induction xs with
 | nil =>
  intro ys us vs i hx hy al hf h;cases hx;refine kat_nil ?_;cases hy with
  |nil=>rw[hf];exact h
  |cons _ _=>rw[hf];exact h
 | cons x xs ih =>
  intro ys us vs i hx hy al hf h;cases hx with
  | @cons _ u _ us' hx1 hx2 =>
   cases hy with
   |nil=>rw[List.zip_nil_right];refine kat_nil ?_;rw[hf];exact h
   | @cons y v ys' vs' hy1 hy2 =>
    rw[l6];refine kat_cons (Pr hx1 hy1 al ?_);have h':Q (if x=y then lexK xs ys' else M9 x y) s:=h
    by_cases c:x=y
    ·rw[jp c];rw[jr c] at h';refine kat_yes (ih (i+1) hx2 hy2 ?_ ?_ h')
     ·cases x <;> cases y <;> first|exact al|exact al.elim
     ·rw[hf,L8,L8];exact decide_eq_decide.mpr (by omega)
    ·rw[jq c];rw[jt c] at h';exact kat_no (Hx hx1 hy1 al h')
def TupK (h:B7)(v:A1)(ks:List Key):Prop:=∃a o items n,v=.ref a/\h.get? a=some o/\o.cls=.type "tuple"/\o.data=.seq items n/\u5 ks items.toList
theorem Pv (hx:TupK s.heap u xs)(hy:TupK s.heap v ys)(al:Al xs ys)(h:Q (lexK xs ys) s):A6 (A9 prog w) A (keyLt' (tuples' b) u v) Q E s:=by
 obtain⟨a,o,items,n,rfl,ho,hc,hd,hk⟩:=hx;obtain⟨a',o',jm,n',rfl,ho',hc',hd',hk'⟩:=hy;exact kat_lt ho hd ho' hd' (Ps 0 hk hk' al (by rw[M6,M6]) h)
end
end L2
end
section
namespace L2
open PySem PySem.W PySem.Spec PyProof.Rows
theorem Hy:∀{ks:List Key} {us:List A1},Vals (ks.map kV) us->u5 ks us
 |[],_,h=>by cases h;exact .nil
 | .inl i :: ks, _, h => by
  cases h with
  |cons h1 h2=>exact .cons h1 (Hy h2)
 | .inr z :: ks, _, h => by
  cases h with
  |cons h1 h2=>exact .cons h1 (Hy h2)
section
variable {X:Cx}
theorem Hz (I:Inv X jb σ H s)(h:SqT X.K H a (ks.map kV)):TupK s.heap (.ref a) ks:=by
 obtain⟨jf,r,⟨o,ho,hc,n,hd⟩,_⟩:=I.tuple h;exact⟨a,o,jf.toArray,n,rfl,ho,hc,hd,Hy r⟩
theorem TupK.keep (t:TupK h v ks)(k:∀b o,h.get? b=some o->h'.get? b=some o):TupK h' v ks:=by
 obtain⟨a,o,jf,n,e,ho,hc,hd,hk⟩:=t;exact⟨a,o,jf,n,e,k _ _ ho,hc,hd,hk⟩
def KM (K:A8)(H:Hp):Nat->V->List Key->Prop
 |0,y,ks=>∃i,y=.int i/\ks=[.inl i]
 |1,y,ks=>∃z,y=.str z/\ks=[.inr z]
 |_,y,ks=>∃a,y=.ref a/\SqT K H a (ks.map kV)/\ks≠[]
def Kv1 (h:B7):Nat->A1->List Key->Prop
 |0,u,ks=>∃i t,u=.int i t/\ks=[.inl i]
 |1,u,ks=>∃z t,u=.str z t/\ks=[.inr z]
 |_,u,ks=>TupK h u ks/\ks≠[]
def ltIx (jo:List (List Key))(i j:Nat):Bool:=lexK (jo.getD i []) (jo.getD j [])
theorem EO (jo:List (List Key)):Kr.Ord (ltIx jo):=⟨λ_=>Hw _,λ_ _ _ h1 h2=>EN h1 h2,λ_ _ _ h=>Ka h⟩
def u6 (jo:List (List Key)):Prop:=∀x∈jo,∀y∈jo,Al x y
theorem kv1_of (I:Inv X jb σ H s)(m:Nat)(a:Vals ys vs)(b:Paired (KM X.K H m) ys jo):Paired (Kv1 s.heap m) vs jo:=by
 induction a generalizing jo with
 |nil=>cases b;exact .nil
 | cons h1 _ ih => cases b with
  | cons h2 r2 =>
   refine .cons ?_ (ih r2);rcases m with _|_|m
   ·obtain⟨i,e1,e2⟩:=h2;subst e1;obtain⟨t,rfl⟩:=h1;exact⟨i,t,rfl,e2⟩
   ·obtain⟨i,e1,e2⟩:=h2;subst e1;obtain⟨t,rfl⟩:=h1;exact⟨i,t,rfl,e2⟩
   ·obtain⟨a,e1,e2,e3⟩:=h2;subst e1;cases h1;exact⟨Hz I e2,e3⟩
theorem Kv1.keep (k:∀b o,h.get? b=some o->h'.get? b=some o)(m:Nat)(x:Kv1 h m u ks):Kv1 h' m u ks:=by
 match m,x with
 |0,x=>exact x
 |1,x=>exact x
 |_+2,x=>exact⟨x.1.keep k,x.2⟩
theorem Aw {α β:Type}{F:α->β->Prop}{xs:List α}{ys:List β}(h:Paired F xs ys)(d:α)(e:β):∀i,i<xs.length->F (xs.getD i d) (ys.getD i e):=by
 induction h with
 |nil=>intro i hi;exact absurd hi (DO _)
 | cons h1 _ ih =>
  intro i hi;cases i with
  |zero=>exact h1
  |succ i=>exact ih i (Nat.lt_of_succ_lt_succ hi)
theorem Kb {α β:Type}{F:α->β->Prop}{xs:List α}{ys:List β}(h:Paired F xs ys):∀x∈xs,∃y∈ys,F x y:=by
 induction h with
 |nil=>intro x hx;cases hx
 | cons h1 _ ih =>
  intro x hx;rcases C6.mp hx with rfl|hx
  ·exact⟨_,C3,h1⟩
  ·obtain⟨y,hy,hf⟩:=ih x hx;exact⟨y,C2 _ hy,hf⟩
theorem Pw (p:Paired (Kv1 h (m+2)) vs jo):∃fs,KatTups h vs fs/\fs.length=vs.length/\∀f∈fs,∃k r,(k::r)∈jo/\KeyV k f:=by
 induction p with
 |nil=>exact⟨[],trivial,rfl,λ_ z=>nomatch z⟩
 | cons h1 _ ih =>
  obtain⟨⟨a,o,jf,n,rfl,ho,hc,hd,hk⟩,hne⟩:=h1;obtain⟨fs,t,hl,hf⟩:=ih;cases e:jf.toList with
  |nil=>rw[e] at hk;cases hk;exact absurd rfl hne
  | cons f us =>
   rw[e] at hk;cases hk with
   | @cons k _ ks _ h2 h3 =>
    have ef:jf[0]?=some f:=by rw[<- P5,e];rfl
    refine⟨f::fs,KatTups.cons ho hc hd ef t,by rw[L8,L8,hl],λg hg=>?_⟩;rcases C6.mp hg with rfl|hg
    ·exact⟨k,ks,C3,h2⟩
    ·obtain⟨k',r',h4,h5⟩:=hf g hg;exact⟨k',r',C2 _ h4,h5⟩
theorem Kc {s:A5}(h2:2<=vs.length)(p:Paired (Kv1 s.heap m) vs jo)(al:u6 jo)(A:D5)(E:A1->A5->Prop)(h1:B7)(tk:Nat)(k:∀b o,s.heap.get? b=some o->h1.get? b=some o) :
   ∃κ,(∀Q:SortKind->A5->Prop,Q κ { s with heap:=h1,toks:=tk }->A6 (A9 prog w) A (keyKind' vs.toArray) Q E { s with heap:=h1,toks:=tk })/\∀i j (C:Bool->A5->Prop),i<vs.length->j<vs.length->C (ltIx jo i j) { s with heap:=h1,toks:=tk }->kas_ask prog w A κ vs i j C { s with heap:=h1,toks:=tk }:=by
 have p1:Paired (Kv1 h1 m) vs jo:=Paired.imp' (λ_ _ x=>x.keep k m) p;have lk:=Paired.length p1
 have mem:∀i,i<vs.length->jo.getD i []∈jo:=λi hi=>by
  rw[AN,D3 (by omega)];exact y7 _
 match m,p1 with
 | 0, p1 =>
  refine⟨oneType',λQ q=>kas_kind (T:=.type "int") h2 (λv hv=>?_) rfl rfl q,λi j C hi hj c=>?_⟩
  ·obtain⟨ks,_,i,t,rfl,_⟩:=Kb p1 v hv;exact Looks.of_pure rfl
  ·obtain⟨a,t,e1,e2⟩:=Aw p1 .none [] i hi;obtain⟨b,t',e3,e4⟩:=Aw p1 .none [] j hj;unfold kas_ask;unfold ltIx at c;rw[e1,e3,keyLt'_oneType];rw[e2,e4] at c;refine Hx (x:=.inl a) (y:=.inl b) (xs:=[]) (ys:=[]) ⟨t,rfl⟩ ⟨t',rfl⟩ trivial ?_
   have e:lexK [.inl a] [.inl b]=M9 (.inl a) (.inl b):=by
    show(if(N7 a:Key)=.inl b then false else M9 (.inl a) (.inl b))=_
    by_cases c:(N7 a:Key)=.inl b
    ·rw[jr c,c,Hv]
    ·rw[jt c]
   rw[<- e];exact c
 | 1, p1 =>
  refine⟨oneType',λQ q=>kas_kind (T:=.type "str") h2 (λv hv=>?_) rfl rfl q,λi j C hi hj c=>?_⟩
  ·obtain⟨ks,_,i,t,rfl,_⟩:=Kb p1 v hv;exact Looks.of_pure rfl
  ·obtain⟨a,t,e1,e2⟩:=Aw p1 .none [] i hi;obtain⟨b,t',e3,e4⟩:=Aw p1 .none [] j hj;unfold kas_ask;unfold ltIx at c;rw[e1,e3,keyLt'_oneType];rw[e2,e4] at c;refine Hx (x:=.inr a) (y:=.inr b) (xs:=[]) (ys:=[]) ⟨t,rfl⟩ ⟨t',rfl⟩ trivial ?_
   have e:lexK [.inr a] [.inr b]=M9 (.inr a) (.inr b):=by
    show(if(X2 a:Key)=.inr b then false else M9 (.inr a) (.inr b))=_
    by_cases c:(X2 a:Key)=.inr b
    ·rw[jr c,c,Hv]
    ·rw[jt c]
   rw[<- e];exact c
 | m' + 2, p1 =>
  obtain⟨fs,kt,fl,hf⟩:=Pw p1
  have asks:∀b i j (C:Bool->A5->Prop),i<vs.length->j<vs.length->C (ltIx jo i j) { s with heap:=h1,toks:=tk }->kas_ask prog w A (tuples' b) vs i j C { s with heap:=h1,toks:=tk }:=λb i j C hi hj c=>by
   have x1:=Aw p1 .none [] i hi;have x2:=Aw p1 .none [] j hj;exact Pv (s:={ s with heap:=h1,toks:=tk }) x1.1 x2.1 (al _ (mem i hi) _ (mem j hj)) c
  obtain⟨f0,fr,rfl⟩:∃f0 fr,fs=f0::fr:=by
   cases fs with
   |nil=>rw[<- fl] at h2;exact absurd h2 (by simp)
   |cons a r=>exact⟨a,r,rfl⟩
  obtain⟨k0,r0,m0,v0⟩:=hf f0 C3
  have all:∀T:String,(∀f k r,(k::r)∈jo->KeyV k f->typeOf f=pure (.type T))->∀v∈f0::fr,Looks (A9 prog w) h1 (typeOf v) (.type T):=λT hT v hv=>by
   obtain⟨k,r,h3,h4⟩:=hf v hv;exact Looks.of_pure (hT v k r h3 h4)
  cases k0 with
  | inl i0 =>
   refine⟨tuples' (L5 "int" != L5 "tuple"),λQ q=>kat_kind (s:={ s with heap:=h1,toks:=tk }) kt (by simp) (all "int" λf k r h3 h4=>?_) rfl q,asks _⟩;cases k with
   |inl i=>obtain⟨t,rfl⟩:=h4;rfl
   |inr z=>exact(al _ m0 _ h3).elim
  | inr i0 =>
   refine⟨tuples' (L5 "str" != L5 "tuple"),λQ q=>kat_kind (s:={ s with heap:=h1,toks:=tk }) kt (by simp) (all "str" λf k r h3 h4=>?_) rfl q,asks _⟩;cases k with
   |inr i=>obtain⟨t,rfl⟩:=h4;rfl
   |inl z=>exact(al _ m0 _ h3).elim
def outV (lt:Nat->Nat->Bool)(ys:List V):List V:=if ys.length<2 then ys else(Kr.run lt (P9 ys.length)).toList.map λi=>ys.getD i .non
theorem Kd (r:Vals ys vs)(O:Kr.Ord lt):Vals (outV lt ys) (T4 lt vs):=by
 unfold outV T4;rw[r.length]
 by_cases c:vs.length<2
 ·rw[jr c,jr c];exact r
 ·rw[jt c,jt c];obtain⟨a1,a2,_⟩:=Kr.sort_ok O (n:=vs.length) (by omega)
  have hm:∀i∈(Kr.run lt (P9 vs.length)).toList,i<vs.length:=λi hi=>by
   have:=(FQ.mp a1).mem_iff.mp hi
   simpa using this
  generalize (Kr.run lt (P9 vs.length)).toList=is at hm
  induction is with
  |nil=>exact .nil
  | cons i is ih =>
   refine .cons ?_ (ih λj hj=>hm j (C2 _ hj));exact Aw r .non .none i (by rw[r.length];exact hm i C3)
theorem Px:L6 X (.builtin "sorted") (λxs H Q=>∃p ys m jo,xs=[.ref p]/\SqL X.K H p ys/\ys.length<64/\Paired (KM X.K H m) ys jo/\u6 jo/\∀l,H l=none->Q (.ref l) (upd H l (.lst (outV (ltIx jo) ys)))):=by
 intro jb s σ H xs us Q I r h;obtain⟨p,ys,m,jo,rfl,hq,h64,hp,al,q⟩:=h;obtain⟨u,rfl,rx⟩:=p9 r;cases rx;obtain⟨jf,r',pl,hz⟩:=I.list hq;have hlen:=r'.length;have pk:=kv1_of I m r' hp;have O:=EO jo;refine Pn (vs:=jf) (lt:=ltIx jo) (by omega) (λR hR=>?_) (λh2 A E h1 tk k=>Kc h2 pk al A E h1 tk k) λh2 tk D e k hD ho=>?_
 ·refine collect_list pl.isList (hR _ s.toks (λb o e=>?_) ?_) (by omega)
  ·have hlt:b<s.heap.objs.size:=C5 e;rw[Heap.get?_update_ne _ _ _ _ (D7 hlt)];exact D0 _ e
  ·rw[Heap.size_update,size_push'];omega
 ·have vo:=Kd r' O
  have hl:(outV (ltIx jo) ys).length<=C4:=by
   unfold outV
   split
   ·omega
   ·rw[B8,M6,(Kr.sort_ok O (by omega)).2.1];omega
  exact⟨.ref D,_,I.laid (t':=tk) k hD (show G7 X.prog X.w _ h2 _ (.lst (outV (ltIx jo) ys)) from⟨hl,_,e,vo,ho⟩),rfl,q _ (I.hok.fresh hD)⟩
end
end L2
end
section
namespace Pu
open PySem PySem.Spec L2
def kP:Key->PV
 |.inl i=>.int i
 |.inr z=>.str z
def u7:List PV->Option (List Key)
 |[]=>some []
 |.int i::r=>(u7 r).map (.inl i::·)
 |.str z::r=>(u7 r).map (.inr z::·)
 |_=>none
def keyP:PV->List Key
 |.int i=>[.inl i]
 |.str z=>[.inr z]
 |.tup xs=>(u7 xs).getD []
 |_=>[]
theorem HA:∀ks:List Key,u7 (ks.map kP)=some ks
 |[]=>rfl
 |.inl i::r=>by show(u7 (r.map kP)).map _=_;rw[HA r];rfl
 |.inr i::r=>by show(u7 (r.map kP)).map _=_;rw[HA r];rfl
theorem d4 (ks:List Key):keyP (.tup (ks.map kP))=ks:=by show(u7 (ks.map kP)).getD []=_;rw[HA];rfl
theorem EQ:∀(ks:List Key) {us:List V},Reps K G H (ks.map kP) us->us=ks.map kV
 |[],_,h=>h
 | .inl i :: r, _, h => by
  obtain⟨v,t,rfl,h1,h2⟩:=h;rw[EQ r h2,show v=.int i from h1];rfl
 | .inr i :: r, _, h => by
  obtain⟨v,t,rfl,h1,h2⟩:=h;rw[EQ r h2,show v=.str i from h1];rfl
section
variable {T:PotK}{ι:Type}{K:A8}{F:ι->Cx}{e:Expr}{pe:pE}{pos:Pos}
def HB (xs:List PV):Prop:=(∀x∈xs,∃i,x=.int i)\/(∀x∈xs,∃z,x=.str z)\/((∀x∈xs,∃ks,x=.tup (ks.map kP)/\ks≠[])/\∀x∈xs,∀y∈xs,Al (keyP x) (keyP y))
def Srt (ys xs:List PV):Prop:=ys.Perm xs/\ys.Pairwise λa b=>lexK (keyP b) (keyP a)=false
def ER (pe:pE):pA:=λenv n R=>pe env n λx jc n1=>match x with|.lst xs=>xs.length<64/\HB xs/\∀ys,Srt ys xs->R ys jc n1|_=>False
theorem Da {G:Gh}{H:Hp}{P:PV->V->List Key->Prop}:∀(xs:List PV) {us:List V},Reps K G H xs us->(∀x∈xs,∀v,Rep K G H x v->P x v (keyP x))->Paired (λv ks=>∃x,x∈xs/\P x v ks) us (xs.map keyP)
 |[],_,h,_=>by cases h;exact .nil
 | x :: xs, _, h, hP => by
  obtain⟨v,t,rfl,h1,h2⟩:=h;refine .cons ⟨x,C3,hP x C3 v h1⟩ ?_;exact Paired.imp' (λv ks ⟨y,hy,hp⟩=>⟨y,C2 _ hy,hp⟩) (Da xs h2 λy hy=>hP y (C2 _ hy))
theorem km_of (r:Reps K G H xs us)(h:HB xs):∃m,Paired (KM K H m) us (xs.map keyP)/\u6 (xs.map keyP):=by
 rcases h with h|h|⟨h,h'⟩
 ·refine⟨0,Paired.imp' (λv ks ⟨_,_,hp⟩=>hp) (Da (P:=λ_ v ks=>KM K H 0 v ks) xs r λx hx v hv=>?_),λa ha b hb=>?_⟩
  ·obtain⟨i,rfl⟩:=h x hx;exact⟨i,hv,rfl⟩
  ·obtain⟨x,hx,rfl⟩:=G0.mp ha;obtain⟨y,hy,rfl⟩:=G0.mp hb;obtain⟨i,rfl⟩:=h x hx;obtain⟨j,rfl⟩:=h y hy;exact trivial
 ·refine⟨1,Paired.imp' (λv ks ⟨_,_,hp⟩=>hp) (Da (P:=λ_ v ks=>KM K H 1 v ks) xs r λx hx v hv=>?_),λa ha b hb=>?_⟩
  ·obtain⟨i,rfl⟩:=h x hx;exact⟨i,hv,rfl⟩
  ·obtain⟨x,hx,rfl⟩:=G0.mp ha;obtain⟨y,hy,rfl⟩:=G0.mp hb;obtain⟨i,rfl⟩:=h x hx;obtain⟨j,rfl⟩:=h y hy;exact trivial
 ·refine⟨2,Paired.imp' (λv ks ⟨_,_,hp⟩=>hp) (Da (P:=λ_ v ks=>KM K H 2 v ks) xs r λx hx v hv=>?_),λa ha b hb=>?_⟩
  ·obtain⟨ks,rfl,hne⟩:=h x hx;obtain⟨a,vs,rfl,at',rr⟩:=hv;rw[d4];refine⟨a,rfl,?_,hne⟩;rw[EQ ks rr] at at';exact SqT.of at'.2
  ·obtain⟨x,hx,rfl⟩:=G0.mp ha;obtain⟨y,hy,rfl⟩:=G0.mp hb;exact h' x hx y hy
def outP (xs:List PV):List PV:=if xs.length<2 then xs else(Kr.run (ltIx (xs.map keyP)) (P9 xs.length)).toList.map λi=>xs.getD i .non
theorem Ke (xs:List PV)(i:Nat):(xs.map keyP).getD i []=keyP (xs.getD i .non):=by grind [PV,keyP]
theorem Kf (xs:List PV):Srt (outP xs) xs:=by
 unfold outP
 by_cases c:xs.length<2
 ·rw[jr c];refine⟨List.Perm.refl _,?_⟩
  match xs,c with
  |[],_=>exact .nil
  |[x],_=>exact List.pairwise_singleton _ _
 ·rw[jt c]
  have e:ltIx (xs.map keyP)=λi j=>lexK (keyP (xs.getD i .non)) (keyP (xs.getD j .non)):=by
   funext i j
   unfold ltIx;rw[Ke,Ke]
  rw[e];exact Kr.out_ok (λa b:PV=>lexK (keyP a) (keyP b)) ⟨λ_=>Hw _,λ_ _ _ h1 h2=>EN h1 h2,λ_ _ _ h=>Ka h⟩ .non xs (by omega)
theorem Py (r:Reps K G H xs us)(i:Nat)(hi:i<xs.length):Rep K G H (xs.getD i .non) (us.getD i .non):=by
 induction xs generalizing us i with
 |nil=>exact absurd hi (DO _)
 | cons x xs ih =>
  obtain⟨v,t,rfl,h1,h2⟩:=r;cases i with
  |zero=>exact h1
  |succ i=>exact ih h2 i (Nat.lt_of_succ_lt_succ hi)
theorem Kg (r:Reps K G H xs us):Reps K G H (outP xs) (outV (ltIx (xs.map keyP)) us):=by
 unfold outP outV;have hl:us.length=xs.length:=r.length.symm;rw[hl]
 by_cases c:xs.length<2
 ·rw[jr c,jr c];exact r
 ·rw[jt c,jt c];obtain⟨a1,a2,_⟩:=Kr.sort_ok (EO (xs.map keyP)) (n:=xs.length) (by omega)
  have hm:∀i∈(Kr.run (ltIx (xs.map keyP)) (P9 xs.length)).toList,i<xs.length:=λi hi=>by
   have:=(FQ.mp a1).mem_iff.mp hi
   simpa using this
  generalize (Kr.run (ltIx (xs.map keyP)) (P9 xs.length)).toList=is at hm
  induction is with
  |nil=>exact rfl
  |cons i is ih=>exact⟨_,_,rfl,Py r i (hm i C3),ih λj hj=>hm j (C2 _ hj)⟩
theorem Kh (hg:∀z,Gl (F z) "sorted")(hm:∀z,(F z).mg "sorted"=none)(ha:QR T K F e pe)(hs:F5 e=true:=by rfl)(hK:∀z,(F z).K=K:=by intro _;rfl):QN T K F (.Call (.Name "sorted" p) [e] [] pos) (ER pe):=by
 obtain⟨t,h1,h2⟩:=ha;refine⟨_,λz=>Z7 (hK z▸Px) (hg z) (hm z) GC (E8 (h1 z) J6 (D8 hs)) (by decide) (by decide) (D8 hs),λC G σ H env n R Q hK hT S hp k=>?_⟩;refine CN h2 hK hT S hp λx jc n1 v H1 p1 S1 r1 f1=>?_;have rd:RdV K G H1 x v:=hK▸r1.rd S1;cases x with
 | lst xs =>
  obtain⟨h64,so,q⟩:=p1;obtain⟨a,us,rfl,hq,r⟩:=rd.lst;obtain⟨m,pk,al⟩:=km_of r so;have hl:us.length=xs.length:=r.length.symm;exact⟨a,us,m,xs.map keyP,rfl,hq,by omega,pk,al,λl hl=>k _ _ _ _ _ _ (q _ (Kf xs)) S1 f1 hl (Kg r)⟩
 |_=>exact p1.elim
end
end Pu
end
section
namespace Pu
open PySem PySem.Spec L2
def tupP (ks:List Key):PV:=.tup (ks.map kP)
end Pu
end
section
namespace Pu
open PySem PySem.Spec L2
section
variable {T:PotK}{np:Bool}{ι:Type}{K:A8}{F:ι->Cx}{e:Expr}{st:Stmt}{pe pk pv:pE}{pos:Pos}
def keyV:PV->Option Key
 |.int i=>some (.inl i)
 |.str z=>some (.inr z)
 |_=>none
theorem Pz {G:Gh}{H:Hp}{x:PV}{v:V}{k:Key}(r:Rep K G H x v)(h:keyV x=some k):v=kV k:=by
 cases x <;> simp[keyV] at h <;> subst h <;> exact r
end
end Pu
end
section
namespace L2
open PySem PySem.Spec PyProof.Rows
section
variable {prog:D1}{w:C8}{A:D5}{E:A1->A5->Prop}{s:A5}
theorem PB {j:Nat}(ht:s.heap.IsTuple t jf)(hS:StrsAre jf.toList ys)(hj:ys[j]?=some k)(hlt:∀i,i<j->ys[i]?≠some k)(hsm:ys.length<=1000000)
   (h:∀tk,Q (.int j tk) { s with toks:=s.toks+1 }):A6 (A9 prog w) A (call (.builtin "tuple.index") [.ref t,.str k tok]) Q E s:=by
 obtain⟨o,ho,hc,n,hd⟩:=id ht;have hT:s.TypeIs (.ref t) "tuple":=⟨o,ho,hc⟩;refine P8 F.slot_tuple_index hT F.entry_tuple_index ?_ (F.args_tuple_index_2 _ _);unfold O4.«tuple.index»;refine A3 (AL (a:=(L9 t,[Bg k tok])) rfl ?_);refine A3 (wpAny_tupleItemsOf ho hd ?_);dsimp only;refine A3 (B0 (A3 (B0 ?_)));refine A3 ?_;have hlen:ys.length=jf.toList.length:=(StrsAre.length hS).symm
 have at_:∀(i:Nat) (y:Str),ys[i]?=some y->∃u,jf[i]?=some (.str y u):=by
  intro i y hy
  have:∀{us:List A1} {zs:List Str},StrsAre us zs->∀(i:Nat),zs[i]?=some y->∃u,us[i]?=some (.str y u):=by
   intro us zs hh
   induction hh with
   |nil=>intro i h;cases h
   | cons x t _ ih =>
    intro i h;cases i with
    |zero=>cases h;exact⟨t,rfl⟩
    |succ i=>exact ih i (by simpa using h)
  obtain⟨u,hu⟩:=this hS i hy;exact⟨u,by rw[<- P5];exact hu⟩
 have hjl:j<jf.size:=by
  have:=(F7.mp hj).1;rw[hlen,M6] at this;exact this
 rw[Std.Legacy.Range.forIn_eq_forIn_range'];refine DC _ (λrest r s'=>r.1=none/\s'=s/\∃i,rest=List.range' i (jf.size-i)/\i<=j) _ ?_ ?_ _ _ ⟨rfl,rfl,0,?_,J9 _⟩
 ·rintro x rest ⟨r1,r2⟩ s' ⟨hr,rfl,i0,hi,hij⟩;have hil:jf.size-i0=(jf.size-i0-1)+1:=by omega
  rw[hil,List.range'_succ] at hi;obtain⟨i,hxi⟩:∃i,x=i:=⟨x,rfl⟩;injection hi with h1 h2;subst h2;have hi0:i0=i:=by rw[<- hxi,h1]
  subst hi0;subst hxi;clear h1
  revert hij hil
  generalize x=i;intro hij hil;have hiy:i<ys.length:=by rw[hlen,M6];omega
  obtain⟨u,hu⟩:=at_ i ys[i] (D3 hiy);rw[hu];dsimp only;refine A3 (eqBool_str ?_)
  by_cases c:i=j
  ·subst c
   have:ys[i]=k:=by
    have:=D3 hiy;rw[hj] at this;exact(M7 this).symm
   rw[this,beq_self_eq_true,jr rfl];refine A3 (A3 (wpAny_mkInt (B0 (B0 ?_))));exact B0 ⟨_,rfl,h _⟩
  ·have:ys[i]≠k:=λe=>hlt i (by omega) (by rw[D3 hiy,e]);rw[beq_eq_false_iff_ne.mpr this,jt T9];refine B0 ⟨rfl,rfl,i+1,?_,by omega⟩;rw[show jf.size-(i+1)=jf.size-i-1 by omega]
 ·rintro⟨r1,r2⟩ s' ⟨hr,rfl,i,hi,hij⟩;have hil:jf.size-i=(jf.size-i-1)+1:=by omega
  rw[hil,List.range'_succ] at hi;cases hi
 ·simp[Std.Legacy.Range.size]
end
section
variable {X:Cx}
def Ki (K:A8):V->List V->Hp->VK->Prop:=λx vs H Q=>∃(l:A0) (k:Str) (ys:List Str) (j:Nat),x=.ref l/\vs=[.str k]/\SqT K H l (ys.map V.str)/\ys.length<=1000000/\ys[j]?=some k/\(∀i,i<j->ys[i]?≠some k)/\Q (.int j) H
theorem PC:MtM X "tuple.index" (Ki X.K):=by
 intro jb s σ H x vs v us Q I rx rv h;obtain⟨l,k,ys,j,rfl,rfl,hq,hz0,hj,hlt,q⟩:=h;cases rx;obtain⟨u,rfl,ru⟩:=rv.one;obtain⟨t,rfl⟩:=ru;obtain⟨jf,r,p,hz⟩:=I.tuple hq;exact PB p (Hn r) hj hlt hz0 λtk=>⟨.int j,H,I.tok _,⟨_,rfl⟩,q⟩
end
end L2
end
section
namespace Pu
open PySem PySem.Spec PyProof.Rows L2
section
variable {T:PotK}{ι:Type}{K:A8}{F:ι->Cx}{e c:Expr}{pe pc:pE}{pos:Pos}
def u8:w2:=λx y R=>match x,y with|.tup xs,.str k=>(match O0 xs with|some ys=>ys.length<=1000000/\∃j:Nat,ys[j]?=some k/\(∀i,i<j->ys[i]?≠some k)/\R (.int j)|none=>False)|_,_=>False
def d5 (pe pc:pE):pE:=λenv n R=>pe env n λx jc n1=>(∃xs,x=.tup xs)/\pc jc n1 λy jd n2=>u8 x y λz=>R z jd n2
theorem u9 (he:QE T K F e pe)(hc:QE T K F c pc)(hs:F5 c=true:=by rfl)(hbase:∀z,x6 e "index" (F z).env (eval e (F z).env)=eval e (F z).env:=by intro _;rfl)(hline:(ap.endLine == pos.line)=true:=by rfl)
   (hfew:∀z,((backTo pos (E9 [c] (F z).env)).all (λx=>!x.1)&&(Z0 pos (Y8 [] (F z).env)).all (λx=>x.1.isSome)&&decide (([c]:List Expr).length+([]:List Q4).length+(if([]:List Q4).isEmpty then 0 else 1)<30))=true:=by intro _;rfl) (hK:∀z,(F z).K=K:=by intro _;rfl):QE T K F (.Call (.Attribute e "index" ap) [c] [] pos) (d5 pe pc):=by
 obtain⟨t,a1,a2⟩:=he;obtain⟨u,b1,b2⟩:=hc;refine⟨tBM K "tuple" (Ki K) t (U1 u tNil),λz=>hK z▸Bx PySem.F.plainAttrs_tuple PySem.F.slot_tuple_index PySem.F.type_tuple_index PC (a1 z) (E8 (b1 z) J6 (D8 hs)) (hbase z) (hfew z) hline (D8 hs),λC G σ H env n R Q hK hT S hp k=>?_⟩;refine a2 C G σ H env n _ _ hK hT S hp λx jc n1 v H1 q1 S1 r1 f1=>?_;obtain⟨⟨xs,rfl⟩,q1⟩:=q1;obtain⟨a,vs,rfl,ta,ra⟩:=r1;refine⟨?_,?_⟩
 ·exact .inr (.inl ⟨rfl,.inr ⟨vs,ta.2⟩⟩)
 refine b2 C G σ H1 jc n1 _ _ hK hT S1 q1 λy jd n2 w H2 q2 S2 r2 f2=>?_;unfold u8 at q2
 split at q2
 ·rename_i xs' kk e1;cases e1
  split at q2
  ·rename_i ys ey;obtain⟨hz,j,hj,hlt,q3⟩:=q2;obtain⟨a',vs',e3,ta',ra'⟩:=(show Rep K G H1 (.tup xs) (.ref a) from⟨a,vs,rfl,ta,ra⟩).fr f2;cases e3;exact⟨a,kk,ys,j,rfl,by rw[show w=.str kk from r2],BJ ey ra'▸SqT.of ta'.2,hz,hj,hlt,k _ _ _ _ _ q3 S2 rfl (f1.trans f2)⟩
  ·exact q2.elim
 ·exact q2.elim
end
end Pu
end
section
namespace Pu
open PySem PySem.Spec L2
def frzS:Slot->Option Slot
 |.v x=>some (.v x)
 |.ow .lst xs=>some (.v (.lst xs))
 |.ow (.dk ks) xs=>if ks.length=xs.length then some (.v (.dct ks xs)) else none
 |.ow (.dt _) _=>none
 |.ow (.st _) _=>none
def frz (env:Env):Env:=env.map λo=>o.bind frzS
def Db (T:PotK):Prop:=∀M M' H p n,T.at_ M H p n->(∀a∈M',a∈M\/∃o,H a=some o/\MutO o)->T.at_ M' H p n
theorem SR.lend (S:SR C G σ H env n):SR ⟨C.K,C.T,G.pots,G.pots,H,C.np⟩ ⟨G.pots,G.pots⟩ σ H (frz env) n where
 frame _ _ _ e:=e
 sub a ha:=.inl ha
 sup a ha:=ha
 pots p hp:=⟨hp,C.T.more (S.pots p hp).2 λb hb=>.inl (S.pots b hb).1⟩
 pre:=⟨[],(W8 _).symm,.inl rfl⟩
 mu a ha:=S.mu a (S.pots a ha).1
 slots i s e:=by
  have mm:∀{x:PV} {v:V},Rep C.K G H x v->Rep C.K ⟨G.pots,G.pots⟩ H x v:=λr=>Rep.mono (G':=⟨G.pots,G.pots⟩) (λ_ _ _ e=>e) (λb hb=>.inl (S.pots b hb).1) (λ_ _ e=>e) _ _ r;have mms:∀{x:List PV} {v:List V},Reps C.K G H x v->Reps C.K ⟨G.pots,G.pots⟩ H x v:=λr=>Reps.mono (G':=⟨G.pots,G.pots⟩) (λ_ _ _ e=>e) (λb hb=>.inl (S.pots b hb).1) (λ_ _ e=>e) _ _ r;unfold frz at e;rw[G6] at e;cases h:env[i]? with
  |none=>rw[h] at e;cases e
  | some o =>
   rw[h] at e;cases o with
   |none=>cases e
   | some t =>
    have q:=S.slots i t h;have e':frzS t=some s:=by simpa using e
    cases t with
    | v x =>
     cases e';obtain⟨v,e1,r⟩:=q;exact⟨v,e1,mm r⟩
    | ow k xs =>
     obtain⟨a,vs,ev,h1,h2,h3,h4,r⟩:=q;cases k with
     |lst=>cases e';exact⟨.ref a,ev,a,vs,rfl,⟨h3,h4⟩,mms r⟩
     | dk ks =>
      have e':(if ks.length=xs.length then some (Slot.v (.dct ks xs)) else none)=some s:=e'
      split at e'
      ·rename_i hl;cases e';have hlv:ks.length=vs.length:=by rw[hl];exact r.length
       refine⟨.ref a,ev,a,ks.zip vs,rfl,h3,h4,List.map_fst_zip (Cr hlv),?_⟩;rw[List.map_snd_zip (Cr hlv.symm)];exact mms r
      ·cases e'
     |dt ks=>cases e'
     |st ks=>cases e'
 inj i j xs ys a e1:=by
  have:∀o:Option Slot,o.bind frzS≠some (.ow xs.1 xs.2):=by
   intro o z;cases o with
   |none=>cases z
   | some t =>
    cases t with
    |v x=>cases z
    | ow k ys =>
     cases k with
     |lst=>cases z
     | dk ks =>
      have z:(if ks.length=ys.length then some (Slot.v (.dct ks ys)) else none)=some (.ow xs.1 xs.2):=z
      split at z <;> cases z
     |dt ks=>cases z
     |st ks=>cases z
  unfold frz at e1;rw[G6] at e1;cases h:env[i]? with
  |none=>rw[h] at e1;cases e1
  |some o=>rw[h] at e1;exact absurd (M7 e1) (this o)
 p0:=⟨λp hp=>hp,S.hasG⟩
 len:=by unfold frz;rw[B8];exact S.len
 newp p hp h:=absurd hp h
theorem SR.back (hT:Db C.T)(S:SR C G σ H env n)(S':SR ⟨C.K,C.T,G.pots,G.pots,H,C.np⟩ ⟨G.pots,G.pots⟩ σ H' jh n'):SR C G σ H' env n':=
 S.call (fun b o hb e=>S'.frame b o hb e) fun p hp=>hT _ _ _ _ _ (S'.pots p hp).2 fun a ha=>by
  by_cases h:a∈G.pots
  ·grind
  ·obtain⟨o,e,m⟩:=S.mu a ha;exact .inr ⟨o,S'.frame a o h e,m⟩
def HC (pe:pE):pE:=λenv n R=>pe (frz env) n λx jh n'=>noMut x=true/\R x env n'
section
variable {T:PotK}{ι:Type}{K:A8}{F:ι->Cx}{e:Expr}{pe:pE}{pn:pA}
theorem PF (hT:Db T)(h:QE T K F e pe):QE T K F e (HC pe):=by
 obtain⟨t,h1,h2⟩:=h;refine⟨t,h1,λC G σ H env n R Q hK hT' S hp k=>?_⟩;refine h2 ⟨C.K,C.T,G.pots,G.pots,H,C.np⟩ ⟨G.pots,G.pots⟩ σ H (frz env) n _ _ hK hT' S.lend hp λx jh n' v H' r S' rp f=>?_;have S2:=S.back (by grind) S';exact k _ _ _ _ _ r.2 S2 (Rep.noMut S2.mu _ _ r.1 rp) λb o hb e=>S'.frame b o (λz=>hb (S.pots b z).1) e
end
theorem PH:Db potL:=λ_ _ _ _ _ h _=>h
end Pu
end
section
namespace Pu
open PySem PySem.Spec L2
abbrev pSlN:=Env->Nat->(List Slot->Env->Nat->Prop)->Prop
def HD:pSlN:=λenv n R=>R [] env n
def BN (s:pSl)(r:pSlN):pSlN:=λenv n R=>s env n λa jc n1=>r jc n1 λss jd n2=>R (a::ss) jd n2
def setAll:List Nat->List Slot->Env->Env
 |i::is,s::ss,env=>setAll is ss (env.set i (some s))
 |_,_,env=>env
def HE:List Nat->List V->St->St
 |i::is,v::vs,σ=>HE is vs (σ.set i (some v))
 |_,_,σ=>σ
def Gots (C:Ct)(G:Gh)(H:Hp)(σ:St)(env:Env):List Slot->List V->Prop
 |[],vs=>vs=[]
 |s::ss,vs=>∃v r,vs=v::r/\Got C G H σ env s v/\(∀(xs:OK×List PV) a,s=.ow xs.1 xs.2->v=.ref a->∀(ys:OK×List PV) w,(Slot.ow ys.1 ys.2,w)∈ss.zip r->w≠.ref a)/\Gots C G H σ env ss r
def LsOk (K:A8)(T:PotK)(t:TA)(sl:pSlN):Prop:=∀(C:Ct) (G:Gh) (σ:St) (H:Hp) (env:Env) (n:Nat) (R:List Slot->Env->Nat->Prop) (Q:List V->Hp->Prop),C.K=K->C.T=T->SR C G σ H env n->sl env n R->
 (∀ss jh n' vs G' H',R ss jh n'->SR C G' σ H' jh n'->Ext G H G' H'->Gots C G' H' σ jh ss vs->Q vs H')->t σ H Q
def QLs {ι:Type}(T:PotK)(K:A8)(F:ι->Cx)(es:List Expr)(sl:pSlN):Prop:=∃t,(∀z,PA (F z) es t)/\LsOk K T t sl
section
variable {T:PotK}{np:Bool}{ι:Type}{K:A8}{F:ι->Cx}{e:Expr}{es:List Expr}{st:Stmt}{s1:pSl}{sl:pSlN}{pos:Pos}
theorem PJ:QLs T K F [] HD:=⟨tNil,λz=>J6,λC G σ H env n R Q hK hT S hp k=>k _ _ _ _ _ _ hp S Ext.refl rfl⟩
theorem Gots.unguard:∀{ss:List Slot} {vs:List V},Gots (C.guard a us) G H σ env ss vs->Gots C G H σ env ss vs/\∀(ys:OK×List PV) w,(Slot.ow ys.1 ys.2,w)∈ss.zip vs->w≠.ref a
 |[],_,h=>⟨h,λ_ _ z=>by simp at z⟩
 | s :: ss, vs, h => by
  obtain⟨v,r,rfl,g,ne,h⟩:=h;obtain⟨h1,h2⟩:=Gots.unguard h
  have gy:Got C G H σ env s v:=by
   refine⟨?_,g.2⟩;cases s with
   |v x=>exact g.1
   | ow kk ys =>
    obtain⟨b,us,ev,g1,g2,g3,g4,r⟩:=g.1;exact⟨b,us,ev,g1,λz=>g2 (C2 _ z),g3,g4,r⟩
  refine⟨⟨v,r,rfl,gy,ne,h1⟩,λys w hw ew=>?_⟩;rw[l6] at hw;rcases C6.mp hw with e|hw
  ·cases e;obtain⟨b,us,ev,g1,g2,_⟩:=g.1;rw[ew] at ev;cases ev;exact g2 C3
  ·grind
theorem ES (h:QL T K F e s1)(hr:QLs T K F es sl)(n1:F5 e=true:=by rfl):QLs T K F (e::es) (BN s1 sl):=by
 obtain⟨t,a1,a2⟩:=h;obtain⟨u,b1,b2⟩:=hr;refine⟨U1 t u,λz=>E8 (a1 z) (b1 z) (D8 n1),λC G σ H env n R Q hK hT S hp k=>?_⟩;refine a2 C G σ H env n _ _ hK hT S hp (λx jc n1 v H1 q1 S1 r1 f1=>?_) λxs jc n1 a vs Hb q1 S1 f1 hn rs=>?_
 ·refine b2 C G σ H1 jc n1 _ _ hK hT S1 q1 λss jd n2 ws G2 H2 q2 S2 x2 g2=>?_;exact k _ _ _ _ _ _ q2 S2 ((Ext.fr f1).trans x2) ⟨v,ws,rfl,⟨⟨v,rfl,Rep.mono x2.keep x2.new x2.pot _ _ (hK▸r1)⟩,λ_ _ z=>nomatch z⟩,(λ_ _ z=>nomatch z),g2⟩
 ·have aM:=S1.fresh hn;have Hd:=S1.guard vs hn;have a0:a∉C.M0:=λz=>aM (S1.sup a z);have aH:=S1.old hn;have x1:Ext G H ⟨a::G.M,G.pots⟩ (upd Hb a (.lst vs)):=(Ext.fr f1).trans (CQ hn);have r1:Reps C.K ⟨a::G.M,G.pots⟩ (upd Hb a (.lst vs)) xs vs:=Reps.mono (G':=⟨a::G.M,G.pots⟩) (H':=upd Hb a (.lst vs)) (λb o _ e=>Same.lay1 hn b o e) (λc hc=>(C6.mp (show c∈a::G.M from hc)).elim (λz=>.inr (z▸hn)) .inl) (λ_ _ e=>e) _ _ (hK▸rs);refine b2 (C.guard a vs) ⟨a::G.M,G.pots⟩ σ (upd Hb a (.lst vs)) jc n1 _ _ hK hT Hd q1 λss jd n2 ws G2 H2 q2 S2 x2 g2=>?_;obtain⟨S3,e3,no⟩:=S2.unguard a0 S1.p0.1 aH;have aM2:a∈G2.M:=S2.sup a C3
  have ap2:a∉G2.pots:=λz=>by
   by_cases hz:a∈C.pots0
   ·exact a0 (S1.p0.1 a hz)
   ·exact S2.newp a z hz C3
  obtain⟨g3,g4⟩:=Gots.unguard g2;refine k _ _ _ _ _ _ q2 S3 (x1.trans x2) ⟨.ref a,ws,rfl,⟨⟨a,vs,rfl,aM2,a0,ap2,e3,Reps.mono x2.keep x2.new x2.pot _ _ r1⟩,λ_ _ _ e=>by cases e;exact no⟩,λxs' b ex ev ys w hw=>?_,g3⟩;cases ev;exact g4 ys w hw
theorem Gots.len:∀{ss:List Slot} {vs:List V},Gots C G H σ env ss vs->ss.length=vs.length
 |[],_,h=>by cases(show _=[] from h);rfl
 | s :: ss, vs, h => by
  obtain⟨v,r,rfl,g,ne,h⟩:=h;have:=Gots.len h;simp[this]
theorem Gots.set (hl:env.length=σ.length):∀{ss:List Slot} {vs:List V},Gots C G H σ env ss vs->(∀(xs:OK×List PV) a,s0=.ow xs.1 xs.2->v0=.ref a->∀(ys:OK×List PV) w,(Slot.ow ys.1 ys.2,w)∈ss.zip vs->w≠.ref a)->Gots C G H (σ.set i (some v0)) (env.set i (some s0)) ss vs
 |[],_,h,_=>h
 | s :: ss, vs, h, no => by
  obtain⟨v,r,rfl,g,ne,h⟩:=h;refine⟨v,r,rfl,⟨g.1,λxs a e1 e2 z=>?_⟩,ne,Gots.set hl h λxs a e1 e2 ys w hw=>no xs a e1 e2 ys w (by rw[l6];exact C2 _ hw)⟩;rcases CS hl z with z|⟨⟨zs,ez⟩,ev⟩
  ·exact g.2 xs a e1 e2 z
  ·exact no zs a ez ev xs v (by rw[l6,e1];exact C3) e2
theorem SR.setAll:∀(is:List Nat) (ss:List Slot) (vs:List V) {σ:St} {env:Env},SR C G σ H env n->Gots C G H σ env ss vs->SR C G (HE is vs σ) H (Pu.setAll is ss env) n
 |[],_,_,_,_,S,_=>S
 |i::is,[],vs,_,_,S,g=>by cases(show vs=[] from g);exact S
 | i :: is, s :: ss, vs, σ, env, S, g => by
  obtain⟨v,r,rfl,g1,ne,g2⟩:=g;exact SR.setAll is ss r (S.slot i g1.1 g1.2) (g2.set S.len ne)
theorem Gots.same (sm:Same H H'):∀{ss:List Slot} {vs:List V},Gots C G H σ env ss vs->Gots C G H' σ env ss vs
 |[],_,h=>h
 | s :: ss, vs, h => by
  obtain⟨v,r,rfl,g,ne,h⟩:=h;refine⟨v,r,rfl,⟨?_,g.2⟩,ne,h.same sm⟩;have r:=g.1;cases s with
  |v x=>obtain⟨v',e,r⟩:=r;exact⟨v',e,r.same sm⟩
  |ow kk xs=>obtain⟨b,us,e,h1,h2,h3,h4,r⟩:=r;exact⟨b,us,e,h1,h2,h3,sm _ _ h4,r.same sm⟩
def v4:List Nat->TGs
 |[]=>gNil
 |i::is=>o8 (M1 i) (v4 is)
theorem Kj:∀(is:List Nat) (vs:List V) {σ:St} {H:Hp} {Q:St->Hp->Prop},is.length=vs.length->Q (HE is vs σ) H->v4 is vs σ H Q
 |[],[],_,_,_,_,q=>⟨rfl,q⟩
 |i::is,v::vs,σ,H,Q,h,q=>⟨v,vs,rfl,Kj is vs (by grind) q⟩
theorem gw_tup (K:A8)(hc:X.calm=true)(h:PGs X es (v4 is))(hn:(K6 es X.env).length=m:=by rfl)(hst:(K6 es X.env).findIdx? (·.1)=none:=by rfl)(hK:X.K=K:=by rfl):GW X (.Tuple es k pos) (gTup K m (v4 is)):=⟨hK▸Ge hc h hn hst⟩
theorem ET (h1:GW X e (M1 i))(h2:PGs X es (v4 is))(hs:(K6 (e::es) X.env).map (·.2)=assign e X.env::(K6 es X.env).map (·.2):=by rfl):PGs X (e::es) (v4 (i::is)):=Eh h1.h h2 hs
theorem pgs_n:PGs X [] (v4 []):=Gc
def HF (is:List Nat)(sl:pSlN):pS:=λD env n=>sl env n λss jc n1=>ss.length=is.length/\D.nx (setAll is ss jc) n1
theorem PL (is:List Nat)(h:∀z te g,EW (F z) (.Tuple es k p) te->GW (F z) tg g->SW (F z) st (tAsg te g))(hg:∀z,GW (F z) tg (gTup K is.length (v4 is)))(h1:QLs T K F es sl)(hz:is.length<=100:=by decide):QS T np K F st (HF is sl):=by
 obtain⟨t,a1,a2⟩:=h1;refine⟨_,λz=>(h z _ _ ⟨Gp (a1 z)⟩ (hg z)).h,λC G σ H env n PD D hK hT hn S hp L=>?_⟩;refine a2 C G σ H env n _ _ hK hT S hp λss jd n2 vs G2 H2 q S2 x2 g=>?_;have lv:vs.length=is.length:=g.len.symm.trans q.1;refine⟨by rw[lv];exact N1 hz (by decide),λp hn'=>⟨p,vs,rfl,SqT.of E7,lv,Kj is vs lv.symm ?_⟩⟩;have sm:Same H2 (upd H2 p (.tup vs)):=Same.lay1 hn';exact L.nx _ _ _ _ _ q.2 (SR.setAll is ss vs (S2.same sm) (g.same sm)) (x2.trans (Ext.fr (Fr.of sm)))
end
end Pu
end
section
namespace L2
open PySem PySem.Spec PyProof.Rows
section
variable {prog:D1}{w:C8}{A:D5}{E:A1->A5->Prop}{s:A5}
theorem Kk {it t:A0}{items:Array A1}(hne:t≠it):∀(n i:Nat) (s:A5) (Q:List A1->A5->Prop),s.heap.IsListIter it t i->s.heap.IsList t items->i+n<=items.size->
   (∀h':B7,h'.IsListIter it t (i+n)->T7 it s.heap h'->Q ((items.toList.drop i).take n) { s with heap:=h' })->A6 (A9 prog w) A (draw (.ref it) n) Q E s
 | 0, i, s, Q, hit, _, _, hQ => by
  show A6 _ _ (pure []) Q E s;exact B0 (by simpa using hQ s.heap hit (Heap.SameBut.refl ..))
 | n + 1, i, s, Q, hit, ht, hle, hQ => by
  have hlt:i<items.size:=by omega
  show A6 _ _ (pyNext (.ref it)>>=_) Q E s;refine A3 (wpAny_pyNext_list_item hit ht (x:=items[i]) (by simp[hlt]) λh₁ hit₁ hs₁=>?_);refine A3 (J7 (Kk hne n (i+1) _ _ hit₁ (ht.extBut hs₁.extBut hne) (by omega) λh₂ hit₂ hs₂=>B0 ?_));have hd:items.toList.drop i=items[i]::items.toList.drop (i+1):=by simp[AO,hlt]
  have:=hQ h₂ (by rw[show i+(n+1)=i+1+n by omega];exact hit₂) (hs₁.trans hs₂);rw[hd,List.take_succ_cons] at this;exact this
theorem PM {env:Env}{elts:List Expr}{x1}{pos:Pos}{t:A0}{items:Array A1}{Q:Unit->A5->Prop}(hh:A.handled=none)(ht:s.heap.IsList t items)
   (hn:(K6 elts env).length=items.size) (hstar:(K6 elts env).findIdx? (·.1)=none)
   (h:∀h',Co s.heap.objs.size s.heap h'->A6 (A9 prog w) A (x4 ((K6 elts env).map (·.2)) items.toList) Q E { s with heap:=h' }) :
   A6 (A9 prog w) A (assign (.Tuple elts x1 pos) env (.ref t)) Q E s:=by
 rw[assign_Tuple];refine A3 (U7 ?_);have hlt:t≠s.heap.objs.size:=by obtain⟨o,ho,_⟩:=ht;exact D7 (C5 ho)
 unfold unpack;rw[hn,hstar];refine A3 (J7 ?_);unfold unpackItems;refine A3 ?_;unfold notIterableAtAll;refine A3 (AG ht.typeIs slot_list_iter.lookup ?_);refine B0 ?_;simp only[J3,if_false];refine A3 (J7 (Cc ht ?_));refine A3 (J7 (Kk hlt items.size 0 _ _ ⟨_,G4 _ rfl,rfl,rfl⟩ (ht.push _) (by omega) λh₁ hit₁ hs₁=>?_))
 have hall:List.take items.size (List.drop 0 items.toList)=items.toList:=by
  rw[Cn];exact AR (by simp)
 rw[hall];rw[jt (by simp)];have ht₁:h₁.IsList t items:=(ht.push _).extBut hs₁.extBut hlt;refine A3 (J7 (wpAny_pyNext_list_end hh hit₁ ht₁ (by simp) λh₂ he₂=>?_));simp only[Option.isSome_none,J3,if_false];exact B0 (h h₂ λb o hb e=>he₂ b o hb (hs₁.extBut b o hb (D0 _ e)))
end
section
variable {X:Cx}{pos:Pos}
def gLst (K:A8)(n:Nat)(t:TGs):TG:=λv σ H Q=>∃a xs,v=.ref a/\SqL K H a xs/\xs.length=n/\t xs σ H Q
theorem pg_lst (hc:X.calm=true)(h:PGs X es t)
   (hn:(K6 es X.env).length=n:=by rfl) (hst:(K6 es X.env).findIdx? (·.1)=none:=by rfl):PG X (.Tuple es k pos) (gLst X.K n t):=by
 intro jb s σ H v u Q I r hw;obtain⟨a,xs,e1,hq,hl,hw⟩:=hw;subst e1;cases r;obtain⟨jf,rv,ht⟩:=I.sqL hq;refine PM (I.ok.hd hc) ht (by simp[hn,<- hl,rv.length]) hst λh' hx=>?_;have I1:Inv X jb σ H { s with heap:=h' }:=I.kept (t':=s.toks) λb o e=>hx b o (D7 (C5 e)) e;exact h jb _ σ H xs _ Q I1 (by simpa using rv) hw
end
end L2
namespace Pu
open PySem PySem.Spec L2
section
variable {ι:Type}{K:A8}{F:ι->Cx}{es:List Expr}{pgs:pGs}{pos:Pos}
def gTl (m:Nat)(g:pGs):pG:=λx env R=>match x with|.lst xs=>xs.length=m/\g xs env R|_=>False
theorem qg_lst (hc:∀z,(F z).calm=true)(h:QGs K F es pgs)(hn:∀z,(K6 es (F z).env).length=m:=by intro _;rfl)(hst:∀z,(K6 es (F z).env).findIdx? (·.1)=none:=by intro _;rfl)(hK:∀z,(F z).K=K:=by intro _;rfl):QG K F (.Tuple es k pos) (gTl m pgs):=by
 obtain⟨g,a1,a2⟩:=h;refine⟨_,λz=>hK z▸pg_lst (hc z) (a1 z) (hn z) (hst z),λC G σ H env n x v R Q hK S r hp k=>?_⟩;cases x with
 | lst xs =>
  obtain⟨a,vs,rfl,t,rs⟩:=r;exact⟨a,vs,rfl,t.sq,by rw[<- rs.length];exact hp.1,a2 C G σ H env n xs vs _ _ hK S rs hp.2 k⟩
 |_=>exact hp.elim
end
end Pu
end
section
namespace L2
open PySem PySem.Spec PyProof.Rows
abbrev LC2 (ji t1 i1 t2 i2:Expr)(jj:List Expr)(scope:G5)(pos:Pos):Expr:=.ListComp ji [⟨t1,i1,[],0⟩,⟨t2,i2,jj,0⟩] scope pos
theorem PN (ji t1 i1 t2 i2:Expr)(jj:List Expr)(scope:G5)(pos:Pos)(it jk:A1)(env:Env) :
   compTurn (LC2 ji t1 i1 t2 i2 jj scope pos) 1 it jk env=(do
    Z1 i2.pos
    match ← pyNext it with
    |none=>pure (.done .next)
    | some v =>
     k5 t2 it v
     assign t2 env v
     let mut ok:=true
     for c in jj do
      if ok then ok ← isTrue c env (eval c env)
     if ok then
      (do let _ ← call (.builtin "list.append") [jk,<- eval ji env])
     again (.compLoop (LC2 ji t1 i1 t2 i2 jj scope pos) 1 it jk env)):=by rfl
section
variable {prog:D1}{w:C8}{A:D5}{R:Result->A5->Prop}{s:A5}{ji t1 i1 t2 i2:Expr}{jj:List Expr}{scope:G5}{pos:Pos}{it jk:A1}{env:Env}
theorem loop_i (I:Nat->A5->Prop)
   (turn:∀n s,I n s->A6 (A9 prog w) A (pyNext it) (fun r s₁=>match r with
    |none=>R (.ok .next) s₁
    |some v=>A6 (A9 prog w) A (k5 t2 it v) (λ_ s₁'=>A6 (A9 prog w) A (assign t2 env v) (λ_ s₂=>
        A6 (A9 prog w) A (forIn jj true fun c r=>if r=true then do let ok ← isTrue c env (eval c env);pure (o6 ok) else pure (o6 r)) (fun ok s₃=>
         if ok=true then A6 (A9 prog w) A (eval ji env) (λx s₄=>
          A6 (A9 prog w) A (call (.builtin "list.append") [jk,x]) (λ_ s₅=>∃m,m<n/\I m s₅) (λ_ _=>False) s₄) (λ_ _=>False) s₃
         else ∃m,m<n/\I m s₃) (λ_ _=>False) s₂) (λ_ _=>False) s₁') (λ_ _=>False) s₁) (λ_ _=>False) s)
   (n:Nat) (h:I n s):N0 (A9 prog w) A (.compLoop (LC2 ji t1 i1 t2 i2 jj scope pos) 1 it jk env) R s:=by
 refine codeAny_loop rfl I (λn s hI=>?_) n h;show A6 _ A ((compTurn (LC2 ji t1 i1 t2 i2 jj scope pos) 1 it jk env).onRaise (λx=>do noteFrame x env;theTreesLotGoes x)) _ _ s;refine wpAny_noted ?_;rw[PN];refine A3 (U7 (A3 (K3 (turn n s hI) (λr s₁ h₁=>?_) λ_ _ h'=>h'.elim)));cases r with
 |none=>exact B0 h₁
 | some v =>
  refine A3 (K3 h₁ (λ_ s₁' h₁'=>?_) λ_ _ h'=>h'.elim);refine A3 (K3 h₁' (λ_ s₂ h₂=>A3 (K3 h₂ (λok s₃ h₃=>?_) λ_ _ h'=>h'.elim)) λ_ _ h'=>h'.elim);cases ok with
  |false=>exact B0 ⟨rfl,h₃⟩
  | true =>
   exact A3 (A3 (K3 h₃ (λx s₄ h₄=>A3 (K3 h₄ (λ_ s₅ h₅=>B0 (B0 ⟨rfl,h₅⟩)) λ_ _ h'=>h'.elim)) λ_ _ h'=>h'.elim))
theorem PP (h0:N0 (A9 prog w) A (.compLoop (LC2 ji t1 i1 t2 i2 jj scope pos) 1 it jk env) R s)
   (h:A6 (A9 prog w) A (pyIter it) (λit' s'=>N0 (A9 prog w) A (.compLoop (LC2 ji t1 i1 t2 i2 jj scope pos) 1 it' jk env) R s') (λ_ _=>False) s) :
   N0 (A9 prog w) A (.compStart (LC2 ji t1 i1 t2 i2 jj scope pos) 1 it jk env) R s:=by
 refine codeAny_of_tree ?_;show A6 _ _ ((compStart (LC2 ji t1 i1 t2 i2 jj scope pos) 1 it jk env).onRaise (λx=>do noteFrame x env;Z1 theWindowsPlace)) _ _ s;refine wpAny_notedAt ?_;unfold compStart;show A6 _ _ (ask>>=_) _ _ s;refine A3 (DB (wpAny_ite ?_))
 split
 ·first
    |exact A3 (B0 (B0 (And.intro rfl h0)))
    |exact B0 (And.intro rfl h0)
 ·first
    |exact A3 (e7 (A3 (U7 (A3 (K3 h (λit' s' h'=>B0 (And.intro rfl h')) λ_ _ x=>x.elim)))))
    |(refine A3 (e7 ?_);show A6 _ _ (Z1 i2.pos>>=_) _ _ s;exact A3 (U7 (A3 (K3 h (λit' s' h'=>B0 (And.intro rfl h')) λ_ _ x=>x.elim))))
theorem loop_o (hs:∀x,R0 i2 env x=pure x)(I:Nat->A5->Prop)
   (turn:∀n s,I n s->A6 (A9 prog w) A (pyNext it) (fun r s₁=>match r with
    |none=>R (.ok .next) s₁
    |some v=>A6 (A9 prog w) A (k5 t1 it v) (λ_ s₁'=>A6 (A9 prog w) A (assign t1 env v) (λ_ s₂=>
        A6 (A9 prog w) A (eval i2 env) (λx s₃=>A6 (A9 prog w) A (pyIter x) (λit2 s₄=>
         N0 (A9 prog w) A (.compStart (LC2 ji t1 i1 t2 i2 jj scope pos) 1 it2 jk env) (λr s'=>r=.ok .next/\∃m,m<n/\I m s') s₄) (λ_ _=>False) s₃) (λ_ _=>False) s₂) (λ_ _=>False) s₁') (λ_ _=>False) s₁) (λ_ _=>False) s)
   (n:Nat) (h:I n s):N0 (A9 prog w) A (.compLoop (LC2 ji t1 i1 t2 i2 jj scope pos) 0 it jk env) R s:=by
 refine codeAny_loop rfl I (λn s hI=>?_) n h;show A6 _ A ((compTurn (LC2 ji t1 i1 t2 i2 jj scope pos) 0 it jk env).onRaise (λx=>do noteFrame x env;theTreesLotGoes x)) _ _ s;refine wpAny_noted ?_;unfold compTurn;show A6 _ _ (Z1 i1.pos>>=_) _ _ s;refine A3 (U7 ?_);refine A3 (K3 (turn n s hI) (λr s₁ h₁=>?_) λ_ _ h'=>h'.elim);cases r with
 |none=>exact B0 h₁
 | some v =>
  refine A3 (K3 h₁ (λ_ s₁' h₁'=>?_) λ_ _ h'=>h'.elim);refine A3 (K3 h₁' (λ_ s₂ h₂=>A3 (wpAny_tests_nil ?_)) λ_ _ h'=>h'.elim);refine A3 (K3 h₂ (λx s₃ h₃=>?_) λ_ _ h'=>h'.elim);refine A3 (U7 ?_);show A6 _ _ (R0 i2 env x>>=λx=>(R5 [x] (pyIter x)>>=λit2=>(runOwn (.compStart (LC2 ji t1 i1 t2 i2 jj scope pos) 1 it2 jk env) env>>=λ_=>again (.compLoop (LC2 ji t1 i1 t2 i2 jj scope pos) 0 it jk env)))) _ _ _;refine A3 (AL (hs x) (A3 (J7 (K3 h₃ (λit2 s₄ h₄=>?_) λ_ _ h'=>h'.elim))));refine A3 (wpAny_runOwn ?_);rw[Around.mark_none];refine x8 h₄ λr s' hr=>?_;obtain⟨rfl,hr⟩:=hr;exact B0 ⟨rfl,hr⟩
end
def Kl (J:It)(g:TG)(tt:TT)(te:TE)(D:A0)(N:St->Hp->Prop)(σ:St)(H:Hp):Prop:=∃W:Nat->Nat->St->Hp->Prop,(∃m,W 0 m σ H)/\
 ∀i m σ' H',W i m σ' H'->(J.stop i H'/\N σ' H')\/(J.go i H'/\∀x H2,J.yld i H' x H2->g x σ' H2 fun σ3 H3=>tt σ3 H3 fun b H4=>
    if b=true then te σ3 H4 λv H5=>∃ys,H5 D=some (.lst ys)/\ys.length<C4/\∃m',m'<m/\W (i+1) m' σ3 (upd H5 D (.lst (ys++[v])))
    else ∃m',m'<m/\W (i+1) m' σ3 H4)
def HG (J:It)(g1:TG)(wi2:TI)(g2:TG)(tt:TT)(te:TE)(Q:VK)(D:A0)(σc:St)(H1:Hp):Prop:=∃W:Nat->Nat->St->Hp->Prop,(∃m,W 0 m σc H1)/\
 ∀i m σ' H',W i m σ' H'->(J.stop i H'/\Q (.ref D) H')\/(J.go i H'/\∀x H2,J.yld i H' x H2->g1 x σ' H2 λσ3 H3=>wi2 σ3 H3 λJ2 H4=>Kl J2 g2 tt te D (λσ5 H5=>∃m',m'<m/\W (i+1) m' σ5 H5) σ3 H4)
def tComp2 (cs:List (Option Nat))(wi:TI)(g1:TG)(wi2:TI)(g2:TG)(tt:TT)(te:TE):TE:=λσ H Q=>wi σ H λJ H1=>∀D,H1 D=none->HG J g1 wi2 g2 tt te Q D (j4 cs σ) (upd H1 D (.lst []))
theorem loop2 {Y:Cx}{scope:G5}{ji t1 i1 t2 i2:Expr}{jj:List Expr}{pos:Pos}{wi2:TI}{g1 g2:TG}{tt:TT}{te:TE}{fp:List A0}{it D:A0}{tn:Nat->B7->Prop}{J:It}{s₃:A5}{H3:Hp}{σ3:St}{jb:List (A0×Obj)}{Q:VK}{R:Result->A5->Prop}(hx:Y.xe=λ_ _=>False)(hc:Y.calm=true)
   (hb:PG Y t1 g1/\PI Y t2 i2 wi2/\PG Y t2 g2/\PIf Y jj tt/\PE Y ji te) (hs2:∀x,R0 i2 Y.env x=pure x) (T:Turn Y.prog Y.w Y.K t1 J fp it tn) (stat:∀{H':Hp},(∀b∈fp,H' b=none)->∀b∈fp,FpOk Y jb H' b) (q:HG J g1 wi2 g2 tt te Q D σ3 H3)
   (fin:∀s4 σ4 H4,Inv Y jb σ4 H4 s4->Q (.ref D) H4->R (.ok .next) s4) (Ic:Inv Y jb σ3 H3 s₃) (st1:tn 0 s₃.heap) (fr1:∀b∈fp,H3 b=none) :
   N0 (A9 Y.prog Y.w) Y.A (.compLoop (LC2 ji t1 i1 t2 i2 jj scope pos) 0 (.ref it) (.ref D) Y.env) R s₃:=by
 obtain⟨W,⟨m0,w0⟩,turn⟩:=q;obtain⟨hg,hi2,hg2,hf,he⟩:=hb;refine loop_o hs2 (λn s'=>∃i σ' H',Inv Y jb σ' H' s'/\tn i s'.heap/\(∀b∈fp,H' b=none)/\W i n σ' H') ?_ m0 ⟨0,_,_,Ic,st1,fr1,w0⟩;rintro n s3 ⟨i,σ3,H3,I3,st3,fr3,w3⟩;rcases turn i n σ3 H3 w3 with⟨stop,qn⟩|⟨go,step⟩
 ·refine thn (T.done Y rfl rfl rfl hc i jb s3 σ3 H3 (λ_ _=>False) I3 (stat fr3) st3 stop) λr s4 ⟨hr,I4⟩=>?_;subst hr;exact fin s4 _ _ I4 qn
 ·refine thn (T.item Y rfl rfl rfl hc i jb s3 σ3 H3 (λ_ _=>False) I3 (stat fr3) st3 go) λr s4 ⟨u,hr,h4⟩=>?_;subst hr;refine thn h4 λ_ s5 ⟨x,H5,I5,r5,y5,st5,fr5⟩=>?_;refine thn (hx▸hg _ s5 σ3 H5 x u _ (I5.pinned (stat fr5) (T.obj _ _ st5)) r5 (step x H5 y5)) λ_ s6 ⟨σ6,H6,I6,q6⟩=>?_;refine thn (hx▸hi2 _ s6 σ6 H6 _ I6 q6) λv7 s7 h7=>thn h7 λitv s8 h8=>?_;obtain⟨it2,fp2,tn2,J2,H8,rfl,I8,T2,st8,f8,W2,⟨m2,w2⟩,turn2⟩:=h8
  have inner:N0 (A9 Y.prog Y.w) Y.A (.compLoop (LC2 ji t1 i1 t2 i2 jj scope pos) 1 (.ref it2) (.ref D) Y.env) (λr s'=>r=.ok .next/\∃m,m<n/\∃i σ' H',Inv Y jb σ' H' s'/\tn i s'.heap/\(∀b∈fp,H' b=none)/\W i m σ' H') s8:=
   loop_i (λn s'=>∃i σ' H',Inv Y (jb++Bu fp s5.heap) σ' H' s'/\tn2 i s'.heap/\(∀b∈fp2,H' b=none)/\W2 i n σ' H') (by rw[<- hx];exact Gz T2 hc (λhn b hb=>⟨hn b hb,(f8 b hb).2⟩) hg2 hf he (λs10 σ9 H9 I10 qn2=>⟨rfl,Gy T st5 I10 qn2⟩) turn2) m2 ⟨0,σ6,H8,I8,st8,λb hb=>(f8 b hb).1,w2⟩
  exact PP inner (T2.self _ 0 _ _ _ st8 inner)
theorem PQ {X:Cx}{scope:G5}{cl:List (Str×A0)}{N:List Str}{cs:List (Option Nat)}{ji t1 i1 t2 i2:Expr}{jj:List Expr}{pos:Pos}{wi1 wi2:TI}{g1 g2:TG}{tt:TT}{te:TE}(S:j3 X scope cl N cs)(hc:X.calm=true)(hi:PI X t1 i1 wi1)
   (hb:∀(fp:List A0) (C:A0) (s:A5) (H:Hp),PG (G9 X scope cl N fp C s H) t1 g1/\PI (G9 X scope cl N fp C s H) t2 i2 wi2/\PG (G9 X scope cl N fp C s H) t2 g2/\PIf (G9 X scope cl N fp C s H) jj tt/\PE (G9 X scope cl N fp C s H) ji te)
   (hs2:∀fp C s H x,R0 i2 (G9 X scope cl N fp C s H).env x=pure x)
   (hs:∀x,R0 i1 X.env x=pure x:=by intro _;rfl) :
   PE X (LC2 ji t1 i1 t2 i2 jj scope pos) (tComp2 cs wi1 g1 wi2 g2 tt te):=by
 intro jb s σ H Q I h;rw[eval_ListComp];exact GA S hc hi hs I h λfp it tn J s2 H2 s₃ T stat I2 f2 q Ic st1 fr1=>loop2 (Y:=G9 X scope cl N fp (s2.heap.objs.size+1) s2 H2) rfl hc (hb _ _ _ _) (hs2 _ _ _ _) T stat q (λs4 σ3 H3 I4 qn=>Jc I2 f2 I4 qn) Ic st1 fr1
end L2
end
section
namespace Pu
open PySem PySem.Spec L2
def Dc (g:pG)(tt:pT)(te:pE):List PV->Env->Nat->(List PV->Env->Nat->Prop)->Prop
 |[],env,n,R=>R [] env n
 |x::xs,env,n,R=>g x env λjc=>tt jc n λb jd n2=>if b=true then te jd n2 λy je n3=>Dc g tt te xs je n3 λys e m=>R (y::ys) e m else Dc g tt te xs jd n2 R
def Ax (g1:pG)(pi2:pA)(g2:pG)(tt:pT)(te:pE):List PV->Env->Nat->(List PV->Nat->Prop)->Prop
 |[],_,n,R=>R [] n
 |x::xs,env,n,R=>g1 x env λjc=>pi2 jc n λys jd n2=>ys.length<=1000/\Dc g2 tt te ys jd n2 λzs je n3=>Ax g1 pi2 g2 tt te xs je n3 λws n4=>R (zs++ws) n4
def HH (cs:List (Option Nat))(pi1:pA)(g1:pG)(pi2:pA)(g2:pG)(tt:pT)(te:pE):pA:=λenv n R=>pi1 env n λxs jc n1=>xs.length<=1000/\Ax g1 pi2 g2 tt te xs (capV cs jc) n1 λys n2=>R ys jc n2
theorem PR {K:A8}{T:PotK}{J:It}{g:TG}{tt:TT}{te:TE}{pg:pG}{ptt:pT}{pte:pE}(hg:GOk K g pg)(ht:TOk K T tt ptt)(he:EOk K T te pte){G:Gh}{H1 H4:Hp}{ys:List PV}{D:A0}(hJ:ItR K ⟨D::G.M,G.pots⟩ H4 J ys)(nD:D∉G.pots)(hD:H1 D=none){σ:St}{env:Env}{n:Nat}{jk:List PV}{us:List V}{P:List PV->Env->Nat->Prop}{N:St->Hp->Prop}(c:CI K T G H1 D σ H4 env n jk us)(hl:jk.length+ys.length<=1001000)(hc:Dc pg ptt pte ys env n P)
   (hN:∀zs env n us σ H,P zs env n->CI K T G H1 D σ H env n (jk++zs) us->zs.length<=ys.length->N σ H):Kl J g tt te D N σ H4:=by
 refine⟨λj m σ H'=>m=ys.length-j/\j<=ys.length/\∃env n zs us2,CI K T G H1 D σ H' env n (jk++zs) us2/\Fr ⟨D::G.M,G.pots⟩ H4 H'/\zs.length<=j/\Dc pg ptt pte (ys.drop j) env n λws e m=>P (zs++ws) e m,⟨ys.length,rfl,J9 _,env,n,[],us,by rw[W8];exact c,Fr.refl,B9 _,hc⟩,?_⟩;rintro j m σ5 H5 ⟨rfl,hj,env5,n5,zs,us5,c5,fr5,la5,hc5⟩;obtain⟨hgo5,hstop5⟩:=hJ _ H5 fr5 (λa ha=>.inl ha) (λ_ _ e=>e) λp hp=>c5.inn.sr.fresh hp
 by_cases hlt5:j<ys.length
 ·obtain⟨u1,u2⟩:=hgo5 j _ (D3 hlt5);refine .inr ⟨u1,λv6 H6 y6=>?_⟩;obtain⟨s6,rv6⟩:=u2 v6 H6 y6;rw[AO hlt5] at hc5;have np:∀b,b∉D::G.M->b∉G.pots:=λb hb z=>hb (c5.inn.pots b z).1;refine hg _ _ σ5 H6 env5 n5 ys[j] v6 _ _ rfl (c5.inn.sr.same s6) rv6 hc5 λenv7 σ7 hc7 S7=>?_;refine ht _ _ σ7 H6 env7 n5 _ _ rfl rfl S7 hc7 λb env8 n8 H8 hc8 S8 f8=>?_;cases b with
  |false=>exact⟨ys.length-(j+1),Cp _ _ hlt5,rfl,hlt5,env8,n8,zs,us5,c5.go nD S8,λb o hb e=>S8.frame b o (np b hb) (fr5 b o hb e),Nat.le_succ_of_le la5,hc8⟩
  | true =>
   refine he _ _ σ7 H8 env8 n8 _ _ rfl rfl S8 hc8 λy env9 n9 u H9 hc9 S9 r9 f9=>?_;have c9:=c5.go nD S9;have c10:=c9.add nD hD r9;rw[T6] at c10;refine⟨us5,c9.eD,by rw[<- c5.ra.length,E3];exact A_ (show _<=1001000 by omega) (by rw[K5];decide),ys.length-(j+1),Cp _ _ hlt5,rfl,hlt5,env9,n9,zs++[y],us5++[u],c10,Fr.trans (λb o hb e=>S9.frame b o (np b hb) (fr5 b o hb e)) (CI.fD _),by rw[E3];exact Nat.succ_le_succ la5,?_⟩;simp only[T6];exact hc9
 ·obtain rfl:j=ys.length:=Nat.le_antisymm hj (Ba hlt5);rw[Ck] at hc5;have h5:P (zs++[]) env5 n5:=hc5;rw[W8] at h5;exact .inl ⟨hstop5 _ (B9 _),hN zs env5 n5 us5 σ5 H5 h5 c5 la5⟩
theorem PU {K:A8}{T:PotK}{J:It}{g1 g2:TG}{wi2:TI}{tt:TT}{te:TE}{pg1 pg2:pG}{pi2:pA}{ptt:pT}{pte:pE}(hg1:GOk K g1 pg1)(hi2:IOk K T wi2 pi2)(hg2:GOk K g2 pg2)(ht:TOk K T tt ptt)(he:EOk K T te pte){G:Gh}{H1:Hp}{xs:List PV}(hJ:ItR K G H1 J xs)(hl:xs.length<=1000)
   {σc:St} {env:Env} {n:Nat} {R:List PV->Nat->Prop} {Q:VK} {D:A0} (hD:H1 D=none) (I0:Inn K T G σc H1 env n) (hp:Ax pg1 pi2 pg2 ptt pte xs env n R)
   (hQ:∀ys n' us H',R ys n'->(∀p∈G.pots,T.at_ (D::G.M) H' p n')->(∀b o,b∉G.pots->H1 b=some o->H' b=some o)->H' D=some (.lst us)->Reps K ⟨D::G.M,G.pots⟩ H' ys us->Q (.ref D) H') :
   HG J g1 wi2 g2 tt te Q D σc (upd H1 D (.lst [])):=by
 have nD:D∉G.pots:=λz=>I0.sr.fresh hD (I0.pots D z).1;refine⟨λi m σ H=>m=xs.length-i/\i<=xs.length/\∃env n jk us,CI K T G H1 D σ H env n jk us/\jk.length<=1000*i/\Ax pg1 pi2 pg2 ptt pte (xs.drop i) env n λys n'=>R (jk++ys) n',⟨xs.length,rfl,J9 _,env,n,[],[],.start hD I0,B9 _,hp⟩,?_⟩;rintro i m σ H ⟨rfl,hi,env,n,jk,us,c,la,hc⟩;obtain⟨hgo,hstop⟩:=c.it hD hJ
 by_cases hlt:i<xs.length
 ·obtain⟨gg1,gg2⟩:=hgo i _ (D3 hlt);refine .inr ⟨gg1,λv H2 y=>?_⟩;obtain⟨s2,rv⟩:=gg2 v H2 y;rw[AO hlt] at hc;refine hg1 _ _ σ H2 env n xs[i] v _ _ rfl (c.inn.sr.same s2) rv hc λjc σ1 hc1 S2=>?_;refine hi2 _ _ σ1 H2 jc n _ _ rfl rfl S2 hc1 λys jd n2 J2 H4 q4 S4 f4 hJ2=>?_;refine PR hg2 ht he hJ2 nD hD (c.go nD S4) (by have:=q4.1;omega) q4.2 λzs env5 n5 us5 σ5 H5 h5 c5 lz=>⟨xs.length-(i+1),Cp _ _ hlt,rfl,hlt,env5,n5,jk++zs,us5,c5,by rw[E3];have:=q4.1;omega,?_⟩;simp only[T6];exact h5
 ·obtain rfl:i=xs.length:=Nat.le_antisymm hi (Ba hlt);rw[Ck] at hc;have hc':R (jk++[]) n:=hc;rw[W8] at hc';exact .inl ⟨hstop _ (B9 _),hQ _ n us H hc' (λp hp=>(c.inn.pots p hp).2) c.kp c.eD c.ra⟩
section
variable {T:PotK}{ι:Type}{K:A8}{F:ι->Cx}{pg1 pg2:pG}{pos:Pos}
theorem PX {scope:G5}{cl:ι->List (Str×A0)}{N:List Str}{cs:List (Option Nat)}{ji t1 i1 t2 i2:Expr}{jj:List Expr}{pi1 pi2:pA}{ptt:pT}{pte:pE}(S:∀z,j3 (F z) scope (cl z) N cs)(hc:∀z,(F z).calm=true)(hi:QI T K F t1 i1 pi1)
   (hg:QG K (λy:ι×List A0×A0×A5×Hp=>G9 (F y.1) scope (cl y.1) N y.2.1 y.2.2.1 y.2.2.2.1 y.2.2.2.2) t1 pg1)
   (hi2:QI T K (λy:ι×List A0×A0×A5×Hp=>G9 (F y.1) scope (cl y.1) N y.2.1 y.2.2.1 y.2.2.2.1 y.2.2.2.2) t2 i2 pi2)
   (hg2:QG K (λy:ι×List A0×A0×A5×Hp=>G9 (F y.1) scope (cl y.1) N y.2.1 y.2.2.1 y.2.2.2.1 y.2.2.2.2) t2 pg2)
   (ht:QIf T K (λy:ι×List A0×A0×A5×Hp=>G9 (F y.1) scope (cl y.1) N y.2.1 y.2.2.1 y.2.2.2.1 y.2.2.2.2) jj ptt)
   (he:QE T K (λy:ι×List A0×A0×A5×Hp=>G9 (F y.1) scope (cl y.1) N y.2.1 y.2.2.1 y.2.2.2.1 y.2.2.2.2) ji pte)
   (hs:∀z x,R0 i1 (F z).env x=pure x:=by intro _ _;rfl) (hs2:∀z fp C s H x,R0 i2 (G9 (F z) scope (cl z) N fp C s H).env x=pure x:=by intro _ _ _ _ _ _;rfl):QN T K F (LC2 ji t1 i1 t2 i2 jj scope pos) (HH cs pi1 pg1 pi2 pg2 ptt pte):=by
 obtain⟨wi,i1',i2'⟩:=hi;obtain⟨g,hg0,hg⟩:=hg;obtain⟨wj,j1,j2⟩:=hi2;obtain⟨g2,hg20,hg2⟩:=hg2;obtain⟨tt,ht0,ht⟩:=ht;obtain⟨te,he0,he⟩:=he;refine⟨_,λz=>PQ (S z) (hc z) (i1' z) (λfp C s H=>⟨hg0 (z,fp,C,s,H),j1 (z,fp,C,s,H),hg20 (z,fp,C,s,H),ht0 (z,fp,C,s,H),he0 (z,fp,C,s,H)⟩) (hs2 z) (hs z),λC G σ H env n R Q hK hT S hp k=>?_⟩;refine i2' C G σ H env n _ _ hK hT S hp λxs jc n1 J H1 p1 S1 f1 hJ=>?_;intro D hD;have hDM:=S1.fresh hD;refine PU (G:=G) hg j2 hg2 ht he hJ p1.1 hD (hT▸hK▸GY S1 cs) p1.2 λys n2 us H' rr hpots hk eD ry=>?_;have nD:∀b o,H1 b=some o->b≠D:=λb o e z=>by rw[z,hD] at e;cases e
 have hk2:∀b o,b∉G.pots->H1 b=some o->cutH H' D b=some o:=λb o hb e=>by rw[U3 (nD b o e)];exact hk b o hb e
 have nc:∀b,b∉D::G.M->b≠D:=λb hb z=>hb (by rw[z];exact C3);have np:∀p∈G.pots,p≠D:=λp hp z=>hDM (z▸(S1.pots p hp).1)
 have Sb:SR C G σ (cutH H' D) jc n2:=S1.call hk2 λp hp=>by
  subst hT;have h2:=C.T.keep (hpots p hp) (H':=cutH H' D) (U3 (np p hp)) λb o hb e=>by rw[U3 (nc b hb)];exact e
  exact C.T.more h2 λa ha=>.inl (C2 _ ha)
 have:=k ys jc n2 D us (cutH H' D) rr Sb (f1.trans λb o hb e=>hk2 b o (λz=>hb (S1.pots b z).1) e) (by unfold cutH;rw[jr rfl]) ?_
 ·rw[GZ eD] at this;exact this
 ·exact Reps.mono (G:=⟨D::G.M,G.pots⟩) (λb o hb e=>by rw[U3 (nc b hb)];exact e) (λa ha=>.inl (C2 _ ha)) (λ_ _ e=>e) _ _ ry
end
end Pu
end
section
namespace L2
open PySem PySem.W PySem.Spec PyProof.Rows
def BO (X:Cx)(scope:G5)(N:List Str)(qual:Str)(f c':A0)(cl:List (Str×A0))(s:A5)(H:Hp):Cx where
 prog:=X.prog
 w:=X.w
 K:=X.K
 mg:=X.mg
 base:=X.base
 A:=X.A.in1.in1.deeper (envX qual scope s.heap.objs.size f (.ref c') cl)
 N:=N
 s₀:=s
 H₀:=H
 env:=envX qual scope s.heap.objs.size f (.ref c') cl
 outer:=X.stack
 stack:=envX qual scope s.heap.objs.size f (.ref c') cl::X.stack
 ex:=[]
 calm:=true
 fn:=λ_=>false
 pn:=[]
 xe:=λ_ _=>False
structure Dd (scope:G5)(x y:Str):Prop where
 kind:scope.kind=.function
 co:scope.isCoroutine=false
 gen:scope.isGenerator=false
 hx:scope.names.lookup x=some .local
 hy:scope.names.lookup y=some .free
 fr:∀z,scope.names.lookup z=some .free->z=y
 nc:∀z∈scope.names,z.2≠.cell
 ne:(y == x)=false
section
variable {X:Cx}{jb:List (A0×Obj)}{σ:St}{H:Hp}{s:A5}
theorem PY {scope:G5}{x y qual:Str}{f c' c:A0}{vx vy:V}{ux uy:A1}{h1:B7}{tk k:Nat}(I:Inv X jb σ H s)(hr:Room k X.A)(S:Dd scope x y)(hc:s.heap.IsCell c (some uy))(hH:H c=none)(ry:RelV vy uy)(rx:RelV vx ux)
   (hns:h1.Ns s.heap.objs.size (λz=>[(x,ux)].reverse.lookup z)) (hsb:T7 s.heap.objs.size (s.heap.push { cls:=.type "frame",data:=.dict #[] }) h1) :
   Inv (BO X scope [x,y] qual f c' [(y,c)] s H) [] [some vx,some vy] H { s with heap:=h1,toks:=tk }:=by
 have hk:∀b o,s.heap.get? b=some o->h1.get? b=some o:=λb o e=>hsb.extBut b o (D7 (C5 e)) (D0 _ e);have noA:∀b:A0,b∉(BO X scope [x,y] qual f c' [(y,c)] s H).ex:=λb z=>absurd (show b∈([]:List A0) from z) (by simp);have e0:=I.env0
 have cl1:∀z d,([(y,c)]:List (Str×A0)).lookup z=some d->z=y/\d=c:=λz d e=>by
  rw[List.lookup_cons] at e;cases q:z == y with
  |true=>rw[q] at e;cases e;exact⟨eq_of_beq q,rfl⟩
  |false=>rw[q] at e;cases e
 have cy:([(y,c)]:List (Str×A0)).lookup y=some c:=by rw[List.lookup_cons,beq_self_eq_true]
 refine⟨⟨e0.mod,S.kind,rfl,rfl,B9 _,λa b d h1 h2=>?_,λz hz=>?_,λz d h _=>absurd (show false=true from h) T9,λ_=>hr.hd,Around.frames_deeper (show X.A.in1.in1.frames=_ from e0.frames),.inr ⟨rfl,rfl⟩,λb z=>absurd z (noA b),e0.bs,e0.bsz,λb _ _=>noA b,λb z=>absurd z (noA b),e0.funs,e0.frf,e0.nos⟩,
  rfl,e0.bare,Un.kept hk,⟨_,hns,λi z v h1 h2 h3=>?_⟩,λz d h=>?_,e0.hok.fresh (B9 _),λz d h=>?_,λp hp=>absurd (show p∈([]:List (A0×Obj)) from hp) (by simp),e0.hok.kept hk,rfl⟩
 ·exact((cl1 _ _ h1).1).trans (cl1 _ _ h2).1.symm
 ·have hz:scope.names.lookup z=some .cell\/scope.names.lookup z=some .free:=hz;rcases hz with hz|hz
  ·exact absurd rfl (S.nc _ (d9 hz))
  ·exact⟨c,by rw[S.fr z hz];exact cy⟩
 ·match i,h1,h2 with
  | 0, h1, h2 =>
   cases h1;cases h2;refine⟨ux,rx,.inl ⟨S.hx,?_⟩⟩;show([(x,ux)]:List (Str×A1)).reverse.lookup x=some ux;rw[List.reverse_singleton,List.lookup_cons,beq_self_eq_true]
  | 1, h1, h2 =>
   cases h1;cases h2;obtain⟨o,ho,hd⟩:=hc;exact⟨uy,ry,.inr ⟨.inr S.hy,c,cy,o,hk _ _ ho,hd⟩⟩
  |i+2,h1,h2=>cases h2
 ·obtain⟨rfl,rfl⟩:=cl1 z d h;obtain⟨o,ho,hd⟩:=hc;exact⟨_,o,hk _ _ ho,hd⟩
 ·obtain⟨rfl,rfl⟩:=cl1 z d h;exact hH
theorem PZ {scope:G5}{x y qual:Str}{params:Arguments}{body:Expr}{f c' c:A0}{pm ctv:A1}{vx vy:V}{ux uy:A1}{k:Nat}{tb:TE}{Q:VK}{E:A1->A5->Prop}(I:Inv X jb σ H s)(hr:Room k X.A)(S:Dd scope x y)
   (hc:s.heap.IsCell c (some uy)) (hH:H c=none) (ry:RelV vy uy) (rx:RelV vx ux) (fo:s.heap.get? f=some (kla_obj "<lambda>" qual params body scope [(y,c)] pm c' ctv)) (hcd:s.heap.CodeRec (.ref c') qual)
   (bd:∀u,V9 (kla_fn "<lambda>" qual params body scope [(y,c)] pm (.ref c') ctv) ⟨[u],[]⟩=pure [(x,u)])
   (hb:PE (BO X scope [x,y] qual f c' [(y,c)] s H) body tb) (ht:tb [some vx,some vy] H Q) :
   A6 (A9 X.prog X.w) X.A.in1.in1 (call (.ref f) [ux]) (EP X jb σ Q) E s:=by
 refine wpAny_call ?_;refine kla_callFunE (fd:=kla_fn "<lambda>" qual params body scope [(y,c)] pm (.ref c') ctv) (show X.A.depth<recursionLimit from hr.depth) fo rfl S.co S.gen rfl hcd ?_;rw[bd];refine B0 (wpAny_newFunctionEnv S.nc (λz hz=>?_) (λh1 hns hsb=>⟨?_,?_⟩) S.kind)
 ·rw[E2.mp hz];exact S.hx
 ·refine I.nolimit.keeps λb o e=>?_;exact hsb.extBut b o (D7 (C5 e)) (D0 _ e)
 ·refine kla_codeExpr (K3 (hb [] _ [some vx,some vy] H Q (PY (tk:=s.toks+1) I hr S hc hH ry rx hns hsb) ht) (λv s' h=>?_) λ_ _ z=>z.elim);obtain⟨v',H',J,r,q⟩:=h;exact I.after ⟨v',H',J.os,J.bare,J.base,J.hok,r,q⟩
end
end L2
end
section
namespace L2
open PySem PySem.W PySem.Spec PyProof.Rows
def V7 (c':A0)(qual:Str):HO:=.ext λh=>h.CodeRec (.ref c') qual
def BP (tb:TE)(vy:V)(kS c':A0)(qual:Str):List V->List Int->Hp->(List Int->Hp->Prop)->Prop
 |[],ks,H,R=>R ks H
 |x::xs,ks,H,R=>H c'=some (V7 c' qual)/\tb [some x,some vy] H λy H1=>∃k,y=.int k/\H1 kS=some (.lst (ks.map V.int))/\BP tb vy kS c' qual xs (ks++[k]) (upd H1 kS (.lst ((ks++[k]).map V.int))) R
def KOut (ks:List Int)(xs ys:List V):Prop:=∃ps:List (Int×V),ps.Perm (ks.zip xs)/\ys=ps.map Prod.snd/\ps.Pairwise λp q=>p.1<=q.1
section
variable {prog:D1}{w:C8}{A:D5}{E:A1->A5->Prop}{s:A5}{a kS:A0}{vs:List A1}{kz:List Int}{keys:Array A1}{e e1:Nat}{P:PySem.Fin->A5->Prop}
theorem kTail {st:SortSt}(nk:s.heap.get? kS=some (seqObj "list" keys e))(na:s.heap.get? a=some (seqObj "list" #[] e1))(hka:kS≠a)
   (hk:IntsAre keys.toList kz) (hlen:kz.length=vs.length) (h64:vs.length<64) (hp:(arrOf st).Perm (keys.zip vs.toArray)) (hs:SortedTo (arrOf st) (arrOf st).size) (hfl:failedOf st=none)
   (h:∀h' out c c2,(∀b o,b≠a->b≠kS->s.heap.get? b=some o->h'.get? b=some o)->h'.get? a=some (seqObj "list" out c)->h'.get? kS=some (seqObj "list" #[] c2)->KskOut false kz vs out.toList->P (.done (.ret .none)) { s with heap:=h' }) :
   A6 (A9 prog w) A (ksk_tail a false e1 (.ref kS) st) P E s:=by
 have hsz:keys.size=vs.length:=by
  have h1:=hk.length;rw[M6] at h1;omega
 have hsz2:(arrOf st).size=vs.length:=by rw[hp.size_eq,Array.size_zip,hsz,F4,Bc]
 have s1:=Q2 s.heap kS (F8 λ_=>(#[]:Array A1));have na1:(s.heap.update kS (F8 λ_=>(#[]:Array A1))).get? a=some (seqObj "list" #[] e1):=(s1.2 a hka.symm).trans na;obtain⟨ck,hck⟩:∃c,(s.heap.update kS (F8 λ_=>(#[]:Array A1))).get? kS=some (seqObj "list" #[] c):=⟨_,Bi nk λ_=>#[]⟩;have s2:=Q2 (s.heap.update kS (F8 λ_=>(#[]:Array A1))) a (F8 λ_=>(arrOf st).map (·.2))
 obtain⟨c2,hc2⟩:∃c2,((s.heap.update kS (F8 λ_=>(#[]:Array A1))).update a (F8 λ_=>(arrOf st).map (·.2))).get? a=some (seqObj "list" ((arrOf st).map (·.2)) c2):=
  ⟨_,Bi na1 λ_=>(arrOf st).map (·.2)⟩
 unfold ksk_tail
 try dsimp only
 refine A3 (Ad nk rfl ?_ (by rw[hsz,K5];omega) (J9 _));refine A3 (wpAny_letGo ?_);refine A3 (seqEpoch_at na1 rfl ?_);simp only[J3,if_false];refine A3 (Ad na1 rfl ?_ (J9 _) (N1 (Cr ((Array.size_map ..).trans hsz2)) (by rw[K5];omega)));rw[hfl];simp only[bne_self_eq_false,J3,if_false];exact B0 (h _ _ c2 ck (λb o h1 h2 e=>(s2.2 b h1).trans ((s1.2 b h2).trans e)) hc2 ((s2.2 kS hka).trans hck) (ksk_out (b:=false) hk hp hs))
theorem kEnd (nk:s.heap.get? kS=some (seqObj "list" keys e))(na:s.heap.get? a=some (seqObj "list" #[] e1))(hka:kS≠a)
   (hk:IntsAre keys.toList kz) (hlen:kz.length=vs.length) (h64:vs.length<64)
   (h:∀h' out c c2,(∀b o,b≠a->b≠kS->s.heap.get? b=some o->h'.get? b=some o)->h'.get? a=some (seqObj "list" out c)->h'.get? kS=some (seqObj "list" #[] c2)->KskOut false kz vs out.toList->P (.done (.ret .none)) { s with heap:=h' }) :
   A6 (A9 prog w) A (ksk_end a false vs.toArray e1 (.ref kS) keys) P E s:=by
 have hsz:keys.size=vs.length:=by
  have h1:=hk.length;rw[M6] at h1;omega
 have hzs:(keys.zip vs.toArray).size=vs.length:=by rw[Array.size_zip,hsz,F4,Bc]
 unfold ksk_end;simp only[J3,if_false]
 by_cases h2:vs.toArray.size<2
 ·rw[jr h2,jr h2];refine A3 (B0 ?_);rw[StateT.run_pure];refine A3 (B0 ?_)
  try dsimp only
  refine kTail (st:=SortSt.mk' general' (keys.zip vs.toArray) #[] 7 none) nk na hka hk hlen h64 (o7 _) ?_ rfl h;intro i j hij hj;have hj2:j<(keys.zip vs.toArray).size:=hj;rw[hzs] at hj2;rw[F4] at h2;have:i=j:=by omega
  subst this;exact Int.le_refl _
 ·rw[jt h2,jt h2];rw[F4] at h2;rw[ksk_kind hk (by rw[hsz];omega)];refine A3 (B0 ?_)
  refine A3 (K3 (wpS_sortRuns (a₀:=keys.zip vs.toArray) (st:=SortSt.mk' oneType' (keys.zip vs.toArray) #[] 7 none)
    (Q:=λ_ st'=>(arrOf st').Perm (keys.zip vs.toArray)/\failedOf st'=none/\SortedTo (arrOf st') (keys.zip vs.toArray).size)
    (ksk_intKeys hk) ⟨o7 _,rfl,rfl,rfl⟩ (by rw[hzs];omega) (by rw[hzs];exact h64) λst' a1 a2 a3=>⟨a1,a2,a3⟩) ?_ λ_ _ e=>e)
  rintro⟨⟨⟩,st'⟩ s' ⟨rfl,hp,hf,hs⟩
  try dsimp only
  exact kTail nk na hka hk hlen h64 hp (by rw[hp.size_eq];exact hs) hf h
end
theorem Km:∀{ks:List Int} {us:List A1},Vals (ks.map V.int) us->IntsAre us ks
 |[],_,h=>by cases h;exact .nil
 | k :: ks, _, h => by
  cases h with
  | cons h1 h2 =>
   obtain⟨t,rfl⟩:=h1;exact .cons k t (Km h2)
theorem P_ {ks:List Int}{xs:List V}{vs:List A1}{out:List A1}(r:Vals xs vs)(h:KskOut false ks vs out):∃ys,KOut ks xs ys/\Vals ys out:=by
 obtain⟨ps,hp,rfl,ho⟩:=h
 replace ho:ps.Pairwise λp q=>p.1<=q.1:=by simpa using ho
 have ab:∀(ks:List Int) {xs:List V} {vs:List A1},Vals xs vs->(ks.zip vs).map (λp=>(p.1,(absV p.2).getD .non))=ks.zip xs:=by
  intro ks
  induction ks with
  |nil=>intro xs vs _;rfl
  | cons k ks ih =>
   intro xs vs r;cases r with
   |nil=>rfl
   | cons h1 h2 =>
    rw[l6,l6,F2,ih h2];show(k,(absV _).getD _)::_=_;rw[h1.abs];rfl
 have rl:∀(ks:List Int) {xs:List V} {vs:List A1},Vals xs vs->∀p∈ks.zip vs,RelV ((absV p.2).getD .non) p.2:=by
  intro ks
  induction ks with
  |nil=>intro xs vs _ p hp;cases hp
  | cons k ks ih =>
   intro xs vs r p hp;cases r with
   |nil=>cases hp
   | cons h1 h2 =>
    rcases C6.mp hp with rfl|hp
    ·show RelV ((absV _).getD _) _;rw[h1.abs];exact h1
    ·exact ih h2 p hp
 refine⟨ps.map λp=>(absV p.2).getD .non,⟨ps.map λp=>(p.1,(absV p.2).getD .non),?_,by rw[V1];rfl,?_⟩,?_⟩
 ·rw[<- ab ks r];exact hp.map _
 ·rw[e9];exact ho
 ·have rl2:∀p∈ps,RelV ((absV p.2).getD .non) p.2:=λp h=>rl ks r p (hp.mem_iff.mp h);clear hp ho
  induction ps with
  |nil=>exact .nil
  |cons p ps ih=>exact .cons (rl2 p C3) (ih λq hq=>rl2 q (C2 _ hq))
section
variable {X:Cx}{jb:List (A0×Obj)}{σ:St}{H:Hp}{s:A5}
theorem Inv.retrack {a kS:A0}{ob:Obj}{ks ys:List V}{out:List A1}{c c2:Nat}{h':B7}(I:Inv X ((a,ob)::jb) σ H s)(hk:H kS=some (.lst ks))(ha0:X.s₀.heap.objs.size<=a)(hp0:∀p∈X.pn++jb,p.1≠a)(hsa:N6<a)(hsk:N6<kS)
   (keep:∀b o,b≠a->b≠kS->s.heap.get? b=some o->h'.get? b=some o) (ea:h'.get? a=some (seqObj "list" out.toArray c)) (ek:h'.get? kS=some (seqObj "list" #[] c2)) (r:Vals ys out) (hl:ys.length<=C4) :
   Inv X jb σ (upd (upd H kS (.lst [])) a (.lst ys)) { s with heap:=h' }:=by
 obtain⟨ea0,na,neL,nf,nc⟩:=I.pin (a,ob) (O6 _ C3);have nka:kS≠a:=λz=>by rw[z,na] at hk;cases hk
 have I0:Inv X jb σ H s:=I.pins_of λp hp=>by
  obtain⟨z1,z2,z3,z4,z5⟩:=I.pin p (O6 _ (C2 _ hp));exact⟨z1,z2,z3,z4,z5⟩
 have oth:∀b,b≠a->b≠kS->upd (upd H kS (.lst [])) a (.lst ys) b=H b:=λb h1 h2=>by rw[C0 h1,C0 h2]
 have ne1:∀b u,H b=some u->(∀z,u≠.lst z)->b≠a/\b≠kS:=λb u e hu=>⟨(λz=>by rw[z,na] at e;cases e),(λz=>by rw[z,hk] at e;cases e;exact hu _ rfl)⟩;refine I0.step (g':=s.gens) (d':=s.drawn) (t':=s.toks) (ch:=[a]) (λb hb=>?_) (λb o _ _ hc e n=>?_) (λb o _ _ hc e n=>⟨o.slots,?_⟩) (λb o hc e n=>?_) (λb o hc e=>?_) (λb xs e=>?_) (λb o u e=>?_) (λb ps e=>⟨#[],?_⟩) (λz=>?_) (λm hm=>?_) (λb u e=>?_) I.bare
 ·have e:b=a:=by simpa using hb
  subst e;refine⟨.inr ha0,neL,λx d e z=>?_,hp0⟩;subst z;obtain⟨v,o,ho,hd⟩:=I.cell x _ e;rw[ea0] at ho;cases ho;exact nc _ hd
 ·exact keep b o (λz=>hc (by simp[z])) (λz=>by rw[z,hk] at n;cases n) e
 ·exact keep b o (λz=>hc (by simp[z])) (λz=>by rw[z,hk] at n;cases n) e
 ·rw[oth b (λz=>hc (by simp[z])) (λz=>by rw[z,hk] at n;cases n)];exact n
 ·by_cases h2:b=kS
  ·exact⟨_,h2▸ek⟩
  ·exact⟨o,keep b o (λz=>hc (by simp[z])) h2 e⟩
 ·obtain⟨h1,h2⟩:=ne1 b _ e (λz q=>by cases q);rw[oth b h1 h2];exact e
 ·obtain⟨h1,h2⟩:=ne1 b _ e (λz q=>by cases q);rw[oth b h1 h2];exact e
 ·obtain⟨h1,h2⟩:=ne1 b _ e (λz q=>by cases q);rw[oth b h1 h2,e];simp
 ·unfold NS at z ⊢;rw[oth N6 (D7 hsa) (D7 hsk)];exact z
 ·obtain⟨o,es,ep,ho,r'⟩:=hm;exact⟨o,es,ep,keep _ o (Ne.symm neL) (λz=>by have:=I.free;rw[z,hk] at this;cases this) ho,r'⟩
 ·by_cases h1:b=a
  ·subst h1;rw[E7] at e;cases e;exact⟨hl,out,c,r,ea⟩
  ·rw[C0 h1] at e
   by_cases h2:b=kS
   ·subst h2;rw[E7] at e;cases e;exact⟨J9 _,[],c2,.nil,ek⟩
   ·rw[C0 h2] at e;refine(I0.hok b u e).stay (λd v hc q=>keep d v ?_ ?_ q) (λd q=>?_) λd xs q=>?_
    ·rcases hc with z|z
     ·rw[z];exact h1
     ·exact(ne1 d _ z (λz q=>by cases q)).1
    ·rcases hc with z|z
     ·rw[z];exact h2
     ·exact(ne1 d _ z (λz q=>by cases q)).2
    ·obtain⟨z1,z2⟩:=ne1 d _ q (λz q=>by cases q);rw[oth d z1 z2];exact q
    ·obtain⟨z1,z2⟩:=ne1 d _ q (λz q=>by cases q);rw[oth d z1 z2];exact q
end
end L2
end
section
namespace L2
open PySem PySem.W PySem.Spec PyProof.Rows
structure Ay (X:Cx)(scope:G5)(params:Arguments)(body:Expr)(qual x y:Str)(c:A0)(iy:Nat)(k:Nat)(tb:TE):Prop where
 sc:Dd scope x y
 room:Room k X.A
 cell:X.env.cells.lookup y=some c
 isc:X.env.scope.names.lookup y=some .cell
 nm:X.N[iy]?=some y
 bd:∀(pm ct cd u:A1),V9 (kla_fn "<lambda>" qual params body scope [(y,c)] pm cd ct) ⟨[u],[]⟩=pure [(x,u)]
 pe:∀(f c':A0) (s:A5) (H:Hp),PE (BO X scope [x,y] qual f c' [(y,c)] s H) body tb
section
variable {X:Cx}{jb:List (A0×Obj)}{σ:St}{H:Hp}{s:A5}{scope:G5}{params:Arguments}{body:Expr}{qual x y:Str}{c:A0}{iy k:Nat}{tb:TE}
theorem Ay.val (L:Ay X scope params body qual x y c iy k tb)(I:Inv X jb σ H s){vy:V}(hv:σ[iy]?=some (some vy)):∃uy,RelV vy uy/\s.heap.IsCell c (some uy):=by
 obtain⟨m,hn,hl⟩:=I.loc;obtain⟨u,r,l⟩:=hl iy y vy L.nm hv (.inr (.inl L.isc));refine⟨u,r,?_⟩;rcases l with⟨z,_⟩|⟨_,d,e,q⟩
 ·have z':X.env.scope.names.lookup y=some .local:=z;rw[L.isc] at z';cases z'
 ·rw[L.cell] at e;cases e;exact q
theorem Ay.run (L:Ay X scope params body qual x y c iy k tb)(I:Inv X jb σ H s){vy vx:V}{ux:A1}{f c':A0}{pm ctv:A1}{Q:VK}{E:A1->A5->Prop}(hv:σ[iy]?=some (some vy))(rx:RelV vx ux)
   (fo:(f,kla_obj "<lambda>" qual params body scope [(y,c)] pm c' ctv)∈jb) (hcd:H c'=some (V7 c' qual)) (ht:tb [some vx,some vy] H Q) :
   A6 (A9 X.prog X.w) X.A.in1.in1 (call (.ref f) [ux]) (EP X jb σ Q) E s:=by
 obtain⟨uy,ry,hc⟩:=L.val I hv;obtain⟨e1,_⟩:=I.pin _ (O6 _ fo);obtain⟨e2,_⟩:=(show G7 X.prog X.w H s.heap c' (V7 c' qual) from I.hok c' _ hcd);exact PZ I L.room L.sc hc (I.freeC _ _ L.cell) ry rx e1 e2 (λu=>L.bd pm ctv (.ref c') u) (L.pe f c' s H) ht
theorem kRest (L:Ay X scope params body qual x y c iy k tb){f c' a kS:A0}{pm ctv:A1}{vy:V}{xs:List V}{vs:List A1}{e1:Nat}{R:List Int->Hp->Prop}{P:PySem.Fin->A5->Prop}{E:A1->A5->Prop}(I:Inv X ((a,seqObj "list" #[] e1)::jb) σ H s)(hv:σ[iy]?=some (some vy))
   (fo:(f,kla_obj "<lambda>" qual params body scope [(y,c)] pm c' ctv)∈jb) (hk:H kS=some (.lst [])) (rv:Vals xs vs) (h64:xs.length<64) (hka:kS≠a) (ht:BP tb vy kS c' qual xs [] H R)
   (h:∀s' H3 ks h' out c1 c2,Inv X ((a,seqObj "list" #[] e1)::jb) σ H3 s'->H3 kS=some (.lst (ks.map V.int))->R ks H3->(∀b o,b≠a->b≠kS->s'.heap.get? b=some o->h'.get? b=some o)->h'.get? a=some (seqObj "list" out c1)->
     h'.get? kS=some (seqObj "list" #[] c2)->KskOut false ks vs out.toList->P (.done (.ret .none)) { s' with heap:=h' }) :
   A6 (A9 X.prog X.w) X.A.in1.in1 (ksk_rest a (.ref f) false vs.toArray e1 (.ref kS)) P E s:=by
 have lv:xs.length=vs.length:=rv.length;unfold ksk_rest;refine A3 (e7 ?_)
 first
   |rw[List.forIn_toArray]
   |(rw[<- DR];simp only[DK])
   |rw[<- DR]
 refine A3 (ksk_fold (λi s'=>∃H' ks,Inv X ((a,seqObj "list" #[] e1)::jb) σ H' s'/\H' kS=some (.lst (ks.map V.int))/\ks.length=i/\BP tb vy kS c' qual (xs.drop i) ks H' R) vs 0 s
   ⟨H,[],I,hk,rfl,by simpa using ht⟩ ?step ?done)
 case step=>
  rintro j u s' hx ⟨H',ks,I',hk',hl,hc⟩;simp only[T8] at hl hc ⊢;have hj:j<vs.length:=(F7.mp hx).1;have hjx:j<xs.length:=by omega
  obtain⟨u2,hu2,ru⟩:=rv.get (D3 hjx);rw[hx] at hu2;cases hu2;rw[AO hjx] at hc;obtain⟨hcd,hc⟩:=hc;refine A3 (AK (K3 (L.run I' hv ru (C2 _ fo) hcd hc (E:=λ_ _=>False)) (λv s'' he=>?_) λ_ _ hF=>hF.elim));obtain⟨w,H1,I1,rw1,kk,rfl,hk1,hc1⟩:=he;obtain⟨t2,rfl⟩:=rw1
  try dsimp only
  obtain⟨zl,jf,n,ri,oi⟩:=(show G7 X.prog X.w H1 s''.heap kS (.lst (ks.map V.int)) from I1.hok kS _ hk1);have li:jf.length=ks.length:=by rw[<- ri.length,B8]
  have s1:=Q2 s''.heap kS (F8 (·.push (.int kk t2)));obtain⟨c2,hc2⟩:∃c2,(s''.heap.update kS (F8 (·.push (.int kk t2)))).get? kS=some (seqObj "list" (jf.toArray.push (.int kk t2)) c2):=⟨_,Bi oi (·.push (.int kk t2))⟩;refine A3 (Ad oi rfl ?_ (by rw[F4,li,K5];omega) (N1 (Cr (Array.size_push ..)) (by rw[F4,li,K5];omega)));refine B0 ⟨rfl,upd H1 kS (.lst ((ks++[kk]).map V.int)),ks++[kk],?_,E7,by rw[E3,hl];rfl,hc1⟩;refine I1.write (t':=s''.toks) (by rw[hk1];trivial) (.inl rfl) (λb o hb e=>(s1.2 b hb).trans e) ⟨_,hc2⟩ ⟨?_,jf++[.int kk t2],c2,?_,?_⟩
  ·rw[B8,E3,K5];simp;omega
  ·rw[Q5];exact ri.append (.cons ⟨t2,rfl⟩ .nil)
  ·rw[hc2];simp
 case done=>
  rintro s' ⟨H3,ks,I3,hk3,hl,hc⟩;simp only[T8] at hl hc;rw[Ci (by omega)] at hc;obtain⟨zl,jf,n,ri,oi⟩:=(show G7 X.prog X.w H3 s'.heap kS (.lst (ks.map V.int)) from I3.hok kS _ hk3);obtain⟨ea,_⟩:=I3.pin (a,seqObj "list" #[] e1) (O6 _ C3)
  try dsimp only
  refine A3 (listItems_at oi rfl ?_);exact kEnd oi ea hka (by simpa using Km ri) (by omega) (by omega) λh' out c1 c2 z1 z2 z3 z4=>h s' H3 ks h' out c1 c2 I3 hk3 hc z1 z2 z3 z4
theorem Qa (L:Ay X scope params body qual x y c iy k tb){f c' l:A0}{pm ctv:A1}{vy:V}{xs:List V}{vs:List A1}{Q:VK}{E:A1->A5->Prop}(I:Inv X jb σ H s)(hv:σ[iy]?=some (some vy))
   (fo:(f,kla_obj "<lambda>" qual params body scope [(y,c)] pm c' ctv)∈jb) (hl:s.heap.IsList l vs.toArray) (rv:Vals xs vs) (h64:xs.length<64)
   (h:∀kS a,H kS=none->H a=none->kS≠a->BP tb vy kS c' qual xs [] (upd H kS (.lst [])) λks H3=>H3 a=none->∀ys,KOut ks xs ys->Q (.ref a) (upd (upd H3 kS (.lst [])) a (.lst ys))) :
   A6 (A9 X.prog X.w) X.A (call (.builtin "sorted") [.ref l] [(A7 "key",.ref f)]) (EP X jb σ Q) E s:=by
 have lv:xs.length=vs.length:=rv.length;refine call_function_entry_kw kind_sorted plain_sorted entry_sorted (ksk_s1 _ _) ?_;unfold O4.«sorted»;refine A3 (m:=checkCount "sorted" 1 1 _) (B0 ?_);refine A3 (collect_list hl ?_ (by rw[K5];omega));refine A3 (Cf ?_ (by rw[K5];omega))
 have hsz:((s.heap.push (seqObj "list" #[] 0)).update s.heap.objs.size (F8 (·++vs.toArray))).objs.size=s.heap.objs.size+1:=by
  rw[Heap.size_update,size_push']
 have hoL:(((s.heap.push (seqObj "list" #[] 0)).update s.heap.objs.size (F8 (·++vs.toArray))).push (seqObj "list" vs.toArray 0)).get? (s.heap.objs.size+1)=some (seqObj "list" vs.toArray 0):=by
  rw[<- hsz];exact G4 _ rfl
 have keep:∀b o,s.heap.get? b=some o->(((s.heap.push (seqObj "list" #[] 0)).update s.heap.objs.size (F8 (·++vs.toArray))).push (seqObj "list" vs.toArray 0)).get? b=some o:=λb o q=>by
  have hlt:b<s.heap.objs.size:=C5 q;rw[Heap.get?_push_ne _ _ _ (by rw[hsz];exact D7 (i3 hlt)),Heap.get?_update_ne _ _ _ _ (D7 hlt),Heap.get?_push_ne _ _ _ (D7 hlt)];exact q
 show A6 _ _ _ _ _ { s with heap:=((s.heap.push (seqObj "list" #[] 0)).update s.heap.objs.size (F8 (·++vs.toArray))).push (seqObj "list" vs.toArray 0) };rw[hsz];generalize ((s.heap.push (seqObj "list" #[] 0)).update s.heap.objs.size (F8 (·++vs.toArray))).push (seqObj "list" vs.toArray 0)=g1 at hoL keep ⊢;have haS:s.heap.objs.size<=s.heap.objs.size+1:=z9 _;generalize s.heap.objs.size+1=a at hoL haS ⊢;refine A3 (J7 (wpAny_call_entry_kw slot_list_sort ⟨_,hoL,rfl⟩ entry_list_sort ?body (ksk_l1 _ _)))
 case body=>
  show A6 (A9 X.prog X.w) X.A.in1.in1 (O4.«list.sort» ⟨[.ref a],[(A7 "key",.ref f)]⟩) _ _ _;rw[ksk_t1 f a];have ha:a<g1.objs.size:=C5 hoL;have s1:=Q2 g1 a (F8 λ_=>(#[]:Array A1));obtain⟨e1,ho1⟩:∃e1,(g1.update a (F8 λ_=>(#[]:Array A1))).get? a=some (seqObj "list" #[] e1):=⟨_,Bi hoL λ_=>#[]⟩;have hkS:((g1.update a (F8 λ_=>(#[]:Array A1))).push (seqObj "tuple" vs.toArray 0)).objs.size=g1.objs.size+1:=by rw[size_push',Heap.size_update]
  unfold ksk_tree;refine A3 (listItems_at hoL rfl ?_);refine A3 (Ad hoL rfl ?_ (by rw[F4,K5];omega) (J9 _));refine A3 (seqEpoch_at ho1 rfl ?_);refine A3 (wpAny_newTuple ?_ (by show vs.length<=_;rw[K5];omega));refine A3 (Cf ?_ (J9 _));refine J7 ?_;show A6 (A9 X.prog X.w) X.A.in1.in1 _ _ _ { s with heap:=((g1.update a (F8 λ_=>(#[]:Array A1))).push (seqObj "tuple" vs.toArray 0)).push (seqObj "list" #[] 0) };rw[hkS];have oK:(((g1.update a (F8 λ_=>(#[]:Array A1))).push (seqObj "tuple" vs.toArray 0)).push (seqObj "list" #[] 0)).get? (g1.objs.size+1)=some (seqObj "list" #[] 0):=by rw[<- hkS];exact G4 _ rfl
  have oA:(((g1.update a (F8 λ_=>(#[]:Array A1))).push (seqObj "tuple" vs.toArray 0)).push (seqObj "list" #[] 0)).get? a=some (seqObj "list" #[] e1):=D0 _ (D0 _ ho1)
  have kp:∀b o,s.heap.get? b=some o->(((g1.update a (F8 λ_=>(#[]:Array A1))).push (seqObj "tuple" vs.toArray 0)).push (seqObj "list" #[] 0)).get? b=some o:=λb o q=>
   D0 _ (D0 _ ((s1.2 b (D7 (K7 (C5 q) haS))).trans (keep b o q)))
  generalize ((g1.update a (F8 λ_=>(#[]:Array A1))).push (seqObj "tuple" vs.toArray 0)).push (seqObj "list" #[] 0)=g3 at oK oA kp ⊢;have hkS2:s.heap.objs.size<=g1.objs.size+1:=N1 haS (W9 (i3 ha));have hka:g1.objs.size+1≠a:=y9 (i3 ha);generalize g1.objs.size+1=kS at oK hkS2 hka ⊢;have nk:H kS=none:=I.hok.fresh hkS2;have na:H a=none:=I.hok.fresh haS;have I5:Inv X jb σ (upd H kS (.lst [])) { s with heap:=g3 }:=I.laid (t':=s.toks) kp hkS2 ⟨J9 _,[],0,.nil,oK⟩;have aL:a≠X.env.locals:=y9 (K7 I.lt haS);have aF:a∉X.fs:=I.nofs haS
  have I6:Inv X ((a,seqObj "list" #[] e1)::jb) σ (upd H kS (.lst [])) { s with heap:=g3 }:=I5.pins_of λp hp=>by
   rcases C6.mp hp with rfl|hp
   ·exact⟨oA,by rw[C0 hka.symm];exact na,aL,aF,λv z=>by cases z⟩
   ·exact I5.pin p (O6 _ hp)
  refine kRest L I6 hv fo E7 rv h64 hka (h kS a nk na hka) λs' H3 ks h' out c1 c2 I3 hk3 hR z1 z2 z3 z4=>⟨_,rfl,?_⟩;obtain⟨ys,ko,ry⟩:=P_ rv z4;have hn3:H3 a=none:=(I3.pin (a,seqObj "list" #[] e1) (O6 _ C3)).2.1
  have ly:ys.length<=C4:=by
   obtain⟨ps,hp,rfl,_⟩:=ko;rw[B8,hp.length_eq,List.length_zip,K5];omega
  refine B0 ⟨_,rfl,.ref a,_,I3.retrack hk3 (N1 I.sz haS) (λp hp=>?_) (K7 I.bigS haS) (K7 I.bigS hkS2) z1 (out:=out.toList) (by simpa using z2) z3 ry ly,rfl,hR hn3 ys ko⟩;exact D7 (K7 (C5 (I.pin p hp).1) haS)
end
end L2
end
section
namespace L2
open PySem PySem.W PySem.Spec PyProof.Rows
theorem Qb {h h':B7}{c':A0}{q:Str}(x:h.CodeRec (.ref c') q)(k:∀o,h.get? c'=some o->h'.get? c'=some o):h'.CodeRec (.ref c') q:=by
 obtain⟨c,oc,vs,t,e,h1,h2,h3⟩:=x;cases e;exact⟨_,oc,vs,t,rfl,k _ h1,h2,h3⟩
theorem Qc {P:D1}{w:C8}{H:Hp}{h:B7}{c':A0}{q:Str}(x:h.CodeRec (.ref c') q):G7 P w H h c' (V7 c' q):=by
 refine⟨x,?_,λh1 h2 y k=>Qb y k⟩;obtain⟨c,oc,vs,t,e,h1,_⟩:=x;cases e;exact⟨oc,h1⟩
section
variable {X:Cx}{jb:List (A0×Obj)}{σ:St}{H:Hp}{s:A5}
theorem Inv.grow {Pt c':A0}{ps more:Array A1}{qual:Str}{h':B7}{t':Nat}(I:Inv X jb σ H s)(hP:H Pt=some (.tbl ps))(hx:Co Pt s.heap h')(hge:s.heap.objs.size<=c')(hrec:h'.CodeRec (.ref c') qual)(htb:h'.get? Pt=some (tabObj (ps++more))) :
   Inv X jb σ (upd (upd H c' (V7 c' qual)) Pt (.tbl (ps++more))) { s with heap:=h',toks:=t' }:=by
 have nc:H c'=none:=I.hok.fresh hge;have oth:∀b,b≠Pt->b≠c'->upd (upd H c' (V7 c' qual)) Pt (.tbl (ps++more)) b=H b:=λb h1 h2=>by rw[C0 h1,C0 h2]
 have ne1:∀b u,H b=some u->(∀z,u≠.tbl z)->b≠Pt/\b≠c':=λb u e hu=>⟨(λz=>by rw[z,hP] at e;cases e;exact hu _ rfl),(λz=>by rw[z,nc] at e;cases e)⟩;have ne2:∀b o,s.heap.get? b=some o->H b=none->b≠Pt/\b≠c':=λb o e n=>⟨(λz=>by rw[z,hP] at n;cases n),D7 (K7 (C5 e) hge)⟩;refine I.un ⟨λb o e n _ _=>hx b o (ne2 b o e n).1 e,λb o e n _ _=>⟨o.slots,hx b o (ne2 b o e n).1 e⟩,λb o e n _=>?_,λb o e _=>?_,λb xs e=>?_,λb o u e=>?_,λb qs e=>?_,λz=>?_⟩ (λb u e=>?_)
 ·obtain⟨h1,h2⟩:=ne2 b o e n;rw[oth b h1 h2];exact n
 ·by_cases hb:b=Pt
  ·exact⟨_,hb▸htb⟩
  ·exact⟨o,hx b o hb e⟩
 ·obtain⟨h1,h2⟩:=ne1 b _ e (λz q=>by cases q);rw[oth b h1 h2];exact e
 ·obtain⟨h1,h2⟩:=ne1 b _ e (λz q=>by cases q);rw[oth b h1 h2];exact e
 ·by_cases hb:b=Pt
  ·subst hb;rw[hP] at e;cases e;exact⟨more,E7⟩
  ·have h2:b≠c':=λz=>by rw[z,nc] at e;cases e
   exact⟨#[],by rw[oth b hb h2,e];simp⟩
 ·have h2:N6≠c':=D7 (K7 I.bigS hge)
  have h1:N6≠Pt:=λq=>by
   unfold NS at z;rw[q,hP] at z;rcases z with z|⟨_,_,z⟩ <;> cases z
  unfold NS at z ⊢;rw[oth _ h1 h2];exact z
 ·by_cases h1:b=Pt
  ·subst h1;rw[E7] at e;cases e;exact htb
  ·rw[C0 h1] at e
   by_cases h2:b=c'
   ·subst h2;rw[E7] at e;cases e;exact Qc hrec
   ·rw[C0 h2] at e;refine(I.hok b u e).stay (λd v hc q=>hx d v ?_ q) (λd q=>?_) λd xs q=>?_
    ·rcases hc with z|z
     ·rw[z];exact h1
     ·exact(ne1 d _ z (λz q=>by cases q)).1
    ·obtain⟨z1,z2⟩:=ne1 d _ q (λz q=>by cases q);rw[oth d z1 z2];exact q
    ·obtain⟨z1,z2⟩:=ne1 d _ q (λz q=>by cases q);rw[oth d z1 z2];exact q
end
def EU (qual:Str)(tb:TE)(vy:V)(xs:List V)(Q:VK)(c':A0)(H2:Hp):Prop:=∀kS a,H2 kS=none->H2 a=none->kS≠a->BP tb vy kS c' qual xs [] (upd H2 kS (.lst [])) λks H3=>H3 a=none->∀ys,KOut ks xs ys->Q (.ref a) (upd (upd H3 kS (.lst [])) a (.lst ys))
def Ko (K:Frag)(Pt:A0)(lpos:Pos)(qual:Str)(iy:Nat)(te tb:TE):TE:=λσ H Q=>te σ H λx H1=>∃a xs vy ps,x=.ref a/\SqL K H1 a xs/\xs.length<64/\σ[iy]?=some (some vy)/\H1 Pt=some (.tbl ps)/\TriplesOk ps.toList/\
 ((codeAmong lpos ps.toList=none/\∀c',H1 c'=none->EU qual tb vy xs Q c' (upd (upd H1 c' (V7 c' qual)) Pt (.tbl (ps++#[rawInt lpos.line,rawInt lpos.col,.ref c']))))\/∃c',codeAmong lpos ps.toList=some (.ref c')/\H1 c'=some (V7 c' qual)/\EU qual tb vy xs Q c' H1)
section
variable {X:Cx}{scope:G5}{params:Arguments}{body:Expr}{qual x y:Str}{c cd Pt:A0}{iy k:Nat}{tb te:TE}{e:Expr}{p pos kpos lpos:Pos}
theorem Qd (L:Ay X scope params body qual x y c iy k tb)(hq:X.env.qual++"<lambda>"=qual)(hcl:closureFor scope X.env=pure [(y,c)])(hcode:X.env.code=.ref cd)(C:CodeHd X.base cd Pt)(hB:X.base.BuiltinsAt X.mg Pt)(hg:Gl X "sorted")(hm:X.mg "sorted"=none)
   (he:PE X e te) (hs:E9 [e] X.env=[(false,eval e X.env)]) (hdef:defaultsOf params X.env=([],[])) :
   PE X (.Call (.Name "sorted" p) [e] [⟨some "key",.Lambda params body scope lpos,kpos⟩] pos) (Ko X.K Pt lpos qual iy te tb):=by
 intro jb s σ H Q I h;refine Dz (Bt I hg hm GC ?_);refine callWith_kw ?_ (by rw[hs];rfl) (by rw[hs];rfl);rw[hs];show A6 _ _ (spliced ((false,eval e X.env)::[])) _ _ s;refine Calls.spliced_cons (thn (he jb s σ H _ I h) λu s1 ⟨x',H1,I1,r1,q1⟩=>?_);refine Calls.spliced_nil ?_;obtain⟨a,xs,vy,ps,rfl,hS,h64,hv,hP,ht,hR⟩:=q1;obtain rfl:u=.ref a:=r1;obtain⟨jf,rv,⟨ol,nl,ho,hcl',hdl,hsl⟩,_⟩:=I1.list hS;have eP:s1.heap.get? Pt=some (tabObj ps):=I1.hok Pt _ hP;have aP:a≠Pt:=λz=>by rw[z,eP] at ho;cases ho;cases hcl'
 have C1:CodeHd s1.heap cd Pt:=C.keeps λb o q=>I1.bk b o q
 have B1:s1.heap.BuiltinsAt X.mg Pt:=by
  obtain⟨bm,o,z1,z2,z3,z4,z5,z6⟩:=hB;exact⟨bm,o,z1,z2,z3,z4,I1.bk _ _ z5,z6⟩
 have gP:R1≠Pt:=λq=>by
  obtain⟨o,es,ep,e,hd,_⟩:=I1.mod.glob.keeps I1.bk;rw[q,eP] at e;cases e;cases hd
 refine kws_cons (kla_eval hdef ?_);rw[hq]
 -- behind the making
 have fin:∀(c':A0) (ctv:A1) (h':B7) (tk:Nat) (H2:Hp),Inv X jb σ H2 { s1 with heap:=h',toks:=tk }->h'.IsList a jf.toArray->EU qual tb vy xs Q c' H2->
     A6 (A9 X.prog X.w) X.A (evalAll ((Z0 pos (Y8 [] X.env)).map (·.2))) (λvs s2=>A6 (A9 X.prog X.w) X.A (call (.builtin "sorted") [.ref a] (((Z0 pos (Y8 [⟨some "key",.Lambda params body scope lpos,kpos⟩] X.env)).filterMap (·.1)).zip (.ref h'.objs.size::vs))) (EP X jb σ Q) X.xe s2) X.xe
       { s1 with heap:=h'.push (kla_obj "<lambda>" qual params body scope [(y,c)] ((X.mg "__name__").getD .none) c' ctv),toks:=tk }:=by
   intro c' ctv h' tk H2 I2 hl hR;refine kws_nil ?_;show A6 (A9 X.prog X.w) X.A (call (.builtin "sorted") [.ref a] [(A7 "key",.ref h'.objs.size)]) (EP X jb σ Q) X.xe _;have I3:Inv X jb σ H2 { s1 with heap:=h'.push (kla_obj "<lambda>" qual params body scope [(y,c)] ((X.mg "__name__").getD .none) c' ctv),toks:=tk }:=I2.kept (t':=tk) λb o q=>D0 _ q
   have I4:Inv X ((h'.objs.size,kla_obj "<lambda>" qual params body scope [(y,c)] ((X.mg "__name__").getD .none) c' ctv)::jb) σ H2 { s1 with heap:=h'.push (kla_obj "<lambda>" qual params body scope [(y,c)] ((X.mg "__name__").getD .none) c' ctv),toks:=tk }:=I3.pins_of λq hq=>by
    rcases C6.mp hq with rfl|hq
    ·exact⟨G4 _ rfl,I2.hok.fresh (B9 _),y9 I2.lt,I2.nofs (B9 _),λv z=>by cases z⟩
    ·exact I3.pin q (O6 _ hq)
   refine thn (Qa L I4 hv C3 (let ⟨o9,z1,z2⟩:=hl;⟨o9,D0 _ z1,z2⟩) rv h64 hR) λv s2 h2=>?_;obtain⟨v',H5,I5,r5,q5⟩:=h2;exact⟨v',H5,I5.pins_of λq hq=>I5.pin q (O6 _ (C2 _ hq)),r5,q5⟩
 rcases hR with⟨hnf,hR⟩|⟨c',hf,hc',hR⟩
 ·refine kla_makeFunction (mg:=X.mg) hcl I1.ok.glob (I1.mod.glob.keeps I1.bk) hcode C1 eP ht hnf gP B1 λc' ctv h' tk hx hge hlt hrec htb=>?_;exact fin c' ctv h' tk _ (I1.grow hP hx hge hrec htb) ⟨ol,hx _ _ aP ho,hcl',nl,hsl⟩ (hR c' (I1.hok.fresh hge))
 ·refine kla_makeFunctionHit (mg:=X.mg) hcl I1.ok.glob (I1.mod.glob.keeps I1.bk) hcode C1 eP ht hf B1 λctv h' tk hk hsz=>?_;exact fin c' ctv h' tk _ (I1.kept (t':=tk) hk) ⟨ol,hk _ _ ho,hcl',nl,hsl⟩ hR
end
end L2
end
section
namespace Pu
open PySem PySem.Spec L2
section
variable {C:Ct}{G:Gh}{σ:St}{H:Hp}{env:Env}{n:Nat}
def Ct.hid (C:Ct)(p:A0)(ob:HO):Ct:={ C with M0:=p::C.M0,H0:=upd C.H0 p ob }
theorem SR.hide (S:SR C G σ H env n){p:A0}{ob:HO}(mo:MutO ob)(h:H p=none):SR (C.hid p ob) ⟨p::G.M,G.pots⟩ σ (upd H p ob) env n:=by
 have S1:=S.moreO mo h;have pM:p∉G.M:=S.fresh h
 exact {
  frame:=λb o hb e=>by
   by_cases hbp:b=p
   ·subst hbp;have e':some ob=some o:=by rw[<- e];exact E7.symm
    rw[E7];exact e'
   ·have e':C.H0 b=some o:=by rw[<- e];exact(C0 hbp).symm
    exact S1.frame b o hb e'
  sub:=fun b hb=>by
   rcases C6.mp hb with rfl|hb
   ·exact .inl C3
   ·rcases S.sub b hb with z|z
    ·exact .inl (C2 _ z)
    ·exact .inr (by show upd C.H0 p ob b=none;rw[C0 λz=>pM (by rw[<- z];exact hb)];exact z)
  sup:=λb hb=>by
   rcases C6.mp hb with rfl|hb
   ·exact C3
   ·exact C2 _ (S.sup b hb)
  pots:=S1.pots
  pre:=S.pre
  mu:=S1.mu
  slots:=λj s e=>by
   have:=S1.slots j s e;cases s with
   |v x=>exact this
   | ow kk xs =>
    obtain⟨b,us,e1,g1,g2,g3,g4,r⟩:=this;obtain⟨b',us',e1',g1',_⟩:=S.slots j _ e;rw[e1] at e1';cases e1';refine⟨b,us,e1,g1,λz=>?_,g3,g4,r⟩;rcases C6.mp z with rfl|z
    ·exact pM g1'
    ·exact g2 z
  inj:=S.inj
  p0:=⟨λq hq=>C2 _ (S.p0.1 q hq),S.p0.2⟩
  len:=S.len
  newp:=λq hq h1 h2=>by
   rcases C6.mp h2 with rfl|h2
   ·exact pM (S.pots q hq).1
   ·exact S.newp q hq h1 h2 }
theorem SR.hid_at {p:A0}{ob:HO}(S:SR (C.hid p ob) G σ H env n)(h2:p∉C.pots0):H p=some ob:=S.frame p ob h2 E7
end
end Pu
end
section
namespace L2
open PySem PySem.Spec PyProof.Rows
def insL {α:Type}(xs:List α)(k:Nat)(y:α):List α:=xs.take k++y::xs.drop k
theorem EV {α:Type}(xs:List α)(k:Nat)(y:α):(insL xs k y).length=xs.length+1:=by
 unfold insL;rw[E3,L8,P4,W7];omega
end L2
end
section
namespace Pu
open PySem PySem.Spec L2
section
variable {ι:Type}{K:A8}{F:ι->Cx}{e:Expr}{es:List Expr}{st:Stmt}{pos:Pos}{pl:pA}{pe pa pb:pE}
theorem SR.potG (S:SR C G σ H env n)(hn:C.np=true)(mo:MutO ob)(h:H p=none)(sm:Same H H')(h':H' p=some ob)(ok:C.T.at_ (p::G.M) H' p n) :
   SR C ⟨p::G.M,G.pots++[p]⟩ σ H' env n:=by
 have hM:∀a∈p::G.M,a∈G.M\/H a=none:=λa ha=>(C6.mp ha).elim (λz=>.inr (z▸h)) .inl
 have hp:∀(k:Nat) (q:A0),G.pots[k]?=some q->(G.pots++[p])[k]?=some q:=λk q e=>by
  obtain⟨hk,_⟩:=F7.mp e;rw[W4 hk];exact e
 have mm:∀{x:PV} {v:V},Rep C.K G H x v->Rep C.K ⟨p::G.M,G.pots++[p]⟩ H' x v:=λr=>Rep.mono (G':=⟨p::G.M,G.pots++[p]⟩) (λb o _ e=>sm b o e) hM hp _ _ r;have mms:∀{x:List PV} {v:List V},Reps C.K G H x v->Reps C.K ⟨p::G.M,G.pots++[p]⟩ H' x v:=λr=>Reps.mono (G':=⟨p::G.M,G.pots++[p]⟩) (λb o _ e=>sm b o e) hM hp _ _ r;have pM:=S.fresh h
 exact {
  frame:=λb o hb e=>sm b o (S.frame b o hb e)
  sub:=λa ha=>(C6.mp ha).elim (λz=>.inr (z▸S.old h)) (S.sub a)
  sup:=λa ha=>C2 _ (S.sup a ha)
  pots:=λq hq=>by
   rcases J8.mp hq with z|z
   ·refine⟨C2 _ (S.pots q z).1,?_⟩;have h1:=C.T.more (M':=p::G.M) (S.pots q z).2 hM;obtain⟨o,e,_⟩:=C.T.mu h1;exact C.T.keep h1 (by rw[e,sm q o e]) λb o _ e=>sm b o e
   ·rw[E2.mp z];exact⟨C3,ok⟩
  pre:=by
   obtain⟨l,el,_⟩:=S.pre;exact⟨l++[p],by show G.pots++[p]=_;rw[el,T6],.inr hn⟩
  mu:=λa ha=>by
   rcases C6.mp ha with rfl|ha
   ·exact⟨ob,h',mo⟩
   ·obtain⟨o,e,m⟩:=S.mu a ha;exact⟨o,sm a o e,m⟩
  slots:=λi s e=>by
   cases s with
   | v x =>
    obtain⟨v,ev,r⟩:=S.slots i _ e;exact⟨v,ev,mm r⟩
   | ow kk xs =>
    obtain⟨b,us,ev,h1,h2,h3,h4,r⟩:=S.slots i _ e;refine⟨b,us,ev,C2 _ h1,h2,λz=>?_,sm _ _ h4,mms r⟩;rcases J8.mp z with z|z
    ·exact h3 z
    ·rw[E2.mp z] at h1;exact pM h1
  inj:=S.inj
  p0:=⟨S.p0.1,C.T.hasM S.p0.2 λz=>pM (S.pots p z).1⟩
  len:=S.len
  newp:=λq hq hn' hM=>by
   rcases J8.mp hq with z|z
   ·exact S.newp q z hn' hM
   ·rw[E2.mp z] at hM
    exact pM (S.sup p hM) }
end
end Pu
end
section
namespace Pu
open PySem PySem.W PySem.Spec L2
def TabG (lpos:Pos)(qual:Str)(M:List A0)(H:Hp)(ps:Array A1):Prop:=TriplesOk ps.toList/\(codeAmong lpos ps.toList=none\/∃c',codeAmong lpos ps.toList=some (.ref c')/\c'∉M/\H c'=some (V7 c' qual))
def tabK (T:PotK)(Pt:A0)(lpos:Pos)(qual:Str):PotK where
 at_:=λM H p n=>(p≠Pt/\T.at_ M H p n)\/(p=Pt/\∃ps,H Pt=some (.tbl ps)/\TabG lpos qual M H ps)
 mono:=λh hl=>h.imp (λz=>⟨z.1,T.mono z.2 hl⟩) id
 keep:=λh e k=>by
  rcases h with⟨h1,h2⟩|⟨rfl,ps,h2,h3,h4⟩
  ·exact .inl ⟨h1,T.keep h2 e k⟩
  ·refine .inr ⟨rfl,ps,e.trans h2,h3,h4.imp id ?_⟩;rintro⟨c',z1,z2,z3⟩;exact⟨c',z1,z2,k _ _ z2 z3⟩
 more:=λh k=>by
  rcases h with⟨h1,h2⟩|⟨rfl,ps,h2,h3,h4⟩
  ·exact .inl ⟨h1,T.more h2 k⟩
  ·refine .inr ⟨rfl,ps,h2,h3,h4.imp id ?_⟩;rintro⟨c',z1,z2,z3⟩;exact⟨c',z1,(λz=>(k c' z).elim z2 (λq=>by rw[q] at z3;cases z3)),z3⟩
 mu:=λh=>by
  rcases h with⟨h1,h2⟩|⟨rfl,ps,h2,_⟩
  ·exact T.mu h2
  ·exact⟨_,h2,trivial⟩
 has:=λl=>∃l',l=Pt::l'/\Pt∉l'
 hasM:=λ{l p} h hp=>by
  obtain⟨l',rfl,h2⟩:=h;refine⟨l'++[p],rfl,λz=>?_⟩;rcases J8.mp z with z|z
  ·exact h2 z
  ·exact hp (by rw[<- E2.mp z];exact C3)
def BQ:pF:=λxs n R=>match xs with|[.pot (_+1),.int m]=>(0<m/\m<1000000/\n<1000000000)/\∀d:Int,0<=d->d<m->R (.int d) (n+1)|_=>False
section
variable {P:D1}{w:C8}{K:A8}{mg:Str->Option A1}{base:B7}{T:PotK}{Pt:A0}{lpos:Pos}{qual:Str}
theorem Qe {x:Str}{k:Nat}{ps:List Str}(G:Kn P w K mg base x k ps (E6 K T BH))(hT:T.has=λ_=>True):Kn P w K mg base x k ps (E6 K (tabK T Pt lpos qual) BQ):=G.imp λvs H Q E h=>by
 obtain⟨G,xs,n,R,hp,hm,hh,r,hf,k⟩:=h;unfold BQ at hf
 split at hf
 ·rename_i kk m;obtain⟨v,rr,rfl,rv,u,r2,rfl,ru,rfl⟩:=r;obtain⟨p,ep,rfl⟩:=rv;obtain rfl:u=.int m:=ru;obtain⟨l',el,nl⟩:=hh;have epl:l'[kk]?=some p:=by rw[el] at ep;simpa using ep
  have pl:p∈l':=J5 epl;have sub:∀q∈l',q∈G.pots:=λq hq=>by rw[el];exact C2 _ hq
  have at1:∀q∈l',q∈G.M/\T.at_ G.M H q n:=λq hq=>by
   obtain⟨a1,a2⟩:=hp q (sub q hq);rcases a2 with⟨_,a2⟩|⟨z,_⟩
   ·exact⟨a1,a2⟩
   ·exact absurd (z▸hq) nl
  have ptM:Pt∈G.pots:=by rw[el];exact C3
  refine⟨⟨G.M,l'⟩,[.pot kk,.int m],n,λr n'=>R r n'/\∃d,r=.int d,at1,hm,by rw[hT];trivial,⟨_,_,rfl,⟨p,epl,rfl⟩,_,_,rfl,rfl,rfl⟩,⟨hf.1,λd d0 d1=>⟨hf.2 d d0 d1,d,rfl⟩⟩,λr n' v H' rr rv hp' hk=>?_⟩
  have nr:Rep K G H' r v:=by
   obtain⟨_,d,rfl⟩:=rr;exact rv
  refine k r n' v H' rr.1 nr (λq hq=>?_) λb o hb e=>hk b o (λz=>hb (sub b z)) e;rw[el] at hq;rcases C6.mp hq with rfl|hq
  ·rcases(hp q ptM).2 with⟨z,_⟩|⟨_,ps,z1,z2,z3⟩
   ·exact absurd rfl z
   ·refine .inr ⟨rfl,ps,hk _ _ nl z1,z2,z3.imp id ?_⟩;rintro⟨c',y1,y2,y3⟩;exact⟨c',y1,y2,hk _ _ (λz=>y2 ((hp c' (sub c' z)).1)) y3⟩
  ·exact .inl ⟨λz=>nl (z▸hq),hp' q hq⟩
 ·exact hf.elim
end
end Pu
end
section
namespace Pu
open PySem PySem.W PySem.Spec L2
def Az (pk:pE)(y:PV):List PV->Nat->(List Int->Nat->Prop)->Prop
 |[],n,R=>R [] n
 |x::xs,n,R=>pk [some (.v x),some (.v y)] n λr _ n1=>∃k,r=.int k/\Az pk y xs n1 λks n2=>R (k::ks) n2
def SrtK (ks:List Int)(xs ys:List PV):Prop:=∃ps:List (Int×PV),ps.Perm (ks.zip xs)/\ys=ps.map Prod.snd/\ps.Pairwise λp q=>p.1<=q.1
def EX (iy:Nat)(pe pk:pE):pA:=λenv n R=>pe env n λx jc n1=>match x,jc[iy]? with
 |.lst xs,some (some (.v y))=>xs.length<64/\Az pk y xs n1 λks n2=>∀ys,SrtK ks xs ys->R ys jc n2
 |_,_=>False
theorem Kp {α β:Type}{f:α->β}{ps m:List β}(h:ps.Perm m):∀l:List α,m=l.map f->∃l':List α,l'.Perm l/\ps=l'.map f:=by
 induction h with
 |nil=>intro l e;exact⟨l,.refl _,e⟩
 | cons x _ ih =>
  intro l e;cases l with
  |nil=>cases e
  | cons a l =>
   rw[F2] at e;injection e with e1 e2;obtain⟨l',p,q⟩:=ih l e2;exact⟨a::l',.cons a p,by rw[F2,e1,q]⟩
 | swap x y r =>
  intro l e
  match l,e with
  | a :: b :: l, e =>
   rw[F2,F2] at e;injection e with e1 e2;injection e2 with e2 e3;exact⟨b::a::l,.swap _ _ _,by rw[F2,F2,e1,e2,e3]⟩
 | trans _ _ ih1 ih2 =>
  intro l e;obtain⟨l2,p2,q2⟩:=ih2 l e;obtain⟨l1,p1,q1⟩:=ih1 l2 q2;exact⟨l1,p1.trans p2,q1⟩
theorem zip3 {K:A8}{G:Gh}{H:Hp}:∀(ks:List Int) (xs:List PV) (us:List V),Reps K G H xs us->∃l:List (Int×PV×V),ks.zip us=l.map (λt=>(t.1,t.2.2))/\ks.zip xs=l.map (λt=>(t.1,t.2.1))/\∀t∈l,Rep K G H t.2.1 t.2.2
 |[],xs,us,_=>⟨[],by simp,by simp,λ_ z=>nomatch z⟩
 |k::ks,[],us,h=>by cases(show us=[] from h);exact⟨[],rfl,rfl,λ_ z=>nomatch z⟩
 | k :: ks, x :: xs, us, h => by
  obtain⟨v,r,rfl,h1,h2⟩:=h;obtain⟨l,e1,e2,h3⟩:=zip3 ks xs r h2;refine⟨(k,x,v)::l,by rw[l6,e1];rfl,by rw[l6,e2];rfl,λt ht=>?_⟩;rcases C6.mp ht with rfl|ht
  ·exact h1
  ·exact h3 t ht
theorem Kq {K:A8}{G:Gh}{H:Hp}:∀(l:List (Int×PV×V)),(∀t∈l,Rep K G H t.2.1 t.2.2)->Reps K G H (l.map λt=>t.2.1) (l.map λt=>t.2.2)
 |[],_=>rfl
 |t::l,h=>⟨_,_,rfl,h t C3,Kq l λs hs=>h s (C2 _ hs)⟩
theorem Qg {K:A8}{G:Gh}{H:Hp}{ks:List Int}{xs:List PV}{us ys:List V}(r:Reps K G H xs us)(h:KOut ks us ys):∃ys',SrtK ks xs ys'/\Reps K G H ys' ys:=by
 obtain⟨ps,hp,rfl,ho⟩:=h;obtain⟨l,e1,e2,h3⟩:=zip3 ks xs us r;rw[e1] at hp;obtain⟨l',p',rfl⟩:=Kp hp l rfl;refine⟨l'.map λt=>t.2.1,⟨l'.map λt=>(t.1,t.2.1),by rw[e2];exact p'.map _,by rw[V1];rfl,?_⟩,?_⟩
 ·rw[e9] at ho ⊢;exact ho
 ·rw[V1];exact Kq l' λt ht=>h3 t (p'.mem_iff.mp ht)
section
variable {T:PotK}{K:A8}{Pt:A0}{lpos:Pos}{qual:Str}
theorem Ks {tb:TE}{pk:pE}(hb:EOk K T tb pk){G:Gh}{H1 H2:Hp}{kS c':A0}{y:PV}{vy:V}(hh:T.has G.pots)(h0:∀b o,b∉G.pots->H1 b=some o->H2 b=some o)(k1:H1 kS=none)(k2:H2 kS=none)(kM:kS∉G.M)(pM:∀p∈G.pots,p∈G.M)(hm:∀a∈G.M,∃o,H1 a=some o/\MutO o)
   (hc:H2 c'=some (V7 c' qual)) (cM:c'∉G.M) (ry:Rep K G H1 y vy) {R4:List Int->Hp->Prop} {RR:List Int->Nat->Prop}
   (fin:∀ks H4 n2,RR ks n2->(∀b o,b∉G.pots->H2 b=some o->H4 b=some o)->(∀p∈G.pots,T.at_ (kS::G.M) H4 p n2)->H4 kS=some (.lst (ks.map V.int))->R4 ks H4) :
   ∀(xs:List PV) (us:List V) (ks:List Int) (n:Nat) (H3:Hp),Reps K G H1 xs us->(∀b o,b∉G.pots->H2 b=some o->H3 b=some o)->(∀p∈G.pots,T.at_ (kS::G.M) H3 p n)->H3 kS=some (.lst (ks.map V.int))->Az pk y xs n (λmore n2=>RR (ks++more) n2)->BP tb vy kS c' qual us ks H3 R4
 | [], us, ks, n, H3, r, fr, at3, e3, hk => by
  cases(show us=[] from r);exact fin ks H3 n (by simpa[Az] using hk) fr at3 e3
 | x :: xs, us, ks, n, H3, r, fr, at3, e3, hk => by
  obtain⟨u,us,rfl,rx,rr⟩:=r;have kP:kS∉G.pots:=λz=>kM (pM _ z);have neK:∀b o,H2 b=some o->b≠kS:=λb o e z=>by rw[z,k2] at e;cases e
  let GD:Gh:=⟨kS::G.M,G.pots⟩
  have fr1:∀b o,b∉G.M->H1 b=some o->H3 b=some o:=λb o hb e=>fr b o (λz=>hb (pM b z)) (h0 b o (λz=>hb (pM b z)) e);have mv:∀{x:PV} {v:V},Rep K G H1 x v->Rep K GD H3 x v:=λr=>Rep.mono (G':=GD) fr1 (λa ha=>(C6.mp (show a∈kS::G.M from ha)).elim (λz=>.inr (z▸k1)) .inl) (λ_ _ e=>e) _ _ r
  have I:Inn K T GD [some u,some vy] H3 [some (.v x),some (.v y)] n:=by
   refine⟨λp hp=>⟨C2 _ (pM p hp),at3 p hp⟩,hh,λa ha=>?_,λi s e=>?_,rfl⟩
   ·rcases C6.mp (show a∈kS::G.M from ha) with rfl|ha
    ·exact⟨_,e3,trivial⟩
    ·by_cases hp:a∈G.pots
     ·exact T.mu (at3 a hp)
     ·obtain⟨o,e,m⟩:=hm a ha;exact⟨o,fr a o hp (h0 a o hp e),m⟩
   ·match i,e with
    |0,e=>cases e;exact⟨x,u,rfl,rfl,mv rx⟩
    |1,e=>cases e;exact⟨y,vy,rfl,rfl,mv ry⟩
    |_+2,e=>cases e
  refine⟨fr c' _ (λz=>cM (pM _ z)) hc,?_⟩;refine hb _ GD _ H3 _ n _ _ rfl rfl I.sr hk λq jh n1 v H4 rq S4 rv f4=>?_;obtain⟨k,rfl,hk2⟩:=rq;have e4:H4 kS=some (.lst (ks.map V.int)):=S4.frame kS _ kP e3;refine⟨k,rv,e4,?_⟩;refine Ks hb hh h0 k1 k2 kM pM hm hc cM ry fin xs us (ks++[k]) n1 _ rr (λb o hp e=>?_) (λp hp=>?_) E7 (by simpa[T6] using hk2)
  ·rw[C0 (neK b o e)];exact S4.frame b o hp (fr b o hp e)
  ·refine T.keep (S4.pots p hp).2 (C0 λz=>kP (z▸hp)) λb o hb e=>?_;rw[C0 (λz=>hb (by rw[z];exact C3))];exact e
theorem Qh {te tb:TE}{pe pk:pE}{iy:Nat}(h2:ROk K (tabK T Pt lpos qual) te pe)(hb:EOk K (tabK T Pt lpos qual) tb pk):NOk K (tabK T Pt lpos qual) (Ko K Pt lpos qual iy te tb) (EX iy pe pk):=by
 intro C G σ H env n R Q hK hT S hp k;refine h2 C G σ H env n _ _ hK hT S hp λx jc n1 v H1 p1 S1 r1 f1=>?_;have rd:RdV K G H1 x v:=hK▸r1.rd S1
 split at p1
 ·rename_i xs y ey;obtain⟨h64,p1⟩:=p1;obtain⟨a,us,rfl,hq,r⟩:=rd.lst;obtain⟨vy,ev,ry⟩:=S1.slots iy _ ey;rw[hK] at ry;have hh:(tabK T Pt lpos qual).has G.pots:=hT▸S1.hasG;obtain⟨l',el,nl⟩:=id hh;have ptM:Pt∈G.pots:=by rw[el];exact C3
  have atH:∀p∈G.pots,p∈G.M/\(tabK T Pt lpos qual).at_ G.M H1 p n1:=λp hp=>hT▸S1.pots p hp;have pM:∀p∈G.pots,p∈G.M:=λp hp=>(atH p hp).1
  obtain⟨ps,eP,tg⟩:∃ps,H1 Pt=some (.tbl ps)/\TabG lpos qual G.M H1 ps:=by
   rcases(atH Pt ptM).2 with⟨z,_⟩|⟨_,z⟩
   ·exact absurd rfl z
   ·exact z
  have ul:us.length=xs.length:=r.length.symm
  have rest:∀c' H2,(∀b o,b∉G.pots->H1 b=some o->H2 b=some o)->(∀p∈G.pots,(tabK T Pt lpos qual).at_ G.M H2 p n1)->H2 c'=some (V7 c' qual)->c'∉G.M->EU qual tb vy us Q c' H2:=by
   intro c' H2 h0 at2 hc cM kS a2 nk na hka
   have k1:H1 kS=none:=by
    cases e:H1 kS with
    |none=>rfl
    | some o =>
     by_cases hp:kS∈G.pots
     ·obtain⟨o2,e2,_⟩:=(tabK T Pt lpos qual).mu (at2 kS hp);rw[nk] at e2;cases e2
     ·rw[h0 kS o hp e] at nk;cases nk
   have kM:kS∉G.M:=S1.fresh k1;refine Ks hb hh h0 k1 nk kM pM S1.mu hc cM ry (RR:=λks n2=>∀ys,SrtK ks xs ys->R ys jc n2) (λks H4 n2 rr fr4 at4 e4 n4 ys ko=>?_) xs us [] n1 _ r (λb o hp e=>?_) (λp hp=>?_) E7 p1
   ·obtain⟨ys',so,ry'⟩:=Qg r ko;have ne4:∀b o,H2 b=some o->b≠kS:=λb o e z=>by rw[z,nk] at e;cases e
    have hk4:∀b o,b∉G.pots->H1 b=some o->upd H4 kS (.lst []) b=some o:=λb o hp e=>by
     have e2:=h0 b o hp e;rw[C0 (ne4 b o e2)];exact fr4 b o hp e2
    have fr:Fr G H1 (upd H4 kS (.lst [])):=λb o hb e=>hk4 b o (λz=>hb (pM b z)) e;refine k ys' jc n2 a2 ys (upd H4 kS (.lst [])) (rr ys' so) (S1.call hk4 λp hp=>?_) (f1.trans fr) (by rw[C0 hka.symm];exact n4) (ry'.fr fr);rw[hT];have h5:=(tabK T Pt lpos qual).more (M':=G.M) (at4 p hp) λa ha=>.inl (C2 _ ha)
    -- kS is none of the pots' things
    have h6:=(tabK T Pt lpos qual).keep (H':=upd H4 kS (.lst [])) (at4 p hp) (C0 λz=>kM (pM _ (z▸hp))) λb o hb e=>by
     rw[C0 (λz=>hb (by rw[z];exact C3))];exact e
    exact(tabK T Pt lpos qual).more (M':=G.M) h6 λa ha=>.inl (C2 _ ha)
   ·rw[C0 (λz=>by rw[z,nk] at e;cases e)];exact e
   ·have h5:=(tabK T Pt lpos qual).more (M':=kS::G.M) (at2 p hp) λa ha=>(C6.mp ha).elim (λz=>.inr (z▸nk)) .inl
    exact(tabK T Pt lpos qual).keep h5 (C0 λz=>kM (pM _ (z▸hp))) λb o hb e=>by
     rw[C0 (λz=>hb (by rw[z];exact C3))];exact e
  refine⟨a,us,vy,ps,rfl,hq,by omega,ev,eP,tg.1,?_⟩;rcases tg.2 with hn|⟨c',z1,z2,z3⟩
  ·refine .inl ⟨hn,λc' hc'=>rest c' _ (λb o hp e=>?_) (λp hp=>?_) ?_ (S1.fresh hc')⟩
   ·have b1:b≠Pt:=λz=>hp (by rw[z];exact ptM);rw[C0 b1,C0 (λz=>by rw[z,hc'] at e;cases e)];exact e
   ·by_cases hpp:p=Pt
    ·subst hpp;refine .inr ⟨rfl,_,E7,?_,.inr ⟨c',?_,S1.fresh hc',?_⟩⟩
     ·have e:(ps++#[rawInt lpos.line,rawInt lpos.col,L9 c']).toList=ps.toList++[rawInt lpos.line,rawInt lpos.col,.ref c']:=by simp
      rw[e];exact TriplesOk_snoc _ _ _ _ tg.1
     ·have e:(ps++#[rawInt lpos.line,rawInt lpos.col,L9 c']).toList=ps.toList++[rawInt lpos.line,rawInt lpos.col,.ref c']:=by simp
      rw[e];exact codeAmong_snoc _ tg.1 hn
     ·rw[C0 (λz=>by rw[z,eP] at hc';cases hc'),E7]
    ·rcases(atH p hp).2 with⟨_,z⟩|⟨z,_⟩
     ·refine .inl ⟨hpp,?_⟩;have nc:p≠c':=λq=>S1.fresh hc' (by rw[<- q];exact pM p hp);have z2:=T.keep (H':=upd H1 c' (V7 c' qual)) z (C0 nc) λb o _ e=>by rw[C0 (λq=>by rw[q,hc'] at e;cases e)];exact e
      exact T.keep z2 (by rw[C0 hpp]) λb o hb e=>by rw[C0 (λq=>hb (by rw[q];exact pM _ ptM))];exact e
     ·exact absurd z hpp
   ·rw[C0 (λz=>by rw[z,eP] at hc';cases hc'),E7]
  ·exact .inr ⟨c',z1,z3,rest c' H1 (λ_ _ _ e=>e) (λp hp=>(atH p hp).2) z3 z2⟩
 ·exact p1.elim
end
section
variable {T:PotK}{ι:Type}{K:A8}{F:ι->Cx}{Pt cd:A0}{lpos p pos kpos:Pos}{qual x y:Str}{e body:Expr}{pe pk:pE}{scope:G5}{params:Arguments}{iy k:Nat}{c:ι->A0}
theorem Qi (he:QR (tabK T Pt lpos qual) K F e pe)
   (hb:QE (tabK T Pt lpos qual) K (λq:ι×A0×A0×A5×Hp=>BO (F q.1) scope [x,y] qual q.2.1 q.2.2.1 [(y,c q.1)] q.2.2.2.1 q.2.2.2.2) body pk)
   (S:Dd scope x y) (hr:∀z,Room k (F z).A) (hc:∀z,(F z).env.cells.lookup y=some (c z)) (hi:∀z,(F z).env.scope.names.lookup y=some .cell) (hn:∀z,(F z).N[iy]?=some y)
   (bd:∀z (pm ct jn u:A1),V9 (kla_fn "<lambda>" qual params body scope [(y,c z)] pm jn ct) ⟨[u],[]⟩=pure [(x,u)])
   (hq:∀z,(F z).env.qual++"<lambda>"=qual) (hcl:∀z,closureFor scope (F z).env=pure [(y,c z)]) (hcode:∀z,(F z).env.code=.ref cd) (C:∀z,CodeHd (F z).base cd Pt) (hB:∀z,(F z).base.BuiltinsAt (F z).mg Pt)
   (hg:∀z,Gl (F z) "sorted") (hm:∀z,(F z).mg "sorted"=none) (hdef:∀z,defaultsOf params (F z).env=([],[])) (hs:F5 e=true:=by rfl) (hK:∀z,(F z).K=K:=by intro _;rfl) :
   QN (tabK T Pt lpos qual) K F (.Call (.Name "sorted" p) [e] [⟨some "key",.Lambda params body scope lpos,kpos⟩] pos) (EX iy pe pk):=by
 obtain⟨t,h1,h2⟩:=he;obtain⟨u,h3,h4⟩:=hb;refine⟨_,λz=>hK z▸Qd (c:=c z) (k:=k) (tb:=u) ⟨S,hr z,hc z,hi z,hn z,bd z,λf c' s H=>h3 (z,f,c',s,H)⟩ (hq z) (hcl z) (hcode z) (C z) (hB z) (hg z) (hm z) (h1 z) (D8 hs) (hdef z),Qh h2 h4⟩
end
end Pu
end
section
namespace L2
open PySem PySem.W PySem.Spec PyProof.Rows
def HI (Pt:A0)(H:Hp):Prop:=∀b,H b=none\/(∃o xs,H b=some (.frz o (.lst xs)))\/(b=Pt/\H b=some (.tbl #[]))
theorem Qj {P:D1}{w:C8}{K:Frag}{mg mb:Str->Option A1}{CX:CXT}{k:Nat}{fa a Pt cd:A0}{fd:FuncData}{x:Str}{sp:Sp}{s₁:A5}{vs:List A1}{ns:List Int}
   (KX:K.In s₁.heap) (hns:s₁.heap.Ns R1 mg) (hb:s₁.heap.Ns builtinsNs mb) (hbb:∀x:Str,x≠"__name__"->mb x=M4 x) (hlim:s₁.heap.NoLimit) (hg:s₁.gens=#[])
   (ha:s₁.heap.get? a=some { cls:=.type "list",data:=.seq vs.toArray }) (hi:IntsAre vs ns) (hl:ns.length<=C4) (hr:Room k callerA)
   (hP:s₁.heap.get? Pt=some (tabObj #[])) (hC:CodeHd s₁.heap cd Pt) (hB:s₁.heap.BuiltinsAt mg Pt) (hKP:K.lookup Pt=none) (hsy:N6≠Pt)
   (F:∀base:B7,K.In base->base.Ns R1 mg->CodeHd base cd Pt->base.BuiltinsAt mg Pt->FnOk P w K mg base CX k fa fd [x] sp) (hbind:∀(s:A5) (u:A1),BindsTo s fd ⟨[u],[]⟩ [(x,u)])
   (hsp:∀H:Hp,HI Pt H->H Pt=some (.tbl #[])->SqL K H a (ns.map V.int)->sp [.ref a] H (λv _=>v=.bl true) λ_ _ _=>False)
   (hCX:∀H e s',CX [] H s₁ (λ_ _ _=>False) e s'->False) :
   N0 (A9 P w) callerA (.call (.ref fa) ⟨[.ref a],[]⟩) (λr s'=>r=.ok (.ret (.bool true))/\OldK s₁.heap s'.heap/\s'.os=s₁.os/\AllBare s'.gens) s₁:=by
 have rv:=NK hi;have lenV:=hi.length;have haP:a≠Pt:=λz=>by rw[z,hP] at ha;cases ha
 have core:∀H:Hp,HI Pt H->H Pt=some (.tbl #[])->SqL K H a (ns.map V.int)->HOk P w H s₁.heap->(∀b,H b≠none->b=a\/b=Pt)->(H a≠none->K.lookup a=none)->
     N0 (A9 P w) callerA (.call (.ref fa) ⟨[.ref a],[]⟩) (λr s'=>r=.ok (.ret (.bool true))/\OldK s₁.heap s'.heap/\s'.os=s₁.os/\AllBare s'.gens) s₁:=by
   intro H hO hPt hS hok hA hK;have base_of:∀{b:A0} {o:Obj},s₁.heap.get? b=some o->H b=none->(hidT s₁.heap H).get? b=some o:=λe n=>MG e n
   have noA:∀{b:A0} {o:Obj},s₁.heap.get? b=some o->(∀n,o.data≠.seq vs.toArray n)->(∀ps,o.data≠.fields ps)->H b=none:=λ{b o} e d1 d2=>by
    cases q:H b with
    |none=>rfl
    | some u =>
     rcases hA b (by rw[q];simp) with e'|e'
     ·subst e';rw[ha] at e;cases e;exact absurd rfl (d1 _)
     ·subst e';rw[hP] at e;cases e;exact absurd rfl (d2 _)
   have nsK:∀{b:A0} {m:Str->Option A1},s₁.heap.Ns b m->(hidT s₁.heap H).Ns b m:=λ{b m} ⟨o,es,ep,e,d,r⟩=>⟨o,es,ep,base_of e (noA e (λn z=>by rw[d] at z;cases z) (λn z=>by rw[d] at z;cases z)),d,r⟩
   have hKb:K.In (hidT s₁.heap H):=λb o e=>base_of (KX b o e) (by
    cases q:H b with
    |none=>rfl
    | some u =>
     rcases hA b (by rw[q];simp) with e'|e'
     ·subst e';rw[hK (by rw[q];simp)] at e;cases e
     ·subst e'
      rw[hKP] at e;cases e)
   have hM:Mod K mg (hidT s₁.heap H):=⟨hKb,nsK hns,⟨mb,nsK hb,hbb⟩,let ⟨mc,h1,h2⟩:=hlim;⟨mc,nsK h1,h2⟩⟩
   have hC':CodeHd (hidT s₁.heap H) cd Pt:=by
    obtain⟨o,vs',file,tf,flags,tg,inF,text,tt,e1,r1,r2,r3,r4,r5,r6,r7,r8,hne⟩:=hC;refine⟨o,vs',file,tf,flags,tg,inF,text,tt,base_of e1 ?_,r1,r2,r3,r4,r5,r6,r7,r8,hne⟩;cases q:H cd with
    |none=>rfl
    | some u =>
     rcases hA cd (by rw[q];simp) with e'|e'
     ·subst e';rw[ha] at e1;cases e1;have z:L5 "list"=L5 "code":=r1;injection z with z;exact absurd z (by decide)
     ·exact absurd e' hne
   have hB':(hidT s₁.heap H).BuiltinsAt mg Pt:=by
    obtain⟨bm,o,z1,z2,z3,z4,z5,z6,z7,z8⟩:=hB;exact⟨bm,o,z1,z2,z3,z4,base_of z5 (noA z5 (λn z=>by rw[z8] at z;cases z) (λn z=>by rw[z8] at z;cases z)),z6,z7,z8⟩
   have nsy:NS H:=by
    rcases hO N6 with z|⟨o,xs,z⟩|⟨z,_⟩
    ·exact .inl z
    ·exact .inr ⟨o,_,z⟩
    ·exact absurd z hsy
   have e0:Env0 P w K mg (hidT s₁.heap H) callerA [] s₁ H:=⟨rfl,hM,λb o e=>MH e,Cr (MF _ _),trivial,λb hb=>absurd (show b∈([]:List A0) from hb) (by simp),hok,.of_eq hg,nsy⟩;refine x8 ((F _ hKb (nsK hns) hC' hB').run callerA [] s₁ H ⟨[.ref a],[]⟩ [.ref a] [.ref a] _ _ hr e0 (hbind s₁ (.ref a)) (.cons rfl .nil) (hsp H hO hPt hS)) λr s' h=>?_;cases r with
   |error e=>exact(hCX H e s' h).elim
   | ok fl =>
    cases fl with
    |next=>exact Z5 h
    |brk=>exact Z5 h
    |cont=>exact Z5 h
    | ret u =>
     obtain⟨v,H',os,bare,un,hok',r',q⟩:=h;have q':v=.bl true:=q;subst q';obtain rfl:u=Value.bool true:=r'
     have kept:∀b o,b≠Pt->s₁.heap.get? b=some o->s'.heap.get? b=some o:=λb o hb e=>by
      cases q:H b with
      |none=>exact un.keep b o e q (by intro z;exact absurd (show b∈([]:List A0) from z) (by simp)) (by simp)
      | some u =>
       rcases hO b with z|⟨ob,xs,z⟩|⟨z,_⟩
       ·rw[q] at z;cases z
       ·have z2:=un.frzs b ob _ z;obtain⟨e1,_⟩:=hok b _ z;obtain⟨e2,_⟩:=hok' b _ z2;rw[e] at e1;cases e1;exact e2
       ·exact absurd z hb
     obtain⟨more,hm⟩:=un.tbls Pt #[] hPt;have eP:s'.heap.get? Pt=some (tabObj (#[]++more)):=hok' Pt _ hm;refine⟨rfl,⟨λb o e=>?_,λb o e=>?_⟩,os,bare⟩
     ·by_cases hb:b=Pt
      ·subst hb;rw[hP] at e;cases e;exact .inr (.inl ⟨(hC.tab hP).isCodeTable,rfl,#[],more,rfl,eP⟩)
      ·exact .inl (kept b o hb e)
     ·by_cases hb:b=Pt
      ·subst hb;exact⟨_,eP⟩
      ·exact⟨o,kept b o hb e⟩
 have tabOk:∀(H:Hp),G7 P w H s₁.heap Pt (.tbl #[]):=λH=>hP;cases hk:K.lookup a with
 | some o =>
  have e:=KX a o hk;rw[ha] at e;cases e;refine core (λb=>if b=Pt then some (.tbl #[]) else none) (λb=>?_) (jr rfl) (.inr ⟨_,vs.toArray,_,hk,rfl,rfl,rfl,by rw[F4,lenV];exact hl,by simpa using rv⟩) (λb u z=>?_) (λb z=>?_) λz=>absurd (jt haP) z
  ·by_cases hb:b=Pt
   ·exact .inr (.inr ⟨hb,jr hb⟩)
   ·exact .inl (jt hb)
  ·by_cases hb:b=Pt
   ·have z':=(jr hb).symm.trans z;cases z';subst hb;exact tabOk _
   ·have z':=(jt hb).symm.trans z;cases z'
  ·by_cases hb:b=Pt
   ·exact .inr hb
   ·exact absurd (jt hb) z
 | none =>
  refine core (λb=>if b=Pt then some (.tbl #[]) else if b=a then some (.frz { cls:=.type "list",data:=.seq vs.toArray } (.lst (ns.map V.int))) else none) (λb=>?_) (jr rfl) (.inl (.inr ⟨{ cls:=.type "list",data:=.seq vs.toArray },?_⟩)) (λb u z=>?_) (λb z=>?_) λ_=>hk
  ·by_cases hb:b=Pt
   ·exact .inr (.inr ⟨hb,jr hb⟩)
   ·by_cases hb2:b=a
    ·exact .inr (.inl ⟨_,_,by simp only[jt hb,jr hb2];rfl⟩)
    ·exact .inl (by simp only[jt hb,jt hb2])
  ·show(if a=Pt then _ else if a=a then _ else _)=_;rw[jt haP,jr rfl]
  ·have z:(if b=Pt then some (HO.tbl #[]) else if b=a then some (.frz { cls:=.type "list",data:=.seq vs.toArray } (.lst (ns.map V.int))) else none)=some u:=z
   by_cases hb:b=Pt
   ·rw[jr hb] at z;cases z;subst hb;exact tabOk _
   ·rw[jt hb] at z
    by_cases hb2:b=a
    ·rw[jr hb2] at z;cases z;subst hb2;exact⟨ha,by rw[B8];exact hl,vs,_,rv,ha⟩
    ·rw[jt hb2] at z;cases z
  ·by_cases hb:b=Pt
   ·exact .inr hb
   ·by_cases hb2:b=a
    ·exact .inl hb2
    ·exact absurd (show(if b=Pt then _ else if b=a then _ else none)=none by rw[jt hb,jt hb2]) z
structure Fn0C (K:Frag)(mg:Str->Option A1)(x:Str)(st:Stmt)(cd:A0):Prop where
 ex:∃(f:A0) (oc:A1) (od:Option A0) (kV doc pm:A1) (an:Option A0) (ct:A1) (osl:Array (Option A1)),K.lookup f=some ⟨oc,od,.func (fnOf x x (R9 st) (N3 st) (F3 st) .none kV doc pm an (.ref cd) ct),osl⟩/\codeIn K (.ref cd) x=true/\keepIn K (.ref f)=true/\mg x=some (.ref f)
theorem Qk {K:Frag}{h:B7}{mg:Str->Option A1}{x:Str}{st:Stmt}(X:K.In h)(G:h.Ns R1 mg){f cd:A0}{oc:A1}{od an:Option A0}{osl:Array (Option A1)}{kV doc pm ct:A1}
   (a:nsIn K R1 x=some (some (.ref f))) (l:K.lookup f=some ⟨oc,od,.func (fnOf x x (R9 st) (N3 st) (F3 st) .none kV doc pm an (.ref cd) ct),osl⟩)
   (c:codeIn K (.ref cd) x=true) (k:keepIn K (.ref f)=true):Fn0C K mg x st cd:=⟨f,oc,od,kV,doc,pm,an,ct,osl,l,c,k,mg_of X G a⟩
section
variable {P:D1}{w:C8}{K:Frag}{mg:Str->Option A1}{base:B7}
theorem Fn0C.ok {x:Str}{st:Stmt}{cd:A0}{N ps:List Str}{k:Nat}{sp:Sp}(F:Fn0C K mg x st cd)(S:R8 N ps (F3 st))(len:∀vs H Q E,sp vs H Q E->vs.length=ps.length)
   (bd:∀(kV doc pm:A1) (an:Option A0) (jn ct:A1) (us:List A1),us.length=ps.length->V9 (fnOf x x (R9 st) (N3 st) (F3 st) .none kV doc pm an jn ct) ⟨us,[]⟩=pure (ps.zip us))
   (hbody:∀(f:A0) (A:D5) (outer:List Env) (s:A5) (H:Hp) (vs:List V) (Q:VK) (E:XK),Room k (A.deeper (envOfC x (F3 st) s.heap.objs.size f (.ref cd)))->sp vs H Q E->
     ∃t,PSs (cxOf CX0 P w K mg base N x (F3 st) f (.ref cd) A outer s H E).nox (N3 st) t/\t { nx:=λ_ H'=>Q .non H',rt:=Q } (start N vs) H):Kn P w K mg base x (k+1) ps sp:=by
 obtain⟨f,oc,od,kV,doc,pm,an,ct,osl,l,hcd,kp,m⟩:=F.ex;refine⟨f,_,fn_of l hcd S len λA outer s H vs Q E hr hsp=>?_,.all (bd kV doc pm an (.ref cd) ct),kp,m,oc,od,osl,l⟩;obtain⟨t,h,q⟩:=hbody f A outer s H vs Q E hr hsp;exact⟨t,h.nox,q⟩
end
def EY (K:Frag)(Pt:A0):Sp:=λvs H Q _=>∃(a:A0) (ns:List Int),vs=[.ref a]/\SqL K H a (ns.map V.int)/\ns.length<=63/\HI Pt H/\H Pt=some (.tbl #[])/\∀H',Q (.bl true) H'
theorem Ql {l:OpenLaw}{q:D1}{loose:List Str}{XP:(Str->Option A1)->B7->Prop}{d:DefRec}{K:Params->Frag}{as:List A0}{e:∀P,as=(K P).map (·.1)}{Pt:A0}{x:Str}{k:Nat}(hn:l.most=some 63)(hdf:d.params.defaults=[])(hk:Room k callerA)(hsy:N6≠Pt)
   (F:∀(w:C8) (mg:Str->Option A1) (h:B7),(K w.params).In h->h.Ns R1 mg->∃st x' st',Fn0 (K w.params) mg d.name st/\(∃cd,Fn0C (K w.params) mg x' st' cd/\codeHdIn (K w.params) cd Pt=true)/\(K w.params).lookup Pt=none/\
     (∀(kV doc pm:A1) (an:Option A0) (jn ct:A1) (s:A5) (u:A1),BindsTo s (fnOf d.name d.name (R9 st) (N3 st) (F3 st) .none kV doc pm an jn ct) ⟨[u],[]⟩ [(x,u)])/\
     ∀cd,Fn0C (K w.params) mg x' st' cd->∀base:B7,(K w.params).In base->base.Ns R1 mg->CodeHd base cd Pt->base.BuiltinsAt mg Pt->Kn l.prog w (K w.params) mg base d.name k [x] (EY (K w.params) Pt)) :
   WalkO q loose XP (kmHook K as e [Pt]).says l.row.toRowW d [] (λf vs=>PySem.call f vs):=by
 refine Att.attach_call hn hdf λw s₀ s₁ mg mb fa o pm jn doc a vs ns G Y ho hd hcd hmg hobj hints hlen hg=>?_;have KX:=km_in_of Y;have hP:=km_tabs_of Y Pt C3;obtain⟨st,x',st',F0,⟨cd,fC,hhd⟩,hKP,hb,hF⟩:=F w mg _ KX G.T.g;obtain⟨f,fd,F1,m⟩:=F0.ex;have e:=hmg.symm.trans m;cases e;have hC:=codeHd_of_K KX hhd
 have hB:s₁.heap.BuiltinsAt mg Pt:=by
  obtain⟨bm,ob,b1,b2,b3,b4,b5,b6⟩:=G.T.bmain;refine⟨bm,ob,b1,b2,λq=>?_,λq=>?_,b3,b4,b5,b6⟩
  ·obtain⟨o,es,ep,e,hd,_⟩:=G.T.g;rw[q,e] at b3;cases b3;rw[hd] at b6;cases b6
  ·rw[q,hP] at b3;cases b3;cases b4
 refine Qj (x:=x) (CX:=CX0) (sp:=EY (K w.params) Pt) (fd:=fd) KX G.T.g G.T.b G.T.builtins G.T.nolimit hg hobj hints (N1 hlen (by decide)) hk hP hC hB hKP hsy (λbase kb nb c1 c2=>?_) (λs u=>?_) (λH hO hPt hS=>⟨a,ns,rfl,hS,hlen,hO,hPt,λ_=>rfl⟩) λ_ _ _ z=>z
 ·obtain⟨f',fd',a',b',c',m',oc',od',osl',lk'⟩:=(hF cd fC base kb nb c1 c2).ex;have e:=m.symm.trans m';cases e;obtain⟨oc,od,kV,doc,pm,an,jn,ct,osl,_,lk,hcd⟩:=F1.ex;have e2:=lk.symm.trans lk';cases e2;exact a'
 ·obtain⟨oc,od,kV,doc,pm,an,jn,ct,osl,rfl,lk,hcd⟩:=F1.ex;exact hb kV doc pm an jn ct s u
end L2
namespace Pu
open PySem PySem.W PySem.Spec L2
section
variable {P:D1}{w:C8}{K:A8}{mg:Str->Option A1}{base:B7}{T:PotK}{Pt:A0}{lpos:Pos}{qual:Str}
theorem fn_okC {x:Str}{st:Stmt}{cd:A0}{N ps:List Str}{k:Nat}{body:pS}(F0:Fn0C K mg x st cd)(sc:R8 N ps (F3 st))
   (bd:∀(kV doc pm:A1) (an:Option A0) (jn ct:A1) (us:List A1),us.length=ps.length->V9 (U8 x x (R9 st) (N3 st) (F3 st) .none kV doc pm an jn ct) ⟨us,[]⟩=pure (ps.zip us))
   (h:∀(f:A0) (A:D5) (outer:List PySem.Env) (s:A5) (H:Hp) (E:XK),Room k (A.deeper (DV x (F3 st) s.heap.objs.size f (.ref cd)))->
     QSs T false K (λ_:Unit=>(cxOf CX0 P w K mg base N x (F3 st) f (.ref cd) A outer s H E).nox) (N3 st) body) :
   Kn P w K mg base x (k+1) ps (E6 K T (fnP N ps body)):=by
 refine F0.ok sc (λvs H Q E h=>?_) bd (λf A outer s H vs Q E hr hsp=>?_)
 ·obtain⟨G,xs,n,R,_,_,_,r,hf,_⟩:=h;rw[<- r.length];exact hf.1
 ·obtain⟨t,h1,h2⟩:=h f A outer s H E hr;obtain⟨G,xs,n,R,hp,hm,hh,r,hf,k'⟩:=hsp;refine⟨t,h1 (),?_⟩;have S0:=Hf (N:=N) (np:=false) hp hm hh r
  have fin:∀(x:PV) (n':Nat) (v:V) (G':Gh) (σ:St) (H':Hp) (env:Env),R x n'->SR ⟨K,T,G.M,G.pots,H,false⟩ G' σ H' env n'->Rep K ⟨G.M,G'.pots⟩ H' x v->Q v H':=by
   intro x n' v G' σ H' env rr S' rv
   have ep:G'.pots=G.pots:=by
    obtain⟨l,el,hl⟩:=S'.pre;rcases hl with hl|hl
    ·rw[el,hl,W8]
    ·cases hl
   rw[ep] at rv;exact k' _ _ _ _ rr rv (λp hp'=>T.more (S'.pots p (by rw[ep];exact hp')).2 λa ha=>.inl (S'.sup a ha)) S'.frame
  refine h2 _ G _ H _ n _ _ rfl rfl rfl S0 hf.2 ⟨λenv n' G' σ H' q S' _=>?_,λx n' v G' σ H' env q S' rv _=>fin x n' v G' σ H' env q S' rv,λ_ _ _ _ _ q=>q.elim,λ_ _ _ _ _ q=>q.elim⟩;exact fin .non n' .non G' σ H' env q S' rfl
theorem Qm {x:Str}{st:Stmt}{N:List Str}{y:Str}{k:Nat}{body:pS}(F0:Fn0 K mg x st)(sc:R8 N [y] (F3 st))
   (bd:∀(kV doc pm:A1) (an:Option A0) (jn ct:A1) (us:List A1),us.length=[y].length->V9 (U8 x x (R9 st) (N3 st) (F3 st) .none kV doc pm an jn ct) ⟨us,[]⟩=pure ([y].zip us))
   (h:∀(f:A0) (jn:A1) (A:D5) (outer:List PySem.Env) (s:A5) (H:Hp) (E:XK),Room k (A.deeper (DV x (F3 st) s.heap.objs.size f jn))->
     QSs (tabK T Pt lpos qual) true K (λ_:Unit=>(cxOf CX0 P w K mg base N x (F3 st) f jn A outer s H E).nox) (N3 st) body)
   (hlaw:∀ns:List Int,ns.length<=63->body ⟨λ_ _=>False,λr _=>r=.bl true,λ_ _=>False,λ_ _=>False⟩ (u4 N [.scr ns]) 0) :
   Kn P w K mg base x (k+1) [y] (EY K Pt):=by
 refine F0.ok sc (λvs H Q E h=>?_) bd (λf jn A outer s H vs Q E hr hsp=>?_)
 ·obtain⟨a,ns,rfl,_⟩:=h
  rfl
 ·obtain⟨t,h1,h2⟩:=h f jn A outer s H E hr;obtain⟨a,ns,rfl,hS,hl,hO,hPt,q⟩:=hsp;refine⟨t,h1 (),?_⟩
  let G:Gh:=⟨[Pt],[Pt]⟩
  have r:Reps K G H [.scr ns] [.ref a]:=by
   refine .one ⟨a,rfl,?_⟩;rcases hS with(hS|⟨o,hS⟩)|hS
   ·rcases hO a with z|⟨o,xs,z⟩|⟨_,z⟩
    ·rw[z] at hS;cases hS
    ·rw[z] at hS;cases hS
    ·rw[z] at hS;cases hS
   ·refine .inl ⟨λz=>?_,o,hS⟩;rw[E2.mp (show a∈[Pt] from z),hPt] at hS;cases hS
   ·exact .inr hS
  have S0:=Hf (T:=tabK T Pt lpos qual) (N:=N) (np:=true) (n:=0) (G:=G) (λp hp=>by
      rw[E2.mp (show p∈[Pt] from hp)];exact⟨C3,.inr ⟨rfl,#[],hPt,trivial,.inl rfl⟩⟩) (λa ha=>by
      rw[E2.mp (show a∈[Pt] from ha)]
      exact⟨_,hPt,trivial⟩) ⟨[],rfl,by simp⟩ r
  refine h2 _ G _ H _ 0 _ _ rfl rfl rfl S0 (hlaw ns hl) ⟨λ_ _ _ _ _ q=>q.elim,λx n' v G' σ H' env qq S' rv _=>?_,λ_ _ _ _ _ q=>q.elim,λ_ _ _ _ _ q=>q.elim⟩;subst qq;obtain rfl:v=.bl true:=rv;exact q H'
end
end Pu
namespace L2
open PySem PySem.W PySem.Spec PyProof.Rows
theorem Qn {X:Cx}{k:Nat}{scope:G5}{N:List Str}{qual:Str}{f c':A0}{cl:List (Str×A0)}{s:A5}{H:Hp}(hr:Room (k+3) X.A):Room k (BO X scope N qual f c' cl s H).A:=((hr.in1).in1).deeper _
theorem Qo {scope:G5}{x y:Str}(kind:scope.kind=.function)(co:scope.isCoroutine=false)(gen:scope.isGenerator=false)(hx:scope.names.lookup x=some .local)(hy:scope.names.lookup y=some .free)
   (fr:(scope.names.filter λz=>z.2 == .free).map (·.1)=[y]) (nc:∀z∈scope.names,z.2≠.cell) (ne:(y == x)=false):Dd scope x y:=by
 refine⟨kind,co,gen,hx,hy,λz hz=>?_,nc,ne⟩;have h1:z∈(scope.names.filter λz=>z.2 == .free).map (·.1):=G0.mpr ⟨(z,.free),O8.mpr ⟨d9 hz,rfl⟩,rfl⟩;rw[fr] at h1;exact E2.mp h1
abbrev ptOf {h:B7}{c P:A0}(_:PySem.W.CodeHd h c P):A0:=P
end L2
end
section
namespace Pu
open PySem L2
theorem De {tt:pT}{rest:Pu.Env}{α:Type}(f:α->PV)(c:α->Bool):∀(xs:List α) (s0:Option Slot) (n:Nat) (R:List PV->Nat->Prop),(∀x∈xs,∀m Q,Q (c x) (some (.v (f x))::rest) m->tt (some (.v (f x))::rest) m Q)->R ((xs.filter c).map f) n->T3 (gN 0) tt (qV 0) (xs.map f) (s0::rest) n R
 |[],_,_,_,_,h=>h
 | x :: xs, s0, n, R, ht, h => by
  show tt (some (.v (f x))::rest) n _;refine ht x C3 n _ ?_
  by_cases hc:c x=true
  ·rw[jr hc];rw[List.filter_cons,jr hc] at h;show T3 (gN 0) tt (qV 0) (xs.map f) (some (.v (f x))::rest) n _;exact De f c xs _ n _ (λy hy=>ht y (C2 _ hy)) h
  ·rw[jt hc];rw[List.filter_cons,jt hc] at h;exact De f c xs _ n _ (λy hy=>ht y (C2 _ hy)) h
end Pu
end
section
namespace Pu
open PySem PySem.Spec L2
def lt (f t:Int)(k:Nat):Nat:=97+((f+(k:Int)*t)%26).toNat
theorem BR {zs:List Str}:memP (.str z) (zs.map PV.str)=decide (z∈zs):=by
 unfold memP;rw[AV,i5,U9,decide_eq_true_iff];constructor
 ·rintro⟨y,hy,e⟩;have e':decide (y=z)=true:=by rw[<- U4];exact e
  rw[<- ju e'];exact hy
 ·intro h;refine⟨z,h,?_⟩;show eqP (.str z) (.str z)=true;rw[U4];exact jp rfl
theorem Df (zs:List Str)(d:Nat):(zs.map PV.str).all (cmpb d)=true:=by
 rw[List.all_map,E4];intro x _;cases d <;> rfl
theorem j9 {zs:List Str}(hP:zs.map PV.str=P)(h:R (.bl (decide (z∈zs)))):wIn 4 false (.str z) (.tup P) R:=by
 subst hP;exact⟨rfl,Df zs 4,by rw[BR];exact h⟩
theorem EZ {zs:List Str}(hP:zs.map PV.str=P)(h:R (.bl (!decide (z∈zs)))):wIn 4 true (.str z) (.tup P) R:=by
 subst hP;exact⟨rfl,Df zs 4,by rw[BR];exact h⟩
theorem HJ {zs:List Str}(hP:zs.map PV.str=P)(h:R (.bl (decide (z∈zs)))):wIn 4 false (.str z) (.lst P) R:=by
 subst hP;exact⟨rfl,Df zs 4,by rw[BR];exact h⟩
theorem HK {zs:List Str}(hP:zs.map PV.str=P)(h:R (.bl (!decide (z∈zs)))):wIn 4 true (.str z) (.lst P) R:=by
 subst hP;exact⟨rfl,Df zs 4,by rw[BR];exact h⟩
def RowS (zs:List Str):Prop:=zs.Nodup/\∀z∈zs,F6 z
abbrev rowP (zs:List Str):PV:=.tup (zs.map PV.str)
inductive Ev where
 |d (x:Str)|t (x y:Str)
abbrev DROP:Str:=A7 "drop"
abbrev L0:Str:=A7 "touch"
def evK:Ev->List Key
 |.d x=>[.inr DROP,.inr x]
 |.t x y=>[.inr L0,.inr x,.inr y]
def evP (e:Ev):PV:=tupP (evK e)
theorem d7 (x:Str):evP (.d x)=.tup [.str DROP,.str x]:=rfl
theorem J1 (x y:Str):evP (.t x y)=.tup [.str L0,.str x,.str y]:=rfl
def shP (es:List Ev):PV:=.tup (es.map evP)
theorem ev_al (a b:Ev):Al (evK a) (evK b):=by grind [Al,Ev,evK]
theorem ev_ne (e:Ev):evK e≠[]:=by cases e <;> simp[evK]
theorem HL (es:List Ev):∀ys:List PV,(∀y∈ys,y∈es.map evP)->∃es':List Ev,ys=es'.map evP/\∀e∈es',e∈es
 |[],_=>⟨[],rfl,λ_ z=>nomatch z⟩
 | y :: ys, h => by
  obtain⟨e,he,rfl⟩:=G0.mp (h y C3);obtain⟨es',rfl,h2⟩:=HL es ys λz hz=>h z (C2 _ hz);exact⟨e::es',rfl,λz hz=>(C6.mp hz).elim (λe'=>e'▸he) (h2 z)⟩
theorem Qp (es:List Ev):HB (es.map evP):=by
 refine .inr (.inr ⟨λx hx=>?_,λx hx y hy=>?_⟩)
 ·obtain⟨e,_,rfl⟩:=G0.mp hx;exact⟨evK e,rfl,ev_ne e⟩
 ·obtain⟨e,_,rfl⟩:=G0.mp hx;obtain⟨e',_,rfl⟩:=G0.mp hy;unfold evP tupP;rw[d4,d4];exact ev_al e e'
theorem Qq (h:Srt ys (es.map evP)):∃es':List Ev,ys=es'.map evP/\es'.Perm es:=by
 obtain⟨es',rfl,_⟩:=HL es ys λy hy=>h.1.mem_iff.mp hy;refine⟨es',rfl,?_⟩;have:=h.1;clear h
 have inj:∀{a b:List Ev},(a.map evP).Perm (b.map evP)->a.Perm b:=by
  intro a b p;have h1:=p.map λy=>(match y with|.tup [_,.str x]=>Ev.d x|.tup [_,.str x,.str y]=>Ev.t x y|_=>Ev.d (A7 ""));rw[V1,V1] at h1
  have e:((λy=>(match y with|PV.tup [_,.str x]=>Ev.d x|.tup [_,.str x,.str y]=>Ev.t x y|_=>Ev.d (A7 "")))∘evP)=id:=by
   funext e
   cases e <;> rfl
  rw[e,List.map_id,List.map_id] at h1;exact h1
 exact inj this
def evB:Ev->List Str
 |.d x=>[x]
 |.t x y=>[x,y]
theorem nd_ix {zs:List Str}(nd:zs.Nodup){i j:Nat}(h1:zs[i]?=some z)(h2:zs[j]?=some z):i=j:=by
 obtain⟨l1,e1⟩:=F7.mp h1;obtain⟨l2,e2⟩:=F7.mp h2;rcases l8 i j with h|h|h
 ·exact absurd (e1.trans e2.symm) (W5.mp nd i j l1 l2 h)
 ·exact h
 ·exact absurd (e2.trans e1.symm) (W5.mp nd j i l2 l1 h)
def ixS (zs:List Str)(z:Str):Nat:=zs.findIdx λy=>decide (y=z)
theorem AA (h:z∈zs):zs[ixS zs z]?=some z/\∀i,i<ixS zs z->zs[i]?≠some z:=by
 unfold ixS;have hl:zs.findIdx (λy=>decide (y=z))<zs.length:=List.findIdx_lt_length_of_exists ⟨z,h,by simp⟩;refine⟨?_,λi hi e=>?_⟩
 ·rw[D3 hl];have:=List.findIdx_getElem (w:=hl);rw[ju this]
 ·have:=List.not_of_lt_findIdx hi;obtain⟨l1,e1⟩:=F7.mp e;rw[e1] at this;simp at this
theorem HM (h:z∈zs):ixS zs z<zs.length:=(F7.mp (AA h).1).1
theorem m_ix (hP:zs.map PV.str=P)(h:z∈zs)(hl:zs.length<=1000000)(q:R (.int (ixS zs z))):u8 (.tup P) (.str z) R:=by
 subst hP;unfold u8;dsimp only;rw[EF];exact⟨hl,ixS zs z,(AA h).1,(AA h).2,q⟩
end Pu
end
section
namespace Pu
open PySem PySem.Spec L2
inductive Mk where
 |d|o|t|u
 deriving DecidableEq
def run (r:Int):Nat->List Nat->List Mk->Option (List Nat)
 |_,st,[]=>some st
 |k,st,.t::m=>run r (k+1) (k::st) m
 |k,st,.d::m=>run r (k+1) st m
 |k,[],.o::m=>run r (k+1) [] m
 |_,_::_,.o::_=>none
 |_,[],.u::_=>none
 |k,p::st,.u::m=>if(k:Int)-p-1<=r then run r (k+1) st m else none
def Cl (r:Int)(k:Nat)(m:List Mk):Prop:=∀st,run r k st m=some st
theorem Cl.d (h:Cl r (k+1) m):Cl r k (.d::m):=λst=>h st
inductive PE where
 |d (i:Nat)|t (i j:Nat)
def nm (zs:List Str)(i:Nat):Str:=zs.getD i (A7 "")
theorem Dg {zs:List Str}{i:Nat}(h:i<zs.length):zs[i]?=some (nm zs i):=by grind [nm]
theorem E_ (h:i<zs.length):nm zs i∈zs:=J5 (Dg h)
theorem nm_inj (nd:zs.Nodup)(hi:i<zs.length)(hj:j<zs.length)(h:nm zs i=nm zs j):i=j:=nd_ix nd (Dg hi) (by rw[h];exact Dg hj)
structure Fair (zs:List Str)(es:List Ev):Prop where
 nd:(es.flatMap evB).Nodup
 sub:∀b∈es.flatMap evB,b∈zs
theorem Qr (hx:x∈zs)(hy:y∈zs)(h:ixS zs x=ixS zs y):x=y:=by
 have h1:=(AA hx).1;rw[h,(AA hy).1] at h1;exact(M7 h1).symm
theorem Dh {α β:Type}{f:α->β}{l:List α}{i:Nat}{y:β}(h:(l.map f)[i]?=some y):∃x,l[i]?=some x/\y=f x:=by
 rw[G6] at h;cases e:l[i]? with
 |none=>rw[e] at h;cases h
 |some x=>rw[e] at h;exact⟨x,rfl,(M7 h).symm⟩
theorem Fa {α:Type}{l:List α}{i:Nat}{x:α}(h:l[i]?=some x):l.take (i+1)=l.take i++[x]:=by
 rw[List.take_add_one,h];rfl
theorem cut_ab {α:Type}(xs:List α){a b:Nat}(h:b<=xs.length):cutP xs (some (a:Int)) (some (b:Int))=(xs.take b).drop a:=by
 unfold cutP;rw[HT.sIx_nat,HT.sIx_nat,DP h,List.drop_take];rcases Nat.le_total a xs.length with h2|h2
 ·rw[DP h2]
 ·rw[Nat.min_eq_right h2,Ci (B9 _),Ci h2];simp
theorem HN {α:Type}(xs:List α)(b:Nat):cutP xs none (some (b:Int))=xs.take b:=by
 unfold cutP;rw[HT.sIx_none,HT.sIx_nat,Cn,Nat.sub_zero];rcases Nat.le_total b xs.length with h2|h2
 ·rw[DP h2]
 ·rw[Nat.min_eq_right h2,AR (B9 _),AR h2]
theorem Fb {α:Type}(xs:List α)(a:Nat):cutP xs (some (a:Int)) none=xs.drop a:=by
 unfold cutP;rw[HT.sIx_nat,HT.sIx_none];rcases Nat.le_total a xs.length with h2|h2
 ·rw[DP h2];exact AR (by rw[W7];exact B9 _)
 ·rw[Nat.min_eq_right h2,Ci h2,Ci (B9 _)];simp
theorem RowS.perm {a b:List Str}(h:RowS a)(p:b.Perm a):RowS b:=by grind [RowS]
theorem at2_0 {α:Type}{a b:α}:atI [a,b] 0=some a:=rfl
theorem at2_1 {α:Type}{a b:α}:atI [a,b] 1=some b:=rfl
theorem at3_0 {α:Type}{a b c:α}:atI [a,b,c] 0=some a:=rfl
theorem at3_1 {α:Type}{a b c:α}:atI [a,b,c] 1=some b:=rfl
theorem at3_2 {α:Type}{a b c:α}:atI [a,b,c] 2=some c:=rfl
theorem Kt:decide (DROP=A7 "touch")=false:=by decide +kernel
theorem Qs:decide (L0=A7 "touch")=true:=by decide +kernel
theorem Qt:decide (L0=A7 "drop")=false:=by decide +kernel
def isTo:Ev->Bool
 |.d _=>false
 |.t _ _=>true
end Pu
end
section
namespace SeT
open PySem PySem.SetTable L2
def lp (mask:Nat)(h:Int):Nat->Nat×Nat
 |0=>(bits h%(mask+1),bits h)
 |k+1=>leap mask (lp mask h k).1 (lp mask h k).2
def rn (mask i:Nat):Nat:=runEnd mask i-i
def vs (mask:Nat)(h:Int)(k off:Nat):Nat:=(lp mask h k).1+off
theorem HP (mask:Nat)(h:Int):∀k,(lp mask h k).1<=mask
 |0=>Cq (Nat.mod_lt _ (Nat.succ_pos mask))
 |k+1=>Cq (Nat.mod_lt _ (Nat.succ_pos mask))
theorem rn_9 (mask i:Nat):rn mask i<=9:=by unfold rn runEnd;split <;> omega
theorem HQ {mask:Nat}(ho:off<=rn mask (lp mask h k).1):vs mask h k off<=mask:=by
 have:=HP mask h k;unfold rn runEnd at ho;unfold vs
 grind
theorem Ku (mask:Nat)(h:Int):∀k,(lp mask h k).2=bits h/32 ^ k
 |0=>by simp[lp]
 | k + 1 => by
  show(lp mask h k).2/32=_;rw[Ku mask h k,Nat.div_div_eq_div_mul,Nat.pow_succ]
theorem Qu (h:Int):bits h<2 ^ 64:=by
 unfold bits
 grind
theorem pert_0 (mask:Nat)(h:Int)(k:Nat)(hk:13<=k):(lp mask h k).2=0:=by
 rw[Ku];refine Nat.div_eq_of_lt (K7 (Qu h) ?_);exact N1 (by decide) (Nat.pow_le_pow_right (by decide) hk)
def orb (M:Nat):Nat->Nat
 |0=>0
 |m+1=>(orb M m*5+1)%M
def itr (M a:Nat):Nat->Nat
 |0=>a
 |m+1=>(itr M a m*5+1)%M
theorem HR (M m0:Nat):∀m,itr M (orb M m0) m=orb M (m0+m)
 |0=>rfl
 | m + 1 => by
  show(itr M (orb M m0) m*5+1)%M=(orb M (m0+m)*5+1)%M;rw[HR M m0 m]
theorem Kv {M:Nat}(h:orb M M=0):∀m,orb M (M+m)=orb M m
 |0=>h
 | m + 1 => by
  show(orb M (M+m)*5+1)%M=(orb M m*5+1)%M;rw[Kv h m]
theorem HS (mask:Nat)(h:Int):∀m,(lp mask h (13+m)).1=itr (mask+1) (lp mask h 13).1 m
 |0=>rfl
 | m + 1 => by
  show((lp mask h (13+m)).1*5+1+(lp mask h (13+m)).2/32)%(mask+1)=(itr (mask+1) (lp mask h 13).1 m*5+1)%(mask+1);rw[pert_0 mask h (13+m) (by omega),HS mask h m,Nat.zero_div,Nat.add_zero]
def Msk (mask:Nat):Prop:=mask=7\/mask=31\/mask=127
def chk (M:Nat):Bool:=(E5 M).all λe=>(E5 M).any λm=>orb M m == e
theorem chk8:chk 8=true:=by decide +kernel
theorem chk32:chk 32=true:=by decide +kernel
theorem chk128:chk 128=true:=by decide +kernel
theorem Kw (h:chk M=true)(he:e<M):∃m,m<M/\orb M m=e:=by simp_all [chk,orb]
theorem goes {mask:Nat}(hm:Msk mask)(h:Int)(he:e<=mask):∃K,K<=mask+14/\(lp mask h K).1=e:=by
 have ck:chk (mask+1)=true/\orb (mask+1) (mask+1)=0:=by
  rcases hm with rfl|rfl|rfl
  ·exact⟨chk8,by decide +kernel⟩
  ·exact⟨chk32,by decide +kernel⟩
  ·exact⟨chk128,by decide +kernel⟩
 obtain⟨m0,h0,e0⟩:=Kw ck.1 (Nat.lt_succ_of_le (HP mask h 13));obtain⟨m1,h1,e1⟩:=Kw ck.1 (Nat.lt_succ_of_le he)
 by_cases c:m0<=m1
 ·refine⟨13+(m1-m0),by omega,?_⟩;rw[HS,<- e0,HR,show m0+(m1-m0)=m1 by omega,e1]
 ·refine⟨13+(mask+1+m1-m0),by omega,?_⟩;rw[HS,<- e0,HR,show m0+(mask+1+m1-m0)=mask+1+m1 by omega,Kv ck.2,e1]
def Rise (xs:List Nat):Prop:=xs.Pairwise (· < ·)
theorem HU (xs:Array Nat)(j:Nat)(hr:Rise xs.toList):∀(fuel lo hi:Nat),lo<=hi->hi<=xs.size->hi-lo<=fuel->(∀(i:Nat) x,i<lo->xs[i]?=some x->x<j)->(∀(i:Nat) x,hi<=i->xs[i]?=some x->j<=x)->
   ∃p,below.go xs j fuel lo hi=p/\p<=xs.size/\(∀(i:Nat) x,i<p->xs[i]?=some x->x<j)/\(∀(i:Nat) x,p<=i->xs[i]?=some x->j<=x)
 |0,lo,hi,h1,h2,h3,h4,h5=>⟨lo,rfl,by omega,h4,λi x hi' e=>h5 i x (by omega) e⟩
 | fuel + 1, lo, hi, h1, h2, h3, h4, h5 => by
  unfold below.go
  by_cases c:lo<hi
  ·rw[jr c];have hm:(lo+hi)/2<xs.size:=by omega
   have hm1:lo<=(lo+hi)/2:=by omega
   have hm2:(lo+hi)/2<hi:=by omega
   dsimp only;generalize (lo+hi)/2=mid at hm hm1 hm2 ⊢;have eg:xs.getD mid j=xs[mid]:=by simp[Array.getD,hm]
   have em:xs[mid]?=some xs[mid]:=X0 hm
   have up:∀(a b:Nat) x y,a<b->xs[a]?=some x->xs[b]?=some y->x<y:=λa b x y hab ea eb=>by
    rw[<- P5] at ea eb;obtain⟨la,ea⟩:=F7.mp ea;obtain⟨lb,eb⟩:=F7.mp eb;rw[<- ea,<- eb];exact W5.mp hr a b la lb hab
   rw[eg]
   by_cases c2:xs[mid]<j
   ·rw[jr c2];refine HU xs j hr fuel (mid+1) hi (by omega) h2 (by omega) (λi x hi' e=>?_) h5;rcases Nat.lt_or_ge i mid with h|h
    ·exact Bb (up i mid x _ h e em) c2
    ·have:i=mid:=by omega
     subst this;rw[em] at e;cases e;exact c2
   ·rw[jt c2];refine HU xs j hr fuel lo mid (by omega) (by omega) (by omega) h4 λi x hi' e=>?_;rcases Nat.lt_or_ge mid i with h|h
    ·exact W9 (A_ (Ba c2) (up mid i _ x h em e))
    ·have:i=mid:=by omega
     subst this;rw[em] at e;cases e;exact Ba c2
  ·rw[jt c];exact⟨lo,rfl,by omega,h4,λi x hi' e=>h5 i x (by omega) e⟩
theorem Di (xs:Array Nat)(j:Nat)(hr:Rise xs.toList):below xs j<=xs.size/\(∀(i:Nat) x,i<below xs j->xs[i]?=some x->x<j)/\(∀(i:Nat) x,below xs j<=i->xs[i]?=some x->j<=x):=by
 obtain⟨p,e,h⟩:=HU xs j hr xs.size 0 xs.size (J9 _) (B9 _) (B9 _) (λi x hi _=>by omega) (λi x hi e=>by
  rw[DQ hi] at e;cases e)
 unfold below
 grind
theorem Qv (hr:Rise xs.toList)(h:xs[i]?=some j):below xs j=i:=by
 obtain⟨h1,h2,h3⟩:=Di xs j hr;rcases l8 (below xs j) i with c|c|c
 ·have hb:below xs j<xs.size:=Bb c (by
   obtain⟨l,_⟩:=FR.mp h;exact l)
  have e:=X0 hb;have a1:=h3 _ _ (B9 _) e;have e':=e;rw[<- P5] at e' h;obtain⟨la,ea⟩:=F7.mp e';obtain⟨lb,eb⟩:=F7.mp h;have:=W5.mp hr _ _ la lb c;rw[ea,eb] at this;omega
 ·exact c
 grind
theorem Kx {α:Type}(xs:Array α)(p:Nat)(x:α)(hp:p<=xs.size):(insertAt xs p x).toList=insL xs.toList p x:=by
 unfold insertAt insL;simp;exact AR (by grind)
theorem Qw (hr:Rise xs.toList)(hj:j∉xs.toList):Rise (insL xs.toList (below xs j) j):=by
 obtain⟨h1,h2,h3⟩:=Di xs j hr;unfold insL
 have mt:∀a∈xs.toList.take (below xs j),a<j:=λa ha=>by
  obtain⟨i,hi,e⟩:=List.mem_iff_getElem.mp ha;rw[List.getElem_take] at e;rw[P4] at hi;exact h2 i a (by omega) (by grind)
 have md:∀a∈xs.toList.drop (below xs j),j<a:=λa ha=>by
  obtain⟨i,hi,e⟩:=List.mem_iff_getElem.mp ha;rw[List.getElem_drop] at e;rw[W7] at hi;have hle:=h3 (below xs j+i) a (by omega) (by grind);have hne:a≠j:=λz=>hj (by grind);omega
 refine List.pairwise_append.mpr ⟨hr.sublist (List.take_sublist _ _),List.pairwise_cons.mpr ⟨md,hr.sublist (List.drop_sublist _ _)⟩,λa ha b hb=>?_⟩
 grind
end SeT
end
section
namespace SeT
open PySem PySem.SetTable L2
def Lx (k' o' k o:Nat):Prop:=k'<k\/(k'=k/\o'<o)
def Rch (mask:Nat)(O:Nat->Prop)(s:Nat)(h:Int):Prop:=∃k o,o<=rn mask (lp mask h k).1/\vs mask h k o=s/\∀k' o',o'<=rn mask (lp mask h k').1->Lx k' o' k o->O (vs mask h k' o')
theorem Rch.mono {mask:Nat}(r:Rch mask O s h)(f:∀x,O x->O' x):Rch mask O' s h:=by grind [Rch]
structure TOk (t:O3)(hs:List Int):Prop where
 size:t.place.toList.length=hs.length
 dum:t.dummies=#[]
 mask:Msk t.mask
 rise:Rise t.place.toList
 lim:∀s∈t.place.toList,s<=t.mask
 room:hs.length<t.mask
 reach:∀(i:Nat) s h,t.place.toList[i]?=some s->hs[i]?=some h->Rch t.mask (·∈t.place.toList) s h
section
variable {t:O3}{hs:List Int}{h:Int}
theorem TOk.fits (T:TOk t hs):t.fits hs.length=true:=by
 have h1:=T.size;have h2:=T.room;unfold SetTable.fits SetTable.fill;rw[T.dum]
 grind
theorem TOk.odd (T:TOk t hs):t.gaveWay=false:=by
 unfold SetTable.gaveWay;rcases T.mask with e|e|e <;> rw[e] <;> decide
theorem Kz (j:Nat):has #[] j=false:=by unfold has;simp
theorem TOk.slot_live (T:TOk t hs)(e:t.place.toList[i]?=some j):t.slot j=.live i:=by
 unfold SetTable.slot;have e':t.place[i]?=some j:=by rw[<- P5];exact e
 rw[Qv T.rise e'];simp[e']
theorem TOk.slot_empty (T:TOk t hs)(e:j∉t.place.toList):t.slot j=.empty:=by
 unfold SetTable.slot
 have:¬(t.place[below t.place j]? == some j)=true:=λz=>by
  have z':t.place[below t.place j]?=some j:=by simpa using z
  rw[<- P5] at z';exact e (J5 z')
 dsimp only;rw[jt this,T.dum,Kz]
 rfl
theorem TOk.free (T:TOk t hs):∃e,e<=t.mask/\e∉t.place.toList:=by
 refine Bk λz=>?_
 have sub:E5 (t.mask+1) ⊆ t.place.toList:=λx hx=>by
  refine Bk λy=>z ⟨x,Cq (L4.mp hx),y⟩
 have:=(List.nodup_range (n:=t.mask+1)).length_le_of_subset sub;rw[AU,T.size] at this;have:=T.room;omega
def pb (mask:Nat)(h:Int)(k o:Nat):Probe:={ j:=vs mask h k o,more:=rn mask (lp mask h k).1-o,i:=(lp mask h k).1,perturb:=(lp mask h k).2,dummy:=none }
theorem pb_adv (t:O3)(h:Int)(k o:Nat):t.advance (pb t.mask h k o)=if o<rn t.mask (lp t.mask h k).1 then pb t.mask h k (o+1) else pb t.mask h (k+1) 0:=by
 unfold SetTable.advance
 by_cases c:o<rn t.mask (lp t.mask h k).1
 ·rw[jr c,jr (show(pb t.mask h k o).more>0 by show rn t.mask (lp t.mask h k).1-o>0;omega)];unfold pb vs
  congr 1
 ·rw[jt c,jt (show ¬(pb t.mask h k o).more>0 by show ¬rn t.mask (lp t.mask h k).1-o>0;omega)]
  rfl
def nx (mask:Nat)(h:Int)(k o:Nat):Nat×Nat:=if o<rn mask (lp mask h k).1 then(k,o+1) else(k+1,0)
theorem pb_nx (t:O3)(h:Int)(k o:Nat):t.advance (pb t.mask h k o)=pb t.mask h (nx t.mask h k o).1 (nx t.mask h k o).2:=by
 rw[pb_adv];unfold nx;split <;> rfl
theorem nx_ok {mask:Nat}(ho:o<=rn mask (lp mask h k).1):(nx mask h k o).2<=rn mask (lp mask h (nx mask h k o).1).1:=by grind [lp,nx,rn]
theorem nx_lx {mask:Nat}(ho:o<=rn mask (lp mask h k).1)(ho':o'<=rn mask (lp mask h k').1)(l:Lx k' o' (nx mask h k o).1 (nx mask h k o).2):Lx k' o' k o\/(k'=k/\o'=o):=by grind [Lx,lp,nx,rn]
def far (K k o:Nat):Nat:=10*(K-k)+1-o
theorem KA {mask:Nat}(ho:o<=rn mask (lp mask h k).1)(hk:k<K):far K (nx mask h k o).1 (nx mask h k o).2<far K k o/\(nx mask h k o).1<=K/\((nx mask h k o).1=K->(nx mask h k o).2=0):=by
 have r9:=rn_9 mask (lp mask h k).1;unfold nx far
 grind
theorem KB (T:TOk t hs)(at_:Nat->Int)(ha:∀(i:Nat) x,hs[i]?=some x->at_ i=x){K e:Nat}(hK:(lp t.mask h K).1=e)(he:e∉t.place.toList):∀(fuel k o:Nat),k<=K->(k=K->o=0)->o<=rn t.mask (lp t.mask h k).1->far K k o<=fuel->
   ∃ k2 o2, o2 <= rn t.mask (lp t.mask h k2).1 /\ k2 <= K /\ (k2 = K -> o2 = 0) /\ ¬ Lx k2 o2 k o /\ (∀ k' o', o' <= rn t.mask (lp t.mask h k').1 -> ¬ Lx k' o' k o -> Lx k' o' k2 o2 -> ∃ (i : Nat) (x : Int), t.place.toList[i]? = some (vs t.mask h k' o') /\ hs[i]? = some x /\ x ≠ h) /\
     ((vs t.mask h k2 o2∉t.place.toList/\probe.go t at_ h fuel (pb t.mask h k o)=some (.empty (vs t.mask h k2 o2) none))\/
       ∃i,k2<K/\t.place.toList[i]?=some (vs t.mask h k2 o2)/\hs[i]?=some h/\probe.go t at_ h fuel (pb t.mask h k o)=some (.candidate (vs t.mask h k2 o2) i (pb t.mask h (nx t.mask h k2 o2).1 (nx t.mask h k2 o2).2)))
 | 0, k, o, h1, h2, h3, h4 => by
  have r9:=rn_9 t.mask (lp t.mask h k).1;unfold far at h4;have:¬k=K:=λz=>by have:=h2 z;omega
  omega
 | fuel + 1, k, o, h1, h2, h3, h4 => by
  have irr:¬Lx k o k o:=λz=>z.elim (Z4 k) λz=>Z4 o z.2
  by_cases hm:vs t.mask h k o∈t.place.toList
  ·obtain⟨i,hi⟩:=Cj.mp hm
   obtain⟨x,hx⟩:∃x,hs[i]?=some x:=by
    have:=(F7.mp hi).1;rw[T.size] at this;exact⟨_,D3 this⟩
   have hkK:k<K:=by
    refine Nat.lt_of_le_of_ne h1 λz=>?_;have o0:=h2 z;subst z;subst o0;exact he (by rw[<- hK];exact hm)
   have sl:=T.slot_live hi
   by_cases c:x=h
   ·subst c;refine⟨k,o,h3,h1,h2,irr,λk' o' _ n l=>absurd l n,.inr ⟨i,hkK,hi,hx,?_⟩⟩;unfold probe.go;rw[show(pb t.mask x k o).j=vs t.mask x k o from rfl,sl];dsimp only;rw[ha i x hx,beq_self_eq_true,jr rfl,pb_nx]
   ·obtain⟨f1,f2,f3⟩:=KA (K:=K) h3 hkK;obtain⟨k2,o2,a1,a2,a3,a4,a5,a6⟩:=KB T at_ ha hK he fuel (nx t.mask h k o).1 (nx t.mask h k o).2 f2 f3 (nx_ok h3) (by omega)
    have step:probe.go t at_ h (fuel+1) (pb t.mask h k o)=probe.go t at_ h fuel (pb t.mask h (nx t.mask h k o).1 (nx t.mask h k o).2):=by
     rw[<- pb_nx]
     conv=>lhs;unfold probe.go
     rw[show(pb t.mask h k o).j=vs t.mask h k o from rfl,sl];dsimp only;rw[ha i x hx,jt (by simpa using c)]
    rw[step];refine⟨k2,o2,a1,a2,a3,λz=>a4 ?_,λk' o' p1 p2 p3=>?_,a6⟩
    ·unfold nx
     split
     ·rcases z with z|⟨rfl,z⟩
      ·exact .inl z
      ·exact .inr ⟨rfl,by show o2<o+1;omega⟩
     ·rcases z with z|⟨rfl,z⟩
      ·exact .inl (by show k2<k+1;omega)
      ·exact .inl (by show k2<k2+1;omega)
    ·by_cases c2:Lx k' o' (nx t.mask h k o).1 (nx t.mask h k o).2
     ·rcases nx_lx h3 p1 c2 with c3|⟨rfl,rfl⟩
      ·exact absurd c3 p2
      ·exact⟨i,x,hi,hx,c⟩
     ·exact a5 k' o' p1 c2 p3
  ·refine⟨k,o,h3,h1,h2,irr,λk' o' _ n l=>absurd l n,.inl ⟨hm,?_⟩⟩;unfold probe.go;rw[show(pb t.mask h k o).j=vs t.mask h k o from rfl,T.slot_empty hm]
   rfl
theorem TOk.put (T:TOk t hs)(hs1:s∉t.place.toList)(hl:s<=t.mask)(hr:Rch t.mask (·∈t.place.toList) s h)(hroom:hs.length+1<t.mask) :
   (t.put s).2=below t.place s/\(t.put s).2<=hs.length/\(t.put s).1.plain=t.plain/\(t.put s).1.led=t.led/\TOk (t.put s).1 (insL hs (t.put s).2 h):=by
 have p1:=(Di t.place s T.rise).1;have sz:t.place.size=hs.length:=by rw[<- T.size,M6]
 have pl:(t.put s).1.place.toList=insL t.place.toList (below t.place s) s:=Kx _ _ _ p1;have mk:(t.put s).1.mask=t.mask:=rfl
 have dm:(t.put s).1.dummies=#[]:=by
  show(if has t.dummies s then eraseAt t.dummies (below t.dummies s) else t.dummies)=#[];rw[T.dum,Kz];rfl
 refine⟨rfl,by show below t.place s<=_;omega,rfl,rfl,?_⟩;have hp:(t.put s).2=below t.place s:=rfl;rw[hp]
 have mem:∀x,x∈t.place.toList->x∈insL t.place.toList (below t.place s) s:=λx hx=>by
  unfold insL;rw[<- List.take_append_drop (below t.place s) t.place.toList] at hx;rcases J8.mp hx with hx|hx
  ·grind
  ·grind
 refine⟨?_,dm,by rw[mk];exact T.mask,by rw[pl];exact Qw T.rise hs1,λx hx=>?_,by rw[mk,EV];exact hroom,λi x y ex ey=>?_⟩
 ·rw[pl,EV,EV,T.size]
 ·rw[pl] at hx;rw[mk];unfold insL at hx;rcases J8.mp hx with hx|hx
  ·exact T.lim x (l5 hx)
  ·rcases C6.mp hx with rfl|hx
   ·exact hl
   ·exact T.lim x (AT hx)
 ·rw[pl] at ex ⊢;rw[mk];generalize below t.place s=p at *;have lt:(t.place.toList.take p).length=p:=by rw[P4,T.size];omega
  have lh:(hs.take p).length=p:=by rw[P4];omega
  unfold insL at ex ey;rcases l8 i p with c|c|c
  ·rw[W4 (by omega),List.getElem?_take,jr c] at ex ey;exact(T.reach i x y ex ey).mono mem
  ·subst c;rw[W3 (by omega),lt,Bd] at ex;rw[W3 (by omega),lh,Bd] at ey;cases ex;cases ey;exact hr.mono mem
  ·rw[W3 (by omega),lt,show i-p=(i-p-1)+1 by omega,AQ,DL,show p+(i-p-1)=i-1 by omega] at ex;rw[W3 (by omega),lh,show i-p=(i-p-1)+1 by omega,AQ,DL,show p+(i-p-1)=i-1 by omega] at ey;exact(T.reach (i-1) x y ex ey).mono mem
end
end SeT
end
section
namespace SeT
open PySem PySem.SetTable L2
structure Own (mask:Nat)(ow:Array (Option Nat))(sl:List Nat):Prop where
 size:ow.size=mask+1
 nd:sl.Nodup
 lim:∀s∈sl,s<=mask
 has:∀(k s:Nat),sl[k]?=some s->ow[s]?=some (some k)
 no:∀s,s<=mask->s∉sl->ow[s]?=some none
theorem Own.none {mask:Nat}(O:Own mask ow sl)(hs:s<=mask):(ow.getD s (some 0)).isNone=decide (s∉sl):=by
 rw[Ac]
 by_cases c:s∈sl
 ·obtain⟨k,hk⟩:=Cj.mp c;rw[O.has k s hk,jq (not_not_intro c)];rfl
 ·rw[O.no s hs c,jp c];rfl
theorem KC {mask:Nat}{ow:Array (Option Nat)}{sl:List Nat}{h:Int}(O:Own mask ow sl){K e:Nat}(hK:(lp mask h K).1=e)(he:e∉sl):∀(fuel k:Nat),k<=K->K-k<fuel->
   ∃k2 o2,o2<=rn mask (lp mask h k2).1/\layClean.free mask ow fuel (lp mask h k).1 (lp mask h k).2=some (vs mask h k2 o2)/\vs mask h k2 o2∉sl/\∀k' o',o'<=rn mask (lp mask h k').1->k<=k'->Lx k' o' k2 o2->vs mask h k' o'∈sl
 |0,k,_,h2=>absurd h2 (DO _)
 | fuel + 1, k, h1, h2 => by
  have le:=HP mask h k;have ge:(lp mask h k).1<=runEnd mask (lp mask h k).1:=by unfold runEnd;split <;> omega
  have er:runEnd mask (lp mask h k).1+1-(lp mask h k).1=rn mask (lp mask h k).1+1:=by unfold rn;omega
  have isn:∀o,o<=rn mask (lp mask h k).1->(ow.getD ((lp mask h k).1+o) (some 0)).isNone=decide (vs mask h k o∉sl):=λo ho=>O.none (HQ ho);unfold layClean.free;rw[er];cases ef:(E5 (rn mask (lp mask h k).1+1)).find? (λo=>(ow.getD ((lp mask h k).1+o) (some 0)).isNone) with
  | some o2 =>
   obtain⟨p1,p2,p3⟩:=List.find?_range_eq_some.mp ef;have ho2:o2<=rn mask (lp mask h k).1:=by have:=L4.mp p2;omega
   rw[isn o2 ho2] at p1;refine⟨k,o2,ho2,rfl,ju p1,λk' o' q1 q2 q3=>?_⟩;rcases q3 with q3|⟨rfl,q3⟩
   ·omega
   ·have:=p3 o' q3;rw[isn o' (by omega)] at this;exact Bk λz=>by rw[jp z] at this;cases this
  | none =>
   have all:∀o,o<=rn mask (lp mask h k).1->vs mask h k o∈sl:=λo ho=>by
    have:=List.find?_eq_none.mp ef o (L4.mpr (by omega));rw[isn o ho] at this;exact Bk λz=>this (jp z)
   have hkK:k<K:=by
    refine Nat.lt_of_le_of_ne h1 λz=>?_;subst z;exact he (by rw[<- hK];exact all 0 (J9 _))
   obtain⟨k2,o2,a1,a2,a3,a4⟩:=KC O hK he fuel (k+1) hkK (by omega);refine⟨k2,o2,a1,a2,a3,λk' o' q1 q2 q3=>?_⟩;rcases Nat.lt_or_ge k k' with c|c
   ·exact a4 k' o' q1 c q3
   ·have:k'=k:=by omega
    subst this;exact all o' q1
theorem Own.put {mask:Nat}{ow:Array (Option Nat)}{sl:List Nat}(O:Own mask ow sl){s:Nat}(hs:s<=mask)(hn:s∉sl):Own mask (ow.setIfInBounds s (some sl.length)) (sl++[s]) where
 size:=by rw[Array.size_setIfInBounds];exact O.size
 nd:=List.nodup_append.mpr ⟨O.nd,by simp,λa ha b hb e=>hn (by grind)⟩
 lim:=λx hx=>(J8.mp hx).elim (O.lim x) λz=>by rw[E2.mp z];exact hs
 has:=λk x e=>by
  have hsz:s<ow.size:=by rw[O.size];omega
  by_cases c:k<sl.length
  ·rw[W4 c] at e;have hx:x∈sl:=J5 e;rw[Array.getElem?_setIfInBounds_ne (λz=>hn (by grind))];exact O.has k x e
  ·grind
 no:=λx hx hx'=>by
  have n1:x∉sl:=λz=>hx' (AS _ z);have n2:s≠x:=λz=>hx' (O6 _ (by grind));rw[Array.getElem?_setIfInBounds_ne n2];exact O.no x hx n1
theorem Own.nil (mask:Nat):Own mask (DS (mask+1) (Option.none:Option Nat)) []:=by grind [Own]
def Fc (mask:Nat)(jk:Option (Array (Option Nat)×Nat))(h:Int):Option (Array (Option Nat)×Nat):=do
 let (owner,k) ← jk
 let j ← layClean.free mask owner (turns mask) (bits h%(mask+1)) (bits h)
 pure (owner.setIfInBounds j (some k),k+1)
theorem KD {mask:Nat}(hm:Msk mask):∀(rest done:List Int) (ow:Array (Option Nat)) (sl:List Nat),Own mask ow sl->sl.length=done.length->done.length+rest.length<=mask->(∀(k s:Nat) h,sl[k]?=some s->done[k]?=some h->Rch mask (·∈sl) s h)->
   ∃ow' sl',rest.foldl (Fc mask) (some (ow,done.length))=some (ow',(done++rest).length)/\Own mask ow' sl'/\sl'.length=(done++rest).length/\∀(k s:Nat) h,sl'[k]?=some s->(done++rest)[k]?=some h->Rch mask (·∈sl') s h
 |[],done,ow,sl,O,hl,hle,hr=>⟨ow,sl,by simp,O,by simpa using hl,λk s h e1 e2=>hr k s h e1 (by simpa using e2)⟩
 | h :: rest, done, ow, sl, O, hl, hle, hr => by
  rw[L8] at hle
  obtain⟨e,he1,he2⟩:∃e,e<=mask/\e∉sl:=by
   refine Bk λz=>?_;have sub:E5 (mask+1) ⊆ sl:=λx hx=>Bk λy=>z ⟨x,Cq (L4.mp hx),y⟩;have:=(List.nodup_range (n:=mask+1)).length_le_of_subset sub;rw[AU,hl] at this;omega
  obtain⟨K,hK1,hK2⟩:=goes hm h he1;obtain⟨k2,o2,a1,a2,a3,a4⟩:=KC O hK2 he2 (turns mask) 0 (J9 _) (by unfold turns;omega);have O':=O.put (HQ a1) a3
  have st:Fc mask (some (ow,done.length)) h=some (ow.setIfInBounds (vs mask h k2 o2) (some sl.length),(done++[h]).length):=by
   unfold Fc;show(layClean.free mask ow (turns mask) (lp mask h 0).1 (lp mask h 0).2).bind _=_;rw[a2,hl,E3]
   rfl
  have mem:∀x,x∈sl->x∈sl++[vs mask h k2 o2]:=λx hx=>AS _ hx
  obtain⟨ow',sl',b1,b2,b3,b4⟩:=KD hm rest (done++[h]) _ _ O' (by rw[E3,E3,hl];rfl) (by rw[E3,O7];omega) λk s x e1 e2=>by
   by_cases c:k<sl.length
   ·rw[W4 c] at e1;rw[W4 (by omega)] at e2;exact(hr k s x e1 e2).mono mem
   ·have hk:k=sl.length:=by
     have:=(F7.mp e1).1;rw[E3,O7] at this;omega
    subst hk;rw[W3 (B9 _),Bd] at e1;rw[W3 (by omega),hl,Bd] at e2;cases e1;cases e2;exact⟨k2,o2,a1,rfl,λk' o' q1 q2=>mem _ (a4 k' o' q1 (J9 _) q2)⟩
  refine⟨ow',sl',?_,b2,by rw[b3,T6];rfl,λk s x e1 e2=>b4 k s x e1 (by rw[T6];exact e2)⟩;rw[List.foldl_cons,st,b1,T6];rfl
theorem Qx (mask:Nat)(hs:Array Int):layClean mask hs=(hs.toList.foldl (Fc mask) (some (DS (mask+1) none,0))).map (·.1):=by
 unfold layClean;rw[<- Array.foldl_toList]
 rfl
def live (mask:Nat)(ow:Array (Option Nat)):List (Nat×Nat):=(E5 (mask+1)).filterMap λj=>(ow.getD j none).map (j,·)
theorem AB {mask:Nat}(O:Own mask ow sl):(j,k)∈live mask ow↔sl[k]?=some j:=by
 unfold live;rw[List.mem_filterMap];constructor
 ·rintro⟨x,hx,e⟩;have hxm:x<=mask:=Cq (L4.mp hx)
  by_cases c:x∈sl
  ·obtain⟨q,hq⟩:=Cj.mp c;rw[Ac,O.has q x hq] at e;have e':(x,q)=(j,k):=by simpa using e
   cases e';exact hq
  ·rw[Ac,O.no x hxm c] at e;cases e
 ·intro h;have hj:=O.lim j (J5 h);refine⟨j,L4.mpr (by omega),?_⟩;rw[Ac,O.has k j h];rfl
theorem KF (mask:Nat)(ow:Array (Option Nat)):Rise ((live mask ow).map (·.1)):=by
 unfold live Rise;rw[e9];refine List.Pairwise.filterMap _ (R:=(· < ·)) (λa b hab x hx y hy=>?_) List.pairwise_lt_range;cases e1:ow.getD a none with
 |none=>rw[e1] at hx;cases hx
 | some p =>
  cases e2:ow.getD b none with
  |none=>rw[e2] at hy;cases hy
  | some q =>
   rw[e1] at hx;rw[e2] at hy;have hx':(a,p)=x:=by simpa using hx
   have hy':(b,q)=y:=by simpa using hy
   rw[<- hx',<- hy'];exact hab
theorem Qy {mask:Nat}(O:Own mask ow sl):((live mask ow).map (·.2)).Perm (E5 sl.length):=by
 have nd:((live mask ow).map (·.2)).Nodup:=by
  have h1:(live mask ow).Pairwise λa b=>a.1<b.1:=e9.mp (KF mask ow);rw[Q6,e9];refine List.Pairwise.imp_of_mem (λ{a b} ha hb hab e=>?_) h1;have x1:=(AB (j:=a.1) (k:=a.2) O).mp ha;have x2:=(AB (j:=b.1) (k:=b.2) O).mp hb;rw[e] at x1;rw[x1] at x2;have:=M7 x2;omega
 refine(List.perm_ext_iff_of_nodup nd List.nodup_range).mpr λk=>?_;rw[L4,G0];constructor
 ·rintro⟨⟨j,k'⟩,h,rfl⟩;exact(F7.mp ((AB O).mp h)).1
 ·intro h;exact⟨(sl[k],k),(AB O).mpr (D3 h),rfl⟩
theorem Qz {mask fi mo:Nat}{led pl:Bool}(hm:Msk mask)(hs:Array Int)(hl:hs.toList.length<mask) :
   ∃t' order,laid mask fi mo led pl hs=some (t',order)/\order.toList.Perm (E5 hs.toList.length)/\t'.led=led/\t'.plain=pl/\t'.mask=mask/\TOk t' (order.toList.map λk=>hs.toList.getD k 0):=by
 obtain⟨ow,sl,e,O,l,r⟩:=KD hm hs.toList [] _ [] (Own.nil mask) rfl (by grind) (λk s h e=>by simp at e);rw[List.nil_append] at e l r
 have el:laid mask fi mo led pl hs=some ({ mask,place:=((live mask ow).map (·.1)).toArray,dummies:=#[],finger:=fi,led,moves:=mo,plain:=pl },((live mask ow).map (·.2)).toArray):=by
  unfold laid;rw[Qx,show(some (DS (mask+1) (none:Option Nat),0))=some (DS (mask+1) none,([]:List Int).length) from rfl,e]
  rfl
 have po:=Qy O;rw[l] at po;refine⟨_,_,el,po,rfl,rfl,rfl,?_⟩
 have ml:∀x,x∈(live mask ow).map (·.1)↔x∈sl:=λx=>by
  rw[G0];constructor
  ·rintro⟨⟨j,k⟩,h,rfl⟩;exact J5 ((AB O).mp h)
  ·intro h;obtain⟨k,hk⟩:=Cj.mp h;exact⟨(x,k),(AB O).mpr hk,rfl⟩
 refine⟨by simp,rfl,hm,KF mask ow,λs h=>O.lim s ((ml s).mp h),?_,λi s h e1 e2=>?_⟩
 ·rw[B8,po.length_eq,AU];exact hl
 ·have e1':((live mask ow).map (·.1))[i]?=some s:=e1;have e2':(((live mask ow).map (·.2)).map λk=>hs.toList.getD k 0)[i]?=some h:=e2;rw[G6] at e1';rw[G6,G6] at e2';cases ex:(live mask ow)[i]? with
  |none=>rw[ex] at e1';cases e1'
  | some y =>
   rw[ex] at e1' e2';have a1:y.1=s:=by simpa using e1'
   have a2:hs.toList.getD y.2 0=h:=by simpa using e2'
   have my:=(AB (j:=y.1) (k:=y.2) O).mp (J5 ex);have lk:y.2<hs.toList.length:=by rw[<- l];exact(F7.mp my).1
   have hk:hs.toList[y.2]?=some h:=by rw[<- a2,AN,D3 lk];rfl
   rw[a1] at my;exact(r y.2 s h my hk).mono λx hx=>(ml x).mpr hx
end SeT
end
section
namespace SeT
open PySem PySem.Spec PyProof.Rows L2
section
variable (prog:D1)(w:C8)
abbrev TK:HeapKind prog w (List Key):=tupleKind (K8 prog w)
def enS (x:List Key×A0):Int×A1:=((TK prog w).hash x.1,.ref x.2)
structure SetK (h:B7)(a:A0)(o:Obj)(es:Array (Int×A1))(ep:Nat)(t:O3)(xs:List (List Key×A0)):Prop where
 ho:h.get? a=some o
 ex:o.ExactSet
 hd:o.data=.set es ep t
 hes:es.toList=xs.map (enS prog w)
 hk:∀x∈xs,(TK prog w).is h x.1 x.2
 nd:(xs.map (·.1)).Nodup
 tb:TOk t (xs.map λx=>(TK prog w).hash x.1)
 few:5*xs.length<3*t.mask
 led:t.led=!(w.params.followText "set-order")
end
section
variable {prog:D1}{w:C8}{A:D5}{E:A1->A5->Prop}{s:A5}{a:A0}{o:Obj}{es:Array (Int×A1)}{ep:Nat}{t:O3}{xs:List (List Key×A0)}
theorem SetK.sz (S:SetK prog w h a o es ep t xs):es.size=xs.length:=by rw[<- M6,S.hes,B8]
theorem SetK.fits (S:SetK prog w h a o es ep t xs):t.fits es.size=true:=by
 have:=S.tb.fits;rw[B8] at this;rw[S.sz];exact this
theorem SetK.at (S:SetK prog w h a o es ep t xs){i:Nat}(e:xs[i]?=some y):es[i]?=some (enS prog w y):=by
 rw[<- P5,S.hes,G6,e];rfl
theorem KG {vs:List A1}(h:ItemsAre (K8 prog w) ks vs):∀v∈vs,(∃i t,v=.int i t)\/∃x t,v=.str x t:=by
 induction h with
 |nil=>intro v hv;cases hv
 | @cons k v ks vs h1 _ ih =>
  intro u hu;rcases C6.mp hu with rfl|hu
  ·rcases Z6 h1 with⟨i,t,_,rfl⟩|⟨x,t,_,rfl⟩
   ·simp
   ·simp
  ·grind
theorem KH (hk:(TK prog w).is s.heap k r)(h:Q false s):A6 (A9 prog w) A (ofAClassStatement 8 (.ref r)) Q E s:=by
 obtain⟨ob,items,n,e,c,d,jf⟩:=hk;unfold ofAClassStatement;refine A3 (k8 (⟨ob,e,c⟩:s.TypeIs (.ref r) "tuple") ?_);dsimp only;simp only[beq_self_eq_true,↓reduceIte];refine A3 (B0 ?_);simp only[Ab,J3,↓reduceIte];refine A3 (AH e d ?_);dsimp only;refine A3 ?_;rw[<- DR];refine DC _ (λrest r s'=>r.1=none/\s'=s/\∀v∈rest,(∃i t,v=.int i t)\/∃x t,v=.str x t) _ ?_ ?_ _ _ ⟨rfl,rfl,KG jf⟩
 ·rintro v rest r s' ⟨hr,rfl,all⟩
  have e0:ofAClassStatement 7 v=pure false:=by
   rcases all v C3 with⟨i,t,rfl⟩|⟨x,t,rfl⟩ <;> rfl
  rw[e0];refine A3 (B0 ?_);simp only[J3,↓reduceIte];exact B0 ⟨rfl,rfl,λu hu=>all u (C2 _ hu)⟩
 ·rintro⟨r1,r2⟩ s' ⟨hr,rfl,_⟩;simp only at hr;subst hr;exact B0 h
theorem QB (hu:A.units<cLine)(hk:(TK prog w).is s.heap k r):∀(l:List A1),(∀v∈l,∃b kb,v=.ref b/\(TK prog w).is s.heap kb b)->∀{Q:Bool->A5->Prop},Q false s->A6 (A9 prog w) A (searchCouldBeSeen (.ref r) l) Q E s:=by
 intro l hl Q h;unfold searchCouldBeSeen;refine A3 ?_;refine DC _ (λrest r s'=>r.1=none/\s'=s/\∀v∈rest,∃b kb,v=.ref b/\(TK prog w).is s.heap kb b) _ ?_ ?_ _ _ ⟨rfl,rfl,hl⟩
 ·rintro v rest q s' ⟨hr,rfl,all⟩;obtain⟨b,kb,rfl,hb⟩:=all v C3;have fin:∀v∈rest,∃b kb,v=L9 b/\(TK prog w).is s'.heap kb b:=λu hu=>all u (C2 _ hu);dsimp only
  split
  ·exact B0 ⟨rfl,rfl,fin⟩
  ·refine A3 ((TK prog w).quiet hk ?_);simp only[Ab,J3,↓reduceIte];refine A3 ((TK prog w).quiet hb ?_);simp only[Ab,J3,↓reduceIte];refine A3 (KH hk ?_);simp only[J3,↓reduceIte];refine A3 (KH hb ?_);simp only[J3,↓reduceIte];exact B0 ⟨rfl,rfl,fin⟩
 ·rintro⟨r1,r2⟩ s' ⟨hr,rfl,_⟩;simp only at hr;subst hr;exact B0 h
theorem QC (h:Q true s):A6 (A9 prog w) A (isSame (.ref b) (.ref b)) Q E s:=by
 show A6 _ A (if(b == b)=true then pure true else _) Q E s;rw[jr (by simp)];exact B0 h
theorem QD {α:Type}{b:Bool}{m:Sem Bool}{u v:Sem α}{Q:α->A5->Prop}(hm:∀Q':Bool->A5->Prop,Q' false s->A6 (A9 prog w) A m Q' E s)(hv:A6 (A9 prog w) A v Q E s):A6 (A9 prog w) A (if b=true then(do let x ← m;if x=true then u else v) else v) Q E s:=by
 split
 ·refine A3 (hm _ ?_);simp only[J3,↓reduceIte];exact hv
 ·exact hv
theorem KI {r:A0}{k:List Key}(hu:A.units < cLine)(S:SetK prog w s.heap a o es ep t xs)(hk:(TK prog w).is s.heap k r){K e:Nat}(hK:(lp t.mask ((TK prog w).hash k) K).1=e)(he:e∉t.place.toList)(hK2:K<=t.mask + 14){Q:SetFound->A5->Prop}
   (hQ1:k∈xs.map (·.1)->Q (.there none) s) (hQ2:∀sl,sl∉t.place.toList->sl<=t.mask->Rch t.mask (·∈t.place.toList) sl ((TK prog w).hash k)->k∉xs.map (·.1)->Q (.free sl false) s) :
   ∀ (fuel kk oo : Nat) (st : Option SetTable.Probe), st.getD (t.probeStart ((TK prog w).hash k)) = pb t.mask ((TK prog w).hash k) kk oo -> kk <= K -> (kk = K -> oo = 0) -> oo <= rn t.mask (lp t.mask ((TK prog w).hash k) kk).1 -> far K kk oo <= fuel ->
     (∀k' o',o'<=rn t.mask (lp t.mask ((TK prog w).hash k) k').1->Lx k' o' kk oo->∃(i:Nat) (y:List Key×A0),t.place.toList[i]?=some (vs t.mask ((TK prog w).hash k) k' o')/\xs[i]?=some y/\y.1≠k)->
     A6 (A9 prog w) A (setSearchFrom a (.ref r) ((TK prog w).hash k) true fuel st) Q E s
 | 0, kk, oo, st, _, h1, h2, h3, h4, _ => by
  have r9:=rn_9 t.mask (lp t.mask ((TK prog w).hash k) kk).1;unfold far at h4;have:¬kk=K:=λz=>by have:=h2 z;omega
  omega
 | fuel + 1, kk, oo, st, hst, h1, h2, h3, h4, done => by
  have farK:far K kk oo<=10*SetTable.turns t.mask:=by unfold far SetTable.turns;omega
  have hat:∀(i:Nat) x,(xs.map λx=>(TK prog w).hash x.1)[i]?=some x->(es[i]?.map (·.1)).getD 0=x:=λi x e=>by
   rw[G6] at e;cases ex:xs[i]? with
   |none=>rw[ex] at e;cases e
   | some y =>
    rw[ex] at e;rw[S.at ex];exact M7 e
  obtain⟨k2,o2,a1,a2,a3,a4,a5,a6⟩:=KB S.tb (λi=>(es[i]?.map (·.1)).getD 0) hat hK he (10*SetTable.turns t.mask) kk oo h1 h2 h3 farK
  have done2:∀k' o',o'<=rn t.mask (lp t.mask ((TK prog w).hash k) k').1->Lx k' o' k2 o2->∃(i:Nat) (y:List Key×A0),t.place.toList[i]?=some (vs t.mask ((TK prog w).hash k) k' o')/\xs[i]?=some y/\y.1≠k:=λk' o' p1 p2=>by
   by_cases c:Lx k' o' kk oo
   ·exact done k' o' p1 c
   ·obtain⟨i,x,q1,q2,q3⟩:=a5 k' o' p1 c p2;rw[G6] at q2;cases ex:xs[i]? with
    |none=>rw[ex] at q2;cases q2
    | some y =>
     rw[ex] at q2;have q2':(TK prog w).hash y.1=x:=by simpa using q2
     exact⟨i,y,q1,ex,λz=>q3 (by rw[<- q2',z])⟩
  unfold setSearchFrom;refine A3 (U6 S.ho S.hd S.fits ?_);dsimp only;rw[S.tb.odd];simp only[J3,↓reduceIte];refine A3 (B0 ?_);rw[hst];generalize hpr:t.probe _ ((TK prog w).hash k) (pb t.mask ((TK prog w).hash k) kk oo)=pr;rcases a6 with⟨em,ep2⟩|⟨i,hkK,pi,hi,ep2⟩
  ·have epr:pr=some (.empty (vs t.mask ((TK prog w).hash k) k2 o2) none):=by rw[<- hpr];exact ep2
   rw[epr];dsimp only;refine B0 (hQ2 _ em (HQ a1) ⟨k2,o2,a1,rfl,λk' o' p1 p2=>?_⟩ λhin=>?_)
   ·obtain⟨i,y,q1,_⟩:=done2 k' o' p1 p2;exact J5 q1
   ·obtain⟨y,hy,ey⟩:=G0.mp hin;obtain⟨iy,hiy⟩:=Cj.mp hy
    obtain⟨sy,hsy⟩:∃sy,t.place.toList[iy]?=some sy:=by
     have:=(F7.mp hiy).1;have h2:=S.tb.size;rw[B8] at h2;exact⟨_,D3 (by omega)⟩
    obtain⟨ky,oy,b1,b2,b3⟩:=S.tb.reach iy sy ((TK prog w).hash k) hsy (by rw[G6,hiy];show some ((TK prog w).hash y.1)=_;rw[ey])
    -- the empty place is not ahead of y's
    have nl:¬Lx k2 o2 ky oy:=λz=>em (b3 k2 o2 a1 z);have ne:¬(k2=ky/\o2=oy):=λ⟨z1,z2⟩=>em (by rw[z1,z2,b2];exact J5 hsy)
    have lt:Lx ky oy k2 o2:=by
     rcases l8 ky k2 with c|c|c
     ·exact .inl c
     ·subst c;rcases l8 oy o2 with d|d|d
      ·exact .inr ⟨rfl,d⟩
      ·exact absurd ⟨rfl,d.symm⟩ ne
      ·exact absurd (.inr ⟨rfl,d⟩) nl
     ·exact absurd (.inl c) nl
    obtain⟨i',y',q1,q2,q3⟩:=done2 ky oy b1 lt;rw[b2] at q1
    have ii:i'=iy:=by
     obtain⟨l1,e1⟩:=F7.mp q1;obtain⟨l2,e2⟩:=F7.mp hsy;rcases l8 i' iy with c|c|c
     ·have:=W5.mp S.tb.rise _ _ l1 l2 c;omega
     ·exact c
     ·have:=W5.mp S.tb.rise _ _ l2 l1 c;omega
    rw[ii,hiy] at q2;cases q2;exact q3 ey
  ·have epr:pr=some (.candidate (vs t.mask ((TK prog w).hash k) k2 o2) i (pb t.mask ((TK prog w).hash k) (nx t.mask ((TK prog w).hash k) k2 o2).1 (nx t.mask ((TK prog w).hash k) k2 o2).2)):=by rw[<- hpr];exact ep2
   rw[epr];dsimp only
   obtain⟨y,hy⟩:∃y,xs[i]?=some y:=by
    rw[G6] at hi;cases ex:xs[i]? with
    |none=>rw[ex] at hi;cases hi
    |some y=>exact⟨y,rfl⟩
   have hyk:=S.hk y (J5 hy);have hey:=S.at hy;refine QD (λQ' h=>QB hu hk _ (λv hv=>?_) h) ?_
   ·obtain⟨z,hz,rfl⟩:=G0.mp hv
    have hz':z∈es.toList:=by
     rw[Array.toList_filter] at hz;exact(O8.mp hz).1
    rw[S.hes] at hz';obtain⟨y',hy',rfl⟩:=G0.mp hz';exact⟨y'.2,y'.1,rfl,S.hk y' hy'⟩
   rw[hey];show A6 (A9 prog w) A (R5 [.ref y.2] (eqBool (.ref y.2) (.ref r))>>=_) Q E s;refine A3 (J7 ((TK prog w).eqBool hu hyk hk ?_));refine A3 (U6 S.ho S.hd S.fits ?_);dsimp only
   by_cases c:y.1=k
   ·rw[jp c];simp only[Bool.and_self,↓reduceIte];exact B0 (hQ1 (G0.mpr ⟨y,J5 hy,c⟩))
   ·rw[jq c];simp only[Bool.and_false,J3,↓reduceIte];have sm:t.sameMemory t.moves t.mask=some true:=by unfold SetTable.sameMemory;simp
    rw[sm];simp only[↓reduceIte];rw[S.tb.slot_live pi];dsimp only;rw[hey];show A6 (A9 prog w) A (isSame (.ref y.2) (.ref y.2)>>=_) Q E s;refine A3 (QC ?_);refine A3 (B0 ?_);simp only[↓reduceIte];obtain⟨f1,f2,f3⟩:=KA (K:=K) a1 hkK
    have fle:far K k2 o2<=far K kk oo:=by
     unfold far;have r9:=rn_9 t.mask (lp t.mask ((TK prog w).hash k) kk).1;rcases l8 k2 kk with c|c|c
     ·exact absurd (.inl c) a4
     ·subst c;have:¬o2<oo:=λz=>a4 (.inr ⟨rfl,z⟩);omega
     ·omega
    refine KI hu S hk hK he hK2 hQ1 hQ2 fuel _ _ _ rfl f2 f3 (nx_ok a1) (by omega) λk' o' p1 p2=>?_;rcases nx_lx a1 p1 p2 with q|⟨rfl,rfl⟩
    ·exact done2 k' o' p1 q
    ·exact⟨i,y,pi,hy,c⟩
end
end SeT
end
section
namespace SeT
open PySem PySem.Spec PyProof.Rows L2
section
variable {prog:D1}{w:C8}{A:D5}{E:A1->A5->Prop}{s:A5}{a:A0}{o:Obj}{es:Array (Int×A1)}{ep:Nat}{t:O3}{xs:List (List Key×A0)}
theorem hbv (hk:(TK prog w).is s.heap k r)(h:∀b,Q b s):A6 (A9 prog w) A (hashByValue 8 (.ref r)) Q E s:=by
 have hT:s.TypeIs (.ref r) "tuple":=IsTupleKey.typeIs hk;obtain⟨ob,items,n,e,c,d,jf⟩:=hk;unfold hashByValue;refine A3 (AG hT F.slot_tuple_hash.lookup ?_);dsimp only;refine A3 (AH e d ?_);refine A3 ?_;show A6 _ _ (forIn items _ _) _ _ s;rw[<- DR];refine DC _ (λrest q s'=>q.1=none/\s'=s/\∀v∈rest,(∃i t,v=.int i t)\/∃x t,v=.str x t) _ ?_ ?_ _ _ ⟨rfl,rfl,KG jf⟩
 ·rintro v rest q s' ⟨hr,rfl,all⟩
  have e0:∃b,hashByValue 7 v=pure b:=by
   rcases all v C3 with⟨i,t,rfl⟩|⟨x,t,rfl⟩
   ·exact⟨true,rfl⟩
   ·exact⟨false,rfl⟩
  obtain⟨b,e0⟩:=e0;rw[e0];refine A3 (B0 ?_);cases b with
  | true =>
   simp only[Ab,J3,↓reduceIte];exact B0 ⟨rfl,rfl,λu hu=>all u (C2 _ hu)⟩
  | false =>
   simp only[Bool.not_false,↓reduceIte];exact B0 (B0 (h _))
 ·rintro⟨r1,r2⟩ s' ⟨hr,rfl,_⟩;simp only at hr;subst hr;exact B0 (h _)
theorem KJ (hk:(TK prog w).is h k r)(ho:h.get? a=some o)(ex:o.ExactSet)(sb:T7 a h h'):(TK prog w).is h' k r:=by
 obtain⟨ob,items,n,e,c,d,jf⟩:=hk
 have ne:r≠a:=λz=>by
  rw[z,ho] at e;cases e;rw[ex.1] at c;exact absurd c (by decide)
 exact⟨ob,items,n,(sb.2 r ne).trans e,c,d,jf⟩
theorem TOk.pl (T:TOk t hs)(b:Bool):TOk { t with plain:=b } hs:=⟨T.size,T.dum,T.mask,T.rise,T.lim,T.room,T.reach⟩
theorem QF (hm:Msk m)(h:5*n<3*m):n+1<m:=by grind [Msk]
theorem KK {h:B7}(ho:h.get? a=some o)(hd:o.data=.set es ep t):(h.update a (Obj.putSet es' t')).get? a=some { o with data:=.set es' (ep+1) t' }:=by
 have:=AY (Obj.putSet es' t') ho (by rw[putSet_of es' t' hd];rfl);rw[putSet_of es' t' hd] at this;exact this
theorem KL {α β:Type}(f:α->β)(l:List α)(p:Nat)(x:α):(insL l p x).map f=insL (l.map f) p (f x):=by simp[insL]
theorem QH {α:Type}(l:List α)(p:Nat)(x:α):(insL l p x).Perm (x::l):=by
 unfold insL;have h1:(l.take p++x::l.drop p).Perm (x::(l.take p++l.drop p)):=List.perm_middle
 simp_all
theorem KN {α:Type}(l:List α)(ord:List Nat)(d:α)(p:ord.Perm (E5 l.length)):ord.filterMap (λk=>l[k]?)=ord.map (λk=>l.getD k d)/\(ord.map λk=>l.getD k d).Perm l:=by
 have lt:∀k∈ord,k<l.length:=λk hk=>L4.mp (p.mem_iff.mp hk);constructor
 ·clear p
  induction ord with
  |nil=>rfl
  | cons k ord ih =>
   have hk:=lt k C3;rw[y0,D3 hk,F2,ih λj hj=>lt j (C2 _ hj),AN,D3 hk]
   rfl
 ·have h1:=p.map λk=>l.getD k d
  have h2:(E5 l.length).map (λk=>l.getD k d)=l:=by
   apply List.ext_getElem?
   intro i;rw[G6]
   by_cases c:i<l.length
   ·grind
   ·grind
  rw[h2] at h1;exact h1
theorem relay (ho:s.heap.get? a=some o)(ex:o.ExactSet)(hd:o.data=.set es ep t)(hes:es.toList=xs.map (enS prog w))(hk:∀x∈xs,(TK prog w).is s.heap x.1 x.2)(nd:(xs.map (·.1)).Nodup)(tb:TOk t (xs.map λx=>(TK prog w).hash x.1))(led:t.led=!(w.params.followText "set-order"))
   (hn:n=xs.length) (hfull:(t.mask=7/\n=5)\/(t.mask=31/\n=19))
   (h:∀h' o' es' ep' t' xs',T7 a s.heap h'->SetK prog w h' a o' es' ep' t' xs'->xs'.Perm xs->Q () { s with heap:=h' }):A6 (A9 prog w) A (setRelay a (CA n)) Q E s:=by
 have sz:es.size=xs.length:=by rw[<- M6,hes,B8]
 have fit:t.fits es.size=true:=by
  have:=tb.fits;rw[B8] at this;rw[sz];exact this
 obtain⟨m',hm',sa,fewm,lt⟩:∃m',Msk m'/\SetTable.sizeAbove (CA n)-1=m'/\5*n<3*m'/\SetTable.sizeAbove (CA n)<=128:=by
  rcases hfull with⟨_,rfl⟩|⟨_,rfl⟩
  ·exact⟨31,.inr (.inl rfl),by decide,by decide,by decide⟩
  ·exact⟨127,.inr (.inr rfl),by decide,by decide,by decide⟩
 have hsl:(es.map (·.1)).toList=xs.map λx=>(TK prog w).hash x.1:=by
  rw[Array.toList_map,hes,V1];rfl
 have hll:(es.map (·.1)).toList.length=n:=by rw[hsl,B8,hn]
 obtain⟨t',ord,el,po,l1,l2,l3,T'⟩:=Qz (fi:=t.finger) (mo:=t.movedTo m') (led:=t.led) (pl:=t.plain) hm' (es.map (·.1)) (by grind)
 have er:t.relaid (es.map (·.1)) (CA n)=some (t',ord):=by
  unfold SetTable.relaid;rw[sa];exact el
 rw[hll] at po;have po':ord.toList.Perm (E5 xs.length):=by rw[<- hn];exact po
 obtain⟨x0,hx0⟩:∃x0:List Key×A0,True:=⟨([],0),trivial⟩;have ol:=KN xs ord.toList x0 po';have lt2:∀k∈ord.toList,k<xs.length:=λk hk=>L4.mp (po'.mem_iff.mp hk)
 have es2:(ord.filterMap (es[·]?)).toList=(ord.toList.map λk=>xs.getD k x0).map (enS prog w):=by
  rw[Array.toList_filterMap,V1]
  have:∀l:List Nat,(∀k∈l,k < xs.length)->l.filterMap (fun k=>es[k]?)=l.map ((enS prog w)∘fun k=>xs.getD k x0):=by
   intro l
   induction l with
   |nil=>intro _;rfl
   | cons k l ih =>
    intro hl;have hk:=hl k C3
    have e1:es[k]?=some (enS prog w (xs.getD k x0)):=by
     rw[<- P5,hes,G6,D3 hk,AN,D3 hk];rfl
    rw[y0,e1,F2,ih λj hj=>hl j (C2 _ hj)]
    rfl
  exact this ord.toList lt2
 have z2:(ord.filterMap (es[·]?)).size=es.size:=by
  rw[<- M6,es2,B8,B8,po'.length_eq,AU,sz]
 unfold setRelay;refine A3 (U6 ho hd fit ?_);dsimp only;rw[jt (by rw[K5];omega),er]
 show A6 (A9 prog w) A ((do
  let es':=ord.filterMap (es[·]?)
  if es'.size != es.size then unsupported "internal:set-table-lost-an-element"
  pure (es',t'))>>=λ(x:Array (Int×A1)×O3)=>storeSet a x.1 x.2) Q E s
 dsimp only;rw[jt (by grind)];refine A3 (A3 (B0 (B0 ?_)));have fz:(ord.filterMap (es[·]?)).size<=C4:=by rw[z2,sz,<- hn,K5];rcases hfull with⟨_,rfl⟩|⟨_,rfl⟩ <;> decide
 refine wpAny_storeSet_of ho hd ?_ fz;have sb:=Q2 s.heap a (Obj.putSet (ord.filterMap (es[·]?)) t');have pk:=po';refine h _ _ _ _ _ (ord.toList.map λk=>xs.getD k x0) sb ⟨KK ho hd,ex,rfl,es2,λx hx=>?_,?_,?_,?_,by rw[l1];exact led⟩ ol.2
 ·exact KJ (hk x (ol.2.mem_iff.mp hx)) ho ex sb
 ·grind
 ·have e3:(ord.toList.map λk=>xs.getD k x0).map (λx=>(TK prog w).hash x.1)=ord.toList.map λk=>(es.map (·.1)).toList.getD k 0:=by
   rw[V1,hsl];refine List.map_congr_left λk hk=>?_;have hk':=lt2 k hk;show(TK prog w).hash (xs.getD k x0).1=_;rw[AN,AN,G6,D3 hk'];rfl
  rw[e3];exact T'
 ·rw[B8,po'.length_eq,AU,<- hn];show 5*n<3*t'.mask;omega
theorem add (hu:A.units<cLine)(S:SetK prog w s.heap a o es ep t xs)(hk:(TK prog w).is s.heap k r)(h63:xs.length+1<=63)
   (h1:k∈xs.map (·.1)->Q false s) (h2:k∉xs.map (·.1)->∀h' o' es' ep' t' xs',T7 a s.heap h'->SetK prog w h' a o' es' ep' t' xs'->xs'.Perm ((k,r)::xs)->Q true { s with heap:=h' }) :
   A6 (A9 prog w) A (setAddHashed a (.ref r) ((TK prog w).hash k)) Q E s:=by
 unfold setAddHashed setAddHashedIn;refine J7 (A3 (U6 S.ho S.hd S.fits ?_));dsimp only;have nb:byScan (.ref r) es=false:=by unfold byScan Value.scannable;simp
 rw[nb];simp only[J3,↓reduceIte];obtain⟨e,he1,he2⟩:=S.tb.free;obtain⟨K,hK1,hK2⟩:=goes S.tb.mask ((TK prog w).hash k) he1
 have f0:far K 0 0<=100000:=by
  unfold far;rcases S.tb.mask with z|z|z <;> rw[z] at hK1 <;> omega
 refine A3 ?_;unfold setSearch;refine KI hu S hk hK2 he2 hK1 (λhin=>?_) (λsl n1 n2 n3 n4=>?_) 100000 0 0 none rfl (J9 _) (λ_=>rfl) (J9 _) f0 (λk' o' _ l=>?_)
 ·exact B0 (h1 hin)
 ·dsimp only;refine A3 (U6 S.ho S.hd S.fits ?_);have hr:=QF S.tb.mask (by have:=S.few;exact this);obtain⟨p1,p2,p3,p4,T1⟩:=S.tb.put n1 n2 n3 (by grind);rw[B8] at p2;have ek:insL (xs.map λx=>(TK prog w).hash x.1) (t.put sl).2 ((TK prog w).hash k)=(insL xs (t.put sl).2 (k,r)).map λx=>(TK prog w).hash x.1:=(KL (λx:List Key×A0=>(TK prog w).hash x.1) xs (t.put sl).2 (k,r)).symm;rw[ek] at T1
  have es1:(SetTable.insertAt es (t.put sl).2 ((TK prog w).hash k,.ref r)).toList=(insL xs (t.put sl).2 (k,r)).map (enS prog w):=by
   rw[Kx _ _ _ (by rw[S.sz];exact p2),S.hes,KL];rfl
  have pm:=QH xs (t.put sl).2 (k,r);have mk1:(t.put sl).1.mask=t.mask:=rfl
  have nd1:((insL xs (t.put sl).2 (k,r)).map (·.1)).Nodup:=by
   refine((pm.map (·.1)).nodup_iff).mpr ?_;rw[F2,V0];exact⟨n4,S.nd⟩
  have hk1:∀x∈insL xs (t.put sl).2 (k,r),(TK prog w).is s.heap x.1 x.2:=λx hx=>by
   rcases C6.mp (pm.mem_iff.mp hx) with rfl|hx
   ·exact hk
   ·exact S.hk x hx
  have len1:(insL xs (t.put sl).2 (k,r)).length=xs.length+1:=EV _ _ _
  have fill1:∀b,({ (t.put sl).1 with plain:=b }:O3).fill=xs.length+1:=λb=>by
   show(t.put sl).1.place.size+(t.put sl).1.dummies.size=_;rw[T1.dum,<- M6,T1.size,B8,len1];rfl
  dsimp only;generalize (t.put sl).2=p at *;generalize ht1:(t.put sl).1=t1 at *;generalize hes1:SetTable.insertAt es p ((TK prog w).hash k,.ref r)=esN at *;generalize hxs1:insL xs p (k,r)=xs1 at *
  -- what follows, whatever is said of the hash
  have tail:∀b:Bool,A6 (A9 prog w) A (do
      storeSet a esN { t1 with plain:=b }
      if(!false&&({ t1 with plain:=b }:O3).tooFull)=true then do
       setRelay a (CA (es.size+1))
       pure true
      else pure true) Q E s:=λb=>by
    have ez:esN.size<=C4:=by rw[<- M6,es1,B8,len1,K5];omega
    refine A3 (wpAny_storeSet_of S.ho S.hd ?_ ez);have sb:=Q2 s.heap a (Obj.putSet esN { t1 with plain:=b });have hk2:∀x∈xs1,(TK prog w).is (s.heap.update a (Obj.putSet esN { t1 with plain:=b })) x.1 x.2:=λx hx=>KJ (hk1 x hx) S.ho S.ex sb;have ob:=KK (es':=esN) (t':={ t1 with plain:=b }) S.ho S.hd;have T2:=TOk.pl T1 b
    by_cases c:({ t1 with plain:=b }:O3).tooFull=true
    ·rw[jr (by grind)]
     have c':(xs.length+1)*5>=t.mask*3:=by
      unfold SetTable.tooFull at c;rw[fill1 b] at c;have:=ju c;rw[<- mk1];exact this
     have few:=S.few;refine A3 (relay (n:=es.size+1) ob S.ex rfl es1 hk2 nd1 T2 (by show t1.led=_;rw[p4];exact S.led) (by rw[S.sz,len1]) ?_ λh' o' es' ep' t' xs' sb' S' p'=>?_)
     ·show(t1.mask=7/\_)\/(t1.mask=31/\_);rw[mk1,S.sz];rcases S.tb.mask with z|z|z
      ·omega
      ·omega
      ·omega
     ·exact B0 (h2 n4 _ _ _ _ _ _ (sb.trans sb') S' (p'.trans pm))
    ·rw[jt (by grind)];refine B0 (h2 n4 _ _ _ _ _ xs1 sb ⟨ob,S.ex,rfl,es1,hk2,nd1,T2,?_,by show t1.led=_;rw[p4];exact S.led⟩ pm)
     have:¬((xs.length+1)*5>=t.mask*3):=λz=>c (by
      unfold SetTable.tooFull;rw[fill1 b]
      exact jp (by grind))
     show 5*xs1.length<3*t1.mask;rw[len1,mk1];omega
  split
  ·refine A3 (hbv hk λb=>?_);cases b with
   | true =>
    simp only[↓reduceIte];exact tail t1.plain
   | false =>
    simp only[J3,↓reduceIte];exact tail false
  ·refine A3 (B0 ?_);simp only[↓reduceIte];exact tail t1.plain
 ·rcases l with l|⟨_,l⟩
  ·grind
  ·omega
end
end SeT
end
section
namespace SeT
open PySem PySem.Spec PyProof.Rows L2
def Holds (prog:D1)(w:C8)(h:B7)(S:A0)(rs:List (List Key×A0)):Prop:=
 ∃o es ep t xs,SetK prog w h S o es ep t xs/\(∀x∈xs,x∈rs)/\∀x∈rs,x.1∈xs.map (·.1)
theorem Fd (hk:(TK prog w).is h k r)(kp:∀o,h.get? r=some o->h'.get? r=some o):(TK prog w).is h' k r:=by
 obtain⟨ob,items,n,e,c,d,jf⟩:=hk;exact⟨ob,items,n,kp _ e,c,d,jf⟩
theorem SetK.at' (S:SetK prog w h a o es ep t xs)(k0:h'.get? a=some o)(kp:∀x∈xs,∀o,h.get? x.2=some o->h'.get? x.2=some o):SetK prog w h' a o es ep t xs:=
 ⟨k0,S.ex,S.hd,S.hes,(λx hx=>Fd (S.hk x hx) (kp x hx)),S.nd,S.tb,S.few,S.led⟩
theorem Holds.at' (S:Holds prog w h a rs)(k0:∀o,h.get? a=some o->h'.get? a=some o)(kp:∀x∈rs,∀o,h.get? x.2=some o->h'.get? x.2=some o):Holds prog w h' a rs:=by
 obtain⟨o,es,ep,t,xs,S1,S2,S3⟩:=S;exact⟨o,es,ep,t,xs,S1.at' (k0 o S1.ho) λx hx=>kp x (S2 x hx),S2,S3⟩
theorem Holds.len {xs rs:List (List Key×A0)}(S:SetK prog w h a o es ep t xs)(hs:∀x∈xs,x∈rs):xs.length<=rs.length:=by
 have n1:xs.Nodup:=(e9.mp S.nd).imp λh e=>h (by rw[e]);exact n1.length_le_of_subset hs
section
variable {prog:D1}{w:C8}{A:D5}{R:Result->A5->Prop}{I:A0}{fp wr:List A0}{G:Array GenState->Array GenState->Prop}{n:Nat}{P:Nat->A1->Prop}{St:Nat->A5->Prop}
theorem QJ {rs:List (List Key×A0)}(hy:rs[i]?=some y)(S1:SetK prog w h S o es ep t xs)(S2:∀x∈xs,x∈rs.take i)(S3:∀x∈rs.take i,x.1∈xs.map (·.1))(hin:y.1∈xs.map (·.1)):Holds prog w h S (rs.take (i+1)):=by
 have e:rs.take (i+1)=rs.take i++[y]:=by rw[List.take_succ,hy];rfl
 rw[e];exact⟨o,es,ep,t,xs,S1,λx hx=>AS _ (S2 x hx),λx hx=>(J8.mp hx).elim (S3 x) λz=>by rw[E2.mp z];exact hin⟩
theorem QK (Wk:WalksS prog w A.in1 I fp wr G n P St)(S:A0)(nf:S∉fp)(rs:List (List Key×A0))(hn:rs.length=n)(hv:∀i v,P i v->∃y,rs[i]?=some y/\v=.ref y.2)(ap:∀y∈rs,y.2∉wr/\y.2≠S)(hu:A.in1.units<cLine)(room:n<=63) :
   ∀ (k i : Nat) (s : A5), n - i = k -> i <= n -> St i s -> (∀ y ∈ rs, (TK prog w).is s.heap y.1 y.2) -> Holds prog w s.heap S (rs.take i) ->
     (∀s',Moved (S::wr) G s s'->Holds prog w s'.heap S rs->R (.ok (.ret .none)) s')->
     N0 (A9 prog w) A (.builtin "set.update.loop" ⟨[.ref S,.ref I],[]⟩) R s:=by
 have nw:S∉wr:=λh=>nf (Wk.sub _ h);have sub:∀b∈wr,b∈S::wr:=λb hb=>C2 _ hb;intro k
 induction k with
 | zero =>
  intro i s hk hi st jf so fin;have ei:i=n:=by omega
  subst ei;refine Y7 DX ?_;rw[i6 Ae _];refine A3 (m:=pyNext (.ref I)) (Wk.done s _ _ st λs' mv=>?_);refine B0 (fin s' (mv.mono sub) ?_);rw[AR (by omega)] at so;exact so.at' (λo e=>mv.heap S _ nw e) λx hx o e=>mv.heap _ _ (ap x hx).1 e
 | succ k ih =>
  intro i s hk hi st jf so fin;have lt:i<n:=by omega
  refine Y7 DX ?_;rw[i6 Ae _];refine A3 (m:=pyNext (.ref I)) (Wk.item i s _ _ lt st λv s' pv' st' mv=>?_);obtain⟨y,hy,rfl⟩:=hv i v pv';have my:y∈rs:=J5 hy;have its':∀y∈rs,(TK prog w).is s'.heap y.1 y.2:=λy hy=>Fd (jf y hy) λo e=>mv.heap _ _ (ap y hy).1 e;have so':Holds prog w s'.heap S (rs.take i):=so.at' (λo e=>mv.heap S _ nw e) λx hx o e=>mv.heap _ _ (ap x (l5 hx)).1 e;refine A3 (m:=R5 [.ref y.2] (setAdd S (.ref y.2))) (J7 ?_);unfold setAdd;refine J7 (A3 ((TK prog w).pyHash hu (its' y my) ?_));obtain⟨o,es,ep,t,xs,S1,S2,S3⟩:=so'
  have l63:xs.length+1<=63:=by
   have:=Holds.len S1 S2;rw[P4] at this;omega
  have next:∀h',T7 S s'.heap h'->Holds prog w h' S (rs.take (i+1))->N0 (A9 prog w) A (.builtin "set.update.loop" ⟨[.ref S,.ref I],[]⟩) R { s' with heap:=h',toks:=s'.toks+(TK prog w).draws y.1 }:=λh' sb so3=>by
   refine ih (i+1) _ (by omega) lt (Wk.frame _ s' _ _ st' (Nat.le_add_right _ _) λb hb o e=>?_) (λz hz=>Fd (its' z hz) λo e=>?_) so3 λs2 mv2 so4=>?_
   ·rw[sb.2 b (λz:b=S=>nf (by grind))];exact e
   ·rw[sb.2 z.2 (ap z hz).2];exact e
   ·refine fin s2 (Moved.trans Wk.gtrans ((mv.mono sub).then_heap (Nat.le_add_right _ _) λb o hb e=>?_) mv2) so4;rw[sb.2 b (λz:b=S=>hb (by grind))];exact e
  refine add (s:={ s' with toks:=s'.toks+(TK prog w).draws y.1 }) hu S1 (its' y my) l63 (λhin=>?_) λhin h' o' es' ep' t' xs' sb S1' pm=>?_
  ·exact B0 ⟨e6 Ae _,next s'.heap (Heap.SameBut.refl _ _) (QJ hy S1 S2 S3 hin)⟩
  ·refine B0 ⟨e6 Ae _,next h' sb ⟨o',es',ep',t',xs',S1',λx hx=>?_,λx hx=>?_⟩⟩
   ·rw[List.take_succ,hy];rcases C6.mp (pm.mem_iff.mp hx) with rfl|z
    ·grind
    ·grind
   ·rw[List.take_succ,hy] at hx;rw[(pm.map (·.1)).mem_iff,F2];rcases J8.mp hx with z|z
    ·grind
    ·grind
end
end SeT
end
section
namespace SeT
open PySem PySem.Spec PyProof.Rows L2
section
variable {prog:D1}{w:C8}{A:D5}{E:A1->A5->Prop}{s:A5}
theorem QM (h:B7)(S:A0)(led:Bool)(hl:led=!(w.params.followText "set-order"))(e:h.get? S=some { cls:=.type "set",dict:=none,data:=.set #[] 0 (.fresh 0 0 led) }):Holds prog w h S []:=by
 refine⟨_,#[],0,.fresh 0 0 led,[],⟨e,⟨rfl,rfl,rfl⟩,rfl,rfl,(λ_ z=>nomatch z),by simp,⟨rfl,rfl,.inl rfl,by unfold Rise;exact F_,(λ_ z=>nomatch z),(show 0<7 by decide),λi s h e=>?_⟩,(show 5*0<3*7 by decide),hl⟩,(λ_ z=>nomatch z),λ_ z=>nomatch z⟩
 grind
theorem KO (hd:A.handled=none)(hu:A.units+64<cLine)(ht:s.heap.IsList a jf\/s.heap.IsTuple a jf)(hv:jf.toList=rs.map λy=>L9 y.2)(hk:∀y∈rs,(TK prog w).is s.heap y.1 y.2)(room:rs.length<=63)
   (fin:∀(h':B7) (tk:Nat),Holds prog w h' s.heap.objs.size rs->
     (∀b o,b<s.heap.objs.size->s.heap.get? b=some o->h'.get? b=some o)->Q (.ref s.heap.objs.size) { s with heap:=h',toks:=tk }):A6 (A9 prog w) A (call (.type "set") [.ref a]) Q E s:=by
 have sz:rs.length=jf.size:=by rw[<- M6,hv,B8]
 have lo:∀y∈rs,y.2<s.heap.objs.size:=λy hy=>by
  obtain⟨ob,items,n,e,_⟩:=hk y hy;exact C5 e
 refine JL hd ht (λI St fp G s1 R led hl lI Wk nf h0 g1 kp k=>?_) fin;refine QK Wk _ nf rs sz (λi v e=>?_) (λy hy=>⟨λz=>?_,D7 (lo y hy)⟩) (by grind) (by omega) (jf.size-0) 0 s1 rfl (J9 _) h0 (λy hy=>Fd (hk y hy) λo e=>kp _ _ e) (QM _ _ led hl g1) k
 ·rw[<- P5,hv,G6] at e;cases er:rs[i]? with
  |none=>rw[er] at e;cases e
  |some y=>rw[er] at e;cases e;exact⟨y,rfl,rfl⟩
 grind
end
end SeT
end
section
namespace SeT
open PySem PySem.Spec PyProof.Rows L2
theorem Y2:Slot "set_iterator" "__next__" "set_iterator.__next__":=.of (owner:="set_iterator") (n:="__next__")
 (by rw[typeLookup_type,builtinLookup_eq_fast];kernel_rfl)
 (by decide +kernel)
 (by decide +kernel)
 (by decide +kernel)
 (by first|exact .inl (by decide +kernel)|exact .inr (by grind))
 (by rw[k6];kernel_rfl)
theorem KP:Slot "set_iterator" "__iter__" "set_iterator.__iter__":=.of (owner:="set_iterator") (n:="__iter__")
 (by rw[typeLookup_type,builtinLookup_eq_fast];kernel_rfl)
 (by decide +kernel)
 (by decide +kernel)
 (by decide +kernel)
 (by first|exact .inl (by decide +kernel)|exact .inr (by grind))
 (by rw[k6];kernel_rfl)
theorem Fe:entryFor table "set_iterator.__next__"=some O4.«set_iterator.__next__»:=entryFor_of_tree (by kernel_rfl)
theorem QP:entryFor table "set_iterator.__iter__"=some O4.«dict_keyiterator.__iter__»:=
 entryFor_alias (id':="dict_keyiterator.__iter__") (by kernel_rfl) rfl (by decide +kernel) (by kernel_rfl)
theorem QU:entryFor table "set.__iter__"=some O4.«frozenset.__iter__»:=
 entryFor_alias (id':="frozenset.__iter__") (by kernel_rfl) rfl (by decide +kernel) (by kernel_rfl)
theorem ow_it:Manifest.owners.lookup (String.ofList (['r','o','t','a','r','e','t','i','_','t','e','s']).reverse)=some Manifest.sig_set_iterator:=by kernel_rfl
theorem Ff (x:A1):argsOk "set_iterator.__next__" ⟨[x],[]⟩:=rfl
theorem QV (x:A1):argsOk "set_iterator.__iter__" ⟨[x],[]⟩:=rfl
theorem erase_perm {α:Type}:∀(l:List α) (i:Nat) (x:α),l[i]?=some x->(x::l.eraseIdx i).Perm l
 |[],i,x,e=>by simp at e
 | y :: l, 0, x, e => by
  have:y=x:=by simpa using e
  rw[this];exact .refl _
 | y :: l, i + 1, x, e => by
  have h:=erase_perm l i x (by simpa using e);show(x::y::l.eraseIdx i).Perm (y::l);exact(Ee y x _).trans (h.cons y)
theorem KQ {α:Type}(next:Nat->Nat):∀(fuel k:Nat) (left:List α) (out:Array α),fuel=left.length->(pickOrder.go next fuel k left out).toList.Perm (out.toList++left)
 | 0, k, left, out, h => by
  have:left=[]:=AM h.symm;subst this;unfold pickOrder.go;rw[W8]
 | fuel + 1, k, left, out, h => by
  have lt:next k%left.length<left.length:=Nat.mod_lt _ (by omega)
  have e:left[next k%left.length]?=some left[next k%left.length]:=D3 lt;unfold pickOrder.go;rw[e];dsimp only;have le:(left.eraseIdx (next k%left.length)).length=fuel:=by rw[FN lt];omega
  refine(KQ next fuel (k+1) _ _ le.symm).trans ?_;rw[Array.toList_push,T6];exact List.Perm.append_left _ (erase_perm _ _ _ e)
theorem QX {α:Type}(next:Nat->Nat)(xs:Array α):(pickOrder next xs).toList.Perm xs.toList:=by
 have:=KQ next xs.size 0 xs.toList #[] (by simp)
 exact this
section
variable {prog:D1}{w:C8}{A:D5}{E:A1->A5->Prop}{s:A5}
theorem chosen (hn:0<n)(h:∀i d,i<n->Q i { s with drawn:=d }):A6 (A9 prog w) A (choose src n) Q E s:=by
 intro Γ p _;unfold choose;rw[Sem.wp];refine⟨by omega,?_⟩;rw[Sem.wp];exact h _ _ (Nat.mod_lt _ hn)
theorem KR {α:Type}:∀(n:Nat) (xs:List α) (s:A5) (Q:List α->A5->Prop),n=xs.length->(∀ys d,ys.Perm xs->Q ys { s with drawn:=d })->A6 (A9 prog w) A (drawOrder n xs) Q E s
 | 0, xs, s, Q, hn, h => by
  have:xs=[]:=AM hn.symm;subst this;exact B0 (h [] s.drawn (.refl _))
 |n+1,[],s,Q,hn,h=>by simp at hn
 | n + 1, x :: xs, s, Q, hn, h => by
  unfold drawOrder;refine A3 (chosen (by simp) λi d hi=>?_);have e:(x::xs)[i]?=some (x::xs)[i]:=D3 hi;rw[e];dsimp only;have le:((x::xs).eraseIdx i).length=n:=by rw[FN hi];omega
  refine A3 (KR n _ _ _ le.symm λys d2 hp=>B0 ?_);exact h _ d2 ((hp.cons _).trans (erase_perm _ _ _ e))
def P3 (h:B7)(I a:A0)(fst:A1)(i n ep:Nat):Prop:=∃o,h.get? I=some o/\o.cls=.type "set_iterator"/\o.data=.fields #[fst,.int i 0,.ref a,.int n 0,.int ep 0]
theorem P3.ty (x:P3 s.heap I a fst i n ep):s.TypeIs (.ref I) "set_iterator":=by
 obtain⟨o,ho,hc,_⟩:=x;exact⟨o,ho,hc⟩
theorem P3.at' (x:P3 h I a fst i n ep)(e:∀o,h.get? I=some o->h'.get? I=some o):P3 h' I a fst i n ep:=by grind [P3]
theorem P3.put (x:P3 h I a fst i n ep)(k:Nat)(v:A1):∃o,(h.update I (Obj.mapFields (·.setIfInBounds k v))).get? I=some o/\o.cls=.type "set_iterator"/\o.data=.fields (#[fst,.int i 0,.ref a,.int n 0,.int ep 0].setIfInBounds k v):=by
 obtain⟨o,ho,hc,hd⟩:=x;exact⟨_,AY _ ho (Obj.isFreed_of_fields (DT hd _)),(Obj.cls_mapFields ..).trans hc,DT hd _⟩
theorem KS (x:P3 s.heap I a fst i n ep)(h:Q (.ref I) s):A6 (A9 prog w) A (pyIter (.ref I)) Q E s:=by
 refine wpAny_pyIter_slot x.ty KP (P8 KP x.ty QP (show A6 (A9 prog w) _ (ret (.ref I)) _ _ s from ?_) (QV _));exact B0 ⟨_,rfl,"set_iterator",_,x.ty,Y2.lookup,h⟩
theorem KT {Q:Option A1->A5->Prop}(hh:A.handled=none)(h:∀h',(∀b o,h1.get? b=some o->h'.get? b=some o)->Q none { s with heap:=h' }) :
   A6 (A9 prog w) A.in1 ((newExc (.type "StopIteration") []>>=λx=>raiseNew x:Sem PySem.Fin)) Q0 (λe s'=>A6 (A9 prog w) A (do if ← isInstance e (.type "StopIteration") then pure none else throw e) Q E s') { s with heap:=h1 }:=by
 refine A3 ?_;simp only[newExc,newTuple];refine A3 (N5 ?_ (by size_fits));refine A3 (m:=firstArgMember _ _) (AL (a:=X1) (by first|rfl|(simp only[firstArgMember];rfl)) ?_);refine N5 ?_ (by size_fits);simp only[raiseNew];refine A3 (wpAny_handled ?_);rw[show A.in1.handled=none from hh];refine A3 (B0 (wpAny_throw ?_));refine A3 (Cd (T:="StopIteration") (b:=true) ⟨_,G4 _ rfl,rfl⟩ isSubtype_stop ?_);exact B0 (h _ λb o e=>D0 _ (D0 _ e))
end
end SeT
end
section
namespace SeT
open PySem PySem.Spec PyProof.Rows L2
section
variable {prog:D1}{w:C8}{A:D5}{E:A1->A5->Prop}{s:A5}{I a:A0}{n i ep:Nat}{o:Obj}{es:Array (Int×A1)}{t:O3}
theorem QY {slot nx:Nat}(hit:P3 s.heap I a (.int slot 0) i n ep)(ho:s.heap.get? a=some o)(hd:o.data=.set es ep t)(hf:t.fits es.size=true)(hn:es.size=n)
   (hs:∀(A:D5) (E:A1->A5->Prop) (Q':Option (A1×Nat)->A5->Prop),Q' (some (x,nx)) s->A6 (A9 prog w) A (setNext a slot i ep) Q' E s)
   (hQ:∀h',P3 h' I a (.int nx 0) (i+1) n ep->T7 I s.heap h'->Q (some x) { s with heap:=h' }):A6 (A9 prog w) A (pyNext (.ref I)) Q E s:=by
 obtain⟨oi,hoi,hci,hdi⟩:=id hit;unfold pyNext;refine A3 (AK (Y6 (name:=A7 "__next__") hit.ty Y2 (P8 Y2 hit.ty Fe ?_ (Ff _))));unfold O4.«set_iterator.__next__»;refine A3 (B0 ?_);refine A3 (wpAny_fieldsOf hoi hdi ?_);dsimp only;refine A3 (Ca ho hd hf ?_);rw[jt (by grind)];refine A3 (hs _ _ _ ?_);dsimp only;refine A3 (k7 hoi hdi (by simp) ?_);obtain⟨o1,e1,c1,d1⟩:=hit.put 0 (rawInt nx);have h1:P3 (s.heap.update I (Obj.mapFields (·.setIfInBounds 0 (rawInt nx)))) I a (.int nx 0) i n ep:=⟨o1,e1,c1,by rw[d1];simp[rawInt]⟩;refine A3 (k7 (s:={ s with heap:=s.heap.update I (Obj.mapFields (·.setIfInBounds 0 (rawInt nx))) }) e1 d1 (by simp) ?_);obtain⟨o2,e2,c2,d2⟩:=h1.put 1 (rawInt (i+1));refine B0 ⟨_,rfl,B0 (hQ _ ⟨o2,e2,c2,by rw[d2];simp[rawInt]⟩ ?_)⟩;exact(Q2 s.heap I _).trans (Q2 _ I _)
theorem QZ {slot:Nat}(hh:A.handled=none)(hit:P3 s.heap I a (.int slot 0) i n ep)(ho:s.heap.get? a=some o)(hd:o.data=.set es ep t)(hf:t.fits es.size=true)(hn:es.size=n)
   (hs:∀(A:D5) (E:A1->A5->Prop) (Q':Option (A1×Nat)->A5->Prop),Q' none s->A6 (A9 prog w) A (setNext a slot i ep) Q' E s)
   (hQ:∀h',(∀b o,b≠I->s.heap.get? b=some o->h'.get? b=some o)->Q none { s with heap:=h' }):A6 (A9 prog w) A (pyNext (.ref I)) Q E s:=by
 obtain⟨oi,hoi,hci,hdi⟩:=id hit;unfold pyNext;refine A3 (AK (Y6 (name:=A7 "__next__") hit.ty Y2 (P8 Y2 hit.ty Fe ?_ (Ff _))));unfold O4.«set_iterator.__next__»;refine A3 (B0 ?_);refine A3 (wpAny_fieldsOf hoi hdi ?_);dsimp only;refine A3 (Ca ho hd hf ?_);rw[jt (by grind)];refine A3 (hs _ _ _ ?_);dsimp only;refine A3 (k7 hoi hdi (by simp) ?_);exact KT hh λh' k=>hQ h' λb o hb e=>k b o (((Q2 s.heap I _).2 b hb).trans e)
end
end SeT
end
section
namespace SeT
open PySem PySem.Spec PyProof.Rows L2
section
variable {prog:D1}{w:C8}{A:D5}{E:A1->A5->Prop}{s:A5}{I a tp:A0}{n i ep:Nat}{o:Obj}{es:Array (Int×A1)}{t:O3}{ps:Array A1}
theorem Q_ {p:Nat}(hit:P3 s.heap I a (.ref tp) i n ep)(ht:s.heap.IsTuple tp ps)(ho:s.heap.get? a=some o)(hd:o.data=.set es ep t)(hf:t.fits es.size=true)(hn:es.size=n)
   (hp:ps[i]?=some (.int p 0)) (he:es[p]?=some (hx,x))
   (hQ:∀h',P3 h' I a (.ref tp) (i+1) n ep->T7 I s.heap h'->Q (some x) { s with heap:=h' }):A6 (A9 prog w) A (pyNext (.ref I)) Q E s:=by
 obtain⟨oi,hoi,hci,hdi⟩:=id hit;obtain⟨ot,hot,hct,nt,hdt⟩:=ht;unfold pyNext;refine A3 (AK (Y6 (name:=A7 "__next__") hit.ty Y2 (P8 Y2 hit.ty Fe ?_ (Ff _))));unfold O4.«set_iterator.__next__»;refine A3 (B0 ?_);refine A3 (wpAny_fieldsOf hoi hdi ?_);dsimp only;refine A3 (Ca ho hd hf ?_);rw[jt (by grind)];refine A3 (AH hot hdt ?_);dsimp only;rw[show((i:Int).toNat)=i from rfl,hp];dsimp only;refine A3 (m:=setNextDrawn a _ _) (A3 (U6 ho hd hf ?_));dsimp only;rw[jt (by simp)];rw[show((p:Int).toNat)=p from rfl,he];dsimp only;refine B0 ?_;refine A3 (k7 hoi hdi (by simp) ?_);obtain⟨o2,e2,c2,d2⟩:=hit.put 1 (rawInt (i+1));refine B0 ⟨_,rfl,B0 (hQ _ ⟨o2,e2,c2,by rw[d2];simp[rawInt]⟩ ?_)⟩;exact Q2 s.heap I _
theorem Ra (hh:A.handled=none)(hit:P3 s.heap I a (.ref tp) i n ep)(ht:s.heap.IsTuple tp ps)(ho:s.heap.get? a=some o)(hd:o.data=.set es ep t)(hf:t.fits es.size=true)(hn:es.size=n)
   (hp:ps[i]?=none)
   (hQ:∀h',(∀b o,b≠I->s.heap.get? b=some o->h'.get? b=some o)->Q none { s with heap:=h' }):A6 (A9 prog w) A (pyNext (.ref I)) Q E s:=by
 obtain⟨oi,hoi,hci,hdi⟩:=id hit;obtain⟨ot,hot,hct,nt,hdt⟩:=ht;unfold pyNext;refine A3 (AK (Y6 (name:=A7 "__next__") hit.ty Y2 (P8 Y2 hit.ty Fe ?_ (Ff _))));unfold O4.«set_iterator.__next__»;refine A3 (B0 ?_);refine A3 (wpAny_fieldsOf hoi hdi ?_);dsimp only;refine A3 (Ca ho hd hf ?_);rw[jt (by grind)];refine A3 (AH hot hdt ?_);dsimp only;rw[show((i:Int).toNat)=i from rfl,hp];dsimp only;refine A3 (k7 hoi hdi (by simp) ?_);obtain⟨o2,e2,c2,d2⟩:=hit.put 0 (rawInt 0);refine A3 (k7 (s:={ s with heap:=s.heap.update I (Obj.mapFields (·.setIfInBounds 0 (rawInt 0))) }) e2 d2 (by simp) ?_);exact KT hh λh' k=>hQ h' λb o hb e=>k b o (((Q2 _ I _).2 b hb).trans (((Q2 s.heap I _).2 b hb).trans e))
theorem Rb (hh:A.handled=none){ys:List A1}{sl:Nat->Nat}(hn:es.size=ys.length)(ne:a≠I)(hd:o.data=.set es ep t)(hf:t.fits es.size=true)
   (hs:∀(i:Nat) (s:A5) (A:D5) (E:A1->A5->Prop) (Q':Option (A1×Nat)->A5->Prop),s.heap.get? a=some o->i<=ys.length->Q' (ys[i]?.map λx=>(x,sl (i+1))) s->A6 (A9 prog w) A (setNext a (sl i) i ep) Q' E s) :
   Walks prog w A I [I,a] [I] ys.length (λi v=>ys[i]?=some v) (λi h=>P3 h I a (.int (sl i) 0) i ys.length ep/\h.get? a=some o) where
 sub:=λb hb=>by rw[E2.mp hb];exact C3
 frame:=λ_ _ _ st hk=>⟨st.1.at' λo e=>hk I C3 o e,hk a (C2 _ (E2.mpr rfl)) o st.2⟩
 item:=λi s Q E hi st hQ=>by
  have e:ys[i]?=some ys[i]:=D3 hi;refine QY st.1 st.2 hd hf hn (x:=ys[i]) (nx:=sl (i+1)) (λA E Q' q=>hs i s A E Q' st.2 (W9 hi) (by rw[e];exact q)) λh' hit' sb=>?_;exact hQ _ h' s.toks e ⟨hit',(sb.2 a ne).trans st.2⟩ λb o hb e=>(sb.2 b (λz=>hb (E2.mpr z))).trans e
 done:=λs Q E st hQ=>QZ hh st.1 st.2 hd hf hn (λA E Q' q=>hs _ s A E Q' st.2 (B9 _) (by rw[W6 (B9 _)];exact q)) λh' k=>hQ h' s.toks λb o hb e=>k b o (λz=>hb (E2.mpr z)) e
 self:=λ_ _ _ _ st hQ=>KS st.1 hQ
theorem Rc (hh:A.handled=none){pl:List Nat}(hn:es.size=pl.length)(ne:a≠I)(nt:tp≠I)(hd:o.data=.set es ep t)(hf:t.fits es.size=true)(hps:ps=(pl.map λ(i:Nat)=>rawInt i).toArray)(hpl:∀p∈pl,p<es.size) :
   Walks prog w A I [I,a,tp] [I] pl.length (λi v=>∃p x,pl[i]?=some p/\es[p]?=some x/\v=x.2) (λi h=>P3 h I a (.ref tp) i pl.length ep/\h.get? a=some o/\h.IsTuple tp ps) where
 sub:=λb hb=>by rw[E2.mp hb];exact C3
 frame:=λ_ _ _ st hk=>⟨st.1.at' λo e=>hk I C3 o e,hk a (by simp) o st.2.1,st.2.2.at λo e=>hk tp (by simp) o e⟩
 item:=λi s Q E hi st hQ=>by
  have e:pl[i]?=some pl[i]:=D3 hi;have lt:=hpl _ (J5 e);have ep':ps[i]?=some (.int (pl[i]:Nat) 0):=by rw[hps,List.getElem?_toArray,G6,e];rfl
  have ex:es[pl[i]]?=some es[pl[i]]:=X0 lt;refine Q_ st.1 st.2.2 st.2.1 hd hf hn ep' (hx:=es[pl[i]].1) (x:=es[pl[i]].2) ex λh' hit' sb=>?_;exact hQ _ h' s.toks ⟨_,_,e,ex,rfl⟩ ⟨hit',(sb.2 a ne).trans st.2.1,st.2.2.at λo e=>(sb.2 tp nt).trans e⟩ λb o hb e=>(sb.2 b (λz=>hb (E2.mpr z))).trans e
 done:=λs Q E st hQ=>Ra hh st.1 st.2.2 st.2.1 hd hf hn (by grind) λh' k=>hQ h' s.toks λb o hb e=>k b o (λz=>hb (E2.mpr z)) e
 self:=λ_ _ _ _ st hQ=>KS st.1 hQ
end
end SeT
end
section
namespace SeT
open PySem PySem.Spec PyProof.Rows L2
def v5 (pl:Array Nat):Nat->Nat
 |0=>0
 |i+1=>pl.getD i 0+1
theorem Re {pl:Array Nat}(hr:Rise pl.toList):∀{i:Nat},i<=pl.size->SetTable.below pl (v5 pl i)=i
 | 0, _ => by
  obtain⟨h1,h2,h3⟩:=Di pl (v5 pl 0) hr;refine Nat.eq_zero_of_not_pos λc=>?_;have lt:0<pl.size:=by omega
  have:=h2 0 pl[0] c (X0 lt);exact DO _ this
 | i + 1, hi => by
  have lt:i<pl.size:=hi;have e:v5 pl (i+1)=pl[i]+1:=by show pl.getD i 0+1=_;rw[Ac,X0 lt];rfl
  obtain⟨h1,h2,h3⟩:=Di pl (v5 pl (i+1)) hr;rw[e] at h1 h2 h3 ⊢
  have a1:¬SetTable.below pl (pl[i]+1)<=i:=λc=>by
   have:=h3 i pl[i] c (X0 lt);omega
  have a2:¬i+1<SetTable.below pl (pl[i]+1):=λc=>by
   have l2:i+1<pl.size:=by omega
   have:=h2 (i+1) pl[i+1] c (X0 l2);have l2':i+1<pl.toList.length:=by simpa using l2
   have:=W5.mp hr i (i+1) (by omega) l2' (by omega);simp only[Array.getElem_toList] at this;omega
  omega
theorem Rf {α β:Type}{f:α->β}:∀{ys:List β} {xs:List α},ys.Perm (xs.map f)->∃zs:List α,zs.Perm xs/\ys=zs.map f:=by
 intro ys xs h;generalize e:xs.map f=l at h
 induction h generalizing xs with
 | nil =>
  have:xs=[]:=by simpa using e
  subst this;exact⟨[],.refl _,rfl⟩
 | @cons b l1 l2 h1 ih =>
  match xs,e with
  | x :: xs, e =>
   rw[F2] at e;injection e with ea eb;obtain⟨zs,z1,z2⟩:=ih eb;exact⟨x::zs,z1.cons x,by rw[z2,F2,ea]⟩
 | swap a b l =>
  match xs,e with
  | x :: y :: xs, e =>
   rw[F2,F2] at e;injection e with ea eb;injection eb with ec ed;exact⟨y::x::xs,Ee x y xs,by rw[F2,F2,ea,ec,ed]⟩
 | trans h1 h2 ih1 ih2 =>
  obtain⟨zs,z1,z2⟩:=ih2 e;obtain⟨us,u1,u2⟩:=ih1 z2.symm;exact⟨us,u1.trans z1,u2⟩
def dr (es:Array (Int×A1))(t:O3):Bool:=!t.plain&&decide (es.size>1)
structure SetV (w:C8)(h:B7)(a:A0)(o:Obj)(es:Array (Int×A1))(ep:Nat)(t:O3):Prop where
 ho:h.get? a=some o
 ex:o.ExactSet
 hd:o.data=.set es ep t
 fits:t.fits es.size=true
 few:es.size<=127
 led:t.led=!(w.params.followText "set-order")
 rise:dr es t=false->Rise t.place.toList
abbrev vls (es:Array (Int×A1)):List A1:=es.toList.map (·.2)
section
variable {prog:D1}{w:C8}{A:D5}{E:A1->A5->Prop}{s:A5}{a:A0}{ep:Nat}{o:Obj}{es:Array (Int×A1)}{t:O3}
theorem SetK.toV (S:SetK prog w h a o es ep t xs):SetV w h a o es ep t:=⟨S.ho,S.ex,S.hd,S.fits,by
 have:=S.few;rw[S.sz]
 rcases S.tb.mask with z|z|z <;> rw[z] at this <;> omega,S.led,λ_=>S.tb.rise⟩
theorem Fg (h:Q (w.params.followText "set-order") s):A6 (A9 prog w) A setsByText Q E s:=A3 (DB (B0 h))
theorem Rg (S:SetV w h0 a o es ep t)(ho:s.heap.get? a=some o)(hb:w.params.followText "set-order"=false)(hd:dr es t=false)(hi:i<=es.size)
   (h:Q ((vls es)[i]?.map λx=>(x,v5 t.place (i+1))) s):A6 (A9 prog w) A (setNext a (v5 t.place i) i ep) Q E s:=by
 have sp:t.place.size=es.size:=by
  have:=S.fits;unfold SetTable.fits at this;simp only[R7,beq_iff_eq] at this;exact this.1
 unfold setNext;refine A3 (U6 ho S.hd S.fits ?_);dsimp only;refine A3 (Fg ?_);rw[hb];simp only[J3,↓reduceIte];have e1:(!t.plain&&decide (es.size>1))=false:=hd;show A6 _ _ (if(!t.plain&&decide (es.size>1))=true then _ else _) _ _ _;rw[e1];simp only[J3,↓reduceIte];have el:t.led=true:=by rw[S.led,hb];rfl
 refine A3 (show A6 _ _ (if(!t.led&&!es.isEmpty)=true then _ else _) _ _ _ from ?_);rw[el];simp only[Ab,Be,J3,↓reduceIte];refine B0 ?_;rw[Re (S.rise hd) (by omega)];refine B0 ?_;rw[G6,P5] at h;cases ex:es[i]? with
 |none=>rw[ex] at h;exact h
 | some y =>
  rw[ex] at h;have lt:i<t.place.size:=by rw[sp];exact(FR.mp ex).1
  rw[X0 lt];have:v5 t.place (i+1)=t.place[i]+1:=by show t.place.getD i 0+1=_;rw[Ac,X0 lt];rfl
  rw[this] at h;exact h
theorem Rh (S:SetV w h0 a o es ep t)(ho:s.heap.get? a=some o)(hb:w.params.followText "set-order"=true)
   (h:Q ((vls (pickOrder (w.params.setOrder a ep) es))[i]?.map λx=>(x,0)) s):A6 (A9 prog w) A (setNext a 0 i ep) Q E s:=by
 unfold setNext;refine A3 (U6 ho S.hd S.fits ?_);dsimp only;refine A3 (Fg ?_);rw[hb];simp only[↓reduceIte];rw[jt (by simp)];refine A3 (m:=setWalk a) ?_;unfold setWalk;refine A3 (U6 ho S.hd S.fits ?_);dsimp only;refine A3 (Fg ?_);rw[hb];simp only[↓reduceIte];refine A3 (DB (B0 (B0 ?_)));rw[G6,P5,Option.map_map] at h;exact h
theorem Ri (hh:A.handled=none)(S:SetV w s.heap a o es ep t)
   (hQ:∀(h':B7) (d:_) (I:A0) (fp:List A0) (ys:List A1) (P:Nat->A1->Prop) (St:Nat->B7->Prop),(∀b o,s.heap.get? b=some o->h'.get? b=some o)->s.heap.objs.size<=I->I<h'.objs.size->(∀b∈fp,b=a\/s.heap.objs.size<=b)->ys.Perm (vls es)->
     (∀i v,P i v->ys[i]?=some v)->Walks prog w A I fp [I] es.size P St->St 0 h'->Q (.ref I) { s with heap:=h',drawn:=d }):A6 (A9 prog w) A (pyIter (.ref a)) Q E s:=by
 have hT:s.TypeIs (.ref a) "set":=⟨o,S.ho,S.ex.1⟩;have la:a<s.heap.objs.size:=C5 S.ho;refine wpAny_pyIter_slot hT F.slot_set_iter (P8 F.slot_set_iter hT QU ?_ (F.args_set_iter_1 _));unfold O4.«frozenset.__iter__» Builtin.Frozenset.slot0 Builtin.Frozenset.sizeOf;refine A3 (A3 (B0 (B0 ?_)));refine A3 (A3 (Ca S.ho S.hd S.fits (B0 ?_)));unfold setDrawn;refine A3 (A3 (U6 S.ho S.hd S.fits ?_));dsimp only;refine A3 (Fg (B0 ?_));show A6 _ _ (if(!(w.params.followText "set-order")&&dr es t)=true then _ else _) _ _ _
 by_cases c:(!(w.params.followText "set-order")&&dr es t)=true
 ·rw[jr c];refine A3 (KR es.size (E5 es.size) _ _ (by simp) λpl d hp=>?_);have lp:pl.length=es.size:=by rw[hp.length_eq,AU]
  have lt:∀p∈pl,p<es.size:=λp h=>L4.mp (hp.mem_iff.mp h);have few:=S.few;refine A3 (wpAny_newTuple ?_ (by rw[K5,B8];omega));have g1:(s.heap.push { cls:=.type "tuple",data:=.seq (pl.map λ(i:Nat)=>rawInt i).toArray }).get? a=some o:=D0 _ S.ho;refine A3 (m:=setEpoch a) (A3 (U6 (s:={ s with drawn:=d,heap:=s.heap.push { cls:=.type "tuple",data:=.seq (pl.map λ(i:Nat)=>rawInt i).toArray } }) g1 S.hd S.fits (B0 ?_)));refine A3 (N5 (B0 ⟨_,rfl,"set_iterator",_,⟨_,G4 _ rfl,rfl⟩,Y2.lookup,?_⟩));have sz1:(s.heap.push { cls:=.type "tuple",data:=.seq (pl.map λ(i:Nat)=>rawInt i).toArray }).objs.size=s.heap.objs.size+1:=AZ ..;refine hQ _ d (s.heap.push { cls:=.type "tuple",data:=.seq (pl.map λ(i:Nat)=>rawInt i).toArray }).objs.size [(s.heap.push { cls:=.type "tuple",data:=.seq (pl.map λ(i:Nat)=>rawInt i).toArray }).objs.size,a,s.heap.objs.size] (pl.map λp=>(vls es).getD p .none) _ _ (λb o e=>D0 _ (D0 _ e)) (by simp) (Nat.lt_of_lt_of_eq (Nat.lt_succ_self _) (AZ ..).symm) (λb hb=>?_) ?_ ?_ (lp▸Rc (es:=es) (o:=o) (t:=t) (ep:=ep) (tp:=s.heap.objs.size) (pl:=pl) hh lp.symm (by grind) (by simp) S.hd S.fits rfl lt) ?_
  ·grind
  ·exact(KN (vls es) pl .none (by grind)).2
  ·grind
  ·refine⟨⟨_,G4 _ rfl,rfl,?_⟩,D0 _ g1,⟨_,D0 _ (G4 _ rfl),rfl,0,rfl⟩⟩;show CB _=CB _
   first|rfl|(rw[lp];rfl)
 ·rw[jt c];refine A3 (B0 ?_);refine A3 (m:=setEpoch a) (A3 (U6 S.ho S.hd S.fits (B0 ?_)));refine A3 (N5 (B0 ⟨_,rfl,"set_iterator",_,⟨_,G4 _ rfl,rfl⟩,Y2.lookup,?_⟩))
  have go:∀(ys:List A1) (sl:Nat->Nat),sl 0=0->ys.Perm (vls es)->(∀(i:Nat) (s:A5) (A:D5) (E:A1->A5->Prop) (Q':Option (A1×Nat)->A5->Prop),s.heap.get? a=some o->i<=ys.length->Q' (ys[i]?.map λx=>(x,sl (i+1))) s->A6 (A9 prog w) A (setNext a (sl i) i ep) Q' E s)->Q (.ref s.heap.objs.size) { s with heap:=s.heap.push { cls:=.type "set_iterator",data:=.fields #[rawInt 0,rawInt 0,.ref a,rawInt es.size,rawInt ep] } }:=by
   intro ys sl h0 pm hs;have lp:ys.length=es.size:=by rw[pm.length_eq,B8,M6]
   refine hQ _ s.drawn s.heap.objs.size [s.heap.objs.size,a] ys (λi v=>ys[i]?=some v) _ (λb o e=>D0 _ e) (B9 _) (by simp) (λb hb=>?_) pm (λ_ _ e=>e) (lp▸Rb (es:=es) (o:=o) (t:=t) (ep:=ep) (ys:=ys) (sl:=sl) hh lp.symm (D7 la) S.hd S.fits hs) ?_
   ·grind
   ·refine⟨⟨_,G4 _ rfl,rfl,?_⟩,D0 _ S.ho⟩;show CB _=CB _;rw[h0]
    rfl
  by_cases cb:w.params.followText "set-order"=true
  ·exact go (vls (pickOrder (w.params.setOrder a ep) es)) (λ_=>0) rfl ((QX (w.params.setOrder a ep) es).map _) λi s' A E Q' e hi q=>Rh S e cb q
  ·have cb':w.params.followText "set-order"=false:=by simpa using cb
   have cd:dr es t=false:=by
    rw[cb'] at c
    simpa using c
   exact go (vls es) (v5 t.place) rfl (.refl _) λi s' A E Q' e hi q=>Rg S e cb' cd (by grind) q
end
end SeT
end
section
namespace SeT
open PySem PySem.W PySem.Spec PyProof.Rows L2
section
variable {prog:D1}{w:C8}{A:D5}{E:A1->A5->Prop}{s:A5}{a:A0}{ep:Nat}{o:Obj}{es:Array (Int×A1)}{t:O3}
theorem Rj (hT:s.TypeIs (.ref r) "set")(h:Q false s):A6 (A9 prog w) A (FU (.ref r)) Q E s:=by
 unfold FU;refine A3 (AG hT PySem.F.slot_set_len.lookup ?_);generalize hid:("set.__len__":String)=id0
 wp_delta
 rw[show splitId id0=some ("set","__len__") from by subst hid;decide +kernel];subst hid;refine A3 (Cd (T:="set") (b:=true) hT (by rw[k6];kernel_rfl) ?_);refine DG (λz=>absurd z (by decide)) λ_=>?_;refine DG (λ_=>A3 (k8 hT (B0 h))) λz=>absurd (by decide +kernel) z
theorem Rk (S:SetV w s.heap a o es ep t)(hh:A.handled=none)(L:A0)(ne:L≠a)(res:A1)(c₀:Nat)(hL:s.heap.get? L=some { cls:=.type "list",data:=.seq #[] c₀ })
   (hR:∀h' d tk c' (ys:List A1),(∀b o,b≠L->s.heap.get? b=some o->h'.get? b=some o)->h'.get? L=some { cls:=.type "list",dict:=none,data:=.seq ys.toArray c',slots:=#[] }->ys.Perm (vls es)->R (.ok (.ret res)) { s with heap:=h',drawn:=d,toks:=tk }) :
   A6 (A9 prog w) A.in1 (DZ (.ref L) (.ref a) res)
     (λfin s'=>match fin with|.done f=>R (.ok f) s'|.again c'=>c'.quiet=true/\N0 (A9 prog w) A c' R s') (λe s'=>R (.error e) s') s:=by
 have hT:s.TypeIs (.ref a) "set":=⟨o,S.ho,S.ex.1⟩;have lL:L<s.heap.objs.size:=C5 hL
 have few:es.size<=C4:=by
  have:=S.few;rw[K5];omega
 unfold DZ;refine A3 (k8 (T:="set") hT ?_);have h1:D_ (.ref L) (.ref a)=false:=by simp[D_,ne]
 have h2:(L5 "set" == L5 "list")=false:=by decide
 have h3:(L5 "set" == L5 "tuple")=false:=by decide
 simp only[h1,h2,h3,Aa,J3,if_false];refine A3 (Ri (A:=A.in1) hh S λh1 d I fp ys P St k1 hI hI2 hfp pm hP W st=>?_);have nI:L≠I:=D7 (K7 lL hI);have nf:L∉fp:=λz=>(hfp L z).elim ne λz=>absurd lL (Nat.not_lt.mpr z);have hL1:=k1 _ _ hL
 have key:∀(h:B7) (c₁ tk:Nat),St 0 h->(∀b o,b≠L->s.heap.get? b=some o->h.get? b=some o)->
     h.get? L=some { cls:=.type "list",data:=.seq #[] c₁ }->N0 (A9 prog w) A (.builtin "list.extend.loop" ⟨[.ref L,.ref I,res],[]⟩) R { s with heap:=h,drawn:=d,toks:=tk }:=by
   intro h c₁ tk hst hk hS₁;refine codeAny_extend_loopS W.toS few L nf res es.size 0 _ #[] c₁ rfl (J9 _) hst hS₁ (ItemsOf.nil _) λs' acc' c' hm hS' hacc=>?_;rw[Moved.eq_with hm]
   have ea:acc'=ys.toArray:=by
    apply Array.toList_inj.mp
    rw[DK]
    apply List.ext_getElem?
    intro i;rw[P5];cases e:acc'[i]? with
    | none =>
     symm
     rw[List.getElem?_eq_none_iff,pm.length_eq,B8,M6];have:=Array.getElem?_eq_none_iff.mp e;rw[hacc.1] at this;exact this
    |some v=>exact(hP i v (hacc.2 i v e)).symm
   refine hR s'.heap d s'.toks c' ys (λb o hb e=>hm.heap b o (λhmem=>?_) (hk b o hb e)) (by grind) pm;rcases C6.mp hmem with e'|hmem
   ·grind
   ·exact absurd (C5 e) (by grind)
 refine A3 (J7 (Rj (s:={ s with heap:=h1,drawn:=d }) ⟨o,k1 _ _ S.ho,S.ex.1⟩ ?_));refine DG (λ_=>?_) (λ_=>B0 ⟨e6 PySem.F.plain_extend_loop _,key _ c₀ _ st (λb o _ e=>k1 b o e) hL1⟩);refine A3 (e7 ?_);refine A3 (show A6 (A9 prog w) _ (updateSeq L (·.push .none)>>=λ_=>updateSeq L (·.pop)) _ _ _ from ?_);refine A3 (wpAny_updateSeq hL1 rfl ?_);have hS₂:=AY (F8 (·.push X1)) hL1 rfl;refine wpAny_updateSeq (hz:=by seq_fits) hS₂ rfl ?_;have hS₃:=AY (F8 (·.pop)) hS₂ rfl;refine B0 ⟨e6 PySem.F.plain_extend_loop _,key _ _ _ ?_ (λb o hb e=>?_) hS₃⟩
 ·refine W.frame 0 _ _ st λb hb o e=>?_;have hbS:b≠L:=λh=>nf (h▸hb);exact(AX _ _ (Ne.symm hbS)).trans ((AX _ _ (Ne.symm hbS)).trans e)
 ·exact(AX _ _ (Ne.symm hb)).trans ((AX _ _ (Ne.symm hb)).trans (k1 b o e))
theorem Rl (S:SetV w s.heap a o es ep t)(hh:A.handled=none)
   (h:∀(h':B7) (d:_) (tk:Nat) (ys:List A1),(∀b o,s.heap.get? b=some o->h'.get? b=some o)->s.heap.objs.size<=h'.objs.size->ys.Perm (vls es)->R ys { s with heap:=h',drawn:=d,toks:=tk }) :
   A6 (A9 prog w) A (collect (.ref a)) R E s:=by
 unfold collect;refine A3 (wpAny_runValue (Y7 entry_proto_collect' ?_));rw[i6 PySem.F.plain_proto_collect _];refine(show A6 (A9 prog w) A.in1 (newList []>>=λl=>again (.builtin "list.__iadd__" ⟨[l,.ref a],[]⟩)) _ _ s from ?_);refine A3 (N5 (B0 ⟨e6 PySem.F.plain_list_iadd _,Y7 entry_list_iadd' ?_⟩));rw[i6 PySem.F.plain_list_iadd _];have hS:(s.heap.push { cls:=.type "list",data:=.seq ([]:List A1).toArray }).get? s.heap.objs.size=some { cls:=.type "list",data:=.seq #[] }:=G4 _ rfl;have S1:SetV w (s.heap.push { cls:=.type "list",data:=.seq ([]:List A1).toArray }) a o es ep t:=⟨D0 _ S.ho,S.ex,S.hd,S.fits,S.few,S.led,S.rise⟩
 have key:=Rk (prog:=prog) (A:=A) (s:={ s with heap:=s.heap.push { cls:=.type "list",data:=.seq ([]:List A1).toArray } })
   (R:=λ(q:Result) (s':A5)=>∃(h':B7) (d:_) (tk:Nat) (ys:List A1) (c:Nat),q=.ok (.ret (.ref s.heap.objs.size))/\s'={ s with heap:=h',drawn:=d,toks:=tk }/\
     (∀b o,s.heap.get? b=some o->h'.get? b=some o)/\h'.get? s.heap.objs.size=some { cls:=.type "list",dict:=none,data:=.seq ys.toArray c,slots:=#[] }/\ys.Perm (vls es))
   S1 hh s.heap.objs.size (y9 (C5 S.ho)) (.ref s.heap.objs.size) 0 hS
   (λh' d tk c ys hk hS' hp=>⟨h',d,tk,ys,c,rfl,rfl,λb o e=>hk b o (D7 (C5 e)) (D0 _ e),hS',hp⟩)
 refine K3 key (λfin s' x=>?_) λe s' x=>?_
 ·cases fin with
  | done f =>
   obtain⟨h',d,tk,ys,c,e,rfl,hk,hS',hp⟩:=x;cases e;refine A3 (wpAny_load hS' (B0 ?_));have:=h h' d tk ys hk (W9 (C5 hS')) hp
   simpa using this
  | again c₁ =>
   refine⟨x.1,x8 x.2 λq s₂ y=>?_⟩;obtain⟨h',d,tk,ys,c,rfl,rfl,hk,hS',hp⟩:=y;refine A3 (wpAny_load hS' (B0 ?_));have:=h h' d tk ys hk (W9 (C5 hS')) hp
   simpa using this
 grind
end
end SeT
end
section
namespace SeT
open PySem PySem.W PySem.Spec PyProof.Rows L2
abbrev rfs (ys:List (List Key×A0)):List A1:=ys.map λy=>L9 y.2
abbrev kks (ys:List (List Key×A0)):List (List Key):=ys.map (·.1)
section
variable {prog:D1}{w:C8}{A:D5}{E:A1->A5->Prop}{s:A5}{a:A0}{ep:Nat}{o:Obj}{es:Array (Int×A1)}{t:O3}
theorem Rm {α:Type}{m:Nat}{Q:A1->A5->Prop}(S:SetV w s.heap a o es ep t)(hh:A.handled=none)(xs:List α)(f:α->A1)(g:α->List Key)(ev:vls es=xs.map f)(h64:xs.length<64)(pk:∀x∈xs,Kv1 s.heap m (f x) (g x))(al:u6 (xs.map g))
   (h:∀ys h2 d tk D e,List.Perm ys xs->(∀b o,s.heap.get? b=some o->h2.get? b=some o)->s.heap.objs.size<=D->h2.get? D=some (seqObj "list" (T4 (ltIx (ys.map g)) (ys.map f)).toArray e)->Q (.ref D) { s with heap:=h2,drawn:=d,toks:=tk }) :
   A6 (A9 prog w) A (call (.builtin "sorted") [.ref a]) Q E s:=by
 refine Calls.call_function_entry kind_sorted plain_sorted entry_sorted (args_sorted1 _) ?_;unfold O4.«sorted»;refine A3 (m:=checkCount "sorted" 1 1 _) (B0 ?_);refine A3 (Rl (A:=A.in1) S hh λh1 d tk vs k1 z1 pv=>?_);rw[ev] at pv;obtain⟨ys,pm,rfl⟩:=Rf pv;have ly:=pm.length_eq;refine A3 (Cf ?_ (by rw[K5,B8];omega));have hoL:(h1.push (seqObj "list" (ys.map f).toArray 0)).get? h1.objs.size=some (seqObj "list" (ys.map f).toArray 0):=G4 _ rfl;have kL:∀b o,s.heap.get? b=some o->(h1.push (seqObj "list" (ys.map f).toArray 0)).get? b=some o:=λb o e=>D0 _ (k1 b o e);have ne:∀b o,s.heap.get? b=some o->b≠h1.objs.size:=λb o e=>D7 (K7 (C5 e) z1)
 have pk1:Paired (Kv1 s.heap m) (ys.map f) (ys.map g):=by
  have hy:∀y∈ys,Kv1 s.heap m (f y) (g y):=λy hy=>pk y (pm.mem_iff.mp hy);clear hoL kL pm ly pv
  induction ys with
  |nil=>exact .nil
  |cons y ys ih=>exact .cons (hy y C3) (ih λz hz=>hy z (C2 _ hz))
 have al1:u6 (ys.map g):=λx hx y hy=>al x ((pm.map g).mem_iff.mp hx) y ((pm.map g).mem_iff.mp hy);refine A3 (J7 (P8 slot_list_sort ⟨_,hoL,rfl⟩ entry_list_sort ?body (args_list_sort _)))
 case body=>
  refine JZ (lt:=ltIx (ys.map g)) (s:={ s with heap:=h1.push (seqObj "list" (ys.map f).toArray 0),drawn:=d,toks:=tk }) hoL (by grind) (λl2 h3 k3=>?_) λh3 e k3 e3=>?_
  ·exact Kc (s:={ s with drawn:=d }) l2 pk1 al1 _ _ h3 tk λb o x=>k3 b o (ne b o x) (kL b o x)
  ·exact⟨_,rfl,B0 ⟨_,rfl,h ys h3 d tk _ e pm (λb o x=>k3 b o (ne b o x) (kL b o x)) z1 e3⟩⟩
end
theorem Ro (h:us.length<64):(outV (ltIx jo) us).length<=C4:=by
 rw[K5];unfold outV
 split
 ·omega
 ·rw[B8,M6,(Kr.sort_ok (EO jo) (by omega)).2.1];omega
theorem items_are {prog:D1}{w:C8}:∀{ks:List Key} {vs:List A1},u5 ks vs->ItemsAre (K8 prog w) ks vs:=by
 intro ks vs h
 induction h with
 |nil=>exact .nil
 | @cons k v ks vs h1 _ ih =>
  refine .cons ?_ ih
  match k,h1 with
  |.inl i,⟨t,e⟩=>subst e;exact ID _ _ _ _
  |.inr z,⟨t,e⟩=>subst e;exact Ef _ _ _ _
theorem is_of (x:TupK h (.ref r) k):(TK prog w).is h k r:=by
 obtain⟨a,o,items,n,e,ho,hc,hd,hk⟩:=x;cases e;exact⟨o,items,n,ho,hc,hd,items_are hk⟩
section
variable {X:Cx}
def SetO (X:Cx)(p:A0)(rs:List (List Key×A0)):HO:=.ext λh=>∃h0 o es ep t xs,SetK X.prog X.w h0 p o es ep t xs/\h.get? p=some o/\(∀x∈xs,x∈rs)/\∀x∈rs,x.1∈kks xs
theorem Rp {K:A8}(p:Paired (KM K H 2) ys jo):∃rs:List (List Key×A0),kks rs=jo/\(rs.map λy=>V.ref y.2)=ys/\∀y∈rs,SqT K H y.2 (y.1.map kV)/\y.1≠[]:=by
 induction p with
 |nil=>exact⟨[],rfl,rfl,λ_ z=>nomatch z⟩
 | cons h1 _ ih =>
  obtain⟨rs,e1,e2,e3⟩:=ih;obtain⟨a,rfl,hq,hne⟩:=h1;refine⟨(_,a)::rs,by rw[<- e1];rfl,by rw[<- e2];rfl,λy hy=>?_⟩;rcases C6.mp hy with rfl|hy
  ·grind
  ·grind
theorem HV:∀(rs:List (List Key×A0)) {jf:List A1},Vals (rs.map λy=>V.ref y.2) jf->jf=rfs rs
 |[],_,h=>by cases h;rfl
 | y :: rs, _, h => by
  cases h with
  |cons h1 h2=>rw[HV rs h2,show _=L9 y.2 from h1];rfl
theorem Rq (hc:X.calm=true)(hu:X.A.units+64<cLine):L6 X (.type "set") (λvs H Q=>∃a ys jo,vs=[.ref a]/\(SqL X.K H a ys\/SqT X.K H a ys)/\Paired (KM X.K H 2) ys jo/\ys.length<=63/\
   ∀p rs,H p=none->kks rs=jo->(rs.map λy=>V.ref y.2)=ys->(∀y∈rs,SqT X.K H y.2 (y.1.map kV)/\y.1≠[])->Q (.ref p) (upd H p (SetO X p rs))):=by
 intro jb s σ H vs us Q I rv h;obtain⟨a,ys,jo,rfl,hq,hp,hl,q⟩:=h;obtain⟨u,rfl,ru⟩:=rv.one;obtain rfl:u=.ref a:=ru;obtain⟨rs,e1,rfl,e3⟩:=Rp hp;have hk:∀y∈rs,(TK X.prog X.w).is s.heap y.1 y.2:=λy hy=>is_of (Hz I (e3 y hy).1);rw[B8] at hl
 have fin:∀(h':B7) (tk:Nat),Holds X.prog X.w h' s.heap.objs.size rs->(∀b o,b<s.heap.objs.size->s.heap.get? b=some o->h'.get? b=some o)->EP X jb σ Q (.ref s.heap.objs.size) { s with heap:=h',toks:=tk }:=λh' tk so kp=>by
  obtain⟨o,es,ep,t,xs,S1,S2,S3⟩:=so
  have I1:Inv X jb σ (upd H s.heap.objs.size (SetO X s.heap.objs.size rs)) { s with heap:=h',toks:=tk }:=
   I.laid (fun b o e=>kp b o (C5 e) e) (B9 _) ⟨⟨h',o,es,ep,t,xs,S1,S1.ho,S2,S3⟩,⟨o,S1.ho⟩,fun h1 h2 x k2=>by
    obtain⟨h0,o,es,ep,t,xs,S1,g,S2,S3⟩:=x
    exact⟨h0,o,es,ep,t,xs,S1,k2 o g,S2,S3⟩⟩
  exact⟨.ref s.heap.objs.size,_,I1,rfl,q _ rs (I.hok.fresh (B9 _)) e1 rfl e3⟩
 rcases hq with hq|hq
 ·obtain⟨jf,r,pl,_⟩:=I.list hq;refine KO (rs:=rs) (I.ok.hd hc) hu (.inl pl.isList) ?_ hk hl fin;rw[DK];exact HV rs r
 ·obtain⟨jf,r,ht,_⟩:=I.tuple hq;refine KO (rs:=rs) (I.ok.hd hc) hu (.inr ht) ?_ hk hl fin;rw[DK];exact HV rs r
theorem inv_dr (I:Inv X jb σ H s)(d:_):Inv X jb σ H { s with drawn:=d }:=⟨I.ok,I.os,I.bare,I.base,I.loc,I.cell,I.free,I.freeC,I.pin,I.hok,I.len⟩
theorem Rr (hc:X.calm=true):L6 X (.builtin "sorted") (λvs H Q=>∃p rs,vs=[.ref p]/\H p=some (SetO X p rs)/\rs.length<64/\(∀y∈rs,SqT X.K H y.2 (y.1.map kV)/\y.1≠[])/\u6 (kks rs)/\
   ∀l zs,H l=none->(kks zs).Nodup->(∀z∈zs,z∈rs)->(∀y∈rs,y.1∈kks zs)->Q (.ref l) (upd H l (.lst (outV (ltIx (kks zs)) (zs.map λz=>V.ref z.2))))):=by
 intro jb s σ H vs us Q I rv h;obtain⟨p,rs,rfl,e,h64,hk,al,q⟩:=h;obtain⟨u,rfl,ru⟩:=rv.one;obtain rfl:u=.ref p:=ru;obtain⟨⟨h0,o,es,ep,t,xs,S0,g,S2,S3⟩,_,_⟩:=I.hok p _ e;have tk:∀x∈xs,TupK s.heap (.ref x.2) x.1:=λx hx=>Hz I (hk x (S2 x hx)).1;have S:SetK X.prog X.w s.heap p o es ep t xs:=⟨g,S0.ex,S0.hd,S0.hes,(λx hx=>is_of (tk x hx)),S0.nd,S0.tb,S0.few,S0.led⟩;have lx:xs.length<64:=A_ (Holds.len S S2) h64;refine Rm (m:=2) S.toV (I.ok.hd hc) xs (λx=>L9 x.2) (·.1) (by unfold vls;rw[S.hes,V1];rfl) lx (λx hx=>⟨tk x hx,(hk x (S2 x hx)).2⟩) (λx hx y hy=>?_) λys h2 d t2 D e pm k hD ho=>?_
 ·obtain⟨x',hx',rfl⟩:=G0.mp hx;obtain⟨y',hy',rfl⟩:=G0.mp hy;exact al _ (G0.mpr ⟨x',S2 x' hx',rfl⟩) _ (G0.mpr ⟨y',S2 y' hy',rfl⟩)
 ·have vv:Vals (ys.map λy=>V.ref y.2) (rfs ys):=by
   clear pm ho
   induction ys with
   |nil=>exact .nil
   |cons y ys ih=>exact .cons rfl ih
  have vo:=Kd vv (EO (kks ys));have ly:ys.length=xs.length:=pm.length_eq;have hlo:(outV (ltIx (kks ys)) (ys.map λy=>V.ref y.2)).length<=C4:=Ro (by grind);have I1:=inv_dr (I.laid (t':=t2) k hD (show G7 X.prog X.w _ h2 _ (.lst _) from⟨hlo,_,e,vo,ho⟩)) d;exact⟨.ref D,_,I1,rfl,q _ ys (I.hok.fresh hD) ((pm.map (·.1)).nodup_iff.mpr S.nd) (λz hz=>S2 z (pm.mem_iff.mp hz)) λy hy=>(pm.map (·.1)).mem_iff.mpr (S3 y hy)⟩
end
end SeT
end
section
namespace SeT
open PySem PySem.W PySem.Spec PyProof.Rows L2
section
variable {X:Cx}
def tMo (t:TE):TE:=λσ H Q=>∃Q',t σ H Q'/\∀v H',Q' v H'->Q v H'
theorem pe_mo (h:PE X e t):PE X e (tMo t):=by
 intro jb s σ H Q I ⟨Q',h1,h2⟩;exact K3 (h jb s σ H Q' I h1) (λu s' ⟨v,H',I',r,q⟩=>⟨v,H',I',r,h2 _ _ q⟩) λ_ _ e=>e
def Rt (K:A8)(t:TE):TE:=λσ H Q=>∃Q',t σ H Q'/\∀x H1,Q' x H1->∃a ys jo,x=.ref a/\(SqL K H1 a ys\/SqT K H1 a ys)/\Paired (KM K H1 2) ys jo/\ys.length<=63/\u6 jo/\
 ∀H2 l rs zs,Same H1 H2->H2 l=none->kks rs=jo->(rs.map λy=>V.ref y.2)=ys->(kks zs).Nodup->(∀z∈zs,z∈rs)->(∀y∈rs,y.1∈kks zs)->Q (.ref l) (upd H2 l (.lst (outV (ltIx (kks zs)) (zs.map λz=>V.ref z.2))))
theorem Ru {K:A8}(h:SqT K H a xs)(s:Same H H'):SqT K H' a xs:=by
 rcases h with h|h
 ·left;rcases h with h|⟨o,h⟩
  ·exact .inl (s _ _ h)
  ·exact .inr ⟨o,s _ _ h⟩
 ·exact .inr h
theorem Rv (hc:X.calm=true)(hr:Room k X.A)(g1:Gl X "sorted")(m1:X.mg "sorted"=none)(g2:Gl X "set")(m2:X.mg "set"=none)(he:PE X e t)(hs:E9 [e] X.env=(false,eval e X.env)::E9 [] X.env) :
   PE X (.Call (.Name "sorted" p1) [.Call (.Name "set" p2) [e] [] pos2] [] pos) (Rt X.K t):=by
 have i1:=Bw (p:=p2) (pos:=pos2) (Rq hc hr.units) g2 m2 GE (E8 (pe_mo he) J6 hs) (by decide) (by decide) hs rfl;have i2:=Z7 (p:=p1) (pos:=pos) (Rr hc) g1 m1 GC (E8 i1 J6 rfl) (by decide) (by decide) rfl rfl;intro jb s σ H Q I ⟨Q',h1,h2⟩;refine i2 jb s σ H Q I ⟨Q',h1,λx H1 hx=>?_⟩;obtain⟨a,ys,jo,rfl,hq,hp,hl,al,q⟩:=h2 x H1 hx;refine⟨a,ys,jo,rfl,hq,hp,hl,λp rs hn ek eu hk=>?_⟩;have sm:Same H1 (upd H1 p (SetO X p rs)):=(Same.refl _).lay hn;refine⟨p,rs,rfl,E7,?_,λy hy=>⟨Ru (hk y hy).1 sm,(hk y hy).2⟩,by rw[ek];exact al,λl zs hl nd z1 z2=>q _ l rs zs sm hl ek eu nd z1 z2⟩;have:rs.length=ys.length:=by rw[<- eu,B8]
 omega
end
end SeT
namespace Pu
open PySem PySem.Spec L2
def BS (xs:List PV):Prop:=(∀x∈xs,∃ks,x=.tup (ks.map kP)/\ks≠[])/\∀x∈xs,∀y∈xs,Al (keyP x) (keyP y)
def SrtS (ys xs:List PV):Prop:=ys.Nodup/\(∀y,y∈ys↔y∈xs)/\ys.Pairwise λa b=>lexK (keyP b) (keyP a)=false
def wSet (R:List PV->Prop)(xs:List PV):Prop:=xs.length<=63/\BS xs/\∀ys,SrtS ys xs->R ys
def BT (pe:pE):pA:=λenv n R=>pe env n λx jc n1=>match x with|.lst xs=>wSet (λys=>R ys jc n1) xs|.tup xs=>wSet (λys=>R ys jc n1) xs|_=>False
abbrev zP (z:List Key×A0):PV:=.tup (z.1.map kP)
theorem keyP_z (z:List Key×A0):keyP (zP z)=z.1:=d4 z.1
theorem zP_inj {ks js:List Key}(h:(PV.tup (ks.map kP))=.tup (js.map kP)):ks=js:=by rw[<- d4 ks,h,d4]
section
variable {T:PotK}{ι:Type}{K:A8}{F:ι->Cx}{e:Expr}{pe:pE}{pos:Pos}
theorem KU:∀{xs:List PV} {rs:List (List Key×A0)},Reps K G H xs (rs.map λy=>V.ref y.2)->SeT.kks rs=xs.map keyP->(∀x∈xs,∃ks,x=.tup (ks.map kP)/\ks≠[])->xs=rs.map zP/\∀z∈rs,Rep K G H (zP z) (.ref z.2)
 |[],[],_,_,_=>⟨rfl,λ_ z=>nomatch z⟩
 |[],_::_,h,_,_=>by cases h
 | x :: xs, [], h, _, _ => by
  obtain⟨_,_,e,_⟩:=h;cases e
 | x :: xs, r :: rs, h, hk, hx => by
  obtain⟨v,t,e,h1,h2⟩:=h;rw[F2] at e;injection e with e1 e2;subst e1;subst e2;have hk':r.1::SeT.kks rs=keyP x::xs.map keyP:=hk;injection hk' with k1 k2;obtain⟨a1,a2⟩:=KU h2 k2 λy hy=>hx y (C2 _ hy);obtain⟨ks,rfl,_⟩:=hx x C3;rw[d4] at k1;have ez:zP r=.tup (ks.map kP):=by show PV.tup (r.1.map kP)=_;rw[k1]
  refine⟨by rw[F2,ez,<- a1],λz hz=>?_⟩;rcases C6.mp hz with rfl|hz
  ·rw[ez];exact h1
  ·exact a2 z hz
theorem KW {G:Gh}{H:Hp}:∀(zs:List (List Key×A0)),(∀z∈zs,Rep K G H (zP z) (.ref z.2))->Reps K G H (zs.map zP) (zs.map λz=>V.ref z.2)
 |[],_=>rfl
 |z::zs,h=>⟨_,_,rfl,h z C3,KW zs λy hy=>h y (C2 _ hy)⟩
theorem SrtS.of {rs:List (List Key×A0)}(e:xs=rs.map zP)(nd:(SeT.kks zs).Nodup)(h1:∀z∈zs,z∈rs)(h2:∀y∈rs,y.1∈SeT.kks zs):SrtS (outP (zs.map zP)) xs:=by
 obtain⟨p,pw⟩:=Kf (zs.map zP);refine⟨p.nodup_iff.mpr ?_,λy=>?_,pw⟩
 ·rw[Q6,e9];have:zs.Pairwise λa b=>a.1≠b.1:=e9.mp nd;exact this.imp λhab h=>hab (zP_inj h)
 grind
theorem KY (hc:∀z,(F z).calm=true)(hr:∀z,Room k (F z).A)(hg:∀z,Gl (F z) "sorted")(hm:∀z,(F z).mg "sorted"=none)(hg2:∀z,Gl (F z) "set")(hm2:∀z,(F z).mg "set"=none)(ha:QR T K F e pe)(hs:F5 e=true:=by rfl)(hK:∀z,(F z).K=K:=by intro _;rfl) :
   QN T K F (.Call (.Name "sorted" p) [.Call (.Name "set" p2) [e] [] pos2] [] pos) (BT pe):=by
 obtain⟨t,h1,h2⟩:=ha;refine⟨_,λz=>hK z▸SeT.Rv (hc z) (hr z) (hg z) (hm z) (hg2 z) (hm2 z) (h1 z) (D8 hs),λC G σ H env n R Q hK hT S hp k=>?_⟩;refine⟨λv H1=>∃x jc n1,(match x with|PV.lst xs=>wSet (λys=>R ys jc n1) xs|.tup xs=>wSet (λys=>R ys jc n1) xs|_=>False)/\SR C G σ H1 jc n1/\RdS C G σ H1 jc x v/\Fr G H H1,h2 C G σ H env n _ _ hK hT S hp λx jc n1 v H1 p1 S1 r1 f1=>⟨x,jc,n1,p1,S1,r1,f1⟩,λv H1 ⟨x,jc,n1,p1,S1,r1,f1⟩=>?_⟩;have rd:RdV K G H1 x v:=hK▸r1.rd S1
 have main:∀(xs:List PV) (a:A0) (us:List V),wSet (λys=>R ys jc n1) xs->(SqL K H1 a us\/SqT K H1 a us)->Reps K G H1 xs us->∃a' ys jo,V.ref a=.ref a'/\(SqL K H1 a' ys\/SqT K H1 a' ys)/\Paired (KM K H1 2) ys jo/\ys.length<=63/\u6 jo/\
     ∀H2 l rs zs,Same H1 H2->H2 l=none->SeT.kks rs=jo->(rs.map λy=>V.ref y.2)=ys->(SeT.kks zs).Nodup->(∀z∈zs,z∈rs)->(∀y∈rs,y.1∈SeT.kks zs)->Q (.ref l) (upd H2 l (.lst (outV (ltIx (SeT.kks zs)) (zs.map λz=>V.ref z.2)))):=by
   intro xs a us ⟨h63,ok,q⟩ hq r;obtain⟨m,pk,al⟩:=km_of r (.inr (.inr ok))
   have pk2:Paired (KM K H1 2) us (xs.map keyP):=Paired.imp' (λv ks ⟨_,_,hp⟩=>hp) (Da (P:=λ_ v ks=>KM K H1 2 v ks) xs r λx hx v hv=>by
    obtain⟨ks,rfl,hne⟩:=ok.1 x hx;obtain⟨a,vs,rfl,at',rr⟩:=hv;rw[d4];refine⟨a,rfl,?_,hne⟩;rw[EQ ks rr] at at'
    exact SqT.of at'.2)
   refine⟨a,us,xs.map keyP,rfl,hq,pk2,by rw[<- r.length];exact h63,al,λH2 l rs zs sm hl ek eu nd z1 z2=>?_⟩;subst eu;obtain⟨ex,rz⟩:=KU r ek ok.1;have rr:Reps K G H2 (zs.map zP) (zs.map λz=>V.ref z.2):=(KW zs λz hz=>rz z (z1 z hz)).same sm;have ro:=Kg rr;have ekz:(zs.map zP).map keyP=SeT.kks zs:=by rw[V1];exact List.map_congr_left λz _=>keyP_z z
   rw[ekz] at ro;exact k _ _ _ _ _ _ (q _ (SrtS.of ex nd z1 z2)) (S1.same sm) (f1.trans (Fr.of sm)) hl ro
 cases x with
 | lst xs =>
  obtain⟨a,us,rfl,hq,r⟩:=rd.lst;exact main xs a us p1 (.inl hq) r
 | tup xs =>
  obtain⟨a,us,rfl,hq,r⟩:=rd.tup;exact main xs a us p1 (.inr hq) r
 |_=>exact p1.elim
end
end Pu
end
section
namespace L2
open PySem PySem.Spec PyProof.Rows
section
variable {X:Cx}
theorem Rw (hc:X.calm=true):L6 X (.type "set") (λvs H Q=>∃(a:A0) (ys:List Str),vs=[.ref a]/\SqL X.K H a (ys.map V.str)/\ys.length<=1000/\∀p,H p=none->Q (.ref p) (upd H p (SetX X p (λq=>(met (O2 ys) ys.length).any (λy=>decide (y=q))) (met (O2 ys) ys.length).length))):=by
 intro jb s σ H vs us Q I rv h;obtain⟨a,ys,rfl,hq,hl,k⟩:=h;obtain⟨u,rfl,ru⟩:=rv.one;obtain rfl:u=.ref a:=ru;obtain⟨jf,r,ht,_⟩:=I.list hq;have sz:jf.toArray.size=ys.length:=by have:=r.length;rw[B8] at this;simpa using this.symm
 refine JM (val:=O2 ys) (I.ok.hd hc) (.inl ht.isList) (λi v e=>?_) (by rw[sz];unfold scanBound;omega) λh' tk so kp=>?_
 ·obtain⟨t,rfl⟩:=JN r (by simpa using e);exact⟨Ef _ _ _ _,rfl⟩
 ·rw[sz] at so
  have I1:Inv X jb σ (upd H s.heap.objs.size (SetX X s.heap.objs.size (λq=>(met (O2 ys) ys.length).any (λy=>decide (y=q))) (met (O2 ys) ys.length).length)) { s with heap:=h',toks:=tk }:=
   I.laid (fun b o e=>kp b o (C5 e) e) (B9 _) ⟨so,by obtain⟨o,_,_,_,e,_⟩:=so;exact⟨o,e⟩,fun h1 h2 x k2=>by
    obtain⟨o,es,ep,t,e,more⟩:=x
    exact⟨o,es,ep,t,k2 o e,more⟩⟩
  exact⟨.ref s.heap.objs.size,_,I1,rfl,k _ (I.hok.fresh (B9 _))⟩
def Rx (K:A8)(t:TE):TE:=λσ H Q=>∃Q',t σ H Q'/\∀x H1,Q' x H1->∃(a:A0) (ys:List Str),x=.ref a/\SqL K H1 a (ys.map V.str)/\ys.length<=1000/\∀H2,Same H1 H2->Q (.int (met (O2 ys) ys.length).length) H2
theorem Ry {e:Expr}{t:TE}{p1 p2 pos pos2:Pos}(hc:X.calm=true)(g1:Gl X "len")(m1:X.mg "len"=none)(g2:Gl X "set")(m2:X.mg "set"=none)(he:PE X e t)(hs:E9 [e] X.env=(false,eval e X.env)::E9 [] X.env) :
   PE X (.Call (.Name "len" p1) [.Call (.Name "set" p2) [e] [] pos2] [] pos) (Rx X.K t):=by
 have i1:=Bw (p:=p2) (pos:=pos2) (Rw hc) g2 m2 GE (E8 (SeT.pe_mo he) J6 hs) (by decide) (by decide) hs rfl;have i2:=Z7 (p:=p1) (pos:=pos) JO g1 m1 Ej (E8 i1 J6 rfl) (by decide) (by decide) rfl rfl;intro jb s σ H Q I ⟨Q',h1,h2⟩;refine i2 jb s σ H Q I ⟨Q',h1,λx H1 hx=>?_⟩;obtain⟨a,ys,rfl,hq,hl,k⟩:=h2 x H1 hx;exact⟨a,ys,rfl,hq,hl,λp hn=>⟨p,_,_,rfl,E7,k _ ((Same.refl _).lay hn)⟩⟩
end
end L2
namespace Pu
open PySem PySem.Spec L2
section
variable {T:PotK}{ι:Type}{K:A8}{F:ι->Cx}{pos:Pos}{e:Expr}{pe:pE}
def Dj:w1:=λx R=>match x with|.lst xs=>(match O0 xs with|some ys=>ys.length<=1000/\R (.int (met (O2 ys) ys.length).length)|none=>False)|_=>False
theorem Rz {p1 p2 pos2:Pos}(hc:∀z,(F z).calm=true)(g1:∀z,Gl (F z) "len")(m1:∀z,(F z).mg "len"=none)(g2:∀z,Gl (F z) "set")(m2:∀z,(F z).mg "set"=none)(he:QE T K F e pe)(hs:F5 e=true:=by rfl)(hK:∀z,(F z).K=K:=by intro _;rfl) :
   QE T K F (.Call (.Name "len" p1) [.Call (.Name "set" p2) [e] [] pos2] [] pos) (qUn Dj pe):=by
 obtain⟨t,h1,h2⟩:=he;refine⟨_,λz=>hK z▸Ry (hc z) (g1 z) (m1 z) (g2 z) (m2 z) (h1 z) (D8 hs),λC G σ H env n R Q hK hT S hp k=>?_⟩;refine⟨_,h2 C G σ H env n _ (λv H'=>∃x jh n',Dj x (λr=>R r jh n')/\SR C G σ H' jh n'/\Rep K G H' x v/\Fr G H H') hK hT S hp (λx jh n' v H' r S' rv f=>⟨x,jh,n',r,S',rv,f⟩),λv H1 hx=>?_⟩;obtain⟨x,jc,n1,r,S1,rv,f1⟩:=hx;unfold Dj at r
 split at r
 ·rename_i xs
  split at r
  ·rename_i ys ey;obtain⟨a,vs,rfl,t,rs⟩:=rv;exact⟨a,ys,rfl,BJ ey rs▸t.sq,r.1,λH2 s2=>k _ _ _ _ _ r.2 (S1.same s2) rfl (f1.trans (Fr.of s2))⟩
  ·exact r.elim
 ·exact r.elim
end
end Pu
end
section
namespace L2
open PySem PySem.Spec PyProof.Rows
section
variable {X:Cx}{a b:Expr}{rest:List Expr}{ta tb:TE}{pos:Pos}
theorem pe_orT (ha:PE X a ta)(hb:PE X (.BoolOp .Or (b::rest) pos) tb):PE X (.BoolOp .Or (a::b::rest) pos) (λσ H Q=>ta σ H λx H1=>∃k,TruV X.K x H1 k/\if k=true then Q x H1 else tb σ H1 Q):=by
 intro jb s σ H Q I h;refine BoolOp_or (thn (ha jb s σ H _ I h) λv s1 ⟨x,H1,I1,r1,q1⟩=>?_);refine thn (IL jb s1 σ H1 x v (λk H=>if k=true then Q x H else tb σ H Q) I1 r1 q1) λc s2 ⟨H2,I2,q2⟩=>?_;cases c with
 |false=>exact hb jb s2 σ H2 Q I2 q2
 |true=>exact⟨x,H2,I2,r1,q2⟩
end
end L2
namespace Pu
open PySem PySem.Spec L2
section
variable {T:PotK}{ι:Type}{K:A8}{F:ι->Cx}{a b:Expr}{rest:List Expr}{pa pb:pE}{pos:Pos}
def qOrT (pa pb:pE):pE:=λenv n R=>pa env n λx jc n1=>match EG x with|some b=>if b=true then R x jc n1 else pb jc n1 R|none=>False
theorem qe_orT (ha:QE T K F a pa)(hb:QE T K F (.BoolOp .Or (b::rest) pos) pb)(hK:∀z,(F z).K=K:=by intro _;rfl):QE T K F (.BoolOp .Or (a::b::rest) pos) (qOrT pa pb):=by
 obtain⟨t,a1,a2⟩:=ha;obtain⟨u,b1,b2⟩:=hb;refine⟨_,λz=>hK z▸pe_orT (a1 z) (b1 z),λC G σ H env n R Q hK hT S hp k=>?_⟩;refine a2 C G σ H env n _ _ hK hT S hp λx jc n1 v H1 q1 S1 r1 f1=>?_
 split at q1
 ·rename_i c ec;refine⟨c,JA ec (.inl r1),?_⟩;cases c with
  | true =>
   rw[jr rfl] at q1 ⊢;exact k _ _ _ _ _ q1 S1 r1 f1
  | false =>
   rw[jt T9] at q1 ⊢;exact b2 C G σ H1 jc n1 _ _ hK hT S1 q1 λy jd n2 w H2 q2 S2 r2 f2=>k _ _ _ _ _ q2 S2 r2 (f1.trans f2)
 ·exact q1.elim
end
end Pu
end
section
namespace Pu
open PySem PySem.Spec L2
def btwU (st:List Str)(x y:Str):List Str:=(st.take (max (ixS st x) (ixS st y))).drop (min (ixS st x) (ixS st y)+1)
theorem KZ {st:List Str}(nd:st.Nodup){x y z:Str}(hx:x∈st)(hy:y∈st):z∈btwU st x y↔z∈st/\min (ixS st x) (ixS st y)<ixS st z/\ixS st z<max (ixS st x) (ixS st y):=by
 unfold btwU;constructor
 ·intro h;obtain⟨q,hq,e⟩:=y4 h;rw[W7,P4] at hq;rw[List.getElem_drop,List.getElem_take] at e;have hm:z∈st:=by rw[<- e];exact y7 _
  have ez:st[min (ixS st x) (ixS st y)+1+q]?=some z:=by rw[D3 (by omega),e]
  have:=nd_ix nd (AA hm).1 ez;exact⟨hm,by omega,by omega⟩
 ·rintro⟨hm,h1,h2⟩;have hl:=HM hm;have e:=(AA hm).1;refine J5 (i:=ixS st z-(min (ixS st x) (ixS st y)+1)) ?_;rw[DL,show min (ixS st x) (ixS st y)+1+(ixS st z-(min (ixS st x) (ixS st y)+1))=ixS st z by omega,List.getElem?_take,jr h2];exact e
structure HW (r:Int)(st:List Str)(es:List Ev):Prop where
 fair:Fair st es
 ahead:∀x y,Ev.t x y∈es->ixS st y<ixS st x
 near:∀x y,Ev.t x y∈es->((btwU st x y).length:Int)<=r
 full:∀x y,Ev.t x y∈es->∀z∈btwU st x y,z∈es.flatMap evB
 plain:∀x y x' y',Ev.t x y∈es->Ev.t x' y'∈es->(x'∈btwU st x y↔y'∈btwU st x y)
theorem Fair.tx {st:List Str}{es:List Ev}(h:Fair st es){x y:Str}(he:Ev.t x y∈es):x∈st/\y∈st:=
 ⟨h.sub x (l7.mpr ⟨_,he,by simp[evB]⟩),h.sub y (l7.mpr ⟨_,he,by simp[evB]⟩)⟩
end Pu
end
section
namespace Pu
open PySem PySem.W PySem.Spec L2
theorem RA (h:Db T):Db (tabK T Pt lpos qual):=λM M' H p n ha hm=>by
 rcases ha with⟨h1,h2⟩|⟨rfl,ps,h2,h3,h4⟩
 ·exact .inl ⟨h1,h _ _ _ _ _ h2 hm⟩
 ·refine .inr ⟨rfl,ps,h2,h3,h4.imp id ?_⟩;rintro⟨c',z1,z2,z3⟩;refine⟨c',z1,λz=>?_,z3⟩;rcases hm c' z with z|⟨o,e,m⟩
  ·exact z2 z
  ·rw[z3] at e;cases e;exact m
section
variable {ι:Type}{K:A8}{F:ι->Cx}{e:Expr}{es:List Expr}{st:Stmt}{pos:Pos}{pl:pA}{pe pa pb:pE}{Pt:A0}{lpos:Pos}{qual:Str}
def HX (i:Nat)(pa pb:pE):pS:=λD env n=>pa env n λx jc n1=>pb jc n1 λy jd n2=>match x,y with|.scr _,.int k=>(0<=k/\k<=1000)/\∀q:Nat,D.nx (jd.set i (some (.v (.pot (q+1))))) n2|_,_=>False
theorem RB (i:Nat)(h:∀z te,EW (F z) (.Call (.Name x p) [a,b] [] pos) te->SW (F z) st (tAsg te (M1 i)))(hG:∀z,Kn (F z).prog (F z).w (F z).K (F z).mg (F z).base x k ps (EE K))(hr:∀z,Room j (F z).A)(hk:k<=j)(hg:∀z,Gl (F z) x)
   (ha:QE (tabK potL Pt lpos qual) K F a pa) (hb:QE (tabK potL Pt lpos qual) K F b pb) (n1:F5 a=true:=by rfl) (n2:F5 b=true:=by rfl) (hdb:(x == ("__debug__":Str))=false:=by decide):QS (tabK potL Pt lpos qual) true K F st (HX i pa pb):=by
 obtain⟨t,a1,a2⟩:=ha;obtain⟨u,b1,b2⟩:=hb;refine⟨_,λz=>(h z _ ⟨pe_fn (hG z) (hr z) hk (hg z) (E8 (a1 z) (E8 (b1 z) J6 (D8 n2)) (D8 n1)) hdb (D8 n1) (by rw[D8 n2];rfl)⟩).h,λC G σ H env n PD D hK hT hn S hp L=>?_⟩;refine a2 C G σ H env n _ _ hK hT S hp λx jc n1 v H1 q1 S1 r1 f1=>?_;refine b2 C G σ H1 jc n1 _ _ hK hT S1 q1 λy jd n2 w H2 q2 S2 r2 f2=>?_
 split at q2
 ·rename_i ns kk;obtain⟨a,ev,hq⟩:=CO (.inl (r1.fr f2));refine(show EE K [v,w] H2 (λx H1=>M1 i x σ H1 D.nx) E0 from ?_);refine⟨a,ns,kk,by rw[ev,show w=.int kk from r2],hq,q2.1.1,q2.1.2,λp own seed hn' ok=>?_⟩;have hh:(tabK potL Pt lpos qual).has G.pots:=hT▸S2.hasG;obtain⟨l',el,nl⟩:=hh;have ptM:Pt∈G.pots:=by rw[el];exact C3
  have S3:=S2.potG hn (p:=p) (ob:=.lst [.int own,.int seed,.int 0]) trivial hn' (Same.lay1 hn') E7 (by
   rw[hT]
   exact .inl ⟨λz=>S2.fresh hn' (by rw[z];exact(S2.pots _ ptM).1),own,seed,0,E7,ok,by omega⟩)
  have S4:=S3.set i (x:=.pot (l'.length+1)) (v:=.ref p) ⟨p,by show(G.pots++[p])[l'.length+1]?=_;rw[el];simp,rfl⟩;refine L.nx _ _ _ _ _ (q2.2 _) S4 ((Ext.fr (f1.trans f2)).trans ⟨λb o _ e=>Same.lay1 hn' b o e,λc hc=>(C6.mp (show c∈p::G.M from hc)).elim (λz=>.inr (z▸hn')) .inl,λk q e=>?_⟩);obtain⟨hk,_⟩:=F7.mp e;show(G.pots++[p])[k]?=_;rw[W4 hk];exact e
 ·exact q2.elim
end
end Pu
end
section
namespace Pu
open PySem PySem.Spec L2
theorem nodup_ix {α:Type}{l:List α}(nd:l.Nodup){k m:Nat}(h1:k<l.length)(h2:m<l.length)(e:l[k]=l[m]):k=m:=by
 have pw:=W5.mp nd;rcases l8 k m with c|c|c
 ·exact absurd e (pw k m h1 h2 c)
 ·exact c
 ·exact absurd e.symm (pw m k h2 h1 c)
end Pu
end
section
namespace Pu
open PySem PySem.Spec L2
abbrev pD:=List Key->(Env->Nat->List (List PV)->Prop)->Env->Nat->List (List PV)->Prop
end Pu
end
section
namespace Pu
open PySem PySem.Spec L2
structure KE (K:A8)(T:PotK)(G:Gh)(H1:Hp)(D:A0)(M:List A0)(as:List A0)(ks:List Key)(yss:List (List PV))(H:Hp):Prop where
 mem:∀c,c∈M↔c∈as\/c=D\/c∈G.M
 keep:∀b o,b∉G.pots->H1 b=some o->H b=some o
 dic:H D=some (.dK (ks.zip (as.map V.ref)))
 lk:ks.length=as.length
 ly:yss.length=as.length
 nd:(D::as).Nodup
 new:∀b∈as,H1 b=none
 inn:∀(k:Nat) (b:A0) (ys:List PV),as[k]?=some b->yss[k]?=some ys->∃vs,H b=some (.lst vs)/\Reps K ⟨M,G.pots⟩ H ys vs
end Pu
end
section
namespace Pu
open PySem PySem.Spec L2
theorem SR.m0 (S:SR C G σ H env n)(h:∀b,b∈C.M0↔b∈M'):SR { C with M0:=M' } G σ H env n where
 frame:=S.frame
 sub:=λa ha=>(S.sub a ha).imp (h a).mp id
 sup:=λa ha=>S.sup a ((h a).mpr ha)
 pots:=S.pots
 pre:=S.pre
 mu:=S.mu
 slots:=λi s e=>by
  have q:=S.slots i s e;cases s with
  |v x=>exact q
  | ow k xs =>
   obtain⟨a,vs,e1,h1,h2,h3,h4,r⟩:=q;exact⟨a,vs,e1,h1,λz=>h2 ((h a).mpr z),h3,h4,r⟩
 inj:=S.inj
 p0:=⟨λp hp=>(h p).mp (S.p0.1 p hp),S.p0.2⟩
 len:=S.len
 newp:=λp hp h1 h2=>S.newp p hp h1 ((h p).mpr h2)
end Pu
end
section
namespace L2
open PySem PySem.Spec PyProof.Rows
theorem RC {prog:D1}{w:C8}{A:D5}(hh:A.handled=none)(I ax:A0)(hne:ax≠I)(items:Array A1)(h1:1<=items.size) :
   Walks prog w A I [I,ax] [I] (items.size-1) (λi v=>items[i+1]?=some v) (λi h=>h.IsTupleIter I ax (i+1)/\h.IsTuple ax items) where
 sub:=(Br (prog:=prog) (w:=w) hh I ax hne items).sub
 frame:=λi=>(Br (prog:=prog) (w:=w) hh I ax hne items).frame (i+1)
 item:=λi s Q E hi st hQ=>(Br hh I ax hne items).item (i+1) s Q E (by omega) st hQ
 done:=λs Q E st hQ=>(Br hh I ax hne items).done s Q E (by have:=st;rw[Nat.sub_add_cancel h1] at this;exact this) hQ
 self:=λi=>(Br hh I ax hne items).self (i+1)
section
variable {prog:D1}{w:C8}{A:D5}{E:A1->A5->Prop}{s:A5}{I:A0}{fp wr:List A0}{G:Array GenState->Array GenState->Prop}{n:Nat}{P:Nat->A1->Prop}{St:Nat->A5->Prop}
theorem RD {Q:List A1->A5->Prop}(W:WalksS prog w A.in1 I fp wr G n P St)(hT:∀i s,St i s->s.TypeIs (.ref I) "tuple_iterator")(hst:St 0 s)(hfp:∀b∈fp,b<s.heap.objs.size)(hI:I∈fp)
   (hQ:∀s' jk,Moved wr G s s'->ItemsOf P jk n->s.heap.objs.size<s'.heap.objs.size->Q jk.toList s') (hn:n<=C4):A6 (A9 prog w) A (collect (.ref I)) Q E s:=by
 have no:s.heap.objs.size∉fp:=λhm=>Z4 _ (hfp _ hm);have ne:s.heap.objs.size≠I:=λe=>no (e▸hI);unfold collect;refine A3 (wpAny_runValue (Y7 F.entry_proto_collect ?_));rw[i6 F.plain_proto_collect _];show A6 _ A.in1 (newList []>>=λl=>again (.builtin "list.__iadd__" ⟨[l,.ref I],[]⟩)) _ _ s;refine A3 (N5 ?_);refine B0 ⟨e6 F.plain_list_iadd _,Y7 F.entry_list_iadd ?_⟩;rw[i6 F.plain_list_iadd _];have st1:=W.frame 0 s (s.heap.push { cls:=.type "list",data:=.seq ([]:List A1).toArray }) s.toks hst (B9 _) λb _ o e=>D0 _ e;have hS:(s.heap.push { cls:=.type "list",data:=.seq ([]:List A1).toArray }).get? s.heap.objs.size=some { cls:=.type "list",data:=.seq ([]:List A1).toArray }:=G4 _ rfl;have nr:D_ (.ref s.heap.objs.size) (.ref I)=false:=by simp[D_,ne]
 show A6 _ A.in1 (DZ (.ref s.heap.objs.size) (.ref I) (.ref s.heap.objs.size)) _ _ _;unfold DZ;refine A3 (k8 (hT 0 _ st1) ?_);rw[jt (by rw[nr];decide)];refine A3 (W.self 0 _ _ _ st1 ?_);refine A3 (J7 ?_);unfold FU;refine A3 (AG (hT 0 _ st1) F.nolen_tu ?_);show A6 _ A.in1 (specialOf (L9 I) (A7 "__length_hint__")>>=_) _ _ _;refine A3 (AG (hT 0 _ st1) F.hint_tu ?_)
 (generalize hid:("tuple_iterator.__length_hint__":String)=id0;(fail_if_success (clear hid id0));wp_delta;rw[show splitId id0=some ("tuple_iterator","__length_hint__") from by subst hid;decide +kernel];subst hid)
 refine A3 (Cd (b:=true) (hT 0 _ st1) (by rw[k6];kernel_rfl) ?_);refine B0 ?_;rw[jt (by decide)];refine B0 ⟨e6 F.plain_extend_loop _,codeAny_extend_loopS W hn _ no _ n 0 _ _ _ rfl (J9 _) st1 hS (ItemsOf.nil P) λs' acc' c' hm hS' hacc=>?_⟩;show A6 _ A (load s.heap.objs.size>>=_) _ _ s';refine A3 (wpAny_load hS' ?_);exact B0 (hQ s' acc' (Moved.drop_new (o:={ cls:=.type "list",data:=.seq ([]:List A1).toArray }) (tk:=s.toks) hm (B9 _)) hacc (C5 hS'))
end
section
variable {prog:D1}{w:C8}{A:D5}{E:A1->A5->Prop}{s:A5}
theorem RE {t:A0}{x:A1}{items:Array A1}{f g:A1->Sem Unit}{Q:Unit->A5->Prop}(hh:A.handled=none)(ht:IsTup s.heap t items)(hx:items[0]?=some x)(hsz:items.size<=C4)
   (h:∀(h':B7) (tk:Nat),(∀b o,s.heap.get? b=some o->h'.get? b=some o)->s.heap.objs.size<=h'.objs.size->A6 (A9 prog w) A (x4 [f,g] [x,.ref h'.objs.size]) Q E { s with heap:=h'.push { cls:=.type "list",data:=.seq (items.toList.drop 1).toArray },toks:=tk }) :
   A6 (A9 prog w) A (unpack (.ref t) [(false,f),(true,g)]) Q E s:=by
 have hlt:t≠s.heap.objs.size:=by obtain⟨o,ho,_⟩:=ht;exact D7 (C5 ho)
 have h1:1<=items.size:=by have:=(FR.mp hx).1;omega
 unfold unpack;refine A3 (J7 ?_);show A6 _ _ (unpackItems (.ref t) 2 (some 1)) _ _ _;unfold unpackItems;refine A3 ?_;unfold notIterableAtAll;refine A3 (AG ht.typeIs slot_tuple_iter.lookup ?_);refine B0 ?_;simp only[J3,if_false];refine A3 (J7 (iter_tuple ht ?_));refine A3 (J7 (draw_tuple hlt 1 0 _ _ ⟨_,G4 _ rfl,rfl,rfl⟩ (ht.push _) (by omega) λh₁ hit₁ hs₁=>?_))
 have hx0:List.take 1 (List.drop 0 items.toList)=[x]:=by
  rw[Cn];rw[<- P5] at hx;cases e:items.toList with
  |nil=>rw[e] at hx;cases hx
  |cons y ys=>rw[e] at hx;cases hx;rfl
 rw[hx0];rw[jt (by simp)];have ht₁:IsTup h₁ t items:=(ht.push _).extBut hs₁.extBut hlt;have keep:∀b o,s.heap.get? b=some o->h₁.get? b=some o:=λb o e=>hs₁.extBut b o (D7 (C5 e)) (D0 _ e);obtain⟨ot,ho,hc,nn,hd⟩:=ht₁;obtain⟨oi,ho',hc',hd'⟩:=hit₁;refine A3 (J7 (RD (RC (A:=A.in1) hh s.heap.objs.size t hlt items h1).toS (λi s st=>st.1.typeIs) ⟨⟨oi,ho',hc',hd'⟩,⟨ot,ho,hc,nn,hd⟩⟩ (λb hb=>?_) (by simp) (λs' jk mv ia lt=>?_) (by omega)))
 ·simp only[C6,h9,or_false] at hb;rcases hb with rfl|rfl
  ·exact C5 ho'
  ·exact C5 ho
 have ea:jk.toList=items.toList.drop 1:=by
  apply List.ext_getElem?
  intro i;rw[DL,P5,P5]
  by_cases c:i<jk.size
  ·have:=ia.2 i _ (X0 c);rw[X0 c,<- this,Nat.add_comm]
  ·rw[DQ (by omega),DQ (by have:=ia.1;omega)]
 rw[jt (by simp)];obtain⟨hp,ge,dr,tk,os⟩:=s';obtain⟨m1,m2,m3,m4,m5⟩:=mv;dsimp only at m2 m3 m4;subst m2 m3 m4;refine A3 (N5 ?_ ?_)
 ·refine B0 ?_;have e1:(jk.toList.take (jk.toList.length-(2-1-1)))=items.toList.drop 1:=by rw[show jk.toList.length-(2-1-1)=jk.toList.length by omega,Cm,ea]
  have e2:(jk.toList.drop (jk.toList.length-(2-1-1)))=[]:=by rw[show jk.toList.length-(2-1-1)=jk.toList.length by omega,Ck]
  rw[e1,e2];exact h hp tk (λb o e=>m1 b o (by simpa using D7 (C5 e)) (keep b o e)) (W9 (Bb (C5 ho') lt))
 ·show(List.take (jk.toList.length-(2-1-1)) jk.toList).toArray.size<=C4;rw[F4,P4,M6];have:=ia.1;omega
end
section
variable {X:Cx}{pos:Pos}
def HY (K:A8)(i j:Nat):TG:=λv σ H Q=>∃a x xs,v=.ref a/\SqT K H a (x::xs)/\∀l,H l=none->Q ((σ.set i (some x)).set j (some (.ref l))) (upd H l (.lst xs))
theorem RF {i j k:Nat}{x y:Str}{p1 p2 p3:Pos}(hc:X.calm=true)(hN:X.N.Nodup)(hi:X.N[i]?=some x)(hj:X.N[j]?=some y)(hx:Loc X.env.scope x)(hy:Loc X.env.scope y)(hf:X.fn x=true\/X.env.scope.names.lookup x=some .local)(hg:X.fn y=true\/X.env.scope.names.lookup y=some .local):PG X (.Tuple [.Name x p1,.Starred (.Name y p2) p3] k pos) (HY X.K i j):=by
 intro jb s σ H v u Q I r hw;obtain⟨a,x1,xs,e1,hq,hw⟩:=hw;subst e1;cases r;obtain⟨jf,rv,ht,hz⟩:=I.tuple hq;cases rv with
 |@cons _ x0 _ us r0 r1=>
 rw[assign_Tuple];refine A3 (U7 ?_);show A6 _ _ (unpack _ [(false,assign (.Name x p1) X.env),(true,assign (.Name y p2) X.env)]) _ _ _;have lu:=r1.length;refine RE (x:=x0) (I.ok.hd hc) ht rfl (by simp at hz ⊢;omega) λh' tk hk hs=>?_;rw[show(List.drop 1 (x0::us).toArray.toList).toArray=us.toArray by simp]
 have I1:Inv X jb σ (upd H h'.objs.size (.lst xs)) { s with heap:=h'.push { cls:=.type "list",data:=.seq us.toArray },toks:=tk }:=
  I.laid (λb o e=>D0 _ (hk b o e)) hs ⟨by simp at hz ⊢;omega,us,0,r1,G4 _ rfl⟩
 refine n6 (DA (i8 I1 hN hi hx r0 (λs2 I2=>?_) hf));refine n6 (DA (i8 I2 hN hj hy (v:=.ref h'.objs.size) rfl (λs3 I3=>?_) hg));exact DW ⟨_,_,I3,hw _ (I.hok.fresh hs)⟩
end
end L2
namespace Pu
open PySem PySem.Spec L2
section
variable {T:PotK}{ι:Type}{K:A8}{F:ι->Cx}{e:Expr}{st:Stmt}{pe:pE}{np:Bool}
def HZ (i j:Nat)(pe:pE):pS:=λD env n=>pe env n λx jc n1=>match x with|.tup (y::ys)=>D.nx ((jc.set i (some (.v y))).set j (some (.ow .lst ys))) n1|_=>False
theorem RG {X:Cx}{pos:Pos}(K:A8){i j k:Nat}{x y:Str}{p1 p2 p3:Pos}(hc:X.calm=true)(hN:X.N.Nodup)(hi:X.N[i]?=some x)(hj:X.N[j]?=some y)(hx:Loc X.env.scope x)(hy:Loc X.env.scope y)(hf:X.fn x=true\/X.env.scope.names.lookup x=some .local:=by first|exact .inl rfl|exact .inr rfl|assumption)(hg:X.fn y=true\/X.env.scope.names.lookup y=some .local:=by first|exact .inl rfl|exact .inr rfl|assumption)(hK:X.K=K:=by rfl):GW X (.Tuple [.Name x p1,.Starred (.Name y p2) p3] k pos) (HY K i j):=⟨hK▸RF hc hN hi hj hx hy hf hg⟩
theorem RH (i j:Nat){tg:Expr}(h:∀z te g,EW (F z) e te->GW (F z) tg g->SW (F z) st (tAsg te g))(hg:∀z,GW (F z) tg (HY K i j))(he:QE T K F e pe):QS T np K F st (HZ i j pe):=by
 obtain⟨t,a1,a2⟩:=he;refine⟨_,λz=>(h z _ _ ⟨a1 z⟩ (hg z)).h,λC G σ H env n PD D hK hT hn S hp L=>?_⟩;refine a2 C G σ H env n _ _ hK hT S hp λx jc n1 v H1 q1 S1 r1 f1=>?_;cases x with
 | tup xs =>
  cases xs with
  |nil=>exact q1.elim
  | cons y ys =>
   obtain⟨a,vs,rfl,tt,rs⟩:=r1;cases vs with
   |nil=>exact absurd rs.length (by simp)
   | cons w ws =>
    obtain⟨w',ws',e1,hy,hr⟩:=rs;cases e1;refine⟨a,w,ws,rfl,tt.sq,λl hl=>?_⟩;exact L.nx _ _ _ _ _ q1 ((S1.set i (hK▸hy)).own j hl (hK▸hr)) ((Ext.fr f1).trans (CQ hl))
 |_=>exact q1.elim
end
end Pu
end
section
namespace Pu
open PySem PySem.Spec L2
variable {T:PotK}{ι:Type}{K:A8}{F:ι->Cx}{e:Expr}{st:List Stmt}{np:Bool}
def H_:pS:=λ_ _ _=>False
theorem K_:QSs T np K F st H_:=⟨λ_ _ _=>False,λ_ _ _ _ _ _ _ h=>h.elim,λ_ _ _ _ _ _ _ _ _ _ _ _ h=>h.elim⟩
end Pu
end
section
namespace Pu
open PySem PySem.Spec L2
section
variable {C:Ct}{G:Gh}{σ:St}{H H1:Hp}{env env0:Env}{n n0:Nat}
theorem SR.unhideV {p:A0}{ob ob':HO}(S0:SR C G σ H1 env0 n0)(S:SR (C.hid p ob) ⟨p::G.M,G.pots⟩ σ H env n)(h0:C.H0 p=none)(hp:p∉G.M):SR C G σ (upd H p ob') env n:=by
 have ne:∀{a:A0},a∈G.M->a≠p:=λh z=>hp (by rw[<- z];exact h);have kp:∀b o,b∉p::G.M->H b=some o->upd H p ob' b=some o:=λb o hb e=>by rw[C0 λz=>hb (by rw[z];exact C3)];exact e
 exact {
  frame:=λb o hb e=>by
   have bp:b≠p:=λz=>by rw[z,h0] at e;cases e
   rw[C0 bp];exact S.frame b o hb (by show upd C.H0 p ob b=some o;rw[C0 bp];exact e)
  sub:=S0.sub
  sup:=S0.sup
  pots:=λq hq=>⟨(S0.pots q hq).1,C.T.more (C.T.keep (S.pots q hq).2 (C0 (ne (S0.pots q hq).1)) kp) λa ha=>.inl (C2 _ ha)⟩
  pre:=S0.pre
  mu:=λa ha=>by
   obtain⟨o,e,m⟩:=S.mu a (C2 _ ha);exact⟨o,by rw[C0 (ne ha)];exact e,m⟩
  slots:=λi s es=>by
   have r:=S.slots i s es;cases s with
   | v x =>
    obtain⟨v,e,r⟩:=r;exact⟨v,e,Rep.mono (G:=⟨p::G.M,G.pots⟩) kp (λa ha=>.inl (C2 _ ha)) (λ_ _ e=>e) _ _ r⟩
   | ow kk xs =>
    obtain⟨a,vs,e,a1,a2,a3,a4,r⟩:=r;have ap:a≠p:=λz=>a2 (by rw[z];exact C3);exact⟨a,vs,e,(C6.mp a1).elim (λz=>absurd z ap) id,λz=>a2 (C2 _ z),a3,by rw[C0 ap];exact a4,Reps.mono (G:=⟨p::G.M,G.pots⟩) kp (λa ha=>.inl (C2 _ ha)) (λ_ _ e=>e) _ _ r⟩
  inj:=S.inj
  p0:=S0.p0
  len:=S.len
  newp:=S0.newp }
end
section
variable {T:PotK}{ι:Type}{K:A8}{F:ι->Cx}{e ek:Expr}{pk pv:pE}{pos:Pos}
def Ia (pk pv:pE):pE:=λenv n R=>pk env n λy jc n1=>pv jc n1 λx jd n2=>match keyV y with|some k=>R (.dct [k] [x]) jd n2|none=>False
theorem RI (hk:QE T K F ek pk)(hv:QE T K F e pv):QE T K F (.Dict [some ek] [e] pos) (Ia pk pv):=by
 obtain⟨tk,k1,k2⟩:=hk;obtain⟨tv,v1,v2⟩:=hv;refine⟨_,λz=>OJ (OI (k1 z) (v1 z) OH) rfl rfl (by simp) (by simp),λC G σ H env n R Q hK hT S hp k=>?_⟩;intro p hn1;have S1:=S.hide (ob:=.dK []) trivial hn1;have pM:p∉C.M0:=λz=>S.fresh hn1 (S.sup p z);have p0:p∉C.pots0:=λz=>pM (S.p0.1 p z);have pG:=S.fresh hn1;refine k2 (C.hid p (.dK [])) _ σ _ env n _ _ hK hT S1 hp λy jc n1 v H1 q1 S1 r1 f1=>?_;refine v2 (C.hid p (.dK [])) _ σ _ jc n1 _ _ hK hT S1 q1 λx jd n2 u H2 q2 S2 r2 f2=>?_;refine⟨S2.hid_at p0,?_⟩
 split at q2
 ·rename_i kk ek;have ev:=Pz r1 ek;have kp:∀b o,b∉p::G.M->H2 b=some o->upd H2 p (.dK [(kk,u)]) b=some o:=λb o hb e=>by rw[C0 λz=>hb (by rw[z];exact C3)];exact e
  refine⟨[(kk,u)],by rw[ev];rfl,by simp,?_⟩;refine k _ _ _ _ _ q2 (SR.unhideV S S2 (S.old hn1) pG) ⟨p,[(kk,u)],rfl,pG,E7,rfl,⟨u,[],rfl,Rep.mono (G:=⟨p::G.M,G.pots⟩) kp (λa ha=>.inl (C2 _ ha)) (λ_ _ e=>e) _ _ r2,rfl⟩⟩ λb o hb e=>?_;have bp:b≠p:=λz=>by rw[z,hn1] at e;cases e
  have hb':b∉p::G.M:=λz=>(C6.mp z).elim bp hb;exact kp b o hb' (f2 b o hb' (f1 b o hb' (by rw[C0 bp];exact e)))
 ·exact q2.elim
end
end Pu
end
section
namespace L2
open PySem PySem.Spec PyProof.Rows PySem.SeqAt
open AutoSeq1 (wpAny_loadPart')
theorem RJ (b:Str)(u:Tok)(l:A0)(es:Array DictEntry)(ep:Nat)(dd:Option A0)(sl:Array (Option A1)) :
   Meets (O4.«str.__eq__» ⟨[.str b u,.ref l],[]⟩) (λ_ R s=>s.heap.get? l=some { cls:=.type "dict",dict:=dd,data:=.dict es ep,slots:=sl }/\R (.ok (.ret .notImplemented)) s):=
 .of_wp λprog w A R s h=>by
  obtain⟨hp,g,d,tk,os⟩:=s;obtain⟨hl,h⟩:=h;have f1:=PySem.F.sub_dict_str
  wp_walk using wpAny_loadPart' hl,wpAny_load hl
  exact⟨_,rfl,h⟩
section
variable {A:D5}{s:A5}
theorem RK {P0:D1}{w0:C8}{K:Type}[DecidableEq K]{knd:PySem.KeyKind P0 w0 K}{l:A0}{jg:List (K×A1)}(b:Str)(u:Tok)(hl:s.heap.DictOf knd l jg)(hu:A.units<cLine):RcAt A s (.str b u) (.ref l) false:=λprog w E Q h=>by
 obtain⟨⟨cls,dd,data,sl⟩,es,ep,ho,hc,hd,_⟩:=id hl;simp only at hd;subst hd;obtain rfl:cls=.type "dict":=hc.1
 exact rc_eq_decline_or (k:=false) (typeIs_str s b u) ⟨_,ho,rfl⟩ (by decide) PySem.F.sub_dict_str PySem.F.slot_str_eq PySem.F.slot_dict_eq_refl
   (λ_ hq=>call_meets PySem.F.slot_str_eq (typeIs_str s b u) PySem.F.entry_str_eq (PySem.F.args_str_eq_2 _ _) (RJ b u l es ep dd sl) ⟨ho,hq⟩)
   (λ_ hq=>P8 PySem.F.slot_dict_eq_refl hl.typeIs PySem.F.entry_dict_eq (by
    show A6 _ _ (Builtin.Dict.dictSlotArgs "__eq__" ⟨[.ref l,.str b u],[]⟩>>=_) _ _ s;refine A3 ?_;unfold Builtin.Dict.dictSlotArgs;refine A3 (wpAny_notOrdered_dict hl.typeIs ?_);show A6 _ _ (pure (L9 l,Bg b u)) _ _ s;refine B0 ?_;refine A3 (Cd (T:="str") (typeIs_str s b u) PySem.F.sub_str_dict ?_);simp only[Bool.not_false,if_true];refine A3 (e7 ?_)
    refine B0 ⟨_,rfl,hq⟩) (PySem.F.args_dict_eq_2 _ _))
   (λ_ hq=>AL (rfl:isSame (.str b u) (.ref l)=pure false) hq) (.inr hu) h
theorem RL {P0:D1}{w0:C8}{K:Type}[DecidableEq K]{knd:PySem.KeyKind P0 w0 K}{l:A0}{jg:List (K×A1)}(b:Str)(u:Tok)(hl:s.heap.DictOf knd l jg)(hu:A.units<cLine):EqAt A s (.str b u) (.ref l) false:=λprog w E Q h=>by
 unfold eqBool;refine J7 ?_;refine DG (λhab=>absurd (eq_of_beq hab) nofun) (λ_=>?_);exact A3 (RK b u hl hu prog w E _ (U5 h))
end
def EqS (K:A8)(H:Hp)(x y:V)(b:Bool):Prop:=(∃i,x=.str i)/\((P6 y=true/\b=eqV x y)\/(b=false/\∃q,y=.ref q/\((∃ys,SqT K H q ys\/SqL K H q ys)\/∃jg,H q=some (.dK jg))))
def EqA (K:A8)(H:Hp):Nat->V->V->Bool->Prop
 |0,x,y,b=>EqS K H x y b
 |d+1,x,y,b=>EqS K H x y b\/(∃p xs,x=.ref p/\SqT K H p xs/\((∃q ys,∃f:Nat->Bool,y=.ref q/\SqT K H q ys/\(∀(j:Nat) x' y',xs[j]?=some x'->ys[j]?=some y'->EqA K H d x' y' (f j))/\b=((E5 (min xs.length ys.length)).all f&&xs.length == ys.length))\/(b=false/\(P6 y=true\/∃q ys,y=.ref q/\SqL K H q ys))))
section
variable {X:Cx}{jb:List (A0×Obj)}{σ:St}{H:Hp}{s:A5}
theorem EqS.refl {K:A8}{x:V}{b:Bool}(h:EqS K H x x b):b=true:=by
 obtain⟨⟨i,rfl⟩,⟨_,rfl⟩|⟨_,q,e,_⟩⟩:=h
 ·exact GB rfl
 ·cases e
theorem EqA.refl (I:Inv X jb σ H s):∀(d:Nat) (x:V) (b:Bool),EqA X.K H d x x b->b=true:=by
 intro d
 induction d with
 |zero=>intro x b h;exact EqS.refl h
 | succ d ih =>
  intro x b h;rcases h with h|⟨p,xs,e1,s1,⟨q,ys,f,e2,s2,hf,rfl⟩|⟨_,h|⟨q,ys,e2,s2⟩⟩⟩
  ·exact EqS.refl h
  ·subst e1;cases e2;have:=I.tuple_inj s1 s2;subst this;simp only[Bc,beq_self_eq_true,Bf,E4,L4];intro j hj;exact ih _ _ (hf j xs[j] xs[j] (by simp[hj]) (by simp[hj]))
  ·subst e1;cases h
  ·subst e1;cases e2;exact(Q7 I s1 s2).elim
theorem EqS.det {K:A8}{x y:V}{b b':Bool}(h:EqS K H x y b)(h':EqS K H x y b'):b=b':=by
 obtain⟨_,⟨f,rfl⟩|⟨rfl,q,e,_⟩⟩:=h
 ·obtain⟨_,⟨f',rfl⟩|⟨rfl,q,e,_⟩⟩:=h'
  ·rfl
  ·subst e;cases f
 ·obtain⟨_,⟨f',rfl⟩|⟨rfl,q',e',_⟩⟩:=h'
  ·subst e;cases f'
  ·rfl
theorem EqA.det (I:Inv X jb σ H s):∀(d:Nat) (x y:V) (b b':Bool),EqA X.K H d x y b->EqA X.K H d x y b'->b=b':=by
 intro d
 induction d with
 |zero=>intro x y b b' h h';exact EqS.det h h'
 | succ d ih =>
  intro x y b b' h h';rcases h with h|⟨p,xs,rfl,s1,h⟩
  ·rcases h' with h'|⟨p',xs',rfl,s1',h'⟩
   ·exact EqS.det h h'
   ·obtain⟨⟨_,z⟩,_⟩:=h;cases z
  ·rcases h' with h'|⟨p',xs',e,s1',h'⟩
   ·obtain⟨⟨_,z⟩,_⟩:=h';cases z
   ·cases e;have:=I.tuple_inj s1 s1';subst this;rcases h with⟨q,ys,f,rfl,s2,hf,rfl⟩|⟨rfl,h⟩
    ·rcases h' with⟨q',ys',f',e2,s2',hf',rfl⟩|⟨rfl,h'|⟨q',ys',e2,s2'⟩⟩
     ·cases e2;have:=I.tuple_inj s2 s2';subst this;rw[GK λj hj=>ih _ _ _ _ (hf j (xs[j]'(by omega)) (ys[j]'(by omega)) (D3 _) (D3 _)) (hf' j (xs[j]'(by omega)) (ys[j]'(by omega)) (D3 _) (D3 _))]
     ·cases h'
     ·cases e2;exact(Q7 I s2 s2').elim
    ·rcases h' with⟨q',ys',f',rfl,s2',hf',rfl⟩|⟨rfl,h'⟩
     ·rcases h with h|⟨q,ys,e2,s2⟩
      ·cases h
      ·cases e2;exact(Q7 I s2' s2).elim
     ·rfl
theorem EqS.at (I:Inv X jb σ H s){A:D5}{x y:V}{u w:A1}{b:Bool}(hu:A.units<cLine)(rx:RelV x u)(ry:RelV y w)(h:EqS X.K H x y b):X3 A s u w b:=by
 obtain⟨⟨i,rfl⟩,⟨f,rfl⟩|⟨rfl,q,rfl,h⟩⟩:=h
 ·exact Gx rx ry rfl f
 ·cases ry;rcases h with⟨ys,h⟩|⟨jg,h⟩
  ·exact(Ep I hu h rx rfl).2.2.2.2.2
  ·obtain⟨t,rfl⟩:=rx;obtain⟨_,_,vs,_,d⟩:=dk_of I.hok h;exact RL i t d hu
theorem EqA.at (I:Inv X jb σ H s):∀(d:Nat) (A:D5) (x y:V) (u w:A1) (b:Bool),A.units+d<cLine->RelV x u->RelV y w->EqA X.K H d x y b->X3 A s u w b:=by
 intro d
 induction d with
 |zero=>intro A x y u w b hu rx ry h;exact EqS.at I (by omega) rx ry h
 | succ d ih =>
  intro A x y u w b hu rx ry h;have hu0:A.units<cLine:=by omega
  have hu1:A.in1.units+d<cLine:=by rw[Z9];omega
  have hrefl:=EqA.refl I (d+1) x b;rcases h with h|⟨p,xs,rfl,s1,h⟩
  ·exact EqS.at I hu0 rx ry h
  ·cases rx;obtain⟨jf,r1,t1⟩:=I.sqT s1;rcases h with⟨q,ys,f,rfl,s2,hf,eb⟩|⟨rfl,h|⟨q,ys,rfl,s2⟩⟩
   ·cases ry;obtain⟨its2,r2,t2⟩:=I.sqT s2;have z1:jf.toArray.size=xs.length:=by simpa using r1.length.symm
    have z2:its2.toArray.size=ys.length:=by simpa using r2.length.symm
    have he:∀j (h1:j<jf.toArray.size) (h2:j<its2.toArray.size),X3 A.in1 s jf.toArray[j] its2.toArray[j] (f j):=by
     intro j h1 h2;obtain⟨x',e1,q1⟩:=r1.getE (j:=j) (by simpa using h1);obtain⟨y',e2,q2⟩:=r2.getE (j:=j) (by simpa using h2);exact ih A.in1 x' y' _ _ (f j) hu1 (by simpa using q1) (by simpa using q2) (hf j x' y' e1 e2)
    have rc:Af A s (.ref p) (.ref q) b:=by
     rw[eb,<- z1,<- z2];exact SeqAt.RcAt.tuples t1 t2 hu0 he
    by_cases hpq:p=q
    ·subst hpq;rw[hrefl (.inr ⟨p,xs,rfl,s1,.inl ⟨p,ys,f,rfl,s2,hf,eb⟩⟩)];exact .same _
    ·exact .of_refs hpq rc
   ·exact(Ep I hu0 (.inl s1) ry h).2.2.2.2.1
   ·cases ry;obtain⟨its2,r2,t2⟩:=I.sqL s2;exact .tuple_list t1 t2 hu0
def rInA (K:A8)(d:Nat)(neg:Bool):R2:=λx y H Q=>∃p ys,∃f:Nat->Bool,y=.ref p/\(SqL K H p ys\/SqT K H p ys)/\(∀(j:Nat) z,ys[j]?=some z->EqA K H d z x (f j))/\Q (.bl (if neg then !((E5 ys.length).any f) else(E5 ys.length).any f)) H
open Classical in
theorem Fh (I:Inv X jb σ H s){d:Nat}{A:D5}(hu:A.units+d<cLine){ys:List V}{jf:List A1}(r:Vals ys jf){x:V}{v:A1}(rx:RelV x v){f:Nat->Bool}(hf:∀(j:Nat) z,ys[j]?=some z->EqA X.K H d z x (f j)) :
   ∃e:A1->Bool,(∀y,y∈jf->X3 A s y v (e y))/\jf.any e=(E5 ys.length).any f:=by
 have key:∀(j j':Nat) (z:A1),jf[j]?=some z->jf[j']?=some z->f j=f j':=by
  intro j j' z h h';obtain⟨hj,_⟩:=F7.mp h;obtain⟨hj',_⟩:=F7.mp h';obtain⟨w1,a1,b1⟩:=r.getE hj;obtain⟨w2,a2,b2⟩:=r.getE hj';rw[D3 hj] at h;rw[D3 hj'] at h';cases h;rw[M7 h'] at b2;have:=b1.inj b2;subst this;exact EqA.det I d _ _ _ _ (hf j _ a1) (hf j' _ a2)
 let e:A1->Bool:=λy=>decide (∃j,jf[j]?=some y/\f j=true)
 have he:∀(j:Nat) (y:A1),jf[j]?=some y->e y=f j:=by
  intro j y h;show decide _=_;cases hb:f j with
  |true=>exact jp ⟨j,h,hb⟩
  |false=>exact jq λ⟨j',h1,h2⟩=>by rw[key j j' y h h1,h2] at hb;cases hb
 refine⟨e,λy hy=>?_,?_⟩
 ·obtain⟨j,hj,rfl⟩:=y4 hy;obtain⟨w1,a1,b1⟩:=r.getE hj;rw[he j _ (D3 hj)];exact(hf j w1 a1).at I d A w1 x _ v (f j) hu b1 rx
 ·have hl:=r.length;rw[i5,U9,U9];constructor
  ·rintro⟨y,hy,h⟩;obtain⟨j,hj,rfl⟩:=y4 hy;exact⟨j,L4.mpr (by omega),by rw[<- he j _ (D3 hj)];exact h⟩
  ·rintro⟨j,hj,h⟩;have hj':j<jf.length:=by have:=L4.mp hj;omega
   exact⟨jf[j],y7 hj',by rw[he j _ (D3 hj')];exact h⟩
theorem op_inA (d:Nat)(hu:X.A.units+(d+1)<cLine):OpR X (M5 .In) (rInA X.K d false):=by
 intro jb s σ H x y v u Q I rx ry h;obtain⟨p,ys,f,rfl,hq,hf,q⟩:=h;cases ry;rcases hq with hq|hq
 ·obtain⟨jf,r,il⟩:=I.sqL hq;obtain⟨e,h1,h2⟩:=Fh I (A:=X.A.in1) (by rw[Z9];omega) r rx hf;refine SeqAt.in_listAt e il (λy hy=>h1 y (by simpa using hy)) ⟨.bl _,H,I,rfl,?_⟩;rw[show jf.toArray.any e=jf.any e by simp,h2];exact q
 ·obtain⟨jf,r,il⟩:=I.sqT hq;obtain⟨e,h1,h2⟩:=Fh I (A:=X.A.in1) (by rw[Z9];omega) r rx hf;refine SeqAt.in_tupleAt e il (λy hy=>h1 y (by simpa using hy)) ⟨.bl _,H,I,rfl,?_⟩;rw[show jf.toArray.any e=jf.any e by simp,h2];exact q
theorem RM (d:Nat)(hu:X.A.units+(d+1)<cLine):OpR X (M5 .NotIn) (rInA X.K d true):=by
 intro jb s σ H x y v u Q I rx ry h;obtain⟨p,ys,f,rfl,hq,hf,q⟩:=h;cases ry;rcases hq with hq|hq
 ·obtain⟨jf,r,il⟩:=I.sqL hq;obtain⟨e,h1,h2⟩:=Fh I (A:=X.A.in1) (by rw[Z9];omega) r rx hf;refine SeqAt.notIn_listAt e il (λy hy=>h1 y (by simpa using hy)) ⟨.bl _,H,I,rfl,?_⟩;rw[show jf.toArray.any e=jf.any e by simp,h2];exact q
 ·obtain⟨jf,r,il⟩:=I.sqT hq;obtain⟨e,h1,h2⟩:=Fh I (A:=X.A.in1) (by rw[Z9];omega) r rx hf;refine SeqAt.notIn_tupleAt e il (λy hy=>h1 y (by simpa using hy)) ⟨.bl _,H,I,rfl,?_⟩;rw[show jf.toArray.any e=jf.any e by simp,h2];exact q
end
end L2
namespace Pu
open PySem PySem.Spec L2
def okA:PV->Bool
 |.tup _=>true
 |.lst _=>true
 |.dct _ _=>true
 |x=>a9 x
def cpA:Nat->PV->PV->Bool
 |_,.str _,y=>okA y
 |d+1,.tup xs,.tup ys=>(xs.zip ys).all λp=>cpA d p.1 p.2
 |_+1,.tup _,.lst _=>true
 |_+1,.tup _,y=>a9 y
 |_,_,_=>false
section
variable {K:A8}{G:Gh}{H:Hp}
theorem La {i:Str}{y:PV}{u:V}(cy:okA y=true)(hy:RdV K G H y u):EqS K H (.str i) u (eqP (.str i) y):=by
 refine⟨⟨i,rfl⟩,?_⟩;cases y with
 |tup xs=>obtain⟨a,vs,e,h,_⟩:=hy.tup;exact .inr ⟨rfl,a,e,.inl ⟨vs,.inl h⟩⟩
 |lst xs=>obtain⟨a,vs,e,h,_⟩:=hy.lst;exact .inr ⟨rfl,a,e,.inl ⟨vs,.inr h⟩⟩
 | dct ks xs =>
  obtain⟨a,jg,e,_,h,_⟩:=hy.rep (λ_ z=>nomatch z);exact .inr ⟨rfl,a,e,.inr ⟨jg,h⟩⟩
 |non=>exact .inl ⟨S6 rfl hy,Bz rfl rfl (.inl rfl) hy⟩
 |bl b=>exact .inl ⟨S6 rfl hy,Bz rfl rfl (.inl rfl) hy⟩
 |int j=>exact .inl ⟨S6 rfl hy,Bz rfl rfl (.inl rfl) hy⟩
 |str j=>exact .inl ⟨S6 rfl hy,Bz rfl rfl (.inl rfl) hy⟩
 |_=>cases cy
theorem eqA_of:∀(d:Nat) (x y:PV) (v u:V),cpA d x y=true->RdV K G H x v->RdV K G H y u->EqA K H d v u (eqP x y):=by
 intro d
 induction d with
 | zero =>
  intro x y v u c hx hy;cases x with
  |str i=>rw[hx.str];exact La (by unfold cpA at c;exact c) hy
  |_=>unfold cpA at c;cases c
 | succ d ih =>
  intro x y v u c hx hy;cases x with
  |str i=>rw[hx.str];exact .inl (La (by unfold cpA at c;exact c) hy)
  | tup xs =>
   obtain⟨a,vs,rfl,ha,ra⟩:=hx.tup;refine .inr ⟨a,vs,rfl,ha,?_⟩;cases y with
   | tup ys =>
    obtain⟨q,us,rfl,hq,rq⟩:=hy.tup;refine .inl ⟨q,us,λj=>match xs[j]?,ys[j]? with|some x,some y=>eqP x y|_,_=>false,rfl,hq,λj x' y' e1 e2=>?_,?_⟩
    ·obtain⟨x1,ex,rx⟩:=ra.get e1;obtain⟨y1,ey,ry⟩:=rq.get e2;dsimp only;rw[ex,ey];have hc:((xs.zip ys).all λp=>cpA d p.1 p.2)=true:=by unfold cpA at c;exact c
     exact ih x1 y1 x' y' (E4.mp hc (x1,y1) (J5 (i:=j) (List.getElem?_zip_eq_some.mpr ⟨ex,ey⟩))) (.inl rx) (.inl ry)
    ·rw[<- ra.length,<- rq.length];exact(Es xs ys).symm
   |lst ys=>obtain⟨q,us,rfl,hq,_⟩:=hy.lst;exact .inr ⟨rfl,.inr ⟨q,us,rfl,hq⟩⟩
   |non=>exact .inr ⟨rfl,.inl (S6 rfl hy)⟩
   |bl b=>exact .inr ⟨rfl,.inl (S6 rfl hy)⟩
   |int i=>exact .inr ⟨rfl,.inl (S6 rfl hy)⟩
   |str i=>exact .inr ⟨rfl,.inl (S6 rfl hy)⟩
   |_=>unfold cpA at c;cases c
  |_=>unfold cpA at c;cases c
end
def wInA (d:Nat)(neg:Bool):w2:=λx y R=>match y with
 |.lst ys=>(ys.all λz=>cpA d z x)=true/\R (.bl (if neg then !memP x ys else memP x ys))
 |.tup ys=>(ys.all λz=>cpA d z x)=true/\R (.bl (if neg then !memP x ys else memP x ys))
 |_=>False
theorem W2.inA {K:A8}(d:Nat)(neg:Bool):W2 K (rInA K d neg) (wInA d neg):=by
 intro G H x y v u R Q hf rx ry hw k
 have seq:∀(ys:List PV) (p:A0) (us:List V),u=.ref p->(SqL K H p us\/SqT K H p us)->Reps K G H ys us->(ys.all λz=>cpA d z x)=true/\R (.bl (if neg then !memP x ys else memP x ys))->rInA K d neg v u H Q:=by
  intro ys p us eu hq r h;refine⟨p,us,λj=>match ys[j]? with|some y=>eqP y x|none=>false,eu,hq,λj z ez=>?_,?_⟩
  ·obtain⟨y1,ey,ry⟩:=r.get ez;dsimp only;rw[ey];exact eqA_of d y1 x z v (E4.mp h.1 y1 (J5 ey)) (.inl ry) rx
  ·have e:((E5 ys.length).any λj=>match ys[j]? with|some y=>eqP y x|none=>false)=memP x ys:=GN ys;rw[<- r.length,e];exact k _ _ _ h.2 (Same.refl _) rfl
 unfold wInA at hw
 split at hw
 ·obtain⟨p,us,eu,hq,r⟩:=ry.lst;exact seq _ p us eu (.inl hq) r hw
 ·obtain⟨p,us,eu,hq,r⟩:=ry.tup;exact seq _ p us eu (.inr hq) r hw
 ·exact hw.elim
section
variable {ι:Type}{K:A8}{F:ι->Cx}
theorem cInA (d:Nat){k:Nat}(hr:∀z,Room k (F z).A)(hd:d<=30:=by decide)(hK:∀z,(F z).K=K:=by intro _;rfl):Cmp K F .In (wInA d false):=⟨_,λz=>hK z▸op_inA d (by have:=(hr z).units;omega),W2.inA d false⟩
theorem Lb (d:Nat){k:Nat}(hr:∀z,Room k (F z).A)(hd:d<=30:=by decide)(hK:∀z,(F z).K=K:=by intro _;rfl):Cmp K F .NotIn (wInA d true):=⟨_,λz=>hK z▸RM d (by have:=(hr z).units;omega),W2.inA d true⟩
end
end Pu
end
section
namespace Tb
open PySem L2 Pu
abbrev b__law_draw:pF:=BQ
abbrev lamP:PySem.Pos:=⟨69,48,69,88⟩
abbrev lamQ:PySem.Str:=A7 "order_of.<locals>.<lambda>"
def Lc:pS:=(qSeq (qPar 4 5 (sV (B5 b__law_draw (A2 (qV 0) (A2 (qC (.int 6)) qNil)))) (sV (B5 b__law_draw (A2 (qV 0) (A2 (qOp wAdd (qUn wLen (qV 2)) (qC (.int 1))) qNil)))))
   (qSeq (qSet 6 (qL (qCat (qL (V2 (qV 1))) (qL (V2 (qV 3))))))
   (qSeq (qPar 7 8 (sV (qOp wIx (qV 6) (B5 b__law_draw (A2 (qV 0) (A2 (qUn wLen (qV 6)) qNil))))) (sV (qOp wIx (qV 6) (B5 b__law_draw (A2 (qV 0) (A2 (qUn wLen (qV 6)) qNil))))))
   (qSeq (qSet 9 (qIf (qOr (qB (qOp (wEq 4) (qV 7) (qV 8))) (qB (qOp (wEq 4) (B5 b__law_draw (A2 (qV 0) (A2 (qC (.int 3)) qNil))) (qC (.int 0))))) (qL (qLst (A2 (qTup (A2 (qC (.str (A7 "drop"))) (A2 (qV 7) qNil))) qNil))) (qL (qLst (A2 (qTup (A2 (qC (.str (A7 "touch"))) (A2 (qV 7) (A2 (qV 8) qNil)))) qNil)))))
   (qSeq (qIfS (qOr (qB (qOp wGt (qV 4) (qC (.int 3)))) (qB (qOp (wEq 4) (qV 5) (qUn wLen (qV 2))))) (qRet (qUn b9 (qL (BT (qL (qCat (qL (V2 (qV 2))) (qV 9))))))) qNx)
   (qSeq (qPar 10 11 (sV (qOp wIx (qV 2) (qV 5))) (sO (V2 (qOp wAdd (qSl (qV 2) qNo (K2 (qV 5))) (qSl (qV 2) (K2 (qOp wAdd (qV 5) (qC (.int 1)))) qNo)))))
   (qSeq (qIfS (qAnd (qB (qOp (wEq 4) (qV 4) (qC (.int 1)))) (qB (qOp (wEq 4) (qOp wIx (qV 10) (qC (.int 0))) (qC (.str (A7 "touch")))))) (Q3 (Y1 11 (qTup (A2 (qC (.str (A7 "touch"))) (A2 (qOp wIx (qV 10) (qC (.int 2))) (A2 (qOp wIx (qV 10) (qC (.int 1))) qNil)))))) qNx)
   (qSeq (qIfS (qB (qOp (wEq 4) (qV 4) (qC (.int 2)))) (Q3 (BK 11 (qV 9))) qNx)
   (qSeq (qIfS (qAnd (qB (qOp (wEq 4) (qV 4) (qC (.int 3)))) (qB (qOp (wIn 4 true) (qV 7) (qV 10)))) (Q3 (Y1 11 (qOp wAdd (qSl (qV 10) qNo (K2 (qOp wSub (qUn wLen (qV 10)) (qC (.int 1))))) (qTup (A2 (qV 7) qNil))))) qNx)
   (qRet (qUn b9 (qL (BT (qO 11))))))))))))))
def Dk:pF:=fnP ["_law_pot_here","_law_start","_law_sheet_here","_law_spare","_law_way","_law_at","_law_boats_here","_law_one","_law_other","_law_more","_law_event","_law_rest"] ["_law_pot_here","_law_start","_law_sheet_here","_law_spare"] Lc
def Ld:pS:=(qRet (qL (HH [none,none] (qIt (qV 0)) (gN 0) (qIt (qSl (qV 0) (K2 (qC (.int 1))) qNo)) (gN 1) qTru (qV 1))))
def w6:pF:=fnP ["events"] ["events"] Ld
def Le:pS:=(qSeq (qSet 2 (B5 w6 (A2 (qV 1) qNil)))
   (qSeq (qFor (qIl (qV 2)) (gN 3) (qSeq (qIfS (qB (qOp (wIn 4 true) (qV 3) (qV 0))) (qRet (qTup (A2 (qC (.str (A7 "strange"))) (A2 (qV 3) qNil)))) qNx)
   (qIfS (qB (qOp wGt (Ho (qV 2) (qV 3)) (qC (.int 1)))) (qRet (qTup (A2 (qC (.str (A7 "twice"))) (A2 (qV 3) qNil)))) qNx)))
   (qRet (qC .non))))
def Fi:pF:=fnP ["start","sheet","boats","boat"] ["start","sheet"] Le
def Lf:pS:=(qRet (qL (V4 [none] (qIt (qV 0)) (gN 0) (qB (qOp (wEq 4) (qOp wIx (qV 0) (qC (.int 0))) (qC (.str (A7 "touch"))))) (qV 0))))
def BU:pF:=fnP ["events"] ["events"] Lf
def Lg:pS:=(qRet (qOp wGt (d5 (qV 0) (qOp wIx (qV 1) (qC (.int 2)))) (d5 (qV 0) (qOp wIx (qV 1) (qC (.int 1))))))
def Fj:pF:=fnP ["start","touch"] ["start","touch"] Lg
def Lh:pS:=(qSeq (qAsg (qL (ER (qL (qLst (A2 (d5 (qV 0) (qOp wIx (qV 1) (qC (.int 1)))) (A2 (d5 (qV 0) (qOp wIx (qV 1) (qC (.int 2)))) qNil)))))) (gTl 2 (gCn (gN 2) (gCn (gN 3) gNl))))
   (qRet (qSl (qV 0) (K2 (qOp wAdd (qV 2) (qC (.int 1)))) (K2 (qV 3)))))
def Y3:pF:=fnP ["start","touch","low","high"] ["start","touch"] Lh
def Li:pS:=(qRet (qOp wGt (qUn wLen (B5 Y3 (A2 (qV 0) (A2 (qV 2) qNil)))) (qV 1)))
def Fk:pF:=fnP ["start","reach","touch"] ["start","reach","touch"] Li
def Lj:pS:=(qSeq (qIfS (qB (B5 Fj (A2 (qV 0) (A2 (qV 3) qNil)))) (qRet (qTup (A2 (qC (.str (A7 "wrong"))) (A2 (qV 3) qNil)))) qNx)
   (qSeq (qIfS (qB (B5 Fk (A2 (qV 0) (A2 (qV 1) (A2 (qV 3) qNil))))) (qRet (qTup (A2 (qC (.str (A7 "far"))) (A2 (qV 3) qNil)))) qNx)
   (qSeq (qSet 4 (B5 w6 (A2 (qV 2) qNil)))
   (qSeq (qFor (qIt (B5 Y3 (A2 (qV 0) (A2 (qV 3) qNil)))) (gN 5) (qIfS (qB (qOp (wIn 4 true) (qV 5) (qV 4))) (qRet (qTup (A2 (qC (.str (A7 "stays"))) (A2 (qV 3) (A2 (qV 5) qNil))))) qNx))
   (qRet (qC .non))))))
def Fl:pF:=fnP ["start","reach","sheet","touch","boats","boat"] ["start","reach","sheet","touch"] Lj
def Lk:pS:=(qSeq (qIfS (qB (qOp (wNe 4) (qUn Dj (B5 w6 (A2 (qTup (A2 (qV 1) (A2 (qV 2) qNil))) qNil))) (qC (.int 4)))) (qRet (qC (.bl false))) qNx)
   (qSeq (qSet 3 (B5 Y3 (A2 (qV 0) (A2 (qV 1) qNil))))
   (qRet (qOp (wNe 4) (qOp (wIn 4 false) (qOp wIx (qV 2) (qC (.int 1))) (qV 3)) (qOp (wIn 4 false) (qOp wIx (qV 2) (qC (.int 2))) (qV 3))))))
def Dl:pF:=fnP ["start","one","other","inner"] ["start","one","other"] Lk
def Ll:pS:=(qSeq (qFor (qIl (qV 2)) (gN 3) (qIfS (qB (B5 Dl (A2 (qV 0) (A2 (qV 1) (A2 (qV 3) qNil))))) (qRet (qTup (A2 (qC (.str (A7 "cross"))) (A2 (qV 1) (A2 (qV 3) qNil))))) qNx))
   (qRet (qC .non)))
def Fm:pF:=fnP ["start","touch","touches","other"] ["start","touch","touches"] Ll
def Lm:pS:=(qSeq (qSet 3 (B5 Fi (A2 (qV 0) (A2 (qV 2) qNil))))
   (qSeq (qIfS (qB (qOp Ak (qV 3) (qC .non))) (qRet (qV 3)) qNx)
   (qSeq (qSet 4 (B5 BU (A2 (qV 2) qNil)))
   (qSeq (qFor (qIl (qV 4)) (gN 5) (qSeq (qSet 3 (qOrT (B5 Fl (A2 (qV 0) (A2 (qV 1) (A2 (qV 2) (A2 (qV 5) qNil))))) (B5 Fm (A2 (qV 0) (A2 (qV 5) (A2 (qV 4) qNil))))))
   (qIfS (qB (qOp Ak (qV 3) (qC .non))) (qRet (qV 3)) qNx)))
   (qRet (qC .non))))))
def Fn:pF:=fnP ["start","reach","sheet","reason","touches","touch"] ["start","reach","sheet"] Lm
def Ib:pS:=(qSeq (qSet 3 (B5 Fn (A2 (qV 0) (A2 (qV 1) (A2 (qV 2) qNil)))))
   (qSeq (qIfS (qB (qOp Ak (qV 3) (qC .non))) (qRet (qTup (A2 (qC (.str (A7 "unsound"))) (A2 (qV 3) qNil)))) qNx)
   (qSeq (qSet 4 (qL (V4 [none] (qIt (qV 2)) (gN 0) (qB (qOp (wEq 4) (qOp wIx (qV 0) (qC (.int 0))) (qC (.str (A7 "drop"))))) (qV 0))))
   (qSeq (qSet 5 (qL (EX 0 (B5 BU (A2 (qV 2) qNil)) (qUn wLen (B5 Y3 (A2 (qV 1) (A2 (qV 0) qNil)))))))
   (qRet (qTup (A2 (qC (.str (A7 "course"))) (A2 (qUn b9 (qL (qCat (qV 4) (qV 5)))) qNil))))))))
def Fo:pF:=fnP ["start","reach","sheet","reason","drops","inner_first"] ["start","reach","sheet"] Ib
def Ln:pS:=(qSeq (qPar 2 3 (sO (V2 (qV 1))) (sO (qLst qNil)))
   (qSeq (Jw (qB (qOpR (wNe 4) (qO 2) (qL (qLst qNil)))) (Q3 (Y1 3 (Hj 2 (B5 b__law_draw (A2 (qV 0) (A2 (qUn wLen (qO 2)) qNil)))))))
   (qRet (qUn b9 (qO 3)))))
def Fp:pF:=fnP ["_law_pot_here","_law_some","_law_left","_law_found"] ["_law_pot_here","_law_some"] Ln
def Lo:pS:=(qSeq (qPar 2 3 (sV (qC (.str (A7 "abcdefghijklmnopqrstuvwxyz")))) (sO (qLst qNil)))
   (qSeq (He 4 5 6 (B5 b__law_draw (A2 (qV 0) (A2 (qC (.int 4)) qNil))) (sV (B5 b__law_draw (A2 (qV 0) (A2 (qC (.int 26)) qNil)))) (sV (qOp wAdd (qC (.int 1)) (B5 b__law_draw (A2 (qV 0) (A2 (qC (.int 8)) qNil))))))
   (qSeq (qPar 7 8 (sV (B5 b__law_draw (A2 (qV 0) (A2 (qV 6) qNil)))) (sV (qOp wIx (qV 2) (B5 b__law_draw (A2 (qV 0) (A2 (qC (.int 26)) qNil))))))
   (qSeq (qFor (t5 (qV 1)) (gN 9) (qSeq (qSet 10 (qOp wIx (qV 2) (qOp wMod (qOp wAdd (qV 5) (qOp wMul (qC (.int 7)) (qV 9))) (qC (.int 26)))))
   (qSeq (qIfS (qB (qOp (wEq 4) (qV 4) (qC (.int 0)))) (qSet 10 (qOp wAdd (qV 10) (Hh (qC (.str (A7 ""))) (qL (V4 [none,some 2,some 0] (t5 (B5 b__law_draw (A2 (qV 0) (A2 (qC (.int 8)) qNil)))) (gN 0) qTru (qOp wIx (qV 1) (B5 b__law_draw (A2 (qV 2) (A2 (qC (.int 26)) qNil))))))))) qNx)
   (qSeq (qIfS (qB (qOp (wEq 4) (qV 4) (qC (.int 1)))) (qSet 10 (qOp wMul (qOp wIx (qV 2) (qOp wMod (qOp wAdd (qV 5) (qOp GH (qV 9) (qC (.int 8)))) (qC (.int 26)))) (qOp wAdd (qC (.int 1)) (qOp wMod (qV 9) (qC (.int 8)))))) qNx)
   (qSeq (qIfS (qB (qOp wGt (qV 4) (qC (.int 1)))) (qSet 10 (qOp wAdd (qOp wAdd (qOp wMul (qV 8) (qV 7)) (qV 10)) (qOp wMul (qV 8) (qOp wSub (qOp wSub (qV 6) (qC (.int 1))) (qV 7))))) qNx)
   (Q3 (Y1 3 (qV 10))))))))
   (qSeq (qSet 11 (qOp wIx (qL (qLst (A2 (qC (.str (A7 "drop"))) (A2 (qC (.str (A7 "touch"))) (A2 (qC (.str (A7 "none"))) (A2 (qC (.str (A7 "d"))) (A2 (qC (.str (A7 "u"))) (A2 (qC (.str (A7 "t"))) (A2 (qC (.str (A7 "o"))) qNil))))))))) (B5 b__law_draw (A2 (qV 0) (A2 (qC (.int 7)) qNil)))))
   (qSeq (qIfS (qAnd (qB (qOp (wEq 4) (B5 b__law_draw (A2 (qV 0) (A2 (qC (.int 3)) qNil))) (qC (.int 0)))) (qB (qOp (wIn 4 true) (qV 11) (qO 3)))) (qPut 3 (qV 11) (B5 b__law_draw (A2 (qV 0) (A2 (qV 1) qNil)))) qNx)
   (EC 3 (qRet (B5 Fp (A2 (qV 0) (A2 (qV 3) qNil)))))))))))
def Ie:pF:=fnP ["_law_pot_here","_law_many","_law_letters","_law_found","_law_way","_law_first","_law_size","_law_spot","_law_fill","_law_k","_law_own","_law_odd"] ["_law_pot_here","_law_many"] Lo
def Lp:pS:=(qSeq (qAsg (qTup (A2 (qV 0) (A2 (qV 1) qNil))) (gTp 2 (gCn (gTp 2 (gCn (gN 2) (gCn (gN 3) gNl))) (gCn (gTp 2 (gCn (gN 4) (gCn (gN 5) gNl))) gNl))))
   (qRet (qOrV (qOp wLt (qV 3) (qV 4)) (qOrV (qOp wLt (qV 5) (qV 2)) (qOrV (Q9 (qOp wLt (qV 2) (qV 4)) (qOp wLt (qV 5) (qV 3))) (Q9 (qOp wLt (qV 4) (qV 2)) (qOp wLt (qV 3) (qV 5))))))))
def Ig:pF:=fnP ["_law_one","_law_other","_law_a","_law_b","_law_c","_law_d"] ["_law_one","_law_other"] Lp
def Lq:pS:=(qSeq (HF [3,4,5,6] (BN (sV (qUn wLen (qV 1))) (BN (sO (qLst qNil)) (BN (sO (qLst qNil)) (BN (sO (qLst qNil)) HD)))))
   (qSeq (qFor (t5 (B5 b__law_draw (A2 (qV 0) (A2 (qOp wAdd (qV 3) (qC (.int 1))) qNil)))) (gN 7) (qSeq (qAsg (qTup (A2 (B5 b__law_draw (A2 (qV 0) (A2 (qV 3) qNil))) (A2 (qOp wAdd (qC (.int 1)) (B5 b__law_draw (A2 (qV 0) (A2 (qOp wAdd (qV 2) (qC (.int 1))) qNil)))) qNil))) (gTp 2 (gCn (gN 8) (gCn (gN 9) gNl))))
   (qIfS (qAnd (qB (qOp wLt (qOp wAdd (qV 8) (qV 9)) (qV 3))) (qB (HC (qUn wAll (qL (V4 [none,some 8,some 9] (qIl (qV 4)) (gN 0) qTru (B5 Ig (A2 (qTup (A2 (qV 1) (A2 (qOp wAdd (qV 1) (qV 2)) qNil))) (A2 (qV 0) qNil))))))))) (qSeq (Q3 (Y1 4 (qTup (A2 (qV 8) (A2 (qOp wAdd (qV 8) (qV 9)) qNil)))))
   (qSeq (Q3 (BK 5 (qL (qLst (A2 (qV 8) (A2 (qOp wAdd (qV 8) (qV 9)) qNil))))))
   (Q3 (Y1 6 (qTup (A2 (qC (.str (A7 "touch"))) (A2 (qOp wIx (qV 1) (qOp wAdd (qV 8) (qV 9))) (A2 (qOp wIx (qV 1) (qV 8)) qNil)))))))) qNx)))
   (qSeq (qFor (CY (qV 1)) (gTp 2 (gCn (gN 10) (gCn (gN 11) gNl))) (qSeq (EC 4 (qSet 12 (qUn wAny (qL (V4 [none,none,some 10] (qIl (qV 4)) (gTp 2 (gCn (gN 0) (gCn (gN 1) gNl))) qTru (j6 wLt wLt (qV 0) (qV 2) (qV 1)))))))
   (qIfS (qAnd (qB (qOp (wIn 4 true) (qV 10) (qO 5))) (qOr (Hi (qV 12)) (qB (qOp (wEq 4) (B5 b__law_draw (A2 (qV 0) (A2 (qC (.int 3)) qNil))) (qC (.int 0)))))) (Q3 (Y1 6 (qTup (A2 (qC (.str (A7 "drop"))) (A2 (qV 11) qNil))))) qNx)))
   (qRet (qUn b9 (qL (ER (qO 6))))))))
def Ih:pF:=fnP ["_law_pot_here","_law_start","_law_reach","_law_n","_law_pairs","_law_ends","_law_events","_law_tour","_law_at","_law_far","_law_place","_law_boat","_law_within"] ["_law_pot_here","_law_start","_law_reach"] Lq
def Ii:pS:=(qSeq (qIfS (qOr (qNot (qB (qUn (wIsi "str") (qV 0)))) (qNot (qB (j6 wLe wLe (qC (.int 1)) (qUn wLen (qV 0)) (qC (.int 8)))))) (qRet (qC (.bl false))) qNx)
   (qRet (qUn wAll (qL (V4 [none] (qIs (qV 0)) (gN 0) qTru (j6 wLe wLe (qC (.str (A7 "a"))) (qV 0) (qC (.str (A7 "z")))))))))
def Y4:pF:=fnP ["thing"] ["thing"] Ii
def Ij:pS:=(qSeq (qIfS (qNot (qB (B5 Y4 (A2 (qV 3) qNil)))) (qRet (qC (.bl false))) qNx)
   (qSeq (qSet 4 (B5 w6 (A2 (qV 1) qNil)))
   (qSeq (qIfS (qB (qOp (wEq 4) (qV 2) (qC (.str (A7 "strange"))))) (qRet (Q9 (qOp (wIn 4 false) (qV 3) (qV 4)) (qOp (wIn 4 true) (qV 3) (qV 0)))) qNx)
   (qRet (qOp wGt (Ho (qV 4) (qV 3)) (qC (.int 1)))))))
def Fq:pF:=fnP ["start","sheet","word","thing","boats"] ["start","sheet","word","thing"] Ij
def Lr:pS:=(qSeq (qIfS (qOr (qNot (qB (qUn (wIsi "tuple") (qV 0)))) (qB (qOp (wNe 4) (qUn wLen (qV 0)) (qC (.int 3))))) (qRet (qC (.bl false))) qNx)
   (qSeq (qAsg (qV 0) (gTp 3 (gCn (gN 1) (gCn (gN 2) (gCn (gN 3) gNl)))))
   (qSeq (qIfS (qOr (qNot (qB (qUn (wIsi "str") (qV 1)))) (qB (qOp (wNe 4) (qV 1) (qC (.str (A7 "touch")))))) (qRet (qC (.bl false))) qNx)
   (qRet (Q9 (B5 Y4 (A2 (qV 2) qNil)) (Q9 (B5 Y4 (A2 (qV 3) qNil)) (qOp (wNe 4) (qV 2) (qV 3))))))))
def Fs:pF:=fnP ["thing","word","x","y"] ["thing"] Lr
def Ls:pS:=(qSeq (qIfS (qOr (qNot (qB (B5 Fs (A2 (qV 2) qNil)))) (qB (qOp (wIn 4 true) (qV 2) (qV 1)))) (qRet (qC (.bl false))) qNx)
   (qRet (Q9 (qOp (wIn 4 false) (qOp wIx (qV 2) (qC (.int 1))) (qV 0)) (qOp (wIn 4 false) (qOp wIx (qV 2) (qC (.int 2))) (qV 0)))))
def d8:pF:=fnP ["start","sheet","thing"] ["start","sheet","thing"] Ls
def Lu:pS:=(qSeq (qIfS (qNot (qB (B5 d8 (A2 (qV 0) (A2 (qV 2) (A2 (qV 4) qNil)))))) (qRet (qC (.bl false))) qNx)
   (qSeq (qIfS (qB (qOp (wEq 4) (qV 3) (qC (.str (A7 "wrong"))))) (qRet (B5 Fj (A2 (qV 0) (A2 (qV 4) qNil)))) qNx)
   (qRet (B5 Fk (A2 (qV 0) (A2 (qV 1) (A2 (qV 4) qNil)))))))
def Ik:pF:=fnP ["start","reach","sheet","word","thing"] ["start","reach","sheet","word","thing"] Lu
def Lv:pS:=(qSeq (qIfS (qOr (qNot (qB (B5 d8 (A2 (qV 0) (A2 (qV 1) (A2 (qV 2) qNil)))))) (qNot (qB (B5 Y4 (A2 (qV 3) qNil))))) (qRet (qC (.bl false))) qNx)
   (qRet (Q9 (qOp (wIn 4 false) (qV 3) (B5 Y3 (A2 (qV 0) (A2 (qV 2) qNil)))) (qOp (wIn 4 true) (qV 3) (B5 w6 (A2 (qV 1) qNil))))))
def Il:pF:=fnP ["start","sheet","touch","thing"] ["start","sheet","touch","thing"] Lv
def Lw:pS:=(qSeq (qIfS (qOr (qNot (qB (B5 d8 (A2 (qV 0) (A2 (qV 1) (A2 (qV 2) qNil)))))) (qNot (qB (B5 d8 (A2 (qV 0) (A2 (qV 1) (A2 (qV 3) qNil))))))) (qRet (qC (.bl false))) qNx)
   (qRet (B5 Dl (A2 (qV 0) (A2 (qV 2) (A2 (qV 3) qNil))))))
def Im:pF:=fnP ["start","sheet","one","other"] ["start","sheet","one","other"] Lw
def Ly:pS:=(qSeq (qIfS (qOr (qNot (qB (qUn (wIsi "tuple") (qV 3)))) (qOr (qB (qOp (wIn 4 true) (qUn wLen (qV 3)) (qTup (A2 (qC (.int 2)) (A2 (qC (.int 3)) qNil))))) (qNot (qB (qUn (wIsi "str") (qOp wIx (qV 3) (qC (.int 0)))))))) (qRet (qC (.bl false))) qNx)
   (qSeq (HZ 4 5 (qV 3))
   (qSeq (qIfS (qAnd (qB (qOp (wEq 4) (qUn wLen (qO 5)) (qC (.int 1)))) (qB (qOp (wIn 4 false) (qV 4) (qTup (A2 (qC (.str (A7 "strange"))) (A2 (qC (.str (A7 "twice"))) qNil)))))) (qRet (B5 Fq (A2 (qV 0) (A2 (qV 2) (A2 (qV 4) (A2 (qOpR wIx (qO 5) (qC (.int 0))) qNil)))))) qNx)
   (qSeq (qIfS (qAnd (qB (qOp (wEq 4) (qUn wLen (qO 5)) (qC (.int 1)))) (qB (qOp (wIn 4 false) (qV 4) (qTup (A2 (qC (.str (A7 "wrong"))) (A2 (qC (.str (A7 "far"))) qNil)))))) (qRet (B5 Ik (A2 (qV 0) (A2 (qV 1) (A2 (qV 2) (A2 (qV 4) (A2 (qOpR wIx (qO 5) (qC (.int 0))) qNil))))))) qNx)
   (qSeq (qIfS (qAnd (qB (qOp (wEq 4) (qUn wLen (qO 5)) (qC (.int 2)))) (qB (qOp (wEq 4) (qV 4) (qC (.str (A7 "stays")))))) (qRet (B5 Il (A2 (qV 0) (A2 (qV 2) (A2 (qOpR wIx (qO 5) (qC (.int 0))) (A2 (qOpR wIx (qO 5) (qC (.int 1))) qNil)))))) qNx)
   (qSeq (qIfS (qAnd (qB (qOp (wEq 4) (qUn wLen (qO 5)) (qC (.int 2)))) (qB (qOp (wEq 4) (qV 4) (qC (.str (A7 "cross")))))) (qRet (B5 Im (A2 (qV 0) (A2 (qV 2) (A2 (qOpR wIx (qO 5) (qC (.int 0))) (A2 (qOpR wIx (qO 5) (qC (.int 1))) qNil)))))) qNx)
   (qRet (qC (.bl false)))))))))
def Ft:pF:=fnP ["start","reach","sheet","thing","word","parts"] ["start","reach","sheet","thing"] Ly
def Lz (Dm:pF):pS:=(qSeq (qOwn 2 (qLst (A2 (qV 1) qNil)))
   (qSeq (qIfS (qB (qUn (wIsi "tuple") (qV 0))) (qFor (CY (qV 0)) (gTp 2 (gCn (gN 3) (gCn (gN 4) gNl))) (Q3 (BK 2 (B5 Dm (A2 (qV 4) (A2 (qL (qCat (qV 1) (qL (qLst (A2 (qV 3) qNil))))) qNil)))))) qNx)
   (EA 2)))
def Dn:Nat->pF
 |0=>fnP ["_law_thing","_law_path","_law_found","_law_at","_law_part_here"] ["_law_thing","_law_path"] H_
 |d+1=>fnP ["_law_thing","_law_path","_law_found","_law_at","_law_part_here"] ["_law_thing","_law_path"] (Lz (Dn d))
abbrev Dm:pF:=Dn 8
def Io (Do:pF):pS:=(qSeq (qIfS (qB (qOp (wEq 4) (qV 1) (qL (qLst qNil)))) (qRet (qV 2)) qNx)
   (qSeq (qSet 3 (qOp wIx (qV 1) (qC (.int 0))))
   (qRet (qOp wAdd (qOp wAdd (qSl (qV 0) qNo (K2 (qV 3))) (qTup (A2 (B5 Do (A2 (qOp wIx (qV 0) (qV 3)) (A2 (qSl (qV 1) (K2 (qC (.int 1))) qNo) (A2 (qV 2) qNil)))) qNil))) (qSl (qV 0) (K2 (qOp wAdd (qV 3) (qC (.int 1)))) qNo)))))
def BV:Nat->pF
 |0=>fnP ["_law_thing","_law_path","_law_part_here","_law_at"] ["_law_thing","_law_path","_law_part_here"] H_
 |d+1=>fnP ["_law_thing","_law_path","_law_part_here","_law_at"] ["_law_thing","_law_path","_law_part_here"] (Io (BV d))
abbrev Do:pF:=BV 8
def LA:pS:=(qSeq (qSet 1 (qC (.str (A7 "a"))))
   (qSeq (qFor (t5 (qOp wIx (qL (qLst (A2 (qC (.int 1)) (A2 (qC (.int 5)) (A2 (qC (.int 24)) qNil))))) (B5 b__law_draw (A2 (qV 0) (A2 (qC (.int 3)) qNil))))) (gN 2) (qSet 1 (qOp wIx (qL (qLst (A2 (qTup (A2 (qV 1) qNil)) (A2 (qL (qLst (A2 (qV 1) qNil))) (A2 (Ia (qC (.str (A7 "a"))) (qV 1)) qNil))))) (B5 b__law_draw (A2 (qV 0) (A2 (qC (.int 3)) qNil))))))
   (qRet (qV 1))))
def Fu:pF:=fnP ["_law_pot_here","_law_thing","_law_tour"] ["_law_pot_here"] LA
def LB:pS:=(qSeq (qSet 3 (qL (qLst (A2 (qC (.str (A7 "strange"))) (A2 (qC (.str (A7 "twice"))) (A2 (qC (.str (A7 "wrong"))) (A2 (qC (.str (A7 "far"))) (A2 (qC (.str (A7 "stays"))) (A2 (qC (.str (A7 "cross"))) (A2 (qC (.str (A7 "touch"))) (A2 (qC (.str (A7 "drop"))) (A2 (qC (.str (A7 ""))) qNil))))))))))))
   (qSeq (qIfS (qAnd (qB (qUn (wIsi "tuple") (qV 1))) (qB (qOp wGt (B5 b__law_draw (A2 (qV 0) (A2 (qC (.int 3)) qNil))) (qC (.int 0))))) (qSeq (qSet 4 (B5 b__law_draw (A2 (qV 0) (A2 (qOp wAdd (qUn wLen (qV 1)) (qC (.int 1))) qNil))))
   (qSeq (qSet 5 (qL (qLst (A2 (qOp wAdd (qSl (qV 1) qNo (K2 (qV 4))) (qSl (qV 1) (K2 (qOp wAdd (qV 4) (qC (.int 1)))) qNo)) (A2 (qOp wAdd (qOp wAdd (qSl (qV 1) qNo (K2 (qV 4))) (qTup (A2 (qOp wIx (qV 2) (qC (.int 0))) qNil))) (qSl (qV 1) (K2 (qV 4)) qNo)) qNil)))))
   (qRet (qOp wIx (qL (qCat (qV 5) (qL (qLst (A2 (qUn wRev (qV 1)) (A2 (qL (V2 (qV 1))) (A2 (qOp wAdd (qV 1) (qSl (qV 1) (K2 (qUn wNeg (qC (.int 1)))) qNo)) qNil))))))) (B5 b__law_draw (A2 (qV 0) (A2 (qC (.int 5)) qNil))))))) qNx)
   (qSeq (qSet 5 (qL (qLst (A2 (qC .non) (A2 (qC (.bl true)) (A2 (qC (.int 1)) (A2 (qOp wIx (qV 3) (B5 b__law_draw (A2 (qV 0) (A2 (qC (.int 9)) qNil)))) (A2 (qOp wIx (qV 2) (B5 b__law_draw (A2 (qV 0) (A2 (qUn wLen (qV 2)) qNil)))) (A2 (qTup qNil) (A2 (qL (qLst (A2 (qV 1) qNil))) (A2 (qTup (A2 (qV 1) qNil)) qNil)))))))))))
   (qRet (qOp wIx (qL (qCat (qV 5) (qL (qLst (A2 (B5 Fu (A2 (qV 0) qNil)) qNil))))) (B5 b__law_draw (A2 (qV 0) (A2 (qC (.int 9)) qNil))))))))
def Fv:pF:=fnP ["_law_pot_here","_law_part_here","_law_boats_here","_law_words","_law_at","_law_some"] ["_law_pot_here","_law_part_here","_law_boats_here"] LB
def LC:pS:=(qSeq (qAsg (qTup (A2 (d5 (qV 0) (qOp wIx (qV 1) (qC (.int 1)))) (A2 (d5 (qV 0) (qOp wIx (qV 1) (qC (.int 2)))) qNil))) (gTp 2 (gCn (gN 2) (gCn (gN 3) gNl))))
   (qRet (qL (V4 [none,none,some 2,some 3] (CY (qV 0)) (gTp 2 (gCn (gN 0) (gCn (gN 1) gNl))) (qB (j6 wLt wLt (qOp wMin (qV 2) (qV 3)) (qV 0) (qOp wMax (qV 2) (qV 3)))) (qV 1)))))
def Fw:pF:=fnP ["_law_start","_law_event","_law_one","_law_other"] ["_law_start","_law_event"] LC
def LD:pS:=(qSeq (qIfS (qOr (qNot (qB (qUn (wIsi "tuple") (qV 2)))) (qOr (qB (qOp (wNe 4) (qUn wLen (qV 2)) (qC (.int 3)))) (qB (qOp (wInA 2 true) (qV 2) (qV 1))))) (qRet (qC (.bl false))) qNx)
   (qRet (Q9 (qOp (wIn 4 false) (qOp wIx (qV 2) (qC (.int 1))) (qV 0)) (qOp (wIn 4 false) (qOp wIx (qV 2) (qC (.int 2))) (qV 0)))))
def Dp:pF:=fnP ["_law_start","_law_sheet_here","_law_thing"] ["_law_start","_law_sheet_here","_law_thing"] LD
def LE:pS:=(qSeq (qIfS (qOr (qNot (qB (qUn (wIsi "tuple") (qV 3)))) (qOr (qB (qOp (wIn 4 true) (qUn wLen (qV 3)) (qTup (A2 (qC (.int 2)) (A2 (qC (.int 3)) qNil))))) (qNot (qB (qUn (wIsi "str") (qOp wIx (qV 3) (qC (.int 0)))))))) (qRet (qC (.bl false))) qNx)
   (qSeq (qSet 4 (qUn wLen (qL (V4 [none,some 3] (qIt (qV 2)) (gN 0) (qB (qOp (wInA 2 false) (qOp wIx (qV 1) (qC (.int 1))) (qSl (qV 0) (K2 (qC (.int 1))) qNo))) (qV 0)))))
   (qSeq (qIfS (qOr (qB (qOp (wEq 4) (qOp wIx (qV 3) (qC (.int 0))) (qC (.str (A7 "strange"))))) (qB (qOp (wEq 4) (qOp wIx (qV 3) (qC (.int 0))) (qC (.str (A7 "twice")))))) (qSeq (qSet 5 (qIf (qB (qOp (wEq 4) (qOp wIx (qV 3) (qC (.int 0))) (qC (.str (A7 "strange"))))) (Q9 (qOp wGt (qV 4) (qC (.int 0))) (qOp (wInA 2 true) (qOp wIx (qV 3) (qC (.int 1))) (qV 0))) (qOp wGt (qV 4) (qC (.int 1)))))
   (qRet (Q9 (qV 5) (qOp (wEq 4) (qUn wLen (qV 3)) (qC (.int 2)))))) qNx)
   (qSeq (qIfS (qNot (qB (B5 Dp (A2 (qV 0) (A2 (qV 2) (A2 (qOp wIx (qV 3) (qC (.int 1))) qNil)))))) (qRet (qC (.bl false))) qNx)
   (qSeq (qSet 6 (B5 Fw (A2 (qV 0) (A2 (qOp wIx (qV 3) (qC (.int 1))) qNil))))
   (qSeq (qIfS (qAnd (qB (qOp (wEq 4) (qUn wLen (qV 3)) (qC (.int 2)))) (qB (qOp (wEq 4) (qOp wIx (qV 3) (qC (.int 0))) (qC (.str (A7 "wrong")))))) (qRet (qOp wGt (d5 (qV 0) (qOp wIx (qOp wIx (qV 3) (qC (.int 1))) (qC (.int 2)))) (d5 (qV 0) (qOp wIx (qOp wIx (qV 3) (qC (.int 1))) (qC (.int 1)))))) qNx)
   (qSeq (qIfS (qB (qOp (wEq 4) (qUn wLen (qV 3)) (qC (.int 2)))) (qRet (Q9 (qOp (wEq 4) (qOp wIx (qV 3) (qC (.int 0))) (qC (.str (A7 "far")))) (qOp wGt (qUn wLen (qV 6)) (qV 1)))) qNx)
   (qSeq (qIfS (qB (qOp (wEq 4) (qOp wIx (qV 3) (qC (.int 0))) (qC (.str (A7 "stays"))))) (qRet (Q9 (qOp (wInA 2 false) (qOp wIx (qV 3) (qC (.int 2))) (qV 6)) (GQ (qUn wAny (qL (V4 [none,some 3] (qIt (qV 2)) (gN 0) qTru (qOp (wInA 2 false) (qOp wIx (qV 1) (qC (.int 2))) (qSl (qV 0) (K2 (qC (.int 1))) qNo)))))))) qNx)
   (qSeq (qIfS (qOr (qB (qOp (wNe 4) (qOp wIx (qV 3) (qC (.int 0))) (qC (.str (A7 "cross"))))) (qNot (qB (B5 Dp (A2 (qV 0) (A2 (qV 2) (A2 (qOp wIx (qV 3) (qC (.int 2))) qNil))))))) (qRet (qC (.bl false))) qNx)
   (qSeq (qSet 7 (qOp wAdd (qSl (qOp wIx (qV 3) (qC (.int 1))) (K2 (qC (.int 1))) qNo) (qSl (qOp wIx (qV 3) (qC (.int 2))) (K2 (qC (.int 1))) qNo)))
   (qRet (Q9 (qOp (wEq 4) (qUn EI (qV 7)) (qC (.int 4))) (qOp (wNe 4) (qOp (wIn 4 false) (qOp wIx (qV 7) (qC (.int 2))) (qV 6)) (qOp (wIn 4 false) (qOp wIx (qV 7) (qC (.int 3))) (qV 6)))))))))))))))
def Fx:pF:=fnP ["_law_start","_law_reach","_law_sheet_here","_law_thing","_law_many","_law_good","_law_between_here","_law_boats_here"] ["_law_start","_law_reach","_law_sheet_here","_law_thing"] LE
def LF:pS:=(qSeq (qFor (qIl (qV 1)) (gN 2) (qSet 0 (qOp wIx (qV 0) (qV 2))))
   (qRet (qV 0)))
def Fy:pF:=fnP ["_law_thing","_law_path","_law_at"] ["_law_thing","_law_path"] LF
def Ip:pS:=(qSeq (qFor (t5 (qOp wAdd (qC (.int 1)) (qUn wLen (qSl (qV 0) qNo (K2 (qC (.int 5))))))) (gN 1) (qSeq (HX 2 (qV 0) (qV 1))
   (qSeq (qSet 3 (qOp wAdd (qC (.int 1)) (B5 b__law_draw (A2 (qV 2) (A2 (qC (.int 9)) qNil)))))
   (qSeq (qPar 4 5 (sV (B5 Ie (A2 (qV 2) (A2 (qOp wAdd (qV 3) (qC (.int 2))) qNil)))) (sV (B5 b__law_draw (A2 (qV 2) (A2 (qC (.int 8)) qNil)))))
   (qSeq (qSet 6 (qSl (qV 4) qNo (K2 (qV 3))))
   (qSeq (qSet 7 (B5 Dk (A2 (qV 2) (A2 (qV 6) (A2 (B5 Ih (A2 (qV 2) (A2 (qV 6) (A2 (qV 5) qNil)))) (A2 (qSl (qV 4) (K2 (qV 3)) qNo) qNil))))))
   (qSeq (qIfS (qB (qOp (wEq 4) (B5 b__law_draw (A2 (qV 2) (A2 (qC (.int 2)) qNil))) (qC (.int 0)))) (qSet 7 (B5 Dk (A2 (qV 2) (A2 (qV 6) (A2 (qV 7) (A2 (qSl (qV 4) (K2 (qV 3)) qNo) qNil)))))) qNx)
   (qSeq (qAsg (B5 Fo (A2 (qV 6) (A2 (qV 5) (A2 (qV 7) qNil)))) (gTp 2 (gCn (gN 8) (gCn (gN 9) gNl))))
   (qSeq (qIfS (qB (qOp (wEq 4) (qV 8) (qC (.str (A7 "course"))))) (qSet 9 (qTup (A2 (qC (.str (A7 "twice"))) (A2 (qOp wIx (qV 4) (qC (.int 0))) qNil)))) qNx)
   (qFor (t5 (qC (.int 19))) (gN 10) (qSeq (qPar 11 12 (sV (qV 9)) (sV (B5 Dm (A2 (qV 9) (A2 (qL (qLst qNil)) qNil)))))
   (qSeq (qSet 12 (qOp wIx (qV 12) (B5 b__law_draw (A2 (qV 2) (A2 (qUn wLen (qV 12)) qNil)))))
   (qSeq (qIfS (qB (qOp wGt (qV 10) (qC (.int 0)))) (qSet 11 (B5 Do (A2 (qV 9) (A2 (qV 12) (A2 (B5 Fv (A2 (qV 2) (A2 (B5 Fy (A2 (qV 9) (A2 (qV 12) qNil))) (A2 (qV 4) qNil)))) qNil))))) qNx)
   (qSeq (qSet 13 (B5 Ft (A2 (qV 6) (A2 (qV 5) (A2 (qV 7) (A2 (qV 11) qNil))))))
   (qIfS (qOr (qNot (qB (qUn (wIsi "bool") (qV 13)))) (qB (qOp (wNe 4) (qV 13) (B5 Fx (A2 (qV 6) (A2 (qV 5) (A2 (qV 7) (A2 (qV 11) qNil)))))))) (qRet (qC (.bl false))) qNx)))))))))))))))
   (qRet (qC (.bl true))))
end Tb
end
section
namespace Tb
open PySem L2 Pu
def top (i:Nat):Stmt:=PySem.Challenge.pw_touchboats_k10_reasons_of_anything.main.body.getD i (.Pass ⟨0,0,0,0⟩)
end Tb
end
section
namespace Tb
open PySem L2 Pu
theorem LG (a b:Int):eqP (.int a) (.int b)=decide (a=b):=by
 show(a == b)=_;rw[Cs]
theorem LH (a b:Str):eqP (.str a) (.str b)=decide (a=b):=by
 show(a == b)=_;rw[Cs]
theorem LI (a b:Bool):eqP (.bl a) (.bl b)=decide (a=b):=by
 show(a == b)=_;rw[Cs]
theorem wsa:decide (A7 "strange"=A7 "strange")=true:=by with_unfolding_all rfl
theorem wsb:decide (A7 "twice"=A7 "strange")=false:=by with_unfolding_all rfl
theorem wsc:decide (A7 "twice"=A7 "twice")=true:=by with_unfolding_all rfl
theorem wsd:decide (A7 "wrong"=A7 "strange")=false:=by with_unfolding_all rfl
theorem wse:decide (A7 "wrong"=A7 "twice")=false:=by with_unfolding_all rfl
theorem wsf:decide (A7 "wrong"=A7 "wrong")=true:=by with_unfolding_all rfl
theorem wsg:decide (A7 "far"=A7 "strange")=false:=by with_unfolding_all rfl
theorem wsh:decide (A7 "far"=A7 "twice")=false:=by with_unfolding_all rfl
theorem wsi:decide (A7 "far"=A7 "wrong")=false:=by with_unfolding_all rfl
theorem wsj:decide (A7 "far"=A7 "far")=true:=by with_unfolding_all rfl
theorem wsk:decide (A7 "stays"=A7 "strange")=false:=by with_unfolding_all rfl
theorem wsl:decide (A7 "stays"=A7 "twice")=false:=by with_unfolding_all rfl
theorem wsm:decide (A7 "stays"=A7 "stays")=true:=by with_unfolding_all rfl
theorem wsn:decide (A7 "cross"=A7 "strange")=false:=by with_unfolding_all rfl
theorem wso:decide (A7 "cross"=A7 "twice")=false:=by with_unfolding_all rfl
theorem wsp:decide (A7 "cross"=A7 "stays")=false:=by with_unfolding_all rfl
theorem wsq:decide (A7 "cross"=A7 "cross")=true:=by with_unfolding_all rfl
theorem wsA:decide (((2:Nat):Int)=2)=true:=by with_unfolding_all rfl
theorem wsB:decide (((3:Nat):Int)=2)=false:=by with_unfolding_all rfl
set_option compiler.extract_closed false in
set_option hygiene false in
local macro_rules | `(tactic| walk_at "pd")=>`(tactic| dsimp only [dreduceIte,true_and,and_true,J3,beq_self_eq_true,Nat.reduceLeDiff,Nat.reduceLT,Int.reduceLT,Int.reduceLE,J9,LG,LH,LI,qSeq,qNx,qSet,qOwn,qAsg,Q3,qRet,EA,qIfS,qPar,He,sV,sO,qPut,gAt,EC,EB,qV,qO,qC,qOp,qOpR,qUn,wI,wI0,wAdd,wSub,wMul,GH,wMod,wEq,wNe,wLt,wLe,wGt,Ak,qB,j6,qAnd,qOr,qNot,Q9,qOrV,GQ,qIf,qNil,A2,qTup,qLst,qL,wIx,qNo,K2,qSl,wSl,wLen,wAll,wAny,b9,V2,wIsi,wMin,wMax,B5,gN,gNl,gCn,gTp,qIl,qIt,t5,qIs,capV,capS,qTru,V4,qCat,Hh,Hg,Hi,wNeg,Y1,G_,Hj,Ha,u4,tyP,isT,List.map,List.set,L8,List.length_nil,DJ,AQ,List.cons_append,List.nil_append,y8,Nat.reduceSub,Nat.reduceAdd,Option.bind,Ab,Bool.not_false,Bool.true_or,Bool.false_or,Aa,Bool.true_and,Be,String.reduceBEq,cmpb,a9,eqP_ll,At,Au,CV,decide_true,decide_false,BH,EG,BK,Ho,EH,wRev,EI,CY,qFor,ER,u7,keyV,d5,at2_0,at2_1,at3_0,at3_1,at3_2,grd_t,BT,wSet,HC,frz,frzS,HF,BN,HD,setAll,gTl,noMut,HH,BQ,qOrT,EX,Dj,HZ,wsa,wsb,wsc,wsd,wse,wsf,wsg,wsh,wsi,wsj,wsk,wsl,wsm,wsn,wso,wsp,wsq,wsA,wsB,wInA,Ia,b__law_draw,HX])
set_option hygiene false in
local macro_rules | `(tactic| walk_at "pu")=>`(tactic| (try walk_at "pd") <;> (try simp only [LG,LH,LI,decide_true,decide_false,true_and,and_true,reduceIte,Nat.reduceLeDiff,Nat.reduceLT,Int.reduceLT,Int.reduceLE,J9,beq_self_eq_true,J3]))
def Good:Ev->Prop
 |.d x=>F6 x
 |.t x y=>x≠y/\F6 x/\F6 y
def SrE (es:List Ev):Prop:=(es.map evP).Pairwise λa b=>lexK (keyP b) (keyP a)=false
theorem erase_perm {α:Type}:∀(l:List α) (i:Nat) (h:i<l.length),(l[i]::l.eraseIdx i).Perm l
 |x::l,0,_=>.refl _
 | x :: l, i + 1, h => by
  have h0:i<l.length:=by simpa using h
  have ih:=erase_perm l i h0;exact(Ee x l[i] (l.eraseIdx i)).trans (ih.cons x)
theorem RN (N:Nat)(hN:N<=999999000):∀(m:Nat) (left found:List PV) (n:Nat),left.length=m->found.length+left.length<=1000->left.all (cmpb 3)=true->n+left.length<=N->
   (∀ys n',ys.Perm (found++left)->n'<=n+left.length->D.nx [some (.v (.pot (k+1))),s1,some (.own []),some (.own ys)] n')->
   t9 (qB (qOpR (wNe 4) (qO 2) (qL (qLst qNil)))) (Q3 (Y1 3 (Hj 2 (B5 b__law_draw (A2 (qV 0) (A2 (qUn wLen (qO 2)) qNil)))))) D (m+1) [some (.v (.pot (k+1))),s1,some (.own left),some (.own found)] n:=by
 intro m
 induction m with
 | zero =>
  intro left found n hl hs pl hn hD;have:left=[]:=AM hl;subst this;simp only[t9];walk_at "pu";exact hD found n (by simp) (by omega)
 | succ m ih =>
  intro left found n hl hs pl hn hD;cases left with
  |nil=>cases hl
  | cons y r =>
   rw[t9];have hl':r.length=m:=by simpa using hl
   rw[L8] at hs hn;walk_at "pu";refine gd2 pl rfl (if_t rfl ⟨⟨_,rfl⟩,⟨_,rfl⟩,⟨by omega,by omega,by omega⟩,λd d0 d1=>⟨by omega,?_⟩⟩);have d1':d<((y::r).length:Int):=by rw[L8];exact d1
   rw[GG (n:=r.length+1) d0 d1];have hk:d.toNat<(y::r).length:=by omega
   dsimp only;rw[D3 hk];refine⟨by omega,?_⟩;have le:((y::r).eraseIdx d.toNat).length=r.length:=by rw[FN hk];rfl
   refine ih ((y::r).eraseIdx d.toNat) (found++[(y::r)[d.toNat]]) (n+1) (by omega) (by rw[E3,O7,le];omega) (E4.mpr λz hz=>E4.mp pl z (List.mem_of_mem_eraseIdx hz)) (by omega) λys n' p h'=>?_;rw[le] at h';refine hD ys n' (p.trans ?_) (by rw[L8];omega);rw[T6];exact(erase_perm _ _ hk).append_left found
theorem m_shuf (hx:x=.lst xs\/x=.tup xs)(hl:xs.length<=1000)(hn:n<=999990000)(hp:xs.all (cmpb 3)=true)(h:∀ys n',ys.Perm xs->n'<=n+xs.length->R (.tup ys) n'):Fp [.pot (k+1),x] n R:=by
 rcases hx with rfl|rfl
 all_goals
   refine⟨rfl,?_⟩;unfold Ln;walk_at "pu";exact⟨_,RN 999999000 (B9 _) xs.length xs [] n rfl (by simpa using hl) hp (by omega) λys n' p h'=>h ys n' (by simpa using p) h'⟩
def chI (x:Int):Nat:=97+(x%26).toNat
theorem Iq (x:Int):atI LETS.cps.toList (x%26)=some (chI x):=by
 have h:∀n:Nat,n<26->atI LETS.cps.toList (n:Int)=some (97+n):=by decide
 have h0:0<=x%26:=Bp _ (by decide);have h1:x%26<26:=Bn _ (by decide);have:=h (x%26).toNat (by omega);rw[show(((x%26).toNat:Nat):Int)=x%26 by omega] at this;exact this
theorem chI_d (d0:0<=d)(d1:d<26):atI LETS.cps.toList d=some (chI d):=by
 have:=Iq d;rw[show d%26=d by omega] at this;exact this
theorem AC:(i7 ⟨#[c]⟩ n).cps.toList=y8 n.toNat c:=by
 rw[Ob]
 induction n.toNat with
 |zero=>rfl
 |succ k ih=>rw[List.replicate_succ,List.flatten_cons,ih];rfl
theorem Dq (x:Int):Ltr (chI x):=by unfold chI;exact⟨by omega,by omega⟩
def one1 (y:PV):Prop:=∃c:Nat,Ltr c/\y=.str ⟨#[c]⟩
theorem RO:∀ys:List PV,(∀y∈ys,one1 y)->∃zs:List Str,O0 ys=some zs/\zs.length=ys.length/\(zs.map (·.length)).sum=ys.length/\(Txt.join (A7 "") zs).length=ys.length/\∀c∈(Txt.join (A7 "") zs).cps.toList,Ltr c:=by
 intro ys h
 have key:∃zs:List Str,O0 ys=some zs/\zs.length=ys.length/\(zs.map (·.length)).sum=ys.length/\(zs.map λz=>z.cps.toList).flatten.length=ys.length/\∀c∈(zs.map λz=>z.cps.toList).flatten,Ltr c:=by
  induction ys with
  |nil=>exact⟨[],rfl,rfl,rfl,rfl,λ_ z=>nomatch z⟩
  | cons y ys ih =>
   obtain⟨c,lc,rfl⟩:=h y C3;obtain⟨zs,e1,e2,e3,e4,e5⟩:=ih λz hz=>h z (C2 _ hz);refine⟨⟨#[c]⟩::zs,?_,by rw[L8,L8,e2],?_,?_,λa ha=>?_⟩
   ·show(O0 ys).map _=_;rw[e1];rfl
   ·rw[F2,List.sum_cons,e3,L8];show 1+_=_;omega
   ·rw[F2,List.flatten_cons,E3,e4,show(PV.str ⟨#[c]⟩::ys).length=ys.length+1 from rfl];show 1+_=_;omega
   ·rw[F2,List.flatten_cons] at ha;rcases J8.mp ha with ha|ha
    ·rw[show a=c from E2.mp ha];exact lc
    ·exact e5 a ha
 obtain⟨zs,e1,e2,e3,e4,e5⟩:=key;exact⟨zs,e1,e2,e3,by rw[t3,Jh];exact e4,by rw[Jh];exact e5⟩
structure Ky (way fi sp:Int)(j:Nat)(z:Str):Prop where
 a:way=0->z.cps.toList[0]?=some (chI (fi+7*j))
 b:way=1->z.cps.toList=y8 (1+j%8) (chI (fi+((j/8:Nat):Int)))
 c:1<way->z.cps.toList[sp.toNat]?=some (chI (fi+7*j))
 d:F6 z
theorem LJ {j k:Nat}(hj:j<26)(hk:k<26)(h:chI (fi+7*j)=chI (fi+7*k)):j=k:=by
 unfold chI at h;omega
theorem Ky.inj (w0:0<=way)(hj:j<26)(hk:k<26)(h1:Ky way fi sp j z)(h2:Ky way fi sp k z):j=k:=by
 by_cases c0:way=0
 ·have:=(h1.a c0).symm.trans (h2.a c0);exact LJ hj hk (M7 this)
 ·by_cases c1:way=1
  ·have e:=(h1.b c1).symm.trans (h2.b c1);have l:=congrArg List.length e;rw[Z3,Z3] at l;have hd:=congrArg (λl=>l[0]?) e;simp only[DI] at hd;rw[jr (by omega),jr (by omega)] at hd;have hd:=M7 hd;unfold chI at hd;omega
  ·have:=(h1.c (by omega)).symm.trans (h2.c (by omega));exact LJ hj hk (M7 this)
theorem RP {zs:List Str}(w0:0<=way)(hl:zs.length<=26)(h:∀(j:Nat) (z:Str),zs[j]?=some z->Ky way fi sp j z):zs.Nodup:=by
 refine W5.mpr λi j hi hj hij e=>?_;have e1:=D3 hi;have e2:=D3 hj;have k1:=h i _ e1;have k2:=h j zs[i] (by rw[e2,e]);have:=Ky.inj w0 (by omega) (by omega) k1 k2;omega
theorem LK {α:Type}{x:α}:∀{l:List α} (i:Nat),l.Nodup->x∉l->(l.set i x).Nodup
 |[],_,h,_=>h
 | y :: l, 0, h, hx => by
  rw[List.set_cons_zero,V0];exact⟨λz=>hx (C2 _ z),(V0.mp h).2⟩
 | y :: l, i + 1, h, hx => by
  rw[List.set_cons_succ,V0];refine⟨λz=>?_,LK i (V0.mp h).2 λz=>hx (C2 _ z)⟩;rcases List.mem_or_eq_of_mem_set z with z|z
  ·exact(V0.mp h).1 z
  ·exact hx (by rw[<- z];exact C3)
theorem RQ {α β:Type}{f:α->β}{ys:List β}{xs:List α}(h:ys.Perm (xs.map f)):∃zs:List α,ys=zs.map f/\zs.Perm xs:=by
 generalize e:xs.map f=l at h
 induction h generalizing xs with
 |nil=>exact⟨[],rfl,by rw[List.map_eq_nil_iff.mp e]⟩
 | @cons y l1 l2 h ih =>
  cases xs with
  |nil=>cases e
  | cons x xs =>
   rw[F2] at e;injection e with e1 e2;obtain⟨zs,rfl,p⟩:=ih e2;exact⟨x::zs,by rw[F2,e1],p.cons x⟩
 | @swap a b l =>
  match xs,e with
  | x :: x' :: xs, e =>
   rw[F2,F2] at e;injection e with e1 e;injection e with e2 e3;exact⟨x'::x::xs,by rw[F2,F2,e1,e2,e3],.swap ..⟩
 | @trans l1 l2 l3 h1 h2 ih1 ih2 =>
  obtain⟨zs,rfl,p⟩:=ih2 e;obtain⟨ws,rfl,p'⟩:=ih1 rfl;exact⟨ws,rfl,p'.trans p⟩
theorem RS (zs:List Str)(d:Nat):(zs.map PV.str).all (cmpb d)=true:=Df zs d
theorem RT {k n:Nat}{many:Int}{R:PV->Nat->Prop}(h0:1<=many)(h1:many<=26)(hn:n<=999900000)(h:∀zs n',(zs.length:Int)=many->RowS zs->n'<=n + 1000->R (rowP zs) n'):Ie [.pot (k + 1),.int many] n R:=by
 refine⟨rfl,?_⟩;unfold Lo;have jl:(A7 "").length=0:=rfl;have l26:LETS.length=26:=by decide +kernel
 walk_at "pu";refine⟨by omega,λway w0 w1=>⟨by omega,λfi f0 f1=>⟨by omega,λsz z0 z1=>⟨⟨by omega,by omega,by omega⟩,λsp p0 p1=>⟨by omega,λfl l0 l1=>⟨by rw[show(A7 "abcdefghijklmnopqrstuvwxyz").length=26 from l26];decide,?_⟩⟩⟩⟩⟩⟩;rw[chI_d l0 l1];have hc:=Dq fl;generalize chI fl=c at hc ⊢;refine⟨⟨by omega,by omega⟩,?_⟩;refine V6 (λi env m=>∃s9 s10,∃found:List Str,env=[some (.v (.pot (k+1))),some (.v (.int many)),some (.v (.str LETS)),some (.own (found.map PV.str)),some (.v (.int way)),some (.v (.int fi)),some (.v (.int (1+sz))),some (.v (.int sp)),some (.v (.str ⟨#[c]⟩)),s9,s10,none]/\found.length=i/\(∀(j:Nat) (z:Str),found[j]?=some z->Ky way fi sp j z)/\m<=n+5+i*9) _ 0 _ _ ⟨none,none,[],rfl,rfl,(λ_ _ z=>nomatch z),by omega⟩ (λi x env m N ex hI hN=>?_) (λenv m hI=>?_)
 ·obtain⟨hi,rfl⟩:=CT ex;obtain⟨s9,s10,found,rfl,hf,pf,hm⟩:=hI;have hi2:i<26:=by omega
  have fin:∀(z:Str) (m':Nat),Ky way fi sp i z->m'<=m+9->(∃xs,([some (.v (.pot (k+1))),some (.v (.int many)),some (.v (.str LETS)),some (.own (found.map PV.str)),some (.v (.int way)),some (.v (.int fi)),some (.v (.int (1+sz))),some (.v (.int sp)),some (.v (.str ⟨#[c]⟩)),some (.v (.int (0+i))),some (.v (.str z)),none]:Pu.Env)[3]?=some (some (.own xs)))/\(found.map PV.str).length<1000000/\N [some (.v (.pot (k+1))),some (.v (.int many)),some (.v (.str LETS)),some (.own (found.map PV.str++[.str z])),some (.v (.int way)),some (.v (.int fi)),some (.v (.int (1+sz))),some (.v (.int sp)),some (.v (.str ⟨#[c]⟩)),some (.v (.int (0+i))),some (.v (.str z)),none] m':=by
   intro z m' az hm';refine⟨⟨_,rfl⟩,by rw[B8];omega,hN _ _ ⟨_,_,found++[z],by rw[Q5];rfl,by rw[E3,O7];omega,λj y hy=>?_,by omega⟩⟩
   by_cases cj:j<found.length
   ·rw[W4 cj] at hy;exact pf j y hy
   ·have hj:j=found.length:=by
     obtain⟨hh,_⟩:=F7.mp hy;rw[E3,O7] at hh;omega
    subst hj;rw[W3 (B9 _),Bd] at hy;have hy':z=y:=by simpa using hy
    rw[<- hy',hf,T8];exact az
  have ec1:=Iq (fi+7*(0+i));have ll:LETS.length<=1000000:=by rw[l26];decide
  have zi:(0:Int)+(i:Int)=(i:Int):=by omega
  generalize hF:found.map PV.str=FF at fin ⊢;walk_at "pu";simp only[ec1,ll,true_and];have Dr:∀c:Nat,(⟨#[c]⟩:Str).length=1:=λ_=>rfl;have e8:0<=(0+(i:Int))%8/\(0+(i:Int))%8<8:=⟨Bp _ (by decide),Bn _ (by decide)⟩;refine⟨.inl ⟨by decide,by decide⟩,?_⟩
  by_cases a0:way=0
  ·have b0:decide (way=0)=true:=jp a0;have b1:decide (way=1)=false:=jq (by omega);have b2:decide (1<way)=false:=jq (by omega);simp only[b0,b1,b2,reduceIte,J3];refine⟨by omega,λd d0 d1=>⟨⟨by omega,by omega⟩,by rw[As];omega,?_⟩⟩;refine JC one1 1 999999000 _ _ _ _ (λy hy m Q hm hQ=>?_) (by rw[As];omega) λys n2 hl hp hn2=>?_
   ·walk_at "pu";refine⟨by omega,λu u0 u1=>⟨ll,?_⟩⟩;rw[chI_d u0 u1];exact hQ _ _ ⟨_,Dq _,rfl⟩ (by omega)
   ·rw[As] at hl hn2;obtain⟨zs,e1,l1,l2,hJ,hL⟩:=RO ys hp;rw[e1];dsimp only;generalize Txt.join (A7 "") zs=J at hJ hL ⊢;refine⟨by rw[l2,jl];omega,by rw[Dr];omega,fin _ _ ⟨λ_=>?_,λz=>absurd (a0.symm.trans z) (by decide),λz=>by omega,?_⟩ (by omega)⟩
    ·rw[j5,zi];rfl
    ·unfold F6;rw[t3] at hJ;rw[j5,E3,show((⟨#[chI (fi+7*(0+i))]⟩:Str).cps.toList)=[chI (fi+7*(0+i))] from rfl,O7];exact⟨by omega,by omega,λc hc=>(J8.mp hc).elim (λz=>by rw[E2.mp z];exact Dq _) (hL c)⟩
  ·have b0:decide (way=0)=false:=jq a0
   by_cases a1:way=1
   ·have b1:decide (way=1)=true:=jp a1;have b2:decide (1<way)=false:=jq (by omega);simp only[b0,b1,b2,reduceIte,J3];have ec2:=Iq (fi+(0+i)/8);simp only[ec2];refine⟨⟨by decide,by decide⟩,by rw[Dr];decide,by omega,by omega,fin _ _ ⟨λz=>absurd z a0,λ_=>?_,λz=>by omega,by unfold F6;rw[AC,Z3];exact⟨by omega,by omega,λc hc=>by rw[FO hc];exact Dq _⟩⟩ (by omega)⟩;rw[AC,show(1+(0+(i:Int))%8).toNat=1+i%8 by omega,show fi+(0+(i:Int))/8=fi+((i/8:Nat):Int) by omega]
   ·have b1:decide (way=1)=false:=jq a1;have b2:decide (1<way)=true:=jp (by omega);simp only[b0,b1,b2,reduceIte,J3];have g1:(i7 ⟨#[c]⟩ sp).length<=8:=by rw[t3,AC,Z3];omega
    have g2:(i7 ⟨#[c]⟩ (1+sz-1-sp)).length<=8:=by rw[t3,AC,Z3];omega
    have g3:(i7 ⟨#[c]⟩ sp++(⟨#[chI (fi+7*(0+i))]⟩:Str)).length<=9:=by
     rw[t3] at g1 ⊢;rw[j5,E3];show _+1<=9;omega
    refine⟨by rw[Dr];decide,by omega,by omega,by rw[Dr];omega,by rw[Dr];decide,by omega,by omega,by omega,fin _ _ ⟨λz=>absurd z a0,λz=>absurd z a1,λ_=>?_,?_⟩ (by omega)⟩
    rotate_left
    ·unfold F6;rw[j5,j5,AC,AC,E3,E3,Z3,Z3];refine⟨by show 1<=_+1+_;omega,by show _+1+_<=8;omega,λd hd=>?_⟩;rcases J8.mp hd with hd|hd
     ·rcases J8.mp hd with hd|hd
      ·rw[FO hd];exact hc
      ·rw[E2.mp hd];exact Dq _
     ·rw[FO hd];exact hc
    rw[j5,j5,AC,zi,T6,W3 (by rw[Z3];exact B9 _),Z3,Bd]
    rfl
 ·obtain⟨s9,s10,found,rfl,hf,pf,hm⟩:=hI;rw[As] at hf hm;have nd:RowS found:=⟨RP w0 (by omega) pf,λz hz=>by obtain⟨j,e⟩:=List.getElem?_of_mem hz;exact(pf j z e).d⟩;generalize hF:found.map PV.str=FF;walk_at "pu"
  have sh:∀(ys:List Str) (m':Nat),ys.length=found.length->RowS ys->m'<=m+5->Fp [PV.pot (k+1),PV.lst (ys.map PV.str)] m' λr n2=>R r n2:=λys m' e p hm'=>m_shuf (.inl rfl) (by rw[B8];omega) (by omega) (RS _ _) λzs n' p2 h2=>by
   obtain⟨ws,rfl,pw⟩:=RQ p2;rw[B8] at h2;exact h ws n' (by rw[pw.length_eq];omega) (p.perm pw) (by omega)
  refine⟨by omega,λd d0 d1=>?_⟩;obtain⟨x,hx,ex⟩:=j8 (xs:=[PV.str (A7 "drop"),PV.str (A7 "touch"),PV.str (A7 "none"),PV.str (A7 "d"),PV.str (A7 "u"),PV.str (A7 "t"),PV.str (A7 "o")]) d0 d1;rw[ex]
  have bx:∃z:Str,x=.str z/\F6 z:=by
   simp only[C6,h9,or_false] at hx;rcases hx with rfl|rfl|rfl|rfl|rfl|rfl|rfl <;> exact⟨_,rfl,by decide,by decide,by unfold Ltr;decide⟩
  obtain⟨z,rfl,bz⟩:=bx;refine⟨by omega,λe e0 e1=>?_⟩
  by_cases c0:e=0
  ·rw[jr (jp c0)];subst hF;refine HK rfl ?_
   by_cases cz:z∈found
   ·exact if_f (by rw[jp cz];rfl) (sh found _ rfl nd (by omega))
   ·refine if_t (by rw[jq cz];rfl) ⟨⟨_,rfl⟩,⟨by omega,by omega,by omega⟩,λj j0 j1=>?_⟩;rw[GG j0 (by rw[B8];omega)];have:=sh (found.set j.toNat z) _ (O9 ..) ⟨LK j.toNat nd.1 cz,λa ha=>(List.mem_or_eq_of_mem_set ha).elim (nd.2 a) λe=>by rw[e];exact bz⟩ (show m+1+1+1<=m+5 by omega);rw[List.map_set] at this;exact this
  ·rw[jt (by simpa using c0)];subst hF;exact sh found _ rfl nd (by omega)
theorem Ds {α:Type}(xs:List α)(f:α->Bool):b8 (xs.map λx=>PV.bl (f x))=some (xs.map f):=by
 rw[<- Jr (xs.map f),V1];rfl
theorem Ir {α:Type}(xs:List α)(f:α->Bool):(xs.map f).all id=xs.all f:=by rw[List.all_map];rfl
theorem LL {α:Type}(xs:List α)(f:α->Bool):(xs.map f).any id=xs.any f:=by rw[AV];rfl
theorem cmp_ev (e:Ev)(d:Nat):cmpb (d+1) (evP e)=true:=by cases e <;> cases d <;> rfl
theorem RU (es:List Ev)(d:Nat):(es.map evP).all (cmpb (d+1))=true:=E4.mpr λy hy=>by
 obtain⟨e,_,rfl⟩:=G0.mp hy;exact cmp_ev e d
theorem ev_eqP (h:eqP (evP a) (evP b)=true):a=b:=by
 cases a with
 | d x =>
  cases b with
  | d y =>
   rw[d7,d7] at h;simp only[At,Au,CV,U4,Bf,decide_true,Bool.true_and,decide_eq_true_eq] at h;rw[h]
  | t y z =>
   rw[d7,J1] at h;simp only[At,Au,U4] at h;rw[show decide (DROP=L0)=false by decide +kernel,Be] at h;cases h
 | t x x' =>
  cases b with
  | d y =>
   rw[d7,J1] at h;simp only[At,Au,U4] at h;rw[show decide (L0=DROP)=false by decide +kernel,Be] at h;cases h
  | t y z =>
   rw[J1,J1] at h;simp only[At,Au,CV,U4,Bf,decide_true,Bool.true_and,R7,decide_eq_true_eq] at h;rw[h.1,h.2]
theorem LM (a:Ev):eqP (evP a) (evP a)=true:=by
 cases a with
 |d x=>rw[d7];simp[At,Au,CV,U4]
 |t x y=>rw[J1];simp[At,Au,CV,U4]
theorem LN (e:Ev)(h:evP e=.tup xs):cutP xs (some 1) none=(evB e).map PV.str:=by
 cases e with
 |d x=>rw[d7] at h;cases h;rfl
 |t x y=>rw[J1] at h;cases h;rfl
theorem RV (h:Srt ys [.int a,.int b]):ys=[.int (min a b),.int (max a b)]:=by
 obtain⟨p,q⟩:=h;have l:=p.length_eq
 match ys,l with
 | [u, v], _ =>
  have hq:lexK (keyP v) (keyP u)=false:=by simpa using q
  have two:(u=.int a/\v=.int b)\/(u=.int b/\v=.int a):=by
   have hu:u∈[PV.int a,PV.int b]:=p.mem_iff.mp (by simp);rcases C6.mp hu with e|hu
   ·subst e;exact .inl ⟨rfl,by simpa using(List.perm_cons _).mp p⟩
   ·have e:u=.int b:=by simpa using hu
    subst e;have p2:=p.trans (Ee (PV.int b) (PV.int a) []);exact .inr ⟨rfl,by simpa using(List.perm_cons _).mp p2⟩
  rcases two with⟨rfl,rfl⟩|⟨rfl,rfl⟩
  ·have:¬b<a:=by
    intro c
    have e:lexK [N7 b] [N7 a]=true:=by
     show(if(N7 b:Key)=N7 a then lexK [] [] else decide (b<a))=true;rw[jt (by intro z;cases z;omega)];exact jp c
    rw[show keyP (PV.int b)=[N7 b] from rfl,show keyP (PV.int a)=[N7 a] from rfl,e] at hq;cases hq
   rw[show min a b=a by omega,show max a b=b by omega]
  ·have:¬a<b:=by
    intro c
    have e:lexK [N7 a] [N7 b]=true:=by
     show(if(N7 a:Key)=N7 b then lexK [] [] else decide (a<b))=true;rw[jt (by intro z;cases z;omega)];exact jp c
    rw[show keyP (PV.int b)=[N7 b] from rfl,show keyP (PV.int a)=[N7 a] from rfl,e] at hq;cases hq
   rw[show min a b=b by omega,show max a b=a by omega]
theorem Dt (hs:st.length<=100)(hx:x∈st)(hy:y∈st)(h:R (rowP (btwU st x y)) n):Y3 [rowP st,evP (.t x y)] n R:=by
 refine⟨rfl,?_⟩;unfold Lh;have hix:∀z∈st,∀{R:PV->Prop},R (.int (ixS st z))->u8 (.tup (st.map PV.str)) (.str z) R:=λz hz {R} q=>m_ix rfl hz (by omega) q;have hr0:rowP st=.tup (st.map PV.str):=rfl;have lx:=HM hx;have ly:=HM hy
 have hcut:cutP (st.map PV.str) (some (min (ixS st x:Int) (ixS st y)+1)) (some (max (ixS st x:Int) (ixS st y)))=(btwU st x y).map PV.str:=by
  have:=cut_ab (st.map PV.str) (a:=min (ixS st x) (ixS st y)+1) (b:=max (ixS st x) (ixS st y)) (by rw[B8];omega);unfold btwU;rw[List.map_drop,List.map_take,<- this]
  congr 2 <;> omega
 generalize hZ:st.map PV.str=Z at *;rw[hr0,J1];walk_at "pu";refine⟨⟨_,rfl⟩,hix x hx ?_⟩;refine⟨⟨_,rfl⟩,hix y hy ?_⟩;refine⟨.inl (by simp),λys hys=>?_⟩;rw[RV hys];refine⟨rfl,?_⟩;walk_at "pu";rw[hcut];exact h
theorem LO {st:List Str}{x y:Str}{n:Nat}{R:PV->Nat->Prop}(hs:st.length<=100)(hx:x∈st)(hy:y∈st)(h:R (.bl (decide (ixS st x<ixS st y))) n):Fj [rowP st,evP (.t x y)] n R:=by
 refine⟨rfl,?_⟩;unfold Lg;have hix:∀z∈st,∀{R:PV->Prop},R (.int (ixS st z))->u8 (.tup (st.map PV.str)) (.str z) R:=λz hz {R} q=>m_ix rfl hz (by omega) q;have hr0:rowP st=.tup (st.map PV.str):=rfl;generalize hZ:st.map PV.str=Z at *;rw[hr0,J1];walk_at "pu";refine⟨⟨_,rfl⟩,hix y hy ?_⟩;refine⟨⟨_,rfl⟩,hix x hx ?_⟩;dsimp only;rw[show decide ((ixS st x:Int)<ixS st y)=decide (ixS st x<ixS st y) by rw[decide_eq_decide];omega];exact h
theorem m_far (hs:st.length<=100)(hx:x∈st)(hy:y∈st)(h:R (.bl (decide (r<((btwU st x y).length:Int)))) n):Fk [rowP st,.int r,evP (.t x y)] n R:=by
 refine⟨rfl,?_⟩;unfold Li;generalize hS:rowP st=S;generalize hT:evP (.t x y)=T;walk_at "pu";subst hS hT;refine Dt hs hx hy ?_;dsimp only;rw[B8];exact h
theorem LP (hl:es.length<=1000000)(h:R (.lst ((es.filter isTo).map evP)) n):BU [shP es] n R:=by
 refine⟨rfl,?_⟩;unfold Lf shP;generalize hE:es.map evP=E;have El:E.length=es.length:=by rw[<- hE,B8]
 walk_at "pu";refine⟨by omega,?_⟩;rw[<- hE];refine De evP isTo _ _ _ _ (λe he m Q hQ=>?_) h;cases e with
 | d x =>
  rw[d7] at *;walk_at "pu";rw[Kt];exact hQ
 | t x y =>
  rw[J1] at *;walk_at "pu";exact hQ
theorem Is:∀(es:List Ev) (s0 s1:Option Pu.Slot) (n:Nat) (R:List PV->Nat->Prop),R ((es.flatMap evB).map PV.str) n->Ax (gN 0) (qIt (qSl (qV 0) (K2 (qC (.int 1))) qNo)) (gN 1) qTru (qV 1) (es.map evP) [s0,s1] n R
 |[],_,_,_,_,h=>h
 | .d x :: es, s0, s1, n, R, h => by
  have ih:=Is es (some (.v (.tup [.str DROP,.str x]))) (some (.v (.str x))) n (λws n4=>R (.str x::ws) n4) h;rw[F2,d7];have e:cutP [PV.str DROP,PV.str x] (some 1) none=[.str x]:=rfl;generalize es.map evP=E at *;unfold Ax;walk_at "pu";rw[e];exact⟨by simp,ih⟩
 | .t x y :: es, s0, s1, n, R, h => by
  have ih:=Is es (some (.v (.tup [.str L0,.str x,.str y]))) (some (.v (.str y))) n (λws n4=>R (.str x::.str y::ws) n4) h;rw[F2,J1];have e:cutP [PV.str L0,PV.str x,PV.str y] (some 1) none=[.str x,.str y]:=rfl;generalize es.map evP=E at *;unfold Ax;walk_at "pu";rw[e];exact⟨by simp,ih⟩
theorem Du (hl:es.length<=1000)(h:R (.lst ((es.flatMap evB).map PV.str)) n):w6 [shP es] n R:=by
 refine⟨rfl,?_⟩;unfold Ld shP;have go:=λR' h'=>Is es none none n R' h';generalize hE:es.map evP=E at *;have El:E.length=es.length:=by rw[<- hE,B8]
 walk_at "pu"
 grind
def evL (st:List Str):Ev->Int
 |.d _=>0
 |.t x y=>((btwU st x y).length:Int)
theorem LQ {st:List Str}{n:Nat}(hs:st.length<=100):∀(ts:List Ev) (R:List Int->Nat->Prop),(∀e∈ts,∃x y,e=.t x y/\x∈st/\y∈st)->R (ts.map (evL st)) n->Az (qUn wLen (B5 Y3 (A2 (qV 1) (A2 (qV 0) qNil)))) (rowP st) (ts.map evP) n R
 |[],R,_,h=>h
 | e :: ts, R, ht, h => by
  obtain⟨x,y,rfl,hx,hy⟩:=ht e C3;have ih:=LQ hs (n:=n) ts (λks n2=>R (evL st (.t x y)::ks) n2) (λe he=>ht e (C2 _ he)) h;have mb:∀{R:PV->Nat->Prop},R (rowP (btwU st x y)) n->Y3 [rowP st,evP (.t x y)] n R:=λq=>Dt hs hx hy q;rw[F2];generalize ts.map evP=E at *;generalize hW:rowP st=W at *;generalize hT:evP (.t x y)=T at *;unfold Az;walk_at "pu";refine mb ?_
  try dsimp only
  refine⟨_,rfl,?_⟩;have e:(((btwU st x y).map PV.str).length:Int)=evL st (.t x y):=by rw[B8];rfl
  rw[e];exact ih
theorem RW {ts:List Ev}{f:Ev->Int}{ys:List PV}(h:SrtK (ts.map f) (ts.map evP) ys):∃ts':List Ev,ys=ts'.map evP/\ts'.Perm ts/\ts'.Pairwise λa b=>f a<=f b:=by
 obtain⟨ps,hp,rfl,ho⟩:=h
 have e:(ts.map f).zip (ts.map evP)=ts.map λe=>(f e,evP e):=by
  clear hp
  induction ts with
  |nil=>rfl
  |cons t ts ih=>simp[ih]
 rw[e] at hp;obtain⟨l,pl,rfl⟩:=Kp hp ts rfl;refine⟨l,by rw[V1];rfl,pl,?_⟩;rw[e9] at ho;exact ho
def isDr (e:Ev):Bool:=!isTo e
inductive Rs where
 |strange (b:Str)|twice (b:Str)|wrong (x y:Str)|far (x y:Str)|stays (x y z:Str)|cross (x y x' y':Str)
def rsP:Rs->PV
 |.strange b=>.tup [.str (A7 "strange"),.str b]
 |.twice b=>.tup [.str (A7 "twice"),.str b]
 |.wrong x y=>.tup [.str (A7 "wrong"),evP (.t x y)]
 |.far x y=>.tup [.str (A7 "far"),evP (.t x y)]
 |.stays x y z=>.tup [.str (A7 "stays"),evP (.t x y),.str z]
 |.cross x y x' y'=>.tup [.str (A7 "cross"),evP (.t x y),evP (.t x' y')]
theorem Fz (w:Rs):∃a l,rsP w=.tup (a::l):=by cases w <;> exact⟨_,_,rfl⟩
abbrev four (x y x' y':Str):Prop:=((met (O2 [x,y,x',y']) [x,y,x',y'].length).length:Int)=4
def Tin (st:List Str)(es:List Ev)(x y:Str):Prop:=Ev.t x y∈es/\x∈st/\y∈st
def isRs (r:Int)(st:List Str)(es:List Ev):Rs->Prop
 |.strange b=>b∈es.flatMap evB/\b∉st
 |.twice b=>2<=(es.filter λe=>decide (b∈evB e)).length
 |.wrong x y=>Tin st es x y/\ixS st x<ixS st y
 |.far x y=>Tin st es x y/\r<((btwU st x y).length:Int)
 |.stays x y z=>Tin st es x y/\z∈btwU st x y/\z∉es.flatMap evB
 |.cross x y x' y'=>Tin st es x y/\Tin st es x' y'/\four x y x' y'/\¬(x'∈btwU st x y↔y'∈btwU st x y)
def cntS (x:Str)(l:List Str):Int:=PySem.Spec.countIn (.str x) (l.map PySem.PyData.str)
theorem AD (x y:Str)(l:List Str):cntS x (y::l)=(if y=x then 1 else 0)+cntS x l:=by
 show(if PySem.Spec.same (.str y) (.str x) then 1 else 0)+cntS x l=_;have e:PySem.Spec.same (.str y) (.str x)=decide (y=x):=rfl
 grind
theorem LR (x:Str):∀l:List Str,0<=cntS x l
 |[]=>Int.le_refl _
 | y :: l => by
  rw[AD];have:=LR x l
  split <;> omega
theorem LS:∀{l:List Str},x∈l->1<=cntS x l
 | y :: l, h => by
  rw[AD];have:=LR x l
  by_cases c:y=x
  ·grind
  ·rw[jt c];have:=LS ((C6.mp h).elim (λz=>absurd z.symm c) id);omega
theorem LT:∀{l:List Str},(∀b∈l,cntS b l<=1)->l.Nodup
 |[],_=>List.nodup_nil
 | y :: l, h => by
  refine V0.mpr ⟨λz=>?_,LT λb hb=>?_⟩
  ·have h1:=h y C3;rw[AD,jr rfl] at h1;have:=LS z;omega
  ·have h1:=h b (C2 _ hb);rw[AD] at h1
   split at h1 <;> omega
theorem Iu (b:Str):∀{es:List Ev},(∀e∈es,Good e)->cntS b (es.flatMap evB)=((es.filter λe=>decide (b∈evB e)).length:Int)
 |[],_=>rfl
 | e :: es, hg => by
  have ih:=Iu b (es:=es) λx hx=>hg x (C2 _ hx);have ge:=hg e C3;rw[List.flatMap_cons,List.filter_cons];cases e with
  | d x =>
   show cntS b (x::es.flatMap evB)=_;rw[AD,ih]
   by_cases c:x=b
   ·rw[jr c,jr (jp (by simp[evB,c])),L8];omega
   ·rw[jt c,jt (by simp[evB];exact λz=>c z.symm)];omega
  | t x y =>
   have ge:x≠y:=ge.1;show cntS b (x::y::es.flatMap evB)=_;rw[AD,AD,ih]
   by_cases c:x=b
   ·rw[jr c,jt (λz=>ge (c.trans z.symm)),jr (jp (by simp[evB,c])),L8];omega
   ·by_cases c2:y=b
    ·rw[jt c,jr c2,jr (jp (by simp[evB,c2])),L8];omega
    ·rw[jt c,jt c2,jt (by simp[evB];exact⟨λz=>c z.symm,λz=>c2 z.symm⟩)];omega
theorem RX (hg:∀e∈es,Good e)(hl:es.length<=1000)(h:Fair st es->R .non n)(h1:∀w,isRs r st es w->R (rsP w) n):Fi [rowP st,shP es] n R:=by
 refine⟨rfl,?_⟩;unfold Le;have hr0:rowP st=.tup (st.map PV.str):=rfl;generalize hS:shP es=S;have nin:∀{z:Str} {R:PV->Prop},R (.bl (!decide (z∈st)))->wIn 4 true (.str z) (.tup (st.map PV.str)) R:=λq=>EZ rfl q;rw[hr0];generalize hZ:st.map PV.str=Z at *;walk_at "pu";rw[<- hS];refine Du hl ?_;rw[hS];have tx:=EF (es.flatMap evB);generalize hB:(es.flatMap evB).map PV.str=B at *;refine V6 (λi env m=>∃s3,env=[some (.v (.tup Z)),some (.v S),some (.v (.lst B)),s3]/\m=n/\∀b∈(es.flatMap evB).take i,b∈st/\cntS b (es.flatMap evB)<=1) _ 0 _ _ ⟨none,rfl,rfl,λb hb=>by simp at hb⟩ (λi x env m N ex hI hN=>?_) (λenv m hI=>?_)
 ·obtain⟨s3,rfl,rfl,hb⟩:=hI;rw[<- hB] at ex;obtain⟨z,ez,rfl⟩:=Dh ex;have zm:=J5 ez;rw[T8] at hb hN;walk_at "pu";refine nin ?_
  by_cases c:z∈st
  ·rw[jp c];refine if_f rfl ?_;refine⟨⟨_,rfl⟩,?_⟩;rw[tx];dsimp only
   by_cases c2:1<cntS z (es.flatMap evB)
   ·refine if_t (jp c2) ?_;refine h1 (.twice z) ?_;show 2<=_;rw[Iu z hg] at c2;omega
   ·refine if_f (jq c2) (hN _ _ ⟨_,rfl,rfl,λb hb'=>?_⟩);rw[Fa ez] at hb';rcases J8.mp hb' with hb'|hb'
    ·grind
    ·grind
  ·rw[jq c];exact if_t rfl (h1 (.strange z) ⟨zm,c⟩)
 ·obtain⟨s3,rfl,rfl,hb⟩:=hI;rw[T8,<- hB,B8,Cm] at hb;have fr:Fair st es:=⟨LT λb hb'=>(hb b hb').2,λb hb'=>(hb b hb').1⟩;walk_at "pu";exact h fr
theorem RY {r:Int}{st:List Str}{es:List Ev}{x y:Str}{n:Nat}{R:PV->Nat->Prop}(hs:st.length<=100)(fr:Fair st es)(hg:∀e∈es,Good e)(he:Ev.t x y∈es)(hl:es.length<=1000)
   (h:ixS st y<ixS st x->((btwU st x y).length:Int)<=r->(∀z∈btwU st x y,z∈es.flatMap evB)->R .non n) (h1:∀w,isRs r st es w->R (rsP w) n):Fl [rowP st,.int r,shP es,evP (.t x y)] n R:=by
 refine⟨rfl,?_⟩;unfold Lj;obtain⟨hx,hy⟩:=fr.tx he;have ti:Tin st es x y:=⟨he,hx,hy⟩;have ne:ixS st x≠ixS st y:=λz=>(show x≠y from(hg _ he).1) (Qr hx hy z);generalize hS:shP es=S;generalize hW:rowP st=W;generalize hT:evP (.t x y)=T;walk_at "pu";subst hW hT;refine LO hs hx hy ?_
 by_cases c:ixS st x<ixS st y
 ·exact if_t (jp c) (h1 (.wrong x y) ⟨ti,c⟩)
 refine if_f (jq c) ?_;refine m_far hs hx hy ?_
 by_cases c2:r<((btwU st x y).length:Int)
 ·exact if_t (jp c2) (h1 (.far x y) ⟨ti,c2⟩)
 refine if_f (jq c2) ?_;rw[<- hS];refine Du hl ?_;rw[hS];refine Dt hs hx hy ?_;have nin:∀{z:Str} {R:PV->Prop},R (.bl (!decide (z∈es.flatMap evB)))->wIn 4 true (.str z) (.lst ((es.flatMap evB).map PV.str)) R:=λq=>HK rfl q;generalize hB:(es.flatMap evB).map PV.str=B at *;have st_:∀z∈btwU st x y,z∉es.flatMap evB->R (.tup [.str (A7 "stays"),evP (.t x y),.str z]) n:=λz h2 h3=>h1 (.stays x y z) ⟨ti,h2,h3⟩;generalize hW:rowP st=W;generalize hT:evP (.t x y)=T at *;refine V6 (λi env m=>∃s5,env=[some (.v W),some (.v (.int r)),some (.v S),some (.v T),some (.v (.lst B)),s5]/\m=n/\∀z∈(btwU st x y).take i,z∈es.flatMap evB) _ 0 _ _ ⟨none,rfl,rfl,λb hb=>by simp at hb⟩ (λi z env m N ex hI hN=>?_) (λenv m hI=>?_)
 ·obtain⟨s5,rfl,rfl,hb⟩:=hI;obtain⟨z,ez,rfl⟩:=Dh ex;rw[T8] at hb hN;walk_at "pu";refine nin ?_
  by_cases c3:z∈es.flatMap evB
  ·rw[jp c3];refine if_f rfl (hN _ _ ⟨_,rfl,rfl,λb hb'=>?_⟩);rw[Fa ez] at hb';rcases J8.mp hb' with hb'|hb'
   ·exact hb b hb'
   ·rw[E2.mp hb'];exact c3
  ·rw[jq c3];exact if_t rfl (st_ z (J5 ez) c3)
 ·obtain⟨s5,rfl,rfl,hb⟩:=hI;rw[T8,B8,Cm] at hb;walk_at "pu";exact h (by omega) (by omega) hb
theorem LU (hs:st.length<=100)(hx:x∈st)(hy:y∈st)(h:(four x y x' y'->(x'∈btwU st x y↔y'∈btwU st x y))->R (.bl false) n)(h1:four x y x' y'->¬(x'∈btwU st x y↔y'∈btwU st x y)->R (.bl true) n):Dl [rowP st,evP (.t x y),evP (.t x' y')] n R:=by
 refine⟨rfl,?_⟩;unfold Lk;have mb:∀{R:PV->Nat->Prop},R (.lst [.str x,.str y,.str x',.str y']) n->w6 [.tup [.tup [.str L0,.str x,.str y],.tup [.str L0,.str x',.str y']]] n R:=λq=>Du (es:=[.t x y,.t x' y']) (by simp) q;have mw:∀{R:PV->Nat->Prop},R (rowP (btwU st x y)) n->Y3 [rowP st,.tup [.str L0,.str x,.str y]] n R:=λq=>Dt hs hx hy q;generalize hW:rowP st=W at *;rw[J1,J1];walk_at "pu";refine mb ?_;have tx:O0 [.str x,.str y,.str x',.str y']=some [x,y,x',y']:=rfl;dsimp only;rw[tx];dsimp only;refine⟨by simp,?_⟩
 by_cases c:four x y x' y'
 ·refine if_f (by grind) ?_;refine mw ?_;refine j9 rfl ?_;refine j9 rfl ?_;rw[Hk]
  by_cases c2:x'∈btwU st x y↔y'∈btwU st x y
  ·rw[decide_eq_decide.mpr c2];have:=h λ_=>c2;generalize decide (y'∈btwU st x y)=b;cases b <;> exact this
  ·have e:decide (decide (x'∈btwU st x y)=decide (y'∈btwU st x y))=false:=jq λz=>c2 (decide_eq_decide.mp z);rw[e];exact h1 c c2
 grind
theorem RZ (hs:st.length<=100)(fr:Fair st es)(he:Ev.t x y∈es)(h:(∀x' y',Ev.t x' y'∈es->four x y x' y'->(x'∈btwU st x y↔y'∈btwU st x y))->R .non n)(h1:∀w,isRs r st es w->R (rsP w) n):Fm [rowP st,evP (.t x y),.lst ((es.filter isTo).map evP)] n R:=by
 refine⟨rfl,?_⟩;unfold Ll;obtain⟨hx,hy⟩:=fr.tx he;have mi:∀{x' y':Str} {R:PV->Nat->Prop},((four x y x' y'->(x'∈btwU st x y↔y'∈btwU st x y))->R (.bl false) n)->(four x y x' y'->¬(x'∈btwU st x y↔y'∈btwU st x y)->R (.bl true) n)->Dl [rowP st,evP (.t x y),evP (.t x' y')] n R:=λq q'=>LU hs hx hy q q';have cr:∀{x' y':Str},Ev.t x' y'∈es->four x y x' y'->¬(x'∈btwU st x y↔y'∈btwU st x y)->R (.tup [.str (A7 "cross"),evP (.t x y),evP (.t x' y')]) n:=λ{x' y'} he' c c2=>h1 (.cross x y x' y') ⟨⟨he,hx,hy⟩,⟨he',(fr.tx he').1,(fr.tx he').2⟩,c,c2⟩;generalize hW:rowP st=W at *;generalize hT:evP (.t x y)=T at *;generalize hL:(es.filter isTo).map evP=L;walk_at "pu";refine V6 (λi env m=>∃s3,env=[some (.v W),some (.v T),some (.v (.lst L)),s3]/\m=n/\∀x' y',Ev.t x' y'∈(es.filter isTo).take i->four x y x' y'->(x'∈btwU st x y↔y'∈btwU st x y)) _ 0 _ _ ⟨none,rfl,rfl,λx' y' z=>by simp at z⟩ (λi z env m N ex hI hN=>?_) (λenv m hI=>?_)
 ·obtain⟨s3,rfl,rfl,hb⟩:=hI;rw[<- hL] at ex;obtain⟨e,ee,rfl⟩:=Dh ex;rw[T8] at hb hN;obtain⟨em,et⟩:=O8.mp (J5 ee);cases e with
  |d z=>cases et
  | t x' y' =>
   have cr':=λc c2=>cr em c c2;generalize hU:evP (.t x' y')=U at *;walk_at "pu";rw[<- hU];refine mi (λc=>?_) λc c2=>?_
   ·rw[hU];refine if_f rfl (hN _ _ ⟨_,rfl,rfl,λa b hab=>?_⟩);rw[Fa ee] at hab;rcases J8.mp hab with hab|hab
    ·grind
    ·grind
   ·grind
 ·obtain⟨s3,rfl,rfl,hb⟩:=hI;rw[T8,<- hL,B8,Cm] at hb;have:=h λx' y' he'=>hb x' y' (O8.mpr ⟨he',rfl⟩);walk_at "pu";exact this
theorem fm_one:∀{l:List Ev},(l.flatMap evB).Nodup->∀a∈l,∀b∈l,x∈evB a->x∈evB b->a=b:=by intro a;induction a <;> intros <;> grind
theorem R_ {st:List Str}{es:List Ev}{x y x' y':Str}(nd:st.Nodup)(fr:Fair st es)(hg:∀e∈es,Good e)(he:Ev.t x y∈es)(he':Ev.t x' y'∈es)(h:four x y x' y'->(x'∈btwU st x y↔y'∈btwU st x y)):x'∈btwU st x y↔y'∈btwU st x y:=by
 by_cases c:Ev.t x y=Ev.t x' y'
 ·cases c;obtain⟨hx,hy⟩:=fr.tx he;rw[KZ nd hx hy,KZ nd hx hy];omega
 ·refine h ?_;have n1:x≠y:=(hg _ he).1;have n2:x'≠y':=(hg _ he').1;have nn:∀z,z∈evB (.t x y)->z∉evB (.t x' y'):=λz z1 z2=>c (fm_one fr.nd _ he _ he' z1 z2);have a:=nn x (by simp[evB]);have b:=nn y (by simp[evB]);simp only[evB,C6,h9,or_false,not_or] at a b
  have nd4:[x,y,x',y'].Nodup:=by
   simp only[V0,C6,h9,or_false,not_or,not_false_eq_true,and_true,List.nodup_nil];exact⟨⟨n1,a.1,a.2⟩,⟨b.1,b.2⟩,n2⟩
  show((met (O2 [x,y,x',y']) [x,y,x',y'].length).length:Int)=4;rw[JQ _ nd4 _ (B9 _)]
  rfl
theorem Sa (hs:st.length<=100)(nd:st.Nodup)(hg:∀e∈es,Good e)(hl:es.length<=1000)(h:HW r st es->R .non n)(h1:∀w,isRs r st es w->R (rsP w) n):Fn [rowP st,.int r,shP es] n R:=by
 refine⟨rfl,?_⟩;unfold Lm;have mt:∀{x y:Str} {R:PV->Nat->Prop},Fair st es->Ev.t x y∈es->(ixS st y<ixS st x->((btwU st x y).length:Int)<=r->(∀z∈btwU st x y,z∈es.flatMap evB)->R .non n)->(∀w,isRs r st es w->R (rsP w) n)->Fl [rowP st,.int r,shP es,evP (.t x y)] n R:=λfr he q q'=>RY hs fr hg he hl q q';have mc:∀{x y:Str} {R:PV->Nat->Prop},Fair st es->Ev.t x y∈es->((∀x' y',Ev.t x' y'∈es->four x y x' y'->(x'∈btwU st x y↔y'∈btwU st x y))->R .non n)->(∀w,isRs r st es w->R (rsP w) n)->Fm [rowP st,evP (.t x y),.lst ((es.filter isTo).map evP)] n R:=λfr he q q'=>RZ hs fr he q q';have mb:∀{R:PV->Nat->Prop},(Fair st es->R .non n)->(∀w,isRs r st es w->R (rsP w) n)->Fi [rowP st,shP es] n R:=λq q'=>RX hg hl q q';have mo:∀{R:PV->Nat->Prop},R (.lst ((es.filter isTo).map evP)) n->BU [shP es] n R:=λq=>LP (by omega) q;generalize hW:rowP st=W at *;generalize hS:shP es=S at *;generalize hL:(es.filter isTo).map evP=L at *;walk_at "pu";refine mb (λfr=>?_) λw hw=>?_
 rotate_left
 ·obtain⟨a,l,e⟩:=Fz w;have:=h1 w hw;rw[e] at this ⊢
  first|exact this|(walk_at "pu";exact this)
 try dsimp only
 refine mo ?_;refine V6 (λi env m=>∃s5,env=[some (.v W),some (.v (.int r)),some (.v S),some (.v .non),some (.v (.lst L)),s5]/\m=n/\∀x y,Ev.t x y∈(es.filter isTo).take i->ixS st y<ixS st x/\((btwU st x y).length:Int)<=r/\(∀z∈btwU st x y,z∈es.flatMap evB)/\∀x' y',Ev.t x' y'∈es->four x y x' y'->(x'∈btwU st x y↔y'∈btwU st x y)) _ 0 _ _ ⟨none,rfl,rfl,λx' y' z=>by simp at z⟩ (λi z env m N ex hI hN=>?_) (λenv m hI=>?_)
 ·obtain⟨s3,rfl,rfl,hb⟩:=hI;rw[<- hL] at ex;obtain⟨e,ee,rfl⟩:=Dh ex;rw[T8] at hb hN;obtain⟨em,et⟩:=O8.mp (J5 ee);cases e with
  |d z=>cases et
  | t x' y' =>
   generalize hU:evP (.t x' y')=U at *;walk_at "pu";rw[<- hU];refine mt fr em (λz1 z2 z3=>?_) λw hw=>?_
   ·walk_at "pu";refine mc fr em (λz4=>?_) λw hw=>?_
    ·rw[hU];refine hN _ _ ⟨_,rfl,rfl,λa b hab=>?_⟩;rw[Fa ee] at hab;rcases J8.mp hab with hab|hab
     ·exact hb a b hab
     ·grind
    ·obtain⟨a,l,e⟩:=Fz w;have:=h1 w hw;rw[e] at this ⊢
     first|exact this|(walk_at "pu";exact this)
   ·obtain⟨a,l,e⟩:=Fz w;have:=h1 w hw;rw[e] at this ⊢
    first|exact this|(walk_at "pu";exact this)
 ·obtain⟨s3,rfl,rfl,hb⟩:=hI;rw[T8,<- hL,B8,Cm] at hb;have hb':∀x y,Ev.t x y∈es->_:=λx y he=>hb x y (O8.mpr ⟨he,rfl⟩);have:=h ⟨fr,λx y he=>(hb' x y he).1,λx y he=>(hb' x y he).2.1,λx y he=>(hb' x y he).2.2.1,λx y x' y' he he'=>R_ nd fr hg he he' ((hb' x y he).2.2.2 x' y' he')⟩;walk_at "pu";exact this
theorem Sc (hs:st.length<=63)(nd:st.Nodup)(hg:∀e∈es,Good e)(hl:es.length<=63)
   (h:HW r st es->∀ts:List Ev,ts.Perm (es.filter isTo)->(ts.Pairwise λa b=>evL st a<=evL st b)->R (.tup [.str (A7 "course"),.tup ((es.filter isDr++ts).map evP)]) n)
   (h1:∀w,isRs r st es w->R (.tup [.str (A7 "unsound"),rsP w]) n):Fo [rowP st,.int r,shP es] n R:=by
 refine⟨rfl,?_⟩;unfold Ib;have mr:∀{R:PV->Nat->Prop},(HW r st es->R .non n)->(∀w,isRs r st es w->R (rsP w) n)->Fn [rowP st,.int r,shP es] n R:=λq q'=>Sa (by omega) nd hg (by omega) q q';have mo:∀{R:PV->Nat->Prop},R (.lst ((es.filter isTo).map evP)) n->BU [shP es] n R:=λq=>LP (by omega) q
 have tl:((es.filter isTo).map evP).length<64:=by
  rw[B8];have:=List.length_filter_le isTo es;omega
 have dl:((es.filter isDr).map evP).length<64:=by
  rw[B8];have:=List.length_filter_le isDr es;omega
 have kk:Fair st es->∀R,R ((es.filter isTo).map (evL st)) n->Az (qUn wLen (B5 Y3 (A2 (qV 1) (A2 (qV 0) qNil)))) (rowP st) ((es.filter isTo).map evP) n R:=λfr R q=>LQ (by omega) _ R (λe he=>by
  obtain⟨em,et⟩:=O8.mp he;cases e with
  |d z=>cases et
  | t x y =>
   obtain⟨hx,hy⟩:=fr.tx em
   exact⟨x,y,rfl,hx,hy⟩) q
 have hS':shP es=.tup (es.map evP):=rfl;have El:(es.map evP).length=es.length:=B8 ..
 have cf:=λR' q=>De (tt:=(qB (qOp (wEq 4) (qOp wIx (qV 0) (qC (.int 0))) (qC (.str (A7 "drop")))))) (rest:=[]) evP isDr es none n R' (λe he m Q hQ=>by
  cases e with
  | d x =>
   rw[d7] at *;walk_at "pu";exact hQ
  | t x y =>
   rw[J1] at *;walk_at "pu";rw[Qt]
   exact hQ) q
 generalize hW:rowP st=W at *;generalize hS:shP es=S at *;generalize hL:(es.filter isTo).map evP=L at *;generalize hD:(es.filter isDr).map evP=D at *;generalize hE:es.map evP=E at *;walk_at "pu";refine mr (λso=>?_) λw hw=>?_
 rotate_left
 ·obtain⟨a,l,e⟩:=Fz w;have:=h1 w hw;rw[e] at this ⊢
  first|exact this|(walk_at "pu";exact this)
 try dsimp only
 rw[hS']
 try dsimp only
 refine⟨by omega,cf _ ?_⟩;rw[<- hS'];refine mo ?_
 try dsimp only
 refine⟨tl,kk so.fair _ λys hy=>?_⟩;rw[<- hL] at hy;obtain⟨ts,rfl,pt,ot⟩:=RW hy;have:=h so ts pt ot;rw[Q5,hD] at this;have tsl:(ts.map evP).length<64:=by rw[B8,pt.length_eq,<- B8 (f:=evP),hL];exact tl
 grind
theorem at_nm {Z:List PV}(hZ:zs.map PV.str=Z){i:Nat}(h:i<zs.length):atI Z (i:Int)=some (.str (nm zs i)):=by
 obtain⟨x,e1,e2⟩:=Ji (xs:=Z) (d:=(i:Int)) (by omega) (by grind);rw[e2];rw[DY,<- hZ,G6,Dg h] at e1
 grind
def apB (a b c d:Int):Bool:=decide (b<c)||(decide (d<a)||((decide (a<c)&&decide (d<b))||(decide (c<a)&&decide (b<d))))
def apt (p q:Nat×Nat):Prop:=apB p.1 p.2 q.1 q.2=true
theorem Sd (a b c d:Int):apB a b c d=apB c d a b:=by grind [apB]
theorem Se (h:R (.bl (apB a b c d)) n):Ig [.tup [.int a,.int b],.tup [.int c,.int d]] n R:=by
 refine⟨rfl,?_⟩;unfold Lp;unfold apB at h;walk_at "pu"
 grind
structure Snd (n:Nat)(r:Int)(ps:List (Nat×Nat))(ds:List Nat):Prop where
 pr:∀p∈ps,p.1<p.2/\p.2<n/\(p.2:Int)-p.1-1<=r
 ap:ps.Pairwise apt
 dn:ds.Nodup
 dl:∀d∈ds,d<n/\d∉ps.flatMap λp=>[p.1,p.2]
 dw:∀d,d<n->d∉(ps.flatMap λp=>[p.1,p.2])->(∃p∈ps,p.1<d/\d<p.2)->d∈ds
def tch (zs:List Str)(p:Nat×Nat):Ev:=.t (nm zs p.2) (nm zs p.1)
def drp (zs:List Str)(d:Nat):Ev:=.d (nm zs d)
def Y5 (zs:List Str)(ps:List (Nat×Nat))(ds:List Nat):List Ev:=ps.map (tch zs)++ds.map (drp zs)
theorem Snd.good {zs:List Str}{r:Int}{ps:List (Nat×Nat)}{ds:List Nat}(nd:RowS zs)(h:Snd zs.length r ps ds):∀e∈Y5 zs ps ds,Good e:=λe he=>by
 rcases J8.mp he with he|he
 ·obtain⟨p,hp,rfl⟩:=G0.mp he;obtain⟨h1,h2,_⟩:=h.pr p hp;exact⟨λz=>by have:=nm_inj nd.1 h2 (by omega) z;omega,nd.2 _ (E_ (by omega)),nd.2 _ (E_ (by omega))⟩
 ·obtain⟨p,hp,rfl⟩:=G0.mp he;exact nd.2 _ (E_ (h.dl p hp).1)
def pinN (k:Nat):PV:=.int (k:Int)
def prP (p:Nat×Nat):PV:=.tup [.int (p.1:Int),.int (p.2:Int)]
theorem memN (k:Nat):∀xs:List Nat,memP (.int (k:Int)) (xs.map pinN)=decide (k∈xs)
 |[]=>rfl
 | x :: xs => by
  show(eqP (.int (x:Int)) (.int (k:Int))||memP (.int (k:Int)) (xs.map pinN))=_;rw[memN k xs,CU,i5];simp only[Cv,decide_eq_true_eq,C6];constructor
  ·rintro(e|e)
   ·exact .inl (by omega)
   ·exact .inr e
  ·rintro(e|e)
   ·exact .inl (by omega)
   ·exact .inr e
theorem cmpN (xs:List Nat)(d:Nat):(xs.map pinN).all (cmpb d)=true:=E4.mpr λy hy=>by
 obtain⟨k,_,rfl⟩:=G0.mp hy;cases d <;> rfl
theorem Sf {q n:Nat}{zs:List Str}{r:Int}{R:PV->Nat->Prop}(h1:1<=zs.length)(h2:zs.length<=24)(r0:0<=r)(r1:r<=7)(hn:n<=999990000)(h:∀ps ds (es:List Ev) n',Snd zs.length r ps ds->es.Perm (Y5 zs ps ds)->SrE es->ps.length<=24->ds.length<=24->n'<=n + 200->R (shP es) n'):Ih [.pot (q + 1),rowP zs,.int r] n R:=by
 refine⟨rfl,?_⟩;unfold Lq;have hr0:rowP zs=.tup (zs.map PV.str):=rfl;have hat:∀i:Nat,i<zs.length->atI (zs.map PV.str) (i:Int)=some (.str (nm zs i)):=λi hi=>at_nm rfl hi;generalize hZ:zs.map PV.str=Z at *;have Zl:Z.length=zs.length:=by rw[<- hZ,B8]
 rw[hr0];walk_at "pu";refine⟨by omega,λd d0 d1=>⟨by omega,?_⟩⟩;refine V6 (λi env m=>∃s7 s8 s9,∃ps:List (Nat×Nat),env=[some (.v (.pot (q+1))),some (.v (.tup Z)),some (.v (.int r)),some (.v (.int (Z.length:Int))),some (.own (ps.map prP)),some (.own ((ps.flatMap λp=>[p.1,p.2]).map pinN)),some (.own ((ps.map (tch zs)).map evP)),s7,s8,s9,none,none,none]/\(∀p∈ps,p.1<p.2/\p.2<zs.length/\(p.2:Int)-p.1-1<=r)/\ps.Pairwise apt/\ps.length<=i/\m<=n+1+2*i) _ 0 _ _ ⟨none,none,none,[],rfl,(λ_ z=>by cases z),F_,by simp,by omega⟩ (λi x env m N ex hI hN=>?_) (λenv m hI=>?_)
 ·obtain⟨hi,rfl⟩:=CT ex;obtain⟨s7,s8,s9,ps,rfl,hp,ha,hl,hm⟩:=hI;generalize hA:ps.map prP=A;generalize hB:(ps.flatMap λp=>[p.1,p.2]).map pinN=B;generalize hC:(ps.map (tch zs)).map evP=C;walk_at "pu";have Al:A.length=ps.length:=by rw[<- hA,B8]
  have Bl:B.length=2*ps.length:=by rw[<- hB,B8];clear hA hB hC hp ha hl Al;induction ps with|nil=>rfl|cons p ps ih=>rw[List.flatMap_cons,E3,ih,show(p::ps).length=ps.length+1 from rfl];show 2+_=_;omega
  have Cl:C.length=ps.length:=by rw[<- hC,B8,B8]
  refine⟨by omega,λa a0 a1=>⟨by omega,λf f0 f1=>?_⟩⟩;have skip:∀m',m'<=m+2->N [some (.v (.pot (q+1))),some (.v (.tup Z)),some (.v (.int r)),some (.v (.int (Z.length:Int))),some (.own A),some (.own B),some (.own C),some (.v (.int (0+i))),some (.v (.int a)),some (.v (.int (1+f))),none,none,none] m':=λm' hm'=>hN _ _ ⟨some (.v (.int (0+i))),some (.v (.int a)),some (.v (.int (1+f))),ps,by rw[hA,hB,hC],hp,ha,by omega,by omega⟩
  by_cases c1:a+(1+f)<(Z.length:Int)
  ·rw[jr (jp c1)];refine⟨by omega,?_⟩;obtain⟨an,rfl⟩:=Cy a0;obtain⟨fn,rfl⟩:=Cy f0;have e1:(an:Int)+(1+fn)=((an+1+fn:Nat):Int):=by omega
   rw[<- hA];refine EJ prP (λp=>.bl (apB an ((an+1+fn:Nat):Int) p.1 p.2)) _ _ _ _ (λp hp' m' Q hQ=>?_) ?_
   ·unfold prP at hQ ⊢;walk_at "pu";refine Se ?_;rw[e1];exact hQ
   ·rw[Ds];dsimp only;rw[Ir];cases hb:ps.all λp=>apB an ((an+1+fn:Nat):Int) p.1 p.2 with
    |false=>rw[hA];exact skip _ (by omega)
    | true =>
     rw[hA];refine⟨⟨_,rfl⟩,by omega,⟨_,rfl⟩,by omega,⟨_,rfl⟩,?_⟩;rw[e1,hat (an+1+fn) (by omega),hat an (by omega)];refine⟨by omega,hN _ _ ⟨some (.v (.int (0+i))),some (.v (.int (an:Int))),some (.v (.int (1+(fn:Int)))),ps++[(an,an+1+fn)],?_,λp hp'=>?_,?_,by rw[E3,O7];omega,by omega⟩⟩
     ·rw[Q5,List.flatMap_append,Q5,Q5,Q5,hA,hB,hC]
      rfl
     ·rcases J8.mp hp' with hp'|hp'
      ·exact hp p hp'
      ·rw[E2.mp hp'];exact⟨by show an<an+1+fn;omega,by show an+1+fn<_;omega,by show((an+1+fn:Nat):Int)-an-1<=r;omega⟩
     ·rw[List.pairwise_append];refine⟨ha,List.pairwise_singleton _ _,λp hp' p2 hp2=>?_⟩;rw[E2.mp hp2];show apB p.1 p.2 an ((an+1+fn:Nat):Int)=true;rw[Sd];exact E4.mp hb p hp'
  ·rw[jt (by simpa using c1)];exact skip _ (by omega)
 ·obtain⟨s7,s8,s9,ps,rfl,hp,ha,hl,hm⟩:=hI;rw[As] at hl hm;generalize hA:ps.map prP=A;generalize hB:(ps.flatMap λp=>[p.1,p.2]).map pinN=B;have Al:A.length=ps.length:=by rw[<- hA,B8]
  dsimp only;refine V6 (λi env m'=>∃s4 s10 s11 s12,∃ds:List Nat,env=[some (.v (.pot (q+1))),some (.v (.tup Z)),some (.v (.int r)),some (.v (.int (Z.length:Int))),s4,some (.own B),some (.own ((Y5 zs ps ds).map evP)),s7,s8,s9,s10,s11,s12]/\(s4=some (.own A)\/s4=some (.v (.lst A)))/\ds.Nodup/\(∀d∈ds,d<i/\d∉ps.flatMap λp=>[p.1,p.2])/\(∀d,d<i->d∉(ps.flatMap λp=>[p.1,p.2])->(∃p∈ps,p.1<d/\d<p.2)->d∈ds)/\ds.length<=i/\m'<=m+i) _ 0 _ _ ⟨some (.own A),none,none,none,[],by unfold Y5;simp,.inl rfl,List.nodup_nil,(λ_ z=>by cases z),(λ_ z=>by omega),by simp,by omega⟩ (λi x env m' N ex hI hN=>?_) (λenv m' hI=>?_)
  ·obtain⟨y,ey,rfl⟩:=GX ex;rw[<- hZ] at ey;obtain⟨z,ez,rfl⟩:=Dh ey;obtain⟨s4,s10,s11,s12,ds,rfl,h4,nd,hd,hw,dl,hm'⟩:=hI;have hi:=(F7.mp ez).1;have enm:z=nm zs i:=by have:=Dg hi;rw[ez] at this;exact M7 this
   subst enm;generalize hC:(Y5 zs ps ds).map evP=C;have Cl:C.length=ps.length+ds.length:=by rw[<- hC,B8];unfold Y5;rw[E3,B8,B8]
   have drop1:∀m'',m''<=m'+1->i∉(ps.flatMap λp=>[p.1,p.2])->∀b:Bool,N [some (.v (.pot (q+1))),some (.v (.tup Z)),some (.v (.int r)),some (.v (.int (Z.length:Int))),some (.v (.lst A)),some (.own B),some (.own (C++[PV.tup [PV.str (A7 "drop"),PV.str (nm zs i)]])),s7,s8,s9,some (.v (.int (i:Int))),some (.v (.str (nm zs i))),some (.v (.bl b))] m'':=λm'' hm'' hni b=>by
    refine hN _ _ ⟨some (.v (.lst A)),some (.v (.int (i:Int))),some (.v (.str (nm zs i))),some (.v (.bl b)),ds++[i],?_,.inr rfl,?_,λd hd'=>?_,λd h1 h2 h3=>?_,by rw[E3,O7];omega,by omega⟩
    ·have:(Y5 zs ps (ds++[i])).map evP=C++[PV.tup [PV.str (A7 "drop"),PV.str (nm zs i)]]:=by
      rw[<- hC];unfold Y5;rw[Q5,Q5,Q5,Q5,T6];rfl
     rw[this]
    ·rw[List.nodup_append];refine⟨nd,by simp,λa ha b hb e=>?_⟩;rw[E2.mp hb] at e;have:=(hd a ha).1;omega
    ·rcases J8.mp hd' with hd'|hd'
     ·exact⟨by have:=(hd d hd').1;omega,(hd d hd').2⟩
     ·rw[E2.mp hd'];exact⟨by omega,hni⟩
    ·by_cases c:d<0+i
     ·exact AS _ (hw d c h2 h3)
     ·exact O6 _ (E2.mpr (by omega))
   have stay:∀m'',m''<=m'+1->(i∉(ps.flatMap λp=>[p.1,p.2])->¬∃p∈ps,p.1<i/\i<p.2)->∀b:Bool,N [some (.v (.pot (q+1))),some (.v (.tup Z)),some (.v (.int r)),some (.v (.int (Z.length:Int))),some (.v (.lst A)),some (.own B),some (.own C),s7,s8,s9,some (.v (.int (i:Int))),some (.v (.str (nm zs i))),some (.v (.bl b))] m'':=λm'' hm'' hni b=>by
    refine hN _ _ ⟨some (.v (.lst A)),some (.v (.int (i:Int))),some (.v (.str (nm zs i))),some (.v (.bl b)),ds,by rw[hC],.inr rfl,nd,λd hd'=>⟨by have:=(hd d hd').1;omega,(hd d hd').2⟩,λd h1 h2 h3=>?_,by omega,by omega⟩
    by_cases c:d<0+i
    ·exact hw d c h2 h3
    ·have:d=i:=by omega
     subst this;exact absurd h3 (hni h2)
   have key:(ps.any λp=>decide (p.1<i)&&decide (i<p.2))=true↔∃p∈ps,p.1<i/\i<p.2:=by
    rw[U9];simp only[R7,decide_eq_true_eq]
   rcases h4 with rfl|rfl <;> walk_at "pu"
   all_goals
     refine⟨by omega,?_⟩;rw[<- hA];refine JS (λp:Nat×Nat=>PV.int (p.1:Int)) (λp=>PV.int (p.2:Int)) (λp=>PV.bl (decide (p.1<i)&&decide (i<p.2))) ps _ _ _ _ (λp hp' m'' Q hQ=>?_) ?_
     ·walk_at "pu"
      by_cases c1:p.1<i
      ·rw[jr (jp (by omega))];rw[jp c1,Bool.true_and] at hQ;rw[show decide ((i:Int)<(p.2:Int))=decide (i<p.2) by rw[decide_eq_decide];omega];exact hQ
      ·rw[jt (by simp;omega)];rw[jq c1,Be] at hQ;exact hQ
     ·rw[Ds];dsimp only;rw[LL];generalize hb:(ps.any λp=>decide (p.1<i)&&decide (i<p.2))=b at key ⊢;rw[hA,<- hB];refine⟨rfl,cmpN _ _,?_⟩;rw[memN,hB]
      by_cases ci:i∈ps.flatMap λp=>[p.1,p.2]
      ·rw[jp ci];exact stay m' (by omega) (λz=>absurd ci z) b
      ·rw[jq ci];refine if_t rfl ?_;cases b with
       |true=>exact if_t rfl ⟨⟨_,rfl⟩,by omega,drop1 m' (by omega) ci true⟩
       | false =>
        refine if_f rfl ⟨by omega,λe e0 e1=>?_⟩
        by_cases ce:e=0
        ·exact if_t (jp ce) ⟨⟨_,rfl⟩,by omega,drop1 (m'+1) (by omega) ci false⟩
        ·exact if_f (jq ce) (stay (m'+1) (by omega) (λ_ z=>by cases key.mpr z) false)
  ·obtain⟨s4,s10,s11,s12,ds,rfl,h4,nd,hd,hw,dl,hm'⟩:=hI;rw[Ey,T8,Zl] at hd hw dl hm';dsimp only;have Cl:((Y5 zs ps ds).map evP).length=ps.length+ds.length:=by rw[B8];unfold Y5;rw[E3,B8,B8]
   refine⟨by rw[Cl];omega,Qp _,λys hys=>?_⟩;obtain⟨es,rfl,pe⟩:=Qq hys;exact h ps ds es _ ⟨hp,ha,nd,hd,hw⟩ pe hys.2 (by omega) (by omega) (by omega)
def Dv:pS:=(qSeq (qIfS (qAnd (qB (qOp (wEq 4) (qV 4) (qC (.int 1)))) (qB (qOp (wEq 4) (qOp wIx (qV 10) (qC (.int 0))) (qC (.str (A7 "touch")))))) (Q3 (Y1 11 (qTup (A2 (qC (.str (A7 "touch"))) (A2 (qOp wIx (qV 10) (qC (.int 2))) (A2 (qOp wIx (qV 10) (qC (.int 1))) qNil)))))) qNx)
   (qSeq (qIfS (qB (qOp (wEq 4) (qV 4) (qC (.int 2)))) (Q3 (BK 11 (qV 9))) qNx)
   (qSeq (qIfS (qAnd (qB (qOp (wEq 4) (qV 4) (qC (.int 3)))) (qB (qOp (wIn 4 true) (qV 7) (qV 10)))) (Q3 (Y1 11 (qOp wAdd (qSl (qV 10) qNo (K2 (qOp wSub (qUn wLen (qV 10)) (qC (.int 1))))) (qTup (A2 (qV 7) qNil))))) qNx)
   (qRet (qUn b9 (qL (BT (qO 11))))))))
def Dw:pS:=(qSeq (qIfS (qOr (qB (qOp wGt (qV 4) (qC (.int 3)))) (qB (qOp (wEq 4) (qV 5) (qUn wLen (qV 2))))) (qRet (qUn b9 (qL (BT (qL (qCat (qL (V2 (qV 2))) (qV 9))))))) qNx)
   (qSeq (qPar 10 11 (sV (qOp wIx (qV 2) (qV 5))) (sO (V2 (qOp wAdd (qSl (qV 2) qNo (K2 (qV 5))) (qSl (qV 2) (K2 (qOp wAdd (qV 5) (qC (.int 1)))) qNo))))) Dv))
theorem Sg (es:List Ev):BS (es.map evP):=by
 refine⟨λx hx=>?_,λx hx y hy=>?_⟩
 ·obtain⟨e,_,rfl⟩:=G0.mp hx;exact⟨evK e,rfl,ev_ne e⟩
 ·obtain⟨e,_,rfl⟩:=G0.mp hx;obtain⟨f,_,rfl⟩:=G0.mp hy;show Al (keyP (.tup ((evK e).map kP))) (keyP (.tup ((evK f).map kP)));rw[d4,d4];exact ev_al e f
theorem Iv {R:List PV->Prop}{xs:List Ev}(hl:xs.length<=63)(h:∀es':List Ev,(∀e∈es',e∈xs)->SrE es'->es'.length<=xs.length->R (es'.map evP)):(xs.map evP).length<=63/\BS (xs.map evP)/\∀ys,SrtS ys (xs.map evP)->R ys:=by
 refine⟨by rw[B8];exact hl,Sg xs,λys hys=>?_⟩;obtain⟨es',rfl,he⟩:=HL xs ys λy hy=>(hys.2.1 y).mp hy;refine h es' he hys.2.2 ?_;have:=hys.1.length_le_of_subset λy hy=>(hys.2.1 y).mp hy
 grind
def Gd (Bo:Str->Prop):Ev->Prop
 |.d x=>Bo x
 |.t x y=>x≠y/\Bo x/\Bo y
theorem Gd.good {Bo:Str->Prop}(h:∀z,Bo z->F6 z){e:Ev}(g:Gd Bo e):Good e:=by
 cases e with
 |d x=>exact h x g
 |t x y=>exact⟨g.1,h x g.2.1,h y g.2.2⟩
theorem Sh {Bo:Str->Prop}{q n:Nat}{a1 a2 a3 a5 a6 a8:Option Pu.Slot}{way:Int}{one:Str}{e1 e:Ev}{rs:List Ev}{R:PV->Nat->Prop}{NX:Pu.Env->Nat->Prop}(hr:rs.length<=60)(ho:Bo one)(g1:Gd Bo e1)(ge:Gd Bo e)(hg:∀e∈rs,Gd Bo e)(h:∀es':List Ev,(∀e∈es',Gd Bo e)->SrE es'->es'.length<=rs.length+1->R (shP es') n) :
   Dv { nx:=NX,rt:=R } [some (.v (.pot (q+1))),a1,a2,a3,some (.v (.int way)),a5,a6,some (.v (.str one)),a8,some (.v (.lst [evP e1])),some (.v (evP e)),some (.own (rs.map evP))] n:=by
 have fin0:(rs.map evP).length<=63/\BS (rs.map evP)/\∀ys,SrtS ys (rs.map evP)->R (.tup ys) n:=Iv (R:=λys=>R (.tup ys) n) (by omega) λes' h1 hs h2=>h es' (λe he=>hg e (h1 e he)) hs (by omega)
 have fin1:∀x:Ev,Gd Bo x->(rs.map evP++[evP x]).length<=63/\BS (rs.map evP++[evP x])/\∀ys,SrtS ys (rs.map evP++[evP x])->R (.tup ys) n:=λx gx=>by
  have:=Iv (R:=λys=>R (.tup ys) n) (xs:=rs++[x]) (by rw[E3,O7];omega) λes' h1 hs h2=>h es' (λe he=>?_) hs (by rw[E3,O7] at h2;omega)
  ·rw[Q5] at this;exact this
  ·rcases J8.mp (h1 e he) with z|z
   ·exact hg e z
   ·rw[E2.mp z];exact gx
 have Sl:(rs.map evP).length=rs.length:=B8 ..
 have ways:(decide (way=1)=true/\decide (way=2)=false/\decide (way=3)=false)\/(decide (way=1)=false/\decide (way=2)=true/\decide (way=3)=false)\/(decide (way=1)=false/\decide (way=2)=false/\decide (way=3)=true)\/(decide (way=1)=false/\decide (way=2)=false/\decide (way=3)=false):=by
  by_cases c1:way=1
  ·subst c1;exact .inl ⟨rfl,rfl,rfl⟩
  ·by_cases c2:way=2
   ·subst c2;exact .inr (.inl ⟨rfl,rfl,rfl⟩)
   ·by_cases c3:way=3
    ·subst c3;exact .inr (.inr (.inl ⟨rfl,rfl,rfl⟩))
    ·exact .inr (.inr (.inr ⟨jq c1,jq c2,jq c3⟩))
 unfold Dv;have f1:=fin1 e1 g1;generalize hP:evP e1=P at *;cases e with
 | d x =>
  have f3:=fin1 (.d one) ho;rw[d7] at f3 ⊢;generalize hS:rs.map evP=S at *;walk_at "pu";rcases ways with⟨b1,b2,b3⟩|⟨b1,b2,b3⟩|⟨b1,b2,b3⟩|⟨b1,b2,b3⟩ <;> simp only[b1,b2,b3,Kt,reduceIte,J3]
  ·exact fin0
  ·exact⟨⟨_,rfl⟩,by omega,f1⟩
  ·refine EZ (zs:=[DROP,x]) rfl ?_;dsimp only
   by_cases c:one∈[DROP,x]
   ·rw[jp c];exact fin0
   ·rw[jq c];rw[show cutP [PV.str DROP,PV.str x] none (some (((2:Nat):Int)-1))=[PV.str DROP] from rfl];exact⟨⟨_,rfl⟩,by simp,by omega,f3⟩
  ·exact fin0
 | t x y =>
  have f2:=fin1 (.t y x) ⟨λz=>ge.1 z.symm,ge.2.2,ge.2.1⟩;have f3:=λ(z:x≠one)=>fin1 (.t x one) ⟨z,ge.2.1,ho⟩;rw[J1] at f2 f3 ⊢;generalize hS:rs.map evP=S at *;walk_at "pu";rcases ways with⟨b1,b2,b3⟩|⟨b1,b2,b3⟩|⟨b1,b2,b3⟩|⟨b1,b2,b3⟩ <;> simp only[b1,b2,b3,Qs,reduceIte,J3]
  ·exact⟨⟨_,rfl⟩,by omega,f2⟩
  ·exact⟨⟨_,rfl⟩,by omega,f1⟩
  ·refine EZ (zs:=[L0,x,y]) rfl ?_;dsimp only
   by_cases c:one∈[L0,x,y]
   ·rw[jp c];exact fin0
   ·rw[jq c];rw[show cutP [PV.str L0,PV.str x,PV.str y] none (some (((3:Nat):Int)-1))=[PV.str L0,PV.str x] from rfl];exact⟨⟨_,rfl⟩,by simp,by omega,f3 λz=>c (by rw[z];simp)⟩
  ·exact fin0
theorem Si {Bo:Str->Prop}{q n:Nat}{a1 a3 a6 a8:Option Pu.Slot}{way:Int}{pl:Nat}{one:Str}{e1:Ev}{es:List Ev}{R:PV->Nat->Prop}{NX:Pu.Env->Nat->Prop}(hl:es.length<=60)(hp:pl<=es.length)(ho:Bo one)(g1:Gd Bo e1)(hg:∀e∈es,Gd Bo e)(h:∀es':List Ev,(∀e∈es',Gd Bo e)->SrE es'->es'.length<=es.length+1->R (shP es') n) :
   Dw { nx:=NX,rt:=R } [some (.v (.pot (q+1))),a1,some (.v (.tup (es.map evP))),a3,some (.v (.int way)),some (.v (.int (pl:Int))),a6,some (.v (.str one)),a8,some (.v (.lst [evP e1])),none,none] n:=by
 have f1:(es.map evP++[evP e1]).length<=63/\BS (es.map evP++[evP e1])/\∀ys,SrtS ys (es.map evP++[evP e1])->R (.tup ys) n:=by
  have:=Iv (R:=λys=>R (.tup ys) n) (xs:=es++[e1]) (by rw[E3,O7];omega) λes' h1 hs h2=>h es' (λe he=>?_) hs (by rw[E3,O7] at h2;omega)
  ·rw[Q5] at this;exact this
  ·rcases J8.mp (h1 e he) with z|z
   ·exact hg e z
   ·rw[E2.mp z];exact g1
 have fu:∀(hlt:pl<es.length),Dv { nx:=NX,rt:=R } [some (.v (.pot (q+1))),a1,some (.v (.tup (es.map evP))),a3,some (.v (.int way)),some (.v (.int (pl:Int))),a6,some (.v (.str one)),a8,some (.v (.lst [evP e1])),some (.v (evP es[pl])),some (.own ((es.take pl++es.drop (pl+1)).map evP))] n:=λhlt=>by
  have ll:(es.take pl++es.drop (pl+1)).length=es.length-1:=by rw[E3,P4,W7];omega
  refine Sh (by omega) ho g1 (hg _ (y7 hlt)) (λe he=>?_) λes' h1 hs h2=>h es' h1 hs (by omega);rcases J8.mp he with z|z
  ·exact hg e (l5 z)
  ·exact hg e (AT z)
 unfold Dw;generalize Dv=U at *;have ai:∀hlt:pl<es.length,atI (es.map evP) (pl:Int)=some (evP es[pl]):=λhlt=>CG (by rw[G6,D3 hlt];rfl);have c1:=HN (es.map evP) pl;have c2:=Fb (es.map evP) (pl+1);have cm:(es.take pl++es.drop (pl+1)).map evP=(es.map evP).take pl++(es.map evP).drop (pl+1):=by rw[Q5,List.map_take,List.map_drop]
 generalize hP:evP e1=P at *;have El:(es.map evP).length=es.length:=B8 ..;generalize hE:es.map evP=E at *;walk_at "pu";have r1:E.length<=999999:=by omega
 by_cases d1:3<way
 ·exact if_t (jp d1) ⟨r1,f1⟩
 ·refine if_f (jq d1) ?_
  by_cases d2:(pl:Int)=(E.length:Int)
  ·exact if_t (jp d2) ⟨r1,f1⟩
  ·refine if_f (jq d2) ?_;have hlt:pl<es.length:=by omega
   have e2:cutP E (some ((pl:Int)+1)) none=E.drop (pl+1):=by rw[<- c2];rfl
   rw[ai hlt,c1,e2];have:=fu hlt;rw[cm] at this;exact⟨by rw[P4,W7];omega,this⟩
theorem Sj:Lc=(qSeq (qPar 4 5 (sV (B5 b__law_draw (A2 (qV 0) (A2 (qC (.int 6)) qNil)))) (sV (B5 b__law_draw (A2 (qV 0) (A2 (qOp wAdd (qUn wLen (qV 2)) (qC (.int 1))) qNil)))))
   (qSeq (qSet 6 (qL (qCat (qL (V2 (qV 1))) (qL (V2 (qV 3))))))
   (qSeq (qPar 7 8 (sV (qOp wIx (qV 6) (B5 b__law_draw (A2 (qV 0) (A2 (qUn wLen (qV 6)) qNil))))) (sV (qOp wIx (qV 6) (B5 b__law_draw (A2 (qV 0) (A2 (qUn wLen (qV 6)) qNil))))))
   (qSeq (qSet 9 (qIf (qOr (qB (qOp (wEq 4) (qV 7) (qV 8))) (qB (qOp (wEq 4) (B5 b__law_draw (A2 (qV 0) (A2 (qC (.int 3)) qNil))) (qC (.int 0))))) (qL (qLst (A2 (qTup (A2 (qC (.str (A7 "drop"))) (A2 (qV 7) qNil))) qNil))) (qL (qLst (A2 (qTup (A2 (qC (.str (A7 "touch"))) (A2 (qV 7) (A2 (qV 8) qNil)))) qNil))))) Dw)))):=rfl
theorem m_bent {Bo:Str->Prop}{q n:Nat}{st sp:List Str}{es:List Ev}{R:PV->Nat->Prop}(h1:1<=(st++sp).length)(h2:(st++sp).length<=100)(hb:∀z∈st++sp,Bo z)(he:es.length<=60)(hg:∀e∈es,Gd Bo e)(hn:n<=999990000)(h:∀(es':List Ev) n',(∀e∈es',Gd Bo e)->SrE es'->es'.length<=es.length+1->n'<=n+10->R (shP es') n'):Dk [.pot (q+1),rowP st,shP es,rowP sp] n R:=by
 refine⟨rfl,?_⟩;rw[Sj];have hs0:shP es=.tup (es.map evP):=rfl;have hr0:rowP st=.tup (st.map PV.str):=rfl;have hr1:rowP sp=.tup (sp.map PV.str):=rfl
 have fin:∀(way:Int) (at_:Int) (one:Str) (e1:Ev) (n':Nat) (a1 a3 a6 a8:Option Pu.Slot),0<=at_->at_<(es.map evP).length+1->Bo one->Gd Bo e1->n'<=n+10->Dw { nx:=λ_ m=>R PV.non m,rt:=R } [some (.v (.pot (q+1))),a1,some (.v (.tup (es.map evP))),a3,some (.v (.int way)),some (.v (.int at_)),a6,some (.v (.str one)),a8,some (.v (.lst [evP e1])),none,none] n':=λway at_ one e1 n' a1 a3 a6 a8 p0 p1 ho g1 hn'=>by
  obtain⟨pl,rfl⟩:=Cy p0;rw[B8] at p1;exact Si he (by omega) ho g1 hg λes' g hs l=>h es' n' g hs l hn'
 generalize hE:es.map evP=E at *;have El:E.length=es.length:=by rw[<- hE,B8]
 have hat:∀d:Int,0<=d->d<(st.map PV.str++sp.map PV.str).length->∃z:Str,atI (st.map PV.str++sp.map PV.str) d=some (.str z)/\Bo z:=λd d0 d1=>by
  obtain⟨x,hx,ex⟩:=j8 d0 d1;rw[<- Q5] at hx;obtain⟨z,hz,rfl⟩:=G0.mp hx;exact⟨z,ex,hb z hz⟩
 generalize hA:st.map PV.str=A at *;generalize hB:sp.map PV.str=B at *;have ABl:A.length+B.length=(st++sp).length:=by rw[<- hA,<- hB,B8,B8,E3]
 have ABl2:(A++B).length=(st++sp).length:=by rw[E3,ABl]
 rw[hs0,hr0,hr1];generalize hT:Dw=T at *;walk_at "pu";refine⟨by omega,λway w0 w1=>⟨by omega,λpl p0 p1=>⟨by omega,by omega,λa a0 a1=>?_⟩⟩⟩;obtain⟨x,ex,bx⟩:=hat a a0 a1;rw[ex];refine⟨by omega,λb b0 b1=>?_⟩;obtain⟨y,ey,by_⟩:=hat b b0 b1;rw[ey];refine gd2 rfl rfl ?_;rw[U4]
 by_cases c:x=y
 ·exact if_t (jp c) (fin way pl x (.d x) _ _ _ _ _ p0 p1 bx bx (by omega))
 ·refine if_f (jq c) ⟨by omega,λd d0 d1=>?_⟩
  by_cases c2:d=0
  ·exact if_t (jp c2) (fin way pl x (.d x) _ _ _ _ _ p0 p1 bx bx (by omega))
  ·exact if_f (jq c2) (fin way pl x (.t x y) _ _ _ _ _ p0 p1 bx ⟨c,bx,by_⟩ (by omega))
theorem LV (h1:cmpb d X=true)(h2:ys.all (cmpb d)=true)(h:R (.bl (if neg then !memP X ys else memP X ys))):wIn d neg X (.tup ys) R:=by grind [PV,cmpb,memP,wIn]
theorem ltr_le:∀k:Nat,k<26->(!decide ((⟨#[97+k]⟩:Str).cps.toList<(A7 "a").cps.toList))=true/\(!decide ((A7 "z").cps.toList<(⟨#[97+k]⟩:Str).cps.toList))=true:=by decide +kernel
theorem m_isb {z:Str}{n:Nat}{R:PV->Nat->Prop}(hz:F6 z)(h:R (.bl true) n):Y4 [.str z] n R:=by
 refine⟨rfl,?_⟩;unfold Ii;obtain⟨h1,h2,h3⟩:=hz;have lx:z.length=z.cps.toList.length:=t3 z;have d1:decide ((1:Int)<=(z.length:Int))=true:=jp (by omega);have d2:decide ((z.length:Int)<=8)=true:=jp (by omega);have hlen:z.length<=1000000:=by omega
 walk_at "pu";simp only[hlen,d1,d2,true_and,reduceIte,Ab,J3];refine⟨?_,by rw[B8];omega,?_⟩
 ·rw[<- Array.all_toList];exact E4.mpr λc hc=>jp (A_ (h3 c hc).2 (by decide))
 ·refine JB (λ_=>.bl true) _ _ _ _ (λy hy m Q hQ=>?_) ?_
  ·obtain⟨c,hc,rfl⟩:=G0.mp hy;have hc:=h3 c hc;unfold Ltr at hc;have:=ltr_le (c-97) (by omega);rw[show 97+(c-97)=c by omega] at this;obtain⟨l1,l2⟩:=this;walk_at "pu";simp only[l1,l2];exact hQ
  ·have e:=Ds (z.cps.toList.map λc=>PV.str ⟨#[c]⟩) λ_=>true;rw[e];dsimp only;rw[Ir,E4.mpr λ_ _=>rfl];exact h
theorem nin_ev {x y:Str}{es:List Ev}{E:List PV}(hE:es.map evP=E){R:PV->Prop}(q1:Ev.t x y∈es->R (.bl false))(q2:Ev.t x y∉es->R (.bl true)):wIn 4 true (.tup [.str L0,.str x,.str y]) (.tup E) R:=by
 subst hE;refine⟨rfl,RU es 3,?_⟩
 have me:memP (.tup [.str L0,.str x,.str y]) (es.map evP)=true↔Ev.t x y∈es:=by
  unfold memP;rw[AV,U9];exact⟨λ⟨a,ha,q⟩=>by rw[<- ev_eqP (b:=.t x y) q];exact ha,λh=>⟨_,h,LM (.t x y)⟩⟩
 cases h:memP (.tup [.str L0,.str x,.str y]) (es.map evP) with
 |true=>exact q1 (me.mp h)
 |false=>exact q2 λz=>by rw[me.mpr z] at h;cases h
theorem LW (es:List Ev)(b:Str):(es.filter λe=>memP (.str b) ((evB e).map PV.str))=es.filter λe=>decide (b∈evB e):=by
 congr 1
 funext e
 exact BR
def rsB:Rs->List Str
 |.strange b=>[b]
 |.twice b=>[b]
 |.wrong x y=>[x,y]
 |.far x y=>[x,y]
 |.stays x y z=>[x,y,z]
 |.cross x y x' y'=>[x,y,x',y']
theorem Sk {w:Rs}{W b:Str}{r:Int}{st:List Str}{es:List Ev}{n:Nat}{R:PV->Nat->Prop}(hw:(W=A7 "strange"/\w=.strange b)\/(W=A7 "twice"/\w=.twice b))(hb:F6 b)(hg:∀e∈es,Good e)(hl:es.length<=1000)(q:∀c:Bool,(c=true↔isRs r st es w)->R (.bl c) n):Fq [rowP st,shP es,.str W,.str b] n R:=by
 refine⟨rfl,?_⟩;unfold Ij;have hr0:rowP st=.tup (st.map PV.str):=rfl;generalize hS:shP es=S;generalize hZ:st.map PV.str=Z at *;rw[hr0];walk_at "pu";refine m_isb hb (if_f rfl ?_);rw[<- hS];refine Du hl ?_;have tx:=EF (es.flatMap evB);rcases hw with⟨rfl,rfl⟩|⟨rfl,rfl⟩
 ·refine if_t (jp rfl) (HJ rfl ?_)
  by_cases c:b∈es.flatMap evB
  ·exact if_t (jp c) (EZ hZ (q _ (by rw[Cu,decide_eq_false_iff_not];exact⟨λh=>⟨c,h⟩,λh=>h.2⟩)))
  ·exact if_f (jq c) (q false ⟨nofun,λh=>absurd h.1 c⟩)
 ·refine if_f wsb ⟨⟨_,rfl⟩,?_⟩;dsimp only;rw[tx];refine q _ ?_;have e:=Iu b hg;unfold cntS at e;rw[e,decide_eq_true_eq];show _↔2<=_;omega
def okB:PV->Bool
 |.str z=>(z.cps.all λc=>decide (c<128))&&decide (z.length<=1000)
 |x=>okA x
def okT:Nat->PV->Bool
 |d+1,.tup xs=>xs.all (okT d)
 |_,x=>okB x
theorem okB_a {x:PV}(h:okB x=true):okA x=true:=by cases x <;> first|rfl|exact h
theorem AE:∀{d:Nat} {x:PV},okT d x=true->okA x=true
 |0,x,h=>okB_a h
 |d+1,x,h=>by cases x <;> first|rfl|exact okB_a h
theorem FA:∀{d:Nat} {x:PV},okT d x=true->okB x=true
 |0,x,h=>h
 |d+1,x,h=>by cases x <;> first|rfl|exact h
theorem FB {i:Str}{y:PV}(h:eqP (.str i) y=true):y=.str i:=by
 cases y with
 |str j=>rw[U4] at h;rw[ju h]
 |_=>cases h
theorem cp_ev {e:Ev}{xs:List PV}(h:∀x∈xs,okA x=true):cpA 2 (evP e) (.tup xs)=true:=by
 have go:∀(zs:List Str) (ys:List PV),(∀x∈ys,okA x=true)->(((zs.map PV.str).zip ys).all λp=>cpA 1 p.1 p.2)=true:=λzs ys hy=>E4.mpr λp hp=>by
  obtain⟨a,b⟩:=p;obtain⟨m1,m2⟩:=DN hp;obtain⟨z,_,rfl⟩:=G0.mp m1;exact hy b m2
 cases e with
 |d x=>exact go [DROP,x] xs h
 |t x y=>exact go [L0,x,y] xs h
theorem Sm {es:List Ev}{a b c:PV}:memP (.tup [a,b,c]) (es.map evP)=true↔∃x y,Ev.t x y∈es/\PV.tup [a,b,c]=evP (.t x y):=by
 unfold memP;rw[AV,U9];constructor
 ·rintro⟨e,he,q⟩;cases e with
  | d x =>
   have q:(eqP (.str DROP) a&&(eqP (.str x) b&&false))=true:=q;simp at q
  | t x y =>
   have q:(eqP (.str L0) a&&(eqP (.str x) b&&(eqP (.str y) c&&true)))=true:=q;simp only[R7] at q;rw[FB q.1,FB q.2.1,FB q.2.2.1];exact⟨x,y,he,rfl⟩
 ·rintro⟨x,y,he,q⟩;refine⟨_,he,?_⟩;show eqP (evP (.t x y)) (.tup [a,b,c])=true;rw[q];exact LM _
theorem Sn {st:List Str}{es:List Ev}{T:PV}{n:Nat}{R:PV->Nat->Prop}(hT:okT 1 T=true)(h:∀c:Bool,(c=true↔∃x y,T=evP (.t x y)/\Tin st es x y)->R (.bl c) n):Dp [rowP st,shP es,T] n R:=by
 refine⟨rfl,?_⟩;unfold LD;have hr0:rowP st=.tup (st.map PV.str):=rfl;have hs0:shP es=.tup (es.map evP):=rfl;have me:=λa b c=>@Sm es a b c
 have ce:∀xs:List PV,(∀x∈xs,okA x=true)->((es.map evP).all λz=>cpA 2 z (.tup xs))=true:=λxs hx=>E4.mpr λz hz=>by
  obtain⟨e,_,rfl⟩:=G0.mp hz;exact cp_ev hx
 generalize hE:es.map evP=E at *;generalize hZ:st.map PV.str=Z at *;rw[hr0,hs0];have no:(∀xs,T≠.tup xs)->R (.bl false) n:=λz=>h false ⟨nofun,λ⟨x,y,e,_⟩=>absurd e (z _)⟩;cases T with
 | tup xs =>
  have hx:∀x∈xs,okA x=true:=λx hx=>AE (E4.mp hT x hx);have no3:xs.length≠3->R (.bl false) n:=λz=>h false ⟨nofun,λ⟨x,y,e,_⟩=>absurd (by rw[J1] at e;cases e;rfl) z⟩;walk_at "pu"
  by_cases c3:xs.length=3
  ·refine if_f (by rw[jp (by omega)];rfl) ⟨ce xs hx,?_⟩
   match xs,c3 with
   | [a, b, c], _ =>
    cases hm:memP (.tup [a,b,c]) E with
    |false=>exact if_t rfl (h false ⟨nofun,λ⟨x,y,e,t⟩=>by rw[(me a b c).mpr ⟨x,y,t.1,e⟩] at hm;cases hm⟩)
    | true =>
     obtain⟨x,y,he,e⟩:=(me a b c).mp hm;rw[J1] at e;cases e;refine if_f rfl ?_;have iff1:∀x' y':Str,PV.tup [.str L0,.str x,.str y]=evP (.t x' y')->x'=x/\y'=y:=λx' y' e=>by rw[J1] at e;cases e;exact⟨rfl,rfl⟩
     refine j9 hZ ?_
     by_cases cx:x∈st
     ·refine if_t (jp cx) (j9 hZ (h _ ?_));rw[decide_eq_true_iff];exact⟨λhy=>⟨x,y,rfl,he,cx,hy⟩,λ⟨x',y',e,t⟩=>by obtain⟨rfl,rfl⟩:=iff1 x' y' e;exact t.2.2⟩
     ·exact if_f (jq cx) (h false ⟨nofun,λ⟨x',y',e,t⟩=>by obtain⟨rfl,rfl⟩:=iff1 x' y' e;exact absurd t.2.1 cx⟩)
  ·exact if_t (by rw[jq (by omega)];rfl) (no3 c3)
 |_=>first|(cases hT;done)|(walk_at "pu";exact no nofun)
theorem So:∀c:Nat,c<128->(!decide ((⟨#[c]⟩:Str).cps.toList<(A7 "a").cps.toList))=decide (97<=c)/\(!decide ((A7 "z").cps.toList<(⟨#[c]⟩:Str).cps.toList))=decide (c<=122):=by decide +kernel
theorem FC {T:PV}{n:Nat}{R:PV->Nat->Prop}(hT:okB T=true)(h:∀c:Bool,(c=true↔∃z,T=.str z/\F6 z)->R (.bl c) n):Y4 [T] n R:=by
 refine⟨rfl,?_⟩;unfold Ii;have no:(∀z,T≠.str z)->R (.bl false) n:=λz=>h false ⟨nofun,λ⟨x,e,_⟩=>absurd e (z _)⟩;cases T with
 | str z =>
  have hT:((z.cps.all λc=>decide (c<128))&&decide (z.length<=1000))=true:=hT;rw[R7,decide_eq_true_iff] at hT;have lx:z.length=z.cps.toList.length:=t3 z
  have asc:∀c∈z.cps.toList,c<128:=λc hc=>by
   have:=hT.1;rw[<- Array.all_toList] at this;exact ju (E4.mp this c hc)
  have bs:(F6 z)↔1<=z.cps.toList.length/\z.cps.toList.length<=8/\∀c∈z.cps.toList,Ltr c:=Iff.rfl
  have ex:∀P:Prop,((∃z1,PV.str z=PV.str z1/\F6 z1)↔P)↔(F6 z↔P):=λP=>by
   have:(∃z1,PV.str z=PV.str z1/\F6 z1)↔F6 z:=⟨λ⟨z1,e,b⟩=>by cases e;exact b,λb=>⟨z,rfl,b⟩⟩;rw[this]
  have h:∀c:Bool,(c=true↔F6 z)->R (.bl c) n:=λc hc=>h c ((((ex (c=true)).mpr hc.symm)).symm);walk_at "pu";refine⟨by omega,?_⟩
  by_cases c1:(1:Int)<=z.length
  ·refine if_t (jp c1) ?_
   by_cases c2:(z.length:Int)<=8
   ·refine if_f (by rw[jp c2];rfl) ⟨hT.1,by rw[B8];omega,?_⟩;refine EJ (λc=>PV.str ⟨#[c]⟩) (λc=>PV.bl (decide (97<=c)&&decide (c<=122))) z.cps.toList _ _ _ (λc hc m Q hQ=>?_) ?_
    ·have:=So c (asc c hc);walk_at "pu";rw[this.1,this.2];cases h1:decide (97<=c) with
     |true=>rw[h1] at hQ;exact hQ
     |false=>rw[h1] at hQ;exact hQ
    ·rw[Ds];dsimp only;rw[Ir];refine h _ ?_;rw[E4,bs];constructor
     ·intro q;refine⟨by omega,by omega,λc hc=>?_⟩;have:=q c hc;rw[R7,decide_eq_true_iff,decide_eq_true_iff] at this;exact this
     ·rintro⟨_,_,q⟩ c hc;have:=q c hc;rw[R7,decide_eq_true_iff,decide_eq_true_iff];exact this
   ·exact if_t (by rw[jq c2];rfl) (h false ⟨nofun,λb=>by have:=b.2.1;omega⟩)
  ·exact if_f (jq c1) (h false ⟨nofun,λb=>by have:=b.1;omega⟩)
 |_=>first|(cases hT;done)|(walk_at "pu";exact no nofun)
theorem J4 (h:∀U:pS,U=q->p { D with nx:=λe m=>U D e m } env n):qSeq p q D env n:=h q rfl
theorem m_istA {T:PV}{n:Nat}{R:PV->Nat->Prop}(hT:okT 1 T=true)(h:∀c:Bool,(c=true↔∃x y,T=evP (.t x y)/\Good (.t x y))->R (.bl c) n):Fs [T] n R:=by
 refine⟨rfl,?_⟩;unfold Lr;have no:(∀xs,T≠.tup xs)->R (.bl false) n:=λz=>h false ⟨nofun,λ⟨x,y,e,_⟩=>absurd e (z _)⟩;cases T with
 | tup xs =>
  have hx:∀x∈xs,okB x=true:=λx hx=>FA (E4.mp hT x hx);have no3:xs.length≠3->R (.bl false) n:=λz=>h false ⟨nofun,λ⟨x,y,e,_⟩=>absurd (by rw[J1] at e;cases e;rfl) z⟩;refine J4 λU hU=>?_;walk_at "pu"
  by_cases c3:xs.length=3
  ·refine if_f (by rw[jp (by omega)];rfl) ?_
   match xs,c3 with
   | [a, b, c], _ =>
    have ha:=hx a (by simp);have hb:=hx b (by simp);have hc:=hx c (by simp);have mb:∀{R:PV->Nat->Prop},(∀c:Bool,(c=true↔∃z,b=.str z/\F6 z)->R (.bl c) n)->Y4 [b] n R:=λq=>FC hb q;have mc:∀{R:PV->Nat->Prop},(∀d:Bool,(d=true↔∃z,c=.str z/\F6 z)->R (.bl d) n)->Y4 [c] n R:=λq=>FC hc q;subst hU;walk_at "pu";have fl:(∀x y,PV.tup [a,b,c]=evP (.t x y)->Good (.t x y)->False)->R (.bl false) n:=λz=>h false ⟨nofun,λ⟨x,y,e,g⟩=>(z x y e g).elim⟩;cases a with
    | str w =>
     refine if_f rfl (GM rfl ?_);rw[U4]
     by_cases cw:w=A7 "touch"
     ·refine if_f (by rw[jp cw];rfl) (mb λk1 h1=>?_);subst cw;cases k1 with
      |false=>exact if_f rfl (fl λx y e g=>by rw[J1] at e;cases e;cases h1.mpr ⟨x,rfl,g.2.1⟩)
      | true =>
       obtain⟨x,rfl,bx⟩:=h1.mp rfl;refine if_t rfl (mc λk2 h2=>?_);cases k2 with
       |false=>exact if_f rfl (fl λx y e g=>by rw[J1] at e;cases e;cases h2.mpr ⟨y,rfl,g.2.2⟩)
       | true =>
        obtain⟨y,rfl,by_⟩:=h2.mp rfl;refine if_t rfl (gd2 rfl rfl (h _ ?_));rw[U4,Cu,decide_eq_false_iff_not];exact⟨λne=>⟨x,y,rfl,ne,bx,by_⟩,λ⟨x',y',e,g⟩=>by rw[J1] at e;cases e;exact g.1⟩
     ·exact if_t (by rw[jq cw];rfl) (fl λx y e _=>by rw[J1] at e;cases e;exact cw rfl)
    |_=>first|(cases ha;done)|exact if_t rfl (fl λx y e _=>by rw[J1] at e;cases e)
  ·exact if_t (by rw[jq (by omega)];rfl) (no3 c3)
 |_=>first|(cases hT;done)|(walk_at "pu";exact no nofun)
theorem FD {st:List Str}{es:List Ev}{T:PV}{n:Nat}{R:PV->Nat->Prop}(hg:∀e∈es,Good e)(hT:okT 1 T=true)(h:∀c:Bool,(c=true↔∃x y,T=evP (.t x y)/\Tin st es x y)->R (.bl c) n):d8 [rowP st,shP es,T] n R:=by
 refine⟨rfl,?_⟩;unfold Ls;have mt:∀{R:PV->Nat->Prop},(∀c:Bool,(c=true↔∃x y,T=evP (.t x y)/\Good (.t x y))->R (.bl c) n)->Fs [T] n R:=λq=>m_istA hT q;have hr0:rowP st=.tup (st.map PV.str):=rfl;have hs0:shP es=.tup (es.map evP):=rfl;generalize hE:es.map evP=E at *;generalize hZ:st.map PV.str=Z at *;rw[hr0,hs0];walk_at "pu";refine mt λk hk=>?_;cases k with
 |false=>exact if_t rfl (h false ⟨nofun,λ⟨x,y,e,t⟩=>by cases hk.mpr ⟨x,y,e,hg _ t.1⟩⟩)
 | true =>
  obtain⟨x,y,rfl,_⟩:=hk.mp rfl;have iff1:∀x' y':Str,evP (.t x y)=evP (.t x' y')->x'=x/\y'=y:=λx' y' e=>by rw[J1,J1] at e;cases e;exact⟨rfl,rfl⟩
  rw[J1];refine if_f rfl (nin_ev hE (λc=>if_f rfl ?_) λc=>if_t rfl (h false ⟨nofun,λ⟨x',y',e,t⟩=>by obtain⟨rfl,rfl⟩:=iff1 x' y' e;exact absurd t.1 c⟩));refine j9 hZ ?_
  by_cases cx:x∈st
  ·refine if_t (jp cx) (j9 hZ (h _ ?_));rw[decide_eq_true_iff];exact⟨λhy=>⟨x,y,rfl,c,cx,hy⟩,λ⟨x',y',e,t⟩=>by obtain⟨rfl,rfl⟩:=iff1 x' y' e;exact t.2.2⟩
  ·exact if_f (jq cx) (h false ⟨nofun,λ⟨x',y',e,t⟩=>by obtain⟨rfl,rfl⟩:=iff1 x' y' e;exact absurd t.2.1 cx⟩)
theorem Sq {mk:Str->Rs}{W:Str}{T:PV}{r:Int}{st:List Str}{es:List Ev}{n:Nat}{R:PV->Nat->Prop}(hw:(W=A7 "strange"/\mk=.strange)\/(W=A7 "twice"/\mk=.twice))(hg:∀e∈es,Good e)(hT:okB T=true)(hl:es.length<=1000)(q:∀c:Bool,(c=true↔∃b,T=.str b/\isRs r st es (mk b))->R (.bl c) n):Fq [rowP st,shP es,.str W,T] n R:=by
 by_cases hb:∃b,T=.str b/\F6 b
 ·obtain⟨b,rfl,bb⟩:=hb;refine Sk (w:=mk b) (r:=r) (hw.elim (λh=>.inl ⟨h.1,by rw[h.2]⟩) λh=>.inr ⟨h.1,by rw[h.2]⟩) bb hg hl λc hc=>q c (hc.trans ⟨λz=>⟨b,rfl,z⟩,λ⟨b',e,z⟩=>by cases e;exact z⟩)
 ·refine⟨rfl,?_⟩;unfold Ij
  have bo:∀b,isRs r st es (mk b)->F6 b:=λb h=>by
   have gb:∀e∈es,b∈evB e->F6 b:=λe he hm=>by
    have:=hg e he;cases e with
    |d x=>rw[E2.mp hm];exact this
    | t x y =>
     rcases C6.mp hm with rfl|hm
     ·exact this.2.1
     ·rw[E2.mp hm];exact this.2.2
   rcases hw with⟨_,rfl⟩|⟨_,rfl⟩
   ·obtain⟨e,he,hm⟩:=l7.mp h.1;exact gb e he hm
   ·have h:2<=(es.filter λe=>decide (b∈evB e)).length:=h;obtain⟨e,he⟩:=List.exists_mem_of_length_pos (show 0<(es.filter λe=>decide (b∈evB e)).length by omega);obtain⟨he,hm⟩:=O8.mp he;exact gb e he (ju hm)
  have mb:∀{R:PV->Nat->Prop},R (.bl false) n->Y4 [T] n R:=λz=>FC hT λc hc=>by
   cases c with
   |false=>exact z
   |true=>exact absurd (hc.mp rfl) hb
  generalize rowP st=Z;generalize shP es=S;refine J4 λU hU=>?_;walk_at "pu";exact mb (if_t rfl (q false ⟨nofun,λ⟨b,e,z⟩=>absurd ⟨b,e,bo b z⟩ hb⟩))
theorem k4 {x y x' y':Str}(e:evP (.t x y)=evP (.t x' y')):x'=x/\y'=y:=by rw[J1,J1] at e;cases e;exact⟨rfl,rfl⟩
theorem Sr {mk:Str->Str->Rs}{W:Str}{T:PV}{r:Int}{st:List Str}{es:List Ev}{n:Nat}{R:PV->Nat->Prop}(hw:(W=A7 "wrong"/\mk=.wrong)\/(W=A7 "far"/\mk=.far))(hg:∀e∈es,Good e)(hs:st.length<=100)(hT:okT 1 T=true)(q:∀c:Bool,(c=true↔∃x y,T=evP (.t x y)/\isRs r st es (mk x y))->R (.bl c) n):Ik [rowP st,.int r,shP es,.str W,T] n R:=by
 refine⟨rfl,?_⟩;unfold Lu;have ti:∀{x y},isRs r st es (mk x y)->Tin st es x y:=λh=>by rcases hw with⟨_,rfl⟩|⟨_,rfl⟩ <;> exact h.1
 have mk':∀{R:PV->Nat->Prop},(∀b:Bool,(b=true↔∃x y,T=evP (.t x y)/\Tin st es x y)->R (.bl b) n)->d8 [rowP st,shP es,T] n R:=λq=>FD hg hT q;have mw:=λx y hx hy (R:PV->Nat->Prop) q=>LO (st:=st) (x:=x) (y:=y) (n:=n) (R:=R) hs hx hy q;have mf:=λx y hx hy (R:PV->Nat->Prop) q=>m_far (st:=st) (x:=x) (y:=y) (r:=r) (n:=n) (R:=R) hs hx hy q;generalize hS:shP es=S at *;generalize hZ:rowP st=Z at *;have one:∀(x y:Str) (P:Prop) (b:Bool),T=evP (.t x y)->(isRs r st es (mk x y)↔Tin st es x y/\P)->Tin st es x y->(b=true↔P)->(b=true↔∃x y,T=evP (.t x y)/\isRs r st es (mk x y)):=λx y P b e i t h=>h.trans ⟨λp=>⟨x,y,e,i.mpr ⟨t,p⟩⟩,λ⟨x',y',e',p⟩=>by obtain⟨rfl,rfl⟩:=k4 (e.symm.trans e');exact(i.mp p).2⟩;have fl:∀{b:Bool},(b=true↔∃x y,T=evP (.t x y)/\Tin st es x y)->b=false->R (.bl false) n:=λh e=>q false ⟨nofun,λ⟨x,y,e',p⟩=>by rw[h.mpr ⟨x,y,e',ti p⟩] at e;cases e⟩;rcases hw with⟨rfl,rfl⟩|⟨rfl,rfl⟩
 all_goals
   walk_at "pu";refine mk' λb hb=>?_;cases b with
   |false=>exact if_t rfl (fl hb rfl)
   | true =>
    obtain⟨x,y,e,t⟩:=hb.mp rfl;subst e
    first
    |exact if_f rfl (mw x y t.2.1 t.2.2 _ (q _ (one x y _ _ rfl Iff.rfl t (by rw[decide_eq_true_eq]))))
    |exact if_f rfl (mf x y t.2.1 t.2.2 _ (q _ (one x y _ _ rfl Iff.rfl t (by rw[decide_eq_true_eq]))))
theorem Ss {T Y:PV}{r:Int}{st:List Str}{es:List Ev}{n:Nat}{R:PV->Nat->Prop}(hst:RowS st)(hg:∀e∈es,Good e)(hs:st.length<=100)(hl:es.length<=1000)(hT:okT 1 T=true)(hY:okB Y=true)(q:∀c:Bool,(c=true↔∃x y z,T=evP (.t x y)/\Y=.str z/\isRs r st es (.stays x y z))->R (.bl c) n):Il [rowP st,shP es,T,Y] n R:=by
 refine⟨rfl,?_⟩;unfold Lv;have mk':∀{R:PV->Nat->Prop},(∀b:Bool,(b=true↔∃x y,T=evP (.t x y)/\Tin st es x y)->R (.bl b) n)->d8 [rowP st,shP es,T] n R:=λq=>FD hg hT q;have mw:=λx y hx hy (R:PV->Nat->Prop) q=>Dt (st:=st) (x:=x) (y:=y) (n:=n) (R:=R) hs hx hy q;have mo:=λ(R:PV->Nat->Prop) q=>Du (es:=es) (n:=n) (R:=R) hl q;have mb:∀{R:PV->Nat->Prop},(∀c:Bool,(c=true↔∃z,Y=.str z/\F6 z)->R (.bl c) n)->Y4 [Y] n R:=λq=>FC hY q;generalize hS:shP es=S at *;generalize hZ:rowP st=Z at *;walk_at "pu";refine mk' λb hb=>?_;cases b with
 |false=>exact if_t rfl (q false ⟨nofun,λ⟨x,y,z,e,_,p⟩=>nomatch hb.mpr ⟨x,y,e,p.1⟩⟩)
 | true =>
  obtain⟨x,y,e,t⟩:=hb.mp rfl;subst e;refine if_f rfl (mb λb hb'=>?_);cases b with
  |false=>exact if_t rfl (q false ⟨nofun,λ⟨x,y,z,_,e,p⟩=>nomatch hb'.mpr ⟨z,e,hst.2 z (l5 (AT p.2.1))⟩⟩)
  | true =>
   obtain⟨z,e,bz⟩:=hb'.mp rfl;subst e;refine if_f rfl (mw x y t.2.1 t.2.2 _ (j9 rfl ?_))
   by_cases c:z∈btwU st x y
   ·refine if_t (jp c) (mo _ (HK rfl (q _ ?_)));rw[Cu,decide_eq_false_iff_not];exact⟨λh=>⟨x,y,z,rfl,rfl,t,c,h⟩,λ⟨x',y',z',e,e',p⟩=>by cases e';exact p.2.2⟩
   ·exact if_f (jq c) (q false ⟨nofun,λ⟨x',y',z',e,e',p⟩=>by obtain⟨rfl,rfl⟩:=k4 e;cases e';exact absurd p.2.1 c⟩)
theorem Su {T Y:PV}{r:Int}{st:List Str}{es:List Ev}{n:Nat}{R:PV->Nat->Prop}(hg:∀e∈es,Good e)(hs:st.length<=100)(hT:okT 1 T=true)(hY:okT 1 Y=true)(q:∀c:Bool,(c=true↔∃x y x' y',T=evP (.t x y)/\Y=evP (.t x' y')/\isRs r st es (.cross x y x' y'))->R (.bl c) n):Im [rowP st,shP es,T,Y] n R:=by
 refine⟨rfl,?_⟩;unfold Lw;have mk:∀{R:PV->Nat->Prop},(∀b:Bool,(b=true↔∃x y,T=evP (.t x y)/\Tin st es x y)->R (.bl b) n)->d8 [rowP st,shP es,T] n R:=λq=>FD hg hT q;have mk':∀{R:PV->Nat->Prop},(∀b:Bool,(b=true↔∃x y,Y=evP (.t x y)/\Tin st es x y)->R (.bl b) n)->d8 [rowP st,shP es,Y] n R:=λq=>FD hg hY q;have mc:=λx y x' y' hx hy (R:PV->Nat->Prop) q q'=>LU (st:=st) (x:=x) (y:=y) (x':=x') (y':=y') (n:=n) (R:=R) hs hx hy q q';generalize hS:shP es=S at *;generalize hZ:rowP st=Z at *;walk_at "pu";refine mk λb hb=>?_;cases b with
 |false=>exact if_t rfl (q false ⟨nofun,λ⟨x,y,x',y',e,_,p⟩=>nomatch hb.mpr ⟨x,y,e,p.1⟩⟩)
 | true =>
  obtain⟨x,y,e,t⟩:=hb.mp rfl;subst e;refine if_f rfl (mk' λb hb'=>?_);cases b with
  |false=>exact if_t rfl (q false ⟨nofun,λ⟨x,y,x',y',_,e,p⟩=>nomatch hb'.mpr ⟨x',y',e,p.2.1⟩⟩)
  | true =>
   obtain⟨x',y',e,t'⟩:=hb'.mp rfl;subst e;refine if_f rfl (mc x y x' y' t.2.1 t.2.2 _ (λh=>q false ⟨nofun,λ⟨a,b,a',b',e,e',z⟩=>?_⟩) λh h'=>q true ⟨λ_=>⟨x,y,x',y',rfl,rfl,t,t',h,h'⟩,λ_=>rfl⟩);obtain⟨rfl,rfl⟩:=k4 e;obtain⟨rfl,rfl⟩:=k4 e';exact absurd (h z.2.2.1) z.2.2.2
def rsN:Rs->Nat
 |.strange _=>0|.twice _=>1|.wrong _ _=>2|.far _ _=>3|.stays _ _ _=>4|.cross _ _ _ _=>5
def WD:Nat->Str
 |0=>A7 "strange"|1=>A7 "twice"|2=>A7 "wrong"|3=>A7 "far"|4=>A7 "stays"|_=>A7 "cross"
theorem FE:∀i<6,∀j<6,WD i=WD j->i=j:=by decide +kernel
theorem Iw (w:Rs):rsN w<6:=by cases w <;> simp[rsN]
theorem w8 {w:Rs}{W:Str}{ys:List PV}(e:PV.tup (.str W::ys)=rsP w):W=WD (rsN w):=by cases w <;> cases e <;> rfl
theorem BW {w:Rs}{i:Nat}{ys:List PV}(hi:i<6)(e:PV.tup (.str (WD i)::ys)=rsP w):rsN w=i:=(FE i hi _ (Iw w) (w8 e)).symm
theorem Dx {w:Rs}{xs:List PV}(e:PV.tup xs=rsP w):(xs.length=2/\rsN w<4)\/(xs.length=3/\4<=rsN w):=by cases w <;> cases e <;> first|exact .inl ⟨rfl,by simp[rsN]⟩|exact .inr ⟨rfl,by simp[rsN]⟩
theorem rs0 {b:PV}{P:Rs->Prop}:(∃w,PV.tup [.str (WD 0),b]=rsP w/\P w)↔∃z,b=.str z/\P (.strange z):=⟨λ⟨w,e,p⟩=>(by
 have h:=BW (by decide) e;cases w with
 |strange z=>cases e;exact⟨z,rfl,p⟩
 |_=>cases h),λ⟨z,e,p⟩=>⟨.strange z,by rw[e];rfl,p⟩⟩
theorem rs1 {b:PV}{P:Rs->Prop}:(∃w,PV.tup [.str (WD 1),b]=rsP w/\P w)↔∃z,b=.str z/\P (.twice z):=⟨λ⟨w,e,p⟩=>(by
 have h:=BW (by decide) e;cases w with
 |twice z=>cases e;exact⟨z,rfl,p⟩
 |_=>cases h),λ⟨z,e,p⟩=>⟨.twice z,by rw[e];rfl,p⟩⟩
theorem rs2 {b:PV}{P:Rs->Prop}:(∃w,PV.tup [.str (WD 2),b]=rsP w/\P w)↔∃x y,b=evP (.t x y)/\P (.wrong x y):=⟨λ⟨w,e,p⟩=>(by
 have h:=BW (by decide) e;cases w with
 |wrong x y=>cases e;exact⟨x,y,rfl,p⟩
 |_=>cases h),λ⟨x,y,e,p⟩=>⟨.wrong x y,by rw[e];rfl,p⟩⟩
theorem rs3 {b:PV}{P:Rs->Prop}:(∃w,PV.tup [.str (WD 3),b]=rsP w/\P w)↔∃x y,b=evP (.t x y)/\P (.far x y):=⟨λ⟨w,e,p⟩=>(by
 have h:=BW (by decide) e;cases w with
 |far x y=>cases e;exact⟨x,y,rfl,p⟩
 |_=>cases h),λ⟨x,y,e,p⟩=>⟨.far x y,by rw[e];rfl,p⟩⟩
theorem rs4 {b c:PV}{P:Rs->Prop}:(∃w,PV.tup [.str (WD 4),b,c]=rsP w/\P w)↔∃x y z,b=evP (.t x y)/\c=.str z/\P (.stays x y z):=⟨λ⟨w,e,p⟩=>(by
 have h:=BW (by decide) e;cases w with
 |stays x y z=>cases e;exact⟨x,y,z,rfl,rfl,p⟩
 |_=>cases h),λ⟨x,y,z,e,e',p⟩=>⟨.stays x y z,by rw[e,e'];rfl,p⟩⟩
theorem rs5 {b c:PV}{P:Rs->Prop}:(∃w,PV.tup [.str (WD 5),b,c]=rsP w/\P w)↔∃x y x' y',b=evP (.t x y)/\c=evP (.t x' y')/\P (.cross x y x' y'):=⟨λ⟨w,e,p⟩=>(by
 have h:=BW (by decide) e;cases w with
 |cross x y x' y'=>cases e;exact⟨x,y,x',y',rfl,rfl,p⟩
 |_=>cases h),λ⟨x,y,x',y',e,e',p⟩=>⟨.cross x y x' y',by rw[e,e'];rfl,p⟩⟩
theorem mem23 (k:Nat):memP (.int (k:Int)) [.int 2,.int 3]=decide (k=2\/k=3):=by
 show(eqP (.int 2) (.int (k:Int))||(eqP (.int 3) (.int (k:Int))||false))=_;rw[CU,CU,Aa,i5];simp only[Cv,decide_eq_true_eq];omega
theorem Sv {T:PV}{r:Int}{st:List Str}{es:List Ev}{n:Nat}{R:PV->Nat->Prop}(hst:RowS st)(hg:∀e∈es,Good e)(hs:st.length<=100)(hl:es.length<=1000)(hT:okT 2 T=true)(q:∀c:Bool,(c=true↔∃w,T=rsP w/\isRs r st es w)->R (.bl c) n):Ft [rowP st,.int r,shP es,T] n R:=by
 refine⟨rfl,?_⟩;unfold Ly;have no:(∀w,T≠rsP w)->R (.bl false) n:=λz=>q false ⟨nofun,λ⟨w,e,_⟩=>absurd e (z w)⟩;cases T with
 | tup xs =>
  have hx:∀x∈xs,okT 1 x=true:=E4.mp hT;have m1:=λW mk b hw' (hb:okT 1 b=true) (R:PV->Nat->Prop) q=>Sq (mk:=mk) (W:=W) (T:=b) (r:=r) (st:=st) (es:=es) (n:=n) (R:=R) hw' hg (FA hb) hl q;have m2:=λW mk b hw' (hb:okT 1 b=true) (R:PV->Nat->Prop) q=>Sr (mk:=mk) (W:=W) (T:=b) (r:=r) (st:=st) (es:=es) (n:=n) (R:=R) hw' hg hs hb q;have m3:=λb c (hb:okT 1 b=true) (hc:okT 1 c=true) (R:PV->Nat->Prop) q=>Ss (T:=b) (Y:=c) (r:=r) (st:=st) (es:=es) (n:=n) (R:=R) hst hg hs hl hb (FA hc) q;have m4:=λb c (hb:okT 1 b=true) (hc:okT 1 c=true) (R:PV->Nat->Prop) q=>Su (T:=b) (Y:=c) (r:=r) (st:=st) (es:=es) (n:=n) (R:=R) hg hs hb hc q;generalize hS:shP es=S at *;generalize hZ:rowP st=Z at *;refine J4 λU hU=>?_;walk_at "pu";refine LV rfl rfl ?_;dsimp only;rw[mem23]
  by_cases c0:xs.length=2\/xs.length=3
  ·refine if_f (by rw[jp c0];rfl) ?_
   match xs,c0 with
   | [a, b], _ =>
    have oa:=hx a (by simp);have ob:=hx b (by simp);cases a with
    | str w =>
     refine if_f rfl ?_;subst hU;walk_at "pu";refine if_t (jp rfl) (j9 (zs:=[WD 0,WD 1]) rfl ?_)
     by_cases c1:w∈[WD 0,WD 1]
     ·refine if_t (jp c1) ?_;rcases C6.mp c1 with rfl|c1
      ·exact m1 _ .strange b (.inl ⟨rfl,rfl⟩) ob _ λc hc=>q c (hc.trans rs0.symm)
      ·rw[E2.mp c1];rw[E2.mp c1] at q;exact m1 _ .twice b (.inr ⟨rfl,rfl⟩) ob _ λc hc=>q c (hc.trans rs1.symm)
     ·refine if_f (jq c1) (if_t (jp rfl) (j9 (zs:=[WD 2,WD 3]) rfl ?_))
      by_cases c2:w∈[WD 2,WD 3]
      ·refine if_t (jp c2) ?_;rcases C6.mp c2 with rfl|c2
       ·exact m2 _ .wrong b (.inl ⟨rfl,rfl⟩) ob _ λc hc=>q c (hc.trans rs2.symm)
       ·rw[E2.mp c2];rw[E2.mp c2] at q;exact m2 _ .far b (.inr ⟨rfl,rfl⟩) ob _ λc hc=>q c (hc.trans rs3.symm)
      ·refine if_f (jq c2) (if_f (by decide) (if_f (by decide) (no λw' e=>?_)));have e1:=w8 e;have:=Dx e;have h4:rsN w'<4:=by rcases this with h|h;exact h.2;cases h.1
       rw[e1] at c1 c2;have cs:rsN w'=0\/rsN w'=1\/rsN w'=2\/rsN w'=3:=by omega
       rcases cs with h|h|h|h <;> rw[h] at c1 c2
       ·exact c1 C3
       ·exact c1 (C2 _ C3)
       ·exact c2 C3
       ·exact c2 (C2 _ C3)
    |_=>first|(cases oa;done)|exact if_t rfl (no λw e=>by cases w <;> cases e)
   | [a, b, d], _ =>
    have oa:=hx a (by simp);have ob:=hx b (by simp);have od:=hx d (by simp);cases a with
    | str w =>
     refine if_f rfl ?_;subst hU;walk_at "pu";refine if_f (by decide) (if_f (by decide) ?_)
     by_cases c1:w=WD 4
     ·subst c1;exact if_t (jp rfl) (m3 b d ob od _ λc hc=>q c (hc.trans rs4.symm))
     ·refine if_f (jq c1) ?_
      by_cases c2:w=WD 5
      ·subst c2;exact if_t (jp rfl) (m4 b d ob od _ λc hc=>q c (hc.trans rs5.symm))
      ·refine if_f (jq c2) (no λw' e=>?_);have e1:=w8 e;have h4:4<=rsN w':=by rcases Dx e with h|h;cases h.1;exact h.2
       have:=Iw w';have cs:rsN w'=4\/rsN w'=5:=by omega
       rcases cs with h|h <;> rw[h] at e1 <;> first|exact c1 e1|exact c2 e1
    |_=>first|(cases oa;done)|exact if_t rfl (no λw e=>by cases w <;> cases e)
  ·exact if_t (by rw[jq c0];rfl) (no λw e=>c0 ((Dx e).elim (λh=>.inl h.1) λh=>.inr h.1))
 |_=>first|(cases hT;done)|(walk_at "pu";exact no λw e=>by cases w <;> cases e)
def sel (lo hi:Nat):Nat->List Str->List Str
 |_,[]=>[]
 |k,z::zs=>if lo<k/\k<hi then z::sel lo hi (k+1) zs else sel lo hi (k+1) zs
theorem LX {lo hi:Nat}:∀(zs:List Str) (k:Nat),sel lo hi k zs=(zs.take (hi-k)).drop (lo+1-k)
 |[],k=>by simp[sel]
 | z :: zs, k => by
  unfold sel;rw[LX zs (k+1)]
  by_cases c:k<hi
  ·rw[show hi-k=(hi-(k+1))+1 by omega,List.take_succ_cons]
   by_cases c2:lo<k
   ·rw[jr ⟨c2,c⟩,show lo+1-k=0 by omega,show lo+1-(k+1)=0 by omega,Cn,Cn]
   ·rw[jt (by omega),show lo+1-k=(lo+1-(k+1))+1 by omega,List.drop_succ_cons]
  ·rw[jt (by omega),show hi-k=0 by omega,show hi-(k+1)=0 by omega];simp
theorem LY:∀(zs:List Str) (k:Nat) (s0 s1:Option Pu.Slot) (R:List PV->Nat->Prop),R ((sel (min a b) (max a b) k zs).map PV.str) n->T3 (gTp 2 (gCn (gN 0) (gCn (gN 1) gNl))) (qB (j6 wLt wLt (qOp wMin (qV 2) (qV 3)) (qV 0) (qOp wMax (qV 2) (qV 3)))) (qV 1) (((zs.map PV.str).zipIdx k).map λy=>PV.tup [.int (y.2:Nat),y.1]) [s0,s1,some (.v (.int (a:Int))),some (.v (.int (b:Int)))] n R
 |[],k,s0,s1,R,h=>h
 | z :: zs, k, s0, s1, R, h => by
  rw[F2,List.zipIdx_cons,F2];have ih:=λR' q=>LY (a:=a) (b:=b) (n:=n) zs (k+1) (some (.v (.int (k:Int)))) (some (.v (.str z))) R' q;generalize ((zs.map PV.str).zipIdx (k+1)).map (λy=>PV.tup [.int (y.2:Nat),y.1])=Z at *;unfold T3;unfold sel at h;have e1:(if(b:Int)<a then(b:Int) else a)=((min a b:Nat):Int):=by split <;> omega
  have e2:(if(b:Int)>a then(b:Int) else a)=((max a b:Nat):Int):=by split <;> omega
  walk_at "pu";rw[e1,e2]
  by_cases c1:min a b<k
  ·grind
  ·grind
theorem Sw (hs:st.length<=100)(hx:x∈st)(hy:y∈st)(h:R (.lst ((btwU st x y).map PV.str)) n):Fw [rowP st,evP (.t x y)] n R:=by
 refine⟨rfl,?_⟩;unfold LC;have hix:∀z∈st,∀{R:PV->Prop},R (.int (ixS st z))->u8 (.tup (st.map PV.str)) (.str z) R:=λz hz {R} q=>m_ix rfl hz (by omega) q;have hr0:rowP st=.tup (st.map PV.str):=rfl;have cs:=λR' q=>LY (a:=ixS st x) (b:=ixS st y) (n:=n) st 0 none none R' q;rw[LX,Nat.sub_zero,Nat.sub_zero] at cs;have eb:(st.take (max (ixS st x) (ixS st y))).drop (min (ixS st x) (ixS st y)+1)=btwU st x y:=rfl;rw[eb] at cs;have el:(t7 (st.map PV.str)).length=st.length:=by rw[Ey,B8]
 have ee:t7 (st.map PV.str)=((st.map PV.str).zipIdx 0).map λy=>PV.tup [.int (y.2:Nat),y.1]:=rfl;rw[<- ee] at cs;generalize hE:t7 (st.map PV.str)=E at *;generalize hZ:st.map PV.str=Z at *;rw[hr0,J1];walk_at "pu"
 grind
theorem memA {b:PV}{zs:List Str}:memP b (zs.map PV.str)=true↔∃z,b=.str z/\z∈zs:=by
 unfold memP;rw[AV,U9];exact⟨λ⟨z,hz,q⟩=>⟨z,FB q,hz⟩,λ⟨z,e,hz⟩=>⟨z,hz,by rw[e];show eqP (.str z) (.str z)=true;rw[U4];exact jp rfl⟩⟩
theorem FG {b:PV}{zs:List Str}(h:okA b=true):((zs.map PV.str).all λz=>cpA 2 z b)=true:=E4.mpr λy hy=>by
 obtain⟨z,_,rfl⟩:=G0.mp hy;exact h
theorem Sx {es:List Ev}{X T:PV}{n:Nat}(hX:okA X=true)(hT:∀{R:PV->Prop},R X->wIx T (.int 1) R)(R:List PV->Nat->Prop)(h:R ((es.filter λe=>memP X ((evB e).map PV.str)).map evP) n) :
   T3 (gN 0) (qB (qOp (wInA 2 false) (qOp wIx (qV 1) (qC (.int 1))) (qSl (qV 0) (K2 (qC (.int 1))) qNo))) (qV 0) (es.map evP) [none,some (.v T)] n R:=by
 refine De evP (λe=>memP X ((evB e).map PV.str)) es none n R (λe he m Q hQ=>?_) h;cases hev:evP e with
 | tup xs =>
  have ec:=LN e hev;rw[hev] at hQ;simp only[qB,qOp,qV,qC,qSl,K2,qNo,wSl,DJ,AQ];refine hT ?_;rw[ec];exact⟨FG hX,hQ⟩
 |_=>cases e <;> cases hev
theorem pos0 {b:PV}{es:List Ev}:0<((es.filter λe=>memP b ((evB e).map PV.str)).map evP).length↔∃z,b=.str z/\z∈es.flatMap evB:=by
 rw[B8,List.length_pos_iff_exists_mem];constructor
 ·rintro⟨e,he⟩;obtain⟨he,hm⟩:=O8.mp he;obtain⟨z,e1,hz⟩:=memA.mp hm;exact⟨z,e1,l7.mpr ⟨e,he,hz⟩⟩
 ·rintro⟨z,e1,hz⟩;obtain⟨e,he,hz⟩:=l7.mp hz;exact⟨e,O8.mpr ⟨he,memA.mpr ⟨z,e1,hz⟩⟩⟩
theorem pos1 {b:PV}{r:Int}{st:List Str}{es:List Ev}:1<((es.filter λe=>memP b ((evB e).map PV.str)).map evP).length↔∃z,b=.str z/\isRs r st es (.twice z):=by
 constructor
 ·intro h;obtain⟨z,rfl,_⟩:=pos0.mp (K7 Nat.zero_lt_one (W9 h));refine⟨z,rfl,?_⟩;rw[LW,B8] at h;exact h
 ·rintro⟨z,rfl,h⟩;rw[LW,B8];exact h
theorem Sy {T:PV}{r:Int}{st:List Str}{es:List Ev}{n:Nat}{R:PV->Nat->Prop}(hs:st.length<=100)(hl:es.length<=1000)(hT:okT 2 T=true)(q:∀c:Bool,(c=true↔∃w,T=rsP w/\isRs r st es w)->R (.bl c) n):Fx [rowP st,.int r,shP es,T] n R:=by
 refine⟨rfl,?_⟩;unfold LE;have no:(∀w,T≠rsP w)->R (.bl false) n:=λz=>q false ⟨nofun,λ⟨w,e,_⟩=>absurd e (z w)⟩;refine J4 λU hU=>?_;cases T with
 | tup xs =>
  have hx:∀x∈xs,okT 1 x=true:=E4.mp hT;have hr0:rowP st=.tup (st.map PV.str):=rfl;have hs0:shP es=.tup (es.map evP):=rfl;have El:(es.map evP).length=es.length:=B8 ..;have cm:=λX T h1 h2 R' q'=>Sx (es:=es) (X:=X) (T:=T) (n:=n) h1 h2 R' q';have lt:∀{T:PV} {R:PV->Nat->Prop},okT 1 T=true->(∀b:Bool,(b=true↔∃x y,T=evP (.t x y)/\Tin st es x y)->R (.bl b) n)->Dp [.tup (st.map PV.str),.tup (es.map evP),T] n R:=λh q=>Sn h q;have lb:∀{x y:Str} {R:PV->Nat->Prop},x∈st->y∈st->R (.lst ((btwU st x y).map PV.str)) n->Fw [.tup (st.map PV.str),.tup [.str L0,.str x,.str y]] n R:=λhx hy q=>Sw hs hx hy q;have hix:∀z∈st,∀{R:PV->Prop},R (.int (ixS st z))->u8 (.tup (st.map PV.str)) (.str z) R:=λz hz {R} q=>m_ix rfl hz (by omega) q;have p0:=λb=>@pos0 b es;have p1:=λb=>@pos1 b r st es;have ms:=λb=>@memA b st;have ca:=λb=>@FG b st;rw[hr0,hs0];generalize hE:es.map evP=E at *;generalize hZ:st.map PV.str=Z at *;walk_at "pu";refine LV rfl rfl ?_;dsimp only;rw[mem23]
  by_cases c0:xs.length=2\/xs.length=3
  ·refine if_f (by rw[jp c0];rfl) ?_
   match xs,c0 with
   | [a, b], _ =>
    have oa:=hx a (by simp);have ob:=hx b (by simp);cases a with
    | str w =>
     refine if_f rfl ?_;subst hU;refine J4 λU hU=>?_;walk_at "pu";refine⟨by omega,cm b (.tup [.str w,b]) (AE ob) (λq=>q) _ ?_⟩;have p0:=p0 b;have p1:=p1 b;generalize (es.filter λe=>memP b ((evB e).map PV.str)).map evP=M at *;subst hU;refine J4 λU hU=>?_;walk_at "pu"
     by_cases w0:w=WD 0
     ·subst w0;have q:=λc hc=>q c (Iff.trans hc rs0.symm);refine if_t (jp rfl) (if_t (jp rfl) ?_);rw[wsA]
      by_cases c1:0<M.length
      ·refine if_t (jp (by omega)) ⟨ca b (AE ob),?_⟩;cases hm:memP b Z with
       | true =>
        obtain⟨z',e',hz'⟩:=(ms b).mp hm;exact if_f rfl (q false ⟨nofun,λ⟨z,e,h⟩=>by rw[e] at e';cases e';exact absurd hz' h.2⟩)
       | false =>
        obtain⟨z,e,hz⟩:=p0.mp c1;exact if_t rfl (q true ⟨λ_=>⟨z,e,hz,λh=>by rw[(ms b).mpr ⟨z,e,h⟩] at hm;cases hm⟩,λ_=>rfl⟩)
      ·exact if_f (jq (by omega)) (q false ⟨nofun,λ⟨z,e,h⟩=>absurd (p0.mpr ⟨z,e,h.1⟩) c1⟩)
     refine if_f (jq w0) ?_
     by_cases w1:w=WD 1
     ·subst w1;have q:=λc hc=>q c (Iff.trans hc rs1.symm);refine if_t (jp rfl) (if_f (jq w0) ?_);rw[wsA]
      by_cases c1:1<M.length
      ·exact if_t (jp (by omega)) (q true ⟨λ_=>p1.mp c1,λ_=>rfl⟩)
      ·exact if_f (jq (by omega)) (q false ⟨nofun,λh=>absurd (p1.mpr h) c1⟩)
     refine if_f (jq w1) ?_
     have fl:(¬∃x y,b=evP (.t x y)/\Tin st es x y)->R (.bl false) n:=λh=>q false ⟨nofun,λ⟨w',e,p⟩=>by
      cases w' with
      |strange z=>exact absurd (w8 e) w0
      |twice z=>exact absurd (w8 e) w1
      |wrong x y=>cases e;exact absurd ⟨x,y,rfl,p.1⟩ h
      |far x y=>cases e;exact absurd ⟨x,y,rfl,p.1⟩ h
      |_=>cases e⟩
     clear ms ca p0 p1 cm;subst hU;refine J4 λU hU=>?_;walk_at "pu";refine lt ob λk hk=>?_;cases k with
     |false=>exact if_t rfl (fl λh=>nomatch hk.mpr h)
     | true =>
      obtain⟨x,y,e,ti⟩:=hk.mp rfl;subst e;refine if_f rfl ?_;subst hU;refine J4 λU hU=>?_
      have hq:(∃w',PV.tup [.str w,evP (.t x y)]=rsP w'/\isRs r st es w')↔(w=WD 2/\ixS st x<ixS st y)\/(w=WD 3/\r<((btwU st x y).length:Int)):=⟨λ⟨w',e,p⟩=>(by
       have e1:=w8 e;cases w' with
       |strange z=>exact absurd e1 w0
       |twice z=>exact absurd e1 w1
       | wrong x' y' =>
        subst e1;obtain⟨a,b,e,p⟩:=rs2.mp ⟨_,e,p⟩;obtain⟨rfl,rfl⟩:=k4 e;exact .inl ⟨rfl,p.2⟩
       | far x' y' =>
        subst e1;obtain⟨a,b,e,p⟩:=rs3.mp ⟨_,e,p⟩;obtain⟨rfl,rfl⟩:=k4 e;exact .inr ⟨rfl,p.2⟩
       |_=>cases e),λh=>h.elim (λh=>⟨.wrong x y,by rw[h.1];rfl,ti,h.2⟩) λh=>⟨.far x y,by rw[h.1];rfl,ti,h.2⟩⟩
      clear fl no hx hT;rw[J1] at *;walk_at "pu";refine lb ti.2.1 ti.2.2 ?_;have bl:((btwU st x y).map PV.str).length=(btwU st x y).length:=B8 ..;generalize (btwU st x y).map PV.str=W at *;subst hU;walk_at "pu";have q:=λc hc=>q c (Iff.trans hc (Iff.symm hq))
      by_cases w2:w=WD 2
      ·subst w2;refine if_t (jp rfl) ⟨⟨_,rfl⟩,hix y ti.2.2 ⟨⟨_,rfl⟩,hix x ti.2.1 (q _ ?_)⟩⟩;rw[decide_eq_true_eq];exact⟨λh=>.inl ⟨rfl,by omega⟩,λh=>by rcases h with h|h;have:=h.2;omega;exact absurd (FE 2 (by decide) 3 (by decide) h.1) (by decide)⟩
      refine if_f (jq w2) ?_
      by_cases w3:w=WD 3
      ·subst w3;refine if_t (jp rfl) (q _ ?_);rw[decide_eq_true_eq];exact⟨λh=>.inr ⟨rfl,by omega⟩,λh=>by rcases h with h|h;exact absurd h.1 w2;have:=h.2;omega⟩
      exact if_f (jq w3) (q false ⟨nofun,λh=>h.elim (λh=>absurd h.1 w2) λh=>absurd h.1 w3⟩)
    |_=>first|(cases oa;done)|exact if_t rfl (no λw e=>by cases w <;> cases e)
   | [a, b, d], _ =>
    have oa:=hx a (by simp);have ob:=hx b (by simp);have od:=hx d (by simp);cases a with
    | str w =>
     refine if_f rfl ?_;subst hU;refine J4 λU hU=>?_;walk_at "pu";refine⟨by omega,cm b (.tup [.str w,b,d]) (AE ob) (λq=>q) _ ?_⟩;generalize (es.filter λe=>memP b ((evB e).map PV.str)).map evP=M at *;have no4:(∀w',w=WD (rsN w')->¬4<=rsN w')->R (.bl false) n:=λh=>no λw' e=>h w' (w8 e) (by rcases Dx e with h|h;cases h.1;exact h.2);subst hU;refine J4 λU hU=>?_;walk_at "pu"
     have two:∀i,i<4->w=WD i->R (.bl false) n:=λi hi e=>no4 λw' e' h=>by
      have:=FE i (by omega) _ (Iw w') (e.symm.trans e');omega
     by_cases w0:w=WD 0
     ·have:=two 0 (by decide) w0;refine if_t (jp w0) (if_t (jp w0) ?_);rw[wsB]
      by_cases c1:0<M.length
      ·refine if_t (jp (by omega)) ⟨ca b (AE ob),?_⟩;cases hm:memP b Z with
       |true=>exact if_f rfl this
       |false=>exact if_t rfl this
      ·exact if_f (jq (by omega)) this
     refine if_f (jq w0) ?_
     by_cases w1:w=WD 1
     ·have:=two 1 (by decide) w1;refine if_t (jp w1) (if_f (jq w0) ?_);rw[wsB]
      by_cases c1:1<M.length
      ·exact if_t (jp (by omega)) this
      ·exact if_f (jq (by omega)) this
     refine if_f (jq w1) ?_
     have fl:(¬∃x y,b=evP (.t x y)/\Tin st es x y)->R (.bl false) n:=λh=>q false ⟨nofun,λ⟨w',e,p⟩=>by
      cases w' with
      |stays x y z=>cases e;exact absurd ⟨x,y,rfl,p.1⟩ h
      |cross x y x' y'=>cases e;exact absurd ⟨x,y,rfl,p.1⟩ h
      |_=>cases e⟩
     clear ms ca p0 p1 cm;subst hU;refine J4 λU hU=>?_;walk_at "pu";refine lt ob λk hk=>?_;cases k with
     |false=>exact if_t rfl (fl λh=>nomatch hk.mpr h)
     | true =>
      obtain⟨x,y,e,ti⟩:=hk.mp rfl;subst e;refine if_f rfl ?_;subst hU;refine J4 λU hU=>?_
      have hq:(∃w',PV.tup [.str w,evP (.t x y),d]=rsP w'/\isRs r st es w')↔(w=WD 4/\∃z,d=.str z/\z∈btwU st x y/\z∉es.flatMap evB)\/(w=WD 5/\∃x' y',d=evP (.t x' y')/\isRs r st es (.cross x y x' y')):=⟨λ⟨w',e,p⟩=>(by
       have e1:=w8 e;cases w' with
       | stays x' y' z =>
        subst e1;obtain⟨a,b,z,e,e',p⟩:=rs4.mp ⟨_,e,p⟩;obtain⟨rfl,rfl⟩:=k4 e;exact .inl ⟨rfl,z,e',p.2⟩
       | cross a b a' b' =>
        subst e1;obtain⟨a,b,a',b',e,e',p⟩:=rs5.mp ⟨_,e,p⟩;obtain⟨rfl,rfl⟩:=k4 e;exact .inr ⟨rfl,a',b',e',p⟩
       |_=>cases e),λh=>h.elim (λ⟨e,z,e',h⟩=>⟨.stays x y z,by rw[e,e'];rfl,ti,h⟩) λ⟨e,x',y',e',h⟩=>⟨.cross x y x' y',by rw[e,e'];rfl,h⟩⟩
      have q:=λc hc=>q c (Iff.trans hc (Iff.symm hq));clear hq fl no hx hT two no4;rw[J1] at *;walk_at "pu";refine lb ti.2.1 ti.2.2 ?_;have mb:=λd=>@memA d (btwU st x y);have cb:=λd=>@FG d (btwU st x y);have bl:((btwU st x y).map PV.str).length=(btwU st x y).length:=B8 ..;generalize hW:(btwU st x y).map PV.str=W at *;subst hU;refine J4 λU hU=>?_;walk_at "pu";subst hU;refine J4 λU hU=>?_;walk_at "pu";subst hU;refine J4 λU hU=>?_;walk_at "pu"
      by_cases w4:w=WD 4
      ·refine if_t (jp w4) ⟨cb d (AE od),?_⟩;have q:∀c:Bool,(c=true↔∃z,d=.str z/\z∈btwU st x y/\z∉es.flatMap evB)->R (.bl c) n:=λc hc=>q c (hc.trans ⟨λh=>.inl ⟨w4,h⟩,λh=>h.elim (λh=>h.2) λh=>absurd (FE 4 (by decide) 5 (by decide) (w4.symm.trans h.1)) (by decide)⟩);cases hm:memP d W with
       |false=>exact if_f rfl (q false ⟨nofun,λ⟨z,e,h,_⟩=>by rw[(mb d).mpr ⟨z,e,h⟩] at hm;cases hm⟩)
       | true =>
        obtain⟨z,e,c⟩:=(mb d).mp hm;subst e;refine if_t rfl ⟨by omega,?_⟩;rw[<- hE];refine EJ evP (λe=>.bl (decide (z∈evB e))) es _ n _ (λe he m Q hQ=>?_) ?_
        ·cases hev:evP e with
         | tup xs =>
          have ec:=LN e hev;rw[hev] at hQ;walk_at "pu";rw[ec];refine⟨FG (AE od),?_⟩;rw[BR];exact hQ
         |_=>cases e <;> cases hev
        ·rw[Ds];dsimp only;rw[LL];refine q _ ?_;rw[Cu,Bool.eq_false_iff,Ne,U9];refine⟨λh=>⟨z,rfl,c,λhz=>?_⟩,λ⟨z',e',h⟩ ⟨e,he,hz⟩=>by cases e';exact h.2 (l7.mpr ⟨e,he,ju hz⟩)⟩;obtain⟨e,he,hz⟩:=l7.mp hz;exact h ⟨e,he,jp hz⟩
      refine if_f (jq w4) ?_;subst hU;refine J4 λU hU=>?_;walk_at "pu"
      by_cases w5:w=WD 5
      ·subst w5;refine if_f (by rw[show decide (WD 5=A7 "cross")=true from jp rfl];rfl) ?_;have q:∀c:Bool,(c=true↔∃x' y',d=evP (.t x' y')/\isRs r st es (.cross x y x' y'))->R (.bl c) n:=λc hc=>q c (hc.trans ⟨λh=>.inr ⟨rfl,h⟩,λh=>h.elim (λh=>absurd h.1 w4) λh=>h.2⟩);refine lt od λk hk=>?_;cases k with
       |false=>exact if_t rfl (q false ⟨nofun,λ⟨x',y',e,p⟩=>nomatch hk.mpr ⟨x',y',e,p.2.1⟩⟩)
       | true =>
        obtain⟨x',y',e,ti'⟩:=hk.mp rfl;subst e;refine if_f rfl ?_;have q:∀c:Bool,(c=true↔four x y x' y'/\¬(x'∈btwU st x y↔y'∈btwU st x y))->R (.bl c) n:=λc hc=>q c (hc.trans ⟨λh=>⟨x',y',rfl,ti,ti',h⟩,λ⟨a,b,e,p⟩=>by obtain⟨rfl,rfl⟩:=k4 e;exact p.2.2⟩);rw[J1];subst hU;walk_at "pu";have e1:cutP [PV.str L0,PV.str x,PV.str y] (some 1) none++cutP [PV.str L0,PV.str x',PV.str y'] (some 1) none=[.str x,.str y,.str x',.str y']:=rfl
        have l1:(cutP [PV.str L0,PV.str x,PV.str y] (some 1) none).length+(cutP [PV.str L0,PV.str x',PV.str y'] (some 1) none).length<=1000000:=by
         show(2:Nat)+2<=1000000
         decide
        rw[e1];refine⟨l1,?_⟩;rw[show O0 [.str x,.str y,.str x',.str y']=some [x,y,x',y'] from rfl];dsimp only;refine⟨by simp,?_⟩
        by_cases c:four x y x' y'
        ·refine if_t (by first|exact jp c|(rw[CU];exact jp c)) ?_;rw[show atI [PV.str x,.str y,.str x',.str y'] 2=some (.str x') from rfl,show atI [PV.str x,.str y,.str x',.str y'] 3=some (.str y') from rfl];dsimp only;refine HJ hW (HJ hW (q _ ?_));rw[Hk,Cu,decide_eq_false_iff_not,decide_eq_decide];exact⟨λh=>⟨c,h⟩,λh=>h.2⟩
        ·exact if_f (by first|exact jq c|(rw[CU];exact jq c)) (q false ⟨nofun,λh=>absurd h.1 c⟩)
      ·exact if_t (by rw[show decide (w=A7 "cross")=false from jq w5];rfl) (q false ⟨nofun,λh=>h.elim (λh=>absurd h.1 w4) λh=>absurd h.1 w5⟩)
    |_=>first|(cases oa;done)|exact if_t rfl (no λw e=>by cases w <;> cases e)
  ·exact if_t (by rw[jq c0];rfl) (no λw e=>c0 ((Dx e).elim (λh=>.inl h.1) λh=>.inr h.1))
 |_=>first|(cases hT;done)|(walk_at "pu";exact no λw e=>by cases w <;> cases e)
def ascS (z:Str):Bool:=(z.cps.all λc=>decide (c<128))&&decide (z.length<=1000)
def okD:Nat->PV->Bool
 |d+1,.tup xs=>decide (xs.length<=4)&&xs.all (okD d)
 |_,.str z=>ascS z
 |_,_=>false
theorem LZ {d:Nat}{z:Str}:okD d (.str z)=ascS z:=by cases d <;> rfl
theorem BX {d:Nat}{xs:List PV}(h:okD d (.tup xs)=true):∃e,d=e+1/\xs.length<=4/\∀x∈xs,okD e x=true:=by
 cases d with
 |zero=>cases h
 | succ e =>
  have h:(decide (xs.length<=4)&&xs.all (okD e))=true:=h;rw[R7,decide_eq_true_iff,E4] at h;exact⟨e,rfl,h⟩
theorem BY:∀{d:Nat} (e:Nat) {x:PV},okD d x=true->okT e x=true:=by
 intro d
 induction d with
 | zero =>
  intro e x h;cases x with
  |str z=>cases e <;> exact h
  |_=>cases h
 | succ d ih =>
  intro e x h;cases x with
  |str z=>cases e <;> exact h
  | tup xs =>
   obtain⟨d',e',_,hx⟩:=BX h;cases e';cases e with
   |zero=>rfl
   |succ e=>exact E4.mpr λy hy=>ih e (hx y hy)
  |_=>cases h
theorem Ix:∀{d:Nat} {x:PV},okT (d+1) x=true->okT d x=true
 |0,x,h=>FA h
 | d + 1, x, h => by
  cases x with
  |tup xs=>exact E4.mpr λy hy=>Ix (E4.mp h y hy)
  |_=>exact h
theorem L_ {z:Str}(h:F6 z):ascS z=true:=by
 obtain⟨h1,h2,h3⟩:=h;unfold ascS;rw[R7,decide_eq_true_iff,t3,<- Array.all_toList];exact⟨E4.mpr λc hc=>jp (A_ (h3 c hc).2 (by decide)),by omega⟩
theorem Ma {w:Rs}(h:∀z∈rsB w,F6 z):okD 2 (rsP w)=true:=by
 have hs:∀z∈rsB w,∀d,okD d (.str z)=true:=λz hz d=>by rw[LZ];exact L_ (h z hz)
 have he:∀x y,x∈rsB w->y∈rsB w->okD 1 (evP (.t x y))=true:=λx y hx hy=>by
  rw[J1];show(true&&(ascS L0&&(okD 0 (.str x)&&(okD 0 (.str y)&&true))))=true;rw[hs x hx,hs y hy]
  decide +kernel
 cases w with
 |strange b=>show(true&&(ascS _&&(okD 1 (.str b)&&true)))=true;rw[hs b (by simp[rsB])];decide +kernel
 |twice b=>show(true&&(ascS _&&(okD 1 (.str b)&&true)))=true;rw[hs b (by simp[rsB])];decide +kernel
 |wrong x y=>show(true&&(ascS _&&(okD 1 (evP (.t x y))&&true)))=true;rw[he x y (by simp[rsB]) (by simp[rsB])];decide +kernel
 |far x y=>show(true&&(ascS _&&(okD 1 (evP (.t x y))&&true)))=true;rw[he x y (by simp[rsB]) (by simp[rsB])];decide +kernel
 |stays x y z=>show(true&&(ascS _&&(okD 1 (evP (.t x y))&&(okD 1 (.str z)&&true))))=true;rw[he x y (by simp[rsB]) (by simp[rsB]),hs z (by simp[rsB])];decide +kernel
 |cross x y x' y'=>show(true&&(ascS _&&(okD 1 (evP (.t x y))&&(okD 1 (evP (.t x' y'))&&true))))=true;rw[he x y (by simp[rsB]) (by simp[rsB]),he x' y' (by simp[rsB]) (by simp[rsB])];decide +kernel
def Pt:PV->List Nat->PV->Prop
 |T,[],X=>T=X
 |.tup xs,i::p,X=>∃x,xs[i]?=some x/\Pt x p X
 |_,_::_,_=>False
def ptL (p:List Nat):List PV:=p.map λ(k:Nat)=>PV.int (k:Int)
theorem Pt.ok:∀{p:List Nat} {d:Nat} {T X:PV},okD d T=true->Pt T p X->p.length<=d/\okD (d-p.length) X=true
 |[],d,T,X,h,e=>⟨J9 _,by cases(show T=X from e);exact h⟩
 | i :: p, d, T, X, h, e => by
  cases T with
  | tup xs =>
   obtain⟨x,ex,hp⟩:=e;obtain⟨d',rfl,_,hx⟩:=BX h;have:=Pt.ok (hx x (J5 ex)) hp;rw[L8,Nat.add_sub_add_right];exact⟨by omega,this.2⟩
  |_=>exact e.elim
theorem Mb:∀{d f:Nat} {T:PV} {pre:List PV} {n:Nat} {R:PV->Nat->Prop},d<f->pre.length<=100-d->d<=5->okD d T=true->(∀L:List PV,1<=L.length->L.length<=5 ^ d->(∀y∈L,∃p X,y=.lst (pre++ptL p)/\Pt T p X)->R (.lst L) n)->Dn f [T,.lst pre] n R
 |d,0,T,pre,n,R,hf,hp,h5,ok,h=>absurd hf (by omega)
 | d, f + 1, T, pre, n, R, hf, hp, h5, ok, h => by
  refine⟨rfl,?_⟩;unfold Lz;have ih:=λT' pre' (R':PV->Nat->Prop) (hd:0<d)=>@Mb (d-1) f T' pre' n R' (by omega);generalize hB:Dn f=B at *;have p1:1<=5 ^ d:=Nat.one_le_pow _ _ (by decide);cases T with
  | tup xs =>
   obtain⟨e,rfl,hx4,hx⟩:=BX ok;have p5:5 ^ (e+1)=5*5 ^ e:=by rw[Nat.pow_succ,Nat.mul_comm]
   have pe:5 ^ e<=5 ^ 4:=Nat.pow_le_pow_right (by decide) (by omega);rw[Nat.add_sub_cancel] at ih;walk_at "pu";refine V6 (λi env m=>∃L s3 s4,env=[some (.v (.tup xs)),some (.v (.lst pre)),some (.own L),s3,s4]/\m=n/\1<=L.length/\L.length<=1+i*5 ^ e/\∀y∈L,∃p X,y=.lst (pre++ptL p)/\Pt (.tup xs) p X) _ 0 _ _ ⟨[.lst pre],none,none,rfl,rfl,by simp,by simp,λy hy=>⟨[],.tup xs,by rw[E2.mp hy];simp[ptL],rfl⟩⟩ (λi x env m N ex hI hN=>?_) (λenv m hI=>?_)
   ·obtain⟨y,ey,rfl⟩:=GX ex;obtain⟨L,s3,s4,rfl,rfl,l1,l2,hL⟩:=hI;have hi:=(F7.mp ey).1;have i4:(0+i)*5 ^ e<=4*5 ^ e:=Nat.mul_le_mul_right _ (by omega);walk_at "pu";refine⟨⟨_,rfl⟩,by omega,ih _ _ _ (by omega) (by rw[E3,O7];omega) (by omega) (hx y (J5 ey)) λL' k1 k2 hL'=>?_⟩;refine⟨by omega,hN _ _ ⟨L++L',_,_,rfl,rfl,by rw[E3];omega,by rw[E3,Nat.add_mul,Nat.one_mul];omega,λz hz=>?_⟩⟩;rcases J8.mp hz with hz|hz
    ·exact hL z hz
    ·obtain⟨p,X,e1,hp'⟩:=hL' z hz;refine⟨i::p,X,?_,y,ey,hp'⟩;rw[e1];simp[ptL]
   ·obtain⟨L,s3,s4,rfl,rfl,l1,l2,hL⟩:=hI;rw[Ey,T8] at l2;have i4:xs.length*5 ^ e<=4*5 ^ e:=Nat.mul_le_mul_right _ hx4;exact h L l1 (by omega) hL
  | str z =>
   walk_at "pu";exact h _ (by simp) (by simpa using p1) λy hy=>⟨[],.str z,by rw[E2.mp hy];simp[ptL],rfl⟩
  |_=>cases d <;> cases ok
theorem m_part {T X:PV}{p:List Nat}{n:Nat}{R:PV->Nat->Prop}(hp:Pt T p X)(h:R X n):Fy [T,.lst (ptL p)] n R:=by
 refine⟨rfl,?_⟩;unfold LF
 have key:∀(p:List Nat) (T:PV) (Q:PV) (s2:Option Pu.Slot),Pt T p X->forL (gN 2) (qSet 0 (qOp wIx (qV 0) (qV 2))) { nx:=λenv m=>qRet (qV 0) { nx:=λ_ m=>R PV.non m,rt:=R } env m,rt:=R } (ptL p) [some (.v T),some (.v Q),s2] n:=by
  intro p
  induction p with
  | nil =>
   intro T Q s2 hp;cases(show T=X from hp);exact h
  | cons i p ih =>
   intro T Q s2 hp;cases T with
   | tup xs =>
    obtain⟨x,ex,hp⟩:=hp;have:=ih x Q (some (.v (.int (i:Int)))) hp;unfold ptL at this ⊢;rw[F2];unfold forL;generalize p.map (λk:Nat=>PV.int (k:Int))=P at *;walk_at "pu";rw[CG ex];exact this
   |_=>exact hp.elim
 exact key p T _ none hp
def putP:PV->List Nat->PV->PV
 |_,[],Y=>Y
 |.tup xs,i::p,Y=>.tup (xs.take i++[putP (xs[i]?.getD .non) p Y]++xs.drop (i+1))
 |T,_::_,_=>T
theorem m_put:∀{f:Nat} {p:List Nat} {d:Nat} {T X Y:PV} {n:Nat} {R:PV->Nat->Prop},p.length<f->okD d T=true->Pt T p X->R (putP T p Y) n->BV f [T,.lst (ptL p),Y] n R
 |0,p,d,T,X,Y,n,R,hf,ok,hp,h=>absurd hf (by omega)
 | f + 1, p, d, T, X, Y, n, R, hf, ok, hp, h => by
  refine⟨rfl,?_⟩;have ih:=λp' d' T' (R':PV->Nat->Prop)=>@m_put f p' d' T' X Y n R';show Io (BV f) _ _ _;generalize BV f=B at *;unfold Io;cases p with
  | nil =>
   rw[show ptL []=[] from rfl];walk_at "pu";exact h
  | cons i p =>
   cases T with
   | tup xs =>
    obtain⟨x,ex,hp⟩:=hp;obtain⟨d',rfl,hx4,hx⟩:=BX ok;have ix:=ih p d' x;have e1:ptL (i::p)=.int (i:Int)::ptL p:=rfl
    have ce:(ptL (i::p)).all (cmpb 3)=true:=E4.mpr λy hy=>by
     obtain⟨k,_,rfl⟩:=G0.mp hy
     rfl
    have c1:cutP (PV.int (i:Int)::ptL p) (some 1) none=ptL p:=Fb (PV.int (i:Int)::ptL p) 1;have c2:=HN xs i;have c3:cutP xs (some ((i:Int)+1)) none=xs.drop (i+1):=Fb xs (i+1);have a0:atI (PV.int (i:Int)::ptL p) ((0:Nat):Int)=some (.int (i:Int)):=CG rfl
    have hv:R (.tup (xs.take i++[putP x p Y]++xs.drop (i+1))) n:=by
     have:putP (.tup xs) (i::p) Y=.tup (xs.take i++[putP x p Y]++xs.drop (i+1)):=by
      show PV.tup (xs.take i++[putP (xs[i]?.getD .non) p Y]++xs.drop (i+1))=_;rw[ex];rfl
     rw[<- this];exact h
    rw[e1] at ce ⊢;generalize ptL p=P at *;walk_at "pu";refine gd2 ce rfl (if_f rfl ?_);rw[show atI (PV.int (i:Int)::P) 0=_ from a0];dsimp only;rw[c2,CG ex];dsimp only;rw[c1,c3];refine ix _ (by rw[L8] at hf;omega) (hx x (J5 ex)) hp ?_;refine⟨by rw[P4];omega,by rw[E3,P4,W7];show _+1+_<=_;omega,hv⟩
   |_=>exact hp.elim
theorem Mc:∀{p:List Nat} {d e:Nat} {T X Y:PV},okD d T=true->Pt T p X->okT e Y=true->okT e (putP T p Y)=true
 |[],d,e,T,X,Y,ok,hp,hY=>hY
 | i :: p, d, e, T, X, Y, ok, hp, hY => by
  cases T with
  | tup xs =>
   obtain⟨x,ex,hp⟩:=hp;obtain⟨d',rfl,hx4,hx⟩:=BX ok;cases e with
   |zero=>rfl
   | succ e =>
    refine E4.mpr λy hy=>?_;rw[ex] at hy;have hz:∀z∈xs,okT e z=true:=λz hz=>BY e (hx z hz);rcases J8.mp hy with hy|hy
    ·rcases J8.mp hy with hy|hy
     ·exact hz y (l5 hy)
     ·rw[E2.mp hy];exact Mc (hx x (J5 ex)) hp (Ix hY)
    ·exact hz y (AT hy)
  |_=>exact hp.elim
theorem m_nest {q n:Nat}{R:PV->Nat->Prop}(hn:n<=999990000)(h:∀Y n',okT 2 Y=true->n'<=n+26->R Y n'):Fu [.pot (q+1)] n R:=by
 refine⟨rfl,?_⟩;unfold LA;walk_at "pu";refine⟨by omega,λd d0 d1=>?_⟩;obtain⟨x,hx,ex⟩:=j8 (xs:=[PV.int 1,PV.int 5,PV.int 24]) d0 d1;rw[ex]
 obtain⟨k,rfl,k0,k1⟩:∃k:Int,x=.int k/\0<=k/\k<=24:=by
  simp only[C6,h9,or_false] at hx;rcases hx with rfl|rfl|rfl <;> exact⟨_,rfl,by decide,by decide⟩
 dsimp only;refine⟨by omega,?_⟩;refine V6 (λi env m=>∃Y s2,env=[some (.v (.pot (q+1))),some (.v Y),s2]/\okT 2 Y=true/\m<=n+1+i) _ 0 _ _ ⟨_,none,rfl,by decide +kernel,by omega⟩ (λi x env m N ex hI hN=>?_) (λenv m hI=>?_)
 ·obtain⟨hi,rfl⟩:=CT ex;obtain⟨Y,s2,rfl,hY,hm⟩:=hI;have h1:okT 1 Y=true:=Ix hY;walk_at "pu";refine⟨by omega,λd d0 d1=>?_⟩;obtain⟨z,hz,ez⟩:=j8 (xs:=[PV.tup [Y],PV.lst [Y],PV.dct [X2 (A7 "a")] [Y]]) d0 d1;rw[ez];refine hN _ _ ⟨z,_,rfl,?_,by omega⟩;simp only[C6,h9,or_false] at hz;rcases hz with rfl|rfl|rfl
  ·show(okT 1 Y&&true)=true;rw[h1];rfl
  ·rfl
  ·rfl
 ·obtain⟨Y,s2,rfl,hY,hm⟩:=hI;rw[As] at hm;exact h Y m hY (by omega)
theorem FH {α:Type}{l:List α}{a b:Option Int}:(cutP l a b).length<=l.length:=by
 unfold cutP;rw[P4,W7];omega
theorem FI {xs:List PV}(h:∀x∈xs,okT 1 x=true){a b:Option Int}:∀x∈cutP xs a b,okT 1 x=true:=λx hx=>h x (OD x hx)
theorem FJ {xs ys:List PV}(h:∀x∈xs,okT 1 x=true)(h':∀x∈ys,okT 1 x=true):∀x∈xs++ys,okT 1 x=true:=λx hx=>(J8.mp hx).elim (h x) (h' x)
theorem Sz {q n:Nat}{X:PV}{bs:List Str}{d:Nat}{R:PV->Nat->Prop}(hb:∀z∈bs,F6 z)(b1:1<=bs.length)(b2:bs.length<=100)(ok:okD d X=true)(hn:n<=999980000)(h:∀Y n',okT 2 Y=true->n'<=n+40->R Y n'):Fv [.pot (q+1),X,rowP bs] n R:=by
 refine⟨rfl,?_⟩;unfold LB;have hr0:rowP bs=.tup (bs.map PV.str):=rfl;have Bl:(bs.map PV.str).length=bs.length:=B8 ..;have ob:∀z∈bs,∀e,okT e (.str z)=true:=λz hz e=>BY (d:=0) e (by rw[LZ];exact L_ (hb z hz))
 have hat:∀d:Int,0<=d->d<(bs.map PV.str).length->∃z:Str,atI (bs.map PV.str) d=some (.str z)/\z∈bs:=λd d0 d1=>by
  obtain⟨x,hx,ex⟩:=j8 d0 d1;obtain⟨z,hz,rfl⟩:=G0.mp hx;exact⟨z,ex,hz⟩
 rw[hr0];generalize hB:bs.map PV.str=B at *;have mn:∀{m:Nat} {R:PV->Nat->Prop},m<=n+4->(∀Y n',okT 2 Y=true->n'<=m+26->R Y n')->Fu [.pot (q+1)] m R:=λhm h=>m_nest (by omega) h;refine J4 λU hU=>?_;walk_at "pu";subst hU;refine J4 λU hU=>?_;have oX:okT 2 X=true:=BY 2 ok;have oX1:okT 1 X=true:=BY 1 ok
 have fin:∀(m:Nat) (s3 s4:Option Pu.Slot),s3=some (.v (.lst [.str (A7 "strange"),.str (A7 "twice"),.str (A7 "wrong"),.str (A7 "far"),.str (A7 "stays"),.str (A7 "cross"),.str (A7 "touch"),.str (A7 "drop"),.str (A7 "")]))->m<=n+1->U { nx:=λ_ m=>R PV.non m,rt:=R } [some (.v (.pot (q+1))),some (.v X),some (.v (.tup B)),s3,s4,none] m:=by
  intro m s3 s4 e3 hm;subst hU e3;refine J4 λU hU=>?_;walk_at "pu";refine⟨by omega,λa a0 a1=>?_⟩;obtain⟨w,hw,ew⟩:=j8 (xs:=[PV.str (A7 "strange"),.str (A7 "twice"),.str (A7 "wrong"),.str (A7 "far"),.str (A7 "stays"),.str (A7 "cross"),.str (A7 "touch"),.str (A7 "drop"),.str (A7 "")]) a0 a1
  have ow:okT 2 w=true:=by
   simp only[C6,h9,or_false] at hw;rcases hw with rfl|rfl|rfl|rfl|rfl|rfl|rfl|rfl|rfl <;> decide +kernel
  rw[ew];refine⟨by omega,λb b0 b1=>?_⟩;obtain⟨z,ez,hz⟩:=hat b b0 b1;rw[ez];dsimp only;subst hU;walk_at "pu";refine mn (by omega) λY n' hY hn'=>?_;walk_at "pu";refine⟨by omega,λe e0 e1=>?_⟩;obtain⟨v,hv,ev⟩:=j8 (xs:=[PV.non,PV.bl true,PV.int 1,w,PV.str z,PV.tup [],PV.lst [X],PV.tup [X],Y]) e0 e1;rw[ev];refine h v _ ?_ (by omega);simp only[C6,h9,or_false] at hv;rcases hv with rfl|rfl|rfl|rfl|rfl|rfl|rfl|rfl|rfl
  ·rfl
  ·rfl
  ·rfl
  ·exact ow
  ·exact ob z hz 2
  ·rfl
  ·rfl
  ·show(okT 1 X&&true)=true;rw[oX1];rfl
  ·exact hY
 cases X with
 | tup xs =>
  obtain⟨d',_,hx4,hx⟩:=BX ok;have hx1:∀x∈xs,okT 1 x=true:=λx hx'=>BY 1 (hx x hx');have fin:=λm hm=>fin m _ none rfl hm;walk_at "pu";refine⟨by omega,λe e0 e1=>?_⟩
  by_cases c:0<e
  ·refine if_t (jp c) ⟨by omega,λa a0 a1=>?_⟩;obtain⟨z,ez,hz⟩:=hat 0 (by decide) (by omega);rw[ez];dsimp only;have l1:=@FH _ xs none (some a);have l2:=@FH _ xs (some (a+1)) none;have l3:=@FH _ xs (some a) none;have l4:=@FH _ xs (some (-1)) none;have o1:=@FI xs hx1 none (some a);have o2:=@FI xs hx1 (some (a+1)) none;have o3:=@FI xs hx1 (some a) none;have o4:=@FI xs hx1 (some (-1)) none;generalize cutP xs none (some a)=c1 at *;generalize cutP xs (some (a+1)) none=c2 at *;generalize cutP xs (some a) none=c3 at *;generalize cutP xs (some (-1)) none=c4 at *;refine⟨by omega,by omega,by rw[E3,O7];omega,by omega,by omega,λe e0 e1=>?_⟩;obtain⟨v,hv,ev⟩:=j8 (xs:=[PV.tup (c1++c2),PV.tup (c1++[PV.str z]++c3),PV.tup xs.reverse,PV.lst xs,PV.tup (xs++c4)]) e0 e1;rw[ev];refine h v _ ?_ (by omega);simp only[C6,h9,or_false] at hv;rcases hv with rfl|rfl|rfl|rfl|rfl
   ·exact E4.mpr (FJ o1 o2)
   ·exact E4.mpr (FJ (FJ o1 λy hy=>by rw[E2.mp hy];exact ob z hz 1) o3)
   ·exact E4.mpr λy hy=>hx1 y (List.mem_reverse.mp hy)
   ·rfl
   ·exact E4.mpr (FJ hx1 o4)
  ·exact if_f (jq c) (fin _ (by omega))
 | str z =>
  have fin:=fin n _ none rfl (by omega);walk_at "pu";exact fin
 |_=>cases d <;> cases ok
theorem Md {e:Ev}(h:Good e):∀b∈evB e,F6 b:=by
 cases e with
 |d x=>intro b hb;rw[E2.mp hb];exact h
 | t x y =>
  intro b hb;rcases C6.mp hb with rfl|hb
  ·exact h.2.1
  ·rw[E2.mp hb];exact h.2.2
theorem SA {r:Int}{st:List Str}{es:List Ev}{w:Rs}(hst:RowS st)(hg:∀e∈es,Good e)(h:isRs r st es w):∀z∈rsB w,F6 z:=by
 have gb:∀z∈es.flatMap evB,F6 z:=λz hz=>by obtain⟨e,he,hz⟩:=l7.mp hz;exact Md (hg e he) z hz
 have gt:∀{x y},Tin st es x y->F6 x/\F6 y:=λh=>⟨hst.2 _ h.2.1,hst.2 _ h.2.2⟩;cases w with
 |strange b=>intro z hz;rw[E2.mp hz];exact gb b h.1
 | twice b =>
  intro z hz;rw[E2.mp hz];have h:2<=(es.filter λe=>decide (b∈evB e)).length:=h;obtain⟨e,he⟩:=List.exists_mem_of_length_pos (show 0<(es.filter λe=>decide (b∈evB e)).length by omega);obtain⟨he,hb⟩:=O8.mp he;exact Md (hg e he) b (ju hb)
 |wrong x y=>have:=gt h.1;simp[rsB,this]
 |far x y=>have:=gt h.1;simp[rsB,this]
 |stays x y z=>have:=gt h.1;have:=hst.2 z (l5 (AT h.2.1));simp[*,rsB]
 |cross x y x' y'=>have:=gt h.1;have:=gt h.2.1;simp[*,rsB]
theorem gd_of {e:Ev}(h:Good e):Gd F6 e:=by cases e <;> exact h
theorem m_law (ns:List Int)(hl:ns.length<=63):Ip ⟨λ_ _=>False,λr _=>r=.bl true,λ_ _=>False,λ_ _=>False⟩ (u4 ["_law_script","_law_k","_law_pot_here","_law_many","_law_boats_here","_law_reach","_law_start","_law_sheet_here","_law_word","_law_told","_law_tour","_law_thing","_law_path","_law_found"] [.scr ns]) 0:=by
 unfold Ip;refine J4 λV hV=>?_
 have hc:(cutP ns none (some 5)).length<=5:=by
  unfold cutP;rw[sx_int (by decide),P4];show min (min 5 ns.length-0) _<=5;omega
 simp only[qFor];walk_at "pd";refine⟨⟨by rw[B8];omega,by rw[B8];omega⟩,?_⟩;rw[B8];refine V6 (λi env m=>∃s1 s2 s3 s4 s5 s6 s7 s8 s9 s10 s11 s12 s13,env=[some (.v (.scr ns)),s1,s2,s3,s4,s5,s6,s7,s8,s9,s10,s11,s12,s13]/\m<=i*10000) _ 0 _ _ ⟨none,none,none,none,none,none,none,none,none,none,none,none,none,rfl,by omega⟩ (λi x env m N ex hI hN=>?_) (λenv m hI=>?_)
 ·obtain⟨hi,rfl⟩:=CT ex;obtain⟨s1,s2,s3,s4,s5,s6,s7,s8,s9,s10,s11,s12,s13,rfl,hm⟩:=hI;refine J4 λU hU=>?_;walk_at "pu";refine⟨⟨by omega,by omega⟩,λq=>?_⟩;subst hU;refine J4 λU hU=>?_;walk_at "pu";refine⟨by omega,λa a0 a1=>?_⟩;obtain⟨k,ek⟩:=Cy (show 0<=1+a by omega);rw[ek];subst hU;refine J4 λU hU=>?_;walk_at "pu";refine RT (by omega) (by omega) (by omega) λzs n1 lz rz h1=>⟨by omega,λr r0 r1=>?_⟩;subst hU;refine J4 λU hU=>?_;have hr0:rowP zs=.tup (zs.map PV.str):=rfl;have e1:cutP (zs.map PV.str) none (some (k:Int))=(zs.take k).map PV.str:=by rw[GT,HN]
  have e2:cutP (zs.map PV.str) (some (k:Int)) none=(zs.drop k).map PV.str:=by rw[GT,Fb]
  have l1:(zs.take k).length=k:=by rw[P4];omega
  have l2:(zs.drop k).length=2:=by rw[W7];omega
  have rz1:RowS (zs.take k):=⟨rz.1.sublist (List.take_sublist _ _),λz hz=>rz.2 z (l5 hz)⟩;rw[hr0];walk_at "pu";rw[e1];subst hU;refine J4 λU hU=>?_;have Zl:(zs.map PV.str).length=k+2:=by rw[B8];omega
  have z0:0<zs.length:=by omega
  have at0:atI (zs.map PV.str) 0=some (.str (nm zs 0)):=at_nm (i:=0) rfl z0;generalize hZ:zs.map PV.str=Z at *;generalize hA:(zs.take k).map PV.str=A at *;have bo:∀z∈zs.take k++zs.drop k,F6 z:=λz hz=>by rw[List.take_append_drop] at hz;exact rz.2 z hz
  have mb:∀{es:List Ev} {n:Nat} {R:PV->Nat->Prop},es.length<=60->(∀e∈es,Gd F6 e)->n<=999990000->(∀(es':List Ev) n',(∀e∈es',Gd F6 e)->es'.length<=es.length+1->n'<=n+10->R (shP es') n')->Dk [.pot (q+1),.tup A,shP es,.tup (cutP Z (some (k:Int)) none)] n R:=λle hg hn h=>by
   rw[e2,<- hA];exact m_bent (st:=zs.take k) (sp:=zs.drop k) (by rw[E3];omega) (by rw[E3];omega) bo le hg hn λes' n' hg' _ le' hn'=>h es' n' hg' le' hn'
  walk_at "pu";rw[<- hA];refine Sf (zs:=zs.take k) (by omega) (by omega) r0 (by omega) (by omega) λps ds es n2 sd pe se l3 l4 h2=>?_;have hg:∀e∈es,Gd F6 e:=λe he=>gd_of (Snd.good rz1 sd e (pe.mem_iff.mp he));have le:es.length<=48:=by rw[pe.length_eq];unfold Y5;rw[E3,B8,B8];omega
  clear pe sd;rw[show PV.tup ((zs.take k).map PV.str)=.tup A by rw[hA]];refine mb (by omega) hg (by omega) λes n3 hg le h3=>?_;subst hU;refine J4 λU hU=>?_
  have fin:∀(D:j7) (es:List Ev) (m3:Nat),D.nx=N->(∀e∈es,Gd F6 e)->es.length<=60->m3<=n3 + 20->U D [some (.v (.scr ns)),some (.v (.int (0 + i))),some (.v (.pot (q + 1))),some (.v (.int k)),some (.v (.tup Z)),some (.v (.int r)),some (.v (.tup A)),some (.v (shP es)),s8,s9,s10,s11,s12,s13] m3:=fun D es m3 hD hg le h4=>by
   have hg:∀e∈es,Good e:=λe he=>(hg e he).good λ_ h=>h
   have mo:∀{n:Nat} {R:PV->Nat->Prop},(∀ts:List Ev,R (.tup [.str (A7 "course"),.tup (ts.map evP)]) n)->(∀w,isRs r (zs.take k) es w->R (.tup [.str (A7 "unsound"),rsP w]) n)->Fo [.tup A,.int r,shP es] n R:=λq q'=>by
    rw[<- hA];exact Sc (st:=zs.take k) (by omega) rz1.1 hg (by omega) (λ_ ts _ _=>q _) q'
   have mw:∀{T:PV} {n:Nat} {R:PV->Nat->Prop},okT 2 T=true->(∀c:Bool,(c=true↔∃w,T=rsP w/\isRs r (zs.take k) es w)->R (.bl c) n)->Ft [.tup A,.int r,shP es,T] n R:=λh q=>by
    rw[<- hA];exact Sv (st:=zs.take k) rz1 hg (by omega) (by omega) h q
   have mr:∀{T:PV} {n:Nat} {R:PV->Nat->Prop},okT 2 T=true->(∀c:Bool,(c=true↔∃w,T=rsP w/\isRs r (zs.take k) es w)->R (.bl c) n)->Fx [.tup A,.int r,shP es,T] n R:=λh q=>by
    rw[<- hA];exact Sy (st:=zs.take k) (by omega) (by omega) h q
   have mx:∀{X:PV} {d n:Nat} {R:PV->Nat->Prop},okD d X=true->n<=999980000->(∀Y n',okT 2 Y=true->n'<=n+40->R Y n')->Fv [.pot (q+1),X,.tup Z] n R:=λh hn h'=>by
    rw[<- hZ];exact Sz (bs:=zs) rz.2 (by omega) (by omega) h hn h'
   generalize hS:shP es=S at *;subst hU;refine J4 λU hU=>?_
   have fin2:∀(D:j7) (T:PV) (W:Str),D.nx=N->(W=A7 "course"\/(W=A7 "unsound"/\okD 2 T=true))->U D [some (.v (.scr ns)),some (.v (.int (0+i))),some (.v (.pot (q+1))),some (.v (.int k)),some (.v (.tup Z)),some (.v (.int r)),some (.v (.tup A)),some (.v S),some (.v (.str W)),some (.v T),s10,s11,s12,s13] m3:=λD T W hD hW=>by
    subst hU;refine J4 λU hU=>?_
    have fin3:∀(T:PV) (s8:Option Pu.Slot),okD 2 T=true->U D [some (.v (.scr ns)),some (.v (.int (0+i))),some (.v (.pot (q+1))),some (.v (.int k)),some (.v (.tup Z)),some (.v (.int r)),some (.v (.tup A)),some (.v S),s8,some (.v T),s10,s11,s12,s13] m3:=λT s8 oD=>by
     have mp:∀{n:Nat} {R:PV->Nat->Prop},(∀L:List PV,1<=L.length->L.length<=25->(∀y∈L,∃p X,y=.lst (ptL p)/\Pt T p X)->R (.lst L) n)->Dm [T,.lst []] n R:=λh=>Mb (d:=2) (by decide) (by decide) (by decide) oD λL h1 h2 h3=>h L h1 (by omega) λy hy=>by
      obtain⟨p,X,e,hp⟩:=h3 y hy;exact⟨p,X,by rw[e,List.nil_append],hp⟩
     subst hU;simp only[qFor];walk_at "pd";refine⟨by decide,?_⟩;refine V6 (λu env m=>∃t10 t11 t12 t13,env=[some (.v (.scr ns)),some (.v (.int (0+i))),some (.v (.pot (q+1))),some (.v (.int k)),some (.v (.tup Z)),some (.v (.int r)),some (.v (.tup A)),some (.v S),s8,some (.v T),t10,t11,t12,t13]/\m<=m3+u*50) _ 0 _ _ ⟨s10,s11,s12,s13,rfl,by omega⟩ (λu x env m4 N2 ex2 hI hN2=>?_) (λenv m4 hI=>?_)
     ·obtain⟨hu,rfl⟩:=CT ex2;obtain⟨t10,t11,t12,t13,rfl,h5⟩:=hI;have hu:u<19:=hu;refine J4 λU hU=>?_;walk_at "pu";refine mp λL h1 h2 hL=>?_;subst hU;refine J4 λU hU=>?_;walk_at "pu";refine⟨⟨by omega,by omega,by omega⟩,λd d0 d1=>?_⟩;obtain⟨y,hy,ey⟩:=j8 d0 d1;obtain⟨p,X,rfl,hp⟩:=hL y hy;rw[ey];dsimp only;subst hU;refine J4 λU hU=>?_;obtain⟨p2,oX⟩:=Pt.ok oD hp
      have last:∀(D:j7) (Y:PV) (m5:Nat),D.nx=N2->okT 2 Y=true->m5<=m4+45->U D [some (.v (.scr ns)),some (.v (.int (0+i))),some (.v (.pot (q+1))),some (.v (.int k)),some (.v (.tup Z)),some (.v (.int r)),some (.v (.tup A)),some (.v S),s8,some (.v T),some (.v (.int (0+u))),some (.v Y),some (.v (.lst (ptL p))),t13] m5:=λD Y m5 hD oY h6=>by
       subst hU;refine J4 λU hU=>?_;walk_at "pu";refine mw oY λc hc=>?_;subst hU;walk_at "pu";refine mr oY λc' hc'=>?_;have e:c=c':=i5.mpr (hc.trans hc'.symm);subst e;refine if_f (by rw[Hk];simp) ?_;rw[hD];exact hN2 _ _ ⟨_,_,_,_,rfl,by omega⟩
      have mq:∀{n:Nat} {R:PV->Nat->Prop},R X n->Fy [T,.lst (ptL p)] n R:=λh=>m_part hp h;have mu:∀{Y:PV} {n:Nat} {R:PV->Nat->Prop},R (putP T p Y) n->Do [T,.lst (ptL p),Y] n R:=λh=>m_put (by omega) oD hp h;generalize ptL p=P at *;walk_at "pu"
      by_cases c:(0:Int)<0+u
      ·refine if_t (jp c) (mq (mx oX (by omega) λY n' hY hn'=>mu (last _ _ _ rfl (Mc oD hp hY) (by omega))))
      ·exact if_f (jq c) (last _ _ _ rfl (BY 2 oD) (by omega))
     ·obtain⟨t10,t11,t12,t13,rfl,h5⟩:=hI;rw[As] at h5;rw[hD];exact hN _ _ ⟨_,_,_,_,_,_,_,_,_,_,_,_,_,rfl,by omega⟩
    rcases hW with rfl|⟨rfl,oD⟩
    ·walk_at "pu";rw[at0];refine fin3 _ _ ?_;exact Ma (w:=.twice (nm zs 0)) λz hz=>by rw[E2.mp hz];exact rz.2 _ (E_ z0)
    ·walk_at "pu";exact if_f (by decide) (fin3 T _ oD)
   walk_at "pu";refine mo (λts=>?_) λw hw=>?_
   ·exact⟨rfl,fin2 _ _ _ hD (.inl rfl)⟩
   ·exact⟨rfl,fin2 _ _ _ hD (.inr ⟨rfl,Ma (SA rz1 hg hw)⟩)⟩
  walk_at "pu";refine⟨by omega,λd d0 d1=>?_⟩
  by_cases c:d=0
  ·exact if_t (jp c) (mb (by omega) hg (by omega) λes' n' hg' le' hn'=>fin _ es' n' rfl hg' (by omega) (by omega))
  ·exact if_f (jq c) (fin _ es _ rfl hg (by omega) (by omega))
 ·subst hV
  rfl
end Tb
end
section
namespace Tb
open PySem L2 Pu
section
variable {P:D1}{w:C8}{K:A8}{mg:Str->Option A1}{base:B7}
theorem ok_pot (F:Fn0 K mg "_law_pot" (top 24))(m_len:mg "len"=none)(m_abs:mg "abs"=none)(m_int:mg "int"=none):Kn P w K mg base "_law_pot" 1 ["_law_script","_law_k"] (Pu.EE K):=by
 have sc:R8 ["_law_script","_law_k","_law_cell","_law_size","_law_own"] ["_law_script","_law_k"] (F3 (top 24)):=⟨rfl,rfl,rfl,by decide +kernel,rfl,by decide +kernel,by decide +kernel⟩;refine F.ok sc (λvs H Q E h=>?_) (λ_ _ _ _ _ _=>bd2 λ_ _=>rfl) (λf jn A outer s H vs Q E hr h=>?_)
 ·obtain⟨a,ns,k,rfl,_⟩:=h
  rfl
 obtain⟨a,ns,k,rfl,hS,h0,h1,q⟩:=h
 refine⟨_,(X6 (p6 (i:=2) sc.nd rfl (Or.inl rfl) (Ga (CD Gm (pv 1) (Z7 IX rfl m_len Ej (E8 (pv 0) J6)) (C7 _)) (i9 q8 (pv 0) (pv 1) (λ_ _=>rfl)) K4))
     (X6 (p6 (i:=3) sc.nd rfl (Or.inl rfl) (L3 p7 (L3 p8 K4 (Z7 Nd rfl m_abs bt_abs (E8 (pv 2) J6))) (Bw Nh rfl m_int bt_int (E8 (IJ Gm (pv 2) K4 (C7 _)) J6))))
     (X6 (p6 (i:=4) sc.nd rfl (Or.inl rfl) (Ga (CD op_ge (pv 3) (L3 op_pow K4 K4) (C7 _)) (pv 3) K4))
     (Eg (CC (IM (E8 (pv 4) (E8 (L3 p7 (L3 p7 (L3 Ah (pv 3) K4) (L3 p8 K4 (pv 1))) K4) (E8 K4 J6))))))))),?_⟩
 refine Jg (λv=>∃c:Int,v=.int c) (λkey=>?_) ?_
 ·refine⟨_,rfl,_,rfl,a,_,rfl,.inl hS,_,_,rfl,rfl,_,rfl,?_⟩;refine ite2 (λc=>?_) (λc=>?_)
  ·have c':k<(((ns.map V.int).length:Nat):Int):=ju c;rw[B8] at c';obtain⟨v,qa⟩:=at_map (ns:=ns) h0 c';exact⟨_,rfl,_,rfl,a,_,_,_,rfl,rfl,hS,qa,key _ ⟨_,rfl⟩⟩
  ·exact key _ ⟨0,rfl⟩
 rintro v ⟨c,rfl⟩;refine⟨_,rfl,_,rfl,_,_,rfl,rfl,.inl ⟨by decide,by decide⟩,?_⟩;refine⟨_,rfl,_,_,rfl,rfl,.inr ⟨_,rfl,?_⟩⟩;refine⟨_,_,rfl,rfl,?_⟩;dsimp only[M1];generalize hz:(2:Int)*(if c<0 then -c else c)+(if decide (c<0)=true then 1 else 0)=z;have z0:0<=z:=by rw[<- hz];split <;> split <;> omega
 have m0:=Bp z (show(2305843009213693951:Int)≠0 by decide);have m1:=Bn z (show(0:Int)<2305843009213693951 by decide);refine Jg (λv=>∃o:Int,v=.int o/\0<=o) (λkey=>?_) ?_
 ·refine⟨_,rfl,_,_,rfl,rfl,⟨by decide,by decide,by decide⟩,_,_,rfl,rfl,_,rfl,?_⟩;exact ite2 (λ_=>⟨_,rfl,key _ ⟨_,rfl,z0⟩⟩) (λ_=>key _ ⟨_,rfl,by decide⟩)
 rintro v ⟨o,rfl,o0⟩;refine⟨_,rfl,_,rfl,_,_,rfl,rfl,(by show(0:Int)<2305843009213693951;decide),_,rfl,_,_,rfl,rfl,.inl ⟨by decide,by decide⟩,_,_,rfl,rfl,_,_,rfl,rfl,(by show 3<=C4;decide),λp hp=>?_⟩;exact q p _ _ hp ⟨o0,by omega,by omega,by decide,by decide⟩
theorem SC (F:Fn0 K mg "_law_draw" (top 25)):Kn P w K mg base "_law_draw" 1 ["_law_pot_here","_law_many"] (E6 K potL BH):=by
 refine OA ?_;have sc:R8 ["_law_pot_here","_law_many","_law_digit","_law_go","_law_mixed"] ["_law_pot_here","_law_many"] (F3 (top 25)):=⟨rfl,rfl,rfl,by decide +kernel,rfl,by decide +kernel,by decide +kernel⟩;refine F.ok sc (λvs H Q E h=>?_) (λ_ _ _ _ _ _=>bd2 λ_ _=>rfl) (λf jn A outer s H vs Q E hr h=>?_)
 ·obtain⟨p,own,seed,go,many,rfl,_⟩:=h
  rfl
 obtain⟨p,own,seed,go,many,rfl,hp,⟨o0,s0,s1,g0,g1⟩,g2,n0,n1,q⟩:=h
 refine⟨_,(X6 (ps_if (CD op_gt (i9 q8 (pv 0) K4 (λ_ _=>rfl)) K4 (C7 _)) (X6 (p6 (i:=2) sc.nd rfl (Or.inl rfl) (L3 Ah (i9 q8 (pv 0) K4 (λ_ _=>rfl)) (pv 1)))
     (X6 (Gg (L3 Gj (i9 q8 (pv 0) K4 (λ_ _=>rfl)) (pv 1)) (Gf (pv 0) K4 Gw))
     (Eg (CC (pv 2))))) IH)
     (X6 (Gg (L3 p7 (i9 q8 (pv 0) K4 (λ_ _=>rfl)) K4) (Gf (pv 0) K4 Gw))
     (X6 (p6 (i:=3) sc.nd rfl (Or.inl rfl) (i9 q8 (pv 0) K4 (λ_ _=>rfl)))
     (X6 (p6 (i:=4) sc.nd rfl (Or.inl rfl) (L3 Ah (L3 p8 (L3 p7 (i9 q8 (pv 0) K4 (λ_ _=>rfl)) (L3 p8 K4 (pv 3))) (L3 p7 (L3 p8 (L3 p8 (pv 3) (pv 3)) K4) K4)) K4))
     (X6 (p6 (i:=4) sc.nd rfl (Or.inl rfl) (L3 Ah (L3 p8 (pv 4) (L3 p7 (L3 Ah (pv 4) K4) (pv 3))) K4))
     (Eg (CC (L3 Ah (L3 Gj (pv 4) K4) (pv 1))))))))),?_⟩
 refine⟨_,rfl,p,_,0,_,rfl,rfl,SqL.of hp,rfl,_,_,rfl,rfl,_,rfl,?_⟩;refine ite2 (λc=>?_) (λc=>?_)
 ·refine⟨_,rfl,p,_,0,_,rfl,rfl,SqL.of hp,rfl,_,rfl,_,_,rfl,rfl,n0,?_⟩;refine⟨_,rfl,p,_,0,_,rfl,rfl,SqL.of hp,rfl,_,rfl,_,_,rfl,rfl,⟨n0,by omega⟩,?_⟩;refine⟨_,rfl,p,_,0,0,rfl,rfl,hp,rfl,?_⟩;refine⟨_,rfl,?_⟩;exact q _ _ _ _ (Bp _ (by omega)) (Bn _ n0) ⟨Int.ediv_nonneg o0 (by omega),s0,s1,g0,g1⟩ (by omega)
 ·refine⟨_,rfl,p,_,2,_,rfl,rfl,SqL.of hp,rfl,_,_,rfl,rfl,?_⟩;refine⟨_,rfl,p,_,2,2,rfl,rfl,hp,rfl,?_⟩;refine⟨_,rfl,p,_,2,_,rfl,rfl,SqL.of E7,rfl,?_⟩;refine⟨_,rfl,p,_,1,_,rfl,rfl,SqL.of E7,rfl,_,rfl,_,_,rfl,rfl,.inl ⟨by decide,by decide⟩,_,_,rfl,rfl,?_⟩;refine⟨_,rfl,_,rfl,_,_,rfl,rfl,.inl ⟨by omega,by omega⟩,_,_,rfl,rfl,.inr ⟨by decide,by decide⟩,_,_,rfl,rfl,_,_,rfl,rfl,.inl ⟨by omega,by omega⟩,_,_,rfl,rfl,(by show(0:Int)<2305843009213693921;decide),?_⟩;dsimp only[M1];generalize (seed+40503*(go+1))*((go+1)*(go+1)*65539+97)=y;have m0:=Bp y (show(2305843009213693921:Int)≠0 by decide);have m1:=Bn y (show(0:Int)<2305843009213693921 by decide);generalize y%2305843009213693921=z at m0 m1 ⊢;refine⟨_,rfl,_,rfl,_,_,rfl,rfl,(by show(0:Int)<1000003;decide),_,rfl,_,_,rfl,rfl,_,_,rfl,rfl,.inl ⟨by omega,by omega⟩,_,_,rfl,rfl,(by show(0:Int)<2305843009213693907;decide),?_⟩;refine⟨_,rfl,_,_,rfl,rfl,⟨by decide,by decide⟩,_,rfl,_,_,rfl,rfl,n0,?_⟩;exact q _ _ _ _ (Bp _ (by omega)) (Bn _ n0) ⟨o0,s0,s1,by omega,by omega⟩ (by omega)
theorem SD {Pt:A0}{lpos:Pos}{qual:Str}(F:Fn0 K mg "_law_draw" (top 25)):Kn P w K mg base "_law_draw" 1 ["_law_pot_here","_law_many"] (E6 K (tabK potL Pt lpos qual) BQ):=Qe (SC F) rfl
end
end Tb
end
section
namespace Pu
open PySem PySem.Spec L2
section
variable {T:PotK}{ι:Type}{K:A8}{F:ι->Cx}{e:Expr}{es:List Expr}{st:Stmt}{pe:pE}{pl:pA}{pos:Pos}{np:Bool}{x:Str}
theorem qv (i:Nat)(h:∀z,EW (F z) (.Name x pos) (tVar i):=by exact λ_=>vw _):QE T K F (.Name x pos) (qV i):=qe_var i h
theorem qf {p:Pos}{f:pF}{ps:List Str}{k j:Nat}{P:D1}{w:C8}{K0:A8}{mg:Str->Option A1}{base:B7}{A:D5}(hG:Kn P w K0 mg base x k ps (E6 K T f))(hr:Room j A)(ha:QA T K F (e::es) pl)(hF:∀z,(F z).prog=P/\(F z).w=w/\(F z).K=K0/\(F z).mg=mg/\(F z).base=base/\(F z).A=A:=by exact λ_=>⟨rfl,rfl,rfl,rfl,rfl,rfl⟩)(hk:k<=j:=by decide)(hg:∀z,Gl (F z) x:=by intro _;rfl)(hdb:(x == ("__debug__":Str))=false:=by decide)(hs:F5 e=true:=by rfl)(hpl:∀z,(backTo pos (E9 es (F z).env)).any (·.1)=false:=by intro _;rfl):QE T K F (.Call (.Name x p) (e::es) [] pos) (B5 f pl):=Ex (λz=>by obtain⟨h1,h2,h3,h4,h5,_⟩:=hF z;rw[h1,h2,h3,h4,h5];exact hG) (λz=>by rw[(hF z).2.2.2.2.2];exact hr) hk hg ha hdb hs hpl
theorem gn (i:Nat){N:List Str}(hN:N.Nodup)(hNF:∀z,(F z).N=N:=by exact λ_=>rfl)(hi:∀z,(F z).N[i]?=some x:=by intro _;rfl)(hx:∀z,Loc (F z).env.scope x:=by intro _;first|exact Or.inl rfl|exact Or.inr rfl)(hf:∀z,(F z).fn x=true\/(F z).env.scope.names.lookup x=some .local:=by intro _;first|exact .inl rfl|exact .inr rfl|assumption):QG K F (.Name x pos) (gN i):=Op λz=>Am i (hNF z▸hN) (hi z) (hx z) (hf z)
theorem sws (i:Nat){pos':Pos}{N:List Str}(hN:N.Nodup)(hNF:∀z,(F z).N=N:=by exact λ_=>rfl)(hi:∀z,(F z).N[i]?=some x:=by intro _;rfl)(hx:∀z,Loc (F z).env.scope x:=by intro _;first|exact Or.inl rfl|exact Or.inr rfl)(hs:∀z,k9 e (some (.Name x pos')) pos.line (F z).env=pure false:=by intro _;rfl)(hf:∀z,(F z).fn x=true\/(F z).env.scope.names.lookup x=some .local:=by intro _;first|exact .inl rfl|exact .inr rfl|assumption)(z:ι)(te:TE)(h:EW (F z) e te):SW (F z) (.Assign [.Name x pos'] e pos) (tAsg te (M1 i)):=sw_set (hNF z▸hN) (hi z) (hx z) (hs z) (hf z) te h
end
section
variable {P:D1}{w:C8}{K:A8}{mg:Str->Option A1}{base:B7}{T:PotK}{x:Str}{st:Stmt}{N ps:List Str}{k:Nat}{body:pS}
theorem fnk (F0:Fn0 K mg x st)(h:R8 N ps (F3 st)->∀(f:A0) (jn:A1) (A:D5) (outer:List PySem.Env) (s:A5) (H:Hp) (E:XK),Room k (A.deeper (DV x (F3 st) s.heap.objs.size f jn))->
     QSs T false K (λ_:Unit=>(cxOf CX0 P w K mg base N x (F3 st) f jn A outer s H E).nox) (N3 st) body) (sc:R8 N ps (F3 st):=by exact⟨rfl,rfl,rfl,by decide +kernel,rfl,by decide +kernel,by decide +kernel⟩)
   (bd:∀(kV doc pm:A1) (an:Option A0) (jn ct:A1) (us:List A1),us.length=ps.length->V9 (U8 x x (R9 st) (N3 st) (F3 st) .none kV doc pm an jn ct) ⟨us,[]⟩=pure (ps.zip us):=by intro _ _ _ _ _ _;first|exact bd1 λ_=>rfl|exact bd2 λ_ _=>rfl|exact bd3 λ_ _ _=>rfl|exact bd4 λ_ _ _ _=>rfl|exact bd5 λ_ _ _ _ _=>rfl) :
   Kn P w K mg base x (k+1) ps (E6 K T (fnP N ps body)):=fn_ok F0 sc bd (h sc)
end
end Pu
end
section
namespace Tb
open PySem L2 Pu
section
variable (P:D1)(w:C8)(K:A8)(mg:Str->Option A1)(base:B7)(Pt:A0)
abbrev SE:Prop:=Kn P w K mg base "_law_pot" 1 ["_law_script","_law_k"] (EE K)
abbrev AF:Prop:=Kn P w K mg base "_law_draw" 1 ["_law_pot_here","_law_many"] (E6 K (tabK potL Pt lamP lamQ) BQ)
abbrev Me:Prop:=Kn P w K mg base "_law_bent" 2 ["_law_pot_here","_law_start","_law_sheet_here","_law_spare"] (E6 K (tabK potL Pt lamP lamQ) Dk)
abbrev BZ:Prop:=Kn P w K mg base "boats_of" 1 ["events"] (E6 K (tabK potL Pt lamP lamQ) w6)
abbrev Mf:Prop:=Kn P w K mg base "boat_reason" 2 ["start","sheet"] (E6 K (tabK potL Pt lamP lamQ) Fi)
abbrev Iy:Prop:=Kn P w K mg base "touches_of" 1 ["events"] (E6 K (tabK potL Pt lamP lamQ) BU)
abbrev Iz:Prop:=Kn P w K mg base "is_wrong" 1 ["start","touch"] (E6 K (tabK potL Pt lamP lamQ) Fj)
abbrev B_:Prop:=Kn P w K mg base "between" 1 ["start","touch"] (E6 K (tabK potL Pt lamP lamQ) Y3)
abbrev IA:Prop:=Kn P w K mg base "is_far" 2 ["start","reach","touch"] (E6 K (tabK potL Pt lamP lamQ) Fk)
abbrev Mg:Prop:=Kn P w K mg base "touch_reason" 3 ["start","reach","sheet","touch"] (E6 K (tabK potL Pt lamP lamQ) Fl)
abbrev IB:Prop:=Kn P w K mg base "is_cross" 2 ["start","one","other"] (E6 K (tabK potL Pt lamP lamQ) Dl)
abbrev Mh:Prop:=Kn P w K mg base "cross_reason" 3 ["start","touch","touches"] (E6 K (tabK potL Pt lamP lamQ) Fm)
abbrev Mi:Prop:=Kn P w K mg base "reason_of" 4 ["start","reach","sheet"] (E6 K (tabK potL Pt lamP lamQ) Fn)
abbrev Mj:Prop:=Kn P w K mg base "order_of" 5 ["start","reach","sheet"] (E6 K (tabK potL Pt lamP lamQ) Fo)
abbrev Ml:Prop:=Kn P w K mg base "_law_shuffled" 2 ["_law_pot_here","_law_some"] (E6 K (tabK potL Pt lamP lamQ) Fp)
abbrev Mm:Prop:=Kn P w K mg base "_law_boats" 3 ["_law_pot_here","_law_many"] (E6 K (tabK potL Pt lamP lamQ) Ie)
abbrev Mn:Prop:=Kn P w K mg base "_law_apart" 1 ["_law_one","_law_other"] (E6 K (tabK potL Pt lamP lamQ) Ig)
abbrev Mo:Prop:=Kn P w K mg base "_law_sheet" 2 ["_law_pot_here","_law_start","_law_reach"] (E6 K (tabK potL Pt lamP lamQ) Ih)
abbrev FK:Prop:=Kn P w K mg base "is_boat" 1 ["thing"] (E6 K (tabK potL Pt lamP lamQ) Y4)
abbrev Mp:Prop:=Kn P w K mg base "shows_boat" 2 ["start","sheet","word","thing"] (E6 K (tabK potL Pt lamP lamQ) Fq)
abbrev Mq:Prop:=Kn P w K mg base "is_touch" 2 ["thing"] (E6 K (tabK potL Pt lamP lamQ) Fs)
abbrev FL:Prop:=Kn P w K mg base "is_known" 3 ["start","sheet","thing"] (E6 K (tabK potL Pt lamP lamQ) d8)
abbrev Mr:Prop:=Kn P w K mg base "shows_touch" 4 ["start","reach","sheet","word","thing"] (E6 K (tabK potL Pt lamP lamQ) Ik)
abbrev Ms:Prop:=Kn P w K mg base "shows_stays" 4 ["start","sheet","touch","thing"] (E6 K (tabK potL Pt lamP lamQ) Il)
abbrev Mt:Prop:=Kn P w K mg base "shows_cross" 4 ["start","sheet","one","other"] (E6 K (tabK potL Pt lamP lamQ) Im)
abbrev Mu:Prop:=Kn P w K mg base "shows_unsound" 5 ["start","reach","sheet","thing"] (E6 K (tabK potL Pt lamP lamQ) Ft)
abbrev Mv:Prop:=Kn P w K mg base "_law_paths" 9 ["_law_thing","_law_path"] (E6 K (tabK potL Pt lamP lamQ) Dm)
abbrev Mw:Prop:=Kn P w K mg base "_law_put" 9 ["_law_thing","_law_path","_law_part_here"] (E6 K (tabK potL Pt lamP lamQ) Do)
abbrev Mx:Prop:=Kn P w K mg base "_law_nest" 2 ["_law_pot_here"] (E6 K (tabK potL Pt lamP lamQ) Fu)
abbrev My:Prop:=Kn P w K mg base "_law_otherwise" 3 ["_law_pot_here","_law_part_here","_law_boats_here"] (E6 K (tabK potL Pt lamP lamQ) Fv)
abbrev Mz:Prop:=Kn P w K mg base "_law_between" 1 ["_law_start","_law_event"] (E6 K (tabK potL Pt lamP lamQ) Fw)
abbrev MA:Prop:=Kn P w K mg base "_law_is_touch" 1 ["_law_start","_law_sheet_here","_law_thing"] (E6 K (tabK potL Pt lamP lamQ) Dp)
abbrev MB:Prop:=Kn P w K mg base "_law_is_reason" 2 ["_law_start","_law_reach","_law_sheet_here","_law_thing"] (E6 K (tabK potL Pt lamP lamQ) Fx)
abbrev MC:Prop:=Kn P w K mg base "_law_part" 1 ["_law_thing","_law_path"] (E6 K (tabK potL Pt lamP lamQ) Fy)
end
section
variable {P:D1}{w:C8}{K:A8}{mg:Str->Option A1}{base:B7}{Pt cd:A0}
theorem SF (F0:Fn0 K mg "_law_bent" (top 33))(g1:AF P w K mg base Pt)(m7:mg "len"=none)(m8:mg "list"=none)(m12:mg "set"=none)(m13:mg "sorted"=none)(m15:mg "tuple"=none):Me P w K mg base Pt:=fnk F0 λsc _ _ _ _ _ _ _ hr=>(B4 (Ar 4 5 (λ_=>Aq (i:=4) (j:=5) rfl sc.nd rfl rfl (by decide) rfl rfl rfl) (ql_v (qf g1 hr (A4 (qv 0) (A4 B3 B2)))) (ql_v (qf g1 hr (A4 (qv 0) (A4 (J0 (K9 (λ_=>rfl) (λ_=>m7) (QE.r (qv 2))) B3) B2)))))
   (B4 (F9 6 (sws 6 sc.nd) (QN.ee (BI (QE.r (QN.ee (BC (λ_=>rfl) (λ_=>m8) (QE.r (qv 1))))) (QE.r (QN.ee (BC (λ_=>rfl) (λ_=>m8) (QE.r (qv 3))))))))
   (B4 (Ar 7 8 (λ_=>Aq (i:=7) (j:=8) rfl sc.nd rfl rfl (by decide) rfl rfl rfl) (ql_v (D2 (qv 6) (qf g1 hr (A4 (qv 0) (A4 (K9 (λ_=>rfl) (λ_=>m7) (QE.r (qv 6))) B2))))) (ql_v (D2 (qv 6) (qf g1 hr (A4 (qv 0) (A4 (K9 (λ_=>rfl) (λ_=>m7) (QE.r (qv 6))) B2))))))
   (B4 (F9 9 (sws 9 sc.nd) (qe_if (QW.qt (P2 (D4 (cEq 4 λ_=>hr) (qv 7) (QE.r (qv 8)) (C7 _)) (Q8 (D4 (cEq 4 λ_=>hr) (qf g1 hr (A4 (qv 0) (A4 B3 B2))) (QE.r B3) (C7 _))))) (QN.ee (M3 (A4 (K1 (A4 D6 (A4 (qv 7) B2))) B2))) (QN.ee (M3 (A4 (K1 (A4 D6 (A4 (qv 7) (A4 (qv 8) B2)))) B2)))))
   (B4 (E1 (QW.qt (P2 (D4 cGt (qv 4) (QE.r B3) (C7 _)) (Q8 (D4 (cEq 4 λ_=>hr) (qv 5) (QE.r (K9 (λ_=>rfl) (λ_=>m7) (QE.r (qv 2)))) (C7 _))))) (B6 (C9 (CP (λ_=>rfl) (λ_=>m15) (QE.r (QN.ee (KY (λ_=>rfl) (λ_=>hr) (λ_=>rfl) (λ_=>m13) (λ_=>rfl) (λ_=>m12) (QE.r (QN.ee (BI (QE.r (QN.ee (BC (λ_=>rfl) (λ_=>m8) (QE.r (qv 2))))) (QE.r (qv 9))))))))))) D9)
   (B4 (Ar 10 11 (λ_=>Aq (i:=10) (j:=11) rfl sc.nd rfl rfl (by decide) rfl rfl rfl) (ql_v (D2 (qv 2) (qv 5))) (ql_o (BC (λ_=>rfl) (λ_=>m8) (QE.r (J0 (N4 (qv 2) N8 (M8 (qv 5))) (N4 (qv 2) (M8 (J0 (qv 5) B3)) N8))))))
   (B4 (E1 (QW.qt (X8 (D4 (cEq 4 λ_=>hr) (qv 4) (QE.r B3) (C7 _)) (X7 (D4 (cEq 4 λ_=>hr) (D2 (qv 10) B3) (QE.r D6) (C7 _))))) (B6 (c8 (λ_=>c7) (Ao 11 (λ_=>vw 11) (K1 (A4 D6 (A4 (D2 (qv 10) B3) (A4 (D2 (qv 10) B3) B2))))))) D9)
   (B4 (E1 (D4 (cEq 4 λ_=>hr) (qv 4) (QE.r B3) (C7 _)) (B6 (c8 (λ_=>c7) (Hm 11 (λ_=>vw 11) (qv 9)))) D9)
   (B4 (E1 (QW.qt (X8 (D4 (cEq 4 λ_=>hr) (qv 4) (QE.r B3) (C7 _)) (X7 (D4 (b7 4 λ_=>hr) (qv 7) (QE.r (qv 10)) rfl)))) (B6 (c8 (λ_=>c7) (Ao 11 (λ_=>vw 11) (J0 (N4 (qv 10) N8 (M8 (GI (K9 (λ_=>rfl) (λ_=>m7) (QE.r (qv 10))) B3))) (K1 (A4 (qv 7) B2)))))) D9)
   (B6 (C9 (CP (λ_=>rfl) (λ_=>m15) (QE.r (QN.ee (KY (λ_=>rfl) (λ_=>hr) (λ_=>rfl) (λ_=>m13) (λ_=>rfl) (λ_=>m12) (P7 11 λ_=>vw 11))))))))))))))))
theorem SG (F0:Fn0 K mg "boats_of" (top 5)):BZ P w K mg base Pt:=fnk F0 λsc _ _ _ _ _ _ _ hr=>(B6 (C9 (QN.ee (PX (N:=["event","boat"]) (cs:=[none,none]) (λ_=>Z8 rfl rfl rfl rfl trivial rfl rfl rfl) (λ_=>rfl) (An (qv 0)) (gn 0 (show Q6 (["event","boat"]:List Str) by decide +kernel)) (An (N4 (qv 0) (M8 B3) N8)) (gn 1 (show Q6 (["event","boat"]:List Str) by decide +kernel)) BF (qv 1)))))
theorem SH (F0:Fn0 K mg "boat_reason" (top 11))(g3:BZ P w K mg base Pt):Mf P w K mg base Pt:=fnk F0 λsc _ _ _ _ _ _ _ hr=>(B4 (F9 2 (sws 2 sc.nd) (qf g3 hr (A4 (qv 1) B2)))
   (B4 (V5 (λ_=>rfl) (BD (qv 2)) (gn 3 sc.nd) (B4 (E1 (D4 (b7 4 λ_=>hr) (qv 3) (QE.r (qv 0)) rfl) (B6 (C9 (K1 (A4 D6 (A4 (qv 3) B2))))) D9)
   (B6 (E1 (D4 cGt (JH (qv 2) (qv 3)) (QE.r B3) (C7 _)) (B6 (C9 (K1 (A4 D6 (A4 (qv 3) B2))))) D9))))
   (B6 (C9 t4))))
theorem SI (F0:Fn0 K mg "touches_of" (top 6)):Iy P w K mg base Pt:=fnk F0 λsc _ _ _ _ _ _ _ hr=>(B6 (C9 (QN.ee (t8 (N:=["event"]) (cs:=[none]) (λ_=>Z8 rfl rfl rfl rfl trivial rfl rfl rfl) (λ_=>rfl) (An (qv 0)) (gn 0 (show Q6 (["event"]:List Str) by decide +kernel)) (Ez (D4 (cEq 4 λ_=>hr) (D2 (qv 0) B3) (QE.r D6) (C7 _))) (qv 0)))))
theorem SJ (F0:Fn0 K mg "is_wrong" (top 8)):Iz P w K mg base Pt:=fnk F0 λsc _ _ _ _ _ _ _ hr=>(B6 (C9 (G8 cGt (u9 (qv 0) (D2 (qv 1) B3)) (QE.r (u9 (qv 0) (D2 (qv 1) B3))) (C7 _))))
theorem SK (F0:Fn0 K mg "between" (top 7))(m13:mg "sorted"=none):B_ P w K mg base Pt:=fnk F0 λsc _ _ _ _ _ _ _ hr=>(B4 (BG (λ_=>c6) (QN.ee (Kh (λ_=>rfl) (λ_=>m13) (QE.r (QN.ee (M3 (A4 (u9 (qv 0) (D2 (qv 1) B3)) (A4 (u9 (qv 0) (D2 (qv 1) B3)) B2))))))) (qg_lst (λ_=>rfl) (L7 (gn 2 sc.nd) (L7 (gn 3 sc.nd) V3))))
   (B6 (C9 (N4 (qv 0) (M8 (J0 (qv 2) B3)) (M8 (qv 3))))))
theorem SL (F0:Fn0 K mg "is_far" (top 9))(g7:B_ P w K mg base Pt)(m7:mg "len"=none):IA P w K mg base Pt:=fnk F0 λsc _ _ _ _ _ _ _ hr=>(B6 (C9 (G8 cGt (K9 (λ_=>rfl) (λ_=>m7) (QE.r (qf g7 hr (A4 (qv 0) (A4 (qv 2) B2))))) (QE.r (qv 1)) (C7 _))))
theorem SM (F0:Fn0 K mg "touch_reason" (top 12))(g6:Iz P w K mg base Pt)(g8:IA P w K mg base Pt)(g3:BZ P w K mg base Pt)(g7:B_ P w K mg base Pt):Mg P w K mg base Pt:=fnk F0 λsc _ _ _ _ _ _ _ hr=>(B4 (E1 (M2 (qf g6 hr (A4 (qv 0) (A4 (qv 3) B2)))) (B6 (C9 (K1 (A4 D6 (A4 (qv 3) B2))))) D9)
   (B4 (E1 (M2 (qf g8 hr (A4 (qv 0) (A4 (qv 1) (A4 (qv 3) B2))))) (B6 (C9 (K1 (A4 D6 (A4 (qv 3) B2))))) D9)
   (B4 (F9 4 (sws 4 sc.nd) (qf g3 hr (A4 (qv 2) B2)))
   (B4 (V5 (λ_=>rfl) (An (qf g7 hr (A4 (qv 0) (A4 (qv 3) B2)))) (gn 5 sc.nd) (B6 (E1 (D4 (b7 4 λ_=>hr) (qv 5) (QE.r (qv 4)) rfl) (B6 (C9 (K1 (A4 D6 (A4 (qv 3) (A4 (qv 5) B2)))))) D9)))
   (B6 (C9 t4))))))
theorem SN (F0:Fn0 K mg "is_cross" (top 10))(g3:BZ P w K mg base Pt)(g7:B_ P w K mg base Pt)(m7:mg "len"=none)(m12:mg "set"=none):IB P w K mg base Pt:=fnk F0 λsc _ _ _ _ _ _ _ hr=>(B4 (E1 (D4 (cNe 4 λ_=>hr) (Rz (λ_=>rfl) (λ_=>rfl) (λ_=>m7) (λ_=>rfl) (λ_=>m12) (qf g3 hr (A4 (K1 (A4 (qv 1) (A4 (qv 2) B2))) B2))) (QE.r B3) (C7 _)) (B6 (C9 P1)) D9)
   (B4 (F9 3 (sws 3 sc.nd) (qf g7 hr (A4 (qv 0) (A4 (qv 1) B2))))
   (B6 (C9 (G8 (cNe 4 λ_=>hr) (G8 (cIn 4 λ_=>hr) (D2 (qv 2) B3) (QE.r (qv 3)) rfl) (QE.r (G8 (cIn 4 λ_=>hr) (D2 (qv 2) B3) (QE.r (qv 3)) rfl)) (C7 _))))))
theorem SO (F0:Fn0 K mg "cross_reason" (top 13))(g10:IB P w K mg base Pt):Mh P w K mg base Pt:=fnk F0 λsc _ _ _ _ _ _ _ hr=>(B4 (V5 (λ_=>rfl) (BD (qv 2)) (gn 3 sc.nd) (B6 (E1 (M2 (qf g10 hr (A4 (qv 0) (A4 (qv 1) (A4 (qv 3) B2))))) (B6 (C9 (K1 (A4 D6 (A4 (qv 1) (A4 (qv 3) B2)))))) D9)))
   (B6 (C9 t4)))
theorem SQ (F0:Fn0 K mg "reason_of" (top 14))(g4:Mf P w K mg base Pt)(g5:Iy P w K mg base Pt)(g11:Mh P w K mg base Pt)(g9:Mg P w K mg base Pt):Mi P w K mg base Pt:=fnk F0 λsc _ _ _ _ _ _ _ hr=>(B4 (F9 3 (sws 3 sc.nd) (qf g4 hr (A4 (qv 0) (A4 (qv 2) B2))))
   (B4 (E1 (D4 GO (qv 3) (QE.r t4) (C7 _)) (B6 (C9 (qv 3))) D9)
   (B4 (F9 4 (sws 4 sc.nd) (qf g5 hr (A4 (qv 2) B2)))
   (B4 (V5 (λ_=>rfl) (BD (qv 4)) (gn 5 sc.nd) (B4 (F9 3 (sws 3 sc.nd) (qe_orT (qf g9 hr (A4 (qv 0) (A4 (qv 1) (A4 (qv 2) (A4 (qv 5) B2))))) (T0 (qf g11 hr (A4 (qv 0) (A4 (qv 5) (A4 (qv 4) B2)))))))
   (B6 (E1 (D4 GO (qv 3) (QE.r t4) (C7 _)) (B6 (C9 (qv 3))) D9))))
   (B6 (C9 t4))))))
theorem SS (F0:Fn0C K mg "order_of" (top 15) cd)(hC:PySem.W.CodeHd base cd Pt)(hB:base.BuiltinsAt mg Pt)(g12:Mi P w K mg base Pt)(g5:Iy P w K mg base Pt)(g7:B_ P w K mg base Pt)(m7:mg "len"=none)(m13:mg "sorted"=none)(m15:mg "tuple"=none):Mj P w K mg base Pt:=by
 have sc:R8 ["start","reach","sheet","reason","drops","inner_first"] ["start","reach","sheet"] (F3 (top 15)):=⟨rfl,rfl,rfl,by decide +kernel,rfl,by decide +kernel,by decide +kernel⟩
 exact fn_okC F0 sc (λ_ _ _ _ _ _=>bd3 λ_ _ _=>rfl) (k:=4) (body:=Ib) (λf A outer s H E hr=>(B4 (F9 3 (sws 3 sc.nd) (qf g12 hr (A4 (qv 0) (A4 (qv 1) (A4 (qv 2) B2)))))
   (B4 (E1 (D4 GO (qv 3) (QE.r t4) (C7 _)) (B6 (C9 (K1 (A4 D6 (A4 (qv 3) B2))))) D9)
   (B4 (OU 4 (OT (N:=["event"]) (cs:=[none]) (λ_=>Z8 rfl rfl rfl rfl trivial rfl rfl rfl) (λ_=>rfl) (An (qv 2)) (gn 0 (show Q6 (["event"]:List Str) by decide +kernel)) (Ez (D4 (cEq 4 λ_=>hr) (D2 (qv 0) B3) (QE.r D6) (C7 _))) (qv 0)) (λ_=>sc.nd) (λ_=>rfl) (λ_=>Or.inl rfl))
   (B4 (F9 5 (sws 5 sc.nd) (QN.ee (Qi (x:="touch") (y:="start") (iy:=0) (c:=λ_=>s.heap.objs.size+1) (QE.r (qf g5 hr (A4 (qv 2) B2))) (K9 (λ_=>rfl) (λ_=>m7) (QE.r (Ex (λ_=>g7) (λ_=>Qn hr) (by decide) (λ_=>rfl) (A4 (qv 1) (A4 (qv 0) B2))))) (Qo rfl rfl rfl rfl rfl rfl (by decide +kernel) (by decide +kernel)) (λ_=>hr) (λ_=>rfl) (λ_=>rfl) (λ_=>rfl) (λ_ _ _ _ _=>rfl) (λ_=>rfl) (λ_=>rfl) (λ_=>rfl) (λ_=>hC) (λ_=>hB) (λ_=>rfl) (λ_=>m13) (λ_=>rfl))))
   (B6 (C9 (K1 (A4 D6 (A4 (CP (λ_=>rfl) (λ_=>m15) (QE.r (QN.ee (BI (QE.r (qv 4)) (QE.r (qv 5)))))) B2))))))))))
theorem ST (F0:Fn0 K mg "_law_shuffled" (top 26))(g1:AF P w K mg base Pt)(m7:mg "len"=none)(m8:mg "list"=none)(m15:mg "tuple"=none):Ml P w K mg base Pt:=fnk F0 λsc _ _ _ _ _ _ _ hr=>(B4 (Ar 2 3 (λ_=>Aq (i:=2) (j:=3) rfl sc.nd rfl rfl (by decide) rfl rfl rfl) (ql_o (BC (λ_=>rfl) (λ_=>m8) (QE.r (qv 1)))) (ql_o (M3 B2)))
   (B4 (Ow (Ol (cNe 4 λ_=>hr) (P7 2 λ_=>vw 2) (QE.r (QN.ee (M3 B2))) (C7 _)) (B6 (c8 (λ_=>c7) (Ao 3 (λ_=>vw 3) (Ox 2 (λ_=>vw 2) (qf g1 hr (A4 (qv 0) (A4 (K9 (λ_=>rfl) (λ_=>m7) (P7 2 λ_=>vw 2)) B2))))))))
   (B6 (C9 (CP (λ_=>rfl) (λ_=>m15) (P7 3 λ_=>vw 3))))))
theorem SU (F0:Fn0 K mg "_law_boats" (top 27))(g1:AF P w K mg base Pt)(g14:Ml P w K mg base Pt)(m11:mg "range"=none):Mm P w K mg base Pt:=fnk F0 λsc _ _ _ _ _ _ _ hr=>(B4 (OE 2 3 (λ_=>c6) (λ_=>gw_two K 2 3 rfl (Am 2 sc.nd rfl (Or.inr rfl)) (Am 3 sc.nd rfl (Or.inl rfl))) (ql_v D6) (ql_o (M3 B2)))
   (B4 (Oz 4 5 6 (λ_=>Oy (i:=4) (j:=5) (k:=6) rfl sc.nd rfl rfl rfl (by decide) (by decide) (by decide) rfl rfl rfl rfl) (qf g1 hr (A4 (qv 0) (A4 B3 B2))) (ql_v (qf g1 hr (A4 (qv 0) (A4 B3 B2)))) (ql_v (J0 B3 (qf g1 hr (A4 (qv 0) (A4 B3 B2))))))
   (B4 (Ar 7 8 (λ_=>Aq (i:=7) (j:=8) rfl sc.nd rfl rfl (by decide) rfl rfl rfl) (ql_v (qf g1 hr (A4 (qv 0) (A4 (qv 6) B2)))) (ql_v (D2 (qv 2) (qf g1 hr (A4 (qv 0) (A4 B3 B2))))))
   (B4 (V5 (λ_=>rfl) (BE (λ_=>rfl) (λ_=>m11) (qv 1)) (gn 9 sc.nd) (B4 (F9 10 (sws 10 sc.nd) (D2 (qv 2) (GJ (J0 (qv 5) (Eo B3 (qv 9))) B3)))
   (B4 (E1 (D4 (cEq 4 λ_=>hr) (qv 4) (QE.r B3) (C7 _)) (B6 (F9 10 (sws 10 sc.nd) (J0 (qv 10) (OB D6 (QE.r (QN.ee (t8 (N:=["_law_j","_law_letters","_law_pot_here"]) (cs:=[none,some 2,some 0]) (λ_=>Z8 rfl rfl rfl rfl ⟨rfl,⟨rfl,trivial⟩⟩ rfl rfl rfl) (λ_=>rfl) (BE (λ_=>rfl) (λ_=>m11) (qf g1 hr (A4 (qv 0) (A4 B3 B2)))) (gn 0 (show Q6 (["_law_j","_law_letters","_law_pot_here"]:List Str) by decide +kernel)) BF (D2 (qv 1) (qf g1 hr (A4 (qv 2) (A4 B3 B2))))))))))) D9)
   (B4 (E1 (D4 (cEq 4 λ_=>hr) (qv 4) (QE.r B3) (C7 _)) (B6 (F9 10 (sws 10 sc.nd) (Eo (D2 (qv 2) (GJ (J0 (qv 5) (Oi (qv 9) B3)) B3)) (J0 B3 (GJ (qv 9) B3))))) D9)
   (B4 (E1 (D4 cGt (qv 4) (QE.r B3) (C7 _)) (B6 (F9 10 (sws 10 sc.nd) (J0 (J0 (Eo (qv 8) (qv 7)) (qv 10)) (Eo (qv 8) (GI (GI (qv 6) B3) (qv 7)))))) D9)
   (B6 (c8 (λ_=>c7) (Ao 3 (λ_=>vw 3) (qv 10)))))))))
   (B4 (F9 11 (sws 11 sc.nd) (D2 (QN.ee (M3 (A4 D6 (A4 D6 (A4 D6 (A4 D6 (A4 D6 (A4 D6 (A4 D6 B2))))))))) (qf g1 hr (A4 (qv 0) (A4 B3 B2)))))
   (B4 (E1 (QW.qt (X8 (D4 (cEq 4 λ_=>hr) (qf g1 hr (A4 (qv 0) (A4 B3 B2))) (QE.r B3) (C7 _)) (X7 (D4 (b7 4 λ_=>hr) (qv 11) (P7 3 λ_=>vw 3) rfl)))) (B6 (qs_put 3 (λ_=>c6) (qv 11) (λ_=>gw_at (vw 3)) (qf g1 hr (A4 (qv 0) (A4 (qv 1) B2))))) D9)
   (B6 (Jy 3 (C9 (qf g14 hr (A4 (qv 0) (A4 (qv 3) B2))))))))))))
theorem SV (F0:Fn0 K mg "_law_apart" (top 28)):Mn P w K mg base Pt:=fnk F0 λsc _ _ _ _ _ _ _ hr=>(B4 (BG (λ_=>c6) (K1 (A4 (qv 0) (A4 (qv 1) B2))) (Y0 (λ_=>rfl) (L7 (Y0 (λ_=>rfl) (L7 (gn 2 sc.nd) (L7 (gn 3 sc.nd) V3))) (L7 (Y0 (λ_=>rfl) (L7 (gn 4 sc.nd) (L7 (gn 5 sc.nd) V3))) V3))))
   (B6 (C9 (GR (G8 cLt (qv 3) (QE.r (qv 4)) (C7 _)) (GR (G8 cLt (qv 5) (QE.r (qv 2)) (C7 _)) (GR (U2 (G8 cLt (qv 2) (QE.r (qv 4)) (C7 _)) (T0 (G8 cLt (qv 5) (QE.r (qv 3)) (C7 _)))) (T0 (U2 (G8 cLt (qv 4) (QE.r (qv 2)) (C7 _)) (T0 (G8 cLt (qv 3) (QE.r (qv 5)) (C7 _)))))))))))
theorem SX (F0:Fn0 K mg "_law_sheet" (top 29))(g1:AF P w K mg base Pt)(g16:Mn P w K mg base Pt)(m1:mg "all"=none)(m2:mg "any"=none)(m4:mg "enumerate"=none)(m7:mg "len"=none)(m11:mg "range"=none)(m13:mg "sorted"=none)(m15:mg "tuple"=none):Mo P w K mg base Pt:=fnk F0 λsc _ _ _ _ _ _ _ hr=>(B4 (PL [3,4,5,6] (λ_=>c6) (λ_=>gw_tup K rfl (ET (Am 3 sc.nd rfl (Or.inl rfl)) (ET (Am 4 sc.nd rfl (Or.inl rfl)) (ET (Am 5 sc.nd rfl (Or.inl rfl)) (ET (Am 6 sc.nd rfl (Or.inl rfl)) pgs_n))))) (ES (ql_v (K9 (λ_=>rfl) (λ_=>m7) (QE.r (qv 1)))) (ES (ql_o (M3 B2)) (ES (ql_o (M3 B2)) (ES (ql_o (M3 B2)) PJ)))))
   (B4 (V5 (λ_=>rfl) (BE (λ_=>rfl) (λ_=>m11) (qf g1 hr (A4 (qv 0) (A4 (J0 (qv 3) B3) B2)))) (gn 7 sc.nd) (B4 (BG (λ_=>c6) (K1 (A4 (qf g1 hr (A4 (qv 0) (A4 (qv 3) B2))) (A4 (J0 B3 (qf g1 hr (A4 (qv 0) (A4 (J0 (qv 2) B3) B2)))) B2))) (Y0 (λ_=>rfl) (L7 (gn 8 sc.nd) (L7 (gn 9 sc.nd) V3))))
   (B6 (E1 (QW.qt (X8 (D4 cLt (J0 (qv 8) (qv 9)) (QE.r (qv 3)) (C7 _)) (X7 (M2 (PF (RA PH) (Js (λ_=>rfl) (λ_=>rfl) (λ_=>m1) (QE.r (QN.ee (t8 (N:=["_law_one","_law_at","_law_far"]) (cs:=[none,some 8,some 9]) (λ_=>Z8 rfl rfl rfl rfl ⟨rfl,⟨rfl,trivial⟩⟩ rfl rfl rfl) (λ_=>rfl) (BD (qv 4)) (gn 0 (show Q6 (["_law_one","_law_at","_law_far"]:List Str) by decide +kernel)) BF (qf g16 hr (A4 (K1 (A4 (qv 1) (A4 (J0 (qv 1) (qv 2)) B2))) (A4 (qv 0) B2)))))))))))) (B4 (c8 (λ_=>c7) (Ao 4 (λ_=>vw 4) (K1 (A4 (qv 8) (A4 (J0 (qv 8) (qv 9)) B2)))))
   (B4 (c8 (λ_=>c7) (Hm 5 (λ_=>vw 5) (QN.ee (M3 (A4 (qv 8) (A4 (J0 (qv 8) (qv 9)) B2))))))
   (B6 (c8 (λ_=>c7) (Ao 6 (λ_=>vw 6) (K1 (A4 D6 (A4 (D2 (qv 1) (J0 (qv 8) (qv 9))) (A4 (D2 (qv 1) (qv 8)) B2))))))))) D9))))
   (B4 (V5 (λ_=>rfl) (Hq (λ_=>rfl) (λ_=>m4) (qv 1)) (Y0 (λ_=>rfl) (L7 (gn 10 sc.nd) (L7 (gn 11 sc.nd) V3))) (B4 (Jy 4 (F9 12 (sws 12 sc.nd) (Jt (λ_=>rfl) (λ_=>rfl) (λ_=>m2) (QE.r (QN.ee (t8 (N:=["_law_a","_law_b","_law_place"]) (cs:=[none,none,some 10]) (λ_=>Z8 rfl rfl rfl rfl ⟨rfl,trivial⟩ rfl rfl rfl) (λ_=>rfl) (BD (qv 4)) (Y0 (λ_=>rfl) (L7 (gn 0 (show Q6 (["_law_a","_law_b","_law_place"]:List Str) by decide +kernel)) (L7 (gn 1 (show Q6 (["_law_a","_law_b","_law_place"]:List Str) by decide +kernel)) V3))) BF (Jn cLt cLt (qv 0) (qv 2) (qv 1))))))))
   (B6 (E1 (QW.qt (X8 (D4 (b7 4 λ_=>hr) (qv 10) (P7 5 λ_=>vw 5) rfl) (X7 (QW.qt (P2 (OC (QE.r (qv 12))) (Q8 (D4 (cEq 4 λ_=>hr) (qf g1 hr (A4 (qv 0) (A4 B3 B2))) (QE.r B3) (C7 _)))))))) (B6 (c8 (λ_=>c7) (Ao 6 (λ_=>vw 6) (K1 (A4 D6 (A4 (qv 11) B2)))))) D9))))
   (B6 (C9 (CP (λ_=>rfl) (λ_=>m15) (QE.r (QN.ee (Kh (λ_=>rfl) (λ_=>m13) (P7 6 λ_=>vw 6))))))))))
theorem SY (F0:Fn0 K mg "is_boat" (top 2))(m1:mg "all"=none)(m6:mg "isinstance"=none)(m7:mg "len"=none)(m14:mg "str"=none)(c0:Num0 mg "MOST_LETTERS" 8):FK P w K mg base Pt:=fnk F0 λsc _ _ _ _ _ _ _ hr=>(B4 (E1 (QW.qt (P2 (O1 (M2 (X9 (n:="str") (by decide) (λ_=>rfl) (λ_=>m6) (qv 0) (λ_=>tyw rfl m14 Ek)))) (Q8 (O1 (Jo cLe cLe B3 (K9 (λ_=>rfl) (λ_=>m7) (QE.r (qv 0))) (qe_num (λ_=>c0) λ_=>rfl)))))) (B6 (C9 P1)) D9)
   (B6 (C9 (Js (λ_=>rfl) (λ_=>rfl) (λ_=>m1) (QE.r (QN.ee (t8 (N:=["sign"]) (cs:=[none]) (λ_=>Z8 rfl rfl rfl rfl trivial rfl rfl rfl) (λ_=>rfl) (qi_str (qv 0)) (gn 0 (show Q6 (["sign"]:List Str) by decide +kernel)) BF (Jn cLe cLe D6 (qv 0) D6))))))))
theorem SZ (F0:Fn0 K mg "shows_boat" (top 17))(g18:FK P w K mg base Pt)(g3:BZ P w K mg base Pt):Mp P w K mg base Pt:=fnk F0 λsc _ _ _ _ _ _ _ hr=>(B4 (E1 (O1 (M2 (qf g18 hr (A4 (qv 3) B2)))) (B6 (C9 P1)) D9)
   (B4 (F9 4 (sws 4 sc.nd) (qf g3 hr (A4 (qv 1) B2)))
   (B4 (E1 (D4 (cEq 4 λ_=>hr) (qv 2) (QE.r D6) (C7 _)) (B6 (C9 (U2 (G8 (cIn 4 λ_=>hr) (qv 3) (QE.r (qv 4)) rfl) (T0 (G8 (b7 4 λ_=>hr) (qv 3) (QE.r (qv 0)) rfl))))) D9)
   (B6 (C9 (G8 cGt (JH (qv 4) (qv 3)) (QE.r B3) (C7 _)))))))
theorem S_ (F0:Fn0 K mg "is_touch" (top 4))(g18:FK P w K mg base Pt)(m6:mg "isinstance"=none)(m7:mg "len"=none)(m14:mg "str"=none)(m15:mg "tuple"=none):Mq P w K mg base Pt:=fnk F0 λsc _ _ _ _ _ _ _ hr=>(B4 (E1 (QW.qt (P2 (O1 (M2 (X9 (n:="tuple") (by decide) (λ_=>rfl) (λ_=>m6) (qv 0) (λ_=>tyw rfl m15 Aj)))) (Q8 (D4 (cNe 4 λ_=>hr) (K9 (λ_=>rfl) (λ_=>m7) (QE.r (qv 0))) (QE.r B3) (C7 _))))) (B6 (C9 P1)) D9)
   (B4 (BG (λ_=>c6) (qv 0) (Y0 (λ_=>rfl) (L7 (gn 1 sc.nd) (L7 (gn 2 sc.nd) (L7 (gn 3 sc.nd) V3)))))
   (B4 (E1 (QW.qt (P2 (O1 (M2 (X9 (n:="str") (by decide) (λ_=>rfl) (λ_=>m6) (qv 1) (λ_=>tyw rfl m14 Ek)))) (Q8 (D4 (cNe 4 λ_=>hr) (qv 1) (QE.r D6) (C7 _))))) (B6 (C9 P1)) D9)
   (B6 (C9 (U2 (qf g18 hr (A4 (qv 2) B2)) (U2 (qf g18 hr (A4 (qv 3) B2)) (T0 (G8 (cNe 4 λ_=>hr) (qv 2) (QE.r (qv 3)) (C7 _))))))))))
theorem Ta (F0:Fn0 K mg "is_known" (top 18))(g20:Mq P w K mg base Pt):FL P w K mg base Pt:=fnk F0 λsc _ _ _ _ _ _ _ hr=>(B4 (E1 (QW.qt (P2 (O1 (M2 (qf g20 hr (A4 (qv 2) B2)))) (Q8 (D4 (b7 4 λ_=>hr) (qv 2) (QE.r (qv 1)) rfl)))) (B6 (C9 P1)) D9)
   (B6 (C9 (U2 (G8 (cIn 4 λ_=>hr) (D2 (qv 2) B3) (QE.r (qv 0)) rfl) (T0 (G8 (cIn 4 λ_=>hr) (D2 (qv 2) B3) (QE.r (qv 0)) rfl))))))
theorem Tc (F0:Fn0 K mg "shows_touch" (top 19))(g21:FL P w K mg base Pt)(g6:Iz P w K mg base Pt)(g8:IA P w K mg base Pt):Mr P w K mg base Pt:=fnk F0 λsc _ _ _ _ _ _ _ hr=>(B4 (E1 (O1 (M2 (qf g21 hr (A4 (qv 0) (A4 (qv 2) (A4 (qv 4) B2)))))) (B6 (C9 P1)) D9)
   (B4 (E1 (D4 (cEq 4 λ_=>hr) (qv 3) (QE.r D6) (C7 _)) (B6 (C9 (qf g6 hr (A4 (qv 0) (A4 (qv 4) B2))))) D9)
   (B6 (C9 (qf g8 hr (A4 (qv 0) (A4 (qv 1) (A4 (qv 4) B2))))))))
theorem Td (F0:Fn0 K mg "shows_stays" (top 20))(g18:FK P w K mg base Pt)(g21:FL P w K mg base Pt)(g3:BZ P w K mg base Pt)(g7:B_ P w K mg base Pt):Ms P w K mg base Pt:=fnk F0 λsc _ _ _ _ _ _ _ hr=>(B4 (E1 (QW.qt (P2 (O1 (M2 (qf g21 hr (A4 (qv 0) (A4 (qv 1) (A4 (qv 2) B2)))))) (Q8 (O1 (M2 (qf g18 hr (A4 (qv 3) B2))))))) (B6 (C9 P1)) D9)
   (B6 (C9 (U2 (G8 (cIn 4 λ_=>hr) (qv 3) (QE.r (qf g7 hr (A4 (qv 0) (A4 (qv 2) B2)))) rfl) (T0 (G8 (b7 4 λ_=>hr) (qv 3) (QE.r (qf g3 hr (A4 (qv 1) B2))) rfl))))))
theorem Te (F0:Fn0 K mg "shows_cross" (top 21))(g21:FL P w K mg base Pt)(g10:IB P w K mg base Pt):Mt P w K mg base Pt:=fnk F0 λsc _ _ _ _ _ _ _ hr=>(B4 (E1 (QW.qt (P2 (O1 (M2 (qf g21 hr (A4 (qv 0) (A4 (qv 1) (A4 (qv 2) B2)))))) (Q8 (O1 (M2 (qf g21 hr (A4 (qv 0) (A4 (qv 1) (A4 (qv 3) B2))))))))) (B6 (C9 P1)) D9)
   (B6 (C9 (qf g10 hr (A4 (qv 0) (A4 (qv 2) (A4 (qv 3) B2)))))))
theorem Tf (F0:Fn0 K mg "shows_unsound" (top 22))(g19:Mp P w K mg base Pt)(g22:Mr P w K mg base Pt)(g23:Ms P w K mg base Pt)(g24:Mt P w K mg base Pt)(m6:mg "isinstance"=none)(m7:mg "len"=none)(m14:mg "str"=none)(m15:mg "tuple"=none):Mu P w K mg base Pt:=fnk F0 λsc _ _ _ _ _ _ _ hr=>(B4 (E1 (QW.qt (P2 (O1 (M2 (X9 (n:="tuple") (by decide) (λ_=>rfl) (λ_=>m6) (qv 3) (λ_=>tyw rfl m15 Aj)))) (P2 (D4 (b7 4 λ_=>hr) (K9 (λ_=>rfl) (λ_=>m7) (QE.r (qv 3))) (QE.r (K1 (A4 B3 (A4 B3 B2)))) rfl) (Q8 (O1 (M2 (X9 (n:="str") (by decide) (λ_=>rfl) (λ_=>m6) (D2 (qv 3) B3) (λ_=>tyw rfl m14 Ek)))))))) (B6 (C9 P1)) D9)
   (B4 (RH 4 5 (λ_=>c6) (λ_=>RG K rfl sc.nd rfl rfl (Or.inl rfl) (Or.inl rfl)) (qv 3))
   (B4 (E1 (QW.qt (X8 (D4 (cEq 4 λ_=>hr) (K9 (λ_=>rfl) (λ_=>m7) (P7 5 λ_=>vw 5)) (QE.r B3) (C7 _)) (X7 (D4 (cIn 4 λ_=>hr) (qv 4) (QE.r (K1 (A4 D6 (A4 D6 B2)))) rfl)))) (B6 (C9 (qf g19 hr (A4 (qv 0) (A4 (qv 2) (A4 (qv 4) (A4 (BB (P7 5 λ_=>vw 5) B3) B2))))))) D9)
   (B4 (E1 (QW.qt (X8 (D4 (cEq 4 λ_=>hr) (K9 (λ_=>rfl) (λ_=>m7) (P7 5 λ_=>vw 5)) (QE.r B3) (C7 _)) (X7 (D4 (cIn 4 λ_=>hr) (qv 4) (QE.r (K1 (A4 D6 (A4 D6 B2)))) rfl)))) (B6 (C9 (qf g22 hr (A4 (qv 0) (A4 (qv 1) (A4 (qv 2) (A4 (qv 4) (A4 (BB (P7 5 λ_=>vw 5) B3) B2)))))))) D9)
   (B4 (E1 (QW.qt (X8 (D4 (cEq 4 λ_=>hr) (K9 (λ_=>rfl) (λ_=>m7) (P7 5 λ_=>vw 5)) (QE.r B3) (C7 _)) (X7 (D4 (cEq 4 λ_=>hr) (qv 4) (QE.r D6) (C7 _))))) (B6 (C9 (qf g23 hr (A4 (qv 0) (A4 (qv 2) (A4 (BB (P7 5 λ_=>vw 5) B3) (A4 (BB (P7 5 λ_=>vw 5) B3) B2))))))) D9)
   (B4 (E1 (QW.qt (X8 (D4 (cEq 4 λ_=>hr) (K9 (λ_=>rfl) (λ_=>m7) (P7 5 λ_=>vw 5)) (QE.r B3) (C7 _)) (X7 (D4 (cEq 4 λ_=>hr) (qv 4) (QE.r D6) (C7 _))))) (B6 (C9 (qf g24 hr (A4 (qv 0) (A4 (qv 2) (A4 (BB (P7 5 λ_=>vw 5) B3) (A4 (BB (P7 5 λ_=>vw 5) B3) B2))))))) D9)
   (B6 (C9 P1))))))))
theorem Tg (F0:Fn0 K mg "_law_paths" (top 34))(m4:mg "enumerate"=none)(m6:mg "isinstance"=none)(m15:mg "tuple"=none):Mv P w K mg base Pt:=by
 have go:∀d,Kn P w K mg base "_law_paths" (1+d) ["_law_thing","_law_path"] (E6 K (tabK potL Pt lamP lamQ) (Dn d)):=λd=>by
  induction d with
  |zero=>exact fnk F0 λsc _ _ _ _ _ _ _ hr=>K_
  |succ d g26=>exact fnk F0 λsc _ _ _ _ _ _ _ hr=>(B4 (qs_own 2 (sws 2 sc.nd) (M3 (A4 (qv 1) B2)))
  (B4 (E1 (M2 (X9 (n:="tuple") (by decide) (λ_=>rfl) (λ_=>m6) (qv 0) (λ_=>tyw rfl m15 Aj))) (B6 (V5 (λ_=>rfl) (Hq (λ_=>rfl) (λ_=>m4) (qv 0)) (Y0 (λ_=>rfl) (L7 (gn 3 sc.nd) (L7 (gn 4 sc.nd) V3))) (B6 (c8 (λ_=>c7) (Hm 2 (λ_=>vw 2) (Ex (λ_=>g26) (λ_=>hr) (B9 _) (λ_=>rfl) (A4 (qv 4) (A4 (QN.ee (BI (QE.r (qv 1)) (QE.r (QN.ee (M3 (A4 (qv 3) B2)))))) B2)))))))) D9)
  (B6 (Ov 2 λ_=>vw 2))))
 exact go 8
theorem Th (F0:Fn0 K mg "_law_put" (top 36)):Mw P w K mg base Pt:=by
 have go:∀d,Kn P w K mg base "_law_put" (1+d) ["_law_thing","_law_path","_law_part_here"] (E6 K (tabK potL Pt lamP lamQ) (BV d)):=λd=>by
  induction d with
  |zero=>exact fnk F0 λsc _ _ _ _ _ _ _ hr=>K_
  |succ d g27=>exact fnk F0 λsc _ _ _ _ _ _ _ hr=>(B4 (E1 (D4 (cEq 4 λ_=>hr) (qv 1) (QE.r (QN.ee (M3 B2))) (C7 _)) (B6 (C9 (qv 2))) D9)
  (B4 (F9 3 (sws 3 sc.nd) (D2 (qv 1) B3))
  (B6 (C9 (J0 (J0 (N4 (qv 0) N8 (M8 (qv 3))) (K1 (A4 (Ex (λ_=>g27) (λ_=>hr) (B9 _) (λ_=>rfl) (A4 (D2 (qv 0) (qv 3)) (A4 (N4 (qv 1) (M8 B3) N8) (A4 (qv 2) B2)))) B2))) (N4 (qv 0) (M8 (J0 (qv 3) B3)) N8))))))
 exact go 8
theorem Ti (F0:Fn0 K mg "_law_nest" (top 37))(g1:AF P w K mg base Pt)(m11:mg "range"=none):Mx P w K mg base Pt:=fnk F0 λsc _ _ _ _ _ _ _ hr=>(B4 (F9 1 (sws 1 sc.nd) D6)
   (B4 (V5 (λ_=>rfl) (BE (λ_=>rfl) (λ_=>m11) (D2 (QN.ee (M3 (A4 B3 (A4 B3 (A4 B3 B2))))) (qf g1 hr (A4 (qv 0) (A4 B3 B2))))) (gn 2 sc.nd) (B6 (F9 1 (sws 1 sc.nd) (D2 (QN.ee (M3 (A4 (K1 (A4 (qv 1) B2)) (A4 (QN.ee (M3 (A4 (qv 1) B2))) (A4 (RI D6 (qv 1)) B2))))) (qf g1 hr (A4 (qv 0) (A4 B3 B2)))))))
   (B6 (C9 (qv 1)))))
theorem Tj (F0:Fn0 K mg "_law_otherwise" (top 38))(g1:AF P w K mg base Pt)(g28:Mx P w K mg base Pt)(m6:mg "isinstance"=none)(m7:mg "len"=none)(m8:mg "list"=none)(m15:mg "tuple"=none):My P w K mg base Pt:=fnk F0 λsc _ _ _ _ _ _ _ hr=>(B4 (F9 3 (sws 3 sc.nd) (QN.ee (M3 (A4 D6 (A4 D6 (A4 D6 (A4 D6 (A4 D6 (A4 D6 (A4 D6 (A4 D6 (A4 D6 B2))))))))))))
   (B4 (E1 (QW.qt (X8 (M2 (X9 (n:="tuple") (by decide) (λ_=>rfl) (λ_=>m6) (qv 1) (λ_=>tyw rfl m15 Aj))) (X7 (D4 cGt (qf g1 hr (A4 (qv 0) (A4 B3 B2))) (QE.r B3) (C7 _))))) (B4 (F9 4 (sws 4 sc.nd) (qf g1 hr (A4 (qv 0) (A4 (J0 (K9 (λ_=>rfl) (λ_=>m7) (QE.r (qv 1))) B3) B2))))
   (B4 (F9 5 (sws 5 sc.nd) (QN.ee (M3 (A4 (J0 (N4 (qv 1) N8 (M8 (qv 4))) (N4 (qv 1) (M8 (J0 (qv 4) B3)) N8)) (A4 (J0 (J0 (N4 (qv 1) N8 (M8 (qv 4))) (K1 (A4 (D2 (qv 2) B3) B2))) (N4 (qv 1) (M8 (qv 4)) N8)) B2)))))
   (B6 (C9 (D2 (QN.ee (BI (QE.r (qv 5)) (QE.r (QN.ee (M3 (A4 (qe_rev (QE.r (qv 1))) (A4 (QN.ee (BC (λ_=>rfl) (λ_=>m8) (QE.r (qv 1)))) (A4 (J0 (qv 1) (N4 (qv 1) (M8 (qe_neg B3)) N8)) B2)))))))) (qf g1 hr (A4 (qv 0) (A4 B3 B2)))))))) D9)
   (B4 (F9 5 (sws 5 sc.nd) (QN.ee (M3 (A4 t4 (A4 P1 (A4 B3 (A4 (D2 (qv 3) (qf g1 hr (A4 (qv 0) (A4 B3 B2)))) (A4 (D2 (qv 2) (qf g1 hr (A4 (qv 0) (A4 (K9 (λ_=>rfl) (λ_=>m7) (QE.r (qv 2))) B2)))) (A4 (K1 B2) (A4 (QN.ee (M3 (A4 (qv 1) B2))) (A4 (K1 (A4 (qv 1) B2)) B2)))))))))))
   (B6 (C9 (D2 (QN.ee (BI (QE.r (qv 5)) (QE.r (QN.ee (M3 (A4 (qf g28 hr (A4 (qv 0) B2)) B2)))))) (qf g1 hr (A4 (qv 0) (A4 B3 B2)))))))))
theorem Tl (F0:Fn0 K mg "_law_between" (top 31))(m4:mg "enumerate"=none)(m9:mg "max"=none)(m10:mg "min"=none):Mz P w K mg base Pt:=fnk F0 λsc _ _ _ _ _ _ _ hr=>(B4 (BG (λ_=>c6) (K1 (A4 (u9 (qv 0) (D2 (qv 1) B3)) (A4 (u9 (qv 0) (D2 (qv 1) B3)) B2))) (Y0 (λ_=>rfl) (L7 (gn 2 sc.nd) (L7 (gn 3 sc.nd) V3))))
   (B6 (C9 (QN.ee (t8 (N:=["_law_place","_law_boat","_law_one","_law_other"]) (cs:=[none,none,some 2,some 3]) (λ_=>Z8 rfl rfl rfl rfl ⟨rfl,⟨rfl,trivial⟩⟩ rfl rfl rfl) (λ_=>rfl) (Hq (λ_=>rfl) (λ_=>m4) (qv 0)) (Y0 (λ_=>rfl) (L7 (gn 0 (show Q6 (["_law_place","_law_boat","_law_one","_law_other"]:List Str) by decide +kernel)) (L7 (gn 1 (show Q6 (["_law_place","_law_boat","_law_one","_law_other"]:List Str) by decide +kernel)) V3))) (Ez (Jo cLt cLt (qe_min (λ_=>rfl) (λ_=>rfl) (λ_=>m10) (qv 2) (qv 3)) (qv 0) (qe_max (λ_=>rfl) (λ_=>rfl) (λ_=>m9) (qv 2) (qv 3)))) (qv 1))))))
theorem Tm (F0:Fn0 K mg "_law_is_touch" (top 30))(m6:mg "isinstance"=none)(m7:mg "len"=none)(m15:mg "tuple"=none):MA P w K mg base Pt:=fnk F0 λsc _ _ _ _ _ _ _ hr=>(B4 (E1 (QW.qt (P2 (O1 (M2 (X9 (n:="tuple") (by decide) (λ_=>rfl) (λ_=>m6) (qv 2) (λ_=>tyw rfl m15 Aj)))) (P2 (D4 (cNe 4 λ_=>hr) (K9 (λ_=>rfl) (λ_=>m7) (QE.r (qv 2))) (QE.r B3) (C7 _)) (Q8 (D4 (Lb 2 λ_=>hr) (qv 2) (QE.r (qv 1)) rfl))))) (B6 (C9 P1)) D9)
   (B6 (C9 (U2 (G8 (cIn 4 λ_=>hr) (D2 (qv 2) B3) (QE.r (qv 0)) rfl) (T0 (G8 (cIn 4 λ_=>hr) (D2 (qv 2) B3) (QE.r (qv 0)) rfl))))))
theorem Tn (F0:Fn0 K mg "_law_is_reason" (top 32))(g31:MA P w K mg base Pt)(g30:Mz P w K mg base Pt)(m2:mg "any"=none)(m6:mg "isinstance"=none)(m7:mg "len"=none)(m12:mg "set"=none)(m14:mg "str"=none)(m15:mg "tuple"=none):MB P w K mg base Pt:=fnk F0 λsc _ _ _ _ _ _ _ hr=>(B4 (E1 (QW.qt (P2 (O1 (M2 (X9 (n:="tuple") (by decide) (λ_=>rfl) (λ_=>m6) (qv 3) (λ_=>tyw rfl m15 Aj)))) (P2 (D4 (b7 4 λ_=>hr) (K9 (λ_=>rfl) (λ_=>m7) (QE.r (qv 3))) (QE.r (K1 (A4 B3 (A4 B3 B2)))) rfl) (Q8 (O1 (M2 (X9 (n:="str") (by decide) (λ_=>rfl) (λ_=>m6) (D2 (qv 3) B3) (λ_=>tyw rfl m14 Ek)))))))) (B6 (C9 P1)) D9)
   (B4 (F9 4 (sws 4 sc.nd) (K9 (λ_=>rfl) (λ_=>m7) (QE.r (QN.ee (t8 (N:=["_law_event","_law_thing"]) (cs:=[none,some 3]) (λ_=>Z8 rfl rfl rfl rfl ⟨rfl,trivial⟩ rfl rfl rfl) (λ_=>rfl) (An (qv 2)) (gn 0 (show Q6 (["_law_event","_law_thing"]:List Str) by decide +kernel)) (Ez (D4 (cInA 2 λ_=>hr) (D2 (qv 1) B3) (QE.r (N4 (qv 0) (M8 B3) N8)) rfl)) (qv 0))))))
   (B4 (E1 (QW.qt (P2 (D4 (cEq 4 λ_=>hr) (D2 (qv 3) B3) (QE.r D6) (C7 _)) (Q8 (D4 (cEq 4 λ_=>hr) (D2 (qv 3) B3) (QE.r D6) (C7 _))))) (B4 (F9 5 (sws 5 sc.nd) (qe_if (D4 (cEq 4 λ_=>hr) (D2 (qv 3) B3) (QE.r D6) (C7 _)) (U2 (G8 cGt (qv 4) (QE.r B3) (C7 _)) (T0 (G8 (Lb 2 λ_=>hr) (D2 (qv 3) B3) (QE.r (qv 0)) rfl))) (G8 cGt (qv 4) (QE.r B3) (C7 _))))
   (B6 (C9 (U2 (qv 5) (T0 (G8 (cEq 4 λ_=>hr) (K9 (λ_=>rfl) (λ_=>m7) (QE.r (qv 3))) (QE.r B3) (C7 _))))))) D9)
   (B4 (E1 (O1 (M2 (qf g31 hr (A4 (qv 0) (A4 (qv 2) (A4 (D2 (qv 3) B3) B2)))))) (B6 (C9 P1)) D9)
   (B4 (F9 6 (sws 6 sc.nd) (qf g30 hr (A4 (qv 0) (A4 (D2 (qv 3) B3) B2))))
   (B4 (E1 (QW.qt (X8 (D4 (cEq 4 λ_=>hr) (K9 (λ_=>rfl) (λ_=>m7) (QE.r (qv 3))) (QE.r B3) (C7 _)) (X7 (D4 (cEq 4 λ_=>hr) (D2 (qv 3) B3) (QE.r D6) (C7 _))))) (B6 (C9 (G8 cGt (u9 (qv 0) (D2 (D2 (qv 3) B3) B3)) (QE.r (u9 (qv 0) (D2 (D2 (qv 3) B3) B3))) (C7 _)))) D9)
   (B4 (E1 (D4 (cEq 4 λ_=>hr) (K9 (λ_=>rfl) (λ_=>m7) (QE.r (qv 3))) (QE.r B3) (C7 _)) (B6 (C9 (U2 (G8 (cEq 4 λ_=>hr) (D2 (qv 3) B3) (QE.r D6) (C7 _)) (T0 (G8 cGt (K9 (λ_=>rfl) (λ_=>m7) (QE.r (qv 6))) (QE.r (qv 1)) (C7 _)))))) D9)
   (B4 (E1 (D4 (cEq 4 λ_=>hr) (D2 (qv 3) B3) (QE.r D6) (C7 _)) (B6 (C9 (U2 (G8 (cInA 2 λ_=>hr) (D2 (qv 3) B3) (QE.r (qv 6)) rfl) (T0 (qe_not (Jt (λ_=>rfl) (λ_=>rfl) (λ_=>m2) (QE.r (QN.ee (t8 (N:=["_law_event","_law_thing"]) (cs:=[none,some 3]) (λ_=>Z8 rfl rfl rfl rfl ⟨rfl,trivial⟩ rfl rfl rfl) (λ_=>rfl) (An (qv 2)) (gn 0 (show Q6 (["_law_event","_law_thing"]:List Str) by decide +kernel)) BF (G8 (cInA 2 λ_=>hr) (D2 (qv 1) B3) (QE.r (N4 (qv 0) (M8 B3) N8)) rfl)))))))))) D9)
   (B4 (E1 (QW.qt (P2 (D4 (cNe 4 λ_=>hr) (D2 (qv 3) B3) (QE.r D6) (C7 _)) (Q8 (O1 (M2 (qf g31 hr (A4 (qv 0) (A4 (qv 2) (A4 (D2 (qv 3) B3) B2))))))))) (B6 (C9 P1)) D9)
   (B4 (F9 7 (sws 7 sc.nd) (J0 (N4 (D2 (qv 3) B3) (M8 B3) N8) (N4 (D2 (qv 3) B3) (M8 B3) N8)))
   (B6 (C9 (U2 (G8 (cEq 4 λ_=>hr) (Pd 7 (λ_=>rfl) (λ_=>rfl) (λ_=>m7) (λ_=>rfl) (λ_=>m12) λ_=>vw 7) (QE.r B3) (C7 _)) (T0 (G8 (cNe 4 λ_=>hr) (G8 (cIn 4 λ_=>hr) (D2 (qv 7) B3) (QE.r (qv 6)) rfl) (QE.r (G8 (cIn 4 λ_=>hr) (D2 (qv 7) B3) (QE.r (qv 6)) rfl)) (C7 _))))))))))))))))
theorem To (F0:Fn0 K mg "_law_part" (top 35)):MC P w K mg base Pt:=fnk F0 λsc _ _ _ _ _ _ _ hr=>(B4 (V5 (λ_=>rfl) (BD (qv 1)) (gn 2 sc.nd) (B6 (F9 0 (sws 0 sc.nd) (D2 (qv 0) (qv 2)))))
   (B6 (C9 (qv 0))))
theorem k_law (F0:Fn0 K mg "law" (top 39))(g0:SE P w K mg base)(g1:AF P w K mg base Pt)(g15:Mm P w K mg base Pt)(g17:Mo P w K mg base Pt)(g2:Me P w K mg base Pt)(g13:Mj P w K mg base Pt)(g26:Mv P w K mg base Pt)(g33:MC P w K mg base Pt)(g29:My P w K mg base Pt)(g27:Mw P w K mg base Pt)(g25:Mu P w K mg base Pt)(g32:MB P w K mg base Pt)(m3:mg "bool"=none)(m6:mg "isinstance"=none)(m7:mg "len"=none)(m11:mg "range"=none):Kn P w K mg base "law" 10 ["_law_script"] (EY K Pt):=by
 have sc:R8 ["_law_script","_law_k","_law_pot_here","_law_many","_law_boats_here","_law_reach","_law_start","_law_sheet_here","_law_word","_law_told","_law_tour","_law_thing","_law_path","_law_found"] ["_law_script"] (F3 (top 39)):=⟨rfl,rfl,rfl,by decide +kernel,rfl,by decide +kernel,by decide +kernel⟩
 exact Qm (T:=potL) (Pt:=Pt) (lpos:=lamP) (qual:=lamQ) F0 sc (λ_ _ _ _ _ _=>bd1 λ_=>rfl) (k:=9) (body:=Ip) (λ_ _ _ _ _ _ _ hr=>(B4 (V5 (λ_=>rfl) (BE (λ_=>rfl) (λ_=>m11) (J0 B3 (K9 (λ_=>rfl) (λ_=>m7) (QE.r (N4 (qv 0) N8 (M8 B3)))))) (gn 1 sc.nd) (B4 (RB 2 (sws 2 sc.nd) (λ_=>g0) (λ_=>hr) (by decide) (λ_=>rfl) (qv 0) (qv 1))
   (B4 (F9 3 (sws 3 sc.nd) (J0 B3 (qf g1 hr (A4 (qv 2) (A4 B3 B2)))))
   (B4 (Ar 4 5 (λ_=>Aq (i:=4) (j:=5) rfl sc.nd rfl rfl (by decide) rfl rfl rfl) (ql_v (qf g15 hr (A4 (qv 2) (A4 (J0 (qv 3) B3) B2)))) (ql_v (qf g1 hr (A4 (qv 2) (A4 B3 B2)))))
   (B4 (F9 6 (sws 6 sc.nd) (N4 (qv 4) N8 (M8 (qv 3))))
   (B4 (F9 7 (sws 7 sc.nd) (qf g2 hr (A4 (qv 2) (A4 (qv 6) (A4 (qf g17 hr (A4 (qv 2) (A4 (qv 6) (A4 (qv 5) B2)))) (A4 (N4 (qv 4) (M8 (qv 3)) N8) B2))))))
   (B4 (E1 (D4 (cEq 4 λ_=>hr) (qf g1 hr (A4 (qv 2) (A4 B3 B2))) (QE.r B3) (C7 _)) (B6 (F9 7 (sws 7 sc.nd) (qf g2 hr (A4 (qv 2) (A4 (qv 6) (A4 (qv 7) (A4 (N4 (qv 4) (M8 (qv 3)) N8) B2))))))) D9)
   (B4 (BG (λ_=>c6) (qf g13 hr (A4 (qv 6) (A4 (qv 5) (A4 (qv 7) B2)))) (Y0 (λ_=>rfl) (L7 (gn 8 sc.nd) (L7 (gn 9 sc.nd) V3))))
   (B4 (E1 (D4 (cEq 4 λ_=>hr) (qv 8) (QE.r D6) (C7 _)) (B6 (F9 9 (sws 9 sc.nd) (K1 (A4 D6 (A4 (D2 (qv 4) B3) B2))))) D9)
   (B6 (V5 (λ_=>rfl) (BE (λ_=>rfl) (λ_=>m11) B3) (gn 10 sc.nd) (B4 (Ar 11 12 (λ_=>Aq (i:=11) (j:=12) rfl sc.nd rfl rfl (by decide) rfl rfl rfl) (ql_v (qv 9)) (ql_v (qf g26 hr (A4 (qv 9) (A4 (QN.ee (M3 B2)) B2)))))
   (B4 (F9 12 (sws 12 sc.nd) (D2 (qv 12) (qf g1 hr (A4 (qv 2) (A4 (K9 (λ_=>rfl) (λ_=>m7) (QE.r (qv 12))) B2)))))
   (B4 (E1 (D4 cGt (qv 10) (QE.r B3) (C7 _)) (B6 (F9 11 (sws 11 sc.nd) (qf g27 hr (A4 (qv 9) (A4 (qv 12) (A4 (qf g29 hr (A4 (qv 2) (A4 (qf g33 hr (A4 (qv 9) (A4 (qv 12) B2))) (A4 (qv 4) B2)))) B2)))))) D9)
   (B4 (F9 13 (sws 13 sc.nd) (qf g25 hr (A4 (qv 6) (A4 (qv 5) (A4 (qv 7) (A4 (qv 11) B2))))))
   (B6 (E1 (QW.qt (P2 (O1 (M2 (X9 (n:="bool") (by decide) (λ_=>rfl) (λ_=>m6) (qv 13) (λ_=>tyw rfl m3 NV)))) (Q8 (D4 (cNe 4 λ_=>hr) (qv 13) (QE.r (qf g32 hr (A4 (qv 6) (A4 (qv 5) (A4 (qv 7) (A4 (qv 11) B2)))))) (C7 _))))) (B6 (C9 P1)) D9)))))))))))))))))
   (B6 (C9 P1)))) m_law
end
end Tb
open PySem PySem.W PyProof.Rows L2 Tb
set_option hygiene false in
local macro_rules | `(tactic| walk_at "F")=>`(tactic| (dsimp only [KOf];refine' fn0_mk KX G ?a ?l ?c ?k;(case a=>k_is);(case l=>k_is);(case c=>k_is);(case k=>k_is)))
set_option hygiene false in
local macro_rules | `(tactic| walk_at "Z")=>`(tactic| (refine PySem.W.mg_none_of (K:=KOf KX) KX G ?_;dsimp only [KOf];k_is))
abbrev Tb.rwp:=PySem.Challenge.rw_touchboats_k10_reasons_of_anything.prog
set_option maxRecDepth 100000 in
set_option maxHeartbeats 0 in
theorem PySem.Challenge.cw_touchboats_k10_reasons_of_anything_holds : PySem.Challenge.rw_touchboats_k10_reasons_of_anything.Holds := by
 w_on;o_law;k_head;(case hw=>w_witness2)
 k_fill
 refine Ql (l:=PySem.Challenge.rw_touchboats_k10_reasons_of_anything) (x:="_law_script") (k:=10) rfl rfl ⟨rfl,by decide,by decide,rfl⟩ (by decide) ?F
 case F=>
  intro w mg h KX G;have f0:Fn0 (KOf KX) mg "_law_pot" (top 24):=by walk_at "F"
  have f1:Fn0 (KOf KX) mg "_law_draw" (top 25):=by walk_at "F"
  have f2:Fn0 (KOf KX) mg "_law_bent" (top 33):=by walk_at "F"
  have f3:Fn0 (KOf KX) mg "boats_of" (top 5):=by walk_at "F"
  have f4:Fn0 (KOf KX) mg "boat_reason" (top 11):=by walk_at "F"
  have f5:Fn0 (KOf KX) mg "touches_of" (top 6):=by walk_at "F"
  have f6:Fn0 (KOf KX) mg "is_wrong" (top 8):=by walk_at "F"
  have f7:Fn0 (KOf KX) mg "between" (top 7):=by walk_at "F"
  have f8:Fn0 (KOf KX) mg "is_far" (top 9):=by walk_at "F"
  have f9:Fn0 (KOf KX) mg "touch_reason" (top 12):=by walk_at "F"
  have f10:Fn0 (KOf KX) mg "is_cross" (top 10):=by walk_at "F"
  have f11:Fn0 (KOf KX) mg "cross_reason" (top 13):=by walk_at "F"
  have f12:Fn0 (KOf KX) mg "reason_of" (top 14):=by walk_at "F"
  have f14:Fn0 (KOf KX) mg "_law_shuffled" (top 26):=by walk_at "F"
  have f15:Fn0 (KOf KX) mg "_law_boats" (top 27):=by walk_at "F"
  have f16:Fn0 (KOf KX) mg "_law_apart" (top 28):=by walk_at "F"
  have f17:Fn0 (KOf KX) mg "_law_sheet" (top 29):=by walk_at "F"
  have f18:Fn0 (KOf KX) mg "is_boat" (top 2):=by walk_at "F"
  have f19:Fn0 (KOf KX) mg "shows_boat" (top 17):=by walk_at "F"
  have f20:Fn0 (KOf KX) mg "is_touch" (top 4):=by walk_at "F"
  have f21:Fn0 (KOf KX) mg "is_known" (top 18):=by walk_at "F"
  have f22:Fn0 (KOf KX) mg "shows_touch" (top 19):=by walk_at "F"
  have f23:Fn0 (KOf KX) mg "shows_stays" (top 20):=by walk_at "F"
  have f24:Fn0 (KOf KX) mg "shows_cross" (top 21):=by walk_at "F"
  have f25:Fn0 (KOf KX) mg "shows_unsound" (top 22):=by walk_at "F"
  have f26:Fn0 (KOf KX) mg "_law_paths" (top 34):=by walk_at "F"
  have f27:Fn0 (KOf KX) mg "_law_put" (top 36):=by walk_at "F"
  have f28:Fn0 (KOf KX) mg "_law_nest" (top 37):=by walk_at "F"
  have f29:Fn0 (KOf KX) mg "_law_otherwise" (top 38):=by walk_at "F"
  have f30:Fn0 (KOf KX) mg "_law_between" (top 31):=by walk_at "F"
  have f31:Fn0 (KOf KX) mg "_law_is_touch" (top 30):=by walk_at "F"
  have f32:Fn0 (KOf KX) mg "_law_is_reason" (top 32):=by walk_at "F"
  have f33:Fn0 (KOf KX) mg "_law_part" (top 35):=by walk_at "F"
  have f34:Fn0 (KOf KX) mg "law" (top 39):=by walk_at "F"
  have m0:mg "abs"=none:=by walk_at "Z"
  have m1:mg "all"=none:=by walk_at "Z"
  have m2:mg "any"=none:=by walk_at "Z"
  have m3:mg "bool"=none:=by walk_at "Z"
  have m4:mg "enumerate"=none:=by walk_at "Z"
  have m5:mg "int"=none:=by walk_at "Z"
  have m6:mg "isinstance"=none:=by walk_at "Z"
  have m7:mg "len"=none:=by walk_at "Z"
  have m8:mg "list"=none:=by walk_at "Z"
  have m9:mg "max"=none:=by walk_at "Z"
  have m10:mg "min"=none:=by walk_at "Z"
  have m11:mg "range"=none:=by walk_at "Z"
  have m12:mg "set"=none:=by walk_at "Z"
  have m13:mg "sorted"=none:=by walk_at "Z"
  have m14:mg "str"=none:=by walk_at "Z"
  have m15:mg "tuple"=none:=by walk_at "Z"
  have c0:Num0 mg "MOST_LETTERS" 8:=by
   refine' Oh (K:=KOf KX) KX G ?a
   (case a=>(dsimp only[KOf];k_is))
  refine⟨top 39,"order_of",top 15,f34,?zc,?zp,λ_ _ _ _ _ _ s u=>.of_eq rfl,λcd f13 base kb nb hC hB=>?_⟩
  case zc=>
   refine' ⟨_,Qk KX G ?a ?l ?c ?k,?h⟩
   (case a=>k_is);(case l=>k_is);(case c=>k_is);(case k=>k_is);(case h=>kernel_rfl)
  case zp=>kernel_rfl
  have g0:=ok_pot (P:=rwp) (w:=w) (base:=base) f0 m7 m0 m5;have g1:=SD (Pt:=ptOf hC) (lpos:=lamP) (qual:=lamQ) (P:=rwp) (w:=w) (base:=base) f1;have g2:=SF (Pt:=ptOf hC) (P:=rwp) (w:=w) (base:=base) f2 g1 m7 m8 m12 m13 m15;have g3:=SG (Pt:=ptOf hC) (P:=rwp) (w:=w) (base:=base) f3;have g4:=SH (Pt:=ptOf hC) (P:=rwp) (w:=w) (base:=base) f4 g3;have g5:=SI (Pt:=ptOf hC) (P:=rwp) (w:=w) (base:=base) f5;have g6:=SJ (Pt:=ptOf hC) (P:=rwp) (w:=w) (base:=base) f6;have g7:=SK (Pt:=ptOf hC) (P:=rwp) (w:=w) (base:=base) f7 m13;have g8:=SL (Pt:=ptOf hC) (P:=rwp) (w:=w) (base:=base) f8 g7 m7;have g9:=SM (Pt:=ptOf hC) (P:=rwp) (w:=w) (base:=base) f9 g6 g8 g3 g7;have g10:=SN (Pt:=ptOf hC) (P:=rwp) (w:=w) (base:=base) f10 g3 g7 m7 m12;have g11:=SO (Pt:=ptOf hC) (P:=rwp) (w:=w) (base:=base) f11 g10;have g12:=SQ (Pt:=ptOf hC) (P:=rwp) (w:=w) (base:=base) f12 g4 g5 g11 g9;have g13:=SS (Pt:=ptOf hC) (P:=rwp) (w:=w) (base:=base) f13 hC hB g12 g5 g7 m7 m13 m15;have g14:=ST (Pt:=ptOf hC) (P:=rwp) (w:=w) (base:=base) f14 g1 m7 m8 m15;have g15:=SU (Pt:=ptOf hC) (P:=rwp) (w:=w) (base:=base) f15 g1 g14 m11;have g16:=SV (Pt:=ptOf hC) (P:=rwp) (w:=w) (base:=base) f16;have g17:=SX (Pt:=ptOf hC) (P:=rwp) (w:=w) (base:=base) f17 g1 g16 m1 m2 m4 m7 m11 m13 m15
  have g18:=SY (Pt:=ptOf hC) (P:=rwp) (w:=w) (base:=base) f18 m1 m6 m7 m14 c0;have g19:=SZ (Pt:=ptOf hC) (P:=rwp) (w:=w) (base:=base) f19 g18 g3;have g20:=S_ (Pt:=ptOf hC) (P:=rwp) (w:=w) (base:=base) f20 g18 m6 m7 m14 m15;have g21:=Ta (Pt:=ptOf hC) (P:=rwp) (w:=w) (base:=base) f21 g20;have g22:=Tc (Pt:=ptOf hC) (P:=rwp) (w:=w) (base:=base) f22 g21 g6 g8;have g23:=Td (Pt:=ptOf hC) (P:=rwp) (w:=w) (base:=base) f23 g18 g21 g3 g7;have g24:=Te (Pt:=ptOf hC) (P:=rwp) (w:=w) (base:=base) f24 g21 g10;have g25:=Tf (Pt:=ptOf hC) (P:=rwp) (w:=w) (base:=base) f25 g19 g22 g23 g24 m6 m7 m14 m15;have g26:=Tg (Pt:=ptOf hC) (P:=rwp) (w:=w) (base:=base) f26 m4 m6 m15;have g27:=Th (Pt:=ptOf hC) (P:=rwp) (w:=w) (base:=base) f27;have g28:=Ti (Pt:=ptOf hC) (P:=rwp) (w:=w) (base:=base) f28 g1 m11;have g29:=Tj (Pt:=ptOf hC) (P:=rwp) (w:=w) (base:=base) f29 g1 g28 m6 m7 m8 m15;have g30:=Tl (Pt:=ptOf hC) (P:=rwp) (w:=w) (base:=base) f30 m4 m9 m10;have g31:=Tm (Pt:=ptOf hC) (P:=rwp) (w:=w) (base:=base) f31 m6 m7 m15;have g32:=Tn (Pt:=ptOf hC) (P:=rwp) (w:=w) (base:=base) f32 g31 g30 m2 m6 m7 m12 m14 m15;have g33:=To (Pt:=ptOf hC) (P:=rwp) (w:=w) (base:=base) f33;exact k_law (Pt:=ptOf hC) (P:=rwp) (w:=w) (base:=base) f34 g0 g1 g15 g17 g2 g13 g26 g33 g29 g27 g25 g32 m3 m6 m7 m11
end
