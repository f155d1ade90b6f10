import PyProof.Rows.All
import Wide.All
import OpenK.AllK
import Wide.FinOn
import PyProof.EqAt
import PyProof.EqKinds
import PyProof.TupleCall
import PyProof.NeKinds
import PyProof.EnumMake
import PyProof.ConsumeWalk
import KE.LcSums
import PyProof.ReprLen
import PyProof.StrLawsRepr
import PyProof.Rows.StrNews2
import PyProof.Rows.SetFrom
import PyProof.WalksMore
import PyProof.StrLawsChain
import PyProof.StrLawsTight
import PyProof.StrLawsIdx
import PyProof.ZipIter
import PyProof.Draws
import PyProof.Rows.FactsT2
import PyProof.ListStr
import PyProof.Rows.StrPartPair
import KE.KSortTup
import KE.KDictSum
import KE.KRevIter
import KE.KSortKey
import KE.KLam
import KE.KNestM
import PyProof.DictItems
import KE.KPairComp
import PyProof.AutoSeq1
import PyProof.SetNew
import PyProof.AttrMissHeap
import KE.KDictOf
import PyProof.CollectIter
import PyProof.IsRules
import Lean
import PySem.Challenge.RW_touchboats_k09_reasons_shown
set_option Elab.async false
set_option linter.all false
set_option maxRecDepth 100000
set_option maxHeartbeats 4000000
namespace PySem.W.Fast
def tw14114918940501054048:=0
def tw12815194259761484197:=0
def tw9777523635452368293:=0
def tw469162017598186988:=0
def tw15938885536707562431:=0
def tw1355998978638254770:=0
def tw6088913474611316686:=0
def tw13254401247238137540:=0
def tw8788054351153623881:=0
def tw7338391184344129466:=0
def tw11896235112937104320:=0
def tw12474218336825459452:=0
def tw9756612587959591963:=0
def tw12766721766700124503:=0
def tw14858239394578311170:=0
def tw12148006875105726780:=0
def tw1946080358682671167:=0
def tw340667377514810861:=0
def tw14440467857270064020:=0
def tw12478649802166128012:=0
def tw13779142336924290170:=0
def tw6305468488738440070:=0
def tw7209394882769974302:=0
def tw7913673171632029840:=0
def tw5608767629824013155:=0
def tw13929978385818730:=0
def tw11540697700407864724:=0
def tw13734567636348268463:=0
def tw6091385924790492688:=0
def tw4602977540557266522:=0
def tw16599651367155115325:=0
def tw14914656595248457066:=0
def tw11774521357435848405:=0
def tw9500220375806458071:=0
def tw9292007265159727513:=0
def tw3759270065369178244:=0
def tw17331111607442945380:=0
def tw1339321576180833301:=0
def tw16551000423041552995:=0
end PySem.W.Fast
open PySem renaming wpAny_bind->A1,wpAny_pure->A5,sizeLine->B9,wpAny_newObj_type->L3,wpAny_holding->G6,Program->C6,sizeLine_eq->J1,bootBuiltins->K6,starEach->E3,wpAny_mono->G7,wpAny_callSpecial?_slot->Y5,assignEach->J0,wpAny_call_entry->P7,foldedSetIterable->T9,wpAny_setState_of->U1,wpAny_truthy_bool->V8,mem_of_lookup->c8,codeAny_builtin->U2,compareOp->L4,wpAny_standAt->U3,plainId_quiet->V9,sysModules->P8,SetTable->M2,mainGlobals->R7,letOwnedTupleGo->i8,codeAny->L5,keywordEach->W0,wpAny_field->W1,isSubtype_type->i9,wpAny_setField->j4,wpAny_passesOwn->u9,attributeBase->j5,wpAny_getItem_str_slice->Dj,wpAny_setEntries_of->BK,Builtin->N3,wpAny_pyIter_tuple->BL,wpAny_typeOf->j6,wpAny_specialOf->AE,assignInOrder->v4,wpAny_pyIter_list->BM,binaryOp->Q5,behindInMarks->v5,Keyword->O3,wpAny_newFunctionEnv->Dk,wpAny_seqItems->AF,codeAny_mono->w4,wpAny_comprehension_free->Fq,swapsWithSole->AG,swappedStores->AH,wpAny_Call_Name_kw->Dl,wpAny_attempt->AI,codeAny_compStart_list->Fs,holding->Q6,wpAny_assign_Name->Dm,wpAny_rule->j7,sliceBounds->w5,wpAny_bindName->BN,bindArgs->W3,backToKw->W4,wpAny_askSetting->Dn,wpAny_isInstance->Do,wpAny_forIn_list->Dp,bindName->Y6,wpAny_newList->BO,wpAny_execs_nil->Dq,swapsWith->j8,post_val_or_str->Dr,wpAny_loadPart'->Ds,standAt->Y7
open PySem.W renaming Frag->A3,kia_one->W5,fnOf->U4,kas_place->R8,kas_rev->O0,kas_sort->P0,kas_asc->Q7,kitOne->BP,keepIn->BQ,kas_desc->Y8,codeIn->Dt,methodObj->Ft
open PySem.Heap renaming get?_push_of_some->C0,lt_size->B4,get?_push_size->F2,get?_update_other->AJ,SameBut->U5,get?_update_self->AK,size_push->j9,ExtBut->BR
open List renaming getElem?_eq_getElem->C4,length_map->A9,mem_cons_of_mem->C3,mem_cons_self->B8,getElem?_eq_some_iff->D7,length_append->D4,mem_singleton->D5,mem_cons->C5,size_toArray->D8,getElem?_map->F4,mem_of_getElem?->J6,mem_append_right->K4,getElem?_set_self->M6,map_cons->E9,mem_append->F9,all_eq_true->J3,length_singleton->N4,mem_map->F5,getElem?_set_ne->O4,getElem?_append_right->U6,range->E6,length_cons->M7,getElem?_eq_none->Q8,mem_range->L6,getElem?_append_left->W6,pairwise_iff_getElem->W7,mem_filter->N5,map_append->N6,append_assoc->P1,length_set->O1,length_take->P9,eq_nil_of_length_eq_zero->w6,length_replicate->Y9,mem_append_left->Z0,mem_flatMap->R9,getD_eq_getElem?_getD->w8,append_nil->S6,nodup_cons->T0,length_drop->W8,Nodup->M8,drop_eq_getElem_cons->AL,pairwise_map->d3,getElem?_cons_succ->AM,zip_cons_cons->k4,take_of_length_le->AN,filterMap_cons->w9,map_map->U7,any_eq_true->k5,getElem_of_mem->AO,drop_of_length_le->BS,getElem_mem->x4,not_mem_nil->x5,mem_iff_getElem?->BT,mem_of_mem_take->BU,length_range->AQ,nodup_append->AR,flatMap_cons->AS,getElem?_replicate->Du,getElem?_cons_zero->Dv,flatMap_append->BV,replicate->x6,length_eraseIdx_of_lt->Fu,mem_of_mem_drop->Dw,drop_length->BW,take_length->BX,length_reverse->Dx,toList_toArray->Dy,eq_of_mem_replicate->Fv,getElem?_drop->Dz,nil_append->BY,reverse_cons->DA,drop_zero->BZ,take_append_drop->Fw,length_filter_le->Fx,nodup_nil->DB
open PySem.Str renaming ofString->A4
open Nat renaming le_refl->B3,ne_of_lt->C9,lt_of_lt_of_le->J4,zero_le->G0,le_trans->L7,lt_succ_of_lt->Q9,zero_add->Q1,lt_irrefl->U8,lt_trichotomy->k6,le_of_lt->W9,sub_succ_lt_self->B_,le_of_not_lt->AT,lt_of_le_of_lt->Ca,le_of_lt_succ->Cb,lt_succ_self->Cc,le_succ->k7,lt_trans->x8,ne_of_gt->x9,sub_self->y0,not_lt_zero->Cd,le_succ_of_le->DC,lt_or_ge->AU,min_eq_left->DE,min_self->Ce,le_of_eq->Cf
open Bool renaming false_eq_true->F7,and_eq_true->P2,false_ne_true->T3,false_and->Z1,eq_iff_iff->k8,beq_eq_decide_eq->Cg,true_and->k9,not_true->y4,not_eq_true'->Ch,or_false->AV,or_eq_true->Ci,and_true->AX
open Array renaming length_toList->J9,getElem?_toList->M9,getElem?_eq_getElem->X0,getD_eq_getD_getElem?->y7,getElem?_eq_none->DF,perm_iff_toList_perm->Fy,getElem?_eq_some_iff->Fz,forIn_toList->DG,replicate->DH
open PySem.Obj renaming mapSeq->E7,data_mapFields->DI
open Option.some renaming inj->L8
open PySem.Heap.SameBut renaming update->P3
open PySem.Around renaming under_plainId->X1
open PySem.Builtin.Slice renaming slicePlaces->l5,sliceAdjust->Cj,sliceApplied->DJ,sliceFields->HI
open PySem.Value renaming type->K1,ref->K7,none->X2
open PyProof.Rows renaming slot_tuple_getitem->AY,assignInOrder_cons->l6,callWith_type1->FA,get?_update_seq->AZ,listUpdate_at->y8,envOfC->DK,assignInOrder_nil->DL
open PySem.Builtin.Tuple renaming tupleExact->l7,tupleItemsOf->FB
open PyProof.Rows.F renaming plain_set_update_loop->y9,entry_set_update_loop->DM
open PySem.Builtin.SmallTypes renaming nextOf->A_
open Classical renaming byContradiction->Ba
open PySem.Builtin.Str renaming occurrences->Bb
open Int renaming emod_lt_of_pos->z9,eq_ofNat_of_zero_le->Ck,emod_nonneg->Aa,toNat_natCast->DN
open PySem.F renaming plainAttrs_list->Cm,slot_tuple_iterator_next->DO,args_tuple_add_2->FC,entry_tuple_add->FD,slot_tuple_add->FE
open ForInStep renaming yield->l8
open PySem.Builtin.List renaming listExtendWith->DP,listSameRef->DQ,listLengthHint->FG,listTooLong->FH
open Option renaming isSome_iff_exists->DR,getD_some->Cn
open PySem.AutoSeq1 renaming wpAny_loadPart'->DS
open Array.Perm renaming refl->Ab
open Sum renaming inl->N0,inr->Z2
open False renaming elim->Z3
open PySem.SeqAt renaming EqAt->l9,RcNeAt->Bc,RcAt->Bd
open PySem.SetTable renaming grown->Co
open PySem.Walks renaming tuple->Be
open PySem.Heap.IsSliceOf renaming new->FI
open List.Perm renaming swap->DT
open List.Pairwise renaming nil->FJ
open PySem.Data renaming fields->Cp
open PySem.Txt renaming mul->d4
local macro_rules|`(tactic|omega)=>`(tactic|lia)
section
namespace L2
open PySem PySem.Spec PyProof.Rows
abbrev Key:=Sum Int Str
def Bf:Key->Value->Bool
 | .inl k,v=>Value.isInt k v
 | .inr x,v=>Value.isStrOf x v
def keyH (w:World):Key->Int
 | .inl k=>hashInt k
 | .inr x=>hashStr w x
theorem Z4:∀{k:Key} {v:Value},Bf k v=true->(∃i t,k=N0 i/\v=Value.int i t)\/(∃x t,k=Z2 x/\v=Value.str x t)
 | .inl i, v, h => by
   obtain⟨t,e⟩:=Value.isInt_shape (k:=i) (v:=v) h;exact .inl ⟨i,t,rfl,e⟩
 | .inr x, v, h => by
   obtain⟨t,e⟩:=Value.isStrOf_shape (x:=x) (v:=v) h;exact .inr ⟨x,t,rfl,e⟩
theorem LU (i:Int)(t:Tok):Bf (.inl i) (.int i t)=true:=by simp [Bf,Value.isInt]
theorem LV (x:Str)(t:Tok):Bf (.inr x) (.str x t)=true:=by simp [Bf,Value.isStrOf]
theorem key_ll (a b:Int):decide ((N0 a:Key)=N0 b)=(a == b):=by grind
theorem key_rr (a b:Str):decide ((Z2 a:Key)=Z2 b)=decide (a=b):=by simp
theorem key_lr (a:Int)(b:Str):decide ((N0 a:Key)=Z2 b)=false:=rfl
theorem key_rl (a:Str)(b:Int):decide ((Z2 a:Key)=N0 b)=false:=rfl
def L9 (prog:C6)(w:World):PySem.KeyKind prog w Key where
 is:=Bf
 hash:=keyH w
 inj:=fun v a b ha hb=>by
   rcases Z4 ha with⟨i,t,rfl,rfl⟩ | ⟨x,t,rfl,rfl⟩
   · rcases Z4 hb with⟨j,u,rfl,e⟩ | ⟨y,u,rfl,e⟩
     · injection e with e1 _;rw [e1]
     · exact nomatch e
   · rcases Z4 hb with⟨j,u,rfl,e⟩ | ⟨y,u,rfl,e⟩
     · exact nomatch e
     · injection e with e1 _;rw [e1]
 byValue:=fun k v h=>by
   rcases Z4 h with⟨i,t,rfl,rfl⟩ | ⟨x,t,rfl,rfl⟩ <;> rfl
 pyHash:=fun hv h=>by
   rcases Z4 hv with⟨i,t,rfl,rfl⟩ | ⟨x,t,rfl,rfl⟩
   · exact wpAny_pyHash_int h
   · exact wpAny_pyHash_str h
 eqBool:=fun hu hv h=>by
   rcases Z4 hu with⟨i,t,rfl,rfl⟩ | ⟨x,t,rfl,rfl⟩
   · rcases Z4 hv with⟨j,u,rfl,rfl⟩ | ⟨y,u,rfl,rfl⟩
     · rw [key_ll] at h;exact wpAny_eqBool_int h
     · rw [key_lr] at h;exact SeqAt.EqAt.int_str i t y u _ _ _ _ h
   · rcases Z4 hv with⟨j,u,rfl,rfl⟩ | ⟨y,u,rfl,rfl⟩
     · rw [key_rl] at h;exact SeqAt.EqAt.str_int x t j u _ _ _ _ h
     · rw [key_rr] at h;exact wpAny_eqBool_str h
 «strs»:=fun k x t v h=>by
   rcases Z4 h with⟨i,u,rfl,e⟩ | ⟨y,u,rfl,e⟩
   · exact nomatch e
   · injection e with e1 _;subst e1;cases v <;> rfl
theorem HJ (prog:C6)(w:World)(i:Int)(t:Tok):(L9 prog w).is (.inl i) (.int i t)=true:=LU i t
theorem DU (prog:C6)(w:World)(x:Str)(t:Tok):(L9 prog w).is (.inr x) (.str x t)=true:=LV x t
inductive V where
 | non | bl (b:Bool) | int (i:Int) | str (x:Str) | byt (b:Array UInt8) | flt (b:UInt64) | ref (a:Addr) | ty (n:String)
 deriving DecidableEq
def RelV:V->Value->Prop
 | .non,u=>u=X2
 | .bl b,u=>u=Value.bool b
 | .int i,u=>∃t,u=Value.int i t
 | .str x,u=>∃t,u=Value.str x t
 | .byt b,u=>∃t,u=Value.bytes b t
 | .flt b,u=>∃t,u=Value.float b t
 | .ref a,u=>u=K7 a
 | .ty n,u=>u=K1 n
abbrev Vals:List V->List Value->Prop:=Paired RelV
theorem Vals.length (r:Vals xs us):xs.length=us.length:=Paired.length r
theorem Vals.get:∀{xs:List V} {us:List Value} {i:Nat} {x:V},Vals xs us->xs[i]?=some x->∃u,us[i]?=some u/\RelV x u
 | _,_,_,_,.nil,e=>by simp at e
 | _,_,0,_,.cons r _,e=>by simp at e;subst e;exact⟨_,rfl,r⟩
 | _, _, i + 1, x, .cons _ t, e => by
   obtain⟨u,h1,h2⟩:=Vals.get (i:=i) (x:=x) t (by grind);exact⟨u,by simpa using h1,h2⟩
theorem Vals.set (r:RelV x u):∀{xs:List V} {us:List Value} (i:Nat),Vals xs us->Vals (xs.set i x) (us.set i u)
 | _,_,_,.nil=>.nil
 | _,_,0,.cons _ t=>.cons r t
 | _,_,i + 1,.cons q t=>.cons q (Vals.set r i t)
theorem Vals.append (h:Vals xs us)(s:Vals ys ws):Vals (xs++ys) (us++ws):=by
 induction h with
 | nil=>exact s
 | cons r _ ih=>exact .cons r ih
theorem Vals.take:∀{xs:List V} {us:List Value} (n:Nat),Vals xs us->Vals (xs.take n) (us.take n)
 | _,_,0,_=>.nil
 | _,_,_ + 1,.nil=>.nil
 | _,_,n + 1,.cons r t=>.cons r (Vals.take n t)
theorem Vals.drop:∀{xs:List V} {us:List Value} (n:Nat),Vals xs us->Vals (xs.drop n) (us.drop n)
 | _,_,0,r=>r
 | _,_,_ + 1,.nil=>.nil
 | _,_,n + 1,.cons _ t=>Vals.drop n t
def RelO:Option V->Option Value->Prop
 | some v,some u=>RelV v u
 | none,none=>True
 | _,_=>False
def KV {κ:Type}:List (κ×V)->List (κ×Value)->Prop:=Paired fun(p:κ×V) (q:κ×Value)=>p.1=q.1/\RelV p.2 q.2
def kV:Key->V
 | .inl i=>.int i
 | .inr x=>.str x
inductive HO where
 /-- a list -/
 | lst (xs:List V)
 /-- a tuple (never changes) -/
 | tup (xs:List V)
 /-- a dict whose keys are ints and N7; one whose keys are tuples of ints and N7 (the empty one is both) -/
 | dK (kvs:List (Key×V)) | dT (kvs:List (List Key×V))
 /-- a set of ints: its members, its size -/
 | set (S:Key->Bool) (n:Nat)
 /-- an instance of the class at C, its dict at dx, its attributes -/
 | ins (C dx:Addr) (fs:List (Str×V))
 /-- the dict of the instance at x -/
 | own (x:Addr)
 /-- the dict of an exception -/
 | xd (fs:List (Str×V))
 /-- a bound method, f of x -/
 | met (f x:Addr)
 /-- a range object lo, lo + 1, .. below hi -/
 | rng (lo hi:Int)
 /-- a thing that is known to the object (the script; a dict while a loop walks it): read, never written while it is so -/
 | frz (o:Obj) (u:HO)
 /-- a code object's table -/
 | tbl (ps:Array Value)
 /-- any other thing, by what is true of its one object (a def of one's own: SetO a S n := HO.ext fun h => ..) -/
 | ext (φ:Heap->Prop)
abbrev Hp:=Addr->Option HO
def upd (H:Hp)(a:Addr)(o:HO):Hp:=fun b=>if b=a then some o else H b
theorem E8:upd H a o a=some o:=by unfold upd;rw [if_pos rfl]
theorem B6 (h:b≠a):upd H a o b=H b:=by unfold upd;rw [if_neg h]
theorem X3 {H:Hp}(h:H a=some o)(h':H b=none):a≠b:=by
 intro e;subst e;rw [h] at h';cases h'
def X4 (h:Heap)(a:Addr)(items:Array Value):Prop:=∃o,h.get? a=some o/\(o.cls,o.dict)=(K1 "tuple",none)/\∃n,o.data=.seq items n
theorem X4.is (x:X4 h a items):IsTup h a items:=let ⟨o,e,c,r⟩:=x;⟨o,e,(Prod.mk.inj c).1,r⟩
theorem X4.lt (x:X4 h a items):a < h.objs.size:=let ⟨_,e,_⟩:=x;B4 e
theorem X4.new (h:Heap)(items:Array Value):X4 (h.push { cls:=.type "tuple",data:=.seq items }) h.objs.size items:=⟨_,F2 _ rfl,rfl,_,rfl⟩
section
variable (P:C6)(w:World)
def G8 (H:Hp)(h:Heap)(a:Addr):HO->Prop
 | .lst xs=>xs.length<=B9/\∃(its:List Value) (n:Nat),Vals xs its/\h.get? a=some { cls:=.type "list",data:=.seq its.toArray n }
 | .tup xs=>xs.length<=B9/\∃its:List Value,Vals xs its/\X4 h a its.toArray
 | .dK kvs=>kvs.length<=B9/\(a == P8)=false/\∃vs,KV kvs vs/\h.DictOf (L9 P w) a vs
 | .dT kvs=>kvs.length<=B9/\(a == P8)=false/\∃xs:List (List Key×Addr×Value),
     Paired (fun(p:List Key×V) (q:List Key×Addr×Value)=>p.1=q.1/\H q.2.1=some (.tup (p.1.map kV))/\RelV p.2 q.2.2) kvs xs/\
     ∃o es ep,h.get? a=some o/\o.ExactDict/\o.data=.dict es ep/\es.toList=xs.map (entryOfKey (tupleKind (L9 P w)))/\(xs.map (·.1)).Nodup
 | .set S n=>h.SetOf (L9 P w) a S n
 | .ins C dx fs=>H dx=some (.own a)/\fs.length<=1000/\dx≠a/\h.get? a=some (PySem.W.instObj C dx)/\
     ∃mA,h.Ns1 dx mA/\(∀f,RelO (fs.lookup f) (mA f))/\PySem.Within mA (fs.map (·.1))
 | .own _=>∃o,h.get? a=some o
 | .xd fs=>∃mA,h.Ns1 a mA/\∀f,RelO (fs.lookup f) (mA f)
 | .rng lo hi=>∃t u v,h.get? a=some { cls:=.type "range",data:=.fields #[.int lo t,.int hi u,.int 1 v] }
 | .frz o u=>h.get? a=some o/\G8 H h a u
 | .tbl ps=>h.get? a=some { cls:=.none,data:=.fields ps }
 | .met f x=>h.get? a=some (Ft (.ref f) (.ref x))
 | .ext φ=>φ h/\(∃o,h.get? a=some o)/\∀h1 h2:Heap,φ h1->(∀o,h1.get? a=some o->h2.get? a=some o)->φ h2
def HOk (H:Hp)(h:Heap):Prop:=∀a o,H a=some o->G8 P w H h a o
end
section
variable {P:C6}{w:World}{H H':Hp}{h h':Heap}{a:Addr}{o:HO}
theorem G8.lt (x:G8 P w H h a o):a < h.objs.size:=by
 cases o with
 | lst xs=>obtain⟨_,_,_,_,e⟩:=x;exact B4 e
 | tup xs=>obtain⟨_,_,_,p⟩:=x;exact p.lt
 | dK kvs=>obtain⟨_,_,_,_,o,_,_,e,_⟩:=x;exact B4 e
 | dT kvs=>obtain⟨_,_,_,_,o,_,_,e,_⟩:=x;exact B4 e
 | set S n=>obtain⟨o,_,_,_,e,_⟩:=x;exact B4 e
 | ins C dx fs=>obtain⟨_,_,_,e,_⟩:=x;exact B4 e
 | own y=>obtain⟨_,e⟩:=x;exact B4 e
 | xd fs=>obtain⟨_,⟨_,_,_,e,_⟩,_⟩:=x;exact B4 e
 | rng lo hi=>obtain⟨_,_,_,e⟩:=x;exact B4 e
 | frz ob u=>obtain⟨e,_⟩:=x;exact B4 e
 | tbl ps=>exact B4 (show h.get? a=some _ from x)
 | met f y=>exact B4 (show h.get? a=some _ from x)
 | ext φ=>obtain⟨_,⟨_,e⟩,_⟩:=x;exact B4 e
theorem Paired.mapP {α β:Type}{F G:α->β->Prop}{l₁:List α}{l₂:List β}(h:Paired F l₁ l₂)(f:∀a b,F a b->G a b):Paired G l₁ l₂:=by
 induction h with
 | nil=>exact .nil
 | cons r _ ih=>exact .cons (f _ _ r) ih
theorem Paired.imp' {α β:Type}{F G:α->β->Prop}(f:∀a b,F a b->G a b){l₁:List α}{l₂:List β}(r:Paired F l₁ l₂):Paired G l₁ l₂:=Paired.mapP r f
theorem G8.stay (x:G8 P w H h a o)(k:∀b u,(b=a\/H b=some (.own a))->h.get? b=some u->h'.get? b=some u)
   (ho:∀b,H b=some (.own a)->H' b=some (.own a)) (ht:∀b xs,H b=some (.tup xs)->H' b=some (.tup xs)):G8 P w H' h' a o:=by
 induction o with
 | lst xs=>obtain⟨z,its,n,r,e⟩:=x;exact⟨z,its,n,r,k _ _ (.inl rfl) e⟩
 | tup xs=>obtain⟨z,its,r,ob,e,c⟩:=x;exact⟨z,its,r,ob,k _ _ (.inl rfl) e,c⟩
 | dK kvs=>obtain⟨z,y,vs,r,ob,es,ep,e,c⟩:=x;exact⟨z,y,vs,r,ob,es,ep,k _ _ (.inl rfl) e,c⟩
 | dT kvs =>
   obtain⟨z,y,xs,r,ob,es,ep,e,c⟩:=x;exact⟨z,y,xs,Paired.mapP r fun p q z=>⟨z.1,ht _ _ z.2.1,z.2.2⟩,ob,es,ep,k _ _ (.inl rfl) e,c⟩
 | set S n=>obtain⟨ob,es,ep,t,e,c⟩:=x;exact⟨ob,es,ep,t,k _ _ (.inl rfl) e,c⟩
 | ins C dx fs =>
   obtain⟨d,z,ne,e,mA,⟨od,es,ep,e2,c⟩,r⟩:=x;exact⟨ho _ d,z,ne,k _ _ (.inl rfl) e,mA,⟨od,es,ep,k _ _ (.inr d) e2,c⟩,r⟩
 | own y=>obtain⟨ob,e⟩:=x;exact⟨ob,k _ _ (.inl rfl) e⟩
 | xd fs=>obtain⟨mA,⟨od,es,ep,e,c⟩,r⟩:=x;exact⟨mA,⟨od,es,ep,k _ _ (.inl rfl) e,c⟩,r⟩
 | rng lo hi=>obtain⟨t,u,v,e⟩:=x;exact⟨t,u,v,k _ _ (.inl rfl) e⟩
 | frz ob u ih=>obtain⟨e,q⟩:=x;exact⟨k _ _ (.inl rfl) e,ih q⟩
 | tbl ps =>
   have e:h.get? a=some { cls:=.none,data:=.fields ps }:=x;show h'.get? a=some { cls:=.none,data:=.fields ps };exact k a _ (.inl rfl) e
 | met f y =>
   have e:h.get? a=some (Ft (.ref f) (.ref y)):=x;show h'.get? a=some (Ft (.ref f) (.ref y));exact k a _ (.inl rfl) e
 | ext φ=>obtain⟨p,⟨o,e⟩,st⟩:=x;exact⟨st _ _ p fun o q=>k _ _ (.inl rfl) q,⟨o,k _ _ (.inl rfl) e⟩,st⟩
theorem HOk.lt (x:HOk P w H h)(e:H a=some o):a < h.objs.size:=(x a o e).lt
theorem HOk.fresh (x:HOk P w H h)(e:h.objs.size<=a):H a=none:=by
 cases q:H a with
 | none=>rfl
 | some u=>exact absurd (J4 (x.lt q) e) (U8 _)
theorem HOk.kept (x:HOk P w H h)(k:∀b u,h.get? b=some u->h'.get? b=some u):HOk P w H h':=fun a o e=>
 (x a o e).stay (fun b u _ q=>k b u q) (fun _ q=>q) fun _ _ q=>q
theorem HOk.laid (x:HOk P w H h)(k:∀b u,h.get? b=some u->h'.get? b=some u)(hp:h.objs.size<=a)(new:G8 P w (upd H a o) h' a o):HOk P w (upd H a o) h':=fun b u e=>by
 have hn:=x.fresh hp
 by_cases hb:b=a
 · subst hb;rw [E8] at e;cases e;exact new
 · rw [B6 hb] at e;exact(x b u e).stay (fun c v _ q=>k c v q) (fun c q=>by rw [B6 (X3 q hn)];exact q) fun c xs q=>by rw [B6 (X3 q hn)];exact q
end
def Rd (H:Hp)(a:Addr)(u:HO):Prop:=H a=some u\/∃o,H a=some (.frz o u)
theorem Rd.ok (r:Rd H a u)(x:HOk P w H h):G8 P w H h a u:=by
 rcases r with r | ⟨o,r⟩
 · exact x a u r
 · obtain⟨_,q⟩:=x a _ r;exact q
def Mut:Option HO->Prop
 | some (.lst _)=>True
 | some (.dK _)=>True
 | some (.dT _)=>True
 | some (.set _ _)=>True
 | some (.ins _ _ _)=>True
 | some (.ext _)=>True
 | _=>False
section
variable {P:C6}{w:World}{H:Hp}{h h':Heap}{x e:Addr}{o':HO}
theorem HOk.write (ok:HOk P w H h)(mu:Mut (H x))(he:e=x\/H e=some (.own x))(k:∀b u,b≠e->h.get? b=some u->h'.get? b=some u)(heo:∃u,h'.get? e=some u)
   (new:G8 P w (upd H x o') h' x o'):HOk P w (upd H x o') h':=fun b u q=>by
 have nown:∀c y,H c=some (.own y)->c≠x:=fun c y r z=>by subst z;rw [r] at mu;exact mu
 have ntup:∀c xs,H c=some (.tup xs)->c≠x:=fun c xs r z=>by subst z;rw [r] at mu;exact mu
 by_cases hb:b=x
 · subst hb;rw [E8] at q;cases q;exact new
 · rw [B6 hb] at q
   by_cases hbe:b=e
   · have q':H b=some (.own x):=by
       rcases he with z | z
       · exact absurd (hbe.trans z) hb
       · rw [hbe];exact z
     rw [q] at q';cases q';obtain⟨v,hv⟩:=heo;exact⟨v,by rw [hbe];exact hv⟩
   · refine(ok b u q).stay (fun c v hc r=>k c v ?_ r) (fun c r=>by rw [B6 (nown c b r)];exact r) fun c xs r=>by rw [B6 (ntup c xs r)];exact r
     rcases hc with rfl | hc
     · exact hbe
     · rintro rfl;rcases he with z | z
       · exact nown c b hc z
       · rw [hc] at z;cases z;exact hb rfl
end
def NS (H:Hp):Prop:=H P8=none\/∃o u,H P8=some (.frz o u)
structure Un (fs ex:List Addr)(H H':Hp)(h h':Heap):Prop where
 keep:∀b o,h.get? b=some o->H b=none->b∉fs->b∉ex->h'.get? b=some o
 slot:∀b o,h.get? b=some o->H b=none->b∈fs->b∉ex->∃sl,h'.get? b=some { o with slots:=sl }
 free:∀b o,h.get? b=some o->H b=none->b∉ex->H' b=none
 there:∀b o,h.get? b=some o->b∉ex->∃o',h'.get? b=some o'
 tups:∀b xs,H b=some (.tup xs)->H' b=some (.tup xs)
 frzs:∀b o u,H b=some (.frz o u)->H' b=some (.frz o u)
 tbls:∀b ps,H b=some (.tbl ps)->∃more,H' b=some (.tbl (ps++more))
 sys:NS H->NS H'
section
variable {fs fs' ex ex':List Addr}{H H1 H2:Hp}{h h1 h2 h':Heap}{a x e:Addr}{o:HO}
theorem Un.any (u:Un fs ex H H1 h h1)(q:h.get? b=some ob)(n:H b=none)(hx:b∉ex):∃sl,h1.get? b=some { ob with slots:=sl }:=by
 by_cases hb:b∈fs
 · exact u.slot b ob q n hb hx
 · exact⟨ob.slots,u.keep b ob q n hb hx⟩
theorem Un.kept (k:∀b u,h.get? b=some u->h'.get? b=some u):Un fs ex H H h h':=
 ⟨fun b ob q _ _ _=>k b ob q,fun b ob q _ _ _=>⟨ob.slots,k b ob q⟩,fun _ _ _ n _=>n,fun b ob q _=>⟨ob,k b ob q⟩,fun _ _ q=>q,fun _ _ _ q=>q,fun _ ps q=>⟨#[],by rw [q];simp⟩,fun z=>z⟩
theorem Un.refl:Un fs ex H H h h:=Un.kept fun _ _ q=>q
theorem Un.laid (k:∀b u,h.get? b=some u->h'.get? b=some u)(hp:h.objs.size<=a)(hn:H a=none)(hy:P8 < h.objs.size):Un fs ex H (upd H a o) h h' where
 keep:=fun b u q _ _ _=>k b u q
 slot:=fun b u q _ _ _=>⟨u.slots,k b u q⟩
 free:=fun b u q n _=>by rw [B6 (C9 (J4 (B4 q) hp))];exact n
 there:=fun b u q _=>⟨u,k b u q⟩
 tups:=fun b xs q=>by rw [B6 (X3 q hn)];exact q
 frzs:=fun b u xs q=>by rw [B6 (X3 q hn)];exact q
 tbls:=fun b ps q=>⟨#[],by rw [B6 (X3 q hn),q];simp⟩
 sys:=fun z=>by unfold NS;rw [B6 (C9 (J4 hy hp))];exact z
theorem Un.write (mu:Mut (H x))(he:e=x\/H e=some (.own x))(k:∀b u,b≠e->h.get? b=some u->h'.get? b=some u)(heo:∃u,h'.get? e=some u):Un fs ex H (upd H x o) h h':=by
 have hx:∀b,H b=none->b≠x:=fun b n z=>by subst z;rw [n] at mu;exact mu
 have hb:∀b,H b=none->b≠e:=fun b n z=>by
   subst z;rcases he with r | r
   · exact hx b n r
   · rw [n] at r;cases r
 have hm:∀b u,H b=some u->¬Mut (some u)->b≠x:=fun b u q nm z=>by subst z;rw [q] at mu;exact nm mu
 refine⟨fun b u q n _ _=>k b u (hb b n) q,fun b u q n _ _=>⟨u.slots,k b u (hb b n) q⟩,fun b u q n _=>by rw [B6 (hx b n)];exact n,fun b u q _=>?_,
   fun b xs q=>by rw [B6 (hm b _ q fun z=>z)];exact q,fun b u xs q=>by rw [B6 (hm b _ q fun z=>z)];exact q,fun b ps q=>⟨#[],by rw [B6 (hm b _ q fun z=>z),q];simp⟩,fun z=>by
     rcases z with z | ⟨ob,u,z⟩
     · exact .inl (by rw [B6 (hx _ z)];exact z)
     · exact .inr ⟨ob,u,by rw [B6 (hm _ _ z fun z=>z)];exact z⟩⟩
 by_cases hbe:b=e
 · subst hbe;exact heo
 · exact⟨u,k b u hbe q⟩
end
def trk (h:Heap)(H:Hp):List Addr:=(E6 h.objs.size).filter fun a=>(H a).isSome
def hidT (h:Heap)(H:Hp):Heap:=PySem.W.hideAll h (trk h H)
theorem LW (h:Heap)(H:Hp):(hidT h H).objs.size=h.objs.size:=PySem.W.hideAll_size _ _
theorem LX (e:h.get? b=some o)(n:H b=none):(hidT h H).get? b=some o:=
 PySem.W.hideAll_get _ e fun hm=>by
   have q:(H b).isSome=true:=(N5.mp hm).2;rw [n] at q;simp at q
theorem LY (e:(hidT h H).get? b=some o):h.get? b=some o/\H b=none:=by
 have e':h.get? b=some o:=PySem.W.of_hideAll (trk h H) e;refine⟨e',?_⟩;cases q:H b with
 | none=>rfl
 | some x =>
   have hm:b∈trk h H:=N5.mpr ⟨L6.mpr (B4 e'),by simp [q]⟩;have z:(hidT h H).get? b=none:=PySem.W.hideAll_none (trk h H) hm;rw [z] at e;cases e
def LZ (g h:Heap)(L:Addr):List (Addr×Obj):=(E6 h.objs.size).filterMap fun a=>if a=L\/(g.get? a).isSome=true then none else(h.get? a).map fun o=>(a,o)
def rest (g h:Heap)(L d:Addr):List (Addr×Obj):=(LZ g h L).filter fun p=>decide (p.1≠d)
structure Mod (K:A3)(mg:Str->Option Value)(base:Heap):Prop where
 kin:K.In base
 glob:base.Ns R7 mg
 blt:∃mb,base.Ns builtinsNs mb/\∀x:Str,x≠"__name__"->mb x=K6 x
 nolimit:base.NoLimit
structure Cx where
 prog:C6
 w:World
 K:A3
 mg:Str->Option Value
 base:Heap
 A:Around
 N:List Str
 s₀:Shared
 H₀:Hp
 env:Env
 outer:List Env
 stack:List Env
 ex:List Addr
 fn:Str->Bool
 calm:Bool
 pn:List (Addr×Obj)
 xe:Value->Shared->Prop
def frs (l:List Env):List Addr:=l.filterMap (·.frame)
abbrev Cx.fs (X:Cx):List Addr:=frs X.outer
def Vis (sc:Scope)(x:Str):Prop:=sc.names.lookup x=some .local\/sc.names.lookup x=some .cell\/sc.names.lookup x=some .free
def Loc (sc:Scope)(x:Str):Prop:=sc.names.lookup x=some .local\/sc.names.lookup x=some .cell
def Look (env:Env)(h:Heap)(m:Str->Option Value)(x:Str)(u:Value):Prop:=
 (env.kindOf x=some .local/\m x=some u)\/((env.kindOf x=some .cell\/env.kindOf x=some .free)/\∃c,env.cells.lookup x=some c/\h.IsCell c (some u))
structure Cx.Ok (X:Cx):Prop where
 mod:Mod X.K X.mg X.base
 kind:X.env.scope.kind=.function
 glob:X.env.globals=R7
 blt:X.env.builtins=builtinsNs
 above:X.s₀.heap.objs.size<=X.env.locals
 inj:∀x y c,X.env.cells.lookup x=some c->X.env.cells.lookup y=some c->x=y
 has:∀x,(X.env.kindOf x=some .cell\/X.env.kindOf x=some .free)->∃c,X.env.cells.lookup x=some c
 cab:∀x c,X.fn x=true->X.env.cells.lookup x=some c->X.s₀.heap.objs.size<=c
 hd:X.calm=true->X.A.handled=none
 frames:X.A.frames=some X.stack
 stk:X.stack=X.outer\/(X.stack=X.env::X.outer/\X.env.frame=some X.env.locals)
 exf:∀b∈X.ex,b≠X.env.locals/\∀x c,X.env.cells.lookup x=some c->c≠b
 bs:∀b o,X.base.get? b=some o->X.s₀.heap.get? b=some o/\X.H₀ b=none
 bsz:X.base.objs.size<=X.s₀.heap.objs.size
 noex:∀b o,X.base.get? b=some o->b∉X.ex
 exfs:∀b∈X.ex,b∉X.fs
 funs:X.s₀.heap.FunFrames X.base X.outer
 frf:∀b∈X.fs,X.H₀ b=none
 nos:NS X.H₀
structure Inv (X:Cx)(pins:List (Addr×Obj))(σ:List (Option V))(H:Hp)(s:Shared):Prop where
 ok:X.Ok
 os:s.os=X.s₀.os
 bare:AllBare s.gens
 base:Un X.fs X.ex X.H₀ H X.s₀.heap s.heap
 loc:∃m,s.heap.Ns X.env.locals m/\∀(i:Nat) (x:Str) (v:V),X.N[i]?=some x->σ[i]?=some (some v)->Vis X.env.scope x->∃u,RelV v u/\Look X.env s.heap m x u
 cell:∀x c,X.env.cells.lookup x=some c->∃v,s.heap.IsCell c v
 free:H X.env.locals=none
 freeC:∀x c,X.env.cells.lookup x=some c->H c=none
 pin:∀p∈X.pn++pins,s.heap.get? p.1=some p.2/\H p.1=none/\p.1≠X.env.locals/\p.1∉X.fs/\∀v,p.2.data≠.cell v
 hok:HOk X.prog X.w H s.heap
 len:σ.length=X.N.length
section
variable {X:Cx}{pins:List (Addr×Obj)}{σ:List (Option V)}{H H':Hp}{s:Shared}{h':Heap}
theorem Cx.Ok.nofr (ok:X.Ok)(e:X.base.get? b=some o):b∉X.fs:=fun hb=>by
 have:=(ok.funs.mem hb).1;rw [e] at this;cases this
theorem Inv.bs (I:Inv X pins σ H s):∀b o,X.base.get? b=some o->s.heap.get? b=some o/\H b=none:=fun b o e=>
 ⟨I.base.keep b o (I.ok.bs b o e).1 (I.ok.bs b o e).2 (I.ok.nofr e) (I.ok.noex b o e),I.base.free b o (I.ok.bs b o e).1 (I.ok.bs b o e).2 (I.ok.noex b o e)⟩
theorem Inv.bk (I:Inv X pins σ H s):∀b o,X.base.get? b=some o->s.heap.get? b=some o:=fun b o e=>(I.bs b o e).1
theorem Inv.mod (I:Inv X pins σ H s):Mod X.K X.mg X.base:=I.ok.mod
theorem Inv.nos (I:Inv X pins σ H s):NS H:=I.base.sys I.ok.nos
theorem Inv.bigS (I:Inv X pins σ H s):P8 < s.heap.objs.size:=x8 (by decide) (I.mod.glob.keeps I.bk).lt
theorem Inv.kIn (I:Inv X pins σ H s):X.K.In s.heap:=I.ok.mod.kin.keeps I.bk
theorem Inv.nolimit (I:Inv X pins σ H s):s.heap.NoLimit:=I.ok.mod.nolimit.keeps I.bk
theorem Inv.lt (I:Inv X pins σ H s):X.env.locals < s.heap.objs.size:=let ⟨_,hn,_⟩:=I.loc;hn.lt
theorem Inv.sz (I:Inv X pins σ H s):X.s₀.heap.objs.size<=s.heap.objs.size:=L7 I.ok.above (W9 I.lt)
theorem Inv.nofs (I:Inv X pins σ H s)(h:s.heap.objs.size<=a):a∉X.fs:=fun hb=>by
 obtain⟨_,o,ho,_⟩:=I.ok.funs.mem hb;exact absurd (J4 (B4 ho) (L7 I.sz h)) (U8 _)
theorem Inv.cne (I:Inv X pins σ H s):∀x c,X.env.cells.lookup x=some c->c≠X.env.locals:=fun x c e z=>by
 obtain⟨v,o,ho,hd⟩:=I.cell x c e;obtain⟨m,⟨o',es,ep,ho',hd',_⟩,_⟩:=I.loc;rw [z,ho'] at ho;cases ho;rw [hd'] at hd;cases hd
theorem Inv.funs (I:Inv X pins σ H s):s.heap.FunFrames X.base X.outer:=by
 have all:∀(l:List Env),(∀b∈frs l,b∈X.fs)->X.s₀.heap.FunFrames X.base l->s.heap.FunFrames X.base l:=by
   intro l
   induction l with
   | nil=>intro _ _;trivial
   | cons env r ih =>
     intro hs hl;obtain⟨hk,⟨L,o,hf,hn,ho,hd⟩,hr⟩:=hl;have hL:L∈X.fs:=hs L (by unfold frs;rw [w9,hf];exact B8);obtain⟨sl,e⟩:=I.base.slot L o ho (I.ok.frf L hL) hL fun z=>I.ok.exfs L z hL;exact⟨hk,⟨L,_,hf,hn,e,hd⟩,ih (fun b hb=>hs b (by unfold frs;rw [w9,hf];exact C3 _ hb)) hr⟩
 exact all X.outer (fun _ hb=>hb) I.ok.funs
theorem Inv.stack (I:Inv X pins σ H s):s.heap.FunFrames X.base X.stack:=by
 rcases I.ok.stk with e | ⟨e,hf⟩
 · rw [e];exact I.funs
 · rw [e];obtain⟨m,hn,_⟩:=I.loc;refine .cons (by rw [I.ok.kind];decide) hf hn ?_ I.funs;exact Heap.get?_none_of_le (L7 I.ok.bsz I.ok.above)
theorem Inv.stkSub (I:Inv X pins σ H s):∀b∈frs X.stack,b∈X.env.locals::X.fs:=fun b hb=>by
 rcases I.ok.stk with e | ⟨e,hf⟩
 · rw [e] at hb;exact C3 _ hb
 · rw [e] at hb;unfold frs at hb;rw [w9,hf] at hb;exact hb
theorem Inv.stkFree (I:Inv X pins σ H s):∀b∈frs X.stack,H b=none:=fun b hb=>by
 rcases C5.mp (I.stkSub b hb) with e | hb
 · rw [e];exact I.free
 · obtain⟨_,o,ho,_⟩:=I.ok.funs.mem hb;exact I.base.free b o ho (I.ok.frf b hb) fun z=>I.ok.exfs b z hb
theorem Inv.step {ch:List Addr}(I:Inv X pins σ H s)
   (hch:∀b∈ch,(b∈X.ex\/X.s₀.heap.objs.size<=b)/\b≠X.env.locals/\(∀x c,X.env.cells.lookup x=some c->c≠b)/\∀p∈X.pn++pins,p.1≠b)
   (keep:∀b o,b≠X.env.locals->b∉X.fs->b∉ch->s.heap.get? b=some o->H b=none->h'.get? b=some o)
   (slot:∀b o,b≠X.env.locals->b∈X.fs->b∉ch->s.heap.get? b=some o->H b=none->∃sl,h'.get? b=some { o with slots:=sl }) (free:∀b o,b∉ch->s.heap.get? b=some o->H b=none->H' b=none)
   (there:∀b o,b∉ch->s.heap.get? b=some o->∃o',h'.get? b=some o')
   (tups:∀b xs,H b=some (.tup xs)->H' b=some (.tup xs)) (frzs:∀b o u,H b=some (.frz o u)->H' b=some (.frz o u)) (tbls:∀b ps,H b=some (.tbl ps)->∃more,H' b=some (.tbl (ps++more))) (sys:NS H->NS H')
   (ns:∀m,s.heap.Ns X.env.locals m->h'.Ns X.env.locals m) (hok:HOk X.prog X.w H' h') (hg:AllBare g') :
   Inv X pins σ H' { s with heap:=h',gens:=g',drawn:=d',toks:=t' }:=by
 have neL:∀b o,X.s₀.heap.get? b=some o->b≠X.env.locals:=fun b o e=>C9 (J4 (B4 e) I.ok.above)
 have neC:∀b o,X.s₀.heap.get? b=some o->b∉X.ex->b∉ch:=fun b o e hx hb=>by
   rcases(hch b hb).1 with z | z
   · exact hx z
   · exact absurd (J4 (B4 e) z) (U8 _)
 have cellK:∀x c,X.env.cells.lookup x=some c->∀v,s.heap.IsCell c v->h'.IsCell c v:=fun x c e v ⟨o,ho,hd⟩=>by
   have nch:c∉ch:=fun z=>(hch c z).2.2.1 x c e rfl
   by_cases hc:c∈X.fs
   · obtain⟨sl,q⟩:=slot c o (I.cne x c e) hc nch ho (I.freeC x c e);exact⟨_,q,hd⟩
   · exact⟨o,keep c o (I.cne x c e) hc nch ho (I.freeC x c e),hd⟩
 refine⟨I.ok,I.os,hg,⟨fun b o e n hb hx=>?_,fun b o e n hb hx=>?_,fun b o e n hx=>?_,fun b o e hx=>?_,fun b xs e=>tups b xs (I.base.tups b xs e),fun b o xs e=>frzs b o xs (I.base.frzs b o xs e),fun b ps e=>?_,fun z=>sys (I.base.sys z)⟩,?_,fun x c e=>?_,?_,fun x c e=>?_,fun p hp=>?_,hok,I.len⟩
 · exact keep b o (neL b o e) hb (neC b o e hx) (I.base.keep b o e n hb hx) (I.base.free b o e n hx)
 · obtain⟨sl,e1⟩:=I.base.slot b o e n hb hx;obtain⟨sl',e2⟩:=slot b _ (neL b o e) hb (neC b o e hx) e1 (I.base.free b o e n hx);exact⟨sl',e2⟩
 · obtain⟨o',e1⟩:=I.base.there b o e hx;exact free b o' (neC b o e hx) e1 (I.base.free b o e n hx)
 · obtain⟨o',e1⟩:=I.base.there b o e hx;exact there b o' (neC b o e hx) e1
 · obtain⟨m1,e1⟩:=I.base.tbls b ps e;obtain⟨m2,e2⟩:=tbls b _ e1;exact⟨m1++m2,by rw [e2,Array.append_assoc]⟩
 · obtain⟨m,hn,hl⟩:=I.loc;refine⟨m,ns m hn,fun i x v e1 e2 e3=>?_⟩;obtain⟨u,r,l⟩:=hl i x v e1 e2 e3;refine⟨u,r,?_⟩;rcases l with l | ⟨k,c,e,z⟩
   · exact .inl l
   · exact .inr ⟨k,c,e,cellK x c e _ z⟩
 · obtain⟨v,z⟩:=I.cell x c e;exact⟨v,cellK x c e v z⟩
 · obtain⟨m,⟨o,_,_,ho,_⟩,_⟩:=I.loc;exact free _ o (fun z=>(hch _ z).2.1 rfl) ho I.free
 · obtain⟨v,o,ho,hd⟩:=I.cell x c e;exact free c o (fun z=>(hch c z).2.2.1 x c e rfl) ho (I.freeC x c e)
 · obtain⟨e,n,ne,nf,d⟩:=I.pin p hp;have nch:p.1∉ch:=fun z=>(hch p.1 z).2.2.2 p hp rfl;exact⟨keep p.1 p.2 ne nf nch e n,free p.1 p.2 nch e n,ne,nf,d⟩
theorem Inv.un (I:Inv X pins σ H s)(u:Un X.fs [] H H' s.heap h')(hok:HOk X.prog X.w H' h'):Inv X pins σ H' { s with heap:=h',toks:=t' }:=by
 obtain⟨m,⟨o,es,ep,ho,r⟩,_⟩:=id I.loc;obtain⟨sl,hL⟩:=u.any ho I.free (by simp)
 exact I.step (g':=s.gens) (d':=s.drawn) (ch:=[]) (fun _ z=>nomatch z) (fun b o _ hb _ e n=>u.keep b o e n hb (by simp)) (fun b o _ hb _ e n=>u.slot b o e n hb (by simp)) (fun b o _ e n=>u.free b o e n (by simp)) (fun b o _ e=>u.there b o e (by simp)) u.tups u.frzs u.tbls u.sys (fun m' hm=>by
   obtain⟨o',es',ep',ho',r'⟩:=hm;rw [ho] at ho';cases ho'
   exact⟨_,es',ep',hL,r'⟩) hok I.bare
theorem Inv.call (I:Inv X pins σ H s)(u:Un (frs X.stack) ch H H' s.heap h')(hok:HOk X.prog X.w H' h')(hg:AllBare g')
   (hch:∀b∈ch,(b∈X.ex\/X.s₀.heap.objs.size<=b)/\b≠X.env.locals/\(∀x c,X.env.cells.lookup x=some c->c≠b)/\∀p∈X.pn++pins,p.1≠b) :
   Inv X pins σ H' { s with heap:=h',gens:=g',drawn:=d',toks:=t' }:=by
 obtain⟨m,⟨o,es,ep,ho,r⟩,_⟩:=id I.loc;obtain⟨sl,hL⟩:=u.any ho I.free fun z=>(hch _ z).2.1 rfl
 exact I.step (ch:=ch) hch (fun b o hL hb hc e n=>u.keep b o e n (fun z=>(C5.mp (I.stkSub b z)).elim hL hb) hc) (fun b o _ _ hc e n=>u.any e n hc) (fun b o hc e n=>u.free b o e n hc) (fun b o hc e=>u.there b o e hc) u.tups u.frzs u.tbls u.sys (fun m' hm=>by
   obtain⟨o',es',ep',ho',r'⟩:=hm;rw [ho] at ho';cases ho'
   exact⟨_,es',ep',hL,r'⟩) hok hg
theorem Inv.turned {t':Nat}{it:Addr}(I:Inv X pins σ H s)(k:∀b o,b≠it->s.heap.get? b=some o->h'.get? b=some o)(hn:H it=none)(hL:it≠X.env.locals)
   (h1:it∈X.ex\/X.s₀.heap.objs.size<=it) (h2:∀x c,X.env.cells.lookup x=some c->c≠it) (h3:∀p∈X.pn++pins,p.1≠it):Inv X pins σ H { s with heap:=h',toks:=t' }:=by
 have nit:∀b u,H b=some u->b≠it:=fun b u e z=>by rw [z,hn] at e;cases e
 refine I.step (g':=s.gens) (d':=s.drawn) (ch:=[it]) (fun b hb=>?_) (fun b o _ _ hc e _=>k b o (fun z=>hc (by simp [z])) e) (fun b o _ _ hc e _=>⟨o.slots,k b o (fun z=>hc (by simp [z])) e⟩) (fun _ _ _ _ n=>n)
   (fun b o hc e=>⟨o,k b o (fun z=>hc (by simp [z])) e⟩) (fun _ _ e=>e) (fun _ _ _ e=>e) (fun b ps e=>⟨#[],by rw [e];simp⟩) (fun z=>z) (fun m hm=>?_) (fun b u e=>?_) I.bare
 · grind
 · obtain⟨o,es,ep,ho,r⟩:=hm;exact⟨o,es,ep,k _ o (Ne.symm hL) ho,r⟩
 · refine(I.hok b u e).stay (fun c v hc q=>k c v ?_ q) (fun _ q=>q) fun _ _ q=>q;rcases hc with z | z
   · grind
   · grind
theorem Inv.tok (I:Inv X pins σ H s)(t:Nat):Inv X pins σ H { s with toks:=t }:=I.un (h':=s.heap) (t':=t) Un.refl I.hok
theorem Inv.kept (I:Inv X pins σ H s)(k:∀b u,s.heap.get? b=some u->h'.get? b=some u):Inv X pins σ H { s with heap:=h',toks:=t' }:=I.un (Un.kept k) (I.hok.kept k)
theorem Inv.laid (I:Inv X pins σ H s)(k:∀b u,s.heap.get? b=some u->h'.get? b=some u)(hp:s.heap.objs.size<=a)(new:G8 X.prog X.w (upd H a o) h' a o) :
   Inv X pins σ (upd H a o) { s with heap:=h',toks:=t' }:=I.un (Un.laid k hp (I.hok.fresh hp) I.bigS) (I.hok.laid k hp new)
theorem Inv.write (I:Inv X pins σ H s)(mu:Mut (H x))(he:e=x\/H e=some (.own x))(k:∀b u,b≠e->s.heap.get? b=some u->h'.get? b=some u)(heo:∃u,h'.get? e=some u)
   (new:G8 X.prog X.w (upd H x o) h' x o):Inv X pins σ (upd H x o) { s with heap:=h',toks:=t' }:=I.un (Un.write mu he k heo) (I.hok.write mu he k heo new)
theorem Inv.pins_of (I:Inv X pins σ H s)(h:∀p∈pins',s.heap.get? p.1=some p.2/\H p.1=none/\p.1≠X.env.locals/\p.1∉X.fs/\∀v,p.2.data≠.cell v):Inv X pins' σ H s:=
 ⟨I.ok,I.os,I.bare,I.base,I.loc,I.cell,I.free,I.freeC,fun p hp=>(F9.mp hp).elim (fun z=>I.pin p (Z0 _ z)) (h p),I.hok,I.len⟩
theorem nodup_ix {N:List Str}(hN:N.Nodup){i j:Nat}{x:Str}(a:N[i]?=some x)(b:N[j]?=some x):i=j:=by
 obtain⟨h1,e1⟩:=D7.mp a;obtain⟨h2,e2⟩:=D7.mp b;exact(List.getElem_inj hN).mp (e1.trans e2.symm)
theorem HK (I:Inv X pins σ H s)(hN:X.N.Nodup)(hi:X.N[i]?=some x)(hx:Loc X.env.scope x)(r:RelV v u)
   (h:∀s',Inv X pins (σ.set i (some v)) H s'->(∃a,U5 a s.heap s'.heap/\(a=X.env.locals\/X.env.cells.lookup x=some a))->Q () s') (hf:X.fn x=true\/X.env.scope.names.lookup x=some .local:=by first | exact .inl rfl | exact .inr rfl | assumption):wpAny M A (storeName X.env x u) Q E s:=by
 obtain⟨m,hn,hl⟩:=id I.loc;have hcls:(X.env.scope.kind == .class || (X.env.scope.kind == .module && X.env.locals != X.env.globals))=false:=by rw [I.ok.kind];rfl
 have hiσ:i < σ.length:=by rw [I.len];exact(D7.mp hi).1
 have cne:=I.cne
 have tracked:∀{a:Addr} {h':Heap},(∃o,s.heap.get? a=some o/\H a=none)->U5 a s.heap h'->HOk X.prog X.w H h':=fun {a h'} ha hs b ob e=>by
   obtain⟨_,_,hfree⟩:=ha;refine(I.hok b ob e).stay (fun c w' hc q=>(hs.2 c ?_).trans q) (fun _ q=>q) fun _ _ q=>q;rintro rfl;rcases hc with rfl | hc
   · rw [hfree] at e;cases e
   · rw [hfree] at hc;cases hc
 rcases hx with hk | hk
 · refine wpAny_storeName_local hk hn (fun h' hn' hs=>?_) hcls;obtain⟨oL,_,_,hoL,_⟩:=id hn;refine h _ ⟨I.ok,I.os,I.bare,⟨fun b o e n hb hx=>?_,fun b o e n hb hx=>?_,I.base.free,fun b o e hx=>?_,I.base.tups,I.base.frzs,I.base.tbls,I.base.sys⟩,⟨_,hn',fun j y v' e1 e2 e3=>?_⟩,fun y c e=>?_,I.free,I.freeC,fun p hp=>?_,tracked ⟨oL,hoL,I.free⟩ hs,by simpa using I.len⟩ ⟨_,hs,.inl rfl⟩
   · exact(hs.2 b (C9 (J4 (B4 e) I.ok.above))).trans (I.base.keep b o e n hb hx)
   · obtain⟨sl,e1⟩:=I.base.slot b o e n hb hx;exact⟨sl,(hs.2 b (C9 (J4 (B4 e) I.ok.above))).trans e1⟩
   · obtain⟨o',e1⟩:=I.base.there b o e hx;exact⟨o',(hs.2 b (C9 (J4 (B4 e) I.ok.above))).trans e1⟩
   · by_cases hj:j=i
     · subst hj;rw [hi] at e1;cases e1;rw [M6 hiσ] at e2;cases e2;exact⟨u,r,.inl ⟨hk,by simp⟩⟩
     · rw [O4 (Ne.symm hj)] at e2;obtain⟨u',r',q⟩:=hl j y v' e1 e2 e3;refine⟨u',r',?_⟩;rcases q with⟨k,e⟩ | ⟨k,c,e,z⟩
       · refine .inl ⟨k,?_⟩;have:y≠x:=fun e=>hj (nodup_ix hN e1 (e▸hi));simp [this,e]
       · exact .inr ⟨k,c,e,z.sameBut hs (cne y c e)⟩
   · obtain⟨w',z⟩:=I.cell y c e;exact⟨w',z.sameBut hs (cne y c e)⟩
   · obtain⟨e,n,ne,nf,d⟩:=I.pin p hp;exact⟨(hs.2 p.1 ne).trans e,n,ne,nf,d⟩
 · have hfn:X.fn x=true:=by
     rcases hf with z | z
     · exact z
     · rw [z] at hk;cases hk
   obtain⟨c,hc⟩:=I.ok.has x (.inl hk);obtain⟨w',z⟩:=I.cell x c hc;refine wpAny_storeName_cell I.ok.kind hk hc z (fun h' hc' hs=>?_);obtain⟨oc,hoc,hocd⟩:=id z;refine h { s with heap:=h' } ⟨I.ok,I.os,I.bare,⟨fun b o e n hb hx=>?_,fun b o e n hb hx=>?_,I.base.free,fun b o e hx=>?_,I.base.tups,I.base.frzs,I.base.tbls,I.base.sys⟩,⟨m,hn.sameBut hs (Ne.symm (cne x c hc)),fun j y v' e1 e2 e3=>?_⟩,fun y c' e=>?_,I.free,I.freeC,fun p hp=>?_,tracked ⟨oc,hoc,I.freeC x c hc⟩ hs,by simpa using I.len⟩ ⟨c,hs,.inr hc⟩
   · exact(hs.2 b (C9 (J4 (B4 e) (I.ok.cab x c hfn hc)))).trans (I.base.keep b o e n hb hx)
   · obtain⟨sl,e1⟩:=I.base.slot b o e n hb hx;exact⟨sl,(hs.2 b (C9 (J4 (B4 e) (I.ok.cab x c hfn hc)))).trans e1⟩
   · obtain⟨o',e1⟩:=I.base.there b o e hx;exact⟨o',(hs.2 b (C9 (J4 (B4 e) (I.ok.cab x c hfn hc)))).trans e1⟩
   · by_cases hj:j=i
     · subst hj;rw [hi] at e1;cases e1;rw [M6 hiσ] at e2;cases e2;exact⟨u,r,.inr ⟨.inl hk,c,hc,hc'⟩⟩
     · rw [O4 (Ne.symm hj)] at e2;obtain⟨u',r',q⟩:=hl j y v' e1 e2 e3;refine⟨u',r',?_⟩;rcases q with q | ⟨k,c',e,z'⟩
       · exact .inl q
       · refine .inr ⟨k,c',e,z'.sameBut hs ?_⟩;rintro rfl;exact hj (nodup_ix hN e1 (I.ok.inj _ _ _ e hc▸hi))
   · by_cases hcc:c'=c
     · subst hcc;exact⟨_,hc'⟩
     · obtain⟨w2,z2⟩:=I.cell y c' e;exact⟨w2,z2.sameBut hs hcc⟩
   · obtain⟨e,n,ne,nf,d⟩:=I.pin p hp;refine⟨(hs.2 p.1 ?_).trans e,n,ne,nf,d⟩;intro q;rw [q,hoc] at e;have q':oc=p.2:=L8 e;exact d w' (by rw [<- q'];exact hocd)
theorem d5 (I:Inv X pins σ H s)(hN:X.N.Nodup)(hi:X.N[i]?=some x)(hx:Loc X.env.scope x)(r:RelV v u)
   (h:∀s',Inv X pins (σ.set i (some v)) H s'->Q () s') (hf:X.fn x=true\/X.env.scope.names.lookup x=some .local:=by first | exact .inl rfl | exact .inr rfl | assumption):wpAny M A (storeName X.env x u) Q E s:=
 HK I hN hi hx r (fun s' I' _=>h s' I') hf
end
abbrev XK:=Value->Option Addr->Hp->Prop
abbrev St:=List (Option V)
abbrev VK:=V->Hp->Prop
abbrev TE:=St->Hp->VK->Prop
abbrev TT:=St->Hp->(Bool->Hp->Prop)->Prop
abbrev TA:=St->Hp->(List V->Hp->Prop)->Prop
structure Ends where
 nx:St->Hp->Prop
 rt:VK
 bk:St->Hp->Prop:=fun _ _=>False
 ct:St->Hp->Prop:=fun _ _=>False
abbrev TS:=Ends->St->Hp->Prop
def EP (X:Cx)(pins:List (Addr×Obj))(σ:St)(Q:VK)(u:Value)(s':Shared):Prop:=∃v H',Inv X pins σ H' s'/\RelV v u/\Q v H'
def TP (X:Cx)(pins:List (Addr×Obj))(σ:St)(Q:Bool->Hp->Prop)(b:Bool)(s':Shared):Prop:=∃H',Inv X pins σ H' s'/\Q b H'
def AP (X:Cx)(pins:List (Addr×Obj))(σ:St)(Q:List V->Hp->Prop)(us:List Value)(s':Shared):Prop:=∃vs H',Inv X pins σ H' s'/\Vals vs us/\Q vs H'
def SP (X:Cx)(pins:List (Addr×Obj))(D:Ends)(f:Flow)(s':Shared):Prop:=
 match f with
 | .next=>∃σ' H',Inv X pins σ' H' s'/\D.nx σ' H'
 | .brk=>∃σ' H',Inv X pins σ' H' s'/\D.bk σ' H'
 | .cont=>∃σ' H',Inv X pins σ' H' s'/\D.ct σ' H'
 | .ret u=>∃v σ' H',Inv X pins σ' H' s'/\RelV v u/\D.rt v H'
def PE (X:Cx)(e:Expr)(t:TE):Prop:=
 ∀(pins:List (Addr×Obj)) (s:Shared) (σ:St) (H:Hp) (Q:VK),Inv X pins σ H s->t σ H Q->wpAny (model X.prog X.w) X.A (eval e X.env) (EP X pins σ Q) X.xe s
def PT (X:Cx)(e:Expr)(t:TT):Prop:=
 ∀(pins:List (Addr×Obj)) (s:Shared) (σ:St) (H:Hp) (Q:Bool->Hp->Prop),Inv X pins σ H s->t σ H Q->wpAny (model X.prog X.w) X.A (isTrue e X.env (eval e X.env)) (TP X pins σ Q) X.xe s
def PW (X:Cx)(e:Expr)(t:TT):Prop:=
 ∀(whole:Sem Value) (pins:List (Addr×Obj)) (s:Shared) (σ:St) (H:Hp) (Q:Bool->Hp->Prop),Inv X pins σ H s->t σ H Q->wpAny (model X.prog X.w) X.A (isTrue e X.env whole) (TP X pins σ Q) X.xe s
theorem PW.pt (h:PW X e t):PT X e t:=h _
def PA (X:Cx)(es:List Expr)(t:TA):Prop:=
 ∀(pos:Pos) (pins:List (Addr×Obj)) (s:Shared) (σ:St) (H:Hp) (Q:List V->Hp->Prop),Inv X pins σ H s->t σ H Q->wpAny (model X.prog X.w) X.A (spliced (backTo pos (E3 es X.env))) (AP X pins σ Q) X.xe s
def PS (X:Cx)(st:Stmt)(t:TS):Prop:=
 ∀(pins:List (Addr×Obj)) (s:Shared) (σ:St) (H:Hp) (D:Ends),Inv X pins σ H s->t D σ H->wpAny (model X.prog X.w) X.A (exec st X.env) (SP X pins D) X.xe s
def PSs (X:Cx)(st:List Stmt)(t:TS):Prop:=
 ∀(pins:List (Addr×Obj)) (s:Shared) (σ:St) (H:Hp) (D:Ends),Inv X pins σ H s->t D σ H->wpAny (model X.prog X.w) X.A (execs st X.env) (SP X pins D) X.xe s
theorem thn {α:Type}{t:Sem α}{Q Q':α->Shared->Prop}{M:Model}{A:Around}{E:Value->Shared->Prop}{s:Shared}(h:wpAny M A t Q E s)(hQ:∀a s,Q a s->Q' a s):wpAny M A t Q' E s:=G7 h hQ fun _ _ x=>x
section
variable {X:Cx}
def tVar (i:Nat):TE:=fun σ H Q=>∃v,σ[i]?=some (some v)/\Q v H
def tC (v:V):TE:=fun _ H Q=>Q v H
theorem HL (hN:X.N[i]?=some x)(hv:Vis X.env.scope x)(hd:(x == ("__debug__":Str))=false:=by decide)(hcd:(x == ("__classdict__":Str))=false:=by decide):PE X (.Name x pos) (tVar i):=by
 intro pins s σ H Q I h;obtain⟨v,e,h⟩:=h;obtain⟨m,hn,hl⟩:=I.loc;obtain⟨u,r,l⟩:=hl i x v hN e hv;have fin:EP X pins σ Q u s:=⟨v,H,I,r,h⟩;rcases l with⟨hk,hm⟩ | ⟨hk,c,hc,hcell⟩
 · exact wpAny_Name (wpAny_loadName_local I.ok.kind hk hn hm fin) hd
 · rcases hk with hk | hk
   · exact wpAny_Name (wpAny_loadName_cell I.ok.kind hk hc hcell fin) hd
   · exact wpAny_Name (wpAny_loadName_free I.ok.kind hk hc hcell fin hcd) hd
theorem G9 {i j pos}:PE X (.Constant (.int i) j pos) (tC (.int i)):=fun _ _ _ H _ I h=>wpAny_Constant_int ⟨.int i,H,I.tok _,⟨_,rfl⟩,h⟩
theorem pe_bl {b j pos}:PE X (.Constant (.bool b) j pos) (tC (.bl b)):=fun _ _ _ H _ I h=>Constant_bool ⟨.bl b,H,I,rfl,h⟩
theorem pe_non {j pos}:PE X (.Constant .none j pos) (tC .non):=fun _ _ _ H _ I h=>Constant_none ⟨.non,H,I,rfl,h⟩
theorem pe_str {x j pos}:PE X (.Constant (.str x) j pos) (tC (.str x)):=fun _ _ _ H _ I h=>Calls.Constant_str ⟨.str x,H,I.tok _,⟨_,rfl⟩,h⟩
def Gl (X:Cx)(x:Str):Prop:=X.env.kindOf x=some .globalImplicit
theorem HM (I:Inv X pins σ H s)(hg:Gl X x)(hm:X.mg x=some u)(h:Q u s)
   (hd:(x == ("__debug__":Str))=false:=by decide):wpAny (model X.prog X.w) X.A (eval (.Name x pos) X.env) Q E s:=
 Calls.Name_function_global I.ok.kind hg (Calls.loadGlobal_global (by rw [I.ok.glob];exact I.mod.glob.keeps I.bk) hm h) hd
theorem Bg (I:Inv X pins σ H s)(hg:Gl X x)(hm:X.mg x=none)(hv:K6 x=some u)(h:Q u s)
   (hn:x≠"__name__":=by decide) (hd:(x == ("__debug__":Str))=false:=by decide):wpAny (model X.prog X.w) X.A (eval (.Name x pos) X.env) Q E s:=by
 obtain⟨mb,h1,h2⟩:=I.mod.blt;exact Calls.Name_function_global I.ok.kind hg (Calls.loadGlobal_builtin (by rw [I.ok.glob];exact I.mod.glob.keeps I.bk) hm (by rw [I.ok.blt];exact h1.keeps I.bk) ((h2 x hn).trans hv) h) hd
theorem L_ {x:Str}{v:V}{u:Value}{pos:Pos}(hg:Gl X x)(hm:X.mg x=some u)(r:RelV v u)(hd:(x == ("__debug__":Str))=false:=by decide):PE X (.Name x pos) (tC v):=
 fun _ _ _ H _ I h=>HM I hg hm ⟨v,H,I,r,h⟩ hd
theorem Ma {x:Str}{v:V}{u:Value}{pos:Pos}(hg:Gl X x)(hm:X.mg x=none)(hv:K6 x=some u)(r:RelV v u)(hn:x≠"__name__":=by decide)(hd:(x == ("__debug__":Str))=false:=by decide):PE X (.Name x pos) (tC v):=
 fun _ _ _ H _ I h=>Bg I hg hm hv ⟨v,H,I,r,h⟩ hn hd
variable {a b:Expr}{ta tb:TE}{pos:Pos}
def tB (t:TE):TT:=fun σ H Q=>t σ H fun x H1=>∃c,x=.bl c/\Q c H1
theorem pt_val (h:PE X e t)(he:∀whole,isTrue e X.env whole=(do let v ← whole;Y7 e.pos;Q6 [v] (truthy v)):=by intro _;rfl):PT X e (tB t):=by
 intro pins s σ H Q I hw;refine isTrue_plain (thn (h pins s σ H _ I hw) fun v s1 ⟨x,H1,I1,r1,q1⟩=>?_) (he _);obtain⟨d,rfl,q⟩:=q1;cases r1;exact V8 ⟨H1,I1,q⟩
variable {tA tB':TT}{rest:List Expr}
def tAnd (t u:TT):TT:=fun σ H Q=>t σ H fun c H1=>if c=true then u σ H1 Q else Q false H1
def tOr (t u:TT):TT:=fun σ H Q=>t σ H fun c H1=>if c=true then Q true H1 else u σ H1 Q
def tNot (t:TT):TT:=fun σ H Q=>t σ H fun c H1=>Q (!c) H1
theorem Mb (ha:PT X a tA):PW X (.BoolOp .And [a] pos) tA:=by
 intro wh pins s σ H Q I h;refine isTrue_and (thn (ha pins s σ H Q I h) fun c s1 e=>?_);cases c with
 | true=>exact isTrue_and_nil e
 | false=>exact e
theorem pw_or1 (ha:PT X a tA):PW X (.BoolOp .Or [a] pos) tA:=by
 intro wh pins s σ H Q I h;refine isTrue_or (thn (ha pins s σ H Q I h) fun c s1 e=>?_);cases c with
 | false=>exact isTrue_or_nil e
 | true=>exact e
theorem pw_and (ha:PT X a tA)(hb:PW X (.BoolOp .And (b::rest) pos) tB'):PW X (.BoolOp .And (a::b::rest) pos) (tAnd tA tB'):=by
 intro wh pins s σ H Q I h;refine isTrue_and (thn (ha pins s σ H _ I h) fun c s1 ⟨H1,I1,q1⟩=>?_);cases c with
 | true=>exact hb wh pins s1 σ H1 Q I1 q1
 | false=>exact⟨H1,I1,q1⟩
theorem pw_or (ha:PT X a tA)(hb:PW X (.BoolOp .Or (b::rest) pos) tB'):PW X (.BoolOp .Or (a::b::rest) pos) (tOr tA tB'):=by
 intro wh pins s σ H Q I h;refine isTrue_or (thn (ha pins s σ H _ I h) fun c s1 ⟨H1,I1,q1⟩=>?_);cases c with
 | true=>exact⟨H1,I1,q1⟩
 | false=>exact hb wh pins s1 σ H1 Q I1 q1
theorem pt_not (ha:PT X a tA):PT X (.UnaryOp .Not a pos) (tNot tA):=by
 intro pins s σ H Q I h;exact isTrue_not (ha pins s σ H (fun c H1=>Q (!c) H1) I h)
def tAndV (ta tb:TE):TE:=fun σ H Q=>ta σ H fun x H1=>∃c,x=.bl c/\if c=true then tb σ H1 Q else Q (.bl false) H1
def tOrV (ta tb:TE):TE:=fun σ H Q=>ta σ H fun x H1=>∃c,x=.bl c/\if c=true then Q (.bl true) H1 else tb σ H1 Q
def tNotV (ta:TE):TE:=fun σ H Q=>ta σ H fun x H1=>∃c,x=.bl c/\Q (.bl (!c)) H1
theorem pe_one {op}{t:TE}(h:PE X a t):PE X (.BoolOp op [a] pos) t:=fun pins s σ H Q I hw=>BoolOp_one (h pins s σ H Q I hw)
theorem pe_and (ha:PE X a ta)(hb:PE X (.BoolOp .And (b::rest) pos) tb):PE X (.BoolOp .And (a::b::rest) pos) (tAndV ta tb):=by
 intro pins s σ H Q I h;refine BoolOp_and (thn (ha pins s σ H _ I h) fun v s1 ⟨x,H1,I1,r1,q1⟩=>?_);obtain⟨c,rfl,q1⟩:=q1;cases r1;refine V8 ?_;cases c with
 | true=>exact hb pins s1 σ H1 Q I1 q1
 | false=>exact⟨.bl false,H1,I1,rfl,q1⟩
theorem pe_or (ha:PE X a ta)(hb:PE X (.BoolOp .Or (b::rest) pos) tb):PE X (.BoolOp .Or (a::b::rest) pos) (tOrV ta tb):=by
 intro pins s σ H Q I h;refine BoolOp_or (thn (ha pins s σ H _ I h) fun v s1 ⟨x,H1,I1,r1,q1⟩=>?_);obtain⟨c,rfl,q1⟩:=q1;cases r1;refine V8 ?_;cases c with
 | false=>exact hb pins s1 σ H1 Q I1 q1
 | true=>exact⟨.bl true,H1,I1,rfl,q1⟩
theorem pe_not (ha:PE X a ta):PE X (.UnaryOp .Not a pos) (tNotV ta):=by
 intro pins s σ H Q I h;refine UnaryOp_ (thn (ha pins s σ H _ I h) fun v s1 ⟨x,H1,I1,r1,q1⟩=>?_);obtain⟨c,rfl,q1⟩:=q1;cases r1;exact not_of (V8 ⟨.bl (!c),H1,I1,rfl,q1⟩)
def tIf (t:TT)(ta tb:TE):TE:=fun σ H Q=>t σ H fun c H1=>if c=true then ta σ H1 Q else tb σ H1 Q
theorem FK (hc:PT X c tA)(ha:PE X a ta)(hb:PE X b tb):PE X (.IfExp c a b pos) (tIf tA ta tb):=by
 intro pins s σ H Q I h;refine wpAny_IfExp (thn (hc pins s σ H _ I h) fun d s1 ⟨H1,I1,q1⟩=>?_);cases d with
 | true=>exact ha pins s1 σ H1 Q I1 q1
 | false=>exact hb pins s1 σ H1 Q I1 q1
end
def SqL (K:A3)(H:Hp)(a:Addr)(xs:List V):Prop:=
 Rd H a (.lst xs)\/
   ∃(o:Obj) (its:Array Value) (n:Nat),K.lookup a=some o/\o.cls=.type "list"/\o.dict=none/\o.data=.seq its n/\its.size<=B9/\Vals xs its.toList
def SqT (K:A3)(H:Hp)(a:Addr)(xs:List V):Prop:=
 Rd H a (.tup xs)\/
   ∃(o:Obj) (its:Array Value) (n:Nat),K.lookup a=some o/\o.cls=.type "tuple"/\o.data=.seq its n/\its.size<=B9/\Vals xs its.toList
def absV:Value->Option V
 | .none=>some .non
 | .bool b=>some (.bl b)
 | .int i _=>some (.int i)
 | .str x _=>some (.str x)
 | .bytes b _=>some (.byt b)
 | .float b _=>some (.flt b)
 | .ref a=>some (.ref a)
 | .type n=>some (.ty n)
 | _=>none
theorem RelV.abs {x:V}{u:Value}(r:RelV x u):absV u=some x:=by grind [RelV,V,absV]
theorem RelV.inj {x y:V}{u:Value}(r:RelV x u)(q:RelV y u):x=y:=by grind [RelV,V]
theorem Vals.inj (h:Vals xs us)(h':Vals ys us):xs=ys:=by
 induction h generalizing ys with
 | nil=>cases h';rfl
 | cons r t ih=>cases h' with | cons r' t'=>rw [r.inj r',ih t']
section
variable {X:Cx}{pins:List (Addr×Obj)}{σ:St}{H:Hp}{s:Shared}{a:Addr}{xs ys:List V}
theorem SqL.of {K:A3}(h:H a=some (.lst xs)):SqL K H a xs:=.inl (.inl h)
theorem SqT.of {K:A3}(h:H a=some (.tup xs)):SqT K H a xs:=.inl (.inl h)
theorem Inv.list (I:Inv X pins σ H s)(h:SqL X.K H a xs):∃its:List Value,Vals xs its/\PlainL s.heap a its.toArray/\xs.length<=B9:=by
 rcases h with h | ⟨o,its,n,hk,hc,hd,hs,hz,r⟩
 · obtain⟨z,its,n,r,e⟩:=h.ok I.hok;exact⟨its,r,⟨_,n,e,rfl,rfl,rfl⟩,z⟩
 · refine⟨its.toList,r,⟨o,n,I.kIn a o hk,hc,hd,by simpa using hs⟩,?_⟩;have e:=r.length;simp only [J9] at e;omega
theorem Inv.tuple (I:Inv X pins σ H s)(h:SqT X.K H a xs):∃its:List Value,Vals xs its/\IsTup s.heap a its.toArray/\xs.length<=B9:=by
 rcases h with h | ⟨o,its,n,hk,hc,hs,hz,r⟩
 · obtain⟨z,its,r,p⟩:=h.ok I.hok;exact⟨its,r,p.is,z⟩
 · refine⟨its.toList,r,⟨o,I.kIn a o hk,hc,n,by simpa using hs⟩,?_⟩;have e:=r.length;simp only [J9] at e;omega
theorem Inv.list_inj (I:Inv X pins σ H s)(h:SqL X.K H a xs)(h':SqL X.K H a ys):xs=ys:=by
 obtain⟨its,r,⟨o,n,e,_,_,d⟩,_⟩:=I.list h;obtain⟨its',r',⟨o',n',e',_,_,d'⟩,_⟩:=I.list h';rw [e] at e';cases e';rw [d] at d';injection d' with d1 _;have:its=its':=by simpa using congrArg Array.toList d1
 subst this;exact r.inj r'
theorem Inv.tuple_inj (I:Inv X pins σ H s)(h:SqT X.K H a xs)(h':SqT X.K H a ys):xs=ys:=by
 obtain⟨its,r,⟨o,e,_,n,d⟩,_⟩:=I.tuple h;obtain⟨its',r',⟨o',e',_,n',d'⟩,_⟩:=I.tuple h';rw [e] at e';cases e';rw [d] at d';injection d' with d1 _;have:its=its':=by simpa using congrArg Array.toList d1
 subst this;exact r.inj r'
end
abbrev Cx.wish (X:Cx)(E:Value->Shared->Prop):Cx:={ X with xe:=E }
abbrev Cx.nox (X:Cx):Cx:=X.wish fun _ _=>False
theorem Cx.Ok.wish {X:Cx}(ok:X.Ok)(E:Value->Shared->Prop):(X.wish E).Ok:=
 ⟨ok.mod,ok.kind,ok.glob,ok.blt,ok.above,ok.inj,ok.has,ok.cab,ok.hd,ok.frames,ok.stk,ok.exf,ok.bs,ok.bsz,ok.noex,ok.exfs,ok.funs,ok.frf,ok.nos⟩
theorem Cx.Ok.unwish {X:Cx}(ok:(X.wish E).Ok):X.Ok:=
 ⟨ok.mod,ok.kind,ok.glob,ok.blt,ok.above,ok.inj,ok.has,ok.cab,ok.hd,ok.frames,ok.stk,ok.exf,ok.bs,ok.bsz,ok.noex,ok.exfs,ok.funs,ok.frf,ok.nos⟩
section
variable {X:Cx}{pins:List (Addr×Obj)}{σ:St}{H:Hp}{s:Shared}{E:Value->Shared->Prop}
theorem Inv.wish (I:Inv X pins σ H s)(E:Value->Shared->Prop):Inv (X.wish E) pins σ H s:=⟨I.ok.wish E,I.os,I.bare,I.base,I.loc,I.cell,I.free,I.freeC,I.pin,I.hok,I.len⟩
theorem Inv.unwish (I:Inv (X.wish E) pins σ H s):Inv X pins σ H s:=⟨I.ok.unwish,I.os,I.bare,I.base,I.loc,I.cell,I.free,I.freeC,I.pin,I.hok,I.len⟩
theorem SP.unwish (h:SP (X.wish E) pins D f s'):SP X pins D f s':=by
 cases f with
 | next=>obtain⟨σ',H',I,q⟩:=h;exact⟨σ',H',I.unwish,q⟩
 | brk=>obtain⟨σ',H',I,q⟩:=h;exact⟨σ',H',I.unwish,q⟩
 | cont=>obtain⟨σ',H',I,q⟩:=h;exact⟨σ',H',I.unwish,q⟩
 | ret u=>obtain⟨v,σ',H',I,r,q⟩:=h;exact⟨v,σ',H',I.unwish,r,q⟩
theorem PSs.nox {st:List Stmt}(h:PSs X.nox st t):PSs X st t:=fun pins s σ H D I hw=>
 G7 (h pins s σ H D (I.wish _) hw) (fun _ _ q=>q.unwish) fun _ _ z=>Z3 z
end
section
variable {X:Cx}{st:Stmt}{rest:List Stmt}{t u:TS}{e:Expr}{te:TE}{pos:Pos}
def tNext:TS:=fun D σ H=>D.nx σ H
def tSeq (t u:TS):TS:=fun D σ H=>t { D with nx:=u D } σ H
theorem HN:PSs X [] tNext:=fun _ _ σ H _ I h=>Dq ⟨σ,H,I,h⟩
theorem X5 (h1:PS X st t)(h2:PSs X rest u):PSs X (st::rest) (tSeq t u):=by
 intro pins s σ H D I h;refine wpAny_execs_cons (thn (h1 pins s σ H { D with nx:=u D } I h) fun f s1 q=>?_);cases f with
 | next =>
   obtain⟨σ',H',I',q⟩:=q;exact h2 pins s1 σ' H' D I' q
 | ret v=>exact q
 | brk=>exact q
 | cont=>exact q
theorem DV (h1:PS X st t):PSs X [st] t:=by
 intro pins s σ H D I h;refine wpAny_execs_cons (thn (h1 pins s σ H D I h) fun f s1 q=>?_);cases f with
 | next=>exact Dq q
 | ret v=>exact q
 | brk=>exact q
 | cont=>exact q
theorem Inv.quiet (I:Inv X pins σ H s):interactive X.env=false:=by simp [interactive,I.ok.kind]
def FL (te:TE):TS:=fun D σ H=>te σ H fun _ H1=>D.nx σ H1
theorem Mc (he:PE X e te)(hs:j8 e none pos.line X.env=pure false:=by rfl):PS X (.Expr e pos) (FL te):=by
 intro pins s σ H D I h;exact wpAny_Expr_any (thn (he pins s σ H _ I h) fun v s1 ⟨x,H1,I1,r1,q1⟩=>⟨σ,H1,I1,q1⟩) I.quiet hs
def tRet (te:TE):TS:=fun D σ H=>te σ H D.rt
theorem DW (he:PE X e te):PS X (.Return (some e) pos) (tRet te):=by
 intro pins s σ H D I h;exact wpAny_Return_some (thn (he pins s σ H _ I h) fun v s1 ⟨x,H1,I1,r1,q1⟩=>⟨x,σ,H1,I1,r1,q1⟩)
def tIfS (c:TT)(t u:TS):TS:=fun D σ H=>c σ H fun b H1=>if b=true then t D σ H1 else u D σ H1
theorem ps_if (hc:PT X c tc)(ha:PSs X a t)(hb:PSs X b u):PS X (.If c a b pos) (tIfS tc t u):=by
 intro pins s σ H D I h;refine wpAny_If (thn (hc pins s σ H _ I h) fun d s1 ⟨H1,I1,q1⟩=>?_);cases d with
 | true=>exact ha pins s1 σ H1 D I1 q1
 | false=>exact hb pins s1 σ H1 D I1 q1
end
abbrev TG:=V->St->Hp->(St->Hp->Prop)->Prop
abbrev TGs:=List V->St->Hp->(St->Hp->Prop)->Prop
def PG (X:Cx)(target:Expr)(t:TG):Prop:=
 ∀ (pins : List (Addr × Obj)) (s : Shared) (σ : St) (H : Hp) (v : V) (u : Value) (Q : St -> Hp -> Prop), Inv X pins σ H s -> RelV v u -> t v σ H Q ->
   wpAny (model X.prog X.w) X.A (assign target X.env u) (fun _ s'=>∃σ' H',Inv X pins σ' H' s'/\Q σ' H') X.xe s
def PGs (X:Cx)(ts:List Expr)(t:TGs):Prop:=
 ∀ (pins : List (Addr × Obj)) (s : Shared) (σ : St) (H : Hp) (vs : List V) (us : List Value) (Q : St -> Hp -> Prop), Inv X pins σ H s -> Vals vs us -> t vs σ H Q ->
   wpAny (model X.prog X.w) X.A (v4 ((J0 ts X.env).map (·.2)) us) (fun _ s'=>∃σ' H',Inv X pins σ' H' s'/\Q σ' H') X.xe s
abbrev TSet:=V->V->V->Hp->(Hp->Prop)->Prop
def PSet (X:Cx)(t:TSet):Prop:=
 ∀ (pins : List (Addr × Obj)) (s : Shared) (σ : St) (H : Hp) (o i v : V) (ov iv u : Value) (Q : Hp -> Prop), Inv X pins σ H s -> RelV o ov -> RelV i iv -> RelV v u -> t o i v H Q ->
   wpAny (model X.prog X.w) X.A (setItem ov iv u) (fun _ s'=>∃H',Inv X pins σ H' s'/\Q H') X.xe s
section
variable {X:Cx}{pos:Pos}
def K8 (i:Nat):TG:=fun v σ H Q=>Q (σ.set i (some v)) H
theorem Md (hN:X.N.Nodup)(hi:X.N[i]?=some x)(hx:Loc X.env.scope x)(hf:X.fn x=true\/X.env.scope.names.lookup x=some .local:=by first | exact .inl rfl | exact .inr rfl | assumption):PG X (.Name x pos) (K8 i):=by
 intro pins s σ H v u Q I r h;exact Dm (d5 I hN hi hx r (fun s' I'=>⟨_,H,I',h⟩) hf)
def gNil:TGs:=fun vs σ H Q=>vs=[]/\Q σ H
def n6 (t:TG)(u:TGs):TGs:=fun vs σ H Q=>∃v r,vs=v::r/\t v σ H fun σ' H'=>u r σ' H' Q
theorem FM:PGs X [] gNil:=by
 intro pins s σ H vs us Q I r h;obtain⟨e,h⟩:=h;subst e;cases r;exact DL ⟨σ,H,I,h⟩
theorem DX (h1:PG X e t)(h2:PGs X es u)
   (hs:(J0 (e::es) X.env).map (·.2)=assign e X.env::(J0 es X.env).map (·.2):=by rfl):PGs X (e::es) (n6 t u):=by
 intro pins s σ H vs us Q I r h;obtain⟨v,vr,e1,h⟩:=h;subst e1;cases r with
 | cons r rr =>
   rw [hs];refine l6 (thn (h1 pins s σ H _ _ _ I r h) fun _ s1 ⟨σ1,H1,I1,q1⟩=>?_);exact h2 pins s1 σ1 H1 _ _ Q I1 rr q1
def gTup (K:A3)(n:Nat)(t:TGs):TG:=fun v σ H Q=>∃a xs,v=.ref a/\SqT K H a xs/\xs.length=n/\t xs σ H Q
theorem FN (hc:X.calm=true)(h:PGs X es t)
   (hn:(J0 es X.env).length=n:=by rfl) (hst:(J0 es X.env).findIdx? (·.1)=none:=by rfl):PG X (.Tuple es k pos) (gTup X.K n t):=by
 intro pins s σ H v u Q I r hw;obtain⟨a,xs,e1,hq,hl,hw⟩:=hw;subst e1;cases r;obtain⟨its,rv,ht,hz⟩:=I.tuple hq;refine assign_Tuple_tuple (I.ok.hd hc) ht (by simp [hn,<- hl,rv.length]) hst fun h' hx=>?_;have I1:Inv X pins σ H { s with heap:=h' }:=I.kept (t':=s.toks) fun b o e=>hx b o (C9 (B4 e)) e;exact h pins _ σ H xs _ Q I1 (by simpa using rv) hw
def gSub (to ti:TE)(t:TSet):TG:=fun v σ H Q=>to σ H fun o H1=>ti σ H1 fun i H2=>t o i v H2 fun H3=>Q σ H3
theorem FO (ho:PE X o to)(hi:PE X i ti)(hs:PSet X t)
   (ha:∀v,assign (.Subscript o i pos) X.env v=(do
     let ov ← Q6 [v] (eval o X.env)
     let iv ← Q6 [v,ov] (eval i X.env)
     Y7 pos
     Q6 [v,ov,iv] (setItem ov iv v)
     release [v,ov,iv] []):=by intro _;rfl):PG X (.Subscript o i pos) (gSub to ti t):=by
 intro pins s σ H v u Q I r h;rw [ha];refine A1 (G6 (thn (ho pins s σ H _ I h) fun ov s1 ⟨x,H1,I1,r1,q1⟩=>?_));refine A1 (G6 (thn (hi pins s1 σ H1 _ I1 q1) fun iv s2 ⟨y,H2,I2,r2,q2⟩=>?_));refine A1 (U3 (A1 (G6 (thn (hs pins s2 σ H2 x y v ov iv u _ I2 r1 r2 r q2) fun _ s3 ⟨H3,I3,q3⟩=>?_))));exact wpAny_release ⟨σ,H3,I3,q3⟩
def tAsg (te:TE)(g:TG):TS:=fun D σ H=>te σ H fun x H1=>g x σ H1 D.nx
theorem FP (he:PE X e te)(hg:PG X tg g)(hs:AG [tg] e pos.line X.env=pure false:=by rfl)(hw:AH [tg] e X.env=pure none:=by rfl)
   (h1:(J0 [tg] X.env).map (·.2)=[assign tg X.env]:=by rfl):PS X (.Assign [tg] e pos) (tAsg te g):=by
 intro pins s σ H D I h;refine wpAny_Assign_stores (thn (he pins s σ H _ I h) fun v s1 ⟨x,H1,I1,r1,q1⟩=>?_) hs hw;rw [h1];exact thn (hg pins s1 σ H1 x v _ I1 r1 q1) fun _ s2 q=>q
theorem o4 (hN:X.N.Nodup)(hi:X.N[i]?=some x)(hx:Loc X.env.scope x)(he:PE X e te)(hs:j8 e (some (.Name x pos')) pos.line X.env=pure false:=by rfl)(hf:X.fn x=true\/X.env.scope.names.lookup x=some .local:=by first | exact .inl rfl | exact .inr rfl | assumption) :
   PS X (.Assign [.Name x pos'] e pos) (tAsg te (K8 i)):=by
 intro pins s σ H D I h;refine wpAny_Assign_Name (thn (he pins s σ H _ I h) fun v s1 ⟨y,H1,I1,r1,q1⟩=>?_) hs;exact d5 I1 hN hi hx r1 (fun s2 I2=>⟨_,H1,I2,q1⟩) hf
def tPar (i j:Nat)(ta:TA):TS:=fun D σ H=>ta σ H fun vs H1=>∃v w,vs=[v,w]/\D.nx ((σ.set i (some v)).set j (some w)) H1
theorem ps_par {i j:Nat}{x y:Str}{a b:Expr}{ta:TA}{px py pt:Pos}{kt k2 pt2}(hc:X.calm=true)(hN:X.N.Nodup)(hi:X.N[i]?=some x)(hj:X.N[j]?=some y)(hij:i≠j)
   (hx:X.env.scope.names.lookup x=some .local) (hy:X.env.scope.names.lookup y=some .local) (ha:PA X [a,b] ta)
   (hw:AH [.Tuple [.Name x px,.Name y py] kt pt] (.Tuple [a,b] k2 pt2) X.env=pure (some [x,y]))
   (hs:AG [.Tuple [.Name x px,.Name y py] kt pt] (.Tuple [a,b] k2 pt2) pos.line X.env=pure false:=by rfl) :
   PS X (.Assign [.Tuple [.Name x px,.Name y py] kt pt] (.Tuple [a,b] k2 pt2) pos) (tPar i j ta):=by
 intro pins s σ H D I h;rw [exec_Assign_arm];refine A1 (U3 ?_);rw [hs];refine A1 (A5 ?_);rw [if_neg (by decide)];refine A1 (Tuple_ (thn (ha _ pins s σ H _ I h) fun us s1 ⟨vs,H1,I1,r1,q1⟩=>?_));obtain⟨v,w,e1,q1⟩:=q1;subst e1
 obtain⟨u1,u2,rfl,rv,rw'⟩:∃u1 u2,us=[u1,u2]/\RelV v u1/\RelV w u2:=by
   cases r1 with
   | cons p q =>
     cases q with
     | cons p' q' =>
       cases q';exact⟨_,_,rfl,p,p'⟩
 refine L3 ?_ (by show 2<=B9;decide);have I2:Inv X pins σ H1 { s1 with heap:=s1.heap.push { cls:=.type "tuple",data:=.seq [u1,u2].toArray } }:=I1.kept (t':=s1.toks) fun b o e=>C0 _ e;rw [hw];refine A1 (A5 ?_);show wpAny (model X.prog X.w) X.A (do rule "assign.swapped-stores";let items ← unpackItems (.ref s1.heap.objs.size) 2 none;v4 [fun v=>Y6 X.env y v,fun v=>Y6 X.env x v] items.reverse;pure Flow.next) _ _ _;refine A1 (j7 (A1 (unpackItems_tuple (items:=#[u1,u2]) (I.ok.hd hc) (IsTup.new s1.heap _) fun h' hx'=>?_)));have I3:=I2.kept (h':=h') (t':=s1.toks) fun b o e=>hx' b o (C9 (B4 e)) e;show wpAny _ _ (v4 [fun v=>Y6 X.env y v,fun v=>Y6 X.env x v] [u2,u1]>>=fun _=>pure Flow.next) _ _ _;refine A1 (l6 (BN (d5 I3 hN hj (.inl hy) rw' (fun s2 I4=>?_) (.inr hy))));refine l6 (BN (d5 I4 hN hi (.inl hx) rv (fun s3 I5=>DL (A5 ?_)) (.inr hx)));rw [List.set_comm _ _ (Ne.symm hij)] at I5;exact⟨_,H1,I5,q1⟩
end
section
variable {X:Cx}{pos:Pos}
def tWhile (c:TT)(tb:TS):TS:=fun D σ H=>∃W:Nat->St->Hp->Prop,(∃m,W m σ H)/\∀m σ H,W m σ H->
 c σ H fun b H1=>if b=true then ∃N:St->Hp->Prop,(∀σ' H',N σ' H'->∃m',m' < m/\W m' σ' H')/\tb { D with nx:=N,ct:=N,bk:=D.nx } σ H1 else D.nx σ H1
theorem Me (hp:PassesOwn (model X.prog X.w) X.A X.env X.xe)(hc:PT X c tc)(hb:PSs X body tb):PS X (.While c body [] pos) (tWhile tc tb):=by
 intro pins s σ H D I h;obtain⟨W,⟨m0,w0⟩,turn⟩:=h;refine wpAny_While (codeAny_whileLoop (fun n s'=>∃σ' H',Inv X pins σ' H' s'/\W n σ' H') ?_ m0 ⟨σ,H,I,w0⟩);rintro n s1 ⟨σ1,H1,I1,w1⟩;refine u9 hp (thn (hc pins s1 σ1 H1 _ I1 (turn n σ1 H1 w1)) fun b s2 ⟨H2,I2,q2⟩=>?_);cases b with
 | true =>
   obtain⟨N,hN,q2⟩:=q2;rw [if_pos rfl];refine u9 hp (thn (hb pins s2 σ1 H2 _ I2 q2) fun f s3 q3=>?_);cases f with
   | next =>
     obtain⟨σ3,H3,I3,n3⟩:=q3;obtain⟨m',hm,w3⟩:=hN σ3 H3 n3;exact⟨m',hm,σ3,H3,I3,w3⟩
   | cont =>
     obtain⟨σ3,H3,I3,n3⟩:=q3;obtain⟨m',hm,w3⟩:=hN σ3 H3 n3;exact⟨m',hm,σ3,H3,I3,w3⟩
   | brk=>exact q3
   | ret v=>exact q3
 | false =>
   rw [if_neg T3];exact Dq ⟨σ1,H2,I2,q2⟩
end
structure It where
 go:Nat->Hp->Prop
 yld:Nat->Hp->V->Hp->Prop
 stop:Nat->Hp->Prop
def FpOk (X:Cx)(pins:List (Addr×Obj))(H:Hp)(b:Addr):Prop:=
 H b=none/\b≠X.env.locals/\b∉X.fs/\(b∈X.ex\/X.s₀.heap.objs.size<=b)/\(∀x c,X.env.cells.lookup x=some c->c≠b)/\∀p∈X.pn++pins,p.1≠b
theorem Inv.fpOk (I:Inv X pins σ H s)(hb:s.heap.objs.size<=b)(hn:H' b=none):FpOk X pins H' b:=by
 refine⟨hn,x9 (J4 I.lt hb),I.nofs hb,.inr (L7 I.sz hb),fun x c e z=>?_,fun p hp z=>?_⟩
 · obtain⟨v,q⟩:=I.cell x c e;exact absurd (J4 q.lt (by rw [z];exact hb)) (U8 _)
 · exact absurd (J4 (B4 (I.pin p hp).1) (by rw [z];exact hb)) (U8 _)
structure Turn (P:C6)(w:World)(K:A3)(tg:Expr)(J:It)(fp:List Addr)(it:Addr)(tn:Nat->Heap->Prop):Prop where
 mem:it∈fp
 obj:∀i h,tn i h->∀b∈fp,∃o,h.get? b=some o/\∀v,o.data≠.cell v
 keep:∀i h h',tn i h->(∀b∈fp,∀o,h.get? b=some o->h'.get? b=some o)->tn i h'
 item:∀(X:Cx),X.prog=P->X.w=w->X.K=K->X.calm=true->∀(i:Nat) (pins:List (Addr×Obj)) (s:Shared) (σ:St) (H:Hp) (E:Value->Shared->Prop),Inv X pins σ H s->(∀b∈fp,FpOk X pins H b)->tn i s.heap->J.go i H->
   wpAny (model P w) X.A (pyNext (.ref it)) (fun r s1=>∃u,r=some u/\
     wpAny (model P w) X.A (i8 tg (.ref it) u) (fun _ s2=>∃x H',Inv X pins σ H' s2/\RelV x u/\J.yld i H x H'/\tn (i + 1) s2.heap/\∀b∈fp,H' b=none) E s1) E s
 done:∀(X:Cx),X.prog=P->X.w=w->X.K=K->X.calm=true->∀(i:Nat) (pins:List (Addr×Obj)) (s:Shared) (σ:St) (H:Hp) (E:Value->Shared->Prop),Inv X pins σ H s->(∀b∈fp,FpOk X pins H b)->tn i s.heap->J.stop i H->
   wpAny (model P w) X.A (pyNext (.ref it)) (fun r s1=>r=none/\Inv X pins σ H s1) E s
 self:∀(A:Around) (i:Nat) (s:Shared) (Q:Value->Shared->Prop) (E:Value->Shared->Prop),tn i s.heap->Q (.ref it) s->wpAny (model P w) A (pyIter (.ref it)) Q E s
abbrev TI:=St->Hp->(It->Hp->Prop)->Prop
def PIE (X:Cx)(pins:List (Addr×Obj))(σ:St)(tg:Expr)(R:It->Hp->Prop)(itv:Value)(s2:Shared):Prop:=
 ∃(it:Addr) (fp:List Addr) (tn:Nat->Heap->Prop) (J:It) (H':Hp),itv=.ref it/\Inv X pins σ H' s2/\Turn X.prog X.w X.K tg J fp it tn/\tn 0 s2.heap/\(∀b∈fp,FpOk X pins H' b)/\R J H'
def PI (X:Cx)(tg iter:Expr)(wi:TI):Prop:=
 ∀ (pins : List (Addr × Obj)) (s : Shared) (σ : St) (H : Hp) (R : It -> Hp -> Prop), Inv X pins σ H s -> wi σ H R ->
   wpAny (model X.prog X.w) X.A (eval iter X.env) (fun v s1=>wpAny (model X.prog X.w) X.A (pyIter v) (PIE X pins σ tg R) X.xe s1) X.xe s
theorem DY (ho:s.heap.get? it=some o)(hc:o.cls=.type n)(hd:o.data=.fields vs)
   (hn:["enumerate","zip","dict_itemiterator","dict_reverseitemiterator","odict_iterator","itertools.zip_longest","itertools.pairwise"].contains n=false) (hQ:Q () s):wpAny M A (i8 tg (.ref it) u) Q E s:=by
 unfold i8
 cases tg <;> first
   | exact A5 hQ
   | (cases u <;> first
       | exact A5 hQ
       | (refine A1 (wpAny_load ho ?_)
          rw [hc,hd];show wpAny M A (if(["enumerate","zip","dict_itemiterator","dict_reverseitemiterator","odict_iterator","itertools.zip_longest","itertools.pairwise"].contains n && vs[0]? == some (rawInt _))=true then _ else _) Q E s;rw [if_neg (by intro h;rw [hn,Z1] at h;cases h)]
          exact A5 hQ))
def Itl (K:A3)(a:Addr):It:=
 ⟨fun i H=>∃xs x,SqL K H a xs/\xs[i]?=some x,fun i H x H'=>H'=H/\∀xs,SqL K H a xs->xs[i]?=some x,fun i H=>∃xs,SqL K H a xs/\xs.length<=i⟩
def Itt (K:A3)(a:Addr):It:=
 ⟨fun i H=>∃xs x,SqT K H a xs/\xs[i]?=some x,fun i H x H'=>H'=H/\∀xs,SqT K H a xs->xs[i]?=some x,fun i H=>∃xs,SqT K H a xs/\xs.length<=i⟩
def Itr (lo:Int)(n:Nat):It:=⟨fun i _=>i < n,fun i H x H'=>H'=H/\x=.int (lo + i),fun i _=>n<=i⟩
theorem Mf {K:A3}(a it:Addr):Turn P w K tg (Itl K a) [it] it (fun i h=>h.IsListIter it a i) where
 mem:=by simp
 obj:=fun i h st b hb=>by
   have e:b=it:=by simpa using hb
   subst e;obtain⟨o,e,c,d⟩:=st;exact⟨o,e,fun v z=>by rw [d] at z;cases z⟩
 keep:=fun i h h' st k=>st.at fun o e=>k it (by simp) o e
 item:=by
   intro X hP hw hK hc i pins s σ H E I hf st hg;subst hP hw hK;obtain⟨xs,x,hq,hx⟩:=hg;obtain⟨its,rv,p,hz⟩:=I.list hq;obtain⟨u,hu,ru⟩:=rv.get hx;obtain⟨f0,f1,f2,f3,f4,f5⟩:=hf it (by simp);refine wpAny_pyNext_list_item st p.isList (x:=u) (by simpa using hu) fun h' st' sb=>?_;have I1:Inv X pins σ H { s with heap:=h' }:=I.turned (t':=s.toks) (fun b o hb e=>(sb.2 b hb).trans e) f0 f1 f3 f4 f5;obtain⟨o,e,c,d⟩:=id st';exact⟨u,rfl,DY (s:={ s with heap:=h' }) e c d (by decide) ⟨x,H,I1,ru,⟨rfl,fun ys hy=>by rw [I.list_inj hy hq];exact hx⟩,st',fun b hb=>(hf b hb).1⟩⟩
 done:=by
   intro X hP hw hK hc i pins s σ H E I hf st hg;subst hP hw hK;obtain⟨xs,hq,hx⟩:=hg;obtain⟨its,rv,p,hz⟩:=I.list hq;obtain⟨f0,f1,f2,f3,f4,f5⟩:=hf it (by simp);have hl:=rv.length;exact wpAny_pyNext_list_end (I.ok.hd hc) st p.isList (by simp;omega) fun h' eb=>⟨rfl,I.turned (t':=s.toks) (fun b o hb e=>eb b o hb e) f0 f1 f3 f4 f5⟩
 self:=fun _ _ _ _ _ st h=>wpAny_pyIter_listiter st h
theorem Mg {K:A3}(a it:Addr):Turn P w K tg (Itt K a) [it] it (fun i h=>h.IsTupleIter it a i) where
 mem:=by simp
 obj:=fun i h st b hb=>by
   have e:b=it:=by simpa using hb
   subst e;obtain⟨o,e,c,d⟩:=st;exact⟨o,e,fun v z=>by rw [d] at z;cases z⟩
 keep:=fun i h h' st k=>st.at fun o e=>k it (by simp) o e
 item:=by
   intro X hP hw hK hc i pins s σ H E I hf st hg;subst hP hw hK;obtain⟨xs,x,hq,hx⟩:=hg;obtain⟨its,rv,p,hz⟩:=I.tuple hq;obtain⟨u,hu,ru⟩:=rv.get hx;obtain⟨f0,f1,f2,f3,f4,f5⟩:=hf it (by simp);refine wpAny_pyNext_tuple_item st (show s.heap.IsTuple a its.toArray from p) (x:=u) (by simpa using hu) fun h' st' sb=>?_;have I1:Inv X pins σ H { s with heap:=h' }:=I.turned (t':=s.toks) (fun b o hb e=>(sb.2 b hb).trans e) f0 f1 f3 f4 f5;obtain⟨o,e,c,d⟩:=id st';exact⟨u,rfl,DY (s:={ s with heap:=h' }) e c d (by decide) ⟨x,H,I1,ru,⟨rfl,fun ys hy=>by rw [I.tuple_inj hy hq];exact hx⟩,st',fun b hb=>(hf b hb).1⟩⟩
 done:=by
   intro X hP hw hK hc i pins s σ H E I hf st hg;subst hP hw hK;obtain⟨xs,hq,hx⟩:=hg;obtain⟨its,rv,p,hz⟩:=I.tuple hq;obtain⟨f0,f1,f2,f3,f4,f5⟩:=hf it (by simp);have hl:=rv.length;exact wpAny_pyNext_tuple_end (I.ok.hd hc) st (show s.heap.IsTuple a its.toArray from p) (by simp;omega) fun h' eb=>⟨rfl,I.turned (t':=s.toks) (fun b o hb e=>eb b o hb e) f0 f1 f3 f4 f5⟩
 self:=fun _ _ _ _ _ st h=>wpAny_pyIter_tupleiter st h
theorem Mh {K:A3}(it:Addr)(lo:Int)(n:Nat):Turn P w K tg (Itr lo n) [it] it (fun i h=>IsRangeIter h it (lo + (i:Nat) * 1) ((n:Int) - (i:Nat)) 1) where
 mem:=by simp
 obj:=fun i h st b hb=>by
   have e:b=it:=by simpa using hb
   subst e
   exact⟨_,st,fun v z=>by
     have z':Cp _=Data.cell v:=z
     cases z'⟩
 keep:=fun i h h' st k=>k it (by simp) _ st
 item:=by
   intro X hP hw hK hc i pins s σ H E I hf st hg;subst hP hw hK;obtain⟨f0,f1,f2,f3,f4,f5⟩:=hf it (by simp);have W:=Walks.range (prog:=X.prog) (w:=X.w) (I.ok.hd hc) it lo 1 n;refine W.item i s _ _ hg st fun v h' tk hv st' kk=>?_;obtain⟨t,rfl⟩:=hv;have I1:Inv X pins σ H { s with heap:=h',toks:=tk }:=I.turned (fun b o hb e=>kk b o (by simpa using hb) e) f0 f1 f3 f4 f5;refine⟨_,rfl,DY (s:={ s with heap:=h',toks:=tk }) (n:="range_iterator") st' rfl rfl (by decide) ⟨.int (lo + i),H,I1,⟨t,?_⟩,⟨rfl,rfl⟩,st',fun b hb=>(hf b hb).1⟩⟩;rw [Int.mul_one]
 done:=by
   intro X hP hw hK hc i pins s σ H E I hf st hg;subst hP hw hK;obtain⟨f0,f1,f2,f3,f4,f5⟩:=hf it (by simp);exact wpAny_pyNext_range_end (I.ok.hd hc) st (by have:n<=i:=hg;omega) fun h' eb=>⟨rfl,I.turned (t':=s.toks) (fun b o hb e=>eb b o hb e) f0 f1 f3 f4 f5⟩
 self:=fun _ _ _ _ _ st h=>wpAny_pyIter_rangeiter st h
section
variable {X:Cx}{tg:Expr}
def iList (K:A3)(tl:TE):TI:=fun σ H R=>tl σ H fun x H1=>∃a,x=.ref a/\(∃xs,SqL K H1 a xs)/\R (Itl K a) H1
def iTup (K:A3)(tl:TE):TI:=fun σ H R=>tl σ H fun x H1=>∃a,x=.ref a/\(∃xs,SqT K H1 a xs)/\R (Itt K a) H1
theorem Mi (hl:PE X l tl):PI X tg l (iList X.K tl):=by
 intro pins s σ H R I h;refine thn (hl pins s σ H _ I h) fun v s1 ⟨x,H1,I1,r1,q1⟩=>?_;obtain⟨a,e,⟨xs,hq⟩,q⟩:=q1;subst e;cases r1;obtain⟨its,rv,p,hz⟩:=I1.list hq;refine BM p.isList ?_;refine⟨s1.heap.objs.size,[s1.heap.objs.size],_,_,H1,rfl,I1.kept (t':=s1.toks) fun b o e=>C0 _ e,Mf a _,⟨_,F2 _ rfl,rfl,rfl⟩,fun b hb=>?_,q⟩;have e:b=s1.heap.objs.size:=by simpa using hb
 subst e;exact I1.fpOk (B3 _) (I1.hok.fresh (B3 _))
theorem pi_tup (hl:PE X l tl):PI X tg l (iTup X.K tl):=by
 intro pins s σ H R I h;refine thn (hl pins s σ H _ I h) fun v s1 ⟨x,H1,I1,r1,q1⟩=>?_;obtain⟨a,e,⟨xs,hq⟩,q⟩:=q1;subst e;cases r1;obtain⟨its,rv,p,hz⟩:=I1.tuple hq;refine BL (show s1.heap.IsTuple a its.toArray from p) ?_;refine⟨s1.heap.objs.size,[s1.heap.objs.size],_,_,H1,rfl,I1.kept (t':=s1.toks) fun b o e=>C0 _ e,Mg a _,⟨_,F2 _ rfl,rfl,rfl⟩,fun b hb=>?_,q⟩;have e:b=s1.heap.objs.size:=by simpa using hb
 subst e;exact I1.fpOk (B3 _) (I1.hok.fresh (B3 _))
theorem Mj {lo hi:Int}(I:Inv X pins σ H s)(h1:-(2 ^ 62)<=lo)(h2:lo < 2 ^ 62)(h3:-(2 ^ 62)<=hi)(h4:hi < 2 ^ 62)
   (q:R (Itr lo (hi - lo).toNat) H):wpAny (model X.prog X.w) X.A (pyIter (.ref s.heap.objs.size)) (PIE X pins σ tg R) E { s with heap:=s.heap.push { cls:=.type "range",data:=.fields #[.int lo t,.int hi u,.int 1 v] },toks:=tk }:=by
 refine wpAny_pyIter_range (IsRange.new ..) (small_one h1 h2 h3 h4) ?_;have I1:Inv X pins σ H { s with heap:=s.heap.push { cls:=.type "range",data:=.fields #[.int lo t,.int hi u,.int 1 v] },toks:=tk }:=I.kept fun b o e=>C0 _ e
 refine⟨(s.heap.push { cls:=.type "range",data:=.fields #[.int lo t,.int hi u,.int 1 v] }).objs.size,[(s.heap.push { cls:=.type "range",data:=.fields #[.int lo t,.int hi u,.int 1 v] }).objs.size],_,_,H,rfl,
   I1.kept (t':=tk) fun b o e=>C0 _ e,Mh _ lo (hi - lo).toNat,?_,fun b hb=>?_,q⟩
 · have e1:lo + ((0:Nat):Int) * 1=lo:=by simp
   have e2:(((hi - lo).toNat:Nat):Int) - ((0:Nat):Int)=Builtin.Range.rangeSize lo hi 1:=by rw [rangeSize_one];split <;> omega
   show IsRangeIter _ _ (lo + ((0:Nat):Int) * 1) ((((hi - lo).toNat:Nat):Int) - ((0:Nat):Int)) 1;rw [e1,e2];exact F2 _ rfl
 · have e:b=(s.heap.push { cls:=.type "range",data:=.fields #[.int lo t,.int hi u,.int 1 v] }).objs.size:=by simpa using hb
   subst e;exact I1.fpOk (B3 _) (I1.hok.fresh (B3 _))
def iRng1 (ta:TA):TI:=fun σ H R=>ta σ H fun vs H1=>∃j:Int,vs=[.int j]/\-(2 ^ 62)<=j/\j < 2 ^ 62/\R (Itr 0 j.toNat) H1
theorem Ml (hg:Gl X "range")(hm:X.mg "range"=none)(ha:PA X [a] ta)(hs:E3 [a] X.env=[(false,eval a X.env)]:=by rfl):PI X tg (.Call (.Name "range" p) [a] [] pos) (iRng1 ta):=by
 intro pins s σ H R I h;refine Call_ (Bg I hg hm boot_range (FA (thn (ha pos pins s σ H _ I h) fun us s1 ⟨vs,H1,I1,r1,q1⟩=>?_) hs rfl));obtain⟨j,e,q1,q2,q⟩:=q1;subst e;cases r1 with
 | cons r rr =>
   cases rr;obtain⟨t,rfl⟩:=r;exact call_range_1 (Mj I1 (by omega) (by omega) q1 q2 (by simpa using q))
def tFor (wi:TI)(g:TG)(tb:TS):TS:=fun D σ H=>wi σ H fun J H1=>∃W:Nat->Nat->St->Hp->Prop,(∃m,W 0 m σ H1)/\∀i m σ H,W i m σ H->
 (J.stop i H/\D.nx σ H)\/(J.go i H/\∃N:St->Hp->Prop,(∀σ' H',N σ' H'->∃m',m' < m/\W (i + 1) m' σ' H')/\∀x H',J.yld i H x H'->g x σ H' fun σ2 H2=>tb { D with nx:=N,ct:=N,bk:=D.nx } σ2 H2)
def Bh (fp:List Addr)(h:Heap):List (Addr×Obj):=fp.filterMap fun b=>(h.get? b).map fun o=>(b,o)
theorem FQ (hb:b∈fp)(e:h.get? b=some o):(b,o)∈Bh fp h:=List.mem_filterMap.mpr ⟨b,hb,by rw [e];rfl⟩
theorem Mm (hp:p∈Bh fp h):p.1∈fp/\h.get? p.1=some p.2:=by
 obtain⟨b,hb,e⟩:=List.mem_filterMap.mp hp;cases q:h.get? b with
 | none=>rw [q] at e;cases e
 | some o =>
   rw [q] at e;have e':(b,o)=p:=L8 e;subst e';exact⟨hb,q⟩
theorem Inv.pinned (I:Inv X pins σ H s)(hf:∀b∈fp,FpOk X pins H b)(ho:∀b∈fp,∃o,s.heap.get? b=some o/\∀v,o.data≠.cell v):Inv X (pins++Bh fp s.heap) σ H s:=
 I.pins_of fun p hp=>(F9.mp hp).elim (fun z=>I.pin p (K4 _ z)) fun z=>by
   obtain⟨hb,e⟩:=Mm z;obtain⟨f0,f1,f2,_⟩:=hf p.1 hb;obtain⟨o,e',d⟩:=ho p.1 hb;rw [e] at e';cases e';exact⟨e,f0,f1,f2,d⟩
theorem Inv.unpinned (I:Inv X (pins++pl) σ H s):Inv X pins σ H s:=I.pins_of fun p hp=>I.pin p (K4 _ (Z0 _ hp))
theorem ps_for (hp:PassesOwn (model X.prog X.w) X.A X.env X.xe)(hc:X.calm=true)(hi:PI X tg iter wi)(hg:PG X tg g)(hb:PSs X body tb)
   (hs:∀x,T9 iter X.env x=pure x:=by intro _;rfl):PS X (.For tg iter body [] pos) (tFor wi g tb):=by
 intro pins s σ H D I h;refine wpAny_For (thn (hi pins s σ H _ I h) fun v s1 h1=>thn h1 fun itv s2 h2=>?_) hs;obtain⟨it,fp,tn,J,H2,e,I2,T,st2,f2,W,⟨m0,w0⟩,turn⟩:=h2;subst e
 -- what stays true of the iterator's objects through the loop
 have stat:∀{H':Hp},(∀b∈fp,H' b=none)->∀b∈fp,FpOk X pins H' b:=fun hn b hb=>⟨hn b hb,(f2 b hb).2⟩;refine codeAny_forLoop_any (fun n s'=>∃i σ' H',Inv X pins σ' H' s'/\tn i s'.heap/\(∀b∈fp,H' b=none)/\W i n σ' H') ?_ m0 ⟨0,σ,H2,I2,st2,fun b hb=>(f2 b hb).1,w0⟩;rintro n s3 ⟨i,σ3,H3,I3,st3,fr3,w3⟩;rcases turn i n σ3 H3 w3 with⟨stop,qn⟩ | ⟨go,N,hN,step⟩
 · refine u9 hp (thn (T.done X rfl rfl rfl hc i pins s3 σ3 H3 X.xe I3 (stat fr3) st3 stop) fun r s4 ⟨hr,I4⟩=>?_);subst hr;exact Dq ⟨σ3,H3,I4,qn⟩
 · refine u9 hp (thn (T.item X rfl rfl rfl hc i pins s3 σ3 H3 X.xe I3 (stat fr3) st3 go) fun r s4 ⟨u,hr,h4⟩=>?_);subst hr;refine u9 hp (thn h4 fun _ s5 ⟨x,H5,I5,r5,y5,st5,fr5⟩=>?_);have I5':=I5.pinned (stat fr5) (T.obj _ _ st5);refine u9 hp (thn (hg _ s5 σ3 H5 x u _ I5' r5 (step x H5 y5)) fun _ s6 ⟨σ6,H6,I6,q6⟩=>?_);refine u9 hp (thn (hb _ s6 σ6 H6 _ I6 q6) fun f s7 q7=>?_)
   have again:∀{σ7:St} {H7:Hp},Inv X (pins++Bh fp s5.heap) σ7 H7 s7->N σ7 H7->∃m,m < n/\∃i σ' H',Inv X pins σ' H' s7/\tn i s7.heap/\(∀b∈fp,H' b=none)/\W i m σ' H':=fun {σ7 H7} I7 n7=>by
     obtain⟨m',hm,w7⟩:=hN σ7 H7 n7;refine⟨m',hm,i + 1,σ7,H7,I7.unpinned,T.keep _ _ _ st5 fun b hb o e=>(I7.pin (b,o) (K4 _ (K4 _ (FQ hb e)))).1,fun b hb=>?_,w7⟩;obtain⟨o,e,d⟩:=T.obj _ _ st5 b hb;exact(I7.pin (b,o) (K4 _ (K4 _ (FQ hb e)))).2.1
   cases f with
   | next=>obtain⟨σ7,H7,I7,n7⟩:=q7;exact again I7 n7
   | cont=>obtain⟨σ7,H7,I7,n7⟩:=q7;exact again I7 n7
   | brk=>obtain⟨σ7,H7,I7,q7⟩:=q7;exact⟨σ7,H7,I7.unpinned,q7⟩
   | ret v=>obtain⟨x7,σ7,H7,I7,r7,q7⟩:=q7;exact⟨x7,σ7,H7,I7.unpinned,r7,q7⟩
end
abbrev R2:=V->V->Hp->VK->Prop
def OpR (X:Cx)(f:Value->Value->Sem Value)(r:R2):Prop:=
 ∀ (pins : List (Addr × Obj)) (s : Shared) (σ : St) (H : Hp) (x y : V) (v u : Value) (Q : VK), Inv X pins σ H s -> RelV x v -> RelV y u -> r x y H Q ->
   wpAny (model X.prog X.w) X.A (f v u) (EP X pins σ Q) X.xe s
def UnR (X:Cx)(f:Value->Sem Value)(r:V->Hp->VK->Prop):Prop:=
 ∀ (pins : List (Addr × Obj)) (s : Shared) (σ : St) (H : Hp) (x : V) (v : Value) (Q : VK), Inv X pins σ H s -> RelV x v -> r x H Q ->
   wpAny (model X.prog X.w) X.A (f v) (EP X pins σ Q) X.xe s
def K2 (X:Cx)(f:Value)(r:List V->Hp->VK->Prop):Prop:=
 ∀ (pins : List (Addr × Obj)) (s : Shared) (σ : St) (H : Hp) (xs : List V) (us : List Value) (Q : VK), Inv X pins σ H s -> Vals xs us -> r xs H Q ->
   wpAny (model X.prog X.w) X.A (call f us) (EP X pins σ Q) X.xe s
def TruR (X:Cx)(r:V->Hp->(Bool->Hp->Prop)->Prop):Prop:=
 ∀ (pins : List (Addr × Obj)) (s : Shared) (σ : St) (H : Hp) (x : V) (v : Value) (Q : Bool -> Hp -> Prop), Inv X pins σ H s -> RelV x v -> r x H Q ->
   wpAny (model X.prog X.w) X.A (truthy v) (TP X pins σ Q) X.xe s
def tOp (r:R2)(ta tb:TE):TE:=fun σ H Q=>ta σ H fun x H1=>tb σ H1 fun y H2=>r x y H2 Q
def tUn (r:V->Hp->VK->Prop)(ta:TE):TE:=fun σ H Q=>ta σ H fun x H1=>r x H1 Q
def rI (C:Int->Int->Prop)(g:Int->Int->V):R2:=fun x y H Q=>∃i j,x=.int i/\y=.int j/\C i j/\Q (g i j) H
def rI0 (g:Int->Int->V):R2:=fun x y H Q=>∃i j,x=.int i/\y=.int j/\Q (g i j) H
def rU (g:Int->V):V->Hp->VK->Prop:=fun x H Q=>∃i,x=.int i/\Q (g i) H
section
variable {X:Cx}{a b c:Expr}{ta tb tc:TE}{pos:Pos}
theorem binT (ha:PE X a ta)(hb:PE X b tb){R:V->V->Hp->Prop}(I:Inv X pins σ H s)
   (h:ta σ H fun x H1=>tb σ H1 fun y H2=>R x y H2) {f:Value->Value->Sem Value}
   (hf:∀v u s2 x y H2,Inv X pins σ H2 s2->RelV x v->RelV y u->R x y H2->wpAny (model X.prog X.w) X.A (f v u) Q X.xe s2) :
   wpAny (model X.prog X.w) X.A (eval a X.env) (fun v s₁=>wpAny (model X.prog X.w) X.A (eval b X.env) (fun u s₂=>wpAny (model X.prog X.w) X.A (f v u) Q X.xe s₂) X.xe s₁) X.xe s:=by
 refine thn (ha pins s σ H _ I h) fun v s1 ⟨x,H1,I1,r1,q1⟩=>?_;refine thn (hb pins s1 σ H1 _ I1 q1) fun u s2 ⟨y,H2,I2,r2,q2⟩=>?_;exact hf v u s2 x y H2 I2 r1 r2 q2
theorem J7 (ho:OpR X (Q5 op) r)(ha:PE X a ta)(hb:PE X b tb):PE X (.BinOp a op b pos) (tOp r ta tb):=by
 intro pins s σ H Q I h;exact wpAny_BinOp (binT ha hb I h fun v u s2 x y H2 I2 rx ry q=>ho pins s2 σ H2 x y v u Q I2 rx ry q)
theorem pe_un (ho:UnR X (unaryOp op) r)(ha:PE X a ta):PE X (.UnaryOp op a pos) (tUn r ta):=by
 intro pins s σ H Q I h;exact UnaryOp_ (thn (ha pins s σ H _ I h) fun v s1 ⟨x,H1,I1,r1,q1⟩=>ho pins s1 σ H1 x v Q I1 r1 q1)
theorem opI {g:Int->Int->Int}
   (rule:∀(i j:Int) (t u:Tok) (s:Shared) (Q:Value->Shared->Prop) (E:Value->Shared->Prop),C i j->Q (.int (g i j) s.toks) { s with toks:=s.toks + 1 }->wpAny (model X.prog X.w) X.A (f (.int i t) (.int j u)) Q E s) :
   OpR X f (rI C fun i j=>.int (g i j)):=by
 intro pins s σ H x y v u Q I rx ry h;obtain⟨i,j,rfl,rfl,hc,q⟩:=h;obtain⟨t,rfl⟩:=rx;obtain⟨t',rfl⟩:=ry;exact rule i j t t' s _ _ hc ⟨.int (g i j),H,I.tok _,⟨_,rfl⟩,q⟩
theorem opI0 {g:Int->Int->Int}
   (rule:∀(i j:Int) (t u:Tok) (s:Shared) (Q:Value->Shared->Prop) (E:Value->Shared->Prop),Q (.int (g i j) s.toks) { s with toks:=s.toks + 1 }->wpAny (model X.prog X.w) X.A (f (.int i t) (.int j u)) Q E s) :
   OpR X f (rI0 fun i j=>.int (g i j)):=by
 intro pins s σ H x y v u Q I rx ry h;obtain⟨i,j,rfl,rfl,q⟩:=h;obtain⟨t,rfl⟩:=rx;obtain⟨t',rfl⟩:=ry;exact rule i j t t' s _ _ ⟨.int (g i j),H,I.tok _,⟨_,rfl⟩,q⟩
theorem opB0 {g:Int->Int->Bool}
   (rule:∀(i j:Int) (t u:Tok) (s:Shared) (Q:Value->Shared->Prop) (E:Value->Shared->Prop),Q (.bool (g i j)) s->wpAny (model X.prog X.w) X.A (f (.int i t) (.int j u)) Q E s) :
   OpR X f (rI0 fun i j=>.bl (g i j)):=by
 intro pins s σ H x y v u Q I rx ry h;obtain⟨i,j,rfl,rfl,q⟩:=h;obtain⟨t,rfl⟩:=rx;obtain⟨t',rfl⟩:=ry;exact rule i j t t' s _ _ ⟨.bl (g i j),H,I,rfl,q⟩
def CDiv (i j:Int):Prop:=0 < j/\j < 1073741824
def CPow (i j:Int):Prop:=0<=j/\j<=1000000/\i.natAbs < 2 ^ 64
def CMul (i j:Int):Prop:=(-(2 ^ 64) < i/\i < 2 ^ 64)\/(-(2 ^ 64) < j/\j < 2 ^ 64)
theorem CMul.ok (h:CMul i j):IntMulOk i j:=by
 rcases h with⟨h1,h2⟩ | ⟨h1,h2⟩
 · exact .of_left (intBits_le_64 h1 h2)
 · exact .of_right (intBits_le_64 h1 h2)
theorem o5:OpR X (Q5 .Add) (rI0 fun i j=>.int (i + j)):=opI0 fun _ _ _ _ _ _ _ q=>add_int q
theorem op_sub:OpR X (Q5 .Sub) (rI0 fun i j=>.int (i - j)):=opI0 fun _ _ _ _ _ _ _ q=>sub_int q
theorem o6:OpR X (Q5 .Mult) (rI CMul fun i j=>.int (i * j)):=opI fun _ _ _ _ _ _ _ hc q=>mul_int q hc.ok
theorem FR:OpR X (Q5 .FloorDiv) (rI CDiv fun i j=>.int (i / j)):=opI fun i j _ _ _ _ _ hc q=>by
 have h1:(0:Int) < j:=hc.1;have h2:j < 1073741824:=hc.2;exact floordiv_int (by omega) (by rw [Int.fdiv_eq_ediv_of_nonneg i (by omega)];exact q) (.inl (PyProof.noPylong_small (by omega)))
theorem Ac:OpR X (Q5 .Mod) (rI (fun _ j=>0 < j) fun i j=>.int (i % j)):=opI fun i j _ _ _ _ _ hc q=>by
 have h1:(0:Int) < j:=hc;exact mod_int' (by omega) (by rw [Int.fmod_eq_emod_of_nonneg i (by omega)];exact q)
theorem op_pow:OpR X (Q5 .Pow) (rI CPow fun i j=>.int (i ^ j.toNat)):=opI fun _ _ _ _ _ _ _ hc q=>pow_int_small hc.1 hc.2.1 hc.2.2 q
theorem unI {g:Int->Int}
   (rule:∀(i:Int) (t:Tok) (s:Shared) (Q:Value->Shared->Prop) (E:Value->Shared->Prop),Q (.int (g i) s.toks) { s with toks:=s.toks + 1 }->wpAny (model X.prog X.w) X.A (f (.int i t)) Q E s) :
   UnR X f (rU fun i=>.int (g i)):=by
 intro pins s σ H x v Q I rx h;obtain⟨i,rfl,q⟩:=h;obtain⟨t,rfl⟩:=rx;exact rule i t s _ _ ⟨.int (g i),H,I.tok _,⟨_,rfl⟩,q⟩
theorem un_neg:UnR X (unaryOp .USub) (rU fun i=>.int (-i)):=unI fun _ _ _ _ _ q=>neg_int q
end
section
variable {X:Cx}{a b c:Expr}{ta tb tc:TE}{pos:Pos}
theorem DZ (I:Inv X pins σ H s)(q:Q (.bl k) H)(e:k=k'):EP X pins σ Q (.bool k') s:=by
 subst e;exact⟨.bl k,H,I,rfl,q⟩
theorem FS:OpR X (L4 .Lt) (rI0 fun i j=>.bl (decide (i < j))):=opB0 fun _ _ _ _ _ _ _ q=>lt_int q
theorem op_le:OpR X (L4 .LtE) (rI0 fun i j=>.bl (decide (i<=j))):=opB0 fun _ _ _ _ _ _ _ q=>le_int q
theorem op_gt:OpR X (L4 .Gt) (rI0 fun i j=>.bl (decide (j < i))):=opB0 fun _ _ _ _ _ _ _ q=>gt_int q
theorem op_ge:OpR X (L4 .GtE) (rI0 fun i j=>.bl (decide (j<=i))):=opB0 fun _ _ _ _ _ _ _ q=>ge_int q
theorem Mn:OpR X (L4 .Lt) (fun x y H Q=>∃i j,x=.str i/\y=.str j/\Q (.bl (decide (i.cps.toList < j.cps.toList))) H):=by
 intro pins s σ H x y v u Q I rx ry h;obtain⟨i,j,rfl,rfl,q⟩:=h;obtain⟨t,rfl⟩:=rx;obtain⟨t',rfl⟩:=ry;exact lt_str (DZ I q rfl)
theorem Mo:OpR X (L4 .In) (fun x y H Q=>∃i j,x=.str i/\y=.str j/\Q (.bl (!(Bb j i 0 j.length 1).isEmpty)) H):=by
 intro pins s σ H x y v u Q I rx ry h;obtain⟨i,j,rfl,rfl,q⟩:=h;obtain⟨t,rfl⟩:=rx;obtain⟨t',rfl⟩:=ry;exact in_str (DZ I q rfl)
theorem Mp:OpR X (L4 .IsNot) (fun x y H Q=>y=.non/\Q (.bl (!decide (x=.non))) H):=by
 intro pins s σ H x y v u Q I rx ry h;obtain⟨rfl,q⟩:=h;cases ry;refine isnot_none_gen (DZ I q ?_)
 cases x <;> first
   | (cases rx;rfl)
   | (obtain⟨t,rfl⟩:=rx;rfl)
theorem OpR.or (h:OpR X f r)(h':OpR X f r'):OpR X f (fun x y H Q=>r x y H Q\/r' x y H Q):=by
 intro pins s σ H x y v u Q I rx ry q;rcases q with q | q
 · exact h pins s σ H x y v u Q I rx ry q
 · exact h' pins s σ H x y v u Q I rx ry q
theorem B5 (b:Expr)(h:op≠.In:=by decide)(h2:op≠.NotIn:=by decide):v5 op b=false:=by
 have e1:(op == CmpOp.In)=false:=by cases op <;> first | rfl | exact absurd rfl h
 have e2:(op == CmpOp.NotIn)=false:=by cases op <;> first | rfl | exact absurd rfl h2
 cases b <;> simp [v5,e1,e2]
theorem HP (ho:OpR X (L4 op) r)(ha:PE X a ta)(hb:PE X b tb)(hm:v5 op b=false):PE X (.Compare a [op] [b] pos) (tOp r ta tb):=by
 intro pins s σ H Q I h;exact wpAny_Compare1 (binT ha hb I h fun v u s2 x y H2 I2 rx ry q=>ho pins s2 σ H2 x y v u Q I2 rx ry q) hm
def FT (t:TE):TT:=fun σ H Q=>t σ H fun x H'=>∃k,x=.bl k/\Q k H'
theorem Cq (ho:OpR X (L4 op) r)(ha:PE X a ta)(hb:PE X b tb)(hm:v5 op b=false):PT X (.Compare a [op] [b] pos) (FT (tOp r ta tb)):=by
 intro pins s σ H Q I h
 refine wpAny_isTrue_Compare1 (thn (ha pins s σ H _ I h) fun v s1 ⟨x,H1,I1,r1,q1⟩=>thn (hb pins s1 σ H1 _ I1 q1) fun u s2 ⟨y,H2,I2,r2,q2⟩=>
   thn (ho pins s2 σ H2 x y v u _ I2 r1 r2 q2) fun c s3 ⟨z,H3,I3,r3,k,e,q3⟩=>?_) hm
 subst e;cases r3;exact V8 ⟨H3,I3,q3⟩
def FU (r r':R2)(ta tb tc:TE):TE:=fun σ H Q=>ta σ H fun x H1=>tb σ H1 fun y H2=>r x y H2 fun z H3=>∃k,z=.bl k/\
 (if k=true then tc σ H3 fun w' H4=>r' y w' H4 Q else Q (.bl false) H3)
theorem Mq {op op':CmpOp}{r r':R2}(ho:OpR X (L4 op) r)(ho':OpR X (L4 op') r')(ha:PE X a ta)(hb:PE X b tb)(hc:PE X c tc)
   (hm:lastMarks [op,op'] [b,c]=false:=by with_unfolding_all rfl):PE X (.Compare a [op,op'] [b,c] pos) (FU r r' ta tb tc):=by
 intro pins s σ H Q I h
 refine Compare_chain (thn (ha pins s σ H _ I h) fun v s1 ⟨x,H1,I1,r1,q1⟩=>chain_link (thn (hb pins s1 σ H1 _ I1 q1) fun u s2 ⟨y,H2,I2,r2,q2⟩=>
   thn (ho pins s2 σ H2 x y v u _ I2 r1 r2 q2) fun d s3 ⟨z,H3,I3,r3,k,e,q3⟩=>?_)) hm
 subst e;cases r3;refine V8 ?_;cases k with
 | false=>exact ite_ff ⟨.bl false,H3,I3,rfl,q3⟩
 | true=>exact ite_tt (chain_last (thn (hc pins s3 σ H3 _ I3 q3) fun w' s4 ⟨z',H4,I4,r4,q4⟩=>ho' pins s4 σ H4 y z' u w' Q I4 r2 r4 q4))
theorem Mr {op op':CmpOp}{r r':R2}(ho:OpR X (L4 op) r)(ho':OpR X (L4 op') r')(ha:PE X a ta)(hb:PE X b tb)(hc:PE X c tc)
   (hm:lastMarks [op,op'] [b,c]=false:=by with_unfolding_all rfl):PT X (.Compare a [op,op'] [b,c] pos) (FT (FU r r' ta tb tc)):=by
 intro pins s σ H Q I h
 refine isTrue_chain (thn (ha pins s σ H _ I h) fun v s1 ⟨x,H1,I1,r1,q1⟩=>test_link (thn (hb pins s1 σ H1 _ I1 q1) fun u s2 ⟨y,H2,I2,r2,q2⟩=>
   thn (ho pins s2 σ H2 x y v u _ I2 r1 r2 q2) fun d s3 ⟨z,H3,I3,r3,k,e,q3⟩=>?_)) hm
 subst e;cases r3;refine V8 ?_;cases k with
 | false =>
   obtain⟨k',e',q'⟩:=q3;cases e';exact ite_ff ⟨H3,I3,q'⟩
 | true =>
   refine ite_tt (test_last (thn (hc pins s3 σ H3 _ I3 q3) fun w' s4 ⟨z',H4,I4,r4,q4⟩=>thn (ho' pins s4 σ H4 y z' u w' _ I4 r2 r4 q4) fun d' s5 ⟨z2,H5,I5,r5,k2,e2,q5⟩=>?_));subst e2;cases r5;exact V8 ⟨H5,I5,q5⟩
def TruV (K:A3)(x:V)(H:Hp)(k:Bool):Prop:=
 match x with
 | .non=>k=false
 | .bl b=>k=b
 | .int i=>k=(i != 0)
 | .str y=>y.length<=B9/\k=((y.length:Int) != 0)
 | .byt y=>y.size<=B9/\k=((y.size:Int) != 0)
 | .ref p=>(∃xs,SqL K H p xs/\k=!xs.isEmpty)\/(∃xs,SqT K H p xs/\k=!xs.isEmpty)\/∃kvs,H p=some (.dK kvs)/\k=!kvs.isEmpty
 | _=>False
theorem Ms {κ:Type}{kvs:List (κ×V)}{vs:List (κ×Value)}(r:KV kvs vs):(!vs.isEmpty)=!kvs.isEmpty:=by
 cases r <;> rfl
theorem HQ (r:Vals xs its):(!its.toArray.isEmpty)=!xs.isEmpty:=by
 cases r <;> simp
theorem Ad:(B9:Nat) < 2 ^ 63:=by rw [J1];decide
theorem HR:TruR X (fun x H Q=>∃k,TruV X.K x H k/\Q k H):=by
 intro pins s σ H x v Q I rx h;obtain⟨k,e,q⟩:=h;have hl:=Ad;have hs:B9=16777216:=J1;cases x with
 | non =>
   cases rx;have e':k=false:=e;subst e';exact truthy_none ⟨H,I,q⟩
 | bl b =>
   cases rx;have e':k=b:=e;subst e';exact V8 ⟨H,I,q⟩
 | int i =>
   obtain⟨t,rfl⟩:=rx;have e':k=(i != 0):=e;subst e';exact PySem.P.truthy_int ⟨H,I,q⟩
 | str y =>
   obtain⟨t,rfl⟩:=rx;obtain⟨hy,e'⟩:y.length<=B9/\k=((y.length:Int) != 0):=e;subst e';exact PySem.P.truthy_str (by omega) ⟨H,I.tok _,q⟩
 | byt y =>
   obtain⟨t,rfl⟩:=rx;obtain⟨hy,e'⟩:y.size<=B9/\k=((y.size:Int) != 0):=e;subst e';exact PySem.W.truthy_bytes (by omega) ⟨H,I.tok _,q⟩
 | ref p =>
   cases rx;have e':(∃xs,SqL X.K H p xs/\k=!xs.isEmpty)\/(∃xs,SqT X.K H p xs/\k=!xs.isEmpty)\/∃kvs,H p=some (.dK kvs)/\k=!kvs.isEmpty:=e;rcases e' with⟨xs,hx,e'⟩ | ⟨xs,hx,e'⟩ | ⟨kvs,hx,e'⟩
   · subst e';obtain⟨its,r,pl,hz⟩:=I.list hx;have hlen:=r.length;exact wpAny_truthy_list pl.isList (by simp only [D8];omega) ⟨H,I.tok _,by rw [HQ r];exact q⟩
   · subst e';obtain⟨its,r,pl,hz⟩:=I.tuple hx;have hlen:=r.length;exact truthy_tuple pl (by simp only [D8];omega) ⟨H,I.tok _,by rw [HQ r];exact q⟩
   · subst e';obtain⟨hz,hS,vs,r,m⟩:kvs.length<=B9/\(p == P8)=false/\∃vs,KV kvs vs/\s.heap.DictOf (L9 X.prog X.w) p vs:=I.hok p _ hx;have hlen:kvs.length=vs.length:=Paired.length r;exact wpAny_truthy_dict hS m (by omega) ⟨H,I.tok _,by rw [Ms r];exact q⟩
 | _=>exact(show False from e).elim
theorem Mt (ha:PE X a ta)(he:∀whole,isTrue a X.env whole=(do let v ← whole;Y7 a.pos;Q6 [v] (truthy v))) :
   PT X a (fun σ H Q=>ta σ H fun x H'=>∃k,TruV X.K x H' k/\Q k H'):=by
 intro pins s σ H Q I h;exact isTrue_plain (thn (ha pins s σ H _ I h) fun v s1 ⟨x,H1,I1,r1,q1⟩=>HR pins s1 σ H1 x v Q I1 r1 q1) (he _)
theorem Mu:OpR X (Q5 .Add) (fun x y H Q=>∃i j,x=.str i/\y=.str j/\i.length + j.length<=B9/\Q (.str (i++j)) H):=by
 intro pins s σ H x y v u Q I rx ry h;obtain⟨i,j,rfl,rfl,hz,q⟩:=h;obtain⟨t,rfl⟩:=rx;obtain⟨t',rfl⟩:=ry;exact add_str (fun t' tk=>⟨.str (i++j),H,I.tok _,⟨_,rfl⟩,q⟩) hz
theorem o7 (r:Vals [x] us):∃u,us=[u]/\RelV x u:=by
 cases r with
 | cons r1 r2=>cases r2;exact⟨_,rfl,r1⟩
theorem vals2 (r:Vals [x,y] us):∃u w',us=[u,w']/\RelV x u/\RelV y w':=by
 cases r with
 | cons r1 r2 =>
   cases r2 with
   | cons r3 r4=>cases r4;exact⟨_,_,rfl,r1,r3⟩
theorem Mv:K2 X (.builtin "abs") (fun xs H Q=>∃i,xs=[.int i]/\Q (.int (if i < 0 then -i else i)) H):=by
 intro pins s σ H xs us Q I r h;obtain⟨i,rfl,q⟩:=h;obtain⟨u,rfl,t,rfl⟩:=o7 r;exact call_abs_int fun u tk=>⟨.int (if i < 0 then -i else i),H,I.tok _,⟨_,rfl⟩,q⟩
theorem Mw (hc:X.calm=true):K2 X (.builtin "max") (fun xs H Q=>∃i j,xs=[.int i,.int j]/\Q (.int (if j > i then j else i)) H):=by
 intro pins s σ H xs us Q I r h;obtain⟨i,j,rfl,q⟩:=h;obtain⟨u,w',rfl,⟨t,rfl⟩,⟨t',rfl⟩⟩:=vals2 r;refine max_two_ints (I.ok.hd hc) fun h' tk k=>⟨_,H,I.kept k,?_,q⟩
 by_cases hj:j > i
 · rw [if_pos hj,if_pos hj];exact⟨_,rfl⟩
 · rw [if_neg hj,if_neg hj];exact⟨_,rfl⟩
theorem Mx (hc:X.calm=true):K2 X (.builtin "min") (fun xs H Q=>∃i j,xs=[.int i,.int j]/\Q (.int (if j < i then j else i)) H):=by
 intro pins s σ H xs us Q I r h;obtain⟨i,j,rfl,q⟩:=h;obtain⟨u,w',rfl,⟨t,rfl⟩,⟨t',rfl⟩⟩:=vals2 r;refine min_two_ints (I.ok.hd hc) fun h' tk k=>⟨_,H,I.kept k,?_,q⟩
 by_cases hj:j < i
 · rw [if_pos hj,if_pos hj];exact⟨_,rfl⟩
 · rw [if_neg hj,if_neg hj];exact⟨_,rfl⟩
theorem HS:K2 X (.type "int") (fun xs H Q=>(∃i,xs=[.int i]/\Q (.int i) H)\/∃k,xs=[.bl k]/\Q (.int (if k then 1 else 0)) H):=by
 intro pins s σ H xs us Q I r h;rcases h with⟨i,rfl,q⟩ | ⟨k,rfl,q⟩
 · obtain⟨u,rfl,t,rfl⟩:=o7 r;exact call_int_int ⟨.int i,H,I,⟨_,rfl⟩,q⟩
 · obtain⟨u,rfl,r1⟩:=o7 r;cases r1;exact call_int_bool ⟨.int (if k then 1 else 0),H,I.tok _,⟨_,rfl⟩,q⟩
end
structure ObjM (h:Heap)(x dx C:Addr)(mA:Str->Option Value):Prop where
 obj:h.get? x=some (PySem.W.instObj C dx)
 ns:h.Ns1 dx mA
 ne:dx≠x
theorem My {h:Heap}{dx:Addr}{mA:Str->Option Value}(n:h.Ns1 dx mA):∃od,h.get? dx=some od/\∀name,PySem.W.lookIn name od=some (mA name):=by
 obtain⟨o,es,ep,ho,hd,hk,_,hm⟩:=n;refine⟨o,ho,fun name=>?_⟩;have e:=hm name;unfold nsFind findBy at e;rw [<- Array.find?_toList] at e;unfold PySem.W.lookIn;rw [hd];dsimp only
 split
 · rename_i y q;rw [q] at e;exact congrArg some e
 · rename_i q;rw [q] at e
   have a:es.toList.any (·.refKey)=false:=by
     rw [List.any_eq_false];intro y hy;obtain⟨z,t,hkey⟩:=hk y (Array.mem_toList_iff.mp hy);simp [DictEntry.refKey,hkey]
   have a':¬es.toList.any (·.refKey)=true:=by rw [a];exact T3
   rw [if_neg a'];exact congrArg some e
theorem ObjM.look {h:Heap}{x dx C:Addr}{mA:Str->Option Value}(I:ObjM h x dx C mA):∃od,PySem.W.InstAt h x (PySem.W.instObj C dx) C (some od)/\∀name,PySem.W.lookIn name od=some (mA name):=
 let ⟨od,ho,hl⟩:=My I.ns
 ⟨od,⟨I.obj,rfl,rfl,ho⟩,hl⟩
section
variable {P:C6}{w:World}{H H':Hp}{h h':Heap}{a C dx:Addr}{fs fs':List (Str×V)}
theorem Mz (hok:HOk P w H h)(e:H a=some (.ins C dx fs)):∃mA,ObjM h a dx C mA/\(∀f,RelO (fs.lookup f) (mA f))/\PySem.Within mA (fs.map (·.1))/\fs.length<=1000/\H dx=some (.own a):=by
 obtain⟨d,z,ne,ob,mA,n,r,q⟩:=(show G8 P w H h a (.ins C dx fs) from hok a _ e);exact⟨mA,⟨ob,n,ne⟩,r,q,z,d⟩
end
structure Cls (K:A3)(C:Addr):Prop where
 pg:PySem.W.plainGet K C Str.empty=true
 hd:PySem.W.hasDictIn K C=true
 po:PySem.W.plainOver K C=true
 sa:PySem.W.findIn K (.ref C) "__setattr__"=some (some (.builtin "object.__setattr__"))
theorem Cls.get {K:A3}{C:Addr}(c:Cls K C)(f:Str):PySem.W.plainGet K C f=true:=c.pg
section
variable {X:Cx}{pins:List (Addr×Obj)}{σ:St}{H:Hp}{s:Shared}{A:Around}{E:Value->Shared->Prop}{Q:Value->Shared->Prop}{c:Value}{b:Bool}
inductive TyOf (K:A3)(H:Hp):V->Value->Prop where
 | non:TyOf K H .non (.type "NoneType")
 | bl (x:Bool):TyOf K H (.bl x) (.type "bool")
 | int (i:Int):TyOf K H (.int i) (.type "int")
 | str (x:Str):TyOf K H (.str x) (.type "str")
 | flt (x:UInt64):TyOf K H (.flt x) (.type "float")
 | lst {a:Addr} {xs:List V} (e:H a=some (.lst xs)):TyOf K H (.ref a) (.type "list")
 | frz {a:Addr} {o:Obj} {xs:List V} (e:H a=some (.frz o (.lst xs))):TyOf K H (.ref a) (.type "list")
 | tup {a:Addr} {xs:List V} (e:H a=some (.tup xs)):TyOf K H (.ref a) (.type "tuple")
 | dK {a:Addr} {kvs:List (Key×V)} (e:H a=some (.dK kvs)):TyOf K H (.ref a) (.type "dict")
 | dT {a:Addr} {kvs:List (List Key×V)} (e:H a=some (.dT kvs)):TyOf K H (.ref a) (.type "dict")
 | ins {a C dx:Addr} {fs:List (Str×V)} (e:H a=some (.ins C dx fs)) (cl:Cls K C) (ha:PySem.W.findIn K (.ref C) "__class__"=some (some (.builtin "object.__class__")))
     (hn:PySem.W.specialIn K (.builtin "object.__class__") "__get__"=some (some (.builtin "getset_descriptor.__get__"))) (htk:PySem.W.takesIn K (.builtin "object.__class__")=some true)
     (hm:PySem.W.mroIn K C (.type "object")=some true):TyOf K H (.ref a) (.ref C)
theorem MA {x:V}{u t:Value}(I:Inv X pins σ H s)(rx:RelV x u)(ty:TyOf X.K H x t)(e:BP X.K t c=some b)(h:∀tk,Q (.bool b) { s with toks:=tk }) :
   wpAny (model X.prog X.w) A (call (.builtin "isinstance") [u,c]) Q E s:=by
 cases ty with
 | non=>cases(show u=X2 from rx);exact W5 PySem.W.kitx_none I.kIn True.intro e (fun z=>nomatch z) h
 | bl y=>cases(show u=Value.bool y from rx);exact W5 PySem.W.kitx_bool I.kIn True.intro e (fun z=>nomatch z) h
 | int i=>obtain⟨t,q⟩:=(show ∃t,u=Value.int i t from rx);cases q;exact W5 PySem.W.kitx_int I.kIn True.intro e (fun z=>nomatch z) h
 | str y=>obtain⟨t,q⟩:=(show ∃t,u=Value.str y t from rx);cases q;exact W5 PySem.W.kitx_str I.kIn True.intro e (fun z=>nomatch z) h
 | flt y=>obtain⟨t,q⟩:=(show ∃t,u=Value.float y t from rx);cases q;exact W5 PySem.W.kitx_float I.kIn True.intro e (fun z=>nomatch z) h
 | @lst a xs ea =>
   cases(show u=K7 a from rx);obtain⟨_,_,n,_,h1⟩:=(show G8 X.prog X.w H s.heap a (.lst xs) from I.hok a _ ea);exact W5 PySem.W.kitx_list I.kIn ⟨_,h1,rfl⟩ e (fun z=>nomatch z) h
 | @frz a ob xs ea =>
   cases(show u=K7 a from rx);obtain⟨_,_,_,n,_,h1⟩:=(show G8 X.prog X.w H s.heap a (.frz ob (.lst xs)) from I.hok a _ ea);exact W5 PySem.W.kitx_list I.kIn ⟨_,h1,rfl⟩ e (fun z=>nomatch z) h
 | @tup a xs ea =>
   cases(show u=K7 a from rx);obtain⟨_,_,_,p⟩:=(show G8 X.prog X.w H s.heap a (.tup xs) from I.hok a _ ea);obtain⟨o,h1,h2,_⟩:=p;exact W5 PySem.W.kitx_tuple I.kIn ⟨o,h1,(Prod.mk.inj h2).1⟩ e (fun z=>nomatch z) h
 | @dK a kvs ea =>
   cases(show u=K7 a from rx);obtain⟨_,_,vs,_,p⟩:=(show G8 X.prog X.w H s.heap a (.dK kvs) from I.hok a _ ea);obtain⟨o,es,ep,h1,h2,_⟩:=p;exact W5 PySem.W.kitx_dict I.kIn ⟨o,h1,h2.1⟩ e (fun z=>nomatch z) h
 | @dT a kvs ea =>
   cases(show u=K7 a from rx);obtain⟨_,_,xs,_,o,es,ep,h1,h2,_⟩:=(show G8 X.prog X.w H s.heap a (.dT kvs) from I.hok a _ ea);exact W5 PySem.W.kitx_dict I.kIn ⟨o,h1,h2.1⟩ e (fun z=>nomatch z) h
 | @ins a C dx fs ea cl ha hn htk hm =>
   cases(show u=K7 a from rx);obtain⟨mA,O,_⟩:=Mz I.hok ea;obtain⟨od,J,_⟩:=O.look;exact W5 (PySem.W.kitx_own (cl.get _) cl.hd ha hn htk hm) I.kIn J e (fun z=>nomatch z) h
end
structure Room (k:Nat)(A:Around):Prop where
 hd:A.handled=none
 dp:A.depth + 3 * k + 5 < recursionLimit
 un:A.units + 16 * k + 200 < cLine
 gd:A.guards=some []
theorem Room.mono (r:Room k A)(h:j<=k):Room j A:=⟨r.hd,by have:=r.dp;omega,by have:=r.un;omega,r.gd⟩
theorem Room.deeper (r:Room (k + 1) A)(env:Env):Room k (A.deeper env):=
 ⟨r.hd,by have:=r.dp;show A.depth + 1 + 3 * k + 5 < _;omega,by have:=r.un;show A.units + 3 + 16 * k + 200 < _;omega,r.gd⟩
theorem Room.in1 {k:Nat}{A:Around}(r:Room (k + 1) A):Room k A.in1:=
 ⟨r.hd,by have:=r.dp;show A.depth + 3 * k + 5 < _;omega,by have:=r.un;show A.units + 1 + 16 * k + 200 < _;omega,r.gd⟩
theorem Room.depth (r:Room k A):A.depth < recursionLimit:=by have:=r.dp;omega
theorem Room.units (r:Room k A):A.units + 64 < cLine:=by have:=r.un;omega
def tNil:TA:=fun _ H Q=>Q [] H
def R0 (ta:TE)(tr:TA):TA:=fun σ H Q=>ta σ H fun x H1=>tr σ H1 fun xs H2=>Q (x::xs) H2
section
variable {X:Cx}{e:Expr}{es:List Expr}{te:TE}{t:TA}{pos:Pos}
theorem F8:PA X [] tNil:=fun _ _ _ _ H Q I h=>Calls.spliced_nil ⟨[],H,I,.nil,h⟩
theorem E1 (ha:PE X e te)(hr:PA X es t)(hs:E3 (e::es) X.env=(false,eval e X.env)::E3 es X.env:=by rfl):PA X (e::es) (R0 te t):=by
 intro pos pins s σ H Q I h;rw [hs];show wpAny _ _ (spliced ((false,eval e X.env)::backTo pos (E3 es X.env))) _ _ s;refine Calls.spliced_cons (thn (ha pins s σ H _ I h) fun u s1 ⟨x,H1,I1,r1,q1⟩=>?_);exact thn (hr pos pins s1 σ H1 _ I1 q1) fun us s2 ⟨xs,H2,I2,r2,q2⟩=>⟨x::xs,H2,I2,.cons r1 r2,q2⟩
def tTup (t:TA):TE:=fun σ H Q=>t σ H fun xs H1=>xs.length<=B9/\∀p,H1 p=none->Q (.ref p) (upd H1 p (.tup xs))
def tLst (t:TA):TE:=fun σ H Q=>t σ H fun xs H1=>xs.length<=B9/\∀p,H1 p=none->Q (.ref p) (upd H1 p (.lst xs))
theorem FV {x1}(h:PA X es t):PE X (.Tuple es x1 pos) (tTup t):=by
 intro pins s σ H Q I hq;refine wpAny_Tuple_spliced (thn (h pos pins s σ H _ I hq) fun us s1 ⟨xs,H1,I1,r,z,q⟩=>⟨by rw [<- r.length];exact z,?_⟩);have hf:H1 s1.heap.objs.size=none:=I1.hok.fresh (B3 _);refine⟨.ref s1.heap.objs.size,upd H1 s1.heap.objs.size (.tup xs),I1.laid (t':=s1.toks) (fun b u e=>C0 _ e) (B3 _) ?_,rfl,q _ hf⟩;exact⟨z,us,r,⟨_,F2 _ rfl,rfl,_,rfl⟩⟩
theorem HU (h:PA X es t):PE X (.List es pos) (tLst t):=by
 intro pins s σ H Q I hq;refine wpAny_List_spliced (thn (h pos pins s σ H _ I hq) fun us s1 ⟨xs,H1,I1,r,z,q⟩=>⟨by rw [<- r.length];exact z,?_⟩);have hf:H1 s1.heap.objs.size=none:=I1.hok.fresh (B3 _);refine⟨.ref s1.heap.objs.size,upd H1 s1.heap.objs.size (.lst xs),I1.laid (t':=s1.toks) (fun b u e=>C0 _ e) (B3 _) ?_,rfl,q _ hf⟩;exact⟨z,us,0,r,F2 _ rfl⟩
end
abbrev Sp:=List V->Hp->VK->XK->Prop
abbrev CXT:=List Env->Hp->Shared->XK->Value->Shared->Prop
structure Env0 (P:C6)(w:World)(K:A3)(mg:Str->Option Value)(base:Heap)(A:Around)(outer:List Env)(s:Shared)(H:Hp):Prop where
 frames:A.frames=some outer
 mod:Mod K mg base
 bs:∀b o,base.get? b=some o->s.heap.get? b=some o/\H b=none
 bsz:base.objs.size<=s.heap.objs.size
 funs:s.heap.FunFrames base outer
 frf:∀b∈frs outer,H b=none
 hok:HOk P w H s.heap
 bare:AllBare s.gens
 nos:NS H
def CE (outer:List Env)(P:C6)(w:World)(H:Hp)(s:Shared)(Q:VK)(u:Value)(s':Shared):Prop:=
 ∃v H',s'.os=s.os/\AllBare s'.gens/\Un (frs outer) [] H H' s.heap s'.heap/\HOk P w H' s'.heap/\RelV v u/\Q v H'
def CR (CX:CXT)(outer:List Env)(P:C6)(w:World)(H:Hp)(s:Shared)(Q:VK)(E:XK)(r:Result)(s':Shared):Prop:=
 match r with
 | .ok (.ret u)=>CE outer P w H s Q u s'
 | .ok _=>False
 | .error e=>CX outer H s E e s'
structure FnOk (P:C6)(w:World)(K:A3)(mg:Str->Option Value)(base:Heap)(CX:CXT)(k:Nat)(f:Addr)(fd:FuncData)(ps:List Str)(sp:Sp):Prop where
 len:∀vs H Q E,sp vs H Q E->vs.length=ps.length
 run:∀(A:Around) (outer:List Env) (s:Shared) (H:Hp) (args:Args) (us:List Value) (vs:List V) (Q:VK) (E:XK),Room k A->Env0 P w K mg base A outer s H->BindsTo s fd args (ps.zip us)->Vals vs us->sp vs H Q E->
   L5 (model P w) A (.call (.ref f) args) (CR CX outer P w H s Q E) s
theorem FnOk.imp {K:A3}(F:FnOk P w K mg base CX k f fd ps sp)
   (h:∀vs H Q E,sp' vs H Q E->sp vs H Q E):FnOk P w K mg base CX k f fd ps sp':=
 ⟨fun vs H Q E q=>F.len vs H Q E (h _ _ _ _ q),fun A outer s H args us vs Q E hr he hb hv hs=>F.run A outer s H args us vs Q E hr he hb hv (h _ _ _ _ hs)⟩
section
variable {X:Cx}{pins:List (Addr×Obj)}{σ:St}{H:Hp}{s s':Shared}
theorem Inv.env0 (I:Inv X pins σ H s):Env0 X.prog X.w X.K X.mg X.base X.A X.stack s H:=
 ⟨I.ok.frames,I.ok.mod,I.bs,L7 I.ok.bsz I.sz,I.stack,I.stkFree,I.hok,I.bare,I.nos⟩
theorem Inv.after (I:Inv X pins σ H s)(h:CE X.stack X.prog X.w H s Q u s'):EP X pins σ Q u s':=by
 obtain⟨v,H',os,bare,un,hok,r,q⟩:=h;obtain⟨hh,g,d,t,os'⟩:=s';obtain rfl:os'=s.os:=os;exact⟨v,H',I.call (h':=hh) (g':=g) (d':=d) (t':=t) (ch:=[]) un hok bare (fun b z=>absurd z (by simp)),r,q⟩
end
def tCall (sp:Sp)(dvs:List V)(E:XK)(t:TA):TE:=fun σ H Q=>t σ H fun vs H1=>sp (vs++dvs) H1 Q E
def Bi (K:A3)(fd:FuncData)(ps:List Str)(ds:List Value):Prop:=
 ∀(s:Shared) (us:List Value),K.In s.heap->(us++ds).length=ps.length->BindsTo s fd ⟨us,[]⟩ (ps.zip (us++ds))
theorem Bi.all {K:A3}(h:∀us:List Value,us.length=ps.length->W3 fd ⟨us,[]⟩=pure (ps.zip us)):Bi K fd ps []:=fun s us _ hl=>by
 rw [S6] at hl ⊢;exact .of_eq (h us hl)
def FW (CX:CXT)(X:Cx)(E:XK):Prop:=∀(pins:List (Addr×Obj)) (σ:St) (H:Hp) (s:Shared) (e:Value) (s':Shared),Inv X pins σ H s->CX X.stack H s E e s'->X.xe e s'
section
variable {X:Cx}{CX:CXT}{k:Nat}{f C:Addr}{fd:FuncData}{ps:List Str}{sp:Sp}{dvs:List V}{ds:List Value}{E:XK}{x m:Str}{p pos apos:Pos}{e o:Expr}{es:List Expr}{ta:TE}{t:TA}
theorem run_fn (F:FnOk X.prog X.w X.K X.mg X.base CX k f fd ps sp)(hr:Room k X.A)(hb:Bi X.K fd ps ds)(hd:Vals dvs ds)(hx:FW CX X E)
   (I:Inv X pins σ H s) (r:Vals vs us) (h:sp (vs++dvs) H Q E):wpAny (model X.prog X.w) X.A (call (.ref f) us) (EP X pins σ Q) X.xe s:=by
 have r2:Vals (vs++dvs) (us++ds):=r.append hd;have hl:(us++ds).length=ps.length:=by rw [<- r2.length];exact F.len _ _ _ _ h
 refine wpAny_call (w4 (F.run X.A X.stack s H ⟨us,[]⟩ (us++ds) (vs++dvs) Q E hr I.env0 (hb s us I.kIn hl) r2 h) fun r s' hq=>?_);cases r with
 | error e=>exact hx pins σ H s e s' I hq
 | ok fl =>
   cases fl with
   | ret u=>exact I.after hq
   | next=>exact Z3 hq
   | brk=>exact Z3 hq
   | cont=>exact Z3 hq
theorem MB (F:FnOk X.prog X.w X.K X.mg X.base CX k f fd ps sp)(hr:Room k X.A)(hg:Gl X x)(hm:X.mg x=some (.ref f))(hk:BQ X.K (.ref f)=true)(hb:Bi X.K fd ps ds)(hd:Vals dvs ds)(hx:FW CX X E)
   (ha:PA X (e::es) t) (hdb:(x == ("__debug__":Str))=false:=by decide) (he:E3 (e::es) X.env=(false,eval e X.env)::E3 es X.env:=by rfl) (hpl:(backTo pos (E3 es X.env)).any (·.1)=false:=by rfl) :
   PE X (.Call (.Name x p) (e::es) [] pos) (tCall sp dvs E t):=by
 intro pins s σ H Q I h;refine Dl (HM I hg hm ?_ hdb);refine PySem.W.callWith_K (h₀:=X.base) I.ok.mod.kin hk (thn (ha pos pins s σ H _ I h) fun us s1 ⟨vs,H1,I1,r,q⟩=>⟨I1.kIn,?_⟩) he hpl;exact run_fn F hr hb hd hx I1 r q
end
def PK (X:Cx)(kws:List O3)(t:TA):Prop:=
 ∀(pos:Pos) (pins:List (Addr×Obj)) (s:Shared) (σ:St) (H:Hp) (Q:List V->Hp->Prop),Inv X pins σ H s->t σ H Q->wpAny (model X.prog X.w) X.A (evalAll ((W4 pos (W0 kws X.env)).map (·.2))) (AP X pins σ Q) X.xe s
structure R1 (N P:List Str)(sc:Scope):Prop where
 kind:sc.kind=.function
 co:sc.isCoroutine=false
 gen:sc.isGenerator=false
 nd:N.Nodup
 pre:N.take P.length=P
 par:∀x∈P,sc.names.lookup x=some .local\/sc.names.lookup x=some .cell
 nofree:∀y∈sc.names,y.2≠.free
theorem HV {kindOf:Str->Option NameKind}:∀{binds:List (Str×Value)} {m:Str->Option Value},(∀v,(x,v)∉binds)->bindL kindOf binds m x=m x
 | [],_,_=>rfl
 | (n, v) :: r, m, h => by
   unfold bindL;rw [HV fun w hw=>h w (C3 _ hw)]
   split
   · have:x≠n:=by rintro rfl;exact h v B8
     simp [this]
   · rfl
theorem HW {kindOf:Str->Option NameKind}:∀{binds:List (Str×Value)} {m:Str->Option Value},(∀v,(x,v)∉binds)->bindC kindOf binds m x=m x
 | [],_,_=>rfl
 | (n, v) :: r, m, h => by
   unfold bindC;rw [HW fun w hw=>h w (C3 _ hw)]
   split
   · rfl
   · have:x≠n:=by rintro rfl;exact h v B8
     simp [this]
theorem HX {kindOf:Str->Option NameKind}:∀{P:List Str} {vs:List Value} {i:Nat} {m:Str->Option Value},P.Nodup->P[i]?=some x->vs[i]?=some v->kindOf x=some .local->
   bindL kindOf (P.zip vs) m x=some v
 | [],_,_,_,_,h,_,_=>by simp at h
 | _::_,[],_,_,_,_,h,_=>by simp at h
 | p :: P, w :: vs, 0, m, nd, h1, h2, hk => by
   simp at h1 h2;subst h1;subst h2;show bindL kindOf ((p,w)::P.zip vs) m p=_;unfold bindL;rw [HV fun v hv=>(T0.mp nd).1 (List.of_mem_zip hv).1,if_pos hk];simp
 | p :: P, w :: vs, i + 1, m, nd, h1, h2, hk => by
   show bindL kindOf ((p,w)::P.zip vs) m x=_;unfold bindL;exact HX (i:=i) (T0.mp nd).2 (by simpa using h1) (by simpa using h2) hk
theorem HY {kindOf:Str->Option NameKind}:∀{P:List Str} {vs:List Value} {i:Nat} {m:Str->Option Value},P.Nodup->P[i]?=some x->vs[i]?=some v->kindOf x≠some .local->
   bindC kindOf (P.zip vs) m x=some v
 | [],_,_,_,_,h,_,_=>by simp at h
 | _::_,[],_,_,_,_,h,_=>by simp at h
 | p :: P, w :: vs, 0, m, nd, h1, h2, hk => by
   simp at h1 h2;subst h1;subst h2;show bindC kindOf ((p,w)::P.zip vs) m p=_;unfold bindC;rw [HW fun v hv=>(T0.mp nd).1 (List.of_mem_zip hv).1,if_neg hk];simp
 | p :: P, w :: vs, i + 1, m, nd, h1, h2, hk => by
   show bindC kindOf ((p,w)::P.zip vs) m x=_;unfold bindC;exact HY (i:=i) (T0.mp nd).2 (by simpa using h1) (by simpa using h2) hk
def start (N:List Str)(vs:List V):St:=vs.map some++x6 (N.length - vs.length) none
def cxOf (CX:CXT)(P:C6)(w:World)(K:A3)(mg:Str->Option Value)(base:Heap)(N:List Str)(qual:Str)(scope:Scope)(f:Addr)(cd:Value)(A:Around)(outer:List Env)(s:Shared)(H:Hp)(E:XK):Cx where
 prog:=P
 w:=w
 K:=K
 mg:=mg
 base:=base
 A:=A.deeper (envOfC qual scope s.heap.objs.size f cd)
 N:=N
 s₀:=s
 H₀:=H
 env:=envOfC qual scope s.heap.objs.size f cd
 outer:=outer
 stack:=envOfC qual scope s.heap.objs.size f cd::outer
 ex:=[]
 calm:=true
 fn:=fun _=>true
 pn:=[]
 xe:=fun e s'=>wpAny (model P w) (A.deeper (envOfC qual scope s.heap.objs.size f cd)) (leaving (envOfC qual scope s.heap.objs.size f cd) e) (fun _ s''=>CX outer H s E e s'') (fun e' s''=>CX outer H s E e' s'') s'
theorem HZ {sc:Scope}(h:sc.names.lookup x=some .cell):∃c,(cellsFrom n sc.names []).lookup x=some c:=by
 have q:=PySem.W.cellsFrom_some sc.names n [] (.inl h);exact DR.mp q
theorem MC {K:A3}
   (S:R1 N ps scope) (hd:A.handled=none) (e0:Env0 P w K mg base A outer s H) (hl:vs.length=ps.length) (r:Vals vs us)
   (x:InCallC s s.heap.objs.size (bindL (envOfC qual scope s.heap.objs.size f cd).kindOf (ps.zip us) fun _=>none) (cellsFrom (s.heap.objs.size + 1) scope.names []) (bindC (envOfC qual scope s.heap.objs.size f cd).kindOf (ps.zip us) fun _=>none) s1) :
   Inv (cxOf CX P w K mg base N qual scope f cd A outer s H E) [] (start N vs) H s1:=by
 have hpl:ps.length<=N.length:=by have:=congrArg List.length S.pre;rw [P9] at this;omega
 obtain⟨h1,tk,rfl,hk⟩:=x.done;have noA:∀b:Addr,b∉(cxOf CX P w K mg base N qual scope f cd A outer s H E).ex:=fun b z=>absurd (show b∈([]:List Addr) from z) (by simp)
 refine⟨⟨e0.mod,S.kind,rfl,rfl,B3 _,fun y z c h1 h2=>?_,fun y hy=>?_,fun y c _ h=>?_,fun _=>hd,Around.frames_deeper e0.frames,.inr ⟨rfl,rfl⟩,fun b z=>absurd z (noA b),e0.bs,e0.bsz,fun b _ _=>noA b,fun b z=>absurd z (noA b),e0.funs,e0.frf,e0.nos⟩,
   rfl,e0.bare,Un.kept hk,⟨_,x.toInCall.ns,fun i y v h1 h2 h3=>?_⟩,fun y c h=>⟨_,x.cell y c h⟩,e0.hok.fresh (B3 _),fun y c h=>?_,fun p hp=>absurd (show p∈([]:List (Addr×Obj)) from hp) (by simp),e0.hok.kept hk,?_⟩
 · exact name_of_addr x.apart (c8 h1) (c8 h2)
 · have hy:scope.names.lookup y=some .cell\/scope.names.lookup y=some .free:=hy;rcases hy with hy | hy
   · exact HZ hy
   · exact absurd rfl (S.nofree _ (c8 hy))
 · exact W9 (x.above y c (c8 h))
 · have hi:i < vs.length:=by
     unfold start at h2
     by_cases hi:i < vs.length
     · exact hi
     · rw [U6 (by simpa using hi)] at h2;rw [Du] at h2
       split at h2 <;> cases h2
   have ha:vs[i]?=some v:=by
     unfold start at h2;rw [W6 (by simpa using hi),F4] at h2;cases e:vs[i]? with
     | none=>rw [e] at h2;cases h2
     | some a=>rw [e] at h2;cases h2;rfl
   obtain⟨u,hu,rv⟩:=r.get ha
   have hp:ps[i]?=some y:=by
     rw [<- S.pre,List.getElem?_take_of_lt (by omega)];exact h1
   have ndP:ps.Nodup:=by rw [<- S.pre];exact S.nd.sublist (List.take_sublist _ _)
   refine⟨u,rv,?_⟩;rcases S.par y (J6 hp) with k | k
   · exact .inl ⟨k,HX ndP hp hu k⟩
   · obtain⟨c,e⟩:=HZ (n:=s.heap.objs.size + 1) k;refine .inr ⟨.inl k,c,e,?_⟩;have q:=x.cell y c e;rw [HY ndP hp hu (by show scope.names.lookup y≠_;rw [k];decide)] at q;exact q
 · exact e0.hok.fresh (W9 (x.above y c (c8 h)))
 · unfold start;show _=N.length;rw [D4,A9,Y9];omega
theorem fn_of {K:A3}{dV kV doc pm cdv ct oc:Value}
 (lk:K.lookup f=some ⟨oc,od,.func (U4 name qual params body scope dV kV doc pm an cdv ct),osl⟩) (hcd:Dt K cdv qual=true) (S:R1 N ps scope)
   (len:∀vs H Q E,sp vs H Q E->vs.length=ps.length)
   (hbody:∀(A:Around) (outer:List Env) (s:Shared) (H:Hp) (vs:List V) (Q:VK) (E:XK),Room k (A.deeper (envOfC qual scope s.heap.objs.size f cdv))->sp vs H Q E->
     ∃t,PSs (cxOf CX P w K mg base N qual scope f cdv A outer s H E) body t/\t { nx:=fun _ H'=>Q .non H',rt:=Q } (start N vs) H) :
   FnOk P w K mg base CX (k + 1) f (U4 name qual params body scope dV kV doc pm an cdv ct) ps sp:=by
 refine⟨len,fun A outer s H args us vs Q E hr e0 hb r hsp=>?_⟩;have hl:=len _ _ _ _ hsp;have KX:K.In s.heap:=e0.mod.kin.keeps fun b o e=>(e0.bs b o e).1;have lim:s.heap.NoLimit:=e0.mod.nolimit.keeps fun b o e=>(e0.bs b o e).1
 have hkind:∀y∈ps.zip us,scope.names.lookup y.1=some .local\/(scope.names.lookup y.1=some .cell/\((cellsFrom (s.heap.objs.size + 1) scope.names []).lookup y.1).isSome=true):=fun⟨n,v⟩ hy=>by
   rcases S.par n (List.of_mem_zip hy).1 with q | q
   · exact .inl q
   · exact .inr ⟨q,PySem.W.cellsFrom_some _ _ _ (.inl q)⟩
 refine codeAny_call_function hr.depth (KX _ _ lk) rfl S.co S.gen rfl (PySem.W.codeRec_of KX hcd) (hb _ _ _ _ ?_);refine wpAny_newFunctionEnv_cells S.kind hkind fun env he s1 x=>?_;subst he;refine⟨lim.keeps x.toInCall.keep,codeAny_func ?_⟩;obtain⟨t,ht,hq⟩:=hbody A outer s H vs Q E (hr.deeper _) hsp;have I:Inv (cxOf CX P w K mg base N qual scope f cdv A outer s H E) [] (start N vs) H s1:=MC S hr.hd e0 hl r x;refine G7 (ht [] s1 (start N vs) H _ I hq) (fun fl s' hs=>?_) fun e s' hs=>hs
 have fin:∀{σ':St} {H':Hp} {v:V} {u:Value},Inv (cxOf CX P w K mg base N qual scope f cdv A outer s H E) [] σ' H' s'->RelV v u->Q v H'->CE outer P w H s Q u s':=
   fun {σ' H' v u} J rv q=>⟨v,H',J.os,J.bare,J.base,J.hok,rv,q⟩
 cases fl with
 | ret u =>
   obtain⟨v,σ',H',J,rv,q⟩:=hs;exact fin J rv q
 | next =>
   obtain⟨σ',H',J,q⟩:=hs;exact fin (v:=V.non) (u:=X2) J rfl q
 | brk =>
   obtain⟨_,_,_,q⟩:=hs;exact Z3 q
 | cont =>
   obtain⟨_,_,_,q⟩:=hs;exact Z3 q
section
variable {X:Cx}{x:Str}{p pos:Pos}{e:Expr}{es:List Expr}{t:TA}{id T:String}{r:List V->Hp->VK->Prop}
def tCB (r:List V->Hp->VK->Prop)(t:TA):TE:=fun σ H Q=>t σ H fun vs H1=>r vs H1 Q
theorem Z5 (hc:K2 X (.builtin id) r)(hg:Gl X x)(hm:X.mg x=none)(hv:K6 x=some (.builtin id))(ha:PA X (e::es) t)(hn:x≠"__name__":=by decide)(hdb:(x == ("__debug__":Str))=false:=by decide)
   (he:E3 (e::es) X.env=(false,eval e X.env)::E3 es X.env:=by rfl) (hpl:(backTo pos (E3 es X.env)).any (·.1)=false:=by rfl):PE X (.Call (.Name x p) (e::es) [] pos) (tCB r t):=by
 intro pins s σ H Q I h;refine Dl (Bg I hg hm hv ?_ hn hdb);exact PyProof.Rows.callWith_builtin1 (thn (ha pos pins s σ H _ I h) fun us s1 ⟨vs,H1,I1,r1,q1⟩=>hc pins s1 σ H1 vs us Q I1 r1 q1) he hpl
theorem Bj (hc:K2 X (.type T) r)(hg:Gl X x)(hm:X.mg x=none)(hv:K6 x=some (.type T))(ha:PA X (e::es) t)(hn:x≠"__name__":=by decide)(hdb:(x == ("__debug__":Str))=false:=by decide)
   (he:E3 (e::es) X.env=(false,eval e X.env)::E3 es X.env:=by rfl) (hpl:(backTo pos (E3 es X.env)).any (·.1)=false:=by rfl):PE X (.Call (.Name x p) (e::es) [] pos) (tCB r t):=by
 intro pins s σ H Q I h;refine Dl (Bg I hg hm hv ?_ hn hdb);exact FA (thn (ha pos pins s σ H _ I h) fun us s1 ⟨vs,H1,I1,r1,q1⟩=>hc pins s1 σ H1 vs us Q I1 r1 q1) he hpl
end
end L2
namespace HT
open PySem PyProof.Rows
section
variable {prog:C6}{w:World}{A:Around}{E:Value->Shared->Prop}{s:Shared}
theorem cat_tup (ht:IsTup s.heap t vs.toArray)(hb:IsTup s.heap b ws.toArray)(hv:vs≠[])
   (h1:ws=[]->Q (.ref t) s) (h2:ws≠[]->Q (.ref s.heap.objs.size) { s with heap:=s.heap.push { cls:=.type "tuple",data:=.seq (vs++ws).toArray } })
   (hsz:vs.length + ws.length<=B9):wpAny (model prog w) A (Q5 .Add (.ref t) (.ref b)) Q E s:=by
 obtain⟨⟨cls,dd,data,sl⟩,ho,hc,n,hd⟩:=id ht;obtain⟨⟨cls2,dd2,data2,sl2⟩,ho2,hc2,n2,hd2⟩:=id hb;simp only at hc hd hc2 hd2;subst hc hd hc2 hd2;have e:vs.toArray++ws.toArray=(vs++ws).toArray:=by simp
 by_cases hw:ws=[]
 · exact concat_meets ⟨_,ho,rfl⟩ ⟨_,ho2,rfl⟩ noFill_tuple_add seq_tuple_add FE FD (FC _ _)
     (tuple_addW1 t b vs.toArray ws.toArray n n2 dd dd2 sl sl2 (by simpa using hv) (by simp [hw])) ⟨ho,ho2,h1 hw⟩
 · refine concat_meets ⟨_,ho,rfl⟩ ⟨_,ho2,rfl⟩ noFill_tuple_add seq_tuple_add FE FD (FC _ _)
     (tuple_addW2 t b vs.toArray ws.toArray n n2 dd dd2 sl sl2 (by simpa using hv) (by simpa using hw) (by rw [D8,D8];exact hsz)) ⟨ho,ho2,?_⟩
   rw [e];exact h2 hw
def sIx (n d:Nat):Option Int->Nat
 | none=>d
 | some v=>if v < 0 then(v + (n:Int)).toNat else min v.toNat n
theorem sIx_none (n d:Nat):sIx n d none=d:=rfl
theorem sIx_nat (n d k:Nat):sIx n d (some (k:Int))=min k n:=by
 show(if(k:Int) < 0 then((k:Int) + (n:Int)).toNat else min (k:Int).toNat n)=min k n;rw [if_neg (by omega),DN]
theorem sIx_le (n d:Nat)(hd:d<=n)(o:Option Int):sIx n d o<=n:=by
 cases o with
 | none=>exact hd
 | some v =>
   show(if v < 0 then(v + (n:Int)).toNat else min v.toNat n)<=n
   by_cases hv:v < 0
   · rw [if_pos hv];omega
   · rw [if_neg hv];exact Nat.min_le_right _ _
theorem H_ (v:Int)(n d:Nat):(if v < 0 then max (v + (n:Int)) 0 else min v (n:Int))=((sIx n d (some v):Nat):Int):=by
 show(if v < 0 then max (v + (n:Int)) 0 else min v (n:Int))=(((if v < 0 then(v + (n:Int)).toNat else min v.toNat n):Nat):Int)
 by_cases hv:v < 0
 · simp only [if_pos hv];omega
 · simp only [if_neg hv];omega
theorem MD (lo hi:Option Int)(n:Nat):Cj lo hi 1 (n:Int)=(((sIx n 0 lo:Nat):Int),((sIx n n hi:Nat):Int)):=by
 have h1:¬((1:Int) < 0):=by omega
 unfold Cj;simp only [h1,if_false];refine Prod.ext ?_ ?_
 · cases lo with
   | none=>rfl
   | some v=>exact H_ v n 0
 · cases hi with
   | none=>rfl
   | some v=>exact H_ v n n
theorem ME (i j:Nat):l5 (i:Int) (j:Int) 1=j - i:=by
 unfold l5;have h1:(1:Int) > 0:=by omega
 simp only [h1,if_true,Int.ediv_one]
 split <;> omega
theorem Cr (p:IsPart v o)(h:Q o s):wpAny (model prog w) A (Builtin.Slice.slicePartIndex v) Q E s:=by
 cases p with
 | none=>exact slicePart_none h
 | int i t=>exact slicePart_int h
theorem Ia {lo hi:Option Int}{n:Nat}{Q:Int×Int×Nat->Shared->Prop}(hs:s.heap.IsSliceOf sl vl vu .none)(pl:IsPart vl lo)(pu:IsPart vu hi)
   (h:Q (((sIx n 0 lo:Nat):Int),1,sIx n n hi - sIx n 0 lo) s):wpAny (model prog w) A (DJ (.ref sl) (pure (n:Int))) Q E s:=by
 obtain⟨os,hos,hcs,hds⟩:=id hs;unfold DJ HI;refine A1 (A1 (W1 hos hds (x:=vl) rfl (A1 (W1 hos hds (x:=vu) rfl (A1 (W1 hos hds (x:=.none) rfl (A5 ?_)))))));refine A1 (slicePart_none ?_);show wpAny _ _ (if((1:Int) == 0)=true then _ else _) _ _ s;rw [if_neg (by decide)];refine A1 (Cr pl (A1 (Cr pu (A1 (A5 ?_)))));show wpAny _ _ (match Cj lo hi 1 (n:Int) with | (lo,hi)=>pure (lo,(1:Int),l5 lo hi 1)) _ _ s;rw [MD lo hi n];show wpAny _ _ (pure (((sIx n 0 lo:Nat):Int),(1:Int),l5 ((sIx n 0 lo:Nat):Int) ((sIx n n hi:Nat):Int) 1)) _ _ s;rw [ME];exact A5 h
theorem MF (xs:Array Value)(i k:Nat):((E6 k).filterMap fun(m:Nat)=>xs[((i:Int) + (m:Int) * 1).toNat]?).toArray=((xs.toList.drop i).take k).toArray:=by
 have e:(fun(m:Nat)=>xs[((i:Int) + (m:Int) * 1).toNat]?)=fun m=>xs[i + m]?:=by
   funext m
   have:((i:Int) + (m:Int) * 1).toNat=i + m:=by omega
   rw [this]
 rw [e];have:=pick_run xs i k;rw [List.filterMap_map] at this;have e2:((fun x=>xs[x]?)∘fun x=>i + x)=fun m=>xs[i + m]?:=rfl
 grind
theorem getItem_tuple_cut {lo hi:Option Int}(ht:IsTup s.heap t items)(hs:s.heap.IsSliceOf sl vl vu .none)(pl:IsPart vl lo)(pu:IsPart vu hi)
   (hw:¬(sIx items.size 0 lo=0/\sIx items.size items.size hi=items.size))
   (h:Q (.ref s.heap.objs.size) { s with heap:=s.heap.push { cls:=.type "tuple",data:=.seq ((items.toList.drop (sIx items.size 0 lo)).take (sIx items.size items.size hi - sIx items.size 0 lo)).toArray } })
   (hsz:items.size<=B9):wpAny (model prog w) A (getItem (.ref t) (.ref sl)) Q E s:=by
 have htake:sizeOk (.seq ((items.toList.drop (sIx items.size 0 lo)).take (sIx items.size items.size hi - sIx items.size 0 lo)).toArray):=by
   show((items.toList.drop (sIx items.size 0 lo)).take (sIx items.size items.size hi - sIx items.size 0 lo)).toArray.size<=B9;rw [D8,P9,W8,J9];omega
 have hj:sIx items.size items.size hi<=items.size:=sIx_le _ _ (B3 _) hi;obtain⟨os,hos,hcs,hds⟩:=id hs;have hTs:s.TypeIs (.ref sl) "slice":=⟨os,hos,hcs⟩;unfold getItem
 try with_reducible refine G6 ?_
 first | refine A1 (A5 ?_) | skip
 refine A1 (wpAny_sequenceKey ht.typeIs (by decide) ?_)
 refine A1 (Y5 (name:=A4 "__getitem__") ht.typeIs AY
   (P7 AY ht.typeIs entry_tuple_getitem ?_ (args_tuple_getitem _ _)))
 show wpAny _ _ (FB (.ref t)>>=_) _ _ s;refine A1 (tupleItemsOf_ ht ?_);refine A1 (j6 hTs ?_);rw [if_pos (by decide)];refine A1 (Ia hs pl pu ?_)
 have hno:¬((((sIx items.size 0 lo:Nat):Int) == 0 && (1:Int) == 1 && (sIx items.size items.size hi - sIx items.size 0 lo) == items.size)=true):=by
   intro q;rw [P2,P2] at q;have q1:((sIx items.size 0 lo:Nat):Int)=0:=eq_of_beq q.1.1;have q2:sIx items.size items.size hi - sIx items.size 0 lo=items.size:=eq_of_beq q.2;exact hw ⟨by omega,by omega⟩
 show wpAny _ _ (if(((sIx items.size 0 lo:Nat):Int) == 0 && (1:Int) == 1 && (sIx items.size items.size hi - sIx items.size 0 lo) == items.size)=true then _ else _) _ _ s;rw [if_neg hno,MF]
 first
   | exact A1 (m:=l7 _) (L3 (A5 ⟨_,rfl,A5 h⟩) htake)
   | exact A1 (m:=l7 _) (L3 (A1 (A5 (A5 ⟨_,rfl,A5 h⟩))) htake)
   | exact A1 (A1 (m:=l7 _) (L3 (A5 (A5 ⟨_,rfl,A5 h⟩)) htake))
   | exact A1 (A1 (m:=l7 _) (L3 (A5 ⟨_,rfl,A5 h⟩) htake))
end
end HT
namespace L2
open PySem PySem.Spec PyProof.Rows
abbrev TO:=St->Hp->(Option Int->Hp->Prop)->Prop
def PO (X:Cx)(e:Option Expr)(t:TO):Prop:=
 ∀ (pins : List (Addr × Obj)) (s : Shared) (σ : St) (H : Hp) (Q : Option Int -> Hp -> Prop), Inv X pins σ H s -> t σ H Q ->
   wpAny (model X.prog X.w) X.A (evalPart e X.env) (fun u s'=>∃o H',Inv X pins σ H' s'/\IsPart u o/\Q o H') X.xe s
def MG:TO:=fun _ H Q=>Q none H
def tPart (t:TE):TO:=fun σ H Q=>t σ H fun x H1=>∃i,x=.int i/\Q (some i) H1
section
variable {X:Cx}{e:Expr}{te:TE}{lo hi:Option Expr}{tl th:TO}{pos p2:Pos}
theorem MH:PO X none MG:=by
 intro pins s σ H Q I h;rw [evalPart_none];exact A5 ⟨none,H,I,.none,h⟩
theorem MI (h:PE X e te):PO X (some e) (tPart te):=by
 intro pins s σ H Q I hw;rw [evalPart_some];refine thn (h pins s σ H _ I hw) fun u s1 ⟨x,H1,I1,r1,q1⟩=>?_;obtain⟨i,rfl,q⟩:=q1;obtain⟨t,rfl⟩:=r1;exact⟨some i,H1,I1,.int i t,q⟩
def SlR (X:Cx)(r:V->Option Int->Option Int->Hp->VK->Prop):Prop:=
 ∀ (pins : List (Addr × Obj)) (s : Shared) (σ : St) (H : Hp) (x : V) (v vl vu : Value) (lo hi : Option Int) (sl : Addr) (Q : VK), Inv X pins σ H s -> RelV x v -> s.heap.IsSliceOf sl vl vu .none -> IsPart vl lo -> IsPart vu hi -> r x lo hi H Q ->
   ∃T id,typeLookup (.type T) "__getitem__"=pure (some (.builtin id))/\s.TypeIs v T/\wpAny (model X.prog X.w) X.A (getItem v (.ref sl)) (EP X pins σ Q) X.xe s
theorem SlR.or (h:SlR X r)(h':SlR X r'):SlR X (fun x lo hi H Q=>r x lo hi H Q\/r' x lo hi H Q):=by
 intro pins s σ H x v vl vu lo hi sl Q I rx hs pl pu q;rcases q with q | q
 · exact h pins s σ H x v vl vu lo hi sl Q I rx hs pl pu q
 · exact h' pins s σ H x v vl vu lo hi sl Q I rx hs pl pu q
def tSl (r:V->Option Int->Option Int->Hp->VK->Prop)(te:TE)(tl th:TO):TE:=fun σ H Q=>te σ H fun x H1=>tl σ H1 fun l H2=>th σ H2 fun u H3=>r x l u H3 Q
theorem MJ (hr:SlR X r)(he:PE X e te)(hl:PO X lo tl)(hu:PO X hi th):PE X (.Subscript e (.Slice lo hi none p2) pos) (tSl r te tl th):=by
 intro pins s σ H Q I h;refine Subscript_ (thn (he pins s σ H _ I h) fun v s1 ⟨x,H1,I1,r1,q1⟩=>?_);refine wpAny_Slice (thn (hl pins s1 σ H1 _ I1 q1) fun vl s2 ⟨l,H2,I2,pl,q2⟩=>thn (hu pins s2 σ H2 _ I2 q2) fun vu s3 ⟨u,H3,I3,pu,q3⟩=>?_);rw [evalPart_none];refine A5 ?_;have I4:Inv X pins σ H3 { s3 with heap:=s3.heap.push { cls:=.type "slice",data:=.fields #[vl,vu,.none] } }:=I3.kept (t':=s3.toks) fun b ob q=>C0 _ q;obtain⟨T,id,hT,ht,hg⟩:=hr pins { s3 with heap:=s3.heap.push { cls:=.type "slice",data:=.fields #[vl,vu,.none] } } σ H3 x v vl vu l u s3.heap.objs.size Q I4 r1 (FI ..) pl pu q3;show wpAny (model X.prog X.w) X.A (subscriptTail e (.Slice lo hi none p2) v (.ref s3.heap.objs.size)) (EP X pins σ Q) X.xe { s3 with heap:=s3.heap.push { cls:=.type "slice",data:=.fields #[vl,vu,.none] } };exact tail_any (ops:=[.ref s3.heap.objs.size,v]) ht hT hg (by with_unfolding_all rfl)
def cutV (xs:List V)(lo hi:Option Int):List V:=(xs.drop (HT.sIx xs.length 0 lo)).take (HT.sIx xs.length xs.length hi - HT.sIx xs.length 0 lo)
theorem Ib (xs:List V)(lo hi:Option Int):(cutV xs lo hi).length<=xs.length:=by
 unfold cutV;rw [P9,W8];omega
def rSlT (K:A3):V->Option Int->Option Int->Hp->VK->Prop:=fun x lo hi H Q=>∃a xs,x=.ref a/\SqT K H a xs/\
 ¬(HT.sIx xs.length 0 lo=0/\HT.sIx xs.length xs.length hi=xs.length)/\∀p,H p=none->Q (.ref p) (upd H p (.tup (cutV xs lo hi)))
theorem sl_tup:SlR X (rSlT X.K):=by
 intro pins s σ H x v vl vu lo hi sl Q I rx hs pl pu h;obtain⟨a,xs,rfl,hx,hw,q⟩:=h;cases rx;obtain⟨its,r,ht,hz⟩:=I.tuple hx;have hlen:its.toArray.size=xs.length:=by rw [D8];exact r.length.symm
 refine⟨"tuple",_,PyProof.Rows.slot_tuple_getitem.lookup,ht.typeIs,?_⟩;refine HT.getItem_tuple_cut ht hs pl pu (by rw [hlen];exact hw) ?_ (by rw [hlen];exact hz);rw [hlen];refine⟨.ref s.heap.objs.size,_,I.laid (t':=s.toks) (o:=.tup (cutV xs lo hi)) (fun b ob q=>C0 _ q) (B3 _) ?_,rfl,q _ (I.hok.fresh (B3 _))⟩;exact⟨L7 (Ib xs lo hi) hz,_,(r.drop (HT.sIx xs.length 0 lo)).take (HT.sIx xs.length xs.length hi - HT.sIx xs.length 0 lo),X4.new _ _⟩
def rCatT (K:A3):R2:=fun x y H Q=>∃a b xs ys,x=.ref a/\y=.ref b/\SqT K H a xs/\SqT K H b ys/\xs≠[]/\xs.length + ys.length<=B9/\
 (ys=[]->Q (.ref a) H)/\(ys≠[]->∀p,H p=none->Q (.ref p) (upd H p (.tup (xs++ys))))
theorem Vals.nil_iff (r:Vals xs us):us=[]↔xs=[]:=by
 cases r with
 | nil=>simp
 | cons _ _=>simp
theorem MK:OpR X (Q5 .Add) (rCatT X.K):=by
 intro pins s σ H x y v u Q I rx ry h;obtain⟨a,b,xs,ys,rfl,rfl,ha,hb,hx,hz,q1,q2⟩:=h;cases rx;cases ry;obtain⟨its,r1,p1,_⟩:=I.tuple ha;obtain⟨its2,r2,p2,_⟩:=I.tuple hb;refine HT.cat_tup p1 p2 (fun z=>hx (r1.nil_iff.mp z)) (fun z=>⟨.ref a,H,I,rfl,q1 (r2.nil_iff.mp z)⟩) (fun z=>?_) (by rw [<- r1.length,<- r2.length];exact hz);refine⟨.ref s.heap.objs.size,_,I.laid (t':=s.toks) (o:=.tup (xs++ys)) (fun b ob q=>C0 _ q) (B3 _) ?_,rfl,q2 (fun w=>z (r2.nil_iff.mpr w)) _ (I.hok.fresh (B3 _))⟩;exact⟨by rw [D4];exact hz,_,r1.append r2,X4.new _ _⟩
end
def ixN (n:Nat)(i:Int):Option Nat:=if 0<=i then(if i < n then some i.toNat else none) else if -(n:Int)<=i then some (i + n).toNat else none
def atI {α:Type}(xs:List α)(i:Int):Option α:=(ixN xs.length i).bind fun j=>xs[j]?
theorem FX (h:ixN n i=some j):seqIndex? i n=some j/\j < n/\-(n:Int)<=i/\i < n:=by
 unfold ixN at h
 by_cases h0:0<=i
 · rw [if_pos h0] at h
   by_cases h1:i < n
   · rw [if_pos h1] at h;have e:i.toNat=j:=L8 h;exact⟨by rw [seqIndex_of h0 h1,e],by omega,by omega,h1⟩
   · rw [if_neg h1] at h;cases h
 · rw [if_neg h0] at h
   by_cases h1:-(n:Int)<=i
   · rw [if_pos h1] at h;have e:(i + n).toNat=j:=L8 h;exact⟨by rw [seqIndex_neg (by omega) h1,e],by omega,h1,by omega⟩
   · rw [if_neg h1] at h;cases h
theorem FY {α:Type}{xs:List α}{i:Int}{v:α}(h:atI xs i=some v):∃j,seqIndex? i xs.length=some j/\xs[j]?=some v/\j < xs.length/\-(xs.length:Int)<=i/\i < xs.length:=by
 unfold atI at h;cases e:ixN xs.length i with
 | none=>rw [e] at h;cases h
 | some j =>
   rw [e] at h;obtain⟨h1,h2,h3,h4⟩:=FX e;exact⟨j,h1,h,h2,h3,h4⟩
theorem FZ {α:Type}{xs:List α}{j:Nat}{v:α}(h:xs[j]?=some v):atI xs (j:Int)=some v:=by
 have hj:j < xs.length:=(D7.mp h).1
 have e:ixN xs.length (j:Int)=some j:=by
   unfold ixN;rw [if_pos (by omega),if_pos (by omega)];simp
 unfold atI;rw [e];exact h
def F_ (b:Expr):Prop:=∀o i,subscripted b false o i=operate [o,i] (getItem o i)
def IxR (X:Cx)(r:R2):Prop:=
 ∀ (value slice : Expr) (pins : List (Addr × Obj)) (s : Shared) (σ : St) (H : Hp) (x y : V) (v u : Value) (Q : VK), Inv X pins σ H s -> RelV x v -> RelV y u -> r x y H Q ->
   subscripted slice false v u=operate [v,u] (getItem v u)->wpAny (model X.prog X.w) X.A (subscriptTail value slice v u) (EP X pins σ Q) X.xe s
def MtR (X:Cx)(id:String)(r:V->List V->Hp->VK->Prop):Prop:=
 ∀ (pins : List (Addr × Obj)) (s : Shared) (σ : St) (H : Hp) (x : V) (xs : List V) (v : Value) (us : List Value) (Q : VK), Inv X pins σ H s -> RelV x v -> Vals xs us -> r x xs H Q ->
   wpAny (model X.prog X.w) X.A (call (.builtin id) (v::us)) (EP X pins σ Q) X.xe s
section
variable {X:Cx}{a b:Expr}{ta tb:TE}{pos:Pos}
theorem IxR.or (h:IxR X r)(h':IxR X r'):IxR X (fun x y H Q=>r x y H Q\/r' x y H Q):=by
 intro value slice pins s σ H x y v u Q I rx ry q hs;rcases q with q | q
 · exact h value slice pins s σ H x y v u Q I rx ry q hs
 · exact h' value slice pins s σ H x y v u Q I rx ry q hs
theorem d7 (hr:IxR X r)(ha:PE X a ta)(hb:PE X b tb)(hs:F_ b):PE X (.Subscript a b pos) (tOp r ta tb):=by
 intro pins s σ H Q I h;exact Subscript_ (binT ha hb I h fun v u s2 x y H2 I2 rx ry q=>hr a b pins s2 σ H2 x y v u Q I2 rx ry q (hs _ _))
def rIxL (K:A3):R2:=fun x y H Q=>∃p xs i v,x=.ref p/\y=.int i/\SqL K H p xs/\atI xs i=some v/\Q v H
def rIxT (K:A3):R2:=fun x y H Q=>∃p xs i v,x=.ref p/\y=.int i/\SqT K H p xs/\atI xs i=some v/\Q v H
def rIxS:R2:=fun x y H Q=>∃z i c,x=.str z/\y=.int i/\z.length<=B9/\atI z.cps.toList i=some c/\Q (.str ⟨#[c]⟩) H
theorem o8:IxR X (rIxL X.K):=by
 intro value slice pins s σ H x y v u Q I rx ry h hs;obtain⟨p,xs,i,z,rfl,rfl,hq,he,q⟩:=h;cases rx;obtain⟨t,rfl⟩:=ry;obtain⟨its,r,pl,hz⟩:=I.list hq;obtain⟨j,h1,h2,h3,h4,h5⟩:=FY he;obtain⟨w,ew,rw'⟩:=r.get h2;have hl:=r.length;have hn:=Ad;have fin:EP X pins σ Q w s:=⟨z,H,I,rw',q⟩
 by_cases h0:0<=i
 · have hj:i.toNat=j:=by
     rw [seqIndex_of h0 h5] at h1;exact L8 h1
   exact item_listR pl.isList h0 (by omega) (by rw [hj];simpa using ew) fin hs
 · have hj:(i + (its.toArray.size:Int)).toNat=j:=by
     rw [seqIndex_neg (by omega) h4] at h1;rw [D8,<- hl];exact L8 h1
   exact subscriptTail_builtinR (x:=w) pl.isList.typeIs slot_list_getitem.lookup
     (wpAny_getItem_list_neg (Q:=fun r s'=>r=w/\EP X pins σ Q r s') pl.isList (by omega) (by rw [D8] <;> omega) (by omega) (by rw [hj];simpa using ew) ⟨rfl,fin⟩) hs
theorem ix_tup:IxR X (rIxT X.K):=by
 intro value slice pins s σ H x y v u Q I rx ry h hs;obtain⟨p,xs,i,z,rfl,rfl,hq,he,q⟩:=h;cases rx;obtain⟨t,rfl⟩:=ry;obtain⟨its,r,pl,hz⟩:=I.tuple hq;obtain⟨j,h1,h2,h3,h4,h5⟩:=FY he;obtain⟨w,ew,rw'⟩:=r.get h2;have hl:=r.length;have hn:=Ad;have fin:EP X pins σ Q w s:=⟨z,H,I,rw',q⟩
 exact subscriptTail_builtinR (x:=w) pl.typeIs slot_tuple_getitem.lookup
   (getItem_tuple (j:=j) (Q:=fun r s'=>r=w/\EP X pins σ Q r s') pl (by omega) (by omega) (by grind) (by grind) ⟨rfl,fin⟩) hs
theorem ix_str:IxR X rIxS:=by
 intro value slice pins s σ H x y v u Q I rx ry h hs;obtain⟨z,i,c,rfl,rfl,hz,he,q⟩:=h;obtain⟨t,rfl⟩:=rx;obtain⟨t',rfl⟩:=ry;obtain⟨j,h1,h2,h3,h4,h5⟩:=FY he;have hl:z.cps.toList.length=z.length:=by simp [Str.length]
 rw [hl] at h1 h4 h5;have hn:=Ad
 exact tail_any (typeIs_str s z t) slot_str_getitem.lookup (getItem_str (c:=c) (by
   have e1:decide (i < -(2 ^ 63:Int))=false:=decide_eq_false (by omega);have e2:decide (i>=2 ^ 63)=false:=decide_eq_false (by omega)
   rw [e1,e2,AV]) (by grind) ⟨.str ⟨#[c]⟩,H,I.tok _,⟨_,rfl⟩,q⟩) hs
def rIx (K:A3):R2:=fun x y H Q=>rIxL K x y H Q\/rIxT K x y H Q\/rIxS x y H Q
theorem Ie:IxR X (rIx X.K):=o8.or (ix_tup.or ix_str)
theorem ML (its:List Value)(n j:Nat)(u:Value):E7 (·.setIfInBounds j u) { cls:=.type "list",data:=.seq its.toArray n }={ cls:=.type "list",data:=.seq (its.set j u).toArray n }:=by
 simp [E7]
theorem Inv.lst (I:Inv X pins σ H s)(h:H p=some (.lst xs)) :
   ∃(its:List Value) (n:Nat),Vals xs its/\s.heap.get? p=some { cls:=.type "list",data:=.seq its.toArray n }/\xs.length<=B9:=by
 obtain⟨z,its,n,r,e⟩:=I.hok p _ h;exact⟨its,n,r,e,z⟩
theorem Inv.lstUpd {its its':List Value}(I:Inv X pins σ H s)(h:H p=some (.lst xs))
   (ho:s.heap.get? p=some { cls:=.type "list",data:=.seq its.toArray n }) (hf:f { cls:=.type "list",data:=.seq its.toArray n }={ cls:=.type "list",data:=.seq its'.toArray n' }) (r:Vals ys its') (hz:ys.length<=B9) (t:Nat) :
   Inv X pins σ (upd H p (.lst ys)) { s with heap:=s.heap.update p f,toks:=t }:=by
 have e:(s.heap.update p f).get? p=some { cls:=.type "list",data:=.seq its'.toArray n' }:=by
   rw [AK f ho (by rw [hf] <;> rfl),hf]
 refine I.write (x:=p) (e:=p) (by rw [h];trivial) (.inl rfl) (fun b u hb q=>(AJ _ _ (Ne.symm hb)).trans q) ⟨_,e⟩ ?_;exact⟨hz,its',n',r,e⟩
def Ga:V->V->V->Hp->(Hp->Prop)->Prop:=fun o i v H Q=>∃p xs k j,o=.ref p/\i=.int k/\H p=some (.lst xs)/\ixN xs.length k=some j/\Q (upd H p (.lst (xs.set j v)))
theorem Gb:PSet X Ga:=by
 intro pins s σ H o i v ov iv u Q I ro ri rv h;obtain⟨p,xs,k,j,rfl,rfl,hp,hj,q⟩:=h;cases ro;obtain⟨t,rfl⟩:=ri;obtain⟨its,n,r,ho,hz⟩:=I.lst hp;obtain⟨h1,h2,h3,h4⟩:=FX hj;have hl:=r.length;have hn:=Ad
 have I':Inv X pins σ (upd H p (.lst (xs.set j v))) { s with heap:=s.heap.update p (E7 (·.setIfInBounds j u)) }:=
   I.lstUpd hp ho (ML its n j u) (r.set rv j) (by grind) s.toks
 by_cases h0:0<=k
 · have hk:k.toNat=j:=by
     rw [seqIndex_of h0 h4] at h1;exact L8 h1
   exact PySem.W.ki_setAt ho h0 (by omega) (by grind) (by grind)
 · have hk:(k + (its.toArray.size:Int)).toNat=j:=by
     rw [seqIndex_neg (by omega) h3] at h1;rw [D8,<- hl];exact L8 h1
   exact PySem.W.ki_setBack ho (by omega) (by rw [D8,<- hl];exact h3) (by omega) (by rw [hk];exact⟨_,I',q⟩)
theorem MM (lo hi:Option Int)(n:Nat):(w5 lo hi none n).1=((HT.sIx n 0 lo:Nat):Int)/\(w5 lo hi none n).2.1=((HT.sIx n n hi:Nat):Int)/\(w5 lo hi none n).2.2=1:=by
 refine⟨?_,?_,rfl⟩
 · cases lo with
   | none=>simp [w5,HT.sIx]
   | some i =>
     simp only [w5,HT.sIx,Option.getD_none,show(1:Int) > 0 by decide,if_true]
     by_cases h:i < 0
     · simp only [h,if_true] <;> omega
     · simp only [h,if_false] <;> omega
 · cases hi with
   | none=>simp [w5,HT.sIx]
   | some i =>
     simp only [w5,HT.sIx,Option.getD_none,show(1:Int) > 0 by decide,if_true]
     by_cases h:i < 0
     · simp only [h,if_true] <;> omega
     · simp only [h,if_false] <;> omega
theorem MN (its:List Value)(lo hi:Option Int):slicePick its.toArray lo hi none=((its.drop (HT.sIx its.length 0 lo)).take (HT.sIx its.length its.length hi - HT.sIx its.length 0 lo)).toArray:=by
 obtain⟨h1,h2,h3⟩:=MM lo hi its.toArray.size;unfold slicePick;rw [h1,h2,h3];simp only [sliceRange_one,pick_run,D8] <;> rfl
def rSlL (K:A3):V->Option Int->Option Int->Hp->VK->Prop:=fun x lo hi H Q=>∃a xs,x=.ref a/\SqL K H a xs/\∀p,H p=none->Q (.ref p) (upd H p (.lst (cutV xs lo hi)))
theorem MO:SlR X (rSlL X.K):=by
 intro pins s σ H x v vl vu lo hi sl Q I rx hs pl pu h;obtain⟨a,xs,rfl,hx,q⟩:=h;cases rx;obtain⟨its,r,ht,hz⟩:=I.list hx;have hlen:=r.length;refine⟨"list",_,slot_list_getitem.lookup,ht.isList.typeIs,?_⟩;refine wpAny_getItem_list_slice ht.isList hs pl pu .none (by simp) ?_ (by rw [D8] <;> omega)
 rw [MN,<- hlen];refine⟨.ref s.heap.objs.size,_,I.laid (t':=s.toks) (o:=.lst (cutV xs lo hi)) (fun b ob q=>C0 _ q) (B3 _) ?_,rfl,q _ (I.hok.fresh (B3 _))⟩;exact⟨L7 (Ib xs lo hi) hz,_,0,(r.drop (HT.sIx xs.length 0 lo)).take (HT.sIx xs.length xs.length hi - HT.sIx xs.length 0 lo),F2 _ rfl⟩
def Q2:V->Bool
 | .non=>true
 | .bl _=>true
 | .int _=>true
 | .str _=>true
 | _=>false
def eqV:V->V->Bool
 | .non,.non=>true
 | .bl a,.bl b=>a == b
 | .bl a,.int b=>(if a then 1 else 0) == b
 | .int a,.bl b=>a == (if b then 1 else 0)
 | .int a,.int b=>a == b
 | .str a,.str b=>a == b
 | _,_=>false
theorem Ig (ry:RelV y u)(rx:RelV x v)(fy:Q2 y=true)(fx:Q2 x=true):l9 A s u v (eqV y x):=by
 cases y with
 | non =>
   cases ry;cases x with
   | non=>cases rx;exact SeqAt.EqAt.same _
   | bl b=>cases rx;exact SeqAt.EqAt.none_bool b
   | int b=>obtain⟨t,rfl⟩:=rx;exact SeqAt.EqAt.none_int b t
   | str b=>obtain⟨t,rfl⟩:=rx;exact SeqAt.EqAt.none_str b t
   | _=>exact absurd (show false=true from fx) T3
 | bl a =>
   cases ry;cases x with
   | non=>cases rx;exact SeqAt.EqAt.bool_none a
   | bl b=>cases rx;exact SeqAt.EqAt.bool_bool a b
   | int b=>obtain⟨t,rfl⟩:=rx;exact SeqAt.EqAt.bool_int a b t
   | str b=>obtain⟨t,rfl⟩:=rx;exact SeqAt.EqAt.bool_str a b t
   | _=>exact absurd (show false=true from fx) T3
 | int a =>
   obtain⟨t',rfl⟩:=ry;cases x with
   | non=>cases rx;exact SeqAt.EqAt.int_none a t'
   | bl b=>cases rx;exact SeqAt.EqAt.int_bool a t' b
   | int b=>obtain⟨t,rfl⟩:=rx;exact SeqAt.EqAt.int_int a t' b t
   | str b=>obtain⟨t,rfl⟩:=rx;exact SeqAt.EqAt.int_str a t' b t
   | _=>exact absurd (show false=true from fx) T3
 | str a =>
   obtain⟨t',rfl⟩:=ry;cases x with
   | non=>cases rx;exact SeqAt.EqAt.str_none a t'
   | bl b=>cases rx;exact SeqAt.EqAt.str_bool a t' b
   | int b=>obtain⟨t,rfl⟩:=rx;exact SeqAt.EqAt.str_int a t' b t
   | str b=>obtain⟨t,rfl⟩:=rx;exact SeqAt.EqAt.str_str a t' b t
   | _=>exact absurd (show false=true from fx) T3
 | _=>exact absurd (show false=true from fy) T3
theorem MP:OpR X (L4 .NotIn) (fun x y H Q=>∃i j,x=.str i/\y=.str j/\Q (.bl (!(!(Bb j i 0 j.length 1).isEmpty))) H):=by
 intro pins s σ H x y v u Q I rx ry h;obtain⟨i,j,rfl,rfl,q⟩:=h;obtain⟨t,rfl⟩:=rx;obtain⟨t',rfl⟩:=ry;exact notIn_str ⟨.bl _,H,I,rfl,q⟩
theorem Ih:K2 X (.builtin "len") (fun xs H Q=>∃p ys,xs=[.ref p]/\(SqL X.K H p ys\/SqT X.K H p ys)/\Q (.int ys.length) H):=by
 intro pins s σ H xs us Q I r h;obtain⟨p,ys,rfl,hq,q⟩:=h;obtain⟨u,rfl,rx⟩:=o7 r;cases rx;have hn:=Ad;rcases hq with hq | hq
 · obtain⟨its,r',pl,hz⟩:=I.list hq;have hlen:=r'.length;exact Calls.call_len_list pl.isList (by simp only [D8] <;> omega) ⟨.int ys.length,H,I.tok _,⟨s.toks + 1,by rw [D8,hlen]⟩,q⟩
 · obtain⟨its,r',pl,hz⟩:=I.tuple hq;have hlen:=r'.length;exact len_tuple pl (by simp only [D8] <;> omega) ⟨.int ys.length,H,I.tok _,⟨s.toks + 1,by rw [D8,hlen]⟩,q⟩
theorem MQ:K2 X (.builtin "len") (fun xs H Q=>∃z,xs=[.str z]/\z.length<=B9/\Q (.int z.length) H):=by
 intro pins s σ H xs us Q I r h;obtain⟨z,rfl,hz,q⟩:=h;obtain⟨u,rfl,t,rfl⟩:=o7 r;have hn:=Ad;exact len_str (by omega) ⟨.int z.length,H,I.tok _,⟨_,rfl⟩,q⟩
theorem K2.or (h:K2 X f r)(h':K2 X f r'):K2 X f (fun xs H Q=>r xs H Q\/r' xs H Q):=by
 intro pins s σ H xs us Q I rs q;rcases q with q | q
 · exact h pins s σ H xs us Q I rs q
 · exact h' pins s σ H xs us Q I rs q
theorem MR:K2 X (.type "list") (fun xs H Q=>∃p ys,xs=[.ref p]/\(SqL X.K H p ys\/SqT X.K H p ys)/\∀l,H l=none->Q (.ref l) (upd H l (.lst ys))):=by
 intro pins s σ H xs us Q I r h;obtain⟨p,ys,rfl,hq,q⟩:=h;obtain⟨u,rfl,rx⟩:=o7 r;cases rx
 have fin:∀(its:List Value),Vals ys its->ys.length<=B9->∀(h':Heap) (c':Nat),(∀b o',s.heap.get? b=some o'->h'.get? b=some o')->
     h'.get? s.heap.objs.size=some { cls:=.type "list",dict:=none,data:=.seq its.toArray c',slots:=#[] }->EP X pins σ Q (.ref s.heap.objs.size) { s with heap:=h' }:=fun its r' hz h' c' kp e=>
   ⟨.ref s.heap.objs.size,_,I.laid (t':=s.toks) kp (B3 _) (show G8 X.prog X.w _ h' _ (.lst ys) from⟨hz,its,c',r',e⟩),rfl,q _ (I.hok.fresh (B3 _))⟩
 rcases hq with hq | hq
 · obtain⟨its,r',pl,hz⟩:=I.list hq;have hlen:=r'.length;obtain⟨o,ho,hc,n,hd⟩:=pl.isList;exact call_list_seq p (.inl rfl) ho hc hd (fun h' c' kp e=>fin its r' hz h' c' kp e) (by simp only [D8] <;> omega)
 · obtain⟨its,r',pl,hz⟩:=I.tuple hq;have hlen:=r'.length;obtain⟨o,ho,hc,n,hd⟩:=pl;exact call_list_seq p (.inr rfl) ho hc hd (fun h' c' kp e=>fin its r' hz h' c' kp e) (by simp only [D8] <;> omega)
theorem MS:K2 X (.type "tuple") (fun xs H Q=>∃p ys,xs=[.ref p]/\((SqL X.K H p ys/\∀l,H l=none->Q (.ref l) (upd H l (.tup ys)))\/(SqT X.K H p ys/\Q (.ref p) H))):=by
 intro pins s σ H xs us Q I r h;obtain⟨p,ys,rfl,h⟩:=h;obtain⟨u,rfl,rx⟩:=o7 r;cases rx;rcases h with⟨hq,q⟩ | ⟨hq,q⟩
 · obtain⟨its,r',pl,hz⟩:=I.list hq;have hlen:=r'.length;refine call_tuple_list pl.isList (fun h' kp=>?_) (by simp only [D8] <;> omega)
   have I1:Inv X pins σ H { s with heap:=h' }:=I.kept (t':=s.toks) kp
   have I2:Inv X pins σ (upd H h'.objs.size (.tup ys)) { s with heap:=h'.push { cls:=.type "tuple",data:=.seq its.toArray } }:=
     I1.laid (t':=s.toks) (fun b o e=>C0 _ e) (B3 _) (show G8 X.prog X.w _ _ _ (.tup ys) from⟨hz,its,r',X4.new _ _⟩)
   exact⟨.ref h'.objs.size,_,I2,rfl,q _ (I1.hok.fresh (B3 _))⟩
 · obtain⟨its,r',pl,hz⟩:=I.tuple hq;exact call_tuple_same pl ⟨.ref p,H,I,rfl,q⟩
def tyV (K:A3)(T:String)(x:V)(H:Hp):Prop:=match x with
 | .str _=>T="str"
 | .int _=>T="int"
 | .ref p=>(T="list"/\∃xs,SqL K H p xs)\/(T="tuple"/\((∃o,K.lookup p=some o/\o.cls=.type "tuple"/\o.dict=none)\/∃xs,H p=some (.tup xs)))\/
     (T="dict"/\((∃kvs,H p=some (.dK kvs))\/∃kvs,H p=some (.dT kvs)))\/(T="set"/\∃S n,H p=some (.set S n))
 | _=>False
theorem tyV_is (I:Inv X pins σ H s)(r:RelV x v)(ty:tyV X.K T x H) :
   s.TypeIs v T/\∀a,v=.ref a->∃ob,s.heap.get? a=some ob/\ob.dict=none:=by
 cases x with
 | str z =>
   obtain⟨t,rfl⟩:=r;cases(show T="str" from ty);exact⟨typeIs_str s z t,fun _ e=>nomatch e⟩
 | int i =>
   obtain⟨t,rfl⟩:=r;cases(show T="int" from ty);exact⟨typeIs_int s i t,fun _ e=>nomatch e⟩
 | ref p =>
   cases r;rcases ty with⟨rfl,xs,hq⟩ | ⟨rfl,hk⟩ | ⟨rfl,hk⟩ | ⟨rfl,S,n,hk⟩
   · obtain⟨its,_,pl,_⟩:=I.list hq;refine⟨pl.isList.typeIs,fun a e=>?_⟩;cases e;obtain⟨o,n,e,c,hd,_⟩:=pl;exact⟨o,e,hd⟩
   · rcases hk with⟨o,hk,hc,hd⟩ | ⟨xs,hk⟩
     · refine⟨⟨o,I.kIn p o hk,hc⟩,fun a e=>?_⟩;cases e;exact⟨o,I.kIn _ o hk,hd⟩
     · obtain⟨_,_,_,o,e,c,_⟩:=(show G8 X.prog X.w H s.heap p (.tup xs) from I.hok p _ hk);refine⟨⟨o,e,(Prod.mk.inj c).1⟩,fun a e2=>?_⟩;cases e2;exact⟨o,e,(Prod.mk.inj c).2⟩
   · have z:∃o,s.heap.get? p=some o/\o.ExactDict:=by
       rcases hk with⟨kvs,hk⟩ | ⟨kvs,hk⟩
       · obtain⟨_,_,_,_,o,_,_,e,ex,_⟩:=I.hok p _ hk;exact⟨o,e,ex⟩
       · obtain⟨_,_,_,_,o,_,_,e,ex,_⟩:=I.hok p _ hk;exact⟨o,e,ex⟩
     obtain⟨o,e,ex⟩:=z;refine⟨⟨o,e,ex.1⟩,fun a e2=>?_⟩;cases e2;exact⟨o,e,ex.2.1⟩
   · obtain⟨o,_,_,_,e,ex,_⟩:=I.hok p _ hk;refine⟨⟨o,e,ex.1⟩,fun a e2=>?_⟩;cases e2;exact⟨o,e,ex.2.1⟩
 | _=>exact Z3 ty
def tBM (K:A3)(T:String)(r:V->List V->Hp->VK->Prop)(to:TE)(t:TA):TE:=fun σ H Q=>to σ H fun x H1=>tyV K T x H1/\t σ H1 fun xs H2=>r x xs H2 Q
variable {o e:Expr}{es:List Expr}{to:TE}{t:TA}{name:Str}{apos cpos:Pos}{T id:String}{r:V->List V->Hp->VK->Prop}
theorem Ae (pa:PlainAttrs T)(slot:Slot T name id)(hty:typeOf (.builtin id)=pure (.type "method_descriptor"))(hm:MtR X id r)(ho:PE X o to)(ha:PA X (e::es) t)
   (hbase:j5 o name X.env (eval o X.env)=eval o X.env:=by rfl)
   (hfew:((backTo cpos (E3 (e::es) X.env)).all (fun x=>!x.1) && (W4 cpos (W0 [] X.env)).all (fun x=>x.1.isSome)
     && decide ((e::es).length + ([]:List O3).length + (if([]:List O3).isEmpty then 0 else 1) < 30))=true:=by rfl)
   (hline:(apos.endLine == cpos.line)=true:=by rfl) (hs:E3 (e::es) X.env=(false,eval e X.env)::E3 es X.env:=by rfl) (hplain:(backTo cpos (E3 es X.env)).any (·.1)=false:=by rfl) :
   PE X (.Call (.Attribute o name apos) (e::es) [] cpos) (tBM X.K T r to t):=by
 intro pins s σ H Q I h;refine wpAny_Call_method_late hbase hfew hline rfl (thn (ho pins s σ H _ I h) fun v s1 ⟨x,H1,I1,r1,ty,q1⟩=>?_);obtain⟨h1,h2⟩:=tyV_is I1 r1 ty;refine⟨T,id,pa,slot,hty,h1,h2,?_⟩;have hA:=ha cpos pins s1 σ H1 _ I1 q1;rw [hs] at hA ⊢;refine Calls.callWith_builtin (by show(false || (backTo cpos (E3 es X.env)).any (·.1))=false;rw [hplain] <;> rfl) (Calls.evalArgs_plain ?_)
 exact thn hA fun us s2 ⟨vs,H2,I2,r2,q2⟩=>hm pins s2 σ H2 x vs v us Q I2 r1 r2 q2
end
def MtM (X:Cx)(id:String)(r:V->List V->Hp->VK->Prop):Prop:=
 ∀ (pins : List (Addr × Obj)) (s : Shared) (σ : St) (H : Hp) (x : V) (xs : List V) (v : Value) (us : List Value) (Q : VK), Inv X pins σ H s -> RelV x v -> Vals xs us -> r x xs H Q ->
   wpAny (model X.prog X.w) X.A (call (.builtin id) (v::us)) (EP X pins σ Q) X.xe s
theorem Vals.one (h:Vals [x] us):∃u,us=[u]/\RelV x u:=by
 cases h with | cons r h=>cases h;exact⟨_,rfl,r⟩
theorem Vals.two {x y:V}{us:List Value}(h:Vals [x,y] us):∃u v,us=[u,v]/\RelV x u/\RelV y v:=by
 cases h with | cons r h=>cases h with | cons q h=>cases h;exact⟨_,_,rfl,r,q⟩
theorem Vals.eraseIdx:∀{xs:List V} {us:List Value} (i:Nat),Vals xs us->Vals (xs.eraseIdx i) (us.eraseIdx i)
 | _,_,_,.nil=>.nil
 | _,_,0,.cons _ t=>t
 | _,_,i + 1,.cons r t=>.cons r (Vals.eraseIdx i t)
theorem Gc {α:Type}:∀(l:List α) (i:Nat),(l.eraseIdx i).length<=l.length
 | [],_=>B3 _
 | _::_,0=>k7 _
 | _::r,i + 1=>Nat.succ_le_succ (Gc r i)
section
variable {X:Cx}{pins:List (Addr×Obj)}{σ:St}{H:Hp}{s:Shared}{l b:Addr}{xs ys zs:List V}
theorem Inv.lset {its its':List Value}(I:Inv X pins σ H s)(hH:H l=some (.lst xs))
   (e:s.heap.get? l=some { cls:=.type "list",data:=.seq its.toArray n }) (hf:f its.toArray=its'.toArray) (hv:Vals ys its') (hz:ys.length<=B9) :
   Inv X pins σ (upd H l (.lst ys)) { s with heap:=s.heap.update l (E7 f),toks:=t' }:=by
 have q:=PySem.IsL.update e f;rw [hf] at q;refine I.write (x:=l) (e:=l) (by rw [hH];exact trivial) (.inl rfl) (fun b' u hb hu=>(AJ s.heap (E7 f) (Ne.symm hb)).trans hu) ⟨_,q⟩ ?_;exact⟨hz,its',_,hv,q⟩
theorem Inv.lnew {its:List Value}{t':Nat}(I:Inv X pins σ H s)(hv:Vals ys its)(hz:ys.length<=B9) :
   Inv X pins σ (upd H s.heap.objs.size (.lst ys)) { s with heap:=s.heap.push { cls:=.type "list",data:=.seq its.toArray },toks:=t' }:=
 I.laid (fun _ _ q=>C0 _ q) (B3 _) ⟨hz,its,0,hv,F2 _ rfl⟩
theorem Inv.fresh (I:Inv X pins σ H s):H s.heap.objs.size=none:=I.hok.fresh (B3 _)
theorem Inv.lstM (I:Inv X pins σ H s)(hH:H l=some (.lst xs)):xs.length<=B9/\∃(its:List Value) (n:Nat),Vals xs its/\xs.length=its.length/\s.heap.get? l=some { cls:=.type "list",data:=.seq its.toArray n }:=by
 obtain⟨z,its,n,r,e⟩:=I.hok l _ hH;exact⟨z,its,n,r,r.length,e⟩
theorem MT (h:n<=B9):FH n=false:=by
 unfold FH;exact decide_eq_false (by omega)
end
section
variable {X:Cx}
def Ii:V->List V->Hp->VK->Prop:=fun x vs H Q=>∃l xs y,x=.ref l/\vs=[y]/\H l=some (.lst xs)/\xs.length < B9/\Q .non (upd H l (.lst (xs++[y])))
theorem Ij:MtM X "list.append" Ii:=by
 intro pins s σ H x vs v us Q I rx rv h;obtain⟨l,xs,y,rfl,rfl,hH,hz,q⟩:=h;cases rx;obtain⟨u,rfl,ru⟩:=rv.one;obtain⟨z,its,n,r,hl,e⟩:=I.lstM hH;refine call_meets F.slot_list_append ⟨_,e,rfl⟩ F.entry_list_append (F.args_list_append_2 _ _) (PySem.list_append l its.toArray n u (by rw [D8];omega)) ⟨e,?_⟩;refine⟨.non,_,I.lset (its':=its++[u]) hH e (by simp) (r.append (.cons ru .nil)) ?_,rfl,q⟩;rw [D4,N4];omega
def Ik:V->List V->Hp->VK->Prop:=fun x vs H Q=>∃l b xs zs,x=.ref l/\vs=[.ref b]/\H l=some (.lst xs)/\H b=some (.lst zs)/\xs.length + zs.length<=B9/\Q .non (upd H l (.lst (xs++zs)))
theorem MU:MtM X "list.extend" Ik:=by
 intro pins s σ H x vs v us Q I rx rv h;obtain⟨l,b,xs,zs,rfl,rfl,hH,hB,hz,q⟩:=h;cases rx;obtain⟨u,rfl,ru⟩:=rv.one;cases ru;obtain⟨z,its,n,r,hl,e⟩:=I.lstM hH;obtain⟨z2,its2,n2,r2,hl2,e2⟩:=I.lstM hB;have hsz:its.toArray.size + its2.toArray.size<=B9:=by rw [D8,D8];omega
 have hlong:¬(!its.toArray.isEmpty && FH (its.toArray.size + its2.toArray.size))=true:=by
   rw [MT hsz,Bool.and_false];exact T3
 refine call_meets F.slot_list_extend ⟨_,e,rfl⟩ F.entry_list_extend (F.args_list_extend_2 _ _)
   (AutoSeq1.list_extend_list_list_0 l its.toArray n b its2.toArray n2 hlong (by rw [D8];omega) (by omega)) ⟨e,e2,?_⟩
 refine⟨.non,_,I.lset (its':=its++its2) hH e (by simp) (r.append r2) ?_,rfl,q⟩;rw [D4];omega
def Il:V->List V->Hp->VK->Prop:=fun x vs H Q=>∃l xs i k y,x=.ref l/\vs=[.int i]/\H l=some (.lst xs)/\-(2 ^ 63)<=i/\i < 2 ^ 63/\seqIndex? i xs.length=some k/\xs[k]?=some y/\Q y (upd H l (.lst (xs.eraseIdx k)))
theorem MV:MtM X "list.pop" Il:=by
 intro pins s σ H x vs v us Q I rx rv h;obtain⟨l,xs,i,k,y,rfl,rfl,hH,h1,h2,hk,hy,q⟩:=h;cases rx;obtain⟨u,rfl,ru⟩:=rv.one;obtain⟨t,rfl⟩:=ru;obtain⟨z,its,n,r,hl,e⟩:=I.lstM hH;obtain⟨w,hw,rw'⟩:=r.get hy
 refine call_meets F.slot_list_pop ⟨_,e,rfl⟩ F.entry_list_pop (F.args_list_pop_2 _ _)
   (MeetsSeq.list_pop_at l its.toArray n i t k w (fitsIndex_both h1 h2) (by rw [D8,<- hl];exact hk) (by rw [<- M9];exact hw) (by rw [D8];omega)) ⟨e,?_⟩
 refine⟨y,_,I.lset (its':=its.eraseIdx k) hH e ?_ (r.eraseIdx k) ?_,rw',q⟩
 · show its.toArray.eraseIdxIfInBounds k=(its.eraseIdx k).toArray;rw [List.eraseIdxIfInBounds_toArray]
 · have:=Gc xs k;omega
def rCat:R2:=fun x y H Q=>∃l b xs zs,x=.ref l/\y=.ref b/\H l=some (.lst xs)/\H b=some (.lst zs)/\xs.length + zs.length<=B9/\∀p,H p=none->Q (.ref p) (upd H p (.lst (xs++zs)))
theorem op_cat:OpR X (Q5 .Add) rCat:=by
 intro pins s σ H x y v u Q I rx ry h;obtain⟨l,b,xs,zs,rfl,rfl,hH,hB,hz,q⟩:=h;cases rx;cases ry;obtain⟨z,its,n,r,hl,e⟩:=I.lstM hH;obtain⟨z2,its2,n2,r2,hl2,e2⟩:=I.lstM hB;refine PySem.P.add_list e e2 ?_ (by rw [D8,D8];omega);have ea:its.toArray++its2.toArray=(its++its2).toArray:=by simp
 rw [ea];exact⟨.ref _,_,I.lnew (t':=s.toks) (r.append r2) (by rw [D4];omega),rfl,q _ I.fresh⟩
end
end L2
namespace Att
open PySem PySem.W PySem.Calls PyProof.Rows
theorem MW:∀(ns:List Int) (vs:List Value),WellAll P h vs (ns.map WData.int)->IntsAre vs ns:=by
 intro ns
 induction ns with
 | nil =>
   intro vs w;rw [List.map_nil] at w;cases w;exact .nil
 | cons n ns ih =>
   intro vs w;rw [E9] at w;cases w with
   | cons a b =>
     cases a;exact .cons _ _ (ih _ b)
theorem MX {l:OpenLaw}(hn:l.most=some n)
   (hpre:l.row.toRowW.claim.pre args=true) (hwl:WellAll P h vals args) :
   ∃a vs ns,vals=[K7 a]/\args=[WData.list (ns.map WData.int)]/\h.get? a=some { cls:=.type "list",data:=.seq vs.toArray }/\IntsAre vs ns/\ns.length<=n:=by
 have hsh:WShape.hasAll [] args [.list .int]=true:=(pre_splitW hpre).1;have hc:l.pre.holds [] { args:=args }=true:=(pre_splitW hpre).2;obtain⟨d,r,rfl,h1,h2⟩:=hasAllW_cons hsh;obtain rfl:=hasAllW_nil h2;obtain⟨xs,rfl,h3⟩:=hasW_list h1;obtain⟨ns,rfl⟩:=items_int h3
 have hlen:ns.length<=n:=by
   unfold OpenLaw.pre at hc
   have h4:(WTm.not (.lt (.lit (.int (n:Int))) (.len (.arg 0)))).holds [] { args:=[.list (ns.map .int)] }=true:=by
     have h4:=(holds_andW hc).1;rw [hn] at h4;exact h4
   have h5:=condW_of h4 (w_not (w_lt w_lit (w_len_list (w_arg rfl))));rw [A9] at h5;refine AT fun q=>?_;have q':(n:Int) < ((ns.length:Nat):Int):=by omega
   first
     | (rw [decide_eq_true q'] at h5;exact absurd h5 (by decide))
     | (simp at h5;omega)
 cases hwl with
 | cons w1 w2 =>
   cases w2;cases w1 with
   | list ho hall=>exact⟨_,_,ns,rfl,rfl,ho,MW ns _ hall,hlen⟩
theorem MY (l:OpenLaw)(args:List WData):l.row.toRowW.claim.post args (.bool true) args=true:=
 postW_of (r:=l.row.toRowW) (X:=(true == true))
   (show WShape.has [] (.bool true) .bool=true by first | rfl | decide | simp [WShape.has,WShape.arms,WShape.armsAll])
   (show(WTm.eq .res (.lit (.bool true))).value [] { args:=args,res:=some (.bool true),after:=args }=some (.bool (true == true)) from w_eq_bool (w_res rfl) w_lit) rfl
theorem attach_call {l:OpenLaw}
   (hn:l.most=some n) (hdf:d.params.defaults=[])
   (call:∀(w:World) (s₀ s₁:Shared) (mg mb:Str->Option Value) (fa:Addr) (o:Obj) (pm cd doc:Value) (a:Addr) (vs:List Value) (ns:List Int),
     Ground q loose [] XP w s₀ mg mb s₁.heap->YP w s₁.heap->
     s₁.heap.get? fa=some o->o.data=.func (docDef d.name d.params d.body d.scope pm cd doc)->s₁.heap.CodeRec cd d.name->mg d.name=some (.ref fa)->
     s₁.heap.get? a=some { cls:=.type "list",data:=.seq vs.toArray }->IntsAre vs ns->ns.length<=n->s₁.gens=#[]->
     L5 (model l.prog w) callerA (.call (.ref fa) ⟨[.ref a],[]⟩) (fun r s'=>r=.ok (.ret (.bool true))/\OldK s₁.heap s'.heap/\s'.os=s₁.os/\AllBare s'.gens) s₁) :
   WalkO q loose XP YP l.row.toRowW d [] (fun f vs=>PySem.call f vs):=by
 intro w s₀ s₁ mg mb G Y fa o pm cd doc dV kV ho hd hcd hD hmg hg args vals as hpre hlay hrd hwl hlo;obtain rfl:dV=.none:=Dflts.none hD hdf;obtain rfl:kV=.none:=Dflts.noKw hD;obtain⟨a,vs,ns,rfl,rfl,hobj,hints,hlen⟩:=MX hn hpre hwl;refine enter_call (w4 (call w s₀ s₁ mg mb fa o pm cd doc a vs ns G Y ho (fd_plain hd) hcd hmg hobj hints hlen hg) fun r s' hq=>?_);obtain⟨rfl,h2,h3,h4⟩:=hq;exact⟨.inl ⟨.bool true,.bool true,[],rfl,fun _=>rfl,.bool true,MY l _,fun _=>⟨FJ,fun _ hm=>(nomatch hm)⟩⟩,h2,h3,h4⟩
end Att
namespace L2
open PySem PySem.Spec PyProof.Rows
theorem MZ (h:IntsAre vs ns):Vals (ns.map V.int) vs:=by
 induction h with
 | nil=>exact .nil
 | cons n t _ ih=>exact .cons ⟨t,rfl⟩ ih
abbrev KOf {K:A3}{h:Heap}(_:K.In h):A3:=K
def R3 (s:Stmt):Arguments:=match s with
 | .FunctionDef _ a _ _ _ _ _ _ _ _=>a
 | _=>{ posonlyargs:=[],args:=[],vararg:=none,kwonlyargs:=[],kw_defaults:=[],kwarg:=none,defaults:=[] }
def M3 (s:Stmt):List Stmt:=match s with
 | .FunctionDef _ _ b _ _ _ _ _ _ _=>b
 | _=>[]
def E5 (s:Stmt):Scope:=match s with
 | .FunctionDef _ _ _ _ _ _ sc _ _ _=>sc
 | _=>{ kind:=.function,names:=[],isGenerator:=false,isCoroutine:=false }
abbrev CX0:CXT:=fun _ _ _ _ _ _=>False
abbrev E0:XK:=fun _ _ _=>False
theorem pass0:FW CX0 X E0:=fun _ _ _ _ _ _ _ h=>h.elim
structure Fun (K:A3)(x qual:Str)(st:Stmt)(f:Addr)(fd:FuncData):Prop where
 ex:∃(oc:Value) (od:Option Addr) (kV doc pm:Value) (an:Option Addr) (cdv ct:Value) (osl:Array (Option Value)),
   fd=U4 x qual (R3 st) (M3 st) (E5 st) .none kV doc pm an cdv ct/\K.lookup f=some ⟨oc,od,.func fd,osl⟩/\Dt K cdv qual=true
 kp:BQ K (.ref f)=true
section
variable {P:C6}{w:World}{K:A3}{mg:Str->Option Value}{base:Heap}
theorem Fun.ok {st:Stmt}(F:Fun K x qual st f fd)(S:R1 N ps (E5 st))(len:∀vs H Q E,sp vs H Q E->vs.length=ps.length)
   (hbody:∀(cdv:Value) (A:Around) (outer:List Env) (s:Shared) (H:Hp) (vs:List V) (Q:VK) (E:XK),Room k (A.deeper (envOfC qual (E5 st) s.heap.objs.size f cdv))->sp vs H Q E->
     ∃t,PSs (cxOf CX0 P w K mg base N qual (E5 st) f cdv A outer s H E).nox (M3 st) t/\t { nx:=fun _ H'=>Q .non H',rt:=Q } (start N vs) H):FnOk P w K mg base CX0 (k + 1) f fd ps sp:=by
 obtain⟨oc,od,kV,doc,pm,an,cdv,ct,osl,rfl,lk,hcd⟩:=F.ex;refine fn_of lk hcd S len fun A outer s H vs Q E hr hsp=>?_;obtain⟨t,h,q⟩:=hbody cdv A outer s H vs Q E hr hsp;exact⟨t,h.nox,q⟩
theorem Fun.binds {st:Stmt}{f:Addr}{fd:FuncData}{ps:List Str}(F:Fun K x qual st f fd)
   (h:∀(kV doc pm:Value) (an:Option Addr) (cdv ct:Value) (us:List Value),us.length=ps.length->W3 (U4 x qual (R3 st) (M3 st) (E5 st) .none kV doc pm an cdv ct) ⟨us,[]⟩=pure (ps.zip us)):Bi K fd ps []:=by
 obtain⟨oc,od,kV,doc,pm,an,cdv,ct,osl,rfl,lk,hcd⟩:=F.ex;exact .all (h kV doc pm an cdv ct)
theorem fun_mk {x qual:Str}{st:Stmt}{f:Addr}{oc:Value}{od an:Option Addr}{osl:Array (Option Value)}{kV doc pm cdv ct:Value}(l:K.lookup f=some ⟨oc,od,.func (U4 x qual (R3 st) (M3 st) (E5 st) .none kV doc pm an cdv ct),osl⟩)
   (c:Dt K cdv qual=true) (k:BQ K (.ref f)=true):Fun K x qual st f (U4 x qual (R3 st) (M3 st) (E5 st) .none kV doc pm an cdv ct):=⟨⟨oc,od,kV,doc,pm,an,cdv,ct,osl,rfl,l,c⟩,k⟩
end
section
variable {X:Cx}
theorem pv (i:Nat){x:Str}{pos:Pos}(hN:X.N[i]?=some x:=by rfl)(hv:Vis X.env.scope x:=by first | exact Or.inl rfl | exact Or.inr (Or.inl rfl) | exact Or.inr (Or.inr rfl))(hd:(x == ("__debug__":Str))=false:=by decide)
   (hcd:(x == ("__classdict__":Str))=false:=by decide):PE X (.Name x pos) (tVar i):=HL hN hv hd hcd
end
theorem iteF {A B:Prop}(h:B):if false=true then A else B:=by grind
theorem iteT {A B:Prop}(h:A):if true=true then A else B:=by grind
theorem ite2 {c A B:Prop}[Decidable c](h1:c->A)(h2:¬c->B):if c then A else B:=by grind
def Same (H H':Hp):Prop:=∀b o,H b=some o->H' b=some o
theorem Same.refl (H:Hp):Same H H:=fun _ _ h=>h
end L2
end
section
namespace L2
open PySem PySem.Spec PyProof.Rows
theorem Im {prog:C6}{w:World}{A:Around}{R:Result->Shared->Prop}{s:Shared}{elt target iter:Expr}{ifs:List Expr}{scope:Scope}{pos:Pos}{it acc:Value}{env:Env}(I:Nat->Shared->Prop)
   (turn:∀n s,I n s->wpAny (model prog w) A (pyNext it) (fun r s₁=>match r with
     | none=>R (.ok .next) s₁
     | some v=>wpAny (model prog w) A (i8 target it v) (fun _ s₁'=>wpAny (model prog w) A (assign target env v) (fun _ s₂=>
         wpAny (model prog w) A (forIn ifs true fun c r=>if r=true then do let ok ← isTrue c env (eval c env);pure (l8 ok) else pure (l8 r)) (fun ok s₃=>
           if ok=true then wpAny (model prog w) A (eval elt env) (fun x s₄=>
             wpAny (model prog w) A (call (.builtin "list.append") [acc,x]) (fun _ s₅=>∃m,m < n/\I m s₅) (fun _ _=>False) s₄) (fun _ _=>False) s₃
           else ∃m,m < n/\I m s₃) (fun _ _=>False) s₂) (fun _ _=>False) s₁') (fun _ _=>False) s₁) (fun _ _=>False) s)
   (n:Nat) (h:I n s) :
   L5 (model prog w) A (.compLoop (.ListComp elt [⟨target,iter,ifs,0⟩] scope pos) 0 it acc env) R s:=by
 refine codeAny_loop rfl I (fun n s hI=>?_) n h;show wpAny _ A ((compTurn (.ListComp elt [⟨target,iter,ifs,0⟩] scope pos) 0 it acc env).onRaise (fun x=>do noteFrame x env;theTreesLotGoes x)) _ _ s;refine wpAny_noted ?_;rw [compTurn_list];refine A1 (U3 (A1 (G7 (turn n s hI) (fun r s₁ h₁=>?_) fun _ _ h'=>h'.elim)));cases r with
 | none=>exact A5 h₁
 | some v =>
   refine A1 (G7 h₁ (fun _ s₁' h₁'=>?_) fun _ _ h'=>h'.elim);refine A1 (G7 h₁' (fun _ s₂ h₂=>A1 (G7 h₂ (fun ok s₃ h₃=>?_) fun _ _ h'=>h'.elim)) fun _ _ h'=>h'.elim);cases ok with
   | false=>exact A5 ⟨rfl,h₃⟩
   | true =>
     exact A1 (A1 (G7 h₃ (fun x s₄ h₄=>A1 (G7 h₄ (fun _ s₅ h₅=>A5 (A5 ⟨rfl,h₅⟩)) fun _ _ h'=>h'.elim)) fun _ _ h'=>h'.elim))
def F3 (X:Cx)(scope:Scope)(cl:List (Str×Addr))(N:List Str)(fp:List Addr)(C:Addr)(s:Shared)(H:Hp):Cx where
 prog:=X.prog
 w:=X.w
 K:=X.K
 mg:=X.mg
 base:=X.base
 A:=X.A
 N:=N
 s₀:=s
 H₀:=H
 env:=compEnvC scope cl C X.env
 outer:=X.stack
 stack:=X.stack
 ex:=fp
 fn:=fun _=>false
 calm:=X.calm
 pn:=X.pn
 xe:=fun _ _=>False
structure p5 (X:Cx)(scope:Scope)(cl:List (Str×Addr))(N:List Str)(cs:List (Option Nat)):Prop where
 clos:closureFor scope X.env=pure cl
 kind:scope.kind=.function
 nocell:∀y∈scope.names,y.2≠.cell
 names:∀y∈scope.names,y.2=.local->scope.names.lookup y.1=some .local
 sub:∀x c,cl.lookup x=some c->X.env.cells.lookup x=some c
 has:∀x,((relabel scope X.env).names.lookup x=some .cell\/(relabel scope X.env).names.lookup x=some .free)->∃c,cl.lookup x=some c
 len:cs.length=N.length
 cap:∀(k j:Nat) (x:Str),cs[k]?=some (some j)->N[k]?=some x->X.N[j]?=some x/\Vis X.env.scope x/\X.env.kindOf x≠some .local/\(∃c,cl.lookup x=some c)/\((relabel scope X.env).names.lookup x=some .cell\/(relabel scope X.env).names.lookup x=some .free)
def Cs:List (Str×Addr)->List (Str×Addr)->Prop
 | [],_=>True
 | y::r,cells=>cells.lookup y.1=some y.2/\Cs r cells
theorem Cs.get:∀{cl cells:List (Str×Addr)},Cs cl cells->∀x c,cl.lookup x=some c->cells.lookup x=some c:=by intro a;induction a <;> intros <;> grind [Cs]
theorem Q3 {X:Cx}{scope:Scope}{cl:List (Str×Addr)}{N:List Str}{cs:List (Option Nat)}(clos:closureFor scope X.env=pure cl)(kind:scope.kind=.function)(nocell:(scope.names.all fun y=>!(y.2 == .cell))=true)
   (names:(scope.names.all fun y=>!(y.2 == .local) || scope.names.lookup y.1 == some .local)=true) (sub:Cs cl X.env.cells)
   (has:((relabel scope X.env).names.all fun y=>!(y.2 == .cell || y.2 == .free) || (cl.lookup y.1).isSome)=true) (len:cs.length=N.length)
   (cap:((cs.zip N).all fun y=>match y.1 with | none=>true | some j=>X.N[j]? == some y.2 && (X.env.scope.names.lookup y.2 == some .cell || X.env.scope.names.lookup y.2 == some .free) && (cl.lookup y.2).isSome &&
     ((relabel scope X.env).names.lookup y.2 == some .cell || (relabel scope X.env).names.lookup y.2 == some .free))=true):p5 X scope cl N cs:=by
 refine⟨clos,kind,fun y hy=>?_,fun y hy e=>?_,sub.get,fun x hx=>?_,len,fun k j x hk hN=>?_⟩
 · have:=J3.mp nocell y hy;intro z;rw [z] at this;cases this
 · have:=J3.mp names y hy;rw [e] at this
   simpa using this
 · rcases hx with hx | hx
   · have:=J3.mp has _ (c8 hx);exact DR.mp (by simpa using this)
   · have:=J3.mp has _ (c8 hx);exact DR.mp (by simpa using this)
 · have hz:(cs.zip N)[k]?=some (some j,x):=by rw [List.getElem?_zip_eq_some];exact⟨hk,hN⟩
   have:=J3.mp cap _ (J6 hz);simp only [P2,Ci,beq_iff_eq] at this;obtain⟨⟨⟨h1,h2⟩,h3⟩,h4⟩:=this;refine⟨h1,?_,?_,DR.mp h3,h4⟩
   · rcases h2 with h2 | h2
     · exact .inr (.inl h2)
     · exact .inr (.inr h2)
   · intro z;have z':X.env.scope.names.lookup x=some .local:=z;rw [z'] at h2;rcases h2 with h2 | h2 <;> cases h2
def Bk (cs:List (Option Nat))(σ:St):St:=cs.map fun o=>o.bind fun j=>(σ[j]?).bind id
def PIf (X:Cx)(ifs:List Expr)(t:TT):Prop:=
 ∀ (pins : List (Addr × Obj)) (s : Shared) (σ : St) (H : Hp) (Q : Bool -> Hp -> Prop), Inv X pins σ H s -> t σ H Q ->
   wpAny (model X.prog X.w) X.A (forIn ifs true fun c r=>if r=true then do let ok ← isTrue c X.env (eval c X.env);pure (l8 ok) else pure (l8 r)) (TP X pins σ Q) X.xe s
def tTru:TT:=fun _ H Q=>Q true H
theorem M_ {X:Cx}:PIf X [] tTru:=fun pins s σ H Q I h=>wpAny_tests_nil ⟨H,I,h⟩
theorem Na {X:Cx}{c:Expr}{t:TT}(h:PT X c t):PIf X [c] t:=fun pins s σ H Q I hq=>wpAny_tests_one (h pins s σ H Q I hq)
def CompW (J:It)(g:TG)(tt:TT)(te:TE)(Q:VK)(D:Addr)(σc:St)(H1:Hp):Prop:=∃W:Nat->Nat->St->Hp->Prop,(∃m,W 0 m σc H1)/\
 ∀i m σ' H',W i m σ' H'->(J.stop i H'/\Q (.ref D) H')\/(J.go i H'/\∀x H2,J.yld i H' x H2->g x σ' H2 fun σ3 H3=>tt σ3 H3 fun b H4=>
    if b=true then te σ3 H4 fun v H5=>∃ys,H5 D=some (.lst ys)/\ys.length < B9/\∃m',m' < m/\W (i + 1) m' σ3 (upd H5 D (.lst (ys++[v])))
    else ∃m',m' < m/\W (i + 1) m' σ3 H4)
def tComp (cs:List (Option Nat))(wi:TI)(g:TG)(tt:TT)(te:TE):TE:=fun σ H Q=>wi σ H fun J H1=>∀D,H1 D=none->CompW J g tt te Q D (Bk cs σ) (upd H1 D (.lst []))
theorem Gd {X:Cx}{scope:Scope}{cl:List (Str×Addr)}{N:List Str}{cs:List (Option Nat)}(S:p5 X scope cl N cs){pins:List (Addr×Obj)}{σ:St}{H:Hp}{s:Shared}{fp:List Addr}{h₁:Heap}{tk:Nat}
   (I:Inv X pins σ H s) (f2:∀b∈fp,FpOk X pins H b) (ho:∀b∈fp,∃o,s.heap.get? b=some o)
   (old:∀b o,s.heap.get? b=some o->h₁.get? b=some o) (hns:h₁.Ns (s.heap.objs.size + 1) (fun x=>([]:List (Str×Value)).reverse.lookup x))
   (hD:h₁.get? s.heap.objs.size=some { cls:=.type "list",data:=.seq ([]:List Value).toArray }) :
   Inv (F3 X scope cl N fp (s.heap.objs.size + 1) s H) pins (Bk cs σ) (upd H s.heap.objs.size (.lst [])) { s with heap:=h₁,toks:=tk }:=by
 have lt:∀b o,s.heap.get? b=some o->b < s.heap.objs.size:=fun b o e=>B4 e;have neC:∀b o,s.heap.get? b=some o->b≠s.heap.objs.size + 1:=fun b o e=>C9 (Q9 (lt b o e));have neD:∀b o,s.heap.get? b=some o->b≠s.heap.objs.size:=fun b o e=>C9 (lt b o e);have nstk:∀b,b≠X.env.locals->b∉X.fs->b∉frs X.stack:=fun b h1 h2 hb=>(C5.mp (I.stkSub b hb)).elim h1 h2
 have cellO:∀x c,cl.lookup x=some c->∃v o,s.heap.get? c=some o/\s.heap.IsCell c v:=fun x c e=>by
   obtain⟨v,q⟩:=I.cell x c (S.sub x c e);obtain⟨o,h1,_⟩:=id q;exact⟨v,o,h1,q⟩
 refine⟨⟨I.ok.mod,S.kind,I.ok.glob,I.ok.blt,k7 _,fun x y c h1 h2=>I.ok.inj x y c (S.sub x c h1) (S.sub y c h2),fun x hx=>S.has x hx,fun x c hx=>(by cases hx),I.ok.hd,I.ok.frames,.inl rfl,fun b hb=>?_,I.bs,L7 I.ok.bsz I.sz,fun b o e hb=>?_,fun b hb=>?_,I.stack,I.stkFree,I.nos⟩,
   rfl,I.bare,Un.laid old (B3 _) I.fresh I.bigS,⟨_,hns,fun i x v e1 e2 e3=>?_⟩,fun x c e=>?_,?_,fun x c e=>?_,fun p hp=>?_,I.hok.laid old (B3 _) ⟨G0 _,[],0,.nil,hD⟩,?_⟩
 · obtain⟨o,e⟩:=ho b hb;exact⟨neC b o e,fun x c ec=>(f2 b hb).2.2.2.2.1 x c (S.sub x c ec)⟩
 · rcases(f2 b hb).2.2.2.1 with z | z
   · exact I.ok.noex b o e z
   · exact absurd (J4 (B4 e) (L7 I.ok.bsz z)) (U8 _)
 · exact nstk b (f2 b hb).2.1 (f2 b hb).2.2.1
 · have e2':(cs.map fun o=>o.bind fun j=>(σ[j]?).bind id)[i]?=some (some v):=e2;rw [F4] at e2';cases ec:cs[i]? with
   | none=>rw [ec] at e2';cases e2'
   | some o =>
     rw [ec] at e2';cases o with
     | none=>cases e2'
     | some j =>
       have e2'':(σ[j]?).bind id=some v:=by simpa using e2'
       cases es:σ[j]? with
       | none=>rw [es] at e2'';cases e2''
       | some ov =>
         rw [es] at e2'';have e4:ov=some v:=by simpa using e2''
         subst e4;obtain⟨hN,hv,hnl,⟨c,hc⟩,hk⟩:=S.cap i j x ec e1;obtain⟨m,hn,hl⟩:=I.loc;obtain⟨u,r,l⟩:=hl j x v hN es hv;refine⟨u,r,?_⟩;rcases l with⟨hk',_⟩ | ⟨_,c',hc',z⟩
         · grind
         · have ecc:c'=c:=by
             have:=S.sub x c hc;rw [hc'] at this;exact L8 this
           subst ecc;obtain⟨o,h1,h2⟩:=z;exact .inr ⟨hk,c',hc,⟨o,old _ o h1,h2⟩⟩
 · obtain⟨v,o,h1,o',h2,h3⟩:=cellO x c e;exact⟨v,o',old _ o' h2,h3⟩
 · show upd H s.heap.objs.size (.lst []) (s.heap.objs.size + 1)=none;rw [B6 (Nat.succ_ne_self _)];exact I.hok.fresh (k7 _)
 · obtain⟨v,o,h1,_⟩:=cellO x c e;rw [B6 (neD c o h1)];exact I.freeC x c (S.sub x c e)
 · obtain⟨e,n,ne,nf,d⟩:=I.pin p hp;exact⟨old _ _ e,by rw [B6 (neD _ _ e)];exact n,neC _ _ e,nstk _ ne nf,d⟩
 · show(cs.map _).length=N.length;rw [A9];exact S.len
theorem Inv.uncomp
   (I:Inv X pins σ H s) (f2:∀b∈fp,FpOk X pins H b)
   (J:Inv (F3 X scope cl N fp (s.heap.objs.size + 1) s H) pins σ' H' s') (hs:∀b,b≠s.heap.objs.size + 1->h'.get? b=s'.heap.get? b) :
   Inv X pins σ H' { s' with heap:=h' }:=by
 obtain⟨hh,g,d,t,os'⟩:=s';obtain rfl:os'=s.os:=J.os;have U:Un (frs X.stack) fp H H' s.heap hh:=J.base;have old:∀b o,s.heap.get? b=some o->b≠s.heap.objs.size + 1:=fun b o e=>C9 (Q9 (B4 e));have hs':∀b,b≠s.heap.objs.size + 1->h'.get? b=hh.get? b:=hs
 have trC:∀b u,H' b=some u->b≠s.heap.objs.size + 1:=fun b u e z=>by
   have q:H' (s.heap.objs.size + 1)=none:=J.free;rw [z,q] at e;cases e
 show Inv X pins σ H' { s with heap:=h',gens:=g,drawn:=d,toks:=t };refine I.call (h':=h') (g':=g) (d':=d) (t':=t) (ch:=fp) ⟨fun b o e n hb hx=>?_,fun b o e n hb hx=>?_,U.free,fun b o e hx=>?_,U.tups,U.frzs,U.tbls,U.sys⟩ (fun b u e=>?_) J.bare fun b hb=>?_
 · rw [hs' b (old b o e)];exact U.keep b o e n hb hx
 · rw [hs' b (old b o e)];exact U.slot b o e n hb hx
 · rw [hs' b (old b o e)];exact U.there b o e hx
 · refine(J.hok b u e).stay (fun c v hc q=>?_) (fun _ q=>q) fun _ _ q=>q
   have ne:c≠s.heap.objs.size + 1:=by
     rcases hc with z | z
     · rw [z];exact trC b u e
     · exact trC c _ z
   rw [hs' c ne];exact q
 · exact⟨(f2 b hb).2.2.2.1,(f2 b hb).2.1,(f2 b hb).2.2.2.2.1,(f2 b hb).2.2.2.2.2⟩
theorem Ge {K:A3}{W:Nat->Nat->St->Hp->Prop}{s5 s7:Shared}(T:Turn P w K tg J fp it tn)(st5:tn (i + 1) s5.heap)(I7:Inv Y (pins++Bh fp s5.heap) σ7 H7 s7)(n7:∃m',m' < n/\W (i + 1) m' σ7 H7):∃m,m < n/\∃i σ' H',Inv Y pins σ' H' s7/\tn i s7.heap/\(∀b∈fp,H' b=none)/\W i m σ' H':=by
 obtain⟨m',hm,w7⟩:=n7;have pn:∀b∈fp,∀o,s5.heap.get? b=some o->_:=fun b hb o e=>I7.pin (b,o) (K4 _ (K4 _ (FQ hb e)));refine⟨m',hm,i + 1,σ7,H7,I7.unpinned,T.keep _ _ _ st5 fun b hb o e=>(pn b hb o e).1,fun b hb=>?_,w7⟩;obtain⟨o,e,d⟩:=T.obj _ _ st5 b hb;exact(pn b hb o e).2.1
theorem Gf {Y:Cx}{pins:List (Addr×Obj)}{tg elt:Expr}{ifs:List Expr}{g:TG}{tt:TT}{te:TE}{J:It}{fp:List Addr}{it D:Addr}{tn:Nat->Heap->Prop}{W:Nat->Nat->St->Hp->Prop}{N:St->Hp->Prop}{Rn:Shared->Prop}(T:Turn Y.prog Y.w Y.K tg J fp it tn)(hc:Y.calm=true)(stat:∀{H':Hp},(∀b∈fp,H' b=none)->∀b∈fp,FpOk Y pins H' b)(hg:PG Y tg g)(hf:PIf Y ifs tt)(he:PE Y elt te)(fin:∀s σ H,Inv Y pins σ H s->N σ H->Rn s)
   (turn:∀i m σ' H',W i m σ' H'->(J.stop i H'/\N σ' H')\/(J.go i H'/\∀x H2,J.yld i H' x H2->g x σ' H2 fun σ3 H3=>tt σ3 H3 fun b H4=>
    if b=true then te σ3 H4 fun v H5=>∃ys,H5 D=some (.lst ys)/\ys.length < B9/\∃m',m' < m/\W (i + 1) m' σ3 (upd H5 D (.lst (ys++[v])))
    else ∃m',m' < m/\W (i + 1) m' σ3 H4)) (n:Nat) (s:Shared) (hI:∃i σ' H',Inv Y pins σ' H' s/\tn i s.heap/\(∀b∈fp,H' b=none)/\W i n σ' H') :
   wpAny (model Y.prog Y.w) Y.A (pyNext (.ref it)) (fun r s₁=>match r with
     | none=>Rn s₁
     | some v=>wpAny (model Y.prog Y.w) Y.A (i8 tg (.ref it) v) (fun _ s₁'=>wpAny (model Y.prog Y.w) Y.A (assign tg Y.env v) (fun _ s₂=>
         wpAny (model Y.prog Y.w) Y.A (forIn ifs true fun c r=>if r=true then do let ok ← isTrue c Y.env (eval c Y.env);pure (l8 ok) else pure (l8 r)) (fun ok s₃=>
           if ok=true then wpAny (model Y.prog Y.w) Y.A (eval elt Y.env) (fun x s₄=>
             wpAny (model Y.prog Y.w) Y.A (call (.builtin "list.append") [.ref D,x]) (fun _ s₅=>∃m,m < n/\∃i σ' H',Inv Y pins σ' H' s₅/\tn i s₅.heap/\(∀b∈fp,H' b=none)/\W i m σ' H') Y.xe s₄) Y.xe s₃
           else ∃m,m < n/\∃i σ' H',Inv Y pins σ' H' s₃/\tn i s₃.heap/\(∀b∈fp,H' b=none)/\W i m σ' H') Y.xe s₂) Y.xe s₁') Y.xe s₁) Y.xe s:=by
 obtain⟨i,σ3,H3,I3,st3,fr3,w3⟩:=hI;rcases turn i n σ3 H3 w3 with⟨stop,qn⟩ | ⟨go,step⟩
 · refine thn (T.done Y rfl rfl rfl hc i pins s σ3 H3 Y.xe I3 (stat fr3) st3 stop) fun r s4 ⟨hr,I4⟩=>?_;subst hr;exact fin s4 σ3 H3 I4 qn
 · refine thn (T.item Y rfl rfl rfl hc i pins s σ3 H3 Y.xe I3 (stat fr3) st3 go) fun r s4 ⟨u,hr,h4⟩=>?_;subst hr;refine thn h4 fun _ s5 ⟨x,H5,I5,r5,y5,st5,fr5⟩=>?_;refine thn (hg _ s5 σ3 H5 x u _ (I5.pinned (stat fr5) (T.obj _ _ st5)) r5 (step x H5 y5)) fun _ s6 ⟨σ6,H6,I6,q6⟩=>?_;refine thn (hf _ s6 σ6 H6 _ I6 q6) fun ok s7 ⟨H7,I7,q7⟩=>?_;cases ok with
   | false=>exact Ge T st5 I7 q7
   | true =>
     refine thn (he _ s7 σ6 H7 _ I7 q7) fun y s8 ⟨v8,H8,I8,r8,ys,e8,z8,n8⟩=>?_;have ma:=Ij (X:=Y) _ s8 σ6 H8 (.ref D) [v8] (.ref D) [y] (fun v H9=>∃m',m' < n/\W (i + 1) m' σ6 H9) I8 rfl (.cons r8 .nil) ⟨_,ys,v8,rfl,rfl,e8,z8,n8⟩;exact thn ma fun _ s9 ⟨v9,H9,I9,_,q9⟩=>Ge T st5 I9 q9
theorem Io {X:Cx}{scope:Scope}{cl:List (Str×Addr)}{N:List Str}{cs:List (Option Nat)}{elt tg iter:Expr}{ifs:List Expr}{pos:Pos}{wi:TI}{g:TG}{tt:TT}{te:TE}(S:p5 X scope cl N cs)(hc:X.calm=true)(hi:PI X tg iter wi)
   (hb:∀(fp:List Addr) (C:Addr) (s:Shared) (H:Hp),PG (F3 X scope cl N fp C s H) tg g/\PIf (F3 X scope cl N fp C s H) ifs tt/\PE (F3 X scope cl N fp C s H) elt te)
   (hs:∀x,T9 iter X.env x=pure x:=by intro _;rfl) :
   PE X (.ListComp elt [⟨tg,iter,ifs,0⟩] scope pos) (tComp cs wi g tt te):=by
 intro pins s σ H Q I h;rw [eval_ListComp];refine Fq (use:=none) rfl hs S.clos S.kind S.names (thn (hi pins s σ H _ I h) fun v s1 h1=>thn h1 fun itv s2 h2=>?_);obtain⟨it,fp,tn,J,H2,rfl,I2,T,st2,f2,q⟩:=h2
 have ho:∀b∈fp,∃o,s2.heap.get? b=some o:=fun b hb=>by
   obtain⟨o,e,_⟩:=T.obj 0 _ st2 b hb;exact⟨o,e⟩
 refine L3 (Dk S.nocell (by intro y hy;simp at hy) (fun h₁ hns₁ hsb₁=>?_) S.kind);dsimp only at hns₁ hsb₁ ⊢;have hC:(s2.heap.push { cls:=.type "list",dict:=none,data:=.seq ([]:List Value).toArray }).objs.size=s2.heap.objs.size + 1:=by rw [j9]
 generalize hH2:s2.heap.push { cls:=.type "list",dict:=none,data:=.seq ([]:List Value).toArray }=hp2 at hns₁ hsb₁ hC ⊢;have old:∀b o,s2.heap.get? b=some o->h₁.get? b=some o:=fun b o e=>hsb₁.extBut b o (by rw [hC];exact C9 (Q9 (B4 e))) (C0 _ (hH2▸C0 _ e));have hD:h₁.get? s2.heap.objs.size=some { cls:=.type "list",data:=.seq ([]:List Value).toArray }:=hsb₁.extBut _ _ (by rw [hC];exact C9 (Cc _)) (C0 _ (hH2▸F2 _ rfl));rw [hC] at hns₁ ⊢;obtain⟨W,⟨m0,w0⟩,turn⟩:=q s2.heap.objs.size I2.fresh;have Ic:=Gd S (tk:=s2.toks + ([]:List (Str×Value)).length) I2 f2 ho old hns₁ hD;have nstk:∀b,b≠X.env.locals->b∉X.fs->b∉frs X.stack:=fun b h1 h2 hb=>(C5.mp (I2.stkSub b hb)).elim h1 h2
 have stat:∀{H':Hp},(∀b∈fp,H' b=none)->∀b∈fp,FpOk (F3 X scope cl N fp (s2.heap.objs.size + 1) s2 H2) pins H' b:=fun hn b hb=>by
   obtain⟨o,e⟩:=ho b hb;exact⟨hn b hb,C9 (Q9 (B4 e)),nstk b (f2 b hb).2.1 (f2 b hb).2.2.1,.inl hb,fun x c ec=>(f2 b hb).2.2.2.2.1 x c (S.sub x c ec),(f2 b hb).2.2.2.2.2⟩
 obtain⟨hg,hf,he⟩:=hb fp (s2.heap.objs.size + 1) s2 H2;have st1:tn 0 h₁:=T.keep _ _ _ st2 fun b hb o e=>old b o e
 have fr1:∀b∈fp,upd H2 s2.heap.objs.size (.lst []) b=none:=fun b hb=>by
   obtain⟨o,e⟩:=ho b hb;rw [B6 (C9 (B4 e))];exact(f2 b hb).1
 have loop:∀s₃:Shared,s₃={ s2 with heap:=h₁,toks:=s2.toks + ([]:List (Str×Value)).length }->
     L5 (model X.prog X.w) X.A (.compLoop (.ListComp elt [⟨tg,iter,ifs,0⟩] scope pos) 0 (.ref it) (.ref s2.heap.objs.size) (compEnvC scope cl (s2.heap.objs.size + 1) X.env))
       (compPost (model X.prog X.w) X.A X.xe none (EP X pins σ Q) (.ref s2.heap.objs.size) (s2.heap.objs.size + 1)) s₃:=by
   rintro s₃ rfl;refine Im _ (Gf (Y:=F3 X scope cl N fp (s2.heap.objs.size + 1) s2 H2) T hc stat hg hf he (fun s4 σ3 H3 I4 qn=>?_) turn) m0 ⟨0,_,_,Ic,st1,fr1,w0⟩;obtain⟨m4,hn4,_⟩:=I4.loc;exact⟨m4,hn4,fun h' hs'=>⟨.ref s2.heap.objs.size,H3,Inv.uncomp I2 f2 I4 fun b hb=>hs'.2 b hb,rfl,qn⟩⟩
 exact Fs (loop _ rfl) (T.self _ 0 _ _ _ st1 (loop _ rfl))
end L2
end
section
namespace L2
open PySem PySem.Spec PyProof.Rows
section
variable {X:Cx}
theorem Vals.getE (r:Vals xs us)(h:j < us.length):∃x,xs[j]?=some x/\RelV x us[j]:=by
 have hl:=r.length;have h':j < xs.length:=by omega
 obtain⟨u,e,q⟩:=r.get (i:=j) (x:=xs[j]) (by simp [h']);refine⟨xs[j],by simp [h'],?_⟩;have e':us[j]?=some us[j]:=by simp [h]
 rw [e'] at e;cases e;exact q
theorem Ip (h:Q2 x=true):eqV x x=true:=by
 cases x <;> simp_all [Q2,eqV]
theorem Nb:K2 X (.builtin "isinstance") (fun vs H Q=>∃x n t b,vs=[x,.ty n]/\TyOf X.K H x t/\BP X.K t (.type n)=some b/\Q (.bl b) H):=by
 intro pins s σ H vs us Q I rv h;obtain⟨x,n,t,b,rfl,ty,e,q⟩:=h;obtain⟨u,v,rfl,r1,r2⟩:=rv.two;cases r2;exact MA I r1 ty e fun tk=>⟨.bl b,H,I.tok tk,rfl,q⟩
theorem Iq:∀{bs:List Bool} {us:List Value} {j:Nat} {u:Value},Vals (bs.map V.bl) us->us[j]?=some u->∃b,bs[j]?=some b/\u=Value.bool b:=by
 intro bs us j u r e
 have hj:j < us.length:=by
   obtain⟨h,_⟩:=D7.mp e;exact h
 obtain⟨x,e1,q1⟩:=r.getE hj;rw [F4] at e1;cases eb:bs[j]? with
 | none=>rw [eb] at e1;cases e1
 | some b =>
   rw [eb] at e1;cases e1;have e2:us[j]?=some us[j]:=by simp [hj]
   rw [e2] at e;cases e;exact⟨b,rfl,q1⟩
theorem Nc (bs:List Bool):((E6 bs.length).all fun i=>(bs[i]?).getD true)=bs.all id:=by
 rw [k8,J3,J3];constructor
 · intro h b hb;obtain⟨i,hi,rfl⟩:=AO hb;have:=h i (L6.mpr hi)
   simpa [C4 hi] using this
 · intro h i hi;have hi':=L6.mp hi;simp only [C4 hi',Cn];exact h _ (x4 hi')
theorem Nd (bs:List Bool):((E6 bs.length).any fun i=>(bs[i]?).getD false)=bs.any id:=by
 rw [k8,k5,k5];constructor
 · rintro⟨i,hi,e⟩;have hi':=L6.mp hi;simp only [C4 hi',Cn] at e;exact⟨_,x4 hi',e⟩
 · rintro⟨b,hb,e⟩;obtain⟨i,hi,rfl⟩:=AO hb;exact⟨i,L6.mpr hi,by simp only [C4 hi,Cn];exact e⟩
theorem Ir {s:Shared}{h':Heap}{o:Obj}(hk:∀b x,b∉[s.heap.objs.size]->(s.heap.push o).get? b=some x->h'.get? b=some x):∀b x,s.heap.get? b=some x->h'.get? b=some x:=
 fun b x e=>hk b x (fun hm=>by rw [D5.mp hm] at e;exact U8 _ (B4 e)) (C0 _ e)
def rAll (K:A3):List V->Hp->VK->Prop:=fun vs H Q=>∃(p:Addr) (bs:List Bool),vs=[.ref p]/\SqL K H p (bs.map V.bl)/\Q (.bl (bs.all id)) H
def rAny (K:A3):List V->Hp->VK->Prop:=fun vs H Q=>∃(p:Addr) (bs:List Bool),vs=[.ref p]/\SqL K H p (bs.map V.bl)/\Q (.bl (bs.any id)) H
theorem Nf (hc:X.calm=true):K2 X (.builtin "all") (rAll X.K):=by
 intro pins s σ H vs us Q I rv h;obtain⟨p,bs,rfl,hq,q⟩:=h;obtain⟨u,rfl,r1⟩:=rv.one;cases r1;obtain⟨its,r,pl,hz⟩:=I.list hq;have hl:=pl.isList;have hlt:p < s.heap.objs.size:=by obtain⟨_,e,_⟩:=hl;exact B4 e
 have len:its.toArray.size=bs.length:=by simpa using r.length.symm
 refine call_all_walk (BM hl ?_)
 refine⟨s.heap.objs.size,[s.heap.objs.size,p],[s.heap.objs.size],its.toArray.size,_,_,fun i=>(bs[i]?).getD true,rfl,Walks.list (A:=X.A.in1) (I.ok.hd hc) _ p (C9 hlt) its.toArray,
   ⟨⟨_,F2 _ rfl,rfl,rfl⟩,hl.push _⟩,fun i v s' Q' E' hP hQ=>?_,fun h' tk hk=>?_⟩
 · obtain⟨b,e,rfl⟩:=Iq r (j:=i) (u:=v) (by simpa using hP);simp only [e,Cn] at hQ;exact V8 hQ
 · rw [len,Nc];exact⟨.bl _,H,I.kept (Ir hk),rfl,q⟩
theorem Ng (hc:X.calm=true):K2 X (.builtin "any") (rAny X.K):=by
 intro pins s σ H vs us Q I rv h;obtain⟨p,bs,rfl,hq,q⟩:=h;obtain⟨u,rfl,r1⟩:=rv.one;cases r1;obtain⟨its,r,pl,hz⟩:=I.list hq;have hl:=pl.isList;have hlt:p < s.heap.objs.size:=by obtain⟨_,e,_⟩:=hl;exact B4 e
 have len:its.toArray.size=bs.length:=by simpa using r.length.symm
 refine call_any_walk (BM hl ?_)
 refine⟨s.heap.objs.size,[s.heap.objs.size,p],[s.heap.objs.size],its.toArray.size,_,_,fun i=>(bs[i]?).getD false,rfl,Walks.list (A:=X.A.in1) (I.ok.hd hc) _ p (C9 hlt) its.toArray,
   ⟨⟨_,F2 _ rfl,rfl,rfl⟩,hl.push _⟩,fun i v s' Q' E' hP hQ=>?_,fun h' tk hk=>?_⟩
 · obtain⟨b,e,rfl⟩:=Iq r (j:=i) (u:=v) (by simpa using hP);simp only [e,Cn] at hQ;exact V8 hQ
 · rw [len,Nd];exact⟨.bl _,H,I.kept (Ir hk),rfl,q⟩
theorem Inv.turnedNew {ch:List Addr}(I:Inv X pins σ H s)(k:∀b o,b∉ch->s.heap.get? b=some o->h'.get? b=some o)
   (hf:∀b∈ch,FpOk X pins H b) (new:G8 X.prog X.w (upd H s.heap.objs.size (.tup xs)) h' s.heap.objs.size (.tup xs)):Inv X pins σ (upd H s.heap.objs.size (.tup xs)) { s with heap:=h',toks:=t' }:=by
 have nch:∀b u,H b=some u->b∉ch:=fun b u e z=>by rw [(hf b z).1] at e;cases e
 have nD:∀b o,s.heap.get? b=some o->b≠s.heap.objs.size:=fun b o e=>C9 (B4 e)
 refine I.step (g':=s.gens) (d':=s.drawn) (ch:=ch) (fun b hb=>⟨(hf b hb).2.2.2.1,(hf b hb).2.1,(hf b hb).2.2.2.2.1,(hf b hb).2.2.2.2.2⟩) (fun b o _ _ hc e _=>k b o hc e) (fun b o _ _ hc e _=>⟨o.slots,k b o hc e⟩) (fun b o _ e n=>by rw [B6 (nD b o e)];exact n)
   (fun b o hc e=>⟨o,k b o hc e⟩) (fun b ys e=>by rw [B6 (X3 e I.fresh)];exact e) (fun b o u e=>by rw [B6 (X3 e I.fresh)];exact e) (fun b ps e=>⟨#[],by rw [B6 (X3 e I.fresh),e];simp⟩) (fun z=>by unfold NS;rw [B6 (C9 I.bigS)];exact z) (fun m hm=>?_) (fun b u e=>?_) I.bare
 · obtain⟨o,es,ep,ho,r⟩:=hm;exact⟨o,es,ep,k _ o (fun z=>(hf _ z).2.1 rfl) ho,r⟩
 · by_cases hb:b=s.heap.objs.size
   · subst hb;rw [E8] at e;cases e;exact new
   · rw [B6 hb] at e;refine(I.hok b u e).stay (fun c v hc q=>k c v ?_ q) (fun c q=>by rw [B6 (X3 q I.fresh)];exact q) fun c ys q=>by rw [B6 (X3 q I.fresh)];exact q
     rcases hc with z | z
     · rw [z];exact nch b u e
     · exact nch c _ z
end
end L2
end
section
namespace L2
open PySem PySem.Spec PyProof.Rows
theorem D_:K6 "len"=some (.builtin "len"):=by decide +kernel
theorem bt_abs:K6 "abs"=some (.builtin "abs"):=by decide +kernel
theorem bt_min:K6 "min"=some (.builtin "min"):=by decide +kernel
theorem bt_max:K6 "max"=some (.builtin "max"):=by decide +kernel
theorem bt_all:K6 "all"=some (.builtin "all"):=by decide +kernel
theorem bt_any:K6 "any"=some (.builtin "any"):=by decide +kernel
theorem Nh:K6 "isinstance"=some (.builtin "isinstance"):=by decide +kernel
theorem Gg:K6 "sorted"=some (.builtin "sorted"):=by decide +kernel
theorem Is:K6 "int"=some (.type "int"):=by decide +kernel
theorem Ea:K6 "str"=some (.type "str"):=by decide +kernel
theorem Ni:K6 "bool"=some (.type "bool"):=by decide +kernel
theorem Nj:K6 "list"=some (.type "list"):=by decide +kernel
theorem Cu:K6 "tuple"=some (.type "tuple"):=by decide +kernel
theorem Gi:K6 "set"=some (.type "set"):=by decide +kernel
theorem Iu {tA:TT}{ta tb:TE}{σ:St}{H:Hp}{R:VK}(p:V->Prop)(h:(∀v,p v->R v H)->tIf tA ta tb σ H R)(hp:∀v,p v->R v H):tIf tA ta tb σ H R:=h hp
theorem at_map {ns:List Int}(h0:0<=k)(h:k < (ns.length:Int)):∃v,atI (ns.map V.int) k=some (.int v):=by
 have hk:k.toNat < ns.length:=by omega
 have q:atI (ns.map V.int) ((k.toNat:Nat):Int)=some (.int ns[k.toNat]):=FZ (by rw [F4,C4 hk] <;> rfl)
 rw [show((k.toNat:Nat):Int)=k by omega] at q;exact⟨_,q⟩
theorem kit_of {K:A3}{T S:String}{b:Bool}(h:(if(K1 T == K1 S)=true then some true else if PySem.W.kitMeta S=true then(fastBuiltinMro T).map (·.contains (.type S)) else none)=some b):BP K (.type T) (.type S)=some b:=h
structure Kn (P:C6)(w:World)(K:A3)(mg:Str->Option Value)(base:Heap)(x:Str)(k:Nat)(ps:List Str)(sp:Sp):Prop where
 ex:∃(f:Addr) (fd:FuncData),FnOk P w K mg base CX0 k f fd ps sp/\Bi K fd ps []/\BQ K (.ref f)=true/\mg x=some (.ref f)/\∃oc od osl,K.lookup f=some ⟨oc,od,.func fd,osl⟩
structure Fn0 (K:A3)(mg:Str->Option Value)(x:Str)(st:Stmt):Prop where
 ex:∃(f:Addr) (fd:FuncData),Fun K x x st f fd/\mg x=some (.ref f)
theorem fn0_mk {K:A3}{st:Stmt}(X:K.In h)(G:h.Ns R7 mg){kV doc pm cdv ct:Value}
   (a:PySem.W.nsIn K R7 x=some (some (.ref f))) (l:K.lookup f=some ⟨oc,od,.func (U4 x x (R3 st) (M3 st) (E5 st) .none kV doc pm an cdv ct),osl⟩)
   (c:Dt K cdv x=true) (k:BQ K (.ref f)=true):Fn0 K mg x st:=⟨f,_,fun_mk l c k,PySem.W.mg_of X G a⟩
section
variable {P:C6}{w:World}{K:A3}{mg:Str->Option Value}{base:Heap}
theorem Fn0.ok {st:Stmt}{N ps:List Str}{k:Nat}{sp:Sp}(F:Fn0 K mg x st)(S:R1 N ps (E5 st))(len:∀vs H Q E,sp vs H Q E->vs.length=ps.length)
   (bd:∀(kV doc pm:Value) (an:Option Addr) (cdv ct:Value) (us:List Value),us.length=ps.length->W3 (U4 x x (R3 st) (M3 st) (E5 st) .none kV doc pm an cdv ct) ⟨us,[]⟩=pure (ps.zip us))
   (hbody:∀(f:Addr) (cdv:Value) (A:Around) (outer:List Env) (s:Shared) (H:Hp) (vs:List V) (Q:VK) (E:XK),Room k (A.deeper (envOfC x (E5 st) s.heap.objs.size f cdv))->sp vs H Q E->
     ∃t,PSs (cxOf CX0 P w K mg base N x (E5 st) f cdv A outer s H E).nox (M3 st) t/\t { nx:=fun _ H'=>Q .non H',rt:=Q } (start N vs) H):Kn P w K mg base x (k + 1) ps sp:=by
 obtain⟨f,fd,F1,m⟩:=F.ex
 have lk:∃oc od osl,K.lookup f=some ⟨oc,od,.func fd,osl⟩:=by
   obtain⟨oc,od,kV,doc,pm,an,cdv,ct,osl,_,lk,hcd⟩:=F1.ex;exact⟨oc,od,osl,lk⟩
 exact⟨f,fd,F1.ok S len fun cdv A outer s H vs Q E hr h=>hbody f cdv A outer s H vs Q E hr h,F1.binds bd,F1.kp,m,lk⟩
theorem Kn.imp {x:Str}{k:Nat}{ps:List Str}{sp sp':Sp}(G:Kn P w K mg base x k ps sp)(h:∀vs H Q E,sp' vs H Q E->sp vs H Q E):Kn P w K mg base x k ps sp':=by
 obtain⟨f,fd,a,b,c,d⟩:=G.ex;exact⟨f,fd,a.imp h,b,c,d⟩
end
section
variable {X:Cx}{x:Str}{p pos:Pos}{e:Expr}{es:List Expr}{t:TA}{ps:List Str}{sp:Sp}{j k:Nat}
theorem pe_fn (G:Kn X.prog X.w X.K X.mg X.base x k ps sp)(hr:Room j X.A)(hk:k<=j)(hg:Gl X x)(ha:PA X (e::es) t)(hdb:(x == ("__debug__":Str))=false:=by decide)
   (he:E3 (e::es) X.env=(false,eval e X.env)::E3 es X.env:=by rfl) (hpl:(backTo pos (E3 es X.env)).any (·.1)=false:=by rfl) :
   PE X (.Call (.Name x p) (e::es) [] pos) (tCall sp [] E0 t):=by
 intro pins s σ H Q I h;obtain⟨f,fd,F,hb,hkp,hm,_⟩:=G.ex;exact MB F (hr.mono hk) hg hm hkp hb .nil pass0 ha hdb he hpl pins s σ H Q I h
end
end L2
end
section
namespace L2
open PySem PySem.Spec PyProof.Rows
section
variable {X:Cx}
theorem Nk:OpR X (Q5 .Mult) (fun x y H Q=>∃i n,x=.str i/\y=.int n/\i.length<=100/\0<=n/\n<=1000/\Q (.str (d4 i n)) H):=by
 intro pins s σ H x y v u Q I rx ry h;obtain⟨i,n,rfl,rfl,h1,h2,h3,q⟩:=h;obtain⟨t,rfl⟩:=rx;obtain⟨t',rfl⟩:=ry;exact SB.mul (mulOk_of 100 1000 h1 h3 (by omega) (by decide) (by decide)) fun t' tk=>⟨.str _,H,I.tok _,⟨_,rfl⟩,q⟩
theorem Nl:∀{ys:List Str} {us:List Value},Vals (ys.map V.str) us->StrsAre us ys:=by
 intro ys
 induction ys with
 | nil => intro us r; cases us with
   | nil=>exact .nil
   | cons a b=>cases r
 | cons y ys ih =>
   intro us r;cases us with
   | nil=>cases r
   | cons u us =>
     have r':Vals (V.str y::ys.map V.str) (u::us):=r;cases r' with
     | cons h t =>
       obtain⟨tk,rfl⟩:=h;exact .cons y tk (ih t)
theorem Nm:MtR X "str.join" (fun x vs H Q=>∃(sep:Str) (l:Addr) (ys:List Str),x=.str sep/\vs=[.ref l]/\SqL X.K H l (ys.map V.str)/\(ys.map (·.length)).sum + ys.length * sep.length<=16777216/\Q (.str (Txt.join sep ys)) H):=by
 intro pins s σ H x vs v us Q I rx rv h;obtain⟨sep,l,ys,rfl,rfl,hq,hz,q⟩:=h;obtain⟨t,rfl⟩:=rx;obtain⟨u,rfl,ru⟩:=rv.one;obtain rfl:u=K7 l:=ru;obtain⟨its,r,pl,_⟩:=I.list hq;exact join_list pl.isList (by simpa using Nl r) hz fun t' k=>⟨.str _,H,I.tok _,⟨_,rfl⟩,q⟩
theorem d8 (x y:Str):(x++y).cps.toList=x.cps.toList++y.cps.toList:=by
 show(x.cps++y.cps).toList=_;simp
theorem Nn (l:List (Array Nat)):∀acc:Array Nat,(l.foldl (·++·) acc).toList=acc.toList++(l.map (·.toList)).flatten:=by
 induction l with
 | nil=>intro acc;simp
 | cons a r ih=>intro acc;rw [List.foldl_cons,ih];simp
theorem No (x:Str)(n:Int):(d4 x n).cps.toList=(x6 n.toNat x.cps.toList).flatten:=by
 unfold d4
 split
 · rename_i h;rw [show n.toNat=0 by omega]
   rfl
 · split
   · rename_i h0 h;rw [Ci] at h;rcases h with h | h
     · have:n=1:=by simpa using h
       subst this;simp
     · have hz:x.cps.toList=[]:=by
         have:x.length=0:=by simpa using h
         have h2:x.cps.size=0:=this;exact w6 (by simpa using h2)
       rw [hz];simp
   · show((x6 n.toNat x.cps).foldl (·++·) #[]).toList=_;rw [Nn];simp
theorem Iv:∀ys:List Str,(Txt.join (A4 "") ys).cps.toList=(ys.map (·.cps.toList)).flatten:=by
 have h:∀ys:List Str,(Str.join (A4 "") ys).cps.toList=(ys.map (·.cps.toList)).flatten:=by
   intro ys
   induction ys with
   | nil=>rfl
   | cons a r ih =>
     cases r with
     | nil=>simp [Str.join]
     | cons b r =>
       show((a++A4 "")++Str.join (A4 "") (b::r)).cps.toList=_;rw [d8,d8,ih];have z:(A4 "").cps.toList=[]:=by decide
       rw [z];simp
 intro ys;show(Builtin.Str.glued (A4 "") ys).cps.toList=_;rw [StrLaws.glued_eq_join];exact h ys
theorem Bm (x:Str):x.length=x.cps.toList.length:=by
 show x.cps.size=_;simp
end
section
variable {X:Cx}{pos:Pos}
def Gj (i j k:Nat)(ta:TA):TS:=fun D σ H=>ta σ H fun vs H1=>∃u v w,vs=[u,v,w]/\D.nx (((σ.set i (some u)).set j (some v)).set k (some w)) H1
theorem Np {i j k:Nat}{x y z:Str}{a b c:Expr}{ta:TA}{px py pz pt:Pos}{kt k2 pt2}(hc:X.calm=true)(hN:X.N.Nodup)(hi:X.N[i]?=some x)(hj:X.N[j]?=some y)(hk:X.N[k]?=some z)(hij:i≠j)(hik:i≠k)(hjk:j≠k)
   (hx:X.env.scope.names.lookup x=some .local) (hy:X.env.scope.names.lookup y=some .local) (hz:X.env.scope.names.lookup z=some .local) (ha:PA X [a,b,c] ta)
   (hw:AH [.Tuple [.Name x px,.Name y py,.Name z pz] kt pt] (.Tuple [a,b,c] k2 pt2) X.env=pure (some [x,y,z]))
   (hs:AG [.Tuple [.Name x px,.Name y py,.Name z pz] kt pt] (.Tuple [a,b,c] k2 pt2) pos.line X.env=pure false:=by rfl) :
   PS X (.Assign [.Tuple [.Name x px,.Name y py,.Name z pz] kt pt] (.Tuple [a,b,c] k2 pt2) pos) (Gj i j k ta):=by
 intro pins s σ H D I h;rw [exec_Assign_arm];refine A1 (U3 ?_);rw [hs];refine A1 (A5 ?_);rw [if_neg (by decide)];refine A1 (Tuple_ (thn (ha _ pins s σ H _ I h) fun us s1 ⟨vs,H1,I1,r1,q1⟩=>?_));obtain⟨v,w,w2,e1,q1⟩:=q1;subst e1
 obtain⟨u1,u2,u3,rfl,rv,rw',rw2⟩:∃u1 u2 u3,us=[u1,u2,u3]/\RelV v u1/\RelV w u2/\RelV w2 u3:=by
   cases r1 with
   | cons p q =>
     cases q with
     | cons p' q' =>
       cases q' with
       | cons p2 q2 =>
         cases q2;exact⟨_,_,_,rfl,p,p',p2⟩
 refine L3 ?_ (by show 3<=B9;decide);have I2:Inv X pins σ H1 { s1 with heap:=s1.heap.push { cls:=.type "tuple",data:=.seq [u1,u2,u3].toArray } }:=I1.kept (t':=s1.toks) fun b o e=>C0 _ e;rw [hw];refine A1 (A5 ?_);show wpAny (model X.prog X.w) X.A (do rule "assign.swapped-stores";let items ← unpackItems (.ref s1.heap.objs.size) 3 none;v4 [fun v=>Y6 X.env z v,fun v=>Y6 X.env y v,fun v=>Y6 X.env x v] items.reverse;pure Flow.next) _ _ _;refine A1 (j7 (A1 (unpackItems_tuple (items:=#[u1,u2,u3]) (I.ok.hd hc) (IsTup.new s1.heap _) fun h' hx'=>?_)));have I3:=I2.kept (h':=h') (t':=s1.toks) fun b o e=>hx' b o (C9 (B4 e)) e;show wpAny _ _ (v4 [fun v=>Y6 X.env z v,fun v=>Y6 X.env y v,fun v=>Y6 X.env x v] [u3,u2,u1]>>=fun _=>pure Flow.next) _ _ _;refine A1 (l6 (BN (d5 I3 hN hk (.inl hz) rw2 (fun s2 I4=>?_) (.inr hz))));refine l6 (BN (d5 I4 hN hj (.inl hy) rw' (fun s3 I5=>?_) (.inr hy)));refine l6 (BN (d5 I5 hN hi (.inl hx) rv (fun s4 I6=>DL (A5 ?_)) (.inr hx)));rw [List.set_comm _ _ (Ne.symm hjk),List.set_comm _ _ (Ne.symm hik),List.set_comm _ _ (Ne.symm hij)] at I6;exact⟨_,H1,I6,q1⟩
end
theorem Same.lay {H H':Hp}{p:Addr}{o:HO}(s:Same H H')(h:H' p=none):Same H (upd H' p o):=fun b u e=>by
 rw [B6 (X3 (s b u e) h)];exact s b u e
theorem Gk {n:Nat}{d:Int}(h0:0<=d)(h1:d < n):ixN n d=some d.toNat:=by grind [ixN]
theorem Iw {α:Type}{xs:List α}{d:Int}(h0:0<=d)(h1:d < xs.length):∃x,xs[d.toNat]?=some x/\atI xs d=some x:=by
 have hk:d.toNat < xs.length:=by omega
 refine⟨xs[d.toNat],C4 hk,?_⟩;unfold atI;rw [Gk h0 h1];simp
end L2
end
section
namespace L2
open PySem PySem.Spec PyProof.Rows
section
variable {X:Cx}
theorem Nq:OpR X (L4 .LtE) (fun x y H Q=>∃i j,x=.str i/\y=.str j/\Q (.bl (!decide (j.cps.toList < i.cps.toList))) H):=by
 intro pins s σ H x y v u Q I rx ry h;obtain⟨i,j,rfl,rfl,q⟩:=h;obtain⟨t,rfl⟩:=rx;obtain⟨t',rfl⟩:=ry;exact PySem.P.le_str ⟨.bl _,H,I,rfl,q⟩
def rSlS:V->Option Int->Option Int->Hp->VK->Prop:=fun x lo hi H Q=>∃z,x=.str z/\z.length<=B9/\Q (.str (Txt.slice z lo hi)) H
theorem sl_str:SlR X rSlS:=by
 intro pins s σ H x v vl vu lo hi sl Q I rx hs pl pu h;obtain⟨z,rfl,hz,q⟩:=h;obtain⟨t,rfl⟩:=rx;refine⟨"str",_,F.slot_str_getitem.lookup,typeIs_str _ _ _,?_⟩;cases pl with
 | none =>
   cases pu with
   | none=>exact Dj (l:=none) (u:=none) (st:=none) hs rfl (Dr ⟨L7 (Txt.slice_le z _ _) hz,fun t' k=>⟨.str _,H,I.tok _,⟨_,rfl⟩,q⟩⟩)
   | int j tj=>exact Dj (l:=none) (u:=some (j,tj)) (st:=none) hs rfl (Dr ⟨L7 (Txt.slice_le z _ _) hz,fun t' k=>⟨.str _,H,I.tok _,⟨_,rfl⟩,q⟩⟩)
 | int i ti =>
   cases pu with
   | none=>exact Dj (l:=some (i,ti)) (u:=none) (st:=none) hs rfl (Dr ⟨L7 (Txt.slice_le z _ _) hz,fun t' k=>⟨.str _,H,I.tok _,⟨_,rfl⟩,q⟩⟩)
   | int j tj=>exact Dj (l:=some (i,ti)) (u:=some (j,tj)) (st:=none) hs rfl (Dr ⟨L7 (Txt.slice_le z _ _) hz,fun t' k=>⟨.str _,H,I.tok _,⟨_,rfl⟩,q⟩⟩)
def Its (x:Str):It:=⟨fun i _=>i < x.cps.toList.length,fun i H v H'=>H'=H/\∃c,x.cps.toList[i]?=some c/\v=.str ⟨#[c]⟩,fun i _=>x.cps.toList.length<=i⟩
theorem Nr {P:C6}{w:World}{K:A3}{tg:Expr}(x:Str)(t:Tok)(it:Addr):Turn P w K tg (Its x) [it] it (fun i h=>h.IsStrIter it "str_ascii_iterator" x t i) where
 mem:=by simp
 obj:=fun i h st b hb=>by
   have e:b=it:=by simpa using hb
   subst e;obtain⟨o,e,c,d⟩:=st;exact⟨o,e,fun v z=>by rw [d] at z;cases z⟩
 keep:=fun i h h' st k=>by
   obtain⟨o,e,c,d⟩:=st;exact⟨o,k it (by simp) o e,c,d⟩
 item:=by
   intro X hP hw hK hc i pins s σ H E I hf st hg;subst hP hw hK;have hg':i < x.cps.toList.length:=hg;have hx:x.cps[i]?=some x.cps.toList[i]:=by rw [<- M9];exact C4 hg'
   obtain⟨f0,f1,f2,f3,f4,f5⟩:=hf it (by simp);refine wpAny_pyNext_ascii_item st hx fun h' st' sb=>?_;have I1:Inv X pins σ H { s with heap:=h',toks:=s.toks + 1 }:=I.turned (t':=s.toks + 1) (fun b o hb e=>(sb.2 b hb).trans e) f0 f1 f3 f4 f5;obtain⟨o,e,c,d⟩:=id st';exact⟨_,rfl,DY (s:={ s with heap:=h',toks:=s.toks + 1 }) e c d (by decide) ⟨.str ⟨#[x.cps.toList[i]]⟩,H,I1,⟨_,rfl⟩,⟨rfl,_,C4 hg',rfl⟩,st',fun b hb=>(hf b hb).1⟩⟩
 done:=by
   intro X hP hw hK hc i pins s σ H E I hf st hg;subst hP hw hK;have hg':x.cps.toList.length<=i:=hg;have hx:x.cps[i]?=none:=by rw [<- M9];exact Q8 hg'
   obtain⟨f0,f1,f2,f3,f4,f5⟩:=hf it (by simp);exact wpAny_pyNext_ascii_end (I.ok.hd hc) st hx fun h' eb=>⟨rfl,I.turned (t':=s.toks) (fun b o hb e=>eb b o hb e) f0 f1 f3 f4 f5⟩
 self:=fun _ _ _ _ _ st h=>wpAny_pyIter_striter_ascii st h
def iStr (te:TE):TI:=fun σ H R=>te σ H fun v H1=>∃x,v=.str x/\x.cps.all (· < 128)=true/\R (Its x) H1
theorem pi_str {tg l:Expr}{tl:TE}(hl:PE X l tl):PI X tg l (iStr tl):=by
 intro pins s σ H R I h;refine thn (hl pins s σ H _ I h) fun v s1 ⟨x,H1,I1,r1,q1⟩=>?_;obtain⟨x,rfl,ha,q⟩:=q1;obtain⟨t,rfl⟩:=r1;refine wpAny_pyIter_ascii ha ?_;refine⟨s1.heap.objs.size,[s1.heap.objs.size],_,_,H1,rfl,I1.kept (t':=s1.toks) fun b o e=>C0 _ e,Nr x t _,⟨_,F2 _ rfl,rfl,rfl⟩,fun b hb=>?_,q⟩;have e:b=s1.heap.objs.size:=by simpa using hb
 subst e;exact I1.fpOk (B3 _) (I1.hok.fresh (B3 _))
def rCatA (K:A3):R2:=fun x y H Q=>∃a b xs ys,x=.ref a/\y=.ref b/\SqT K H a xs/\SqT K H b ys/\xs.length + ys.length<=B9/\
 (xs=[]->Q (.ref b) H)/\(xs≠[]->ys=[]->Q (.ref a) H)/\(xs≠[]->ys≠[]->∀p,H p=none->Q (.ref p) (upd H p (.tup (xs++ys))))
theorem Nt:OpR X (Q5 .Add) (rCatA X.K):=by
 intro pins s σ H x y v u Q I rx ry h;obtain⟨a,b,xs,ys,rfl,rfl,ha,hb,hz,q0,q1,q2⟩:=h
 by_cases hx:xs=[]
 · cases rx;cases ry;obtain⟨its,r1,p1,_⟩:=I.tuple ha;obtain⟨its2,r2,p2,_⟩:=I.tuple hb;obtain⟨⟨cls,dd,data,sl⟩,ho,hc,n,hd⟩:=id p1;obtain⟨⟨cls2,dd2,data2,sl2⟩,ho2,hc2,n2,hd2⟩:=id p2;simp only at hc hd hc2 hd2;subst hc hd hc2 hd2;have he:its=[]:=r1.nil_iff.mpr hx
   exact concat_meets ⟨_,ho,rfl⟩ ⟨_,ho2,rfl⟩ noFill_tuple_add seq_tuple_add FE FD (FC _ _)
     (tuple_addW0 a b its.toArray its2.toArray n n2 dd dd2 sl sl2 (by simp [he])) ⟨ho,ho2,⟨.ref b,H,I,rfl,q0 hx⟩⟩
 · exact MK pins s σ H _ _ v u Q I rx ry ⟨a,b,xs,ys,rfl,rfl,ha,hb,hx,hz,q1 hx,q2 hx⟩
end
structure Num0 (mg:Str->Option Value)(x:Str)(i:Int):Prop where
 ex:∃t,mg x=some (.int i t)
theorem Nu {K:A3}{h:Heap}{mg:Str->Option Value}{x:Str}{i:Int}{t:Tok}(X:K.In h)(G:h.Ns R7 mg)(a:PySem.W.nsIn K R7 x=some (some (.int i t))):Num0 mg x i:=⟨t,PySem.W.mg_of X G a⟩
theorem pe_num {X:Cx}{x:Str}{i:Int}{pos:Pos}(n:Num0 X.mg x i)(hg:Gl X x)(hd:(x == ("__debug__":Str))=false:=by decide):PE X (.Name x pos) (tC (.int i)):=fun pins s σ H Q I h=>by
 obtain⟨t,e⟩:=n.ex;exact L_ (v:=.int i) hg e ⟨t,rfl⟩ hd pins s σ H Q I h
end L2
end
section
namespace Pu
open PySem PySem.Spec L2
inductive PV where
 | non | bl (b:Bool) | int (i:Int) | str (x:Str) | ty (n:String) | pot (k:Nat)
 | tup (xs:List PV) | lst (xs:List PV) | dct (ks:List Key) (xs:List PV)
 /-- the script -/
 | scr (ns:List Int)
 /-- a dict by tuples that nothing changes any more -/
 | fdt (ks:List (List Key)) (xs:List PV)
structure Gh where
 M:List Addr
 pots:List Addr
def KLst (K:A3)(a:Addr)(xs:List V):Prop:=∃(o:Obj) (its:Array Value) (n:Nat),K.lookup a=some o/\o.cls=.type "list"/\o.dict=none/\o.data=.seq its n/\its.size<=B9/\Vals xs its.toList
def AtL (M:List Addr)(H:Hp)(a:Addr)(xs:List V):Prop:=a∉M/\H a=some (.lst xs)
def AtT (M:List Addr)(H:Hp)(a:Addr)(xs:List V):Prop:=a∉M/\H a=some (.tup xs)
theorem AtL.sq {K:A3}{M:List Addr}{H:Hp}{a:Addr}{xs:List V}(h:AtL M H a xs):SqL K H a xs:=SqL.of h.2
theorem AtT.sq {K:A3}{M:List Addr}{H:Hp}{a:Addr}{xs:List V}(h:AtT M H a xs):SqT K H a xs:=SqT.of h.2
mutual
def Rep (K:A3)(G:Gh)(H:Hp):PV->V->Prop
 | .non,v=>v=.non
 | .bl b,v=>v=.bl b
 | .int i,v=>v=.int i
 | .str x,v=>v=.str x
 | .ty n,v=>v=.ty n
 | .pot k,v=>∃p,G.pots[k]?=some p/\v=.ref p
 | .tup xs,v=>∃a vs,v=.ref a/\AtT G.M H a vs/\Reps K G H xs vs
 | .lst xs,v=>∃a vs,v=.ref a/\AtL G.M H a vs/\Reps K G H xs vs
 | .scr ns,v=>∃a,v=.ref a/\((a∉G.M/\∃o,H a=some (.frz o (.lst (ns.map V.int))))\/KLst K a (ns.map V.int))
 | .dct ks xs,v=>∃a kvs,v=.ref a/\a∉G.M/\H a=some (.dK kvs)/\kvs.map (·.1)=ks/\Reps K G H xs (kvs.map (·.2))
 | .fdt ks xs,v=>∃a kvs,v=.ref a/\a∉G.M/\Rd H a (.dT kvs)/\kvs.map (·.1)=ks/\Reps K G H xs (kvs.map (·.2))
def Reps (K:A3)(G:Gh)(H:Hp):List PV->List V->Prop
 | [],vs=>vs=[]
 | x::xs,vs=>∃v r,vs=v::r/\Rep K G H x v/\Reps K G H xs r
end
section
variable {K:A3}{G G':Gh}{H H':Hp}
theorem Rd.keep {a:Addr}{u:HO}(h:Rd H a u)(k:∀o,H a=some o->H' a=some o):Rd H' a u:=by grind [HO,Rd]
theorem Rd.ne {a:Addr}{u:HO}(h:Rd H a u):H a≠none:=by grind [HO,Rd]
mutual
theorem Rep.mono (hk:∀b o,b∉G.M->H b=some o->H' b=some o)(hM:∀a∈G'.M,a∈G.M\/H a=none)(hp:∀(k:Nat) (p:Addr),G.pots[k]?=some p->G'.pots[k]?=some p):∀(x:PV) (v:V),Rep K G H x v->Rep K G' H' x v
 | .non,v,h=>h
 | .bl b,v,h=>h
 | .int i,v,h=>h
 | .str x,v,h=>h
 | .ty n,v,h=>h
 | .pot k, v, h => by
   obtain⟨p,e,r⟩:=h;exact⟨p,hp k p e,r⟩
 | .tup xs, v, h => by
   obtain⟨a,vs,e,t,r⟩:=h;refine⟨a,vs,e,?_,Reps.mono hk hM hp xs vs r⟩;obtain⟨n,t⟩:=t;exact⟨fun z=>(hM a z).elim n (fun z=>by rw [z] at t;cases t),hk a _ n t⟩
 | .lst xs, v, h => by
   obtain⟨a,vs,e,t,r⟩:=h;refine⟨a,vs,e,?_,Reps.mono hk hM hp xs vs r⟩;obtain⟨n,t⟩:=t;exact⟨fun z=>(hM a z).elim n (fun z=>by rw [z] at t;cases t),hk a _ n t⟩
 | .scr ns, v, h => by
   obtain⟨a,e,h⟩:=h;refine⟨a,e,?_⟩;rcases h with⟨n,o,t⟩ | h
   · exact .inl ⟨fun z=>(hM a z).elim n (fun z=>by rw [z] at t;cases t),o,hk a _ n t⟩
   · exact .inr h
 | .dct ks xs, v, h => by
   obtain⟨a,kvs,e,n,t,ek,r⟩:=h;exact⟨a,kvs,e,fun z=>(hM a z).elim n (fun z=>by rw [z] at t;cases t),hk a _ n t,ek,Reps.mono hk hM hp xs _ r⟩
 | .fdt ks xs, v, h => by
   obtain⟨a,kvs,e,n,t,ek,r⟩:=h;exact⟨a,kvs,e,fun z=>(hM a z).elim n (fun z=>Rd.ne (u:=.dT kvs) t z),Rd.keep (u:=.dT kvs) t (fun o e=>hk a o n e),ek,Reps.mono hk hM hp xs _ r⟩
theorem Reps.mono (hk:∀b o,b∉G.M->H b=some o->H' b=some o)(hM:∀a∈G'.M,a∈G.M\/H a=none)(hp:∀(k:Nat) (p:Addr),G.pots[k]?=some p->G'.pots[k]?=some p):∀(xs:List PV) (vs:List V),Reps K G H xs vs->Reps K G' H' xs vs
 | [],vs,h=>h
 | x :: xs, vs, h => by
   obtain⟨v,r,e,hx,hr⟩:=h;exact⟨v,r,e,Rep.mono hk hM hp x v hx,Reps.mono hk hM hp xs r hr⟩
end
theorem Rep.same (h:Rep K G H x v)(s:Same H H'):Rep K G H' x v:=Rep.mono (fun b o _ e=>s b o e) (fun a z=>.inl z) (fun _ _ e=>e) x v h
theorem Reps.same (h:Reps K G H x v)(s:Same H H'):Reps K G H' x v:=Reps.mono (fun b o _ e=>s b o e) (fun a z=>.inl z) (fun _ _ e=>e) x v h
def Fr (G:Gh)(H H':Hp):Prop:=∀b o,b∉G.M->H b=some o->H' b=some o
theorem Fr.refl:Fr G H H:=fun _ _ _ e=>e
theorem Fr.trans (a:Fr G H H')(b:Fr G H' H2):Fr G H H2:=fun c o n e=>b c o n (a c o n e)
theorem Fr.of (s:Same H H'):Fr G H H':=fun b o _ e=>s b o e
theorem Rep.fr (h:Rep K G H x v)(s:Fr G H H'):Rep K G H' x v:=Rep.mono s (fun a z=>.inl z) (fun _ _ e=>e) x v h
theorem Reps.fr (h:Reps K G H x v)(s:Fr G H H'):Reps K G H' x v:=Reps.mono s (fun a z=>.inl z) (fun _ _ e=>e) x v h
theorem Reps.length:∀{xs:List PV} {vs:List V},Reps K G H xs vs->xs.length=vs.length
 | [],vs,h=>by cases(show vs=[] from h);rfl
 | x :: xs, vs, h => by
   obtain⟨v,r,e,hx,hr⟩:=h;subst e;simp [Reps.length hr]
theorem Reps.get:∀{xs:List PV} {vs:List V} {i:Nat} {v:V},Reps K G H xs vs->vs[i]?=some v->∃x,xs[i]?=some x/\Rep K G H x v
 | [],vs,i,v,h,e=>by cases(show vs=[] from h);simp at e
 | x :: xs, vs, i, v, h, e => by
   obtain⟨w,r,e1,hx,hr⟩:=h;subst e1;cases i with
   | zero=>simp at e;subst e;exact⟨x,rfl,hx⟩
   | succ i=>simpa using Reps.get (i:=i) hr (by grind)
theorem Reps.get':∀{xs:List PV} {vs:List V} {i:Nat} {x:PV},Reps K G H xs vs->xs[i]?=some x->∃v,vs[i]?=some v/\Rep K G H x v:=fun {xs vs i x} h e=>by
 obtain⟨hi,_⟩:=D7.mp e;have hl:=h.length;have e2:vs[i]?=some (vs[i]'(by omega)):=C4 (by omega);obtain⟨y,ey,r⟩:=h.get e2;rw [e] at ey;cases ey;exact⟨_,e2,r⟩
theorem Reps.append:∀{xs ys:List PV} {vs us:List V},Reps K G H xs vs->Reps K G H ys us->Reps K G H (xs++ys) (vs++us)
 | [],ys,vs,us,h,h'=>by cases(show vs=[] from h);exact h'
 | x :: xs, ys, vs, us, h, h' => by
   obtain⟨w,r,e1,hx,hr⟩:=h;subst e1;exact⟨w,r++us,rfl,hx,Reps.append hr h'⟩
theorem Reps.take:∀{xs:List PV} {vs:List V} (n:Nat),Reps K G H xs vs->Reps K G H (xs.take n) (vs.take n)
 | xs,vs,0,h=>by simp [Reps]
 | [],vs,n + 1,h=>by cases(show vs=[] from h);exact rfl
 | x :: xs, vs, n + 1, h => by
   obtain⟨w,r,e1,hx,hr⟩:=h;subst e1;exact⟨w,r.take n,rfl,hx,Reps.take n hr⟩
theorem Reps.drop:∀{xs:List PV} {vs:List V} (n:Nat),Reps K G H xs vs->Reps K G H (xs.drop n) (vs.drop n)
 | xs,vs,0,h=>by simpa using h
 | [],vs,n + 1,h=>by cases(show vs=[] from h);exact rfl
 | x :: xs, vs, n + 1, h => by
   obtain⟨w,r,e1,hx,hr⟩:=h;subst e1;exact Reps.drop n hr
theorem Reps.one (h:Rep K G H x v):Reps K G H [x] [v]:=⟨v,[],rfl,h,rfl⟩
theorem Reps.set:∀{xs:List PV} {vs:List V} (n:Nat) {x:PV} {v:V},Reps K G H xs vs->Rep K G H x v->Reps K G H (xs.set n x) (vs.set n v)
 | [],vs,n,x,v,h,_=>by cases(show vs=[] from h);exact rfl
 | y :: xs, vs, 0, x, v, h, h' => by
   obtain⟨w,r,e1,hx,hr⟩:=h;subst e1;exact⟨v,r,rfl,h',hr⟩
 | y :: xs, vs, n + 1, x, v, h, h' => by
   obtain⟨w,r,e1,hx,hr⟩:=h;subst e1;exact⟨w,r.set n v,rfl,hx,Reps.set n hr h'⟩
theorem Reps.eraseIdx:∀{xs:List PV} {vs:List V} (n:Nat),Reps K G H xs vs->Reps K G H (xs.eraseIdx n) (vs.eraseIdx n)
 | [],vs,n,h=>by cases(show vs=[] from h);exact rfl
 | y :: xs, vs, 0, h => by
   obtain⟨w,r,e1,hx,hr⟩:=h;subst e1;exact hr
 | y :: xs, vs, n + 1, h => by
   obtain⟨w,r,e1,hx,hr⟩:=h;subst e1;exact⟨w,r.eraseIdx n,rfl,hx,Reps.eraseIdx n hr⟩
mutual
def noMut:PV->Bool
 | .lst _=>false
 | .dct _ _=>false
 | .fdt _ _=>false
 | .tup xs=>p6 xs
 | _=>true
def p6:List PV->Bool
 | []=>true
 | x::xs=>noMut x && p6 xs
end
def MutO:HO->Prop
 | .lst _=>True
 | .dK _=>True
 | .dT _=>True
 | .set _ _=>True
 | .tbl _=>True
 | _=>False
mutual
theorem Rep.noMut {M':List Addr}(hm:∀a∈G.M,∃o,H a=some o/\MutO o):∀(x:PV) (v:V),Pu.noMut x=true->Rep K ⟨M',G.pots⟩ H x v->Rep K G H x v
 | .non,v,_,h=>h
 | .bl b,v,_,h=>h
 | .int i,v,_,h=>h
 | .str x,v,_,h=>h
 | .ty n,v,_,h=>h
 | .pot k,v,_,h=>h
 | .tup xs, v, e, h => by
   obtain⟨a,vs,ev,t,r⟩:=h;refine⟨a,vs,ev,?_,Reps.noMut hm xs vs (by simpa [Pu.noMut] using e) r⟩;obtain⟨n,t⟩:=t;refine⟨fun z=>?_,t⟩;obtain⟨o,e1,e2⟩:=hm a z;rw [e1] at t;cases t;exact e2
 | .scr ns, v, _, h => by
   obtain⟨a,e,h⟩:=h;refine⟨a,e,?_⟩;rcases h with⟨n,o,t⟩ | h
   · refine .inl ⟨fun z=>?_,o,t⟩;obtain⟨o',e1,e2⟩:=hm a z;rw [e1] at t;cases t;exact e2
   · exact .inr h
theorem Reps.noMut {M':List Addr}(hm:∀a∈G.M,∃o,H a=some o/\MutO o):∀(xs:List PV) (vs:List V),Pu.p6 xs=true->Reps K ⟨M',G.pots⟩ H xs vs->Reps K G H xs vs
 | [],vs,_,h=>h
 | x :: xs, vs, e, h => by
   obtain⟨v,r,ev,hx,hr⟩:=h;have e':Pu.noMut x=true/\Pu.p6 xs=true:=by simpa [Pu.p6] using e
   exact⟨v,r,ev,Rep.noMut hm x v e'.1 hx,Reps.noMut hm xs r e'.2 hr⟩
end
end
inductive OK where
 | lst | dk (ks:List Key) | dt (ks:List (List Key)) | st (zs:List Key)
def memS (zs:List Key)(k:Key):Bool:=zs.any fun z=>decide (z=k)
def mkO:OK->List V->HO
 | .lst,vs=>.lst vs
 | .dk ks,vs=>.dK (ks.zip vs)
 | .dt ks,vs=>.dT (ks.zip vs)
 | .st zs,_=>.set (memS zs) zs.length
theorem Ix (k:OK)(vs:List V):MutO (mkO k vs):=by cases k <;> trivial
inductive Slot where
 | v (x:PV)
 | ow (k:OK) (xs:List PV)
abbrev Slot.own (xs:List PV):Slot:=.ow .lst xs
abbrev Env:=List (Option Slot)
structure PotK where
 at_:List Addr->Hp->Addr->Nat->Prop
 mono:∀{M H p n m},at_ M H p n->n<=m->at_ M H p m
 keep:∀{M H H' p n},at_ M H p n->H' p=H p->(∀b o,b∉M->H b=some o->H' b=some o)->at_ M H' p n
 more:∀{M M' H p n},at_ M H p n->(∀a∈M',a∈M\/H a=none)->at_ M' H p n
 mu:∀{M H p n},at_ M H p n->∃o,H p=some o/\MutO o
 /-- what is known of all pots together -/
 has:List Addr->Prop:=fun _=>True
 hasM:∀{l:List Addr} {p:Addr},has l->p∉l->has (l++[p]):=by intro _ _ _ _;trivial
structure Ct where
 K:A3
 T:PotK
 M0:List Addr
 pots0:List Addr
 H0:Hp
 np:Bool
def Cv (C:Ct)(G:Gh)(H:Hp)(o:Option (Option V)):Slot->Prop
 | .v x=>∃v,o=some (some v)/\Rep C.K G H x v
 | .ow k xs=>∃a vs,o=some (some (.ref a))/\a∈G.M/\a∉C.M0/\a∉G.pots/\H a=some (mkO k vs)/\Reps C.K G H xs vs
structure SR (C:Ct)(G:Gh)(σ:St)(H:Hp)(env:Env)(n:Nat):Prop where
 frame:∀b o,b∉C.pots0->C.H0 b=some o->H b=some o
 sub:∀a∈G.M,a∈C.M0\/C.H0 a=none
 sup:∀a∈C.M0,a∈G.M
 pots:∀p∈G.pots,p∈G.M/\C.T.at_ G.M H p n
 pre:∃l,G.pots=C.pots0++l/\(l=[]\/C.np=true)
 mu:∀a∈G.M,∃o,H a=some o/\MutO o
 slots:∀(i:Nat) (s:Slot),env[i]?=some (some s)->Cv C G H (σ[i]?) s
 inj:∀(i j:Nat) (xs ys:OK×List PV) (a:Addr),env[i]?=some (some (.ow xs.1 xs.2))->env[j]?=some (some (.ow ys.1 ys.2))->σ[i]?=some (some (.ref a))->σ[j]?=some (some (.ref a))->i=j
 p0:(∀p∈C.pots0,p∈C.M0)/\C.T.has G.pots
 len:env.length=σ.length
 newp:∀p∈G.pots,p∉C.pots0->p∈C.M0->False
section
variable {C:Ct}{G G':Gh}{σ:St}{H H':Hp}{env:Env}{n:Nat}
theorem SR.hasG (S:SR C G σ H env n):C.T.has G.pots:=S.p0.2
theorem SR.fresh (S:SR C G σ H env n)(h:H p=none):p∉G.M:=fun z=>by
 obtain⟨o,e,_⟩:=S.mu p z;rw [h] at e;cases e
theorem SR.same (S:SR C G σ H env n)(s:Same H H'):SR C G σ H' env n where
 frame b o hb e:=s b o (S.frame b o hb e)
 sub:=S.sub
 sup:=S.sup
 pots p hp:=⟨(S.pots p hp).1,C.T.keep (S.pots p hp).2 (by
   obtain⟨o,e,_⟩:=C.T.mu (S.pots p hp).2
   rw [e,s p o e]) fun b o _ e=>s b o e⟩
 pre:=S.pre
 mu a ha:=by
   obtain⟨o,e,m⟩:=S.mu a ha;exact⟨o,s a o e,m⟩
 slots i x e:=by
   have:=S.slots i x e;cases x with
   | v x =>
     obtain⟨v,e1,r⟩:=this;exact⟨v,e1,r.same s⟩
   | ow kk xs =>
     obtain⟨a,vs,e1,h1,h2,h3,h4,r⟩:=this;exact⟨a,vs,e1,h1,h2,h3,s _ _ h4,r.same s⟩
 inj:=S.inj
 p0:=S.p0
 len:=S.len
 newp:=S.newp
theorem Same.lay1 (h:H p=none):Same H (upd H p o):=(Same.refl H).lay h
end
end Pu
end
section
namespace Pu
open PySem PySem.Spec L2
abbrev PK:=PV->Env->Nat->Prop
abbrev pE:=Env->Nat->PK->Prop
abbrev pT:=Env->Nat->(Bool->Env->Nat->Prop)->Prop
abbrev pA:=Env->Nat->(List PV->Env->Nat->Prop)->Prop
abbrev pF:=List PV->Nat->(PV->Nat->Prop)->Prop
def RdV (K:A3)(G:Gh)(H:Hp)(x:PV)(v:V):Prop:=Rep K G H x v\/∃a vs xs,x=.lst xs/\v=.ref a/\H a=some (.lst vs)/\Reps K G H xs vs
def RdS (C:Ct)(G:Gh)(σ:St)(H:Hp)(env:Env)(x:PV)(v:V):Prop:=Rep C.K G H x v\/∃(i:Nat) (a:Addr) (xs:List PV),env[i]?=some (some (.ow .lst xs))/\σ[i]?=some (some (.ref a))/\x=.lst xs/\v=.ref a
def EOk (K:A3)(T:PotK)(t:TE)(pe:pE):Prop:=∀(C:Ct) (G:Gh) (σ:St) (H:Hp) (env:Env) (n:Nat) (R:PK) (Q:VK),C.K=K->C.T=T->SR C G σ H env n->pe env n R->
 (∀x env' n' v H',R x env' n'->SR C G σ H' env' n'->Rep K G H' x v->Fr G H H'->Q v H')->t σ H Q
def ROk (K:A3)(T:PotK)(t:TE)(pe:pE):Prop:=∀(C:Ct) (G:Gh) (σ:St) (H:Hp) (env:Env) (n:Nat) (R:PK) (Q:VK),C.K=K->C.T=T->SR C G σ H env n->pe env n R->
 (∀x env' n' v H',R x env' n'->SR C G σ H' env' n'->RdS C G σ H' env' x v->Fr G H H'->Q v H')->t σ H Q
def NOk (K:A3)(T:PotK)(t:TE)(pn:pA):Prop:=∀(C:Ct) (G:Gh) (σ:St) (H:Hp) (env:Env) (n:Nat) (R:List PV->Env->Nat->Prop) (Q:VK),C.K=K->C.T=T->SR C G σ H env n->pn env n R->
 (∀xs env' n' a vs Hb,R xs env' n'->SR C G σ Hb env' n'->Fr G H Hb->Hb a=none->Reps K G Hb xs vs->Q (.ref a) (upd Hb a (.lst vs)))->t σ H Q
def TOk (K:A3)(T:PotK)(t:TT)(pt:pT):Prop:=∀(C:Ct) (G:Gh) (σ:St) (H:Hp) (env:Env) (n:Nat) (R:Bool->Env->Nat->Prop) (Q:Bool->Hp->Prop),C.K=K->C.T=T->SR C G σ H env n->pt env n R->
 (∀b env' n' H',R b env' n'->SR C G σ H' env' n'->Fr G H H'->Q b H')->t σ H Q
def AOk (K:A3)(T:PotK)(t:TA)(pa:pA):Prop:=∀(C:Ct) (G:Gh) (σ:St) (H:Hp) (env:Env) (n:Nat) (R:List PV->Env->Nat->Prop) (Q:List V->Hp->Prop),C.K=K->C.T=T->SR C G σ H env n->pa env n R->
 (∀xs env' n' vs H',R xs env' n'->SR C G σ H' env' n'->Reps K G H' xs vs->Fr G H H'->Q vs H')->t σ H Q
structure EW (X:Cx)(e:Expr)(t:TE):Prop where
 h:PE X e t
structure SW (X:Cx)(st:Stmt)(t:TS):Prop where
 h:PS X st t
structure GW (X:Cx)(e:Expr)(g:TG):Prop where
 h:PG X e g
theorem vw (i:Nat)(hN:X.N[i]?=some x:=by rfl)(hv:Vis X.env.scope x:=by first | exact Or.inl rfl | exact Or.inr (Or.inl rfl) | exact Or.inr (Or.inr rfl))(hd:(x == ("__debug__":Str))=false:=by decide)(hcd:(x == ("__classdict__":Str))=false:=by decide):EW X (.Name x pos) (tVar i):=⟨HL hN hv hd hcd⟩
def QE {ι:Type}(T:PotK)(K:A3)(F:ι->Cx)(e:Expr)(pe:pE):Prop:=∃t,(∀z,PE (F z) e t)/\EOk K T t pe
def QR {ι:Type}(T:PotK)(K:A3)(F:ι->Cx)(e:Expr)(pe:pE):Prop:=∃t,(∀z,PE (F z) e t)/\ROk K T t pe
def QN {ι:Type}(T:PotK)(K:A3)(F:ι->Cx)(e:Expr)(pn:pA):Prop:=∃t,(∀z,PE (F z) e t)/\NOk K T t pn
def QT {ι:Type}(T:PotK)(K:A3)(F:ι->Cx)(e:Expr)(pt:pT):Prop:=∃t,(∀z,PT (F z) e t)/\TOk K T t pt
def QW {ι:Type}(T:PotK)(K:A3)(F:ι->Cx)(e:Expr)(pt:pT):Prop:=∃t,(∀z,PW (F z) e t)/\TOk K T t pt
def QA {ι:Type}(T:PotK)(K:A3)(F:ι->Cx)(es:List Expr)(pa:pA):Prop:=∃t,(∀z,PA (F z) es t)/\AOk K T t pa
section
variable {T:PotK}{ι:Type}{K:A3}{F:ι->Cx}{e a b:Expr}{es:List Expr}{pe pa pb:pE}
theorem Reps.nil:Reps K G H [] []:=rfl
theorem Reps.cons (h:Rep K G H x v)(h':Reps K G H xs vs):Reps K G H (x::xs) (v::vs):=⟨v,vs,rfl,h,h'⟩
theorem RdS.rd (S:SR C G σ H env n)(h:RdS C G σ H env x v):RdV C.K G H x v:=by
 rcases h with h | ⟨i,a,xs,e1,e2,ex,ev⟩
 · exact .inl h
 · obtain⟨a',vs,e3,_,_,_,h4,r⟩:=S.slots i _ e1;rw [e2] at e3;cases e3;exact .inr ⟨a,vs,xs,ex,ev,h4,r⟩
theorem RdS.fr (h:RdS C G σ H env x v)(f:Fr G H H'):RdS C G σ H' env x v:=by
 rcases h with h | h
 · exact .inl (h.fr f)
 · exact .inr h
theorem RdV.lst (h:RdV K G H (.lst xs) v):∃a vs,v=.ref a/\SqL K H a vs/\Reps K G H xs vs:=by
 rcases h with⟨a,vs,e,t,r⟩ | ⟨a,vs,ys,ex,ev,h4,r⟩
 · exact⟨a,vs,e,t.sq,r⟩
 · cases ex;exact⟨a,vs,ev,SqL.of h4,r⟩
theorem RdV.rep {K:A3}{G:Gh}{H:Hp}{x:PV}{v:V}(h:RdV K G H x v)(hx:∀xs,x≠.lst xs):Rep K G H x v:=by simp_all [Gh,Hp,PV,RdV,V]
theorem RdV.tup (h:RdV K G H (.tup xs) v):∃a vs,v=.ref a/\SqT K H a vs/\Reps K G H xs vs:=by
 obtain⟨a,vs,e,t,r⟩:=h.rep (fun _ z=>nomatch z);exact⟨a,vs,e,t.sq,r⟩
theorem RdV.int (h:RdV K G H (.int i) v):v=.int i:=h.rep (fun _ z=>nomatch z)
theorem RdV.str (h:RdV K G H (.str i) v):v=.str i:=h.rep (fun _ z=>nomatch z)
theorem RdV.bl (h:RdV K G H (.bl i) v):v=.bl i:=h.rep (fun _ z=>nomatch z)
theorem RdV.non (h:RdV K G H .non v):v=.non:=h.rep (fun _ z=>nomatch z)
def qV (i:Nat):pE:=fun env n R=>match env[i]? with | some (some (.v x))=>R x env n | _=>False
def qO (i:Nat):pE:=fun env n R=>match env[i]? with | some (some (.ow .lst xs))=>R (.lst xs) env n | _=>False
def qC (c:PV):pE:=fun env n R=>R c env n
theorem qV_ex (h:qV i env n R):∃x,env[i]?=some (some (.v x))/\R x env n:=by
 unfold qV at h
 split at h
 · exact⟨_,by assumption,h⟩
 · exact h.elim
theorem qO_ex (h:qO i env n R):∃xs,env[i]?=some (some (.ow .lst xs))/\R (.lst xs) env n:=by
 unfold qO at h
 split at h
 · exact⟨_,by assumption,h⟩
 · exact h.elim
theorem qe_var (i:Nat)(h:∀z,EW (F z) (.Name x pos) (tVar i)):QE T K F (.Name x pos) (qV i):=by
 refine⟨_,fun z=>(h z).h,fun C G σ H env n R Q hK hT S hp k=>?_⟩;obtain⟨x,e,r⟩:=qV_ex hp;obtain⟨v,ev,rv⟩:=S.slots i _ e;exact⟨v,ev,k _ _ _ _ _ r S (hK▸rv) Fr.refl⟩
theorem O5 (i:Nat)(h:∀z,EW (F z) (.Name x pos) (tVar i)):QR T K F (.Name x pos) (qO i):=by
 refine⟨_,fun z=>(h z).h,fun C G σ H env n R Q hK hT S hp k=>?_⟩;obtain⟨xs,e,r⟩:=qO_ex hp;obtain⟨a,vs,ev,_,_,_,_,rv⟩:=S.slots i _ e;exact⟨.ref a,ev,k _ _ _ _ _ r S (.inr ⟨i,a,xs,e,ev,rfl,rfl⟩) Fr.refl⟩
theorem QE.r (h:QE T K F e pe):QR T K F e pe:=by
 obtain⟨t,h1,h2⟩:=h;exact⟨t,h1,fun C G σ H env n R Q hK hT S hp k=>h2 C G σ H env n R Q hK hT S hp fun x env' n' v H' r S' rp f=>k x env' n' v H' r S' (.inl (by rw [hK];exact rp)) f⟩
theorem ok_c (h:∀G H,Rep K G H c v):EOk K T (tC v) (qC c):=fun C G σ H env n R Q hK hT S hp k=>k _ _ _ _ _ hp S (h G H) Fr.refl
theorem A6 {i j pos}:QE T K F (.Constant (.int i) j pos) (qC (.int i)):=⟨_,fun z=>G9,ok_c fun _ _=>rfl⟩
theorem K5 {i j pos}:QE T K F (.Constant (.bool i) j pos) (qC (.bl i)):=⟨_,fun z=>pe_bl,ok_c fun _ _=>rfl⟩
theorem D1 {i j pos}:QE T K F (.Constant (.str i) j pos) (qC (.str i)):=⟨_,fun z=>pe_str,ok_c fun _ _=>rfl⟩
theorem Af {j pos}:QE T K F (.Constant .none j pos) (qC .non):=⟨_,fun z=>pe_non,ok_c fun _ _=>rfl⟩
theorem qe_num {x:Str}{i:Int}{pos:Pos}(n:∀z,Num0 (F z).mg x i)(hg:∀z,Gl (F z) x)(hd:(x == ("__debug__":Str))=false:=by decide):QE T K F (.Name x pos) (qC (.int i)):=⟨_,fun z=>pe_num (n z) (hg z) hd,ok_c fun _ _=>rfl⟩
abbrev w1:=PV->(PV->Prop)->Prop
abbrev w2:=PV->PV->(PV->Prop)->Prop
def W2 (K:A3)(r:R2)(w:w2):Prop:=∀(G:Gh) (H:Hp) (x y:PV) (v u:V) (R:PV->Prop) (Q:VK),(∀p,H p=none->p∉G.M)->RdV K G H x v->RdV K G H y u->w x y R->
 (∀z v' H',R z->Same H H'->Rep K G H' z v'->Q v' H')->r v u H Q
def qOp (w:w2)(pa pb:pE):pE:=fun env n R=>pa env n fun x env1 n1=>pb env1 n1 fun y env2 n2=>w x y fun z=>R z env2 n2
def qOpR (w:w2)(pa pb:pE):pE:=fun env n R=>pa env n fun x env1 n1=>pb env1 n1 fun y env2 n2=>env2=env1/\w x y fun z=>R z env2 n2
def qUn (w:w1)(pa:pE):pE:=fun env n R=>pa env n fun x env1 n1=>w x fun z=>R z env1 n1
theorem Cw (hw:W2 K r w)(ha:EOk K T ta pa)(hb:ROk K T tb pb):EOk K T (tOp r ta tb) (qOp w pa pb):=fun C G σ H env n R Q hK hT S hp k=>by
 refine ha C G σ H env n _ _ hK hT S hp fun x env1 n1 v H1 p1 S1 r1 f1=>?_;refine hb C G σ H1 env1 n1 _ _ hK hT S1 p1 fun y env2 n2 u H2 p2 S2 r2 f2=>?_;subst hK;exact hw G H2 x y v u _ _ (fun p hp=>S2.fresh hp) (.inl (r1.fr f2)) (r2.rd S2) p2 fun z v' H' rz s rv=>k _ _ _ _ _ rz (S2.same s) rv ((f1.trans f2).trans (Fr.of s))
theorem Iy (hw:W2 K r w)(ha:ROk K T ta pa)(hb:ROk K T tb pb):EOk K T (tOp r ta tb) (qOpR w pa pb):=fun C G σ H env n R Q hK hT S hp k=>by
 refine ha C G σ H env n _ _ hK hT S hp fun x env1 n1 v H1 p1 S1 r1 f1=>?_;refine hb C G σ H1 env1 n1 _ _ hK hT S1 p1 fun y env2 n2 u H2 p2 S2 r2 f2=>?_;subst hK;obtain⟨e,p2⟩:=p2;subst e;exact hw G H2 x y v u _ _ (fun p hp=>S2.fresh hp) ((r1.fr f2).rd S2) (r2.rd S2) p2 fun z v' H' rz s rv=>k _ _ _ _ _ rz (S2.same s) rv ((f1.trans f2).trans (Fr.of s))
def wI (C:Int->Int->Prop)(g:Int->Int->PV):w2:=fun x y R=>match x,y with | .int i,.int j=>C i j/\R (g i j) | _,_=>False
theorem W2.I (hg:∀i j G H,Rep K G H (g' i j) (g i j)):W2 K (rI C g) (wI C g'):=by
 intro G H x y v u R Q hf rx ry hw k;unfold wI at hw
 split at hw
 · exact⟨_,_,rx.int,ry.int,hw.1,k _ _ _ hw.2 (Same.refl _) (hg _ _ _ _)⟩
 · exact hw.elim
def wI0 (g:Int->Int->PV):w2:=fun x y R=>match x,y with | .int i,.int j=>R (g i j) | _,_=>False
theorem W2.I0 (hg:∀i j G H,Rep K G H (g' i j) (g i j)):W2 K (rI0 g) (wI0 g'):=by
 intro G H x y v u R Q hf rx ry hw k;unfold wI0 at hw
 split at hw
 · exact⟨_,_,rx.int,ry.int,k _ _ _ hw (Same.refl _) (hg _ _ _ _)⟩
 · exact hw.elim
def wAdd:w2:=fun x y R=>match x,y with
 | .int i,.int j=>R (.int (i + j))
 | .str i,.str j=>i.length + j.length<=1000000/\R (.str (i++j))
 | .tup xs,.tup ys=>xs.length + ys.length<=1000000/\R (.tup (xs++ys))
 | _,_=>False
theorem mil (h:n<=1000000):n<=B9:=L7 h (by rw [J1];decide)
theorem mil' (h:n<=1000000):n < B9:=Ca h (by rw [J1];decide)
theorem Bn (hf:p∉G.M)(hn:H p=none)(r:Reps K G H xs vs):Rep K G (upd H p (.tup vs)) (.tup xs) (.ref p):=
 ⟨p,vs,rfl,⟨hf,E8⟩,r.same (Same.lay1 hn)⟩
theorem Cy (hf:p∉G.M)(hn:H p=none)(r:Reps K G H xs vs):Rep K G (upd H p (.lst vs)) (.lst xs) (.ref p):=
 ⟨p,vs,rfl,⟨hf,E8⟩,r.same (Same.lay1 hn)⟩
theorem W2.add:W2 K (fun x y H Q=>(rI0 fun i j=>.int (i + j)) x y H Q\/(∃i j,x=.str i/\y=.str j/\i.length + j.length<=B9/\Q (.str (i++j)) H)\/rCatA K x y H Q) wAdd:=by
 intro G H x y v u R Q hf rx ry hw k;unfold wAdd at hw
 split at hw
 · exact .inl ⟨_,_,rx.int,ry.int,k _ _ _ hw (Same.refl _) rfl⟩
 · exact .inr (.inl ⟨_,_,rx.str,ry.str,mil hw.1,k _ _ _ hw.2 (Same.refl _) rfl⟩)
 · rename_i xs ys;obtain⟨a,vs,ea,ta,ra⟩:=rx.rep (fun _ z=>nomatch z);obtain⟨b,us,eb,tb,rb⟩:=ry.rep (fun _ z=>nomatch z);refine .inr (.inr ⟨a,b,vs,us,ea,eb,ta.sq,tb.sq,?_,fun z=>?_,fun z1 z2=>?_,fun z1 z2 p hp=>?_⟩)
   · rw [<- ra.length,<- rb.length];exact mil hw.1
   · subst z;have:xs=[]:=w6 ra.length;subst this;exact k _ _ _ hw.2 (Same.refl _) ⟨b,us,rfl,tb,rb⟩
   · subst z2;have:ys=[]:=w6 rb.length;subst this;exact k _ _ _ hw.2 (Same.refl _) (by rw [S6];exact⟨a,vs,rfl,ta,ra⟩)
   · exact k _ _ _ hw.2 (Same.lay1 hp) (Bn (hf p hp) hp (ra.append rb))
 · exact hw.elim
theorem J5 (ha:QE T K F a pa)(hb:QE T K F b pb)(hK:∀z,(F z).K=K:=by intro _;rfl):QE T K F (.BinOp a .Add b pos) (qOp wAdd pa pb):=by
 obtain⟨ta,h1,h2⟩:=ha;obtain⟨tb,h3,h4⟩:=hb.r;exact⟨_,fun z=>J7 (o5.or (Mu.or (hK z▸Nt))) (h1 z) (h3 z),Cw W2.add h2 h4⟩
theorem Eb (ho:∀z,OpR (F z) (Q5 op) r)(hw:W2 K r w)(ha:QE T K F a pa)(hb:QE T K F b pb):QE T K F (.BinOp a op b pos) (qOp w pa pb):=by
 obtain⟨ta,h1,h2⟩:=ha;obtain⟨tb,h3,h4⟩:=hb.r;exact⟨_,fun z=>J7 (ho z) (h1 z) (h3 z),Cw hw h2 h4⟩
def wSub:w2:=wI0 fun i j=>.int (i - j)
def wMul:w2:=fun x y R=>match x,y with
 | .int i,.int j=>CMul i j/\R (.int (i * j))
 | .str i,.int n=>i.length<=100/\0<=n/\n<=1000/\R (.str (d4 i n))
 | _,_=>False
def Gm:w2:=wI CDiv fun i j=>.int (i / j)
def wMod:w2:=wI (fun _ j=>0 < j) fun i j=>.int (i % j)
theorem W2.mul:W2 K (fun x y H Q=>(rI CMul fun i j=>.int (i * j)) x y H Q\/(∃i n,x=.str i/\y=.int n/\i.length<=100/\0<=n/\n<=1000/\Q (.str (d4 i n)) H)) wMul:=by
 intro G H x y v u R Q hf rx ry hw k;unfold wMul at hw
 split at hw
 · exact .inl ⟨_,_,rx.int,ry.int,hw.1,k _ _ _ hw.2 (Same.refl _) rfl⟩
 · exact .inr ⟨_,_,rx.str,ry.int,hw.1,hw.2.1,hw.2.2.1,k _ _ _ hw.2.2.2 (Same.refl _) rfl⟩
 · exact hw.elim
theorem Cz (ha:QE T K F a pa)(hb:QE T K F b pb):QE T K F (.BinOp a .Sub b pos) (qOp wSub pa pb):=Eb (fun _=>op_sub) (W2.I0 fun _ _ _ _=>rfl) ha hb
theorem Ec (ha:QE T K F a pa)(hb:QE T K F b pb):QE T K F (.BinOp a .Mult b pos) (qOp wMul pa pb):=Eb (fun _=>o6.or Nk) W2.mul ha hb
theorem Nv (ha:QE T K F a pa)(hb:QE T K F b pb):QE T K F (.BinOp a .FloorDiv b pos) (qOp Gm pa pb):=Eb (fun _=>FR) (W2.I fun _ _ _ _=>rfl) ha hb
theorem Gn (ha:QE T K F a pa)(hb:QE T K F b pb):QE T K F (.BinOp a .Mod b pos) (qOp wMod pa pb):=Eb (fun _=>Ac) (W2.I fun _ _ _ _=>rfl) ha hb
end
end Pu
end
section
namespace L2
open PySem PySem.Spec PyProof.Rows
def EqD (K:A3)(H:Hp):Nat->V->V->Bool->Prop
 | 0,x,y,b=>Q2 x=true/\Q2 y=true/\b=eqV x y
 | d + 1, x, y, b => (Q2 x = true /\ Q2 y = true /\ b = eqV x y) \/
   (∃p q xs ys,∃f:Nat->Bool,x=.ref p/\y=.ref q/\SqT K H p xs/\SqT K H q ys/\(∀(j:Nat) x' y',xs[j]?=some x'->ys[j]?=some y'->EqD K H d x' y' (f j))/\b=((E6 (min xs.length ys.length)).all f && xs.length == ys.length))\/
   (∃p q xs ys,∃f:Nat->Bool,x=.ref p/\y=.ref q/\SqL K H p xs/\SqL K H q ys/\(∀(j:Nat) x' y',xs[j]?=some x'->ys[j]?=some y'->EqD K H d x' y' (f j))/\b=((E6 (min xs.length ys.length)).all f && xs.length == ys.length))\/
   (b=false/\((∃p xs,x=.ref p/\(SqT K H p xs\/SqL K H p xs)/\Q2 y=true)\/(∃p xs,y=.ref p/\(SqT K H p xs\/SqL K H p xs)/\Q2 x=true)\/
     (∃p q xs ys,x=.ref p/\y=.ref q/\SqT K H p xs/\SqL K H q ys)\/(∃p q xs ys,x=.ref p/\y=.ref q/\SqL K H p xs/\SqT K H q ys)))
section
variable {X:Cx}{pins:List (Addr×Obj)}{σ:St}{H:Hp}{s:Shared}
theorem U9 (I:Inv X pins σ H s)(h:SqT X.K H p xs)(h':SqL X.K H p ys):False:=by
 obtain⟨its,r,⟨o,e,c,n,d⟩,_⟩:=I.tuple h;obtain⟨its',r',⟨o',n',e',c',_,d'⟩,_⟩:=I.list h';rw [e] at e';cases e';rw [c] at c';injection c' with c';exact absurd c' (by decide)
theorem EqD.refl (I:Inv X pins σ H s):∀(d:Nat) (x:V) (b:Bool),EqD X.K H d x x b->b=true:=by
 intro d
 induction d with
 | zero =>
   intro x b h;obtain⟨h1,_,rfl⟩:=h;exact Ip h1
 | succ d ih =>
   intro x b h;rcases h with⟨h1,_,rfl⟩ | ⟨p,q,xs,ys,f,e1,e2,s1,s2,hf,rfl⟩ | ⟨p,q,xs,ys,f,e1,e2,s1,s2,hf,rfl⟩ | ⟨rfl,h⟩
   · exact Ip h1
   · subst e1;cases e2;have:=I.tuple_inj s1 s2;subst this;simp only [Ce,beq_self_eq_true,AX,J3,L6];intro j hj;exact ih _ _ (hf j xs[j] xs[j] (by simp [hj]) (by simp [hj]))
   · subst e1;cases e2;have:=I.list_inj s1 s2;subst this;simp only [Ce,beq_self_eq_true,AX,J3,L6];intro j hj;exact ih _ _ (hf j xs[j] xs[j] (by simp [hj]) (by simp [hj]))
   · rcases h with⟨p,xs,rfl,_,h⟩ | ⟨p,xs,rfl,_,h⟩ | ⟨p,q,xs,ys,e1,e2,s1,s2⟩ | ⟨p,q,xs,ys,e1,e2,s1,s2⟩
     · cases h
     · cases h
     · subst e1;cases e2;exact(U9 I s1 s2).elim
     · subst e1;cases e2;exact(U9 I s2 s1).elim
theorem Inv.sqL (I:Inv X pins σ H s)(h:SqL X.K H p xs):∃its:List Value,Vals xs its/\s.heap.IsList p its.toArray:=by
 obtain⟨its,r,pl,_⟩:=I.list h;exact⟨its,r,pl.isList⟩
theorem Inv.sqT (I:Inv X pins σ H s)(h:SqT X.K H p xs):∃its:List Value,Vals xs its/\s.heap.IsTuple p its.toArray:=by
 obtain⟨its,r,pl,_⟩:=I.tuple h;exact⟨its,r,pl⟩
theorem Iz (I:Inv X pins σ H s)(hu:A.units < cLine)(hq:SqT X.K H p xs\/SqL X.K H p xs)(ry:RelV y w)(fy:Q2 y=true) :
   Bd A s (.ref p) w false/\Bc A s (.ref p) w true/\Bd A s w (.ref p) false/\Bc A s w (.ref p) true/\l9 A s (.ref p) w false/\l9 A s w (.ref p) false:=by
 rcases hq with hq | hq
 · obtain⟨its,r,il⟩:=I.sqT hq;cases y with
   | non=>cases ry;exact⟨.tuple_none il hu,.tuple_none il hu,.none_tuple il hu,.none_tuple il hu,.tuple_none il hu,.none_tuple il hu⟩
   | bl b=>cases ry;exact⟨.tuple_bool b il hu,.tuple_bool b il hu,.bool_tuple b il hu,.bool_tuple b il hu,.tuple_bool b il hu,.bool_tuple b il hu⟩
   | int i=>obtain⟨t,rfl⟩:=ry;exact⟨.tuple_int i t il hu,.tuple_int i t il hu,.int_tuple i t il hu,.int_tuple i t il hu,.tuple_int i t il hu,.int_tuple i t il hu⟩
   | str i=>obtain⟨t,rfl⟩:=ry;exact⟨.tuple_str i t il hu,.tuple_str i t il hu,.str_tuple i t il hu,.str_tuple i t il hu,.tuple_str i t il hu,.str_tuple i t il hu⟩
   | _=>cases fy
 · obtain⟨its,r,il⟩:=I.sqL hq;cases y with
   | non=>cases ry;exact⟨.list_none il hu,.list_none il hu,.none_list il hu,.none_list il hu,.list_none il hu,.none_list il hu⟩
   | bl b=>cases ry;exact⟨.list_bool b il hu,.list_bool b il hu,.bool_list b il hu,.bool_list b il hu,.list_bool b il hu,.bool_list b il hu⟩
   | int i=>obtain⟨t,rfl⟩:=ry;exact⟨.list_int i t il hu,.list_int i t il hu,.int_list i t il hu,.int_list i t il hu,.list_int i t il hu,.int_list i t il hu⟩
   | str i=>obtain⟨t,rfl⟩:=ry;exact⟨.list_str i t il hu,.list_str i t il hu,.str_list i t il hu,.str_list i t il hu,.list_str i t il hu,.str_list i t il hu⟩
   | _=>cases fy
theorem IA (rx:RelV x u)(ry:RelV y w)(fx:Q2 x=true)(fy:Q2 y=true):Bd A s u w (eqV x y)/\Bc A s u w (!eqV x y):=by
 cases x with
 | non =>
   cases rx;cases y with
   | non=>cases ry;exact⟨.none_none,.none_none⟩
   | bl j=>cases ry;exact⟨.none_bool j,.none_bool j⟩
   | int j=>obtain⟨t,rfl⟩:=ry;exact⟨.none_int j t,.none_int j t⟩
   | str j=>obtain⟨t,rfl⟩:=ry;exact⟨.none_str j t,.none_str j t⟩
   | _=>cases fy
 | bl i =>
   cases rx;cases y with
   | non=>cases ry;exact⟨.bool_none i,.bool_none i⟩
   | bl j=>cases ry;exact⟨.bool_bool i j,.bool_bool i j⟩
   | int j=>obtain⟨t,rfl⟩:=ry;exact⟨.bool_int i j t,.bool_int i j t⟩
   | str j=>obtain⟨t,rfl⟩:=ry;exact⟨.bool_str i j t,.bool_str i j t⟩
   | _=>cases fy
 | int i =>
   obtain⟨ti,rfl⟩:=rx;cases y with
   | non=>cases ry;exact⟨.int_none i ti,.int_none i ti⟩
   | bl j=>cases ry;exact⟨.int_bool i ti j,.int_bool i ti j⟩
   | int j=>obtain⟨t,rfl⟩:=ry;exact⟨.int_int i ti j t,.int_int i ti j t⟩
   | str j=>obtain⟨t,rfl⟩:=ry;exact⟨.int_str i ti j t,.int_str i ti j t⟩
   | _=>cases fy
 | str i =>
   obtain⟨ti,rfl⟩:=rx;cases y with
   | non=>cases ry;exact⟨.str_none i ti,.str_none i ti⟩
   | bl j=>cases ry;exact⟨.str_bool i ti j,.str_bool i ti j⟩
   | int j=>obtain⟨t,rfl⟩:=ry;exact⟨.str_int i ti j t,.str_int i ti j t⟩
   | str j=>obtain⟨t,rfl⟩:=ry;exact⟨.str_str i ti j t,.str_str i ti j t⟩
   | _=>cases fy
 | _=>cases fx
theorem in1_units (A:Around):A.in1.units=A.units + 1:=rfl
theorem EqD.at (I:Inv X pins σ H s):∀(d:Nat) (A:Around) (x y:V) (u w:Value) (b:Bool),A.units + d < cLine->RelV x u->RelV y w->EqD X.K H d x y b->l9 A s u w b/\Bd A s u w b/\Bc A s u w (!b):=by
 intro d
 induction d with
 | zero =>
   intro A x y u w b hu rx ry h;obtain⟨h1,h2,rfl⟩:=h;exact⟨Ig rx ry h1 h2,IA rx ry h1 h2⟩
 | succ d ih =>
   intro A x y u w b hu rx ry h;have hu0:A.units < cLine:=by omega
   have hu1:A.in1.units + d < cLine:=by rw [in1_units];omega
   have hrefl:=EqD.refl I (d + 1) x b;rcases h with⟨h1,h2,rfl⟩ | ⟨p,q,xs,ys,f,e1,e2,s1,s2,hf,eb⟩ | ⟨p,q,xs,ys,f,e1,e2,s1,s2,hf,eb⟩ | ⟨rfl,h⟩
   · exact⟨Ig rx ry h1 h2,IA rx ry h1 h2⟩
   · subst e1 e2;cases rx;cases ry;obtain⟨its,r1,t1⟩:=I.sqT s1;obtain⟨its2,r2,t2⟩:=I.sqT s2;have z1:its.toArray.size=xs.length:=by simpa using r1.length.symm
     have z2:its2.toArray.size=ys.length:=by simpa using r2.length.symm
     have he:∀j (h1:j < its.toArray.size) (h2:j < its2.toArray.size),l9 A.in1 s its.toArray[j] its2.toArray[j] (f j):=by
       intro j h1 h2;obtain⟨x',e1,q1⟩:=r1.getE (j:=j) (by omega);obtain⟨y',e2,q2⟩:=r2.getE (j:=j) (by grind);exact(ih A.in1 x' y' _ _ (f j) hu1 (by grind) (by grind) (hf j x' y' e1 e2)).1
     have rc:Bd A s (.ref p) (.ref q) b:=by
       rw [eb,<- z1,<- z2];exact SeqAt.RcAt.tuples t1 t2 hu0 he
     have rn:Bc A s (.ref p) (.ref q) (!b):=by
       rw [eb,<- z1,<- z2];exact SeqAt.RcNeAt.tuples t1 t2 hu0 he
     refine⟨?_,rc,rn⟩
     by_cases hpq:p=q
     · subst hpq;rw [hrefl (.inr (.inl ⟨p,p,xs,ys,f,rfl,rfl,s1,s2,hf,eb⟩))];exact .same _
     · exact .of_refs hpq rc
   · subst e1 e2;cases rx;cases ry;obtain⟨its,r1,t1⟩:=I.sqL s1;obtain⟨its2,r2,t2⟩:=I.sqL s2;have z1:its.toArray.size=xs.length:=by simpa using r1.length.symm
     have z2:its2.toArray.size=ys.length:=by simpa using r2.length.symm
     have he:∀j (h1:j < its.toArray.size) (h2:j < its2.toArray.size),l9 A.in1 s its.toArray[j] its2.toArray[j] (f j):=by
       intro j h1 h2;obtain⟨x',e1,q1⟩:=r1.getE (j:=j) (by omega);obtain⟨y',e2,q2⟩:=r2.getE (j:=j) (by grind);exact(ih A.in1 x' y' _ _ (f j) hu1 (by grind) (by grind) (hf j x' y' e1 e2)).1
     have rr:Bd A s (.ref p) (.ref q) b/\Bc A s (.ref p) (.ref q) (!b):=by
       by_cases hl:xs.length=ys.length
       · have e3:b=(E6 its.toArray.size).all f:=by rw [eb,hl,Ce,beq_self_eq_true,AX,z1,hl]
         rw [e3];exact⟨SeqAt.RcAt.lists t1 t2 (by grind) hu0 he,SeqAt.RcNeAt.lists t1 t2 (by grind) hu0 he⟩
       · have e3:b=false:=by
           rw [eb];have:(xs.length == ys.length)=false:=by simpa using hl
           rw [this,Bool.and_false]
         rw [e3];have e4:(its.toArray.size != its2.toArray.size)=true:=by rw [z1,z2];simpa using hl
         exact⟨SeqAt.RcAt.lists_lengths t1 t2 e4 hu0,SeqAt.RcNeAt.lists_lengths t1 t2 e4 hu0⟩
     refine⟨?_,rr⟩
     by_cases hpq:p=q
     · subst hpq;rw [hrefl (.inr (.inr (.inl ⟨p,p,xs,ys,f,rfl,rfl,s1,s2,hf,eb⟩)))];exact .same _
     · exact .of_refs hpq rr.1
   · rcases h with⟨p,xs,rfl,hq,fy⟩ | ⟨p,xs,rfl,hq,fx⟩ | ⟨p,q,xs,ys,e1,e2,s1,s2⟩ | ⟨p,q,xs,ys,e1,e2,s1,s2⟩
     · cases rx;obtain⟨a1,a2,a3,a4,a5,a6⟩:=Iz I hu0 hq ry fy;exact⟨a5,a1,a2⟩
     · cases ry;obtain⟨a1,a2,a3,a4,a5,a6⟩:=Iz I hu0 hq rx fx;exact⟨a6,a3,a4⟩
     · subst e1 e2;cases rx;cases ry;obtain⟨its,r1,t1⟩:=I.sqT s1;obtain⟨its2,r2,t2⟩:=I.sqL s2;exact⟨.tuple_list t1 t2 hu0,.tuple_list t1 t2 hu0,.tuple_list t1 t2 hu0⟩
     · subst e1 e2;cases rx;cases ry;obtain⟨its,r1,t1⟩:=I.sqL s1;obtain⟨its2,r2,t2⟩:=I.sqT s2;exact⟨.list_tuple t1 t2 hu0,.list_tuple t1 t2 hu0,.list_tuple t1 t2 hu0⟩
end
section
variable {X:Cx}
def rEqD (K:A3)(d:Nat)(neg:Bool):R2:=fun x y H Q=>∃b,EqD K H d x y b/\Q (.bl (if neg then !b else b)) H
theorem op_eqD (d:Nat)(hu:X.A.units + d < cLine):OpR X (L4 .Eq) (rEqD X.K d false):=by
 intro pins s σ H x y v u Q I rx ry h;obtain⟨b,hb,q⟩:=h;exact(hb.at I d X.A x y v u b hu rx ry).2.1 X.prog X.w X.xe _ ⟨.bl _,H,I,rfl,q⟩
theorem op_neD (d:Nat)(hu:X.A.units + d < cLine):OpR X (L4 .NotEq) (rEqD X.K d true):=by
 intro pins s σ H x y v u Q I rx ry h;obtain⟨b,hb,q⟩:=h;exact(hb.at I d X.A x y v u b hu rx ry).2.2 X.prog X.w X.xe _ ⟨.bl _,H,I,rfl,q⟩
def rInD (K:A3)(d:Nat)(neg:Bool):R2:=fun x y H Q=>∃p ys,∃f:Nat->Bool,y=.ref p/\(SqL K H p ys\/SqT K H p ys)/\(∀(j:Nat) z,ys[j]?=some z->EqD K H d z x (f j))/\Q (.bl (if neg then !((E6 ys.length).any f) else(E6 ys.length).any f)) H
theorem IB (h:∀j,j < n->f j=g j):(E6 n).all f=(E6 n).all g:=by
 rw [k8,J3,J3];constructor
 · intro k j hj;rw [<- h j (L6.mp hj)];exact k j hj
 · intro k j hj;rw [h j (L6.mp hj)];exact k j hj
theorem EqD.det (I:Inv X pins σ H s):∀(d:Nat) (x y:V) (b b':Bool),EqD X.K H d x y b->EqD X.K H d x y b'->b=b':=by
 intro d
 induction d with
 | zero =>
   intro x y b b' h h';rw [h.2.2,h'.2.2]
 | succ d ih =>
   intro x y b b' h h';rcases h with⟨h1,h2,rfl⟩ | ⟨p,q,xs,ys,f,rfl,rfl,s1,s2,hf,rfl⟩ | ⟨p,q,xs,ys,f,rfl,rfl,s1,s2,hf,rfl⟩ | ⟨rfl,h⟩
   · rcases h' with⟨h1',h2',rfl⟩ | ⟨p,q,xs,ys,f,rfl,rfl,s1,s2,hf,rfl⟩ | ⟨p,q,xs,ys,f,rfl,rfl,s1,s2,hf,rfl⟩ | ⟨rfl,h⟩
     · rfl
     · cases h1
     · cases h1
     · rcases h with⟨p,xs,rfl,_,h⟩ | ⟨p,xs,rfl,_,h⟩ | ⟨p,q,xs,ys,rfl,rfl,s1,s2⟩ | ⟨p,q,xs,ys,rfl,rfl,s1,s2⟩
       · cases h1
       · cases h2
       · cases h1
       · cases h1
   · rcases h' with⟨h1',h2',rfl⟩ | ⟨p',q',xs',ys',f',e1,e2,s1',s2',hf',rfl⟩ | ⟨p',q',xs',ys',f',e1,e2,s1',s2',hf',rfl⟩ | ⟨rfl,h⟩
     · cases h1'
     · cases e1;cases e2;have:=I.tuple_inj s1 s1';subst this;have:=I.tuple_inj s2 s2';subst this;rw [IB fun j hj=>ih _ _ _ _ (hf j (xs[j]'(by omega)) (ys[j]'(by omega)) (C4 _) (C4 _)) (hf' j (xs[j]'(by omega)) (ys[j]'(by omega)) (C4 _) (C4 _))]
     · cases e1;exact(U9 I s1 s1').elim
     · rcases h with⟨p',xs',e1,_,h⟩ | ⟨p',xs',e1,_,h⟩ | ⟨p',q',xs',ys',e1,e2,s1',s2'⟩ | ⟨p',q',xs',ys',e1,e2,s1',s2'⟩
       · cases h
       · cases h
       · cases e2;exact(U9 I s2 s2').elim
       · cases e1;exact(U9 I s1 s1').elim
   · rcases h' with⟨h1',h2',rfl⟩ | ⟨p',q',xs',ys',f',e1,e2,s1',s2',hf',rfl⟩ | ⟨p',q',xs',ys',f',e1,e2,s1',s2',hf',rfl⟩ | ⟨rfl,h⟩
     · cases h1'
     · cases e1;exact(U9 I s1' s1).elim
     · cases e1;cases e2;have:=I.list_inj s1 s1';subst this;have:=I.list_inj s2 s2';subst this;rw [IB fun j hj=>ih _ _ _ _ (hf j (xs[j]'(by omega)) (ys[j]'(by omega)) (C4 _) (C4 _)) (hf' j (xs[j]'(by omega)) (ys[j]'(by omega)) (C4 _) (C4 _))]
     · rcases h with⟨p',xs',e1,_,h⟩ | ⟨p',xs',e1,_,h⟩ | ⟨p',q',xs',ys',e1,e2,s1',s2'⟩ | ⟨p',q',xs',ys',e1,e2,s1',s2'⟩
       · cases h
       · cases h
       · cases e1;exact(U9 I s1' s1).elim
       · cases e2;exact(U9 I s2' s2).elim
   · rcases h' with⟨h1',h2',rfl⟩ | ⟨p',q',xs',ys',f',rfl,rfl,s1',s2',hf',rfl⟩ | ⟨p',q',xs',ys',f',rfl,rfl,s1',s2',hf',rfl⟩ | ⟨rfl,h'⟩
     · rcases h with⟨p,xs,rfl,_,h⟩ | ⟨p,xs,rfl,_,h⟩ | ⟨p,q,xs,ys,rfl,rfl,s1,s2⟩ | ⟨p,q,xs,ys,rfl,rfl,s1,s2⟩
       · cases h1'
       · cases h2'
       · cases h1'
       · cases h1'
     · rcases h with⟨p,xs,e1,_,h⟩ | ⟨p,xs,e1,_,h⟩ | ⟨p,q,xs,ys,e1,e2,s1,s2⟩ | ⟨p,q,xs,ys,e1,e2,s1,s2⟩
       · cases h
       · cases h
       · cases e2;exact(U9 I s2' s2).elim
       · cases e1;exact(U9 I s1' s1).elim
     · rcases h with⟨p,xs,e1,_,h⟩ | ⟨p,xs,e1,_,h⟩ | ⟨p,q,xs,ys,e1,e2,s1,s2⟩ | ⟨p,q,xs,ys,e1,e2,s1,s2⟩
       · cases h
       · cases h
       · cases e1;exact(U9 I s1 s1').elim
       · cases e2;exact(U9 I s2 s2').elim
     · rfl
open Classical in
theorem Ed (I:Inv X pins σ H s)(hu:A.units + d < cLine)(r:Vals ys its)(rx:RelV x v)(hf:∀(j:Nat) z,ys[j]?=some z->EqD X.K H d z x (f j)) :
   ∃e:Value->Bool,(∀y,y∈its->l9 A s y v (e y))/\its.any e=(E6 ys.length).any f:=by
 have key:∀(j j':Nat) (z:Value),its[j]?=some z->its[j']?=some z->f j=f j':=by
   intro j j' z h h';obtain⟨hj,_⟩:=D7.mp h;obtain⟨hj',_⟩:=D7.mp h';obtain⟨w1,a1,b1⟩:=r.getE hj;obtain⟨w2,a2,b2⟩:=r.getE hj';rw [C4 hj] at h;rw [C4 hj'] at h';cases h;rw [L8 h'] at b2;have:=b1.inj b2;subst this;exact EqD.det I d _ _ _ _ (hf j _ a1) (hf j' _ a2)
 let e:Value->Bool:=fun y=>decide (∃j,its[j]?=some y/\f j=true)
 have he:∀(j:Nat) (y:Value),its[j]?=some y->e y=f j:=by
   intro j y h;show decide _=_;cases hb:f j with
   | true=>exact decide_eq_true ⟨j,h,hb⟩
   | false=>exact decide_eq_false fun⟨j',h1,h2⟩=>by rw [key j j' y h h1,h2] at hb;cases hb
 refine⟨e,fun y hy=>?_,?_⟩
 · obtain⟨j,hj,rfl⟩:=AO hy;obtain⟨w1,a1,b1⟩:=r.getE hj;rw [he j _ (C4 hj)];exact((hf j w1 a1).at I d A w1 x _ v (f j) hu b1 rx).1
 · have hl:=r.length;rw [k8,k5,k5];constructor
   · rintro⟨y,hy,h⟩;obtain⟨j,hj,rfl⟩:=AO hy;exact⟨j,L6.mpr (by omega),by rw [<- he j _ (C4 hj)];exact h⟩
   · rintro⟨j,hj,h⟩;have hj':j < its.length:=by have:=L6.mp hj;omega
     exact⟨its[j],x4 hj',by rw [he j _ (C4 hj')];exact h⟩
theorem op_inD (d:Nat)(hu:X.A.units + (d + 1) < cLine):OpR X (L4 .In) (rInD X.K d false):=by
 intro pins s σ H x y v u Q I rx ry h;obtain⟨p,ys,f,rfl,hq,hf,q⟩:=h;cases ry;rcases hq with hq | hq
 · obtain⟨its,r,il⟩:=I.sqL hq;obtain⟨e,h1,h2⟩:=Ed I (A:=X.A.in1) (by rw [in1_units];omega) r rx hf;refine SeqAt.in_listAt e il (fun y hy=>h1 y (by simpa using hy)) ⟨.bl _,H,I,rfl,?_⟩;rw [show its.toArray.any e=its.any e by simp,h2];exact q
 · obtain⟨its,r,il⟩:=I.sqT hq;obtain⟨e,h1,h2⟩:=Ed I (A:=X.A.in1) (by rw [in1_units];omega) r rx hf;refine SeqAt.in_tupleAt e il (fun y hy=>h1 y (by simpa using hy)) ⟨.bl _,H,I,rfl,?_⟩;rw [show its.toArray.any e=its.any e by simp,h2];exact q
theorem Nw (d:Nat)(hu:X.A.units + (d + 1) < cLine):OpR X (L4 .NotIn) (rInD X.K d true):=by
 intro pins s σ H x y v u Q I rx ry h;obtain⟨p,ys,f,rfl,hq,hf,q⟩:=h;cases ry;rcases hq with hq | hq
 · obtain⟨its,r,il⟩:=I.sqL hq;obtain⟨e,h1,h2⟩:=Ed I (A:=X.A.in1) (by rw [in1_units];omega) r rx hf;refine SeqAt.notIn_listAt e il (fun y hy=>h1 y (by simpa using hy)) ⟨.bl _,H,I,rfl,?_⟩;rw [show its.toArray.any e=its.any e by simp,h2];exact q
 · obtain⟨its,r,il⟩:=I.sqT hq;obtain⟨e,h1,h2⟩:=Ed I (A:=X.A.in1) (by rw [in1_units];omega) r rx hf;refine SeqAt.notIn_tupleAt e il (fun y hy=>h1 y (by simpa using hy)) ⟨.bl _,H,I,rfl,?_⟩;rw [show its.toArray.any e=its.any e by simp,h2];exact q
end
end L2
namespace Pu
open PySem PySem.Spec L2
def p7:PV->Bool
 | .non=>true
 | .bl _=>true
 | .int _=>true
 | .str _=>true
 | _=>false
def cmpb:Nat->PV->Bool
 | 0,x=>p7 x
 | d + 1,.tup xs=>xs.all (cmpb d)
 | d + 1,.lst xs=>xs.all (cmpb d)
 | _ + 1,x=>p7 x
mutual
def eqP:PV->PV->Bool
 | .non,.non=>true
 | .bl a,.bl b=>a == b
 | .bl a,.int b=>(if a then 1 else 0) == b
 | .int a,.bl b=>a == (if b then 1 else 0)
 | .int a,.int b=>a == b
 | .str a,.str b=>a == b
 | .tup xs,.tup ys=>eqPs xs ys
 | .lst xs,.lst ys=>eqPs xs ys
 | _,_=>false
def eqPs:List PV->List PV->Bool
 | [],[]=>true
 | x::xs,y::ys=>eqP x y && eqPs xs ys
 | _,_=>false
end
theorem Go:∀(xs ys:List PV),((E6 (min xs.length ys.length)).all (fun j=>match xs[j]?,ys[j]? with | some x,some y=>eqP x y | _,_=>false) && xs.length == ys.length)=eqPs xs ys
 | [],[]=>rfl
 | [],_::_=>rfl
 | _::_,[]=>rfl
 | x :: xs, y :: ys => by
   have ih:=Go xs ys;show _=(eqP x y && eqPs xs ys);rw [<- ih];simp only [M7,Nat.succ_min_succ,List.range_succ_eq_map,List.all_cons,List.all_map,Function.comp_def,Dv,AM];rw [Bool.and_assoc]
   congr 1
   simp
end Pu
end
section
namespace Pu
open PySem PySem.Spec L2
section
variable {K:A3}{G:Gh}{H:Hp}
inductive Sort3 (K:A3)(G:Gh)(H:Hp)(d:Nat)(x:PV)(v:V):Prop where
 | fl (h:Q2 v=true) (s:p7 x=true)
 | tp (p:Addr) (xs:List PV) (vs:List V) (e:x=.tup xs) (ev:v=.ref p) (h:SqT K H p vs) (r:Reps K G H xs vs) (c:xs.all (cmpb d)=true)
 | ls (p:Addr) (xs:List PV) (vs:List V) (e:x=.lst xs) (ev:v=.ref p) (h:SqL K H p vs) (r:Reps K G H xs vs) (c:xs.all (cmpb d)=true)
theorem Bo (s:p7 x=true)(h:RdV K G H x v):Q2 v=true:=by
 cases x with
 | non=>rw [h.non];rfl
 | bl b=>rw [h.bl];rfl
 | int b=>rw [h.int];rfl
 | str b=>rw [h.str];rfl
 | _=>cases s
theorem Ee (c:cmpb (d + 1) x=true)(h:RdV K G H x v):Sort3 K G H d x v:=by
 cases x with
 | tup xs =>
   obtain⟨a,vs,e,t,r⟩:=h.tup;exact .tp a xs vs rfl e t r c
 | lst xs =>
   obtain⟨a,vs,e,t,r⟩:=h.lst;exact .ls a xs vs rfl e t r c
 | non=>exact .fl (Bo c h) c
 | bl _=>exact .fl (Bo c h) c
 | int _=>exact .fl (Bo c h) c
 | str _=>exact .fl (Bo c h) c
 | ty _=>cases c
 | pot _=>cases c
 | scr _=>cases c
 | dct _ _=>cases c
 | fdt _ _=>cases c
theorem IC (sx:p7 x=true)(sy:p7 y=true)(hx:RdV K G H x v)(hy:RdV K G H y u):eqP x y=eqV v u:=by
 cases x with
 | non =>
   cases hx.non;cases y with
   | non=>cases hy.non;rfl
   | bl j=>cases hy.bl;rfl
   | int j=>cases hy.int;rfl
   | str j=>cases hy.str;rfl
   | _=>cases sy
 | bl i =>
   cases hx.bl;cases y with
   | non=>cases hy.non;rfl
   | bl j=>cases hy.bl;rfl
   | int j=>cases hy.int;rfl
   | str j=>cases hy.str;rfl
   | _=>cases sy
 | int i =>
   cases hx.int;cases y with
   | non=>cases hy.non;rfl
   | bl j=>cases hy.bl;rfl
   | int j=>cases hy.int;rfl
   | str j=>cases hy.str;rfl
   | _=>cases sy
 | str i =>
   cases hx.str;cases y with
   | non=>cases hy.non;rfl
   | bl j=>cases hy.bl;rfl
   | int j=>cases hy.int;rfl
   | str j=>cases hy.str;rfl
   | _=>cases sy
 | _=>cases sx
theorem Ef (sy:p7 y=true):eqP (.tup xs) y=false/\eqP (.lst xs) y=false/\eqP y (.tup xs)=false/\eqP y (.lst xs)=false:=by
 cases y <;> first | exact⟨rfl,rfl,rfl,rfl⟩ | cases sy
theorem Eg:∀(d:Nat) (x y:PV) (v u:V),cmpb d x=true->cmpb d y=true->RdV K G H x v->RdV K G H y u->EqD K H d v u (eqP x y):=by
 intro d
 induction d with
 | zero=>intro x y v u cx cy hx hy;exact⟨Bo cx hx,Bo cy hy,IC cx cy hx hy⟩
 | succ d ih =>
   intro x y v u cx cy hx hy
   have el:∀(xs ys:List PV) (vs us:List V),Reps K G H xs vs->Reps K G H ys us->xs.all (cmpb d)=true->ys.all (cmpb d)=true->∀(j:Nat) x' y',vs[j]?=some x'->us[j]?=some y'->EqD K H d x' y' (match xs[j]?,ys[j]? with | some x,some y=>eqP x y | _,_=>false):=by
     intro xs ys vs us r1 r2 c1 c2 j x' y' e1 e2;obtain⟨x1,ex,rx⟩:=r1.get e1;obtain⟨y1,ey,ry⟩:=r2.get e2;rw [ex,ey];exact ih x1 y1 x' y' (J3.mp c1 x1 (J6 ex)) (J3.mp c2 y1 (J6 ey)) (.inl rx) (.inl ry)
   cases Ee cx hx with
   | fl fx sx =>
     cases Ee cy hy with
     | fl fy sy=>exact .inl ⟨fx,fy,IC sx sy hx hy⟩
     | tp q ys us e ev h r c=>subst e;exact .inr (.inr (.inr ⟨(Ef sx).2.2.1,.inr (.inl ⟨q,us,ev,.inl h,fx⟩)⟩))
     | ls q ys us e ev h r c=>subst e;exact .inr (.inr (.inr ⟨(Ef sx).2.2.2,.inr (.inl ⟨q,us,ev,.inr h,fx⟩)⟩))
   | tp p xs vs e ev h r c =>
     subst e;cases Ee cy hy with
     | fl fy sy=>exact .inr (.inr (.inr ⟨(Ef sy).1,.inl ⟨p,vs,ev,.inl h,fy⟩⟩))
     | tp q ys us e2 ev2 h2 r2 c2 =>
       subst e2;refine .inr (.inl ⟨p,q,vs,us,_,ev,ev2,h,h2,el xs ys vs us r r2 c c2,?_⟩);rw [<- r.length,<- r2.length];exact(Go xs ys).symm
     | ls q ys us e2 ev2 h2 r2 c2=>subst e2;exact .inr (.inr (.inr ⟨rfl,.inr (.inr (.inl ⟨p,q,vs,us,ev,ev2,h,h2⟩))⟩))
   | ls p xs vs e ev h r c =>
     subst e;cases Ee cy hy with
     | fl fy sy=>exact .inr (.inr (.inr ⟨(Ef sy).2.1,.inl ⟨p,vs,ev,.inr h,fy⟩⟩))
     | tp q ys us e2 ev2 h2 r2 c2=>subst e2;exact .inr (.inr (.inr ⟨rfl,.inr (.inr (.inr ⟨p,q,vs,us,ev,ev2,h,h2⟩))⟩))
     | ls q ys us e2 ev2 h2 r2 c2 =>
       subst e2;refine .inr (.inr (.inl ⟨p,q,vs,us,_,ev,ev2,h,h2,el xs ys vs us r r2 c c2,?_⟩));rw [<- r.length,<- r2.length];exact(Go xs ys).symm
end
section
variable {T:PotK}{ι:Type}{K:A3}{F:ι->Cx}{e a b c:Expr}{es rest:List Expr}{pe pa pb pc:pE}{pos:Pos}
def grd (b:Bool)(P:Prop):Prop:=match b with | true=>P | false=>False
theorem grd_t {P:Prop}:grd true P=P:=rfl
theorem grd_i {b:Bool}{P:Prop}(h:b=true)(p:P):grd b P:=by subst h;exact p
theorem Eh {b:Bool}{P:Prop}(h:grd b P):b=true:=by grind [grd]
theorem Bp {b:Bool}{P:Prop}(h:grd b P):P:=by cases b;exact h.elim;exact h
theorem gd2 {a b:Bool}{P:Prop}(h1:a=true)(h2:b=true)(p:P):grd a (grd b P):=grd_i h1 (grd_i h2 p)
def wEq (d:Nat):w2:=fun x y R=>grd (cmpb d x) (grd (cmpb d y) (R (.bl (eqP x y))))
def wNe (d:Nat):w2:=fun x y R=>grd (cmpb d x) (grd (cmpb d y) (R (.bl (!eqP x y))))
theorem W2.eq (d:Nat):W2 K (rEqD K d false) (wEq d):=fun G H x y v u R Q hf rx ry hw k=>⟨_,Eg d x y v u (Eh hw) (Eh (Bp hw)) rx ry,k _ _ _ (Bp (Bp hw)) (Same.refl _) rfl⟩
theorem W2.ne (d:Nat):W2 K (rEqD K d true) (wNe d):=fun G H x y v u R Q hf rx ry hw k=>⟨_,Eg d x y v u (Eh hw) (Eh (Bp hw)) rx ry,k _ _ _ (Bp (Bp hw)) (Same.refl _) rfl⟩
def memP (x:PV)(ys:List PV):Bool:=ys.any fun y=>eqP y x
def wIn (d:Nat)(neg:Bool):w2:=fun x y R=>match x,y with
 | .str i,.str j=>R (.bl (if neg then !(!(Bb j i 0 j.length 1).isEmpty) else !(Bb j i 0 j.length 1).isEmpty))
 | x,.lst ys=>cmpb d x=true/\ys.all (cmpb d)=true/\R (.bl (if neg then !memP x ys else memP x ys))
 | x,.tup ys=>cmpb d x=true/\ys.all (cmpb d)=true/\R (.bl (if neg then !memP x ys else memP x ys))
 | _,_=>False
theorem ID {x:PV}:∀ys:List PV,((E6 ys.length).any fun j=>match ys[j]? with | some y=>eqP y x | none=>false)=memP x ys
 | []=>rfl
 | y :: ys => by
   have ih:=ID (x:=x) ys;show _=(eqP y x || memP x ys);rw [<- ih];simp only [M7,List.range_succ_eq_map,List.any_cons,List.any_map,Function.comp_def,Dv,AM]
theorem W2.in_ {K:A3}(d:Nat)(neg:Bool){r:R2}(hr:∀x y H Q,(∃i j,x=.str i/\y=.str j/\Q (.bl (if neg then !(!(Bb j i 0 j.length 1).isEmpty) else !(Bb j i 0 j.length 1).isEmpty)) H)\/rInD K d neg x y H Q->r x y H Q):W2 K r (wIn d neg):=by
 intro G H x y v u R Q hf rx ry hw k;refine hr _ _ _ _ ?_
 have seq:∀(ys:List PV) (p:Addr) (us:List V),u=.ref p->(SqL K H p us\/SqT K H p us)->Reps K G H ys us->cmpb d x=true/\ys.all (cmpb d)=true/\R (.bl (if neg then !memP x ys else memP x ys))->rInD K d neg v u H Q:=by
   intro ys p us eu hq r h;refine⟨p,us,fun j=>match ys[j]? with | some y=>eqP y x | none=>false,eu,hq,fun j z ez=>?_,?_⟩
   · obtain⟨y1,ey,ry⟩:=r.get ez;dsimp only;rw [ey];exact Eg d y1 x z v (J3.mp h.2.1 y1 (J6 ey)) h.1 (.inl ry) rx
   · rw [<- r.length,ID];exact k _ _ _ h.2.2 (Same.refl _) rfl
 unfold wIn at hw
 split at hw
 · exact .inl ⟨_,_,rx.str,ry.str,k _ _ _ hw (Same.refl _) rfl⟩
 · obtain⟨p,us,eu,hq,r⟩:=ry.lst;exact .inr (seq _ p us eu (.inl hq) r hw)
 · obtain⟨p,us,eu,hq,r⟩:=ry.tup;exact .inr (seq _ p us eu (.inr hq) r hw)
 · exact hw.elim
def wLt:w2:=fun x y R=>match x,y with | .int i,.int j=>R (.bl (decide (i < j))) | .str i,.str j=>R (.bl (decide (i.cps.toList < j.cps.toList))) | _,_=>False
def wLe:w2:=fun x y R=>match x,y with | .int i,.int j=>R (.bl (decide (i<=j))) | .str i,.str j=>R (.bl (!decide (j.cps.toList < i.cps.toList))) | _,_=>False
def wGt:w2:=wI0 fun i j=>.bl (decide (j < i))
theorem W2.lt:W2 K (fun x y H Q=>(rI0 fun i j=>.bl (decide (i < j))) x y H Q\/∃i j,x=.str i/\y=.str j/\Q (.bl (decide (i.cps.toList < j.cps.toList))) H) wLt:=by
 intro G H x y v u R Q hf rx ry hw k;unfold wLt at hw
 split at hw
 · exact .inl ⟨_,_,rx.int,ry.int,k _ _ _ hw (Same.refl _) rfl⟩
 · exact .inr ⟨_,_,rx.str,ry.str,k _ _ _ hw (Same.refl _) rfl⟩
 · exact hw.elim
theorem W2.le {K:A3}:W2 K (fun x y H Q=>(rI0 fun i j=>.bl (decide (i<=j))) x y H Q\/∃i j,x=.str i/\y=.str j/\Q (.bl (!decide (j.cps.toList < i.cps.toList))) H) wLe:=by
 intro G H x y v u R Q hf rx ry hw k;unfold wLe at hw
 split at hw
 · exact .inl ⟨_,_,rx.int,ry.int,k _ _ _ hw (Same.refl _) rfl⟩
 · exact .inr ⟨_,_,rx.str,ry.str,k _ _ _ hw (Same.refl _) rfl⟩
 · exact hw.elim
def isNon:PV->Bool
 | .non=>true
 | _=>false
def Ag:w2:=fun x y R=>match y with | .non=>R (.bl (!isNon x)) | _=>False
theorem isnon {K:A3}{G:Gh}{H:Hp}{x:PV}{v:V}(h:RdV K G H x v):decide (v=.non)=isNon x:=by
 cases x with
 | non=>rw [h.non];rfl
 | bl b=>rw [h.bl];rfl
 | int b=>rw [h.int];rfl
 | str b=>rw [h.str];rfl
 | tup xs=>obtain⟨a,vs,e,_⟩:=h.tup;rw [e];rfl
 | lst xs=>obtain⟨a,vs,e,_⟩:=h.lst;rw [e];rfl
 | ty n=>rw [show v=.ty n from h.rep (fun _ z=>nomatch z)];rfl
 | pot k=>obtain⟨p,_,e⟩:=h.rep (fun _ z=>nomatch z);rw [e];rfl
 | scr k=>obtain⟨p,e,_⟩:=h.rep (fun _ z=>nomatch z);rw [e];rfl
 | dct ks xs=>obtain⟨a,kvs,e,_⟩:=h.rep (fun _ z=>nomatch z);rw [e];rfl
 | fdt ks xs=>obtain⟨a,kvs,e,_⟩:=h.rep (fun _ z=>nomatch z);rw [e];rfl
theorem W2.notN {K:A3}:W2 K (fun x y H Q=>y=.non/\Q (.bl (!decide (x=.non))) H) Ag:=by
 intro G H x y v u R Q hf rx ry hw k;unfold Ag at hw
 split at hw
 · refine⟨ry.non,k _ _ _ hw (Same.refl _) ?_⟩;rw [isnon rx]
   rfl
 · exact hw.elim
structure Cmp {ι:Type}(K:A3)(F:ι->Cx)(op:CmpOp)(w:w2):Prop where
 ex:∃r,(∀z,OpR (F z) (L4 op) r)/\W2 K r w
theorem cEq (d:Nat)(hr:∀z,Room k (F z).A)(hd:d<=30:=by decide)(hK:∀z,(F z).K=K:=by intro _;rfl):Cmp K F .Eq (wEq d):=⟨_,fun z=>hK z▸op_eqD d (by have:=(hr z).units;omega),W2.eq d⟩
theorem cNe (d:Nat)(hr:∀z,Room k (F z).A)(hd:d<=30:=by decide)(hK:∀z,(F z).K=K:=by intro _;rfl):Cmp K F .NotEq (wNe d):=⟨_,fun z=>hK z▸op_neD d (by have:=(hr z).units;omega),W2.ne d⟩
theorem cIn (d:Nat)(hr:∀z,Room k (F z).A)(hd:d<=30:=by decide)(hK:∀z,(F z).K=K:=by intro _;rfl):Cmp K F .In (wIn d false):=⟨_,fun z=>Mo.or (hK z▸op_inD d (by have:=(hr z).units;omega)),W2.in_ d false fun _ _ _ _ h=>h⟩
theorem T4 (d:Nat)(hr:∀z,Room k (F z).A)(hd:d<=30:=by decide)(hK:∀z,(F z).K=K:=by intro _;rfl):Cmp K F .NotIn (wIn d true):=⟨_,fun z=>MP.or (hK z▸Nw d (by have:=(hr z).units;omega)),W2.in_ d true fun _ _ _ _ h=>h⟩
theorem cLt:Cmp K F .Lt wLt:=⟨_,fun _=>FS.or Mn,W2.lt⟩
theorem cLe:Cmp K F .LtE wLe:=⟨_,fun _=>op_le.or Nq,W2.le⟩
theorem cGt:Cmp K F .Gt wGt:=⟨_,fun _=>op_gt,W2.I0 fun _ _ _ _=>rfl⟩
theorem Gp:Cmp K F .IsNot Ag:=⟨_,fun _=>Mp,W2.notN⟩
theorem E2 (hc:Cmp K F op w)(ha:QE T K F a pa)(hb:QR T K F b pb)(hm:v5 op b=false):QE T K F (.Compare a [op] [b] pos) (qOp w pa pb):=by
 obtain⟨r,ho,hw⟩:=hc.ex;obtain⟨ta,h1,h2⟩:=ha;obtain⟨tb,h3,h4⟩:=hb;exact⟨_,fun z=>HP (ho z) (h1 z) (h3 z) hm,Cw hw h2 h4⟩
def qB (pe:pE):pT:=fun env n R=>pe env n fun x env' n'=>match x with | .bl b=>R b env' n' | _=>False
theorem ok_b (h:EOk K T t pe):TOk K T (tB t) (qB pe):=fun C G σ H env n R Q hK hT S hp k=>by
 refine h C G σ H env n _ _ hK hT S hp fun x env' n' v H' r S' rp f=>?_;cases x with
 | bl b=>exact⟨b,rp,k _ _ _ _ r S' f⟩
 | _=>exact r.elim
theorem Gq (h:EOk K T t pe):TOk K T (FT t) (qB pe):=fun C G σ H env n R Q hK hT S hp k=>by
 refine h C G σ H env n _ _ hK hT S hp fun x env' n' v H' r S' rp f=>?_;cases x with
 | bl b=>exact⟨b,rp,k _ _ _ _ r S' f⟩
 | _=>exact r.elim
theorem J8 (h:QE T K F e pe)(he:∀z whole,isTrue e (F z).env whole=(do let v ← whole;Y7 e.pos;Q6 [v] (truthy v)):=by intro _ _;rfl):QT T K F e (qB pe):=by
 obtain⟨t,h1,h2⟩:=h;exact⟨_,fun z=>pt_val (h1 z) (he z),ok_b h2⟩
theorem C7 (hc:Cmp K F op w)(ha:QE T K F a pa)(hb:QR T K F b pb)(hm:v5 op b=false):QT T K F (.Compare a [op] [b] pos) (qB (qOp w pa pb)):=by
 obtain⟨r,ho,hw⟩:=hc.ex;obtain⟨ta,h1,h2⟩:=ha;obtain⟨tb,h3,h4⟩:=hb;exact⟨_,fun z=>Cq (ho z) (h1 z) (h3 z) hm,Gq (Cw hw h2 h4)⟩
theorem Nx (hc:Cmp K F op w)(ha:QR T K F a pa)(hb:QR T K F b pb)(hm:v5 op b=false):QT T K F (.Compare a [op] [b] pos) (qB (qOpR w pa pb)):=by
 obtain⟨r,ho,hw⟩:=hc.ex;obtain⟨ta,h1,h2⟩:=ha;obtain⟨tb,h3,h4⟩:=hb;exact⟨_,fun z=>Cq (ho z) (h1 z) (h3 z) hm,Gq (Iy hw h2 h4)⟩
def d9 (w w':w2)(pa pb pc:pE):pE:=fun env n R=>pa env n fun x env1 n1=>pb env1 n1 fun y env2 n2=>w x y fun z=>match z with | .bl k=>if k=true then pc env2 n2 fun u env3 n3=>w' y u fun z=>R z env3 n3 else R (.bl false) env2 n2 | _=>False
theorem IE {K:A3}{r r':R2}{w w':w2}{ta tb tc:TE}(hw:W2 K r w)(hw':W2 K r' w')(ha:EOk K T ta pa)(hb:EOk K T tb pb)(hc:EOk K T tc pc):EOk K T (FU r r' ta tb tc) (d9 w w' pa pb pc):=fun C G σ H env n R Q hK hT S hp k=>by
 refine ha C G σ H env n _ _ hK hT S hp fun x env1 n1 v H1 p1 S1 r1 f1=>?_;refine hb C G σ H1 env1 n1 _ _ hK hT S1 p1 fun y env2 n2 u H2 p2 S2 r2 f2=>?_;subst hK;refine hw G H2 x y v u _ _ (fun p hp=>S2.fresh hp) (.inl (r1.fr f2)) (.inl r2) p2 fun z v' H' rz s rv=>?_;cases z with
 | bl kk =>
   refine⟨kk,rv,?_⟩;cases kk with
   | false=>exact k _ _ _ _ _ rz (S2.same s) rfl ((f1.trans f2).trans (Fr.of s))
   | true =>
     refine hc C G σ H' env2 n2 _ _ rfl hT (S2.same s) rz fun c3 env3 n3 v3 H3 p3 S3 r3 f3=>?_;exact hw' G H3 y c3 u v3 _ _ (fun p hp=>S3.fresh hp) (.inl ((r2.same s).fr f3)) (.inl r3) p3 fun z v' H4 rz s4 rv=>k _ _ _ _ _ rz (S3.same s4) rv ((((f1.trans f2).trans (Fr.of s)).trans f3).trans (Fr.of s4))
 | _=>exact rz.elim
theorem IF {op op':CmpOp}{w w':w2}(hc:Cmp K F op w)(hc':Cmp K F op' w')(ha:QE T K F a pa)(hb:QE T K F b pb)(hcc:QE T K F c pc)(hm:lastMarks [op,op'] [b,c]=false:=by with_unfolding_all rfl):QE T K F (.Compare a [op,op'] [b,c] pos) (d9 w w' pa pb pc):=by
 obtain⟨r,ho,hw⟩:=hc.ex;obtain⟨r',ho',hw'⟩:=hc'.ex;obtain⟨ta,a1,a2⟩:=ha;obtain⟨tb,b1,b2⟩:=hb;obtain⟨tc,c1,c2⟩:=hcc;exact⟨_,fun z=>Mq (ho z) (ho' z) (a1 z) (b1 z) (c1 z) hm,IE hw hw' a2 b2 c2⟩
theorem IG {op op':CmpOp}{w w':w2}(hc:Cmp K F op w)(hc':Cmp K F op' w')(ha:QE T K F a pa)(hb:QE T K F b pb)(hcc:QE T K F c pc)(hm:lastMarks [op,op'] [b,c]=false:=by with_unfolding_all rfl):QT T K F (.Compare a [op,op'] [b,c] pos) (qB (d9 w w' pa pb pc)):=by
 obtain⟨r,ho,hw⟩:=hc.ex;obtain⟨r',ho',hw'⟩:=hc'.ex;obtain⟨ta,a1,a2⟩:=ha;obtain⟨tb,b1,b2⟩:=hb;obtain⟨tc,c1,c2⟩:=hcc;exact⟨_,fun z=>Mr (ho z) (ho' z) (a1 z) (b1 z) (c1 z) hm,Gq (IE hw hw' a2 b2 c2)⟩
variable {pt pu:pT}
def qAnd (t u:pT):pT:=fun env n R=>t env n fun b env1 n1=>if b=true then u env1 n1 R else R false env1 n1
def qOr (t u:pT):pT:=fun env n R=>t env n fun b env1 n1=>if b=true then R true env1 n1 else u env1 n1 R
def qNot (t:pT):pT:=fun env n R=>t env n fun b env1 n1=>R (!b) env1 n1
theorem ok_and (h:TOk K T t pt)(h':TOk K T u pu):TOk K T (tAnd t u) (qAnd pt pu):=fun C G σ H env n R Q hK hT S hp k=>by
 refine h C G σ H env n _ _ hK hT S hp fun b env1 n1 H1 p1 S1 f1=>?_;cases b with
 | true=>exact h' C G σ H1 env1 n1 _ _ hK hT S1 p1 fun b env2 n2 H2 p2 S2 f2=>k _ _ _ _ p2 S2 (f1.trans f2)
 | false=>exact k _ _ _ _ p1 S1 f1
theorem ok_or (h:TOk K T t pt)(h':TOk K T u pu):TOk K T (tOr t u) (qOr pt pu):=fun C G σ H env n R Q hK hT S hp k=>by
 refine h C G σ H env n _ _ hK hT S hp fun b env1 n1 H1 p1 S1 f1=>?_;cases b with
 | false=>exact h' C G σ H1 env1 n1 _ _ hK hT S1 p1 fun b env2 n2 H2 p2 S2 f2=>k _ _ _ _ p2 S2 (f1.trans f2)
 | true=>exact k _ _ _ _ p1 S1 f1
theorem ok_not {K:A3}{t:TT}(h:TOk K T t pt):TOk K T (tNot t) (qNot pt):=fun C G σ H env n R Q hK hT S hp k=>h C G σ H env n _ _ hK hT S hp fun b env1 n1 H1 p1 S1 f1=>k _ _ _ _ p1 S1 f1
theorem T5 (ha:QT T K F a pt):QW T K F (.BoolOp .And [a] pos) pt:=let ⟨t,h1,h2⟩:=ha;⟨t,fun z=>Mb (h1 z),h2⟩
theorem P4 (ha:QT T K F a pt):QW T K F (.BoolOp .Or [a] pos) pt:=let ⟨t,h1,h2⟩:=ha;⟨t,fun z=>pw_or1 (h1 z),h2⟩
theorem T6 (ha:QT T K F a pt)(hb:QW T K F (.BoolOp .And (b::rest) pos) pu):QW T K F (.BoolOp .And (a::b::rest) pos) (qAnd pt pu):=let ⟨t,h1,h2⟩:=ha;let ⟨u,h3,h4⟩:=hb;⟨_,fun z=>pw_and (h1 z) (h3 z),ok_and h2 h4⟩
theorem N8 (ha:QT T K F a pt)(hb:QW T K F (.BoolOp .Or (b::rest) pos) pu):QW T K F (.BoolOp .Or (a::b::rest) pos) (qOr pt pu):=let ⟨t,h1,h2⟩:=ha;let ⟨u,h3,h4⟩:=hb;⟨_,fun z=>pw_or (h1 z) (h3 z),ok_or h2 h4⟩
theorem QW.qt (h:QW T K F e pt):QT T K F e pt:=let ⟨t,h1,h2⟩:=h;⟨t,fun z=>(h1 z).pt,h2⟩
theorem K9 (ha:QT T K F a pt):QT T K F (.UnaryOp .Not a pos) (qNot pt):=let ⟨t,h1,h2⟩:=ha;⟨_,fun z=>pt_not (h1 z),ok_not h2⟩
def N9 (pa pb:pE):pE:=fun env n R=>pa env n fun x env1 n1=>match x with | .bl b=>if b=true then pb env1 n1 R else R (.bl false) env1 n1 | _=>False
def qOrV (pa pb:pE):pE:=fun env n R=>pa env n fun x env1 n1=>match x with | .bl b=>if b=true then R (.bl true) env1 n1 else pb env1 n1 R | _=>False
def Gr (pa:pE):pE:=fun env n R=>pa env n fun x env1 n1=>match x with | .bl b=>R (.bl (!b)) env1 n1 | _=>False
theorem P5 {op}(h:QE T K F a pa):QE T K F (.BoolOp op [a] pos) pa:=let ⟨t,h1,h2⟩:=h;⟨t,fun z=>pe_one (h1 z),h2⟩
theorem P6 (ha:QE T K F a pa)(hb:QE T K F (.BoolOp .And (b::rest) pos) pb):QE T K F (.BoolOp .And (a::b::rest) pos) (N9 pa pb):=by
 obtain⟨t,h1,h2⟩:=ha;obtain⟨u,h3,h4⟩:=hb;refine⟨_,fun z=>pe_and (h1 z) (h3 z),fun C G σ H env n R Q hK hT S hp k=>?_⟩;refine h2 C G σ H env n _ _ hK hT S hp fun x env1 n1 v H1 p1 S1 r1 f1=>?_;cases x with
 | bl c =>
   refine⟨c,r1,?_⟩;cases c with
   | true=>exact h4 C G σ H1 env1 n1 _ _ hK hT S1 p1 fun x env2 n2 v H2 p2 S2 r2 f2=>k _ _ _ _ _ p2 S2 r2 (f1.trans f2)
   | false=>exact k _ _ _ _ _ p1 S1 rfl f1
 | _=>exact p1.elim
theorem Gs (ha:QE T K F a pa)(hb:QE T K F (.BoolOp .Or (b::rest) pos) pb):QE T K F (.BoolOp .Or (a::b::rest) pos) (qOrV pa pb):=by
 obtain⟨t,h1,h2⟩:=ha;obtain⟨u,h3,h4⟩:=hb;refine⟨_,fun z=>pe_or (h1 z) (h3 z),fun C G σ H env n R Q hK hT S hp k=>?_⟩;refine h2 C G σ H env n _ _ hK hT S hp fun x env1 n1 v H1 p1 S1 r1 f1=>?_;cases x with
 | bl c =>
   refine⟨c,r1,?_⟩;cases c with
   | false=>exact h4 C G σ H1 env1 n1 _ _ hK hT S1 p1 fun x env2 n2 v H2 p2 S2 r2 f2=>k _ _ _ _ _ p2 S2 r2 (f1.trans f2)
   | true=>exact k _ _ _ _ _ p1 S1 rfl f1
 | _=>exact p1.elim
theorem qe_not (ha:QE T K F a pa):QE T K F (.UnaryOp .Not a pos) (Gr pa):=by
 obtain⟨t,h1,h2⟩:=ha;refine⟨_,fun z=>pe_not (h1 z),fun C G σ H env n R Q hK hT S hp k=>?_⟩;refine h2 C G σ H env n _ _ hK hT S hp fun x env1 n1 v H1 p1 S1 r1 f1=>?_;cases x with
 | bl c=>exact⟨c,r1,k _ _ _ _ _ p1 S1 rfl f1⟩
 | _=>exact p1.elim
def qIf (t:pT)(pa pb:pE):pE:=fun env n R=>t env n fun b env1 n1=>if b=true then pa env1 n1 R else pb env1 n1 R
theorem Gu (hc:QT T K F c pt)(ha:QE T K F a pa)(hb:QE T K F b pb):QE T K F (.IfExp c a b pos) (qIf pt pa pb):=by
 obtain⟨tc,c1,c2⟩:=hc;obtain⟨t,h1,h2⟩:=ha;obtain⟨u,h3,h4⟩:=hb;refine⟨_,fun z=>FK (c1 z) (h1 z) (h3 z),fun C G σ H env n R Q hK hT S hp k=>?_⟩;refine c2 C G σ H env n _ _ hK hT S hp fun d env1 n1 H1 p1 S1 f1=>?_;cases d with
 | true=>exact h2 C G σ H1 env1 n1 _ _ hK hT S1 p1 fun x env2 n2 v H2 p2 S2 r2 f2=>k _ _ _ _ _ p2 S2 r2 (f1.trans f2)
 | false=>exact h4 C G σ H1 env1 n1 _ _ hK hT S1 p1 fun x env2 n2 v H2 p2 S2 r2 f2=>k _ _ _ _ _ p2 S2 r2 (f1.trans f2)
variable {pl pr:pA}
def qNil:pA:=fun env n R=>R [] env n
def A0 (pe:pE)(pr:pA):pA:=fun env n R=>pe env n fun x env1 n1=>pr env1 n1 fun xs env2 n2=>R (x::xs) env2 n2
theorem A7:QA T K F [] qNil:=⟨_,fun _=>F8,fun C G σ H env n R Q hK hT S hp k=>k _ _ _ _ _ hp S Reps.nil Fr.refl⟩
theorem Ny (h:EOk K T t pe)(h':AOk K T u pr):AOk K T (R0 t u) (A0 pe pr):=fun C G σ H env n R Q hK hT S hp k=>by
 refine h C G σ H env n _ _ hK hT S hp fun x env1 n1 v H1 p1 S1 r1 f1=>?_;exact h' C G σ H1 env1 n1 _ _ hK hT S1 p1 fun xs env2 n2 vs H2 p2 S2 r2 f2=>k _ _ _ _ _ p2 S2 (.cons (r1.fr f2) r2) (f1.trans f2)
def E4:Expr->Bool
 | .Starred ..=>false
 | _=>true
theorem D0 (h:E4 e=true):E3 (e::es) env=(false,eval e env)::E3 es env:=by
 cases e <;> first | rfl | cases h
theorem A2 (ha:QE T K F e pe)(hr:QA T K F es pr)(h:E4 e=true:=by rfl):QA T K F (e::es) (A0 pe pr):=by
 obtain⟨t,h1,h2⟩:=ha;obtain⟨u,h3,h4⟩:=hr;exact⟨_,fun z=>E1 (h1 z) (h3 z) (D0 h),Ny h2 h4⟩
def qTup (pa:pA):pE:=fun env n R=>pa env n fun xs env1 n1=>xs.length<=1000000/\R (.tup xs) env1 n1
def qLst (pa:pA):pA:=fun env n R=>pa env n fun xs env1 n1=>xs.length<=1000000/\R xs env1 n1
def qL (pn:pA):pE:=fun env n R=>pn env n fun xs env1 n1=>R (.lst xs) env1 n1
theorem F6 {x1}(h:QA T K F es pl):QE T K F (.Tuple es x1 pos) (qTup pl):=by
 obtain⟨t,h1,h2⟩:=h;refine⟨_,fun z=>FV (h1 z),fun C G σ H env n R Q hK hT S hp k=>?_⟩;refine h2 C G σ H env n _ _ hK hT S hp fun xs env1 n1 vs H1 p1 S1 r1 f1=>⟨by rw [<- r1.length];exact mil p1.1,fun p hp=>?_⟩;exact k _ _ _ _ _ p1.2 (S1.same (Same.lay1 hp)) (Bn (S1.fresh hp) hp r1) (f1.trans (Fr.of (Same.lay1 hp)))
theorem M4 (h:QA T K F es pl):QN T K F (.List es pos) (qLst pl):=by
 obtain⟨t,h1,h2⟩:=h;refine⟨_,fun z=>HU (h1 z),fun C G σ H env n R Q hK hT S hp k=>?_⟩;exact h2 C G σ H env n _ _ hK hT S hp fun xs env1 n1 vs H1 p1 S1 r1 f1=>⟨by rw [<- r1.length];exact mil p1.1,fun p hp=>k _ _ _ _ _ _ p1.2 S1 f1 hp r1⟩
theorem QN.ee (h:QN T K F e pl):QE T K F e (qL pl):=by
 obtain⟨t,h1,h2⟩:=h;refine⟨t,h1,fun C G σ H env n R Q hK hT S hp k=>?_⟩;refine h2 C G σ H env n _ _ hK hT S hp fun xs env1 n1 a vs Hb p1 S1 f1 hn r1=>?_;exact k _ _ _ _ _ p1 (S1.same (Same.lay1 hn)) (Cy (S1.fresh hn) hn r1) (f1.trans (Fr.of (Same.lay1 hn)))
theorem CA (h:ROk K T t pe)(hK:C.K=K)(hT:C.T=T)(S:SR C G σ H env n)(hp:pe env n R)
   (k:∀x env' n' v H',R x env' n'->SR C G σ H' env' n'->RdS C G σ H' env' x v->Fr G H H'->Q [v] H'):R0 t tNil σ H Q:=
 h C G σ H env n _ _ hK hT S hp fun x env1 n1 v H1 p1 S1 r1 f1=>k _ _ _ _ _ p1 S1 r1 f1
end
end Pu
end
section
namespace HT
open PySem PySem.Spec PyProof.Rows
section
variable {prog:C6}{w:World}{A:Around}{E:Value->Shared->Prop}{s:Shared}
theorem getItem_tuple_whole {lo hi:Option Int}(ht:IsTup s.heap t items)(hs:s.heap.IsSliceOf sl vl vu .none)(pl:IsPart vl lo)(pu:IsPart vu hi)
   (hw:sIx items.size 0 lo=0/\sIx items.size items.size hi=items.size) (h:Q (.ref t) s):wpAny (model prog w) A (getItem (.ref t) (.ref sl)) Q E s:=by
 obtain⟨os,hos,hcs,hds⟩:=id hs;have hTs:s.TypeIs (.ref sl) "slice":=⟨os,hos,hcs⟩;have hTt:s.TypeIs (.ref t) "tuple":=ht.typeIs;unfold getItem
 try with_reducible refine G6 ?_
 first | refine A1 (A5 ?_) | skip
 refine A1 (wpAny_sequenceKey ht.typeIs (by decide) ?_)
 refine A1 (Y5 (name:=A4 "__getitem__") ht.typeIs AY
   (P7 AY ht.typeIs entry_tuple_getitem ?_ (args_tuple_getitem _ _)))
 show wpAny _ _ (FB (.ref t)>>=_) _ _ s;refine A1 (tupleItemsOf_ ht ?_);refine A1 (j6 hTs ?_);rw [if_pos (by decide)];refine A1 (Ia hs pl pu ?_)
 have hyes:(((sIx items.size 0 lo:Nat):Int) == 0 && (1:Int) == 1 && (sIx items.size items.size hi - sIx items.size 0 lo) == items.size)=true:=by
   rw [hw.1,hw.2];simp
 show wpAny _ _ (if(((sIx items.size 0 lo:Nat):Int) == 0 && (1:Int) == 1 && (sIx items.size items.size hi - sIx items.size 0 lo) == items.size)=true then _ else _) _ _ s;rw [if_pos hyes];unfold Builtin.Tuple.tupleIsExact;refine A1 (A1 (j6 hTt (A5 ?_)));rw [if_pos (by rfl)];exact A1 (j7 (A5 ⟨_,rfl,A5 h⟩))
end
end HT
namespace L2
open PySem PySem.Spec PyProof.Rows
section
variable {X:Cx}
def rSlTA (K:A3):V->Option Int->Option Int->Hp->VK->Prop:=fun x lo hi H Q=>∃a xs,x=.ref a/\SqT K H a xs/\
 (cutV xs lo hi=xs->Q (.ref a) H)/\∀p,H p=none->Q (.ref p) (upd H p (.tup (cutV xs lo hi)))
theorem Nz:SlR X (rSlTA X.K):=by
 intro pins s σ H x v vl vu lo hi sl Q I rx hs pl pu h;obtain⟨a,xs,rfl,hx,h1,h2⟩:=h
 by_cases hw:HT.sIx xs.length 0 lo=0/\HT.sIx xs.length xs.length hi=xs.length
 · cases rx;obtain⟨its,r,ht,hz⟩:=I.tuple hx;have hlen:its.toArray.size=xs.length:=by rw [D8];exact r.length.symm
   refine⟨"tuple",_,PyProof.Rows.slot_tuple_getitem.lookup,ht.typeIs,?_⟩;refine HT.getItem_tuple_whole ht hs pl pu (by rw [hlen];exact hw) ⟨.ref a,H,I,rfl,h1 ?_⟩;unfold cutV;rw [hw.1,hw.2];simp
 · exact sl_tup pins s σ H (.ref a) v vl vu lo hi sl Q I rx hs pl pu ⟨a,xs,rfl,hx,hw,h2⟩
end
end L2
namespace Pu
open PySem PySem.Spec L2
section
variable {T:PotK}{ι:Type}{K:A3}{F:ι->Cx}{e a b c:Expr}{es rest:List Expr}{pe pa pb pc:pE}{pos:Pos}{pl pr:pA}
def wIx:w2:=fun x y R=>match x,y with
 | .lst xs,.int i=>match atI xs i with | some z=>R z | none=>False
 | .tup xs,.int i=>match atI xs i with | some z=>R z | none=>False
 | .scr ns,.int i=>match atI ns i with | some z=>R (.int z) | none=>False
 | .str z,.int i=>z.length<=1000000/\match atI z.cps.toList i with | some c=>R (.str ⟨#[c]⟩) | none=>False
 | _,_=>False
theorem IH (r:Reps K G H xs vs)(h:atI xs i=some z):∃v,atI vs i=some v/\Rep K G H z v:=by
 unfold atI at h ⊢;rw [<- r.length];cases e:ixN xs.length i with
 | none=>rw [e] at h;cases h
 | some j =>
   rw [e] at h;exact r.get' h
theorem CB (h:RdV K G H (.scr ns) v):∃a,v=.ref a/\SqL K H a (ns.map V.int):=by
 obtain⟨a,e,h⟩:=h.rep (fun _ z=>nomatch z);refine⟨a,e,?_⟩;rcases h with⟨_,o,h⟩ | h
 · exact .inl (.inr ⟨o,h⟩)
 · exact .inr h
theorem W2.ix:W2 K (rIx K) wIx:=by
 intro G H x y v u R Q hf rx ry hw k;unfold wIx at hw
 split at hw
 · rename_i xs i;obtain⟨a,vs,ev,hq,r⟩:=rx.lst;cases ez:atI xs i with
   | none=>rw [ez] at hw;exact hw.elim
   | some z =>
     rw [ez] at hw;obtain⟨v',e1,r1⟩:=IH r ez;exact .inl ⟨a,vs,i,v',ev,ry.int,hq,e1,k _ _ _ hw (Same.refl _) r1⟩
 · rename_i xs i;obtain⟨a,vs,ev,hq,r⟩:=rx.tup;cases ez:atI xs i with
   | none=>rw [ez] at hw;exact hw.elim
   | some z =>
     rw [ez] at hw;obtain⟨v',e1,r1⟩:=IH r ez;exact .inr (.inl ⟨a,vs,i,v',ev,ry.int,hq,e1,k _ _ _ hw (Same.refl _) r1⟩)
 · rename_i ns i;obtain⟨a,ev,hq⟩:=CB rx;cases ez:atI ns i with
   | none=>rw [ez] at hw;exact hw.elim
   | some z =>
     rw [ez] at hw;refine .inl ⟨a,_,i,.int z,ev,ry.int,hq,?_,k _ _ _ hw (Same.refl _) rfl⟩;unfold atI at ez ⊢;rw [A9];cases e:ixN ns.length i with
     | none=>rw [e] at ez;cases ez
     | some j =>
       rw [e] at ez;show(ns.map V.int)[j]?=_;rw [F4,show ns[j]?=some z from ez]
       rfl
 · rename_i z i;obtain⟨hz,hw⟩:=hw;cases ez:atI z.cps.toList i with
   | none=>rw [ez] at hw;exact hw.elim
   | some c =>
     rw [ez] at hw;exact .inr (.inr ⟨z,i,c,rx.str,ry.int,mil hz,ez,k _ _ _ hw (Same.refl _) rfl⟩)
 · exact hw.elim
theorem C2 (ha:QE T K F a pa)(hb:QE T K F b pb)(hs:F_ b:=by exact fun _ _=>rfl)(hK:∀z,(F z).K=K:=by intro _;rfl):QE T K F (.Subscript a b pos) (qOp wIx pa pb):=by
 obtain⟨ta,h1,h2⟩:=ha;obtain⟨tb,h3,h4⟩:=hb.r;exact⟨_,fun z=>d7 (hK z▸Ie) (h1 z) (h3 z) hs,Cw W2.ix h2 h4⟩
theorem Bq (ha:QR T K F a pa)(hb:QE T K F b pb)(hs:F_ b:=by exact fun _ _=>rfl)(hK:∀z,(F z).K=K:=by intro _;rfl):QE T K F (.Subscript a b pos) (qOpR wIx pa pb):=by
 obtain⟨ta,h1,h2⟩:=ha;obtain⟨tb,h3,h4⟩:=hb.r;exact⟨_,fun z=>d7 (hK z▸Ie) (h1 z) (h3 z) hs,Iy W2.ix h2 h4⟩
abbrev pO:=Env->Nat->(Option Int->Env->Nat->Prop)->Prop
def qNo:pO:=fun env n R=>R none env n
def K3 (pe:pE):pO:=fun env n R=>pe env n fun x env1 n1=>match x with | .int i=>R (some i) env1 n1 | _=>False
def OOk (K:A3)(T:PotK)(t:TO)(po:pO):Prop:=∀(C:Ct) (G:Gh) (σ:St) (H:Hp) (env:Env) (n:Nat) (R:Option Int->Env->Nat->Prop) (Q:Option Int->Hp->Prop),C.K=K->C.T=T->SR C G σ H env n->po env n R->
 (∀x env' n' H',R x env' n'->SR C G σ H' env' n'->Fr G H H'->Q x H')->t σ H Q
def QO {ι:Type}(T:PotK)(K:A3)(F:ι->Cx)(e:Option Expr)(po:pO):Prop:=∃t,(∀z,PO (F z) e t)/\OOk K T t po
theorem T7:QO T K F none qNo:=⟨_,fun _=>MH,fun C G σ H env n R Q hK hT S hp k=>k _ _ _ _ hp S Fr.refl⟩
theorem O6 (h:QE T K F e pe):QO T K F (some e) (K3 pe):=by
 obtain⟨t,h1,h2⟩:=h;refine⟨_,fun z=>MI (h1 z),fun C G σ H env n R Q hK hT S hp k=>?_⟩;refine h2 C G σ H env n _ _ hK hT S hp fun x env1 n1 v H1 p1 S1 r1 f1=>?_;cases x with
 | int i=>exact⟨i,r1,k _ _ _ _ p1 S1 f1⟩
 | _=>exact p1.elim
def cutP {α:Type}(xs:List α)(lo hi:Option Int):List α:=(xs.drop (HT.sIx xs.length 0 lo)).take (HT.sIx xs.length xs.length hi - HT.sIx xs.length 0 lo)
theorem Reps.cut (r:Reps K G H xs vs)(lo hi:Option Int):Reps K G H (cutP xs lo hi) (cutV vs lo hi):=by
 unfold cutP cutV;rw [<- r.length];exact(r.drop _).take _
def wSl (x:PV)(lo hi:Option Int)(R:PV->Prop):Prop:=match x with
 | .lst xs=>R (.lst (cutP xs lo hi))
 | .scr ns=>R (.lst ((cutP ns lo hi).map PV.int))
 | .tup xs=>R (.tup (cutP xs lo hi))
 | .str z=>z.length<=1000000/\R (.str (Txt.slice z lo hi))
 | _=>False
def qSl (pe:pE)(pl ph:pO):pE:=fun env n R=>pe env n fun x env1 n1=>pl env1 n1 fun lo env2 n2=>ph env2 n2 fun hi env3 n3=>wSl x lo hi fun z=>R z env3 n3
theorem II:∀ns:List Int,Reps K G H (ns.map PV.int) (ns.map V.int):=by
 intro xq
 induction xq with
 | nil =>
   exact rfl
 | cons i ns ih =>
   exact⟨.int i,ns.map V.int,rfl,rfl,ih⟩
theorem Gv {α β:Type}(f:α->β)(xs:List α)(lo hi:Option Int):cutP (xs.map f) lo hi=(cutP xs lo hi).map f:=by simp [cutP]
theorem sl_ok (hf:∀p,H p=none->p∉G.M)(rx:RdV K G H x v)(hw:wSl x lo hi R)(k:∀z v' H',R z->Same H H'->Rep K G H' z v'->Q v' H') :
   rSlL K v lo hi H Q\/rSlTA K v lo hi H Q\/rSlS v lo hi H Q:=by
 unfold wSl at hw
 split at hw
 · obtain⟨a,vs,ev,hq,r⟩:=rx.lst;exact .inl ⟨a,vs,ev,hq,fun p hp=>k _ _ _ hw (Same.lay1 hp) (Cy (hf p hp) hp (r.cut lo hi))⟩
 · rename_i ns;obtain⟨a,ev,hq⟩:=CB rx;refine .inl ⟨a,_,ev,hq,fun p hp=>k _ _ _ hw (Same.lay1 hp) (Cy (hf p hp) hp ?_)⟩;have:=(II (K:=K) (G:=G) (H:=H) ns).cut lo hi;rw [Gv] at this;exact this
 · obtain⟨a,vs,ev,t,r⟩:=rx.rep (fun _ z=>nomatch z);refine .inr (.inl ⟨a,vs,ev,t.sq,fun z=>k _ _ _ hw (Same.refl _) ?_,fun p hp=>k _ _ _ hw (Same.lay1 hp) (Bn (hf p hp) hp (r.cut lo hi))⟩);have rc:=r.cut lo hi;rw [z] at rc;exact⟨a,vs,rfl,t,rc⟩
 · exact .inr (.inr ⟨_,rx.str,mil hw.1,k _ _ _ hw.2 (Same.refl _) rfl⟩)
 · exact hw.elim
theorem Q4 (he:QE T K F e pe)(hl:QO T K F lo ql)(hh:QO T K F hi qh)(hK:∀z,(F z).K=K:=by intro _;rfl):QE T K F (.Subscript e (.Slice lo hi none p2) pos) (qSl pe ql qh):=by
 obtain⟨t,h1,h2⟩:=he;obtain⟨tl,l1,l2⟩:=hl;obtain⟨th,u1,u2⟩:=hh;refine⟨_,fun z=>MJ ((hK z▸MO).or ((hK z▸Nz).or sl_str)) (h1 z) (l1 z) (u1 z),fun C G σ H env n R Q hK hT S hp k=>?_⟩;refine h2 C G σ H env n _ _ hK hT S hp fun x env1 n1 v H1 p1 S1 r1 f1=>?_;refine l2 C G σ H1 env1 n1 _ _ hK hT S1 p1 fun lo env2 n2 H2 p2 S2 f2=>?_;refine u2 C G σ H2 env2 n2 _ _ hK hT S2 p2 fun hi env3 n3 H3 p3 S3 f3=>?_;exact sl_ok (fun p hp=>S3.fresh hp) (.inl ((r1.fr f2).fr f3)) p3 fun z v' H' rz s rv=>k _ _ _ _ _ rz (S3.same s) rv (((f1.trans f2).trans f3).trans (Fr.of s))
def WA1 (K:A3)(r:List V->Hp->VK->Prop)(w:w1):Prop:=∀(G:Gh) (H:Hp) (x:PV) (v:V) (R:PV->Prop) (Q:VK),(∀p,H p=none->p∉G.M)->RdV K G H x v->w x R->
 (∀z v' H',R z->Same H H'->Rep K G H' z v'->Q v' H')->r [v] H Q
theorem IJ (hw:WA1 K r w)(h:ROk K T t pe):EOk K T (tCB r (R0 t tNil)) (qUn w pe):=fun C G σ H env n R Q hK hT S hp k=>by
 refine CA h hK hT S hp fun x env1 n1 v H1 p1 S1 r1 f1=>?_;subst hK;exact hw G H1 x v _ _ (fun p hp=>S1.fresh hp) (r1.rd S1) p1 fun z v' H' rz s rv=>k _ _ _ _ _ rz (S1.same s) rv (f1.trans (Fr.of s))
theorem Gw {id:String}(hc:∀z,K2 (F z) (.builtin id) r)(hw:WA1 K r w)(hg:∀z,Gl (F z) x)(hm:∀z,(F z).mg x=none)(hv:K6 x=some (.builtin id))(ha:QR T K F e pe)(hs:E4 e=true:=by rfl)(hn:x≠"__name__":=by decide)(hdb:(x == ("__debug__":Str))=false:=by decide) :
   QE T K F (.Call (.Name x p) [e] [] pos) (qUn w pe):=by
 obtain⟨t,h1,h2⟩:=ha;exact⟨_,fun z=>Z5 (hc z) (hg z) (hm z) hv (E1 (h1 z) F8 (D0 hs)) hn hdb (D0 hs),IJ hw h2⟩
theorem IK {id:String}(hc:∀z,K2 (F z) (.type id) r)(hw:WA1 K r w)(hg:∀z,Gl (F z) x)(hm:∀z,(F z).mg x=none)(hv:K6 x=some (.type id))(ha:QR T K F e pe)(hs:E4 e=true:=by rfl)(hn:x≠"__name__":=by decide)(hdb:(x == ("__debug__":Str))=false:=by decide) :
   QE T K F (.Call (.Name x p) [e] [] pos) (qUn w pe):=by
 obtain⟨t,h1,h2⟩:=ha;exact⟨_,fun z=>Bj (hc z) (hg z) (hm z) hv (E1 (h1 z) F8 (D0 hs)) hn hdb (D0 hs),IJ hw h2⟩
def wLen:w1:=fun x R=>match x with
 | .lst xs=>R (.int xs.length)
 | .tup xs=>R (.int xs.length)
 | .scr xs=>R (.int xs.length)
 | .str z=>z.length<=1000000/\R (.int z.length)
 | _=>False
theorem WA1.len:WA1 K (fun xs H Q=>(∃p ys,xs=[.ref p]/\(SqL K H p ys\/SqT K H p ys)/\Q (.int ys.length) H)\/∃z,xs=[.str z]/\z.length<=B9/\Q (.int z.length) H) wLen:=by
 intro G H x v R Q hf rx hw k;unfold wLen at hw
 split at hw
 · obtain⟨a,vs,ev,hq,r⟩:=rx.lst;exact .inl ⟨a,vs,by rw [ev],.inl hq,k _ _ _ hw (Same.refl _) (by rw [r.length];rfl)⟩
 · obtain⟨a,vs,ev,hq,r⟩:=rx.tup;exact .inl ⟨a,vs,by rw [ev],.inr hq,k _ _ _ hw (Same.refl _) (by rw [r.length];rfl)⟩
 · obtain⟨a,ev,hq⟩:=CB rx;exact .inl ⟨a,_,by rw [ev],.inl hq,k _ _ _ hw (Same.refl _) (by rw [A9];rfl)⟩
 · exact .inr ⟨_,by rw [rx.str],mil hw.1,k _ _ _ hw.2 (Same.refl _) rfl⟩
 · exact hw.elim
theorem G4 (hg:∀z,Gl (F z) "len")(hm:∀z,(F z).mg "len"=none)(ha:QR T K F e pe)(hs:E4 e=true:=by rfl)(hK:∀z,(F z).K=K:=by intro _;rfl):QE T K F (.Call (.Name "len" p) [e] [] pos) (qUn wLen pe):=Gw (fun z=>(hK z▸Ih).or MQ) WA1.len hg hm D_ ha hs
def wInt:w1:=fun x R=>match x with | .int i=>R (.int i) | .bl b=>R (.int (if b then 1 else 0)) | _=>False
theorem IL {p:Pos}(hg:∀z,Gl (F z) "int")(hm:∀z,(F z).mg "int"=none)(ha:QR T K F e pe)(hs:E4 e=true:=by rfl):QE T K F (.Call (.Name "int" p) [e] [] pos) (qUn wInt pe):=IK (fun _=>HS) (fun G H x v R Q hf rx hw k=>by
 unfold wInt at hw
 split at hw
 · exact .inl ⟨_,by rw [rx.int],k _ _ _ hw (Same.refl _) rfl⟩
 · exact .inr ⟨_,by rw [rx.bl],k _ _ _ hw (Same.refl _) rfl⟩
 · exact hw.elim) hg hm Is ha hs
def Z6:List PV->Option (List Bool)
 | []=>some []
 | .bl b::xs=>(Z6 xs).map (b::·)
 | _=>none
theorem Gx {K:A3}{G:Gh}{H:Hp}:∀{xs:List PV} {vs:List V} {bs:List Bool},Z6 xs=some bs->Reps K G H xs vs->vs=bs.map V.bl
 | [],vs,bs,h,r=>by cases h;exact r
 | .bl b :: xs, vs, bs, h, r => by
   obtain⟨v,t,e,rv,rt⟩:=r;cases e1:Z6 xs with
   | none=>simp [Z6,e1] at h
   | some cs =>
     have:b::cs=bs:=by simpa [Z6,e1] using h
     subst this;rw [e,show v=.bl b from rv,Gx e1 rt]
     rfl
 | .non::_,_,_,h,_=>by cases h
 | .int _::_,_,_,h,_=>by cases h
 | .str _::_,_,_,h,_=>by cases h
 | .ty _::_,_,_,h,_=>by cases h
 | .pot _::_,_,_,h,_=>by cases h
 | .tup _::_,_,_,h,_=>by cases h
 | .lst _::_,_,_,h,_=>by cases h
 | .dct _ _::_,_,_,h,_=>by cases h
 | .fdt _ _::_,_,_,h,_=>by cases h
 | .scr _::_,_,_,h,_=>by cases h
theorem NA:∀bs:List Bool,Z6 (bs.map PV.bl)=some bs:=by
 intro xq
 induction xq with
 | nil =>
   exact rfl
 | cons b bs ih =>
   simp [Z6,ih]
def wAll:w1:=fun x R=>match x with | .lst xs=>(match Z6 xs with | some bs=>R (.bl (bs.all id)) | none=>False) | _=>False
def wAny:w1:=fun x R=>match x with | .lst xs=>(match Z6 xs with | some bs=>R (.bl (bs.any id)) | none=>False) | _=>False
theorem Ei {p:Pos}(hc:∀z,(F z).calm=true)(hg:∀z,Gl (F z) "all")(hm:∀z,(F z).mg "all"=none)(ha:QR T K F e pe)(hs:E4 e=true:=by rfl)(hK:∀z,(F z).K=K:=by intro _;rfl):QE T K F (.Call (.Name "all" p) [e] [] pos) (qUn wAll pe):=Gw (fun z=>hK z▸Nf (hc z)) (fun G H x v R Q hf rx hw k=>by
 unfold wAll at hw
 split at hw
 · rename_i xs;obtain⟨a,vs,ev,hq,r⟩:=rx.lst
   split at hw
   · rename_i bs eb;exact⟨a,bs,by rw [ev],Gx eb r▸hq,k _ _ _ hw (Same.refl _) rfl⟩
   · exact hw.elim
 · exact hw.elim) hg hm bt_all ha hs
theorem IM {p:Pos}(hc:∀z,(F z).calm=true)(hg:∀z,Gl (F z) "any")(hm:∀z,(F z).mg "any"=none)(ha:QR T K F e pe)(hs:E4 e=true:=by rfl)(hK:∀z,(F z).K=K:=by intro _;rfl):QE T K F (.Call (.Name "any" p) [e] [] pos) (qUn wAny pe):=Gw (fun z=>hK z▸Ng (hc z)) (fun G H x v R Q hf rx hw k=>by
 unfold wAny at hw
 split at hw
 · rename_i xs;obtain⟨a,vs,ev,hq,r⟩:=rx.lst
   split at hw
   · rename_i bs eb;exact⟨a,bs,by rw [ev],Gx eb r▸hq,k _ _ _ hw (Same.refl _) rfl⟩
   · exact hw.elim
 · exact hw.elim) hg hm bt_any ha hs
def X6:w1:=fun x R=>match x with | .lst xs=>R (.tup xs) | .tup xs=>R (.tup xs) | _=>False
theorem Br (hg:∀z,Gl (F z) "tuple")(hm:∀z,(F z).mg "tuple"=none)(ha:QR T K F e pe)(hs:E4 e=true:=by rfl)(hK:∀z,(F z).K=K:=by intro _;rfl):QE T K F (.Call (.Name "tuple" p) [e] [] pos) (qUn X6 pe):=IK (fun z=>hK z▸MS) (fun G H x v R Q hf rx hw k=>by
 unfold X6 at hw
 split at hw
 · obtain⟨a,vs,ev,hq,r⟩:=rx.lst;exact⟨a,vs,by rw [ev],.inl ⟨hq,fun l hl=>k _ _ _ hw (Same.lay1 hl) (Bn (hf l hl) hl r)⟩⟩
 · obtain⟨a,vs,ev,t,r⟩:=rx.rep (fun _ z=>nomatch z);exact⟨a,vs,by rw [ev],.inr ⟨t.sq,k _ _ _ hw (Same.refl _) ⟨a,vs,rfl,t,r⟩⟩⟩
 · exact hw.elim) hg hm Cu ha hs
def R5 (pe:pE):pA:=fun env n R=>pe env n fun x env1 n1=>match x with | .lst xs=>R xs env1 n1 | .tup xs=>R xs env1 n1 | .scr ns=>R (ns.map PV.int) env1 n1 | _=>False
theorem p8 (hg:∀z,Gl (F z) "list")(hm:∀z,(F z).mg "list"=none)(ha:QR T K F e pe)(hs:E4 e=true:=by rfl)(hK:∀z,(F z).K=K:=by intro _;rfl):QN T K F (.Call (.Name "list" p) [e] [] pos) (R5 pe):=by
 obtain⟨t,h1,h2⟩:=ha;refine⟨_,fun z=>Bj (hK z▸MR) (hg z) (hm z) Nj (E1 (h1 z) F8 (D0 hs)) (by decide) (by decide) (D0 hs),fun C G σ H env n R Q hK hT S hp k=>?_⟩;refine CA h2 hK hT S hp fun x env1 n1 v H1 p1 S1 r1 f1=>?_;have rd:RdV K G H1 x v:=hK▸r1.rd S1;cases x with
 | lst xs =>
   obtain⟨a,vs,ev,hq,r⟩:=rd.lst;exact⟨a,vs,by rw [ev],.inl hq,fun l hl=>k _ _ _ _ _ _ p1 S1 f1 hl r⟩
 | tup xs =>
   obtain⟨a,vs,ev,hq,r⟩:=rd.tup;exact⟨a,vs,by rw [ev],.inr hq,fun l hl=>k _ _ _ _ _ _ p1 S1 f1 hl r⟩
 | scr ns =>
   obtain⟨a,ev,hq⟩:=CB rd;exact⟨a,_,by rw [ev],.inl hq,fun l hl=>k _ _ _ _ _ _ p1 S1 f1 hl (II ns)⟩
 | _=>exact p1.elim
theorem tyw {X:Cx}{x:Str}{m:String}{pos:Pos}(hg:Gl X x)(hm:X.mg x=none)(hv:K6 x=some (.type m))(hn:x≠"__name__":=by decide)(hd:(x == ("__debug__":Str))=false:=by decide):EW X (.Name x pos) (tC (.ty m)):=⟨Ma (v:=.ty m) hg hm hv rfl hn hd⟩
def tyP:PV->Option String
 | .non=>some "NoneType"
 | .bl _=>some "bool"
 | .int _=>some "int"
 | .str _=>some "str"
 | .tup _=>some "tuple"
 | .lst _=>some "list"
 | .dct _ _=>some "dict"
 | _=>none
def isT (t n:String):Bool:=t == n || (t == "bool" && n == "int")
def wIsi (n:String):w1:=fun x R=>match tyP x with | some t=>R (.bl (isT t n)) | none=>False
theorem NB {K:A3}{t n:String}(ht:t∈["NoneType","bool","int","str","tuple","list","dict"])(hn:n∈["bool","int","str","tuple","list"]):BP K (.type t) (.type n)=some (isT t n):=by
 refine kit_of ?_;have:∀t∈["NoneType","bool","int","str","tuple","list","dict"],∀n∈["bool","int","str","tuple","list"],(if(K1 t == K1 n)=true then some true else if PySem.W.kitMeta n=true then(fastBuiltinMro t).map (·.contains (.type n)) else none)=some (isT t n):=by decide +kernel
 exact this t ht n hn
theorem e6 {p:Pos}{n:String}{b:Expr}(hn:n∈["bool","int","str","tuple","list"])(hg:∀z,Gl (F z) "isinstance")(hm:∀z,(F z).mg "isinstance"=none)(ha:QE T K F a pa)(hb:∀z,EW (F z) b (tC (.ty n)))(hs:E4 a=true:=by rfl)(hs2:E4 b=true:=by rfl)(hK:∀z,(F z).K=K:=by intro _;rfl):QE T K F (.Call (.Name "isinstance" p) [a,b] [] pos) (qUn (wIsi n) pa):=by
 obtain⟨t,h1,h2⟩:=ha;refine⟨_,fun z=>Z5 (hK z▸Nb) (hg z) (hm z) Nh (E1 (h1 z) (E1 (hb z).h F8 (D0 hs2)) (D0 hs)) (by decide) (by decide) (D0 hs) (by rw [D0 hs2];rfl),fun C G σ H env n' R Q hK hT S hp k=>?_⟩;refine h2 C G σ H env n' _ _ hK hT S hp fun x env1 n1 v H1 p1 S1 r1 f1=>?_;unfold wIsi at p1
 have fin:∀t,TyOf K H1 v (.type t)->tyP x=some t->t∈["NoneType","bool","int","str","tuple","list","dict"]->∃x' n'' t' b',[v,V.ty n]=[x',.ty n'']/\TyOf K H1 x' t'/\BP K t' (.type n'')=some b'/\Q (.bl b') H1:=by
   intro t ty e m;rw [e] at p1;exact⟨v,n,_,_,rfl,ty,NB m hn,k _ _ _ _ _ p1 S1 rfl f1⟩
 cases x with
 | non=>cases(show v=.non from r1);exact fin _ .non rfl (by decide)
 | bl b=>cases(show v=.bl b from r1);exact fin _ (.bl b) rfl (by decide)
 | int b=>cases(show v=.int b from r1);exact fin _ (.int b) rfl (by decide)
 | str b=>cases(show v=.str b from r1);exact fin _ (.str b) rfl (by decide)
 | tup xs=>obtain⟨a,vs,rfl,t,r⟩:=r1;exact fin _ (.tup t.2) rfl (by decide)
 | lst xs=>obtain⟨a,vs,rfl,t,r⟩:=r1;exact fin _ (.lst t.2) rfl (by decide)
 | dct ks xs=>obtain⟨a,kvs,rfl,_,t,r⟩:=r1;exact fin _ (.dK t) rfl (by decide)
 | ty n=>exact p1.elim
 | pot k=>exact p1.elim
 | fdt ks xs=>exact p1.elim
 | scr ns=>exact p1.elim
def wMin:w2:=fun x y R=>match x,y with | .int i,.int j=>R (.int (if j < i then j else i)) | _,_=>False
def wMax:w2:=fun x y R=>match x,y with | .int i,.int j=>R (.int (if j > i then j else i)) | _,_=>False
theorem IN (hw:W2 K (fun x y H Q=>r [x,y] H Q) w)(h:EOk K T t pa)(h':EOk K T u pb):EOk K T (tCB r (R0 t (R0 u tNil))) (qOp w pa pb):=fun C G σ H env n R Q hK hT S hp k=>by
 refine h C G σ H env n _ _ hK hT S hp fun x env1 n1 v H1 p1 S1 r1 f1=>?_;refine h' C G σ H1 env1 n1 _ _ hK hT S1 p1 fun y env2 n2 u H2 p2 S2 r2 f2=>?_;exact hw G H2 x y v u _ _ (fun p hp=>S2.fresh hp) (.inl (r1.fr f2)) (.inl r2) p2 fun z v' H' rz s rv=>k _ _ _ _ _ rz (S2.same s) rv ((f1.trans f2).trans (Fr.of s))
theorem qe_min (hc:∀z,(F z).calm=true)(hg:∀z,Gl (F z) "min")(hm:∀z,(F z).mg "min"=none)(ha:QE T K F a pa)(hb:QE T K F b pb)(hs:E4 a=true:=by rfl)(hs2:E4 b=true:=by rfl):QE T K F (.Call (.Name "min" p) [a,b] [] pos) (qOp wMin pa pb):=by
 obtain⟨t,h1,h2⟩:=ha;obtain⟨u,h3,h4⟩:=hb;refine⟨_,fun z=>Z5 (Mx (hc z)) (hg z) (hm z) bt_min (E1 (h1 z) (E1 (h3 z) F8 (D0 hs2)) (D0 hs)) (by decide) (by decide) (D0 hs) (by rw [D0 hs2];rfl),IN (fun G H x y v u R Q hf rx ry hw k=>?_) h2 h4⟩;unfold wMin at hw
 split at hw
 · exact⟨_,_,by rw [rx.int,ry.int],k _ _ _ hw (Same.refl _) rfl⟩
 · exact hw.elim
theorem qe_max {p:Pos}(hc:∀z,(F z).calm=true)(hg:∀z,Gl (F z) "max")(hm:∀z,(F z).mg "max"=none)(ha:QE T K F a pa)(hb:QE T K F b pb)(hs:E4 a=true:=by rfl)(hs2:E4 b=true:=by rfl):QE T K F (.Call (.Name "max" p) [a,b] [] pos) (qOp wMax pa pb):=by
 obtain⟨t,h1,h2⟩:=ha;obtain⟨u,h3,h4⟩:=hb;refine⟨_,fun z=>Z5 (Mw (hc z)) (hg z) (hm z) bt_max (E1 (h1 z) (E1 (h3 z) F8 (D0 hs2)) (D0 hs)) (by decide) (by decide) (D0 hs) (by rw [D0 hs2];rfl),IN (fun G H x y v u R Q hf rx ry hw k=>?_) h2 h4⟩;unfold wMax at hw
 split at hw
 · exact⟨_,_,by rw [rx.int,ry.int],k _ _ _ hw (Same.refl _) rfl⟩
 · exact hw.elim
def D9 (K:A3)(T:PotK)(f:pF):Sp:=fun vs H Q _=>∃(G:Gh) (xs:List PV) (n:Nat) (R:PV->Nat->Prop),(∀p∈G.pots,p∈G.M/\T.at_ G.M H p n)/\(∀a∈G.M,∃o,H a=some o/\MutO o)/\T.has G.pots/\Reps K G H xs vs/\f xs n R/\
 ∀r n' v H',R r n'->Rep K G H' r v->(∀p∈G.pots,T.at_ G.M H' p n')->(∀b o,b∉G.pots->H b=some o->H' b=some o)->Q v H'
def B0 (f:pF)(pa:pA):pE:=fun env n R=>pa env n fun xs env1 n1=>f xs n1 fun r n2=>R r env1 n2
theorem SR.call (S:SR C G σ H env n)(hk:∀b o,b∉G.pots->H b=some o->H' b=some o)(hp:∀p∈G.pots,C.T.at_ G.M H' p n'):SR C G σ H' env n' where
 frame b o hb e:=by
   by_cases hp:b∈G.pots
   · -- a pot that is new since the entry has no old object
     obtain⟨l,el,_⟩:=S.pre;rw [el] at hp;rcases F9.mp hp with z | z
     · exact absurd z hb
     · have hM:=(S.pots b (by rw [el];exact hp)).1;rcases S.sub b hM with z2 | z2
       · exact(S.newp b (by rw [el];exact hp) hb z2).elim
       · rw [z2] at e;cases e
   · exact hk b o hp (S.frame b o hb e)
 sub:=S.sub
 sup:=S.sup
 pots p h:=⟨(S.pots p h).1,hp p h⟩
 pre:=S.pre
 mu a ha:=by
   by_cases h:a∈G.pots
   · exact C.T.mu (hp a h)
   · obtain⟨o,e,m⟩:=S.mu a ha;exact⟨o,hk a o h e,m⟩
 slots i x e:=by
   have f:Fr G H H':=fun b o hb he=>hk b o (fun z=>hb (S.pots b z).1) he;have:=S.slots i x e;cases x with
   | v x =>
     obtain⟨v,e1,r⟩:=this;exact⟨v,e1,r.fr f⟩
   | ow kk xs =>
     obtain⟨a,vs,e1,h1,h2,h3,h4,r⟩:=this;exact⟨a,vs,e1,h1,h2,h3,hk _ _ h3 h4,r.fr f⟩
 inj:=S.inj
 p0:=S.p0
 len:=S.len
 newp:=S.newp
theorem qe_fn (hG:∀z,Kn (F z).prog (F z).w (F z).K (F z).mg (F z).base x k ps (D9 K T f))(hr:∀z,Room j (F z).A)(hk:k<=j)(hg:∀z,Gl (F z) x)(ha:QA T K F (e::es) pl)(hdb:(x == ("__debug__":Str))=false:=by decide)
   (hs:E4 e=true:=by rfl) (hpl:∀z,(backTo pos (E3 es (F z).env)).any (·.1)=false:=by intro _;rfl):QE T K F (.Call (.Name x p) (e::es) [] pos) (B0 f pl):=by
 obtain⟨t,h1,h2⟩:=ha;refine⟨_,fun z=>pe_fn (hG z) (hr z) hk (hg z) (h1 z) hdb (D0 hs) (hpl z),fun C G σ H env n R Q hK hT S hp k=>?_⟩;refine h2 C G σ H env n _ _ hK hT S hp fun xs env1 n1 vs H1 p1 S1 r1 f1=>?_;subst hT;rw [S6];refine⟨G,xs,n1,_,fun p hp=>S1.pots p hp,S1.mu,S1.hasG,r1,p1,fun r n' v H' rr rv hp hk'=>?_⟩;exact k _ _ _ _ _ rr (S1.call hk' hp) rv (f1.trans fun b o hb e=>hk' b o (fun z=>hb (S1.pots b z).1) e)
end
end Pu
end
section
namespace Pu
open PySem PySem.Spec L2
abbrev pG:=PV->Env->(Env->Prop)->Prop
abbrev pGs:=List PV->Env->(Env->Prop)->Prop
def GOk (K:A3)(g:TG)(pg:pG):Prop:=∀(C:Ct) (G:Gh) (σ:St) (H:Hp) (env:Env) (n:Nat) (x:PV) (v:V) (R:Env->Prop) (Q:St->Hp->Prop),C.K=K->SR C G σ H env n->Rep K G H x v->pg x env R->
 (∀env' σ',R env'->SR C G σ' H env' n->Q σ' H)->g v σ H Q
def GsOk (K:A3)(g:TGs)(pg:pGs):Prop:=∀(C:Ct) (G:Gh) (σ:St) (H:Hp) (env:Env) (n:Nat) (x:List PV) (v:List V) (R:Env->Prop) (Q:St->Hp->Prop),C.K=K->SR C G σ H env n->Reps K G H x v->pg x env R->
 (∀env' σ',R env'->SR C G σ' H env' n->Q σ' H)->g v σ H Q
def QG {ι:Type}(K:A3)(F:ι->Cx)(e:Expr)(pg:pG):Prop:=∃g,(∀z,PG (F z) e g)/\GOk K g pg
def QGs {ι:Type}(K:A3)(F:ι->Cx)(e:List Expr)(pg:pGs):Prop:=∃g,(∀z,PGs (F z) e g)/\GsOk K g pg
def gN (i:Nat):pG:=fun x env R=>R (env.set i (some (.v x)))
def gNl:pGs:=fun xs env R=>match xs with | []=>R env | _=>False
def gCn (g:pG)(r:pGs):pGs:=fun xs env R=>match xs with | x::xs=>g x env fun env1=>r xs env1 R | []=>False
def gTp (k:Nat)(g:pGs):pG:=fun x env R=>match x with | .tup xs=>xs.length=k/\g xs env R | _=>False
theorem SR.set (S:SR C G σ H env n)(i:Nat)(r:Rep C.K G H x v):SR C G (σ.set i (some v)) H (env.set i (some (.v x))) n where
 frame:=S.frame
 sub:=S.sub
 sup:=S.sup
 pots:=S.pots
 pre:=S.pre
 mu:=S.mu
 slots j s e:=by
   by_cases h:i=j
   · subst h
     by_cases hl:i < env.length
     · rw [M6 hl] at e;cases e;exact⟨v,by rw [M6 (by rw [<- S.len];exact hl)],r⟩
     · rw [Q8 (by rw [O1];omega)] at e;cases e
   · rw [O4 h] at e ⊢;exact S.slots j s e
 inj j k xs ys a e1 e2 e3 e4:=by
   have nj:∀(j:Nat) (xs:OK×List PV),(env.set i (some (.v x)))[j]?=some (some (Slot.ow xs.1 xs.2))->i≠j:=by
     intro j xs e h;subst h
     by_cases hl:i < env.length
     · rw [M6 hl] at e;cases e
     · rw [Q8 (by rw [O1];omega)] at e;cases e
   have n1:=nj j xs e1;have n2:=nj k ys e2;rw [O4 n1] at e1 e3;rw [O4 n2] at e2 e4;exact S.inj j k xs ys a e1 e2 e3 e4
 p0:=S.p0
 len:=by rw [O1,O1];exact S.len
 newp:=S.newp
section
variable {T:PotK}{ι:Type}{K:A3}{F:ι->Cx}{e a b c:Expr}{es rest:List Expr}{pe pa pb pc:pE}{pos:Pos}{pl pr:pA}{pg:pG}{pgs:pGs}{pt:pT}
theorem Z7 (i:Nat)(hN:X.N.Nodup)(hi:X.N[i]?=some x)(hx:Loc X.env.scope x)(hf:X.fn x=true\/X.env.scope.names.lookup x=some .local:=by first | exact .inl rfl | exact .inr rfl | assumption):GW X (.Name x pos) (K8 i):=⟨Md hN hi hx hf⟩
theorem NC (h:∀z,GW (F z) (.Name x pos) (K8 i)):QG K F (.Name x pos) (gN i):=⟨_,fun z=>(h z).h,fun C G σ H env n x v R Q hK S r hp k=>k _ _ hp (S.set i (hK▸r))⟩
theorem X7:QGs K F [] gNl:=⟨_,fun _=>FM,fun C G σ H env n x v R Q hK S r hp k=>by
 cases x with
 | nil=>exact⟨r,k _ _ hp S⟩
 | cons _ _=>exact hp.elim⟩
theorem L0 (h1:QG K F e pg)(h2:QGs K F es pgs)(hs:∀z,(J0 (e::es) (F z).env).map (·.2)=assign e (F z).env::(J0 es (F z).env).map (·.2):=by intro _;rfl):QGs K F (e::es) (gCn pg pgs):=by
 obtain⟨g,a1,a2⟩:=h1;obtain⟨gs,b1,b2⟩:=h2;refine⟨_,fun z=>DX (a1 z) (b1 z) (hs z),fun C G σ H env n x v R Q hK S r hp k=>?_⟩;cases x with
 | nil=>exact hp.elim
 | cons x xs =>
   obtain⟨u,us,rfl,ru,rs⟩:=r;exact⟨u,us,rfl,a2 C G σ H env n x u _ _ hK S ru hp fun env' σ' re S'=>b2 C G σ' H env' n xs us _ _ hK S' rs re k⟩
theorem Z8 (hc:∀z,(F z).calm=true)(h:QGs K F es pgs)(hn:∀z,(J0 es (F z).env).length=m:=by intro _;rfl)(hst:∀z,(J0 es (F z).env).findIdx? (·.1)=none:=by intro _;rfl)(hK:∀z,(F z).K=K:=by intro _;rfl):QG K F (.Tuple es k pos) (gTp m pgs):=by
 obtain⟨g,a1,a2⟩:=h;refine⟨_,fun z=>hK z▸FN (hc z) (a1 z) (hn z) (hst z),fun C G σ H env n x v R Q hK S r hp k=>?_⟩;cases x with
 | tup xs =>
   obtain⟨a,vs,rfl,t,rs⟩:=r;exact⟨a,vs,rfl,t.sq,by rw [<- rs.length];exact hp.1,a2 C G σ H env n xs vs _ _ hK S rs hp.2 k⟩
 | _=>exact hp.elim
def ItR (K:A3)(G:Gh)(H:Hp)(J:It)(xs:List PV):Prop:=∀(G2:Gh) (H2:Hp),(∀b o,b∉G.M->H b=some o->H2 b=some o)->(∀a∈G2.M,a∈G.M\/H a=none)->(∀(k:Nat) (p:Addr),G.pots[k]?=some p->G2.pots[k]?=some p)->(∀p,H2 p=none->p∉G2.M)->
 (∀(i:Nat) x,xs[i]?=some x->J.go i H2/\∀v H3,J.yld i H2 v H3->Same H2 H3/\Rep K G2 H3 x v)/\∀i,xs.length<=i->J.stop i H2
def IOk (K:A3)(T:PotK)(wi:TI)(pi:pA):Prop:=∀(C:Ct) (G:Gh) (σ:St) (H:Hp) (env:Env) (n:Nat) (R:List PV->Env->Nat->Prop) (Q:It->Hp->Prop),C.K=K->C.T=T->SR C G σ H env n->pi env n R->
 (∀xs env' n' J H',R xs env' n'->SR C G σ H' env' n'->Fr G H H'->ItR K G H' J xs->Q J H')->wi σ H Q
def QI {ι:Type}(T:PotK)(K:A3)(F:ι->Cx)(tg iter:Expr)(pi:pA):Prop:=∃wi,(∀z,PI (F z) tg iter wi)/\IOk K T wi pi
variable {tg:Expr}
theorem ND {a:Addr}(t:AtL G.M H a vs)(r:Reps K G H xs vs):ItR K G H (Itl K a) xs:=by
 intro G2 H2 hk hM hp hf;have hq:SqL K H2 a vs:=SqL.of (hk a _ t.1 t.2);have r2:Reps K G2 H2 xs vs:=Reps.mono hk hM hp _ _ r;refine⟨fun i x e=>?_,fun i hi=>⟨vs,hq,by rw [<- r.length];exact hi⟩⟩;obtain⟨v,ev,rv⟩:=r2.get' e;refine⟨⟨vs,v,hq,ev⟩,fun v' H3 y=>?_⟩;obtain⟨e3,y⟩:=y;subst e3;have:=y vs hq;rw [ev] at this;cases this;exact⟨Same.refl _,rv⟩
theorem NE {a:Addr}(t:AtT G.M H a vs)(r:Reps K G H xs vs):ItR K G H (Itt K a) xs:=by
 intro G2 H2 hk hM hp hf;have hq:SqT K H2 a vs:=SqT.of (hk a _ t.1 t.2);have r2:Reps K G2 H2 xs vs:=Reps.mono hk hM hp _ _ r;refine⟨fun i x e=>?_,fun i hi=>⟨vs,hq,by rw [<- r.length];exact hi⟩⟩;obtain⟨v,ev,rv⟩:=r2.get' e;refine⟨⟨vs,v,hq,ev⟩,fun v' H3 y=>?_⟩;obtain⟨e3,y⟩:=y;subst e3;have:=y vs hq;rw [ev] at this;cases this;exact⟨Same.refl _,rv⟩
def qIl (pe:pE):pA:=fun env n R=>pe env n fun x env1 n1=>match x with | .lst xs=>R xs env1 n1 | _=>False
def qIt (pe:pE):pA:=fun env n R=>pe env n fun x env1 n1=>match x with | .tup xs=>R xs env1 n1 | _=>False
theorem Ah (h:QE T K F e pe)(hK:∀z,(F z).K=K:=by intro _;rfl):QI T K F tg e (qIl pe):=by
 obtain⟨t,h1,h2⟩:=h;refine⟨_,fun z=>hK z▸Mi (h1 z),fun C G σ H env n R Q hK hT S hp k=>?_⟩;refine h2 C G σ H env n _ _ hK hT S hp fun x env1 n1 v H1 p1 S1 r1 f1=>?_;cases x with
 | lst xs =>
   obtain⟨a,vs,rfl,t,r⟩:=r1;exact⟨a,rfl,⟨vs,t.sq⟩,k _ _ _ _ _ p1 S1 f1 (ND t r)⟩
 | _=>exact p1.elim
theorem Z9 (h:QE T K F e pe)(hK:∀z,(F z).K=K:=by intro _;rfl):QI T K F tg e (qIt pe):=by
 obtain⟨t,h1,h2⟩:=h;refine⟨_,fun z=>hK z▸pi_tup (h1 z),fun C G σ H env n R Q hK hT S hp k=>?_⟩;refine h2 C G σ H env n _ _ hK hT S hp fun x env1 n1 v H1 p1 S1 r1 f1=>?_;cases x with
 | tup xs =>
   obtain⟨a,vs,rfl,t,r⟩:=r1;exact⟨a,rfl,⟨vs,t.sq⟩,k _ _ _ _ _ p1 S1 f1 (NE t r)⟩
 | _=>exact p1.elim
theorem NF (lo:Int)(m:Nat):ItR K G H (Itr lo m) ((E6 m).map fun(k:Nat)=>PV.int (lo + k)):=by
 intro G2 H2 hk hM hp hf;refine⟨fun i x e=>?_,fun i hi=>(show m<=i by simpa using hi)⟩;rw [F4] at e;cases e1:(E6 m)[i]? with
 | none=>rw [e1] at e;cases e
 | some j =>
   rw [e1] at e;cases e;obtain⟨hi,e2⟩:=D7.mp e1;rw [List.getElem_range] at e2;subst e2;refine⟨(show i < m by simpa using hi),fun v H3 y=>?_⟩;obtain⟨e3,y⟩:=y;subst e3 y;exact⟨Same.refl _,rfl⟩
def e7 (pe:pE):pA:=fun env n R=>pe env n fun x env1 n1=>match x with | .int j=>(-1000000<=j/\j<=1000000)/\R ((E6 j.toNat).map fun(k:Nat)=>PV.int (0 + k)) env1 n1 | _=>False
theorem Ai (hg:∀z,Gl (F z) "range")(hm:∀z,(F z).mg "range"=none)(h:QE T K F e pe)(hs:E4 e=true:=by rfl):QI T K F tg (.Call (.Name "range" p) [e] [] pos) (e7 pe):=by
 obtain⟨t,h1,h2⟩:=h;refine⟨_,fun z=>Ml (hg z) (hm z) (E1 (h1 z) F8 (D0 hs)) (by rw [D0 hs];rfl),fun C G σ H env n R Q hK hT S hp k=>?_⟩;refine CA (pe:=pe) (fun C G σ H env n R Q hK hT S hp k=>h2 C G σ H env n R Q hK hT S hp fun x env' n' v H' r S' rp f=>k x env' n' v H' r S' (.inl (hK▸rp)) f) hK hT S hp fun x env1 n1 v H1 p1 S1 r1 f1=>?_;cases x with
 | int j=>exact⟨j,by rw [(r1.rd S1).int],by omega,by omega,k _ _ _ _ _ p1.2 S1 f1 (NF 0 _)⟩
 | _=>exact p1.elim
def qIs (pe:pE):pA:=fun env n R=>pe env n fun x env1 n1=>match x with | .str z=>z.cps.all (· < 128)=true/\R (z.cps.toList.map fun c=>.str ⟨#[c]⟩) env1 n1 | _=>False
theorem qi_str (h:QE T K F e pe):QI T K F tg e (qIs pe):=by
 obtain⟨t,h1,h2⟩:=h;refine⟨_,fun z=>pi_str (h1 z),fun C G σ H env n R Q hK hT S hp k=>?_⟩;refine h2 C G σ H env n _ _ hK hT S hp fun x env1 n1 v H1 p1 S1 r1 f1=>?_;cases x with
 | str z =>
   refine⟨z,r1,p1.1,k _ _ _ _ _ p1.2 S1 f1 ?_⟩;intro G2 H2 hk hM hp hf;refine⟨fun i x e=>?_,fun i hi=>(show z.cps.toList.length<=i by simpa using hi)⟩;rw [F4] at e;cases e1:z.cps.toList[i]? with
   | none=>rw [e1] at e;cases e
   | some c =>
     rw [e1] at e;cases e;obtain⟨hi,_⟩:=D7.mp e1;refine⟨hi,fun v H3 y=>?_⟩;obtain⟨e3,c',ec,ev⟩:=y;subst e3 ev;rw [e1] at ec;cases ec;exact⟨Same.refl _,rfl⟩
 | _=>exact p1.elim
def p9 (xs:List PV):List PV:=xs.zipIdx.map fun y=>.tup [.int (y.2:Nat),y.1]
theorem IP {xs:List PV}{i:Nat}{x:PV}(h:(p9 xs)[i]?=some x):∃y,xs[i]?=some y/\x=.tup [.int (i:Nat),y]:=by
 unfold p9 at h;rw [F4,List.getElem?_zipIdx] at h;cases e:xs[i]? with
 | none=>rw [e] at h;cases h
 | some y =>
   rw [e] at h;cases h;exact⟨y,rfl,by simp⟩
theorem Gy (xs:List PV):(p9 xs).length=xs.length:=by unfold p9;simp
def capS:Option (Option Slot)->Option Slot
 | some (some (.v x))=>some (.v x)
 | _=>none
def capV (cs:List (Option Nat))(env:Env):Env:=cs.map fun o=>o.bind fun j=>capS (env[j]?)
def O7 (g:pG)(tt:pT)(te:pE):List PV->Env->Nat->(List PV->Nat->Prop)->Prop
 | [],_,n,R=>R [] n
 | x::xs,env,n,R=>g x env fun env1=>tt env1 n fun b env2 n2=>if b=true then te env2 n2 fun y env3 n3=>O7 g tt te xs env3 n3 fun ys n4=>R (y::ys) n4 else O7 g tt te xs env2 n2 R
def qTru:pT:=fun env n R=>R true env n
def O8 (cs:List (Option Nat))(pi:pA)(g:pG)(tt:pT)(te:pE):pA:=fun env n R=>pi env n fun xs env1 n1=>xs.length<=1000000/\O7 g tt te xs (capV cs env1) n1 fun ys n2=>R ys env1 n2
structure Inn (K:A3)(T:PotK)(G:Gh)(σ:St)(H:Hp)(env:Env)(n:Nat):Prop where
 pots:∀p∈G.pots,p∈G.M/\T.at_ G.M H p n
 has:T.has G.pots
 mu:∀a∈G.M,∃o,H a=some o/\MutO o
 slots:∀(i:Nat) (s:Slot),env[i]?=some (some s)->∃x v,s=.v x/\σ[i]?=some (some v)/\Rep K G H x v
 len:env.length=σ.length
theorem Inn.sr (I:Inn K T G σ H env n):SR ⟨K,T,G.M,G.pots,H,false⟩ G σ H env n where
 frame b o _ e:=e
 sub a ha:=.inl ha
 sup a ha:=ha
 pots:=I.pots
 pre:=⟨[],by simp,.inl rfl⟩
 mu:=I.mu
 slots i s e:=by
   obtain⟨x,v,rfl,ev,r⟩:=I.slots i s e;exact⟨v,ev,r⟩
 inj i j xs ys a e1:=by
   obtain⟨x,v,z,_⟩:=I.slots i _ e1;cases z
 p0:=⟨fun p hp=>(I.pots p hp).1,I.has⟩
 len:=I.len
 newp p hp hn:=absurd hp hn
theorem SR.inn (S:SR ⟨K,T,G.M,G.pots,H0,false⟩ G σ H env n):Inn K T G σ H env n where
 pots:=S.pots
 has:=S.hasG
 mu:=S.mu
 slots i s e:=by
   cases s with
   | v x =>
     obtain⟨v,ev,r⟩:=S.slots i _ e;exact⟨x,v,rfl,ev,r⟩
   | ow kk xs =>
     obtain⟨a,vs,ev,h1,h2,_⟩:=S.slots i _ e;exact absurd h1 h2
 len:=S.len
theorem NG:TOk K T tTru qTru:=fun C G σ H env n R Q hK hT S hp k=>k _ _ _ _ hp S Fr.refl
structure CI (K:A3)(T:PotK)(G:Gh)(H1:Hp)(D:Addr)(σ:St)(H:Hp)(env:Env)(n:Nat)(acc:List PV)(us:List V):Prop where
 inn:Inn K T ⟨D::G.M,G.pots⟩ σ H env n
 kp:∀b o,b∉G.pots->H1 b=some o->H b=some o
 eD:H D=some (.lst us)
 ra:Reps K ⟨D::G.M,G.pots⟩ H acc us
theorem CI.start {K:A3}{T:PotK}{G:Gh}{H1:Hp}{D:Addr}{σ:St}{env:Env}{n:Nat}(hD:H1 D=none)(I0:Inn K T G σ H1 env n):CI K T G H1 D σ (upd H1 D (.lst [])) env n [] []:=by
 have lay:∀b o,H1 b=some o->upd H1 D (.lst []) b=some o:=fun b o e=>Same.lay1 hD b o e;have new:∀a,a∈D::G.M->a∈G.M\/H1 a=none:=fun a ha=>(C5.mp ha).elim (fun z=>.inr (z▸hD)) .inl;refine⟨⟨fun p hp=>⟨C3 _ (I0.pots p hp).1,?_⟩,I0.has,fun a ha=>?_,fun i s e=>?_,I0.len⟩,fun b o _ e=>lay b o e,E8,rfl⟩
 · have h1:=T.more (M':=D::G.M) (I0.pots p hp).2 new;obtain⟨o,e,_⟩:=T.mu h1;exact T.keep h1 (by rw [e,lay p o e]) fun b o _ e=>lay b o e
 · rcases C5.mp ha with rfl | ha
   · exact⟨_,E8,trivial⟩
   · obtain⟨o,e,m⟩:=I0.mu a ha;exact⟨o,lay a o e,m⟩
 · obtain⟨x,v,rfl,ev,r⟩:=I0.slots i s e;exact⟨x,v,rfl,ev,Rep.mono (G':=⟨D::G.M,G.pots⟩) (fun b o _ e=>lay b o e) new (fun _ _ e=>e) _ _ r⟩
theorem CI.go {K:A3}{T:PotK}{G:Gh}{H1:Hp}{D:Addr}{σ σ':St}{H H':Hp}{env env':Env}{n n':Nat}{acc:List PV}{us:List V}(c:CI K T G H1 D σ H env n acc us)(nD:D∉G.pots)(S:SR ⟨K,T,D::G.M,G.pots,H,false⟩ ⟨D::G.M,G.pots⟩ σ' H' env' n'):CI K T G H1 D σ' H' env' n' acc us:=
 ⟨S.inn,fun b o hb e=>S.frame b o hb (c.kp b o hb e),S.frame D _ nD c.eD,Reps.mono (fun b o hb e=>S.frame b o (fun z=>hb (c.inn.pots b z).1) e) (fun a ha=>.inl ha) (fun _ _ e=>e) _ _ c.ra⟩
theorem CI.fD {G:Gh}(o:HO):Fr ⟨D::G.M,G.pots⟩ H (upd H D o):=fun b u hb e=>by
 rw [B6 (fun z=>hb (by rw [z];exact B8))];exact e
theorem CI.add {K:A3}{T:PotK}{G:Gh}{H1:Hp}{D:Addr}{σ:St}{H:Hp}{env:Env}{n:Nat}{acc:List PV}{us:List V}{y:PV}{u:V}(c:CI K T G H1 D σ H env n acc us)(nD:D∉G.pots)(hD:H1 D=none)(r:Rep K ⟨D::G.M,G.pots⟩ H y u):CI K T G H1 D σ (upd H D (.lst (us++[u]))) env n (acc++[y]) (us++[u]):=by
 refine⟨⟨fun p hp=>⟨(c.inn.pots p hp).1,T.keep (c.inn.pots p hp).2 (B6 fun z=>nD (by rw [<- z];exact hp)) (CI.fD _)⟩,c.inn.has,fun a ha=>?_,fun q s e=>?_,c.inn.len⟩,fun b o hb e=>?_,E8,(c.ra.append (.one r)).fr (CI.fD _)⟩
 · by_cases haD:a=D
   · subst haD;exact⟨_,E8,trivial⟩
   · rw [B6 haD];exact c.inn.mu a ha
 · obtain⟨x,v,rfl,ev,r⟩:=c.inn.slots q s e;exact⟨x,v,rfl,ev,r.fr (CI.fD _)⟩
 · rw [B6 (fun z=>by rw [z,hD] at e;cases e)];exact c.kp b o hb e
theorem CI.it {K:A3}{T:PotK}{G:Gh}{H1:Hp}{D:Addr}{σ:St}{H:Hp}{env:Env}{n:Nat}{acc:List PV}{us:List V}{J:It}{xs:List PV}(c:CI K T G H1 D σ H env n acc us)(hD:H1 D=none)(hJ:ItR K G H1 J xs):(∀(i:Nat) x,xs[i]?=some x->J.go i H/\∀v H3,J.yld i H v H3->Same H H3/\Rep K ⟨D::G.M,G.pots⟩ H3 x v)/\∀i,xs.length<=i->J.stop i H:=
 hJ ⟨D::G.M,G.pots⟩ H (fun b o hb e=>by
   by_cases z:b∈G.pots
   · obtain⟨h1,_⟩:=c.inn.pots b z;rcases C5.mp h1 with rfl | h1
     · rw [hD] at e;cases e
     · exact absurd h1 hb
   · exact c.kp b o z e) (fun a ha=>(C5.mp (show a∈D::G.M from ha)).elim (fun z=>.inr (z▸hD)) .inl) (fun _ _ e=>e) fun p hp=>c.inn.sr.fresh hp
theorem IQ {K:A3}{T:PotK}{J:It}{g:TG}{tt:TT}{te:TE}{pg:pG}{ptt:pT}{pte:pE}(hg:GOk K g pg)(ht:TOk K T tt ptt)(he:EOk K T te pte){G:Gh}{H1:Hp}{xs:List PV}(hJ:ItR K G H1 J xs)(hl:xs.length<=1000000)
   {σc:St} {env:Env} {n:Nat} {R:List PV->Nat->Prop} {Q:VK} {D:Addr} (hD:H1 D=none) (I0:Inn K T G σc H1 env n) (hp:O7 pg ptt pte xs env n R)
   (hQ:∀ys n' us H',R ys n'->(∀p∈G.pots,T.at_ (D::G.M) H' p n')->(∀b o,b∉G.pots->H1 b=some o->H' b=some o)->H' D=some (.lst us)->Reps K ⟨D::G.M,G.pots⟩ H' ys us->Q (.ref D) H') :
   CompW J g tt te Q D σc (upd H1 D (.lst [])):=by
 have nD:D∉G.pots:=fun z=>I0.sr.fresh hD (I0.pots D z).1;refine⟨fun i m σ H=>m=xs.length - i/\i<=xs.length/\∃env n acc us,CI K T G H1 D σ H env n acc us/\acc.length<=i/\O7 pg ptt pte (xs.drop i) env n fun ys n'=>R (acc++ys) n',⟨xs.length,rfl,G0 _,env,n,[],[],.start hD I0,B3 _,hp⟩,?_⟩;rintro i m σ H ⟨rfl,hi,env,n,acc,us,c,la,hc⟩;obtain⟨hgo,hstop⟩:=c.it hD hJ
 by_cases hlt:i < xs.length
 · obtain⟨g1,g2⟩:=hgo i _ (C4 hlt);refine .inr ⟨g1,fun v H2 y=>?_⟩;obtain⟨s2,rv⟩:=g2 v H2 y;rw [AL hlt] at hc;refine hg _ _ σ H2 env n xs[i] v _ _ rfl (c.inn.sr.same s2) rv hc fun env1 σ1 hc1 S2=>?_;refine ht _ _ σ1 H2 env1 n _ _ rfl rfl S2 hc1 fun b env2 n2 H4 hc2 S4 f4=>?_;cases b with
   | false=>exact⟨xs.length - (i + 1),B_ _ _ hlt,rfl,hlt,env2,n2,acc,us,c.go nD S4,DC la,hc2⟩
   | true =>
     refine he _ _ σ1 H4 env2 n2 _ _ rfl rfl S4 hc2 fun y env3 n3 u H5 hc3 S5 r5 f5=>?_;have c5:=c.go nD S5;refine⟨us,c5.eD,by rw [<- c.ra.length];exact mil' (by omega),xs.length - (i + 1),B_ _ _ hlt,rfl,hlt,env3,n3,acc++[y],us++[u],c5.add nD hD r5,by rw [D4,N4];omega,?_⟩;simp only [P1];exact hc3
 · obtain rfl:i=xs.length:=Nat.le_antisymm hi (AT hlt);refine .inl ⟨hstop _ (B3 _),?_⟩;rw [BW] at hc;have hc':R (acc++[]) n:=hc;rw [S6] at hc';exact hQ _ n us H hc' (fun p hp=>(c.inn.pots p hp).2) c.kp c.eD c.ra
end
end Pu
end
section
namespace Pu
open PySem PySem.Spec L2
section
variable {T:PotK}{ι:Type}{K:A3}{F:ι->Cx}{e a b c:Expr}{es rest:List Expr}{pe pa pb pc:pE}{pos:Pos}{pl pr:pA}{pg:pG}{pgs:pGs}{pt:pT}
def QIf {ι:Type}(T:PotK)(K:A3)(F:ι->Cx)(ifs:List Expr)(pt:pT):Prop:=∃t,(∀z,PIf (F z) ifs t)/\TOk K T t pt
theorem e9:QIf T K F [] qTru:=⟨_,fun _=>M_,NG⟩
theorem Bs (h:QT T K F c pt):QIf T K F [c] pt:=let ⟨t,h1,h2⟩:=h;⟨t,fun z=>Na (h1 z),h2⟩
theorem Gz {C:Ct}{G:Gh}{σ:St}{H:Hp}{env:Env}{n:Nat}(S:SR C G σ H env n)(cs:List (Option Nat)):Inn C.K C.T G (Bk cs σ) H (capV cs env) n where
 pots:=S.pots
 has:=S.hasG
 mu:=S.mu
 len:=by simp [capV,Bk]
 slots i s e:=by
   unfold capV at e;rw [F4] at e;cases ec:cs[i]? with
   | none=>rw [ec] at e;cases e
   | some o =>
     rw [ec] at e;cases o with
     | none=>cases e
     | some j =>
       have e':capS (env[j]?)=some s:=by simpa using e
       unfold capS at e'
       split at e'
       · rename_i x ex;cases e';obtain⟨v,ev,r⟩:=S.slots j _ ex;refine⟨x,v,rfl,?_,r⟩;unfold Bk;rw [F4,ec];simp [ev]
       · cases e'
def cutH (H:Hp)(D:Addr):Hp:=fun b=>if b=D then none else H b
theorem T8 {H:Hp}{D b:Addr}(h:b≠D):cutH H D b=H b:=if_neg h
theorem GA {H:Hp}{D:Addr}{o:HO}(h:H D=some o):upd (cutH H D) D o=H:=by
 funext b
 by_cases hb:b=D
 · subst hb;rw [E8,h]
 · rw [B6 hb,T8 hb]
theorem a9 {scope:Scope}{cl:ι->List (Str×Addr)}{N:List Str}{cs:List (Option Nat)}{elt tg iter:Expr}{ifs:List Expr}{pi:pA}{ptt:pT}{pte:pE}(S:∀z,p5 (F z) scope (cl z) N cs)(hc:∀z,(F z).calm=true)(hi:QI T K F tg iter pi)
   (hg:QG K (fun y:ι×List Addr×Addr×Shared×Hp=>F3 (F y.1) scope (cl y.1) N y.2.1 y.2.2.1 y.2.2.2.1 y.2.2.2.2) tg pg) (ht:QIf T K (fun y:ι×List Addr×Addr×Shared×Hp=>F3 (F y.1) scope (cl y.1) N y.2.1 y.2.2.1 y.2.2.2.1 y.2.2.2.2) ifs ptt)
   (he:QE T K (fun y:ι×List Addr×Addr×Shared×Hp=>F3 (F y.1) scope (cl y.1) N y.2.1 y.2.2.1 y.2.2.2.1 y.2.2.2.2) elt pte)
   (hs:∀z x,T9 iter (F z).env x=pure x:=by intro _ _;rfl):QN T K F (.ListComp elt [⟨tg,iter,ifs,0⟩] scope pos) (O8 cs pi pg ptt pte):=by
 obtain⟨wi,i1,i2⟩:=hi;obtain⟨g,hg0,hg⟩:=hg;obtain⟨tt,ht0,ht⟩:=ht;obtain⟨te,he0,he⟩:=he;refine⟨_,fun z=>Io (S z) (hc z) (i1 z) (fun fp C s H=>⟨hg0 (z,fp,C,s,H),ht0 (z,fp,C,s,H),he0 (z,fp,C,s,H)⟩) (hs z),fun C G σ H env n R Q hK hT S hp k=>?_⟩;refine i2 C G σ H env n _ _ hK hT S hp fun xs env1 n1 J H1 p1 S1 f1 hJ=>?_;intro D hD;have hDM:=S1.fresh hD;refine IQ (G:=G) hg ht he hJ p1.1 hD (hT▸hK▸Gz S1 cs) p1.2 fun ys n2 us H' rr hpots hk eD ry=>?_
 -- the heap without D
 have nD:∀b o,H1 b=some o->b≠D:=fun b o e z=>by rw [z,hD] at e;cases e
 have hD0:C.H0 D=none:=by
   cases z:C.H0 D with
   | none=>rfl
   | some o =>
     by_cases hp:D∈C.pots0
     · exact absurd (S1.sup D (S1.p0.1 D hp)) hDM
     · have:=S1.frame D o hp z;rw [hD] at this;cases this
 have hk2:∀b o,b∉G.pots->H1 b=some o->cutH H' D b=some o:=fun b o hb e=>by rw [T8 (nD b o e)];exact hk b o hb e
 have nc:∀b,b∉D::G.M->b≠D:=fun b hb z=>hb (by rw [z];exact B8);have np:∀p∈G.pots,p≠D:=fun p hp z=>hDM (z▸(S1.pots p hp).1)
 have Sb:SR C G σ (cutH H' D) env1 n2:=S1.call hk2 fun p hp=>by
   subst hT;have h2:=C.T.keep (hpots p hp) (H':=cutH H' D) (T8 (np p hp)) fun b o hb e=>by rw [T8 (nc b hb)];exact e
   exact C.T.more h2 fun a ha=>.inl (C3 _ ha)
 have:=k ys env1 n2 D us (cutH H' D) rr Sb (f1.trans fun b o hb e=>hk2 b o (fun z=>hb (S1.pots b z).1) e) (by unfold cutH;rw [if_pos rfl]) ?_
 · rw [GA eD] at this;exact this
 · exact Reps.mono (G:=⟨D::G.M,G.pots⟩) (fun b o hb e=>by rw [T8 (nc b hb)];exact e) (fun a ha=>.inl (C3 _ ha)) (fun _ _ e=>e) _ _ ry
end
end Pu
end
section
namespace Pu
open PySem PySem.Spec L2
structure Aj where
 nx:Env->Nat->Prop
 rt:PV->Nat->Prop
 bk:Env->Nat->Prop:=fun _ _=>False
 ct:Env->Nat->Prop:=fun _ _=>False
abbrev pS:=Aj->Env->Nat->Prop
structure Ext (G:Gh)(H:Hp)(G':Gh)(H':Hp):Prop where
 keep:∀b o,b∉G.M->H b=some o->H' b=some o
 new:∀a∈G'.M,a∈G.M\/H a=none
 pot:∀(k:Nat) (p:Addr),G.pots[k]?=some p->G'.pots[k]?=some p
theorem Ext.refl:Ext G H G H:=⟨fun _ _ _ e=>e,fun _ h=>.inl h,fun _ _ e=>e⟩
theorem Ext.fr (f:Fr G H H'):Ext G H G H':=⟨f,fun _ h=>.inl h,fun _ _ e=>e⟩
theorem Ext.trans (a:Ext G H G1 H1)(b:Ext G1 H1 G2 H2):Ext G H G2 H2 where
 keep c o hc e:=b.keep c o (fun z=>(a.new c z).elim hc fun z=>by rw [z] at e;cases e) (a.keep c o hc e)
 new c hc:=(b.new c hc).elim (fun z=>a.new c z) fun z=>by
   by_cases hM:c∈G.M
   · exact .inl hM
   · refine .inr ?_;cases e:H c with
     | none=>rfl
     | some o=>rw [a.keep c o hM e] at z;cases z
 pot k p e:=b.pot k p (a.pot k p e)
structure Link (C:Ct)(G:Gh)(H:Hp)(PD:Aj)(D:Ends):Prop where
 nx:∀env n G' σ H',PD.nx env n->SR C G' σ H' env n->Ext G H G' H'->D.nx σ H'
 rt:∀x n v G' σ H' env,PD.rt x n->SR C G' σ H' env n->Rep C.K ⟨C.M0,G'.pots⟩ H' x v->Ext G H G' H'->D.rt v H'
 bk:∀env n G' σ H',PD.bk env n->SR C G' σ H' env n->Ext G H G' H'->D.bk σ H'
 ct:∀env n G' σ H',PD.ct env n->SR C G' σ H' env n->Ext G H G' H'->D.ct σ H'
theorem Link.ext (L:Link C G H PD D)(x:Ext G H G' H'):Link C G' H' PD D:=
 ⟨fun env n G2 σ H2 p S e=>L.nx env n G2 σ H2 p S (x.trans e),fun y n v G2 σ H2 env p S r e=>L.rt y n v G2 σ H2 env p S r (x.trans e),fun env n G2 σ H2 p S e=>L.bk env n G2 σ H2 p S (x.trans e),fun env n G2 σ H2 p S e=>L.ct env n G2 σ H2 p S (x.trans e)⟩
def SOk (K:A3)(T:PotK)(np:Bool)(t:TS)(ps:pS):Prop:=∀(C:Ct) (G:Gh) (σ:St) (H:Hp) (env:Env) (n:Nat) (PD:Aj) (D:Ends),C.K=K->C.T=T->C.np=np->SR C G σ H env n->ps PD env n->Link C G H PD D->t D σ H
def QS {ι:Type}(T:PotK)(np:Bool)(K:A3)(F:ι->Cx)(st:Stmt)(ps:pS):Prop:=∃t,(∀z,PS (F z) st t)/\SOk K T np t ps
def QSs {ι:Type}(T:PotK)(np:Bool)(K:A3)(F:ι->Cx)(st:List Stmt)(ps:pS):Prop:=∃t,(∀z,PSs (F z) st t)/\SOk K T np t ps
theorem SR.out (S:SR C G σ H env n)(r:Rep C.K G H x v):Rep C.K ⟨C.M0,G.pots⟩ H x v:=
 Rep.mono (G':=⟨C.M0,G.pots⟩) (fun _ _ _ e=>e) (fun a ha=>.inl (S.sup a ha)) (fun _ _ e=>e) _ _ r
theorem SR.old (S:SR C G σ H env n)(h:H a=none):C.H0 a=none:=by
 cases z:C.H0 a with
 | none=>rfl
 | some o =>
   by_cases hp:a∈C.pots0
   · exact absurd (S.sup a (S.p0.1 a hp)) (S.fresh h)
   · have:=S.frame a o hp z;rw [h] at this;cases this
theorem SR.moreO (S:SR C G σ H env n)(mo:MutO ob)(h:H a=none):SR C ⟨a::G.M,G.pots⟩ σ (upd H a ob) env n where
 frame b o hb e:=Same.lay1 h b o (S.frame b o hb e)
 sub b hb:=(C5.mp hb).elim (fun z=>.inr (z▸S.old h)) (S.sub b)
 sup b hb:=C3 _ (S.sup b hb)
 pots p hp:=⟨C3 _ (S.pots p hp).1,by
   have h1:=C.T.more (M':=a::G.M) (S.pots p hp).2 (fun c hc=>(C5.mp hc).elim (fun z=>.inr (z▸h)) .inl);obtain⟨o,e,_⟩:=C.T.mu h1
   exact C.T.keep h1 (by rw [e,Same.lay1 h p o e]) fun b o _ e=>Same.lay1 h b o e⟩
 pre:=S.pre
 mu b hb:=by
   rcases C5.mp hb with rfl | hb
   · exact⟨_,E8,mo⟩
   · obtain⟨o,e,m⟩:=S.mu b hb;exact⟨o,Same.lay1 h b o e,m⟩
 slots i s e:=by
   have mm:∀{x:PV} {v:V},Rep C.K G H x v->Rep C.K ⟨a::G.M,G.pots⟩ (upd H a ob) x v:=fun r=>Rep.mono (G':=⟨a::G.M,G.pots⟩) (H':=upd H a ob) (fun b o _ e=>Same.lay1 h b o e) (fun c hc=>(C5.mp (show c∈a::G.M from hc)).elim (fun z=>.inr (z▸h)) .inl) (fun _ _ e=>e) _ _ r;have:=S.slots i s e;cases s with
   | v x =>
     obtain⟨v,e1,r⟩:=this;exact⟨v,e1,mm r⟩
   | ow kk xs =>
     obtain⟨b,us,e1,h1,h2,h3,h4,r⟩:=this;exact⟨b,us,e1,C3 _ h1,h2,h3,Same.lay1 h _ _ h4,Reps.mono (G':=⟨a::G.M,G.pots⟩) (H':=upd H a ob) (fun b o _ e=>Same.lay1 h b o e) (fun c hc=>(C5.mp (show c∈a::G.M from hc)).elim (fun z=>.inr (z▸h)) .inl) (fun _ _ e=>e) _ _ r⟩
 inj:=S.inj
 p0:=S.p0
 len:=S.len
 newp:=S.newp
theorem SR.more (S:SR C G σ H env n)(h:H a=none):SR C ⟨a::G.M,G.pots⟩ σ (upd H a (.lst vs)) env n:=S.moreO (ob:=.lst vs) trivial h
theorem SR.ow (S:SR C G σ H env n)(i:Nat)(kk:OK)(h:H a=none)(r:Reps C.K G H xs vs) :
   SR C ⟨a::G.M,G.pots⟩ (σ.set i (some (.ref a))) (upd H a (mkO kk vs)) (env.set i (some (.ow kk xs))) n:=by
 have S1:=S.moreO (Ix kk vs) h;have aM:a∉G.M:=S.fresh h;have r1:Reps C.K ⟨a::G.M,G.pots⟩ (upd H a (mkO kk vs)) xs vs:=Reps.mono (G':=⟨a::G.M,G.pots⟩) (H':=upd H a (mkO kk vs)) (fun b o _ e=>Same.lay1 h b o e) (fun c hc=>(C5.mp (show c∈a::G.M from hc)).elim (fun z=>.inr (z▸h)) .inl) (fun _ _ e=>e) _ _ r
 have other:∀(j:Nat) (ys:OK×List PV),env[j]?=some (some (Slot.ow ys.1 ys.2))->σ[j]?≠some (some (.ref a)):=by
   intro j ys e z;obtain⟨b,us,e1,h1,_⟩:=S.slots j _ e;rw [z] at e1;cases e1;exact aM h1
 exact {
   frame:=S1.frame
   sub:=S1.sub
   sup:=S1.sup
   pots:=S1.pots
   pre:=S1.pre
   mu:=S1.mu
   slots:=fun j s e=>by
     by_cases hj:i=j
     · subst hj
       by_cases hl:i < env.length
       · rw [M6 hl] at e;cases e;exact⟨a,vs,by rw [M6 (by rw [<- S.len];exact hl)],B8,fun z=>aM (S.sup a z),fun z=>aM (S.pots a z).1,E8,r1⟩
       · rw [Q8 (by rw [O1];omega)] at e;cases e
     · rw [O4 hj] at e ⊢;exact S1.slots j s e
   inj:=fun j k xs' ys b e1 e2 e3 e4=>by
     by_cases hj:i=j
     · by_cases hk:i=k
       · omega
       · subst hj;rw [O4 hk] at e2 e4
         by_cases hl:i < σ.length
         · rw [M6 hl] at e3;cases e3;exact absurd e4 (other k ys e2)
         · rw [Q8 (by rw [O1];omega)] at e3;cases e3
     · rw [O4 hj] at e1 e3
       by_cases hk:i=k
       · subst hk
         by_cases hl:i < σ.length
         · rw [M6 hl] at e4;cases e4;exact absurd e3 (other j xs' e1)
         · rw [Q8 (by rw [O1];omega)] at e4;cases e4
       · rw [O4 hk] at e2 e4;exact S.inj j k xs' ys b e1 e2 e3 e4
   p0:=S.p0
   len:=by rw [O1,O1];exact S.len
   newp:=S.newp }
theorem SR.own (S:SR C G σ H env n)(i:Nat)(h:H a=none)(r:Reps C.K G H xs vs) :
   SR C ⟨a::G.M,G.pots⟩ (σ.set i (some (.ref a))) (upd H a (.lst vs)) (env.set i (some (.ow .lst xs))) n:=S.ow i .lst h r
theorem SR.putO {C:Ct}{G:Gh}{σ:St}{H:Hp}{env:Env}{n:Nat}(S:SR C G σ H env n){i:Nat}{kk:OK}(k':OK){a:Addr}{xs ys:List PV}{vs:List V}(e:env[i]?=some (some (.ow kk xs)))(ea:σ[i]?=some (some (.ref a)))(r:Reps C.K G H ys vs) :
   SR C G σ (upd H a (mkO k' vs)) (env.set i (some (.ow k' ys))) n/\Fr G H (upd H a (mkO k' vs)):=by
 obtain⟨a',us,ea',aM,a0,ap,eH,_⟩:=S.slots i _ e;rw [ea] at ea';cases ea';have f:Fr G H (upd H a (mkO k' vs)):=fun b o hb he=>by rw [B6 (fun z=>hb (by grind))];exact he
 refine⟨{
   frame:=fun b o hb he=>?_
   sub:=S.sub
   sup:=S.sup
   pots:=fun p hp=>⟨(S.pots p hp).1,C.T.keep (S.pots p hp).2 (B6 fun z=>ap (by grind)) f⟩
   pre:=S.pre
   mu:=fun b hb=>?_
   slots:=fun j s es=>?_
   inj:=fun j k xs' ys' b e1 e2 e3 e4=>?_
   p0:=S.p0
   len:=by rw [O1];exact S.len
   newp:=S.newp },f⟩
 · have hb2:b≠a:=fun z=>by
     rcases S.sub a aM with z2 | z2
     · grind
     · grind
   rw [B6 hb2];exact S.frame b o hb he
 · by_cases hba:b=a
   · subst hba;exact⟨_,E8,Ix k' vs⟩
   · obtain⟨o,he,m⟩:=S.mu b hb;exact⟨o,by rw [B6 hba];exact he,m⟩
 · by_cases hj:i=j
   · subst hj;have hl:i < env.length:=(D7.mp e).1;rw [M6 hl] at es;cases es;exact⟨a,vs,ea,aM,a0,ap,E8,r.fr f⟩
   · rw [O4 hj] at es;have:=S.slots j s es;cases s with
     | v x =>
       obtain⟨v,e1,r⟩:=this;exact⟨v,e1,r.fr f⟩
     | ow kz zs =>
       obtain⟨b,us',e1,h1,h2,h3,h4,r⟩:=this;have hba:b≠a:=fun z=>hj (S.inj i j (kk,xs) (kz,zs) a e es ea (by rw [e1,z]));exact⟨b,us',e1,h1,h2,h3,by rw [B6 hba];exact h4,r.fr f⟩
 · have back:∀(j:Nat) (zs:OK×List PV),(env.set i (some (.ow k' ys)))[j]?=some (some (Slot.ow zs.1 zs.2))->∃zs':OK×List PV,env[j]?=some (some (.ow zs'.1 zs'.2)):=by
     intro j zs h
     by_cases hj:i=j
     · simp_all
     · grind
   obtain⟨z1,e1'⟩:=back j xs' e1;obtain⟨z2,e2'⟩:=back k ys' e2;exact S.inj j k z1 z2 b e1' e2' e3 e4
theorem SR.put (S:SR C G σ H env n)(e:env[i]?=some (some (.ow .lst xs)))(ea:σ[i]?=some (some (.ref a)))(r:Reps C.K G H ys vs) :
   SR C G σ (upd H a (.lst vs)) (env.set i (some (.ow .lst ys))) n/\Fr G H (upd H a (.lst vs)):=S.putO .lst e ea r
section
variable {T:PotK}{np:Bool}{ι:Type}{K:A3}{F:ι->Cx}{e a b c:Expr}{es:List Expr}{st:Stmt}{rest:List Stmt}{pe pa pb pc:pE}{pos:Pos}{pl pr:pA}{pg:pG}{pt:pT}{p1 p2:pS}
def qNx:pS:=fun D env n=>D.nx env n
def qSeq (p q:pS):pS:=fun D env n=>p { D with nx:=fun e m=>q D e m } env n
theorem D2:QSs T np K F [] qNx:=⟨_,fun _=>HN,fun C G σ H env n PD D hK hT hn S hp L=>L.nx _ _ _ _ _ hp S Ext.refl⟩
theorem B2 (h:QS T np K F st p1):QSs T np K F [st] p1:=let ⟨t,h1,h2⟩:=h;⟨t,fun z=>DV (h1 z),h2⟩
theorem A8 (h:QS T np K F st p1)(h':QSs T np K F rest p2):QSs T np K F (st::rest) (qSeq p1 p2):=by
 obtain⟨t,a1,a2⟩:=h;obtain⟨u,b1,b2⟩:=h';refine⟨_,fun z=>X5 (a1 z) (b1 z),fun C G σ H env n PD D hK hT hn S hp L=>?_⟩;refine a2 C G σ H env n _ _ hK hT hn S hp ⟨fun env1 n1 G1 σ1 H1 q1 S1 x1=>?_,L.rt,L.bk,L.ct⟩;exact b2 C G1 σ1 H1 env1 n1 PD D hK hT hn S1 q1 (L.ext x1)
theorem sw_set (hN:X.N.Nodup)(hi:X.N[i]?=some x)(hx:Loc X.env.scope x)(hs:j8 e (some (.Name x pos')) pos.line X.env=pure false:=by rfl)(hf:X.fn x=true\/X.env.scope.names.lookup x=some .local:=by first | exact .inl rfl | exact .inr rfl | assumption)(te:TE)(h:EW X e te):SW X (.Assign [.Name x pos'] e pos) (tAsg te (K8 i)):=⟨o4 hN hi hx h.h hs hf⟩
theorem X8 (hs:AG [tg] e pos.line X.env=pure false:=by rfl)(hw:AH [tg] e X.env=pure none:=by rfl)(h1:(J0 [tg] X.env).map (·.2)=[assign tg X.env]:=by rfl)(te:TE)(g:TG)(h:EW X e te)(hg:GW X tg g):SW X (.Assign [tg] e pos) (tAsg te g):=⟨FP h.h hg.h hs hw h1⟩
theorem V0 (hs:j8 e none pos.line X.env=pure false:=by rfl)(te:TE)(h:EW X e te):SW X (.Expr e pos) (FL te):=⟨Mc h.h hs⟩
def qSet (i:Nat)(pe:pE):pS:=fun D env n=>pe env n fun x env1 n1=>D.nx (env1.set i (some (.v x))) n1
theorem G5 (i:Nat)(h:∀z te,EW (F z) e te->SW (F z) st (tAsg te (K8 i)))(he:QE T K F e pe):QS T np K F st (qSet i pe):=by
 obtain⟨t,a1,a2⟩:=he;refine⟨_,fun z=>(h z _ ⟨a1 z⟩).h,fun C G σ H env n PD D hK hT hn S hp L=>?_⟩;refine a2 C G σ H env n _ _ hK hT S hp fun x env1 n1 v H1 q1 S1 r1 f1=>?_;exact L.nx _ _ _ _ _ q1 (S1.set i (hK▸r1)) (Ext.fr f1)
theorem Ej {a:Addr}(h:H a=none):Ext G H ⟨a::G.M,G.pots⟩ (upd H a o):=⟨fun b u _ e=>Same.lay1 h b u e,fun c hc=>(C5.mp (show c∈a::G.M from hc)).elim (fun z=>.inr (z▸h)) .inl,fun _ _ e=>e⟩
def qAsg (pe:pE)(g:pG):pS:=fun D env n=>pe env n fun x env1 n1=>g x env1 fun env2=>D.nx env2 n1
theorem Bt (h:∀z te g,EW (F z) e te->GW (F z) tg g->SW (F z) st (tAsg te g))(he:QE T K F e pe)(hg:QG K F tg pg):QS T np K F st (qAsg pe pg):=by
 obtain⟨t,a1,a2⟩:=he;obtain⟨g,b1,b2⟩:=hg;refine⟨_,fun z=>(h z _ _ ⟨a1 z⟩ ⟨b1 z⟩).h,fun C G σ H env n PD D hK hT hn S hp L=>?_⟩;refine a2 C G σ H env n _ _ hK hT S hp fun x env1 n1 v H1 q1 S1 r1 f1=>?_;exact b2 C G σ H1 env1 n1 x v _ _ hK S1 r1 q1 fun env' σ' re S'=>L.nx _ _ _ _ _ re S' (Ext.fr f1)
def O2 (pe:pE):pS:=fun D env n=>pe env n fun _ env1 n1=>D.nx env1 n1
theorem V1 (h:∀z te,EW (F z) e te->SW (F z) st (FL te))(he:QE T K F e pe):QS T np K F st (O2 pe):=by
 obtain⟨t,a1,a2⟩:=he;refine⟨_,fun z=>(h z _ ⟨a1 z⟩).h,fun C G σ H env n PD D hK hT hn S hp L=>?_⟩;exact a2 C G σ H env n _ _ hK hT S hp fun x env1 n1 v H1 q1 S1 r1 f1=>L.nx _ _ _ _ _ q1 S1 (Ext.fr f1)
def qRet (pe:pE):pS:=fun D env n=>pe env n fun x _ n1=>D.rt x n1
theorem B7 (he:QE T K F e pe):QS T np K F (.Return (some e) pos) (qRet pe):=by
 obtain⟨t,a1,a2⟩:=he;refine⟨_,fun z=>DW (a1 z),fun C G σ H env n PD D hK hT hn S hp L=>?_⟩;exact a2 C G σ H env n _ _ hK hT S hp fun x env1 n1 v H1 q1 S1 r1 f1=>L.rt _ _ _ _ _ _ _ q1 S1 (S1.out (hK▸r1)) (Ext.fr f1)
def qRetO (i:Nat):pS:=fun D env n=>match env[i]? with | some (some (.ow .lst xs))=>D.rt (.lst xs) n | _=>False
def qIfS (t:pT)(p q:pS):pS:=fun D env n=>t env n fun b env1 n1=>if b=true then p D env1 n1 else q D env1 n1
theorem D3 (hc:QT T K F c pt)(h1:QSs T np K F x p1)(h2:QSs T np K F y p2):QS T np K F (.If c x y pos) (qIfS pt p1 p2):=by
 obtain⟨tc,c1,c2⟩:=hc;obtain⟨t,a1,a2⟩:=h1;obtain⟨u,b1,b2⟩:=h2;refine⟨_,fun z=>ps_if (c1 z) (a1 z) (b1 z),fun C G σ H env n PD D hK hT hn S hp L=>?_⟩;refine c2 C G σ H env n _ _ hK hT S hp fun d env1 n1 H1 q1 S1 f1=>?_;cases d with
 | true=>exact a2 C G σ H1 env1 n1 PD D hK hT hn S1 q1 (L.ext (Ext.fr f1))
 | false=>exact b2 C G σ H1 env1 n1 PD D hK hT hn S1 q1 (L.ext (Ext.fr f1))
def forL (g:pG)(b:pS)(D:Aj):List PV->Env->Nat->Prop
 | [],env,n=>D.nx env n
 | x::xs,env,n=>g x env fun env1=>b { D with nx:=fun e m=>forL g b D xs e m,ct:=fun e m=>forL g b D xs e m,bk:=D.nx } env1 n
def qFor (pi:pA)(g:pG)(b:pS):pS:=fun D env n=>pi env n fun xs env1 n1=>forL g b D xs env1 n1
theorem X9 (hc:∀z,(F z).calm=true)(hi:QI T K F tg iter pl)(hg:QG K F tg pg)(hb:QSs T np K F body p1)(hp:∀z,PassesOwn (model (F z).prog (F z).w) (F z).A (F z).env (F z).xe:=by intro _;exact PassesOwn.never)(hs:∀z x,T9 iter (F z).env x=pure x:=by intro _ _;rfl):QS T np K F (.For tg iter body [] pos) (qFor pl pg p1):=by
 obtain⟨wi,i1,i2⟩:=hi;obtain⟨g,g1,g2⟩:=hg;obtain⟨t,b1,b2⟩:=hb;refine⟨_,fun z=>ps_for (hp z) (hc z) (i1 z) (g1 z) (b1 z) (hs z),fun C G σ H env n PD D hK hT hn S hp L=>?_⟩;refine i2 C G σ H env n _ _ hK hT S hp fun xs env1 n1 J H1 q1 S1 f1 hJ=>?_;have L1:=L.ext (Ext.fr f1);refine⟨fun i m σ H=>m=xs.length - i/\i<=xs.length/\∃G' env n,SR C G' σ H env n/\Ext G H1 G' H/\forL pg p1 PD (xs.drop i) env n,⟨xs.length,by simp,G0 _,G,env1,n1,S1,Ext.refl,by simpa using q1⟩,?_⟩;rintro i m σ' H' ⟨rfl,hi,G',env',n',S',x',q'⟩;have hf:∀p,H' p=none->p∉G'.M:=fun p hp=>S'.fresh hp;obtain⟨hgo,hstop⟩:=hJ G' H' x'.keep x'.new x'.pot hf
 by_cases hlt:i < xs.length
 · obtain⟨go1,go2⟩:=hgo i _ (C4 hlt);rw [AL hlt] at q';refine .inr ⟨go1,fun σ H=>∃G' env n,SR C G' σ H env n/\Ext G H1 G' H/\forL pg p1 PD (xs.drop (i + 1)) env n,fun σ2 H2 h2=>⟨xs.length - (i + 1),by omega,rfl,hlt,h2⟩,fun v H2 y=>?_⟩;obtain⟨s2,rv⟩:=go2 v H2 y;have x2:Ext G' H' G' H2:=Ext.fr (Fr.of s2);refine g2 C G' σ' H2 env' n' _ v _ _ hK (S'.same s2) rv q' fun env2 σ2 q2 S2=>?_;refine b2 C G' σ2 H2 env2 n' _ _ hK hT hn S2 q2 ⟨fun e3 n3 G3 σ3 H3 q3 S3 x3=>?_,fun y n3 v G3 σ3 H3 e3 q3 S3 r3 x3=>?_,fun e3 n3 G3 σ3 H3 q3 S3 x3=>?_,fun e3 n3 G3 σ3 H3 q3 S3 x3=>?_⟩
   · exact⟨G3,e3,n3,S3,(x'.trans x2).trans x3,q3⟩
   · exact L1.rt _ _ _ _ _ _ _ q3 S3 r3 ((x'.trans x2).trans x3)
   · exact L1.nx _ _ _ _ _ q3 S3 ((x'.trans x2).trans x3)
   · exact⟨G3,e3,n3,S3,(x'.trans x2).trans x3,q3⟩
 · have ei:i=xs.length:=by omega
   subst ei;rw [BW] at q';exact .inl ⟨hstop _ (B3 _),L1.nx _ _ _ _ _ q' S' x'⟩
def q8 (t:pT)(b:pS)(D:Aj):Nat->Env->Nat->Prop
 | 0,_,_=>False
 | k + 1,env,n=>t env n fun c env1 n1=>if c=true then b { D with nx:=fun e m=>q8 t b D k e m,ct:=fun e m=>q8 t b D k e m,bk:=D.nx } env1 n1 else D.nx env1 n1
def IR (t:pT)(b:pS):pS:=fun D env n=>∃k,q8 t b D k env n
theorem NH (hc:QT T K F c pt)(hb:QSs T np K F body p1)(hp:∀z,PassesOwn (model (F z).prog (F z).w) (F z).A (F z).env (F z).xe:=by intro _;exact PassesOwn.never):QS T np K F (.While c body [] pos) (IR pt p1):=by
 obtain⟨tc,c1,c2⟩:=hc;obtain⟨t,b1,b2⟩:=hb;refine⟨_,fun z=>Me (hp z) (c1 z) (b1 z),fun C G σ H env n PD D hK hT hn S hp L=>?_⟩;obtain⟨k,hp⟩:=hp;refine⟨fun m σ H'=>∃G' env n,SR C G' σ H' env n/\Ext G H G' H'/\q8 pt p1 PD m env n,⟨k,G,env,n,S,Ext.refl,hp⟩,?_⟩;rintro m σ1 H1 ⟨G1,env1,n1,S1,x1,q1⟩;cases m with
 | zero=>exact q1.elim
 | succ m =>
   refine c2 C G1 σ1 H1 env1 n1 _ _ hK hT S1 q1 fun d env2 n2 H2 q2 S2 f2=>?_;have x2:=x1.trans (Ext.fr f2);cases d with
   | false=>exact iteF (L.nx _ _ _ _ _ q2 S2 x2)
   | true =>
     refine iteT ⟨fun σ H'=>∃G' env n,SR C G' σ H' env n/\Ext G H G' H'/\q8 pt p1 PD m env n,fun σ' H' h=>⟨m,by omega,h⟩,?_⟩;exact b2 C G1 σ1 H2 env2 n2 _ _ hK hT hn S2 q2 ⟨fun e3 n3 G3 σ3 H3 q3 S3 x3=>⟨G3,e3,n3,S3,x2.trans x3,q3⟩,fun y n3 v G3 σ3 H3 e3 q3 S3 r3 x3=>L.rt _ _ _ _ _ _ _ q3 S3 r3 (x2.trans x3),fun e3 n3 G3 σ3 H3 q3 S3 x3=>L.nx _ _ _ _ _ q3 S3 (x2.trans x3),fun e3 n3 G3 σ3 H3 q3 S3 x3=>⟨G3,e3,n3,S3,x2.trans x3,q3⟩⟩
def GB (i:Nat)(pe:pE):pE:=fun env n R=>pe env n fun y env1 n1=>match env1[i]? with | some (some (.ow .lst xs))=>xs.length < 1000000/\R .non (env1.set i (some (.ow .lst (xs++[y])))) n1 | _=>False
theorem t3 (i:Nat)(hv:∀z,EW (F z) (.Name x p) (tVar i))(he:QE T K F e pe)(hs:E4 e=true:=by rfl)(hbase:∀z,j5 (.Name x p) "append" (F z).env (eval (.Name x p) (F z).env)=eval (.Name x p) (F z).env:=by intro _;rfl)(hline:(ap.endLine == pos.line)=true:=by rfl)
   (hfew:∀z,((backTo pos (E3 [e] (F z).env)).all (fun x=>!x.1) && (W4 pos (W0 [] (F z).env)).all (fun x=>x.1.isSome) && decide (([e]:List Expr).length + ([]:List O3).length + (if([]:List O3).isEmpty then 0 else 1) < 30))=true:=by intro _;rfl) (hK:∀z,(F z).K=K:=by intro _;rfl):QE T K F (.Call (.Attribute (.Name x p) "append" ap) [e] [] pos) (fun env n R=>(∃xs,env[i]?=some (some (.ow .lst xs)))/\GB i pe env n R):=by
 obtain⟨t,a1,a2⟩:=he;refine⟨tBM K "list" Ii (tVar i) (R0 t tNil),fun z=>hK z▸Ae Cm PySem.F.slot_list_append PySem.F.type_list_append Ij (hv z).h (E1 (a1 z) F8 (D0 hs)) (hbase z) (hfew z) hline (D0 hs),fun C G σ H env n R Q hK hT S hp k=>?_⟩;obtain⟨⟨xs0,e0⟩,hp⟩:=hp;obtain⟨a,vs,ev,h1,h2,h3,h4,r⟩:=S.slots i _ e0;refine⟨.ref a,ev,.inl ⟨rfl,vs,SqL.of h4⟩,?_⟩;refine a2 C G σ H env n _ _ hK hT S hp fun y env1 n1 v H1 q1 S1 r1 f1=>?_
 split at q1
 · rename_i xs ex;obtain⟨a',us,ev',g1,g2,g3,g4,r'⟩:=S1.slots i _ ex;rw [ev] at ev';cases ev';subst hK;obtain⟨S2,f2⟩:=S1.put ex ev (r'.append (.one r1));exact⟨a,us,v,rfl,rfl,g4,by rw [<- r'.length];exact mil' (by omega),k _ _ _ _ _ q1.2 S2 rfl (f1.trans f2)⟩
 · exact q1.elim
def GC (i:Nat)(pe:pE):pE:=fun env n R=>pe env n fun y env1 n1=>match env1[i]?,y with | some (some (.ow .lst xs)),.int d=>xs.length<=1000000/\(match ixN xs.length d with | some j=>(match xs[j]? with | some z=>R z (env1.set i (some (.ow .lst (xs.eraseIdx j)))) n1 | none=>False) | none=>False) | _,_=>False
theorem NI (i:Nat){x:Str}{p ap:Pos}(hv:∀z,EW (F z) (.Name x p) (tVar i))(he:QE T K F e pe)(hs:E4 e=true:=by rfl)(hbase:∀z,j5 (.Name x p) "pop" (F z).env (eval (.Name x p) (F z).env)=eval (.Name x p) (F z).env:=by intro _;rfl)(hline:(ap.endLine == pos.line)=true:=by rfl)
   (hfew:∀z,((backTo pos (E3 [e] (F z).env)).all (fun x=>!x.1) && (W4 pos (W0 [] (F z).env)).all (fun x=>x.1.isSome) && decide (([e]:List Expr).length + ([]:List O3).length + (if([]:List O3).isEmpty then 0 else 1) < 30))=true:=by intro _;rfl) (hK:∀z,(F z).K=K:=by intro _;rfl) :
   QE T K F (.Call (.Attribute (.Name x p) "pop" ap) [e] [] pos) (fun env n R=>(∃xs,env[i]?=some (some (.ow .lst xs)))/\GC i pe env n R):=by
 obtain⟨t,a1,a2⟩:=he;refine⟨tBM K "list" Il (tVar i) (R0 t tNil),fun z=>hK z▸Ae Cm PySem.F.slot_list_pop PySem.F.type_list_pop MV (hv z).h (E1 (a1 z) F8 (D0 hs)) (hbase z) (hfew z) hline (D0 hs),fun C G σ H env n R Q hK hT S hp k=>?_⟩;obtain⟨⟨xs0,e0⟩,hp⟩:=hp;obtain⟨a,vs,ev,h1,h2,h3,h4,r⟩:=S.slots i _ e0;refine⟨.ref a,ev,.inl ⟨rfl,vs,SqL.of h4⟩,?_⟩;refine a2 C G σ H env n _ _ hK hT S hp fun y env1 n1 v H1 q1 S1 r1 f1=>?_
 split at q1
 · rename_i xs d ex;obtain⟨hlen,q1⟩:=q1
   split at q1
   · rename_i j ej
     split at q1
     · rename_i z ez;obtain⟨a',us,ev',g1,g2,g3,g4,r'⟩:=S1.slots i _ ex;rw [ev] at ev';cases ev';subst hK;obtain⟨S2,f2⟩:=S1.put ex ev (r'.eraseIdx j);obtain⟨w,e1,rw'⟩:=r'.get' ez;obtain⟨q1',q2',q3',q4'⟩:=FX ej;refine⟨a,us,d,j,w,rfl,by rw [show v=.int d from r1],g4,?_,?_,by rw [<- r'.length];exact q1',e1,k _ _ _ _ _ q1 S2 (rw'.fr f2) (f1.trans f2)⟩
       · omega
       · omega
     · exact q1.elim
   · exact q1.elim
 · exact q1.elim
end
end Pu
end
section
namespace Pu
open PySem PySem.Spec L2
abbrev pSl:=Env->Nat->(Slot->Env->Nat->Prop)->Prop
def Ak (σ:St)(env:Env)(a:Addr):Prop:=∃(j:Nat) (ys:OK×List PV),env[j]?=some (some (.ow ys.1 ys.2))/\σ[j]?=some (some (.ref a))
theorem SR.slot (S:SR C G σ H env n)(i:Nat)(r:Cv C G H (some (some v)) s)(h:∀(xs:OK×List PV) a,s=.ow xs.1 xs.2->v=.ref a->¬Ak σ env a):SR C G (σ.set i (some v)) H (env.set i (some s)) n where
 frame:=S.frame
 sub:=S.sub
 sup:=S.sup
 pots:=S.pots
 pre:=S.pre
 mu:=S.mu
 slots j t e:=by
   by_cases hj:i=j
   · subst hj
     by_cases hl:i < env.length
     · rw [M6 hl] at e;cases e;rw [M6 (by rw [<- S.len];exact hl)];exact r
     · rw [Q8 (by rw [O1];omega)] at e;cases e
   · rw [O4 hj] at e ⊢;exact S.slots j t e
 inj j k xs ys b e1 e2 e3 e4:=by
   by_cases hj:i=j
   · by_cases hk:i=k
     · omega
     · subst hj;rw [O4 hk] at e2 e4
       by_cases hl:i < env.length
       · rw [M6 hl] at e1;rw [M6 (by rw [<- S.len];exact hl)] at e3;cases e1;cases e3;exact absurd ⟨k,ys,e2,e4⟩ (h xs b rfl rfl)
       · rw [Q8 (by rw [O1];omega)] at e1;cases e1
   · rw [O4 hj] at e1 e3
     by_cases hk:i=k
     · subst hk
       by_cases hl:i < env.length
       · rw [M6 hl] at e2;rw [M6 (by rw [<- S.len];exact hl)] at e4;cases e2;cases e4;exact absurd ⟨j,xs,e1,e3⟩ (h ys b rfl rfl)
       · rw [Q8 (by rw [O1];omega)] at e2;cases e2
     · rw [O4 hk] at e2 e4;exact S.inj j k xs ys b e1 e2 e3 e4
 p0:=S.p0
 len:=by rw [O1,O1];exact S.len
 newp:=S.newp
def Ct.guard (C:Ct)(a:Addr)(vs:List V):Ct:={ C with M0:=a::C.M0,H0:=upd C.H0 a (.lst vs) }
theorem SR.guard (S:SR C G σ H env n)(vs:List V)(h:H a=none):SR (C.guard a vs) ⟨a::G.M,G.pots⟩ σ (upd H a (.lst vs)) env n:=by
 have S1:=S.more (vs:=vs) h;have aM:=S.fresh h
 exact {
   frame:=fun b o hb e=>by
     by_cases hba:b=a
     · subst hba;have e':upd C.H0 b (.lst vs) b=some o:=e;rw [E8] at e' ⊢;exact e'
     · have e':upd C.H0 a (.lst vs) b=some o:=e;rw [B6 hba] at e';exact S1.frame b o hb e'
   sub:=fun b hb=>by
     by_cases hba:b=a
     · exact .inl (by rw [hba];exact B8)
     · rcases S1.sub b hb with z | z
       · exact .inl (C3 _ z)
       · refine .inr ?_;show upd C.H0 a (.lst vs) b=none;rw [B6 hba];exact z
   sup:=fun b hb=>by
     rcases C5.mp (show b∈a::C.M0 from hb) with rfl | z
     · exact B8
     · exact S1.sup b z
   pots:=S1.pots
   pre:=S1.pre
   mu:=S1.mu
   slots:=fun i s e=>by
     cases s with
     | v x =>
       obtain⟨v,ev,r⟩:=S1.slots i _ e;exact⟨v,ev,r⟩
     | ow kk xs =>
       obtain⟨b,us,ev,h1,h2,h3,h4,r⟩:=S1.slots i _ e;obtain⟨b',us',ev',g1,_⟩:=S.slots i _ e;rw [ev] at ev';cases ev';refine⟨b,us,ev,h1,fun z=>?_,h3,h4,r⟩;rcases C5.mp (show b∈a::C.M0 from z) with rfl | z
       · exact aM g1
       · exact h2 z
   inj:=S1.inj
   p0:=⟨fun p hp=>C3 _ (S1.p0.1 p hp),S1.p0.2⟩
   len:=S1.len
   newp:=fun p hp hn hM=>by
     rcases C5.mp (show p∈a::C.M0 from hM) with rfl | z
     · exact aM (S.pots p hp).1
     · exact S1.newp p hp hn z }
theorem SR.unguard (S:SR (C.guard a vs) G σ H env n)(ha:a∉C.M0)(hp0:∀p∈C.pots0,p∈C.M0)(h0:C.H0 a=none):SR C G σ H env n/\H a=some (.lst vs)/\¬Ak σ env a:=by
 have hap:a∉C.pots0:=fun z=>ha (hp0 a z)
 refine⟨{
   frame:=fun b o hb e=>S.frame b o hb (by
     show upd C.H0 a (.lst vs) b=some o
     rw [B6 (fun z=>by rw [z,h0] at e;cases e)];exact e)
   sub:=fun b hb=>by
     by_cases hba:b=a
     · exact .inr (hba▸h0)
     · rcases S.sub b hb with z | z
       · rcases C5.mp (show b∈a::C.M0 from z) with z | z
         · exact absurd z hba
         · exact .inl z
       · have z':upd C.H0 a (.lst vs) b=none:=z;rw [B6 hba] at z';exact .inr z'
   sup:=fun b hb=>S.sup b (C3 _ hb)
   pots:=S.pots
   pre:=S.pre
   mu:=S.mu
   slots:=fun i s e=>by
     cases s with
     | v x =>
       obtain⟨v,ev,r⟩:=S.slots i _ e;exact⟨v,ev,r⟩
     | ow kk xs =>
       obtain⟨b,us,ev,h1,h2,h3,h4,r⟩:=S.slots i _ e;exact⟨b,us,ev,h1,fun z=>h2 (C3 _ z),h3,h4,r⟩
   inj:=S.inj
   p0:=⟨hp0,S.p0.2⟩
   len:=S.len
   newp:=fun p hp hn hM=>S.newp p hp hn (C3 _ hM) },S.frame a _ hap E8,?_⟩
 rintro⟨j,ys,e1,e2⟩;obtain⟨b,us,ev,h1,h2,_⟩:=S.slots j _ e1;rw [e2] at ev;cases ev;exact h2 B8
def LOk (K:A3)(T:PotK)(t:TE)(pl:pSl):Prop:=∀(C:Ct) (G:Gh) (σ:St) (H:Hp) (env:Env) (n:Nat) (R:Slot->Env->Nat->Prop) (Q:VK),C.K=K->C.T=T->SR C G σ H env n->pl env n R->
 (∀x env' n' v H',R (.v x) env' n'->SR C G σ H' env' n'->Rep K G H' x v->Fr G H H'->Q v H')->
 (∀xs env' n' a vs Hb,R (.ow .lst xs) env' n'->SR C G σ Hb env' n'->Fr G H Hb->Hb a=none->Reps K G Hb xs vs->Q (.ref a) (upd Hb a (.lst vs)))->t σ H Q
def QL {ι:Type}(T:PotK)(K:A3)(F:ι->Cx)(e:Expr)(pl:pSl):Prop:=∃t,(∀z,PE (F z) e t)/\LOk K T t pl
def sV (pe:pE):pSl:=fun env n R=>pe env n fun x env1 n1=>R (.v x) env1 n1
def sO (pn:pA):pSl:=fun env n R=>pn env n fun xs env1 n1=>R (.ow .lst xs) env1 n1
section
variable {T:PotK}{np:Bool}{ι:Type}{K:A3}{F:ι->Cx}{e a b c:Expr}{es:List Expr}{st:Stmt}{rest:List Stmt}{pe pa pb pc:pE}{pos:Pos}{pl pr:pA}{pg:pG}{pt:pT}{p1 p2:pS}{s1 s2 s3:pSl}
theorem ql_v (h:QE T K F e pe):QL T K F e (sV pe):=let ⟨t,h1,h2⟩:=h;⟨t,h1,fun C G σ H env n R Q hK hT S hp k _=>h2 C G σ H env n _ _ hK hT S hp fun x env' n' v H' r S' rp f=>k x env' n' v H' r S' rp f⟩
theorem ql_o (h:QN T K F e pl):QL T K F e (sO pl):=let ⟨t,h1,h2⟩:=h;⟨t,h1,fun C G σ H env n R Q hK hT S hp _ k=>h2 C G σ H env n _ _ hK hT S hp fun xs env' n' a vs Hb r S' f hn rs=>k xs env' n' a vs Hb r S' f hn rs⟩
def Got (C:Ct)(G:Gh)(H:Hp)(σ:St)(env:Env)(s:Slot)(v:V):Prop:=Cv C G H (some (some v)) s/\∀(xs:OK×List PV) a,s=.ow xs.1 xs.2->v=.ref a->¬Ak σ env a
theorem IS (h:LOk K T t s1)(hK:C.K=K)(hT:C.T=T)(S:SR C G σ H env n)(hp:s1 env n R)
   (k:∀s env' n' v G' H',R s env' n'->SR C G' σ H' env' n'->Ext G H G' H'->Got C G' H' σ env' s v->Q v H'):t σ H Q:=by
 refine h C G σ H env n _ _ hK hT S hp (fun x env' n' v H' r S' rp f=>?_) fun xs env' n' a vs Hb r S' f hn rs=>?_
 · exact k _ _ _ _ _ _ r S' (Ext.fr f) ⟨⟨v,rfl,hK▸rp⟩,fun _ _ z=>nomatch z⟩
 · have aM:=S'.fresh hn;have S1:=S'.more (vs:=vs) hn;refine k _ _ _ _ _ _ r S1 ((Ext.fr f).trans (Ej hn)) ⟨⟨a,vs,rfl,B8,fun z=>aM (S'.sup a z),fun z=>aM (S'.pots a z).1,E8,?_⟩,fun ys b e1 e2=>?_⟩
   · exact Reps.mono (G':=⟨a::G.M,G.pots⟩) (H':=upd Hb a (.lst vs)) (fun b o _ e=>Same.lay1 hn b o e) (fun c hc=>(C5.mp (show c∈a::G.M from hc)).elim (fun z=>.inr (z▸hn)) .inl) (fun _ _ e=>e) _ _ (hK▸rs)
   · cases e2;rintro⟨j,zs,z1,z2⟩;obtain⟨b,us,ev,g1,_⟩:=S'.slots j _ z1;rw [z2] at ev;cases ev;exact aM g1
theorem GE {R:Slot->Slot->Env->Nat->Prop}{Q:V->V->Hp->Prop}(h:LOk K T t s1)(h':LOk K T u s2)(hK:C.K=K)(hT:C.T=T)(S:SR C G σ H env n)(hp:s1 env n fun x env1 n1=>s2 env1 n1 fun y env2 n2=>R x y env2 n2)
   (k:∀x y env' n' v w G' H',R x y env' n'->SR C G' σ H' env' n'->Ext G H G' H'->Got C G' H' σ env' x v->Got C G' H' σ env' y w->(∀(xs ys:OK×List PV) a,x=.ow xs.1 xs.2->y=.ow ys.1 ys.2->v=.ref a->w≠.ref a)->Q v w H'):t σ H fun v H1=>u σ H1 fun w H2=>Q v w H2:=by
 refine h C G σ H env n _ _ hK hT S hp (fun x env1 n1 v H1 q1 S1 r1 f1=>?_) fun xs env1 n1 a vs Hb q1 S1 f1 hn rs=>?_
 · refine IS h' hK hT S1 q1 fun y env2 n2 w G2 H2 q2 S2 x2 g2=>?_;exact k _ _ _ _ _ _ _ _ q2 S2 ((Ext.fr f1).trans x2) ⟨⟨v,rfl,Rep.mono x2.keep x2.new x2.pot _ _ (hK▸r1)⟩,fun _ _ z=>nomatch z⟩ g2 (fun _ _ _ z=>nomatch z)
 · have aM:=S1.fresh hn;have GF:=S1.guard vs hn;have a0:a∉C.M0:=fun z=>aM (S1.sup a z);have aH:=S1.old hn;have x1:Ext G H ⟨a::G.M,G.pots⟩ (upd Hb a (.lst vs)):=(Ext.fr f1).trans (Ej hn);have r1:Reps C.K ⟨a::G.M,G.pots⟩ (upd Hb a (.lst vs)) xs vs:=Reps.mono (G':=⟨a::G.M,G.pots⟩) (H':=upd Hb a (.lst vs)) (fun b o _ e=>Same.lay1 hn b o e) (fun c hc=>(C5.mp (show c∈a::G.M from hc)).elim (fun z=>.inr (z▸hn)) .inl) (fun _ _ e=>e) _ _ (hK▸rs);refine IS (C:=C.guard a vs) h' hK hT GF q1 fun y env2 n2 w G2 H2 q2 S2 x2 g2=>?_;obtain⟨S3,e3,no⟩:=S2.unguard a0 S1.p0.1 aH;have aM2:a∈G2.M:=S2.sup a B8
   have ap2:a∉G2.pots:=fun z=>by
     by_cases hz:a∈C.pots0
     · exact a0 (S1.p0.1 a hz)
     · exact S2.newp a z hz B8
   have gy:Got C G2 H2 σ env2 y w:=by
     refine⟨?_,g2.2⟩;cases y with
     | v x=>exact g2.1
     | ow kk ys =>
       obtain⟨b,us,ev,h1,h2,h3,h4,r⟩:=g2.1;exact⟨b,us,ev,h1,fun z=>h2 (C3 _ z),h3,h4,r⟩
   refine k _ _ _ _ _ _ _ _ q2 S3 (x1.trans x2) ⟨⟨a,vs,rfl,aM2,a0,ap2,e3,Reps.mono x2.keep x2.new x2.pot _ _ r1⟩,fun _ _ _ e=>by cases e;exact no⟩ gy fun xs' ys b ex ey ev ew=>?_;subst ey;cases ev;obtain⟨b,us,ev,h1,h2,_⟩:=g2.1;rw [ew] at ev;cases ev;exact h2 B8
structure AW (X:Cx)(es:List Expr)(t:TA):Prop where
 h:PA X es t
theorem h9 {X:Cx}{i j:Nat}{x y:Str}{a b:Expr}{px py pt:Pos}{kt k2 pt2}{pos:Pos}(hc:X.calm=true)(hN:X.N.Nodup)(hi:X.N[i]?=some x)(hj:X.N[j]?=some y)(hij:i≠j)
   (hx:X.env.scope.names.lookup x=some .local) (hy:X.env.scope.names.lookup y=some .local) (hw:AH [.Tuple [.Name x px,.Name y py] kt pt] (.Tuple [a,b] k2 pt2) X.env=pure (some [x,y]))
   (hs:AG [.Tuple [.Name x px,.Name y py] kt pt] (.Tuple [a,b] k2 pt2) pos.line X.env=pure false:=by rfl) (ta:TA) (h:AW X [a,b] ta) :
   SW X (.Assign [.Tuple [.Name x px,.Name y py] kt pt] (.Tuple [a,b] k2 pt2) pos) (tPar i j ta):=⟨ps_par hc hN hi hj hij hx hy h.h hw hs⟩
theorem NJ {X:Cx}{i j k:Nat}{x y z:Str}{a b c:Expr}{px py pz pt:Pos}{kt k2 pt2}{pos:Pos}(hc:X.calm=true)(hN:X.N.Nodup)(hi:X.N[i]?=some x)(hj:X.N[j]?=some y)(hk:X.N[k]?=some z)(hij:i≠j)(hik:i≠k)(hjk:j≠k)
   (hx:X.env.scope.names.lookup x=some .local) (hy:X.env.scope.names.lookup y=some .local) (hz:X.env.scope.names.lookup z=some .local) (hw:AH [.Tuple [.Name x px,.Name y py,.Name z pz] kt pt] (.Tuple [a,b,c] k2 pt2) X.env=pure (some [x,y,z]))
   (hs:AG [.Tuple [.Name x px,.Name y py,.Name z pz] kt pt] (.Tuple [a,b,c] k2 pt2) pos.line X.env=pure false:=by rfl) (ta:TA) (h:AW X [a,b,c] ta) :
   SW X (.Assign [.Tuple [.Name x px,.Name y py,.Name z pz] kt pt] (.Tuple [a,b,c] k2 pt2) pos) (Gj i j k ta):=⟨Np hc hN hi hj hk hij hik hjk hx hy hz h.h hw hs⟩
def qPar (i j:Nat)(s1 s2:pSl):pS:=fun D env n=>s1 env n fun a env1 n1=>s2 env1 n1 fun b env2 n2=>D.nx ((env2.set i (some a)).set j (some b)) n2
theorem CC {a:Addr}(hl:env.length=σ.length)(h:Ak (σ.set i (some v)) (env.set i (some s)) a):Ak σ env a\/((∃xs:OK×List PV,s=.ow xs.1 xs.2)/\v=.ref a):=by
 obtain⟨j,ys,e1,e2⟩:=h
 by_cases hj:i=j
 · subst hj
   by_cases hl':i < env.length
   · rw [M6 hl'] at e1;rw [M6 (by omega)] at e2;cases e1;cases e2;exact .inr ⟨⟨_,rfl⟩,rfl⟩
   · rw [Q8 (by rw [O1];omega)] at e1;cases e1
 · rw [O4 hj] at e1 e2;exact .inl ⟨j,ys,e1,e2⟩
theorem i3 (i j:Nat)(h:∀z ta,AW (F z) [a,b] ta->SW (F z) st (tPar i j ta))(h1:QL T K F a s1)(h2:QL T K F b s2)(n1:E4 a=true:=by rfl)(n2:E4 b=true:=by rfl):QS T np K F st (qPar i j s1 s2):=by
 obtain⟨t,a1,a2⟩:=h1;obtain⟨u,b1,b2⟩:=h2;refine⟨_,fun z=>(h z _ ⟨E1 (a1 z) (E1 (b1 z) F8 (D0 n2)) (D0 n1)⟩).h,fun C G σ H env n PD D hK hT hn S hp L=>?_⟩;refine GE (Q:=fun v w H2=>∃v' w',[v,w]=[v',w']/\D.nx ((σ.set i (some v')).set j (some w')) H2) a2 b2 hK hT S hp fun x y env2 n2 v w G2 H2 q S2 x2 gx gy ne=>?_;refine⟨v,w,rfl,L.nx _ _ _ _ _ q ((S2.slot i gx.1 gx.2).slot j gy.1 fun ys b e1 e2 z=>?_) x2⟩;rcases CC S2.len z with z | ⟨⟨xs,ex⟩,ev⟩
 · exact gy.2 ys b e1 e2 z
 · exact ne xs ys b ex e1 ev e2
def GG (i j k:Nat)(s1:pE)(s2 s3:pSl):pS:=fun D env n=>s1 env n fun a env1 n1=>s2 env1 n1 fun b env2 n2=>s3 env2 n2 fun c env3 n3=>D.nx (((env3.set i (some (.v a))).set j (some b)).set k (some c)) n3
theorem NK (i j k:Nat)(h:∀z ta,AW (F z) [a,b,c] ta->SW (F z) st (Gj i j k ta))(h0:QE T K F a pe)(h1:QL T K F b s1)(h2:QL T K F c s2)(n0:E4 a=true:=by rfl)(n1:E4 b=true:=by rfl)(n2:E4 c=true:=by rfl):QS T np K F st (GG i j k pe s1 s2):=by
 obtain⟨t0,z1,z2⟩:=h0;obtain⟨t,a1,a2⟩:=h1;obtain⟨u,b1,b2⟩:=h2;refine⟨_,fun z=>(h z _ ⟨E1 (z1 z) (E1 (a1 z) (E1 (b1 z) F8 (D0 n2)) (D0 n1)) (D0 n0)⟩).h,fun C G σ H env n PD D hK hT hn S hp L=>?_⟩;refine z2 C G σ H env n _ _ hK hT S hp fun x0 env0 m0 v0 H0 q0 S0 r0 f0=>?_;refine GE (Q:=fun v w H2=>∃u' v' w',[v0,v,w]=[u',v',w']/\D.nx (((σ.set i (some u')).set j (some v')).set k (some w')) H2) a2 b2 hK hT S0 q0 fun x y env2 n2 v w G2 H2 q S2 x2 gx gy ne=>?_;have r2:Rep C.K G2 H2 x0 v0:=Rep.mono x2.keep x2.new x2.pot _ _ (hK▸r0);have S3:=S2.set i r2
 have o3:∀a,Ak (σ.set i (some v0)) (env2.set i (some (.v x0))) a->Ak σ env2 a:=fun a z=>by
   rcases CC S2.len z with z | ⟨⟨xs,ex⟩,_⟩
   · exact z
   · cases ex
 have S4:=S3.slot j gx.1 fun xs b e1 e2 z=>gx.2 xs b e1 e2 (o3 b z);refine⟨v0,v,w,rfl,L.nx _ _ _ _ _ q (S4.slot k gy.1 fun ys b e1 e2 z=>?_) ((Ext.fr f0).trans x2)⟩;rcases CC S3.len z with z | ⟨⟨xs,ex⟩,ev⟩
 · exact gy.2 ys b e1 e2 (o3 b z)
 · exact ne xs ys b ex e1 ev e2
theorem gw_at (ho:EW X o (tVar i))(ha:∀v,assign (.Subscript o ix pos) X.env v=(do
     let ov ← Q6 [v] (eval o X.env)
     let iv ← Q6 [v,ov] (eval ix X.env)
     Y7 pos
     Q6 [v,ov,iv] (setItem ov iv v)
     release [v,ov,iv] []):=by intro _;rfl) (ti:TE) (hi:EW X ix ti):GW X (.Subscript o ix pos) (gSub (tVar i) ti Ga):=⟨FO ho.h hi.h Gb ha⟩
def gAt (i:Nat)(pe:pE):PV->Env->Nat->(Env->Nat->Prop)->Prop:=fun x env n R=>pe env n fun y env1 n1=>match env1[i]?,y with | some (some (.ow .lst xs)),.int d=>(match ixN xs.length d with | some j=>R (env1.set i (some (.ow .lst (xs.set j x)))) n1 | none=>False) | _,_=>False
def qPut (i:Nat)(pv:pE)(pe:pE):pS:=fun D env n=>pv env n fun x env1 n1=>(∃xs,env1[i]?=some (some (.ow .lst xs)))/\gAt i pe x env1 n1 D.nx
theorem qs_put (i:Nat){pv:pE}(h:∀z te g,EW (F z) v te->GW (F z) (.Subscript o ix pos) g->SW (F z) st (tAsg te g))(hv:QE T K F v pv)(hg:∀z ti,EW (F z) ix ti->GW (F z) (.Subscript o ix pos) (gSub (tVar i) ti Ga))(he:QE T K F ix pe):QS T np K F st (qPut i pv pe):=by
 obtain⟨tv,v1,v2⟩:=hv;obtain⟨ti,i1,i2⟩:=he;refine⟨_,fun z=>(h z _ _ ⟨v1 z⟩ (hg z _ ⟨i1 z⟩)).h,fun C G σ H env n PD D hK hT hn S hp L=>?_⟩;refine v2 C G σ H env n _ _ hK hT S hp fun x env1 n1 v H1 q1 S1 r1 f1=>?_;obtain⟨⟨xs0,e0⟩,q1⟩:=q1;obtain⟨a,vs,ev,h1,h2,h3,h4,r⟩:=S1.slots i _ e0;refine⟨.ref a,ev,?_⟩;refine i2 C G σ H1 env1 n1 _ _ hK hT S1 q1 fun y env2 n2 w H2 q2 S2 r2 f2=>?_
 split at q2
 · rename_i xs d ex
   split at q2
   · rename_i j ej;obtain⟨a',us,ev',g1,g2,g3,g4,r'⟩:=S2.slots i _ ex;rw [ev] at ev';cases ev';subst hK;obtain⟨S3,f3⟩:=S2.put ex ev (r'.set j (r1.fr f2));exact⟨a,us,d,j,rfl,r2,g4,by rw [<- r'.length];exact ej,L.nx _ _ _ _ _ q2 S3 (Ext.fr ((f1.trans f2).trans f3))⟩
   · exact q2.elim
 · exact q2.elim
def Ek (i:Nat)(env:Env):Env:=match env[i]? with | some (some (.ow .lst xs))=>env.set i (some (.v (.lst xs))) | _=>env
theorem SR.freeze (S:SR C G σ H env n)(i:Nat):∃G',SR C G' σ H (Ek i env) n/\Ext G H G' H:=by
 unfold Ek
 split
 · rename_i xs ex;obtain⟨a,vs,ev,h1,h2,h3,h4,r⟩:=S.slots i _ ex
   let G':Gh:=⟨G.M.filter (·≠a),G.pots⟩
   have sub:∀b∈G'.M,b∈G.M:=fun b hb=>(N5.mp hb).1;have mm:∀{x:PV} {v:V},Rep C.K G H x v->Rep C.K G' H x v:=fun r=>Rep.mono (G':=G') (fun _ _ _ e=>e) (fun b hb=>.inl (sub b hb)) (fun _ _ e=>e) _ _ r;have mms:∀{x:List PV} {v:List V},Reps C.K G H x v->Reps C.K G' H x v:=fun r=>Reps.mono (G':=G') (fun _ _ _ e=>e) (fun b hb=>.inl (sub b hb)) (fun _ _ e=>e) _ _ r
   refine⟨G',{
     frame:=S.frame
     sub:=fun b hb=>S.sub b (sub b hb)
     sup:=fun b hb=>N5.mpr ⟨S.sup b hb,decide_eq_true (show b≠a from fun z=>h2 (by rw [<- z];exact hb))⟩
     pots:=fun p hp=>⟨N5.mpr ⟨(S.pots p hp).1,decide_eq_true (show p≠a from fun z=>h3 (by rw [<- z];exact hp))⟩,C.T.more (S.pots p hp).2 fun b hb=>.inl (sub b hb)⟩
     pre:=S.pre
     mu:=fun b hb=>S.mu b (sub b hb)
     slots:=fun j s es=>?_
     inj:=fun j k xs' ys b e1 e2 e3 e4=>?_
     p0:=S.p0
     len:=by rw [O1];exact S.len
     newp:=S.newp },⟨fun _ _ _ e=>e,fun b hb=>.inl (sub b hb),fun _ _ e=>e⟩⟩
   · by_cases hj:i=j
     · subst hj;rw [M6 (D7.mp ex).1] at es;cases es;exact⟨.ref a,ev,a,vs,rfl,⟨fun z=>by simpa using(N5.mp z).2,h4⟩,mms r⟩
     · rw [O4 hj] at es;have:=S.slots j s es;cases s with
       | v x =>
         obtain⟨v,e1,r⟩:=this;exact⟨v,e1,mm r⟩
       | ow kz zs =>
         obtain⟨b,us,e1,g1,g2,g3,g4,r⟩:=this;have hba:b≠a:=fun z=>hj (S.inj i j (.lst,xs) (kz,zs) a ex es ev (by rw [e1,z]));exact⟨b,us,e1,N5.mpr ⟨g1,by simpa using hba⟩,g2,g3,g4,mms r⟩
   · have back:∀(j:Nat) (zs:OK×List PV),(env.set i (some (.v (.lst xs))))[j]?=some (some (Slot.ow zs.1 zs.2))->env[j]?=some (some (.ow zs.1 zs.2)):=by
       intro j zs h
       by_cases hj:i=j
       · subst hj;rw [M6 (D7.mp ex).1] at h;cases h
       · rw [O4 hj] at h;exact h
     exact S.inj j k xs' ys b (back j _ e1) (back k _ e2) e3 e4
 · exact⟨G,S,Ext.refl⟩
def t4 (i:Nat)(p:pS):pS:=fun D env n=>p D (Ek i env) n
theorem Bu (i:Nat)(h:QS T np K F st p1):QS T np K F st (t4 i p1):=by
 obtain⟨t,a1,a2⟩:=h;refine⟨t,a1,fun C G σ H env n PD D hK hT hn S hp L=>?_⟩;obtain⟨G',S',x'⟩:=S.freeze i;exact a2 C G' σ H _ n PD D hK hT hn S' hp (L.ext x')
end
end Pu
end
section
namespace Pu
open PySem PySem.Spec L2
def t5 (N:List Str)(xs:List PV):Env:=xs.map (fun x=>some (.v x))++x6 (N.length - xs.length) none
def fnP (N ps:List Str)(body:pS):pF:=fun xs n R=>xs.length=ps.length/\body ⟨fun _ m=>R .non m,R,fun _ _=>False,fun _ _=>False⟩ (t5 N xs) n
theorem GH (hp:∀p∈G.pots,p∈G.M/\T.at_ G.M H p n)(hm:∀a∈G.M,∃o,H a=some o/\MutO o)(hh:T.has G.pots)(r:Reps K G H xs vs) :
   SR ⟨K,T,G.M,G.pots,H,np⟩ G (L2.start N vs) H (t5 N xs) n where
 frame b o _ e:=e
 sub a ha:=.inl ha
 sup a ha:=ha
 pots:=hp
 pre:=⟨[],by simp,.inl rfl⟩
 mu:=hm
 slots i s e:=by
   unfold t5 at e
   by_cases hi:i < xs.length
   · rw [W6 (by simpa using hi),F4] at e;cases ex:xs[i]? with
     | none=>rw [ex] at e;cases e
     | some x =>
       rw [ex] at e;cases e;obtain⟨v,ev,rv⟩:=r.get' ex;refine⟨v,?_,rv⟩;unfold L2.start;rw [W6 (by rw [A9,<- r.length];exact hi),F4,ev]
       rfl
   · rw [U6 (by simpa using hi),Du] at e
     split at e <;> cases e
 inj i j xs' ys a e1:=by
   exfalso
   unfold t5 at e1
   by_cases hi:i < xs.length
   · rw [W6 (by simpa using hi),F4] at e1;cases ex:xs[i]? with
     | none=>rw [ex] at e1;cases e1
     | some x=>rw [ex] at e1;cases e1
   · rw [U6 (by simpa using hi),Du] at e1
     split at e1 <;> cases e1
 p0:=⟨fun p h=>(hp p h).1,hh⟩
 len:=by unfold t5 L2.start;simp [r.length]
 newp p h hn:=absurd h hn
section
variable {P:C6}{w:World}{K:A3}{mg:Str->Option Value}{base:Heap}{T:PotK}
theorem bd1 {P:List Value->Prop}(h:∀a,P [a])(us:List Value)(e:us.length=1):P us:=by
 obtain⟨a,rfl⟩:=List.length_eq_one_iff.mp e;exact h a
theorem bdS {P:List Value->Prop}(h:∀a us,us.length=n->P (a::us))(us:List Value)(e:us.length=n + 1):P us:=by
 obtain⟨a,us,rfl⟩:=List.exists_cons_of_length_eq_add_one e;exact h a us (Nat.succ.inj e)
theorem bd2 {P:List Value->Prop}(h:∀a b,P [a,b])(us:List Value)(e:us.length=2):P us:=bdS (fun a us e=>bd1 (P:=fun us=>P (a::us)) (h a) us e) us e
theorem bd3 {P:List Value->Prop}(h:∀a b c,P [a,b,c])(us:List Value)(e:us.length=3):P us:=bdS (fun a us e=>bd2 (P:=fun us=>P (a::us)) (h a) us e) us e
theorem bd4 {P:List Value->Prop}(h:∀a b c d,P [a,b,c,d])(us:List Value)(e:us.length=4):P us:=bdS (fun a us e=>bd3 (P:=fun us=>P (a::us)) (h a) us e) us e
theorem bd5 {P:List Value->Prop}(h:∀a b c d e,P [a,b,c,d,e])(us:List Value)(e:us.length=5):P us:=bdS (fun a us e=>bd4 (P:=fun us=>P (a::us)) (h a) us e) us e
theorem fn_ok (F0:Fn0 K mg x st)(sc:R1 N ps (E5 st))
   (bd:∀(kV doc pm:Value) (an:Option Addr) (cdv ct:Value) (us:List Value),us.length=ps.length->W3 (U4 x x (R3 st) (M3 st) (E5 st) .none kV doc pm an cdv ct) ⟨us,[]⟩=pure (ps.zip us))
   (h:∀(f:Addr) (cdv:Value) (A:Around) (outer:List PySem.Env) (s:Shared) (H:Hp) (E:XK),Room k (A.deeper (DK x (E5 st) s.heap.objs.size f cdv))->
     QSs T false K (fun _:Unit=>(cxOf CX0 P w K mg base N x (E5 st) f cdv A outer s H E).nox) (M3 st) body) :
   Kn P w K mg base x (k + 1) ps (D9 K T (fnP N ps body)):=by
 refine F0.ok sc (fun vs H Q E h=>?_) bd (fun f cdv A outer s H vs Q E hr hsp=>?_)
 · obtain⟨G,xs,n,R,_,_,_,r,hf,_⟩:=h;rw [<- r.length];exact hf.1
 · obtain⟨t,h1,h2⟩:=h f cdv A outer s H E hr;obtain⟨G,xs,n,R,hp,hm,hh,r,hf,k'⟩:=hsp;refine⟨t,h1 (),?_⟩;have S0:=GH (N:=N) (np:=false) hp hm hh r
   have fin:∀(x:PV) (n':Nat) (v:V) (G':Gh) (σ:St) (H':Hp) (env:Env),R x n'->SR ⟨K,T,G.M,G.pots,H,false⟩ G' σ H' env n'->Rep K ⟨G.M,G'.pots⟩ H' x v->Q v H':=by
     intro x n' v G' σ H' env rr S' rv
     have ep:G'.pots=G.pots:=by
       obtain⟨l,el,hl⟩:=S'.pre;rcases hl with hl | hl
       · rw [el,hl,S6]
       · cases hl
     rw [ep] at rv;exact k' _ _ _ _ rr rv (fun p hp'=>T.more (S'.pots p (by rw [ep];exact hp')).2 fun a ha=>.inl (S'.sup a ha)) S'.frame
   refine h2 _ G _ H _ n _ _ rfl rfl rfl S0 hf.2 ⟨fun env n' G' σ H' q S' _=>?_,fun x n' v G' σ H' env q S' rv _=>fin x n' v G' σ H' env q S' rv,fun _ _ _ _ _ q=>q.elim,fun _ _ _ _ _ q=>q.elim⟩;exact fin .non n' .non G' σ H' env q S' rfl
end
structure Em (own seed go:Int):Prop where
 o0:0<=own
 s0:0<=seed
 s1:seed < 2 ^ 62
 g0:0<=go
 g1:go<=2 ^ 40
def PotAt (H:Hp)(p:Addr)(n:Nat):Prop:=∃own seed go,H p=some (.lst [.int own,.int seed,.int go])/\Em own seed go/\go<=(n:Int)
def potL:PotK where
 at_:=fun _ H p n=>PotAt H p n
 mono:=fun⟨own,seed,go,a,b,c⟩ h=>⟨own,seed,go,a,b,by omega⟩
 keep:=fun⟨own,seed,go,a,b,c⟩ e _=>⟨own,seed,go,e.trans a,b,c⟩
 more:=fun h _=>h
 mu:=fun⟨own,seed,go,a,b,c⟩=>⟨_,a,trivial⟩
def Bv:pF:=fun xs n R=>match xs with | [.pot _,.int m]=>(0 < m/\m < 1000000/\n < 1000000000)/\∀d:Int,0<=d->d < m->R (.int d) (n + 1) | _=>False
section
variable {P:C6}{w:World}{K:A3}{mg:Str->Option Value}{base:Heap}
def spDraw:Sp:=fun vs H Q _=>∃(p:Addr) (own seed go many:Int),vs=[.ref p,.int many]/\H p=some (.lst [.int own,.int seed,.int go])/\Em own seed go/\go < 2 ^ 40/\0 < many/\many < 1000000/\
 ∀d own' seed' go',0<=d->d < many->Em own' seed' go'->go'<=go + 1->Q (.int d) (upd H p (.lst [.int own',.int seed',.int go']))
theorem NL {x:Str}{k:Nat}{ps:List Str}(G:Kn P w K mg base x k ps spDraw):Kn P w K mg base x k ps (D9 K potL Bv):=G.imp fun vs H Q E h=>by
 obtain⟨G,xs,n,R,hp,hm,_,r,hf,k⟩:=h;unfold Bv at hf
 split at hf
 · rename_i kk m;obtain⟨v,rr,rfl,rv,u,r2,rfl,ru,rfl⟩:=r;obtain⟨p,ep,rfl⟩:=rv;obtain rfl:u=.int m:=ru;have pin:p∈G.pots:=J6 ep;obtain⟨pM,own,seed,go,e,ok,hg⟩:=hp p pin;refine⟨p,own,seed,go,m,rfl,e,ok,by omega,hf.1.1,hf.1.2.1,fun d own' seed' go' d0 d1 ok' g'=>?_⟩;refine k _ _ _ _ (hf.2 d d0 d1) rfl (fun q hq=>?_) fun b o hb eb=>?_
   · by_cases hqp:q=p
     · subst hqp;exact⟨own',seed',go',E8,ok',by omega⟩
     · obtain⟨_,o2,s2,g2,e2,ok2,hg2⟩:=hp q hq;exact⟨o2,s2,g2,by rw [B6 hqp];exact e2,ok2,by omega⟩
   · rw [B6 (fun z=>hb (by rw [z];exact pin))];exact eb
 · exact hf.elim
def Eo (K:A3):Sp:=fun vs H Q _=>∃(a:Addr) (ns:List Int) (k:Int),vs=[.ref a,.int k]/\SqL K H a (ns.map V.int)/\0<=k/\k<=1000/\
 ∀p own seed,H p=none->Em own seed 0->Q (.ref p) (upd H p (.lst [.int own,.int seed,.int 0]))
end
end Pu
end
section
namespace Pu
open PySem PySem.Spec L2
section
variable {T:PotK}{np:Bool}{ι:Type}{K:A3}{F:ι->Cx}{e a b c:Expr}{es:List Expr}{pe pa pb pc:pE}{pos:Pos}{pl pr:pA}
theorem RdV.lst' {G:Gh}{H:Hp}{xs:List PV}{v:V}(h:RdV K G H (.lst xs) v):∃a vs,v=.ref a/\H a=some (.lst vs)/\Reps K G H xs vs:=by
 rcases h with⟨a,vs,e,t,r⟩ | ⟨a,vs,ys,ex,ev,h4,r⟩
 · exact⟨a,vs,e,t.2,r⟩
 · cases ex;exact⟨a,vs,ev,h4,r⟩
def qCat (pa pb:pE):pA:=fun env n R=>pa env n fun x env1 n1=>pb env1 n1 fun y env2 n2=>match x,y with | .lst xs,.lst ys=>env2=env1/\xs.length + ys.length<=1000000/\R (xs++ys) env2 n2 | _,_=>False
theorem Ep (ha:QR T K F a pa)(hb:QR T K F b pb):QN T K F (.BinOp a .Add b pos) (qCat pa pb):=by
 obtain⟨t,a1,a2⟩:=ha;obtain⟨u,b1,b2⟩:=hb;refine⟨_,fun z=>J7 op_cat (a1 z) (b1 z),fun C G σ H env n R Q hK hT S hp k=>?_⟩;refine a2 C G σ H env n _ _ hK hT S hp fun x env1 n1 v H1 q1 S1 r1 f1=>?_;refine b2 C G σ H1 env1 n1 _ _ hK hT S1 q1 fun y env2 n2 w H2 q2 S2 r2 f2=>?_
 split at q2
 · rename_i xs ys;obtain⟨e1,hl,q2⟩:=q2;subst e1;obtain⟨l,vs,ev,e1,rx⟩:=RdV.lst' ((r1.fr f2).rd S2);obtain⟨m,us,ew,e2,ry⟩:=RdV.lst' (r2.rd S2);exact⟨l,m,vs,us,ev,ew,e1,e2,by rw [<- rx.length,<- ry.length];exact mil hl,fun p hn=>k _ _ _ _ _ _ q2 S2 (f1.trans f2) hn (hK▸rx.append ry)⟩
 · exact q2.elim
def N7:List PV->Option (List Str)
 | []=>some []
 | .str b::xs=>(N7 xs).map (b::·)
 | _=>none
theorem Bw:∀{xs:List PV} {vs:List V} {bs:List Str},N7 xs=some bs->Reps K G H xs vs->vs=bs.map V.str
 | [],vs,bs,h,r=>by cases h;exact r
 | .str b :: xs, vs, bs, h, r => by
   obtain⟨v,t,e,rv,rt⟩:=r;cases e1:N7 xs with
   | none=>simp [N7,e1] at h
   | some cs =>
     have:b::cs=bs:=by simpa [N7,e1] using h
     subst this;rw [e,show v=.str b from rv,Bw e1 rt]
     rfl
 | .non::_,_,_,h,_=>by cases h
 | .int _::_,_,_,h,_=>by cases h
 | .bl _::_,_,_,h,_=>by cases h
 | .ty _::_,_,_,h,_=>by cases h
 | .pot _::_,_,_,h,_=>by cases h
 | .tup _::_,_,_,h,_=>by cases h
 | .lst _::_,_,_,h,_=>by cases h
 | .dct _ _::_,_,_,h,_=>by cases h
 | .fdt _ _::_,_,_,h,_=>by cases h
 | .scr _::_,_,_,h,_=>by cases h
theorem GI:∀bs:List Str,N7 (bs.map PV.str)=some bs:=by
 intro xq
 induction xq with
 | nil =>
   exact rfl
 | cons b bs ih =>
   simp [N7,ih]
def GJ:w2:=fun x y R=>match x,y with | .str sep,.lst xs=>(match N7 xs with | some ys=>(ys.map (·.length)).sum + ys.length * sep.length<=1000000/\R (.str (Txt.join sep ys)) | none=>False) | _,_=>False
def GK (pa pb:pE):pE:=fun env n R=>pa env n fun x env1 n1=>match x with | .str sep=>pb env1 n1 fun y env2 n2=>GJ (.str sep) y fun z=>R z env2 n2 | _=>False
theorem NM {ap:Pos}(ha:QE T K F a pa)(hb:QR T K F b pb)(hs:E4 b=true:=by rfl)(hbase:∀z,j5 a "join" (F z).env (eval a (F z).env)=eval a (F z).env:=by intro _;rfl)(hline:(ap.endLine == pos.line)=true:=by rfl)
   (hfew:∀z,((backTo pos (E3 [b] (F z).env)).all (fun x=>!x.1) && (W4 pos (W0 [] (F z).env)).all (fun x=>x.1.isSome) && decide (([b]:List Expr).length + ([]:List O3).length + (if([]:List O3).isEmpty then 0 else 1) < 30))=true:=by intro _;rfl)
   (hK:∀z,(F z).K=K:=by intro _;rfl):QE T K F (.Call (.Attribute a "join" ap) [b] [] pos) (GK pa pb):=by
 obtain⟨t,a1,a2⟩:=ha;obtain⟨u,b1,b2⟩:=hb
 refine⟨tBM K "str" (fun x vs H Q=>∃(sep:Str) (l:Addr) (ys:List Str),x=.str sep/\vs=[.ref l]/\SqL K H l (ys.map V.str)/\(ys.map (·.length)).sum + ys.length * sep.length<=16777216/\Q (.str (Txt.join sep ys)) H) t (R0 u tNil),
   fun z=>hK z▸Ae PySem.F.plainAttrs_str PySem.F.slot_str_join PySem.F.type_str_join Nm (a1 z) (E1 (b1 z) F8 (D0 hs)) (hbase z) (hfew z) hline (D0 hs),fun C G σ H env n R Q hK hT S hp k=>?_⟩
 refine a2 C G σ H env n _ _ hK hT S hp fun x env1 n1 v H1 q1 S1 r1 f1=>?_;cases x with
 | str sep =>
   obtain rfl:v=.str sep:=r1;refine⟨rfl,CA b2 hK hT S1 q1 fun y env2 n2 w H2 q2 S2 r2 f2=>?_⟩;unfold GJ at q2
   split at q2
   · rename_i sep' xs e1;cases e1
     split at q2
     · rename_i ys ey;have rd:RdV K G H2 (.lst xs) w:=hK▸r2.rd S2;obtain⟨l,vs,ev,hq,rs⟩:=rd.lst;exact⟨sep,l,ys,rfl,by rw [ev],Bw ey rs▸hq,by omega,k _ _ _ _ _ q2.2 S2 rfl (f1.trans f2)⟩
     · exact q2.elim
   · exact q2.elim
 | _=>exact q1.elim
def Er:PV->Option Bool
 | .non=>some false
 | .bl b=>some b
 | .int i=>some (i != 0)
 | .str z=>if z.length<=1000000 then some ((z.length:Int) != 0) else none
 | .lst xs=>some (!xs.isEmpty)
 | .tup xs=>some (!xs.isEmpty)
 | _=>none
def t7 (pe:pE):pT:=fun env n R=>pe env n fun x env1 n1=>match Er x with | some b=>R b env1 n1 | none=>False
theorem IT (r:Reps K G H xs vs):(!vs.isEmpty)=!xs.isEmpty:=by
 have:=r.length;cases xs <;> cases vs <;> simp_all
theorem IU {b:Bool}(h:Er x=some b)(r:RdV K G H x v):TruV K v H b:=by
 cases x with
 | non=>rw [r.non];cases h;rfl
 | bl c=>rw [r.bl];cases h;rfl
 | int i=>rw [r.int];cases h;rfl
 | str z =>
   rw [r.str]
   by_cases hz:z.length<=1000000
   · have h':(if z.length<=1000000 then some ((z.length:Int) != 0) else none)=some b:=h;rw [if_pos hz] at h';cases h';exact⟨mil hz,rfl⟩
   · have h':(if z.length<=1000000 then some ((z.length:Int) != 0) else none)=some b:=h;rw [if_neg hz] at h';cases h'
 | lst xs=>obtain⟨a,vs,ev,hq,rs⟩:=r.lst;rw [ev];cases h;exact .inl ⟨vs,hq,(IT rs).symm⟩
 | tup xs=>obtain⟨a,vs,ev,hq,rs⟩:=r.tup;rw [ev];cases h;exact .inr (.inl ⟨vs,hq,(IT rs).symm⟩)
 | _=>cases h
theorem Es (h:QR T K F e pe)(he:∀z whole,isTrue e (F z).env whole=(do let v ← whole;Y7 e.pos;Q6 [v] (truthy v)):=by intro _ _;rfl)(hK:∀z,(F z).K=K:=by intro _;rfl):QT T K F e (t7 pe):=by
 obtain⟨t,a1,a2⟩:=h;refine⟨_,fun z=>hK z▸Mt (a1 z) (he z),fun C G σ H env n R Q hK hT S hp k=>?_⟩;refine a2 C G σ H env n _ _ hK hT S hp fun x env1 n1 v H1 q1 S1 r1 f1=>?_
 split at q1
 · rename_i b eb;exact⟨b,hK▸IU eb (r1.rd S1),k _ _ _ _ q1 S1 f1⟩
 · exact q1.elim
end
def V2 (i:Nat)(pe:pE):pE:=fun env n R=>(∃xs,env[i]?=some (some (.ow .lst xs)))/\GB i pe env n R
def GL (i:Nat)(pe:pE):pE:=fun env n R=>(∃xs,env[i]?=some (some (.ow .lst xs)))/\GC i pe env n R
abbrev b__law_draw:pF:=Bv
end Pu
end
section
namespace Pu
open PySem PySem.Spec L2
theorem NN {te:pE}{rest:Env}(f:PV->PV):∀(xs:List PV) (s0:Option Slot) (n:Nat) (R:List PV->Nat->Prop),(∀x∈xs,∀m Q,Q (f x) (some (.v x)::rest) m->te (some (.v x)::rest) m Q)->R (xs.map f) n->O7 (gN 0) qTru te xs (s0::rest) n R:=by
 intro xq
 induction xq with
 | nil =>
   intro _ _ _ _ h;exact h
 | cons x xs ih =>
   intro s0 n R ht h;show te (some (.v x)::rest) n _;refine ht x B8 n _ ?_;exact ih _ n _ (fun y hy=>ht y (C3 _ hy)) h
theorem IV {te:pE}{rest:Env}(P:PV->Prop)(c N:Nat):∀(xs:List PV) (s0:Option Slot) (n:Nat) (R:List PV->Nat->Prop),
   (∀x∈xs,∀m Q,m<=N->(∀y m',P y->m'<=m + c->Q y (some (.v x)::rest) m')->te (some (.v x)::rest) m Q)->n + c * xs.length<=N->(∀ys n',ys.length=xs.length->(∀y∈ys,P y)->n'<=n + c * xs.length->R ys n')->O7 (gN 0) qTru te xs (s0::rest) n R:=by
 intro xq
 induction xq with
 | nil =>
   intro _ n _ _ _ h;exact h [] n rfl (fun _ z=>nomatch z) (by omega)
 | cons x xs ih =>
   intro s0 n R ht hN h;have hl:c * (x::xs).length=c * xs.length + c:=by rw [M7,Nat.mul_succ]
   show te (some (.v x)::rest) n _;refine ht x B8 n _ (by omega) fun y m' py hm=>?_;refine ih _ m' _ (fun y hy=>ht y (C3 _ hy)) (by omega) fun ys n' e p hn=>?_;exact h (y::ys) n' (by simp [e]) (fun z hz=>(C5.mp hz).elim (fun e=>e▸py) (p z)) (by omega)
theorem Y0 (I:Nat->Env->Nat->Prop):∀(xs:List PV) (k:Nat) (env:Env) (n:Nat),I k env n->
   (∀(i:Nat) x env n (N:Env->Nat->Prop),xs[i]?=some x->I (k + i) env n->(∀e m,I (k + i + 1) e m->N e m)->g x env fun env1=>b { D with nx:=N,ct:=N,bk:=D.nx } env1 n)->(∀env n,I (k + xs.length) env n->D.nx env n)->forL g b D xs env n:=by
 intro xq
 induction xq with
 | nil =>
   intro k env n h0 _ hd;exact hd env n h0
 | cons x xs ih =>
   intro k env n h0 hs hd;show g x env fun env1=>b { D with nx:=fun e m=>forL g b D xs e m,ct:=fun e m=>forL g b D xs e m,bk:=D.nx } env1 n;refine hs 0 x env n _ rfl h0 fun e m h1=>?_;refine ih (k + 1) e m h1 (fun i y env n N e1 h2 h3=>?_) fun env n h2=>hd env n (by rw [M7,show k + (xs.length + 1)=k + 1 + xs.length by omega];exact h2);refine hs (i + 1) y env n N (by simpa using e1) (by rw [show k + (i + 1)=k + 1 + i by omega];exact h2) fun e m h4=>h3 e m (by rw [show k + 1 + i + 1=k + (i + 1) + 1 by omega];exact h4)
theorem CD {j i:Nat}{lo:Int}{x:PV}(h:((E6 j).map fun(k:Nat)=>PV.int (lo + k))[i]?=some x):i < j/\x=.int (lo + i):=by grind
theorem b7:((E6 j).map fun(k:Nat)=>PV.int (lo + k)).length=j:=by simp
theorem CF {α:Type}{xs:List α}{d:Int}(h0:0<=d)(h1:d < xs.length):∃x,x∈xs/\atI xs d=some x:=by
 obtain⟨x,e1,e2⟩:=Iw h0 h1;exact⟨x,J6 e1,e2⟩
theorem sx_int {n d:Nat}{k:Int}(h:0<=k):HT.sIx n d (some k)=min k.toNat n:=by
 obtain⟨j,rfl⟩:=Ck h;exact HT.sIx_nat n d j
theorem GM (a b:Int):eqP (.int a) (.int b)=decide (a=b):=rfl
theorem i4 (a b:Str):eqP (.str a) (.str b)=decide (a=b):=rfl
theorem GN (a b:Bool):eqP (.bl a) (.bl b)=decide (a=b):=rfl
theorem eqP_ll (xs ys:List PV):eqP (.lst xs) (.lst ys)=eqPs xs ys:=rfl
theorem Am (xs ys:List PV):eqP (.tup xs) (.tup ys)=eqPs xs ys:=rfl
theorem An (x y:PV)(xs ys:List PV):eqPs (x::xs) (y::ys)=(eqP x y && eqPs xs ys):=rfl
theorem CG:eqPs [] []=true:=rfl
theorem if_t {A B:Prop}(h:b=true)(q:A):if b=true then A else B:=by rw [if_pos h];exact q
theorem if_f {A B:Prop}{b:Bool}(h:b=false)(q:B):if b=true then A else B:=by grind
end Pu
end
section
namespace Pu
open PySem PySem.Spec L2
section
variable {T:PotK}{np:Bool}{ι:Type}{K:A3}{F:ι->Cx}{a b:Expr}{st:Stmt}{pos:Pos}{s1 s2:pSl}
theorem gw_two (K:A3)(i j:Nat)(hc:X.calm=true)(h1:GW X (.Name x px) (K8 i))(h2:GW X (.Name y py) (K8 j))(hn:(J0 [.Name x px,.Name y py] X.env).length=2:=by rfl)(hst:(J0 [.Name x px,.Name y py] X.env).findIdx? (·.1)=none:=by rfl)
   (hs:(J0 [.Name x px,.Name y py] X.env).map (·.2)=assign (.Name x px) X.env::(J0 [.Name y py] X.env).map (·.2):=by rfl) (hs2:(J0 [.Name y py] X.env).map (·.2)=assign (.Name y py) X.env::(J0 [] X.env).map (·.2):=by rfl) (hK:X.K=K:=by rfl) :
   GW X (.Tuple [.Name x px,.Name y py] k pos) (gTup K 2 (n6 (K8 i) (n6 (K8 j) gNil))):=⟨hK▸FN hc (DX h1.h (DX h2.h FM hs2) hs) hn hst⟩
theorem NO (i j:Nat)(h:∀z te g,EW (F z) (.Tuple [a,b] k p) te->GW (F z) tg g->SW (F z) st (tAsg te g))(hg:∀z,GW (F z) tg (gTup K 2 (n6 (K8 i) (n6 (K8 j) gNil))))(h1:QL T K F a s1)(h2:QL T K F b s2)(n1:E4 a=true:=by rfl)(n2:E4 b=true:=by rfl):QS T np K F st (qPar i j s1 s2):=by
 obtain⟨t,a1,a2⟩:=h1;obtain⟨u,b1,b2⟩:=h2;refine⟨_,fun z=>(h z _ _ ⟨FV (E1 (a1 z) (E1 (b1 z) F8 (D0 n2)) (D0 n1))⟩ (hg z)).h,fun C G σ H env n PD D hK hT hn S hp L=>?_⟩;refine GE (Q:=fun v w H2=>[v,w].length<=B9/\∀p,H2 p=none->gTup K 2 (n6 (K8 i) (n6 (K8 j) gNil)) (.ref p) σ (upd H2 p (.tup [v,w])) D.nx) a2 b2 hK hT S hp fun x y env2 n2 v w G2 H2 q S2 x2 gx gy ne=>?_;refine⟨by show 2<=B9;decide,fun p hn'=>⟨p,[v,w],rfl,SqT.of E8,rfl,v,[w],rfl,w,[],rfl,rfl,?_⟩⟩;have sm:Same H2 (upd H2 p (.tup [v,w])):=Same.lay1 hn';have S3:=S2.same sm
 have keep:∀{s:Slot} {u:V},Cv C G2 H2 (some (some u)) s->Cv C G2 (upd H2 p (.tup [v,w])) (some (some u)) s:=fun {s u} r=>by
   cases s with
   | v x=>obtain⟨v',e,r⟩:=r;exact⟨v',e,r.same sm⟩
   | ow kk xs=>obtain⟨b,us,e,h1,h2,h3,h4,r⟩:=r;exact⟨b,us,e,h1,h2,h3,sm _ _ h4,r.same sm⟩
 refine L.nx _ _ _ _ _ q ((S3.slot i (keep gx.1) gx.2).slot j (keep gy.1) fun ys b e1 e2 z=>?_) (x2.trans (Ext.fr (Fr.of sm)));rcases CC S3.len z with z | ⟨⟨xs,ex⟩,ev⟩
 · exact gy.2 ys b e1 e2 z
 · exact ne xs ys b ex e1 ev e2
end
end Pu
end
section
namespace L2
open PySem PySem.Spec PyProof.Rows
section
variable {κ:Type}[DecidableEq κ]
def valV (kvs:List (κ×V))(k:κ):Option V:=(kvs.find? fun kv=>decide (kv.1=k)).map (·.2)
def putK (kvs:List (κ×V))(k:κ)(v:V):List (κ×V):=
 if(kvs.any fun kv=>decide (kv.1=k))=true then kvs.map (fun kv=>if kv.1=k then(kv.1,v) else kv) else kvs++[(k,v)]
theorem KV.keys {kvs:List (κ×V)}{vs:List (κ×Value)}(r:KV kvs vs):kvs.map (·.1)=vs.map (·.1):=by induction r <;> grind
end
theorem kV_is (r:RelV (kV k) u):(L9 P w).is k u=true:=by
 cases k with
 | inl i=>obtain⟨t,e⟩:=(show ∃t,u=Value.int i t from r);subst e;exact HJ P w i t
 | inr x=>obtain⟨t,e⟩:=(show ∃t,u=Value.str x t from r);subst e;exact DU P w x t
theorem items_are {P:C6}{w:World}:∀{ks:List Key} {us:List Value},Vals (ks.map kV) us->ItemsAre (L9 P w) ks us
 | [],_,r=>by rw [List.map_nil] at r;cases r;exact .nil
 | k :: ks, _, r => by
   rw [E9] at r;cases r with
   | cons h t=>exact .cons (kV_is h) (items_are t)
def DGet (H:Hp)(a:Addr)(y:V)(r:Option V):Prop:=
 (∃kvs k,Rd H a (.dK kvs)/\y=kV k/\r=valV kvs k)\/∃kvs k b,Rd H a (.dT kvs)/\y=.ref b/\H b=some (.tup (k.map kV))/\r=valV kvs k
def DPut (H:Hp)(a:Addr)(y v:V)(H':Hp):Prop:=
 (∃kvs k,H a=some (.dK kvs)/\y=kV k/\kvs.length < B9/\H'=upd H a (.dK (putK kvs k v)))\/
 ∃kvs k b,H a=some (.dT kvs)/\y=.ref b/\H b=some (.tup (k.map kV))/\kvs.length < B9/\H'=upd H a (.dT (putK kvs k v))
theorem DGet.k {k:Key}(e:H a=some (.dK kvs)):DGet H a (kV k) (valV kvs k):=.inl ⟨kvs,k,.inl e,rfl,rfl⟩
theorem DGet.t {k:List Key}(e:H a=some (.dT kvs))(eb:H b=some (.tup (k.map kV))):DGet H a (.ref b) (valV kvs k):=.inr ⟨kvs,k,b,.inl e,rfl,eb,rfl⟩
theorem DPut.k {k:Key}(e:H a=some (.dK kvs))(hl:kvs.length < B9):DPut H a (kV k) v (upd H a (.dK (putK kvs k v))):=.inl ⟨kvs,k,e,rfl,hl,rfl⟩
theorem DPut.t {k:List Key}(e:H a=some (.dT kvs))(eb:H b=some (.tup (k.map kV)))(hl:kvs.length < B9) :
   DPut H a (.ref b) v (upd H a (.dT (putK kvs k v))):=.inr ⟨kvs,k,b,e,rfl,eb,hl,rfl⟩
end L2
end
section
namespace HT
open PySem PySem.Spec PyProof.Rows
section
variable {prog:C6}{w:World}{A:Around}{E:Value->Shared->Prop}{s:Shared}
theorem NP (n:Nat):Cj none none (-1) (n:Int)=((n:Int) - 1,-1):=rfl
theorem NQ (n:Nat):l5 ((n:Int) - 1) (-1) (-1)=n:=by
 unfold l5;rw [if_neg (by decide)];have h1:(- -1:Int)=1:=by decide
 rw [h1]
 by_cases h:(n:Int) - 1 > -1
 · rw [if_pos h,Int.ediv_one];omega
 · rw [if_neg h];omega
theorem NR {n:Nat}(hs:s.heap.IsSliceOf sl .none .none vk)(pk:IsPart vk (some (-1)))
   (h:Q ((n:Int) - 1,-1,n) s):wpAny (model prog w) A (DJ (.ref sl) (pure (n:Int))) Q E s:=by
 obtain⟨os,hos,hcs,hds⟩:=id hs;unfold DJ HI;refine A1 (A1 (W1 hos hds (x:=.none) rfl (A1 (W1 hos hds (x:=.none) rfl (A1 (W1 hos hds (x:=vk) rfl (A5 ?_)))))));refine A1 (Cr pk ?_);show wpAny _ _ (if((-1:Int) == 0)=true then _ else _) _ _ s;rw [if_neg (by decide)];refine A1 (Cr .none (A1 (Cr .none (A1 (A5 ?_)))));show wpAny _ _ (match Cj none none (-1) (n:Int) with | (lo,hi)=>pure (lo,(-1:Int),l5 lo hi (-1))) _ _ s;rw [NP];show wpAny _ _ (pure ((n:Int) - 1,(-1:Int),l5 ((n:Int) - 1) (-1) (-1))) _ _ s;rw [NQ];exact A5 h
theorem NT {α β:Type}{f g:α->Option β}:∀l:List α,(∀m∈l,f m=g m)->l.filterMap f=l.filterMap g:=by
 intro xq
 induction xq with
 | nil =>
   intro _;exact rfl
 | cons x l ih =>
   intro h;rw [w9,w9,h x B8,ih fun m hm=>h m (C3 _ hm)]
theorem NU (xs:Array Value):((E6 xs.size).filterMap fun(m:Nat)=>xs[((xs.size:Int) - 1 + (m:Int) * -1).toNat]?).toArray=xs.toList.reverse.toArray:=by
 congr 1
 have e:(E6 xs.size).filterMap (fun(m:Nat)=>xs[((xs.size:Int) - 1 + (m:Int) * -1).toNat]?)=((E6 xs.size).map fun k=>xs.size - 1 - k).filterMap (xs[·]?):=by
   rw [List.filterMap_map];refine NT _ fun m hm=>?_;have:=L6.mp hm;show _=xs[xs.size - 1 - m]?
   congr 1
   omega
 rw [e,PySem.W.krv_range,List.filterMap_reverse,PySem.W.krv_all]
theorem getItem_tuple_rev (ht:IsTup s.heap t items)(hs:s.heap.IsSliceOf sl .none .none vk)(pk:IsPart vk (some (-1)))
   (h:Q (.ref s.heap.objs.size) { s with heap:=s.heap.push { cls:=.type "tuple",data:=.seq items.toList.reverse.toArray } })
   (hsz:items.size<=B9):wpAny (model prog w) A (getItem (.ref t) (.ref sl)) Q E s:=by
 have htake:sizeOk (.seq items.toList.reverse.toArray):=by
   show items.toList.reverse.toArray.size<=B9;rw [D8,Dx,J9];omega
 obtain⟨os,hos,hcs,hds⟩:=id hs;have hTs:s.TypeIs (.ref sl) "slice":=⟨os,hos,hcs⟩;unfold getItem
 try with_reducible refine G6 ?_
 first | refine A1 (A5 ?_) | skip
 refine A1 (wpAny_sequenceKey ht.typeIs (by decide) ?_)
 refine A1 (Y5 (name:=A4 "__getitem__") ht.typeIs AY
   (P7 AY ht.typeIs entry_tuple_getitem ?_ (args_tuple_getitem _ _)))
 show wpAny _ _ (FB (.ref t)>>=_) _ _ s;refine A1 (tupleItemsOf_ ht ?_);refine A1 (j6 hTs ?_);rw [if_pos (by decide)];refine A1 (NR hs pk ?_)
 have hno:¬((((items.size:Int) - 1) == 0 && (-1:Int) == 1 && items.size == items.size)=true):=by
   intro q;rw [P2,P2] at q;exact absurd (eq_of_beq q.1.2) (by decide)
 show wpAny _ _ (if(((items.size:Int) - 1) == 0 && (-1:Int) == 1 && items.size == items.size)=true then _ else _) _ _ s;rw [if_neg hno,NU]
 first
   | exact A1 (m:=l7 _) (L3 (A5 ⟨_,rfl,A5 h⟩) htake)
   | exact A1 (m:=l7 _) (L3 (A1 (A5 (A5 ⟨_,rfl,A5 h⟩))) htake)
   | exact A1 (A1 (m:=l7 _) (L3 (A5 (A5 ⟨_,rfl,A5 h⟩)) htake))
   | exact A1 (A1 (m:=l7 _) (L3 (A5 ⟨_,rfl,A5 h⟩) htake))
end
end HT
namespace L2
open PySem PySem.Spec PyProof.Rows
section
variable {X:Cx}{e st:Expr}{te:TE}{ts:TE}{pos p2:Pos}
def rRev (K:A3):V->Hp->VK->Prop:=fun x H Q=>∃a xs,x=.ref a/\((SqL K H a xs/\∀p,H p=none->Q (.ref p) (upd H p (.lst xs.reverse)))\/(SqT K H a xs/\∀p,H p=none->Q (.ref p) (upd H p (.tup xs.reverse))))
def tRev (K:A3)(te ts:TE):TE:=fun σ H Q=>te σ H fun x H1=>ts σ H1 fun y H2=>y=.int (-1)/\rRev K x H2 Q
theorem Vals.rev (r:Vals xs us):Vals xs.reverse us.reverse:=by
 induction r with
 | nil=>exact .nil
 | cons r1 _ ih =>
   rw [DA,DA];exact ih.append (.cons r1 .nil)
theorem pe_rev (he:PE X e te)(hs:PE X st ts):PE X (.Subscript e (.Slice none none (some st) p2) pos) (tRev X.K te ts):=by
 intro pins s σ H Q I h;refine Subscript_ (thn (he pins s σ H _ I h) fun v s1 ⟨x,H1,I1,r1,q1⟩=>?_);refine wpAny_Slice ?_;rw [evalPart_none];refine A5 (A5 ?_);rw [evalPart_some];refine thn (hs pins s1 σ H1 _ I1 q1) fun vk s3 ⟨y,H3,I3,ry,q3⟩=>?_;obtain⟨rfl,a,xs,rfl,q⟩:=q3;obtain⟨t,rfl⟩:=ry;obtain rfl:v=.ref a:=r1;have I4:Inv X pins σ H3 { s3 with heap:=s3.heap.push { cls:=.type "slice",data:=.fields #[.none,.none,.int (-1) t] } }:=I3.kept (t':=s3.toks) fun b ob q=>C0 _ q;show wpAny (model X.prog X.w) X.A (subscriptTail e (.Slice none none (some st) p2) (.ref a) (.ref s3.heap.objs.size)) (EP X pins σ Q) X.xe { s3 with heap:=s3.heap.push { cls:=.type "slice",data:=.fields #[.none,.none,.int (-1) t] } };rcases q with⟨hq,q⟩ | ⟨hq,q⟩
 · obtain⟨its,r,ht,hz⟩:=I4.list hq;refine tail_any (ops:=[.ref a,.ref s3.heap.objs.size]) ht.isList.typeIs slot_list_getitem.lookup ?_ (by with_unfolding_all rfl);refine wpAny_getItem_list_slice ht.isList (FI ..) .none .none (.int (-1) t) (by decide) ?_ (by rw [D8];have:=r.length;omega);rw [PySem.W.krv_pick];refine⟨.ref _,_,I4.laid (t':=s3.toks) (o:=.lst xs.reverse) (fun b ob q=>C0 _ q) (B3 _) ?_,rfl,q _ (I4.hok.fresh (B3 _))⟩;exact⟨by rw [Dx];exact hz,its.reverse,0,r.rev,F2 _ rfl⟩
 · obtain⟨its,r,ht,hz⟩:=I4.tuple hq;refine tail_any (ops:=[.ref a,.ref s3.heap.objs.size]) ht.typeIs PyProof.Rows.slot_tuple_getitem.lookup ?_ (by with_unfolding_all rfl);refine HT.getItem_tuple_rev ht (FI ..) (.int (-1) t) ?_ (by rw [D8];have:=r.length;omega);refine⟨.ref _,_,I4.laid (t':=s3.toks) (o:=.tup xs.reverse) (fun b ob q=>C0 _ q) (B3 _) ?_,rfl,q _ (I4.hok.fresh (B3 _))⟩;exact⟨by rw [Dx];exact hz,its.reverse,r.rev,X4.new _ _⟩
end
end L2
namespace Pu
open PySem PySem.Spec L2
section
variable {T:PotK}{ι:Type}{K:A3}{F:ι->Cx}{e:Expr}{pe:pE}{pos p2 p3 p4:Pos}
theorem Reps.rev:∀{xs:List PV} {vs:List V},Reps K G H xs vs->Reps K G H xs.reverse vs.reverse
 | [],vs,r=>by obtain rfl:vs=[]:=r;exact rfl
 | x :: xs, vs, r => by
   obtain⟨v,r',rfl,r1,r2⟩:=r;rw [DA,DA];exact(Reps.rev r2).append ⟨v,[],rfl,r1,rfl⟩
def wRev:w1:=fun x R=>match x with | .lst xs=>R (.lst xs.reverse) | .tup xs=>R (.tup xs.reverse) | _=>False
theorem qe_rev {i:Nat}(he:QR T K F e pe)(hK:∀z,(F z).K=K:=by intro _;rfl):QE T K F (.Subscript e (.Slice none none (some (.UnaryOp .USub (.Constant (.int 1) i p3) p4)) p2) pos) (qUn wRev pe):=by
 obtain⟨t,h1,h2⟩:=he;refine⟨_,fun z=>hK z▸pe_rev (h1 z) (pe_un un_neg G9),fun C G σ H env n R Q hK hT S hp k=>?_⟩;refine h2 C G σ H env n _ _ hK hT S hp fun x env1 n1 v H1 p1 S1 r1 f1=>?_;subst hK;have rx:=r1.rd S1;refine⟨1,rfl,rfl,?_⟩;unfold wRev at p1
 split at p1
 · obtain⟨a,vs,ev,hq,r⟩:=rx.lst;exact⟨a,vs,ev,.inl ⟨hq,fun p hn=>k _ _ _ _ _ p1 (S1.same (Same.lay1 hn)) (Cy (S1.fresh hn) hn r.rev) (f1.trans (Fr.of (Same.lay1 hn)))⟩⟩
 · obtain⟨a,vs,ev,hq,r⟩:=rx.tup;exact⟨a,vs,ev,.inr ⟨hq,fun p hn=>k _ _ _ _ _ p1 (S1.same (Same.lay1 hn)) (Bn (S1.fresh hn) hn r.rev) (f1.trans (Fr.of (Same.lay1 hn)))⟩⟩
 grind
end
end Pu
end
section
namespace Pu
open PySem PySem.Spec L2
section
variable {T:PotK}{ι:Type}{K:A3}{F:ι->Cx}{e:Expr}{pe:pE}{pos:Pos}
def Bx (i:Nat)(pe:pE):pE:=fun env n R=>(∃xs,env[i]?=some (some (.ow .lst xs)))/\pe env n fun y env1 n1=>match env1[i]?,y with | some (some (.ow .lst xs)),.lst ys=>xs.length + ys.length<=1000000/\R .non (env1.set i (some (.ow .lst (xs++ys)))) n1 | _,_=>False
theorem GO (i:Nat){x:Str}{p ap:Pos}(hv:∀z,EW (F z) (.Name x p) (tVar i))(he:QE T K F e pe)(hs:E4 e=true:=by rfl)(hbase:∀z,j5 (.Name x p) "extend" (F z).env (eval (.Name x p) (F z).env)=eval (.Name x p) (F z).env:=by intro _;rfl)(hline:(ap.endLine == pos.line)=true:=by rfl)
   (hfew:∀z,((backTo pos (E3 [e] (F z).env)).all (fun x=>!x.1) && (W4 pos (W0 [] (F z).env)).all (fun x=>x.1.isSome) && decide (([e]:List Expr).length + ([]:List O3).length + (if([]:List O3).isEmpty then 0 else 1) < 30))=true:=by intro _;rfl) (hK:∀z,(F z).K=K:=by intro _;rfl):QE T K F (.Call (.Attribute (.Name x p) "extend" ap) [e] [] pos) (Bx i pe):=by
 obtain⟨t,a1,a2⟩:=he;refine⟨tBM K "list" Ik (tVar i) (R0 t tNil),fun z=>hK z▸Ae Cm PySem.F.slot_list_extend PySem.F.type_list_extend MU (hv z).h (E1 (a1 z) F8 (D0 hs)) (hbase z) (hfew z) hline (D0 hs),fun C G σ H env n R Q hK hT S hp k=>?_⟩;obtain⟨⟨xs0,e0⟩,hp⟩:=hp;obtain⟨a,vs,ev,h1,h2,h3,h4,r⟩:=S.slots i _ e0;refine⟨.ref a,ev,.inl ⟨rfl,vs,SqL.of h4⟩,?_⟩;refine a2 C G σ H env n _ _ hK hT S hp fun y env1 n1 v H1 q1 S1 r1 f1=>?_
 split at q1
 · rename_i xs ys ex;obtain⟨a',us,ev',g1,g2,g3,g4,r'⟩:=S1.slots i _ ex;rw [ev] at ev';cases ev';subst hK;obtain⟨b,ws,rfl,tb,rb⟩:=r1;obtain⟨S2,f2⟩:=S1.put ex ev (r'.append rb);exact⟨a,b,us,ws,rfl,rfl,g4,tb.2,by rw [<- r'.length,<- rb.length];exact mil q1.1,k _ _ _ _ _ q1.2 S2 rfl (f1.trans f2)⟩
 · exact q1.elim
end
end Pu
end
section
namespace L2
open PySem PySem.Spec PyProof.Rows
theorem GP:∀{ys:List Str} {us:List Value},Vals (ys.map V.str) us->StrsAre us ys
 | [],us,r=>by rw [List.map_nil] at r;cases r;exact .nil
 | y :: ys, us, r => by
   rw [E9] at r;cases r with
   | cons r1 r2 =>
     obtain⟨t,e⟩:=r1;subst e;exact .cons y t (GP r2)
section
variable {X:Cx}
def IW (K:A3):V->List V->Hp->VK->Prop:=fun x vs H Q=>∃(l:Addr) (k:Str) (ys:List Str),x=.ref l/\vs=[.str k]/\SqL K H l (ys.map V.str)/\Q (.int (countIn (.str k) (ys.map PyData.str))) H
theorem NV:MtM X "list.count" (IW X.K):=by
 intro pins s σ H x vs v us Q I rx rv h;obtain⟨l,k,ys,rfl,rfl,hq,q⟩:=h;cases rx;obtain⟨u,rfl,ru⟩:=rv.one;obtain⟨t,rfl⟩:=ru;obtain⟨its,r,p,hz⟩:=I.list hq;exact count_list_strs p.isList (GP r) ⟨.int _,H,I.tok _,⟨_,rfl⟩,q⟩
end
end L2
namespace Pu
open PySem PySem.Spec PyProof.Rows L2
section
variable {T:PotK}{ι:Type}{K:A3}{F:ι->Cx}{e c:Expr}{pe pc:pE}{pos:Pos}
def Et:w2:=fun x y R=>match x,y with | .lst xs,.str k=>(match N7 xs with | some ys=>R (.int (countIn (.str k) (ys.map PyData.str))) | none=>False) | _,_=>False
theorem IX {ap:Pos}(he:QE T K F e pe)(hc:QE T K F c pc)(hs:E4 c=true:=by rfl)(hbase:∀z,j5 e "count" (F z).env (eval e (F z).env)=eval e (F z).env:=by intro _;rfl)(hline:(ap.endLine == pos.line)=true:=by rfl)
   (hfew:∀z,((backTo pos (E3 [c] (F z).env)).all (fun x=>!x.1) && (W4 pos (W0 [] (F z).env)).all (fun x=>x.1.isSome) && decide (([c]:List Expr).length + ([]:List O3).length + (if([]:List O3).isEmpty then 0 else 1) < 30))=true:=by intro _;rfl) (hK:∀z,(F z).K=K:=by intro _;rfl):QE T K F (.Call (.Attribute e "count" ap) [c] [] pos) (fun env n R=>pe env n fun x env1 n1=>(∃xs,x=.lst xs)/\pc env1 n1 fun y env2 n2=>Et x y fun z=>R z env2 n2):=by
 obtain⟨t,a1,a2⟩:=he;obtain⟨u,b1,b2⟩:=hc;refine⟨tBM K "list" (IW K) t (R0 u tNil),fun z=>hK z▸Ae Cm PySem.F.slot_list_count PySem.F.type_list_count NV (a1 z) (E1 (b1 z) F8 (D0 hs)) (hbase z) (hfew z) hline (D0 hs),fun C G σ H env n R Q hK hT S hp k=>?_⟩;refine a2 C G σ H env n _ _ hK hT S hp fun x env1 n1 v H1 q1 S1 r1 f1=>?_;obtain⟨⟨xs,rfl⟩,q1⟩:=q1;obtain⟨a,vs,rfl,ta,ra⟩:=r1;refine⟨.inl ⟨rfl,vs,SqL.of ta.2⟩,?_⟩;refine b2 C G σ H1 env1 n1 _ _ hK hT S1 q1 fun y env2 n2 w H2 q2 S2 r2 f2=>?_;unfold Et at q2
 split at q2
 · rename_i xs' kk e1;cases e1
   split at q2
   · rename_i ys ey;obtain⟨a',vs',e3,ta',ra'⟩:=(show Rep K G H1 (.lst xs) (.ref a) from⟨a,vs,rfl,ta,ra⟩).fr f2;cases e3;exact⟨a,kk,ys,rfl,by rw [show w=.str kk from r2],Bw ey ra'▸SqL.of ta'.2,k _ _ _ _ _ q2 S2 rfl (f1.trans f2)⟩
   · exact q2.elim
 · exact q2.elim
end
end Pu
namespace Pu
def GQ (pe pc:pE):pE:=fun env n R=>pe env n fun x env1 n1=>(∃xs,x=.lst xs)/\pc env1 n1 fun y env2 n2=>Et x y fun z=>R z env2 n2
end Pu
end
section
namespace L2
open PySem PySem.Spec PyProof.Rows
theorem NW {X:Cx}{scope:Scope}{cl:List (Str×Addr)}{N:List Str}{cs:List (Option Nat)}{elt tg iter:Expr}{ifs:List Expr}{pos spos py:Pos}{wi:TI}{g:TG}{tt:TT}{te:TE}{i:Nat}{y:Str}(hN:X.N.Nodup)(hiy:X.N[i]?=some y)(hy:Loc X.env.scope y)(S:p5 X scope cl N cs)(hc:X.calm=true)(hi:PI X tg iter wi)
   (hb:∀(fp:List Addr) (C:Addr) (s:Shared) (H:Hp),PG (F3 X scope cl N fp C s H) tg g/\PIf (F3 X scope cl N fp C s H) ifs tt/\PE (F3 X scope cl N fp C s H) elt te)
   (hsw:j8 (.ListComp elt [⟨tg,iter,ifs,0⟩] scope pos) (some (.Name y py)) spos.line X.env=pure true:=by rfl)
   (hs:∀x,T9 iter X.env x=pure x:=by intro _;rfl) (hff:X.fn y=true\/X.env.scope.names.lookup y=some .local:=by first | exact .inl rfl | exact .inr rfl | assumption) :
   PS X (.Assign [.Name y py] (.ListComp elt [⟨tg,iter,ifs,0⟩] scope pos) spos) (tAsg (tComp cs wi g tt te) (K8 i)):=by
 have bn:∀(M:Model) (A:Around) (v:Value) (Q:Unit->Shared->Prop) (E:Value->Shared->Prop) (s:Shared),wpAny M A (storeName X.env y v) Q E s->wpAny M A (assign (.Name y py) X.env v) Q E s:=fun M A v Q E s h=>Dm h;intro pins s σ H DD I h;rw [exec_Assign_Name_used _ _ _ _ hsw];refine A1 (U3 (A1 ?_));show wpAny _ _ (do let _ ← comprehension (.ListComp elt [⟨tg,iter,ifs,0⟩] scope pos) scope X.env _ (newList []) false (eval iter X.env) (some (assign (.Name y py) X.env))) _ _ s;refine A1 (G7 (Q:=fun _ s'=>SP X pins DD .next s') ?_ (fun _ s' hq=>A5 (A5 hq)) fun _ _ e=>e);refine Fq (use:=some (assign (.Name y py) X.env)) rfl hs S.clos S.kind S.names (thn (hi pins s σ H _ I h) fun v s1 h1=>thn h1 fun itv s2 h2=>?_);obtain⟨it,fp,tn,J,H2,rfl,I2,T,st2,f2,q⟩:=h2
 have ho:∀b∈fp,∃o,s2.heap.get? b=some o:=fun b hb=>by
   obtain⟨o,e,_⟩:=T.obj 0 _ st2 b hb;exact⟨o,e⟩
 refine L3 (Dk S.nocell (by intro y hy;simp at hy) (fun h₁ hns₁ hsb₁=>?_) S.kind);dsimp only at hns₁ hsb₁ ⊢;have hC:(s2.heap.push { cls:=.type "list",dict:=none,data:=.seq ([]:List Value).toArray }).objs.size=s2.heap.objs.size + 1:=by rw [j9]
 generalize hH2:s2.heap.push { cls:=.type "list",dict:=none,data:=.seq ([]:List Value).toArray }=hp2 at hns₁ hsb₁ hC ⊢;have old:∀b o,s2.heap.get? b=some o->h₁.get? b=some o:=fun b o e=>hsb₁.extBut b o (by rw [hC];exact C9 (Q9 (B4 e))) (C0 _ (hH2▸C0 _ e));have hD:h₁.get? s2.heap.objs.size=some { cls:=.type "list",data:=.seq ([]:List Value).toArray }:=hsb₁.extBut _ _ (by rw [hC];exact C9 (Cc _)) (C0 _ (hH2▸F2 _ rfl));rw [hC] at hns₁ ⊢;obtain⟨W,⟨m0,w0⟩,turn⟩:=q s2.heap.objs.size I2.fresh;have Ic:=Gd S (tk:=s2.toks + ([]:List (Str×Value)).length) I2 f2 ho old hns₁ hD;have nstk:∀b,b≠X.env.locals->b∉X.fs->b∉frs X.stack:=fun b h1 h2 hb=>(C5.mp (I2.stkSub b hb)).elim h1 h2
 have stat:∀{H':Hp},(∀b∈fp,H' b=none)->∀b∈fp,FpOk (F3 X scope cl N fp (s2.heap.objs.size + 1) s2 H2) pins H' b:=fun hn b hb=>by
   obtain⟨o,e⟩:=ho b hb;exact⟨hn b hb,C9 (Q9 (B4 e)),nstk b (f2 b hb).2.1 (f2 b hb).2.2.1,.inl hb,fun x c ec=>(f2 b hb).2.2.2.2.1 x c (S.sub x c ec),(f2 b hb).2.2.2.2.2⟩
 obtain⟨hg,hf,he⟩:=hb fp (s2.heap.objs.size + 1) s2 H2;have st1:tn 0 h₁:=T.keep _ _ _ st2 fun b hb o e=>old b o e
 have fr1:∀b∈fp,upd H2 s2.heap.objs.size (.lst []) b=none:=fun b hb=>by
   obtain⟨o,e⟩:=ho b hb;rw [B6 (C9 (B4 e))];exact(f2 b hb).1
 have loop:∀s₃:Shared,s₃={ s2 with heap:=h₁,toks:=s2.toks + ([]:List (Str×Value)).length }->
     L5 (model X.prog X.w) X.A (.compLoop (.ListComp elt [⟨tg,iter,ifs,0⟩] scope pos) 0 (.ref it) (.ref s2.heap.objs.size) (compEnvC scope cl (s2.heap.objs.size + 1) X.env))
       (compPost (model X.prog X.w) X.A X.xe (some (assign (.Name y py) X.env)) (fun _ s'=>SP X pins DD .next s') (.ref s2.heap.objs.size) (s2.heap.objs.size + 1)) s₃:=by
   rintro s₃ rfl;refine Im _ (Gf (Y:=F3 X scope cl N fp (s2.heap.objs.size + 1) s2 H2) T hc stat hg hf he (fun s4 σ3 H3 I4 qn=>?_) turn) m0 ⟨0,_,_,Ic,st1,fr1,w0⟩;obtain⟨m4,hn4,_⟩:=I4.loc;have I5:Inv X pins σ H3 s4:=Inv.uncomp (h':=s4.heap) I2 f2 I4 fun b hb=>rfl;have oldne:∀b o,s2.heap.get? b=some o->b≠s2.heap.objs.size + 1:=fun b o e=>C9 (Q9 (B4 e));have locne:X.env.locals≠s2.heap.objs.size + 1:=C9 (Q9 I2.lt)
   have cellne:∀x c,X.env.cells.lookup x=some c->c≠s2.heap.objs.size + 1:=fun x c e=>by
     obtain⟨v,o,h1,_⟩:=I2.cell x c e;exact oldne c o h1
   refine bn _ _ _ _ _ _ (HK I5 hN hiy hy (v:=.ref s2.heap.objs.size) rfl (fun s6 I6 ⟨a6,sb6,ha6⟩=>?_) hff)
   have ane:s2.heap.objs.size + 1≠a6:=by
     rcases ha6 with rfl | ha6
     · exact Ne.symm locne
     · exact Ne.symm (cellne _ _ ha6)
   refine⟨m4,hn4.sameBut sb6 ane,fun h' hs'=>⟨_,H3,?_,qn⟩⟩;have hs7:∀b,b≠s2.heap.objs.size + 1->h'.get? b=s6.heap.get? b:=fun b hb=>hs'.2 b hb;have U0:Un (frs X.stack) [s2.heap.objs.size + 1] H3 H3 s6.heap s6.heap:=Un.refl
   have trC:∀b u,H3 b=some u->b≠s2.heap.objs.size + 1:=fun b u e z=>by
     have q:H3 (s2.heap.objs.size + 1)=none:=I4.free;rw [z,q] at e;cases e
   obtain⟨hh6,g6,d6,t6,os6⟩:=s6;refine I6.call (h':=h') (g':=g6) (d':=d6) (t':=t6) (ch:=[s2.heap.objs.size + 1]) ⟨fun b o e n hb hx=>?_,fun b o e n hb hx=>?_,U0.free,fun b o e hx=>?_,U0.tups,U0.frzs,U0.tbls,U0.sys⟩ (fun b u e=>?_) I6.bare fun b hb=>?_
   · have hb':b≠s2.heap.objs.size + 1:=fun z=>hx (by rw [z];exact D5.mpr rfl);rw [hs7 b hb'];exact U0.keep b o e n hb hx
   · have hb':b≠s2.heap.objs.size + 1:=fun z=>hx (by rw [z];exact D5.mpr rfl);rw [hs7 b hb'];exact U0.slot b o e n hb hx
   · have hb':b≠s2.heap.objs.size + 1:=fun z=>hx (by rw [z];exact D5.mpr rfl);rw [hs7 b hb'];exact U0.there b o e hx
   · refine(I6.hok b u e).stay (fun c v hc q=>?_) (fun _ q=>q) fun _ _ q=>q
     have ne:c≠s2.heap.objs.size + 1:=by
       rcases hc with z | z
       · rw [z];exact trC b u e
       · exact trC c _ z
     rw [hs7 c ne];exact q
   · rw [D5.mp hb];refine⟨.inr (DC I2.sz),Ne.symm locne,cellne,fun p hp=>?_⟩;exact oldne _ _ (I2.pin p hp).1
 exact Fs (loop _ rfl) (T.self _ 0 _ _ _ st1 (loop _ rfl))
end L2
namespace Pu
open PySem PySem.Spec L2
def SwOk (X:Cx)(e:Expr)(t:TE):Prop:=∀(i:Nat) (y:Str) (py spos:Pos),X.N.Nodup->X.N[i]?=some y->Loc X.env.scope y->j8 e (some (.Name y py)) spos.line X.env=pure true->(X.fn y=true\/X.env.scope.names.lookup y=some .local)->PS X (.Assign [.Name y py] e spos) (tAsg t (K8 i))
def QNC {ι:Type}(T:PotK)(K:A3)(F:ι->Cx)(e:Expr)(pn:pA):Prop:=∃t,(∀z,PE (F z) e t)/\(∀z,SwOk (F z) e t)/\NOk K T t pn
section
variable {T:PotK}{np:Bool}{ι:Type}{K:A3}{F:ι->Cx}{e:Expr}{pl:pA}{pg:pG}{pos:Pos}
theorem Eu {scope:Scope}{cl:ι->List (Str×Addr)}{N:List Str}{cs:List (Option Nat)}{elt tg iter:Expr}{ifs:List Expr}{pi:pA}{ptt:pT}{pte:pE}(S:∀z,p5 (F z) scope (cl z) N cs)(hc:∀z,(F z).calm=true)(hi:QI T K F tg iter pi)
   (hg:QG K (fun y:ι×List Addr×Addr×Shared×Hp=>F3 (F y.1) scope (cl y.1) N y.2.1 y.2.2.1 y.2.2.2.1 y.2.2.2.2) tg pg) (ht:QIf T K (fun y:ι×List Addr×Addr×Shared×Hp=>F3 (F y.1) scope (cl y.1) N y.2.1 y.2.2.1 y.2.2.2.1 y.2.2.2.2) ifs ptt)
   (he:QE T K (fun y:ι×List Addr×Addr×Shared×Hp=>F3 (F y.1) scope (cl y.1) N y.2.1 y.2.2.1 y.2.2.2.1 y.2.2.2.2) elt pte)
   (hs:∀z x,T9 iter (F z).env x=pure x:=by intro _ _;rfl):QNC T K F (.ListComp elt [⟨tg,iter,ifs,0⟩] scope pos) (O8 cs pi pg ptt pte):=by
 obtain⟨wi,i1,i2⟩:=hi;obtain⟨g,hg0,hg⟩:=hg;obtain⟨tt,ht0,ht⟩:=ht;obtain⟨te,he0,he⟩:=he;refine⟨_,fun z=>Io (S z) (hc z) (i1 z) (fun fp C s H=>⟨hg0 (z,fp,C,s,H),ht0 (z,fp,C,s,H),he0 (z,fp,C,s,H)⟩) (hs z),fun z i y py spos hN hi hy hsw hf=>NW hN hi hy (S z) (hc z) (i1 z) (fun fp C s H=>⟨hg0 (z,fp,C,s,H),ht0 (z,fp,C,s,H),he0 (z,fp,C,s,H)⟩) hsw (hs z) hf,fun C G σ H env n R Q hK hT S hp k=>?_⟩;refine i2 C G σ H env n _ _ hK hT S hp fun xs env1 n1 J H1 p1 S1 f1 hJ=>?_;intro D hD;have hDM:=S1.fresh hD;refine IQ (G:=G) hg ht he hJ p1.1 hD (hT▸hK▸Gz S1 cs) p1.2 fun ys n2 us H' rr hpots hk eD ry=>?_
 -- the heap without D
 have nD:∀b o,H1 b=some o->b≠D:=fun b o e z=>by rw [z,hD] at e;cases e
 have hD0:C.H0 D=none:=by
   cases z:C.H0 D with
   | none=>rfl
   | some o =>
     by_cases hp:D∈C.pots0
     · exact absurd (S1.sup D (S1.p0.1 D hp)) hDM
     · have:=S1.frame D o hp z;rw [hD] at this;cases this
 have hk2:∀b o,b∉G.pots->H1 b=some o->cutH H' D b=some o:=fun b o hb e=>by rw [T8 (nD b o e)];exact hk b o hb e
 have nc:∀b,b∉D::G.M->b≠D:=fun b hb z=>hb (by rw [z];exact B8);have np:∀p∈G.pots,p≠D:=fun p hp z=>hDM (z▸(S1.pots p hp).1)
 have Sb:SR C G σ (cutH H' D) env1 n2:=S1.call hk2 fun p hp=>by
   subst hT;have h2:=C.T.keep (hpots p hp) (H':=cutH H' D) (T8 (np p hp)) fun b o hb e=>by rw [T8 (nc b hb)];exact e
   exact C.T.more h2 fun a ha=>.inl (C3 _ ha)
 have:=k ys env1 n2 D us (cutH H' D) rr Sb (f1.trans fun b o hb e=>hk2 b o (fun z=>hb (S1.pots b z).1) e) (by unfold cutH;rw [if_pos rfl]) ?_
 · rw [GA eD] at this;exact this
 · exact Reps.mono (G:=⟨D::G.M,G.pots⟩) (fun b o hb e=>by rw [T8 (nc b hb)];exact e) (fun a ha=>.inl (C3 _ ha)) (fun _ _ e=>e) _ _ ry
theorem Ew (i:Nat){y:Str}{py spos:Pos}(h:QNC T K F e pl)(hN:∀z,(F z).N.Nodup)(hi:∀z,(F z).N[i]?=some y)(hy:∀z,Loc (F z).env.scope y)(hsw:∀z,j8 e (some (.Name y py)) spos.line (F z).env=pure true:=by intro _;rfl)(hf:∀z,(F z).fn y=true\/(F z).env.scope.names.lookup y=some .local:=by intro _;first | exact .inl rfl | exact .inr rfl):QS T np K F (.Assign [.Name y py] e spos) (qSet i (qL pl)):=by
 obtain⟨t,a1,a3,a2⟩:=h
 have he:EOk K T t (qL pl):=fun C G σ H env n R Q hK hT S hp k=>by
   refine a2 C G σ H env n _ _ hK hT S hp fun xs env1 n1 a vs Hb p1 S1 f1 hn r1=>?_;exact k _ _ _ _ _ p1 (S1.same (Same.lay1 hn)) (Cy (S1.fresh hn) hn r1) (f1.trans (Fr.of (Same.lay1 hn)))
 refine⟨_,fun z=>a3 z i y py spos (hN z) (hi z) (hy z) (hsw z) (hf z),fun C G σ H env n PD D hK hT hn S hp L=>?_⟩;refine he C G σ H env n _ _ hK hT S hp fun x env1 n1 v H1 q1 S1 r1 f1=>?_;exact L.nx _ _ _ _ _ q1 (S1.set i (hK▸r1)) (Ext.fr f1)
end
end Pu
end
section
namespace L2
open PySem PySem.Spec PyProof.Rows
def met (val:Nat->Key):Nat->List Key
 | 0=>[]
 | i + 1=>if(met val i).any (fun y=>decide (y=val i)) then met val i else met val i++[val i]
theorem met_le (val:Nat->Key):∀i,(met val i).length<=i:=by
 intro xq
 induction xq with
 | zero =>
   exact B3 _
 | succ i ih =>
   have:=ih;unfold met
   split
   · omega
   · rw [D4,N4];omega
theorem IY (val:Nat->Key)(i:Nat)(k:Key):(met val (i + 1)).any (fun y=>decide (y=k))=((met val i).any (fun y=>decide (y=k)) || decide (k=val i)):=by
 show(if(met val i).any (fun y=>decide (y=val i)) then met val i else met val i++[val i]).any (fun y=>decide (y=k))=_
 by_cases hk:k=val i
 · subst hk;rw [decide_eq_true rfl,Bool.or_true]
   split
   · assumption
   · rw [List.any_append];simp
 · rw [decide_eq_false hk,AV]
   split
   · rfl
   · rw [List.any_append]
     have:([val i].any (fun y=>decide (y=k)))=false:=by
       rw [List.any_cons,List.any_nil,AV];exact decide_eq_false (Ne.symm hk)
     rw [this,AV]
theorem IZ (val:Nat->Key)(i:Nat):(met val (i + 1)).length=if(met val i).any (fun y=>decide (y=val i)) then(met val i).length else(met val i).length + 1:=by
 show(if(met val i).any (fun y=>decide (y=val i)) then met val i else met val i++[val i]).length=_
 split
 · rfl
 · rw [D4,N4]
section
variable {prog:C6}{w:World}{A:Around}{R:Result->Shared->Prop}{I:Addr}{fp wr:List Addr}{G:Array GenState->Array GenState->Prop}{n:Nat}{P:Nat->Value->Prop}{St:Nat->Shared->Prop}
theorem NY (Wk:WalksS prog w A.in1 I fp wr G n P St)(S:Addr)(nf:S∉fp)(val:Nat->Key)(hv:∀i v,P i v->(L9 prog w).is (val i) v=true/\v.scannable=true)(room:n + 1 < scanBound) :
   ∀ (k i : Nat) (s : Shared), n - i = k -> i <= n -> St i s -> s.heap.SetOf (L9 prog w) S (fun q => (met val i).any (fun y => decide (y = q))) (met val i).length ->
     (∀s',Moved (S::wr) G s s'->s'.heap.SetOf (L9 prog w) S (fun q=>(met val n).any (fun y=>decide (y=q))) (met val n).length->R (.ok (.ret .none)) s')->
     L5 (model prog w) A (.builtin "set.update.loop" ⟨[.ref S,.ref I],[]⟩) R s:=by
 have nw:S∉wr:=fun h=>nf (Wk.sub _ h);have sub:∀b∈wr,b∈S::wr:=fun b hb=>C3 _ hb;intro k
 induction k with
 | zero =>
   intro i s hk hi st so fin;have ei:i=n:=by omega
   subst ei;refine U2 DM ?_;rw [X1 y9 _];refine A1 (m:=pyNext (.ref I)) (Wk.done s _ _ st fun s' mv=>?_);refine A5 (fin s' (mv.mono sub) ?_);obtain⟨o,es,ep,t,ho,more⟩:=so;exact⟨o,es,ep,t,mv.heap S _ nw ho,more⟩
 | succ k ih =>
   intro i s hk hi st so fin;have lt:i < n:=by omega
   refine U2 DM ?_;rw [X1 y9 _];refine A1 (m:=pyNext (.ref I)) (Wk.item i s _ _ lt st fun v s' pv' st' mv=>?_);obtain⟨kv,sc⟩:=hv i v pv'
   have so':s'.heap.SetOf (L9 prog w) S (fun q=>(met val i).any (fun y=>decide (y=q))) (met val i).length:=by
     obtain⟨o,es,ep,t,ho,more⟩:=so;exact⟨o,es,ep,t,mv.heap S _ nw ho,more⟩
   refine A1 (m:=Q6 [v] (setAdd S v)) (G6 ?_);unfold setAdd;refine G6 (A1 ((L9 prog w).pyHash (k:=val i) kv ?_));have rm:(met val i).length + 1 < scanBound:=by have:=met_le val i;omega
   refine wpAny_setAddHashed_of (knd:=L9 prog w) (s:={ s' with toks:=s'.toks + 1 }) kv sc so' rm fun h' sb so2=>?_
   have so3:h'.SetOf (L9 prog w) S (fun q=>(met val (i + 1)).any (fun y=>decide (y=q))) (met val (i + 1)).length:=by
     have e1:(fun q=>(met val i).any (fun y=>decide (y=q)) || decide (q=val i))=fun q=>(met val (i + 1)).any (fun y=>decide (y=q)):=funext fun q=>(IY val i q).symm;rw [IZ,<- e1];exact so2
   refine A5 ⟨V9 y9 _,ih (i + 1) _ (by omega) lt (Wk.frame _ s' _ _ st' (k7 _) fun b hb o e=>?_) so3 fun s2 mv2 so4=>?_⟩
   · rw [sb.2 b (fun z:b=S=>nf (by rw [<- z];exact hb))];exact e
   · refine fin s2 (Moved.trans Wk.gtrans ((mv.mono sub).then_heap (k7 _) fun b o hb e=>?_) mv2) so4;rw [sb.2 b (fun z:b=S=>hb (by rw [z];exact B8))];exact e
end
section
variable {prog:C6}{w:World}{A:Around}{E:Value->Shared->Prop}{s:Shared}
theorem NZ:isSubtype (.type "tuple") (.type "set")=pure false:=by rw [i9] <;> kernel_rfl
theorem N_:isSubtype (.type "tuple") (.type "frozenset")=pure false:=by rw [i9] <;> kernel_rfl
theorem Oa:isSubtype (.type "list") (.type "set")=pure false:=by rw [i9] <;> kernel_rfl
theorem Ob:isSubtype (.type "list") (.type "frozenset")=pure false:=by rw [i9] <;> kernel_rfl
theorem Oc (x:Value){Q₁:Value->Shared->Prop}
   (h:∀led:Bool,led=(!(w.params.followText "set-order"))->Q₁ (.ref s.heap.objs.size) { s with heap:=s.heap.push { cls:=.type "set",dict:=none,data:=.set #[] 0 (.fresh 0 0 led) } }) :
   L5 (model prog w) A (.call (.builtin "set.__new__") ⟨[.type "set",x],[]⟩) (wants Q₁ E) s:=by
 refine codeAny_of_tree (show wpAny (model prog w) A.in1 (checkBuiltinCall "set.__new__" ⟨[.type "set",x],[]⟩>>=fun _=>again (.builtin "set.__new__" ⟨[.type "set",x],[]⟩)) _ _ s from ?_);refine A1 (wpAny_of_eq (F.newCall_set_1 x) (A5 ⟨V9 F.plain_set_new _,U2 F.entry_set_new ?_⟩));rw [X1 F.plain_set_new _];unfold N3.«set.__new__» Builtin.Frozenset.newClass;have ss:=sub_set_self;obtain⟨hp,gs,dr,tk,sy⟩:=s;dsimp only
 wp_walk
 refine Dn (A5 ?_);dsimp only;unfold newObj;refine A1 (wpAny_alloc (A5 (A5 (h _ ?_))))
 first | rfl | simp
abbrev soN (led:Bool):Obj:={ cls:=.type "set",dict:=none,data:=.set #[] 0 (.fresh 0 0 led) }
theorem I_ {a:Addr}{its:Array Value}{Z:Heap->Prop}{Q:Value->Shared->Prop}(hd:A.handled=none)(ht:s.heap.IsList a its\/s.heap.IsTuple a its)
   (lp:∀(I:Addr) (St:Nat->Shared->Prop) (fp:List Addr) (G:Array GenState->Array GenState->Prop) (s1:Shared) (R:Result->Shared->Prop) (led:Bool),led=(!(w.params.followText "set-order"))->s.heap.objs.size < I->
     WalksS prog w A.in1.in1.in1 I fp [I] G its.size (fun i v=>its[i]?=some v) St->s.heap.objs.size∉fp->St 0 s1->s1.heap.get? s.heap.objs.size=some (soN led)->(∀b o,s.heap.get? b=some o->s1.heap.get? b=some o)->
     (∀s',Moved [s.heap.objs.size,I] G s1 s'->Z s'.heap->R (.ok (.ret .none)) s')->L5 (model prog w) A.in1.in1 (.builtin "set.update.loop" ⟨[.ref s.heap.objs.size,.ref I],[]⟩) R s1)
   (fin:∀(h':Heap) (tk:Nat),Z h'->(∀b o,b < s.heap.objs.size->s.heap.get? b=some o->h'.get? b=some o)->Q (.ref s.heap.objs.size) { s with heap:=h',toks:=tk }):wpAny (model prog w) A (call (.type "set") [.ref a]) Q E s:=by
 obtain⟨c,tl,mr⟩:=PySem.F.called_set.mro;have md:=PySem.F.called_set.made;have sb:=PySem.F.called_set.sub;refine wpAny_call (codeAny_of_tree (show wpAny (model prog w) _ (callAny (.type "set") _) _ _ s from ?_));refine A5 ⟨Code.quiet_builtin _ (by decide +kernel),U2 PySem.F.entry_type_call ?_⟩;rw [Around.under_plain (weight_type_call_type "set" [.ref a] []) rfl];have x1:=PySem.F.called_set.notType;have x2:=PySem.F.called_set.canCreate;have x3:=PySem.F.typeCall_set_1 (.ref a)
 repeat (any_goals (first | wp_step | assumption))
 refine w4 (Oc (.ref a) (E:=E) (Q₁:=fun ob s₁=>∃led:Bool,led=(!(w.params.followText "set-order"))/\ob=.ref s.heap.objs.size/\s₁={ s with heap:=s.heap.push (soN led) }) fun led hl=>⟨led,hl,rfl,rfl⟩) fun r s₁ hr=>?_;cases r with
 | error e=>exact hr
 | ok fl =>
   cases fl with
   | ret ob =>
     obtain⟨led,hled,rfl,rfl⟩:=hr;have g0:(s.heap.push (soN led)).get? s.heap.objs.size=some (soN led):=F2 _ rfl;have ty:Shared.TypeIs { s with heap:=s.heap.push (soN led) } (.ref s.heap.objs.size) "set":=⟨_,g0,rfl⟩;have y1:=PySem.F.called_set.init.lookup;have y2:=PySem.F.called_set.init.bind (.ref s.heap.objs.size)
     repeat (any_goals (first | wp_step | assumption))
     refine w4 (codeAny_call_builtin (R:=wants (fun r s₂=>r=.none/\∃h' tk,s₂={ s with heap:=h',toks:=tk }/\Z h'/\
         (∀b o,b < s.heap.objs.size->s.heap.get? b=some o->h'.get? b=some o)) E) PySem.F.called_set.init.plain PySem.F.entry_set_init (PySem.check_set_init_1 ty ?_)) fun r₂ s₂ hr₂=>?_
     · clear fin;have h3:A.in1.in1.in1.handled=none:=by simp [hd]
       unfold N3.«set.__init__» noKeywords Builtin.Frozenset.updateFrom;generalize hP:pyIter=PI;rcases ht with⟨⟨oc,od,odt,os⟩,ho,hc,nl,hdl⟩ | ⟨⟨oc,od,odt,os⟩,ho,hc,nl,hdl⟩ <;>
       · cases hc;cases hdl;have ho':=C0 (soN led) ho;have z1:=Oa;have z2:=Ob;have z3:(K1 "list" == K1 "dict")=false:=by decide
         have z4:=NZ;have z5:=N_;have z6:(K1 "tuple" == K1 "dict")=false:=by decide
         wp_walk
         subst hP;have la:a < s.heap.objs.size:=B4 ho;have n1:a≠(s.heap.push (soN led)).objs.size:=by rw [j9];exact C9 (Q9 la)
         have lI:s.heap.objs.size < (s.heap.push (soN led)).objs.size:=by rw [j9];exact Cc _
         have n2:s.heap.objs.size∉[(s.heap.push (soN led)).objs.size,a]:=fun z=>by
           rcases C5.mp z with z | z
           · exact C9 lI z
           · exact x9 la (D5.mp z)
         have en:∀{s1 s':Shared} {G},Moved [s.heap.objs.size,(s.heap.push (soN led)).objs.size] G s1 s'->Z s'.heap->s1.gens=s.gens->s1.drawn=s.drawn->s1.os=s.os->(∀b o,s.heap.get? b=some o->s1.heap.get? b=some o)->(∀x y,G x y->y=x)->∃h' tk,s'={ s with heap:=h',toks:=tk }/\Z h'/\(∀b o,b < s.heap.objs.size->s.heap.get? b=some o->h'.get? b=some o):=by
           intro s1 s' G mv zz e1 e2 e3 kp hG;obtain⟨h',g',d',tk',os'⟩:=s';obtain rfl:g'=s.gens:=(hG _ _ mv.gens).trans e1;obtain rfl:d'=s.drawn:=mv.drawn.trans e2;obtain rfl:os'=s.os:=mv.os.trans e3;refine⟨h',tk',rfl,zz,fun b o hb e=>mv.heap b o (fun z=>?_) (kp _ _ e)⟩;rcases C5.mp z with z | z
           · exact C9 hb z
           · exact C9 (x8 hb lI) (D5.mp z)
         first
           | (refine BM ⟨_,ho',rfl,nl,rfl⟩ (A1 (wpAny_runValue ?_))
              refine lp _ _ _ _ _ _ led hled lI ((Walks.list h3 _ a n1 its).toS) n2 ⟨⟨_,F2 _ rfl,rfl,rfl⟩,⟨_,C0 _ ho',rfl,nl,rfl⟩⟩ (C0 _ g0) (fun b o e=>C0 _ (C0 _ e)) fun s' mv zz=>A5 (A5 ⟨rfl,?_⟩))
           | (refine BL ⟨_,ho',rfl,nl,rfl⟩ (A1 (wpAny_runValue ?_))
              refine lp _ _ _ _ _ _ led hled lI ((Be h3 _ a n1 its).toS) n2 ⟨⟨_,F2 _ rfl,rfl,rfl⟩,⟨_,C0 _ ho',rfl,nl,rfl⟩⟩ (C0 _ g0) (fun b o e=>C0 _ (C0 _ e)) fun s' mv zz=>A5 (A5 ⟨rfl,?_⟩))
         exact en mv zz rfl rfl rfl (fun b o e=>C0 _ (C0 _ e)) fun _ _ e=>e
     · cases r₂ with
       | error e=>exact hr₂
       | ok fl₂ =>
         cases fl₂ with
         | ret r =>
           obtain⟨rfl,h',tk,rfl,so',kp⟩:=hr₂
           repeat (any_goals (first | wp_step | assumption))
           exact fin _ _ so' kp
         | _=>exact hr₂.elim
   | _=>exact hr.elim
theorem set_of {h:Heap}{S:Addr}{val:Nat->Key}{led:Bool}(g1:h.get? S=some (soN led)):h.SetOf (L9 prog w) S (fun q=>(met val 0).any (fun y=>decide (y=q))) (met val 0).length:=by
 refine⟨soN led,#[],0,.fresh 0 0 led,g1,⟨rfl,rfl,rfl⟩,rfl,fun e he=>(nomatch he),fun k=>⟨fun z=>(nomatch z),fun⟨e,he,_⟩=>(nomatch he)⟩,by decide,?_,rfl⟩;cases led <;> decide
theorem Ja {a:Addr}{its:Array Value}{val:Nat->Key}{Q:Value->Shared->Prop}(hd:A.handled=none)(ht:s.heap.IsList a its\/s.heap.IsTuple a its)(hv:∀(i:Nat) (v:Value),its[i]?=some v->(L9 prog w).is (val i) v=true/\v.scannable=true)(room:its.size + 1 < scanBound)
   (fin:∀(h':Heap) (tk:Nat),h'.SetOf (L9 prog w) s.heap.objs.size (fun q=>(met val its.size).any (fun y=>decide (y=q))) (met val its.size).length->
     (∀b o,b < s.heap.objs.size->s.heap.get? b=some o->h'.get? b=some o)->Q (.ref s.heap.objs.size) { s with heap:=h',toks:=tk }):wpAny (model prog w) A (call (.type "set") [.ref a]) Q E s:=
 I_ hd ht (fun I St fp G s1 R led _ _ Wk nf h0 g1 _ k=>NY Wk _ nf val hv room (its.size - 0) 0 s1 rfl (G0 _) h0 (set_of g1) k) fin
end
end L2
end
section
namespace L2
open PySem PySem.Spec PyProof.Rows
def M5 (ys:List Str)(i:Nat):Key:=Z2 (ys.getD i (A4 ""))
def SetX (X:Cx)(p:Addr)(S:Key->Bool)(n:Nat):HO:=.ext fun h=>h.SetOf (L9 X.prog X.w) p S n
theorem Jb {ys:List Str}{us:List Value}(r:Vals (ys.map V.str) us){i:Nat}{u:Value}(h:us[i]?=some u):∃t,u=.str (ys.getD i (A4 "")) t:=by
 obtain⟨hi,e⟩:=D7.mp h;obtain⟨x,ex,rx⟩:=r.getE hi;rw [F4] at ex;cases ey:ys[i]? with
 | none=>rw [ey] at ex;cases ex
 | some y =>
   rw [ey] at ex;cases ex;obtain⟨t,et⟩:=rx;refine⟨t,?_⟩;rw [<- e,et,List.getD,ey]
   rfl
section
variable {X:Cx}
theorem Od (hc:X.calm=true):K2 X (.type "set") (fun vs H Q=>∃(a:Addr) (ys:List Str),vs=[.ref a]/\SqT X.K H a (ys.map V.str)/\ys.length<=1000/\∀p,H p=none->Q (.ref p) (upd H p (SetX X p (fun q=>(met (M5 ys) ys.length).any (fun y=>decide (y=q))) (met (M5 ys) ys.length).length))):=by
 intro pins s σ H vs us Q I rv h;obtain⟨a,ys,rfl,hq,hl,k⟩:=h;obtain⟨u,rfl,ru⟩:=rv.one;obtain rfl:u=.ref a:=ru;obtain⟨its,r,ht,_⟩:=I.tuple hq;have sz:its.toArray.size=ys.length:=by have:=r.length;rw [A9] at this;simpa using this.symm
 refine Ja (val:=M5 ys) (I.ok.hd hc) (.inr ht) (fun i v e=>?_) (by rw [sz];unfold scanBound;omega) fun h' tk so kp=>?_
 · obtain⟨t,rfl⟩:=Jb r (by simpa using e);exact⟨DU _ _ _ _,rfl⟩
 · rw [sz] at so
   have I1:Inv X pins σ (upd H s.heap.objs.size (SetX X s.heap.objs.size (fun q=>(met (M5 ys) ys.length).any (fun y=>decide (y=q))) (met (M5 ys) ys.length).length)) { s with heap:=h',toks:=tk }:=
     I.laid (fun b o e=>kp b o (B4 e) e) (B3 _) ⟨so,by obtain⟨o,_,_,_,e,_⟩:=so;exact⟨o,e⟩,fun h1 h2 x k2=>by
       obtain⟨o,es,ep,t,e,more⟩:=x
       exact⟨o,es,ep,t,k2 o e,more⟩⟩
   exact⟨.ref s.heap.objs.size,_,I1,rfl,k _ (I.hok.fresh (B3 _))⟩
theorem Jc:K2 X (.builtin "len") (fun vs H Q=>∃p S n,vs=[.ref p]/\H p=some (SetX X p S n)/\Q (.int n) H):=by
 intro pins s σ H vs us Q I rv h;obtain⟨p,S,n,rfl,e,q⟩:=h;obtain⟨u,rfl,ru⟩:=rv.one;obtain rfl:u=.ref p:=ru;obtain⟨so,_,_⟩:=I.hok p _ e;obtain⟨o,es,ep,t,ho,hex,hd,_,_,hb,hf,hn⟩:=so;refine call_len_set ho hex hd hf (by unfold scanBound at hb;omega) ⟨.int n,H,I.tok _,⟨_,by rw [hn]⟩,q⟩
def Oe (K:A3)(t:TE):TE:=fun σ H Q=>t σ H fun x H1=>∃(a:Addr) (ys:List Str),x=.ref a/\SqT K H1 a (ys.map V.str)/\ys.length<=1000/\∀H2,Same H1 H2->Q (.int (met (M5 ys) ys.length).length) H2
theorem Of {e:Expr}{t:TE}{p1 p2 pos pos2:Pos}(hc:X.calm=true)(g1:Gl X "len")(m1:X.mg "len"=none)(g2:Gl X "set")(m2:X.mg "set"=none)(he:PE X e t)(hs:E3 [e] X.env=(false,eval e X.env)::E3 [] X.env)(tm:∀(σ:St) (H:Hp) (Q Q':VK),t σ H Q->(∀v H',Q v H'->Q' v H')->t σ H Q') :
   PE X (.Call (.Name "len" p1) [.Call (.Name "set" p2) [e] [] pos2] [] pos) (Oe X.K t):=by
 have i1:=Bj (p:=p2) (pos:=pos2) (Od hc) g2 m2 Gi (E1 he F8 hs) (by decide) (by decide) hs rfl;have i2:=Z5 (p:=p1) (pos:=pos) Jc g1 m1 D_ (E1 i1 F8 rfl) (by decide) (by decide) rfl rfl;intro pins s σ H Q I h;refine i2 pins s σ H Q I ?_;refine tm σ H _ _ h fun x H1 hx=>?_;obtain⟨a,ys,rfl,hq,hl,k⟩:=hx;exact⟨a,ys,rfl,hq,hl,fun p hn=>⟨p,_,_,rfl,E8,k _ ((Same.refl _).lay hn)⟩⟩
end
end L2
namespace Pu
open PySem PySem.Spec L2
section
variable {T:PotK}{ι:Type}{K:A3}{F:ι->Cx}{pos:Pos}
def Ex:w1:=fun x R=>match x with | .tup xs=>(match N7 xs with | some ys=>ys.length<=1000/\R (.int (met (M5 ys) ys.length).length) | none=>False) | _=>False
theorem Og (i:Nat){x:Str}{p p1 p2 pos2:Pos}(hc:∀z,(F z).calm=true)(g1:∀z,Gl (F z) "len")(m1:∀z,(F z).mg "len"=none)(g2:∀z,Gl (F z) "set")(m2:∀z,(F z).mg "set"=none)(hv:∀z,EW (F z) (.Name x p) (tVar i))(hK:∀z,(F z).K=K:=by intro _;rfl) :
   QE T K F (.Call (.Name "len" p1) [.Call (.Name "set" p2) [.Name x p] [] pos2] [] pos) (qUn Ex (qV i)):=by
 refine⟨_,fun z=>hK z▸Of (hc z) (g1 z) (m1 z) (g2 z) (m2 z) (hv z).h rfl (fun σ H Q Q' ⟨v,e,q⟩ k=>⟨v,e,k _ _ q⟩),fun C G σ H env n R Q hK hT S hp k=>?_⟩;obtain⟨x,e,r⟩:=qV_ex hp;obtain⟨v,ev,rv⟩:=S.slots i _ e;refine⟨v,ev,?_⟩;unfold Ex at r
 split at r
 · rename_i xs
   split at r
   · rename_i ys ey;obtain⟨a,vs,rfl,t,rs⟩:=rv;exact⟨a,ys,rfl,Bw ey rs▸t.sq,r.1,fun H2 s2=>k _ _ _ _ _ r.2 (S.same s2) rfl (Fr.of s2)⟩
   · exact r.elim
 · exact r.elim
end
end Pu
end
section
namespace Pu
open PySem PySem.Spec L2
def Ltr (c:Nat):Prop:=97<=c/\c<=122
def C8 (z:Str):Prop:=1<=z.cps.toList.length/\z.cps.toList.length<=8/\∀c∈z.cps.toList,Ltr c
abbrev LETS:Str:=A4 "abcdefghijklmnopqrstuvwxyz"
theorem met_in (val:Nat->Key)(k:Key):∀i,(met val i).any (fun y=>decide (y=k))=true->∃j,j < i/\k=val j:=by
 intro xq
 induction xq with
 | zero =>
   intro h;simp [met] at h
 | succ i ih =>
   intro h;rw [IY,Ci] at h;rcases h with h | h
   · obtain⟨j,hj,e⟩:=ih h;exact⟨j,by omega,e⟩
   · exact⟨i,by omega,of_decide_eq_true h⟩
theorem Oh (ys:List Str)(h:ys.Nodup):∀n,n<=ys.length->(met (M5 ys) n).length=n:=by
 intro xq
 induction xq with
 | zero =>
   intro _;exact rfl
 | succ n ih =>
   intro hn;have ih:=ih (by omega);rw [IZ,if_neg,ih];intro z;obtain⟨j,hj,e⟩:=met_in _ _ n z
   have kat:∀m,(hm:m < ys.length)->M5 ys m=Z2 ys[m]:=fun m hm=>by
     unfold M5;rw [List.getD,C4 hm];rfl
   rw [kat n (by omega),kat j (by omega)] at e;have e2:ys[n]'(by omega)=ys[j]'(by omega):=Sum.inr.inj e;exact(W7.mp h j n (by omega) (by omega) hj) e2.symm
end Pu
end
section
namespace L2
open PySem PySem.Spec PyProof.Rows
def ItB (b:Bool)(h:Heap)(it l:Addr)(i:Nat):Prop:=match b with | true=>h.IsListIter it l i | false=>h.IsTupleIter it l i
def SeB (b:Bool)(h:Heap)(l:Addr)(items:Array Value):Prop:=match b with | true=>h.IsList l items | false=>h.IsTuple l items
theorem ItB.at {b:Bool}{h h':Heap}{it l:Addr}{i:Nat}(x:ItB b h it l i)(e:∀o,h.get? it=some o->h'.get? it=some o):ItB b h' it l i:=by
 cases b with
 | true=>exact(show h.IsListIter it l i from x).at e
 | false=>exact(show h.IsTupleIter it l i from x).at e
theorem SeB.at (x:SeB b h l items)(e:∀o,h.get? l=some o->h'.get? l=some o):SeB b h' l items:=by
 cases b with
 | true=>exact(show h.IsList l items from x).at e
 | false=>exact(show h.IsTuple l items from x).at e
theorem ItB.obj (x:ItB b h it l i):∃o,h.get? it=some o/\(o.cls=.type "list_iterator"\/o.cls=.type "tuple_iterator")/\∀v,o.data≠.cell v:=by
 cases b with
 | true=>obtain⟨o,e,c,d⟩:=(show h.IsListIter it l i from x);exact⟨o,e,.inl c,fun v z=>by rw [d] at z;cases z⟩
 | false=>obtain⟨o,e,c,d⟩:=(show h.IsTupleIter it l i from x);exact⟨o,e,.inr c,fun v z=>by rw [d] at z;cases z⟩
theorem SeB.obj (x:SeB b h l items):∃o,h.get? l=some o/\(o.cls=.type "list"\/o.cls=.type "tuple"):=by
 cases b with
 | true=>obtain⟨o,e,c,d⟩:=(show h.IsList l items from x);exact⟨o,e,.inl c⟩
 | false=>obtain⟨o,e,c,d⟩:=(show h.IsTuple l items from x);exact⟨o,e,.inr c⟩
theorem ItB.ne (x:ItB b h it l i)(y:SeB b' h a items):a≠it:=fun z=>by
 obtain⟨o,e,c,_⟩:=x.obj;obtain⟨o',e',c'⟩:=y.obj;rw [z,e] at e';cases e';rcases c with c | c <;> rcases c' with c' | c' <;> (rw [c] at c';exact absurd c' (by decide))
section
variable {prog:C6}{w:World}{A:Around}{E:Value->Shared->Prop}{s:Shared}
theorem Oi (hit:s.heap.IsTupleIter it t i)(ht:s.heap.IsTuple t items)(hx:items[i]?=some x)
   (hQ:∀h',h'.IsTupleIter it t (i + 1)->U5 it s.heap h'->Q x { s with heap:=h' }):wpAny (model prog w) A (A_ (.ref it)) Q E s:=by
 obtain⟨oi,hoi,hci,hdi⟩:=id hit;obtain⟨ot,hot,_,nt,hdt⟩:=ht;have ty:=hit.typeIs;unfold A_
 refine A1 (Y5 (name:=A4 "__next__") ty DO
   (P7 DO ty F.entry_tuple_iterator_next ?_ (F.args_tuple_iterator_next_1 _)))
 show wpAny _ _ (field (.ref it) 0>>=_) _ _ s;refine A1 (W1 hoi hdi (x:=.ref t) rfl ?_);show wpAny _ _ (if(K7 t == X2)=true then _ else _) _ _ s;rw [if_neg (show ¬((K7 t == X2)=true) from T3)];show wpAny _ _ (field (.ref it) 1>>=_) _ _ s;refine A1 (W1 hoi hdi (x:=.int i 0) rfl ?_);show wpAny _ _ (seqItems? (.ref t)>>=_) _ _ s;refine A1 (AF hot hdt ?_);simp only [DN,hx];refine A1 (j4 hoi hdi (by simp) (A5 ⟨x,rfl,A5 (hQ _ ?_ (P3 ..))⟩));exact⟨_,AK _ hoi (Obj.isFreed_of_fields (DI hdi _)),(Obj.cls_mapFields ..).trans hci,by rw [DI hdi];simp [rawInt]⟩
theorem Oj (hh:A.handled=none)(hit:s.heap.IsTupleIter it t i)(ht:s.heap.IsTuple t items)(hx:items[i]?=none)
   (hE:∀h' e,BR it s.heap h'->(∃o,h'.get? e=some o/\o.cls=.type "StopIteration")->E (.ref e) { s with heap:=h' }):wpAny (model prog w) A (A_ (.ref it)) Q E s:=by
 obtain⟨oi,hoi,hci,hdi⟩:=id hit;obtain⟨ot,hot,_,nt,hdt⟩:=ht;have ty:=hit.typeIs;unfold A_
 refine A1 (Y5 (name:=A4 "__next__") ty DO
   (P7 DO ty F.entry_tuple_iterator_next ?_ (F.args_tuple_iterator_next_1 _)))
 show wpAny _ _ (field (.ref it) 0>>=_) _ _ s;refine A1 (W1 hoi hdi (x:=.ref t) rfl ?_);show wpAny _ _ (if(K7 t == X2)=true then _ else _) _ _ s;rw [if_neg (show ¬((K7 t == X2)=true) from T3)];show wpAny _ _ (field (.ref it) 1>>=_) _ _ s;refine A1 (W1 hoi hdi (x:=.int i 0) rfl ?_);show wpAny _ _ (seqItems? (.ref t)>>=_) _ _ s;refine A1 (AF hot hdt ?_);simp only [DN,hx];refine A1 (j7 (A1 (j4 hoi hdi (by simp) ?_)));show wpAny _ _ (newExc (.type "StopIteration") []>>=_) _ _ _;refine A1 ?_;simp only [newExc,newTuple];refine A1 (L3 ?_ (by size_fits));refine A1 (m:=firstArgMember _ _) (wpAny_of_eq (a:=X2) (by first | rfl | (simp only [firstArgMember];rfl)) ?_);refine L3 ?_ (by size_fits);simp only [raiseNew];refine A1 (wpAny_handled ?_)
 first | rw [show A.in1.handled=none from hh] | rw [hh]
 refine A1 (A5 (wpAny_throw ?_));exact hE _ _ (((P3 ..).extBut.push _).push _) ⟨_,F2 _ rfl,rfl⟩
theorem Om (hit:ItB b s.heap it t i)(ht:SeB b s.heap t items)(hx:items[i]?=some x)
   (hQ:∀h',ItB b h' it t (i + 1)->U5 it s.heap h'->Q x { s with heap:=h' }):wpAny (model prog w) A (A_ (.ref it)) Q E s:=by
 cases b with
 | true=>exact wpAny_nextOf_list_item hit ht hx hQ
 | false=>exact Oi hit ht hx hQ
theorem Jd (hh:A.handled=none)(hit:ItB b s.heap it t i)(ht:SeB b s.heap t items)(hx:items[i]?=none)
   (hE:∀h' e,BR it s.heap h'->(∃o,h'.get? e=some o/\o.cls=.type "StopIteration")->E (.ref e) { s with heap:=h' }):wpAny (model prog w) A (A_ (.ref it)) Q E s:=by
 cases b with
 | true=>exact wpAny_nextOf_list_end hh hit ht hx hE
 | false=>exact Oj hh hit ht hx hE
theorem drawsB {b:Bool}(hh:A.handled=none)(it l:Addr)(hne:l≠it)(items:Array Value):Draws prog w A it [it,l] items.size (fun i v=>items[i]?=some v) (fun i h=>ItB b h it l i/\SeB b h l items) where
 live:=fun _ _ st=>let ⟨o,ho,_⟩:=st.1.obj;⟨o,ho⟩
 frame:=fun _ _ _ st hk=>⟨st.1.at fun o e=>hk it (by simp) o e,st.2.at fun o e=>hk l (by simp) o e⟩
 item:=fun i s Q E hi st hQ=>by
   refine Om st.1 st.2 (x:=items[i]) (by simp [hi]) fun h' hit' hs'=>?_;exact hQ _ h' s.toks (by simp [hi]) ⟨hit',st.2.at fun o e=>hs'.extBut _ o hne e⟩ hs'
 done:=fun s Q E st hE=>Jd hh st.1 st.2 (by simp) hE
theorem On (l:Addr)(items:Array Value)(n:Nat)(dct:Option Addr)(sl:Array (Option Value)) :
   Meets (N3.«enumerate.__new__» ⟨[.type "enumerate",.ref l],[]⟩) (fun _ R s=>s.heap.get? l=some { cls:=.type "tuple",dict:=dct,data:=.seq items n,slots:=sl }/\
     R (.ok (.ret (.ref (s.heap.push { cls := .type "tuple_iterator", data := .fields #[.ref l, .int 0 0] }).objs.size)))
       { s with heap:=(s.heap.push { cls:=.type "tuple_iterator",data:=.fields #[.ref l,.int 0 0] }).push { cls:=.type "enumerate",data:=.fields #[.none,.bool false,.ref s.heap.objs.size,rawInt 0,.none,.none] } }):=
 .of_wp fun prog w A R s hyp=>by
   obtain⟨hp,g,d,tk,os⟩:=s;obtain⟨hl,fin⟩:=hyp;have hsub:=sub_enumerate;have hL:Heap.IsTuple (Shared.heap ⟨hp,g,d,tk,os⟩) l items:=⟨_,hl,rfl,n,rfl⟩
   wp_walk using DS hl
   refine wpAny_stack_any fun st=>A5 ?_
   split
   · rename_i c _ _ _ _ _;cases(c == K1 "enumerate")
     · wp_walk using DS hl,BL hL
       exact⟨_,rfl,fin⟩
     · wp_walk using DS hl,BL hL
       exact⟨_,rfl,fin⟩
   · wp_walk using DS hl,BL hL
     exact⟨_,rfl,fin⟩
theorem enumT {l:Addr}{items:Array Value}{Q:Value->Shared->Prop}(hL:s.heap.IsTuple l items)
   (h:∀h',IsEnum h' (s.heap.objs.size + 1) s.heap.objs.size 0 .none->h'.IsTupleIter s.heap.objs.size l 0->(∀b o,s.heap.get? b=some o->h'.get? b=some o)->Q (.ref (s.heap.objs.size + 1)) { s with heap:=h' }) :
   wpAny (model prog w) A (call (.type "enumerate") [.ref l]) Q E s:=by
 obtain⟨⟨c,dct,dt,sl⟩,hl,hc,n,hd⟩:=hL
 replace hc:c=.type "tuple":=hc
 replace hd:dt=.seq items n:=hd
 subst hc hd;refine callType_new F.called_enumerate (by decide) (F.typeCall_enumerate_1 _) (F.newCall_enumerate_1 _) (fun obj=>F.args_object_init_2 obj _) F.entry_enumerate_new (On l items n dct sl) ⟨hl,?_⟩;have hz:(s.heap.push { cls:=.type "tuple_iterator",data:=.fields #[.ref l,.int 0 0] }).objs.size=s.heap.objs.size + 1:=j9 ..;show _/\_;rw [hz]
 have he:IsEnum ((s.heap.push { cls:=.type "tuple_iterator",data:=.fields #[.ref l,.int 0 0] }).push { cls:=.type "enumerate",data:=.fields #[.none,.bool false,.ref s.heap.objs.size,rawInt 0,.none,.none] }) (s.heap.objs.size + 1) s.heap.objs.size 0 .none:=by
   have:=F2 (s.heap.push { cls:=.type "tuple_iterator",data:=.fields #[.ref l,.int 0 0] }) (o:={ cls:=.type "enumerate",data:=.fields #[.none,.bool false,.ref s.heap.objs.size,rawInt 0,.none,.none] }) rfl;rw [hz] at this;exact this
 exact⟨⟨_,he,rfl⟩,h _ he ⟨_,C0 _ (F2 _ rfl),rfl,rfl⟩ fun b o x=>C0 _ (C0 _ x)⟩
theorem enumB {b:Bool}{l:Addr}{items:Array Value}{Q:Value->Shared->Prop}(hL:SeB b s.heap l items)
   (h:∀h',IsEnum h' (s.heap.objs.size + 1) s.heap.objs.size 0 .none->ItB b h' s.heap.objs.size l 0->(∀b o,s.heap.get? b=some o->h'.get? b=some o)->Q (.ref (s.heap.objs.size + 1)) { s with heap:=h' }) :
   wpAny (model prog w) A (call (.type "enumerate") [.ref l]) Q E s:=by
 cases b with
 | true=>exact call_enumerate_list hL fun h' a b _ c=>h h' a b c
 | false=>exact enumT hL h
theorem Oo {b:Bool}{e it l:Addr}{j:Nat}{i:Int}{items:Array Value}{old:Value}{Q:Option Value->Shared->Prop}(hh:A.handled=none)(he:IsEnum s.heap e it i old)(hit:ItB b s.heap it l j)(ht:SeB b s.heap l items)(hx:items[j]?=none)
   (hQ:∀h',BR it s.heap h'->Q none { s with heap:=h' }):wpAny (model prog w) A (pyNext (.ref e)) Q E s:=by
 have ty:s.TypeIs (.ref e) "enumerate":=⟨_,he,rfl⟩;unfold pyNext;refine A1 (AI (Y5 (name:=A4 "__next__") ty F.slot_enumerate_next (P7 F.slot_enumerate_next ty F.entry_enumerate_next ?_ (F.args_enumerate_next_1 _))));show wpAny _ _ (field (.ref e) 2>>=_) _ _ _;refine A1 (W1 he rfl (x:=.ref it) rfl ?_);refine A1 (Jd (A:=A.in1) hh hit ht hx fun h' x he' hx'=>?_);obtain⟨o,ho,hc⟩:=hx';exact A1 (Do (T:="StopIteration") (b:=true) ⟨o,ho,hc⟩ isSubtype_stop (A5 (hQ _ he')))
end
def SqB (b:Bool)(K:A3)(H:Hp)(a:Addr)(xs:List V):Prop:=match b with | true=>SqL K H a xs | false=>SqT K H a xs
section
variable {X:Cx}
theorem Inv.seqB (I:Inv X pins σ H s)(h:SqB b X.K H a xs):∃its:List Value,Vals xs its/\SeB b s.heap a its.toArray/\xs.length<=B9:=by
 cases b with
 | true=>obtain⟨its,r,p,z⟩:=I.list h;exact⟨its,r,p.isList,z⟩
 | false=>obtain⟨its,r,p,z⟩:=I.tuple h;exact⟨its,r,p,z⟩
theorem Inv.seqB_inj (I:Inv X pins σ H s)(h:SqB b X.K H a xs)(h':SqB b X.K H a ys):xs=ys:=by
 cases b with
 | true=>exact I.list_inj h h'
 | false=>exact I.tuple_inj h h'
def IteB (b:Bool)(K:A3)(a:Addr):It:=
 ⟨fun i H=>∃xs x,SqB b K H a xs/\xs[i]?=some x,fun i H x H'=>∃p v,H p=none/\x=.ref p/\H'=upd H p (.tup [.int i,v])/\∀xs,SqB b K H a xs->xs[i]?=some v,fun i H=>∃xs,SqB b K H a xs/\xs.length<=i⟩
theorem Op {b:Bool}{P:C6}{w:World}{K:A3}{elts:List Expr}{x1}{pos:Pos}(a e it:Addr)(hne:e≠it) :
   Turn P w K (.Tuple elts x1 pos) (IteB b K a) [e,it] e (fun i h=>(∃old,IsEnum h e it i old)/\ItB b h it a i) where
 mem:=by simp
 obj:=fun i h st c hc=>by
   obtain⟨⟨old,he⟩,st⟩:=st;obtain⟨o,e1,_,d⟩:=st.obj;have hc':c=e\/c=it:=by simpa using hc
   rcases hc' with rfl | rfl
   · exact⟨_,he,fun v z=>by cases z⟩
   · exact⟨o,e1,d⟩
 keep:=fun i h h' st k=>by
   obtain⟨⟨old,he⟩,st⟩:=st;exact⟨⟨old,k e (by simp) _ he⟩,st.at fun o e=>k it (by simp) o e⟩
 item:=by
   intro X hP hw hK hc i pins s σ H E I hf st hg;subst hP hw hK;obtain⟨⟨old,he⟩,st⟩:=st;obtain⟨xs,x,hq,hx⟩:=hg;obtain⟨its,rv,p,hz⟩:=I.seqB hq;obtain⟨u,hu,ru⟩:=rv.get hx;have nla:a≠it:=st.ne p
   have nea:e≠a:=fun z=>by
     obtain⟨o,e1,c1⟩:=p.obj;rw [<- z,he] at e1;cases e1;rcases c1 with c1 | c1
     · exact absurd (show K1 "enumerate"=K1 "list" from c1) (by decide)
     · exact absurd (show K1 "enumerate"=K1 "tuple" from c1) (by decide)
   have hi:i < its.toArray.size:=by
     obtain⟨h1,_⟩:=D7.mp hu
     simpa using h1
   refine wpAny_pyNext_enum_itemD (drawsB (A:=X.A.in1) (I.ok.hd hc) it a nla its.toArray) he ⟨st,p⟩ hi hne (by simp [hne,nea]) fun y h' tk hy he' st' ht hz' k=>?_
   have ey:y=u:=by
     have:its[i]?=some y:=by simpa using hy
     rw [hu] at this;exact(L8 this).symm
   subst ey;refine⟨_,rfl,wpAny_letOwnedTupleGo_enum (s:={ s with heap:=h',toks:=tk + 1 }) he' fun h'' he'' sb=>?_⟩;have hpe:s.heap.objs.size≠e:=x9 (B4 he);have ht'':h''.get? s.heap.objs.size=some { cls:=.type "tuple",data:=.seq #[.int i tk,y] }:=(sb.2 _ hpe).trans ht
   have k':∀c o,c∉[e,it]->s.heap.get? c=some o->h''.get? c=some o:=fun c o hb q=>by
     have hb1:c≠e:=fun z=>hb (by simp [z]);have hb2:c≠it:=fun z=>hb (by simp [z]);exact(sb.2 c hb1).trans (k c o hb1 hb2 q)
   have I1:Inv X pins σ (upd H s.heap.objs.size (.tup [.int i,x])) { s with heap:=h'',toks:=tk + 1 }:=
     I.turnedNew k' hf ⟨by show 2<=B9;decide,[.int i tk,y],.cons ⟨_,rfl⟩ (.cons ru .nil),⟨_,ht'',rfl,_,rfl⟩⟩
   refine⟨.ref s.heap.objs.size,_,I1,rfl,⟨_,x,I.fresh,rfl,rfl,fun ys hy=>by rw [I.seqB_inj hy hq];exact hx⟩,⟨⟨y,he''⟩,st'.1.at fun o q=>(sb.2 it (Ne.symm hne)).trans q⟩,fun c hb=>?_⟩;have hb':c=e\/c=it:=by simpa using hb
   have hbs:c≠s.heap.objs.size:=by
     rcases hb' with rfl | rfl
     · exact Ne.symm hpe
     · obtain⟨o,e1,_⟩:=st.obj;exact C9 (B4 e1)
   rw [B6 hbs];exact(hf c hb).1
 done:=by
   intro X hP hw hK hc i pins s σ H E I hf st hg;subst hP hw hK;obtain⟨⟨old,he⟩,st⟩:=st;obtain⟨xs,hq,hx⟩:=hg;obtain⟨its,rv,p,hz⟩:=I.seqB hq;obtain⟨f0,f1,f2,f3,f4,f5⟩:=hf it (by simp);have hl:=rv.length;refine Oo (I.ok.hd hc) he st p (DF (by rw [D8];omega)) fun h' eb=>⟨rfl,I.turned (t':=s.toks) (fun c o hb e=>eb c o hb e) f0 f1 f3 f4 f5⟩
 self:=fun _ _ _ _ _ st h=>by
   obtain⟨⟨old,he⟩,_⟩:=st;exact wpAny_pyIter_enum he h
def iEnumB (b:Bool)(K:A3)(ta:TA):TI:=fun σ H R=>ta σ H fun vs H1=>∃a,vs=[.ref a]/\(∃xs,SqB b K H1 a xs)/\R (IteB b K a) H1
theorem Oq (b:Bool){l:Expr}{ta:TA}{p pos:Pos}{elts:List Expr}{x1}{tpos:Pos}(hg:Gl X "enumerate")(hm:X.mg "enumerate"=none)(ha:PA X [l] ta)(hs:E3 [l] X.env=[(false,eval l X.env)]:=by rfl) :
   PI X (.Tuple elts x1 tpos) (.Call (.Name "enumerate" p) [l] [] pos) (iEnumB b X.K ta):=by
 intro pins s σ H R I h;refine Call_ (Bg I hg hm boot_enumerate (FA (thn (ha pos pins s σ H _ I h) fun us s1 ⟨vs,H1,I1,r1,q1⟩=>?_) hs rfl));obtain⟨a,e,⟨xs,hq⟩,q⟩:=q1;subst e;obtain⟨u,rfl,ru⟩:=r1.one;obtain rfl:u=K7 a:=ru;obtain⟨its,rv,pl,hz⟩:=I1.seqB hq;refine enumB pl fun h' hE hI hk=>?_;refine wpAny_pyIter_enum hE ?_;have I2:Inv X pins σ H1 { s1 with heap:=h' }:=I1.kept (t':=s1.toks) hk;refine⟨s1.heap.objs.size + 1,[s1.heap.objs.size + 1,s1.heap.objs.size],_,_,H1,rfl,I2,Op a _ _ (Nat.succ_ne_self _),⟨⟨_,hE⟩,hI⟩,fun c hb=>?_,q⟩;have hb':c=s1.heap.objs.size + 1\/c=s1.heap.objs.size:=by simpa using hb
 rcases hb' with rfl | rfl
 · exact I1.fpOk (k7 _) (I1.hok.fresh (k7 _))
 · exact I1.fpOk (B3 _) (I1.hok.fresh (B3 _))
end
end L2
end
section
namespace Pu
open PySem PySem.Spec L2
section
variable {T:PotK}{ι:Type}{K:A3}{F:ι->Cx}{e a b tg:Expr}{pe pa pb:pE}{pos:Pos}
def Ey (pe:pE):pA:=fun env n R=>pe env n fun x env1 n1=>match x with | .tup xs=>R (p9 xs) env1 n1 | _=>False
theorem Je {p:Pos}{elts:List Expr}{x1:Nat}{tpos:Pos}(hg:∀z,Gl (F z) "enumerate")(hm:∀z,(F z).mg "enumerate"=none)(h:QE T K F e pe)(hs:E4 e=true:=by rfl)(hK:∀z,(F z).K=K:=by intro _;rfl):QI T K F (.Tuple elts x1 tpos) (.Call (.Name "enumerate" p) [e] [] pos) (Ey pe):=by
 obtain⟨t,h1,h2⟩:=h;refine⟨_,fun z=>hK z▸Oq false (hg z) (hm z) (E1 (h1 z) F8 (D0 hs)) (by rw [D0 hs];rfl),fun C G σ H env n R Q hK hT S hp k=>?_⟩;refine h2 C G σ H env n _ _ hK hT S hp fun x env1 n1 v H1 p1 S1 r1 f1=>?_;cases x with
 | tup xs =>
   obtain⟨a,vs,rfl,t,r⟩:=r1;refine⟨a,rfl,⟨vs,t.sq⟩,k _ _ _ _ _ p1 S1 f1 ?_⟩;intro G2 H2 hk hM hp hf;have hq:SqB false K H2 a vs:=SqT.of (hk a _ t.1 t.2);have r2:Reps K G2 H2 xs vs:=Reps.mono hk hM hp _ _ r;refine⟨fun i x e=>?_,fun i hi=>⟨vs,hq,by rw [<- r.length,<- Gy];exact hi⟩⟩;obtain⟨y,ey,rfl⟩:=IP e;obtain⟨v,ev,rv⟩:=r2.get' ey;refine⟨⟨vs,v,hq,ev⟩,fun v' H3 y=>?_⟩;obtain⟨p,w,hn,rfl,rfl,y⟩:=y;have:=y vs hq;rw [ev] at this;cases this;exact⟨Same.lay1 hn,Bn (hf p hn) hn (.cons rfl (.one rv))⟩
 | _=>exact p1.elim
end
end Pu
end
section
namespace Pu
open PySem PySem.Spec L2
theorem Ez {te:pE}{rest:Env}{α:Type}(f:α->PV)(g:α->PV):∀(xs:List α) (s0:Option Slot) (n:Nat) (R:List PV->Nat->Prop),(∀x∈xs,∀m Q,Q (g x) (some (.v (f x))::rest) m->te (some (.v (f x))::rest) m Q)->R (xs.map g) n->O7 (gN 0) qTru te (xs.map f) (s0::rest) n R:=by
 intro xq
 induction xq with
 | nil =>
   intro _ _ _ _ h;exact h
 | cons x xs ih =>
   intro s0 n R ht h;show te (some (.v (f x))::rest) n _;refine ht x B8 n _ ?_;exact ih _ n _ (fun y hy=>ht y (C3 _ hy)) h
theorem Os {te:pE}{rest:Env}{α:Type}(u v g:α->PV):∀(xs:List α) (s0 s1:Option Slot) (n:Nat) (R:List PV->Nat->Prop),(∀x∈xs,∀m Q,Q (g x) (some (.v (u x))::some (.v (v x))::rest) m->te (some (.v (u x))::some (.v (v x))::rest) m Q)->R (xs.map g) n->O7 (gTp 2 (gCn (gN 0) (gCn (gN 1) gNl))) qTru te (xs.map fun x=>.tup [u x,v x]) (s0::s1::rest) n R:=by
 intro xq
 induction xq with
 | nil =>
   intro _ _ _ _ _ h;exact h
 | cons x xs ih =>
   intro s0 s1 n R ht h;refine⟨rfl,?_⟩;show te (some (.v (u x))::some (.v (v x))::rest) n _;refine ht x B8 n _ ?_;exact ih _ _ n _ (fun y hy=>ht y (C3 _ hy)) h
end Pu
end
section
namespace L2
open PySem PySem.W PyProof.Rows
namespace Kr
def run {α:Type}(lt:Nat->Nat->Bool):KasT α->α
 | .ret a=>a
 | .ask i j k=>run lt (k (lt i j))
theorem By {α β:Type}(lt:Nat->Nat->Bool)(f:α->KasT β):∀t:KasT α,run lt (t.bind f)=run lt (f (run lt t))
 | .ret a=>rfl
 | .ask i j k=>By lt f (k (lt i j))
structure Ord (lt:Nat->Nat->Bool):Prop where
 ir:∀a,lt a a=false
 tr:∀a b c,lt a b=true->lt b c=true->lt a c=true
 nt:∀a b c,lt a c=true->lt a b=true\/lt b c=true
variable {lt:Nat->Nat->Bool}(O:Ord lt)
include O
theorem Ord.as (h:lt a b=true):lt b a=false:=by
 cases e:lt b a with
 | false=>rfl
 | true=>have:=O.tr _ _ _ h e;rw [O.ir] at this;cases this
theorem Ord.le (h1:lt b a=false)(h2:lt c b=false):lt c a=false:=by
 cases e:lt c a with
 | false=>rfl
 | true=>rcases O.nt c b a e with h | h <;> simp_all
theorem Ord.l1 (h1:lt a b=true)(h2:lt c b=false):lt a c=true:=by
 rcases O.nt a c b h1 with h | h
 · exact h
 · rw [h2] at h;cases h
theorem Ord.l2 (h1:lt b a=false)(h2:lt b c=true):lt a c=true:=by
 rcases O.nt b a c h2 with h | h
 · rw [h1] at h;cases h
 · exact h
omit O
def g (p:Array Nat)(i:Nat):Nat:=p.getD i 0
theorem g_eq (p:Array Nat)(i:Nat):g p i=(p[i]?).getD 0:=by unfold g;rw [y7]
theorem b8 (h:j<=p.size)(k:Nat):g (O0 p i j) k=if i<=k/\k < j then g p (i + j - 1 - k) else g p k:=by
 unfold O0;rw [g_eq,getElem?_mirror_all h]
 split <;> rw [g_eq]
theorem g_bub (h:k < p.size)(hl:l<=k)(i:Nat):g (bubble p k (k - l)) i=if i=l then g p k else if l < i/\i<=k then g p (i - 1) else g p i:=by
 rw [g_eq,getElem?_bubble h (k - l) (by omega),show k - (k - l)=l by omega]
 split
 · rw [g_eq]
 · split <;> rw [g_eq]
theorem Ao (p:Array Nat)(i j:Nat):(O0 p i j).size=p.size:=mirror_size _ _ _ _
theorem CH (p:Array Nat)(i j:Nat):(O0 p i j).Perm p:=mirror_perm _ _ _ _
def S (lt:Nat->Nat->Bool)(p:Array Nat)(k:Nat):Prop:=∀i j,i<=j->j < k->lt (g p j) (g p i)=false
def D (lt:Nat->Nat->Bool)(p:Array Nat)(k:Nat):Prop:=∀i j,i<=j->j < k->lt (g p i) (g p j)=false
def B (lt:Nat->Nat->Bool)(p:Array Nat)(a k:Nat):Prop:=∀i j,a<=i->i < k->a<=j->j < k->lt (g p i) (g p j)=false
include O
theorem S_succ (h:S lt p n)(hn:1<=n)(hl:lt (g p n) (g p (n - 1))=false):S lt p (n + 1):=by
 intro i j hij hj;rcases Nat.lt_succ_iff_lt_or_eq.mp hj with h1 | h1
 · exact h i j hij h1
 · subst h1;rcases Nat.lt_or_eq_of_le hij with h2 | h2
   · exact O.le (h i (j - 1) (by omega) (by omega)) hl
   · rw [h2];exact O.ir _
theorem Jf (p:Array Nat):∀(f n:Nat),1<=n->S lt p n->n<=run lt (Q7 p f n)/\run lt (Q7 p f n)<=n + f/\S lt p (run lt (Q7 p f n))/\(run lt (Q7 p f n)=n + f\/lt (g p (run lt (Q7 p f n))) (g p (run lt (Q7 p f n) - 1))=true):=by
 intro xq
 induction xq with
 | zero =>
   intro n hn h;exact⟨B3 _,B3 _,h,.inl rfl⟩
 | succ f ih =>
   intro n hn h;show n<=run lt (if lt (g p n) (g p (n - 1))=true then .ret n else Q7 p f (n + 1))/\run lt (if lt (g p n) (g p (n - 1))=true then .ret n else Q7 p f (n + 1))<=n + (f + 1)/\S lt p (run lt (if lt (g p n) (g p (n - 1))=true then .ret n else Q7 p f (n + 1)))/\(run lt (if lt (g p n) (g p (n - 1))=true then .ret n else Q7 p f (n + 1))=n + (f + 1)\/lt (g p (run lt (if lt (g p n) (g p (n - 1))=true then .ret n else Q7 p f (n + 1)))) (g p (run lt (if lt (g p n) (g p (n - 1))=true then .ret n else Q7 p f (n + 1)) - 1))=true);cases e:lt (g p n) (g p (n - 1)) with
   | true =>
     rw [if_pos rfl];exact⟨B3 _,by show n<=_;omega,h,.inr e⟩
   | false =>
     rw [if_neg (by simp)];obtain⟨h1,h2,h3,h4⟩:=ih (n + 1) (by omega) (S_succ O h hn e);exact⟨by omega,by omega,h3,h4.imp (fun x=>by omega) id⟩
theorem D_rev (hn:n<=p.size)(h:D lt p n)(hb:B lt p a n):D lt (O0 p a n) n:=by
 intro i j hij hj;rw [b8 hn,b8 hn]
 by_cases c1:a<=i
 · rw [if_pos ⟨c1,by omega⟩,if_pos ⟨by omega,hj⟩];exact hb _ _ (by omega) (by omega) (by omega) (by omega)
 · rw [if_neg (by omega)]
   by_cases c2:a<=j
   · rw [if_pos ⟨c2,hj⟩];exact h _ _ (by omega) (by omega)
   · rw [if_neg (by omega)];exact h _ _ hij hj
theorem CJ (h:D lt p n)(hn:1<=n)(hl:lt (g p (n - 1)) (g p n)=false):D lt p (n + 1):=by
 intro i j hij hj;rcases Nat.lt_succ_iff_lt_or_eq.mp hj with h1 | h1
 · exact h i j hij h1
 · subst h1;rcases Nat.lt_or_eq_of_le hij with h2 | h2
   · exact O.le hl (h i (j - 1) (by omega) (by omega))
   · rw [h2];exact O.ir _
theorem Ot:∀(f:Nat) (p:Array Nat) (n q:Nat),q + 1<=n->n + f<=p.size->D lt p n->B lt p (n - (q + 1)) n->
   ∃p' n' q',run lt (Y8 f p n q)=(p',n',q')/\p'.Perm p/\p'.size=p.size/\n<=n'/\n'<=n + f/\q' + 1<=n'/\D lt p' n'/\B lt p' (n' - (q' + 1)) n':=by
 intro xq
 induction xq with
 | zero =>
   intro p n q hq hs h hb;exact⟨p,n,q,rfl,Ab _,rfl,B3 _,B3 _,hq,h,hb⟩
 | succ f ih =>
   intro p n q hq hs h hb
   have one:∀p n,B lt p (n + 1 - (0 + 1)) (n + 1):=fun p n i j h1 h2 h3 h4=>by
     have:i=j:=by omega
     rw [this];exact O.ir _
   cases e:lt (g p n) (g p (n - 1)) with
   | true =>
     by_cases c:q > 0
     · have hd:=D_rev O (by omega:n<=p.size) h hb;have e1:g (O0 p (n - (q + 1)) n) n=g p n:=by rw [b8 (by omega),if_neg (by omega)]
       have e2:g (O0 p (n - (q + 1)) n) (n - 1)=g p (n - (q + 1)):=by rw [b8 (by omega),if_pos (by omega)];congr 1;omega
       have e3:lt (g p (n - (q + 1))) (g p n)=false:=O.as (O.l1 e (hb _ _ (by omega) (by omega) (by omega) (by omega)));obtain⟨p',n',q',a1,a2,a3,a4,a5,a6,a7,a8⟩:=ih (O0 p (n - (q + 1)) n) (n + 1) 0 (by omega) (by rw [Ao];omega) (CJ O hd (by omega) (by rw [e1,e2];exact e3)) (one _ _);refine⟨p',n',q',?_,a2.trans (CH _ _ _),by rw [a3,Ao],by omega,by omega,a6,a7,a8⟩;show run lt (if lt (g p n) (g p (n - 1))=true then(if q > 0 then Y8 f (O0 p (n - (q + 1)) n) (n + 1) 0 else Y8 f p (n + 1) 0) else _)=_;rw [if_pos e,if_pos c];exact a1
     · obtain⟨p',n',q',a1,a2,a3,a4,a5,a6,a7,a8⟩:=ih p (n + 1) 0 (by omega) (by omega) (CJ O h (by omega) (O.as e)) (one _ _);refine⟨p',n',q',?_,a2,a3,by omega,by omega,a6,a7,a8⟩;show run lt (if lt (g p n) (g p (n - 1))=true then(if q > 0 then Y8 f (O0 p (n - (q + 1)) n) (n + 1) 0 else Y8 f p (n + 1) 0) else _)=_;rw [if_pos e,if_neg c];exact a1
   | false =>
     cases e':lt (g p (n - 1)) (g p n) with
     | true =>
       refine⟨p,n,q,?_,Ab _,rfl,B3 _,by omega,hq,h,hb⟩;show run lt (if lt (g p n) (g p (n - 1))=true then _ else KasT.ask (g p (n - 1)) (g p n) fun d=>if d=true then .ret (p,n,q) else Y8 f p (n + 1) (q + 1))=_;rw [if_neg (by rw [e];simp)];show run lt (if lt (g p (n - 1)) (g p n)=true then .ret (p,n,q) else Y8 f p (n + 1) (q + 1))=_;rw [if_pos e'];rfl
     | false =>
       have hb':B lt p (n + 1 - (q + 1 + 1)) (n + 1):=by
         have up:∀i,n - (q + 1)<=i->i < n->lt (g p i) (g p n)=false/\lt (g p n) (g p i)=false:=fun i h1 h2=>
           ⟨O.le e' (hb i (n - 1) h1 h2 (by omega) (by omega)),O.le (hb (n - 1) i (by omega) (by omega) h1 h2) e⟩
         intro i j h1 h2 h3 h4
         by_cases ci:i < n
         · by_cases cj:j < n
           · exact hb i j (by omega) ci (by omega) cj
           · rw [show j=n by omega];exact(up i (by omega) ci).1
         · rw [show i=n by omega]
           by_cases cj:j < n
           · exact(up j (by omega) cj).2
           · rw [show j=n by omega];exact O.ir _
       obtain⟨p',n',q',a1,a2,a3,a4,a5,a6,a7,a8⟩:=ih p (n + 1) (q + 1) (by omega) (by omega) (CJ O h (by omega) e') hb';refine⟨p',n',q',?_,a2,a3,by omega,by omega,a6,a7,a8⟩;show run lt (if lt (g p n) (g p (n - 1))=true then _ else KasT.ask (g p (n - 1)) (g p n) fun d=>if d=true then .ret (p,n,q) else Y8 f p (n + 1) (q + 1))=_;rw [if_neg (by rw [e];simp)];show run lt (if lt (g p (n - 1)) (g p n)=true then .ret (p,n,q) else Y8 f p (n + 1) (q + 1))=_;rw [if_neg (by rw [e'];simp)];exact a1
theorem S_of_D (hn:n<=p.size)(h:D lt p n):S lt (O0 p 0 n) n:=by
 intro i j hij hj;rw [b8 hn,b8 hn,if_pos ⟨by omega,hj⟩,if_pos ⟨by omega,by omega⟩];exact h _ _ (by omega) (by omega)
theorem Jg (h1:1<=n)(hn:n<=nrem)(hs:nrem<=p.size)(h:D lt p n) :
   ∃m p',run lt (kas_tail3 n nrem p)=(m,p')/\p'.Perm p/\p'.size=p.size/\1<=m/\m<=nrem/\S lt p' m:=by
 obtain⟨a1,a2,a3,_⟩:=Jf O (O0 p 0 n) (nrem - n) n h1 (S_of_D O (by omega) h);refine⟨_,O0 p 0 n,?_,CH _ _ _,Ao _ _ _,?_,?_,a3⟩
 · unfold kas_tail3;rw [By];rfl
 · omega
 · omega
theorem Jh (h1:1<=n)(hn:n + 1<=nrem)(hs:nrem<=p.size)(h:D lt p (n + 1)) :
   ∃m p',run lt (kas_descPart n nrem p)=(m,p')/\p'.Perm p/\p'.size=p.size/\1<=m/\m<=nrem/\S lt p' m:=by
 obtain⟨p',n',q',a1,a2,a3,a4,a5,a6,a7,a8⟩:=Ot O (nrem - (n + 1)) p (n + 1) 0 (by omega) (by omega) h (fun i j h1 h2 h3 h4=>by
   have:i=j:=by omega
   rw [this];exact O.ir _)
 unfold kas_descPart;rw [By,a1];dsimp only
 by_cases c:q' > 0
 · rw [if_pos c];obtain⟨m,p2,b1,b2,b3,b4,b5,b6⟩:=Jg O (p:=O0 p' (n' - (q' + 1)) n') (n:=n') (nrem:=nrem) (by omega) (by omega) (by rw [Ao];omega) (D_rev O (by omega) a7 a8);exact⟨m,p2,b1,(b2.trans (CH _ _ _)).trans a2,by rw [b3,Ao,a3],b4,b5,b6⟩
 · rw [if_neg c];obtain⟨m,p2,b1,b2,b3,b4,b5,b6⟩:=Jg O (p:=p') (n:=n') (nrem:=nrem) (by omega) (by omega) (by omega) a7;exact⟨m,p2,b1,b2.trans a2,by rw [b3,a3],b4,b5,b6⟩
theorem Ou (h1:1<=n)(hs:p.size=n):∃m p',run lt (kas_count n p)=(m,p')/\p'.Perm p/\p'.size=p.size/\1<=m/\m<=n/\S lt p' m:=by
 have s1:S lt p 1:=fun i j h2 h3=>by
   have:i=j:=by omega
   rw [this];exact O.ir _
 obtain⟨a1,a2,a3,a4⟩:=Jf O p (n - 1) 1 (B3 _) s1;unfold kas_count;rw [By];generalize run lt (Q7 p (n - 1) 1)=k at a1 a2 a3 a4 ⊢
 by_cases c:k=n
 · rw [if_pos (by rw [c];exact beq_self_eq_true n)];exact⟨k,p,rfl,Ab _,rfl,a1,by omega,a3⟩
 · rw [if_neg (by simpa using c)];have a5:lt (g p k) (g p (k - 1))=true:=a4.resolve_left (by omega)
   by_cases c1:k > 1
   · rw [if_pos c1];show ∃m p',run lt (if lt (g p 0) (g p (k - 1))=true then .ret (k,p) else kas_descPart k n (O0 p 0 k))=(m,p')/\_;cases e:lt (g p 0) (g p (k - 1)) with
     | true=>rw [if_pos rfl];exact⟨k,p,rfl,Ab _,rfl,a1,by omega,a3⟩
     | false =>
       rw [if_neg (by simp)]
       have al:∀i j,i < k->j < k->lt (g p i) (g p j)=false:=fun i j hi hj=>by
         have x1:=a3 j (k - 1) (by omega) (by omega);have x2:=a3 0 i (by omega) hi;exact O.le (O.le x1 e) x2
       have hd:D lt (O0 p 0 k) (k + 1):=by
         refine CJ O (fun i j hij hj=>?_) a1 ?_
         · rw [b8 (by omega),b8 (by omega),if_pos ⟨by omega,by omega⟩,if_pos ⟨by omega,hj⟩];exact al _ _ (by omega) (by omega)
         · rw [b8 (by omega),b8 (by omega),if_pos ⟨by omega,by omega⟩,if_neg (by omega)];exact O.as (O.l1 a5 (al _ _ (by omega) (by omega)))
       obtain⟨m,p2,b1,b2,b3,b4,b5,b6⟩:=Jh O (p:=O0 p 0 k) (n:=k) (nrem:=n) a1 (by omega) (by rw [Ao];omega) hd;exact⟨m,p2,b1,b2.trans (CH _ _ _),by rw [b3,Ao],b4,b5,b6⟩
   · rw [if_neg c1];have hk:k=1:=by omega
     subst hk
     exact Jh O (B3 _) (by omega) (by omega) (CJ O (fun i j h2 h3=>by
       have:i=j:=by omega
       rw [this];exact O.ir _) (B3 _) (O.as a5))
theorem Ov (h:S lt p k):∀(f l r:Nat),l<=r->r<=k->r - l<=f->(∀i,i < l->lt (g p k) (g p i)=false)->(∀i,r<=i->i < k->lt (g p k) (g p i)=true)->
   run lt (R8 p k f l r)<=k/\(∀i,i < run lt (R8 p k f l r)->lt (g p k) (g p i)=false)/\(∀i,run lt (R8 p k f l r)<=i->i < k->lt (g p k) (g p i)=true):=by
 intro xq
 induction xq with
 | zero =>
   intro l r h1 h2 h3 h4 h5;have:l=r:=by omega
   subst this;exact⟨h2,h4,h5⟩
 | succ f ih =>
   intro l r h1 h2 h3 h4 h5
   by_cases c:l>=r
   · have:l=r:=by omega
     subst this;unfold R8;rw [if_pos c];exact⟨h2,h4,h5⟩
   · have e:run lt (R8 p k (f + 1) l r)=run lt (if lt (g p k) (g p ((l + r) / 2))=true then R8 p k f l ((l + r) / 2) else R8 p k f ((l + r) / 2 + 1) r):=by
       conv=>lhs;unfold R8
       rw [if_neg c];rfl
     rw [e];cases e2:lt (g p k) (g p ((l + r) / 2)) with
     | true =>
       rw [if_pos rfl];exact ih l ((l + r) / 2) (by omega) (by omega) (by omega) h4 fun i i1 i2=>O.l1 e2 (h _ _ i1 i2)
     | false =>
       rw [if_neg (by simp)];exact ih ((l + r) / 2 + 1) r (by omega) h2 (by omega) (fun i i1=>O.le (h i ((l + r) / 2) (by omega) (by omega)) e2) h5
theorem bin_ok:∀(f:Nat) (p:Array Nat) (k:Nat),k + f<=p.size->S lt p k->(run lt (kas_bin f p k)).Perm p/\(run lt (kas_bin f p k)).size=p.size/\S lt (run lt (kas_bin f p k)) (k + f):=by
 intro xq
 induction xq with
 | zero =>
   intro p k _ h;exact⟨Ab _,rfl,h⟩
 | succ f ih =>
   intro p k hs h;obtain⟨a1,a2,a3⟩:=Ov O h k 0 k (by omega) (B3 _) (by omega) (fun i z=>by omega) (fun i z z2=>by omega)
   have e:run lt (kas_bin (f + 1) p k)=run lt (kas_bin f (bubble p k (k - run lt (R8 p k k 0 k))) (k + 1)):=by
     show run lt ((R8 p k k 0 k).bind fun l=>kas_bin f (bubble p k (k - l)) (k + 1))=_;rw [By]
   rw [e];generalize run lt (R8 p k k 0 k)=l at a1 a2 a3 ⊢
   have hS:S lt (bubble p k (k - l)) (k + 1):=by
     intro i j hij hj;rw [g_bub (by omega) a1,g_bub (by omega) a1]
     by_cases ci:i=l
     · rw [if_pos ci]
       by_cases cj:j=l
       · rw [if_pos cj];exact O.ir _
       · rw [if_neg cj,if_pos ⟨by omega,by omega⟩];exact O.as (a3 _ (by omega) (by omega))
     · rw [if_neg ci]
       by_cases cj:j=l
       · grind
       · rw [if_neg cj]
         by_cases c2:l < j
         · rw [if_pos ⟨c2,by omega⟩]
           by_cases c3:l < i
           · rw [if_pos ⟨c3,by omega⟩];exact h _ _ (by omega) (by omega)
           · rw [if_neg (by omega)];exact h _ _ (by omega) (by omega)
         · rw [if_neg (by omega),if_neg (by omega)];exact h _ _ hij (by omega)
   obtain⟨b1,b2,b3⟩:=ih (bubble p k (k - l)) (k + 1) (by rw [bubble_size];omega) hS;exact⟨b1.trans (bubble_perm _ _ _),by rw [b2,bubble_size],by rw [show k + (f + 1)=k + 1 + f by omega];exact b3⟩
theorem sort_ok (h1:1<=n):(run lt (P0 n)).Perm (List.toArray (E6 n))/\(run lt (P0 n)).size=n/\S lt (run lt (P0 n)) n:=by
 have hz:(List.toArray (E6 n)).size=n:=by simp
 obtain⟨m,p,a1,a2,a3,a4,a5,a6⟩:=Ou O (p:=List.toArray (E6 n)) h1 hz;unfold P0;rw [By,a1];dsimp only
 by_cases c:m < n
 · rw [if_pos c,Nat.max_eq_left a4];obtain⟨b1,b2,b3⟩:=bin_ok O (n - m) p m (by omega) a6;rw [show m + (n - m)=n by omega] at b3;exact⟨b1.trans a2,by rw [b2,a3,hz],b3⟩
 · rw [if_neg c];have:m=n:=by omega
   subst this;exact⟨a2,by rw [<- hz,<- a3];rfl,a6⟩
omit O
def InQ {α:Type}(n:Nat)(Q:α->Prop):KasT α->Prop
 | .ret a=>Q a
 | .ask i j k=>i < n/\j < n/\∀b,InQ n Q (k b)
theorem Bz {α β:Type}{n:Nat}{Q:α->Prop}{R:β->Prop}{f:α->KasT β}(hf:∀a,Q a->InQ n R (f a)):∀t:KasT α,InQ n Q t->InQ n R (t.bind f)
 | .ret a,h=>hf a h
 | .ask _ _ k,h=>⟨h.1,h.2.1,fun b=>Bz hf (k b) (h.2.2 b)⟩
def En (n:Nat)(p:Array Nat):Prop:=0 < n/\∀x∈p,x < n
theorem En.g (h:En n p)(i:Nat):p.getD i 0 < n:=by
 by_cases c:i < p.size
 · rw [show p.getD i 0=p[i] by simp [Array.getD,c]];exact h.2 _ (Array.getElem_mem c)
 · rw [show p.getD i 0=0 by simp [Array.getD,c]];exact h.1
theorem En.perm {n:Nat}{p q:Array Nat}(h:En n p)(hp:q.Perm p):En n q:=by grind [En]
theorem En.rev (h:En n p)(i j:Nat):En n (O0 p i j):=h.perm (CH _ _ _)
theorem Ji (h:En n p):∀f m,InQ n (fun _=>True) (Q7 p f m):=by
 intro xq
 induction xq with
 | zero =>
   intro _;exact trivial
 | succ f ih =>
   intro m
   exact⟨h.g _,h.g _,fun b=>by
   cases b with
   | true=>exact trivial
   | false=>exact ih (m + 1)⟩
theorem Ow:∀f p m q,En n p->InQ n (fun r=>En n r.1) (Y8 f p m q):=by
 intro xq
 induction xq with
 | zero =>
   intro _ _ _ h;exact h
 | succ f ih =>
   intro p m q h
   exact⟨h.g _,h.g _,fun b=>by
   cases b with
   | true =>
     show InQ n _ (if q > 0 then _ else _)
     by_cases c:q > 0
     · rw [if_pos c];exact ih _ _ _ (h.rev _ _)
     · rw [if_neg c];exact ih _ _ _ h
   | false =>
     refine⟨h.g _,h.g _,fun d=>?_⟩;cases d with
     | true=>exact h
     | false=>exact ih _ _ _ h⟩
theorem Jj (h:En n p):InQ n (fun r=>En n r.2) (kas_tail3 m k p):=by
 unfold kas_tail3;refine Bz (Q:=fun _=>True) (fun a _=>?_) _ (Ji (h.rev _ _) _ _);exact(h.rev _ _:En n _)
theorem Jk (h:En n p):InQ n (fun r=>En n r.2) (kas_descPart m k p):=Bz (fun r hr=>by
   by_cases c:r.2.2 > 0
   · rw [if_pos c];exact Jj (hr.rev _ _)
   · rw [if_neg c];exact Jj hr) _ (Ow _ _ _ _ h)
theorem Ox (h:En n p):InQ n (fun r=>En n r.2) (kas_count k p):=Bz (fun m _=>by
   by_cases c:(m == k)=true
   · rw [if_pos c];exact h
   · rw [if_neg c]
     by_cases c1:m > 1
     · rw [if_pos c1];refine⟨h.g _,h.g _,fun b=>?_⟩;cases b with
       | true=>exact h
       | false=>exact Jk (h.rev _ _)
     · rw [if_neg c1];exact Jk h) _ (Ji h _ _)
theorem Oy (h:En n p):∀f l r,InQ n (fun _=>True) (R8 p k f l r):=by
 intro xq
 induction xq with
 | zero =>
   intro _ _;exact trivial
 | succ f ih =>
   intro l r;unfold R8
   by_cases c:l>=r
   · rw [if_pos c];exact trivial
   · rw [if_neg c];refine⟨h.g _,h.g _,fun b=>?_⟩;cases b with
     | true=>exact ih _ _
     | false=>exact ih _ _
theorem bin_in:∀f p k,En n p->InQ n (fun _=>True) (kas_bin f p k):=by
 intro xq
 induction xq with
 | zero =>
   intro _ _ _;exact trivial
 | succ f ih =>
   intro p k h;exact Bz (fun l _=>ih _ _ (h.perm (bubble_perm _ _ _))) _ (Oy h k 0 k)
theorem sort_in (h1:1<=n):InQ n (fun _=>True) (P0 n):=Bz (fun r hr=>by
   by_cases c:r.1 < n
   · rw [if_pos c];exact bin_in _ _ _ hr
   · rw [if_neg c];exact trivial) _ (Ox ⟨h1,fun x hx=>by simpa using hx⟩)
theorem wp_run {α:Type}{lt:Nat->Nat->Bool}{n:Nat}{P:α->Prop}{ask:Nat->Nat->(Bool->Shared->Prop)->Shared->Prop}{Q:α->Shared->Prop}{s:Shared}(h:∀i j C,i < n->j < n->C (lt i j) s->ask i j C s):∀t:KasT α,InQ n P t->Q (run lt t) s->t.kasWp ask Q s
 | .ret a,_,q=>q
 | .ask i j k,hi,q=>h i j _ hi.1 hi.2.1 (wp_run h (k (lt i j)) (hi.2.2 _) q)
theorem out_ok {α:Type}(lt:α->α->Bool)(O:(∀a,lt a a=false)/\(∀a b c,lt a b=true->lt b c=true->lt a c=true)/\(∀a b c,lt a c=true->lt a b=true\/lt b c=true))(d:α)(xs:List α)(h1:1<=xs.length) :
   let p:=run (fun i j=>lt (xs.getD i d) (xs.getD j d)) (P0 xs.length)
   (p.toList.map fun i=>xs.getD i d).Perm xs/\(p.toList.map fun i=>xs.getD i d).Pairwise (fun a b=>lt b a=false):=by
 intro p;have OO:Ord fun i j=>lt (xs.getD i d) (xs.getD j d):=⟨fun a=>O.1 _,fun a b c=>O.2.1 _ _ _,fun a b c=>O.2.2 _ _ _⟩;obtain⟨a1,a2,a3⟩:=sort_ok OO h1;constructor
 · have hp:p.toList.Perm (E6 xs.length):=Fy.mp a1;have:=hp.map fun i=>xs.getD i d;refine this.trans (List.Perm.of_eq ?_)
   apply List.ext_getElem (by simp)
   intro i h2 h3;simp [h3]
 · rw [W7];intro i j hi hj hij;have hi':i < p.size:=by simpa using hi
   have hj':j < p.size:=by simpa using hj
   have:=a3 i j (W9 hij) (by rw [<- a2];exact hj');simp only [List.getElem_map,Array.getElem_toList];have e1:g p i=p[i]:=by unfold g;simp [Array.getD,hi']
   have e2:g p j=p[j]:=by unfold g;simp [Array.getD,hj']
   have this':lt (xs.getD (g p j) d) (xs.getD (g p i) d)=false:=this;rw [e1,e2] at this';exact this'
end Kr
end L2
end
section
namespace L2
open PySem PySem.W PySem.Spec PyProof.Rows
def R6 (lt:Nat->Nat->Bool)(vs:List Value):List Value:=if vs.length < 2 then vs else(Kr.run lt (P0 vs.length)).toList.map fun i=>vs.getD i X2
section
variable {prog:C6}{w:World}{A:Around}{E:Value->Shared->Prop}{s:Shared}
def EA (h h1:Heap)(a:Addr):Prop:=∀b o,b≠a->h.get? b=some o->h1.get? b=some o
theorem Jl (ho:s.heap.get? a=some (seqObj "list" vs.toArray n))(h64:vs.length < 64)
   (hk:2<=vs.length->∀h1,EA s.heap h1 a->∃κ,(∀Q:SortKind->Shared->Prop,Q κ { s with heap:=h1 }->wpAny (model prog w) A (keyKind' vs.toArray) Q E { s with heap:=h1 })/\∀i j (C:Bool->Shared->Prop),i < vs.length->j < vs.length->C (lt i j) { s with heap:=h1 }->kas_ask prog w A κ vs i j C { s with heap:=h1 })
   (h:∀h2 e,EA s.heap h2 a->h2.get? a=some (seqObj "list" (R6 lt vs).toArray e)->P (.done (.ret .none)) { s with heap:=h2 }):wpAny (model prog w) A (N3.«list.sort» ⟨[.ref a],[]⟩) P E s:=by
 have ha:a < s.heap.objs.size:=B4 ho;have hsz:vs.toArray.size=vs.length:=by simp
 rw [list_sort_plain];refine A1 (listItems_at ho rfl ?_);refine A1 (y8 ho rfl ?_ (by rw [hsz,J1];omega) (G0 _));obtain⟨e1,ho1⟩:∃e1,(s.heap.update a (E7 fun _=>(#[]:Array Value))).get? a=some (seqObj "list" #[] e1):=⟨_,AZ ho fun _=>#[]⟩;refine A1 (seqEpoch_at ho1 rfl ?_);refine A1 (wpAny_newTuple ?_ (by show vs.length<=_;rw [J1];omega));refine A1 (BO ?_ (G0 _));refine G6 ?_;show wpAny (model prog w) A _ P E { s with heap:=((s.heap.update a (E7 fun _=>(#[]:Array Value))).push (seqObj "tuple" vs.toArray 0)).push (seqObj "list" #[] 0) };have ho3:=C0 (seqObj "list" #[] 0) (C0 (seqObj "tuple" vs.toArray 0) ho1)
 have k3:EA s.heap (((s.heap.update a (E7 fun _=>(#[]:Array Value))).push (seqObj "tuple" vs.toArray 0)).push (seqObj "list" #[] 0)) a:=fun b o hb e=>
   C0 _ (C0 _ (((P3 s.heap a (E7 fun _=>(#[]:Array Value))).2 b hb).trans e))
 generalize ((s.heap.update a (E7 fun _=>(#[]:Array Value))).push (seqObj "tuple" vs.toArray 0)).push (seqObj "list" #[] 0)=h3 at ho3 k3 ⊢;dsimp only
 have last:∀out:Array Value,out.size=vs.length->out=(R6 lt vs).toArray->∃e,(h3.update a (E7 fun _=>out)).get? a=some (seqObj "list" (R6 lt vs).toArray e)/\EA s.heap (h3.update a (E7 fun _=>out)) a:=fun out _ eo=>
   ⟨_,by rw [<- eo];exact AZ ho3 fun _=>out,fun b o hb e=>((P3 h3 a (E7 fun _=>out)).2 b hb).trans (k3 b o hb e)⟩
 by_cases h2:vs.toArray.size < 2
 · rw [if_pos h2,if_pos h2];refine A1 (A5 ?_);rw [StateT.run_pure];refine A1 (A5 ?_);dsimp only
   have eo:(arrOf (SortSt.mk' general' (vs.toArray.zip vs.toArray) #[] 7 none)).map (·.2)=(R6 lt vs).toArray:=by
     have e2:(arrOf (SortSt.mk' general' (vs.toArray.zip vs.toArray) #[] 7 none))=vs.toArray.zip vs.toArray:=rfl;rw [e2];unfold R6;rw [if_pos (by omega)]
     apply Array.toList_inj.mp
     rw [Array.toList_map,Array.toList_zip];exact List.map_snd_zip (B3 _)
   obtain⟨e,x1,x2⟩:=last _ (by rw [eo];unfold R6;rw [if_pos (by omega)];simp) eo;refine A1 (seqEpoch_at ho3 rfl ?_);refine A1 (y8 ho3 rfl ?_ (G0 _) (by rw [eo];unfold R6;rw [if_pos (by omega),hsz,J1];omega));simp only [bne_self_eq_false,F7,if_false];exact A5 (h _ e x2 x1)
 · rw [if_neg h2,if_neg h2];have l2:2<=vs.length:=by omega
   obtain⟨κ,q1,q2⟩:=hk l2 h3 k3;refine A1 (q1 _ ?_);have wp:=Kr.wp_run (Q:=fun p s'=>p=Kr.run lt (P0 vs.length)/\s'={ s with heap:=h3 }) (P:=fun _=>True) q2 (P0 vs.length) (Kr.sort_in (by omega)) ⟨rfl,rfl⟩;refine A1 (G7 (kat_run (E:=E) (Q:=fun st' s'=>∃p:Array Nat,p.size=vs.length/\arrOf st'=p.map (kas_item (vs.toArray.zip vs.toArray))/\failedOf st'=none/\p=Kr.run lt (P0 vs.length)/\s'={ s with heap:=h3 }) rfl l2 h64 (fun p' st' s' a1 a2 a3 a4=>⟨p',a1,a2,a3,a4⟩) wp) ?_ fun _ _ e=>e);rintro⟨⟨⟩,st'⟩ s' ⟨p,hp,har,hf,ep,rfl⟩;dsimp only
   have eo:(arrOf st').map (·.2)=(R6 lt vs).toArray:=by
     rw [kat_snds rfl har,ep];unfold R6;rw [if_neg (by omega)]
   have so:((arrOf st').map (·.2)).size=vs.length:=by rw [eo];unfold R6;rw [if_neg (by omega),D8,A9,J9,<- ep,hp]
   obtain⟨e,x1,x2⟩:=last _ so eo;refine A1 (seqEpoch_at ho3 rfl ?_);refine A1 (y8 ho3 rfl ?_ (G0 _) (by rw [so,J1];omega));rw [hf];simp only [bne_self_eq_false,F7,if_false];exact A5 (h _ e x2 x1)
theorem Oz (h64:vs.length < 64)
   (hcol:∀(R:List Value->Shared->Prop),(∀h1 tk,(∀b o,s.heap.get? b=some o->h1.get? b=some o)->s.heap.objs.size<=h1.objs.size->R vs { s with heap:=h1,toks:=tk })->wpAny (model prog w) A.in1 (collect v) R E s)
   (hk:2<=vs.length->∀(A:Around) (E:Value->Shared->Prop) h1 tk,(∀b o,s.heap.get? b=some o->h1.get? b=some o)->∃κ,(∀Q:SortKind->Shared->Prop,Q κ { s with heap:=h1,toks:=tk }->wpAny (model prog w) A (keyKind' vs.toArray) Q E { s with heap:=h1,toks:=tk })/\∀i j (C:Bool->Shared->Prop),i < vs.length->j < vs.length->C (lt i j) { s with heap:=h1,toks:=tk }->kas_ask prog w A κ vs i j C { s with heap:=h1,toks:=tk })
   (h:∀h2 tk D e,(∀b o,s.heap.get? b=some o->h2.get? b=some o)->s.heap.objs.size<=D->h2.get? D=some (seqObj "list" (R6 lt vs).toArray e)->Q (.ref D) { s with heap:=h2,toks:=tk }) :
   wpAny (model prog w) A (call (.builtin "sorted") [v]) Q E s:=by
 refine Calls.call_function_entry kind_sorted plain_sorted entry_sorted (args_sorted1 _) ?_;unfold N3.«sorted»;refine A1 (m:=checkCount "sorted" 1 1 _) (A5 ?_);refine A1 (hcol _ fun h1 tk k1 z1=>?_);refine A1 (BO ?_ (by rw [J1];omega));have hoL:(h1.push (seqObj "list" vs.toArray 0)).get? h1.objs.size=some (seqObj "list" vs.toArray 0):=F2 _ rfl;have kL:∀b o,s.heap.get? b=some o->(h1.push (seqObj "list" vs.toArray 0)).get? b=some o:=fun b o e=>C0 _ (k1 b o e);have ne:∀b o,s.heap.get? b=some o->b≠h1.objs.size:=fun b o e=>C9 (J4 (B4 e) z1);refine A1 (G6 (P7 slot_list_sort ⟨_,hoL,rfl⟩ entry_list_sort ?body (args_list_sort _)))
 case body=>
   refine Jl (lt:=lt) (s:={ s with heap:=h1.push (seqObj "list" vs.toArray 0),toks:=tk }) hoL h64 (fun l2 h3 k3=>?_) fun h3 e k3 e3=>?_
   · exact hk l2 _ _ h3 tk fun b o x=>k3 b o (ne b o x) (kL b o x)
   · exact⟨_,rfl,A5 ⟨_,rfl,h h3 tk _ e (fun b o x=>k3 b o (ne b o x) (kL b o x)) z1 e3⟩⟩
end
end L2
end
section
namespace L2
open PySem PySem.W PySem.Spec PyProof.Rows
def M1:Key->Key->Bool
 | .inl a,.inl b=>decide (a < b)
 | .inr a,.inr b=>decide (a.cps.toList < b.cps.toList)
 | .inl _,.inr _=>true
 | .inr _,.inl _=>false
def lexK:List Key->List Key->Bool
 | [],[]=>false
 | [],_::_=>true
 | _::_,[]=>false
 | x::xs,y::ys=>if x=y then lexK xs ys else M1 x y
theorem OA {a b:Str}(h:a.cps.toList=b.cps.toList):a=b:=by
 cases a;cases b
 congr 1
 exact Array.toList_inj.mp h
theorem GR (x:Key):M1 x x=false:=by
 cases x with
 | inl a=>exact decide_eq_false (Int.lt_irrefl a)
 | inr a=>exact decide_eq_false (List.lt_irrefl _)
theorem OB (h1:M1 x y=true)(h2:M1 y z=true):M1 x z=true:=by
 cases x <;> cases y <;> cases z <;> simp only [M1,decide_eq_true_eq,reduceCtorEq] at * <;> first | omega | exact List.lt_trans h1 h2 | skip
theorem OC (h:x≠y):M1 x y=true\/M1 y x=true:=by
 cases x with
 | inl a =>
   cases y with
   | inl b =>
     have:a≠b:=fun e=>h (by rw [e]);simp only [M1,decide_eq_true_eq];omega
   | inr b=>exact .inl rfl
 | inr a =>
   cases y with
   | inl b=>exact .inr rfl
   | inr b =>
     have hn:a.cps.toList≠b.cps.toList:=fun e=>h (by rw [OA e]);simp only [M1,decide_eq_true_eq]
     by_cases c:a.cps.toList < b.cps.toList
     · exact .inl c
     · by_cases c2:b.cps.toList < a.cps.toList
       · exact .inr c2
       · exact absurd (List.le_antisymm (List.not_lt.mp c2) (List.not_lt.mp c)) hn
theorem Jm:∀x:List Key,lexK x x=false:=by
 intro xq
 induction xq with
 | nil =>
   exact rfl
 | cons x xs ih =>
   show(if x=x then lexK xs xs else _)=false;rw [if_pos rfl,ih]
theorem EB:∀{x y z:List Key},lexK x y=true->lexK y z=true->lexK x z=true
 | [],[],_,h,_=>by cases h
 | [],_::_,[],_,h=>by cases h
 | [],_::_,_::_,_,_=>rfl
 | _::_,[],_,h,_=>by cases h
 | _::_,_::_,[],_,h=>by cases h
 | x :: xs, y :: ys, z :: zs, h1, h2 => by
   change (if x=y then lexK xs ys else M1 x y)=true at h1
   change (if y=z then lexK ys zs else M1 y z)=true at h2
   show(if x=z then lexK xs zs else M1 x z)=true
   by_cases c1:x=y
   · rw [if_pos c1] at h1;subst c1
     by_cases c2:x=z
     · rw [if_pos c2] at h2 ⊢;exact EB h1 h2
     · rw [if_neg c2] at h2 ⊢;exact h2
   · rw [if_neg c1] at h1
     by_cases c2:y=z
     · subst c2;rw [if_neg c1];exact h1
     · rw [if_neg c2] at h2;have h3:=OB h1 h2
       by_cases c3:x=z
       · rw [c3,GR] at h3;cases h3
       · rw [if_neg c3];exact h3
theorem Jn:∀{x y:List Key},x≠y->lexK x y=true\/lexK y x=true
 | [],[],h=>absurd rfl h
 | [],_::_,_=>.inl rfl
 | _::_,[],_=>.inr rfl
 | x :: xs, y :: ys, h => by
   show(if x=y then lexK xs ys else M1 x y)=true\/(if y=x then lexK ys xs else M1 y x)=true
   by_cases c:x=y
   · rw [if_pos c,if_pos c.symm];exact Jn fun e=>h (by rw [c,e])
   · rw [if_neg c,if_neg (fun e=>c e.symm)];exact OC c
theorem Jo {x y z:List Key}(h:lexK x z=true):lexK x y=true\/lexK y z=true:=by
 by_cases c:x=y
 · grind
 · rcases Jn c with h1 | h1
   · grind
   · exact .inr (EB h1 h)
def Al:List Key->List Key->Prop
 | .inl _::xs,.inl _::ys=>Al xs ys
 | .inr _::xs,.inr _::ys=>Al xs ys
 | _::_,_::_=>False
 | _,_=>True
def KeyV:Key->Value->Prop
 | .inl i,v=>∃t,v=.int i t
 | .inr z,v=>∃t,v=.str z t
inductive t8:List Key->List Value->Prop
 | nil:t8 [] []
 | cons {k v ks vs} (h:KeyV k v) (t:t8 ks vs):t8 (k::ks) (v::vs)
section
variable {prog:C6}{w:World}{A:Around}{E:Value->Shared->Prop}{s:Shared}
theorem OD (hx:KeyV x u)(hy:KeyV y v)(al:Al (x::xs) (y::ys))(h:Q (decide (x=y)) s):wpAny (model prog w) A (eqBool u v) Q E s:=by
 cases x with
 | inl a =>
   cases y with
   | inl b =>
     obtain⟨t,rfl⟩:=hx;obtain⟨t',rfl⟩:=hy;refine wpAny_eqBool_int ?_
     have e:(a == b)=decide ((N0 a:Key)=.inl b):=by
       rw [Cg];exact decide_eq_decide.mpr ⟨fun e=>by rw [e],fun e=>by injection e⟩
     rw [e];exact h
   | inr b=>exact al.elim
 | inr a =>
   cases y with
   | inl b=>exact al.elim
   | inr b =>
     obtain⟨t,rfl⟩:=hx;obtain⟨t',rfl⟩:=hy;refine eqBool_str ?_
     have e:(a == b)=decide ((Z2 a:Key)=.inr b):=by
       rw [Cg];exact decide_eq_decide.mpr ⟨fun e=>by rw [e],fun e=>by injection e⟩
     rw [e];exact h
theorem lt_key (hx:KeyV x u)(hy:KeyV y v)(al:Al (x::xs) (y::ys))(h:Q (.bool (M1 x y)) s):wpAny (model prog w) A (L4 .Lt u v) Q E s:=by
 cases x with
 | inl a =>
   cases y with
   | inl b =>
     obtain⟨t,rfl⟩:=hx;obtain⟨t',rfl⟩:=hy;exact PyProof.Rows.lt_int h
   | inr b=>exact al.elim
 | inr a =>
   cases y with
   | inl b=>exact al.elim
   | inr b =>
     obtain⟨t,rfl⟩:=hx;obtain⟨t',rfl⟩:=hy;exact PyProof.Rows.lt_str h
theorem GS (hx:KeyV x u)(hy:KeyV y v)(al:Al (x::xs) (y::ys))(h:Q (M1 x y) s):wpAny (model prog w) A (oneLt' b u v) Q E s:=by
 cases b with
 | false=>exact kat_one u v (lt_key hx hy al h)
 | true =>
   cases x with
   | inl a =>
     cases y with
     | inl b =>
       obtain⟨t,rfl⟩:=hx;obtain⟨t',rfl⟩:=hy;exact oneLt_int h
     | inr b=>exact al.elim
   | inr a =>
     cases y with
     | inl b=>exact al.elim
     | inr b =>
       obtain⟨t,rfl⟩:=hx;obtain⟨t',rfl⟩:=hy;exact oneLt_str h
theorem OE:∀{xs ys:List Key} {us vs:List Value} (i:Nat),t8 xs us->t8 ys vs->Al xs ys->fin=decide (us.length < vs.length)->Q (lexK xs ys) s->KatLex prog w A b fin Q (us.zip vs) i s:=by
 intro xs
 induction xs with
 | nil =>
   intro ys us vs i hx hy al hf h;cases hx;refine kat_nil ?_;cases hy with
   | nil=>rw [hf];exact h
   | cons _ _=>rw [hf];exact h
 | cons x xs ih =>
   intro ys us vs i hx hy al hf h;cases hx with
   | @cons _ u _ us' hx1 hx2 =>
     cases hy with
     | nil=>rw [List.zip_nil_right];refine kat_nil ?_;rw [hf];exact h
     | @cons y v ys' vs' hy1 hy2 =>
       rw [k4];refine kat_cons (OD hx1 hy1 al ?_);have h':Q (if x=y then lexK xs ys' else M1 x y) s:=h
       by_cases c:x=y
       · rw [decide_eq_true c];rw [if_pos c] at h';refine kat_yes (ih (i + 1) hx2 hy2 ?_ ?_ h')
         · cases x <;> cases y <;> first | exact al | exact al.elim
         · rw [hf,M7,M7];exact decide_eq_decide.mpr (by omega)
       · rw [decide_eq_false c];rw [if_neg c] at h';exact kat_no (GS hx1 hy1 al h')
def TupK (h:Heap)(v:Value)(ks:List Key):Prop:=∃a o items n,v=.ref a/\h.get? a=some o/\o.cls=.type "tuple"/\o.data=.seq items n/\t8 ks items.toList
theorem OF (hx:TupK s.heap u xs)(hy:TupK s.heap v ys)(al:Al xs ys)(h:Q (lexK xs ys) s):wpAny (model prog w) A (keyLt' (tuples' b) u v) Q E s:=by
 obtain⟨a,o,items,n,rfl,ho,hc,hd,hk⟩:=hx;obtain⟨a',o',items',n',rfl,ho',hc',hd',hk'⟩:=hy;exact kat_lt ho hd ho' hd' (OE 0 hk hk' al (by rw [J9,J9]) h)
end
end L2
end
section
namespace L2
open PySem PySem.W PySem.Spec PyProof.Rows
theorem GT:∀{ks:List Key} {us:List Value},Vals (ks.map kV) us->t8 ks us
 | [],_,h=>by cases h;exact .nil
 | .inl i :: ks, _, h => by
   cases h with
   | cons h1 h2=>exact .cons h1 (GT h2)
 | .inr z :: ks, _, h => by
   cases h with
   | cons h1 h2=>exact .cons h1 (GT h2)
section
variable {X:Cx}
theorem GU (I:Inv X pins σ H s)(h:SqT X.K H a (ks.map kV)):TupK s.heap (.ref a) ks:=by
 obtain⟨its,r,⟨o,ho,hc,n,hd⟩,_⟩:=I.tuple h;exact⟨a,o,its.toArray,n,rfl,ho,hc,hd,GT r⟩
theorem TupK.keep (t:TupK h v ks)(k:∀b o,h.get? b=some o->h'.get? b=some o):TupK h' v ks:=by
 obtain⟨a,o,its,n,e,ho,hc,hd,hk⟩:=t;exact⟨a,o,its,n,e,k _ _ ho,hc,hd,hk⟩
def KM (K:A3)(H:Hp):Nat->V->List Key->Prop
 | 0,y,ks=>∃i,y=.int i/\ks=[.inl i]
 | 1,y,ks=>∃z,y=.str z/\ks=[.inr z]
 | _,y,ks=>∃a,y=.ref a/\SqT K H a (ks.map kV)/\ks≠[]
def Kv1 (h:Heap):Nat->Value->List Key->Prop
 | 0,u,ks=>∃i t,u=.int i t/\ks=[.inl i]
 | 1,u,ks=>∃z t,u=.str z t/\ks=[.inr z]
 | _,u,ks=>TupK h u ks/\ks≠[]
def ltIx (kss:List (List Key))(i j:Nat):Bool:=lexK (kss.getD i []) (kss.getD j [])
theorem EC (kss:List (List Key)):Kr.Ord (ltIx kss):=⟨fun _=>Jm _,fun _ _ _ h1 h2=>EB h1 h2,fun _ _ _ h=>Jo h⟩
def t9 (kss:List (List Key)):Prop:=∀x∈kss,∀y∈kss,Al x y
theorem kv1_of (I:Inv X pins σ H s)(m:Nat)(a:Vals ys vs)(b:Paired (KM X.K H m) ys kss):Paired (Kv1 s.heap m) vs kss:=by
 induction a generalizing kss with
 | nil=>cases b;exact .nil
 | cons h1 _ ih => cases b with
   | cons h2 r2 =>
     refine .cons ?_ (ih r2);rcases m with _ | _ | m
     · obtain⟨i,e1,e2⟩:=h2;subst e1;obtain⟨t,rfl⟩:=h1;exact⟨i,t,rfl,e2⟩
     · obtain⟨i,e1,e2⟩:=h2;subst e1;obtain⟨t,rfl⟩:=h1;exact⟨i,t,rfl,e2⟩
     · obtain⟨a,e1,e2,e3⟩:=h2;subst e1;cases h1;exact⟨GU I e2,e3⟩
theorem Kv1.keep (k:∀b o,h.get? b=some o->h'.get? b=some o)(m:Nat)(x:Kv1 h m u ks):Kv1 h' m u ks:=by
 match m,x with
 | 0,x=>exact x
 | 1,x=>exact x
 | _ + 2,x=>exact⟨x.1.keep k,x.2⟩
theorem Ap {α β:Type}{F:α->β->Prop}{xs:List α}{ys:List β}(h:Paired F xs ys)(d:α)(e:β):∀i,i < xs.length->F (xs.getD i d) (ys.getD i e):=by
 induction h with
 | nil=>intro i hi;exact absurd hi (Cd _)
 | cons h1 _ ih =>
   intro i hi;cases i with
   | zero=>exact h1
   | succ i=>exact ih i (Nat.lt_of_succ_lt_succ hi)
theorem Jp {α β:Type}{F:α->β->Prop}{xs:List α}{ys:List β}(h:Paired F xs ys):∀x∈xs,∃y∈ys,F x y:=by
 induction h with
 | nil=>intro x hx;cases hx
 | cons h1 _ ih =>
   intro x hx;rcases C5.mp hx with rfl | hx
   · exact⟨_,B8,h1⟩
   · obtain⟨y,hy,hf⟩:=ih x hx;exact⟨y,C3 _ hy,hf⟩
theorem OG (p:Paired (Kv1 h (m + 2)) vs kss):∃fs,KatTups h vs fs/\fs.length=vs.length/\∀f∈fs,∃k r,(k::r)∈kss/\KeyV k f:=by
 induction p with
 | nil=>exact⟨[],trivial,rfl,fun _ z=>nomatch z⟩
 | cons h1 _ ih =>
   obtain⟨⟨a,o,its,n,rfl,ho,hc,hd,hk⟩,hne⟩:=h1;obtain⟨fs,t,hl,hf⟩:=ih;cases e:its.toList with
   | nil=>rw [e] at hk;cases hk;exact absurd rfl hne
   | cons f us =>
     rw [e] at hk;cases hk with
     | @cons k _ ks _ h2 h3 =>
       have ef:its[0]?=some f:=by rw [<- M9,e];rfl
       refine⟨f::fs,KatTups.cons ho hc hd ef t,by rw [M7,M7,hl],fun g hg=>?_⟩;rcases C5.mp hg with rfl | hg
       · exact⟨k,ks,B8,h2⟩
       · obtain⟨k',r',h4,h5⟩:=hf g hg;exact⟨k',r',C3 _ h4,h5⟩
theorem Jq {s:Shared}(h2:2<=vs.length)(p:Paired (Kv1 s.heap m) vs kss)(al:t9 kss)(A:Around)(E:Value->Shared->Prop)(h1:Heap)(tk:Nat)(k:∀b o,s.heap.get? b=some o->h1.get? b=some o) :
   ∃κ,(∀Q:SortKind->Shared->Prop,Q κ { s with heap:=h1,toks:=tk }->wpAny (model prog w) A (keyKind' vs.toArray) Q E { s with heap:=h1,toks:=tk })/\∀i j (C:Bool->Shared->Prop),i < vs.length->j < vs.length->C (ltIx kss i j) { s with heap:=h1,toks:=tk }->kas_ask prog w A κ vs i j C { s with heap:=h1,toks:=tk }:=by
 have p1:Paired (Kv1 h1 m) vs kss:=Paired.imp' (fun _ _ x=>x.keep k m) p;have lk:=Paired.length p1
 have mem:∀i,i < vs.length->kss.getD i []∈kss:=fun i hi=>by
   rw [w8,C4 (by omega)];exact x4 _
 match m,p1 with
 | 0, p1 =>
   refine⟨oneType',fun Q q=>kas_kind (T:=.type "int") h2 (fun v hv=>?_) rfl rfl q,fun i j C hi hj c=>?_⟩
   · obtain⟨ks,_,i,t,rfl,_⟩:=Jp p1 v hv;exact Looks.of_pure rfl
   · obtain⟨a,t,e1,e2⟩:=Ap p1 .none [] i hi;obtain⟨b,t',e3,e4⟩:=Ap p1 .none [] j hj;unfold kas_ask;unfold ltIx at c;rw [e1,e3,keyLt'_oneType];rw [e2,e4] at c;refine GS (x:=.inl a) (y:=.inl b) (xs:=[]) (ys:=[]) ⟨t,rfl⟩ ⟨t',rfl⟩ trivial ?_
     have e:lexK [.inl a] [.inl b]=M1 (.inl a) (.inl b):=by
       show(if(N0 a:Key)=.inl b then false else M1 (.inl a) (.inl b))=_
       by_cases c:(N0 a:Key)=.inl b
       · rw [if_pos c,c,GR]
       · rw [if_neg c]
     rw [<- e];exact c
 | 1, p1 =>
   refine⟨oneType',fun Q q=>kas_kind (T:=.type "str") h2 (fun v hv=>?_) rfl rfl q,fun i j C hi hj c=>?_⟩
   · obtain⟨ks,_,i,t,rfl,_⟩:=Jp p1 v hv;exact Looks.of_pure rfl
   · obtain⟨a,t,e1,e2⟩:=Ap p1 .none [] i hi;obtain⟨b,t',e3,e4⟩:=Ap p1 .none [] j hj;unfold kas_ask;unfold ltIx at c;rw [e1,e3,keyLt'_oneType];rw [e2,e4] at c;refine GS (x:=.inr a) (y:=.inr b) (xs:=[]) (ys:=[]) ⟨t,rfl⟩ ⟨t',rfl⟩ trivial ?_
     have e:lexK [.inr a] [.inr b]=M1 (.inr a) (.inr b):=by
       show(if(Z2 a:Key)=.inr b then false else M1 (.inr a) (.inr b))=_
       by_cases c:(Z2 a:Key)=.inr b
       · rw [if_pos c,c,GR]
       · rw [if_neg c]
     rw [<- e];exact c
 | m' + 2, p1 =>
   obtain⟨fs,kt,fl,hf⟩:=OG p1
   have asks:∀b i j (C:Bool->Shared->Prop),i < vs.length->j < vs.length->C (ltIx kss i j) { s with heap:=h1,toks:=tk }->kas_ask prog w A (tuples' b) vs i j C { s with heap:=h1,toks:=tk }:=fun b i j C hi hj c=>by
     have x1:=Ap p1 .none [] i hi;have x2:=Ap p1 .none [] j hj;exact OF (s:={ s with heap:=h1,toks:=tk }) x1.1 x2.1 (al _ (mem i hi) _ (mem j hj)) c
   obtain⟨f0,fr,rfl⟩:∃f0 fr,fs=f0::fr:=by
     cases fs with
     | nil=>rw [<- fl] at h2;exact absurd h2 (by simp)
     | cons a r=>exact⟨a,r,rfl⟩
   obtain⟨k0,r0,m0,v0⟩:=hf f0 B8
   have all:∀T:String,(∀f k r,(k::r)∈kss->KeyV k f->typeOf f=pure (.type T))->∀v∈f0::fr,Looks (model prog w) h1 (typeOf v) (.type T):=fun T hT v hv=>by
     obtain⟨k,r,h3,h4⟩:=hf v hv;exact Looks.of_pure (hT v k r h3 h4)
   cases k0 with
   | inl i0 =>
     refine⟨tuples' (K1 "int" != K1 "tuple"),fun Q q=>kat_kind (s:={ s with heap:=h1,toks:=tk }) kt (by simp) (all "int" fun f k r h3 h4=>?_) rfl q,asks _⟩;cases k with
     | inl i=>obtain⟨t,rfl⟩:=h4;rfl
     | inr z=>exact(al _ m0 _ h3).elim
   | inr i0 =>
     refine⟨tuples' (K1 "str" != K1 "tuple"),fun Q q=>kat_kind (s:={ s with heap:=h1,toks:=tk }) kt (by simp) (all "str" fun f k r h3 h4=>?_) rfl q,asks _⟩;cases k with
     | inr i=>obtain⟨t,rfl⟩:=h4;rfl
     | inl z=>exact(al _ m0 _ h3).elim
def outV (lt:Nat->Nat->Bool)(ys:List V):List V:=if ys.length < 2 then ys else(Kr.run lt (P0 ys.length)).toList.map fun i=>ys.getD i .non
theorem Jr (r:Vals ys vs)(O:Kr.Ord lt):Vals (outV lt ys) (R6 lt vs):=by
 unfold outV R6;rw [r.length]
 by_cases c:vs.length < 2
 · rw [if_pos c,if_pos c];exact r
 · rw [if_neg c,if_neg c];obtain⟨a1,a2,_⟩:=Kr.sort_ok O (n:=vs.length) (by omega)
   have hm:∀i∈(Kr.run lt (P0 vs.length)).toList,i < vs.length:=fun i hi=>by
     have:=(Fy.mp a1).mem_iff.mp hi
     simpa using this
   generalize (Kr.run lt (P0 vs.length)).toList=is at hm
   induction is with
   | nil=>exact .nil
   | cons i is ih =>
     refine .cons ?_ (ih fun j hj=>hm j (C3 _ hj));exact Ap r .non .none i (by rw [r.length];exact hm i B8)
theorem OH:K2 X (.builtin "sorted") (fun xs H Q=>∃p ys m kss,xs=[.ref p]/\SqL X.K H p ys/\ys.length < 64/\Paired (KM X.K H m) ys kss/\t9 kss/\∀l,H l=none->Q (.ref l) (upd H l (.lst (outV (ltIx kss) ys)))):=by
 intro pins s σ H xs us Q I r h;obtain⟨p,ys,m,kss,rfl,hq,h64,hp,al,q⟩:=h;obtain⟨u,rfl,rx⟩:=o7 r;cases rx;obtain⟨its,r',pl,hz⟩:=I.list hq;have hlen:=r'.length;have pk:=kv1_of I m r' hp;have O:=EC kss;refine Oz (vs:=its) (lt:=ltIx kss) (by omega) (fun R hR=>?_) (fun h2 A E h1 tk k=>Jq h2 pk al A E h1 tk k) fun h2 tk D e k hD ho=>?_
 · refine collect_list pl.isList (hR _ s.toks (fun b o e=>?_) ?_) (by omega)
   · have hlt:b < s.heap.objs.size:=B4 e;rw [Heap.get?_update_ne _ _ _ _ (C9 hlt)];exact C0 _ e
   · rw [Heap.size_update,size_push'];omega
 · have vo:=Jr r' O
   have hl:(outV (ltIx kss) ys).length<=B9:=by
     unfold outV
     split
     · omega
     · rw [A9,J9,(Kr.sort_ok O (by omega)).2.1];omega
   exact⟨.ref D,_,I.laid (t':=tk) k hD (show G8 X.prog X.w _ h2 _ (.lst (outV (ltIx kss) ys)) from⟨hl,_,e,vo,ho⟩),rfl,q _ (I.hok.fresh hD)⟩
end
end L2
end
section
namespace Pu
open PySem PySem.Spec L2
def kP:Key->PV
 | .inl i=>.int i
 | .inr z=>.str z
def u4:List PV->Option (List Key)
 | []=>some []
 | .int i::r=>(u4 r).map (.inl i::·)
 | .str z::r=>(u4 r).map (.inr z::·)
 | _=>none
def keyP:PV->List Key
 | .int i=>[.inl i]
 | .str z=>[.inr z]
 | .tup xs=>(u4 xs).getD []
 | _=>[]
theorem GV:∀ks:List Key,u4 (ks.map kP)=some ks
 | []=>rfl
 | .inl i::r=>by show(u4 (r.map kP)).map _=_;rw [GV r];rfl
 | .inr i::r=>by show(u4 (r.map kP)).map _=_;rw [GV r];rfl
theorem b9 (ks:List Key):keyP (.tup (ks.map kP))=ks:=by show(u4 (ks.map kP)).getD []=_;rw [GV];rfl
theorem ED:∀(ks:List Key) {us:List V},Reps K G H (ks.map kP) us->us=ks.map kV
 | [],_,h=>h
 | .inl i :: r, _, h => by
   obtain⟨v,t,rfl,h1,h2⟩:=h;rw [ED r h2,show v=.int i from h1];rfl
 | .inr i :: r, _, h => by
   obtain⟨v,t,rfl,h1,h2⟩:=h;rw [ED r h2,show v=.str i from h1];rfl
section
variable {T:PotK}{ι:Type}{K:A3}{F:ι->Cx}{e:Expr}{pe:pE}{pos:Pos}
def GX (xs:List PV):Prop:=(∀x∈xs,∃i,x=.int i)\/(∀x∈xs,∃z,x=.str z)\/((∀x∈xs,∃ks,x=.tup (ks.map kP)/\ks≠[])/\∀x∈xs,∀y∈xs,Al (keyP x) (keyP y))
def Srt (ys xs:List PV):Prop:=ys.Perm xs/\ys.Pairwise fun a b=>lexK (keyP b) (keyP a)=false
def EE (pe:pE):pA:=fun env n R=>pe env n fun x env1 n1=>match x with | .lst xs=>xs.length < 64/\GX xs/\∀ys,Srt ys xs->R ys env1 n1 | _=>False
theorem EF {P:PV->V->List Key->Prop}:∀(xs:List PV) {us:List V},Reps K G H xs us->(∀x∈xs,∀v,Rep K G H x v->P x v (keyP x))->Paired (fun v ks=>∃x,x∈xs/\P x v ks) us (xs.map keyP):=by
 intro xq
 induction xq with
 | nil =>
   intro _ h _;cases h;exact .nil
 | cons x xs ih =>
   intro _ h hP;obtain⟨v,t,rfl,h1,h2⟩:=h;refine .cons ⟨x,B8,hP x B8 v h1⟩ ?_;exact Paired.imp' (fun v ks ⟨y,hy,hp⟩=>⟨y,C3 _ hy,hp⟩) (ih h2 fun y hy=>hP y (C3 _ hy))
theorem km_of (r:Reps K G H xs us)(h:GX xs):∃m,Paired (KM K H m) us (xs.map keyP)/\t9 (xs.map keyP):=by
 rcases h with h | h | ⟨h,h'⟩
 · refine⟨0,Paired.imp' (fun v ks ⟨_,_,hp⟩=>hp) (EF (P:=fun _ v ks=>KM K H 0 v ks) xs r fun x hx v hv=>?_),fun a ha b hb=>?_⟩
   · obtain⟨i,rfl⟩:=h x hx;exact⟨i,hv,rfl⟩
   · obtain⟨x,hx,rfl⟩:=F5.mp ha;obtain⟨y,hy,rfl⟩:=F5.mp hb;obtain⟨i,rfl⟩:=h x hx;obtain⟨j,rfl⟩:=h y hy;exact trivial
 · refine⟨1,Paired.imp' (fun v ks ⟨_,_,hp⟩=>hp) (EF (P:=fun _ v ks=>KM K H 1 v ks) xs r fun x hx v hv=>?_),fun a ha b hb=>?_⟩
   · obtain⟨i,rfl⟩:=h x hx;exact⟨i,hv,rfl⟩
   · obtain⟨x,hx,rfl⟩:=F5.mp ha;obtain⟨y,hy,rfl⟩:=F5.mp hb;obtain⟨i,rfl⟩:=h x hx;obtain⟨j,rfl⟩:=h y hy;exact trivial
 · refine⟨2,Paired.imp' (fun v ks ⟨_,_,hp⟩=>hp) (EF (P:=fun _ v ks=>KM K H 2 v ks) xs r fun x hx v hv=>?_),fun a ha b hb=>?_⟩
   · obtain⟨ks,rfl,hne⟩:=h x hx;obtain⟨a,vs,rfl,at',rr⟩:=hv;rw [b9];refine⟨a,rfl,?_,hne⟩;rw [ED ks rr] at at';exact SqT.of at'.2
   · obtain⟨x,hx,rfl⟩:=F5.mp ha;obtain⟨y,hy,rfl⟩:=F5.mp hb;exact h' x hx y hy
def outP (xs:List PV):List PV:=if xs.length < 2 then xs else(Kr.run (ltIx (xs.map keyP)) (P0 xs.length)).toList.map fun i=>xs.getD i .non
theorem Js (xs:List PV)(i:Nat):(xs.map keyP).getD i []=keyP (xs.getD i .non):=by grind [PV,keyP]
theorem Jt (xs:List PV):Srt (outP xs) xs:=by
 unfold outP
 by_cases c:xs.length < 2
 · rw [if_pos c];refine⟨List.Perm.refl _,?_⟩
   match xs,c with
   | [],_=>exact .nil
   | [x],_=>exact List.pairwise_singleton _ _
 · rw [if_neg c]
   have e:ltIx (xs.map keyP)=fun i j=>lexK (keyP (xs.getD i .non)) (keyP (xs.getD j .non)):=by
     funext i j
     unfold ltIx;rw [Js,Js]
   rw [e];exact Kr.out_ok (fun a b:PV=>lexK (keyP a) (keyP b)) ⟨fun _=>Jm _,fun _ _ _ h1 h2=>EB h1 h2,fun _ _ _ h=>Jo h⟩ .non xs (by omega)
theorem OI (r:Reps K G H xs us)(i:Nat)(hi:i < xs.length):Rep K G H (xs.getD i .non) (us.getD i .non):=by
 induction xs generalizing us i with
 | nil=>exact absurd hi (Cd _)
 | cons x xs ih =>
   obtain⟨v,t,rfl,h1,h2⟩:=r;cases i with
   | zero=>exact h1
   | succ i=>exact ih h2 i (Nat.lt_of_succ_lt_succ hi)
theorem Ju (r:Reps K G H xs us):Reps K G H (outP xs) (outV (ltIx (xs.map keyP)) us):=by
 unfold outP outV;have hl:us.length=xs.length:=r.length.symm;rw [hl]
 by_cases c:xs.length < 2
 · rw [if_pos c,if_pos c];exact r
 · rw [if_neg c,if_neg c];obtain⟨a1,a2,_⟩:=Kr.sort_ok (EC (xs.map keyP)) (n:=xs.length) (by omega)
   have hm:∀i∈(Kr.run (ltIx (xs.map keyP)) (P0 xs.length)).toList,i < xs.length:=fun i hi=>by
     have:=(Fy.mp a1).mem_iff.mp hi
     simpa using this
   generalize (Kr.run (ltIx (xs.map keyP)) (P0 xs.length)).toList=is at hm
   induction is with
   | nil=>exact rfl
   | cons i is ih=>exact⟨_,_,rfl,OI r i (hm i B8),ih fun j hj=>hm j (C3 _ hj)⟩
theorem Jv (hg:∀z,Gl (F z) "sorted")(hm:∀z,(F z).mg "sorted"=none)(ha:QR T K F e pe)(hs:E4 e=true:=by rfl)(hK:∀z,(F z).K=K:=by intro _;rfl):QN T K F (.Call (.Name "sorted" p) [e] [] pos) (EE pe):=by
 obtain⟨t,h1,h2⟩:=ha;refine⟨_,fun z=>Z5 (hK z▸OH) (hg z) (hm z) Gg (E1 (h1 z) F8 (D0 hs)) (by decide) (by decide) (D0 hs),fun C G σ H env n R Q hK hT S hp k=>?_⟩;refine CA h2 hK hT S hp fun x env1 n1 v H1 p1 S1 r1 f1=>?_;have rd:RdV K G H1 x v:=hK▸r1.rd S1;cases x with
 | lst xs =>
   obtain⟨h64,so,q⟩:=p1;obtain⟨a,us,rfl,hq,r⟩:=rd.lst;obtain⟨m,pk,al⟩:=km_of r so;have hl:us.length=xs.length:=r.length.symm;exact⟨a,us,m,xs.map keyP,rfl,hq,by omega,pk,al,fun l hl=>k _ _ _ _ _ _ (q _ (Jt xs)) S1 f1 hl (Ju r)⟩
 | _=>exact p1.elim
end
end Pu
end
section
namespace Pu
open PySem PySem.Spec L2
def tupP (ks:List Key):PV:=.tup (ks.map kP)
end Pu
end
section
namespace L2
open PySem PySem.Spec PyProof.Rows
section
variable {prog:C6}{w:World}{A:Around}{E:Value->Shared->Prop}{s:Shared}
theorem OJ {j:Nat}(ht:s.heap.IsTuple t its)(hS:StrsAre its.toList ys)(hj:ys[j]?=some k)(hlt:∀i,i < j->ys[i]?≠some k)(hsm:ys.length<=1000000)
   (h:∀tk,Q (.int j tk) { s with toks:=s.toks + 1 }):wpAny (model prog w) A (call (.builtin "tuple.index") [.ref t,.str k tok]) Q E s:=by
 obtain⟨o,ho,hc,n,hd⟩:=id ht;have hT:s.TypeIs (.ref t) "tuple":=⟨o,ho,hc⟩;refine P7 F.slot_tuple_index hT F.entry_tuple_index ?_ (F.args_tuple_index_2 _ _);unfold N3.«tuple.index»;refine A1 (wpAny_of_eq (a:=(K7 t,[Value.str k tok])) rfl ?_);refine A1 (wpAny_tupleItemsOf ho hd ?_);dsimp only;refine A1 (A5 (A1 (A5 ?_)));refine A1 ?_;have hlen:ys.length=its.toList.length:=(StrsAre.length hS).symm
 have at_:∀(i:Nat) (y:Str),ys[i]?=some y->∃u,its[i]?=some (.str y u):=by
   intro i y hy
   have:∀{us:List Value} {zs:List Str},StrsAre us zs->∀(i:Nat),zs[i]?=some y->∃u,us[i]?=some (.str y u):=by
     intro us zs hh
     induction hh with
     | nil=>intro i h;cases h
     | cons x t _ ih =>
       intro i h;cases i with
       | zero=>cases h;exact⟨t,rfl⟩
       | succ i=>exact ih i (by simpa using h)
   obtain⟨u,hu⟩:=this hS i hy;exact⟨u,by rw [<- M9];exact hu⟩
 have hjl:j < its.size:=by
   have:=(D7.mp hj).1;rw [hlen,J9] at this;exact this
 rw [Std.Legacy.Range.forIn_eq_forIn_range'];refine Dp _ (fun rest r s'=>r.1=none/\s'=s/\∃i,rest=List.range' i (its.size - i)/\i<=j) _ ?_ ?_ _ _ ⟨rfl,rfl,0,?_,G0 _⟩
 · rintro x rest ⟨r1,r2⟩ s' ⟨hr,rfl,i0,hi,hij⟩;have hil:its.size - i0=(its.size - i0 - 1) + 1:=by omega
   rw [hil,List.range'_succ] at hi;obtain⟨i,hxi⟩:∃i,x=i:=⟨x,rfl⟩;injection hi with h1 h2;subst h2;have hi0:i0=i:=by rw [<- hxi,h1]
   subst hi0;subst hxi;clear h1
   revert hij hil
   generalize x=i;intro hij hil;have hiy:i < ys.length:=by rw [hlen,J9];omega
   obtain⟨u,hu⟩:=at_ i ys[i] (C4 hiy);rw [hu];dsimp only;refine A1 (eqBool_str ?_)
   by_cases c:i=j
   · subst c
     have:ys[i]=k:=by
       have:=C4 hiy;rw [hj] at this;exact(L8 this).symm
     rw [this,beq_self_eq_true,if_pos rfl];refine A1 (A1 (wpAny_mkInt (A5 (A5 ?_))));exact A5 ⟨_,rfl,h _⟩
   · have:ys[i]≠k:=fun e=>hlt i (by omega) (by rw [C4 hiy,e]);rw [beq_eq_false_iff_ne.mpr this,if_neg T3];refine A5 ⟨rfl,rfl,i + 1,?_,by omega⟩;rw [show its.size - (i + 1)=its.size - i - 1 by omega]
 · rintro⟨r1,r2⟩ s' ⟨hr,rfl,i,hi,hij⟩;have hil:its.size - i=(its.size - i - 1) + 1:=by omega
   rw [hil,List.range'_succ] at hi;cases hi
 · simp [Std.Legacy.Range.size]
end
section
variable {X:Cx}
def Jw (K:A3):V->List V->Hp->VK->Prop:=fun x vs H Q=>∃(l:Addr) (k:Str) (ys:List Str) (j:Nat),x=.ref l/\vs=[.str k]/\SqT K H l (ys.map V.str)/\ys.length<=1000000/\ys[j]?=some k/\(∀i,i < j->ys[i]?≠some k)/\Q (.int j) H
theorem OL:MtM X "tuple.index" (Jw X.K):=by
 intro pins s σ H x vs v us Q I rx rv h;obtain⟨l,k,ys,j,rfl,rfl,hq,hz0,hj,hlt,q⟩:=h;cases rx;obtain⟨u,rfl,ru⟩:=rv.one;obtain⟨t,rfl⟩:=ru;obtain⟨its,r,p,hz⟩:=I.tuple hq;exact OJ p (GP r) hj hlt hz0 fun tk=>⟨.int j,H,I.tok _,⟨_,rfl⟩,q⟩
end
end L2
end
section
namespace Pu
open PySem PySem.Spec PyProof.Rows L2
section
variable {T:PotK}{ι:Type}{K:A3}{F:ι->Cx}{e c:Expr}{pe pc:pE}{pos:Pos}
def u5:w2:=fun x y R=>match x,y with | .tup xs,.str k=>(match N7 xs with | some ys=>ys.length<=1000000/\∃j:Nat,ys[j]?=some k/\(∀i,i < j->ys[i]?≠some k)/\R (.int j) | none=>False) | _,_=>False
def V3 (pe pc:pE):pE:=fun env n R=>pe env n fun x env1 n1=>(∃xs,x=.tup xs)/\pc env1 n1 fun y env2 n2=>u5 x y fun z=>R z env2 n2
theorem c6 (he:QE T K F e pe)(hc:QE T K F c pc)(hs:E4 c=true:=by rfl)(hbase:∀z,j5 e "index" (F z).env (eval e (F z).env)=eval e (F z).env:=by intro _;rfl)(hline:(ap.endLine == pos.line)=true:=by rfl)
   (hfew:∀z,((backTo pos (E3 [c] (F z).env)).all (fun x=>!x.1) && (W4 pos (W0 [] (F z).env)).all (fun x=>x.1.isSome) && decide (([c]:List Expr).length + ([]:List O3).length + (if([]:List O3).isEmpty then 0 else 1) < 30))=true:=by intro _;rfl) (hK:∀z,(F z).K=K:=by intro _;rfl):QE T K F (.Call (.Attribute e "index" ap) [c] [] pos) (V3 pe pc):=by
 obtain⟨t,a1,a2⟩:=he;obtain⟨u,b1,b2⟩:=hc;refine⟨tBM K "tuple" (Jw K) t (R0 u tNil),fun z=>hK z▸Ae PySem.F.plainAttrs_tuple PySem.F.slot_tuple_index PySem.F.type_tuple_index OL (a1 z) (E1 (b1 z) F8 (D0 hs)) (hbase z) (hfew z) hline (D0 hs),fun C G σ H env n R Q hK hT S hp k=>?_⟩;refine a2 C G σ H env n _ _ hK hT S hp fun x env1 n1 v H1 q1 S1 r1 f1=>?_;obtain⟨⟨xs,rfl⟩,q1⟩:=q1;obtain⟨a,vs,rfl,ta,ra⟩:=r1;refine⟨?_,?_⟩
 · exact .inr (.inl ⟨rfl,.inr ⟨vs,ta.2⟩⟩)
 refine b2 C G σ H1 env1 n1 _ _ hK hT S1 q1 fun y env2 n2 w H2 q2 S2 r2 f2=>?_;unfold u5 at q2
 split at q2
 · rename_i xs' kk e1;cases e1
   split at q2
   · rename_i ys ey;obtain⟨hz,j,hj,hlt,q3⟩:=q2;obtain⟨a',vs',e3,ta',ra'⟩:=(show Rep K G H1 (.tup xs) (.ref a) from⟨a,vs,rfl,ta,ra⟩).fr f2;cases e3;exact⟨a,kk,ys,j,rfl,by rw [show w=.str kk from r2],Bw ey ra'▸SqT.of ta'.2,hz,hj,hlt,k _ _ _ _ _ q3 S2 rfl (f1.trans f2)⟩
   · exact q2.elim
 · exact q2.elim
end
end Pu
end
section
namespace Pu
open PySem PySem.Spec L2
def frzS:Slot->Option Slot
 | .v x=>some (.v x)
 | .ow .lst xs=>some (.v (.lst xs))
 | .ow (.dk ks) xs=>if ks.length=xs.length then some (.v (.dct ks xs)) else none
 | .ow (.dt _) _=>none
 | .ow (.st _) _=>none
def frz (env:Env):Env:=env.map fun o=>o.bind frzS
def Aq (T:PotK):Prop:=∀M M' H p n,T.at_ M H p n->(∀a∈M',a∈M\/∃o,H a=some o/\MutO o)->T.at_ M' H p n
theorem SR.lend {C:Ct}{G:Gh}{σ:St}{H:Hp}{env:Env}{n:Nat}(S:SR C G σ H env n):SR ⟨C.K,C.T,G.pots,G.pots,H,C.np⟩ ⟨G.pots,G.pots⟩ σ H (frz env) n where
 frame _ _ _ e:=e
 sub a ha:=.inl ha
 sup a ha:=ha
 pots p hp:=⟨hp,C.T.more (S.pots p hp).2 fun b hb=>.inl (S.pots b hb).1⟩
 pre:=⟨[],(S6 _).symm,.inl rfl⟩
 mu a ha:=S.mu a (S.pots a ha).1
 slots i s e:=by
   have mm:∀{x:PV} {v:V},Rep C.K G H x v->Rep C.K ⟨G.pots,G.pots⟩ H x v:=fun r=>Rep.mono (G':=⟨G.pots,G.pots⟩) (fun _ _ _ e=>e) (fun b hb=>.inl (S.pots b hb).1) (fun _ _ e=>e) _ _ r;have mms:∀{x:List PV} {v:List V},Reps C.K G H x v->Reps C.K ⟨G.pots,G.pots⟩ H x v:=fun r=>Reps.mono (G':=⟨G.pots,G.pots⟩) (fun _ _ _ e=>e) (fun b hb=>.inl (S.pots b hb).1) (fun _ _ e=>e) _ _ r;unfold frz at e;rw [F4] at e;cases h:env[i]? with
   | none=>rw [h] at e;cases e
   | some o =>
     rw [h] at e;cases o with
     | none=>cases e
     | some t =>
       have q:=S.slots i t h;have e':frzS t=some s:=by simpa using e
       cases t with
       | v x =>
         cases e';obtain⟨v,e1,r⟩:=q;exact⟨v,e1,mm r⟩
       | ow k xs =>
         obtain⟨a,vs,ev,h1,h2,h3,h4,r⟩:=q;cases k with
         | lst=>cases e';exact⟨.ref a,ev,a,vs,rfl,⟨h3,h4⟩,mms r⟩
         | dk ks =>
           have e':(if ks.length=xs.length then some (Slot.v (.dct ks xs)) else none)=some s:=e'
           split at e'
           · rename_i hl;cases e';have hlv:ks.length=vs.length:=by rw [hl];exact r.length
             refine⟨.ref a,ev,a,ks.zip vs,rfl,h3,h4,List.map_fst_zip (Cf hlv),?_⟩;rw [List.map_snd_zip (Cf hlv.symm)];exact mms r
           · cases e'
         | dt ks=>cases e'
         | st ks=>cases e'
 inj i j xs ys a e1:=by
   have:∀o:Option Slot,o.bind frzS≠some (.ow xs.1 xs.2):=by
     intro o z;cases o with
     | none=>cases z
     | some t =>
       cases t with
       | v x=>cases z
       | ow k ys =>
         cases k with
         | lst=>cases z
         | dk ks =>
           have z:(if ks.length=ys.length then some (Slot.v (.dct ks ys)) else none)=some (.ow xs.1 xs.2):=z
           split at z <;> cases z
         | dt ks=>cases z
         | st ks=>cases z
   unfold frz at e1;rw [F4] at e1;cases h:env[i]? with
   | none=>rw [h] at e1;cases e1
   | some o=>rw [h] at e1;exact absurd (L8 e1) (this o)
 p0:=⟨fun p hp=>hp,S.hasG⟩
 len:=by unfold frz;rw [A9];exact S.len
 newp p hp h:=absurd hp h
theorem SR.back {C:Ct}{G:Gh}{σ:St}{H H':Hp}{env env':Env}{n n':Nat}(hT:Aq C.T)(S:SR C G σ H env n)(S':SR ⟨C.K,C.T,G.pots,G.pots,H,C.np⟩ ⟨G.pots,G.pots⟩ σ H' env' n'):SR C G σ H' env n':=
 S.call (fun b o hb e=>S'.frame b o hb e) fun p hp=>hT _ _ _ _ _ (S'.pots p hp).2 fun a ha=>by
   by_cases h:a∈G.pots
   · exact .inl h
   · obtain⟨o,e,m⟩:=S.mu a ha;exact .inr ⟨o,S'.frame a o h e,m⟩
def GY (pe:pE):pE:=fun env n R=>pe (frz env) n fun x env' n'=>noMut x=true/\R x env n'
def EG (pn:pA):pA:=fun env n R=>pn (frz env) n fun xs env' n'=>p6 xs=true/\R xs env n'
section
variable {T:PotK}{ι:Type}{K:A3}{F:ι->Cx}{e:Expr}{pe:pE}{pn:pA}
theorem OM (hT:Aq T)(h:QE T K F e pe):QE T K F e (GY pe):=by
 obtain⟨t,h1,h2⟩:=h;refine⟨t,h1,fun C G σ H env n R Q hK hT' S hp k=>?_⟩;refine h2 ⟨C.K,C.T,G.pots,G.pots,H,C.np⟩ ⟨G.pots,G.pots⟩ σ H (frz env) n _ _ hK hT' S.lend hp fun x env' n' v H' r S' rp f=>?_;have S2:=S.back (by rw [hT'];exact hT) S';exact k _ _ _ _ _ r.2 S2 (Rep.noMut S2.mu _ _ r.1 rp) fun b o hb e=>S'.frame b o (fun z=>hb (S.pots b z).1) e
theorem ON {t:TE}(hT:Aq T)(h2:NOk K T t pn):NOk K T t (EG pn):=fun C G σ H env n R Q hK hT' S hp k=>by
 refine h2 ⟨C.K,C.T,G.pots,G.pots,H,C.np⟩ ⟨G.pots,G.pots⟩ σ H (frz env) n _ _ hK hT' S.lend hp fun xs env' n' a vs Hb r S' f hb rp=>?_;have S2:=S.back (by rw [hT'];exact hT) S';exact k _ _ _ _ _ _ r.2 S2 (fun b o hb e=>S'.frame b o (fun z=>hb (S.pots b z).1) e) hb (Reps.noMut S2.mu _ _ r.1 rp)
theorem OP (hT:Aq T)(h:QNC T K F e pn):QNC T K F e (EG pn):=by
 obtain⟨t,h1,h3,h2⟩:=h;exact⟨t,h1,h3,ON hT h2⟩
end
theorem Jx:Aq potL:=fun _ _ _ _ _ h _=>h
end Pu
end
section
namespace L2
open PySem PySem.Spec PyProof.Rows PySem.MeetsSeq PySem.SeqAt
theorem OQ (l:Addr)(items:Array Value)(n:Nat)(x:Value)(e:Value->Bool)(j:Nat)(hj:j < items.size)(hit:e items[j]=true)(k:Nat)(hs1:items.size<=B9) :
   ∀ i : Nat, j - i = k -> i <= j -> (∀ m (hm : m < items.size), i <= m -> m < j -> e items[m] = false) -> Meets (N3.«list.remove.loop» ⟨[.ref l, x, rawInt i], []⟩)
     (fun A R s=>s.heap.get? l=some { cls:=.type "list",dict:=none,data:=.seq items n,slots:=#[] }/\(∀y,y∈items->EqAt A.in1 s y x (e y))/\R (.ok (.ret .none)) { s with heap:=s.heap.update l (E7 fun xs=>xs.eraseIdxIfInBounds j) }):=by
 induction k with
 | zero =>
   intro i hk hij hno prog w A R s h;obtain⟨hp,g,d,tk,os⟩:=s;obtain⟨hl,he,h⟩:=h;have hij':i=j:=by omega
   subst hij'
   wp_walk using Ds hl
   have hi:items[((i:Nat):Int).toNat]?=some items[i]:=by simp [hj]
   rw [hi];refine A1 (he _ (Array.getElem_mem hj) prog w _ _ ?_);rw [hit];have hz':(items.eraseIdxIfInBounds i).size<=B9 + 1:=L7 (size_erased items _) (DC hs1)
   wp_walk using(wpAny_updateSeq hl rfl (hz:=hs1) (_hz':=hz')),Ds hl
   simpa using h
 | succ k ih =>
   intro i hk hij hno prog w A R s h;obtain⟨hp,g,d,tk,os⟩:=s;obtain⟨hl,he,h⟩:=h;have hlt:i < items.size:=by omega
   wp_walk using Ds hl
   have hi:items[((i:Nat):Int).toNat]?=some items[i]:=by simp [hlt]
   have hc:((i:Int) + 1)=((i + 1:Nat):Int):=by push_cast;rfl
   rw [hi];refine A1 (he _ (Array.getElem_mem hlt) prog w _ _ ?_);rw [hno i hlt (B3 _) (by omega)]
   wp_walk
   rw [hc]
   exact⟨V9 plain_remove_loop _,U2 entry_remove_loop (by
     rw [X1 plain_remove_loop _]
     exact ih (i + 1) (by omega) (by omega) (fun m hm h1 h2=>hno m hm (by omega) h2) prog w A R _ ⟨hl,he,h⟩)⟩
theorem OR (l:Addr)(items:Array Value)(n:Nat)(x:Value)(e:Value->Bool)(j:Nat)(hj:j < items.size)(hit:e items[j]=true)(hno:∀m (hm:m < items.size),m < j->e items[m]=false)(hs1:items.size<=B9) :
   Meets (N3.«list.remove» ⟨[.ref l,x],[]⟩)
     (fun A R s=>s.heap.get? l=some { cls:=.type "list",dict:=none,data:=.seq items n,slots:=#[] }/\(∀y,y∈items->EqAt A.in1 s y x (e y))/\R (.ok (.ret .none)) { s with heap:=s.heap.update l (E7 fun xs=>xs.eraseIdxIfInBounds j) }):=by
 intro prog w A R s h;obtain⟨hp,g,d,tk,os⟩:=s;obtain⟨hl,he,h⟩:=h
 wp_walk using Ds hl
 exact⟨V9 plain_remove_loop _,U2 entry_remove_loop (by
   rw [X1 plain_remove_loop _]
   exact OQ l items n x e j hj hit _ hs1 0 rfl (G0 _) (fun m hm _ h2=>hno m hm h2) prog w A R _ ⟨hl,he,h⟩)⟩
def Jy (K:A3)(d:Nat):V->List V->Hp->VK->Prop:=fun x vs H Q=>∃l xs y,∃f:Nat->Bool,∃j,x=.ref l/\vs=[y]/\H l=some (.lst xs)/\(∀(j:Nat) z,xs[j]?=some z->EqD K H d z y (f j))/\f j=true/\(∀i,i < j->f i=false)/\j < xs.length/\Q .non (upd H l (.lst (xs.eraseIdx j)))
section
variable {X:Cx}
open Classical in
theorem OS {pins:List (Addr×Obj)}{σ:St}{H:Hp}{s:Shared}(I:Inv X pins σ H s){d:Nat}{A:Around}(hu:A.units + d < cLine){ys:List V}{its:List Value}(r:Vals ys its){x:V}{v:Value}(rx:RelV x v){f:Nat->Bool}(hf:∀(j:Nat) z,ys[j]?=some z->EqD X.K H d z x (f j)) :
   ∃e:Value->Bool,(∀y,y∈its->l9 A s y v (e y))/\(∀(j:Nat) (hj:j < its.length),e its[j]=f j):=by
 have key:∀(j j':Nat) (z:Value),its[j]?=some z->its[j']?=some z->f j=f j':=by
   intro j j' z h h';obtain⟨hj,_⟩:=D7.mp h;obtain⟨hj',_⟩:=D7.mp h';obtain⟨w1,a1,b1⟩:=r.getE hj;obtain⟨w2,a2,b2⟩:=r.getE hj';rw [C4 hj] at h;rw [C4 hj'] at h';cases h;rw [L8 h'] at b2;have:=b1.inj b2;subst this;exact EqD.det I d _ _ _ _ (hf j _ a1) (hf j' _ a2)
 let e:Value->Bool:=fun y=>decide (∃j,its[j]?=some y/\f j=true)
 have he:∀(j:Nat) (y:Value),its[j]?=some y->e y=f j:=by
   intro j y h;show decide _=_;cases hb:f j with
   | true=>exact decide_eq_true ⟨j,h,hb⟩
   | false=>exact decide_eq_false fun⟨j',h1,h2⟩=>by rw [key j j' y h h1,h2] at hb;cases hb
 refine⟨e,fun y hy=>?_,?_⟩
 · obtain⟨j,hj,rfl⟩:=AO hy;obtain⟨w1,a1,b1⟩:=r.getE hj;rw [he j _ (C4 hj)];exact((hf j w1 a1).at I d A w1 x _ v (f j) hu b1 rx).1
 · intro j hj;exact he j _ (C4 hj)
end
theorem OT {X:Cx}(d:Nat)(hu:X.A.units + (d + 1) < cLine):MtM X "list.remove" (Jy X.K d):=by
 intro pins s σ H x vs v us Q I rx rv h;obtain⟨l,xs,y,f,j,rfl,rfl,hH,hf,hj,hno,hlt,q⟩:=h;cases rx;obtain⟨u,rfl,ru⟩:=rv.one;obtain⟨z,its,n,r,hl,e⟩:=I.lstM hH;obtain⟨ee,h1,h2⟩:=OS I (A:=X.A.in1) (by rw [in1_units];omega) r ru hf;have hlt':j < its.length:=by omega
 refine call_meets F.slot_list_remove ⟨_,e,rfl⟩ F.entry_list_remove (F.args_list_remove_2 _ _) (OR l its.toArray n u ee j (by simpa using hlt') (by simpa using(h2 j hlt').trans hj) (fun m hm hmj=>by simpa using(h2 m (by simpa using hm)).trans (hno m hmj)) (by rw [D8];omega)) ⟨e,fun y hy=>h1 y (by simpa using hy),?_⟩;refine⟨.non,_,I.lset (its':=its.eraseIdx j) hH e ?_ (r.eraseIdx j) ?_,rfl,q⟩
 · show its.toArray.eraseIdxIfInBounds j=(its.eraseIdx j).toArray;rw [List.eraseIdxIfInBounds_toArray]
 · have:=Gc xs j;omega
end L2
namespace Pu
open PySem PySem.Spec L2
section
variable {T:PotK}{ι:Type}{K:A3}{F:ι->Cx}{e:Expr}{pe:pE}{pos:Pos}
def GZ (d i:Nat)(pe:pE):pE:=fun env n R=>(∃xs,env[i]?=some (some (.ow .lst xs)))/\pe env n fun y env1 n1=>match env1[i]? with
 | some (some (.ow .lst xs))=>cmpb d y=true/\xs.all (cmpb d)=true/\∃j:Nat,(∃z,xs[j]?=some z/\eqP z y=true)/\(∀i,i < j->∀z,xs[i]?=some z->eqP z y=false)/\R .non (env1.set i (some (.ow .lst (xs.eraseIdx j)))) n1
 | _=>False
theorem OU (d i:Nat){k0:Nat}{x:Str}{p ap:Pos}(hr:∀z,Room k0 (F z).A)(hv:∀z,EW (F z) (.Name x p) (tVar i))(he:QE T K F e pe)(hd:d<=30:=by decide)(hs:E4 e=true:=by rfl)(hbase:∀z,j5 (.Name x p) "remove" (F z).env (eval (.Name x p) (F z).env)=eval (.Name x p) (F z).env:=by intro _;rfl)(hline:(ap.endLine == pos.line)=true:=by rfl)
   (hfew:∀z,((backTo pos (E3 [e] (F z).env)).all (fun x=>!x.1) && (W4 pos (W0 [] (F z).env)).all (fun x=>x.1.isSome) && decide (([e]:List Expr).length + ([]:List O3).length + (if([]:List O3).isEmpty then 0 else 1) < 30))=true:=by intro _;rfl) (hK:∀z,(F z).K=K:=by intro _;rfl):QE T K F (.Call (.Attribute (.Name x p) "remove" ap) [e] [] pos) (GZ d i pe):=by
 obtain⟨t,a1,a2⟩:=he;refine⟨tBM K "list" (Jy K d) (tVar i) (R0 t tNil),fun z=>hK z▸Ae Cm PySem.F.slot_list_remove PySem.F.type_list_remove (OT d (by have:=(hr z).units;omega)) (hv z).h (E1 (a1 z) F8 (D0 hs)) (hbase z) (hfew z) hline (D0 hs),fun C G σ H env n R Q hK hT S hp k=>?_⟩;obtain⟨⟨xs0,e0⟩,hp⟩:=hp;obtain⟨a,vs,ev,h1,h2,h3,h4,r⟩:=S.slots i _ e0;refine⟨.ref a,ev,.inl ⟨rfl,vs,SqL.of h4⟩,?_⟩;refine a2 C G σ H env n _ _ hK hT S hp fun y env1 n1 v H1 q1 S1 r1 f1=>?_
 split at q1
 · rename_i xs ex;obtain⟨cy,cx,j,⟨z,ej,hz⟩,hno,q2⟩:=q1;obtain⟨a',us,ev',g1,g2,g3,g4,r'⟩:=S1.slots i _ ex;rw [ev] at ev';cases ev';subst hK;obtain⟨S2,f2⟩:=S1.put ex ev (r'.eraseIdx j);have hj:j < xs.length:=(D7.mp ej).1;refine⟨a,us,v,fun m=>match xs[m]? with | some z=>eqP z y | none=>false,j,rfl,rfl,g4,fun m w em=>?_,?_,fun m hm=>?_,by rw [<- r'.length];exact hj,k _ _ _ _ _ q2 S2 rfl (f1.trans f2)⟩
   · have hm:m < xs.length:=by rw [r'.length];exact(D7.mp em).1
     obtain⟨w',ew',rw'⟩:=r'.get' (C4 hm);rw [em] at ew';cases ew';dsimp only;rw [C4 hm];exact Eg d _ _ _ _ (J3.mp cx _ (x4 hm)) cy (.inl rw') (.inl r1)
   · dsimp only;rw [ej];exact hz
   · dsimp only;rw [C4 (show m < xs.length by omega)];exact hno m hm _ (C4 _)
 · exact q1.elim
end
end Pu
end
section
namespace Pu
open PySem PySem.Spec L2
abbrev pSlN:=Env->Nat->(List Slot->Env->Nat->Prop)->Prop
def EH:pSlN:=fun env n R=>R [] env n
def i5 (s:pSl)(r:pSlN):pSlN:=fun env n R=>s env n fun a env1 n1=>r env1 n1 fun ss env2 n2=>R (a::ss) env2 n2
def setAll:List Nat->List Slot->Env->Env
 | i::is,s::ss,env=>setAll is ss (env.set i (some s))
 | _,_,env=>env
def G_:List Nat->List V->St->St
 | i::is,v::vs,σ=>G_ is vs (σ.set i (some v))
 | _,_,σ=>σ
def Gots (C:Ct)(G:Gh)(H:Hp)(σ:St)(env:Env):List Slot->List V->Prop
 | [],vs=>vs=[]
 | s::ss,vs=>∃v r,vs=v::r/\Got C G H σ env s v/\(∀(xs:OK×List PV) a,s=.ow xs.1 xs.2->v=.ref a->∀(ys:OK×List PV) w,(Slot.ow ys.1 ys.2,w)∈ss.zip r->w≠.ref a)/\Gots C G H σ env ss r
def LsOk (K:A3)(T:PotK)(t:TA)(sl:pSlN):Prop:=∀(C:Ct) (G:Gh) (σ:St) (H:Hp) (env:Env) (n:Nat) (R:List Slot->Env->Nat->Prop) (Q:List V->Hp->Prop),C.K=K->C.T=T->SR C G σ H env n->sl env n R->
 (∀ss env' n' vs G' H',R ss env' n'->SR C G' σ H' env' n'->Ext G H G' H'->Gots C G' H' σ env' ss vs->Q vs H')->t σ H Q
def QLs {ι:Type}(T:PotK)(K:A3)(F:ι->Cx)(es:List Expr)(sl:pSlN):Prop:=∃t,(∀z,PA (F z) es t)/\LsOk K T t sl
section
variable {T:PotK}{np:Bool}{ι:Type}{K:A3}{F:ι->Cx}{e:Expr}{es:List Expr}{st:Stmt}{s1:pSl}{sl:pSlN}{pos:Pos}
theorem Jz:QLs T K F [] EH:=⟨tNil,fun z=>F8,fun C G σ H env n R Q hK hT S hp k=>k _ _ _ _ _ _ hp S Ext.refl rfl⟩
theorem Gots.unguard {C:Ct}{G:Gh}{H:Hp}{σ:St}{env:Env}{a:Addr}{us:List V}:∀{ss:List Slot} {vs:List V},Gots (C.guard a us) G H σ env ss vs->Gots C G H σ env ss vs/\∀(ys:OK×List PV) w,(Slot.ow ys.1 ys.2,w)∈ss.zip vs->w≠.ref a
 | [],_,h=>⟨h,fun _ _ z=>by simp at z⟩
 | s :: ss, vs, h => by
   obtain⟨v,r,rfl,g,ne,h⟩:=h;obtain⟨h1,h2⟩:=Gots.unguard h
   have gy:Got C G H σ env s v:=by
     refine⟨?_,g.2⟩;cases s with
     | v x=>exact g.1
     | ow kk ys =>
       obtain⟨b,us,ev,g1,g2,g3,g4,r⟩:=g.1;exact⟨b,us,ev,g1,fun z=>g2 (C3 _ z),g3,g4,r⟩
   refine⟨⟨v,r,rfl,gy,ne,h1⟩,fun ys w hw ew=>?_⟩;rw [k4] at hw;rcases C5.mp hw with e | hw
   · cases e;obtain⟨b,us,ev,g1,g2,_⟩:=g.1;rw [ew] at ev;cases ev;exact g2 B8
   · exact h2 ys w hw ew
theorem Ar (h:QL T K F e s1)(hr:QLs T K F es sl)(n1:E4 e=true:=by rfl):QLs T K F (e::es) (i5 s1 sl):=by
 obtain⟨t,a1,a2⟩:=h;obtain⟨u,b1,b2⟩:=hr;refine⟨R0 t u,fun z=>E1 (a1 z) (b1 z) (D0 n1),fun C G σ H env n R Q hK hT S hp k=>?_⟩;refine a2 C G σ H env n _ _ hK hT S hp (fun x env1 n1 v H1 q1 S1 r1 f1=>?_) fun xs env1 n1 a vs Hb q1 S1 f1 hn rs=>?_
 · refine b2 C G σ H1 env1 n1 _ _ hK hT S1 q1 fun ss env2 n2 ws G2 H2 q2 S2 x2 g2=>?_;exact k _ _ _ _ _ _ q2 S2 ((Ext.fr f1).trans x2) ⟨v,ws,rfl,⟨⟨v,rfl,Rep.mono x2.keep x2.new x2.pot _ _ (hK▸r1)⟩,fun _ _ z=>nomatch z⟩,(fun _ _ z=>nomatch z),g2⟩
 · have aM:=S1.fresh hn;have GF:=S1.guard vs hn;have a0:a∉C.M0:=fun z=>aM (S1.sup a z);have aH:=S1.old hn;have x1:Ext G H ⟨a::G.M,G.pots⟩ (upd Hb a (.lst vs)):=(Ext.fr f1).trans (Ej hn);have r1:Reps C.K ⟨a::G.M,G.pots⟩ (upd Hb a (.lst vs)) xs vs:=Reps.mono (G':=⟨a::G.M,G.pots⟩) (H':=upd Hb a (.lst vs)) (fun b o _ e=>Same.lay1 hn b o e) (fun c hc=>(C5.mp (show c∈a::G.M from hc)).elim (fun z=>.inr (z▸hn)) .inl) (fun _ _ e=>e) _ _ (hK▸rs);refine b2 (C.guard a vs) ⟨a::G.M,G.pots⟩ σ (upd Hb a (.lst vs)) env1 n1 _ _ hK hT GF q1 fun ss env2 n2 ws G2 H2 q2 S2 x2 g2=>?_;obtain⟨S3,e3,no⟩:=S2.unguard a0 S1.p0.1 aH;have aM2:a∈G2.M:=S2.sup a B8
   have ap2:a∉G2.pots:=fun z=>by
     by_cases hz:a∈C.pots0
     · exact a0 (S1.p0.1 a hz)
     · exact S2.newp a z hz B8
   obtain⟨g3,g4⟩:=Gots.unguard g2;refine k _ _ _ _ _ _ q2 S3 (x1.trans x2) ⟨.ref a,ws,rfl,⟨⟨a,vs,rfl,aM2,a0,ap2,e3,Reps.mono x2.keep x2.new x2.pot _ _ r1⟩,fun _ _ _ e=>by cases e;exact no⟩,fun xs' b ex ev ys w hw=>?_,g3⟩;cases ev;exact g4 ys w hw
theorem Gots.len {C:Ct}{G:Gh}{H:Hp}{σ:St}{env:Env}:∀{ss:List Slot} {vs:List V},Gots C G H σ env ss vs->ss.length=vs.length
 | [],_,h=>by cases(show _=[] from h);rfl
 | s :: ss, vs, h => by
   obtain⟨v,r,rfl,g,ne,h⟩:=h;have:=Gots.len h;simp [this]
theorem Gots.set (hl:env.length=σ.length):∀{ss:List Slot} {vs:List V},Gots C G H σ env ss vs->(∀(xs:OK×List PV) a,s0=.ow xs.1 xs.2->v0=.ref a->∀(ys:OK×List PV) w,(Slot.ow ys.1 ys.2,w)∈ss.zip vs->w≠.ref a)->Gots C G H (σ.set i (some v0)) (env.set i (some s0)) ss vs
 | [],_,h,_=>h
 | s :: ss, vs, h, no => by
   obtain⟨v,r,rfl,g,ne,h⟩:=h;refine⟨v,r,rfl,⟨g.1,fun xs a e1 e2 z=>?_⟩,ne,Gots.set hl h fun xs a e1 e2 ys w hw=>no xs a e1 e2 ys w (by rw [k4];exact C3 _ hw)⟩;rcases CC hl z with z | ⟨⟨zs,ez⟩,ev⟩
   · exact g.2 xs a e1 e2 z
   · exact no zs a ez ev xs v (by rw [k4,e1];exact B8) e2
theorem SR.setAll {C:Ct}{G:Gh}{H:Hp}{n:Nat}:∀(is:List Nat) (ss:List Slot) (vs:List V) {σ:St} {env:Env},SR C G σ H env n->Gots C G H σ env ss vs->SR C G (G_ is vs σ) H (Pu.setAll is ss env) n
 | [],_,_,_,_,S,_=>S
 | i::is,[],vs,_,_,S,g=>by cases(show vs=[] from g);exact S
 | i :: is, s :: ss, vs, σ, env, S, g => by
   obtain⟨v,r,rfl,g1,ne,g2⟩:=g;exact SR.setAll is ss r (S.slot i g1.1 g1.2) (g2.set S.len ne)
theorem Gots.same {C:Ct}{G:Gh}{H H':Hp}{σ:St}{env:Env}(sm:Same H H'):∀{ss:List Slot} {vs:List V},Gots C G H σ env ss vs->Gots C G H' σ env ss vs
 | [],_,h=>h
 | s :: ss, vs, h => by
   obtain⟨v,r,rfl,g,ne,h⟩:=h;refine⟨v,r,rfl,⟨?_,g.2⟩,ne,h.same sm⟩;have r:=g.1;cases s with
   | v x=>obtain⟨v',e,r⟩:=r;exact⟨v',e,r.same sm⟩
   | ow kk xs=>obtain⟨b,us,e,h1,h2,h3,h4,r⟩:=r;exact⟨b,us,e,h1,h2,h3,sm _ _ h4,r.same sm⟩
def u6:List Nat->TGs
 | []=>gNil
 | i::is=>n6 (K8 i) (u6 is)
theorem JA:∀(is:List Nat) (vs:List V) {σ:St} {H:Hp} {Q:St->Hp->Prop},is.length=vs.length->Q (G_ is vs σ) H->u6 is vs σ H Q
 | [],[],_,_,_,_,q=>⟨rfl,q⟩
 | i::is,v::vs,σ,H,Q,h,q=>⟨v,vs,rfl,JA is vs (by simpa using h) q⟩
theorem JB {X:Cx}(K:A3){es:List Expr}{k m:Nat}{is:List Nat}(hc:X.calm=true)(h:PGs X es (u6 is))(hn:(J0 es X.env).length=m:=by rfl)(hst:(J0 es X.env).findIdx? (·.1)=none:=by rfl)(hK:X.K=K:=by rfl):GW X (.Tuple es k pos) (gTup K m (u6 is)):=⟨hK▸FN hc h hn hst⟩
theorem As {X:Cx}{i:Nat}{is:List Nat}(h1:GW X e (K8 i))(h2:PGs X es (u6 is))(hs:(J0 (e::es) X.env).map (·.2)=assign e X.env::(J0 es X.env).map (·.2):=by rfl):PGs X (e::es) (u6 (i::is)):=DX h1.h h2 hs
theorem pgs_n {X:Cx}:PGs X [] (u6 []):=FM
def EI (is:List Nat)(sl:pSlN):pS:=fun D env n=>sl env n fun ss env1 n1=>ss.length=is.length/\D.nx (setAll is ss env1) n1
theorem JC (is:List Nat){tg:Expr}{k:Nat}{p:Pos}(h:∀z te g,EW (F z) (.Tuple es k p) te->GW (F z) tg g->SW (F z) st (tAsg te g))(hg:∀z,GW (F z) tg (gTup K is.length (u6 is)))(h1:QLs T K F es sl)(hz:is.length<=100:=by decide):QS T np K F st (EI is sl):=by
 obtain⟨t,a1,a2⟩:=h1;refine⟨_,fun z=>(h z _ _ ⟨FV (a1 z)⟩ (hg z)).h,fun C G σ H env n PD D hK hT hn S hp L=>?_⟩;refine a2 C G σ H env n _ _ hK hT S hp fun ss env2 n2 vs G2 H2 q S2 x2 g=>?_;have lv:vs.length=is.length:=g.len.symm.trans q.1;refine⟨by rw [lv];exact L7 hz (by decide),fun p hn'=>⟨p,vs,rfl,SqT.of E8,lv,JA is vs lv.symm ?_⟩⟩;have sm:Same H2 (upd H2 p (.tup vs)):=Same.lay1 hn';exact L.nx _ _ _ _ _ q.2 (SR.setAll is ss vs (S2.same sm) (g.same sm)) (x2.trans (Ext.fr (Fr.of sm)))
end
end Pu
end
section
namespace L2
open PySem PySem.Spec PyProof.Rows
section
variable {prog:C6}{w:World}{A:Around}{E:Value->Shared->Prop}{s:Shared}
theorem OV (hne:t≠it):∀(n i:Nat) (s:Shared) (Q:List Value->Shared->Prop),s.heap.IsListIter it t i->s.heap.IsList t items->i + n<=items.size->
   (∀h':Heap,h'.IsListIter it t (i + n)->U5 it s.heap h'->Q ((items.toList.drop i).take n) { s with heap:=h' })->wpAny (model prog w) A (draw (.ref it) n) Q E s:=by
 intro xq
 induction xq with
 | zero =>
   intro i s Q hit _ _ hQ;show wpAny _ _ (pure []) Q E s;exact A5 (by simpa using hQ s.heap hit (Heap.SameBut.refl ..))
 | succ n ih =>
   intro i s Q hit ht hle hQ;have hlt:i < items.size:=by omega
   show wpAny _ _ (pyNext (.ref it)>>=_) Q E s;refine A1 (wpAny_pyNext_list_item hit ht (x:=items[i]) (by simp [hlt]) fun h₁ hit₁ hs₁=>?_);refine A1 (G6 (ih (i + 1) _ _ hit₁ (ht.extBut hs₁.extBut hne) (by omega) fun h₂ hit₂ hs₂=>A5 ?_));have hd:items.toList.drop i=items[i]::items.toList.drop (i + 1):=by simp [AL,hlt]
   have:=hQ h₂ (by rw [show i + (n + 1)=i + 1 + n by omega];exact hit₂) (hs₁.trans hs₂);rw [hd,List.take_succ_cons] at this;exact this
theorem OW {env:Env}{elts:List Expr}{x1}{pos:Pos}{t:Addr}{items:Array Value}{Q:Unit->Shared->Prop}(hh:A.handled=none)(ht:s.heap.IsList t items)
   (hn:(J0 elts env).length=items.size) (hstar:(J0 elts env).findIdx? (·.1)=none)
   (h:∀h',BR s.heap.objs.size s.heap h'->wpAny (model prog w) A (v4 ((J0 elts env).map (·.2)) items.toList) Q E { s with heap:=h' }) :
   wpAny (model prog w) A (assign (.Tuple elts x1 pos) env (.ref t)) Q E s:=by
 rw [assign_Tuple];refine A1 (U3 ?_);have hlt:t≠s.heap.objs.size:=by obtain⟨o,ho,_⟩:=ht;exact C9 (B4 ho)
 unfold unpack;rw [hn,hstar];refine A1 (G6 ?_);unfold unpackItems;refine A1 ?_;unfold notIterableAtAll;refine A1 (AE ht.typeIs slot_list_iter.lookup ?_);refine A5 ?_;simp only [F7,if_false];refine A1 (G6 (BM ht ?_));refine A1 (G6 (OV hlt items.size 0 _ _ ⟨_,F2 _ rfl,rfl,rfl⟩ (ht.push _) (by omega) fun h₁ hit₁ hs₁=>?_))
 have hall:List.take items.size (List.drop 0 items.toList)=items.toList:=by
   rw [BZ];exact AN (by simp)
 rw [hall];rw [if_neg (by simp)];have ht₁:h₁.IsList t items:=(ht.push _).extBut hs₁.extBut hlt;refine A1 (G6 (wpAny_pyNext_list_end hh hit₁ ht₁ (by simp) fun h₂ he₂=>?_));simp only [Option.isSome_none,F7,if_false];exact A5 (h h₂ fun b o hb e=>he₂ b o hb (hs₁.extBut b o hb (C0 _ e)))
end
section
variable {X:Cx}{pos:Pos}
def gLst (K:A3)(n:Nat)(t:TGs):TG:=fun v σ H Q=>∃a xs,v=.ref a/\SqL K H a xs/\xs.length=n/\t xs σ H Q
theorem pg_lst (hc:X.calm=true)(h:PGs X es t)
   (hn:(J0 es X.env).length=n:=by rfl) (hst:(J0 es X.env).findIdx? (·.1)=none:=by rfl):PG X (.Tuple es k pos) (gLst X.K n t):=by
 intro pins s σ H v u Q I r hw;obtain⟨a,xs,e1,hq,hl,hw⟩:=hw;subst e1;cases r;obtain⟨its,rv,ht⟩:=I.sqL hq;refine OW (I.ok.hd hc) ht (by simp [hn,<- hl,rv.length]) hst fun h' hx=>?_;have I1:Inv X pins σ H { s with heap:=h' }:=I.kept (t':=s.toks) fun b o e=>hx b o (C9 (B4 e)) e;exact h pins _ σ H xs _ Q I1 (by simpa using rv) hw
end
end L2
namespace Pu
open PySem PySem.Spec L2
section
variable {ι:Type}{K:A3}{F:ι->Cx}{es:List Expr}{pgs:pGs}{pos:Pos}
def gTl (m:Nat)(g:pGs):pG:=fun x env R=>match x with | .lst xs=>xs.length=m/\g xs env R | _=>False
theorem qg_lst (hc:∀z,(F z).calm=true)(h:QGs K F es pgs)(hn:∀z,(J0 es (F z).env).length=m:=by intro _;rfl)(hst:∀z,(J0 es (F z).env).findIdx? (·.1)=none:=by intro _;rfl)(hK:∀z,(F z).K=K:=by intro _;rfl):QG K F (.Tuple es k pos) (gTl m pgs):=by
 obtain⟨g,a1,a2⟩:=h;refine⟨_,fun z=>hK z▸pg_lst (hc z) (a1 z) (hn z) (hst z),fun C G σ H env n x v R Q hK S r hp k=>?_⟩;cases x with
 | lst xs =>
   obtain⟨a,vs,rfl,t,rs⟩:=r;exact⟨a,vs,rfl,t.sq,by rw [<- rs.length];exact hp.1,a2 C G σ H env n xs vs _ _ hK S rs hp.2 k⟩
 | _=>exact hp.elim
end
end Pu
end
section
namespace L2
open PySem PySem.Spec PyProof.Rows
abbrev LC2 (elt t1 i1 t2 i2:Expr)(ifs:List Expr)(scope:Scope)(pos:Pos):Expr:=.ListComp elt [⟨t1,i1,[],0⟩,⟨t2,i2,ifs,0⟩] scope pos
theorem OX (elt t1 i1 t2 i2:Expr)(ifs:List Expr)(scope:Scope)(pos:Pos)(it acc:Value)(env:Env) :
   compTurn (LC2 elt t1 i1 t2 i2 ifs scope pos) 1 it acc env=(do
     Y7 i2.pos
     match ← pyNext it with
     | none=>pure (.done .next)
     | some v =>
       i8 t2 it v
       assign t2 env v
       let mut ok:=true
       for c in ifs do
         if ok then ok ← isTrue c env (eval c env)
       if ok then
         (do let _ ← call (.builtin "list.append") [acc,<- eval elt env])
       again (.compLoop (LC2 elt t1 i1 t2 i2 ifs scope pos) 1 it acc env)):=by rfl
section
variable {prog:C6}{w:World}{A:Around}{R:Result->Shared->Prop}{s:Shared}{elt t1 i1 t2 i2:Expr}{ifs:List Expr}{scope:Scope}{pos:Pos}{it acc:Value}{env:Env}
theorem loop_i (I:Nat->Shared->Prop)
   (turn:∀n s,I n s->wpAny (model prog w) A (pyNext it) (fun r s₁=>match r with
     | none=>R (.ok .next) s₁
     | some v=>wpAny (model prog w) A (i8 t2 it v) (fun _ s₁'=>wpAny (model prog w) A (assign t2 env v) (fun _ s₂=>
         wpAny (model prog w) A (forIn ifs true fun c r=>if r=true then do let ok ← isTrue c env (eval c env);pure (l8 ok) else pure (l8 r)) (fun ok s₃=>
           if ok=true then wpAny (model prog w) A (eval elt env) (fun x s₄=>
             wpAny (model prog w) A (call (.builtin "list.append") [acc,x]) (fun _ s₅=>∃m,m < n/\I m s₅) (fun _ _=>False) s₄) (fun _ _=>False) s₃
           else ∃m,m < n/\I m s₃) (fun _ _=>False) s₂) (fun _ _=>False) s₁') (fun _ _=>False) s₁) (fun _ _=>False) s)
   (n:Nat) (h:I n s):L5 (model prog w) A (.compLoop (LC2 elt t1 i1 t2 i2 ifs scope pos) 1 it acc env) R s:=by
 refine codeAny_loop rfl I (fun n s hI=>?_) n h;show wpAny _ A ((compTurn (LC2 elt t1 i1 t2 i2 ifs scope pos) 1 it acc env).onRaise (fun x=>do noteFrame x env;theTreesLotGoes x)) _ _ s;refine wpAny_noted ?_;rw [OX];refine A1 (U3 (A1 (G7 (turn n s hI) (fun r s₁ h₁=>?_) fun _ _ h'=>h'.elim)));cases r with
 | none=>exact A5 h₁
 | some v =>
   refine A1 (G7 h₁ (fun _ s₁' h₁'=>?_) fun _ _ h'=>h'.elim);refine A1 (G7 h₁' (fun _ s₂ h₂=>A1 (G7 h₂ (fun ok s₃ h₃=>?_) fun _ _ h'=>h'.elim)) fun _ _ h'=>h'.elim);cases ok with
   | false=>exact A5 ⟨rfl,h₃⟩
   | true =>
     exact A1 (A1 (G7 h₃ (fun x s₄ h₄=>A1 (G7 h₄ (fun _ s₅ h₅=>A5 (A5 ⟨rfl,h₅⟩)) fun _ _ h'=>h'.elim)) fun _ _ h'=>h'.elim))
theorem OY (h0:L5 (model prog w) A (.compLoop (LC2 elt t1 i1 t2 i2 ifs scope pos) 1 it acc env) R s)
   (h:wpAny (model prog w) A (pyIter it) (fun it' s'=>L5 (model prog w) A (.compLoop (LC2 elt t1 i1 t2 i2 ifs scope pos) 1 it' acc env) R s') (fun _ _=>False) s) :
   L5 (model prog w) A (.compStart (LC2 elt t1 i1 t2 i2 ifs scope pos) 1 it acc env) R s:=by
 refine codeAny_of_tree ?_;show wpAny _ _ ((compStart (LC2 elt t1 i1 t2 i2 ifs scope pos) 1 it acc env).onRaise (fun x=>do noteFrame x env;Y7 theWindowsPlace)) _ _ s;refine wpAny_notedAt ?_;unfold compStart;show wpAny _ _ (ask>>=_) _ _ s;refine A1 (Dn (wpAny_ite ?_))
 split
 · first
     | exact A1 (A5 (A5 (And.intro rfl h0)))
     | exact A5 (And.intro rfl h0)
 · first
     | exact A1 (j7 (A1 (U3 (A1 (G7 h (fun it' s' h'=>A5 (And.intro rfl h')) fun _ _ x=>x.elim)))))
     | (refine A1 (j7 ?_);show wpAny _ _ (Y7 i2.pos>>=_) _ _ s;exact A1 (U3 (A1 (G7 h (fun it' s' h'=>A5 (And.intro rfl h')) fun _ _ x=>x.elim))))
theorem loop_o (hs:∀x,T9 i2 env x=pure x)(I:Nat->Shared->Prop)
   (turn:∀n s,I n s->wpAny (model prog w) A (pyNext it) (fun r s₁=>match r with
     | none=>R (.ok .next) s₁
     | some v=>wpAny (model prog w) A (i8 t1 it v) (fun _ s₁'=>wpAny (model prog w) A (assign t1 env v) (fun _ s₂=>
         wpAny (model prog w) A (eval i2 env) (fun x s₃=>wpAny (model prog w) A (pyIter x) (fun it2 s₄=>
           L5 (model prog w) A (.compStart (LC2 elt t1 i1 t2 i2 ifs scope pos) 1 it2 acc env) (fun r s'=>r=.ok .next/\∃m,m < n/\I m s') s₄) (fun _ _=>False) s₃) (fun _ _=>False) s₂) (fun _ _=>False) s₁') (fun _ _=>False) s₁) (fun _ _=>False) s)
   (n:Nat) (h:I n s):L5 (model prog w) A (.compLoop (LC2 elt t1 i1 t2 i2 ifs scope pos) 0 it acc env) R s:=by
 refine codeAny_loop rfl I (fun n s hI=>?_) n h;show wpAny _ A ((compTurn (LC2 elt t1 i1 t2 i2 ifs scope pos) 0 it acc env).onRaise (fun x=>do noteFrame x env;theTreesLotGoes x)) _ _ s;refine wpAny_noted ?_;unfold compTurn;show wpAny _ _ (Y7 i1.pos>>=_) _ _ s;refine A1 (U3 ?_);refine A1 (G7 (turn n s hI) (fun r s₁ h₁=>?_) fun _ _ h'=>h'.elim);cases r with
 | none=>exact A5 h₁
 | some v =>
   refine A1 (G7 h₁ (fun _ s₁' h₁'=>?_) fun _ _ h'=>h'.elim);refine A1 (G7 h₁' (fun _ s₂ h₂=>A1 (wpAny_tests_nil ?_)) fun _ _ h'=>h'.elim);refine A1 (G7 h₂ (fun x s₃ h₃=>?_) fun _ _ h'=>h'.elim);refine A1 (U3 ?_);show wpAny _ _ (T9 i2 env x>>=fun x=>(Q6 [x] (pyIter x)>>=fun it2=>(runOwn (.compStart (LC2 elt t1 i1 t2 i2 ifs scope pos) 1 it2 acc env) env>>=fun _=>again (.compLoop (LC2 elt t1 i1 t2 i2 ifs scope pos) 0 it acc env)))) _ _ _;refine A1 (wpAny_of_eq (hs x) (A1 (G6 (G7 h₃ (fun it2 s₄ h₄=>?_) fun _ _ h'=>h'.elim))));refine A1 (wpAny_runOwn ?_);rw [Around.mark_none];refine w4 h₄ fun r s' hr=>?_;obtain⟨rfl,hr⟩:=hr;exact A5 ⟨rfl,hr⟩
end
def JD (J:It)(g:TG)(tt:TT)(te:TE)(D:Addr)(N:St->Hp->Prop)(σ:St)(H:Hp):Prop:=∃W:Nat->Nat->St->Hp->Prop,(∃m,W 0 m σ H)/\
 ∀i m σ' H',W i m σ' H'->(J.stop i H'/\N σ' H')\/(J.go i H'/\∀x H2,J.yld i H' x H2->g x σ' H2 fun σ3 H3=>tt σ3 H3 fun b H4=>
    if b=true then te σ3 H4 fun v H5=>∃ys,H5 D=some (.lst ys)/\ys.length < B9/\∃m',m' < m/\W (i + 1) m' σ3 (upd H5 D (.lst (ys++[v])))
    else ∃m',m' < m/\W (i + 1) m' σ3 H4)
def JE (J:It)(g1:TG)(wi2:TI)(g2:TG)(tt:TT)(te:TE)(Q:VK)(D:Addr)(σc:St)(H1:Hp):Prop:=∃W:Nat->Nat->St->Hp->Prop,(∃m,W 0 m σc H1)/\
 ∀i m σ' H',W i m σ' H'->(J.stop i H'/\Q (.ref D) H')\/(J.go i H'/\∀x H2,J.yld i H' x H2->g1 x σ' H2 fun σ3 H3=>wi2 σ3 H3 fun J2 H4=>JD J2 g2 tt te D (fun σ5 H5=>∃m',m' < m/\W (i + 1) m' σ5 H5) σ3 H4)
def tComp2 (cs:List (Option Nat))(wi:TI)(g1:TG)(wi2:TI)(g2:TG)(tt:TT)(te:TE):TE:=fun σ H Q=>wi σ H fun J H1=>∀D,H1 D=none->JE J g1 wi2 g2 tt te Q D (Bk cs σ) (upd H1 D (.lst []))
theorem OZ {X:Cx}{scope:Scope}{cl:List (Str×Addr)}{N:List Str}{cs:List (Option Nat)}{elt t1 i1 t2 i2:Expr}{ifs:List Expr}{pos:Pos}{wi1 wi2:TI}{g1 g2:TG}{tt:TT}{te:TE}(S:p5 X scope cl N cs)(hc:X.calm=true)(hi:PI X t1 i1 wi1)
   (hb:∀(fp:List Addr) (C:Addr) (s:Shared) (H:Hp),PG (F3 X scope cl N fp C s H) t1 g1/\PI (F3 X scope cl N fp C s H) t2 i2 wi2/\PG (F3 X scope cl N fp C s H) t2 g2/\PIf (F3 X scope cl N fp C s H) ifs tt/\PE (F3 X scope cl N fp C s H) elt te)
   (hs2:∀fp C s H x,T9 i2 (F3 X scope cl N fp C s H).env x=pure x)
   (hs:∀x,T9 i1 X.env x=pure x:=by intro _;rfl) :
   PE X (LC2 elt t1 i1 t2 i2 ifs scope pos) (tComp2 cs wi1 g1 wi2 g2 tt te):=by
 intro pins s σ H Q I h;rw [eval_ListComp];refine Fq (use:=none) rfl hs S.clos S.kind S.names (thn (hi pins s σ H _ I h) fun v s1 h1=>thn h1 fun itv s2 h2=>?_);obtain⟨it,fp,tn,J,H2,rfl,I2,T,st2,f2,q⟩:=h2
 have ho:∀b∈fp,∃o,s2.heap.get? b=some o:=fun b hb=>by
   obtain⟨o,e,_⟩:=T.obj 0 _ st2 b hb;exact⟨o,e⟩
 refine L3 (Dk S.nocell (by intro y hy;simp at hy) (fun h₁ hns₁ hsb₁=>?_) S.kind);dsimp only at hns₁ hsb₁ ⊢;have hC:(s2.heap.push { cls:=.type "list",dict:=none,data:=.seq ([]:List Value).toArray }).objs.size=s2.heap.objs.size + 1:=by rw [j9]
 generalize hH2:s2.heap.push { cls:=.type "list",dict:=none,data:=.seq ([]:List Value).toArray }=hp2 at hns₁ hsb₁ hC ⊢;have old:∀b o,s2.heap.get? b=some o->h₁.get? b=some o:=fun b o e=>hsb₁.extBut b o (by rw [hC];exact C9 (Q9 (B4 e))) (C0 _ (hH2▸C0 _ e));have hD:h₁.get? s2.heap.objs.size=some { cls:=.type "list",data:=.seq ([]:List Value).toArray }:=hsb₁.extBut _ _ (by rw [hC];exact C9 (Cc _)) (C0 _ (hH2▸F2 _ rfl));rw [hC] at hns₁ ⊢;obtain⟨W,⟨m0,w0⟩,turn⟩:=q s2.heap.objs.size I2.fresh;have Ic:=Gd S (tk:=s2.toks + ([]:List (Str×Value)).length) I2 f2 ho old hns₁ hD;have nstk:∀b,b≠X.env.locals->b∉X.fs->b∉frs X.stack:=fun b h1 h2 hb=>(C5.mp (I2.stkSub b hb)).elim h1 h2
 have stat:∀{H':Hp},(∀b∈fp,H' b=none)->∀b∈fp,FpOk (F3 X scope cl N fp (s2.heap.objs.size + 1) s2 H2) pins H' b:=fun hn b hb=>by
   obtain⟨o,e⟩:=ho b hb;exact⟨hn b hb,C9 (Q9 (B4 e)),nstk b (f2 b hb).2.1 (f2 b hb).2.2.1,.inl hb,fun x c ec=>(f2 b hb).2.2.2.2.1 x c (S.sub x c ec),(f2 b hb).2.2.2.2.2⟩
 obtain⟨hg,hi2,hg2,hf,he⟩:=hb fp (s2.heap.objs.size + 1) s2 H2;have st1:tn 0 h₁:=T.keep _ _ _ st2 fun b hb o e=>old b o e
 have fr1:∀b∈fp,upd H2 s2.heap.objs.size (.lst []) b=none:=fun b hb=>by
   obtain⟨o,e⟩:=ho b hb;rw [B6 (C9 (B4 e))];exact(f2 b hb).1
 have loop:∀s₃:Shared,s₃={ s2 with heap:=h₁,toks:=s2.toks + ([]:List (Str×Value)).length }->
     L5 (model X.prog X.w) X.A (.compLoop (LC2 elt t1 i1 t2 i2 ifs scope pos) 0 (.ref it) (.ref s2.heap.objs.size) (compEnvC scope cl (s2.heap.objs.size + 1) X.env))
       (compPost (model X.prog X.w) X.A X.xe none (EP X pins σ Q) (.ref s2.heap.objs.size) (s2.heap.objs.size + 1)) s₃:=by
   rintro s₃ rfl;refine loop_o (hs2 fp (s2.heap.objs.size + 1) s2 H2) (fun n s'=>∃i σ' H',Inv (F3 X scope cl N fp (s2.heap.objs.size + 1) s2 H2) pins σ' H' s'/\tn i s'.heap/\(∀b∈fp,H' b=none)/\W i n σ' H') ?_ m0 ⟨0,_,_,Ic,st1,fr1,w0⟩;rintro n s3 ⟨i,σ3,H3,I3,st3,fr3,w3⟩;rcases turn i n σ3 H3 w3 with⟨stop,qn⟩ | ⟨go,step⟩
   · refine thn (T.done (F3 X scope cl N fp (s2.heap.objs.size + 1) s2 H2) rfl rfl rfl hc i pins s3 σ3 H3 (fun _ _=>False) I3 (stat fr3) st3 stop) fun r s4 ⟨hr,I4⟩=>?_;subst hr;obtain⟨m4,hn4,_⟩:=I4.loc;exact⟨m4,hn4,fun h' hs'=>⟨.ref s2.heap.objs.size,H3,Inv.uncomp I2 f2 I4 fun b hb=>hs'.2 b hb,rfl,qn⟩⟩
   · refine thn (T.item (F3 X scope cl N fp (s2.heap.objs.size + 1) s2 H2) rfl rfl rfl hc i pins s3 σ3 H3 (fun _ _=>False) I3 (stat fr3) st3 go) fun r s4 ⟨u,hr,h4⟩=>?_;subst hr;refine thn h4 fun _ s5 ⟨x,H5,I5,r5,y5,st5,fr5⟩=>?_;have I5':=I5.pinned (stat fr5) (T.obj _ _ st5);refine thn (hg _ s5 σ3 H5 x u _ I5' r5 (step x H5 y5)) fun _ s6 ⟨σ6,H6,I6,q6⟩=>?_;refine thn (hi2 _ s6 σ6 H6 _ I6 q6) fun v7 s7 h7=>thn h7 fun itv s8 h8=>?_;obtain⟨it2,fp2,tn2,J2,H8,rfl,I8,T2,st8,f8,W2,⟨m2,w2⟩,turn2⟩:=h8;have stat2:∀{H':Hp},(∀b∈fp2,H' b=none)->∀b∈fp2,FpOk (F3 X scope cl N fp (s2.heap.objs.size + 1) s2 H2) (pins++Bh fp s5.heap) H' b:=fun hn b hb=>⟨hn b hb,(f8 b hb).2⟩
     have inner:L5 (model X.prog X.w) X.A (.compLoop (LC2 elt t1 i1 t2 i2 ifs scope pos) 1 (.ref it2) (.ref s2.heap.objs.size) (compEnvC scope cl (s2.heap.objs.size + 1) X.env)) (fun r s'=>r=.ok .next/\∃m,m < n/\∃i σ' H',Inv (F3 X scope cl N fp (s2.heap.objs.size + 1) s2 H2) pins σ' H' s'/\tn i s'.heap/\(∀b∈fp,H' b=none)/\W i m σ' H') s8:=by
       exact loop_i _ (Gf (Y:=F3 X scope cl N fp (s2.heap.objs.size + 1) s2 H2) T2 hc stat2 hg2 hf he (fun s10 σ9 H9 I10 qn2=>⟨rfl,Ge T st5 I10 qn2⟩) turn2) m2 ⟨0,σ6,H8,I8,st8,fun b hb=>(f8 b hb).1,w2⟩
     exact OY inner (T2.self _ 0 _ _ _ st8 inner)
 exact Fs (loop _ rfl) (T.self _ 0 _ _ _ st1 (loop _ rfl))
end L2
end
section
namespace Pu
open PySem PySem.Spec L2
def CK (g:pG)(tt:pT)(te:pE):List PV->Env->Nat->(List PV->Env->Nat->Prop)->Prop
 | [],env,n,R=>R [] env n
 | x::xs,env,n,R=>g x env fun env1=>tt env1 n fun b env2 n2=>if b=true then te env2 n2 fun y env3 n3=>CK g tt te xs env3 n3 fun ys e m=>R (y::ys) e m else CK g tt te xs env2 n2 R
def At (g1:pG)(pi2:pA)(g2:pG)(tt:pT)(te:pE):List PV->Env->Nat->(List PV->Nat->Prop)->Prop
 | [],_,n,R=>R [] n
 | x::xs,env,n,R=>g1 x env fun env1=>pi2 env1 n fun ys env2 n2=>ys.length<=1000/\CK g2 tt te ys env2 n2 fun zs env3 n3=>At g1 pi2 g2 tt te xs env3 n3 fun ws n4=>R (zs++ws) n4
def Ha (cs:List (Option Nat))(pi1:pA)(g1:pG)(pi2:pA)(g2:pG)(tt:pT)(te:pE):pA:=fun env n R=>pi1 env n fun xs env1 n1=>xs.length<=1000/\At g1 pi2 g2 tt te xs (capV cs env1) n1 fun ys n2=>R ys env1 n2
theorem O_ {K:A3}{T:PotK}{J:It}{g:TG}{tt:TT}{te:TE}{pg:pG}{ptt:pT}{pte:pE}(hg:GOk K g pg)(ht:TOk K T tt ptt)(he:EOk K T te pte){G:Gh}{H1 H4:Hp}{ys:List PV}{D:Addr}(hJ:ItR K ⟨D::G.M,G.pots⟩ H4 J ys)(nD:D∉G.pots)(hD:H1 D=none){σ:St}{env:Env}{n:Nat}{acc:List PV}{us:List V}{P:List PV->Env->Nat->Prop}{N:St->Hp->Prop}(c:CI K T G H1 D σ H4 env n acc us)(hl:acc.length + ys.length<=1001000)(hc:CK pg ptt pte ys env n P)
   (hN:∀zs env n us σ H,P zs env n->CI K T G H1 D σ H env n (acc++zs) us->zs.length<=ys.length->N σ H):JD J g tt te D N σ H4:=by
 refine⟨fun j m σ H'=>m=ys.length - j/\j<=ys.length/\∃env n zs us2,CI K T G H1 D σ H' env n (acc++zs) us2/\Fr ⟨D::G.M,G.pots⟩ H4 H'/\zs.length<=j/\CK pg ptt pte (ys.drop j) env n fun ws e m=>P (zs++ws) e m,⟨ys.length,rfl,G0 _,env,n,[],us,by rw [S6];exact c,Fr.refl,B3 _,hc⟩,?_⟩;rintro j m σ5 H5 ⟨rfl,hj,env5,n5,zs,us5,c5,fr5,la5,hc5⟩;obtain⟨hgo5,hstop5⟩:=hJ _ H5 fr5 (fun a ha=>.inl ha) (fun _ _ e=>e) fun p hp=>c5.inn.sr.fresh hp
 by_cases hlt5:j < ys.length
 · obtain⟨u1,u2⟩:=hgo5 j _ (C4 hlt5);refine .inr ⟨u1,fun v6 H6 y6=>?_⟩;obtain⟨s6,rv6⟩:=u2 v6 H6 y6;rw [AL hlt5] at hc5;have np:∀b,b∉D::G.M->b∉G.pots:=fun b hb z=>hb (c5.inn.pots b z).1;refine hg _ _ σ5 H6 env5 n5 ys[j] v6 _ _ rfl (c5.inn.sr.same s6) rv6 hc5 fun env7 σ7 hc7 S7=>?_;refine ht _ _ σ7 H6 env7 n5 _ _ rfl rfl S7 hc7 fun b env8 n8 H8 hc8 S8 f8=>?_;cases b with
   | false=>exact⟨ys.length - (j + 1),B_ _ _ hlt5,rfl,hlt5,env8,n8,zs,us5,c5.go nD S8,fun b o hb e=>S8.frame b o (np b hb) (fr5 b o hb e),DC la5,hc8⟩
   | true =>
     refine he _ _ σ7 H8 env8 n8 _ _ rfl rfl S8 hc8 fun y env9 n9 u H9 hc9 S9 r9 f9=>?_;have c9:=c5.go nD S9;have c10:=c9.add nD hD r9;rw [P1] at c10;refine⟨us5,c9.eD,by rw [<- c5.ra.length,D4];exact Ca (show _<=1001000 by omega) (by rw [J1];decide),ys.length - (j + 1),B_ _ _ hlt5,rfl,hlt5,env9,n9,zs++[y],us5++[u],c10,Fr.trans (fun b o hb e=>S9.frame b o (np b hb) (fr5 b o hb e)) (CI.fD _),by rw [D4];exact Nat.succ_le_succ la5,?_⟩;simp only [P1];exact hc9
 · obtain rfl:j=ys.length:=Nat.le_antisymm hj (AT hlt5);rw [BW] at hc5;have h5:P (zs++[]) env5 n5:=hc5;rw [S6] at h5;exact .inl ⟨hstop5 _ (B3 _),hN zs env5 n5 us5 σ5 H5 h5 c5 la5⟩
theorem Pa {K:A3}{T:PotK}{J:It}{g1 g2:TG}{wi2:TI}{tt:TT}{te:TE}{pg1 pg2:pG}{pi2:pA}{ptt:pT}{pte:pE}(hg1:GOk K g1 pg1)(hi2:IOk K T wi2 pi2)(hg2:GOk K g2 pg2)(ht:TOk K T tt ptt)(he:EOk K T te pte){G:Gh}{H1:Hp}{xs:List PV}(hJ:ItR K G H1 J xs)(hl:xs.length<=1000)
   {σc:St} {env:Env} {n:Nat} {R:List PV->Nat->Prop} {Q:VK} {D:Addr} (hD:H1 D=none) (I0:Inn K T G σc H1 env n) (hp:At pg1 pi2 pg2 ptt pte xs env n R)
   (hQ:∀ys n' us H',R ys n'->(∀p∈G.pots,T.at_ (D::G.M) H' p n')->(∀b o,b∉G.pots->H1 b=some o->H' b=some o)->H' D=some (.lst us)->Reps K ⟨D::G.M,G.pots⟩ H' ys us->Q (.ref D) H') :
   JE J g1 wi2 g2 tt te Q D σc (upd H1 D (.lst [])):=by
 have nD:D∉G.pots:=fun z=>I0.sr.fresh hD (I0.pots D z).1;refine⟨fun i m σ H=>m=xs.length - i/\i<=xs.length/\∃env n acc us,CI K T G H1 D σ H env n acc us/\acc.length<=1000 * i/\At pg1 pi2 pg2 ptt pte (xs.drop i) env n fun ys n'=>R (acc++ys) n',⟨xs.length,rfl,G0 _,env,n,[],[],.start hD I0,B3 _,hp⟩,?_⟩;rintro i m σ H ⟨rfl,hi,env,n,acc,us,c,la,hc⟩;obtain⟨hgo,hstop⟩:=c.it hD hJ
 by_cases hlt:i < xs.length
 · obtain⟨gg1,gg2⟩:=hgo i _ (C4 hlt);refine .inr ⟨gg1,fun v H2 y=>?_⟩;obtain⟨s2,rv⟩:=gg2 v H2 y;rw [AL hlt] at hc;refine hg1 _ _ σ H2 env n xs[i] v _ _ rfl (c.inn.sr.same s2) rv hc fun env1 σ1 hc1 S2=>?_;refine hi2 _ _ σ1 H2 env1 n _ _ rfl rfl S2 hc1 fun ys env2 n2 J2 H4 q4 S4 f4 hJ2=>?_;refine O_ hg2 ht he hJ2 nD hD (c.go nD S4) (by have:=q4.1;omega) q4.2 fun zs env5 n5 us5 σ5 H5 h5 c5 lz=>⟨xs.length - (i + 1),B_ _ _ hlt,rfl,hlt,env5,n5,acc++zs,us5,c5,by rw [D4];have:=q4.1;omega,?_⟩;simp only [P1];exact h5
 · obtain rfl:i=xs.length:=Nat.le_antisymm hi (AT hlt);rw [BW] at hc;have hc':R (acc++[]) n:=hc;rw [S6] at hc';exact .inl ⟨hstop _ (B3 _),hQ _ n us H hc' (fun p hp=>(c.inn.pots p hp).2) c.kp c.eD c.ra⟩
section
variable {T:PotK}{ι:Type}{K:A3}{F:ι->Cx}{pg1 pg2:pG}{pos:Pos}
theorem Pb {scope:Scope}{cl:ι->List (Str×Addr)}{N:List Str}{cs:List (Option Nat)}{elt t1 i1 t2 i2:Expr}{ifs:List Expr}{pi1 pi2:pA}{ptt:pT}{pte:pE}(S:∀z,p5 (F z) scope (cl z) N cs)(hc:∀z,(F z).calm=true)(hi:QI T K F t1 i1 pi1)
   (hg:QG K (fun y:ι×List Addr×Addr×Shared×Hp=>F3 (F y.1) scope (cl y.1) N y.2.1 y.2.2.1 y.2.2.2.1 y.2.2.2.2) t1 pg1)
   (hi2:QI T K (fun y:ι×List Addr×Addr×Shared×Hp=>F3 (F y.1) scope (cl y.1) N y.2.1 y.2.2.1 y.2.2.2.1 y.2.2.2.2) t2 i2 pi2)
   (hg2:QG K (fun y:ι×List Addr×Addr×Shared×Hp=>F3 (F y.1) scope (cl y.1) N y.2.1 y.2.2.1 y.2.2.2.1 y.2.2.2.2) t2 pg2)
   (ht:QIf T K (fun y:ι×List Addr×Addr×Shared×Hp=>F3 (F y.1) scope (cl y.1) N y.2.1 y.2.2.1 y.2.2.2.1 y.2.2.2.2) ifs ptt)
   (he:QE T K (fun y:ι×List Addr×Addr×Shared×Hp=>F3 (F y.1) scope (cl y.1) N y.2.1 y.2.2.1 y.2.2.2.1 y.2.2.2.2) elt pte)
   (hs:∀z x,T9 i1 (F z).env x=pure x:=by intro _ _;rfl) (hs2:∀z fp C s H x,T9 i2 (F3 (F z) scope (cl z) N fp C s H).env x=pure x:=by intro _ _ _ _ _ _;rfl):QN T K F (LC2 elt t1 i1 t2 i2 ifs scope pos) (Ha cs pi1 pg1 pi2 pg2 ptt pte):=by
 obtain⟨wi,i1',i2'⟩:=hi;obtain⟨g,hg0,hg⟩:=hg;obtain⟨wj,j1,j2⟩:=hi2;obtain⟨g2,hg20,hg2⟩:=hg2;obtain⟨tt,ht0,ht⟩:=ht;obtain⟨te,he0,he⟩:=he;refine⟨_,fun z=>OZ (S z) (hc z) (i1' z) (fun fp C s H=>⟨hg0 (z,fp,C,s,H),j1 (z,fp,C,s,H),hg20 (z,fp,C,s,H),ht0 (z,fp,C,s,H),he0 (z,fp,C,s,H)⟩) (hs2 z) (hs z),fun C G σ H env n R Q hK hT S hp k=>?_⟩;refine i2' C G σ H env n _ _ hK hT S hp fun xs env1 n1 J H1 p1 S1 f1 hJ=>?_;intro D hD;have hDM:=S1.fresh hD;refine Pa (G:=G) hg j2 hg2 ht he hJ p1.1 hD (hT▸hK▸Gz S1 cs) p1.2 fun ys n2 us H' rr hpots hk eD ry=>?_;have nD:∀b o,H1 b=some o->b≠D:=fun b o e z=>by rw [z,hD] at e;cases e
 have hk2:∀b o,b∉G.pots->H1 b=some o->cutH H' D b=some o:=fun b o hb e=>by rw [T8 (nD b o e)];exact hk b o hb e
 have nc:∀b,b∉D::G.M->b≠D:=fun b hb z=>hb (by rw [z];exact B8);have np:∀p∈G.pots,p≠D:=fun p hp z=>hDM (z▸(S1.pots p hp).1)
 have Sb:SR C G σ (cutH H' D) env1 n2:=S1.call hk2 fun p hp=>by
   subst hT;have h2:=C.T.keep (hpots p hp) (H':=cutH H' D) (T8 (np p hp)) fun b o hb e=>by rw [T8 (nc b hb)];exact e
   exact C.T.more h2 fun a ha=>.inl (C3 _ ha)
 have:=k ys env1 n2 D us (cutH H' D) rr Sb (f1.trans fun b o hb e=>hk2 b o (fun z=>hb (S1.pots b z).1) e) (by unfold cutH;rw [if_pos rfl]) ?_
 · rw [GA eD] at this;exact this
 · exact Reps.mono (G:=⟨D::G.M,G.pots⟩) (fun b o hb e=>by rw [T8 (nc b hb)];exact e) (fun a ha=>.inl (C3 _ ha)) (fun _ _ e=>e) _ _ ry
end
end Pu
end
section
namespace L2
open PySem PySem.W PySem.Spec PyProof.Rows
def BA (X:Cx)(scope:Scope)(N:List Str)(qual:Str)(f c':Addr)(cl:List (Str×Addr))(s:Shared)(H:Hp):Cx where
 prog:=X.prog
 w:=X.w
 K:=X.K
 mg:=X.mg
 base:=X.base
 A:=X.A.in1.in1.deeper (envX qual scope s.heap.objs.size f (.ref c') cl)
 N:=N
 s₀:=s
 H₀:=H
 env:=envX qual scope s.heap.objs.size f (.ref c') cl
 outer:=X.stack
 stack:=envX qual scope s.heap.objs.size f (.ref c') cl::X.stack
 ex:=[]
 calm:=true
 fn:=fun _=>false
 pn:=[]
 xe:=fun _ _=>False
structure CL (scope:Scope)(x y:Str):Prop where
 kind:scope.kind=.function
 co:scope.isCoroutine=false
 gen:scope.isGenerator=false
 hx:scope.names.lookup x=some .local
 hy:scope.names.lookup y=some .free
 fr:∀z,scope.names.lookup z=some .free->z=y
 nc:∀z∈scope.names,z.2≠.cell
 ne:(y == x)=false
section
variable {X:Cx}{pins:List (Addr×Obj)}{σ:St}{H:Hp}{s:Shared}
theorem Pc {scope:Scope}{x y qual:Str}{f c' c:Addr}{vx vy:V}{ux uy:Value}{h1:Heap}{tk k:Nat}(I:Inv X pins σ H s)(hr:Room k X.A)(S:CL scope x y)(hc:s.heap.IsCell c (some uy))(hH:H c=none)(ry:RelV vy uy)(rx:RelV vx ux)
   (hns:h1.Ns s.heap.objs.size (fun z=>[(x,ux)].reverse.lookup z)) (hsb:U5 s.heap.objs.size (s.heap.push { cls:=.type "frame",data:=.dict #[] }) h1) :
   Inv (BA X scope [x,y] qual f c' [(y,c)] s H) [] [some vx,some vy] H { s with heap:=h1,toks:=tk }:=by
 have hk:∀b o,s.heap.get? b=some o->h1.get? b=some o:=fun b o e=>hsb.extBut b o (C9 (B4 e)) (C0 _ e);have noA:∀b:Addr,b∉(BA X scope [x,y] qual f c' [(y,c)] s H).ex:=fun b z=>absurd (show b∈([]:List Addr) from z) (by simp);have e0:=I.env0
 have cl1:∀z d,([(y,c)]:List (Str×Addr)).lookup z=some d->z=y/\d=c:=fun z d e=>by
   rw [List.lookup_cons] at e;cases q:z == y with
   | true=>rw [q] at e;cases e;exact⟨eq_of_beq q,rfl⟩
   | false=>rw [q] at e;cases e
 have cy:([(y,c)]:List (Str×Addr)).lookup y=some c:=by rw [List.lookup_cons,beq_self_eq_true]
 refine⟨⟨e0.mod,S.kind,rfl,rfl,B3 _,fun a b d h1 h2=>?_,fun z hz=>?_,fun z d h _=>absurd (show false=true from h) T3,fun _=>hr.hd,Around.frames_deeper (show X.A.in1.in1.frames=_ from e0.frames),.inr ⟨rfl,rfl⟩,fun b z=>absurd z (noA b),e0.bs,e0.bsz,fun b _ _=>noA b,fun b z=>absurd z (noA b),e0.funs,e0.frf,e0.nos⟩,
   rfl,e0.bare,Un.kept hk,⟨_,hns,fun i z v h1 h2 h3=>?_⟩,fun z d h=>?_,e0.hok.fresh (B3 _),fun z d h=>?_,fun p hp=>absurd (show p∈([]:List (Addr×Obj)) from hp) (by simp),e0.hok.kept hk,rfl⟩
 · exact((cl1 _ _ h1).1).trans (cl1 _ _ h2).1.symm
 · have hz:scope.names.lookup z=some .cell\/scope.names.lookup z=some .free:=hz;rcases hz with hz | hz
   · exact absurd rfl (S.nc _ (c8 hz))
   · exact⟨c,by rw [S.fr z hz];exact cy⟩
 · match i,h1,h2 with
   | 0, h1, h2 =>
     cases h1;cases h2;refine⟨ux,rx,.inl ⟨S.hx,?_⟩⟩;show([(x,ux)]:List (Str×Value)).reverse.lookup x=some ux;rw [List.reverse_singleton,List.lookup_cons,beq_self_eq_true]
   | 1, h1, h2 =>
     cases h1;cases h2;obtain⟨o,ho,hd⟩:=hc;exact⟨uy,ry,.inr ⟨.inr S.hy,c,cy,o,hk _ _ ho,hd⟩⟩
   | i + 2,h1,h2=>cases h2
 · obtain⟨rfl,rfl⟩:=cl1 z d h;obtain⟨o,ho,hd⟩:=hc;exact⟨_,o,hk _ _ ho,hd⟩
 · obtain⟨rfl,rfl⟩:=cl1 z d h;exact hH
theorem Pd {scope:Scope}{x y qual:Str}{params:Arguments}{body:Expr}{f c' c:Addr}{pm ctv:Value}{vx vy:V}{ux uy:Value}{k:Nat}{tb:TE}{Q:VK}{E:Value->Shared->Prop}(I:Inv X pins σ H s)(hr:Room k X.A)(S:CL scope x y)
   (hc:s.heap.IsCell c (some uy)) (hH:H c=none) (ry:RelV vy uy) (rx:RelV vx ux) (fo:s.heap.get? f=some (kla_obj "<lambda>" qual params body scope [(y,c)] pm c' ctv)) (hcd:s.heap.CodeRec (.ref c') qual)
   (bd:∀u,W3 (kla_fn "<lambda>" qual params body scope [(y,c)] pm (.ref c') ctv) ⟨[u],[]⟩=pure [(x,u)])
   (hb:PE (BA X scope [x,y] qual f c' [(y,c)] s H) body tb) (ht:tb [some vx,some vy] H Q) :
   wpAny (model X.prog X.w) X.A.in1.in1 (call (.ref f) [ux]) (EP X pins σ Q) E s:=by
 refine wpAny_call ?_;refine kla_callFunE (fd:=kla_fn "<lambda>" qual params body scope [(y,c)] pm (.ref c') ctv) (show X.A.depth < recursionLimit from hr.depth) fo rfl S.co S.gen rfl hcd ?_;rw [bd];refine A5 (Dk S.nc (fun z hz=>?_) (fun h1 hns hsb=>⟨?_,?_⟩) S.kind)
 · rw [D5.mp hz];exact S.hx
 · refine I.nolimit.keeps fun b o e=>?_;exact hsb.extBut b o (C9 (B4 e)) (C0 _ e)
 · refine kla_codeExpr (G7 (hb [] _ [some vx,some vy] H Q (Pc (tk:=s.toks + 1) I hr S hc hH ry rx hns hsb) ht) (fun v s' h=>?_) fun _ _ z=>z.elim);obtain⟨v',H',J,r,q⟩:=h;exact I.after ⟨v',H',J.os,J.bare,J.base,J.hok,r,q⟩
end
end L2
end
section
namespace L2
open PySem PySem.W PySem.Spec PyProof.Rows
def V4 (c':Addr)(qual:Str):HO:=.ext fun h=>h.CodeRec (.ref c') qual
def BB (tb:TE)(vy:V)(kS c':Addr)(qual:Str):List V->List Int->Hp->(List Int->Hp->Prop)->Prop
 | [],ks,H,R=>R ks H
 | x::xs,ks,H,R=>H c'=some (V4 c' qual)/\tb [some x,some vy] H fun y H1=>∃k,y=.int k/\H1 kS=some (.lst (ks.map V.int))/\BB tb vy kS c' qual xs (ks++[k]) (upd H1 kS (.lst ((ks++[k]).map V.int))) R
def KOut (ks:List Int)(xs ys:List V):Prop:=∃ps:List (Int×V),ps.Perm (ks.zip xs)/\ys=ps.map Prod.snd/\ps.Pairwise fun p q=>p.1<=q.1
section
variable {prog:C6}{w:World}{A:Around}{E:Value->Shared->Prop}{s:Shared}{a kS:Addr}{vs:List Value}{kz:List Int}{keys:Array Value}{e e1:Nat}{P:PySem.Fin->Shared->Prop}
theorem kTail {st:SortSt}(nk:s.heap.get? kS=some (seqObj "list" keys e))(na:s.heap.get? a=some (seqObj "list" #[] e1))(hka:kS≠a)
   (hk:IntsAre keys.toList kz) (hlen:kz.length=vs.length) (h64:vs.length < 64) (hp:(arrOf st).Perm (keys.zip vs.toArray)) (hs:SortedTo (arrOf st) (arrOf st).size) (hfl:failedOf st=none)
   (h:∀h' out c c2,(∀b o,b≠a->b≠kS->s.heap.get? b=some o->h'.get? b=some o)->h'.get? a=some (seqObj "list" out c)->h'.get? kS=some (seqObj "list" #[] c2)->KskOut false kz vs out.toList->P (.done (.ret .none)) { s with heap:=h' }) :
   wpAny (model prog w) A (ksk_tail a false e1 (.ref kS) st) P E s:=by
 have hsz:keys.size=vs.length:=by
   have h1:=hk.length;rw [J9] at h1;omega
 have hsz2:(arrOf st).size=vs.length:=by rw [hp.size_eq,Array.size_zip,hsz,D8,Ce]
 have s1:=P3 s.heap kS (E7 fun _=>(#[]:Array Value));have na1:(s.heap.update kS (E7 fun _=>(#[]:Array Value))).get? a=some (seqObj "list" #[] e1):=(s1.2 a hka.symm).trans na;obtain⟨ck,hck⟩:∃c,(s.heap.update kS (E7 fun _=>(#[]:Array Value))).get? kS=some (seqObj "list" #[] c):=⟨_,AZ nk fun _=>#[]⟩;have s2:=P3 (s.heap.update kS (E7 fun _=>(#[]:Array Value))) a (E7 fun _=>(arrOf st).map (·.2))
 obtain⟨c2,hc2⟩:∃c2,((s.heap.update kS (E7 fun _=>(#[]:Array Value))).update a (E7 fun _=>(arrOf st).map (·.2))).get? a=some (seqObj "list" ((arrOf st).map (·.2)) c2):=
   ⟨_,AZ na1 fun _=>(arrOf st).map (·.2)⟩
 unfold ksk_tail
 try dsimp only
 refine A1 (y8 nk rfl ?_ (by rw [hsz,J1];omega) (G0 _));refine A1 (wpAny_letGo ?_);refine A1 (seqEpoch_at na1 rfl ?_);simp only [F7,if_false];refine A1 (y8 na1 rfl ?_ (G0 _) (L7 (Cf ((Array.size_map ..).trans hsz2)) (by rw [J1];omega)));rw [hfl];simp only [bne_self_eq_false,F7,if_false];exact A5 (h _ _ c2 ck (fun b o h1 h2 e=>(s2.2 b h1).trans ((s1.2 b h2).trans e)) hc2 ((s2.2 kS hka).trans hck) (ksk_out (b:=false) hk hp hs))
theorem kEnd (nk:s.heap.get? kS=some (seqObj "list" keys e))(na:s.heap.get? a=some (seqObj "list" #[] e1))(hka:kS≠a)
   (hk:IntsAre keys.toList kz) (hlen:kz.length=vs.length) (h64:vs.length < 64)
   (h:∀h' out c c2,(∀b o,b≠a->b≠kS->s.heap.get? b=some o->h'.get? b=some o)->h'.get? a=some (seqObj "list" out c)->h'.get? kS=some (seqObj "list" #[] c2)->KskOut false kz vs out.toList->P (.done (.ret .none)) { s with heap:=h' }) :
   wpAny (model prog w) A (ksk_end a false vs.toArray e1 (.ref kS) keys) P E s:=by
 have hsz:keys.size=vs.length:=by
   have h1:=hk.length;rw [J9] at h1;omega
 have hzs:(keys.zip vs.toArray).size=vs.length:=by rw [Array.size_zip,hsz,D8,Ce]
 unfold ksk_end;simp only [F7,if_false]
 by_cases h2:vs.toArray.size < 2
 · rw [if_pos h2,if_pos h2];refine A1 (A5 ?_);rw [StateT.run_pure];refine A1 (A5 ?_)
   try dsimp only
   refine kTail (st:=SortSt.mk' general' (keys.zip vs.toArray) #[] 7 none) nk na hka hk hlen h64 (Ab _) ?_ rfl h;intro i j hij hj;have hj2:j < (keys.zip vs.toArray).size:=hj;rw [hzs] at hj2;rw [D8] at h2;have:i=j:=by omega
   subst this;exact Int.le_refl _
 · rw [if_neg h2,if_neg h2];rw [D8] at h2;rw [ksk_kind hk (by rw [hsz];omega)];refine A1 (A5 ?_)
   refine A1 (G7 (wpS_sortRuns (a₀:=keys.zip vs.toArray) (st:=SortSt.mk' oneType' (keys.zip vs.toArray) #[] 7 none)
     (Q:=fun _ st'=>(arrOf st').Perm (keys.zip vs.toArray)/\failedOf st'=none/\SortedTo (arrOf st') (keys.zip vs.toArray).size)
     (ksk_intKeys hk) ⟨Ab _,rfl,rfl,rfl⟩ (by rw [hzs];omega) (by rw [hzs];exact h64) fun st' a1 a2 a3=>⟨a1,a2,a3⟩) ?_ fun _ _ e=>e)
   rintro⟨⟨⟩,st'⟩ s' ⟨rfl,hp,hf,hs⟩
   try dsimp only
   exact kTail nk na hka hk hlen h64 hp (by rw [hp.size_eq];exact hs) hf h
end
theorem JF:∀{ks:List Int} {us:List Value},Vals (ks.map V.int) us->IntsAre us ks
 | [],_,h=>by cases h;exact .nil
 | k :: ks, _, h => by
   cases h with
   | cons h1 h2 =>
     obtain⟨t,rfl⟩:=h1;exact .cons k t (JF h2)
theorem Pe {ks:List Int}{xs:List V}{vs:List Value}{out:List Value}(r:Vals xs vs)(h:KskOut false ks vs out):∃ys,KOut ks xs ys/\Vals ys out:=by
 obtain⟨ps,hp,rfl,ho⟩:=h
 replace ho:ps.Pairwise fun p q=>p.1<=q.1:=by simpa using ho
 have ab:∀(ks:List Int) {xs:List V} {vs:List Value},Vals xs vs->(ks.zip vs).map (fun p=>(p.1,(absV p.2).getD .non))=ks.zip xs:=by
   intro ks
   induction ks with
   | nil=>intro xs vs _;rfl
   | cons k ks ih =>
     intro xs vs r;cases r with
     | nil=>rfl
     | cons h1 h2 =>
       rw [k4,k4,E9,ih h2];show(k,(absV _).getD _)::_=_;rw [h1.abs];rfl
 have rl:∀(ks:List Int) {xs:List V} {vs:List Value},Vals xs vs->∀p∈ks.zip vs,RelV ((absV p.2).getD .non) p.2:=by
   intro ks
   induction ks with
   | nil=>intro xs vs _ p hp;cases hp
   | cons k ks ih =>
     intro xs vs r p hp;cases r with
     | nil=>cases hp
     | cons h1 h2 =>
       rcases C5.mp hp with rfl | hp
       · show RelV ((absV _).getD _) _;rw [h1.abs];exact h1
       · exact ih h2 p hp
 refine⟨ps.map fun p=>(absV p.2).getD .non,⟨ps.map fun p=>(p.1,(absV p.2).getD .non),?_,by rw [U7];rfl,?_⟩,?_⟩
 · rw [<- ab ks r];exact hp.map _
 · rw [d3];exact ho
 · have rl2:∀p∈ps,RelV ((absV p.2).getD .non) p.2:=fun p h=>rl ks r p (hp.mem_iff.mp h);clear hp ho
   induction ps with
   | nil=>exact .nil
   | cons p ps ih=>exact .cons (rl2 p B8) (ih fun q hq=>rl2 q (C3 _ hq))
section
variable {X:Cx}{pins:List (Addr×Obj)}{σ:St}{H:Hp}{s:Shared}
theorem Inv.retrack {a kS:Addr}{ob:Obj}{ks ys:List V}{out:List Value}{c c2:Nat}{h':Heap}(I:Inv X ((a,ob)::pins) σ H s)(hk:H kS=some (.lst ks))(ha0:X.s₀.heap.objs.size<=a)(hp0:∀p∈X.pn++pins,p.1≠a)(hsa:P8 < a)(hsk:P8 < kS)
   (keep:∀b o,b≠a->b≠kS->s.heap.get? b=some o->h'.get? b=some o) (ea:h'.get? a=some (seqObj "list" out.toArray c)) (ek:h'.get? kS=some (seqObj "list" #[] c2)) (r:Vals ys out) (hl:ys.length<=B9) :
   Inv X pins σ (upd (upd H kS (.lst [])) a (.lst ys)) { s with heap:=h' }:=by
 obtain⟨ea0,na,neL,nf,nc⟩:=I.pin (a,ob) (K4 _ B8);have nka:kS≠a:=fun z=>by rw [z,na] at hk;cases hk
 have I0:Inv X pins σ H s:=I.pins_of fun p hp=>by
   obtain⟨z1,z2,z3,z4,z5⟩:=I.pin p (K4 _ (C3 _ hp));exact⟨z1,z2,z3,z4,z5⟩
 have oth:∀b,b≠a->b≠kS->upd (upd H kS (.lst [])) a (.lst ys) b=H b:=fun b h1 h2=>by rw [B6 h1,B6 h2]
 have ne1:∀b u,H b=some u->(∀z,u≠.lst z)->b≠a/\b≠kS:=fun b u e hu=>⟨(fun z=>by rw [z,na] at e;cases e),(fun z=>by rw [z,hk] at e;cases e;exact hu _ rfl)⟩;refine I0.step (g':=s.gens) (d':=s.drawn) (t':=s.toks) (ch:=[a]) (fun b hb=>?_) (fun b o _ _ hc e n=>?_) (fun b o _ _ hc e n=>⟨o.slots,?_⟩) (fun b o hc e n=>?_) (fun b o hc e=>?_) (fun b xs e=>?_) (fun b o u e=>?_) (fun b ps e=>⟨#[],?_⟩) (fun z=>?_) (fun m hm=>?_) (fun b u e=>?_) I.bare
 · have e:b=a:=by simpa using hb
   subst e;refine⟨.inr ha0,neL,fun x d e z=>?_,hp0⟩;subst z;obtain⟨v,o,ho,hd⟩:=I.cell x _ e;rw [ea0] at ho;cases ho;exact nc _ hd
 · exact keep b o (fun z=>hc (by simp [z])) (fun z=>by rw [z,hk] at n;cases n) e
 · exact keep b o (fun z=>hc (by simp [z])) (fun z=>by rw [z,hk] at n;cases n) e
 · rw [oth b (fun z=>hc (by simp [z])) (fun z=>by rw [z,hk] at n;cases n)];exact n
 · by_cases h2:b=kS
   · exact⟨_,h2▸ek⟩
   · exact⟨o,keep b o (fun z=>hc (by simp [z])) h2 e⟩
 · obtain⟨h1,h2⟩:=ne1 b _ e (fun z q=>by cases q);rw [oth b h1 h2];exact e
 · obtain⟨h1,h2⟩:=ne1 b _ e (fun z q=>by cases q);rw [oth b h1 h2];exact e
 · obtain⟨h1,h2⟩:=ne1 b _ e (fun z q=>by cases q);rw [oth b h1 h2,e];simp
 · unfold NS at z ⊢;rw [oth P8 (C9 hsa) (C9 hsk)];exact z
 · obtain⟨o,es,ep,ho,r'⟩:=hm;exact⟨o,es,ep,keep _ o (Ne.symm neL) (fun z=>by have:=I.free;rw [z,hk] at this;cases this) ho,r'⟩
 · by_cases h1:b=a
   · subst h1;rw [E8] at e;cases e;exact⟨hl,out,c,r,ea⟩
   · rw [B6 h1] at e
     by_cases h2:b=kS
     · subst h2;rw [E8] at e;cases e;exact⟨G0 _,[],c2,.nil,ek⟩
     · rw [B6 h2] at e;refine(I0.hok b u e).stay (fun d v hc q=>keep d v ?_ ?_ q) (fun d q=>?_) fun d xs q=>?_
       · rcases hc with z | z
         · rw [z];exact h1
         · exact(ne1 d _ z (fun z q=>by cases q)).1
       · rcases hc with z | z
         · rw [z];exact h2
         · exact(ne1 d _ z (fun z q=>by cases q)).2
       · obtain⟨z1,z2⟩:=ne1 d _ q (fun z q=>by cases q);rw [oth d z1 z2];exact q
       · obtain⟨z1,z2⟩:=ne1 d _ q (fun z q=>by cases q);rw [oth d z1 z2];exact q
end
end L2
end
section
namespace L2
open PySem PySem.W PySem.Spec PyProof.Rows
structure Au (X:Cx)(scope:Scope)(params:Arguments)(body:Expr)(qual x y:Str)(c:Addr)(iy:Nat)(k:Nat)(tb:TE):Prop where
 sc:CL scope x y
 room:Room k X.A
 cell:X.env.cells.lookup y=some c
 isc:X.env.scope.names.lookup y=some .cell
 nm:X.N[iy]?=some y
 bd:∀(pm ct cd u:Value),W3 (kla_fn "<lambda>" qual params body scope [(y,c)] pm cd ct) ⟨[u],[]⟩=pure [(x,u)]
 pe:∀(f c':Addr) (s:Shared) (H:Hp),PE (BA X scope [x,y] qual f c' [(y,c)] s H) body tb
section
variable {X:Cx}{pins:List (Addr×Obj)}{σ:St}{H:Hp}{s:Shared}{scope:Scope}{params:Arguments}{body:Expr}{qual x y:Str}{c:Addr}{iy k:Nat}{tb:TE}
theorem Au.val (L:Au X scope params body qual x y c iy k tb)(I:Inv X pins σ H s){vy:V}(hv:σ[iy]?=some (some vy)):∃uy,RelV vy uy/\s.heap.IsCell c (some uy):=by
 obtain⟨m,hn,hl⟩:=I.loc;obtain⟨u,r,l⟩:=hl iy y vy L.nm hv (.inr (.inl L.isc));refine⟨u,r,?_⟩;rcases l with⟨z,_⟩ | ⟨_,d,e,q⟩
 · have z':X.env.scope.names.lookup y=some .local:=z;rw [L.isc] at z';cases z'
 · rw [L.cell] at e;cases e;exact q
theorem Au.run (L:Au X scope params body qual x y c iy k tb)(I:Inv X pins σ H s){vy vx:V}{ux:Value}{f c':Addr}{pm ctv:Value}{Q:VK}{E:Value->Shared->Prop}(hv:σ[iy]?=some (some vy))(rx:RelV vx ux)
   (fo:(f,kla_obj "<lambda>" qual params body scope [(y,c)] pm c' ctv)∈pins) (hcd:H c'=some (V4 c' qual)) (ht:tb [some vx,some vy] H Q) :
   wpAny (model X.prog X.w) X.A.in1.in1 (call (.ref f) [ux]) (EP X pins σ Q) E s:=by
 obtain⟨uy,ry,hc⟩:=L.val I hv;obtain⟨e1,_⟩:=I.pin _ (K4 _ fo);obtain⟨e2,_⟩:=(show G8 X.prog X.w H s.heap c' (V4 c' qual) from I.hok c' _ hcd);exact Pd I L.room L.sc hc (I.freeC _ _ L.cell) ry rx e1 e2 (fun u=>L.bd pm ctv (.ref c') u) (L.pe f c' s H) ht
theorem kRest (L:Au X scope params body qual x y c iy k tb){f c' a kS:Addr}{pm ctv:Value}{vy:V}{xs:List V}{vs:List Value}{e1:Nat}{R:List Int->Hp->Prop}{P:PySem.Fin->Shared->Prop}{E:Value->Shared->Prop}(I:Inv X ((a,seqObj "list" #[] e1)::pins) σ H s)(hv:σ[iy]?=some (some vy))
   (fo:(f,kla_obj "<lambda>" qual params body scope [(y,c)] pm c' ctv)∈pins) (hk:H kS=some (.lst [])) (rv:Vals xs vs) (h64:xs.length < 64) (hka:kS≠a) (ht:BB tb vy kS c' qual xs [] H R)
   (h:∀s' H3 ks h' out c1 c2,Inv X ((a,seqObj "list" #[] e1)::pins) σ H3 s'->H3 kS=some (.lst (ks.map V.int))->R ks H3->(∀b o,b≠a->b≠kS->s'.heap.get? b=some o->h'.get? b=some o)->h'.get? a=some (seqObj "list" out c1)->
     h'.get? kS=some (seqObj "list" #[] c2)->KskOut false ks vs out.toList->P (.done (.ret .none)) { s' with heap:=h' }) :
   wpAny (model X.prog X.w) X.A.in1.in1 (ksk_rest a (.ref f) false vs.toArray e1 (.ref kS)) P E s:=by
 have lv:xs.length=vs.length:=rv.length;unfold ksk_rest;refine A1 (j7 ?_)
 first
   | rw [List.forIn_toArray]
   | (rw [<- DG];simp only [Dy])
   | rw [<- DG]
 refine A1 (ksk_fold (fun i s'=>∃H' ks,Inv X ((a,seqObj "list" #[] e1)::pins) σ H' s'/\H' kS=some (.lst (ks.map V.int))/\ks.length=i/\BB tb vy kS c' qual (xs.drop i) ks H' R) vs 0 s
   ⟨H,[],I,hk,rfl,by simpa using ht⟩ ?step ?done)
 case step=>
   rintro j u s' hx ⟨H',ks,I',hk',hl,hc⟩;simp only [Q1] at hl hc ⊢;have hj:j < vs.length:=(D7.mp hx).1;have hjx:j < xs.length:=by omega
   obtain⟨u2,hu2,ru⟩:=rv.get (C4 hjx);rw [hx] at hu2;cases hu2;rw [AL hjx] at hc;obtain⟨hcd,hc⟩:=hc;refine A1 (AI (G7 (L.run I' hv ru (C3 _ fo) hcd hc (E:=fun _ _=>False)) (fun v s'' he=>?_) fun _ _ hF=>hF.elim));obtain⟨w,H1,I1,rw1,kk,rfl,hk1,hc1⟩:=he;obtain⟨t2,rfl⟩:=rw1
   try dsimp only
   obtain⟨zl,its,n,ri,oi⟩:=(show G8 X.prog X.w H1 s''.heap kS (.lst (ks.map V.int)) from I1.hok kS _ hk1);have li:its.length=ks.length:=by rw [<- ri.length,A9]
   have s1:=P3 s''.heap kS (E7 (·.push (.int kk t2)));obtain⟨c2,hc2⟩:∃c2,(s''.heap.update kS (E7 (·.push (.int kk t2)))).get? kS=some (seqObj "list" (its.toArray.push (.int kk t2)) c2):=⟨_,AZ oi (·.push (.int kk t2))⟩;refine A1 (y8 oi rfl ?_ (by rw [D8,li,J1];omega) (L7 (Cf (Array.size_push ..)) (by rw [D8,li,J1];omega)));refine A5 ⟨rfl,upd H1 kS (.lst ((ks++[kk]).map V.int)),ks++[kk],?_,E8,by rw [D4,hl];rfl,hc1⟩;refine I1.write (t':=s''.toks) (by rw [hk1];trivial) (.inl rfl) (fun b o hb e=>(s1.2 b hb).trans e) ⟨_,hc2⟩ ⟨?_,its++[.int kk t2],c2,?_,?_⟩
   · rw [A9,D4,J1];simp;omega
   · rw [N6];exact ri.append (.cons ⟨t2,rfl⟩ .nil)
   · rw [hc2];simp
 case done=>
   rintro s' ⟨H3,ks,I3,hk3,hl,hc⟩;simp only [Q1] at hl hc;rw [BS (by omega)] at hc;obtain⟨zl,its,n,ri,oi⟩:=(show G8 X.prog X.w H3 s'.heap kS (.lst (ks.map V.int)) from I3.hok kS _ hk3);obtain⟨ea,_⟩:=I3.pin (a,seqObj "list" #[] e1) (K4 _ B8)
   try dsimp only
   refine A1 (listItems_at oi rfl ?_);exact kEnd oi ea hka (by simpa using JF ri) (by omega) (by omega) fun h' out c1 c2 z1 z2 z3 z4=>h s' H3 ks h' out c1 c2 I3 hk3 hc z1 z2 z3 z4
theorem Pf (L:Au X scope params body qual x y c iy k tb){f c' l:Addr}{pm ctv:Value}{vy:V}{xs:List V}{vs:List Value}{Q:VK}{E:Value->Shared->Prop}(I:Inv X pins σ H s)(hv:σ[iy]?=some (some vy))
   (fo:(f,kla_obj "<lambda>" qual params body scope [(y,c)] pm c' ctv)∈pins) (hl:s.heap.IsList l vs.toArray) (rv:Vals xs vs) (h64:xs.length < 64)
   (h:∀kS a,H kS=none->H a=none->kS≠a->BB tb vy kS c' qual xs [] (upd H kS (.lst [])) fun ks H3=>H3 a=none->∀ys,KOut ks xs ys->Q (.ref a) (upd (upd H3 kS (.lst [])) a (.lst ys))) :
   wpAny (model X.prog X.w) X.A (call (.builtin "sorted") [.ref l] [(A4 "key",.ref f)]) (EP X pins σ Q) E s:=by
 have lv:xs.length=vs.length:=rv.length;refine call_function_entry_kw kind_sorted plain_sorted entry_sorted (ksk_s1 _ _) ?_;unfold N3.«sorted»;refine A1 (m:=checkCount "sorted" 1 1 _) (A5 ?_);refine A1 (collect_list hl ?_ (by rw [J1];omega));refine A1 (BO ?_ (by rw [J1];omega))
 have hsz:((s.heap.push (seqObj "list" #[] 0)).update s.heap.objs.size (E7 (·++vs.toArray))).objs.size=s.heap.objs.size + 1:=by
   rw [Heap.size_update,size_push']
 have hoL:(((s.heap.push (seqObj "list" #[] 0)).update s.heap.objs.size (E7 (·++vs.toArray))).push (seqObj "list" vs.toArray 0)).get? (s.heap.objs.size + 1)=some (seqObj "list" vs.toArray 0):=by
   rw [<- hsz];exact F2 _ rfl
 have keep:∀b o,s.heap.get? b=some o->(((s.heap.push (seqObj "list" #[] 0)).update s.heap.objs.size (E7 (·++vs.toArray))).push (seqObj "list" vs.toArray 0)).get? b=some o:=fun b o q=>by
   have hlt:b < s.heap.objs.size:=B4 q;rw [Heap.get?_push_ne _ _ _ (by rw [hsz];exact C9 (Q9 hlt)),Heap.get?_update_ne _ _ _ _ (C9 hlt),Heap.get?_push_ne _ _ _ (C9 hlt)];exact q
 show wpAny _ _ _ _ _ { s with heap:=((s.heap.push (seqObj "list" #[] 0)).update s.heap.objs.size (E7 (·++vs.toArray))).push (seqObj "list" vs.toArray 0) };rw [hsz];generalize ((s.heap.push (seqObj "list" #[] 0)).update s.heap.objs.size (E7 (·++vs.toArray))).push (seqObj "list" vs.toArray 0)=g1 at hoL keep ⊢;have haS:s.heap.objs.size<=s.heap.objs.size + 1:=k7 _;generalize s.heap.objs.size + 1=a at hoL haS ⊢;refine A1 (G6 (wpAny_call_entry_kw slot_list_sort ⟨_,hoL,rfl⟩ entry_list_sort ?body (ksk_l1 _ _)))
 case body=>
   show wpAny (model X.prog X.w) X.A.in1.in1 (N3.«list.sort» ⟨[.ref a],[(A4 "key",.ref f)]⟩) _ _ _;rw [ksk_t1 f a];have ha:a < g1.objs.size:=B4 hoL;have s1:=P3 g1 a (E7 fun _=>(#[]:Array Value));obtain⟨e1,ho1⟩:∃e1,(g1.update a (E7 fun _=>(#[]:Array Value))).get? a=some (seqObj "list" #[] e1):=⟨_,AZ hoL fun _=>#[]⟩;have hkS:((g1.update a (E7 fun _=>(#[]:Array Value))).push (seqObj "tuple" vs.toArray 0)).objs.size=g1.objs.size + 1:=by rw [size_push',Heap.size_update]
   unfold ksk_tree;refine A1 (listItems_at hoL rfl ?_);refine A1 (y8 hoL rfl ?_ (by rw [D8,J1];omega) (G0 _));refine A1 (seqEpoch_at ho1 rfl ?_);refine A1 (wpAny_newTuple ?_ (by show vs.length<=_;rw [J1];omega));refine A1 (BO ?_ (G0 _));refine G6 ?_;show wpAny (model X.prog X.w) X.A.in1.in1 _ _ _ { s with heap:=((g1.update a (E7 fun _=>(#[]:Array Value))).push (seqObj "tuple" vs.toArray 0)).push (seqObj "list" #[] 0) };rw [hkS];have oK:(((g1.update a (E7 fun _=>(#[]:Array Value))).push (seqObj "tuple" vs.toArray 0)).push (seqObj "list" #[] 0)).get? (g1.objs.size + 1)=some (seqObj "list" #[] 0):=by rw [<- hkS];exact F2 _ rfl
   have oA:(((g1.update a (E7 fun _=>(#[]:Array Value))).push (seqObj "tuple" vs.toArray 0)).push (seqObj "list" #[] 0)).get? a=some (seqObj "list" #[] e1):=C0 _ (C0 _ ho1)
   have kp:∀b o,s.heap.get? b=some o->(((g1.update a (E7 fun _=>(#[]:Array Value))).push (seqObj "tuple" vs.toArray 0)).push (seqObj "list" #[] 0)).get? b=some o:=fun b o q=>
     C0 _ (C0 _ ((s1.2 b (C9 (J4 (B4 q) haS))).trans (keep b o q)))
   generalize ((g1.update a (E7 fun _=>(#[]:Array Value))).push (seqObj "tuple" vs.toArray 0)).push (seqObj "list" #[] 0)=g3 at oK oA kp ⊢;have hkS2:s.heap.objs.size<=g1.objs.size + 1:=L7 haS (W9 (Q9 ha));have hka:g1.objs.size + 1≠a:=x9 (Q9 ha);generalize g1.objs.size + 1=kS at oK hkS2 hka ⊢;have nk:H kS=none:=I.hok.fresh hkS2;have na:H a=none:=I.hok.fresh haS;have I5:Inv X pins σ (upd H kS (.lst [])) { s with heap:=g3 }:=I.laid (t':=s.toks) kp hkS2 ⟨G0 _,[],0,.nil,oK⟩;have aL:a≠X.env.locals:=x9 (J4 I.lt haS);have aF:a∉X.fs:=I.nofs haS
   have I6:Inv X ((a,seqObj "list" #[] e1)::pins) σ (upd H kS (.lst [])) { s with heap:=g3 }:=I5.pins_of fun p hp=>by
     rcases C5.mp hp with rfl | hp
     · exact⟨oA,by rw [B6 hka.symm];exact na,aL,aF,fun v z=>by cases z⟩
     · exact I5.pin p (K4 _ hp)
   refine kRest L I6 hv fo E8 rv h64 hka (h kS a nk na hka) fun s' H3 ks h' out c1 c2 I3 hk3 hR z1 z2 z3 z4=>⟨_,rfl,?_⟩;obtain⟨ys,ko,ry⟩:=Pe rv z4;have hn3:H3 a=none:=(I3.pin (a,seqObj "list" #[] e1) (K4 _ B8)).2.1
   have ly:ys.length<=B9:=by
     obtain⟨ps,hp,rfl,_⟩:=ko;rw [A9,hp.length_eq,List.length_zip,J1];omega
   refine A5 ⟨_,rfl,.ref a,_,I3.retrack hk3 (L7 I.sz haS) (fun p hp=>?_) (J4 I.bigS haS) (J4 I.bigS hkS2) z1 (out:=out.toList) (by simpa using z2) z3 ry ly,rfl,hR hn3 ys ko⟩;exact C9 (J4 (B4 (I.pin p hp).1) haS)
end
end L2
end
section
namespace L2
open PySem PySem.W PySem.Spec PyProof.Rows
theorem Pg {h h':Heap}{c':Addr}{q:Str}(x:h.CodeRec (.ref c') q)(k:∀o,h.get? c'=some o->h'.get? c'=some o):h'.CodeRec (.ref c') q:=by
 obtain⟨c,oc,vs,t,e,h1,h2,h3⟩:=x;cases e;exact⟨_,oc,vs,t,rfl,k _ h1,h2,h3⟩
theorem Ph {P:C6}{w:World}{H:Hp}{h:Heap}{c':Addr}{q:Str}(x:h.CodeRec (.ref c') q):G8 P w H h c' (V4 c' q):=by
 refine⟨x,?_,fun h1 h2 y k=>Pg y k⟩;obtain⟨c,oc,vs,t,e,h1,_⟩:=x;cases e;exact⟨oc,h1⟩
section
variable {X:Cx}{pins:List (Addr×Obj)}{σ:St}{H:Hp}{s:Shared}
theorem Inv.grow {Pt c':Addr}{ps more:Array Value}{qual:Str}{h':Heap}{t':Nat}(I:Inv X pins σ H s)(hP:H Pt=some (.tbl ps))(hx:BR Pt s.heap h')(hge:s.heap.objs.size<=c')(hrec:h'.CodeRec (.ref c') qual)(htb:h'.get? Pt=some (tabObj (ps++more))) :
   Inv X pins σ (upd (upd H c' (V4 c' qual)) Pt (.tbl (ps++more))) { s with heap:=h',toks:=t' }:=by
 have nc:H c'=none:=I.hok.fresh hge;have oth:∀b,b≠Pt->b≠c'->upd (upd H c' (V4 c' qual)) Pt (.tbl (ps++more)) b=H b:=fun b h1 h2=>by rw [B6 h1,B6 h2]
 have ne1:∀b u,H b=some u->(∀z,u≠.tbl z)->b≠Pt/\b≠c':=fun b u e hu=>⟨(fun z=>by rw [z,hP] at e;cases e;exact hu _ rfl),(fun z=>by rw [z,nc] at e;cases e)⟩;have ne2:∀b o,s.heap.get? b=some o->H b=none->b≠Pt/\b≠c':=fun b o e n=>⟨(fun z=>by rw [z,hP] at n;cases n),C9 (J4 (B4 e) hge)⟩;refine I.un ⟨fun b o e n _ _=>hx b o (ne2 b o e n).1 e,fun b o e n _ _=>⟨o.slots,hx b o (ne2 b o e n).1 e⟩,fun b o e n _=>?_,fun b o e _=>?_,fun b xs e=>?_,fun b o u e=>?_,fun b qs e=>?_,fun z=>?_⟩ (fun b u e=>?_)
 · obtain⟨h1,h2⟩:=ne2 b o e n;rw [oth b h1 h2];exact n
 · by_cases hb:b=Pt
   · exact⟨_,hb▸htb⟩
   · exact⟨o,hx b o hb e⟩
 · obtain⟨h1,h2⟩:=ne1 b _ e (fun z q=>by cases q);rw [oth b h1 h2];exact e
 · obtain⟨h1,h2⟩:=ne1 b _ e (fun z q=>by cases q);rw [oth b h1 h2];exact e
 · by_cases hb:b=Pt
   · subst hb;rw [hP] at e;cases e;exact⟨more,E8⟩
   · have h2:b≠c':=fun z=>by rw [z,nc] at e;cases e
     exact⟨#[],by rw [oth b hb h2,e];simp⟩
 · have h2:P8≠c':=C9 (J4 I.bigS hge)
   have h1:P8≠Pt:=fun q=>by
     unfold NS at z;rw [q,hP] at z;rcases z with z | ⟨_,_,z⟩ <;> cases z
   unfold NS at z ⊢;rw [oth _ h1 h2];exact z
 · by_cases h1:b=Pt
   · subst h1;rw [E8] at e;cases e;exact htb
   · rw [B6 h1] at e
     by_cases h2:b=c'
     · subst h2;rw [E8] at e;cases e;exact Ph hrec
     · rw [B6 h2] at e;refine(I.hok b u e).stay (fun d v hc q=>hx d v ?_ q) (fun d q=>?_) fun d xs q=>?_
       · rcases hc with z | z
         · rw [z];exact h1
         · exact(ne1 d _ z (fun z q=>by cases q)).1
       · obtain⟨z1,z2⟩:=ne1 d _ q (fun z q=>by cases q);rw [oth d z1 z2];exact q
       · obtain⟨z1,z2⟩:=ne1 d _ q (fun z q=>by cases q);rw [oth d z1 z2];exact q
end
def EJ (qual:Str)(tb:TE)(vy:V)(xs:List V)(Q:VK)(c':Addr)(H2:Hp):Prop:=∀kS a,H2 kS=none->H2 a=none->kS≠a->BB tb vy kS c' qual xs [] (upd H2 kS (.lst [])) fun ks H3=>H3 a=none->∀ys,KOut ks xs ys->Q (.ref a) (upd (upd H3 kS (.lst [])) a (.lst ys))
def JG (K:Frag)(Pt:Addr)(lpos:Pos)(qual:Str)(iy:Nat)(te tb:TE):TE:=fun σ H Q=>te σ H fun x H1=>∃a xs vy ps,x=.ref a/\SqL K H1 a xs/\xs.length < 64/\σ[iy]?=some (some vy)/\H1 Pt=some (.tbl ps)/\TriplesOk ps.toList/\
 ((codeAmong lpos ps.toList=none/\∀c',H1 c'=none->EJ qual tb vy xs Q c' (upd (upd H1 c' (V4 c' qual)) Pt (.tbl (ps++#[rawInt lpos.line,rawInt lpos.col,.ref c']))))\/∃c',codeAmong lpos ps.toList=some (.ref c')/\H1 c'=some (V4 c' qual)/\EJ qual tb vy xs Q c' H1)
section
variable {X:Cx}{scope:Scope}{params:Arguments}{body:Expr}{qual x y:Str}{c cd Pt:Addr}{iy k:Nat}{tb te:TE}{e:Expr}{p pos kpos lpos:Pos}
theorem Pi (L:Au X scope params body qual x y c iy k tb)(hq:X.env.qual++"<lambda>"=qual)(hcl:closureFor scope X.env=pure [(y,c)])(hcode:X.env.code=.ref cd)(C:CodeHd X.base cd Pt)(hB:X.base.BuiltinsAt X.mg Pt)(hg:Gl X "sorted")(hm:X.mg "sorted"=none)
   (he:PE X e te) (hs:E3 [e] X.env=[(false,eval e X.env)]) (hdef:defaultsOf params X.env=([],[])) :
   PE X (.Call (.Name "sorted" p) [e] [⟨some "key",.Lambda params body scope lpos,kpos⟩] pos) (JG X.K Pt lpos qual iy te tb):=by
 intro pins s σ H Q I h;refine Dl (Bg I hg hm Gg ?_);refine callWith_kw ?_ (by rw [hs];rfl) (by rw [hs];rfl);rw [hs];show wpAny _ _ (spliced ((false,eval e X.env)::[])) _ _ s;refine Calls.spliced_cons (thn (he pins s σ H _ I h) fun u s1 ⟨x',H1,I1,r1,q1⟩=>?_);refine Calls.spliced_nil ?_;obtain⟨a,xs,vy,ps,rfl,hS,h64,hv,hP,ht,hR⟩:=q1;obtain rfl:u=.ref a:=r1;obtain⟨its,rv,⟨ol,nl,ho,hcl',hdl,hsl⟩,_⟩:=I1.list hS;have eP:s1.heap.get? Pt=some (tabObj ps):=I1.hok Pt _ hP;have aP:a≠Pt:=fun z=>by rw [z,eP] at ho;cases ho;cases hcl'
 have C1:CodeHd s1.heap cd Pt:=C.keeps fun b o q=>I1.bk b o q
 have B1:s1.heap.BuiltinsAt X.mg Pt:=by
   obtain⟨bm,o,z1,z2,z3,z4,z5,z6⟩:=hB;exact⟨bm,o,z1,z2,z3,z4,I1.bk _ _ z5,z6⟩
 have gP:R7≠Pt:=fun q=>by
   obtain⟨o,es,ep,e,hd,_⟩:=I1.mod.glob.keeps I1.bk;rw [q,eP] at e;cases e;cases hd
 refine kws_cons (kla_eval hdef ?_);rw [hq]
 -- behind the making
 have fin:∀(c':Addr) (ctv:Value) (h':Heap) (tk:Nat) (H2:Hp),Inv X pins σ H2 { s1 with heap:=h',toks:=tk }->h'.IsList a its.toArray->EJ qual tb vy xs Q c' H2->
     wpAny (model X.prog X.w) X.A (evalAll ((W4 pos (W0 [] X.env)).map (·.2))) (fun vs s2=>wpAny (model X.prog X.w) X.A (call (.builtin "sorted") [.ref a] (((W4 pos (W0 [⟨some "key",.Lambda params body scope lpos,kpos⟩] X.env)).filterMap (·.1)).zip (.ref h'.objs.size::vs))) (EP X pins σ Q) X.xe s2) X.xe
       { s1 with heap:=h'.push (kla_obj "<lambda>" qual params body scope [(y,c)] ((X.mg "__name__").getD .none) c' ctv),toks:=tk }:=by
   intro c' ctv h' tk H2 I2 hl hR;refine kws_nil ?_;show wpAny (model X.prog X.w) X.A (call (.builtin "sorted") [.ref a] [(A4 "key",.ref h'.objs.size)]) (EP X pins σ Q) X.xe _;have I3:Inv X pins σ H2 { s1 with heap:=h'.push (kla_obj "<lambda>" qual params body scope [(y,c)] ((X.mg "__name__").getD .none) c' ctv),toks:=tk }:=I2.kept (t':=tk) fun b o q=>C0 _ q
   have I4:Inv X ((h'.objs.size,kla_obj "<lambda>" qual params body scope [(y,c)] ((X.mg "__name__").getD .none) c' ctv)::pins) σ H2 { s1 with heap:=h'.push (kla_obj "<lambda>" qual params body scope [(y,c)] ((X.mg "__name__").getD .none) c' ctv),toks:=tk }:=I3.pins_of fun q hq=>by
     rcases C5.mp hq with rfl | hq
     · exact⟨F2 _ rfl,I2.hok.fresh (B3 _),x9 I2.lt,I2.nofs (B3 _),fun v z=>by cases z⟩
     · exact I3.pin q (K4 _ hq)
   refine thn (Pf L I4 hv B8 (let ⟨o9,z1,z2⟩:=hl;⟨o9,C0 _ z1,z2⟩) rv h64 hR) fun v s2 h2=>?_;obtain⟨v',H5,I5,r5,q5⟩:=h2;exact⟨v',H5,I5.pins_of fun q hq=>I5.pin q (K4 _ (C3 _ hq)),r5,q5⟩
 rcases hR with⟨hnf,hR⟩ | ⟨c',hf,hc',hR⟩
 · refine kla_makeFunction (mg:=X.mg) hcl I1.ok.glob (I1.mod.glob.keeps I1.bk) hcode C1 eP ht hnf gP B1 fun c' ctv h' tk hx hge hlt hrec htb=>?_;exact fin c' ctv h' tk _ (I1.grow hP hx hge hrec htb) ⟨ol,hx _ _ aP ho,hcl',nl,hsl⟩ (hR c' (I1.hok.fresh hge))
 · refine kla_makeFunctionHit (mg:=X.mg) hcl I1.ok.glob (I1.mod.glob.keeps I1.bk) hcode C1 eP ht hf B1 fun ctv h' tk hk hsz=>?_;exact fin c' ctv h' tk _ (I1.kept (t':=tk) hk) ⟨ol,hk _ _ ho,hcl',nl,hsl⟩ hR
end
end L2
end
section
namespace L2
open PySem PySem.Spec PyProof.Rows
def insL {α:Type}(xs:List α)(k:Nat)(y:α):List α:=xs.take k++y::xs.drop k
theorem EK {α:Type}(xs:List α)(k:Nat)(y:α):(insL xs k y).length=xs.length + 1:=by
 unfold insL;rw [D4,M7,P9,W8];omega
end L2
end
section
namespace Pu
open PySem PySem.Spec L2
section
variable {ι:Type}{K:A3}{F:ι->Cx}{e:Expr}{es:List Expr}{st:Stmt}{pos:Pos}{pl:pA}{pe pa pb:pE}
theorem SR.potG (S:SR C G σ H env n)(hn:C.np=true)(mo:MutO ob)(h:H p=none)(sm:Same H H')(h':H' p=some ob)(ok:C.T.at_ (p::G.M) H' p n) :
   SR C ⟨p::G.M,G.pots++[p]⟩ σ H' env n:=by
 have hM:∀a∈p::G.M,a∈G.M\/H a=none:=fun a ha=>(C5.mp ha).elim (fun z=>.inr (z▸h)) .inl
 have hp:∀(k:Nat) (q:Addr),G.pots[k]?=some q->(G.pots++[p])[k]?=some q:=fun k q e=>by
   obtain⟨hk,_⟩:=D7.mp e;rw [W6 hk];exact e
 have mm:∀{x:PV} {v:V},Rep C.K G H x v->Rep C.K ⟨p::G.M,G.pots++[p]⟩ H' x v:=fun r=>Rep.mono (G':=⟨p::G.M,G.pots++[p]⟩) (fun b o _ e=>sm b o e) hM hp _ _ r;have mms:∀{x:List PV} {v:List V},Reps C.K G H x v->Reps C.K ⟨p::G.M,G.pots++[p]⟩ H' x v:=fun r=>Reps.mono (G':=⟨p::G.M,G.pots++[p]⟩) (fun b o _ e=>sm b o e) hM hp _ _ r;have pM:=S.fresh h
 exact {
   frame:=fun b o hb e=>sm b o (S.frame b o hb e)
   sub:=fun a ha=>(C5.mp ha).elim (fun z=>.inr (z▸S.old h)) (S.sub a)
   sup:=fun a ha=>C3 _ (S.sup a ha)
   pots:=fun q hq=>by
     rcases F9.mp hq with z | z
     · refine⟨C3 _ (S.pots q z).1,?_⟩;have h1:=C.T.more (M':=p::G.M) (S.pots q z).2 hM;obtain⟨o,e,_⟩:=C.T.mu h1;exact C.T.keep h1 (by rw [e,sm q o e]) fun b o _ e=>sm b o e
     · rw [D5.mp z];exact⟨B8,ok⟩
   pre:=by
     obtain⟨l,el,_⟩:=S.pre;exact⟨l++[p],by show G.pots++[p]=_;rw [el,P1],.inr hn⟩
   mu:=fun a ha=>by
     rcases C5.mp ha with rfl | ha
     · exact⟨ob,h',mo⟩
     · obtain⟨o,e,m⟩:=S.mu a ha;exact⟨o,sm a o e,m⟩
   slots:=fun i s e=>by
     cases s with
     | v x =>
       obtain⟨v,ev,r⟩:=S.slots i _ e;exact⟨v,ev,mm r⟩
     | ow kk xs =>
       obtain⟨b,us,ev,h1,h2,h3,h4,r⟩:=S.slots i _ e;refine⟨b,us,ev,C3 _ h1,h2,fun z=>?_,sm _ _ h4,mms r⟩;rcases F9.mp z with z | z
       · exact h3 z
       · rw [D5.mp z] at h1;exact pM h1
   inj:=S.inj
   p0:=⟨S.p0.1,C.T.hasM S.p0.2 fun z=>pM (S.pots p z).1⟩
   len:=S.len
   newp:=fun q hq hn' hM=>by
     rcases F9.mp hq with z | z
     · exact S.newp q z hn' hM
     · rw [D5.mp z] at hM
       exact pM (S.sup p hM) }
end
end Pu
end
section
namespace Pu
open PySem PySem.W PySem.Spec L2
def TabG (lpos:Pos)(qual:Str)(M:List Addr)(H:Hp)(ps:Array Value):Prop:=TriplesOk ps.toList/\(codeAmong lpos ps.toList=none\/∃c',codeAmong lpos ps.toList=some (.ref c')/\c'∉M/\H c'=some (V4 c' qual))
def tabK (T:PotK)(Pt:Addr)(lpos:Pos)(qual:Str):PotK where
 at_:=fun M H p n=>(p≠Pt/\T.at_ M H p n)\/(p=Pt/\∃ps,H Pt=some (.tbl ps)/\TabG lpos qual M H ps)
 mono:=fun h hl=>h.imp (fun z=>⟨z.1,T.mono z.2 hl⟩) id
 keep:=fun h e k=>by
   rcases h with⟨h1,h2⟩ | ⟨rfl,ps,h2,h3,h4⟩
   · exact .inl ⟨h1,T.keep h2 e k⟩
   · refine .inr ⟨rfl,ps,e.trans h2,h3,h4.imp id ?_⟩;rintro⟨c',z1,z2,z3⟩;exact⟨c',z1,z2,k _ _ z2 z3⟩
 more:=fun h k=>by
   rcases h with⟨h1,h2⟩ | ⟨rfl,ps,h2,h3,h4⟩
   · exact .inl ⟨h1,T.more h2 k⟩
   · refine .inr ⟨rfl,ps,h2,h3,h4.imp id ?_⟩;rintro⟨c',z1,z2,z3⟩;exact⟨c',z1,(fun z=>(k c' z).elim z2 (fun q=>by rw [q] at z3;cases z3)),z3⟩
 mu:=fun h=>by
   rcases h with⟨h1,h2⟩ | ⟨rfl,ps,h2,_⟩
   · exact T.mu h2
   · exact⟨_,h2,trivial⟩
 has:=fun l=>∃l',l=Pt::l'/\Pt∉l'
 hasM:=fun {l p} h hp=>by
   obtain⟨l',rfl,h2⟩:=h;refine⟨l'++[p],rfl,fun z=>?_⟩;rcases F9.mp z with z | z
   · exact h2 z
   · exact hp (by rw [<- D5.mp z];exact B8)
def BC:pF:=fun xs n R=>match xs with | [.pot (_ + 1),.int m]=>(0 < m/\m < 1000000/\n < 1000000000)/\∀d:Int,0<=d->d < m->R (.int d) (n + 1) | _=>False
section
variable {P:C6}{w:World}{K:A3}{mg:Str->Option Value}{base:Heap}{T:PotK}{Pt:Addr}{lpos:Pos}{qual:Str}
theorem Pj {x:Str}{k:Nat}{ps:List Str}(G:Kn P w K mg base x k ps (D9 K T Bv))(hT:T.has=fun _=>True):Kn P w K mg base x k ps (D9 K (tabK T Pt lpos qual) BC):=G.imp fun vs H Q E h=>by
 obtain⟨G,xs,n,R,hp,hm,hh,r,hf,k⟩:=h;unfold BC at hf
 split at hf
 · rename_i kk m;obtain⟨v,rr,rfl,rv,u,r2,rfl,ru,rfl⟩:=r;obtain⟨p,ep,rfl⟩:=rv;obtain rfl:u=.int m:=ru;obtain⟨l',el,nl⟩:=hh;have epl:l'[kk]?=some p:=by rw [el] at ep;simpa using ep
   have pl:p∈l':=J6 epl;have sub:∀q∈l',q∈G.pots:=fun q hq=>by rw [el];exact C3 _ hq
   have at1:∀q∈l',q∈G.M/\T.at_ G.M H q n:=fun q hq=>by
     obtain⟨a1,a2⟩:=hp q (sub q hq);rcases a2 with⟨_,a2⟩ | ⟨z,_⟩
     · exact⟨a1,a2⟩
     · exact absurd (z▸hq) nl
   have ptM:Pt∈G.pots:=by rw [el];exact B8
   refine⟨⟨G.M,l'⟩,[.pot kk,.int m],n,fun r n'=>R r n'/\∃d,r=.int d,at1,hm,by rw [hT];trivial,⟨_,_,rfl,⟨p,epl,rfl⟩,_,_,rfl,rfl,rfl⟩,⟨hf.1,fun d d0 d1=>⟨hf.2 d d0 d1,d,rfl⟩⟩,fun r n' v H' rr rv hp' hk=>?_⟩
   have nr:Rep K G H' r v:=by
     obtain⟨_,d,rfl⟩:=rr;exact rv
   refine k r n' v H' rr.1 nr (fun q hq=>?_) fun b o hb e=>hk b o (fun z=>hb (sub b z)) e;rw [el] at hq;rcases C5.mp hq with rfl | hq
   · rcases(hp q ptM).2 with⟨z,_⟩ | ⟨_,ps,z1,z2,z3⟩
     · exact absurd rfl z
     · refine .inr ⟨rfl,ps,hk _ _ nl z1,z2,z3.imp id ?_⟩;rintro⟨c',y1,y2,y3⟩;exact⟨c',y1,y2,hk _ _ (fun z=>y2 ((hp c' (sub c' z)).1)) y3⟩
   · exact .inl ⟨fun z=>nl (z▸hq),hp' q hq⟩
 · exact hf.elim
end
end Pu
end
section
namespace Pu
open PySem PySem.W PySem.Spec L2
def Av (pk:pE)(y:PV):List PV->Nat->(List Int->Nat->Prop)->Prop
 | [],n,R=>R [] n
 | x::xs,n,R=>pk [some (.v x),some (.v y)] n fun r _ n1=>∃k,r=.int k/\Av pk y xs n1 fun ks n2=>R (k::ks) n2
def SrtK (ks:List Int)(xs ys:List PV):Prop:=∃ps:List (Int×PV),ps.Perm (ks.zip xs)/\ys=ps.map Prod.snd/\ps.Pairwise fun p q=>p.1<=q.1
def EL (iy:Nat)(pe pk:pE):pA:=fun env n R=>pe env n fun x env1 n1=>match x,env1[iy]? with
 | .lst xs,some (some (.v y))=>xs.length < 64/\Av pk y xs n1 fun ks n2=>∀ys,SrtK ks xs ys->R ys env1 n2
 | _,_=>False
theorem JH {α β:Type}{f:α->β}{ps m:List β}(h:ps.Perm m):∀l:List α,m=l.map f->∃l':List α,l'.Perm l/\ps=l'.map f:=by
 induction h with
 | nil=>intro l e;exact⟨l,.refl _,e⟩
 | cons x _ ih =>
   intro l e;cases l with
   | nil=>cases e
   | cons a l =>
     rw [E9] at e;injection e with e1 e2;obtain⟨l',p,q⟩:=ih l e2;exact⟨a::l',.cons a p,by rw [E9,e1,q]⟩
 | swap x y r =>
   intro l e
   match l,e with
   | a :: b :: l, e =>
     rw [E9,E9] at e;injection e with e1 e2;injection e2 with e2 e3;exact⟨b::a::l,.swap _ _ _,by rw [E9,E9,e1,e2,e3]⟩
 | trans _ _ ih1 ih2 =>
   intro l e;obtain⟨l2,p2,q2⟩:=ih2 l e;obtain⟨l1,p1,q1⟩:=ih1 l2 q2;exact⟨l1,p1.trans p2,q1⟩
theorem zip3 {K:A3}{G:Gh}{H:Hp}:∀(ks:List Int) (xs:List PV) (us:List V),Reps K G H xs us->∃l:List (Int×PV×V),ks.zip us=l.map (fun t=>(t.1,t.2.2))/\ks.zip xs=l.map (fun t=>(t.1,t.2.1))/\∀t∈l,Rep K G H t.2.1 t.2.2
 | [],xs,us,_=>⟨[],by simp,by simp,fun _ z=>nomatch z⟩
 | k::ks,[],us,h=>by cases(show us=[] from h);exact⟨[],rfl,rfl,fun _ z=>nomatch z⟩
 | k :: ks, x :: xs, us, h => by
   obtain⟨v,r,rfl,h1,h2⟩:=h;obtain⟨l,e1,e2,h3⟩:=zip3 ks xs r h2;refine⟨(k,x,v)::l,by rw [k4,e1];rfl,by rw [k4,e2];rfl,fun t ht=>?_⟩;rcases C5.mp ht with rfl | ht
   · exact h1
   · exact h3 t ht
theorem Pk {K:A3}{G:Gh}{H:Hp}:∀(l:List (Int×PV×V)),(∀t∈l,Rep K G H t.2.1 t.2.2)->Reps K G H (l.map fun t=>t.2.1) (l.map fun t=>t.2.2):=by
 intro xq
 induction xq with
 | nil =>
   intro _;exact rfl
 | cons t l ih =>
   intro h;exact⟨_,_,rfl,h t B8,ih fun s hs=>h s (C3 _ hs)⟩
theorem Pl {K:A3}{G:Gh}{H:Hp}{ks:List Int}{xs:List PV}{us ys:List V}(r:Reps K G H xs us)(h:KOut ks us ys):∃ys',SrtK ks xs ys'/\Reps K G H ys' ys:=by
 obtain⟨ps,hp,rfl,ho⟩:=h;obtain⟨l,e1,e2,h3⟩:=zip3 ks xs us r;rw [e1] at hp;obtain⟨l',p',rfl⟩:=JH hp l rfl;refine⟨l'.map fun t=>t.2.1,⟨l'.map fun t=>(t.1,t.2.1),by rw [e2];exact p'.map _,by rw [U7];rfl,?_⟩,?_⟩
 · rw [d3] at ho ⊢;exact ho
 · rw [U7];exact Pk l' fun t ht=>h3 t (p'.mem_iff.mp ht)
section
variable {T:PotK}{K:A3}{Pt:Addr}{lpos:Pos}{qual:Str}
theorem Pm {tb:TE}{pk:pE}(hb:EOk K T tb pk){G:Gh}{H1 H2:Hp}{kS c':Addr}{y:PV}{vy:V}(hh:T.has G.pots)(h0:∀b o,b∉G.pots->H1 b=some o->H2 b=some o)(k1:H1 kS=none)(k2:H2 kS=none)(kM:kS∉G.M)(pM:∀p∈G.pots,p∈G.M)(hm:∀a∈G.M,∃o,H1 a=some o/\MutO o)
   (hc:H2 c'=some (V4 c' qual)) (cM:c'∉G.M) (ry:Rep K G H1 y vy) {R4:List Int->Hp->Prop} {RR:List Int->Nat->Prop}
   (fin:∀ks H4 n2,RR ks n2->(∀b o,b∉G.pots->H2 b=some o->H4 b=some o)->(∀p∈G.pots,T.at_ (kS::G.M) H4 p n2)->H4 kS=some (.lst (ks.map V.int))->R4 ks H4) :
   ∀(xs:List PV) (us:List V) (ks:List Int) (n:Nat) (H3:Hp),Reps K G H1 xs us->(∀b o,b∉G.pots->H2 b=some o->H3 b=some o)->(∀p∈G.pots,T.at_ (kS::G.M) H3 p n)->H3 kS=some (.lst (ks.map V.int))->Av pk y xs n (fun more n2=>RR (ks++more) n2)->BB tb vy kS c' qual us ks H3 R4:=by
 intro xq
 induction xq with
 | nil =>
   intro us ks n H3 r fr at3 e3 hk;cases(show us=[] from r);exact fin ks H3 n (by simpa [Av] using hk) fr at3 e3
 | cons x xs ih =>
   intro us ks n H3 r fr at3 e3 hk;obtain⟨u,us,rfl,rx,rr⟩:=r;have kP:kS∉G.pots:=fun z=>kM (pM _ z);have neK:∀b o,H2 b=some o->b≠kS:=fun b o e z=>by rw [z,k2] at e;cases e
   let GD:Gh:=⟨kS::G.M,G.pots⟩
   have fr1:∀b o,b∉G.M->H1 b=some o->H3 b=some o:=fun b o hb e=>fr b o (fun z=>hb (pM b z)) (h0 b o (fun z=>hb (pM b z)) e);have mv:∀{x:PV} {v:V},Rep K G H1 x v->Rep K GD H3 x v:=fun r=>Rep.mono (G':=GD) fr1 (fun a ha=>(C5.mp (show a∈kS::G.M from ha)).elim (fun z=>.inr (z▸k1)) .inl) (fun _ _ e=>e) _ _ r
   have I:Inn K T GD [some u,some vy] H3 [some (.v x),some (.v y)] n:=by
     refine⟨fun p hp=>⟨C3 _ (pM p hp),at3 p hp⟩,hh,fun a ha=>?_,fun i s e=>?_,rfl⟩
     · rcases C5.mp (show a∈kS::G.M from ha) with rfl | ha
       · exact⟨_,e3,trivial⟩
       · by_cases hp:a∈G.pots
         · exact T.mu (at3 a hp)
         · obtain⟨o,e,m⟩:=hm a ha;exact⟨o,fr a o hp (h0 a o hp e),m⟩
     · match i,e with
       | 0,e=>cases e;exact⟨x,u,rfl,rfl,mv rx⟩
       | 1,e=>cases e;exact⟨y,vy,rfl,rfl,mv ry⟩
       | _ + 2,e=>cases e
   refine⟨fr c' _ (fun z=>cM (pM _ z)) hc,?_⟩;refine hb _ GD _ H3 _ n _ _ rfl rfl I.sr hk fun q env' n1 v H4 rq S4 rv f4=>?_;obtain⟨k,rfl,hk2⟩:=rq;have e4:H4 kS=some (.lst (ks.map V.int)):=S4.frame kS _ kP e3;refine⟨k,rv,e4,?_⟩;refine ih us (ks++[k]) n1 _ rr (fun b o hp e=>?_) (fun p hp=>?_) E8 (by simpa [P1] using hk2)
   · rw [B6 (neK b o e)];exact S4.frame b o hp (fr b o hp e)
   · refine T.keep (S4.pots p hp).2 (B6 fun z=>kP (z▸hp)) fun b o hb e=>?_;rw [B6 (fun z=>hb (by rw [z];exact B8))];exact e
theorem Pn {te tb:TE}{pe pk:pE}{iy:Nat}(h2:ROk K (tabK T Pt lpos qual) te pe)(hb:EOk K (tabK T Pt lpos qual) tb pk):NOk K (tabK T Pt lpos qual) (JG K Pt lpos qual iy te tb) (EL iy pe pk):=by
 intro C G σ H env n R Q hK hT S hp k;refine h2 C G σ H env n _ _ hK hT S hp fun x env1 n1 v H1 p1 S1 r1 f1=>?_;have rd:RdV K G H1 x v:=hK▸r1.rd S1
 split at p1
 · rename_i xs y ey;obtain⟨h64,p1⟩:=p1;obtain⟨a,us,rfl,hq,r⟩:=rd.lst;obtain⟨vy,ev,ry⟩:=S1.slots iy _ ey;rw [hK] at ry;have hh:(tabK T Pt lpos qual).has G.pots:=hT▸S1.hasG;obtain⟨l',el,nl⟩:=id hh;have ptM:Pt∈G.pots:=by rw [el];exact B8
   have atH:∀p∈G.pots,p∈G.M/\(tabK T Pt lpos qual).at_ G.M H1 p n1:=fun p hp=>hT▸S1.pots p hp;have pM:∀p∈G.pots,p∈G.M:=fun p hp=>(atH p hp).1
   obtain⟨ps,eP,tg⟩:∃ps,H1 Pt=some (.tbl ps)/\TabG lpos qual G.M H1 ps:=by
     rcases(atH Pt ptM).2 with⟨z,_⟩ | ⟨_,z⟩
     · exact absurd rfl z
     · exact z
   have ul:us.length=xs.length:=r.length.symm
   have rest:∀c' H2,(∀b o,b∉G.pots->H1 b=some o->H2 b=some o)->(∀p∈G.pots,(tabK T Pt lpos qual).at_ G.M H2 p n1)->H2 c'=some (V4 c' qual)->c'∉G.M->EJ qual tb vy us Q c' H2:=by
     intro c' H2 h0 at2 hc cM kS a2 nk na hka
     have k1:H1 kS=none:=by
       cases e:H1 kS with
       | none=>rfl
       | some o =>
         by_cases hp:kS∈G.pots
         · obtain⟨o2,e2,_⟩:=(tabK T Pt lpos qual).mu (at2 kS hp);rw [nk] at e2;cases e2
         · rw [h0 kS o hp e] at nk;cases nk
     have kM:kS∉G.M:=S1.fresh k1;refine Pm hb hh h0 k1 nk kM pM S1.mu hc cM ry (RR:=fun ks n2=>∀ys,SrtK ks xs ys->R ys env1 n2) (fun ks H4 n2 rr fr4 at4 e4 n4 ys ko=>?_) xs us [] n1 _ r (fun b o hp e=>?_) (fun p hp=>?_) E8 p1
     · obtain⟨ys',so,ry'⟩:=Pl r ko;have ne4:∀b o,H2 b=some o->b≠kS:=fun b o e z=>by rw [z,nk] at e;cases e
       have hk4:∀b o,b∉G.pots->H1 b=some o->upd H4 kS (.lst []) b=some o:=fun b o hp e=>by
         have e2:=h0 b o hp e;rw [B6 (ne4 b o e2)];exact fr4 b o hp e2
       have fr:Fr G H1 (upd H4 kS (.lst [])):=fun b o hb e=>hk4 b o (fun z=>hb (pM b z)) e;refine k ys' env1 n2 a2 ys (upd H4 kS (.lst [])) (rr ys' so) (S1.call hk4 fun p hp=>?_) (f1.trans fr) (by rw [B6 hka.symm];exact n4) (ry'.fr fr);rw [hT];have h5:=(tabK T Pt lpos qual).more (M':=G.M) (at4 p hp) fun a ha=>.inl (C3 _ ha)
       -- kS is none of the pots' things
       have h6:=(tabK T Pt lpos qual).keep (H':=upd H4 kS (.lst [])) (at4 p hp) (B6 fun z=>kM (pM _ (z▸hp))) fun b o hb e=>by
         rw [B6 (fun z=>hb (by rw [z];exact B8))];exact e
       exact(tabK T Pt lpos qual).more (M':=G.M) h6 fun a ha=>.inl (C3 _ ha)
     · rw [B6 (fun z=>by rw [z,nk] at e;cases e)];exact e
     · have h5:=(tabK T Pt lpos qual).more (M':=kS::G.M) (at2 p hp) fun a ha=>(C5.mp ha).elim (fun z=>.inr (z▸nk)) .inl
       exact(tabK T Pt lpos qual).keep h5 (B6 fun z=>kM (pM _ (z▸hp))) fun b o hb e=>by
         rw [B6 (fun z=>hb (by rw [z];exact B8))];exact e
   refine⟨a,us,vy,ps,rfl,hq,by omega,ev,eP,tg.1,?_⟩;rcases tg.2 with hn | ⟨c',z1,z2,z3⟩
   · refine .inl ⟨hn,fun c' hc'=>rest c' _ (fun b o hp e=>?_) (fun p hp=>?_) ?_ (S1.fresh hc')⟩
     · have b1:b≠Pt:=fun z=>hp (by rw [z];exact ptM);rw [B6 b1,B6 (fun z=>by rw [z,hc'] at e;cases e)];exact e
     · by_cases hpp:p=Pt
       · subst hpp;refine .inr ⟨rfl,_,E8,?_,.inr ⟨c',?_,S1.fresh hc',?_⟩⟩
         · have e:(ps++#[rawInt lpos.line,rawInt lpos.col,K7 c']).toList=ps.toList++[rawInt lpos.line,rawInt lpos.col,.ref c']:=by simp
           rw [e];exact TriplesOk_snoc _ _ _ _ tg.1
         · have e:(ps++#[rawInt lpos.line,rawInt lpos.col,K7 c']).toList=ps.toList++[rawInt lpos.line,rawInt lpos.col,.ref c']:=by simp
           rw [e];exact codeAmong_snoc _ tg.1 hn
         · rw [B6 (fun z=>by rw [z,eP] at hc';cases hc'),E8]
       · rcases(atH p hp).2 with⟨_,z⟩ | ⟨z,_⟩
         · refine .inl ⟨hpp,?_⟩;have nc:p≠c':=fun q=>S1.fresh hc' (by rw [<- q];exact pM p hp);have z2:=T.keep (H':=upd H1 c' (V4 c' qual)) z (B6 nc) fun b o _ e=>by rw [B6 (fun q=>by rw [q,hc'] at e;cases e)];exact e
           exact T.keep z2 (by rw [B6 hpp]) fun b o hb e=>by rw [B6 (fun q=>hb (by rw [q];exact pM _ ptM))];exact e
         · exact absurd z hpp
     · rw [B6 (fun z=>by rw [z,eP] at hc';cases hc'),E8]
   · exact .inr ⟨c',z1,z3,rest c' H1 (fun _ _ _ e=>e) (fun p hp=>(atH p hp).2) z3 z2⟩
 · exact p1.elim
end
section
variable {T:PotK}{ι:Type}{K:A3}{F:ι->Cx}{Pt cd:Addr}{lpos p pos kpos:Pos}{qual x y:Str}{e body:Expr}{pe pk:pE}{scope:Scope}{params:Arguments}{iy k:Nat}{c:ι->Addr}
theorem Po (he:QR (tabK T Pt lpos qual) K F e pe)
   (hb:QE (tabK T Pt lpos qual) K (fun q:ι×Addr×Addr×Shared×Hp=>BA (F q.1) scope [x,y] qual q.2.1 q.2.2.1 [(y,c q.1)] q.2.2.2.1 q.2.2.2.2) body pk)
   (S:CL scope x y) (hr:∀z,Room k (F z).A) (hc:∀z,(F z).env.cells.lookup y=some (c z)) (hi:∀z,(F z).env.scope.names.lookup y=some .cell) (hn:∀z,(F z).N[iy]?=some y)
   (bd:∀z (pm ct cdv u:Value),W3 (kla_fn "<lambda>" qual params body scope [(y,c z)] pm cdv ct) ⟨[u],[]⟩=pure [(x,u)])
   (hq:∀z,(F z).env.qual++"<lambda>"=qual) (hcl:∀z,closureFor scope (F z).env=pure [(y,c z)]) (hcode:∀z,(F z).env.code=.ref cd) (C:∀z,CodeHd (F z).base cd Pt) (hB:∀z,(F z).base.BuiltinsAt (F z).mg Pt)
   (hg:∀z,Gl (F z) "sorted") (hm:∀z,(F z).mg "sorted"=none) (hdef:∀z,defaultsOf params (F z).env=([],[])) (hs:E4 e=true:=by rfl) (hK:∀z,(F z).K=K:=by intro _;rfl) :
   QN (tabK T Pt lpos qual) K F (.Call (.Name "sorted" p) [e] [⟨some "key",.Lambda params body scope lpos,kpos⟩] pos) (EL iy pe pk):=by
 obtain⟨t,h1,h2⟩:=he;obtain⟨u,h3,h4⟩:=hb;refine⟨_,fun z=>hK z▸Pi (c:=c z) (k:=k) (tb:=u) ⟨S,hr z,hc z,hi z,hn z,bd z,fun f c' s H=>h3 (z,f,c',s,H)⟩ (hq z) (hcl z) (hcode z) (C z) (hB z) (hg z) (hm z) (h1 z) (D0 hs) (hdef z),Pn h2 h4⟩
end
end Pu
end
section
namespace L2
open PySem PySem.W PySem.Spec PyProof.Rows
def Hc (Pt:Addr)(H:Hp):Prop:=∀b,H b=none\/(∃o xs,H b=some (.frz o (.lst xs)))\/(b=Pt/\H b=some (.tbl #[]))
theorem Pp {P:C6}{w:World}{K:Frag}{mg mb:Str->Option Value}{CX:CXT}{k:Nat}{fa a Pt cd:Addr}{fd:FuncData}{x:Str}{sp:Sp}{s₁:Shared}{vs:List Value}{ns:List Int}
   (KX:K.In s₁.heap) (hns:s₁.heap.Ns R7 mg) (hb:s₁.heap.Ns builtinsNs mb) (hbb:∀x:Str,x≠"__name__"->mb x=K6 x) (hlim:s₁.heap.NoLimit) (hg:s₁.gens=#[])
   (ha:s₁.heap.get? a=some { cls:=.type "list",data:=.seq vs.toArray }) (hi:IntsAre vs ns) (hl:ns.length<=B9) (hr:Room k callerA)
   (hP:s₁.heap.get? Pt=some (tabObj #[])) (hC:CodeHd s₁.heap cd Pt) (hB:s₁.heap.BuiltinsAt mg Pt) (hKP:K.lookup Pt=none) (hsy:P8≠Pt)
   (F:∀base:Heap,K.In base->base.Ns R7 mg->CodeHd base cd Pt->base.BuiltinsAt mg Pt->FnOk P w K mg base CX k fa fd [x] sp) (hbind:∀(s:Shared) (u:Value),BindsTo s fd ⟨[u],[]⟩ [(x,u)])
   (hsp:∀H:Hp,Hc Pt H->H Pt=some (.tbl #[])->SqL K H a (ns.map V.int)->sp [.ref a] H (fun v _=>v=.bl true) fun _ _ _=>False)
   (hCX:∀H e s',CX [] H s₁ (fun _ _ _=>False) e s'->False) :
   L5 (model P w) callerA (.call (.ref fa) ⟨[.ref a],[]⟩) (fun r s'=>r=.ok (.ret (.bool true))/\OldK s₁.heap s'.heap/\s'.os=s₁.os/\AllBare s'.gens) s₁:=by
 have rv:=MZ hi;have lenV:=hi.length;have haP:a≠Pt:=fun z=>by rw [z,hP] at ha;cases ha
 have core:∀H:Hp,Hc Pt H->H Pt=some (.tbl #[])->SqL K H a (ns.map V.int)->HOk P w H s₁.heap->(∀b,H b≠none->b=a\/b=Pt)->(H a≠none->K.lookup a=none)->
     L5 (model P w) callerA (.call (.ref fa) ⟨[.ref a],[]⟩) (fun r s'=>r=.ok (.ret (.bool true))/\OldK s₁.heap s'.heap/\s'.os=s₁.os/\AllBare s'.gens) s₁:=by
   intro H hO hPt hS hok hA hK;have base_of:∀{b:Addr} {o:Obj},s₁.heap.get? b=some o->H b=none->(hidT s₁.heap H).get? b=some o:=fun e n=>LX e n
   have noA:∀{b:Addr} {o:Obj},s₁.heap.get? b=some o->(∀n,o.data≠.seq vs.toArray n)->(∀ps,o.data≠.fields ps)->H b=none:=fun {b o} e d1 d2=>by
     cases q:H b with
     | none=>rfl
     | some u =>
       rcases hA b (by rw [q];simp) with e' | e'
       · subst e';rw [ha] at e;cases e;exact absurd rfl (d1 _)
       · subst e';rw [hP] at e;cases e;exact absurd rfl (d2 _)
   have nsK:∀{b:Addr} {m:Str->Option Value},s₁.heap.Ns b m->(hidT s₁.heap H).Ns b m:=fun {b m} ⟨o,es,ep,e,d,r⟩=>⟨o,es,ep,base_of e (noA e (fun n z=>by rw [d] at z;cases z) (fun n z=>by rw [d] at z;cases z)),d,r⟩
   have hKb:K.In (hidT s₁.heap H):=fun b o e=>base_of (KX b o e) (by
     cases q:H b with
     | none=>rfl
     | some u =>
       rcases hA b (by rw [q];simp) with e' | e'
       · subst e';rw [hK (by rw [q];simp)] at e;cases e
       · subst e'
         rw [hKP] at e;cases e)
   have hM:Mod K mg (hidT s₁.heap H):=⟨hKb,nsK hns,⟨mb,nsK hb,hbb⟩,let ⟨mc,h1,h2⟩:=hlim;⟨mc,nsK h1,h2⟩⟩
   have hC':CodeHd (hidT s₁.heap H) cd Pt:=by
     obtain⟨o,vs',file,tf,flags,tg,inF,text,tt,e1,r1,r2,r3,r4,r5,r6,r7,r8,hne⟩:=hC;refine⟨o,vs',file,tf,flags,tg,inF,text,tt,base_of e1 ?_,r1,r2,r3,r4,r5,r6,r7,r8,hne⟩;cases q:H cd with
     | none=>rfl
     | some u =>
       rcases hA cd (by rw [q];simp) with e' | e'
       · subst e';rw [ha] at e1;cases e1;have z:K1 "list"=K1 "code":=r1;injection z with z;exact absurd z (by decide)
       · exact absurd e' hne
   have hB':(hidT s₁.heap H).BuiltinsAt mg Pt:=by
     obtain⟨bm,o,z1,z2,z3,z4,z5,z6,z7,z8⟩:=hB;exact⟨bm,o,z1,z2,z3,z4,base_of z5 (noA z5 (fun n z=>by rw [z8] at z;cases z) (fun n z=>by rw [z8] at z;cases z)),z6,z7,z8⟩
   have nsy:NS H:=by
     rcases hO P8 with z | ⟨o,xs,z⟩ | ⟨z,_⟩
     · exact .inl z
     · exact .inr ⟨o,_,z⟩
     · exact absurd z hsy
   have e0:Env0 P w K mg (hidT s₁.heap H) callerA [] s₁ H:=⟨rfl,hM,fun b o e=>LY e,Cf (LW _ _),trivial,fun b hb=>absurd (show b∈([]:List Addr) from hb) (by simp),hok,.of_eq hg,nsy⟩;refine w4 ((F _ hKb (nsK hns) hC' hB').run callerA [] s₁ H ⟨[.ref a],[]⟩ [.ref a] [.ref a] _ _ hr e0 (hbind s₁ (.ref a)) (.cons rfl .nil) (hsp H hO hPt hS)) fun r s' h=>?_;cases r with
   | error e=>exact(hCX H e s' h).elim
   | ok fl =>
     cases fl with
     | next=>exact Z3 h
     | brk=>exact Z3 h
     | cont=>exact Z3 h
     | ret u =>
       obtain⟨v,H',os,bare,un,hok',r',q⟩:=h;have q':v=.bl true:=q;subst q';obtain rfl:u=Value.bool true:=r'
       have kept:∀b o,b≠Pt->s₁.heap.get? b=some o->s'.heap.get? b=some o:=fun b o hb e=>by
         cases q:H b with
         | none=>exact un.keep b o e q (by intro z;exact absurd (show b∈([]:List Addr) from z) (by simp)) (by simp)
         | some u =>
           rcases hO b with z | ⟨ob,xs,z⟩ | ⟨z,_⟩
           · rw [q] at z;cases z
           · have z2:=un.frzs b ob _ z;obtain⟨e1,_⟩:=hok b _ z;obtain⟨e2,_⟩:=hok' b _ z2;rw [e] at e1;cases e1;exact e2
           · exact absurd z hb
       obtain⟨more,hm⟩:=un.tbls Pt #[] hPt;have eP:s'.heap.get? Pt=some (tabObj (#[]++more)):=hok' Pt _ hm;refine⟨rfl,⟨fun b o e=>?_,fun b o e=>?_⟩,os,bare⟩
       · by_cases hb:b=Pt
         · subst hb;rw [hP] at e;cases e;exact .inr (.inl ⟨(hC.tab hP).isCodeTable,rfl,#[],more,rfl,eP⟩)
         · exact .inl (kept b o hb e)
       · by_cases hb:b=Pt
         · subst hb;exact⟨_,eP⟩
         · exact⟨o,kept b o hb e⟩
 have tabOk:∀(H:Hp),G8 P w H s₁.heap Pt (.tbl #[]):=fun H=>hP;cases hk:K.lookup a with
 | some o =>
   have e:=KX a o hk;rw [ha] at e;cases e;refine core (fun b=>if b=Pt then some (.tbl #[]) else none) (fun b=>?_) (if_pos rfl) (.inr ⟨_,vs.toArray,_,hk,rfl,rfl,rfl,by rw [D8,lenV];exact hl,by simpa using rv⟩) (fun b u z=>?_) (fun b z=>?_) fun z=>absurd (if_neg haP) z
   · by_cases hb:b=Pt
     · exact .inr (.inr ⟨hb,if_pos hb⟩)
     · exact .inl (if_neg hb)
   · by_cases hb:b=Pt
     · have z':=(if_pos hb).symm.trans z;cases z';subst hb;exact tabOk _
     · have z':=(if_neg hb).symm.trans z;cases z'
   · by_cases hb:b=Pt
     · exact .inr hb
     · exact absurd (if_neg hb) z
 | none =>
   refine core (fun b=>if b=Pt then some (.tbl #[]) else if b=a then some (.frz { cls:=.type "list",data:=.seq vs.toArray } (.lst (ns.map V.int))) else none) (fun b=>?_) (if_pos rfl) (.inl (.inr ⟨{ cls:=.type "list",data:=.seq vs.toArray },?_⟩)) (fun b u z=>?_) (fun b z=>?_) fun _=>hk
   · by_cases hb:b=Pt
     · exact .inr (.inr ⟨hb,if_pos hb⟩)
     · by_cases hb2:b=a
       · exact .inr (.inl ⟨_,_,by simp only [if_neg hb,if_pos hb2];rfl⟩)
       · exact .inl (by simp only [if_neg hb,if_neg hb2])
   · show(if a=Pt then _ else if a=a then _ else _)=_;rw [if_neg haP,if_pos rfl]
   · have z:(if b=Pt then some (HO.tbl #[]) else if b=a then some (.frz { cls:=.type "list",data:=.seq vs.toArray } (.lst (ns.map V.int))) else none)=some u:=z
     by_cases hb:b=Pt
     · rw [if_pos hb] at z;cases z;subst hb;exact tabOk _
     · rw [if_neg hb] at z
       by_cases hb2:b=a
       · rw [if_pos hb2] at z;cases z;subst hb2;exact⟨ha,by rw [A9];exact hl,vs,_,rv,ha⟩
       · rw [if_neg hb2] at z;cases z
   · by_cases hb:b=Pt
     · exact .inr hb
     · by_cases hb2:b=a
       · exact .inl hb2
       · exact absurd (show(if b=Pt then _ else if b=a then _ else none)=none by rw [if_neg hb,if_neg hb2]) z
structure Fn0C (K:Frag)(mg:Str->Option Value)(x:Str)(st:Stmt)(cd:Addr):Prop where
 ex:∃(f:Addr) (oc:Value) (od:Option Addr) (kV doc pm:Value) (an:Option Addr) (ct:Value) (osl:Array (Option Value)),K.lookup f=some ⟨oc,od,.func (fnOf x x (R3 st) (M3 st) (E5 st) .none kV doc pm an (.ref cd) ct),osl⟩/\codeIn K (.ref cd) x=true/\keepIn K (.ref f)=true/\mg x=some (.ref f)
theorem Pq {K:Frag}{h:Heap}{mg:Str->Option Value}{x:Str}{st:Stmt}(X:K.In h)(G:h.Ns R7 mg){f cd:Addr}{oc:Value}{od an:Option Addr}{osl:Array (Option Value)}{kV doc pm ct:Value}
   (a:nsIn K R7 x=some (some (.ref f))) (l:K.lookup f=some ⟨oc,od,.func (fnOf x x (R3 st) (M3 st) (E5 st) .none kV doc pm an (.ref cd) ct),osl⟩)
   (c:codeIn K (.ref cd) x=true) (k:keepIn K (.ref f)=true):Fn0C K mg x st cd:=⟨f,oc,od,kV,doc,pm,an,ct,osl,l,c,k,mg_of X G a⟩
section
variable {P:C6}{w:World}{K:Frag}{mg:Str->Option Value}{base:Heap}
theorem Fn0C.ok {x:Str}{st:Stmt}{cd:Addr}{N ps:List Str}{k:Nat}{sp:Sp}(F:Fn0C K mg x st cd)(S:R1 N ps (E5 st))(len:∀vs H Q E,sp vs H Q E->vs.length=ps.length)
   (bd:∀(kV doc pm:Value) (an:Option Addr) (cdv ct:Value) (us:List Value),us.length=ps.length->W3 (fnOf x x (R3 st) (M3 st) (E5 st) .none kV doc pm an cdv ct) ⟨us,[]⟩=pure (ps.zip us))
   (hbody:∀(f:Addr) (A:Around) (outer:List Env) (s:Shared) (H:Hp) (vs:List V) (Q:VK) (E:XK),Room k (A.deeper (envOfC x (E5 st) s.heap.objs.size f (.ref cd)))->sp vs H Q E->
     ∃t,PSs (cxOf CX0 P w K mg base N x (E5 st) f (.ref cd) A outer s H E).nox (M3 st) t/\t { nx:=fun _ H'=>Q .non H',rt:=Q } (start N vs) H):Kn P w K mg base x (k + 1) ps sp:=by
 obtain⟨f,oc,od,kV,doc,pm,an,ct,osl,l,hcd,kp,m⟩:=F.ex;refine⟨f,_,fn_of l hcd S len fun A outer s H vs Q E hr hsp=>?_,.all (bd kV doc pm an (.ref cd) ct),kp,m,oc,od,osl,l⟩;obtain⟨t,h,q⟩:=hbody f A outer s H vs Q E hr hsp;exact⟨t,h.nox,q⟩
end
def EM (K:Frag)(Pt:Addr):Sp:=fun vs H Q _=>∃(a:Addr) (ns:List Int),vs=[.ref a]/\SqL K H a (ns.map V.int)/\ns.length<=63/\Hc Pt H/\H Pt=some (.tbl #[])/\∀H',Q (.bl true) H'
theorem Pr {l:OpenLaw}{q:C6}{loose:List Str}{XP:(Str->Option Value)->Heap->Prop}{d:DefRec}{K:Params->Frag}{as:List Addr}{e:∀P,as=(K P).map (·.1)}{Pt:Addr}{x:Str}{k:Nat}(hn:l.most=some 63)(hdf:d.params.defaults=[])(hk:Room k callerA)(hsy:P8≠Pt)
   (F:∀(w:World) (mg:Str->Option Value) (h:Heap),(K w.params).In h->h.Ns R7 mg->∃st x' st',Fn0 (K w.params) mg d.name st/\(∃cd,Fn0C (K w.params) mg x' st' cd/\codeHdIn (K w.params) cd Pt=true)/\(K w.params).lookup Pt=none/\
     (∀(kV doc pm:Value) (an:Option Addr) (cdv ct:Value) (s:Shared) (u:Value),BindsTo s (fnOf d.name d.name (R3 st) (M3 st) (E5 st) .none kV doc pm an cdv ct) ⟨[u],[]⟩ [(x,u)])/\
     ∀cd,Fn0C (K w.params) mg x' st' cd->∀base:Heap,(K w.params).In base->base.Ns R7 mg->CodeHd base cd Pt->base.BuiltinsAt mg Pt->Kn l.prog w (K w.params) mg base d.name k [x] (EM (K w.params) Pt)) :
   WalkO q loose XP (kmHook K as e [Pt]).says l.row.toRowW d [] (fun f vs=>PySem.call f vs):=by
 refine Att.attach_call hn hdf fun w s₀ s₁ mg mb fa o pm cdv doc a vs ns G Y ho hd hcd hmg hobj hints hlen hg=>?_;have KX:=km_in_of Y;have hP:=km_tabs_of Y Pt B8;obtain⟨st,x',st',F0,⟨cd,fC,hhd⟩,hKP,hb,hF⟩:=F w mg _ KX G.T.g;obtain⟨f,fd,F1,m⟩:=F0.ex;have e:=hmg.symm.trans m;cases e;have hC:=codeHd_of_K KX hhd
 have hB:s₁.heap.BuiltinsAt mg Pt:=by
   obtain⟨bm,ob,b1,b2,b3,b4,b5,b6⟩:=G.T.bmain;refine⟨bm,ob,b1,b2,fun q=>?_,fun q=>?_,b3,b4,b5,b6⟩
   · obtain⟨o,es,ep,e,hd,_⟩:=G.T.g;rw [q,e] at b3;cases b3;rw [hd] at b6;cases b6
   · rw [q,hP] at b3;cases b3;cases b4
 refine Pp (x:=x) (CX:=CX0) (sp:=EM (K w.params) Pt) (fd:=fd) KX G.T.g G.T.b G.T.builtins G.T.nolimit hg hobj hints (L7 hlen (by decide)) hk hP hC hB hKP hsy (fun base kb nb c1 c2=>?_) (fun s u=>?_) (fun H hO hPt hS=>⟨a,ns,rfl,hS,hlen,hO,hPt,fun _=>rfl⟩) fun _ _ _ z=>z
 · obtain⟨f',fd',a',b',c',m',oc',od',osl',lk'⟩:=(hF cd fC base kb nb c1 c2).ex;have e:=m.symm.trans m';cases e;obtain⟨oc,od,kV,doc,pm,an,cdv,ct,osl,_,lk,hcd⟩:=F1.ex;have e2:=lk.symm.trans lk';cases e2;exact a'
 · obtain⟨oc,od,kV,doc,pm,an,cdv,ct,osl,rfl,lk,hcd⟩:=F1.ex;exact hb kV doc pm an cdv ct s u
end L2
namespace Pu
open PySem PySem.W PySem.Spec L2
section
variable {P:C6}{w:World}{K:A3}{mg:Str->Option Value}{base:Heap}{T:PotK}{Pt:Addr}{lpos:Pos}{qual:Str}
theorem fn_okC {x:Str}{st:Stmt}{cd:Addr}{N ps:List Str}{k:Nat}{body:pS}(F0:Fn0C K mg x st cd)(sc:R1 N ps (E5 st))
   (bd:∀(kV doc pm:Value) (an:Option Addr) (cdv ct:Value) (us:List Value),us.length=ps.length->W3 (U4 x x (R3 st) (M3 st) (E5 st) .none kV doc pm an cdv ct) ⟨us,[]⟩=pure (ps.zip us))
   (h:∀(f:Addr) (A:Around) (outer:List PySem.Env) (s:Shared) (H:Hp) (E:XK),Room k (A.deeper (DK x (E5 st) s.heap.objs.size f (.ref cd)))->
     QSs T false K (fun _:Unit=>(cxOf CX0 P w K mg base N x (E5 st) f (.ref cd) A outer s H E).nox) (M3 st) body) :
   Kn P w K mg base x (k + 1) ps (D9 K T (fnP N ps body)):=by
 refine F0.ok sc (fun vs H Q E h=>?_) bd (fun f A outer s H vs Q E hr hsp=>?_)
 · obtain⟨G,xs,n,R,_,_,_,r,hf,_⟩:=h;rw [<- r.length];exact hf.1
 · obtain⟨t,h1,h2⟩:=h f A outer s H E hr;obtain⟨G,xs,n,R,hp,hm,hh,r,hf,k'⟩:=hsp;refine⟨t,h1 (),?_⟩;have S0:=GH (N:=N) (np:=false) hp hm hh r
   have fin:∀(x:PV) (n':Nat) (v:V) (G':Gh) (σ:St) (H':Hp) (env:Env),R x n'->SR ⟨K,T,G.M,G.pots,H,false⟩ G' σ H' env n'->Rep K ⟨G.M,G'.pots⟩ H' x v->Q v H':=by
     intro x n' v G' σ H' env rr S' rv
     have ep:G'.pots=G.pots:=by
       obtain⟨l,el,hl⟩:=S'.pre;rcases hl with hl | hl
       · rw [el,hl,S6]
       · cases hl
     rw [ep] at rv;exact k' _ _ _ _ rr rv (fun p hp'=>T.more (S'.pots p (by rw [ep];exact hp')).2 fun a ha=>.inl (S'.sup a ha)) S'.frame
   refine h2 _ G _ H _ n _ _ rfl rfl rfl S0 hf.2 ⟨fun env n' G' σ H' q S' _=>?_,fun x n' v G' σ H' env q S' rv _=>fin x n' v G' σ H' env q S' rv,fun _ _ _ _ _ q=>q.elim,fun _ _ _ _ _ q=>q.elim⟩;exact fin .non n' .non G' σ H' env q S' rfl
theorem Ps {x:Str}{st:Stmt}{N:List Str}{y:Str}{k:Nat}{body:pS}(F0:Fn0 K mg x st)(sc:R1 N [y] (E5 st))
   (bd:∀(kV doc pm:Value) (an:Option Addr) (cdv ct:Value) (us:List Value),us.length=[y].length->W3 (U4 x x (R3 st) (M3 st) (E5 st) .none kV doc pm an cdv ct) ⟨us,[]⟩=pure ([y].zip us))
   (h:∀(f:Addr) (cdv:Value) (A:Around) (outer:List PySem.Env) (s:Shared) (H:Hp) (E:XK),Room k (A.deeper (DK x (E5 st) s.heap.objs.size f cdv))->
     QSs (tabK T Pt lpos qual) true K (fun _:Unit=>(cxOf CX0 P w K mg base N x (E5 st) f cdv A outer s H E).nox) (M3 st) body)
   (hlaw:∀ns:List Int,ns.length<=63->body ⟨fun _ _=>False,fun r _=>r=.bl true,fun _ _=>False,fun _ _=>False⟩ (t5 N [.scr ns]) 0) :
   Kn P w K mg base x (k + 1) [y] (EM K Pt):=by
 refine F0.ok sc (fun vs H Q E h=>?_) bd (fun f cdv A outer s H vs Q E hr hsp=>?_)
 · obtain⟨a,ns,rfl,_⟩:=h
   rfl
 · obtain⟨t,h1,h2⟩:=h f cdv A outer s H E hr;obtain⟨a,ns,rfl,hS,hl,hO,hPt,q⟩:=hsp;refine⟨t,h1 (),?_⟩
   let G:Gh:=⟨[Pt],[Pt]⟩
   have r:Reps K G H [.scr ns] [.ref a]:=by
     refine .one ⟨a,rfl,?_⟩;rcases hS with(hS | ⟨o,hS⟩) | hS
     · rcases hO a with z | ⟨o,xs,z⟩ | ⟨_,z⟩
       · rw [z] at hS;cases hS
       · rw [z] at hS;cases hS
       · rw [z] at hS;cases hS
     · refine .inl ⟨fun z=>?_,o,hS⟩;rw [D5.mp (show a∈[Pt] from z),hPt] at hS;cases hS
     · exact .inr hS
   have S0:=GH (T:=tabK T Pt lpos qual) (N:=N) (np:=true) (n:=0) (G:=G) (fun p hp=>by
       rw [D5.mp (show p∈[Pt] from hp)];exact⟨B8,.inr ⟨rfl,#[],hPt,trivial,.inl rfl⟩⟩) (fun a ha=>by
       rw [D5.mp (show a∈[Pt] from ha)]
       exact⟨_,hPt,trivial⟩) ⟨[],rfl,by simp⟩ r
   refine h2 _ G _ H _ 0 _ _ rfl rfl rfl S0 (hlaw ns hl) ⟨fun _ _ _ _ _ q=>q.elim,fun x n' v G' σ H' env qq S' rv _=>?_,fun _ _ _ _ _ q=>q.elim,fun _ _ _ _ _ q=>q.elim⟩;subst qq;obtain rfl:v=.bl true:=rv;exact q H'
end
end Pu
namespace L2
open PySem PySem.W PySem.Spec PyProof.Rows
theorem Pv {X:Cx}{k:Nat}{scope:Scope}{N:List Str}{qual:Str}{f c':Addr}{cl:List (Str×Addr)}{s:Shared}{H:Hp}(hr:Room (k + 3) X.A):Room k (BA X scope N qual f c' cl s H).A:=((hr.in1).in1).deeper _
theorem Pw {scope:Scope}{x y:Str}(kind:scope.kind=.function)(co:scope.isCoroutine=false)(gen:scope.isGenerator=false)(hx:scope.names.lookup x=some .local)(hy:scope.names.lookup y=some .free)
   (fr:(scope.names.filter fun z=>z.2 == .free).map (·.1)=[y]) (nc:∀z∈scope.names,z.2≠.cell) (ne:(y == x)=false):CL scope x y:=by
 refine⟨kind,co,gen,hx,hy,fun z hz=>?_,nc,ne⟩;have h1:z∈(scope.names.filter fun z=>z.2 == .free).map (·.1):=F5.mpr ⟨(z,.free),N5.mpr ⟨c8 hz,rfl⟩,rfl⟩;rw [fr] at h1;exact D5.mp h1
abbrev ptOf {h:Heap}{c P:Addr}(_:PySem.W.CodeHd h c P):Addr:=P
end L2
end
section
namespace Pu
open PySem L2
theorem CM {tt:pT}{rest:Pu.Env}{α:Type}(f:α->PV)(c:α->Bool):∀(xs:List α) (s0:Option Slot) (n:Nat) (R:List PV->Nat->Prop),(∀x∈xs,∀m Q,Q (c x) (some (.v (f x))::rest) m->tt (some (.v (f x))::rest) m Q)->R ((xs.filter c).map f) n->O7 (gN 0) tt (qV 0) (xs.map f) (s0::rest) n R:=by
 intro xq
 induction xq with
 | nil =>
   intro _ _ _ _ h;exact h
 | cons x xs ih =>
   intro s0 n R ht h;show tt (some (.v (f x))::rest) n _;refine ht x B8 n _ ?_
   by_cases hc:c x=true
   · rw [if_pos hc];rw [List.filter_cons,if_pos hc] at h;show O7 (gN 0) tt (qV 0) (xs.map f) (some (.v (f x))::rest) n _;exact ih _ n _ (fun y hy=>ht y (C3 _ hy)) h
   · rw [if_neg hc];rw [List.filter_cons,if_neg hc] at h;exact ih _ n _ (fun y hy=>ht y (C3 _ hy)) h
end Pu
end
section
namespace Pu
open PySem PySem.Spec L2
def lt (f t:Int)(k:Nat):Nat:=97 + ((f + (k:Int) * t) % 26).toNat
theorem CN {zs:List Str}:memP (.str z) (zs.map PV.str)=decide (z∈zs):=by
 unfold memP;rw [List.any_map,k8,k5,decide_eq_true_iff];constructor
 · rintro⟨y,hy,e⟩;have e':decide (y=z)=true:=by rw [<- i4];exact e
   rw [<- of_decide_eq_true e'];exact hy
 · intro h;refine⟨z,h,?_⟩;show eqP (.str z) (.str z)=true;rw [i4];exact decide_eq_true rfl
theorem BD (zs:List Str)(d:Nat):(zs.map PV.str).all (cmpb d)=true:=by
 rw [List.all_map,J3];intro x _;cases d <;> rfl
theorem Y1 {zs:List Str}(hP:zs.map PV.str=P)(h:R (.bl (decide (z∈zs)))):wIn 4 false (.str z) (.tup P) R:=by
 subst hP;exact⟨rfl,BD zs 4,by rw [CN];exact h⟩
theorem CO {zs:List Str}(hP:zs.map PV.str=P)(h:R (.bl (!decide (z∈zs)))):wIn 4 true (.str z) (.tup P) R:=by
 subst hP;exact⟨rfl,BD zs 4,by rw [CN];exact h⟩
theorem CP {zs:List Str}(hP:zs.map PV.str=P)(h:R (.bl (decide (z∈zs)))):wIn 4 false (.str z) (.lst P) R:=by
 subst hP;exact⟨rfl,BD zs 4,by rw [CN];exact h⟩
theorem EN {zs:List Str}(hP:zs.map PV.str=P)(h:R (.bl (!decide (z∈zs)))):wIn 4 true (.str z) (.lst P) R:=by
 subst hP;exact⟨rfl,BD zs 4,by rw [CN];exact h⟩
def RowS (zs:List Str):Prop:=zs.Nodup/\∀z∈zs,C8 z
abbrev rowP (zs:List Str):PV:=.tup (zs.map PV.str)
inductive Ev where
 | d (x:Str) | t (x y:Str)
abbrev DROP:Str:=A4 "drop"
abbrev D6:Str:=A4 "touch"
def evK:Ev->List Key
 | .d x=>[.inr DROP,.inr x]
 | .t x y=>[.inr D6,.inr x,.inr y]
def evP (e:Ev):PV:=tupP (evK e)
theorem V5 (x:Str):evP (.d x)=.tup [.str DROP,.str x]:=rfl
theorem N1 (x y:Str):evP (.t x y)=.tup [.str D6,.str x,.str y]:=rfl
def shP (es:List Ev):PV:=.tup (es.map evP)
theorem ev_al (a b:Ev):Al (evK a) (evK b):=by grind [Al,Ev,evK]
theorem ev_ne (e:Ev):evK e≠[]:=by cases e <;> simp [evK]
theorem JI (es:List Ev):∀ys:List PV,(∀y∈ys,y∈es.map evP)->∃es':List Ev,ys=es'.map evP/\∀e∈es',e∈es:=by
 intro xq
 induction xq with
 | nil =>
   intro _;exact⟨[],rfl,fun _ z=>nomatch z⟩
 | cons y ys ih =>
   intro h;obtain⟨e,he,rfl⟩:=F5.mp (h y B8);obtain⟨es',rfl,h2⟩:=ih fun z hz=>h z (C3 _ hz);exact⟨e::es',rfl,fun z hz=>(C5.mp hz).elim (fun e'=>e'▸he) (h2 z)⟩
theorem Px (es:List Ev):GX (es.map evP):=by
 refine .inr (.inr ⟨fun x hx=>?_,fun x hx y hy=>?_⟩)
 · obtain⟨e,_,rfl⟩:=F5.mp hx;exact⟨evK e,rfl,ev_ne e⟩
 · obtain⟨e,_,rfl⟩:=F5.mp hx;obtain⟨e',_,rfl⟩:=F5.mp hy;unfold evP tupP;rw [b9,b9];exact ev_al e e'
theorem Py (h:Srt ys (es.map evP)):∃es':List Ev,ys=es'.map evP/\es'.Perm es:=by
 obtain⟨es',rfl,_⟩:=JI es ys fun y hy=>h.1.mem_iff.mp hy;refine⟨es',rfl,?_⟩;have:=h.1;clear h
 have inj:∀{a b:List Ev},(a.map evP).Perm (b.map evP)->a.Perm b:=by
   intro a b p;have h1:=p.map fun y=>(match y with | .tup [_,.str x]=>Ev.d x | .tup [_,.str x,.str y]=>Ev.t x y | _=>Ev.d (A4 ""));rw [U7,U7] at h1
   have e:((fun y=>(match y with | PV.tup [_,.str x]=>Ev.d x | .tup [_,.str x,.str y]=>Ev.t x y | _=>Ev.d (A4 "")))∘evP)=id:=by
     funext e
     cases e <;> rfl
   rw [e,List.map_id,List.map_id] at h1;exact h1
 exact inj this
def evB:Ev->List Str
 | .d x=>[x]
 | .t x y=>[x,y]
theorem Hd {es es':List Ev}(h:es'.Perm es):(es'.flatMap evB).Perm (es.flatMap evB):=h.flatMap_right evB
theorem nd_ix {zs:List Str}(nd:zs.Nodup){i j:Nat}(h1:zs[i]?=some z)(h2:zs[j]?=some z):i=j:=by
 obtain⟨l1,e1⟩:=D7.mp h1;obtain⟨l2,e2⟩:=D7.mp h2;rcases k6 i j with h | h | h
 · exact absurd (e1.trans e2.symm) (W7.mp nd i j l1 l2 h)
 · exact h
 · exact absurd (e2.trans e1.symm) (W7.mp nd j i l2 l1 h)
def ixS (zs:List Str)(z:Str):Nat:=zs.findIdx fun y=>decide (y=z)
theorem Aw (h:z∈zs):zs[ixS zs z]?=some z/\∀i,i < ixS zs z->zs[i]?≠some z:=by
 unfold ixS;have hl:zs.findIdx (fun y=>decide (y=z)) < zs.length:=List.findIdx_lt_length_of_exists ⟨z,h,by simp⟩;refine⟨?_,fun i hi e=>?_⟩
 · rw [C4 hl];have:=List.findIdx_getElem (w:=hl);rw [of_decide_eq_true this]
 · have:=List.not_of_lt_findIdx hi;obtain⟨l1,e1⟩:=D7.mp e;rw [e1] at this;simp at this
theorem CQ (h:z∈zs):ixS zs z < zs.length:=(D7.mp (Aw h).1).1
theorem m_ix (hP:zs.map PV.str=P)(h:z∈zs)(hl:zs.length<=1000000)(q:R (.int (ixS zs z))):u5 (.tup P) (.str z) R:=by
 subst hP;unfold u5;dsimp only;rw [GI];exact⟨hl,ixS zs z,(Aw h).1,(Aw h).2,q⟩
end Pu
end
section
namespace Pu
open PySem PySem.Spec L2
inductive Mk where
 | d | o | t | u
 deriving DecidableEq
def run (r:Int):Nat->List Nat->List Mk->Option (List Nat)
 | _,st,[]=>some st
 | k,st,.t::m=>run r (k + 1) (k::st) m
 | k,st,.d::m=>run r (k + 1) st m
 | k,[],.o::m=>run r (k + 1) [] m
 | _,_::_,.o::_=>none
 | _,[],.u::_=>none
 | k,p::st,.u::m=>if(k:Int) - p - 1<=r then run r (k + 1) st m else none
def Cl (r:Int)(k:Nat)(m:List Mk):Prop:=∀st,run r k st m=some st
theorem Cl.d (h:Cl r (k + 1) m):Cl r k (.d::m):=fun st=>h st
inductive PE where
 | d (i:Nat) | t (i j:Nat)
def nm (zs:List Str)(i:Nat):Str:=zs.getD i (A4 "")
theorem CS {zs:List Str}{i:Nat}(h:i < zs.length):zs[i]?=some (nm zs i):=by grind [nm]
theorem CT (h:i < zs.length):nm zs i∈zs:=J6 (CS h)
theorem JJ (nd:zs.Nodup)(hi:i < zs.length)(hj:j < zs.length)(h:nm zs i=nm zs j):i=j:=nd_ix nd (CS hi) (by rw [h];exact CS hj)
structure Fair (zs:List Str)(es:List Ev):Prop where
 nd:(es.flatMap evB).Nodup
 sub:∀b∈es.flatMap evB,b∈zs
theorem Fair.perm (h:Fair zs es)(p:es'.Perm es):Fair zs es':=
 ⟨(Hd p).nodup_iff.mpr h.nd,fun b hb=>h.sub b ((Hd p).mem_iff.mp hb)⟩
theorem JK (hx:x∈zs)(hy:y∈zs)(h:ixS zs x=ixS zs y):x=y:=by
 have h1:=(Aw hx).1;rw [h,(Aw hy).1] at h1;exact(L8 h1).symm
theorem Ax {α β:Type}{f:α->β}{l:List α}{i:Nat}{y:β}(h:(l.map f)[i]?=some y):∃x,l[i]?=some x/\y=f x:=by
 rw [F4] at h;cases e:l[i]? with
 | none=>rw [e] at h;cases h
 | some x=>rw [e] at h;exact⟨x,rfl,(L8 h).symm⟩
theorem EO {α:Type}{l:List α}{i:Nat}{x:α}(h:l[i]?=some x):l.take (i + 1)=l.take i++[x]:=by
 rw [List.take_add_one,h];rfl
theorem JL {α:Type}(xs:List α){a b:Nat}(h:b<=xs.length):cutP xs (some (a:Int)) (some (b:Int))=(xs.take b).drop a:=by
 unfold cutP;rw [HT.sIx_nat,HT.sIx_nat,DE h,List.drop_take];rcases Nat.le_total a xs.length with h2 | h2
 · rw [DE h2]
 · rw [Nat.min_eq_right h2,BS (B3 _),BS h2];simp
theorem JM {α:Type}(xs:List α)(b:Nat):cutP xs none (some (b:Int))=xs.take b:=by
 unfold cutP;rw [HT.sIx_none,HT.sIx_nat,BZ,Nat.sub_zero];rcases Nat.le_total b xs.length with h2 | h2
 · rw [DE h2]
 · rw [Nat.min_eq_right h2,AN (B3 _),AN h2]
theorem JN {α:Type}(xs:List α)(a:Nat):cutP xs (some (a:Int)) none=xs.drop a:=by
 unfold cutP;rw [HT.sIx_nat,HT.sIx_none];rcases Nat.le_total a xs.length with h2 | h2
 · rw [DE h2];exact AN (by rw [W8];exact B3 _)
 · rw [Nat.min_eq_right h2,BS h2,BS (B3 _)];simp
theorem RowS.perm {a b:List Str}(h:RowS a)(p:b.Perm a):RowS b:=by grind [RowS]
theorem at2_0 {α:Type}{a b:α}:atI [a,b] 0=some a:=rfl
theorem at2_1 {α:Type}{a b:α}:atI [a,b] 1=some b:=rfl
theorem at3_0 {α:Type}{a b c:α}:atI [a,b,c] 0=some a:=rfl
theorem at3_1 {α:Type}{a b c:α}:atI [a,b,c] 1=some b:=rfl
theorem at3_2 {α:Type}{a b c:α}:atI [a,b,c] 2=some c:=rfl
theorem He:decide (DROP=A4 "touch")=false:=by decide +kernel
theorem Pz:decide (D6=A4 "touch")=true:=by decide +kernel
theorem JO:decide (D6=A4 "drop")=false:=by decide +kernel
def isTo:Ev->Bool
 | .d _=>false
 | .t _ _=>true
end Pu
end
section
namespace SeT
open PySem PySem.SetTable L2
def lp (mask:Nat)(h:Int):Nat->Nat×Nat
 | 0=>(bits h % (mask + 1),bits h)
 | k + 1=>leap mask (lp mask h k).1 (lp mask h k).2
def rn (mask i:Nat):Nat:=runEnd mask i - i
def vs (mask:Nat)(h:Int)(k off:Nat):Nat:=(lp mask h k).1 + off
theorem Hf (mask:Nat)(h:Int):∀k,(lp mask h k).1<=mask:=by
 intro xq
 induction xq with
 | zero =>
   exact Cb (Nat.mod_lt _ (Nat.succ_pos mask))
 | succ k ih =>
   exact Cb (Nat.mod_lt _ (Nat.succ_pos mask))
theorem rn_9 (mask i:Nat):rn mask i<=9:=by unfold rn runEnd;split <;> omega
theorem Hg {mask:Nat}(ho:off<=rn mask (lp mask h k).1):vs mask h k off<=mask:=by
 have:=Hf mask h k;unfold rn runEnd at ho;unfold vs
 split at ho <;> omega
theorem PB (mask:Nat)(h:Int):∀k,(lp mask h k).2=bits h / 32 ^ k:=by
 intro xq
 induction xq with
 | zero =>
   simp [lp]
 | succ k ih =>
   show(lp mask h k).2 / 32=_;rw [ih,Nat.div_div_eq_div_mul,Nat.pow_succ]
theorem PC (h:Int):bits h < 2 ^ 64:=by
 unfold bits;have h1:=Aa h (show(2 ^ 64:Int)≠0 by decide);have h2:=z9 h (show(0:Int) < 2 ^ 64 by decide);omega
theorem pert_0 (mask:Nat)(h:Int)(k:Nat)(hk:13<=k):(lp mask h k).2=0:=by
 rw [PB];refine Nat.div_eq_of_lt (J4 (PC h) ?_);exact L7 (by decide) (Nat.pow_le_pow_right (by decide) hk)
def orb (M:Nat):Nat->Nat
 | 0=>0
 | m + 1=>(orb M m * 5 + 1) % M
def itr (M a:Nat):Nat->Nat
 | 0=>a
 | m + 1=>(itr M a m * 5 + 1) % M
theorem JP (M m0:Nat):∀m,itr M (orb M m0) m=orb M (m0 + m):=by
 intro xq
 induction xq with
 | zero =>
   exact rfl
 | succ m ih =>
   show(itr M (orb M m0) m * 5 + 1) % M=(orb M (m0 + m) * 5 + 1) % M;rw [ih]
theorem PF (h:orb M M=0):∀m,orb M (M + m)=orb M m:=by
 intro xq
 induction xq with
 | zero =>
   exact h
 | succ m ih =>
   show(orb M (M + m) * 5 + 1) % M=(orb M m * 5 + 1) % M;rw [ih]
theorem JQ (mask:Nat)(h:Int):∀m,(lp mask h (13 + m)).1=itr (mask + 1) (lp mask h 13).1 m:=by
 intro xq
 induction xq with
 | zero =>
   exact rfl
 | succ m ih =>
   show((lp mask h (13 + m)).1 * 5 + 1 + (lp mask h (13 + m)).2 / 32) % (mask + 1)=(itr (mask + 1) (lp mask h 13).1 m * 5 + 1) % (mask + 1);rw [pert_0 mask h (13 + m) (by omega),ih,Nat.zero_div,Nat.add_zero]
def Msk (mask:Nat):Prop:=mask=7\/mask=31\/mask=127
def chk (M:Nat):Bool:=(E6 M).all fun e=>(E6 M).any fun m=>orb M m == e
theorem chk8:chk 8=true:=by decide +kernel
theorem chk32:chk 32=true:=by decide +kernel
theorem chk128:chk 128=true:=by decide +kernel
theorem JR {M:Nat}(h:chk M=true){e:Nat}(he:e < M):∃m,m < M/\orb M m=e:=by simp_all [chk,orb]
theorem goes {mask:Nat}(hm:Msk mask)(h:Int)(he:e<=mask):∃K,K<=mask + 14/\(lp mask h K).1=e:=by
 have ck:chk (mask + 1)=true/\orb (mask + 1) (mask + 1)=0:=by
   rcases hm with rfl | rfl | rfl
   · exact⟨chk8,by decide +kernel⟩
   · exact⟨chk32,by decide +kernel⟩
   · exact⟨chk128,by decide +kernel⟩
 obtain⟨m0,h0,e0⟩:=JR ck.1 (Nat.lt_succ_of_le (Hf mask h 13));obtain⟨m1,h1,e1⟩:=JR ck.1 (Nat.lt_succ_of_le he)
 by_cases c:m0<=m1
 · refine⟨13 + (m1 - m0),by omega,?_⟩;rw [JQ,<- e0,JP,show m0 + (m1 - m0)=m1 by omega,e1]
 · refine⟨13 + (mask + 1 + m1 - m0),by omega,?_⟩;rw [JQ,<- e0,JP,show m0 + (mask + 1 + m1 - m0)=mask + 1 + m1 by omega,PF ck.2,e1]
def Rise (xs:List Nat):Prop:=xs.Pairwise (· < ·)
theorem PH (xs:Array Nat)(j:Nat)(hr:Rise xs.toList):∀(fuel lo hi:Nat),lo<=hi->hi<=xs.size->hi - lo<=fuel->(∀(i:Nat) x,i < lo->xs[i]?=some x->x < j)->(∀(i:Nat) x,hi<=i->xs[i]?=some x->j<=x)->
   ∃p,below.go xs j fuel lo hi=p/\p<=xs.size/\(∀(i:Nat) x,i < p->xs[i]?=some x->x < j)/\(∀(i:Nat) x,p<=i->xs[i]?=some x->j<=x):=by
 intro xq
 induction xq with
 | zero =>
   intro lo hi h1 h2 h3 h4 h5;exact⟨lo,rfl,by omega,h4,fun i x hi' e=>h5 i x (by omega) e⟩
 | succ fuel ih =>
   intro lo hi h1 h2 h3 h4 h5;unfold below.go
   by_cases c:lo < hi
   · rw [if_pos c];have hm:(lo + hi) / 2 < xs.size:=by omega
     have hm1:lo<=(lo + hi) / 2:=by omega
     have hm2:(lo + hi) / 2 < hi:=by omega
     dsimp only;generalize (lo + hi) / 2=mid at hm hm1 hm2 ⊢;have eg:xs.getD mid j=xs[mid]:=by simp [Array.getD,hm]
     have em:xs[mid]?=some xs[mid]:=X0 hm
     have up:∀(a b:Nat) x y,a < b->xs[a]?=some x->xs[b]?=some y->x < y:=fun a b x y hab ea eb=>by
       rw [<- M9] at ea eb;obtain⟨la,ea⟩:=D7.mp ea;obtain⟨lb,eb⟩:=D7.mp eb;rw [<- ea,<- eb];exact W7.mp hr a b la lb hab
     rw [eg]
     by_cases c2:xs[mid] < j
     · rw [if_pos c2];refine ih (mid + 1) hi (by omega) h2 (by omega) (fun i x hi' e=>?_) h5;rcases AU i mid with h | h
       · exact x8 (up i mid x _ h e em) c2
       · have:i=mid:=by omega
         subst this;rw [em] at e;cases e;exact c2
     · rw [if_neg c2];refine ih lo mid (by omega) (by omega) (by omega) h4 fun i x hi' e=>?_;rcases AU mid i with h | h
       · exact W9 (Ca (AT c2) (up mid i _ x h em e))
       · have:i=mid:=by omega
         subst this;rw [em] at e;cases e;exact AT c2
   · rw [if_neg c];exact⟨lo,rfl,by omega,h4,fun i x hi' e=>h5 i x (by omega) e⟩
theorem CU (xs:Array Nat)(j:Nat)(hr:Rise xs.toList):below xs j<=xs.size/\(∀(i:Nat) x,i < below xs j->xs[i]?=some x->x < j)/\(∀(i:Nat) x,below xs j<=i->xs[i]?=some x->j<=x):=by
 obtain⟨p,e,h⟩:=PH xs j hr xs.size 0 xs.size (G0 _) (B3 _) (B3 _) (fun i x hi _=>by omega) (fun i x hi e=>by
   rw [DF hi] at e;cases e)
 unfold below;rw [e];exact h
theorem PJ (hr:Rise xs.toList)(h:xs[i]?=some j):below xs j=i:=by
 obtain⟨h1,h2,h3⟩:=CU xs j hr;rcases k6 (below xs j) i with c | c | c
 · have hb:below xs j < xs.size:=x8 c (by
     obtain⟨l,_⟩:=Fz.mp h;exact l)
   have e:=X0 hb;have a1:=h3 _ _ (B3 _) e;have e':=e;rw [<- M9] at e' h;obtain⟨la,ea⟩:=D7.mp e';obtain⟨lb,eb⟩:=D7.mp h;have:=W7.mp hr _ _ la lb c;rw [ea,eb] at this;omega
 · exact c
 · exact absurd (h2 i j c h) (U8 j)
theorem JS {α:Type}(xs:Array α)(p:Nat)(x:α)(hp:p<=xs.size):(insertAt xs p x).toList=insL xs.toList p x:=by
 unfold insertAt insL;simp;exact AN (by rw [W8,J9];exact B3 _)
theorem PL (hr:Rise xs.toList)(hj:j∉xs.toList):Rise (insL xs.toList (below xs j) j):=by
 obtain⟨h1,h2,h3⟩:=CU xs j hr;unfold insL
 have mt:∀a∈xs.toList.take (below xs j),a < j:=fun a ha=>by
   obtain⟨i,hi,e⟩:=List.mem_iff_getElem.mp ha;rw [List.getElem_take] at e;rw [P9] at hi;exact h2 i a (by omega) (by rw [<- M9,C4 (by omega),e])
 have md:∀a∈xs.toList.drop (below xs j),j < a:=fun a ha=>by
   obtain⟨i,hi,e⟩:=List.mem_iff_getElem.mp ha;rw [List.getElem_drop] at e;rw [W8] at hi;have hle:=h3 (below xs j + i) a (by omega) (by rw [<- M9,C4 (by omega),e]);have hne:a≠j:=fun z=>hj (by rw [<- z];exact Dw ha);omega
 refine List.pairwise_append.mpr ⟨hr.sublist (List.take_sublist _ _),List.pairwise_cons.mpr ⟨md,hr.sublist (List.drop_sublist _ _)⟩,fun a ha b hb=>?_⟩;rcases C5.mp hb with rfl | hb
 · exact mt a ha
 · exact x8 (mt a ha) (md b hb)
end SeT
end
section
namespace SeT
open PySem PySem.SetTable L2
def Lx (k' o' k o:Nat):Prop:=k' < k\/(k'=k/\o' < o)
def Rch (mask:Nat)(O:Nat->Prop)(s:Nat)(h:Int):Prop:=∃k o,o<=rn mask (lp mask h k).1/\vs mask h k o=s/\∀k' o',o'<=rn mask (lp mask h k').1->Lx k' o' k o->O (vs mask h k' o')
theorem Rch.mono {mask:Nat}{O O':Nat->Prop}{s:Nat}{h:Int}(r:Rch mask O s h)(f:∀x,O x->O' x):Rch mask O' s h:=by grind [Rch]
structure TOk (t:M2)(hs:List Int):Prop where
 size:t.place.toList.length=hs.length
 dum:t.dummies=#[]
 mask:Msk t.mask
 rise:Rise t.place.toList
 lim:∀s∈t.place.toList,s<=t.mask
 room:hs.length < t.mask
 reach:∀(i:Nat) s h,t.place.toList[i]?=some s->hs[i]?=some h->Rch t.mask (·∈t.place.toList) s h
section
variable {t:M2}{hs:List Int}{h:Int}
theorem TOk.fits (T:TOk t hs):t.fits hs.length=true:=by
 have h1:=T.size;have h2:=T.room;unfold SetTable.fits SetTable.fill;rw [T.dum];simp only [J9] at h1;simp [h1];omega
theorem TOk.odd (T:TOk t hs):t.gaveWay=false:=by
 unfold SetTable.gaveWay;rcases T.mask with e | e | e <;> rw [e] <;> decide
theorem JT (j:Nat):has #[] j=false:=by unfold has;simp
theorem TOk.slot_live (T:TOk t hs)(e:t.place.toList[i]?=some j):t.slot j=.live i:=by
 unfold SetTable.slot;have e':t.place[i]?=some j:=by rw [<- M9];exact e
 rw [PJ T.rise e'];simp [e']
theorem TOk.slot_empty (T:TOk t hs)(e:j∉t.place.toList):t.slot j=.empty:=by
 unfold SetTable.slot
 have:¬(t.place[below t.place j]? == some j)=true:=fun z=>by
   have z':t.place[below t.place j]?=some j:=by simpa using z
   rw [<- M9] at z';exact e (J6 z')
 dsimp only;rw [if_neg this,T.dum,JT]
 rfl
theorem TOk.free (T:TOk t hs):∃e,e<=t.mask/\e∉t.place.toList:=by
 refine Ba fun z=>?_
 have sub:E6 (t.mask + 1) ⊆ t.place.toList:=fun x hx=>by
   refine Ba fun y=>z ⟨x,Cb (L6.mp hx),y⟩
 have:=(List.nodup_range (n:=t.mask + 1)).length_le_of_subset sub;rw [AQ,T.size] at this;have:=T.room;omega
def pb (mask:Nat)(h:Int)(k o:Nat):Probe:={ j:=vs mask h k o,more:=rn mask (lp mask h k).1 - o,i:=(lp mask h k).1,perturb:=(lp mask h k).2,dummy:=none }
theorem pb_adv (t:M2)(h:Int)(k o:Nat):t.advance (pb t.mask h k o)=if o < rn t.mask (lp t.mask h k).1 then pb t.mask h k (o + 1) else pb t.mask h (k + 1) 0:=by
 unfold SetTable.advance
 by_cases c:o < rn t.mask (lp t.mask h k).1
 · rw [if_pos c,if_pos (show(pb t.mask h k o).more > 0 by show rn t.mask (lp t.mask h k).1 - o > 0;omega)];unfold pb vs
   congr 1
 · rw [if_neg c,if_neg (show ¬(pb t.mask h k o).more > 0 by show ¬rn t.mask (lp t.mask h k).1 - o > 0;omega)]
   rfl
def nx (mask:Nat)(h:Int)(k o:Nat):Nat×Nat:=if o < rn mask (lp mask h k).1 then(k,o + 1) else(k + 1,0)
theorem pb_nx (t:M2)(h:Int)(k o:Nat):t.advance (pb t.mask h k o)=pb t.mask h (nx t.mask h k o).1 (nx t.mask h k o).2:=by
 rw [pb_adv];unfold nx;split <;> rfl
theorem nx_ok {mask:Nat}(ho:o<=rn mask (lp mask h k).1):(nx mask h k o).2<=rn mask (lp mask h (nx mask h k o).1).1:=by
 unfold nx;split
 · rename_i c;exact c
 · exact G0 _
theorem nx_lx {mask:Nat}(ho:o<=rn mask (lp mask h k).1)(ho':o'<=rn mask (lp mask h k').1)(l:Lx k' o' (nx mask h k o).1 (nx mask h k o).2):Lx k' o' k o\/(k'=k/\o'=o):=by
 unfold nx at l
 split at l
 · rcases l with l | ⟨rfl,l⟩
   · exact .inl (.inl l)
   · have l':o' < o + 1:=l;rcases AU o' o with c | c
     · exact .inl (.inr ⟨rfl,c⟩)
     · exact .inr ⟨rfl,by omega⟩
 · rename_i c;rcases l with l | ⟨_,l⟩
   · have l':k' < k + 1:=l;rcases AU k' k with c2 | c2
     · exact .inl (.inl c2)
     · have:k'=k:=by omega
       subst this;rcases AU o' o with c3 | c3
       · exact .inl (.inr ⟨rfl,c3⟩)
       · exact .inr ⟨rfl,by omega⟩
   · exact absurd l (Cd _)
def far (K k o:Nat):Nat:=10 * (K - k) + 1 - o
theorem JU {mask:Nat}{h:Int}{K k o:Nat}(ho:o<=rn mask (lp mask h k).1)(hk:k < K):far K (nx mask h k o).1 (nx mask h k o).2 < far K k o/\(nx mask h k o).1<=K/\((nx mask h k o).1=K->(nx mask h k o).2=0):=by
 have r9:=rn_9 mask (lp mask h k).1;unfold nx far
 grind
theorem PM (T:TOk t hs)(at_:Nat->Int)(ha:∀(i:Nat) x,hs[i]?=some x->at_ i=x){K e:Nat}(hK:(lp t.mask h K).1=e)(he:e∉t.place.toList):∀(fuel k o:Nat),k<=K->(k=K->o=0)->o<=rn t.mask (lp t.mask h k).1->far K k o<=fuel->
   ∃ k2 o2, o2 <= rn t.mask (lp t.mask h k2).1 /\ k2 <= K /\ (k2 = K -> o2 = 0) /\ ¬ Lx k2 o2 k o /\ (∀ k' o', o' <= rn t.mask (lp t.mask h k').1 -> ¬ Lx k' o' k o -> Lx k' o' k2 o2 -> ∃ (i : Nat) (x : Int), t.place.toList[i]? = some (vs t.mask h k' o') /\ hs[i]? = some x /\ x ≠ h) /\
     ((vs t.mask h k2 o2∉t.place.toList/\probe.go t at_ h fuel (pb t.mask h k o)=some (.empty (vs t.mask h k2 o2) none))\/
       ∃i,k2 < K/\t.place.toList[i]?=some (vs t.mask h k2 o2)/\hs[i]?=some h/\probe.go t at_ h fuel (pb t.mask h k o)=some (.candidate (vs t.mask h k2 o2) i (pb t.mask h (nx t.mask h k2 o2).1 (nx t.mask h k2 o2).2))):=by
 intro xq
 induction xq with
 | zero =>
   intro k o h1 h2 h3 h4;have r9:=rn_9 t.mask (lp t.mask h k).1;unfold far at h4;have:¬k=K:=fun z=>by have:=h2 z;omega
   omega
 | succ fuel ih =>
   intro k o h1 h2 h3 h4;have irr:¬Lx k o k o:=fun z=>z.elim (U8 k) fun z=>U8 o z.2
   by_cases hm:vs t.mask h k o∈t.place.toList
   · obtain⟨i,hi⟩:=BT.mp hm
     obtain⟨x,hx⟩:∃x,hs[i]?=some x:=by
       have:=(D7.mp hi).1;rw [T.size] at this;exact⟨_,C4 this⟩
     have hkK:k < K:=by
       refine Nat.lt_of_le_of_ne h1 fun z=>?_;have o0:=h2 z;subst z;subst o0;exact he (by rw [<- hK];exact hm)
     have sl:=T.slot_live hi
     by_cases c:x=h
     · subst c;refine⟨k,o,h3,h1,h2,irr,fun k' o' _ n l=>absurd l n,.inr ⟨i,hkK,hi,hx,?_⟩⟩;unfold probe.go;rw [show(pb t.mask x k o).j=vs t.mask x k o from rfl,sl];dsimp only;rw [ha i x hx,beq_self_eq_true,if_pos rfl,pb_nx]
     · obtain⟨f1,f2,f3⟩:=JU (K:=K) h3 hkK;obtain⟨k2,o2,a1,a2,a3,a4,a5,a6⟩:=ih (nx t.mask h k o).1 (nx t.mask h k o).2 f2 f3 (nx_ok h3) (by omega)
       have step:probe.go t at_ h (fuel + 1) (pb t.mask h k o)=probe.go t at_ h fuel (pb t.mask h (nx t.mask h k o).1 (nx t.mask h k o).2):=by
         rw [<- pb_nx]
         conv=>lhs;unfold probe.go
         rw [show(pb t.mask h k o).j=vs t.mask h k o from rfl,sl];dsimp only;rw [ha i x hx,if_neg (by grind)]
       rw [step];refine⟨k2,o2,a1,a2,a3,fun z=>a4 ?_,fun k' o' p1 p2 p3=>?_,a6⟩
       · unfold nx
         split
         · rcases z with z | ⟨rfl,z⟩
           · exact .inl z
           · exact .inr ⟨rfl,by show o2 < o + 1;omega⟩
         · rcases z with z | ⟨rfl,z⟩
           · exact .inl (by grind)
           · exact .inl (by simp)
       · by_cases c2:Lx k' o' (nx t.mask h k o).1 (nx t.mask h k o).2
         · rcases nx_lx h3 p1 c2 with c3 | ⟨rfl,rfl⟩
           · grind
           · grind
         · grind
   · refine⟨k,o,h3,h1,h2,irr,fun k' o' _ n l=>absurd l n,.inl ⟨hm,?_⟩⟩;unfold probe.go;rw [show(pb t.mask h k o).j=vs t.mask h k o from rfl,T.slot_empty hm]
     rfl
theorem TOk.put (T:TOk t hs)(hs1:s∉t.place.toList)(hl:s<=t.mask)(hr:Rch t.mask (·∈t.place.toList) s h)(hroom:hs.length + 1 < t.mask) :
   (t.put s).2=below t.place s/\(t.put s).2<=hs.length/\(t.put s).1.plain=t.plain/\(t.put s).1.led=t.led/\TOk (t.put s).1 (insL hs (t.put s).2 h):=by
 have p1:=(CU t.place s T.rise).1;have sz:t.place.size=hs.length:=by rw [<- T.size,J9]
 have pl:(t.put s).1.place.toList=insL t.place.toList (below t.place s) s:=JS _ _ _ p1;have mk:(t.put s).1.mask=t.mask:=rfl
 have dm:(t.put s).1.dummies=#[]:=by
   show(if has t.dummies s then eraseAt t.dummies (below t.dummies s) else t.dummies)=#[];rw [T.dum,JT];rfl
 refine⟨rfl,by show below t.place s<=_;omega,rfl,rfl,?_⟩;have hp:(t.put s).2=below t.place s:=rfl;rw [hp]
 have mem:∀x,x∈t.place.toList->x∈insL t.place.toList (below t.place s) s:=fun x hx=>by
   unfold insL;rw [<- Fw (below t.place s) t.place.toList] at hx;rcases F9.mp hx with hx | hx
   · exact Z0 _ hx
   · exact K4 _ (C3 _ hx)
 refine⟨?_,dm,by rw [mk];exact T.mask,by rw [pl];exact PL T.rise hs1,fun x hx=>?_,by rw [mk,EK];exact hroom,fun i x y ex ey=>?_⟩
 · rw [pl,EK,EK,T.size]
 · rw [pl] at hx;rw [mk];unfold insL at hx;rcases F9.mp hx with hx | hx
   · exact T.lim x (BU hx)
   · rcases C5.mp hx with rfl | hx
     · exact hl
     · exact T.lim x (Dw hx)
 · rw [pl] at ex ⊢;rw [mk];generalize below t.place s=p at *;have lt:(t.place.toList.take p).length=p:=by rw [P9,T.size];omega
   have lh:(hs.take p).length=p:=by rw [P9];omega
   unfold insL at ex ey;rcases k6 i p with c | c | c
   · rw [W6 (by omega),List.getElem?_take,if_pos c] at ex ey;exact(T.reach i x y ex ey).mono mem
   · subst c;rw [U6 (by omega),lt,y0] at ex;rw [U6 (by omega),lh,y0] at ey;cases ex;cases ey;exact hr.mono mem
   · rw [U6 (by omega),lt,show i - p=(i - p - 1) + 1 by omega,AM,Dz,show p + (i - p - 1)=i - 1 by omega] at ex;rw [U6 (by omega),lh,show i - p=(i - p - 1) + 1 by omega,AM,Dz,show p + (i - p - 1)=i - 1 by omega] at ey;exact(T.reach (i - 1) x y ex ey).mono mem
end
end SeT
end
section
namespace SeT
open PySem PySem.SetTable L2
structure Own (mask:Nat)(ow:Array (Option Nat))(sl:List Nat):Prop where
 size:ow.size=mask + 1
 nd:sl.Nodup
 lim:∀s∈sl,s<=mask
 has:∀(k s:Nat),sl[k]?=some s->ow[s]?=some (some k)
 no:∀s,s<=mask->s∉sl->ow[s]?=some none
theorem Own.none {mask:Nat}(O:Own mask ow sl)(hs:s<=mask):(ow.getD s (some 0)).isNone=decide (s∉sl):=by
 rw [y7]
 by_cases c:s∈sl
 · obtain⟨k,hk⟩:=BT.mp c;rw [O.has k s hk,decide_eq_false (not_not_intro c)];rfl
 · rw [O.no s hs c,decide_eq_true c];rfl
theorem PN {mask:Nat}{ow:Array (Option Nat)}{sl:List Nat}{h:Int}(O:Own mask ow sl){K e:Nat}(hK:(lp mask h K).1=e)(he:e∉sl):∀(fuel k:Nat),k<=K->K - k < fuel->
   ∃k2 o2,o2<=rn mask (lp mask h k2).1/\layClean.free mask ow fuel (lp mask h k).1 (lp mask h k).2=some (vs mask h k2 o2)/\vs mask h k2 o2∉sl/\∀k' o',o'<=rn mask (lp mask h k').1->k<=k'->Lx k' o' k2 o2->vs mask h k' o'∈sl:=by
 intro xq
 induction xq with
 | zero =>
   intro k _ h2;exact absurd h2 (Cd _)
 | succ fuel ih =>
   intro k h1 h2;have le:=Hf mask h k;have ge:(lp mask h k).1<=runEnd mask (lp mask h k).1:=by unfold runEnd;split <;> omega
   have er:runEnd mask (lp mask h k).1 + 1 - (lp mask h k).1=rn mask (lp mask h k).1 + 1:=by unfold rn;omega
   have isn:∀o,o<=rn mask (lp mask h k).1->(ow.getD ((lp mask h k).1 + o) (some 0)).isNone=decide (vs mask h k o∉sl):=fun o ho=>O.none (Hg ho);unfold layClean.free;rw [er];cases ef:(E6 (rn mask (lp mask h k).1 + 1)).find? (fun o=>(ow.getD ((lp mask h k).1 + o) (some 0)).isNone) with
   | some o2 =>
     obtain⟨p1,p2,p3⟩:=List.find?_range_eq_some.mp ef;have ho2:o2<=rn mask (lp mask h k).1:=by have:=L6.mp p2;omega
     rw [isn o2 ho2] at p1;refine⟨k,o2,ho2,rfl,of_decide_eq_true p1,fun k' o' q1 q2 q3=>?_⟩;rcases q3 with q3 | ⟨rfl,q3⟩
     · omega
     · have:=p3 o' q3;rw [isn o' (by omega)] at this;exact Ba fun z=>by rw [decide_eq_true z] at this;cases this
   | none =>
     have all:∀o,o<=rn mask (lp mask h k).1->vs mask h k o∈sl:=fun o ho=>by
       have:=List.find?_eq_none.mp ef o (L6.mpr (by omega));rw [isn o ho] at this;exact Ba fun z=>this (decide_eq_true z)
     have hkK:k < K:=by
       refine Nat.lt_of_le_of_ne h1 fun z=>?_;subst z;exact he (by rw [<- hK];exact all 0 (G0 _))
     obtain⟨k2,o2,a1,a2,a3,a4⟩:=ih (k + 1) hkK (by omega);refine⟨k2,o2,a1,a2,a3,fun k' o' q1 q2 q3=>?_⟩;rcases AU k k' with c | c
     · exact a4 k' o' q1 c q3
     · have:k'=k:=by omega
       subst this;exact all o' q1
theorem Own.put {mask:Nat}{ow:Array (Option Nat)}{sl:List Nat}(O:Own mask ow sl){s:Nat}(hs:s<=mask)(hn:s∉sl):Own mask (ow.setIfInBounds s (some sl.length)) (sl++[s]) where
 size:=by rw [Array.size_setIfInBounds];exact O.size
 nd:=AR.mpr ⟨O.nd,by simp,fun a ha b hb e=>hn (by rw [<- D5.mp hb,<- e];exact ha)⟩
 lim:=fun x hx=>(F9.mp hx).elim (O.lim x) fun z=>by rw [D5.mp z];exact hs
 has:=fun k x e=>by
   have hsz:s < ow.size:=by rw [O.size];omega
   by_cases c:k < sl.length
   · rw [W6 c] at e;have hx:x∈sl:=J6 e;rw [Array.getElem?_setIfInBounds_ne (fun z=>hn (by rw [z];exact hx))];exact O.has k x e
   · have hk:k=sl.length:=by
       have:=(D7.mp e).1;rw [D4,N4] at this;omega
     subst hk;rw [U6 (B3 _),y0] at e;have e':s=x:=by simpa using e
     subst e';rw [Array.getElem?_setIfInBounds_self,if_pos hsz]
 no:=fun x hx hx'=>by
   have n1:x∉sl:=fun z=>hx' (Z0 _ z);have n2:s≠x:=fun z=>hx' (K4 _ (by rw [z];simp));rw [Array.getElem?_setIfInBounds_ne n2];exact O.no x hx n1
theorem Own.nil (mask:Nat):Own mask (DH (mask + 1) (Option.none:Option Nat)) []:=by grind [Own]
def EQ (mask:Nat)(acc:Option (Array (Option Nat)×Nat))(h:Int):Option (Array (Option Nat)×Nat):=do
 let (owner,k) ← acc
 let j ← layClean.free mask owner (turns mask) (bits h % (mask + 1)) (bits h)
 pure (owner.setIfInBounds j (some k),k + 1)
theorem lay_go {mask:Nat}(hm:Msk mask):∀(rest done:List Int) (ow:Array (Option Nat)) (sl:List Nat),Own mask ow sl->sl.length=done.length->done.length + rest.length<=mask->(∀(k s:Nat) h,sl[k]?=some s->done[k]?=some h->Rch mask (·∈sl) s h)->
   ∃ow' sl',rest.foldl (EQ mask) (some (ow,done.length))=some (ow',(done++rest).length)/\Own mask ow' sl'/\sl'.length=(done++rest).length/\∀(k s:Nat) h,sl'[k]?=some s->(done++rest)[k]?=some h->Rch mask (·∈sl') s h:=by
 intro xq
 induction xq with
 | nil =>
   intro done ow sl O hl hle hr;exact⟨ow,sl,by simp,O,by simpa using hl,fun k s h e1 e2=>hr k s h e1 (by simpa using e2)⟩
 | cons h rest ih =>
   intro done ow sl O hl hle hr;rw [M7] at hle
   obtain⟨e,he1,he2⟩:∃e,e<=mask/\e∉sl:=by
     refine Ba fun z=>?_;have sub:E6 (mask + 1) ⊆ sl:=fun x hx=>Ba fun y=>z ⟨x,Cb (L6.mp hx),y⟩;have:=(List.nodup_range (n:=mask + 1)).length_le_of_subset sub;rw [AQ,hl] at this;omega
   obtain⟨K,hK1,hK2⟩:=goes hm h he1;obtain⟨k2,o2,a1,a2,a3,a4⟩:=PN O hK2 he2 (turns mask) 0 (G0 _) (by unfold turns;omega);have O':=O.put (Hg a1) a3
   have st:EQ mask (some (ow,done.length)) h=some (ow.setIfInBounds (vs mask h k2 o2) (some sl.length),(done++[h]).length):=by
     unfold EQ;show(layClean.free mask ow (turns mask) (lp mask h 0).1 (lp mask h 0).2).bind _=_;rw [a2,hl,D4]
     rfl
   have mem:∀x,x∈sl->x∈sl++[vs mask h k2 o2]:=fun x hx=>Z0 _ hx
   obtain⟨ow',sl',b1,b2,b3,b4⟩:=ih (done++[h]) _ _ O' (by rw [D4,D4,hl];rfl) (by rw [D4,N4];omega) fun k s x e1 e2=>by
     by_cases c:k < sl.length
     · rw [W6 c] at e1;rw [W6 (by omega)] at e2;exact(hr k s x e1 e2).mono mem
     · have hk:k=sl.length:=by
         have:=(D7.mp e1).1;rw [D4,N4] at this;omega
       subst hk;rw [U6 (B3 _),y0] at e1;rw [U6 (by omega),hl,y0] at e2;cases e1;cases e2;exact⟨k2,o2,a1,rfl,fun k' o' q1 q2=>mem _ (a4 k' o' q1 (G0 _) q2)⟩
   refine⟨ow',sl',?_,b2,by rw [b3,P1];rfl,fun k s x e1 e2=>b4 k s x e1 (by rw [P1];exact e2)⟩;rw [List.foldl_cons,st,b1,P1];rfl
theorem PP (mask:Nat)(hs:Array Int):layClean mask hs=(hs.toList.foldl (EQ mask) (some (DH (mask + 1) none,0))).map (·.1):=by
 unfold layClean;rw [<- Array.foldl_toList]
 rfl
def live (mask:Nat)(ow:Array (Option Nat)):List (Nat×Nat):=(E6 (mask + 1)).filterMap fun j=>(ow.getD j none).map (j,·)
theorem Ay {mask:Nat}(O:Own mask ow sl):(j,k)∈live mask ow↔sl[k]?=some j:=by
 unfold live;rw [List.mem_filterMap];constructor
 · rintro⟨x,hx,e⟩;have hxm:x<=mask:=Cb (L6.mp hx)
   by_cases c:x∈sl
   · obtain⟨q,hq⟩:=BT.mp c;rw [y7,O.has q x hq] at e;have e':(x,q)=(j,k):=by simpa using e
     cases e';exact hq
   · rw [y7,O.no x hxm c] at e;cases e
 · intro h;have hj:=O.lim j (J6 h);refine⟨j,L6.mpr (by omega),?_⟩;rw [y7,O.has k j h];rfl
theorem JV (mask:Nat)(ow:Array (Option Nat)):Rise ((live mask ow).map (·.1)):=by
 unfold live Rise;rw [d3];refine List.Pairwise.filterMap _ (R:=(· < ·)) (fun a b hab x hx y hy=>?_) List.pairwise_lt_range;cases e1:ow.getD a none with
 | none=>rw [e1] at hx;cases hx
 | some p =>
   cases e2:ow.getD b none with
   | none=>rw [e2] at hy;cases hy
   | some q =>
     rw [e1] at hx;rw [e2] at hy;have hx':(a,p)=x:=by simpa using hx
     have hy':(b,q)=y:=by simpa using hy
     rw [<- hx',<- hy'];exact hab
theorem PQ {mask:Nat}(O:Own mask ow sl):((live mask ow).map (·.2)).Perm (E6 sl.length):=by
 have nd:((live mask ow).map (·.2)).Nodup:=by
   have h1:(live mask ow).Pairwise fun a b=>a.1 < b.1:=d3.mp (JV mask ow);rw [M8,d3];refine List.Pairwise.imp_of_mem (fun {a b} ha hb hab e=>?_) h1;have x1:=(Ay (j:=a.1) (k:=a.2) O).mp ha;have x2:=(Ay (j:=b.1) (k:=b.2) O).mp hb;rw [e] at x1;rw [x1] at x2;have:=L8 x2;omega
 refine(List.perm_ext_iff_of_nodup nd List.nodup_range).mpr fun k=>?_;rw [L6,F5];constructor
 · rintro⟨⟨j,k'⟩,h,rfl⟩;exact(D7.mp ((Ay O).mp h)).1
 · intro h;exact⟨(sl[k],k),(Ay O).mpr (C4 h),rfl⟩
theorem PR {mask fi mo:Nat}{led pl:Bool}(hm:Msk mask)(hs:Array Int)(hl:hs.toList.length < mask) :
   ∃t' order,laid mask fi mo led pl hs=some (t',order)/\order.toList.Perm (E6 hs.toList.length)/\t'.led=led/\t'.plain=pl/\t'.mask=mask/\TOk t' (order.toList.map fun k=>hs.toList.getD k 0):=by
 obtain⟨ow,sl,e,O,l,r⟩:=lay_go hm hs.toList [] _ [] (Own.nil mask) rfl (by simp;simp at hl;omega) (fun k s h e=>by simp at e);rw [BY] at e l r
 have el:laid mask fi mo led pl hs=some ({ mask,place:=((live mask ow).map (·.1)).toArray,dummies:=#[],finger:=fi,led,moves:=mo,plain:=pl },((live mask ow).map (·.2)).toArray):=by
   unfold laid;rw [PP,show(some (DH (mask + 1) (none:Option Nat),0))=some (DH (mask + 1) none,([]:List Int).length) from rfl,e]
   rfl
 have po:=PQ O;rw [l] at po;refine⟨_,_,el,po,rfl,rfl,rfl,?_⟩
 have ml:∀x,x∈(live mask ow).map (·.1)↔x∈sl:=fun x=>by
   rw [F5];constructor
   · rintro⟨⟨j,k⟩,h,rfl⟩;exact J6 ((Ay O).mp h)
   · intro h;obtain⟨k,hk⟩:=BT.mp h;exact⟨(x,k),(Ay O).mpr hk,rfl⟩
 refine⟨by simp,rfl,hm,JV mask ow,fun s h=>O.lim s ((ml s).mp h),?_,fun i s h e1 e2=>?_⟩
 · rw [A9,po.length_eq,AQ];exact hl
 · have e1':((live mask ow).map (·.1))[i]?=some s:=e1;have e2':(((live mask ow).map (·.2)).map fun k=>hs.toList.getD k 0)[i]?=some h:=e2;rw [F4] at e1';rw [F4,F4] at e2';cases ex:(live mask ow)[i]? with
   | none=>rw [ex] at e1';cases e1'
   | some y =>
     rw [ex] at e1' e2';have a1:y.1=s:=by simpa using e1'
     have a2:hs.toList.getD y.2 0=h:=by simpa using e2'
     have my:=(Ay (j:=y.1) (k:=y.2) O).mp (J6 ex);have lk:y.2 < hs.toList.length:=by rw [<- l];exact(D7.mp my).1
     have hk:hs.toList[y.2]?=some h:=by rw [<- a2,w8,C4 lk];rfl
     rw [a1] at my;exact(r y.2 s h my hk).mono fun x hx=>(ml x).mpr hx
end SeT
end
section
namespace SeT
open PySem PySem.Spec PyProof.Rows L2
section
variable (prog:C6)(w:World)
abbrev TK:HeapKind prog w (List Key):=tupleKind (L9 prog w)
def enS (x:List Key×Addr):Int×Value:=((TK prog w).hash x.1,.ref x.2)
structure SetK (h:Heap)(a:Addr)(o:Obj)(es:Array (Int×Value))(ep:Nat)(t:M2)(xs:List (List Key×Addr)):Prop where
 ho:h.get? a=some o
 ex:o.ExactSet
 hd:o.data=.set es ep t
 hes:es.toList=xs.map (enS prog w)
 hk:∀x∈xs,(TK prog w).is h x.1 x.2
 nd:(xs.map (·.1)).Nodup
 tb:TOk t (xs.map fun x=>(TK prog w).hash x.1)
 few:5 * xs.length < 3 * t.mask
 led:t.led=!(w.params.followText "set-order")
end
section
variable {prog:C6}{w:World}{A:Around}{E:Value->Shared->Prop}{s:Shared}{a:Addr}{o:Obj}{es:Array (Int×Value)}{ep:Nat}{t:M2}{xs:List (List Key×Addr)}
theorem SetK.sz (S:SetK prog w h a o es ep t xs):es.size=xs.length:=by rw [<- J9,S.hes,A9]
theorem SetK.fits (S:SetK prog w h a o es ep t xs):t.fits es.size=true:=by
 have:=S.tb.fits;rw [A9] at this;rw [S.sz];exact this
theorem SetK.at (S:SetK prog w h a o es ep t xs){i:Nat}(e:xs[i]?=some y):es[i]?=some (enS prog w y):=by
 rw [<- M9,S.hes,F4,e];rfl
theorem JW {ks:List Key}{vs:List Value}(h:ItemsAre (L9 prog w) ks vs):∀v∈vs,(∃i t,v=.int i t)\/∃x t,v=.str x t:=by
 induction h with
 | nil=>intro v hv;cases hv
 | @cons k v ks vs h1 _ ih =>
   intro u hu;rcases C5.mp hu with rfl | hu
   · rcases Z4 h1 with⟨i,t,_,rfl⟩ | ⟨x,t,_,rfl⟩
     · simp
     · simp
   · grind
theorem JX (hk:(TK prog w).is s.heap k r)(h:Q false s):wpAny (model prog w) A (ofAClassStatement 8 (.ref r)) Q E s:=by
 obtain⟨ob,items,n,e,c,d,its⟩:=hk;unfold ofAClassStatement;refine A1 (j6 (⟨ob,e,c⟩:s.TypeIs (.ref r) "tuple") ?_);dsimp only;simp only [beq_self_eq_true,↓reduceIte];refine A1 (A5 ?_);simp only [y4,F7,↓reduceIte];refine A1 (AF e d ?_);dsimp only;refine A1 ?_;rw [<- DG];refine Dp _ (fun rest r s'=>r.1=none/\s'=s/\∀v∈rest,(∃i t,v=.int i t)\/∃x t,v=.str x t) _ ?_ ?_ _ _ ⟨rfl,rfl,JW its⟩
 · rintro v rest r s' ⟨hr,rfl,all⟩
   have e0:ofAClassStatement 7 v=pure false:=by
     rcases all v B8 with⟨i,t,rfl⟩ | ⟨x,t,rfl⟩ <;> rfl
   rw [e0];refine A1 (A5 ?_);simp only [F7,↓reduceIte];exact A5 ⟨rfl,rfl,fun u hu=>all u (C3 _ hu)⟩
 · rintro⟨r1,r2⟩ s' ⟨hr,rfl,_⟩;simp only at hr;subst hr;exact A5 h
theorem PU (hu:A.units < cLine)(hk:(TK prog w).is s.heap k r):∀(l:List Value),(∀v∈l,∃b kb,v=.ref b/\(TK prog w).is s.heap kb b)->∀{Q:Bool->Shared->Prop},Q false s->wpAny (model prog w) A (searchCouldBeSeen (.ref r) l) Q E s:=by
 intro l hl Q h;unfold searchCouldBeSeen;refine A1 ?_;refine Dp _ (fun rest r s'=>r.1=none/\s'=s/\∀v∈rest,∃b kb,v=.ref b/\(TK prog w).is s.heap kb b) _ ?_ ?_ _ _ ⟨rfl,rfl,hl⟩
 · rintro v rest q s' ⟨hr,rfl,all⟩;obtain⟨b,kb,rfl,hb⟩:=all v B8;have fin:∀v∈rest,∃b kb,v=K7 b/\(TK prog w).is s'.heap kb b:=fun u hu=>all u (C3 _ hu);dsimp only
   split
   · exact A5 ⟨rfl,rfl,fin⟩
   · refine A1 ((TK prog w).quiet hk ?_);simp only [y4,F7,↓reduceIte];refine A1 ((TK prog w).quiet hb ?_);simp only [y4,F7,↓reduceIte];refine A1 (JX hk ?_);simp only [F7,↓reduceIte];refine A1 (JX hb ?_);simp only [F7,↓reduceIte];exact A5 ⟨rfl,rfl,fin⟩
 · rintro⟨r1,r2⟩ s' ⟨hr,rfl,_⟩;simp only at hr;subst hr;exact A5 h
theorem PX (h:Q true s):wpAny (model prog w) A (isSame (.ref b) (.ref b)) Q E s:=by
 show wpAny _ A (if(b == b)=true then pure true else _) Q E s;rw [if_pos (by simp)];exact A5 h
theorem PY {α:Type}{b:Bool}{m:Sem Bool}{u v:Sem α}{Q:α->Shared->Prop}(hm:∀Q':Bool->Shared->Prop,Q' false s->wpAny (model prog w) A m Q' E s)(hv:wpAny (model prog w) A v Q E s):wpAny (model prog w) A (if b=true then(do let x ← m;if x=true then u else v) else v) Q E s:=by
 split
 · refine A1 (hm _ ?_);simp only [F7,↓reduceIte];exact hv
 · exact hv
theorem search (hu:A.units < cLine)(S:SetK prog w s.heap a o es ep t xs)(hk:(TK prog w).is s.heap k r){K e:Nat}(hK:(lp t.mask ((TK prog w).hash k) K).1=e)(he:e∉t.place.toList)(hK2:K<=t.mask + 14)
   (hQ1:k∈xs.map (·.1)->Q (.there none) s) (hQ2:∀sl,sl∉t.place.toList->sl<=t.mask->Rch t.mask (·∈t.place.toList) sl ((TK prog w).hash k)->k∉xs.map (·.1)->Q (.free sl false) s) :
   ∀ (fuel kk oo : Nat) (st : Option SetTable.Probe), st.getD (t.probeStart ((TK prog w).hash k)) = pb t.mask ((TK prog w).hash k) kk oo -> kk <= K -> (kk = K -> oo = 0) -> oo <= rn t.mask (lp t.mask ((TK prog w).hash k) kk).1 -> far K kk oo <= fuel ->
     (∀k' o',o'<=rn t.mask (lp t.mask ((TK prog w).hash k) k').1->Lx k' o' kk oo->∃(i:Nat) (y:List Key×Addr),t.place.toList[i]?=some (vs t.mask ((TK prog w).hash k) k' o')/\xs[i]?=some y/\y.1≠k)->
     wpAny (model prog w) A (setSearchFrom a (.ref r) ((TK prog w).hash k) true fuel st) Q E s:=by
 intro xq
 induction xq with
 | zero =>
   intro kk oo st _ h1 h2 h3 h4 _;have r9:=rn_9 t.mask (lp t.mask ((TK prog w).hash k) kk).1;unfold far at h4;have:¬kk=K:=fun z=>by have:=h2 z;omega
   omega
 | succ fuel ih =>
   intro kk oo st hst h1 h2 h3 h4 done;have farK:far K kk oo<=10 * SetTable.turns t.mask:=by unfold far SetTable.turns;omega
   have hat:∀(i:Nat) x,(xs.map fun x=>(TK prog w).hash x.1)[i]?=some x->(es[i]?.map (·.1)).getD 0=x:=fun i x e=>by
     rw [F4] at e;cases ex:xs[i]? with
     | none=>rw [ex] at e;cases e
     | some y =>
       rw [ex] at e;rw [S.at ex];exact L8 e
   obtain⟨k2,o2,a1,a2,a3,a4,a5,a6⟩:=PM S.tb (fun i=>(es[i]?.map (·.1)).getD 0) hat hK he (10 * SetTable.turns t.mask) kk oo h1 h2 h3 farK
   have done2:∀k' o',o'<=rn t.mask (lp t.mask ((TK prog w).hash k) k').1->Lx k' o' k2 o2->∃(i:Nat) (y:List Key×Addr),t.place.toList[i]?=some (vs t.mask ((TK prog w).hash k) k' o')/\xs[i]?=some y/\y.1≠k:=fun k' o' p1 p2=>by
     by_cases c:Lx k' o' kk oo
     · exact done k' o' p1 c
     · obtain⟨i,x,q1,q2,q3⟩:=a5 k' o' p1 c p2;rw [F4] at q2;cases ex:xs[i]? with
       | none=>rw [ex] at q2;cases q2
       | some y =>
         rw [ex] at q2;have q2':(TK prog w).hash y.1=x:=by simpa using q2
         exact⟨i,y,q1,ex,fun z=>q3 (by rw [<- q2',z])⟩
   unfold setSearchFrom;refine A1 (U1 S.ho S.hd S.fits ?_);dsimp only;rw [S.tb.odd];simp only [F7,↓reduceIte];refine A1 (A5 ?_);rw [hst];generalize hpr:t.probe _ ((TK prog w).hash k) (pb t.mask ((TK prog w).hash k) kk oo)=pr;rcases a6 with⟨em,ep2⟩ | ⟨i,hkK,pi,hi,ep2⟩
   · have epr:pr=some (.empty (vs t.mask ((TK prog w).hash k) k2 o2) none):=by rw [<- hpr];exact ep2
     rw [epr];dsimp only;refine A5 (hQ2 _ em (Hg a1) ⟨k2,o2,a1,rfl,fun k' o' p1 p2=>?_⟩ fun hin=>?_)
     · obtain⟨i,y,q1,_⟩:=done2 k' o' p1 p2;exact J6 q1
     · obtain⟨y,hy,ey⟩:=F5.mp hin;obtain⟨iy,hiy⟩:=BT.mp hy
       obtain⟨sy,hsy⟩:∃sy,t.place.toList[iy]?=some sy:=by
         have:=(D7.mp hiy).1;have h2:=S.tb.size;rw [A9] at h2;exact⟨_,C4 (by omega)⟩
       obtain⟨ky,oy,b1,b2,b3⟩:=S.tb.reach iy sy ((TK prog w).hash k) hsy (by rw [F4,hiy];show some ((TK prog w).hash y.1)=_;rw [ey])
       -- the empty place is not ahead of y's
       have nl:¬Lx k2 o2 ky oy:=fun z=>em (b3 k2 o2 a1 z);have ne:¬(k2=ky/\o2=oy):=fun⟨z1,z2⟩=>em (by rw [z1,z2,b2];exact J6 hsy)
       have lt:Lx ky oy k2 o2:=by
         rcases k6 ky k2 with c | c | c
         · exact .inl c
         · subst c;rcases k6 oy o2 with d | d | d
           · exact .inr ⟨rfl,d⟩
           · exact absurd ⟨rfl,d.symm⟩ ne
           · exact absurd (.inr ⟨rfl,d⟩) nl
         · exact absurd (.inl c) nl
       obtain⟨i',y',q1,q2,q3⟩:=done2 ky oy b1 lt;rw [b2] at q1
       have ii:i'=iy:=by
         obtain⟨l1,e1⟩:=D7.mp q1;obtain⟨l2,e2⟩:=D7.mp hsy;rcases k6 i' iy with c | c | c
         · have:=W7.mp S.tb.rise _ _ l1 l2 c;omega
         · exact c
         · have:=W7.mp S.tb.rise _ _ l2 l1 c;omega
       rw [ii,hiy] at q2;cases q2;exact q3 ey
   · have epr:pr=some (.candidate (vs t.mask ((TK prog w).hash k) k2 o2) i (pb t.mask ((TK prog w).hash k) (nx t.mask ((TK prog w).hash k) k2 o2).1 (nx t.mask ((TK prog w).hash k) k2 o2).2)):=by rw [<- hpr];exact ep2
     rw [epr];dsimp only
     obtain⟨y,hy⟩:∃y,xs[i]?=some y:=by
       rw [F4] at hi;cases ex:xs[i]? with
       | none=>rw [ex] at hi;cases hi
       | some y=>exact⟨y,rfl⟩
     have hyk:=S.hk y (J6 hy);have hey:=S.at hy;refine PY (fun Q' h=>PU hu hk _ (fun v hv=>?_) h) ?_
     · obtain⟨z,hz,rfl⟩:=F5.mp hv
       have hz':z∈es.toList:=by
         rw [Array.toList_filter] at hz;exact(N5.mp hz).1
       rw [S.hes] at hz';obtain⟨y',hy',rfl⟩:=F5.mp hz';exact⟨y'.2,y'.1,rfl,S.hk y' hy'⟩
     rw [hey];show wpAny (model prog w) A (Q6 [.ref y.2] (eqBool (.ref y.2) (.ref r))>>=_) Q E s;refine A1 (G6 ((TK prog w).eqBool hu hyk hk ?_));refine A1 (U1 S.ho S.hd S.fits ?_);dsimp only
     by_cases c:y.1=k
     · rw [decide_eq_true c];simp only [Bool.and_self,↓reduceIte];exact A5 (hQ1 (F5.mpr ⟨y,J6 hy,c⟩))
     · rw [decide_eq_false c];simp only [Bool.and_false,F7,↓reduceIte];have sm:t.sameMemory t.moves t.mask=some true:=by unfold SetTable.sameMemory;simp
       rw [sm];simp only [↓reduceIte];rw [S.tb.slot_live pi];dsimp only;rw [hey];show wpAny (model prog w) A (isSame (.ref y.2) (.ref y.2)>>=_) Q E s;refine A1 (PX ?_);refine A1 (A5 ?_);simp only [↓reduceIte];obtain⟨f1,f2,f3⟩:=JU (K:=K) a1 hkK
       have fle:far K k2 o2<=far K kk oo:=by
         unfold far;have r9:=rn_9 t.mask (lp t.mask ((TK prog w).hash k) kk).1;rcases k6 k2 kk with c | c | c
         · exact absurd (.inl c) a4
         · subst c;have:¬o2 < oo:=fun z=>a4 (.inr ⟨rfl,z⟩);omega
         · omega
       refine ih _ _ _ rfl f2 f3 (nx_ok a1) (by omega) fun k' o' p1 p2=>?_;rcases nx_lx a1 p1 p2 with q | ⟨rfl,rfl⟩
       · exact done2 k' o' p1 q
       · exact⟨i,y,pi,hy,c⟩
end
end SeT
end
section
namespace SeT
open PySem PySem.Spec PyProof.Rows L2
section
variable {prog:C6}{w:World}{A:Around}{E:Value->Shared->Prop}{s:Shared}{a:Addr}{o:Obj}{es:Array (Int×Value)}{ep:Nat}{t:M2}{xs:List (List Key×Addr)}
theorem hbv (hk:(TK prog w).is s.heap k r)(h:∀b,Q b s):wpAny (model prog w) A (hashByValue 8 (.ref r)) Q E s:=by
 have hT:s.TypeIs (.ref r) "tuple":=IsTupleKey.typeIs hk;obtain⟨ob,items,n,e,c,d,its⟩:=hk;unfold hashByValue;refine A1 (AE hT F.slot_tuple_hash.lookup ?_);dsimp only;refine A1 (AF e d ?_);refine A1 ?_;show wpAny _ _ (forIn items _ _) _ _ s;rw [<- DG];refine Dp _ (fun rest q s'=>q.1=none/\s'=s/\∀v∈rest,(∃i t,v=.int i t)\/∃x t,v=.str x t) _ ?_ ?_ _ _ ⟨rfl,rfl,JW its⟩
 · rintro v rest q s' ⟨hr,rfl,all⟩
   have e0:∃b,hashByValue 7 v=pure b:=by
     rcases all v B8 with⟨i,t,rfl⟩ | ⟨x,t,rfl⟩
     · exact⟨true,rfl⟩
     · exact⟨false,rfl⟩
   obtain⟨b,e0⟩:=e0;rw [e0];refine A1 (A5 ?_);cases b with
   | true =>
     simp only [y4,F7,↓reduceIte];exact A5 ⟨rfl,rfl,fun u hu=>all u (C3 _ hu)⟩
   | false =>
     simp only [Bool.not_false,↓reduceIte];exact A5 (A5 (h _))
 · rintro⟨r1,r2⟩ s' ⟨hr,rfl,_⟩;simp only at hr;subst hr;exact A5 (h _)
theorem JY (hk:(TK prog w).is h k r)(ho:h.get? a=some o)(ex:o.ExactSet)(sb:U5 a h h'):(TK prog w).is h' k r:=by
 obtain⟨ob,items,n,e,c,d,its⟩:=hk
 have ne:r≠a:=fun z=>by
   rw [z,ho] at e;cases e;rw [ex.1] at c;exact absurd c (by decide)
 exact⟨ob,items,n,(sb.2 r ne).trans e,c,d,its⟩
theorem TOk.pl (T:TOk t hs)(b:Bool):TOk { t with plain:=b } hs:=⟨T.size,T.dum,T.mask,T.rise,T.lim,T.room,T.reach⟩
theorem PZ (hm:Msk m)(h:5 * n < 3 * m):n + 1 < m:=by rcases hm with rfl | rfl | rfl <;> omega
theorem JZ {h:Heap}{es':Array (Int×Value)}{t':M2}(ho:h.get? a=some o)(hd:o.data=.set es ep t):(h.update a (Obj.putSet es' t')).get? a=some { o with data:=.set es' (ep + 1) t' }:=by
 have:=AK (Obj.putSet es' t') ho (by rw [putSet_of es' t' hd];rfl);rw [putSet_of es' t' hd] at this;exact this
theorem J_ {α β:Type}(f:α->β)(l:List α)(p:Nat)(x:α):(insL l p x).map f=insL (l.map f) p (f x):=by
 unfold insL;rw [N6,E9,List.map_take,List.map_drop]
theorem P_ {α:Type}(l:List α)(p:Nat)(x:α):(insL l p x).Perm (x::l):=by
 unfold insL;have h1:(l.take p++x::l.drop p).Perm (x::(l.take p++l.drop p)):=List.perm_middle;rw [Fw] at h1;exact h1
theorem Ka {α:Type}(l:List α)(ord:List Nat)(d:α)(p:ord.Perm (E6 l.length)):ord.filterMap (fun k=>l[k]?)=ord.map (fun k=>l.getD k d)/\(ord.map fun k=>l.getD k d).Perm l:=by
 have lt:∀k∈ord,k < l.length:=fun k hk=>L6.mp (p.mem_iff.mp hk);constructor
 · clear p
   induction ord with
   | nil=>rfl
   | cons k ord ih =>
     have hk:=lt k B8;rw [w9,C4 hk,E9,ih fun j hj=>lt j (C3 _ hj),w8,C4 hk]
     rfl
 · have h1:=p.map fun k=>l.getD k d
   have h2:(E6 l.length).map (fun k=>l.getD k d)=l:=by
     apply List.ext_getElem?
     intro i;rw [F4]
     by_cases c:i < l.length
     · rw [List.getElem?_range c,C4 c];show some (l.getD i d)=_;rw [w8,C4 c];rfl
     · rw [Q8 (by simpa using c),Q8 (by omega)];rfl
   rw [h2] at h1;exact h1
theorem relay {n:Nat}{Q:Unit->Shared->Prop}(ho:s.heap.get? a=some o)(ex:o.ExactSet)(hd:o.data=.set es ep t)(hes:es.toList=xs.map (enS prog w))(hk:∀x∈xs,(TK prog w).is s.heap x.1 x.2)(nd:(xs.map (·.1)).Nodup)(tb:TOk t (xs.map fun x=>(TK prog w).hash x.1))(led:t.led=!(w.params.followText "set-order"))
   (hn:n=xs.length) (hfull:(t.mask=7/\n=5)\/(t.mask=31/\n=19))
   (h:∀h' o' es' ep' t' xs',U5 a s.heap h'->SetK prog w h' a o' es' ep' t' xs'->xs'.Perm xs->Q () { s with heap:=h' }):wpAny (model prog w) A (setRelay a (Co n)) Q E s:=by
 have sz:es.size=xs.length:=by rw [<- J9,hes,A9]
 have fit:t.fits es.size=true:=by
   have:=tb.fits;rw [A9] at this;rw [sz];exact this
 obtain⟨m',hm',sa,fewm,lt⟩:∃m',Msk m'/\SetTable.sizeAbove (Co n) - 1=m'/\5 * n < 3 * m'/\SetTable.sizeAbove (Co n)<=128:=by
   rcases hfull with⟨_,rfl⟩ | ⟨_,rfl⟩
   · exact⟨31,.inr (.inl rfl),by decide,by decide,by decide⟩
   · exact⟨127,.inr (.inr rfl),by decide,by decide,by decide⟩
 have hsl:(es.map (·.1)).toList=xs.map fun x=>(TK prog w).hash x.1:=by
   rw [Array.toList_map,hes,U7];rfl
 have hll:(es.map (·.1)).toList.length=n:=by rw [hsl,A9,hn]
 obtain⟨t',ord,el,po,l1,l2,l3,T'⟩:=PR (fi:=t.finger) (mo:=t.movedTo m') (led:=t.led) (pl:=t.plain) hm' (es.map (·.1)) (by rw [hll];rcases hm' with rfl | rfl | rfl <;> omega)
 have er:t.relaid (es.map (·.1)) (Co n)=some (t',ord):=by
   unfold SetTable.relaid;rw [sa];exact el
 rw [hll] at po;have po':ord.toList.Perm (E6 xs.length):=by rw [<- hn];exact po
 obtain⟨x0,hx0⟩:∃x0:List Key×Addr,True:=⟨([],0),trivial⟩;have ol:=Ka xs ord.toList x0 po';have lt2:∀k∈ord.toList,k < xs.length:=fun k hk=>L6.mp (po'.mem_iff.mp hk)
 have es2:(ord.filterMap (es[·]?)).toList=(ord.toList.map fun k=>xs.getD k x0).map (enS prog w):=by
   rw [Array.toList_filterMap,U7]
   have:∀l:List Nat,(∀k∈l,k < xs.length)->l.filterMap (fun k=>es[k]?)=l.map ((enS prog w)∘fun k=>xs.getD k x0):=by
     intro l
     induction l with
     | nil=>intro _;rfl
     | cons k l ih =>
       intro hl;have hk:=hl k B8
       have e1:es[k]?=some (enS prog w (xs.getD k x0)):=by
         rw [<- M9,hes,F4,C4 hk,w8,C4 hk];rfl
       rw [w9,e1,E9,ih fun j hj=>hl j (C3 _ hj)]
       rfl
   exact this ord.toList lt2
 have z2:(ord.filterMap (es[·]?)).size=es.size:=by
   rw [<- J9,es2,A9,A9,po'.length_eq,AQ,sz]
 unfold setRelay;refine A1 (U1 ho hd fit ?_);dsimp only;rw [if_neg (by rw [J1];omega),er]
 show wpAny (model prog w) A ((do
   let es':=ord.filterMap (es[·]?)
   if es'.size != es.size then unsupported "internal:set-table-lost-an-element"
   pure (es',t'))>>=fun(x:Array (Int×Value)×M2)=>storeSet a x.1 x.2) Q E s
 dsimp only;rw [if_neg (by rw [z2];simp)];refine A1 (A1 (A5 (A5 ?_)));have fz:(ord.filterMap (es[·]?)).size<=B9:=by rw [z2,sz,<- hn,J1];rcases hfull with⟨_,rfl⟩ | ⟨_,rfl⟩ <;> decide
 refine wpAny_storeSet_of ho hd ?_ fz;have sb:=P3 s.heap a (Obj.putSet (ord.filterMap (es[·]?)) t');have pk:=po';refine h _ _ _ _ _ (ord.toList.map fun k=>xs.getD k x0) sb ⟨JZ ho hd,ex,rfl,es2,fun x hx=>?_,?_,?_,?_,by rw [l1];exact led⟩ ol.2
 · exact JY (hk x (ol.2.mem_iff.mp hx)) ho ex sb
 · exact((ol.2.map (·.1)).nodup_iff).mpr nd
 · have e3:(ord.toList.map fun k=>xs.getD k x0).map (fun x=>(TK prog w).hash x.1)=ord.toList.map fun k=>(es.map (·.1)).toList.getD k 0:=by
     rw [U7,hsl];refine List.map_congr_left fun k hk=>?_;have hk':=lt2 k hk;show(TK prog w).hash (xs.getD k x0).1=_;rw [w8,w8,F4,C4 hk'];rfl
   rw [e3];exact T'
 · rw [A9,po'.length_eq,AQ,<- hn];show 5 * n < 3 * t'.mask;omega
theorem add {r:Addr}{k:List Key}{Q:Bool->Shared->Prop}(hu:A.units < cLine)(S:SetK prog w s.heap a o es ep t xs)(hk:(TK prog w).is s.heap k r)(h63:xs.length + 1<=63)
   (h1:k∈xs.map (·.1)->Q false s) (h2:k∉xs.map (·.1)->∀h' o' es' ep' t' xs',U5 a s.heap h'->SetK prog w h' a o' es' ep' t' xs'->xs'.Perm ((k,r)::xs)->Q true { s with heap:=h' }) :
   wpAny (model prog w) A (setAddHashed a (.ref r) ((TK prog w).hash k)) Q E s:=by
 unfold setAddHashed setAddHashedIn;refine G6 (A1 (U1 S.ho S.hd S.fits ?_));dsimp only;have nb:byScan (.ref r) es=false:=by unfold byScan Value.scannable;simp
 rw [nb];simp only [F7,↓reduceIte];obtain⟨e,he1,he2⟩:=S.tb.free;obtain⟨K,hK1,hK2⟩:=goes S.tb.mask ((TK prog w).hash k) he1
 have f0:far K 0 0<=100000:=by
   unfold far;rcases S.tb.mask with z | z | z <;> rw [z] at hK1 <;> omega
 refine A1 ?_;unfold setSearch;refine search hu S hk hK2 he2 hK1 (fun hin=>?_) (fun sl n1 n2 n3 n4=>?_) 100000 0 0 none rfl (G0 _) (fun _=>rfl) (G0 _) f0 (fun k' o' _ l=>?_)
 · exact A5 (h1 hin)
 · dsimp only;refine A1 (U1 S.ho S.hd S.fits ?_);have hr:=PZ S.tb.mask (by have:=S.few;exact this);obtain⟨p1,p2,p3,p4,T1⟩:=S.tb.put n1 n2 n3 (by grind);rw [A9] at p2;have ek:insL (xs.map fun x=>(TK prog w).hash x.1) (t.put sl).2 ((TK prog w).hash k)=(insL xs (t.put sl).2 (k,r)).map fun x=>(TK prog w).hash x.1:=(J_ (fun x:List Key×Addr=>(TK prog w).hash x.1) xs (t.put sl).2 (k,r)).symm;rw [ek] at T1
   have es1:(SetTable.insertAt es (t.put sl).2 ((TK prog w).hash k,.ref r)).toList=(insL xs (t.put sl).2 (k,r)).map (enS prog w):=by
     rw [JS _ _ _ (by rw [S.sz];exact p2),S.hes,J_];rfl
   have pm:=P_ xs (t.put sl).2 (k,r);have mk1:(t.put sl).1.mask=t.mask:=rfl
   have nd1:((insL xs (t.put sl).2 (k,r)).map (·.1)).Nodup:=by
     refine((pm.map (·.1)).nodup_iff).mpr ?_;rw [E9,T0];exact⟨n4,S.nd⟩
   have hk1:∀x∈insL xs (t.put sl).2 (k,r),(TK prog w).is s.heap x.1 x.2:=fun x hx=>by
     rcases C5.mp (pm.mem_iff.mp hx) with rfl | hx
     · exact hk
     · exact S.hk x hx
   have len1:(insL xs (t.put sl).2 (k,r)).length=xs.length + 1:=EK _ _ _
   have fill1:∀b,({ (t.put sl).1 with plain:=b }:M2).fill=xs.length + 1:=fun b=>by
     show(t.put sl).1.place.size + (t.put sl).1.dummies.size=_;rw [T1.dum,<- J9,T1.size,A9,len1];rfl
   dsimp only;generalize (t.put sl).2=p at *;generalize ht1:(t.put sl).1=t1 at *;generalize hes1:SetTable.insertAt es p ((TK prog w).hash k,.ref r)=esN at *;generalize hxs1:insL xs p (k,r)=xs1 at *
   -- what follows, whatever is said of the hash
   have tail:∀b:Bool,wpAny (model prog w) A (do
       storeSet a esN { t1 with plain:=b }
       if(!false && ({ t1 with plain:=b }:M2).tooFull)=true then do
         setRelay a (Co (es.size + 1))
         pure true
       else pure true) Q E s:=fun b=>by
     have ez:esN.size<=B9:=by rw [<- J9,es1,A9,len1,J1];omega
     refine A1 (wpAny_storeSet_of S.ho S.hd ?_ ez);have sb:=P3 s.heap a (Obj.putSet esN { t1 with plain:=b });have hk2:∀x∈xs1,(TK prog w).is (s.heap.update a (Obj.putSet esN { t1 with plain:=b })) x.1 x.2:=fun x hx=>JY (hk1 x hx) S.ho S.ex sb;have ob:=JZ (es':=esN) (t':={ t1 with plain:=b }) S.ho S.hd;have T2:=TOk.pl T1 b
     by_cases c:({ t1 with plain:=b }:M2).tooFull=true
     · rw [if_pos (by grind)]
       have c':(xs.length + 1) * 5>=t.mask * 3:=by
         unfold SetTable.tooFull at c;rw [fill1 b] at c;have:=of_decide_eq_true c;rw [<- mk1];exact this
       have few:=S.few;refine A1 (relay (n:=es.size + 1) ob S.ex rfl es1 hk2 nd1 T2 (by show t1.led=_;rw [p4];exact S.led) (by rw [S.sz,len1]) ?_ fun h' o' es' ep' t' xs' sb' S' p'=>?_)
       · show(t1.mask=7/\_)\/(t1.mask=31/\_);rw [mk1,S.sz];rcases S.tb.mask with z | z | z
         · omega
         · omega
         · omega
       · exact A5 (h2 n4 _ _ _ _ _ _ (sb.trans sb') S' (p'.trans pm))
     · rw [if_neg (by grind)];refine A5 (h2 n4 _ _ _ _ _ xs1 sb ⟨ob,S.ex,rfl,es1,hk2,nd1,T2,?_,by show t1.led=_;rw [p4];exact S.led⟩ pm)
       have:¬((xs.length + 1) * 5>=t.mask * 3):=fun z=>c (by
         unfold SetTable.tooFull;rw [fill1 b]
         exact decide_eq_true (by grind))
       show 5 * xs1.length < 3 * t1.mask;rw [len1,mk1];omega
   split
   · refine A1 (hbv hk fun b=>?_);cases b with
     | true =>
       simp only [↓reduceIte];exact tail t1.plain
     | false =>
       simp only [F7,↓reduceIte];exact tail false
   · refine A1 (A5 ?_);simp only [↓reduceIte];exact tail t1.plain
 · rcases l with l | ⟨_,l⟩
   · grind
   · omega
end
end SeT
end
section
namespace SeT
open PySem PySem.Spec PyProof.Rows L2
def Holds (prog:C6)(w:World)(h:Heap)(S:Addr)(rs:List (List Key×Addr)):Prop:=
 ∃o es ep t xs,SetK prog w h S o es ep t xs/\(∀x∈xs,x∈rs)/\∀x∈rs,x.1∈xs.map (·.1)
theorem ER {prog:C6}{w:World}{h h':Heap}{k:List Key}{r:Addr}(hk:(TK prog w).is h k r)(kp:∀o,h.get? r=some o->h'.get? r=some o):(TK prog w).is h' k r:=by
 obtain⟨ob,items,n,e,c,d,its⟩:=hk;exact⟨ob,items,n,kp _ e,c,d,its⟩
theorem SetK.at' {prog:C6}{w:World}{h h':Heap}{a:Addr}{o:Obj}{es:Array (Int×Value)}{ep:Nat}{t:M2}{xs:List (List Key×Addr)}(S:SetK prog w h a o es ep t xs)(k0:h'.get? a=some o)(kp:∀x∈xs,∀o,h.get? x.2=some o->h'.get? x.2=some o):SetK prog w h' a o es ep t xs:=
 ⟨k0,S.ex,S.hd,S.hes,(fun x hx=>ER (S.hk x hx) (kp x hx)),S.nd,S.tb,S.few,S.led⟩
theorem Holds.at' (S:Holds prog w h a rs)(k0:∀o,h.get? a=some o->h'.get? a=some o)(kp:∀x∈rs,∀o,h.get? x.2=some o->h'.get? x.2=some o):Holds prog w h' a rs:=by
 obtain⟨o,es,ep,t,xs,S1,S2,S3⟩:=S;exact⟨o,es,ep,t,xs,S1.at' (k0 o S1.ho) fun x hx=>kp x (S2 x hx),S2,S3⟩
theorem Holds.len {xs rs:List (List Key×Addr)}(S:SetK prog w h a o es ep t xs)(hs:∀x∈xs,x∈rs):xs.length<=rs.length:=by
 have n1:xs.Nodup:=(d3.mp S.nd).imp fun h e=>h (by rw [e]);exact n1.length_le_of_subset hs
section
variable {prog:C6}{w:World}{A:Around}{R:Result->Shared->Prop}{I:Addr}{fp wr:List Addr}{G:Array GenState->Array GenState->Prop}{n:Nat}{P:Nat->Value->Prop}{St:Nat->Shared->Prop}
theorem Qa {h h':Heap}{S:Addr}{rs:List (List Key×Addr)}{i:Nat}{y:List Key×Addr}(hy:rs[i]?=some y){o:Obj}{es:Array (Int×Value)}{ep:Nat}{t:M2}{xs:List (List Key×Addr)}(S1:SetK prog w h S o es ep t xs)(S2:∀x∈xs,x∈rs.take i)(S3:∀x∈rs.take i,x.1∈xs.map (·.1))(hin:y.1∈xs.map (·.1)):Holds prog w h S (rs.take (i + 1)):=by
 have e:rs.take (i + 1)=rs.take i++[y]:=by rw [List.take_succ,hy];rfl
 rw [e];exact⟨o,es,ep,t,xs,S1,fun x hx=>Z0 _ (S2 x hx),fun x hx=>(F9.mp hx).elim (S3 x) fun z=>by rw [D5.mp z];exact hin⟩
theorem Qb (Wk:WalksS prog w A.in1 I fp wr G n P St)(S:Addr)(nf:S∉fp)(rs:List (List Key×Addr))(hn:rs.length=n)(hv:∀i v,P i v->∃y,rs[i]?=some y/\v=.ref y.2)(ap:∀y∈rs,y.2∉wr/\y.2≠S)(hu:A.in1.units < cLine)(room:n<=63) :
   ∀ (k i : Nat) (s : Shared), n - i = k -> i <= n -> St i s -> (∀ y ∈ rs, (TK prog w).is s.heap y.1 y.2) -> Holds prog w s.heap S (rs.take i) ->
     (∀s',Moved (S::wr) G s s'->Holds prog w s'.heap S rs->R (.ok (.ret .none)) s')->
     L5 (model prog w) A (.builtin "set.update.loop" ⟨[.ref S,.ref I],[]⟩) R s:=by
 have nw:S∉wr:=fun h=>nf (Wk.sub _ h);have sub:∀b∈wr,b∈S::wr:=fun b hb=>C3 _ hb;intro k
 induction k with
 | zero =>
   intro i s hk hi st its so fin;have ei:i=n:=by omega
   subst ei;refine U2 DM ?_;rw [X1 y9 _];refine A1 (m:=pyNext (.ref I)) (Wk.done s _ _ st fun s' mv=>?_);refine A5 (fin s' (mv.mono sub) ?_);rw [AN (by omega)] at so;exact so.at' (fun o e=>mv.heap S _ nw e) fun x hx o e=>mv.heap _ _ (ap x hx).1 e
 | succ k ih =>
   intro i s hk hi st its so fin;have lt:i < n:=by omega
   refine U2 DM ?_;rw [X1 y9 _];refine A1 (m:=pyNext (.ref I)) (Wk.item i s _ _ lt st fun v s' pv' st' mv=>?_);obtain⟨y,hy,rfl⟩:=hv i v pv';have my:y∈rs:=J6 hy;have its':∀y∈rs,(TK prog w).is s'.heap y.1 y.2:=fun y hy=>ER (its y hy) fun o e=>mv.heap _ _ (ap y hy).1 e;have so':Holds prog w s'.heap S (rs.take i):=so.at' (fun o e=>mv.heap S _ nw e) fun x hx o e=>mv.heap _ _ (ap x (BU hx)).1 e;refine A1 (m:=Q6 [.ref y.2] (setAdd S (.ref y.2))) (G6 ?_);unfold setAdd;refine G6 (A1 ((TK prog w).pyHash hu (its' y my) ?_));obtain⟨o,es,ep,t,xs,S1,S2,S3⟩:=so'
   have l63:xs.length + 1<=63:=by
     have:=Holds.len S1 S2;rw [P9] at this;omega
   have next:∀h',U5 S s'.heap h'->Holds prog w h' S (rs.take (i + 1))->L5 (model prog w) A (.builtin "set.update.loop" ⟨[.ref S,.ref I],[]⟩) R { s' with heap:=h',toks:=s'.toks + (TK prog w).draws y.1 }:=fun h' sb so3=>by
     refine ih (i + 1) _ (by omega) lt (Wk.frame _ s' _ _ st' (Nat.le_add_right _ _) fun b hb o e=>?_) (fun z hz=>ER (its' z hz) fun o e=>?_) so3 fun s2 mv2 so4=>?_
     · rw [sb.2 b (fun z:b=S=>nf (by rw [<- z];exact hb))];exact e
     · rw [sb.2 z.2 (ap z hz).2];exact e
     · refine fin s2 (Moved.trans Wk.gtrans ((mv.mono sub).then_heap (Nat.le_add_right _ _) fun b o hb e=>?_) mv2) so4;rw [sb.2 b (fun z:b=S=>hb (by rw [z];exact B8))];exact e
   refine add (s:={ s' with toks:=s'.toks + (TK prog w).draws y.1 }) hu S1 (its' y my) l63 (fun hin=>?_) fun hin h' o' es' ep' t' xs' sb S1' pm=>?_
   · exact A5 ⟨V9 y9 _,next s'.heap (Heap.SameBut.refl _ _) (Qa (h':=s'.heap) hy S1 S2 S3 hin)⟩
   · refine A5 ⟨V9 y9 _,next h' sb ⟨o',es',ep',t',xs',S1',fun x hx=>?_,fun x hx=>?_⟩⟩
     · rw [List.take_succ,hy];rcases C5.mp (pm.mem_iff.mp hx) with rfl | z
       · exact K4 _ (D5.mpr rfl)
       · exact Z0 _ (S2 x z)
     · rw [List.take_succ,hy] at hx;rw [(pm.map (·.1)).mem_iff,E9];rcases F9.mp hx with z | z
       · exact C3 _ (S3 x z)
       · have:x=y:=by simpa using z
         rw [this];exact B8
end
end SeT
end
section
namespace SeT
open PySem PySem.Spec PyProof.Rows L2
section
variable {prog:C6}{w:World}{A:Around}{E:Value->Shared->Prop}{s:Shared}
theorem Qc (h:Heap)(S:Addr)(led:Bool)(hl:led=!(w.params.followText "set-order"))(e:h.get? S=some { cls:=.type "set",dict:=none,data:=.set #[] 0 (.fresh 0 0 led) }):Holds prog w h S []:=by
 refine⟨_,#[],0,.fresh 0 0 led,[],⟨e,⟨rfl,rfl,rfl⟩,rfl,rfl,(fun _ z=>nomatch z),by simp,⟨rfl,rfl,.inl rfl,by unfold Rise;exact FJ,(fun _ z=>nomatch z),(show 0 < 7 by decide),fun i s h e=>?_⟩,(show 5 * 0 < 3 * 7 by decide),hl⟩,(fun _ z=>nomatch z),fun _ z=>nomatch z⟩;have:([]:List Nat)[i]?=some s:=e;simp at this
theorem Kb (hd:A.handled=none)(hu:A.units + 64 < cLine)(ht:s.heap.IsList a its\/s.heap.IsTuple a its)(hv:its.toList=rs.map fun y=>K7 y.2)(hk:∀y∈rs,(TK prog w).is s.heap y.1 y.2)(room:rs.length<=63)
   (fin:∀(h':Heap) (tk:Nat),Holds prog w h' s.heap.objs.size rs->
     (∀b o,b < s.heap.objs.size->s.heap.get? b=some o->h'.get? b=some o)->Q (.ref s.heap.objs.size) { s with heap:=h',toks:=tk }):wpAny (model prog w) A (call (.type "set") [.ref a]) Q E s:=by
 have sz:rs.length=its.size:=by rw [<- J9,hv,A9]
 have lo:∀y∈rs,y.2 < s.heap.objs.size:=fun y hy=>by
   obtain⟨ob,items,n,e,_⟩:=hk y hy;exact B4 e
 refine I_ hd ht (fun I St fp G s1 R led hl lI Wk nf h0 g1 kp k=>?_) fin;refine Qb Wk _ nf rs sz (fun i v e=>?_) (fun y hy=>⟨fun z=>?_,C9 (lo y hy)⟩) (by simp only [Around.in1_units];omega) (by omega) (its.size - 0) 0 s1 rfl (G0 _) h0 (fun y hy=>ER (hk y hy) fun o e=>kp _ _ e) (Qc _ _ led hl g1) k
 · rw [<- M9,hv,F4] at e;cases er:rs[i]? with
   | none=>rw [er] at e;cases e
   | some y=>rw [er] at e;cases e;exact⟨y,rfl,rfl⟩
 · exact absurd (x8 (lo y hy) lI) (by rw [D5.mp z];exact U8 _)
end
end SeT
end
section
namespace SeT
open PySem PySem.Spec PyProof.Rows L2
theorem Y2:Slot "set_iterator" "__next__" "set_iterator.__next__":=.of (owner:="set_iterator") (n:="__next__")
 (by rw [typeLookup_type,builtinLookup_eq_fast];kernel_rfl)
 (by decide +kernel)
 (by decide +kernel)
 (by decide +kernel)
 (by first | exact .inl (by decide +kernel) | exact .inr (by decide +kernel))
 (by rw [i9];kernel_rfl)
theorem Kc:Slot "set_iterator" "__iter__" "set_iterator.__iter__":=.of (owner:="set_iterator") (n:="__iter__")
 (by rw [typeLookup_type,builtinLookup_eq_fast];kernel_rfl)
 (by decide +kernel)
 (by decide +kernel)
 (by decide +kernel)
 (by first | exact .inl (by decide +kernel) | exact .inr (by decide +kernel))
 (by rw [i9];kernel_rfl)
theorem ES:entryFor table "set_iterator.__next__"=some N3.«set_iterator.__next__»:=entryFor_of_tree (by kernel_rfl)
theorem Qd:entryFor table "set_iterator.__iter__"=some N3.«dict_keyiterator.__iter__»:=
 entryFor_alias (id':="dict_keyiterator.__iter__") (by kernel_rfl) rfl (by decide +kernel) (by kernel_rfl)
theorem Qe:entryFor table "set.__iter__"=some N3.«frozenset.__iter__»:=
 entryFor_alias (id':="frozenset.__iter__") (by kernel_rfl) rfl (by decide +kernel) (by kernel_rfl)
theorem ow_it:Manifest.owners.lookup (String.ofList (['r','o','t','a','r','e','t','i','_','t','e','s']).reverse)=some Manifest.sig_set_iterator:=by kernel_rfl
theorem ET (x:Value):argsOk "set_iterator.__next__" ⟨[x],[]⟩:=by
 unfold argsOk;rw [signature?_of (id:="set_iterator.__next__") (n:=['_','_','t','x','e','n','_','_']) (o:=['r','o','t','a','r','e','t','i','_','t','e','s']) (by kernel_rfl) ow_it];kernel_rfl
theorem Qf (x:Value):argsOk "set_iterator.__iter__" ⟨[x],[]⟩:=by
 unfold argsOk;rw [signature?_of (id:="set_iterator.__iter__") (n:=['_','_','r','e','t','i','_','_']) (o:=['r','o','t','a','r','e','t','i','_','t','e','s']) (by kernel_rfl) ow_it];kernel_rfl
theorem erase_perm {α:Type}:∀(l:List α) (i:Nat) (x:α),l[i]?=some x->(x::l.eraseIdx i).Perm l
 | [],i,x,e=>by simp at e
 | y :: l, 0, x, e => by
   have:y=x:=by simpa using e
   rw [this];exact .refl _
 | y :: l, i + 1, x, e => by
   have h:=erase_perm l i x (by simpa using e);show(x::y::l.eraseIdx i).Perm (y::l);exact(DT y x _).trans (h.cons y)
theorem Qg {α:Type}(next:Nat->Nat):∀(fuel k:Nat) (left:List α) (out:Array α),fuel=left.length->(pickOrder.go next fuel k left out).toList.Perm (out.toList++left):=by
 intro xq
 induction xq with
 | zero =>
   intro k left out h;have:left=[]:=w6 h.symm;subst this;unfold pickOrder.go;rw [S6]
 | succ fuel ih =>
   intro k left out h;have lt:next k % left.length < left.length:=Nat.mod_lt _ (by omega)
   have e:left[next k % left.length]?=some left[next k % left.length]:=C4 lt;unfold pickOrder.go;rw [e];dsimp only;have le:(left.eraseIdx (next k % left.length)).length=fuel:=by rw [Fu lt];omega
   refine(ih (k + 1) _ _ le.symm).trans ?_;rw [Array.toList_push,P1];exact List.Perm.append_left _ (erase_perm _ _ _ e)
theorem Qh {α:Type}(next:Nat->Nat)(xs:Array α):(pickOrder next xs).toList.Perm xs.toList:=by
 have:=Qg next xs.size 0 xs.toList #[] (by simp)
 exact this
section
variable {prog:C6}{w:World}{A:Around}{E:Value->Shared->Prop}{s:Shared}
theorem chosen (hn:0 < n)(h:∀i d,i < n->Q i { s with drawn:=d }):wpAny (model prog w) A (choose src n) Q E s:=by
 intro Γ p _;unfold choose;rw [Sem.wp];refine⟨by omega,?_⟩;rw [Sem.wp];exact h _ _ (Nat.mod_lt _ hn)
theorem Kd {α:Type}:∀(n:Nat) (xs:List α) (s:Shared) (Q:List α->Shared->Prop),n=xs.length->(∀ys d,ys.Perm xs->Q ys { s with drawn:=d })->wpAny (model prog w) A (drawOrder n xs) Q E s
 | 0, xs, s, Q, hn, h => by
   have:xs=[]:=w6 hn.symm;subst this;exact A5 (h [] s.drawn (.refl _))
 | n + 1,[],s,Q,hn,h=>by simp at hn
 | n + 1, x :: xs, s, Q, hn, h => by
   unfold drawOrder;refine A1 (chosen (by simp) fun i d hi=>?_);have e:(x::xs)[i]?=some (x::xs)[i]:=C4 hi;rw [e];dsimp only;have le:((x::xs).eraseIdx i).length=n:=by rw [Fu hi];omega
   refine A1 (Kd n _ _ _ le.symm fun ys d2 hp=>A5 ?_);exact h _ d2 ((hp.cons _).trans (erase_perm _ _ _ e))
def O9 (h:Heap)(I a:Addr)(fst:Value)(i n ep:Nat):Prop:=∃o,h.get? I=some o/\o.cls=.type "set_iterator"/\o.data=.fields #[fst,.int i 0,.ref a,.int n 0,.int ep 0]
theorem O9.ty (x:O9 s.heap I a fst i n ep):s.TypeIs (.ref I) "set_iterator":=by
 obtain⟨o,ho,hc,_⟩:=x;exact⟨o,ho,hc⟩
theorem O9.at' (x:O9 h I a fst i n ep)(e:∀o,h.get? I=some o->h'.get? I=some o):O9 h' I a fst i n ep:=by
 obtain⟨o,ho,r⟩:=x;exact⟨o,e _ ho,r⟩
theorem O9.put (x:O9 h I a fst i n ep)(k:Nat)(v:Value):∃o,(h.update I (Obj.mapFields (·.setIfInBounds k v))).get? I=some o/\o.cls=.type "set_iterator"/\o.data=.fields (#[fst,.int i 0,.ref a,.int n 0,.int ep 0].setIfInBounds k v):=by
 obtain⟨o,ho,hc,hd⟩:=x;exact⟨_,AK _ ho (Obj.isFreed_of_fields (DI hd _)),(Obj.cls_mapFields ..).trans hc,DI hd _⟩
theorem Ke (x:O9 s.heap I a fst i n ep)(h:Q (.ref I) s):wpAny (model prog w) A (pyIter (.ref I)) Q E s:=by
 refine wpAny_pyIter_slot x.ty Kc (P7 Kc x.ty Qd (show wpAny (model prog w) _ (ret (.ref I)) _ _ s from ?_) (Qf _));exact A5 ⟨_,rfl,"set_iterator",_,x.ty,Y2.lookup,h⟩
theorem Kf {Q:Option Value->Shared->Prop}(hh:A.handled=none)(h:∀h',(∀b o,h1.get? b=some o->h'.get? b=some o)->Q none { s with heap:=h' }) :
   wpAny (model prog w) A.in1 ((newExc (.type "StopIteration") []>>=fun x=>raiseNew x:Sem PySem.Fin)) Q0 (fun e s'=>wpAny (model prog w) A (do if ← isInstance e (.type "StopIteration") then pure none else throw e) Q E s') { s with heap:=h1 }:=by
 refine A1 ?_;simp only [newExc,newTuple];refine A1 (L3 ?_ (by size_fits));refine A1 (m:=firstArgMember _ _) (wpAny_of_eq (a:=X2) (by first | rfl | (simp only [firstArgMember];rfl)) ?_);refine L3 ?_ (by size_fits);simp only [raiseNew];refine A1 (wpAny_handled ?_);rw [show A.in1.handled=none from hh];refine A1 (A5 (wpAny_throw ?_));refine A1 (Do (T:="StopIteration") (b:=true) ⟨_,F2 _ rfl,rfl⟩ isSubtype_stop ?_);exact A5 (h _ fun b o e=>C0 _ (C0 _ e))
end
end SeT
end
section
namespace SeT
open PySem PySem.Spec PyProof.Rows L2
section
variable {prog:C6}{w:World}{A:Around}{E:Value->Shared->Prop}{s:Shared}{I a:Addr}{n i ep:Nat}{o:Obj}{es:Array (Int×Value)}{t:M2}
theorem Qi {slot nx:Nat}(hit:O9 s.heap I a (.int slot 0) i n ep)(ho:s.heap.get? a=some o)(hd:o.data=.set es ep t)(hf:t.fits es.size=true)(hn:es.size=n)
   (hs:∀(A:Around) (E:Value->Shared->Prop) (Q':Option (Value×Nat)->Shared->Prop),Q' (some (x,nx)) s->wpAny (model prog w) A (setNext a slot i ep) Q' E s)
   (hQ:∀h',O9 h' I a (.int nx 0) (i + 1) n ep->U5 I s.heap h'->Q (some x) { s with heap:=h' }):wpAny (model prog w) A (pyNext (.ref I)) Q E s:=by
 obtain⟨oi,hoi,hci,hdi⟩:=id hit;unfold pyNext;refine A1 (AI (Y5 (name:=A4 "__next__") hit.ty Y2 (P7 Y2 hit.ty ES ?_ (ET _))));unfold N3.«set_iterator.__next__»;refine A1 (A5 ?_);refine A1 (wpAny_fieldsOf hoi hdi ?_);dsimp only;refine A1 (BK ho hd hf ?_);rw [if_neg (by rw [hn];simp)];refine A1 (hs _ _ _ ?_);dsimp only;refine A1 (j4 hoi hdi (by simp) ?_);obtain⟨o1,e1,c1,d1⟩:=hit.put 0 (rawInt nx);have h1:O9 (s.heap.update I (Obj.mapFields (·.setIfInBounds 0 (rawInt nx)))) I a (.int nx 0) i n ep:=⟨o1,e1,c1,by rw [d1];simp [rawInt]⟩;refine A1 (j4 (s:={ s with heap:=s.heap.update I (Obj.mapFields (·.setIfInBounds 0 (rawInt nx))) }) e1 d1 (by simp) ?_);obtain⟨o2,e2,c2,d2⟩:=h1.put 1 (rawInt (i + 1));refine A5 ⟨_,rfl,A5 (hQ _ ⟨o2,e2,c2,by rw [d2];simp [rawInt]⟩ ?_)⟩;exact(P3 s.heap I _).trans (P3 _ I _)
theorem Qj {slot:Nat}(hh:A.handled=none)(hit:O9 s.heap I a (.int slot 0) i n ep)(ho:s.heap.get? a=some o)(hd:o.data=.set es ep t)(hf:t.fits es.size=true)(hn:es.size=n)
   (hs:∀(A:Around) (E:Value->Shared->Prop) (Q':Option (Value×Nat)->Shared->Prop),Q' none s->wpAny (model prog w) A (setNext a slot i ep) Q' E s)
   (hQ:∀h',(∀b o,b≠I->s.heap.get? b=some o->h'.get? b=some o)->Q none { s with heap:=h' }):wpAny (model prog w) A (pyNext (.ref I)) Q E s:=by
 obtain⟨oi,hoi,hci,hdi⟩:=id hit;unfold pyNext;refine A1 (AI (Y5 (name:=A4 "__next__") hit.ty Y2 (P7 Y2 hit.ty ES ?_ (ET _))));unfold N3.«set_iterator.__next__»;refine A1 (A5 ?_);refine A1 (wpAny_fieldsOf hoi hdi ?_);dsimp only;refine A1 (BK ho hd hf ?_);rw [if_neg (by rw [hn];simp)];refine A1 (hs _ _ _ ?_);dsimp only;refine A1 (j4 hoi hdi (by simp) ?_);exact Kf hh fun h' k=>hQ h' fun b o hb e=>k b o (((P3 s.heap I _).2 b hb).trans e)
end
end SeT
end
section
namespace SeT
open PySem PySem.Spec PyProof.Rows L2
section
variable {prog:C6}{w:World}{A:Around}{E:Value->Shared->Prop}{s:Shared}{I a tp:Addr}{n i ep:Nat}{o:Obj}{es:Array (Int×Value)}{t:M2}{ps:Array Value}
theorem Qk {p:Nat}(hit:O9 s.heap I a (.ref tp) i n ep)(ht:s.heap.IsTuple tp ps)(ho:s.heap.get? a=some o)(hd:o.data=.set es ep t)(hf:t.fits es.size=true)(hn:es.size=n)
   (hp:ps[i]?=some (.int p 0)) (he:es[p]?=some (hx,x))
   (hQ:∀h',O9 h' I a (.ref tp) (i + 1) n ep->U5 I s.heap h'->Q (some x) { s with heap:=h' }):wpAny (model prog w) A (pyNext (.ref I)) Q E s:=by
 obtain⟨oi,hoi,hci,hdi⟩:=id hit;obtain⟨ot,hot,hct,nt,hdt⟩:=ht;unfold pyNext;refine A1 (AI (Y5 (name:=A4 "__next__") hit.ty Y2 (P7 Y2 hit.ty ES ?_ (ET _))));unfold N3.«set_iterator.__next__»;refine A1 (A5 ?_);refine A1 (wpAny_fieldsOf hoi hdi ?_);dsimp only;refine A1 (BK ho hd hf ?_);rw [if_neg (by rw [hn];simp)];refine A1 (AF hot hdt ?_);dsimp only;rw [show((i:Int).toNat)=i from rfl,hp];dsimp only;refine A1 (m:=setNextDrawn a _ _) (A1 (U1 ho hd hf ?_));dsimp only;rw [if_neg (by simp)];rw [show((p:Int).toNat)=p from rfl,he];dsimp only;refine A5 ?_;refine A1 (j4 hoi hdi (by simp) ?_);obtain⟨o2,e2,c2,d2⟩:=hit.put 1 (rawInt (i + 1));refine A5 ⟨_,rfl,A5 (hQ _ ⟨o2,e2,c2,by rw [d2];simp [rawInt]⟩ ?_)⟩;exact P3 s.heap I _
theorem Ql (hh:A.handled=none)(hit:O9 s.heap I a (.ref tp) i n ep)(ht:s.heap.IsTuple tp ps)(ho:s.heap.get? a=some o)(hd:o.data=.set es ep t)(hf:t.fits es.size=true)(hn:es.size=n)
   (hp:ps[i]?=none)
   (hQ:∀h',(∀b o,b≠I->s.heap.get? b=some o->h'.get? b=some o)->Q none { s with heap:=h' }):wpAny (model prog w) A (pyNext (.ref I)) Q E s:=by
 obtain⟨oi,hoi,hci,hdi⟩:=id hit;obtain⟨ot,hot,hct,nt,hdt⟩:=ht;unfold pyNext;refine A1 (AI (Y5 (name:=A4 "__next__") hit.ty Y2 (P7 Y2 hit.ty ES ?_ (ET _))));unfold N3.«set_iterator.__next__»;refine A1 (A5 ?_);refine A1 (wpAny_fieldsOf hoi hdi ?_);dsimp only;refine A1 (BK ho hd hf ?_);rw [if_neg (by rw [hn];simp)];refine A1 (AF hot hdt ?_);dsimp only;rw [show((i:Int).toNat)=i from rfl,hp];dsimp only;refine A1 (j4 hoi hdi (by simp) ?_);obtain⟨o2,e2,c2,d2⟩:=hit.put 0 (rawInt 0);refine A1 (j4 (s:={ s with heap:=s.heap.update I (Obj.mapFields (·.setIfInBounds 0 (rawInt 0))) }) e2 d2 (by simp) ?_);exact Kf hh fun h' k=>hQ h' fun b o hb e=>k b o (((P3 _ I _).2 b hb).trans (((P3 s.heap I _).2 b hb).trans e))
theorem Qm (hh:A.handled=none){ys:List Value}{sl:Nat->Nat}(hn:es.size=ys.length)(ne:a≠I)(hd:o.data=.set es ep t)(hf:t.fits es.size=true)
   (hs:∀(i:Nat) (s:Shared) (A:Around) (E:Value->Shared->Prop) (Q':Option (Value×Nat)->Shared->Prop),s.heap.get? a=some o->i<=ys.length->Q' (ys[i]?.map fun x=>(x,sl (i + 1))) s->wpAny (model prog w) A (setNext a (sl i) i ep) Q' E s) :
   Walks prog w A I [I,a] [I] ys.length (fun i v=>ys[i]?=some v) (fun i h=>O9 h I a (.int (sl i) 0) i ys.length ep/\h.get? a=some o) where
 sub:=fun b hb=>by rw [D5.mp hb];exact B8
 frame:=fun _ _ _ st hk=>⟨st.1.at' fun o e=>hk I B8 o e,hk a (C3 _ (D5.mpr rfl)) o st.2⟩
 item:=fun i s Q E hi st hQ=>by
   have e:ys[i]?=some ys[i]:=C4 hi;refine Qi st.1 st.2 hd hf hn (x:=ys[i]) (nx:=sl (i + 1)) (fun A E Q' q=>hs i s A E Q' st.2 (W9 hi) (by rw [e];exact q)) fun h' hit' sb=>?_;exact hQ _ h' s.toks e ⟨hit',(sb.2 a ne).trans st.2⟩ fun b o hb e=>(sb.2 b (fun z=>hb (D5.mpr z))).trans e
 done:=fun s Q E st hQ=>Qj hh st.1 st.2 hd hf hn (fun A E Q' q=>hs _ s A E Q' st.2 (B3 _) (by rw [Q8 (B3 _)];exact q)) fun h' k=>hQ h' s.toks fun b o hb e=>k b o (fun z=>hb (D5.mpr z)) e
 self:=fun _ _ _ _ st hQ=>Ke st.1 hQ
theorem Qn (hh:A.handled=none){pl:List Nat}(hn:es.size=pl.length)(ne:a≠I)(nt:tp≠I)(hd:o.data=.set es ep t)(hf:t.fits es.size=true)(hps:ps=(pl.map fun(i:Nat)=>rawInt i).toArray)(hpl:∀p∈pl,p < es.size) :
   Walks prog w A I [I,a,tp] [I] pl.length (fun i v=>∃p x,pl[i]?=some p/\es[p]?=some x/\v=x.2) (fun i h=>O9 h I a (.ref tp) i pl.length ep/\h.get? a=some o/\h.IsTuple tp ps) where
 sub:=fun b hb=>by rw [D5.mp hb];exact B8
 frame:=fun _ _ _ st hk=>⟨st.1.at' fun o e=>hk I B8 o e,hk a (by simp) o st.2.1,st.2.2.at fun o e=>hk tp (by simp) o e⟩
 item:=fun i s Q E hi st hQ=>by
   have e:pl[i]?=some pl[i]:=C4 hi;have lt:=hpl _ (J6 e);have ep':ps[i]?=some (.int (pl[i]:Nat) 0):=by rw [hps,List.getElem?_toArray,F4,e];rfl
   have ex:es[pl[i]]?=some es[pl[i]]:=X0 lt;refine Qk st.1 st.2.2 st.2.1 hd hf hn ep' (hx:=es[pl[i]].1) (x:=es[pl[i]].2) ex fun h' hit' sb=>?_;exact hQ _ h' s.toks ⟨_,_,e,ex,rfl⟩ ⟨hit',(sb.2 a ne).trans st.2.1,st.2.2.at fun o e=>(sb.2 tp nt).trans e⟩ fun b o hb e=>(sb.2 b (fun z=>hb (D5.mpr z))).trans e
 done:=fun s Q E st hQ=>Ql hh st.1 st.2.2 st.2.1 hd hf hn (by rw [hps,List.getElem?_toArray,F4,Q8 (B3 _)];rfl) fun h' k=>hQ h' s.toks fun b o hb e=>k b o (fun z=>hb (D5.mpr z)) e
 self:=fun _ _ _ _ st hQ=>Ke st.1 hQ
end
end SeT
end
section
namespace SeT
open PySem PySem.Spec PyProof.Rows L2
def u7 (pl:Array Nat):Nat->Nat
 | 0=>0
 | i + 1=>pl.getD i 0 + 1
theorem Qo (hr:Rise pl.toList):∀{i:Nat},i<=pl.size->SetTable.below pl (u7 pl i)=i:=by
 intro xq
 induction xq with
 | zero =>
   intro _;obtain⟨h1,h2,h3⟩:=CU pl (u7 pl 0) hr;refine Nat.eq_zero_of_not_pos fun c=>?_;have lt:0 < pl.size:=by omega
   have:=h2 0 pl[0] c (X0 lt);exact Cd _ this
 | succ i ih =>
   intro hi;have lt:i < pl.size:=hi;have e:u7 pl (i + 1)=pl[i] + 1:=by show pl.getD i 0 + 1=_;rw [y7,X0 lt];rfl
   obtain⟨h1,h2,h3⟩:=CU pl (u7 pl (i + 1)) hr;rw [e] at h1 h2 h3 ⊢
   have a1:¬SetTable.below pl (pl[i] + 1)<=i:=fun c=>by
     have:=h3 i pl[i] c (X0 lt);omega
   have a2:¬i + 1 < SetTable.below pl (pl[i] + 1):=fun c=>by
     have l2:i + 1 < pl.size:=by omega
     have:=h2 (i + 1) pl[i + 1] c (X0 l2);have l2':i + 1 < pl.toList.length:=by simpa using l2
     have:=W7.mp hr i (i + 1) (by omega) l2' (by omega);simp only [Array.getElem_toList] at this;omega
   omega
theorem Qp {α β:Type}{f:α->β}:∀{ys:List β} {xs:List α},ys.Perm (xs.map f)->∃zs:List α,zs.Perm xs/\ys=zs.map f:=by
 intro ys xs h;generalize e:xs.map f=l at h
 induction h generalizing xs with
 | nil =>
   have:xs=[]:=by simpa using e
   subst this;exact⟨[],.refl _,rfl⟩
 | @cons b l1 l2 h1 ih =>
   match xs,e with
   | x :: xs, e =>
     rw [E9] at e;injection e with ea eb;obtain⟨zs,z1,z2⟩:=ih eb;exact⟨x::zs,z1.cons x,by rw [z2,E9,ea]⟩
 | swap a b l =>
   match xs,e with
   | x :: y :: xs, e =>
     rw [E9,E9] at e;injection e with ea eb;injection eb with ec ed;exact⟨y::x::xs,DT x y xs,by rw [E9,E9,ea,ec,ed]⟩
 | trans h1 h2 ih1 ih2 =>
   obtain⟨zs,z1,z2⟩:=ih2 e;obtain⟨us,u1,u2⟩:=ih1 z2.symm;exact⟨us,u1.trans z1,u2⟩
def dr (es:Array (Int×Value))(t:M2):Bool:=!t.plain && decide (es.size > 1)
structure SetV (w:World)(h:Heap)(a:Addr)(o:Obj)(es:Array (Int×Value))(ep:Nat)(t:M2):Prop where
 ho:h.get? a=some o
 ex:o.ExactSet
 hd:o.data=.set es ep t
 fits:t.fits es.size=true
 few:es.size<=127
 led:t.led=!(w.params.followText "set-order")
 rise:dr es t=false->Rise t.place.toList
abbrev vls (es:Array (Int×Value)):List Value:=es.toList.map (·.2)
section
variable {prog:C6}{w:World}{A:Around}{E:Value->Shared->Prop}{s:Shared}{a:Addr}{ep:Nat}{o:Obj}{es:Array (Int×Value)}{t:M2}
theorem SetK.toV (S:SetK prog w h a o es ep t xs):SetV w h a o es ep t:=⟨S.ho,S.ex,S.hd,S.fits,by
 have:=S.few;rw [S.sz]
 rcases S.tb.mask with z | z | z <;> rw [z] at this <;> omega,S.led,fun _=>S.tb.rise⟩
theorem EU (h:Q (w.params.followText "set-order") s):wpAny (model prog w) A setsByText Q E s:=A1 (Dn (A5 h))
theorem Qq (S:SetV w h0 a o es ep t)(ho:s.heap.get? a=some o)(hb:w.params.followText "set-order"=false)(hd:dr es t=false)(hi:i<=es.size)
   (h:Q ((vls es)[i]?.map fun x=>(x,u7 t.place (i + 1))) s):wpAny (model prog w) A (setNext a (u7 t.place i) i ep) Q E s:=by
 have sp:t.place.size=es.size:=by
   have:=S.fits;unfold SetTable.fits at this;simp only [P2,beq_iff_eq] at this;exact this.1
 unfold setNext;refine A1 (U1 ho S.hd S.fits ?_);dsimp only;refine A1 (EU ?_);rw [hb];simp only [F7,↓reduceIte];have e1:(!t.plain && decide (es.size > 1))=false:=hd;show wpAny _ _ (if(!t.plain && decide (es.size > 1))=true then _ else _) _ _ _;rw [e1];simp only [F7,↓reduceIte];have el:t.led=true:=by rw [S.led,hb];rfl
 refine A1 (show wpAny _ _ (if(!t.led && !es.isEmpty)=true then _ else _) _ _ _ from ?_);rw [el];simp only [y4,Z1,F7,↓reduceIte];refine A5 ?_;rw [Qo (S.rise hd) (by omega)];refine A5 ?_;rw [F4,M9] at h;cases ex:es[i]? with
 | none=>rw [ex] at h;exact h
 | some y =>
   rw [ex] at h;have lt:i < t.place.size:=by rw [sp];exact(Fz.mp ex).1
   rw [X0 lt];have:u7 t.place (i + 1)=t.place[i] + 1:=by show t.place.getD i 0 + 1=_;rw [y7,X0 lt];rfl
   rw [this] at h;exact h
theorem Qr (S:SetV w h0 a o es ep t)(ho:s.heap.get? a=some o)(hb:w.params.followText "set-order"=true)
   (h:Q ((vls (pickOrder (w.params.setOrder a ep) es))[i]?.map fun x=>(x,0)) s):wpAny (model prog w) A (setNext a 0 i ep) Q E s:=by
 unfold setNext;refine A1 (U1 ho S.hd S.fits ?_);dsimp only;refine A1 (EU ?_);rw [hb];simp only [↓reduceIte];rw [if_neg (by simp)];refine A1 (m:=setWalk a) ?_;unfold setWalk;refine A1 (U1 ho S.hd S.fits ?_);dsimp only;refine A1 (EU ?_);rw [hb];simp only [↓reduceIte];refine A1 (Dn (A5 (A5 ?_)));rw [F4,M9,Option.map_map] at h;exact h
theorem Qs {Q:Value->Shared->Prop}(hh:A.handled=none)(S:SetV w s.heap a o es ep t)
   (hQ:∀(h':Heap) (d:_) (I:Addr) (fp:List Addr) (ys:List Value) (P:Nat->Value->Prop) (St:Nat->Heap->Prop),(∀b o,s.heap.get? b=some o->h'.get? b=some o)->s.heap.objs.size<=I->I < h'.objs.size->(∀b∈fp,b=a\/s.heap.objs.size<=b)->ys.Perm (vls es)->
     (∀i v,P i v->ys[i]?=some v)->Walks prog w A I fp [I] es.size P St->St 0 h'->Q (.ref I) { s with heap:=h',drawn:=d }):wpAny (model prog w) A (pyIter (.ref a)) Q E s:=by
 have hT:s.TypeIs (.ref a) "set":=⟨o,S.ho,S.ex.1⟩;have la:a < s.heap.objs.size:=B4 S.ho;refine wpAny_pyIter_slot hT F.slot_set_iter (P7 F.slot_set_iter hT Qe ?_ (F.args_set_iter_1 _));unfold N3.«frozenset.__iter__» Builtin.Frozenset.slot0 Builtin.Frozenset.sizeOf;refine A1 (A1 (A5 (A5 ?_)));refine A1 (A1 (BK S.ho S.hd S.fits (A5 ?_)));unfold setDrawn;refine A1 (A1 (U1 S.ho S.hd S.fits ?_));dsimp only;refine A1 (EU (A5 ?_));show wpAny _ _ (if(!(w.params.followText "set-order") && dr es t)=true then _ else _) _ _ _
 by_cases c:(!(w.params.followText "set-order") && dr es t)=true
 · rw [if_pos c];refine A1 (Kd es.size (E6 es.size) _ _ (by simp) fun pl d hp=>?_);have lp:pl.length=es.size:=by rw [hp.length_eq,AQ]
   have lt:∀p∈pl,p < es.size:=fun p h=>L6.mp (hp.mem_iff.mp h);have few:=S.few;refine A1 (wpAny_newTuple ?_ (by rw [J1,A9];omega));have g1:(s.heap.push { cls:=.type "tuple",data:=.seq (pl.map fun(i:Nat)=>rawInt i).toArray }).get? a=some o:=C0 _ S.ho;refine A1 (m:=setEpoch a) (A1 (U1 (s:={ s with drawn:=d,heap:=s.heap.push { cls:=.type "tuple",data:=.seq (pl.map fun(i:Nat)=>rawInt i).toArray } }) g1 S.hd S.fits (A5 ?_)));refine A1 (L3 (A5 ⟨_,rfl,"set_iterator",_,⟨_,F2 _ rfl,rfl⟩,Y2.lookup,?_⟩));have sz1:(s.heap.push { cls:=.type "tuple",data:=.seq (pl.map fun(i:Nat)=>rawInt i).toArray }).objs.size=s.heap.objs.size + 1:=j9 ..;refine hQ _ d (s.heap.push { cls:=.type "tuple",data:=.seq (pl.map fun(i:Nat)=>rawInt i).toArray }).objs.size [(s.heap.push { cls:=.type "tuple",data:=.seq (pl.map fun(i:Nat)=>rawInt i).toArray }).objs.size,a,s.heap.objs.size] (pl.map fun p=>(vls es).getD p .none) _ _ (fun b o e=>C0 _ (C0 _ e)) (by simp) (Nat.lt_of_lt_of_eq (Cc _) (j9 ..).symm) (fun b hb=>?_) ?_ ?_ (lp▸Qn (es:=es) (o:=o) (t:=t) (ep:=ep) (tp:=s.heap.objs.size) (pl:=pl) hh lp.symm (by grind) (by simp) S.hd S.fits rfl lt) ?_
   · grind
   · exact(Ka (vls es) pl .none (by grind)).2
   · grind
   · refine⟨⟨_,F2 _ rfl,rfl,?_⟩,C0 _ g1,⟨_,C0 _ (F2 _ rfl),rfl,0,rfl⟩⟩;show Cp _=Cp _
     first | rfl | (rw [lp];rfl)
 · rw [if_neg c];refine A1 (A5 ?_);refine A1 (m:=setEpoch a) (A1 (U1 S.ho S.hd S.fits (A5 ?_)));refine A1 (L3 (A5 ⟨_,rfl,"set_iterator",_,⟨_,F2 _ rfl,rfl⟩,Y2.lookup,?_⟩))
   have go:∀(ys:List Value) (sl:Nat->Nat),sl 0=0->ys.Perm (vls es)->(∀(i:Nat) (s:Shared) (A:Around) (E:Value->Shared->Prop) (Q':Option (Value×Nat)->Shared->Prop),s.heap.get? a=some o->i<=ys.length->Q' (ys[i]?.map fun x=>(x,sl (i + 1))) s->wpAny (model prog w) A (setNext a (sl i) i ep) Q' E s)->Q (.ref s.heap.objs.size) { s with heap:=s.heap.push { cls:=.type "set_iterator",data:=.fields #[rawInt 0,rawInt 0,.ref a,rawInt es.size,rawInt ep] } }:=by
     intro ys sl h0 pm hs;have lp:ys.length=es.size:=by rw [pm.length_eq,A9,J9]
     refine hQ _ s.drawn s.heap.objs.size [s.heap.objs.size,a] ys (fun i v=>ys[i]?=some v) _ (fun b o e=>C0 _ e) (B3 _) (by simp) (fun b hb=>?_) pm (fun _ _ e=>e) (lp▸Qm (es:=es) (o:=o) (t:=t) (ep:=ep) (ys:=ys) (sl:=sl) hh lp.symm (C9 la) S.hd S.fits hs) ?_
     · grind
     · refine⟨⟨_,F2 _ rfl,rfl,?_⟩,C0 _ S.ho⟩;show Cp _=Cp _;rw [h0]
       rfl
   by_cases cb:w.params.followText "set-order"=true
   · exact go (vls (pickOrder (w.params.setOrder a ep) es)) (fun _=>0) rfl ((Qh (w.params.setOrder a ep) es).map _) fun i s' A E Q' e hi q=>Qr S e cb q
   · have cb':w.params.followText "set-order"=false:=by simpa using cb
     have cd:dr es t=false:=by
       rw [cb'] at c
       simpa using c
     exact go (vls es) (u7 t.place) rfl (.refl _) fun i s' A E Q' e hi q=>Qq S e cb' cd (by grind) q
end
end SeT
end
section
namespace SeT
open PySem PySem.W PySem.Spec PyProof.Rows L2
section
variable {prog:C6}{w:World}{A:Around}{E:Value->Shared->Prop}{s:Shared}{a:Addr}{ep:Nat}{o:Obj}{es:Array (Int×Value)}{t:M2}
theorem Qt (hT:s.TypeIs (.ref r) "set")(h:Q false s):wpAny (model prog w) A (FG (.ref r)) Q E s:=by
 unfold FG;refine A1 (AE hT PySem.F.slot_set_len.lookup ?_);generalize hid:("set.__len__":String)=id0
 wp_delta
 rw [show splitId id0=some ("set","__len__") from by subst hid;decide +kernel];subst hid;refine A1 (Do (T:="set") (b:=true) hT (by rw [i9];kernel_rfl) ?_);refine wpAny_ite_split (fun z=>absurd z (by decide)) fun _=>?_;refine wpAny_ite_split (fun _=>A1 (j6 hT (A5 h))) fun z=>absurd (by decide +kernel) z
theorem Qu (S:SetV w s.heap a o es ep t)(hh:A.handled=none)(L:Addr)(ne:L≠a)(res:Value)(c₀:Nat)(hL:s.heap.get? L=some { cls:=.type "list",data:=.seq #[] c₀ })
   (hR:∀h' d tk c' (ys:List Value),(∀b o,b≠L->s.heap.get? b=some o->h'.get? b=some o)->h'.get? L=some { cls:=.type "list",dict:=none,data:=.seq ys.toArray c',slots:=#[] }->ys.Perm (vls es)->R (.ok (.ret res)) { s with heap:=h',drawn:=d,toks:=tk }) :
   wpAny (model prog w) A.in1 (DP (.ref L) (.ref a) res)
     (fun fin s'=>match fin with | .done f=>R (.ok f) s' | .again c'=>c'.quiet=true/\L5 (model prog w) A c' R s') (fun e s'=>R (.error e) s') s:=by
 have hT:s.TypeIs (.ref a) "set":=⟨o,S.ho,S.ex.1⟩;have lL:L < s.heap.objs.size:=B4 hL
 have few:es.size<=B9:=by
   have:=S.few;rw [J1];omega
 unfold DP;refine A1 (j6 (T:="set") hT ?_);have h1:DQ (.ref L) (.ref a)=false:=by simp [DQ,ne]
 have h2:(K1 "set" == K1 "list")=false:=by decide
 have h3:(K1 "set" == K1 "tuple")=false:=by decide
 simp only [h1,h2,h3,AV,F7,if_false];refine A1 (Qs (A:=A.in1) hh S fun h1 d I fp ys P St k1 hI hI2 hfp pm hP W st=>?_);have nI:L≠I:=C9 (J4 lL hI);have nf:L∉fp:=fun z=>(hfp L z).elim ne fun z=>absurd lL (Nat.not_lt.mpr z);have hL1:=k1 _ _ hL
 have key:∀(h:Heap) (c₁ tk:Nat),St 0 h->(∀b o,b≠L->s.heap.get? b=some o->h.get? b=some o)->
     h.get? L=some { cls:=.type "list",data:=.seq #[] c₁ }->L5 (model prog w) A (.builtin "list.extend.loop" ⟨[.ref L,.ref I,res],[]⟩) R { s with heap:=h,drawn:=d,toks:=tk }:=by
   intro h c₁ tk hst hk hS₁;refine codeAny_extend_loopS W.toS few L nf res es.size 0 _ #[] c₁ rfl (G0 _) hst hS₁ (ItemsOf.nil _) fun s' acc' c' hm hS' hacc=>?_;rw [Moved.eq_with hm]
   have ea:acc'=ys.toArray:=by
     apply Array.toList_inj.mp
     rw [Dy]
     apply List.ext_getElem?
     intro i;rw [M9];cases e:acc'[i]? with
     | none =>
       symm
       rw [List.getElem?_eq_none_iff,pm.length_eq,A9,J9];have:=Array.getElem?_eq_none_iff.mp e;rw [hacc.1] at this;exact this
     | some v=>exact(hP i v (hacc.2 i v e)).symm
   refine hR s'.heap d s'.toks c' ys (fun b o hb e=>hm.heap b o (fun hmem=>?_) (hk b o hb e)) (by rw [<- ea];exact hS') pm;rcases C5.mp hmem with e' | hmem
   · exact hb e'
   · exact absurd (B4 e) (by rw [D5.mp hmem];exact Nat.not_lt.mpr hI)
 refine A1 (G6 (Qt (s:={ s with heap:=h1,drawn:=d }) ⟨o,k1 _ _ S.ho,S.ex.1⟩ ?_));refine wpAny_ite_split (fun _=>?_) (fun _=>A5 ⟨V9 PySem.F.plain_extend_loop _,key _ c₀ _ st (fun b o _ e=>k1 b o e) hL1⟩);refine A1 (j7 ?_);refine A1 (show wpAny (model prog w) _ (updateSeq L (·.push .none)>>=fun _=>updateSeq L (·.pop)) _ _ _ from ?_);refine A1 (wpAny_updateSeq hL1 rfl ?_);have hS₂:=AK (E7 (·.push X2)) hL1 rfl;refine wpAny_updateSeq (hz:=by seq_fits) hS₂ rfl ?_;have hS₃:=AK (E7 (·.pop)) hS₂ rfl;refine A5 ⟨V9 PySem.F.plain_extend_loop _,key _ _ _ ?_ (fun b o hb e=>?_) hS₃⟩
 · refine W.frame 0 _ _ st fun b hb o e=>?_;have hbS:b≠L:=fun h=>nf (h▸hb);exact(AJ _ _ (Ne.symm hbS)).trans ((AJ _ _ (Ne.symm hbS)).trans e)
 · exact(AJ _ _ (Ne.symm hb)).trans ((AJ _ _ (Ne.symm hb)).trans (k1 b o e))
theorem Qv (S:SetV w s.heap a o es ep t)(hh:A.handled=none)
   (h:∀(h':Heap) (d:_) (tk:Nat) (ys:List Value),(∀b o,s.heap.get? b=some o->h'.get? b=some o)->s.heap.objs.size<=h'.objs.size->ys.Perm (vls es)->R ys { s with heap:=h',drawn:=d,toks:=tk }) :
   wpAny (model prog w) A (collect (.ref a)) R E s:=by
 unfold collect;refine A1 (wpAny_runValue (U2 entry_proto_collect' ?_));rw [X1 PySem.F.plain_proto_collect _];refine(show wpAny (model prog w) A.in1 (newList []>>=fun l=>again (.builtin "list.__iadd__" ⟨[l,.ref a],[]⟩)) _ _ s from ?_);refine A1 (L3 (A5 ⟨V9 PySem.F.plain_list_iadd _,U2 entry_list_iadd' ?_⟩));rw [X1 PySem.F.plain_list_iadd _];have hS:(s.heap.push { cls:=.type "list",data:=.seq ([]:List Value).toArray }).get? s.heap.objs.size=some { cls:=.type "list",data:=.seq #[] }:=F2 _ rfl;have S1:SetV w (s.heap.push { cls:=.type "list",data:=.seq ([]:List Value).toArray }) a o es ep t:=⟨C0 _ S.ho,S.ex,S.hd,S.fits,S.few,S.led,S.rise⟩
 have key:=Qu (prog:=prog) (A:=A) (s:={ s with heap:=s.heap.push { cls:=.type "list",data:=.seq ([]:List Value).toArray } })
   (R:=fun(q:Result) (s':Shared)=>∃(h':Heap) (d:_) (tk:Nat) (ys:List Value) (c:Nat),q=.ok (.ret (.ref s.heap.objs.size))/\s'={ s with heap:=h',drawn:=d,toks:=tk }/\
     (∀b o,s.heap.get? b=some o->h'.get? b=some o)/\h'.get? s.heap.objs.size=some { cls:=.type "list",dict:=none,data:=.seq ys.toArray c,slots:=#[] }/\ys.Perm (vls es))
   S1 hh s.heap.objs.size (x9 (B4 S.ho)) (.ref s.heap.objs.size) 0 hS
   (fun h' d tk c ys hk hS' hp=>⟨h',d,tk,ys,c,rfl,rfl,fun b o e=>hk b o (C9 (B4 e)) (C0 _ e),hS',hp⟩)
 refine G7 key (fun fin s' x=>?_) fun e s' x=>?_
 · cases fin with
   | done f =>
     obtain⟨h',d,tk,ys,c,e,rfl,hk,hS',hp⟩:=x;cases e;refine A1 (wpAny_load hS' (A5 ?_));have:=h h' d tk ys hk (W9 (B4 hS')) hp
     simpa using this
   | again c₁ =>
     refine⟨x.1,w4 x.2 fun q s₂ y=>?_⟩;obtain⟨h',d,tk,ys,c,rfl,rfl,hk,hS',hp⟩:=y;refine A1 (wpAny_load hS' (A5 ?_));have:=h h' d tk ys hk (W9 (B4 hS')) hp
     simpa using this
 · obtain⟨_,_,_,_,_,e',_⟩:=x;cases e'
end
end SeT
end
section
namespace SeT
open PySem PySem.W PySem.Spec PyProof.Rows L2
abbrev rfs (ys:List (List Key×Addr)):List Value:=ys.map fun y=>K7 y.2
abbrev kks (ys:List (List Key×Addr)):List (List Key):=ys.map (·.1)
section
variable {prog:C6}{w:World}{A:Around}{E:Value->Shared->Prop}{s:Shared}{a:Addr}{ep:Nat}{o:Obj}{es:Array (Int×Value)}{t:M2}
theorem Qw {α:Type}{m:Nat}{Q:Value->Shared->Prop}(S:SetV w s.heap a o es ep t)(hh:A.handled=none)(xs:List α)(f:α->Value)(g:α->List Key)(ev:vls es=xs.map f)(h64:xs.length < 64)(pk:∀x∈xs,Kv1 s.heap m (f x) (g x))(al:t9 (xs.map g))
   (h:∀ys h2 d tk D e,List.Perm ys xs->(∀b o,s.heap.get? b=some o->h2.get? b=some o)->s.heap.objs.size<=D->h2.get? D=some (seqObj "list" (R6 (ltIx (ys.map g)) (ys.map f)).toArray e)->Q (.ref D) { s with heap:=h2,drawn:=d,toks:=tk }) :
   wpAny (model prog w) A (call (.builtin "sorted") [.ref a]) Q E s:=by
 refine Calls.call_function_entry kind_sorted plain_sorted entry_sorted (args_sorted1 _) ?_;unfold N3.«sorted»;refine A1 (m:=checkCount "sorted" 1 1 _) (A5 ?_);refine A1 (Qv (A:=A.in1) S hh fun h1 d tk vs k1 z1 pv=>?_);rw [ev] at pv;obtain⟨ys,pm,rfl⟩:=Qp pv;have ly:=pm.length_eq;refine A1 (BO ?_ (by rw [J1,A9];omega));have hoL:(h1.push (seqObj "list" (ys.map f).toArray 0)).get? h1.objs.size=some (seqObj "list" (ys.map f).toArray 0):=F2 _ rfl;have kL:∀b o,s.heap.get? b=some o->(h1.push (seqObj "list" (ys.map f).toArray 0)).get? b=some o:=fun b o e=>C0 _ (k1 b o e);have ne:∀b o,s.heap.get? b=some o->b≠h1.objs.size:=fun b o e=>C9 (J4 (B4 e) z1)
 have pk1:Paired (Kv1 s.heap m) (ys.map f) (ys.map g):=by
   have hy:∀y∈ys,Kv1 s.heap m (f y) (g y):=fun y hy=>pk y (pm.mem_iff.mp hy);clear hoL kL pm ly pv
   induction ys with
   | nil=>exact .nil
   | cons y ys ih=>exact .cons (hy y B8) (ih fun z hz=>hy z (C3 _ hz))
 have al1:t9 (ys.map g):=fun x hx y hy=>al x ((pm.map g).mem_iff.mp hx) y ((pm.map g).mem_iff.mp hy);refine A1 (G6 (P7 slot_list_sort ⟨_,hoL,rfl⟩ entry_list_sort ?body (args_list_sort _)))
 case body=>
   refine Jl (lt:=ltIx (ys.map g)) (s:={ s with heap:=h1.push (seqObj "list" (ys.map f).toArray 0),drawn:=d,toks:=tk }) hoL (by rw [A9];omega) (fun l2 h3 k3=>?_) fun h3 e k3 e3=>?_
   · exact Jq (s:={ s with drawn:=d }) l2 pk1 al1 _ _ h3 tk fun b o x=>k3 b o (ne b o x) (kL b o x)
   · exact⟨_,rfl,A5 ⟨_,rfl,h ys h3 d tk _ e pm (fun b o x=>k3 b o (ne b o x) (kL b o x)) z1 e3⟩⟩
end
theorem Qx (h:us.length < 64):(outV (ltIx kss) us).length<=B9:=by
 rw [J1];unfold outV
 split
 · omega
 · rw [A9,J9,(Kr.sort_ok (EC kss) (by omega)).2.1];omega
theorem items_are {prog:C6}{w:World}:∀{ks:List Key} {vs:List Value},t8 ks vs->ItemsAre (L9 prog w) ks vs:=by
 intro ks vs h
 induction h with
 | nil=>exact .nil
 | @cons k v ks vs h1 _ ih =>
   refine .cons ?_ ih
   match k,h1 with
   | .inl i,⟨t,e⟩=>subst e;exact HJ _ _ _ _
   | .inr z,⟨t,e⟩=>subst e;exact DU _ _ _ _
theorem is_of (x:TupK h (.ref r) k):(TK prog w).is h k r:=by
 obtain⟨a,o,items,n,e,ho,hc,hd,hk⟩:=x;cases e;exact⟨o,items,n,ho,hc,hd,items_are hk⟩
section
variable {X:Cx}
def SetO (X:Cx)(p:Addr)(rs:List (List Key×Addr)):HO:=.ext fun h=>∃h0 o es ep t xs,SetK X.prog X.w h0 p o es ep t xs/\h.get? p=some o/\(∀x∈xs,x∈rs)/\∀x∈rs,x.1∈kks xs
theorem Qy {K:A3}(p:Paired (KM K H 2) ys kss):∃rs:List (List Key×Addr),kks rs=kss/\(rs.map fun y=>V.ref y.2)=ys/\∀y∈rs,SqT K H y.2 (y.1.map kV)/\y.1≠[]:=by
 induction p with
 | nil=>exact⟨[],rfl,rfl,fun _ z=>nomatch z⟩
 | cons h1 _ ih =>
   obtain⟨rs,e1,e2,e3⟩:=ih;obtain⟨a,rfl,hq,hne⟩:=h1;refine⟨(_,a)::rs,by rw [<- e1];rfl,by rw [<- e2];rfl,fun y hy=>?_⟩;rcases C5.mp hy with rfl | hy
   · exact⟨hq,hne⟩
   · exact e3 y hy
theorem Kg:∀(rs:List (List Key×Addr)) {its:List Value},Vals (rs.map fun y=>V.ref y.2) its->its=rfs rs:=by
 intro xq
 induction xq with
 | nil =>
   intro _ h;cases h;rfl
 | cons y rs ih =>
   intro _ h;cases h with
   | cons h1 h2=>rw [ih h2,show _=K7 y.2 from h1];rfl
theorem Qz (hc:X.calm=true)(hu:X.A.units + 64 < cLine):K2 X (.type "set") (fun vs H Q=>∃a ys kss,vs=[.ref a]/\(SqL X.K H a ys\/SqT X.K H a ys)/\Paired (KM X.K H 2) ys kss/\ys.length<=63/\
   ∀p rs,H p=none->kks rs=kss->(rs.map fun y=>V.ref y.2)=ys->(∀y∈rs,SqT X.K H y.2 (y.1.map kV)/\y.1≠[])->Q (.ref p) (upd H p (SetO X p rs))):=by
 intro pins s σ H vs us Q I rv h;obtain⟨a,ys,kss,rfl,hq,hp,hl,q⟩:=h;obtain⟨u,rfl,ru⟩:=rv.one;obtain rfl:u=.ref a:=ru;obtain⟨rs,e1,rfl,e3⟩:=Qy hp;have hk:∀y∈rs,(TK X.prog X.w).is s.heap y.1 y.2:=fun y hy=>is_of (GU I (e3 y hy).1);rw [A9] at hl
 have fin:∀(h':Heap) (tk:Nat),Holds X.prog X.w h' s.heap.objs.size rs->(∀b o,b < s.heap.objs.size->s.heap.get? b=some o->h'.get? b=some o)->EP X pins σ Q (.ref s.heap.objs.size) { s with heap:=h',toks:=tk }:=fun h' tk so kp=>by
   obtain⟨o,es,ep,t,xs,S1,S2,S3⟩:=so
   have I1:Inv X pins σ (upd H s.heap.objs.size (SetO X s.heap.objs.size rs)) { s with heap:=h',toks:=tk }:=
     I.laid (fun b o e=>kp b o (B4 e) e) (B3 _) ⟨⟨h',o,es,ep,t,xs,S1,S1.ho,S2,S3⟩,⟨o,S1.ho⟩,fun h1 h2 x k2=>by
       obtain⟨h0,o,es,ep,t,xs,S1,g,S2,S3⟩:=x
       exact⟨h0,o,es,ep,t,xs,S1,k2 o g,S2,S3⟩⟩
   exact⟨.ref s.heap.objs.size,_,I1,rfl,q _ rs (I.hok.fresh (B3 _)) e1 rfl e3⟩
 rcases hq with hq | hq
 · obtain⟨its,r,pl,_⟩:=I.list hq;refine Kb (rs:=rs) (I.ok.hd hc) hu (.inl pl.isList) ?_ hk hl fin;rw [Dy];exact Kg rs r
 · obtain⟨its,r,ht,_⟩:=I.tuple hq;refine Kb (rs:=rs) (I.ok.hd hc) hu (.inr ht) ?_ hk hl fin;rw [Dy];exact Kg rs r
theorem inv_dr (I:Inv X pins σ H s)(d:_):Inv X pins σ H { s with drawn:=d }:=⟨I.ok,I.os,I.bare,I.base,I.loc,I.cell,I.free,I.freeC,I.pin,I.hok,I.len⟩
theorem QB (hc:X.calm=true):K2 X (.builtin "sorted") (fun vs H Q=>∃p rs,vs=[.ref p]/\H p=some (SetO X p rs)/\rs.length < 64/\(∀y∈rs,SqT X.K H y.2 (y.1.map kV)/\y.1≠[])/\t9 (kks rs)/\
   ∀l zs,H l=none->(kks zs).Nodup->(∀z∈zs,z∈rs)->(∀y∈rs,y.1∈kks zs)->Q (.ref l) (upd H l (.lst (outV (ltIx (kks zs)) (zs.map fun z=>V.ref z.2))))):=by
 intro pins s σ H vs us Q I rv h;obtain⟨p,rs,rfl,e,h64,hk,al,q⟩:=h;obtain⟨u,rfl,ru⟩:=rv.one;obtain rfl:u=.ref p:=ru;obtain⟨⟨h0,o,es,ep,t,xs,S0,g,S2,S3⟩,_,_⟩:=I.hok p _ e;have tk:∀x∈xs,TupK s.heap (.ref x.2) x.1:=fun x hx=>GU I (hk x (S2 x hx)).1;have S:SetK X.prog X.w s.heap p o es ep t xs:=⟨g,S0.ex,S0.hd,S0.hes,(fun x hx=>is_of (tk x hx)),S0.nd,S0.tb,S0.few,S0.led⟩;have lx:xs.length < 64:=Ca (Holds.len S S2) h64;refine Qw (m:=2) S.toV (I.ok.hd hc) xs (fun x=>K7 x.2) (·.1) (by unfold vls;rw [S.hes,U7];rfl) lx (fun x hx=>⟨tk x hx,(hk x (S2 x hx)).2⟩) (fun x hx y hy=>?_) fun ys h2 d t2 D e pm k hD ho=>?_
 · obtain⟨x',hx',rfl⟩:=F5.mp hx;obtain⟨y',hy',rfl⟩:=F5.mp hy;exact al _ (F5.mpr ⟨x',S2 x' hx',rfl⟩) _ (F5.mpr ⟨y',S2 y' hy',rfl⟩)
 · have vv:Vals (ys.map fun y=>V.ref y.2) (rfs ys):=by
     clear pm ho
     induction ys with
     | nil=>exact .nil
     | cons y ys ih=>exact .cons rfl ih
   have vo:=Jr vv (EC (kks ys));have ly:ys.length=xs.length:=pm.length_eq;have hlo:(outV (ltIx (kks ys)) (ys.map fun y=>V.ref y.2)).length<=B9:=Qx (by rw [A9];omega);have I1:=inv_dr (I.laid (t':=t2) k hD (show G8 X.prog X.w _ h2 _ (.lst _) from⟨hlo,_,e,vo,ho⟩)) d;exact⟨.ref D,_,I1,rfl,q _ ys (I.hok.fresh hD) ((pm.map (·.1)).nodup_iff.mpr S.nd) (fun z hz=>S2 z (pm.mem_iff.mp hz)) fun y hy=>(pm.map (·.1)).mem_iff.mpr (S3 y hy)⟩
end
end SeT
end
section
namespace SeT
open PySem PySem.W PySem.Spec PyProof.Rows L2
section
variable {X:Cx}
def tMo (t:TE):TE:=fun σ H Q=>∃Q',t σ H Q'/\∀v H',Q' v H'->Q v H'
theorem pe_mo (h:PE X e t):PE X e (tMo t):=by
 intro pins s σ H Q I ⟨Q',h1,h2⟩;exact G7 (h pins s σ H Q' I h1) (fun u s' ⟨v,H',I',r,q⟩=>⟨v,H',I',r,h2 _ _ q⟩) fun _ _ e=>e
def QC (K:A3)(t:TE):TE:=fun σ H Q=>∃Q',t σ H Q'/\∀x H1,Q' x H1->∃a ys kss,x=.ref a/\(SqL K H1 a ys\/SqT K H1 a ys)/\Paired (KM K H1 2) ys kss/\ys.length<=63/\t9 kss/\
 ∀H2 l rs zs,Same H1 H2->H2 l=none->kks rs=kss->(rs.map fun y=>V.ref y.2)=ys->(kks zs).Nodup->(∀z∈zs,z∈rs)->(∀y∈rs,y.1∈kks zs)->Q (.ref l) (upd H2 l (.lst (outV (ltIx (kks zs)) (zs.map fun z=>V.ref z.2))))
theorem QD {K:A3}(h:SqT K H a xs)(s:Same H H'):SqT K H' a xs:=by
 rcases h with h | h
 · left;rcases h with h | ⟨o,h⟩
   · exact .inl (s _ _ h)
   · exact .inr ⟨o,s _ _ h⟩
 · exact .inr h
theorem QF (hc:X.calm=true)(hr:Room k X.A)(g1:Gl X "sorted")(m1:X.mg "sorted"=none)(g2:Gl X "set")(m2:X.mg "set"=none)(he:PE X e t)(hs:E3 [e] X.env=(false,eval e X.env)::E3 [] X.env) :
   PE X (.Call (.Name "sorted" p1) [.Call (.Name "set" p2) [e] [] pos2] [] pos) (QC X.K t):=by
 have i1:=Bj (p:=p2) (pos:=pos2) (Qz hc hr.units) g2 m2 Gi (E1 (pe_mo he) F8 hs) (by decide) (by decide) hs rfl;have i2:=Z5 (p:=p1) (pos:=pos) (QB hc) g1 m1 Gg (E1 i1 F8 rfl) (by decide) (by decide) rfl rfl;intro pins s σ H Q I ⟨Q',h1,h2⟩;refine i2 pins s σ H Q I ⟨Q',h1,fun x H1 hx=>?_⟩;obtain⟨a,ys,kss,rfl,hq,hp,hl,al,q⟩:=h2 x H1 hx;refine⟨a,ys,kss,rfl,hq,hp,hl,fun p rs hn ek eu hk=>?_⟩;have sm:Same H1 (upd H1 p (SetO X p rs)):=(Same.refl _).lay hn;refine⟨p,rs,rfl,E8,?_,fun y hy=>⟨QD (hk y hy).1 sm,(hk y hy).2⟩,by rw [ek];exact al,fun l zs hl nd z1 z2=>q _ l rs zs sm hl ek eu nd z1 z2⟩;have:rs.length=ys.length:=by rw [<- eu,A9]
 omega
end
end SeT
namespace Pu
open PySem PySem.Spec L2
def BE (xs:List PV):Prop:=(∀x∈xs,∃ks,x=.tup (ks.map kP)/\ks≠[])/\∀x∈xs,∀y∈xs,Al (keyP x) (keyP y)
def SrtS (ys xs:List PV):Prop:=ys.Nodup/\(∀y,y∈ys↔y∈xs)/\ys.Pairwise fun a b=>lexK (keyP b) (keyP a)=false
def wSet (R:List PV->Prop)(xs:List PV):Prop:=xs.length<=63/\BE xs/\∀ys,SrtS ys xs->R ys
def Az (pe:pE):pA:=fun env n R=>pe env n fun x env1 n1=>match x with | .lst xs=>wSet (fun ys=>R ys env1 n1) xs | .tup xs=>wSet (fun ys=>R ys env1 n1) xs | _=>False
abbrev zP (z:List Key×Addr):PV:=.tup (z.1.map kP)
theorem keyP_z (z:List Key×Addr):keyP (zP z)=z.1:=b9 z.1
theorem zP_inj {ks js:List Key}(h:(PV.tup (ks.map kP))=.tup (js.map kP)):ks=js:=by rw [<- b9 ks,h,b9]
section
variable {T:PotK}{ι:Type}{K:A3}{F:ι->Cx}{e:Expr}{pe:pE}{pos:Pos}
theorem Kh:∀{xs:List PV} {rs:List (List Key×Addr)},Reps K G H xs (rs.map fun y=>V.ref y.2)->SeT.kks rs=xs.map keyP->(∀x∈xs,∃ks,x=.tup (ks.map kP)/\ks≠[])->xs=rs.map zP/\∀z∈rs,Rep K G H (zP z) (.ref z.2)
 | [],[],_,_,_=>⟨rfl,fun _ z=>nomatch z⟩
 | [],_::_,h,_,_=>by cases h
 | x :: xs, [], h, _, _ => by
   obtain⟨_,_,e,_⟩:=h;cases e
 | x :: xs, r :: rs, h, hk, hx => by
   obtain⟨v,t,e,h1,h2⟩:=h;rw [E9] at e;injection e with e1 e2;subst e1;subst e2;have hk':r.1::SeT.kks rs=keyP x::xs.map keyP:=hk;injection hk' with k1 k2;obtain⟨a1,a2⟩:=Kh h2 k2 fun y hy=>hx y (C3 _ hy);obtain⟨ks,rfl,_⟩:=hx x B8;rw [b9] at k1;have ez:zP r=.tup (ks.map kP):=by show PV.tup (r.1.map kP)=_;rw [k1]
   refine⟨by rw [E9,ez,<- a1],fun z hz=>?_⟩;rcases C5.mp hz with rfl | hz
   · rw [ez];exact h1
   · exact a2 z hz
theorem QH:∀(zs:List (List Key×Addr)),(∀z∈zs,Rep K G H (zP z) (.ref z.2))->Reps K G H (zs.map zP) (zs.map fun z=>V.ref z.2):=by
 intro xq
 induction xq with
 | nil =>
   intro _;exact rfl
 | cons z zs ih =>
   intro h;exact⟨_,_,rfl,h z B8,ih fun y hy=>h y (C3 _ hy)⟩
theorem SrtS.of {rs:List (List Key×Addr)}(e:xs=rs.map zP)(nd:(SeT.kks zs).Nodup)(h1:∀z∈zs,z∈rs)(h2:∀y∈rs,y.1∈SeT.kks zs):SrtS (outP (zs.map zP)) xs:=by
 obtain⟨p,pw⟩:=Jt (zs.map zP);refine⟨p.nodup_iff.mpr ?_,fun y=>?_,pw⟩
 · rw [M8,d3];have:zs.Pairwise fun a b=>a.1≠b.1:=d3.mp nd;exact this.imp fun hab h=>hab (zP_inj h)
 · rw [p.mem_iff,e,F5,F5];constructor
   · rintro⟨z,hz,rfl⟩;exact⟨z,h1 z hz,rfl⟩
   · rintro⟨z,hz,rfl⟩;obtain⟨z',hz',ez⟩:=F5.mp (h2 z hz);exact⟨z',hz',by show PV.tup (z'.1.map kP)=PV.tup (z.1.map kP);rw [ez]⟩
theorem Hh (hc:∀z,(F z).calm=true)(hr:∀z,Room k (F z).A)(hg:∀z,Gl (F z) "sorted")(hm:∀z,(F z).mg "sorted"=none)(hg2:∀z,Gl (F z) "set")(hm2:∀z,(F z).mg "set"=none)(ha:QR T K F e pe)(hs:E4 e=true:=by rfl)(hK:∀z,(F z).K=K:=by intro _;rfl) :
   QN T K F (.Call (.Name "sorted" p) [.Call (.Name "set" p2) [e] [] pos2] [] pos) (Az pe):=by
 obtain⟨t,h1,h2⟩:=ha;refine⟨_,fun z=>hK z▸SeT.QF (hc z) (hr z) (hg z) (hm z) (hg2 z) (hm2 z) (h1 z) (D0 hs),fun C G σ H env n R Q hK hT S hp k=>?_⟩;refine⟨fun v H1=>∃x env1 n1,(match x with | PV.lst xs=>wSet (fun ys=>R ys env1 n1) xs | .tup xs=>wSet (fun ys=>R ys env1 n1) xs | _=>False)/\SR C G σ H1 env1 n1/\RdS C G σ H1 env1 x v/\Fr G H H1,h2 C G σ H env n _ _ hK hT S hp fun x env1 n1 v H1 p1 S1 r1 f1=>⟨x,env1,n1,p1,S1,r1,f1⟩,fun v H1 ⟨x,env1,n1,p1,S1,r1,f1⟩=>?_⟩;have rd:RdV K G H1 x v:=hK▸r1.rd S1
 have main:∀(xs:List PV) (a:Addr) (us:List V),wSet (fun ys=>R ys env1 n1) xs->(SqL K H1 a us\/SqT K H1 a us)->Reps K G H1 xs us->∃a' ys kss,V.ref a=.ref a'/\(SqL K H1 a' ys\/SqT K H1 a' ys)/\Paired (KM K H1 2) ys kss/\ys.length<=63/\t9 kss/\
     ∀H2 l rs zs,Same H1 H2->H2 l=none->SeT.kks rs=kss->(rs.map fun y=>V.ref y.2)=ys->(SeT.kks zs).Nodup->(∀z∈zs,z∈rs)->(∀y∈rs,y.1∈SeT.kks zs)->Q (.ref l) (upd H2 l (.lst (outV (ltIx (SeT.kks zs)) (zs.map fun z=>V.ref z.2)))):=by
   intro xs a us ⟨h63,ok,q⟩ hq r;obtain⟨m,pk,al⟩:=km_of r (.inr (.inr ok))
   have pk2:Paired (KM K H1 2) us (xs.map keyP):=Paired.imp' (fun v ks ⟨_,_,hp⟩=>hp) (EF (P:=fun _ v ks=>KM K H1 2 v ks) xs r fun x hx v hv=>by
     obtain⟨ks,rfl,hne⟩:=ok.1 x hx;obtain⟨a,vs,rfl,at',rr⟩:=hv;rw [b9];refine⟨a,rfl,?_,hne⟩;rw [ED ks rr] at at'
     exact SqT.of at'.2)
   refine⟨a,us,xs.map keyP,rfl,hq,pk2,by rw [<- r.length];exact h63,al,fun H2 l rs zs sm hl ek eu nd z1 z2=>?_⟩;subst eu;obtain⟨ex,rz⟩:=Kh r ek ok.1;have rr:Reps K G H2 (zs.map zP) (zs.map fun z=>V.ref z.2):=(QH zs fun z hz=>rz z (z1 z hz)).same sm;have ro:=Ju rr;have ekz:(zs.map zP).map keyP=SeT.kks zs:=by rw [U7];exact List.map_congr_left fun z _=>keyP_z z
   rw [ekz] at ro;exact k _ _ _ _ _ _ (q _ (SrtS.of ex nd z1 z2)) (S1.same sm) (f1.trans (Fr.of sm)) hl ro
 cases x with
 | lst xs =>
   obtain⟨a,us,rfl,hq,r⟩:=rd.lst;exact main xs a us p1 (.inl hq) r
 | tup xs =>
   obtain⟨a,us,rfl,hq,r⟩:=rd.tup;exact main xs a us p1 (.inr hq) r
 | _=>exact p1.elim
end
end Pu
end
section
namespace L2
open PySem PySem.Spec PyProof.Rows
section
variable {X:Cx}
theorem QJ (hc:X.calm=true):K2 X (.type "set") (fun vs H Q=>∃(a:Addr) (ys:List Str),vs=[.ref a]/\SqL X.K H a (ys.map V.str)/\ys.length<=1000/\∀p,H p=none->Q (.ref p) (upd H p (SetX X p (fun q=>(met (M5 ys) ys.length).any (fun y=>decide (y=q))) (met (M5 ys) ys.length).length))):=by
 intro pins s σ H vs us Q I rv h;obtain⟨a,ys,rfl,hq,hl,k⟩:=h;obtain⟨u,rfl,ru⟩:=rv.one;obtain rfl:u=.ref a:=ru;obtain⟨its,r,ht,_⟩:=I.list hq;have sz:its.toArray.size=ys.length:=by have:=r.length;rw [A9] at this;simpa using this.symm
 refine Ja (val:=M5 ys) (I.ok.hd hc) (.inl ht.isList) (fun i v e=>?_) (by rw [sz];unfold scanBound;omega) fun h' tk so kp=>?_
 · obtain⟨t,rfl⟩:=Jb r (by simpa using e);exact⟨DU _ _ _ _,rfl⟩
 · rw [sz] at so
   have I1:Inv X pins σ (upd H s.heap.objs.size (SetX X s.heap.objs.size (fun q=>(met (M5 ys) ys.length).any (fun y=>decide (y=q))) (met (M5 ys) ys.length).length)) { s with heap:=h',toks:=tk }:=
     I.laid (fun b o e=>kp b o (B4 e) e) (B3 _) ⟨so,by obtain⟨o,_,_,_,e,_⟩:=so;exact⟨o,e⟩,fun h1 h2 x k2=>by
       obtain⟨o,es,ep,t,e,more⟩:=x
       exact⟨o,es,ep,t,k2 o e,more⟩⟩
   exact⟨.ref s.heap.objs.size,_,I1,rfl,k _ (I.hok.fresh (B3 _))⟩
def QK (K:A3)(t:TE):TE:=fun σ H Q=>∃Q',t σ H Q'/\∀x H1,Q' x H1->∃(a:Addr) (ys:List Str),x=.ref a/\SqL K H1 a (ys.map V.str)/\ys.length<=1000/\∀H2,Same H1 H2->Q (.int (met (M5 ys) ys.length).length) H2
theorem QM {e:Expr}{t:TE}{p1 p2 pos pos2:Pos}(hc:X.calm=true)(g1:Gl X "len")(m1:X.mg "len"=none)(g2:Gl X "set")(m2:X.mg "set"=none)(he:PE X e t)(hs:E3 [e] X.env=(false,eval e X.env)::E3 [] X.env) :
   PE X (.Call (.Name "len" p1) [.Call (.Name "set" p2) [e] [] pos2] [] pos) (QK X.K t):=by
 have i1:=Bj (p:=p2) (pos:=pos2) (QJ hc) g2 m2 Gi (E1 (SeT.pe_mo he) F8 hs) (by decide) (by decide) hs rfl;have i2:=Z5 (p:=p1) (pos:=pos) Jc g1 m1 D_ (E1 i1 F8 rfl) (by decide) (by decide) rfl rfl;intro pins s σ H Q I ⟨Q',h1,h2⟩;refine i2 pins s σ H Q I ⟨Q',h1,fun x H1 hx=>?_⟩;obtain⟨a,ys,rfl,hq,hl,k⟩:=h2 x H1 hx;exact⟨a,ys,rfl,hq,hl,fun p hn=>⟨p,_,_,rfl,E8,k _ ((Same.refl _).lay hn)⟩⟩
end
end L2
namespace Pu
open PySem PySem.Spec L2
section
variable {T:PotK}{ι:Type}{K:A3}{F:ι->Cx}{pos:Pos}{e:Expr}{pe:pE}
def CV:w1:=fun x R=>match x with | .lst xs=>(match N7 xs with | some ys=>ys.length<=1000/\R (.int (met (M5 ys) ys.length).length) | none=>False) | _=>False
theorem QP {p1 p2 pos2:Pos}(hc:∀z,(F z).calm=true)(g1:∀z,Gl (F z) "len")(m1:∀z,(F z).mg "len"=none)(g2:∀z,Gl (F z) "set")(m2:∀z,(F z).mg "set"=none)(he:QE T K F e pe)(hs:E4 e=true:=by rfl)(hK:∀z,(F z).K=K:=by intro _;rfl) :
   QE T K F (.Call (.Name "len" p1) [.Call (.Name "set" p2) [e] [] pos2] [] pos) (qUn CV pe):=by
 obtain⟨t,h1,h2⟩:=he;refine⟨_,fun z=>hK z▸QM (hc z) (g1 z) (m1 z) (g2 z) (m2 z) (h1 z) (D0 hs),fun C G σ H env n R Q hK hT S hp k=>?_⟩;refine⟨_,h2 C G σ H env n _ (fun v H'=>∃x env' n',CV x (fun r=>R r env' n')/\SR C G σ H' env' n'/\Rep K G H' x v/\Fr G H H') hK hT S hp (fun x env' n' v H' r S' rv f=>⟨x,env',n',r,S',rv,f⟩),fun v H1 hx=>?_⟩;obtain⟨x,env1,n1,r,S1,rv,f1⟩:=hx;unfold CV at r
 split at r
 · rename_i xs
   split at r
   · rename_i ys ey;obtain⟨a,vs,rfl,t,rs⟩:=rv;exact⟨a,ys,rfl,Bw ey rs▸t.sq,r.1,fun H2 s2=>k _ _ _ _ _ r.2 (S1.same s2) rfl (f1.trans (Fr.of s2))⟩
   · exact r.elim
 · exact r.elim
end
end Pu
end
section
namespace L2
open PySem PySem.Spec PyProof.Rows
section
variable {X:Cx}{a b:Expr}{rest:List Expr}{ta tb:TE}{pos:Pos}
theorem pe_orT (ha:PE X a ta)(hb:PE X (.BoolOp .Or (b::rest) pos) tb):PE X (.BoolOp .Or (a::b::rest) pos) (fun σ H Q=>ta σ H fun x H1=>∃k,TruV X.K x H1 k/\if k=true then Q x H1 else tb σ H1 Q):=by
 intro pins s σ H Q I h;refine BoolOp_or (thn (ha pins s σ H _ I h) fun v s1 ⟨x,H1,I1,r1,q1⟩=>?_);refine thn (HR pins s1 σ H1 x v (fun k H=>if k=true then Q x H else tb σ H Q) I1 r1 q1) fun c s2 ⟨H2,I2,q2⟩=>?_;cases c with
 | false=>exact hb pins s2 σ H2 Q I2 q2
 | true=>exact⟨x,H2,I2,r1,q2⟩
end
end L2
namespace Pu
open PySem PySem.Spec L2
section
variable {T:PotK}{ι:Type}{K:A3}{F:ι->Cx}{a b:Expr}{rest:List Expr}{pa pb:pE}{pos:Pos}
def qOrT (pa pb:pE):pE:=fun env n R=>pa env n fun x env1 n1=>match Er x with | some b=>if b=true then R x env1 n1 else pb env1 n1 R | none=>False
theorem qe_orT (ha:QE T K F a pa)(hb:QE T K F (.BoolOp .Or (b::rest) pos) pb)(hK:∀z,(F z).K=K:=by intro _;rfl):QE T K F (.BoolOp .Or (a::b::rest) pos) (qOrT pa pb):=by
 obtain⟨t,a1,a2⟩:=ha;obtain⟨u,b1,b2⟩:=hb;refine⟨_,fun z=>hK z▸pe_orT (a1 z) (b1 z),fun C G σ H env n R Q hK hT S hp k=>?_⟩;refine a2 C G σ H env n _ _ hK hT S hp fun x env1 n1 v H1 q1 S1 r1 f1=>?_
 split at q1
 · rename_i c ec;refine⟨c,IU ec (.inl r1),?_⟩;cases c with
   | true =>
     rw [if_pos rfl] at q1 ⊢;exact k _ _ _ _ _ q1 S1 r1 f1
   | false =>
     rw [if_neg T3] at q1 ⊢;exact b2 C G σ H1 env1 n1 _ _ hK hT S1 q1 fun y env2 n2 w H2 q2 S2 r2 f2=>k _ _ _ _ _ q2 S2 r2 (f1.trans f2)
 · exact q1.elim
end
end Pu
end
section
namespace Pu
open PySem PySem.Spec L2
def btwU (st:List Str)(x y:Str):List Str:=(st.take (max (ixS st x) (ixS st y))).drop (min (ixS st x) (ixS st y) + 1)
theorem Ki {st:List Str}{x y:Str}(hx:x∈st)(hy:y∈st)(h:ixS st y < ixS st x):(btwU st x y).length=ixS st x - ixS st y - 1:=by
 have:=CQ hx;unfold btwU
 grind
theorem i6 {st:List Str}(nd:st.Nodup){x y z:Str}(hx:x∈st)(hy:y∈st):z∈btwU st x y↔z∈st/\min (ixS st x) (ixS st y) < ixS st z/\ixS st z < max (ixS st x) (ixS st y):=by
 unfold btwU;constructor
 · intro h;obtain⟨q,hq,e⟩:=AO h;rw [W8,P9] at hq;rw [List.getElem_drop,List.getElem_take] at e;have hm:z∈st:=by rw [<- e];exact x4 _
   have ez:st[min (ixS st x) (ixS st y) + 1 + q]?=some z:=by rw [C4 (by omega),e]
   have:=nd_ix nd (Aw hm).1 ez;exact⟨hm,by omega,by omega⟩
 · rintro⟨hm,h1,h2⟩;have hl:=CQ hm;have e:=(Aw hm).1;refine J6 (i:=ixS st z - (min (ixS st x) (ixS st y) + 1)) ?_;rw [Dz,show min (ixS st x) (ixS st y) + 1 + (ixS st z - (min (ixS st x) (ixS st y) + 1))=ixS st z by omega,List.getElem?_take,if_pos h2];exact e
structure V6 (r:Int)(st:List Str)(es:List Ev):Prop where
 fair:Fair st es
 ahead:∀x y,Ev.t x y∈es->ixS st y < ixS st x
 near:∀x y,Ev.t x y∈es->((btwU st x y).length:Int)<=r
 full:∀x y,Ev.t x y∈es->∀z∈btwU st x y,z∈es.flatMap evB
 plain:∀x y x' y',Ev.t x y∈es->Ev.t x' y'∈es->(x'∈btwU st x y↔y'∈btwU st x y)
theorem Fair.tx {st:List Str}{es:List Ev}(h:Fair st es){x y:Str}(he:Ev.t x y∈es):x∈st/\y∈st:=
 ⟨h.sub x (R9.mpr ⟨_,he,by simp [evB]⟩),h.sub y (R9.mpr ⟨_,he,by simp [evB]⟩)⟩
theorem V6.perm {r:Int}{st:List Str}{es es':List Ev}(h:V6 r st es)(p:es'.Perm es):V6 r st es':=
 ⟨h.fair.perm p,fun x y hx=>h.ahead x y (p.mem_iff.mp hx),fun x y hx=>h.near x y (p.mem_iff.mp hx),fun x y hx z hz=>(Hd p).mem_iff.mpr (h.full x y (p.mem_iff.mp hx) z hz),fun x y x' y' hx hx'=>h.plain x y x' y' (p.mem_iff.mp hx) (p.mem_iff.mp hx')⟩
end Pu
end
section
namespace Pu
open PySem PySem.W PySem.Spec L2
theorem Kj {T:PotK}{Pt:Addr}{lpos:Pos}{qual:Str}(h:Aq T):Aq (tabK T Pt lpos qual):=fun M M' H p n ha hm=>by
 rcases ha with⟨h1,h2⟩ | ⟨rfl,ps,h2,h3,h4⟩
 · exact .inl ⟨h1,h _ _ _ _ _ h2 hm⟩
 · refine .inr ⟨rfl,ps,h2,h3,h4.imp id ?_⟩;rintro⟨c',z1,z2,z3⟩;refine⟨c',z1,fun z=>?_,z3⟩;rcases hm c' z with z | ⟨o,e,m⟩
   · exact z2 z
   · rw [z3] at e;cases e;exact m
section
variable {ι:Type}{K:A3}{F:ι->Cx}{e:Expr}{es:List Expr}{st:Stmt}{pos:Pos}{pl:pA}{pe pa pb:pE}{Pt:Addr}{lpos:Pos}{qual:Str}
def Hi (i:Nat)(pa pb:pE):pS:=fun D env n=>pa env n fun x env1 n1=>pb env1 n1 fun y env2 n2=>match x,y with | .scr _,.int k=>(0<=k/\k<=1000)/\∀q:Nat,D.nx (env2.set i (some (.v (.pot (q + 1))))) n2 | _,_=>False
theorem QQ (i:Nat){x:Str}{p:Pos}{a b:Expr}{k j:Nat}{ps:List Str}(h:∀z te,EW (F z) (.Call (.Name x p) [a,b] [] pos) te->SW (F z) st (tAsg te (K8 i)))(hG:∀z,Kn (F z).prog (F z).w (F z).K (F z).mg (F z).base x k ps (Eo K))(hr:∀z,Room j (F z).A)(hk:k<=j)(hg:∀z,Gl (F z) x)
   (ha:QE (tabK potL Pt lpos qual) K F a pa) (hb:QE (tabK potL Pt lpos qual) K F b pb) (n1:E4 a=true:=by rfl) (n2:E4 b=true:=by rfl) (hdb:(x == ("__debug__":Str))=false:=by decide):QS (tabK potL Pt lpos qual) true K F st (Hi i pa pb):=by
 obtain⟨t,a1,a2⟩:=ha;obtain⟨u,b1,b2⟩:=hb;refine⟨_,fun z=>(h z _ ⟨pe_fn (hG z) (hr z) hk (hg z) (E1 (a1 z) (E1 (b1 z) F8 (D0 n2)) (D0 n1)) hdb (D0 n1) (by rw [D0 n2];rfl)⟩).h,fun C G σ H env n PD D hK hT hn S hp L=>?_⟩;refine a2 C G σ H env n _ _ hK hT S hp fun x env1 n1 v H1 q1 S1 r1 f1=>?_;refine b2 C G σ H1 env1 n1 _ _ hK hT S1 q1 fun y env2 n2 w H2 q2 S2 r2 f2=>?_
 split at q2
 · rename_i ns kk;obtain⟨a,ev,hq⟩:=CB (.inl (r1.fr f2));refine(show Eo K [v,w] H2 (fun x H1=>K8 i x σ H1 D.nx) E0 from ?_);refine⟨a,ns,kk,by rw [ev,show w=.int kk from r2],hq,q2.1.1,q2.1.2,fun p own seed hn' ok=>?_⟩;have hh:(tabK potL Pt lpos qual).has G.pots:=hT▸S2.hasG;obtain⟨l',el,nl⟩:=hh;have ptM:Pt∈G.pots:=by rw [el];exact B8
   have S3:=S2.potG hn (p:=p) (ob:=.lst [.int own,.int seed,.int 0]) trivial hn' (Same.lay1 hn') E8 (by
     rw [hT]
     exact .inl ⟨fun z=>S2.fresh hn' (by rw [z];exact(S2.pots _ ptM).1),own,seed,0,E8,ok,by omega⟩)
   have S4:=S3.set i (x:=.pot (l'.length + 1)) (v:=.ref p) ⟨p,by show(G.pots++[p])[l'.length + 1]?=_;rw [el];simp,rfl⟩;refine L.nx _ _ _ _ _ (q2.2 _) S4 ((Ext.fr (f1.trans f2)).trans ⟨fun b o _ e=>Same.lay1 hn' b o e,fun c hc=>(C5.mp (show c∈p::G.M from hc)).elim (fun z=>.inr (z▸hn')) .inl,fun k q e=>?_⟩);obtain⟨hk,_⟩:=D7.mp e;show(G.pots++[p])[k]?=_;rw [W6 hk];exact e
 · exact q2.elim
end
end Pu
end
section
namespace Pu
open PySem PySem.Spec L2
theorem nodup_ix {α:Type}{l:List α}(nd:l.Nodup){k m:Nat}(h1:k < l.length)(h2:m < l.length)(e:l[k]=l[m]):k=m:=by
 have pw:=W7.mp nd;rcases k6 k m with c | c | c
 · exact absurd e (pw k m h1 h2 c)
 · exact c
 · exact absurd e.symm (pw m k h2 h1 c)
end Pu
end
section
namespace Pu
open PySem PySem.Spec L2
abbrev pD:=List Key->(Env->Nat->List (List PV)->Prop)->Env->Nat->List (List PV)->Prop
end Pu
end
section
namespace Pu
open PySem PySem.Spec L2
structure KE (K:A3)(T:PotK)(G:Gh)(H1:Hp)(D:Addr)(M:List Addr)(as:List Addr)(ks:List Key)(yss:List (List PV))(H:Hp):Prop where
 mem:∀c,c∈M↔c∈as\/c=D\/c∈G.M
 keep:∀b o,b∉G.pots->H1 b=some o->H b=some o
 dic:H D=some (.dK (ks.zip (as.map V.ref)))
 lk:ks.length=as.length
 ly:yss.length=as.length
 nd:(D::as).Nodup
 new:∀b∈as,H1 b=none
 inn:∀(k:Nat) (b:Addr) (ys:List PV),as[k]?=some b->yss[k]?=some ys->∃vs,H b=some (.lst vs)/\Reps K ⟨M,G.pots⟩ H ys vs
end Pu
end
section
namespace Pu
open PySem PySem.Spec L2
theorem SR.m0 (S:SR C G σ H env n)(h:∀b,b∈C.M0↔b∈M'):SR { C with M0:=M' } G σ H env n where
 frame:=S.frame
 sub:=fun a ha=>(S.sub a ha).imp (h a).mp id
 sup:=fun a ha=>S.sup a ((h a).mpr ha)
 pots:=S.pots
 pre:=S.pre
 mu:=S.mu
 slots:=fun i s e=>by
   have q:=S.slots i s e;cases s with
   | v x=>exact q
   | ow k xs =>
     obtain⟨a,vs,e1,h1,h2,h3,h4,r⟩:=q;exact⟨a,vs,e1,h1,fun z=>h2 ((h a).mpr z),h3,h4,r⟩
 inj:=S.inj
 p0:=⟨fun p hp=>(h p).mp (S.p0.1 p hp),S.p0.2⟩
 len:=S.len
 newp:=fun p hp h1 h2=>S.newp p hp h1 ((h p).mpr h2)
end Pu
end
section
namespace L2
open PySem PySem.Spec PyProof.Rows
theorem QU {prog:C6}{w:World}{A:Around}(hh:A.handled=none)(I ax:Addr)(hne:ax≠I)(items:Array Value)(h1:1<=items.size) :
   Walks prog w A I [I,ax] [I] (items.size - 1) (fun i v=>items[i + 1]?=some v) (fun i h=>h.IsTupleIter I ax (i + 1)/\h.IsTuple ax items) where
 sub:=(Be (prog:=prog) (w:=w) hh I ax hne items).sub
 frame:=fun i=>(Be (prog:=prog) (w:=w) hh I ax hne items).frame (i + 1)
 item:=fun i s Q E hi st hQ=>(Be hh I ax hne items).item (i + 1) s Q E (by omega) st hQ
 done:=fun s Q E st hQ=>(Be hh I ax hne items).done s Q E (by have:=st;rw [Nat.sub_add_cancel h1] at this;exact this) hQ
 self:=fun i=>(Be hh I ax hne items).self (i + 1)
section
variable {prog:C6}{w:World}{A:Around}{E:Value->Shared->Prop}{s:Shared}{I:Addr}{fp wr:List Addr}{G:Array GenState->Array GenState->Prop}{n:Nat}{P:Nat->Value->Prop}{St:Nat->Shared->Prop}
theorem QV {Q:List Value->Shared->Prop}(W:WalksS prog w A.in1 I fp wr G n P St)(hT:∀i s,St i s->s.TypeIs (.ref I) "tuple_iterator")(hst:St 0 s)(hfp:∀b∈fp,b < s.heap.objs.size)(hI:I∈fp)
   (hQ:∀s' acc,Moved wr G s s'->ItemsOf P acc n->s.heap.objs.size < s'.heap.objs.size->Q acc.toList s') (hn:n<=B9):wpAny (model prog w) A (collect (.ref I)) Q E s:=by
 have no:s.heap.objs.size∉fp:=fun hm=>U8 _ (hfp _ hm);have ne:s.heap.objs.size≠I:=fun e=>no (e▸hI);unfold collect;refine A1 (wpAny_runValue (U2 F.entry_proto_collect ?_));rw [X1 F.plain_proto_collect _];show wpAny _ A.in1 (newList []>>=fun l=>again (.builtin "list.__iadd__" ⟨[l,.ref I],[]⟩)) _ _ s;refine A1 (L3 ?_);refine A5 ⟨V9 F.plain_list_iadd _,U2 F.entry_list_iadd ?_⟩;rw [X1 F.plain_list_iadd _];have st1:=W.frame 0 s (s.heap.push { cls:=.type "list",data:=.seq ([]:List Value).toArray }) s.toks hst (B3 _) fun b _ o e=>C0 _ e;have hS:(s.heap.push { cls:=.type "list",data:=.seq ([]:List Value).toArray }).get? s.heap.objs.size=some { cls:=.type "list",data:=.seq ([]:List Value).toArray }:=F2 _ rfl;have nr:DQ (.ref s.heap.objs.size) (.ref I)=false:=by simp [DQ,ne]
 show wpAny _ A.in1 (DP (.ref s.heap.objs.size) (.ref I) (.ref s.heap.objs.size)) _ _ _;unfold DP;refine A1 (j6 (hT 0 _ st1) ?_);rw [if_neg (by rw [nr];decide)];refine A1 (W.self 0 _ _ _ st1 ?_);refine A1 (G6 ?_);unfold FG;refine A1 (AE (hT 0 _ st1) F.nolen_tu ?_);show wpAny _ A.in1 (specialOf (K7 I) (A4 "__length_hint__")>>=_) _ _ _;refine A1 (AE (hT 0 _ st1) F.hint_tu ?_)
 (generalize hid:("tuple_iterator.__length_hint__":String)=id0;(fail_if_success (clear hid id0));wp_delta;rw [show splitId id0=some ("tuple_iterator","__length_hint__") from by subst hid;decide +kernel];subst hid)
 refine A1 (Do (b:=true) (hT 0 _ st1) (by rw [i9];kernel_rfl) ?_);refine A5 ?_;rw [if_neg (by decide)];refine A5 ⟨V9 F.plain_extend_loop _,codeAny_extend_loopS W hn _ no _ n 0 _ _ _ rfl (G0 _) st1 hS (ItemsOf.nil P) fun s' acc' c' hm hS' hacc=>?_⟩;show wpAny _ A (load s.heap.objs.size>>=_) _ _ s';refine A1 (wpAny_load hS' ?_);exact A5 (hQ s' acc' (Moved.drop_new (o:={ cls:=.type "list",data:=.seq ([]:List Value).toArray }) (tk:=s.toks) hm (B3 _)) hacc (B4 hS'))
end
section
variable {prog:C6}{w:World}{A:Around}{E:Value->Shared->Prop}{s:Shared}
theorem QX {t:Addr}{x:Value}{items:Array Value}{f g:Value->Sem Unit}{Q:Unit->Shared->Prop}(hh:A.handled=none)(ht:IsTup s.heap t items)(hx:items[0]?=some x)(hsz:items.size<=B9)
   (h:∀(h':Heap) (tk:Nat),(∀b o,s.heap.get? b=some o->h'.get? b=some o)->s.heap.objs.size<=h'.objs.size->wpAny (model prog w) A (v4 [f,g] [x,.ref h'.objs.size]) Q E { s with heap:=h'.push { cls:=.type "list",data:=.seq (items.toList.drop 1).toArray },toks:=tk }) :
   wpAny (model prog w) A (unpack (.ref t) [(false,f),(true,g)]) Q E s:=by
 have hlt:t≠s.heap.objs.size:=by obtain⟨o,ho,_⟩:=ht;exact C9 (B4 ho)
 have h1:1<=items.size:=by have:=(Fz.mp hx).1;omega
 unfold unpack;refine A1 (G6 ?_);show wpAny _ _ (unpackItems (.ref t) 2 (some 1)) _ _ _;unfold unpackItems;refine A1 ?_;unfold notIterableAtAll;refine A1 (AE ht.typeIs slot_tuple_iter.lookup ?_);refine A5 ?_;simp only [F7,if_false];refine A1 (G6 (iter_tuple ht ?_));refine A1 (G6 (draw_tuple hlt 1 0 _ _ ⟨_,F2 _ rfl,rfl,rfl⟩ (ht.push _) (by omega) fun h₁ hit₁ hs₁=>?_))
 have hx0:List.take 1 (List.drop 0 items.toList)=[x]:=by
   rw [BZ];rw [<- M9] at hx;cases e:items.toList with
   | nil=>rw [e] at hx;cases hx
   | cons y ys=>rw [e] at hx;cases hx;rfl
 rw [hx0];rw [if_neg (by simp)];have ht₁:IsTup h₁ t items:=(ht.push _).extBut hs₁.extBut hlt;have keep:∀b o,s.heap.get? b=some o->h₁.get? b=some o:=fun b o e=>hs₁.extBut b o (C9 (B4 e)) (C0 _ e);obtain⟨ot,ho,hc,nn,hd⟩:=ht₁;obtain⟨oi,ho',hc',hd'⟩:=hit₁;refine A1 (G6 (QV (QU (A:=A.in1) hh s.heap.objs.size t hlt items h1).toS (fun i s st=>st.1.typeIs) ⟨⟨oi,ho',hc',hd'⟩,⟨ot,ho,hc,nn,hd⟩⟩ (fun b hb=>?_) (by simp) (fun s' acc mv ia lt=>?_) (by omega)))
 · simp only [C5,x5,or_false] at hb;rcases hb with rfl | rfl
   · exact B4 ho'
   · exact B4 ho
 have ea:acc.toList=items.toList.drop 1:=by
   apply List.ext_getElem?
   intro i;rw [Dz,M9,M9]
   by_cases c:i < acc.size
   · have:=ia.2 i _ (X0 c);rw [X0 c,<- this,Nat.add_comm]
   · rw [DF (by omega),DF (by have:=ia.1;omega)]
 rw [if_neg (by simp)];obtain⟨hp,ge,dr,tk,os⟩:=s';obtain⟨m1,m2,m3,m4,m5⟩:=mv;dsimp only at m2 m3 m4;subst m2 m3 m4;refine A1 (L3 ?_ ?_)
 · refine A5 ?_;have e1:(acc.toList.take (acc.toList.length - (2 - 1 - 1)))=items.toList.drop 1:=by rw [show acc.toList.length - (2 - 1 - 1)=acc.toList.length by omega,BX,ea]
   have e2:(acc.toList.drop (acc.toList.length - (2 - 1 - 1)))=[]:=by rw [show acc.toList.length - (2 - 1 - 1)=acc.toList.length by omega,BW]
   rw [e1,e2];exact h hp tk (fun b o e=>m1 b o (by simpa using C9 (B4 e)) (keep b o e)) (W9 (x8 (B4 ho') lt))
 · show(List.take (acc.toList.length - (2 - 1 - 1)) acc.toList).toArray.size<=B9;rw [D8,P9,J9];have:=ia.1;omega
end
section
variable {X:Cx}{pos:Pos}
def Hj (K:A3)(i j:Nat):TG:=fun v σ H Q=>∃a x xs,v=.ref a/\SqT K H a (x::xs)/\∀l,H l=none->Q ((σ.set i (some x)).set j (some (.ref l))) (upd H l (.lst xs))
theorem QY {i j k:Nat}{x y:Str}{p1 p2 p3:Pos}(hc:X.calm=true)(hN:X.N.Nodup)(hi:X.N[i]?=some x)(hj:X.N[j]?=some y)(hx:Loc X.env.scope x)(hy:Loc X.env.scope y)(hf:X.fn x=true\/X.env.scope.names.lookup x=some .local)(hg:X.fn y=true\/X.env.scope.names.lookup y=some .local):PG X (.Tuple [.Name x p1,.Starred (.Name y p2) p3] k pos) (Hj X.K i j):=by
 intro pins s σ H v u Q I r hw;obtain⟨a,x1,xs,e1,hq,hw⟩:=hw;subst e1;cases r;obtain⟨its,rv,ht,hz⟩:=I.tuple hq;cases rv with
 | @cons _ x0 _ us r0 r1=>
 rw [assign_Tuple];refine A1 (U3 ?_);show wpAny _ _ (unpack _ [(false,assign (.Name x p1) X.env),(true,assign (.Name y p2) X.env)]) _ _ _;have lu:=r1.length;refine QX (x:=x0) (I.ok.hd hc) ht rfl (by simp at hz ⊢;omega) fun h' tk hk hs=>?_;rw [show(List.drop 1 (x0::us).toArray.toList).toArray=us.toArray by simp]
 have I1:Inv X pins σ (upd H h'.objs.size (.lst xs)) { s with heap:=h'.push { cls:=.type "list",data:=.seq us.toArray },toks:=tk }:=
   I.laid (fun b o e=>C0 _ (hk b o e)) hs ⟨by simp at hz ⊢;omega,us,0,r1,F2 _ rfl⟩
 refine l6 (Dm (d5 I1 hN hi hx r0 (fun s2 I2=>?_) hf));refine l6 (Dm (d5 I2 hN hj hy (v:=.ref h'.objs.size) rfl (fun s3 I3=>?_) hg));exact DL ⟨_,_,I3,hw _ (I.hok.fresh hs)⟩
end
end L2
namespace Pu
open PySem PySem.Spec L2
section
variable {T:PotK}{ι:Type}{K:A3}{F:ι->Cx}{e:Expr}{st:Stmt}{pe:pE}{np:Bool}
def Hk (i j:Nat)(pe:pE):pS:=fun D env n=>pe env n fun x env1 n1=>match x with | .tup (y::ys)=>D.nx ((env1.set i (some (.v y))).set j (some (.ow .lst ys))) n1 | _=>False
theorem QZ {X:Cx}{pos:Pos}(K:A3){i j k:Nat}{x y:Str}{p1 p2 p3:Pos}(hc:X.calm=true)(hN:X.N.Nodup)(hi:X.N[i]?=some x)(hj:X.N[j]?=some y)(hx:Loc X.env.scope x)(hy:Loc X.env.scope y)(hf:X.fn x=true\/X.env.scope.names.lookup x=some .local:=by first | exact .inl rfl | exact .inr rfl | assumption)(hg:X.fn y=true\/X.env.scope.names.lookup y=some .local:=by first | exact .inl rfl | exact .inr rfl | assumption)(hK:X.K=K:=by rfl):GW X (.Tuple [.Name x p1,.Starred (.Name y p2) p3] k pos) (Hj K i j):=⟨hK▸QY hc hN hi hj hx hy hf hg⟩
theorem Q_ (i j:Nat){tg:Expr}(h:∀z te g,EW (F z) e te->GW (F z) tg g->SW (F z) st (tAsg te g))(hg:∀z,GW (F z) tg (Hj K i j))(he:QE T K F e pe):QS T np K F st (Hk i j pe):=by
 obtain⟨t,a1,a2⟩:=he;refine⟨_,fun z=>(h z _ _ ⟨a1 z⟩ (hg z)).h,fun C G σ H env n PD D hK hT hn S hp L=>?_⟩;refine a2 C G σ H env n _ _ hK hT S hp fun x env1 n1 v H1 q1 S1 r1 f1=>?_;cases x with
 | tup xs =>
   cases xs with
   | nil=>exact q1.elim
   | cons y ys =>
     obtain⟨a,vs,rfl,tt,rs⟩:=r1;cases vs with
     | nil=>exact absurd rs.length (by simp)
     | cons w ws =>
       obtain⟨w',ws',e1,hy,hr⟩:=rs;cases e1;refine⟨a,w,ws,rfl,tt.sq,fun l hl=>?_⟩;exact L.nx _ _ _ _ _ q1 ((S1.set i (hK▸hy)).own j hl (hK▸hr)) ((Ext.fr f1).trans (Ej hl))
 | _=>exact q1.elim
end
end Pu
end
section
namespace L2
open PySem PySem.Spec PyProof.Rows
variable {X:Cx}
theorem Ra:OpR X (L4 .IsNot) (fun x y H Q=>∃a b,x=.bl a/\y=.bl b/\Q (.bl (!(a == b))) H):=by
 intro pins s σ H x y v u Q I rx ry h;obtain⟨a,b,rfl,rfl,q⟩:=h;cases rx;cases ry;exact wpAny_isNot_plain rfl (DZ I q (by cases a <;> cases b <;> rfl))
end L2
namespace Pu
open PySem PySem.Spec L2
variable {T:PotK}{ι:Type}{K:A3}{F:ι->Cx}
def EV:w2:=fun x y R=>match x,y with | .bl a,.bl b=>R (.bl (!(a == b))) | _,_=>False
theorem cNotB:Cmp K F .IsNot EV:=⟨_,fun _=>Ra,by
 intro G H x y v u R Q hf rx ry hw k;unfold EV at hw
 split at hw
 · exact⟨_,_,rx.bl,ry.bl,k _ _ _ hw (Same.refl _) rfl⟩
 · exact hw.elim⟩
end Pu
end
section
namespace Tb
open PySem L2 Pu
abbrev b__law_draw:pF:=BC
abbrev lamP:PySem.Pos:=⟨69,48,69,88⟩
abbrev lamQ:PySem.Str:=A4 "order_of.<locals>.<lambda>"
def Kk:pS:=(qSeq (qAsg (qTup (A0 (qV 0) (A0 (qV 1) qNil))) (gTp 2 (gCn (gTp 2 (gCn (gN 2) (gCn (gN 3) gNl))) (gCn (gTp 2 (gCn (gN 4) (gCn (gN 5) gNl))) gNl))))
   (qRet (qOrV (qOp wLt (qV 3) (qV 4)) (qOrV (qOp wLt (qV 5) (qV 2)) (qOrV (N9 (qOp wLt (qV 2) (qV 4)) (qOp wLt (qV 5) (qV 3))) (N9 (qOp wLt (qV 4) (qV 2)) (qOp wLt (qV 3) (qV 5))))))))
def Hl:pF:=fnP ["_law_one","_law_other","_law_a","_law_b","_law_c","_law_d"] ["_law_one","_law_other"] Kk
def Kl:pS:=(qSeq (EI [3,4,5,6] (i5 (sV (qUn wLen (qV 1))) (i5 (sO (qLst qNil)) (i5 (sO (qLst qNil)) (i5 (sO (qLst qNil)) EH)))))
   (qSeq (qFor (e7 (B0 b__law_draw (A0 (qV 0) (A0 (qOp wAdd (qV 3) (qC (.int 1))) qNil)))) (gN 7) (qSeq (qAsg (qTup (A0 (B0 b__law_draw (A0 (qV 0) (A0 (qV 3) qNil))) (A0 (qOp wAdd (qC (.int 1)) (B0 b__law_draw (A0 (qV 0) (A0 (qOp wAdd (qV 2) (qC (.int 1))) qNil)))) qNil))) (gTp 2 (gCn (gN 8) (gCn (gN 9) gNl))))
   (qIfS (qAnd (qB (qOp wLt (qOp wAdd (qV 8) (qV 9)) (qV 3))) (qB (GY (qUn wAll (qL (O8 [none,some 8,some 9] (qIl (qV 4)) (gN 0) qTru (B0 Hl (A0 (qTup (A0 (qV 1) (A0 (qOp wAdd (qV 1) (qV 2)) qNil))) (A0 (qV 0) qNil))))))))) (qSeq (O2 (V2 4 (qTup (A0 (qV 8) (A0 (qOp wAdd (qV 8) (qV 9)) qNil)))))
   (qSeq (O2 (Bx 5 (qL (qLst (A0 (qV 8) (A0 (qOp wAdd (qV 8) (qV 9)) qNil))))))
   (O2 (V2 6 (qTup (A0 (qC (.str (A4 "touch"))) (A0 (qOp wIx (qV 1) (qOp wAdd (qV 8) (qV 9))) (A0 (qOp wIx (qV 1) (qV 8)) qNil)))))))) qNx)))
   (qSeq (qFor (Ey (qV 1)) (gTp 2 (gCn (gN 10) (gCn (gN 11) gNl))) (qSeq (t4 4 (qSet 12 (qUn wAny (qL (O8 [none,none,some 10] (qIl (qV 4)) (gTp 2 (gCn (gN 0) (gCn (gN 1) gNl))) qTru (d9 wLt wLt (qV 0) (qV 2) (qV 1)))))))
   (qIfS (qAnd (qB (qOp (wIn 4 true) (qV 10) (qO 5))) (qOr (t7 (qV 12)) (qB (qOp (wEq 4) (B0 b__law_draw (A0 (qV 0) (A0 (qC (.int 3)) qNil))) (qC (.int 0)))))) (O2 (V2 6 (qTup (A0 (qC (.str (A4 "drop"))) (A0 (qV 11) qNil))))) qNx)))
   (qRet (qUn X6 (qL (EE (qO 6))))))))
def Hm:pF:=fnP ["_law_pot_here","_law_start","_law_reach","_law_n","_law_pairs","_law_ends","_law_events","_law_tour","_law_at","_law_far","_law_place","_law_boat","_law_within"] ["_law_pot_here","_law_start","_law_reach"] Kl
def Km:pS:=(qSeq (qPar 2 3 (sO (R5 (qV 1))) (sO (qLst qNil)))
   (qSeq (IR (qB (qOpR (wNe 4) (qO 2) (qL (qLst qNil)))) (O2 (V2 3 (GL 2 (B0 b__law_draw (A0 (qV 0) (A0 (qUn wLen (qO 2)) qNil)))))))
   (qRet (qUn X6 (qO 3)))))
def EX:pF:=fnP ["_law_pot_here","_law_some","_law_left","_law_found"] ["_law_pot_here","_law_some"] Km
def Ko:pS:=(qSeq (qPar 2 3 (sV (qC (.str (A4 "abcdefghijklmnopqrstuvwxyz")))) (sO (qLst qNil)))
   (qSeq (GG 4 5 6 (B0 b__law_draw (A0 (qV 0) (A0 (qC (.int 4)) qNil))) (sV (B0 b__law_draw (A0 (qV 0) (A0 (qC (.int 26)) qNil)))) (sV (qOp wAdd (qC (.int 1)) (B0 b__law_draw (A0 (qV 0) (A0 (qC (.int 8)) qNil))))))
   (qSeq (qPar 7 8 (sV (B0 b__law_draw (A0 (qV 0) (A0 (qV 6) qNil)))) (sV (qOp wIx (qV 2) (B0 b__law_draw (A0 (qV 0) (A0 (qC (.int 26)) qNil))))))
   (qSeq (qFor (e7 (qV 1)) (gN 9) (qSeq (qSet 10 (qOp wIx (qV 2) (qOp wMod (qOp wAdd (qV 5) (qOp wMul (qC (.int 7)) (qV 9))) (qC (.int 26)))))
   (qSeq (qIfS (qB (qOp (wEq 4) (qV 4) (qC (.int 0)))) (qSet 10 (qOp wAdd (qV 10) (GK (qC (.str (A4 ""))) (qL (O8 [none,some 2,some 0] (e7 (B0 b__law_draw (A0 (qV 0) (A0 (qC (.int 8)) qNil)))) (gN 0) qTru (qOp wIx (qV 1) (B0 b__law_draw (A0 (qV 2) (A0 (qC (.int 26)) qNil))))))))) qNx)
   (qSeq (qIfS (qB (qOp (wEq 4) (qV 4) (qC (.int 1)))) (qSet 10 (qOp wMul (qOp wIx (qV 2) (qOp wMod (qOp wAdd (qV 5) (qOp Gm (qV 9) (qC (.int 8)))) (qC (.int 26)))) (qOp wAdd (qC (.int 1)) (qOp wMod (qV 9) (qC (.int 8)))))) qNx)
   (qSeq (qIfS (qB (qOp wGt (qV 4) (qC (.int 1)))) (qSet 10 (qOp wAdd (qOp wAdd (qOp wMul (qV 8) (qV 7)) (qV 10)) (qOp wMul (qV 8) (qOp wSub (qOp wSub (qV 6) (qC (.int 1))) (qV 7))))) qNx)
   (O2 (V2 3 (qV 10))))))))
   (qSeq (qSet 11 (qOp wIx (qL (qLst (A0 (qC (.str (A4 "drop"))) (A0 (qC (.str (A4 "touch"))) (A0 (qC (.str (A4 "none"))) (A0 (qC (.str (A4 "d"))) (A0 (qC (.str (A4 "u"))) (A0 (qC (.str (A4 "t"))) (A0 (qC (.str (A4 "o"))) qNil))))))))) (B0 b__law_draw (A0 (qV 0) (A0 (qC (.int 7)) qNil)))))
   (qSeq (qIfS (qAnd (qB (qOp (wEq 4) (B0 b__law_draw (A0 (qV 0) (A0 (qC (.int 3)) qNil))) (qC (.int 0)))) (qB (qOp (wIn 4 true) (qV 11) (qO 3)))) (qPut 3 (qV 11) (B0 b__law_draw (A0 (qV 0) (A0 (qV 1) qNil)))) qNx)
   (t4 3 (qRet (B0 EX (A0 (qV 0) (A0 (qV 3) qNil)))))))))))
def Hn:pF:=fnP ["_law_pot_here","_law_many","_law_letters","_law_found","_law_way","_law_first","_law_size","_law_spot","_law_fill","_law_k","_law_own","_law_odd"] ["_law_pot_here","_law_many"] Ko
def Kp:pS:=(qSeq (qPar 4 5 (sV (B0 b__law_draw (A0 (qV 0) (A0 (qC (.int 6)) qNil)))) (sV (B0 b__law_draw (A0 (qV 0) (A0 (qOp wAdd (qUn wLen (qV 2)) (qC (.int 1))) qNil)))))
   (qSeq (qSet 6 (qL (qCat (qL (R5 (qV 1))) (qL (R5 (qV 3))))))
   (qSeq (qPar 7 8 (sV (qOp wIx (qV 6) (B0 b__law_draw (A0 (qV 0) (A0 (qUn wLen (qV 6)) qNil))))) (sV (qOp wIx (qV 6) (B0 b__law_draw (A0 (qV 0) (A0 (qUn wLen (qV 6)) qNil))))))
   (qSeq (qSet 9 (qIf (qOr (qB (qOp (wEq 4) (qV 7) (qV 8))) (qB (qOp (wEq 4) (B0 b__law_draw (A0 (qV 0) (A0 (qC (.int 3)) qNil))) (qC (.int 0))))) (qL (qLst (A0 (qTup (A0 (qC (.str (A4 "drop"))) (A0 (qV 7) qNil))) qNil))) (qL (qLst (A0 (qTup (A0 (qC (.str (A4 "touch"))) (A0 (qV 7) (A0 (qV 8) qNil)))) qNil)))))
   (qSeq (qIfS (qOr (qB (qOp wGt (qV 4) (qC (.int 3)))) (qB (qOp (wEq 4) (qV 5) (qUn wLen (qV 2))))) (qRet (qUn X6 (qL (Az (qL (qCat (qL (R5 (qV 2))) (qV 9))))))) qNx)
   (qSeq (qPar 10 11 (sV (qOp wIx (qV 2) (qV 5))) (sO (R5 (qOp wAdd (qSl (qV 2) qNo (K3 (qV 5))) (qSl (qV 2) (K3 (qOp wAdd (qV 5) (qC (.int 1)))) qNo)))))
   (qSeq (qIfS (qAnd (qB (qOp (wEq 4) (qV 4) (qC (.int 1)))) (qB (qOp (wEq 4) (qOp wIx (qV 10) (qC (.int 0))) (qC (.str (A4 "touch")))))) (O2 (V2 11 (qTup (A0 (qC (.str (A4 "touch"))) (A0 (qOp wIx (qV 10) (qC (.int 2))) (A0 (qOp wIx (qV 10) (qC (.int 1))) qNil)))))) qNx)
   (qSeq (qIfS (qB (qOp (wEq 4) (qV 4) (qC (.int 2)))) (O2 (Bx 11 (qV 9))) qNx)
   (qSeq (qIfS (qAnd (qB (qOp (wEq 4) (qV 4) (qC (.int 3)))) (qB (qOp (wIn 4 true) (qV 7) (qV 10)))) (O2 (V2 11 (qOp wAdd (qSl (qV 10) qNo (K3 (qOp wSub (qUn wLen (qV 10)) (qC (.int 1))))) (qTup (A0 (qV 7) qNil))))) qNx)
   (qRet (qUn X6 (qL (Az (qO 11))))))))))))))
def Ho:pF:=fnP ["_law_pot_here","_law_start","_law_sheet_here","_law_spare","_law_way","_law_at","_law_boats_here","_law_one","_law_other","_law_more","_law_event","_law_rest"] ["_law_pot_here","_law_start","_law_sheet_here","_law_spare"] Kp
def Kq:pS:=(qSeq (qSet 3 (qL (O8 [none] (qIt (qV 1)) (gN 0) (qB (qOp (wEq 4) (qOp wIx (qV 0) (qC (.int 0))) (qC (.str (A4 "touch"))))) (qV 0))))
   (qSeq (qIfS (qAnd (qB (qOp (wNe 4) (qV 3) (qL (qLst qNil)))) (qB (qOp wGt (B0 b__law_draw (A0 (qV 0) (A0 (qC (.int 4)) qNil))) (qC (.int 0))))) (qSeq (qSet 4 (qOp wIx (qV 3) (B0 b__law_draw (A0 (qV 0) (A0 (qUn wLen (qV 3)) qNil)))))
   (qRet (qIf (qB (qOp wGt (B0 b__law_draw (A0 (qV 0) (A0 (qC (.int 8)) qNil))) (qC (.int 0)))) (qV 4) (qTup (A0 (qC (.str (A4 "touch"))) (A0 (qOp wIx (qV 4) (qC (.int 2))) (A0 (qOp wIx (qV 4) (qC (.int 1))) qNil))))))) qNx)
   (qRet (qTup (A0 (qC (.str (A4 "touch"))) (A0 (qOp wIx (qV 2) (B0 b__law_draw (A0 (qV 0) (A0 (qUn wLen (qV 2)) qNil)))) (A0 (qOp wIx (qV 2) (B0 b__law_draw (A0 (qV 0) (A0 (qUn wLen (qV 2)) qNil)))) qNil)))))))
def CW:pF:=fnP ["_law_pot_here","_law_sheet_here","_law_boats_here","_law_some","_law_event"] ["_law_pot_here","_law_sheet_here","_law_boats_here"] Kq
def Ks:pS:=(qSeq (qPar 3 4 (sV (B0 b__law_draw (A0 (qV 0) (A0 (qC (.int 6)) qNil)))) (sV (qOp wIx (qV 2) (B0 b__law_draw (A0 (qV 0) (A0 (qUn wLen (qV 2)) qNil))))))
   (qSeq (qIfS (qB (qOp wLt (qV 3) (qC (.int 2)))) (qRet (qTup (A0 (qOp wIx (qL (qLst (A0 (qC (.str (A4 "strange"))) (A0 (qC (.str (A4 "twice"))) qNil)))) (qV 3)) (A0 (qV 4) qNil)))) qNx)
   (qSeq (qPar 5 6 (sV (B0 CW (A0 (qV 0) (A0 (qV 1) (A0 (qV 2) qNil))))) (sV (B0 CW (A0 (qV 0) (A0 (qV 1) (A0 (qV 2) qNil))))))
   (qRet (qOp wIx (qL (qLst (A0 (qTup (A0 (qC (.str (A4 "wrong"))) (A0 (qV 5) qNil))) (A0 (qTup (A0 (qC (.str (A4 "far"))) (A0 (qV 5) qNil))) (A0 (qTup (A0 (qC (.str (A4 "stays"))) (A0 (qV 5) (A0 (qV 4) qNil)))) (A0 (qTup (A0 (qC (.str (A4 "cross"))) (A0 (qV 5) (A0 (qV 6) qNil)))) qNil)))))) (qOp wSub (qV 3) (qC (.int 2))))))))
def EY:pF:=fnP ["_law_pot_here","_law_sheet_here","_law_boats_here","_law_way","_law_boat","_law_one","_law_other"] ["_law_pot_here","_law_sheet_here","_law_boats_here"] Ks
def Kt:pS:=(qRet (qL (Ha [none,none] (qIt (qV 0)) (gN 0) (qIt (qSl (qV 0) (K3 (qC (.int 1))) qNo)) (gN 1) qTru (qV 1))))
def u8:pF:=fnP ["events"] ["events"] Kt
def Ku:pS:=(qSeq (qSet 2 (B0 u8 (A0 (qV 1) qNil)))
   (qSeq (qFor (qIl (qV 2)) (gN 3) (qSeq (qIfS (qB (qOp (wIn 4 true) (qV 3) (qV 0))) (qRet (qTup (A0 (qC (.str (A4 "strange"))) (A0 (qV 3) qNil)))) qNx)
   (qIfS (qB (qOp wGt (GQ (qV 2) (qV 3)) (qC (.int 1)))) (qRet (qTup (A0 (qC (.str (A4 "twice"))) (A0 (qV 3) qNil)))) qNx)))
   (qRet (qC .non))))
def EZ:pF:=fnP ["start","sheet","boats","boat"] ["start","sheet"] Ku
def Kv:pS:=(qRet (qL (O8 [none] (qIt (qV 0)) (gN 0) (qB (qOp (wEq 4) (qOp wIx (qV 0) (qC (.int 0))) (qC (.str (A4 "touch"))))) (qV 0))))
def BF:pF:=fnP ["events"] ["events"] Kv
def Kw:pS:=(qRet (qOp wGt (V3 (qV 0) (qOp wIx (qV 1) (qC (.int 2)))) (V3 (qV 0) (qOp wIx (qV 1) (qC (.int 1))))))
def E_:pF:=fnP ["start","touch"] ["start","touch"] Kw
def Kx:pS:=(qSeq (qAsg (qL (EE (qL (qLst (A0 (V3 (qV 0) (qOp wIx (qV 1) (qC (.int 1)))) (A0 (V3 (qV 0) (qOp wIx (qV 1) (qC (.int 2)))) qNil)))))) (gTl 2 (gCn (gN 2) (gCn (gN 3) gNl))))
   (qRet (qSl (qV 0) (K3 (qOp wAdd (qV 2) (qC (.int 1)))) (K3 (qV 3)))))
def Y3:pF:=fnP ["start","touch","low","high"] ["start","touch"] Kx
def Kz:pS:=(qRet (qOp wGt (qUn wLen (B0 Y3 (A0 (qV 0) (A0 (qV 2) qNil)))) (qV 1)))
def Fa:pF:=fnP ["start","reach","touch"] ["start","reach","touch"] Kz
def KA:pS:=(qSeq (qIfS (qB (B0 E_ (A0 (qV 0) (A0 (qV 3) qNil)))) (qRet (qTup (A0 (qC (.str (A4 "wrong"))) (A0 (qV 3) qNil)))) qNx)
   (qSeq (qIfS (qB (B0 Fa (A0 (qV 0) (A0 (qV 1) (A0 (qV 3) qNil))))) (qRet (qTup (A0 (qC (.str (A4 "far"))) (A0 (qV 3) qNil)))) qNx)
   (qSeq (qSet 4 (B0 u8 (A0 (qV 2) qNil)))
   (qSeq (qFor (qIt (B0 Y3 (A0 (qV 0) (A0 (qV 3) qNil)))) (gN 5) (qIfS (qB (qOp (wIn 4 true) (qV 5) (qV 4))) (qRet (qTup (A0 (qC (.str (A4 "stays"))) (A0 (qV 3) (A0 (qV 5) qNil))))) qNx))
   (qRet (qC .non))))))
def Fb:pF:=fnP ["start","reach","sheet","touch","boats","boat"] ["start","reach","sheet","touch"] KA
def KB:pS:=(qSeq (qIfS (qB (qOp (wNe 4) (qUn CV (B0 u8 (A0 (qTup (A0 (qV 1) (A0 (qV 2) qNil))) qNil))) (qC (.int 4)))) (qRet (qC (.bl false))) qNx)
   (qSeq (qSet 3 (B0 Y3 (A0 (qV 0) (A0 (qV 1) qNil))))
   (qRet (qOp (wNe 4) (qOp (wIn 4 false) (qOp wIx (qV 2) (qC (.int 1))) (qV 3)) (qOp (wIn 4 false) (qOp wIx (qV 2) (qC (.int 2))) (qV 3))))))
def CY:pF:=fnP ["start","one","other","inner"] ["start","one","other"] KB
def KC:pS:=(qSeq (qFor (qIl (qV 2)) (gN 3) (qIfS (qB (B0 CY (A0 (qV 0) (A0 (qV 1) (A0 (qV 3) qNil))))) (qRet (qTup (A0 (qC (.str (A4 "cross"))) (A0 (qV 1) (A0 (qV 3) qNil))))) qNx))
   (qRet (qC .non)))
def Fc:pF:=fnP ["start","touch","touches","other"] ["start","touch","touches"] KC
def KD:pS:=(qSeq (qSet 3 (B0 EZ (A0 (qV 0) (A0 (qV 2) qNil))))
   (qSeq (qIfS (qB (qOp Ag (qV 3) (qC .non))) (qRet (qV 3)) qNx)
   (qSeq (qSet 4 (B0 BF (A0 (qV 2) qNil)))
   (qSeq (qFor (qIl (qV 4)) (gN 5) (qSeq (qSet 3 (qOrT (B0 Fb (A0 (qV 0) (A0 (qV 1) (A0 (qV 2) (A0 (qV 5) qNil))))) (B0 Fc (A0 (qV 0) (A0 (qV 5) (A0 (qV 4) qNil))))))
   (qIfS (qB (qOp Ag (qV 3) (qC .non))) (qRet (qV 3)) qNx)))
   (qRet (qC .non))))))
def Fd:pF:=fnP ["start","reach","sheet","reason","touches","touch"] ["start","reach","sheet"] KD
def Hq:pS:=(qSeq (qSet 3 (B0 Fd (A0 (qV 0) (A0 (qV 1) (A0 (qV 2) qNil)))))
   (qSeq (qIfS (qB (qOp Ag (qV 3) (qC .non))) (qRet (qTup (A0 (qC (.str (A4 "unsound"))) (A0 (qV 3) qNil)))) qNx)
   (qSeq (qSet 4 (qL (O8 [none] (qIt (qV 2)) (gN 0) (qB (qOp (wEq 4) (qOp wIx (qV 0) (qC (.int 0))) (qC (.str (A4 "drop"))))) (qV 0))))
   (qSeq (qSet 5 (qL (EL 0 (B0 BF (A0 (qV 2) qNil)) (qUn wLen (B0 Y3 (A0 (qV 1) (A0 (qV 0) qNil)))))))
   (qRet (qTup (A0 (qC (.str (A4 "course"))) (A0 (qUn X6 (qL (qCat (qV 4) (qV 5)))) qNil))))))))
def Fe:pF:=fnP ["start","reach","sheet","reason","drops","inner_first"] ["start","reach","sheet"] Hq
def KF:pS:=(qSeq (qIfS (qOr (qNot (qB (qUn (wIsi "str") (qV 0)))) (qNot (qB (d9 wLe wLe (qC (.int 1)) (qUn wLen (qV 0)) (qC (.int 8)))))) (qRet (qC (.bl false))) qNx)
   (qRet (qUn wAll (qL (O8 [none] (qIs (qV 0)) (gN 0) qTru (d9 wLe wLe (qC (.str (A4 "a"))) (qV 0) (qC (.str (A4 "z")))))))))
def BG:pF:=fnP ["thing"] ["thing"] KF
def KG:pS:=(qSeq (qIfS (qNot (qB (B0 BG (A0 (qV 3) qNil)))) (qRet (qC (.bl false))) qNx)
   (qSeq (qSet 4 (B0 u8 (A0 (qV 1) qNil)))
   (qSeq (qIfS (qB (qOp (wEq 4) (qV 2) (qC (.str (A4 "strange"))))) (qRet (N9 (qOp (wIn 4 false) (qV 3) (qV 4)) (qOp (wIn 4 true) (qV 3) (qV 0)))) qNx)
   (qRet (qOp wGt (GQ (qV 4) (qV 3)) (qC (.int 1)))))))
def Hr:pF:=fnP ["start","sheet","word","thing","boats"] ["start","sheet","word","thing"] KG
def KH:pS:=(qSeq (qIfS (qOr (qNot (qB (qUn (wIsi "tuple") (qV 0)))) (qB (qOp (wNe 4) (qUn wLen (qV 0)) (qC (.int 3))))) (qRet (qC (.bl false))) qNx)
   (qSeq (qAsg (qV 0) (gTp 3 (gCn (gN 1) (gCn (gN 2) (gCn (gN 3) gNl)))))
   (qSeq (qIfS (qOr (qNot (qB (qUn (wIsi "str") (qV 1)))) (qB (qOp (wNe 4) (qV 1) (qC (.str (A4 "touch")))))) (qRet (qC (.bl false))) qNx)
   (qRet (N9 (B0 BG (A0 (qV 2) qNil)) (N9 (B0 BG (A0 (qV 3) qNil)) (qOp (wNe 4) (qV 2) (qV 3))))))))
def Hs:pF:=fnP ["thing","word","x","y"] ["thing"] KH
def KI:pS:=(qSeq (qIfS (qOr (qNot (qB (B0 Hs (A0 (qV 2) qNil)))) (qB (qOp (wIn 4 true) (qV 2) (qV 1)))) (qRet (qC (.bl false))) qNx)
   (qRet (N9 (qOp (wIn 4 false) (qOp wIx (qV 2) (qC (.int 1))) (qV 0)) (qOp (wIn 4 false) (qOp wIx (qV 2) (qC (.int 2))) (qV 0)))))
def c7:pF:=fnP ["start","sheet","thing"] ["start","sheet","thing"] KI
def KJ:pS:=(qSeq (qIfS (qNot (qB (B0 c7 (A0 (qV 0) (A0 (qV 2) (A0 (qV 4) qNil)))))) (qRet (qC (.bl false))) qNx)
   (qSeq (qIfS (qB (qOp (wEq 4) (qV 3) (qC (.str (A4 "wrong"))))) (qRet (B0 E_ (A0 (qV 0) (A0 (qV 4) qNil)))) qNx)
   (qRet (B0 Fa (A0 (qV 0) (A0 (qV 1) (A0 (qV 4) qNil)))))))
def Ht:pF:=fnP ["start","reach","sheet","word","thing"] ["start","reach","sheet","word","thing"] KJ
def KK:pS:=(qSeq (qIfS (qOr (qNot (qB (B0 c7 (A0 (qV 0) (A0 (qV 1) (A0 (qV 2) qNil)))))) (qNot (qB (B0 BG (A0 (qV 3) qNil))))) (qRet (qC (.bl false))) qNx)
   (qRet (N9 (qOp (wIn 4 false) (qV 3) (B0 Y3 (A0 (qV 0) (A0 (qV 2) qNil)))) (qOp (wIn 4 true) (qV 3) (B0 u8 (A0 (qV 1) qNil))))))
def Hu:pF:=fnP ["start","sheet","touch","thing"] ["start","sheet","touch","thing"] KK
def KL:pS:=(qSeq (qIfS (qOr (qNot (qB (B0 c7 (A0 (qV 0) (A0 (qV 1) (A0 (qV 2) qNil)))))) (qNot (qB (B0 c7 (A0 (qV 0) (A0 (qV 1) (A0 (qV 3) qNil))))))) (qRet (qC (.bl false))) qNx)
   (qRet (B0 CY (A0 (qV 0) (A0 (qV 2) (A0 (qV 3) qNil))))))
def Hv:pF:=fnP ["start","sheet","one","other"] ["start","sheet","one","other"] KL
def KN:pS:=(qSeq (qIfS (qOr (qNot (qB (qUn (wIsi "tuple") (qV 3)))) (qOr (qB (qOp (wIn 4 true) (qUn wLen (qV 3)) (qTup (A0 (qC (.int 2)) (A0 (qC (.int 3)) qNil))))) (qNot (qB (qUn (wIsi "str") (qOp wIx (qV 3) (qC (.int 0)))))))) (qRet (qC (.bl false))) qNx)
   (qSeq (Hk 4 5 (qV 3))
   (qSeq (qIfS (qAnd (qB (qOp (wEq 4) (qUn wLen (qO 5)) (qC (.int 1)))) (qB (qOp (wIn 4 false) (qV 4) (qTup (A0 (qC (.str (A4 "strange"))) (A0 (qC (.str (A4 "twice"))) qNil)))))) (qRet (B0 Hr (A0 (qV 0) (A0 (qV 2) (A0 (qV 4) (A0 (qOpR wIx (qO 5) (qC (.int 0))) qNil)))))) qNx)
   (qSeq (qIfS (qAnd (qB (qOp (wEq 4) (qUn wLen (qO 5)) (qC (.int 1)))) (qB (qOp (wIn 4 false) (qV 4) (qTup (A0 (qC (.str (A4 "wrong"))) (A0 (qC (.str (A4 "far"))) qNil)))))) (qRet (B0 Ht (A0 (qV 0) (A0 (qV 1) (A0 (qV 2) (A0 (qV 4) (A0 (qOpR wIx (qO 5) (qC (.int 0))) qNil))))))) qNx)
   (qSeq (qIfS (qAnd (qB (qOp (wEq 4) (qUn wLen (qO 5)) (qC (.int 2)))) (qB (qOp (wEq 4) (qV 4) (qC (.str (A4 "stays")))))) (qRet (B0 Hu (A0 (qV 0) (A0 (qV 2) (A0 (qOpR wIx (qO 5) (qC (.int 0))) (A0 (qOpR wIx (qO 5) (qC (.int 1))) qNil)))))) qNx)
   (qSeq (qIfS (qAnd (qB (qOp (wEq 4) (qUn wLen (qO 5)) (qC (.int 2)))) (qB (qOp (wEq 4) (qV 4) (qC (.str (A4 "cross")))))) (qRet (B0 Hv (A0 (qV 0) (A0 (qV 2) (A0 (qOpR wIx (qO 5) (qC (.int 0))) (A0 (qOpR wIx (qO 5) (qC (.int 1))) qNil)))))) qNx)
   (qRet (qC (.bl false)))))))))
def BH:pF:=fnP ["start","reach","sheet","thing","word","parts"] ["start","reach","sheet","thing"] KN
def KO:pS:=(qSeq (qIfS (qNot (qB (qUn wAll (qL (O8 [none,some 0,some 2] (qIt (qSl (qV 3) (K3 (qC (.int 1))) qNo)) (gN 0) qTru (N9 (qOp (wIn 4 false) (qV 0) (qV 1)) (qOp (wIn 4 true) (qV 0) (qV 2)))))))) (qRet (qC (.bl false))) qNx)
   (qSeq (qIfS (qB (qOp (wEq 4) (qOp wIx (qV 3) (qC (.int 0))) (qC (.str (A4 "drop"))))) (qRet (qC (.bl true))) qNx)
   (qSeq (qPar 4 5 (sV (V3 (qV 0) (qOp wIx (qV 3) (qC (.int 1))))) (sV (V3 (qV 0) (qOp wIx (qV 3) (qC (.int 2))))))
   (qSeq (qSet 6 (qSl (qV 0) (K3 (qOp wAdd (qV 5) (qC (.int 1)))) (K3 (qV 4))))
   (qRet (N9 (qOp wLt (qV 5) (qV 4)) (N9 (qOp wLe (qUn wLen (qV 6)) (qV 1)) (qUn wAll (qL (O8 [none,some 2] (qIt (qV 6)) (gN 0) qTru (qOp (wIn 4 false) (qV 0) (qV 1))))))))))))
def Ff:pF:=fnP ["_law_start","_law_reach","_law_out","_law_event","_law_behind","_law_ahead","_law_between_here"] ["_law_start","_law_reach","_law_out","_law_event"] KO
def KP:pS:=(qSeq (EI [3,4,5] (i5 (sO (R5 (qV 2))) (i5 (sO (qLst qNil)) (i5 (sO (qLst qNil)) EH))))
   (qSeq (qFor (e7 (qUn wLen (qV 2))) (gN 6) (qSeq (qSet 7 (qL (EG (O8 [none,some 0,some 1,some 4] (qIl (qV 3)) (gN 0) (qB (B0 Ff (A0 (qV 1) (A0 (qV 2) (A0 (qV 3) (A0 (qV 0) qNil)))))) (qV 0)))))
   (qSeq (qIfS (qB (qOp (wEq 4) (qV 7) (qL (qLst qNil)))) (t4 3 (t4 5 (qRet (qTup (A0 (qV 5) (A0 (qV 3) qNil)))))) qNx)
   (qSeq (O2 (V2 5 (qOp wIx (qV 7) (qC (.int 0)))))
   (qSeq (O2 (Bx 4 (qL (R5 (qSl (qOp wIx (qV 7) (qC (.int 0))) (K3 (qC (.int 1))) qNo)))))
   (O2 (GZ 4 3 (qOp wIx (qV 7) (qC (.int 0))))))))))
   (t4 3 (t4 5 (qRet (qTup (A0 (qV 5) (A0 (qV 3) qNil))))))))
def Fg:pF:=fnP ["_law_start","_law_reach","_law_sheet_here","_law_left","_law_out","_law_found","_law_tour","_law_some"] ["_law_start","_law_reach","_law_sheet_here"] KP
def KQ:pS:=(qSeq (qAsg (qTup (A0 (V3 (qV 0) (qOp wIx (qV 1) (qC (.int 1)))) (A0 (V3 (qV 0) (qOp wIx (qV 1) (qC (.int 2)))) qNil))) (gTp 2 (gCn (gN 2) (gCn (gN 3) gNl))))
   (qRet (qL (O8 [none,none,some 2,some 3] (Ey (qV 0)) (gTp 2 (gCn (gN 0) (gCn (gN 1) gNl))) (qB (d9 wLt wLt (qOp wMin (qV 2) (qV 3)) (qV 0) (qOp wMax (qV 2) (qV 3)))) (qV 1)))))
def Fh:pF:=fnP ["_law_start","_law_event","_law_one","_law_other"] ["_law_start","_law_event"] KQ
def KR:pS:=(qSeq (qIfS (qOr (qNot (qB (qUn (wIsi "tuple") (qV 2)))) (qOr (qB (qOp (wNe 4) (qUn wLen (qV 2)) (qC (.int 3)))) (qB (qOp (wIn 4 true) (qV 2) (qV 1))))) (qRet (qC (.bl false))) qNx)
   (qRet (N9 (qOp (wIn 4 false) (qOp wIx (qV 2) (qC (.int 1))) (qV 0)) (qOp (wIn 4 false) (qOp wIx (qV 2) (qC (.int 2))) (qV 0)))))
def CZ:pF:=fnP ["_law_start","_law_sheet_here","_law_thing"] ["_law_start","_law_sheet_here","_law_thing"] KR
def AA:pS:=(qSeq (qIfS (qOr (qNot (qB (qUn (wIsi "tuple") (qV 3)))) (qOr (qB (qOp (wIn 4 true) (qUn wLen (qV 3)) (qTup (A0 (qC (.int 2)) (A0 (qC (.int 3)) qNil))))) (qNot (qB (qUn (wIsi "str") (qOp wIx (qV 3) (qC (.int 0)))))))) (qRet (qC (.bl false))) qNx)
   (qSeq (qSet 4 (qUn wLen (qL (O8 [none,some 3] (qIt (qV 2)) (gN 0) (qB (qOp (wIn 4 false) (qOp wIx (qV 1) (qC (.int 1))) (qSl (qV 0) (K3 (qC (.int 1))) qNo))) (qV 0)))))
   (qSeq (qIfS (qOr (qB (qOp (wEq 4) (qOp wIx (qV 3) (qC (.int 0))) (qC (.str (A4 "strange"))))) (qB (qOp (wEq 4) (qOp wIx (qV 3) (qC (.int 0))) (qC (.str (A4 "twice")))))) (qSeq (qSet 5 (qIf (qB (qOp (wEq 4) (qOp wIx (qV 3) (qC (.int 0))) (qC (.str (A4 "strange"))))) (N9 (qOp wGt (qV 4) (qC (.int 0))) (qOp (wIn 4 true) (qOp wIx (qV 3) (qC (.int 1))) (qV 0))) (qOp wGt (qV 4) (qC (.int 1)))))
   (qRet (N9 (qV 5) (qOp (wEq 4) (qUn wLen (qV 3)) (qC (.int 2)))))) qNx)
   (qSeq (qIfS (qNot (qB (B0 CZ (A0 (qV 0) (A0 (qV 2) (A0 (qOp wIx (qV 3) (qC (.int 1))) qNil)))))) (qRet (qC (.bl false))) qNx)
   (qSeq (qSet 6 (B0 Fh (A0 (qV 0) (A0 (qOp wIx (qV 3) (qC (.int 1))) qNil))))
   (qSeq (qIfS (qAnd (qB (qOp (wEq 4) (qUn wLen (qV 3)) (qC (.int 2)))) (qB (qOp (wEq 4) (qOp wIx (qV 3) (qC (.int 0))) (qC (.str (A4 "wrong")))))) (qRet (qOp wGt (V3 (qV 0) (qOp wIx (qOp wIx (qV 3) (qC (.int 1))) (qC (.int 2)))) (V3 (qV 0) (qOp wIx (qOp wIx (qV 3) (qC (.int 1))) (qC (.int 1)))))) qNx)
   (qSeq (qIfS (qB (qOp (wEq 4) (qUn wLen (qV 3)) (qC (.int 2)))) (qRet (N9 (qOp (wEq 4) (qOp wIx (qV 3) (qC (.int 0))) (qC (.str (A4 "far")))) (qOp wGt (qUn wLen (qV 6)) (qV 1)))) qNx)
   (qSeq (qIfS (qB (qOp (wEq 4) (qOp wIx (qV 3) (qC (.int 0))) (qC (.str (A4 "stays"))))) (qRet (N9 (qOp (wIn 4 false) (qOp wIx (qV 3) (qC (.int 2))) (qV 6)) (Gr (qUn wAny (qL (O8 [none,some 3] (qIt (qV 2)) (gN 0) qTru (qOp (wIn 4 false) (qOp wIx (qV 1) (qC (.int 2))) (qSl (qV 0) (K3 (qC (.int 1))) qNo)))))))) qNx)
   (qSeq (qIfS (qOr (qB (qOp (wNe 4) (qOp wIx (qV 3) (qC (.int 0))) (qC (.str (A4 "cross"))))) (qNot (qB (B0 CZ (A0 (qV 0) (A0 (qV 2) (A0 (qOp wIx (qV 3) (qC (.int 2))) qNil))))))) (qRet (qC (.bl false))) qNx)
   (qSeq (qSet 7 (qOp wAdd (qSl (qOp wIx (qV 3) (qC (.int 1))) (K3 (qC (.int 1))) qNo) (qSl (qOp wIx (qV 3) (qC (.int 2))) (K3 (qC (.int 1))) qNo)))
   (qRet (N9 (qOp (wEq 4) (qUn Ex (qV 7)) (qC (.int 4))) (qOp (wNe 4) (qOp (wIn 4 false) (qOp wIx (qV 7) (qC (.int 2))) (qV 6)) (qOp (wIn 4 false) (qOp wIx (qV 7) (qC (.int 3))) (qV 6)))))))))))))))
def C_:pF:=fnP ["_law_start","_law_reach","_law_sheet_here","_law_thing","_law_many","_law_good","_law_between_here","_law_boats_here"] ["_law_start","_law_reach","_law_sheet_here","_law_thing"] AA
def KS:pS:=(qSeq (qPar 4 5 (sV (qOp (wEq 4) (qOp wIx (B0 Fg (A0 (qV 0) (A0 (qV 1) (A0 (qV 2) qNil)))) (qC (.int 1))) (qL (qLst qNil)))) (sV (B0 Fe (A0 (qV 0) (A0 (qV 1) (A0 (qV 2) qNil))))))
   (qSeq (qIfS (qAnd (qNot (t7 (qV 4))) (qB (qOp EV (B0 BH (A0 (qV 0) (A0 (qV 1) (A0 (qV 2) (A0 (qOp wIx (qV 5) (qC (.int 1))) qNil))))) (qC (.bl true))))) (qRet (qC (.bl false))) qNx)
   (qSeq (qFor (qIl (qV 3)) (gN 6) (qSeq (qSet 7 (B0 BH (A0 (qV 0) (A0 (qV 1) (A0 (qV 2) (A0 (qV 6) qNil))))))
   (qSeq (qIfS (qOr (qNot (qB (qUn (wIsi "bool") (qV 7)))) (qB (qOp (wNe 4) (qV 7) (B0 C_ (A0 (qV 0) (A0 (qV 1) (A0 (qV 2) (A0 (qV 6) qNil)))))))) (qRet (qC (.bl false))) qNx)
   (qIfS (qAnd (t7 (qV 4)) (t7 (qV 7))) (qRet (qC (.bl false))) qNx))))
   (qRet (qC (.bl true))))))
def Da:pF:=fnP ["_law_start","_law_reach","_law_sheet_here","_law_reasons","_law_good","_law_told","_law_thing","_law_found"] ["_law_start","_law_reach","_law_sheet_here","_law_reasons"] KS
def Hw:pS:=(qSeq (qFor (e7 (qOp wAdd (qC (.int 1)) (qUn wLen (qSl (qV 0) qNo (K3 (qC (.int 5))))))) (gN 1) (qSeq (Hi 2 (qV 0) (qV 1))
   (qSeq (qSet 3 (qOp wIx (qL (qLst (A0 (qOp wAdd (qC (.int 1)) (B0 b__law_draw (A0 (qV 2) (A0 (qC (.int 9)) qNil)))) (A0 (qOp wAdd (qC (.int 10)) (B0 b__law_draw (A0 (qV 2) (A0 (qC (.int 5)) qNil)))) qNil)))) (qUn wInt (qOp (wEq 4) (B0 b__law_draw (A0 (qV 2) (A0 (qC (.int 8)) qNil))) (qC (.int 0))))))
   (qSeq (qAsg (qTup (A0 (B0 Hn (A0 (qV 2) (A0 (qOp wAdd (qV 3) (qC (.int 2))) qNil))) (A0 (qOp wIx (qL (qLst (A0 (B0 b__law_draw (A0 (qV 2) (A0 (qC (.int 8)) qNil))) (A0 (qC (.int 7)) qNil)))) (qUn wInt (qOp wGt (qV 3) (qC (.int 9))))) qNil))) (gTp 2 (gCn (gN 4) (gCn (gN 5) gNl))))
   (qSeq (qSet 6 (qSl (qV 4) qNo (K3 (qV 3))))
   (qSeq (qSet 7 (B0 Hm (A0 (qV 2) (A0 (qV 6) (A0 (qV 5) qNil)))))
   (qSeq (qFor (e7 (B0 b__law_draw (A0 (qV 2) (A0 (qC (.int 3)) qNil)))) (gN 8) (qSet 7 (B0 Ho (A0 (qV 2) (A0 (qV 6) (A0 (qV 7) (A0 (qSl (qV 4) (K3 (qV 3)) qNo) qNil)))))))
   (qSeq (qIfS (qB (qOp wGt (qV 3) (qC (.int 9)))) (qSeq (qSet 9 (qTup (A0 (qC (.str (A4 "touch"))) (A0 (qOp wIx (qV 6) (qOp wAdd (qC (.int 8)) (B0 b__law_draw (A0 (qV 2) (A0 (qOp wSub (qV 3) (qC (.int 8))) qNil))))) (A0 (qOp wIx (qV 6) (qC (.int 0))) qNil)))))
   (qSet 7 (qUn X6 (qL (Az (qL (qCat (qL (R5 (qV 7))) (qL (qLst (A0 (qV 9) qNil)))))))))) qNx)
   (qSeq (qSet 10 (qL (O8 [none,some 2,some 7,some 4] (e7 (qC (.int 30))) (gN 0) qTru (B0 EY (A0 (qV 1) (A0 (qV 2) (A0 (qV 3) qNil)))))))
   (qIfS (qOr (qNot (qB (B0 Da (A0 (qV 6) (A0 (qV 5) (A0 (qV 7) (A0 (qV 10) qNil))))))) (qNot (qB (B0 Da (A0 (qUn wRev (qV 6)) (A0 (qV 5) (A0 (qV 7) (A0 (qV 10) qNil)))))))) (qRet (qC (.bl false))) qNx))))))))))
   (qRet (qC (.bl true))))
end Tb
end
section
namespace Tb
open PySem L2 Pu
def top (i:Nat):Stmt:=PySem.Challenge.pw_touchboats_k09_reasons_shown.main.body.getD i (.Pass ⟨0,0,0,0⟩)
end Tb
end
section
namespace Tb
open PySem L2 Pu
theorem KT (a b:Int):eqP (.int a) (.int b)=decide (a=b):=by
 show(a == b)=_;rw [Cg]
theorem KU (a b:Str):eqP (.str a) (.str b)=decide (a=b):=by
 show(a == b)=_;rw [Cg]
theorem KW (a b:Bool):eqP (.bl a) (.bl b)=decide (a=b):=by
 show(a == b)=_;rw [Cg]
theorem wsa:decide (A4 "strange"=A4 "strange")=true:=by with_unfolding_all rfl
theorem wsb:decide (A4 "twice"=A4 "strange")=false:=by with_unfolding_all rfl
theorem wsc:decide (A4 "twice"=A4 "twice")=true:=by with_unfolding_all rfl
theorem wsd:decide (A4 "wrong"=A4 "strange")=false:=by with_unfolding_all rfl
theorem wse:decide (A4 "wrong"=A4 "twice")=false:=by with_unfolding_all rfl
theorem wsf:decide (A4 "wrong"=A4 "wrong")=true:=by with_unfolding_all rfl
theorem wsg:decide (A4 "far"=A4 "strange")=false:=by with_unfolding_all rfl
theorem wsh:decide (A4 "far"=A4 "twice")=false:=by with_unfolding_all rfl
theorem wsi:decide (A4 "far"=A4 "wrong")=false:=by with_unfolding_all rfl
theorem wsj:decide (A4 "far"=A4 "far")=true:=by with_unfolding_all rfl
theorem wsk:decide (A4 "stays"=A4 "strange")=false:=by with_unfolding_all rfl
theorem wsl:decide (A4 "stays"=A4 "twice")=false:=by with_unfolding_all rfl
theorem wsm:decide (A4 "stays"=A4 "stays")=true:=by with_unfolding_all rfl
theorem wsn:decide (A4 "cross"=A4 "strange")=false:=by with_unfolding_all rfl
theorem wso:decide (A4 "cross"=A4 "twice")=false:=by with_unfolding_all rfl
theorem wsp:decide (A4 "cross"=A4 "stays")=false:=by with_unfolding_all rfl
theorem wsq:decide (A4 "cross"=A4 "cross")=true:=by with_unfolding_all rfl
theorem wsA:decide (((2:Nat):Int)=2)=true:=by with_unfolding_all rfl
theorem wsB:decide (((3:Nat):Int)=2)=false:=by with_unfolding_all rfl
set_option compiler.extract_closed false in
set_option hygiene false in
local macro_rules | `(tactic| walk_at "pd")=>`(tactic| dsimp only [dreduceIte,true_and,and_true,F7,beq_self_eq_true,Nat.reduceLeDiff,Nat.reduceLT,Int.reduceLT,Int.reduceLE,G0,KT,KU,KW,qSeq,qNx,qSet,qAsg,O2,qRet,qRetO,qIfS,qPar,GG,sV,sO,qPut,gAt,t4,Ek,qV,qO,qC,qOp,qOpR,qUn,wI,wI0,wAdd,wSub,wMul,Gm,wMod,wEq,wNe,wLt,wLe,wGt,Ag,qB,d9,qAnd,qOr,qNot,N9,qOrV,Gr,qIf,qNil,A0,qTup,qLst,qL,wIx,qNo,K3,qSl,wSl,wLen,wInt,wAll,wAny,X6,R5,wIsi,wMin,wMax,B0,gN,gNl,gCn,gTp,qIl,qIt,e7,qIs,capV,capS,qTru,O8,qCat,GK,GJ,t7,V2,GB,GL,GC,t5,tyP,isT,List.map,List.set,M7,List.length_nil,Dv,AM,List.cons_append,BY,x6,Nat.reduceSub,Nat.reduceAdd,Option.bind,y4,Bool.not_false,Bool.true_or,Bool.false_or,AV,k9,Z1,String.reduceBEq,cmpb,p7,eqP_ll,Am,An,CG,decide_true,decide_false,Bv,Er,Bx,GQ,Et,wRev,Ex,Ey,qFor,EE,u4,V3,at2_0,at2_1,at3_0,at3_1,at3_2,grd_t,Az,wSet,GY,EG,frz,frzS,EI,i5,EH,setAll,gTl,noMut,GZ,Ha,BC,qOrT,EL,CV,Hk,EV,wsa,wsb,wsc,wsd,wse,wsf,wsg,wsh,wsi,wsj,wsk,wsl,wsm,wsn,wso,wsp,wsq,wsA,wsB,b__law_draw,Hi])
set_option hygiene false in
local macro_rules | `(tactic| walk_at "pu")=>`(tactic| (try walk_at "pd") <;> (try simp only [KT,KU,KW,decide_true,decide_false,true_and,and_true,reduceIte,Nat.reduceLeDiff,Nat.reduceLT,Int.reduceLT,Int.reduceLE,G0,beq_self_eq_true,F7]))
def Good:Ev->Prop
 | .d x=>C8 x
 | .t x y=>x≠y/\C8 x/\C8 y
def SrE (es:List Ev):Prop:=(es.map evP).Pairwise fun a b=>lexK (keyP b) (keyP a)=false
theorem erase_perm {α:Type}:∀(l:List α) (i:Nat) (h:i < l.length),(l[i]::l.eraseIdx i).Perm l
 | x::l,0,_=>.refl _
 | x :: l, i + 1, h => by
   have h0:i < l.length:=by simpa using h
   have ih:=erase_perm l i h0;exact(DT x l[i] (l.eraseIdx i)).trans (ih.cons x)
theorem Rb {k:Nat}{s1:Option Slot}{D:Aj}(N:Nat)(hN:N<=999999000):∀(m:Nat) (left found:List PV) (n:Nat),left.length=m->found.length + left.length<=1000->left.all (cmpb 3)=true->n + left.length<=N->
   (∀ys n',ys.Perm (found++left)->n'<=n + left.length->D.nx [some (.v (.pot (k + 1))),s1,some (.own []),some (.own ys)] n')->
   q8 (qB (qOpR (wNe 4) (qO 2) (qL (qLst qNil)))) (O2 (V2 3 (GL 2 (B0 b__law_draw (A0 (qV 0) (A0 (qUn wLen (qO 2)) qNil)))))) D (m + 1) [some (.v (.pot (k + 1))),s1,some (.own left),some (.own found)] n:=by
 intro m
 induction m with
 | zero =>
   intro left found n hl hs pl hn hD;have:left=[]:=w6 hl;subst this;simp only [q8];walk_at "pu";exact hD found n (by simp) (by omega)
 | succ m ih =>
   intro left found n hl hs pl hn hD;cases left with
   | nil=>cases hl
   | cons y r =>
     rw [q8];have hl':r.length=m:=by simpa using hl
     rw [M7] at hs hn;walk_at "pu";refine gd2 pl rfl (if_t rfl ⟨⟨_,rfl⟩,⟨_,rfl⟩,⟨by omega,by omega,by omega⟩,fun d d0 d1=>⟨by omega,?_⟩⟩);have d1':d < ((y::r).length:Int):=by rw [M7];exact d1
     rw [Gk (n:=r.length + 1) d0 d1];have hk:d.toNat < (y::r).length:=by omega
     dsimp only;rw [C4 hk];refine⟨by omega,?_⟩;have le:((y::r).eraseIdx d.toNat).length=r.length:=by rw [Fu hk];rfl
     refine ih ((y::r).eraseIdx d.toNat) (found++[(y::r)[d.toNat]]) (n + 1) (by omega) (by rw [D4,N4,le];omega) (J3.mpr fun z hz=>J3.mp pl z (List.mem_of_mem_eraseIdx hz)) (by omega) fun ys n' p h'=>?_;rw [le] at h';refine hD ys n' (p.trans ?_) (by rw [M7];omega);rw [P1];exact(erase_perm _ _ hk).append_left found
theorem m_shuf {k n:Nat}{xs:List PV}{R:PV->Nat->Prop}{x:PV}(hx:x=.lst xs\/x=.tup xs)(hl:xs.length<=1000)(hn:n<=999990000)(hp:xs.all (cmpb 3)=true)(h:∀ys n',ys.Perm xs->n'<=n + xs.length->R (.tup ys) n'):EX [.pot (k + 1),x] n R:=by
 rcases hx with rfl | rfl
 all_goals
   refine⟨rfl,?_⟩;unfold Km;walk_at "pu";exact⟨_,Rb 999999000 (B3 _) xs.length xs [] n rfl (by simpa using hl) hp (by omega) fun ys n' p h'=>h ys n' (by simpa using p) h'⟩
def chI (x:Int):Nat:=97 + (x % 26).toNat
theorem Hx (x:Int):atI LETS.cps.toList (x % 26)=some (chI x):=by
 have h:∀n:Nat,n < 26->atI LETS.cps.toList (n:Int)=some (97 + n):=by decide
 have h0:0<=x % 26:=Aa _ (by decide);have h1:x % 26 < 26:=z9 _ (by decide);have:=h (x % 26).toNat (by omega);rw [show(((x % 26).toNat:Nat):Int)=x % 26 by omega] at this;exact this
theorem chI_d {d:Int}(d0:0<=d)(d1:d < 26):atI LETS.cps.toList d=some (chI d):=by
 have:=Hx d;rw [show d % 26=d by omega] at this;exact this
theorem AB {c:Nat}{n:Int}:(d4 ⟨#[c]⟩ n).cps.toList=x6 n.toNat c:=by
 rw [No]
 induction n.toNat with
 | zero=>rfl
 | succ k ih=>rw [List.replicate_succ,List.flatten_cons,ih];rfl
theorem Db (x:Int):Ltr (chI x):=by unfold chI;exact⟨by omega,by omega⟩
def one1 (y:PV):Prop:=∃c:Nat,Ltr c/\y=.str ⟨#[c]⟩
theorem Rc:∀ys:List PV,(∀y∈ys,one1 y)->∃zs:List Str,N7 ys=some zs/\zs.length=ys.length/\(zs.map (·.length)).sum=ys.length/\(Txt.join (A4 "") zs).length=ys.length/\∀c∈(Txt.join (A4 "") zs).cps.toList,Ltr c:=by
 intro ys h
 have key:∃zs:List Str,N7 ys=some zs/\zs.length=ys.length/\(zs.map (·.length)).sum=ys.length/\(zs.map fun z=>z.cps.toList).flatten.length=ys.length/\∀c∈(zs.map fun z=>z.cps.toList).flatten,Ltr c:=by
   induction ys with
   | nil=>exact⟨[],rfl,rfl,rfl,rfl,fun _ z=>nomatch z⟩
   | cons y ys ih =>
     obtain⟨c,lc,rfl⟩:=h y B8;obtain⟨zs,e1,e2,e3,e4,e5⟩:=ih fun z hz=>h z (C3 _ hz);refine⟨⟨#[c]⟩::zs,?_,by rw [M7,M7,e2],?_,?_,fun a ha=>?_⟩
     · show(N7 ys).map _=_;rw [e1];rfl
     · rw [E9,List.sum_cons,e3,M7];show 1 + _=_;omega
     · rw [E9,List.flatten_cons,D4,e4,show(PV.str ⟨#[c]⟩::ys).length=ys.length + 1 from rfl];show 1 + _=_;omega
     · rw [E9,List.flatten_cons] at ha;rcases F9.mp ha with ha | ha
       · rw [show a=c from D5.mp ha];exact lc
       · exact e5 a ha
 obtain⟨zs,e1,e2,e3,e4,e5⟩:=key;exact⟨zs,e1,e2,e3,by rw [Bm,Iv];exact e4,by rw [Iv];exact e5⟩
structure Ky (way fi sp:Int)(j:Nat)(z:Str):Prop where
 a:way=0->z.cps.toList[0]?=some (chI (fi + 7 * j))
 b:way=1->z.cps.toList=x6 (1 + j % 8) (chI (fi + ((j / 8:Nat):Int)))
 c:1 < way->z.cps.toList[sp.toNat]?=some (chI (fi + 7 * j))
 d:C8 z
theorem KY {fi:Int}{j k:Nat}(hj:j < 26)(hk:k < 26)(h:chI (fi + 7 * j)=chI (fi + 7 * k)):j=k:=by
 unfold chI at h;omega
theorem Ky.inj {way fi sp:Int}{j k:Nat}{z:Str}(w0:0<=way)(hj:j < 26)(hk:k < 26)(h1:Ky way fi sp j z)(h2:Ky way fi sp k z):j=k:=by
 by_cases c0:way=0
 · have:=(h1.a c0).symm.trans (h2.a c0);exact KY hj hk (L8 this)
 · by_cases c1:way=1
   · have e:=(h1.b c1).symm.trans (h2.b c1);have l:=congrArg List.length e;rw [Y9,Y9] at l;have hd:=congrArg (fun l=>l[0]?) e;simp only [Du] at hd;rw [if_pos (by omega),if_pos (by omega)] at hd;have hd:=L8 hd;unfold chI at hd;omega
   · have:=(h1.c (by omega)).symm.trans (h2.c (by omega));exact KY hj hk (L8 this)
theorem Re {way fi sp:Int}{zs:List Str}(w0:0<=way)(hl:zs.length<=26)(h:∀(j:Nat) (z:Str),zs[j]?=some z->Ky way fi sp j z):zs.Nodup:=by
 refine W7.mpr fun i j hi hj hij e=>?_;have e1:=C4 hi;have e2:=C4 hj;have k1:=h i _ e1;have k2:=h j zs[i] (by rw [e2,e]);have:=Ky.inj w0 (by omega) (by omega) k1 k2;omega
theorem KZ {α:Type}{x:α}:∀{l:List α} (i:Nat),l.Nodup->x∉l->(l.set i x).Nodup
 | [],_,h,_=>h
 | y :: l, 0, h, hx => by
   rw [List.set_cons_zero,T0];exact⟨fun z=>hx (C3 _ z),(T0.mp h).2⟩
 | y :: l, i + 1, h, hx => by
   rw [List.set_cons_succ,T0];refine⟨fun z=>?_,KZ i (T0.mp h).2 fun z=>hx (C3 _ z)⟩;rcases List.mem_or_eq_of_mem_set z with z | z
   · exact(T0.mp h).1 z
   · exact hx (by rw [<- z];exact B8)
theorem Rf {α β:Type}{f:α->β}{ys:List β}{xs:List α}(h:ys.Perm (xs.map f)):∃zs:List α,ys=zs.map f/\zs.Perm xs:=by
 generalize e:xs.map f=l at h
 induction h generalizing xs with
 | nil=>exact⟨[],rfl,by rw [List.map_eq_nil_iff.mp e]⟩
 | @cons y l1 l2 h ih =>
   cases xs with
   | nil=>cases e
   | cons x xs =>
     rw [E9] at e;injection e with e1 e2;obtain⟨zs,rfl,p⟩:=ih e2;exact⟨x::zs,by rw [E9,e1],p.cons x⟩
 | @swap a b l =>
   match xs,e with
   | x :: x' :: xs, e =>
     rw [E9,E9] at e;injection e with e1 e;injection e with e2 e3;exact⟨x'::x::xs,by rw [E9,E9,e1,e2,e3],.swap ..⟩
 | @trans l1 l2 l3 h1 h2 ih1 ih2 =>
   obtain⟨zs,rfl,p⟩:=ih2 e;obtain⟨ws,rfl,p'⟩:=ih1 rfl;exact⟨ws,rfl,p'.trans p⟩
theorem Rg (zs:List Str)(d:Nat):(zs.map PV.str).all (cmpb d)=true:=BD zs d
theorem Rh {k n:Nat}{many:Int}{R:PV->Nat->Prop}(h0:1<=many)(h1:many<=26)(hn:n<=999900000)(h:∀zs n',(zs.length:Int)=many->RowS zs->n'<=n + 1000->R (rowP zs) n'):Hn [.pot (k + 1),.int many] n R:=by
 refine⟨rfl,?_⟩;unfold Ko;have jl:(A4 "").length=0:=rfl;have l26:LETS.length=26:=by decide +kernel
 walk_at "pu";refine⟨by omega,fun way w0 w1=>⟨by omega,fun fi f0 f1=>⟨by omega,fun sz z0 z1=>⟨⟨by omega,by omega,by omega⟩,fun sp p0 p1=>⟨by omega,fun fl l0 l1=>⟨by rw [show(A4 "abcdefghijklmnopqrstuvwxyz").length=26 from l26];decide,?_⟩⟩⟩⟩⟩⟩;rw [chI_d l0 l1];have hc:=Db fl;generalize chI fl=c at hc ⊢;refine⟨⟨by omega,by omega⟩,?_⟩;refine Y0 (fun i env m=>∃s9 s10,∃found:List Str,env=[some (.v (.pot (k + 1))),some (.v (.int many)),some (.v (.str LETS)),some (.own (found.map PV.str)),some (.v (.int way)),some (.v (.int fi)),some (.v (.int (1 + sz))),some (.v (.int sp)),some (.v (.str ⟨#[c]⟩)),s9,s10,none]/\found.length=i/\(∀(j:Nat) (z:Str),found[j]?=some z->Ky way fi sp j z)/\m<=n + 5 + i * 9) _ 0 _ _ ⟨none,none,[],rfl,rfl,(fun _ _ z=>nomatch z),by omega⟩ (fun i x env m N ex hI hN=>?_) (fun env m hI=>?_)
 · obtain⟨hi,rfl⟩:=CD ex;obtain⟨s9,s10,found,rfl,hf,pf,hm⟩:=hI;have hi2:i < 26:=by omega
   have fin:∀(z:Str) (m':Nat),Ky way fi sp i z->m'<=m + 9->(∃xs,([some (.v (.pot (k + 1))),some (.v (.int many)),some (.v (.str LETS)),some (.own (found.map PV.str)),some (.v (.int way)),some (.v (.int fi)),some (.v (.int (1 + sz))),some (.v (.int sp)),some (.v (.str ⟨#[c]⟩)),some (.v (.int (0 + i))),some (.v (.str z)),none]:Pu.Env)[3]?=some (some (.own xs)))/\(found.map PV.str).length < 1000000/\N [some (.v (.pot (k + 1))),some (.v (.int many)),some (.v (.str LETS)),some (.own (found.map PV.str++[.str z])),some (.v (.int way)),some (.v (.int fi)),some (.v (.int (1 + sz))),some (.v (.int sp)),some (.v (.str ⟨#[c]⟩)),some (.v (.int (0 + i))),some (.v (.str z)),none] m':=by
     intro z m' az hm';refine⟨⟨_,rfl⟩,by rw [A9];omega,hN _ _ ⟨_,_,found++[z],by rw [N6];rfl,by rw [D4,N4];omega,fun j y hy=>?_,by omega⟩⟩
     by_cases cj:j < found.length
     · rw [W6 cj] at hy;exact pf j y hy
     · have hj:j=found.length:=by
         obtain⟨hh,_⟩:=D7.mp hy;rw [D4,N4] at hh;omega
       subst hj;rw [U6 (B3 _),y0] at hy;have hy':z=y:=by simpa using hy
       rw [<- hy',hf,Q1];exact az
   have ec1:=Hx (fi + 7 * (0 + i));have ll:LETS.length<=1000000:=by rw [l26];decide
   have zi:(0:Int) + (i:Int)=(i:Int):=by omega
   generalize hF:found.map PV.str=FF at fin ⊢;walk_at "pu";simp only [ec1,ll,true_and];have Dc:∀c:Nat,(⟨#[c]⟩:Str).length=1:=fun _=>rfl;have e8:0<=(0 + (i:Int)) % 8/\(0 + (i:Int)) % 8 < 8:=⟨Aa _ (by decide),z9 _ (by decide)⟩;refine⟨.inl ⟨by decide,by decide⟩,?_⟩
   by_cases a0:way=0
   · have b0:decide (way=0)=true:=decide_eq_true a0;have b1:decide (way=1)=false:=decide_eq_false (by omega);have b2:decide (1 < way)=false:=decide_eq_false (by omega);simp only [b0,b1,b2,reduceIte,F7];refine⟨by omega,fun d d0 d1=>⟨⟨by omega,by omega⟩,by rw [b7];omega,?_⟩⟩;refine IV one1 1 999999000 _ _ _ _ (fun y hy m Q hm hQ=>?_) (by rw [b7];omega) fun ys n2 hl hp hn2=>?_
     · walk_at "pu";refine⟨by omega,fun u u0 u1=>⟨ll,?_⟩⟩;rw [chI_d u0 u1];exact hQ _ _ ⟨_,Db _,rfl⟩ (by omega)
     · rw [b7] at hl hn2;obtain⟨zs,e1,l1,l2,hJ,hL⟩:=Rc ys hp;rw [e1];dsimp only;generalize Txt.join (A4 "") zs=J at hJ hL ⊢;refine⟨by rw [l2,jl];omega,by rw [Dc];omega,fin _ _ ⟨fun _=>?_,fun z=>absurd (a0.symm.trans z) (by decide),fun z=>by omega,?_⟩ (by omega)⟩
       · rw [d8,zi];rfl
       · unfold C8;rw [Bm] at hJ;rw [d8,D4,show((⟨#[chI (fi + 7 * (0 + i))]⟩:Str).cps.toList)=[chI (fi + 7 * (0 + i))] from rfl,N4];exact⟨by omega,by omega,fun c hc=>(F9.mp hc).elim (fun z=>by rw [D5.mp z];exact Db _) (hL c)⟩
   · have b0:decide (way=0)=false:=decide_eq_false a0
     by_cases a1:way=1
     · have b1:decide (way=1)=true:=decide_eq_true a1;have b2:decide (1 < way)=false:=decide_eq_false (by omega);simp only [b0,b1,b2,reduceIte,F7];have ec2:=Hx (fi + (0 + i) / 8);simp only [ec2];refine⟨⟨by decide,by decide⟩,by rw [Dc];decide,by omega,by omega,fin _ _ ⟨fun z=>absurd z a0,fun _=>?_,fun z=>by omega,by unfold C8;rw [AB,Y9];exact⟨by omega,by omega,fun c hc=>by rw [Fv hc];exact Db _⟩⟩ (by omega)⟩;rw [AB,show(1 + (0 + (i:Int)) % 8).toNat=1 + i % 8 by omega,show fi + (0 + (i:Int)) / 8=fi + ((i / 8:Nat):Int) by omega]
     · have b1:decide (way=1)=false:=decide_eq_false a1;have b2:decide (1 < way)=true:=decide_eq_true (by omega);simp only [b0,b1,b2,reduceIte,F7];have g1:(d4 ⟨#[c]⟩ sp).length<=8:=by rw [Bm,AB,Y9];omega
       have g2:(d4 ⟨#[c]⟩ (1 + sz - 1 - sp)).length<=8:=by rw [Bm,AB,Y9];omega
       have g3:(d4 ⟨#[c]⟩ sp++(⟨#[chI (fi + 7 * (0 + i))]⟩:Str)).length<=9:=by
         rw [Bm] at g1 ⊢;rw [d8,D4];show _ + 1<=9;omega
       refine⟨by rw [Dc];decide,by omega,by omega,by rw [Dc];omega,by rw [Dc];decide,by omega,by omega,by omega,fin _ _ ⟨fun z=>absurd z a0,fun z=>absurd z a1,fun _=>?_,?_⟩ (by omega)⟩
       rotate_left
       · unfold C8;rw [d8,d8,AB,AB,D4,D4,Y9,Y9];refine⟨by show 1<=_ + 1 + _;omega,by show _ + 1 + _<=8;omega,fun d hd=>?_⟩;rcases F9.mp hd with hd | hd
         · rcases F9.mp hd with hd | hd
           · rw [Fv hd];exact hc
           · rw [D5.mp hd];exact Db _
         · rw [Fv hd];exact hc
       rw [d8,d8,AB,zi,P1,U6 (by rw [Y9];exact B3 _),Y9,y0]
       rfl
 · obtain⟨s9,s10,found,rfl,hf,pf,hm⟩:=hI;rw [b7] at hf hm;have nd:RowS found:=⟨Re w0 (by omega) pf,fun z hz=>by obtain⟨j,e⟩:=List.getElem?_of_mem hz;exact(pf j z e).d⟩;generalize hF:found.map PV.str=FF;walk_at "pu"
   have sh:∀(ys:List Str) (m':Nat),ys.length=found.length->RowS ys->m'<=m + 5->EX [PV.pot (k + 1),PV.lst (ys.map PV.str)] m' fun r n2=>R r n2:=fun ys m' e p hm'=>m_shuf (.inl rfl) (by rw [A9];omega) (by omega) (Rg _ _) fun zs n' p2 h2=>by
     obtain⟨ws,rfl,pw⟩:=Rf p2;rw [A9] at h2;exact h ws n' (by rw [pw.length_eq];omega) (p.perm pw) (by omega)
   refine⟨by omega,fun d d0 d1=>?_⟩;obtain⟨x,hx,ex⟩:=CF (xs:=[PV.str (A4 "drop"),PV.str (A4 "touch"),PV.str (A4 "none"),PV.str (A4 "d"),PV.str (A4 "u"),PV.str (A4 "t"),PV.str (A4 "o")]) d0 d1;rw [ex]
   have bx:∃z:Str,x=.str z/\C8 z:=by
     simp only [C5,x5,or_false] at hx;rcases hx with rfl | rfl | rfl | rfl | rfl | rfl | rfl <;> exact⟨_,rfl,by decide,by decide,by unfold Ltr;decide⟩
   obtain⟨z,rfl,bz⟩:=bx;refine⟨by omega,fun e e0 e1=>?_⟩
   by_cases c0:e=0
   · rw [if_pos (decide_eq_true c0)];subst hF;refine EN rfl ?_
     by_cases cz:z∈found
     · exact if_f (by rw [decide_eq_true cz];rfl) (sh found _ rfl nd (by omega))
     · refine if_t (by rw [decide_eq_false cz];rfl) ⟨⟨_,rfl⟩,⟨by omega,by omega,by omega⟩,fun j j0 j1=>?_⟩;rw [Gk j0 (by rw [A9];omega)];have:=sh (found.set j.toNat z) _ (O1 ..) ⟨KZ j.toNat nd.1 cz,fun a ha=>(List.mem_or_eq_of_mem_set ha).elim (nd.2 a) fun e=>by rw [e];exact bz⟩ (show m + 1 + 1 + 1<=m + 5 by omega);rw [List.map_set] at this;exact this
   · rw [if_neg (by simpa using c0)];subst hF;exact sh found _ rfl nd (by omega)
def btw (st:List Str)(x y:Str):List Str:=(st.take (ixS st x)).drop (ixS st y + 1)
def lcan (st:List Str)(r:Int)(out:List Str)(e:Ev):Bool:=
 (evB e).all (fun b=>decide (b∈st) && !decide (b∈out)) && (match e with
   | .d _=>true
   | .t x y=>decide (ixS st y < ixS st x) && (decide (((btw st x y).length:Int)<=r) && (btw st x y).all fun b=>decide (b∈out)))
theorem AC {α:Type}(xs:List α)(f:α->Bool):Z6 (xs.map fun x=>PV.bl (f x))=some (xs.map f):=by
 rw [<- NA (xs.map f),U7];rfl
theorem Dd {α:Type}(xs:List α)(f:α->Bool):(xs.map f).all id=xs.all f:=by rw [List.all_map];rfl
theorem K_ {α:Type}(xs:List α)(f:α->Bool):(xs.map f).any id=xs.any f:=by rw [List.any_map];rfl
theorem Ri {st:List Str}{x y:Str}(hx:x∈st):cutP (st.map PV.str) (some ((ixS st y:Nat) + 1:Int)) (some ((ixS st x:Nat):Int))=(btw st x y).map PV.str:=by
 have:=JL (st.map PV.str) (a:=ixS st y + 1) (b:=ixS st x) (by rw [A9];exact W9 (CQ hx));unfold btw;rw [List.map_drop,List.map_take,<- this]
 rfl
theorem lc_d {st out:List Str}{r:Int}{x:Str}:lcan st r out (.d x)=[x].all (fun b=>decide (b∈st) && !decide (b∈out)):=by unfold lcan;rw [AX];rfl
theorem m_can {st out:List Str}{r:Int}{e:Ev}{n:Nat}{R:PV->Nat->Prop}(hs:st.length<=100)(h:R (.bl (lcan st r out e)) n):Ff [rowP st,.int r,.lst (out.map PV.str),evP e] n R:=by
 refine⟨rfl,?_⟩;unfold KO
 have go:∀(bs:List Str) (s0:Option Pu.Slot) (R':List PV->Nat->Prop),R' (bs.map fun b=>PV.bl (decide (b∈st) && !decide (b∈out))) n->O7 (gN 0) qTru (N9 (qOp (wIn 4 false) (qV 0) (qV 1)) (qOp (wIn 4 true) (qV 0) (qV 2))) (bs.map PV.str) [s0,some (.v (rowP st)),some (.v (.lst (out.map PV.str)))] n R':=by
   intro bs s0 R' h';refine Ez PV.str _ bs s0 n R' (fun b hb m Q hQ=>?_) h';generalize hS:rowP st=S at *;generalize hO:PV.lst (out.map PV.str)=O at *;walk_at "pu";subst hS hO;refine Y1 rfl ?_;dsimp only
   by_cases c:b∈st
   · rw [decide_eq_true c,k9] at hQ;rw [if_pos (decide_eq_true c)];exact EN rfl hQ
   · rw [decide_eq_false c,Z1] at hQ;rw [if_neg (by simpa using c)];exact hQ
 have go2:∀(bs:List Str) (s0:Option Pu.Slot) (R':List PV->Nat->Prop),R' (bs.map fun b=>PV.bl (decide (b∈out))) n->O7 (gN 0) qTru (qOp (wIn 4 false) (qV 0) (qV 1)) (bs.map PV.str) [s0,some (.v (.lst (out.map PV.str)))] n R':=by
   intro bs s0 R' h';refine Ez PV.str _ bs s0 n R' (fun b hb m Q hQ=>?_) h';generalize hO:PV.lst (out.map PV.str)=O at *;walk_at "pu";subst hO;exact CP rfl hQ
 cases e with
 | d x =>
   rw [V5];generalize hO:PV.lst (out.map PV.str)=O at *;walk_at "pu";rw [show cutP [PV.str DROP,PV.str x] (some 1) none=[x].map PV.str from rfl];refine⟨by simp,go _ _ _ ?_⟩;rw [AC];dsimp only;rw [Dd];rw [lc_d] at h;cases hb:[x].all (fun b=>decide (b∈st) && !decide (b∈out)) with
   | false=>rw [hb] at h;exact h
   | true=>rw [hb] at h;exact h
 | t x y =>
   rw [N1];unfold lcan at h;rw [show evB (.t x y)=[x,y] from rfl] at h;dsimp only at h;generalize hO:PV.lst (out.map PV.str)=O at *;walk_at "pu";rw [show cutP [PV.str D6,PV.str x,PV.str y] (some 1) none=[x,y].map PV.str from rfl];refine⟨by simp,go _ _ _ ?_⟩;rw [AC];dsimp only;rw [Dd];cases hb:[x,y].all (fun b=>decide (b∈st) && !decide (b∈out)) with
   | false=>rw [hb,Z1] at h;exact h
   | true =>
     rw [hb,k9] at h
     have hm:∀b∈[x,y],b∈st:=fun b hb'=>by
       have:=J3.mp hb b hb';rw [P2] at this;exact of_decide_eq_true this.1
     have hx:x∈st:=hm x (by simp);have hy:y∈st:=hm y (by simp);rw [if_neg (by simp),if_neg (by rw [JO];simp)];refine⟨⟨_,rfl⟩,m_ix rfl hx (by omega) ?_⟩;refine⟨⟨_,rfl⟩,m_ix rfl hy (by omega) ?_⟩;dsimp only;rw [Ri hx,A9];have bl:(btw st x y).length<=100:=by unfold btw;rw [W8,P9];omega
     generalize btw st x y=B at *
     by_cases c1:ixS st y < ixS st x
     · rw [if_pos (decide_eq_true (by omega))];rw [decide_eq_true c1,k9] at h
       by_cases c2:(B.length:Int)<=r
       · rw [if_pos (decide_eq_true c2)];rw [decide_eq_true c2,k9] at h;refine⟨by omega,go2 _ _ _ ?_⟩;rw [AC];dsimp only;rw [Dd];exact h
       · rw [if_neg (by simpa using c2)];rw [decide_eq_false c2,Z1] at h;exact h
     · rw [if_neg (by simp;omega)];rw [decide_eq_false c1,Z1] at h;exact h
theorem Rj (e:Ev):noMut (evP e)=true:=by cases e <;> rfl
theorem Rk {α:Type}{f:α->PV}(h:∀a,noMut (f a)=true):∀l:List α,p6 (l.map f)=true:=by
 intro xq
 induction xq with
 | nil =>
   exact rfl
 | cons a l ih =>
   show(noMut (f a) && p6 (l.map f))=true;rw [h a,ih];rfl
theorem La (e:Ev)(d:Nat):cmpb (d + 1) (evP e)=true:=by cases e <;> cases d <;> rfl
theorem De (es:List Ev)(d:Nat):(es.map evP).all (cmpb (d + 1))=true:=J3.mpr fun y hy=>by
 obtain⟨e,_,rfl⟩:=F5.mp hy;exact La e d
theorem Lb {α β:Type}(f:α->β):∀(l:List α) (j:Nat),(l.eraseIdx j).map f=(l.map f).eraseIdx j
 | [],_=>rfl
 | _::_,0=>rfl
 | a :: l, j + 1 => by
   show f a::(l.eraseIdx j).map f=f a::(l.map f).eraseIdx j;rw [Lb f l j]
theorem at_hd {α:Type}{x:α}{xs:List α}:atI (x::xs) 0=some x:=FZ (xs:=x::xs) (j:=0) rfl
theorem Lc {a b:Ev}(h:eqP (evP a) (evP b)=true):a=b:=by
 cases a with
 | d x =>
   cases b with
   | d y =>
     rw [V5,V5] at h;simp only [Am,An,CG,i4,AX,decide_true,k9,decide_eq_true_eq] at h;rw [h]
   | t y z =>
     rw [V5,N1] at h;simp only [Am,An,i4] at h;rw [show decide (DROP=D6)=false by decide +kernel,Z1] at h;cases h
 | t x x' =>
   cases b with
   | d y =>
     rw [V5,N1] at h;simp only [Am,An,i4] at h;rw [show decide (D6=DROP)=false by decide +kernel,Z1] at h;cases h
   | t y z =>
     rw [N1,N1] at h;simp only [Am,An,CG,i4,AX,decide_true,k9,P2,decide_eq_true_eq] at h;rw [h.1,h.2]
theorem Hy (a:Ev):eqP (evP a) (evP a)=true:=by
 cases a with
 | d x=>rw [V5];simp [Am,An,CG,i4]
 | t x y=>rw [N1];simp [Am,An,CG,i4]
theorem Rl {l:List Ev}{e:Ev}(h:e∈l):∃j:Nat,l[j]?=some e/\(∃z,(l.map evP)[j]?=some z/\eqP z (evP e)=true)/\∀i:Nat,i < j->∀z,(l.map evP)[i]?=some z->eqP z (evP e)=false:=by
 have hj:l.findIdx (fun x=>eqP (evP x) (evP e)) < l.length:=List.findIdx_lt_length_of_exists ⟨e,h,Hy e⟩;have hg:=List.findIdx_getElem (w:=hj);have ee:=Lc hg;refine⟨_,by rw [C4 hj,ee],⟨evP e,by rw [F4,C4 hj,ee];rfl,Hy e⟩,fun i hi z hz=>?_⟩;obtain⟨x,hx,rfl⟩:=Ax hz;have hx':=D7.mp hx;have:=List.not_of_lt_findIdx hi;rw [hx'.2] at this
 simpa using this
theorem Hz (e:Ev){xs:List PV}(h:evP e=.tup xs):cutP xs (some 1) none=(evB e).map PV.str:=by
 cases e with
 | d x=>rw [V5] at h;cases h;rfl
 | t x y=>rw [N1] at h;cases h;rfl
def wlk (st:List Str)(r:Int):List Ev->Nat->List Str->Option Nat
 | [],_,_=>none
 | e::es,k,out=>if lcan st r out e=true then wlk st r es (k + 1) (out++evB e) else some k
theorem Ld {st out:List Str}{r:Int}{e:Ev}(h:lcan st r out e=true):∀b∈evB e,b∈st/\b∉out:=fun b hb=>by
 unfold lcan at h;rw [P2] at h;have:=J3.mp h.1 b hb;rw [P2] at this;exact⟨of_decide_eq_true this.1,by simpa using this.2⟩
theorem Rm {st:List Str}{r:Int}{e:Ev}:∀(f:List Ev) (k:Nat) (o:List Str),wlk st r f k o=none->lcan st r (o++f.flatMap evB) e=true->wlk st r (f++[e]) k o=none:=by
 intro xq
 induction xq with
 | nil =>
   intro k o _ h;rw [List.flatMap_nil,S6] at h;show(if lcan st r o e=true then none else some k)=none;rw [if_pos h]
 | cons a f ih =>
   intro k o w h;have w':(if lcan st r o a=true then wlk st r f (k + 1) (o++evB a) else some k)=none:=w;show(if lcan st r o a=true then wlk st r (f++[e]) (k + 1) (o++evB a) else some k)=none
   by_cases c:lcan st r o a=true
   · rw [if_pos c] at w' ⊢;refine ih (k + 1) (o++evB a) w' ?_;rw [AS] at h;rw [P1];exact h
   · rw [if_neg c] at w';cases w'
theorem Ro {st:List Str}{r:Int}{es:List Ev}{n:Nat}{R:PV->Nat->Prop}(hs:st.length<=100)(he:es.length<=100)(h:∀f l:List Ev,(f++l).Perm es->wlk st r f 0 []=none->(∀e∈l,lcan st r (f.flatMap evB) e=false)->R (.tup [.lst (f.map evP),.lst (l.map evP)]) n):Fg [rowP st,.int r,shP es] n R:=by
 refine⟨rfl,?_⟩;unfold KP shP;have hc:∀(o:List Str) (e:Ev) {n:Nat} {R:PV->Nat->Prop},R (.bl (lcan st r o e)) n->Ff [rowP st,.int r,.lst (o.map PV.str),evP e] n R:=fun o e {n R} q=>m_can hs q;generalize hS:rowP st=S at *;generalize hE:es.map evP=E;have El:E.length=es.length:=by rw [<- hE,A9]
 walk_at "pu";refine⟨by omega,?_⟩;refine Y0 (fun i env m=>∃s6 s7,∃(f l:List Ev) (o:List Str),env=[some (.v S),some (.v (.int r)),some (.v (.tup E)),some (.own (l.map evP)),some (.own (o.map PV.str)),some (.own (f.map evP)),s6,s7]/\(f++l).Perm es/\o.length<=2 * i/\o=f.flatMap evB/\wlk st r f 0 []=none/\f.length=i/\m=n) _ 0 _ _ ⟨none,none,[],es,[],by rw [hE];rfl,.refl _,by simp,rfl,rfl,rfl,rfl⟩ (fun i x env m N ex hI hN=>?_) (fun env m hI=>?_)
 · obtain⟨hi,rfl⟩:=CD ex;obtain⟨s6,s7,f,l,o,rfl,pm,ol,eo,wf,fl,rfl⟩:=hI;generalize hL:l.map evP=L;generalize hO:o.map PV.str=O;generalize hF:f.map evP=F;walk_at "pu";have Ll:L.length=l.length:=by rw [<- hL,A9]
   have Fl:F.length=f.length:=by rw [<- hF,A9]
   have Ol:O.length=o.length:=by rw [<- hO,A9]
   have pl:=pm.length_eq;rw [D4] at pl;refine⟨by omega,?_⟩;rw [<- hL];refine CM evP (lcan st r o) _ _ _ _ (fun e he m' Q hQ=>?_) ?_
   · generalize hP:evP e=P at *;walk_at "pu";rw [<- hP,<- hO];refine hc o e ?_;rw [hP,hO];exact hQ
   · refine⟨Rk Rj _,gd2 (De _ _) rfl ?_⟩;cases hf:l.filter (lcan st r o) with
     | nil =>
       refine if_t rfl ?_;rw [<- hF];refine h f l pm wf fun e he=>?_;rw [<- eo];cases q:lcan st r o e with
       | false=>rfl
       | true=>exact absurd (N5.mpr ⟨he,q⟩) (by rw [hf];exact x5)
     | cons e0 rest =>
       have mf:=N5.mp (show e0∈l.filter (lcan st r o) by rw [hf];exact B8);have m0:e0∈l:=mf.1;refine if_f rfl ⟨⟨_,rfl⟩,?_⟩;rw [E9,show atI (evP e0::rest.map evP) 0=some (evP e0) from at_hd];refine⟨by omega,⟨_,rfl⟩,?_⟩;obtain⟨xs,hxs⟩:∃xs,evP e0=.tup xs:=⟨_,rfl⟩;have ec:=Hz e0 hxs;have bl:(evB e0).length<=2:=by cases e0 <;> simp [evB]
       obtain⟨j,j1,j2,j3⟩:=Rl m0;have c4:=La e0 3;rw [hxs] at j2 j3 c4 ⊢;dsimp only;rw [ec];refine⟨by rw [A9];omega,⟨_,rfl⟩,c4,De _ _,j,j2,j3,hN _ _ ⟨some (.v (.int (0 + (i:Int)))),some (.v (.lst (.tup xs::rest.map evP))),f++[e0],l.eraseIdx j,o++evB e0,?_,?_,by rw [D4];omega,by rw [BV,eo];simp,?_,by rw [D4,fl];rfl,rfl⟩⟩
       · rw [<- hF,<- hO,N6,N6,Lb,List.map_singleton,hxs]
       · have hjl:=(D7.mp j1);have:=erase_perm l j hjl.1;rw [hjl.2] at this;rw [P1];exact(this.append_left f).trans pm
       · refine Rm f 0 [] wf ?_;rw [BY,<- eo];exact mf.2
 · obtain⟨s6,s7,f,l,o,rfl,pm,ol,eo,wf,fl,rfl⟩:=hI;walk_at "pu";rw [b7,Q1] at fl;have pl:=pm.length_eq;rw [D4] at pl;refine h f l pm wf fun e he=>?_;have:l=[]:=w6 (by omega);rw [this] at he;cases he
theorem Rp (h:Srt ys [.int a,.int b]):ys=[.int (min a b),.int (max a b)]:=by
 obtain⟨p,q⟩:=h;have l:=p.length_eq
 match ys,l with
 | [u, v], _ =>
   have hq:lexK (keyP v) (keyP u)=false:=by simpa using q
   have two:(u=.int a/\v=.int b)\/(u=.int b/\v=.int a):=by
     have hu:u∈[PV.int a,PV.int b]:=p.mem_iff.mp (by simp);rcases C5.mp hu with e | hu
     · subst e;exact .inl ⟨rfl,by simpa using(List.perm_cons _).mp p⟩
     · have e:u=.int b:=by simpa using hu
       subst e;have p2:=p.trans (DT (PV.int b) (PV.int a) []);exact .inr ⟨rfl,by simpa using(List.perm_cons _).mp p2⟩
   rcases two with⟨rfl,rfl⟩ | ⟨rfl,rfl⟩
   · have:¬b < a:=by
       intro c
       have e:lexK [N0 b] [N0 a]=true:=by
         show(if(N0 b:Key)=N0 a then lexK [] [] else decide (b < a))=true;rw [if_neg (by intro z;cases z;omega)];exact decide_eq_true c
       rw [show keyP (PV.int b)=[N0 b] from rfl,show keyP (PV.int a)=[N0 a] from rfl,e] at hq;cases hq
     rw [show min a b=a by omega,show max a b=b by omega]
   · have:¬a < b:=by
       intro c
       have e:lexK [N0 a] [N0 b]=true:=by
         show(if(N0 a:Key)=N0 b then lexK [] [] else decide (a < b))=true;rw [if_neg (by intro z;cases z;omega)];exact decide_eq_true c
       rw [show keyP (PV.int b)=[N0 b] from rfl,show keyP (PV.int a)=[N0 a] from rfl,e] at hq;cases hq
     rw [show min a b=b by omega,show max a b=a by omega]
theorem Df (hs:st.length<=100)(hx:x∈st)(hy:y∈st)(h:R (rowP (btwU st x y)) n):Y3 [rowP st,evP (.t x y)] n R:=by
 refine⟨rfl,?_⟩;unfold Kx;have hix:∀z∈st,∀{R:PV->Prop},R (.int (ixS st z))->u5 (.tup (st.map PV.str)) (.str z) R:=fun z hz {R} q=>m_ix rfl hz (by omega) q;have hr0:rowP st=.tup (st.map PV.str):=rfl;have lx:=CQ hx;have ly:=CQ hy
 have hcut:cutP (st.map PV.str) (some (min (ixS st x:Int) (ixS st y) + 1)) (some (max (ixS st x:Int) (ixS st y)))=(btwU st x y).map PV.str:=by
   have:=JL (st.map PV.str) (a:=min (ixS st x) (ixS st y) + 1) (b:=max (ixS st x) (ixS st y)) (by rw [A9];omega);unfold btwU;rw [List.map_drop,List.map_take,<- this]
   congr 2 <;> omega
 generalize hZ:st.map PV.str=Z at *;rw [hr0,N1];walk_at "pu";refine⟨⟨_,rfl⟩,hix x hx ?_⟩;refine⟨⟨_,rfl⟩,hix y hy ?_⟩;refine⟨.inl (by simp),fun ys hys=>?_⟩;rw [Rp hys];refine⟨rfl,?_⟩;walk_at "pu";rw [hcut];exact h
theorem Le {st:List Str}{x y:Str}{n:Nat}{R:PV->Nat->Prop}(hs:st.length<=100)(hx:x∈st)(hy:y∈st)(h:R (.bl (decide (ixS st x < ixS st y))) n):E_ [rowP st,evP (.t x y)] n R:=by
 refine⟨rfl,?_⟩;unfold Kw;have hix:∀z∈st,∀{R:PV->Prop},R (.int (ixS st z))->u5 (.tup (st.map PV.str)) (.str z) R:=fun z hz {R} q=>m_ix rfl hz (by omega) q;have hr0:rowP st=.tup (st.map PV.str):=rfl;generalize hZ:st.map PV.str=Z at *;rw [hr0,N1];walk_at "pu";refine⟨⟨_,rfl⟩,hix y hy ?_⟩;refine⟨⟨_,rfl⟩,hix x hx ?_⟩;dsimp only;rw [show decide ((ixS st x:Int) < ixS st y)=decide (ixS st x < ixS st y) by rw [decide_eq_decide];omega];exact h
theorem m_far (hs:st.length<=100)(hx:x∈st)(hy:y∈st)(h:R (.bl (decide (r < ((btwU st x y).length:Int)))) n):Fa [rowP st,.int r,evP (.t x y)] n R:=by
 refine⟨rfl,?_⟩;unfold Kz;generalize hS:rowP st=S;generalize hT:evP (.t x y)=T;walk_at "pu";subst hS hT;refine Df hs hx hy ?_;dsimp only;rw [A9];exact h
theorem Lf (hl:es.length<=1000000)(h:R (.lst ((es.filter isTo).map evP)) n):BF [shP es] n R:=by
 refine⟨rfl,?_⟩;unfold Kv shP;generalize hE:es.map evP=E;have El:E.length=es.length:=by rw [<- hE,A9]
 walk_at "pu";refine⟨by omega,?_⟩;rw [<- hE];refine CM evP isTo _ _ _ _ (fun e he m Q hQ=>?_) h;cases e with
 | d x =>
   rw [V5] at *;walk_at "pu";rw [He];exact hQ
 | t x y =>
   rw [N1] at *;walk_at "pu";exact hQ
theorem HA:∀(es:List Ev) (s0 s1:Option Pu.Slot) (n:Nat) (R:List PV->Nat->Prop),R ((es.flatMap evB).map PV.str) n->At (gN 0) (qIt (qSl (qV 0) (K3 (qC (.int 1))) qNo)) (gN 1) qTru (qV 1) (es.map evP) [s0,s1] n R
 | [],_,_,_,_,h=>h
 | .d x :: es, s0, s1, n, R, h => by
   have ih:=HA es (some (.v (.tup [.str DROP,.str x]))) (some (.v (.str x))) n (fun ws n4=>R (.str x::ws) n4) h;rw [E9,V5];have e:cutP [PV.str DROP,PV.str x] (some 1) none=[.str x]:=rfl;generalize es.map evP=E at *;unfold At;walk_at "pu";rw [e];exact⟨by simp,ih⟩
 | .t x y :: es, s0, s1, n, R, h => by
   have ih:=HA es (some (.v (.tup [.str D6,.str x,.str y]))) (some (.v (.str y))) n (fun ws n4=>R (.str x::.str y::ws) n4) h;rw [E9,N1];have e:cutP [PV.str D6,PV.str x,PV.str y] (some 1) none=[.str x,.str y]:=rfl;generalize es.map evP=E at *;unfold At;walk_at "pu";rw [e];exact⟨by simp,ih⟩
theorem Dg {es:List Ev}{n:Nat}{R:PV->Nat->Prop}(hl:es.length<=1000)(h:R (.lst ((es.flatMap evB).map PV.str)) n):u8 [shP es] n R:=by
 refine⟨rfl,?_⟩;unfold Kt shP;have go:=fun R' h'=>HA es none none n R' h';generalize hE:es.map evP=E at *;have El:E.length=es.length:=by rw [<- hE,A9]
 walk_at "pu";exact⟨by omega,go _ h⟩
def evL (st:List Str):Ev->Int
 | .d _=>0
 | .t x y=>((btwU st x y).length:Int)
theorem Lg {st:List Str}{n:Nat}(hs:st.length<=100):∀(ts:List Ev) (R:List Int->Nat->Prop),(∀e∈ts,∃x y,e=.t x y/\x∈st/\y∈st)->R (ts.map (evL st)) n->Av (qUn wLen (B0 Y3 (A0 (qV 1) (A0 (qV 0) qNil)))) (rowP st) (ts.map evP) n R
 | [],R,_,h=>h
 | e :: ts, R, ht, h => by
   obtain⟨x,y,rfl,hx,hy⟩:=ht e B8;have ih:=Lg hs (n:=n) ts (fun ks n2=>R (evL st (.t x y)::ks) n2) (fun e he=>ht e (C3 _ he)) h;have mb:∀{R:PV->Nat->Prop},R (rowP (btwU st x y)) n->Y3 [rowP st,evP (.t x y)] n R:=fun q=>Df hs hx hy q;rw [E9];generalize ts.map evP=E at *;generalize hW:rowP st=W at *;generalize hT:evP (.t x y)=T at *;unfold Av;walk_at "pu";refine mb ?_
   try dsimp only
   refine⟨_,rfl,?_⟩;have e:(((btwU st x y).map PV.str).length:Int)=evL st (.t x y):=by rw [A9];rfl
   rw [e];exact ih
theorem Rq {ts:List Ev}{f:Ev->Int}{ys:List PV}(h:SrtK (ts.map f) (ts.map evP) ys):∃ts':List Ev,ys=ts'.map evP/\ts'.Perm ts/\ts'.Pairwise fun a b=>f a<=f b:=by
 obtain⟨ps,hp,rfl,ho⟩:=h
 have e:(ts.map f).zip (ts.map evP)=ts.map fun e=>(f e,evP e):=by
   clear hp
   induction ts with
   | nil=>rfl
   | cons t ts ih=>simp [ih]
 rw [e] at hp;obtain⟨l,pl,rfl⟩:=JH hp ts rfl;refine⟨l,by rw [U7];rfl,pl,?_⟩;rw [d3] at ho;exact ho
def isDr (e:Ev):Bool:=!isTo e
inductive Rs where
 | strange (b:Str) | twice (b:Str) | wrong (x y:Str) | far (x y:Str) | stays (x y z:Str) | cross (x y x' y':Str)
def rsP:Rs->PV
 | .strange b=>.tup [.str (A4 "strange"),.str b]
 | .twice b=>.tup [.str (A4 "twice"),.str b]
 | .wrong x y=>.tup [.str (A4 "wrong"),evP (.t x y)]
 | .far x y=>.tup [.str (A4 "far"),evP (.t x y)]
 | .stays x y z=>.tup [.str (A4 "stays"),evP (.t x y),.str z]
 | .cross x y x' y'=>.tup [.str (A4 "cross"),evP (.t x y),evP (.t x' y')]
theorem Fi (w:Rs):∃a l,rsP w=.tup (a::l):=by cases w <;> exact⟨_,_,rfl⟩
abbrev four (x y x' y':Str):Prop:=((met (M5 [x,y,x',y']) [x,y,x',y'].length).length:Int)=4
def Tin (st:List Str)(es:List Ev)(x y:Str):Prop:=Ev.t x y∈es/\x∈st/\y∈st
def isRs (r:Int)(st:List Str)(es:List Ev):Rs->Prop
 | .strange b=>b∈es.flatMap evB/\b∉st
 | .twice b=>2<=(es.filter fun e=>decide (b∈evB e)).length
 | .wrong x y=>Tin st es x y/\ixS st x < ixS st y
 | .far x y=>Tin st es x y/\r < ((btwU st x y).length:Int)
 | .stays x y z=>Tin st es x y/\z∈btwU st x y/\z∉es.flatMap evB
 | .cross x y x' y'=>Tin st es x y/\Tin st es x' y'/\four x y x' y'/\¬(x'∈btwU st x y↔y'∈btwU st x y)
def cntS (x:Str)(l:List Str):Int:=PySem.Spec.countIn (.str x) (l.map PySem.PyData.str)
theorem i7 (x y:Str)(l:List Str):cntS x (y::l)=(if y=x then 1 else 0) + cntS x l:=by
 show(if PySem.Spec.same (.str y) (.str x) then 1 else 0) + cntS x l=_;have e:PySem.Spec.same (.str y) (.str x)=decide (y=x):=rfl;rw [e]
 by_cases c:y=x
 · rw [decide_eq_true c,if_pos c];rfl
 · rw [decide_eq_false c,if_neg c];rfl
theorem cnt_nn (x:Str):∀l:List Str,0<=cntS x l:=by
 intro xq
 induction xq with
 | nil =>
   exact Int.le_refl _
 | cons y l ih =>
   rw [i7];have:=ih
   split <;> omega
theorem Lh {x:Str}:∀{l:List Str},x∈l->1<=cntS x l
 | y :: l, h => by
   rw [i7];have:=cnt_nn x l
   by_cases c:y=x
   · rw [if_pos c];omega
   · rw [if_neg c];have:=Lh ((C5.mp h).elim (fun z=>absurd z.symm c) id);omega
theorem Li:∀{l:List Str},(∀b∈l,cntS b l<=1)->l.Nodup
 | [],_=>DB
 | y :: l, h => by
   refine T0.mpr ⟨fun z=>?_,Li fun b hb=>?_⟩
   · have h1:=h y B8;rw [i7,if_pos rfl] at h1;have:=Lh z;omega
   · have h1:=h b (C3 _ hb);rw [i7] at h1
     split at h1 <;> omega
theorem Fj (b:Str):∀{es:List Ev},(∀e∈es,Good e)->cntS b (es.flatMap evB)=((es.filter fun e=>decide (b∈evB e)).length:Int)
 | [],_=>rfl
 | e :: es, hg => by
   have ih:=Fj b (es:=es) fun x hx=>hg x (C3 _ hx);have ge:=hg e B8;rw [AS,List.filter_cons];cases e with
   | d x =>
     show cntS b (x::es.flatMap evB)=_;rw [i7,ih]
     by_cases c:x=b
     · rw [if_pos c,if_pos (decide_eq_true (by simp [evB,c])),M7];omega
     · rw [if_neg c,if_neg (by simp [evB];exact fun z=>c z.symm)];omega
   | t x y =>
     have ge:x≠y:=ge.1;show cntS b (x::y::es.flatMap evB)=_;rw [i7,i7,ih]
     by_cases c:x=b
     · rw [if_pos c,if_neg (fun z=>ge (c.trans z.symm)),if_pos (decide_eq_true (by simp [evB,c])),M7];omega
     · by_cases c2:y=b
       · rw [if_neg c,if_pos c2,if_pos (decide_eq_true (by simp [evB,c2])),M7];omega
       · rw [if_neg c,if_neg c2,if_neg (by simp [evB];exact⟨fun z=>c z.symm,fun z=>c2 z.symm⟩)];omega
theorem Rr {r:Int}{st:List Str}{es:List Ev}{n:Nat}{R:PV->Nat->Prop}(hg:∀e∈es,Good e)(hl:es.length<=1000)(h:Fair st es->R .non n)(h1:∀w,isRs r st es w->R (rsP w) n):EZ [rowP st,shP es] n R:=by
 refine⟨rfl,?_⟩;unfold Ku;have hr0:rowP st=.tup (st.map PV.str):=rfl;generalize hS:shP es=S;have nin:∀{z:Str} {R:PV->Prop},R (.bl (!decide (z∈st)))->wIn 4 true (.str z) (.tup (st.map PV.str)) R:=fun q=>CO rfl q;rw [hr0];generalize hZ:st.map PV.str=Z at *;walk_at "pu";rw [<- hS];refine Dg hl ?_;rw [hS];have tx:=GI (es.flatMap evB);generalize hB:(es.flatMap evB).map PV.str=B at *;refine Y0 (fun i env m=>∃s3,env=[some (.v (.tup Z)),some (.v S),some (.v (.lst B)),s3]/\m=n/\∀b∈(es.flatMap evB).take i,b∈st/\cntS b (es.flatMap evB)<=1) _ 0 _ _ ⟨none,rfl,rfl,fun b hb=>by simp at hb⟩ (fun i x env m N ex hI hN=>?_) (fun env m hI=>?_)
 · obtain⟨s3,rfl,rfl,hb⟩:=hI;rw [<- hB] at ex;obtain⟨z,ez,rfl⟩:=Ax ex;have zm:=J6 ez;rw [Q1] at hb hN;walk_at "pu";refine nin ?_
   by_cases c:z∈st
   · rw [decide_eq_true c];refine if_f rfl ?_;refine⟨⟨_,rfl⟩,?_⟩;rw [tx];dsimp only
     by_cases c2:1 < cntS z (es.flatMap evB)
     · refine if_t (decide_eq_true c2) ?_;refine h1 (.twice z) ?_;show 2<=_;rw [Fj z hg] at c2;omega
     · refine if_f (decide_eq_false c2) (hN _ _ ⟨_,rfl,rfl,fun b hb'=>?_⟩);rw [EO ez] at hb';rcases F9.mp hb' with hb' | hb'
       · exact hb b hb'
       · rw [D5.mp hb'];exact⟨c,by omega⟩
   · rw [decide_eq_false c];exact if_t rfl (h1 (.strange z) ⟨zm,c⟩)
 · obtain⟨s3,rfl,rfl,hb⟩:=hI;rw [Q1,<- hB,A9,BX] at hb;have fr:Fair st es:=⟨Li fun b hb'=>(hb b hb').2,fun b hb'=>(hb b hb').1⟩;walk_at "pu";exact h fr
theorem Rt {r:Int}{st:List Str}{es:List Ev}{x y:Str}{n:Nat}{R:PV->Nat->Prop}(hs:st.length<=100)(fr:Fair st es)(hg:∀e∈es,Good e)(he:Ev.t x y∈es)(hl:es.length<=1000)
   (h:ixS st y < ixS st x->((btwU st x y).length:Int)<=r->(∀z∈btwU st x y,z∈es.flatMap evB)->R .non n) (h1:∀w,isRs r st es w->R (rsP w) n):Fb [rowP st,.int r,shP es,evP (.t x y)] n R:=by
 refine⟨rfl,?_⟩;unfold KA;obtain⟨hx,hy⟩:=fr.tx he;have ti:Tin st es x y:=⟨he,hx,hy⟩;have ne:ixS st x≠ixS st y:=fun z=>(show x≠y from(hg _ he).1) (JK hx hy z);generalize hS:shP es=S;generalize hW:rowP st=W;generalize hT:evP (.t x y)=T;walk_at "pu";subst hW hT;refine Le hs hx hy ?_
 by_cases c:ixS st x < ixS st y
 · exact if_t (decide_eq_true c) (h1 (.wrong x y) ⟨ti,c⟩)
 refine if_f (decide_eq_false c) ?_;refine m_far hs hx hy ?_
 by_cases c2:r < ((btwU st x y).length:Int)
 · exact if_t (decide_eq_true c2) (h1 (.far x y) ⟨ti,c2⟩)
 refine if_f (decide_eq_false c2) ?_;rw [<- hS];refine Dg hl ?_;rw [hS];refine Df hs hx hy ?_;have nin:∀{z:Str} {R:PV->Prop},R (.bl (!decide (z∈es.flatMap evB)))->wIn 4 true (.str z) (.lst ((es.flatMap evB).map PV.str)) R:=fun q=>EN rfl q;generalize hB:(es.flatMap evB).map PV.str=B at *;have st_:∀z∈btwU st x y,z∉es.flatMap evB->R (.tup [.str (A4 "stays"),evP (.t x y),.str z]) n:=fun z h2 h3=>h1 (.stays x y z) ⟨ti,h2,h3⟩;generalize hW:rowP st=W;generalize hT:evP (.t x y)=T at *;refine Y0 (fun i env m=>∃s5,env=[some (.v W),some (.v (.int r)),some (.v S),some (.v T),some (.v (.lst B)),s5]/\m=n/\∀z∈(btwU st x y).take i,z∈es.flatMap evB) _ 0 _ _ ⟨none,rfl,rfl,fun b hb=>by simp at hb⟩ (fun i z env m N ex hI hN=>?_) (fun env m hI=>?_)
 · obtain⟨s5,rfl,rfl,hb⟩:=hI;obtain⟨z,ez,rfl⟩:=Ax ex;rw [Q1] at hb hN;walk_at "pu";refine nin ?_
   by_cases c3:z∈es.flatMap evB
   · rw [decide_eq_true c3];refine if_f rfl (hN _ _ ⟨_,rfl,rfl,fun b hb'=>?_⟩);rw [EO ez] at hb';rcases F9.mp hb' with hb' | hb'
     · exact hb b hb'
     · rw [D5.mp hb'];exact c3
   · rw [decide_eq_false c3];exact if_t rfl (st_ z (J6 ez) c3)
 · obtain⟨s5,rfl,rfl,hb⟩:=hI;rw [Q1,A9,BX] at hb;walk_at "pu";exact h (by omega) (by omega) hb
theorem Lj {st:List Str}{x y x' y':Str}{n:Nat}{R:PV->Nat->Prop}(hs:st.length<=100)(hx:x∈st)(hy:y∈st)(h:(four x y x' y'->(x'∈btwU st x y↔y'∈btwU st x y))->R (.bl false) n)(h1:four x y x' y'->¬(x'∈btwU st x y↔y'∈btwU st x y)->R (.bl true) n):CY [rowP st,evP (.t x y),evP (.t x' y')] n R:=by
 refine⟨rfl,?_⟩;unfold KB;have mb:∀{R:PV->Nat->Prop},R (.lst [.str x,.str y,.str x',.str y']) n->u8 [.tup [.tup [.str D6,.str x,.str y],.tup [.str D6,.str x',.str y']]] n R:=fun q=>Dg (es:=[.t x y,.t x' y']) (by simp) q;have mw:∀{R:PV->Nat->Prop},R (rowP (btwU st x y)) n->Y3 [rowP st,.tup [.str D6,.str x,.str y]] n R:=fun q=>Df hs hx hy q;generalize hW:rowP st=W at *;rw [N1,N1];walk_at "pu";refine mb ?_;have tx:N7 [.str x,.str y,.str x',.str y']=some [x,y,x',y']:=rfl;dsimp only;rw [tx];dsimp only;refine⟨by simp,?_⟩
 by_cases c:four x y x' y'
 · refine if_f (by rw [decide_eq_true (show((met (M5 [x,y,x',y']) [x,y,x',y'].length).length:Int)=4 from c)];rfl) ?_;refine mw ?_;refine Y1 rfl ?_;refine Y1 rfl ?_;rw [GN]
   by_cases c2:x'∈btwU st x y↔y'∈btwU st x y
   · rw [decide_eq_decide.mpr c2];have:=h fun _=>c2;generalize decide (y'∈btwU st x y)=b;cases b <;> exact this
   · have e:decide (decide (x'∈btwU st x y)=decide (y'∈btwU st x y))=false:=decide_eq_false fun z=>c2 (decide_eq_decide.mp z);rw [e];exact h1 c c2
 · refine if_t (by rw [decide_eq_false (show ¬((met (M5 [x,y,x',y']) [x,y,x',y'].length).length:Int)=4 from c)];rfl) ?_;exact h fun z=>absurd z c
theorem Ru {r:Int}{st:List Str}{es:List Ev}{x y:Str}{n:Nat}{R:PV->Nat->Prop}(hs:st.length<=100)(fr:Fair st es)(he:Ev.t x y∈es)(h:(∀x' y',Ev.t x' y'∈es->four x y x' y'->(x'∈btwU st x y↔y'∈btwU st x y))->R .non n)(h1:∀w,isRs r st es w->R (rsP w) n):Fc [rowP st,evP (.t x y),.lst ((es.filter isTo).map evP)] n R:=by
 refine⟨rfl,?_⟩;unfold KC;obtain⟨hx,hy⟩:=fr.tx he;have mi:∀{x' y':Str} {R:PV->Nat->Prop},((four x y x' y'->(x'∈btwU st x y↔y'∈btwU st x y))->R (.bl false) n)->(four x y x' y'->¬(x'∈btwU st x y↔y'∈btwU st x y)->R (.bl true) n)->CY [rowP st,evP (.t x y),evP (.t x' y')] n R:=fun q q'=>Lj hs hx hy q q';have cr:∀{x' y':Str},Ev.t x' y'∈es->four x y x' y'->¬(x'∈btwU st x y↔y'∈btwU st x y)->R (.tup [.str (A4 "cross"),evP (.t x y),evP (.t x' y')]) n:=fun {x' y'} he' c c2=>h1 (.cross x y x' y') ⟨⟨he,hx,hy⟩,⟨he',(fr.tx he').1,(fr.tx he').2⟩,c,c2⟩;generalize hW:rowP st=W at *;generalize hT:evP (.t x y)=T at *;generalize hL:(es.filter isTo).map evP=L;walk_at "pu";refine Y0 (fun i env m=>∃s3,env=[some (.v W),some (.v T),some (.v (.lst L)),s3]/\m=n/\∀x' y',Ev.t x' y'∈(es.filter isTo).take i->four x y x' y'->(x'∈btwU st x y↔y'∈btwU st x y)) _ 0 _ _ ⟨none,rfl,rfl,fun x' y' z=>by simp at z⟩ (fun i z env m N ex hI hN=>?_) (fun env m hI=>?_)
 · obtain⟨s3,rfl,rfl,hb⟩:=hI;rw [<- hL] at ex;obtain⟨e,ee,rfl⟩:=Ax ex;rw [Q1] at hb hN;obtain⟨em,et⟩:=N5.mp (J6 ee);cases e with
   | d z=>cases et
   | t x' y' =>
     have cr':=fun c c2=>cr em c c2;generalize hU:evP (.t x' y')=U at *;walk_at "pu";rw [<- hU];refine mi (fun c=>?_) fun c c2=>?_
     · rw [hU];refine if_f rfl (hN _ _ ⟨_,rfl,rfl,fun a b hab=>?_⟩);rw [EO ee] at hab;rcases F9.mp hab with hab | hab
       · exact hb a b hab
       · cases D5.mp hab;exact c
     · rw [hU];exact if_t rfl (cr' c c2)
 · obtain⟨s3,rfl,rfl,hb⟩:=hI;rw [Q1,<- hL,A9,BX] at hb;have:=h fun x' y' he'=>hb x' y' (N5.mpr ⟨he',rfl⟩);walk_at "pu";exact this
theorem HB {x:Str}:∀{l:List Ev},(l.flatMap evB).Nodup->∀a∈l,∀b∈l,x∈evB a->x∈evB b->a=b
 | [],_,a,ha,_,_,_,_=>by cases ha
 | c :: l, nd, a, ha, b, hb, xa, xb => by
   rw [AS] at nd;obtain⟨_,n2,n3⟩:=AR.mp nd;rcases C5.mp ha with rfl | ha' <;> rcases C5.mp hb with rfl | hb'
   · rfl
   · exact absurd rfl (n3 x xa x (R9.mpr ⟨b,hb',xb⟩))
   · exact absurd rfl (n3 x xb x (R9.mpr ⟨a,ha',xa⟩))
   · exact HB n2 a ha' b hb' xa xb
theorem Rv {st:List Str}{es:List Ev}{x y x' y':Str}(nd:st.Nodup)(fr:Fair st es)(hg:∀e∈es,Good e)(he:Ev.t x y∈es)(he':Ev.t x' y'∈es)(h:four x y x' y'->(x'∈btwU st x y↔y'∈btwU st x y)):x'∈btwU st x y↔y'∈btwU st x y:=by
 by_cases c:Ev.t x y=Ev.t x' y'
 · cases c;obtain⟨hx,hy⟩:=fr.tx he;rw [i6 nd hx hy,i6 nd hx hy];omega
 · refine h ?_;have n1:x≠y:=(hg _ he).1;have n2:x'≠y':=(hg _ he').1;have nn:∀z,z∈evB (.t x y)->z∉evB (.t x' y'):=fun z z1 z2=>c (HB fr.nd _ he _ he' z1 z2);have a:=nn x (by simp [evB]);have b:=nn y (by simp [evB]);simp only [evB,C5,x5,or_false,not_or] at a b
   have nd4:[x,y,x',y'].Nodup:=by
     simp only [T0,C5,x5,or_false,not_or,not_false_eq_true,and_true,DB];exact⟨⟨n1,a.1,a.2⟩,⟨b.1,b.2⟩,n2⟩
   show((met (M5 [x,y,x',y']) [x,y,x',y'].length).length:Int)=4;rw [Oh _ nd4 _ (B3 _)]
   rfl
theorem Rw {r:Int}{st:List Str}{es:List Ev}{n:Nat}{R:PV->Nat->Prop}(hs:st.length<=100)(nd:st.Nodup)(hg:∀e∈es,Good e)(hl:es.length<=1000)(h:V6 r st es->R .non n)(h1:∀w,isRs r st es w->R (rsP w) n):Fd [rowP st,.int r,shP es] n R:=by
 refine⟨rfl,?_⟩;unfold KD;have mt:∀{x y:Str} {R:PV->Nat->Prop},Fair st es->Ev.t x y∈es->(ixS st y < ixS st x->((btwU st x y).length:Int)<=r->(∀z∈btwU st x y,z∈es.flatMap evB)->R .non n)->(∀w,isRs r st es w->R (rsP w) n)->Fb [rowP st,.int r,shP es,evP (.t x y)] n R:=fun fr he q q'=>Rt hs fr hg he hl q q';have mc:∀{x y:Str} {R:PV->Nat->Prop},Fair st es->Ev.t x y∈es->((∀x' y',Ev.t x' y'∈es->four x y x' y'->(x'∈btwU st x y↔y'∈btwU st x y))->R .non n)->(∀w,isRs r st es w->R (rsP w) n)->Fc [rowP st,evP (.t x y),.lst ((es.filter isTo).map evP)] n R:=fun fr he q q'=>Ru hs fr he q q';have mb:∀{R:PV->Nat->Prop},(Fair st es->R .non n)->(∀w,isRs r st es w->R (rsP w) n)->EZ [rowP st,shP es] n R:=fun q q'=>Rr hg hl q q';have mo:∀{R:PV->Nat->Prop},R (.lst ((es.filter isTo).map evP)) n->BF [shP es] n R:=fun q=>Lf (by omega) q;generalize hW:rowP st=W at *;generalize hS:shP es=S at *;generalize hL:(es.filter isTo).map evP=L at *;walk_at "pu";refine mb (fun fr=>?_) fun w hw=>?_
 rotate_left
 · obtain⟨a,l,e⟩:=Fi w;have:=h1 w hw;rw [e] at this ⊢
   first | exact this | (walk_at "pu";exact this)
 try dsimp only
 refine mo ?_;refine Y0 (fun i env m=>∃s5,env=[some (.v W),some (.v (.int r)),some (.v S),some (.v .non),some (.v (.lst L)),s5]/\m=n/\∀x y,Ev.t x y∈(es.filter isTo).take i->ixS st y < ixS st x/\((btwU st x y).length:Int)<=r/\(∀z∈btwU st x y,z∈es.flatMap evB)/\∀x' y',Ev.t x' y'∈es->four x y x' y'->(x'∈btwU st x y↔y'∈btwU st x y)) _ 0 _ _ ⟨none,rfl,rfl,fun x' y' z=>by simp at z⟩ (fun i z env m N ex hI hN=>?_) (fun env m hI=>?_)
 · obtain⟨s3,rfl,rfl,hb⟩:=hI;rw [<- hL] at ex;obtain⟨e,ee,rfl⟩:=Ax ex;rw [Q1] at hb hN;obtain⟨em,et⟩:=N5.mp (J6 ee);cases e with
   | d z=>cases et
   | t x' y' =>
     generalize hU:evP (.t x' y')=U at *;walk_at "pu";rw [<- hU];refine mt fr em (fun z1 z2 z3=>?_) fun w hw=>?_
     · walk_at "pu";refine mc fr em (fun z4=>?_) fun w hw=>?_
       · rw [hU];refine hN _ _ ⟨_,rfl,rfl,fun a b hab=>?_⟩;rw [EO ee] at hab;rcases F9.mp hab with hab | hab
         · exact hb a b hab
         · cases D5.mp hab;exact⟨z1,z2,z3,z4⟩
       · obtain⟨a,l,e⟩:=Fi w;have:=h1 w hw;rw [e] at this ⊢
         first | exact this | (walk_at "pu";exact this)
     · obtain⟨a,l,e⟩:=Fi w;have:=h1 w hw;rw [e] at this ⊢
       first | exact this | (walk_at "pu";exact this)
 · obtain⟨s3,rfl,rfl,hb⟩:=hI;rw [Q1,<- hL,A9,BX] at hb;have hb':∀x y,Ev.t x y∈es->_:=fun x y he=>hb x y (N5.mpr ⟨he,rfl⟩);have:=h ⟨fr,fun x y he=>(hb' x y he).1,fun x y he=>(hb' x y he).2.1,fun x y he=>(hb' x y he).2.2.1,fun x y x' y' he he'=>Rv nd fr hg he he' ((hb' x y he).2.2.2 x' y' he')⟩;walk_at "pu";exact this
theorem Rx {r:Int}{st:List Str}{es:List Ev}{n:Nat}{R:PV->Nat->Prop}(hs:st.length<=63)(nd:st.Nodup)(hg:∀e∈es,Good e)(hl:es.length<=63)
   (h:V6 r st es->∀ts:List Ev,ts.Perm (es.filter isTo)->(ts.Pairwise fun a b=>evL st a<=evL st b)->R (.tup [.str (A4 "course"),.tup ((es.filter isDr++ts).map evP)]) n)
   (h1:∀w,isRs r st es w->R (.tup [.str (A4 "unsound"),rsP w]) n):Fe [rowP st,.int r,shP es] n R:=by
 refine⟨rfl,?_⟩;unfold Hq;have mr:∀{R:PV->Nat->Prop},(V6 r st es->R .non n)->(∀w,isRs r st es w->R (rsP w) n)->Fd [rowP st,.int r,shP es] n R:=fun q q'=>Rw (by omega) nd hg (by omega) q q';have mo:∀{R:PV->Nat->Prop},R (.lst ((es.filter isTo).map evP)) n->BF [shP es] n R:=fun q=>Lf (by omega) q
 have tl:((es.filter isTo).map evP).length < 64:=by
   rw [A9];have:=Fx isTo es;omega
 have dl:((es.filter isDr).map evP).length < 64:=by
   rw [A9];have:=Fx isDr es;omega
 have kk:Fair st es->∀R,R ((es.filter isTo).map (evL st)) n->Av (qUn wLen (B0 Y3 (A0 (qV 1) (A0 (qV 0) qNil)))) (rowP st) ((es.filter isTo).map evP) n R:=fun fr R q=>Lg (by omega) _ R (fun e he=>by
   obtain⟨em,et⟩:=N5.mp he;cases e with
   | d z=>cases et
   | t x y =>
     obtain⟨hx,hy⟩:=fr.tx em
     exact⟨x,y,rfl,hx,hy⟩) q
 have hS':shP es=.tup (es.map evP):=rfl;have El:(es.map evP).length=es.length:=A9 ..
 have cf:=fun R' q=>CM (tt:=(qB (qOp (wEq 4) (qOp wIx (qV 0) (qC (.int 0))) (qC (.str (A4 "drop")))))) (rest:=[]) evP isDr es none n R' (fun e he m Q hQ=>by
   cases e with
   | d x =>
     rw [V5] at *;walk_at "pu";exact hQ
   | t x y =>
     rw [N1] at *;walk_at "pu";rw [JO]
     exact hQ) q
 generalize hW:rowP st=W at *;generalize hS:shP es=S at *;generalize hL:(es.filter isTo).map evP=L at *;generalize hD:(es.filter isDr).map evP=D at *;generalize hE:es.map evP=E at *;walk_at "pu";refine mr (fun so=>?_) fun w hw=>?_
 rotate_left
 · obtain⟨a,l,e⟩:=Fi w;have:=h1 w hw;rw [e] at this ⊢
   first | exact this | (walk_at "pu";exact this)
 try dsimp only
 rw [hS']
 try dsimp only
 refine⟨by omega,cf _ ?_⟩;rw [<- hS'];refine mo ?_
 try dsimp only
 refine⟨tl,kk so.fair _ fun ys hy=>?_⟩;rw [<- hL] at hy;obtain⟨ts,rfl,pt,ot⟩:=Rq hy;have:=h so ts pt ot;rw [N6,hD] at this;have tsl:(ts.map evP).length < 64:=by rw [A9,pt.length_eq,<- A9 (f:=evP),hL];exact tl
 generalize ts.map evP=TE at *
 try dsimp only
 refine⟨by omega,this⟩
theorem at_nm {zs:List Str}{Z:List PV}(hZ:zs.map PV.str=Z){i:Nat}(h:i < zs.length):atI Z (i:Int)=some (.str (nm zs i)):=by
 obtain⟨x,e1,e2⟩:=Iw (xs:=Z) (d:=(i:Int)) (by omega) (by rw [<- hZ,A9];omega);rw [e2];rw [DN,<- hZ,F4,CS h] at e1;exact e1.symm
def apB (a b c d:Int):Bool:=decide (b < c) || (decide (d < a) || ((decide (a < c) && decide (d < b)) || (decide (c < a) && decide (b < d))))
def apt (p q:Nat×Nat):Prop:=apB p.1 p.2 q.1 q.2=true
theorem Ry (a b c d:Int):apB a b c d=apB c d a b:=by
 unfold apB;rw [k8];simp only [Ci,P2,decide_eq_true_eq];omega
theorem Rz {a b c d:Int}{n:Nat}{R:PV->Nat->Prop}(h:R (.bl (apB a b c d)) n):Hl [.tup [.int a,.int b],.tup [.int c,.int d]] n R:=by
 refine⟨rfl,?_⟩;unfold Kk;unfold apB at h;walk_at "pu";cases h1:decide (b < c) <;> rw [h1] at h <;> cases h2:decide (d < a) <;> rw [h2] at h <;> cases h3:decide (a < c) <;> rw [h3] at h <;> cases h4:decide (d < b) <;> rw [h4] at h <;> cases h5:decide (c < a) <;> rw [h5] at h <;> exact h
structure Snd (n:Nat)(r:Int)(ps:List (Nat×Nat))(ds:List Nat):Prop where
 pr:∀p∈ps,p.1 < p.2/\p.2 < n/\(p.2:Int) - p.1 - 1<=r
 ap:ps.Pairwise apt
 dn:ds.Nodup
 dl:∀d∈ds,d < n/\d∉ps.flatMap fun p=>[p.1,p.2]
 dw:∀d,d < n->d∉(ps.flatMap fun p=>[p.1,p.2])->(∃p∈ps,p.1 < d/\d < p.2)->d∈ds
def tch (zs:List Str)(p:Nat×Nat):Ev:=.t (nm zs p.2) (nm zs p.1)
def drp (zs:List Str)(d:Nat):Ev:=.d (nm zs d)
def Y4 (zs:List Str)(ps:List (Nat×Nat))(ds:List Nat):List Ev:=ps.map (tch zs)++ds.map (drp zs)
theorem Snd.good {zs:List Str}{r:Int}{ps:List (Nat×Nat)}{ds:List Nat}(nd:RowS zs)(h:Snd zs.length r ps ds):∀e∈Y4 zs ps ds,Good e:=fun e he=>by
 rcases F9.mp he with he | he
 · obtain⟨p,hp,rfl⟩:=F5.mp he;obtain⟨h1,h2,_⟩:=h.pr p hp;exact⟨fun z=>by have:=JJ nd.1 h2 (by omega) z;omega,nd.2 _ (CT (by omega)),nd.2 _ (CT (by omega))⟩
 · obtain⟨p,hp,rfl⟩:=F5.mp he;exact nd.2 _ (CT (h.dl p hp).1)
def pinN (k:Nat):PV:=.int (k:Int)
def prP (p:Nat×Nat):PV:=.tup [.int (p.1:Int),.int (p.2:Int)]
theorem memN (k:Nat):∀xs:List Nat,memP (.int (k:Int)) (xs.map pinN)=decide (k∈xs):=by
 intro xq
 induction xq with
 | nil =>
   exact rfl
 | cons x xs ih =>
   show(eqP (.int (x:Int)) (.int (k:Int)) || memP (.int (k:Int)) (xs.map pinN))=_;rw [ih,GM,k8];simp only [Ci,decide_eq_true_eq,C5];constructor
   · rintro(e | e)
     · exact .inl (by omega)
     · exact .inr e
   · rintro(e | e)
     · exact .inl (by omega)
     · exact .inr e
theorem cmpN (xs:List Nat)(d:Nat):(xs.map pinN).all (cmpb d)=true:=J3.mpr fun y hy=>by
 obtain⟨k,_,rfl⟩:=F5.mp hy;cases d <;> rfl
theorem RA {q n:Nat}{zs:List Str}{r:Int}{R:PV->Nat->Prop}(h1:1<=zs.length)(h2:zs.length<=24)(r0:0<=r)(r1:r<=7)(hn:n<=999990000)(h:∀ps ds (es:List Ev) n',Snd zs.length r ps ds->es.Perm (Y4 zs ps ds)->SrE es->ps.length<=24->ds.length<=24->n'<=n + 200->R (shP es) n'):Hm [.pot (q + 1),rowP zs,.int r] n R:=by
 refine⟨rfl,?_⟩;unfold Kl;have hr0:rowP zs=.tup (zs.map PV.str):=rfl;have hat:∀i:Nat,i < zs.length->atI (zs.map PV.str) (i:Int)=some (.str (nm zs i)):=fun i hi=>at_nm rfl hi;generalize hZ:zs.map PV.str=Z at *;have Zl:Z.length=zs.length:=by rw [<- hZ,A9]
 rw [hr0];walk_at "pu";refine⟨by omega,fun d d0 d1=>⟨by omega,?_⟩⟩;refine Y0 (fun i env m=>∃s7 s8 s9,∃ps:List (Nat×Nat),env=[some (.v (.pot (q + 1))),some (.v (.tup Z)),some (.v (.int r)),some (.v (.int (Z.length:Int))),some (.own (ps.map prP)),some (.own ((ps.flatMap fun p=>[p.1,p.2]).map pinN)),some (.own ((ps.map (tch zs)).map evP)),s7,s8,s9,none,none,none]/\(∀p∈ps,p.1 < p.2/\p.2 < zs.length/\(p.2:Int) - p.1 - 1<=r)/\ps.Pairwise apt/\ps.length<=i/\m<=n + 1 + 2 * i) _ 0 _ _ ⟨none,none,none,[],rfl,(fun _ z=>by cases z),FJ,by simp,by omega⟩ (fun i x env m N ex hI hN=>?_) (fun env m hI=>?_)
 · obtain⟨hi,rfl⟩:=CD ex;obtain⟨s7,s8,s9,ps,rfl,hp,ha,hl,hm⟩:=hI;generalize hA:ps.map prP=A;generalize hB:(ps.flatMap fun p=>[p.1,p.2]).map pinN=B;generalize hC:(ps.map (tch zs)).map evP=C;walk_at "pu";have Al:A.length=ps.length:=by rw [<- hA,A9]
   have Bl:B.length=2 * ps.length:=by rw [<- hB,A9];clear hA hB hC hp ha hl Al;induction ps with | nil=>rfl | cons p ps ih=>rw [AS,D4,ih,show(p::ps).length=ps.length + 1 from rfl];show 2 + _=_;omega
   have Cl:C.length=ps.length:=by rw [<- hC,A9,A9]
   refine⟨by omega,fun a a0 a1=>⟨by omega,fun f f0 f1=>?_⟩⟩;have skip:∀m',m'<=m + 2->N [some (.v (.pot (q + 1))),some (.v (.tup Z)),some (.v (.int r)),some (.v (.int (Z.length:Int))),some (.own A),some (.own B),some (.own C),some (.v (.int (0 + i))),some (.v (.int a)),some (.v (.int (1 + f))),none,none,none] m':=fun m' hm'=>hN _ _ ⟨some (.v (.int (0 + i))),some (.v (.int a)),some (.v (.int (1 + f))),ps,by rw [hA,hB,hC],hp,ha,by omega,by omega⟩
   by_cases c1:a + (1 + f) < (Z.length:Int)
   · rw [if_pos (decide_eq_true c1)];refine⟨by omega,?_⟩;obtain⟨an,rfl⟩:=Ck a0;obtain⟨fn,rfl⟩:=Ck f0;have e1:(an:Int) + (1 + fn)=((an + 1 + fn:Nat):Int):=by omega
     rw [<- hA];refine Ez prP (fun p=>.bl (apB an ((an + 1 + fn:Nat):Int) p.1 p.2)) _ _ _ _ (fun p hp' m' Q hQ=>?_) ?_
     · unfold prP at hQ ⊢;walk_at "pu";refine Rz ?_;rw [e1];exact hQ
     · rw [AC];dsimp only;rw [Dd];cases hb:ps.all fun p=>apB an ((an + 1 + fn:Nat):Int) p.1 p.2 with
       | false=>rw [hA];exact skip _ (by omega)
       | true =>
         rw [hA];refine⟨⟨_,rfl⟩,by omega,⟨_,rfl⟩,by omega,⟨_,rfl⟩,?_⟩;rw [e1,hat (an + 1 + fn) (by omega),hat an (by omega)];refine⟨by omega,hN _ _ ⟨some (.v (.int (0 + i))),some (.v (.int (an:Int))),some (.v (.int (1 + (fn:Int)))),ps++[(an,an + 1 + fn)],?_,fun p hp'=>?_,?_,by rw [D4,N4];omega,by omega⟩⟩
         · rw [N6,BV,N6,N6,N6,hA,hB,hC]
           rfl
         · rcases F9.mp hp' with hp' | hp'
           · exact hp p hp'
           · rw [D5.mp hp'];exact⟨by show an < an + 1 + fn;omega,by show an + 1 + fn < _;omega,by show((an + 1 + fn:Nat):Int) - an - 1<=r;omega⟩
         · rw [List.pairwise_append];refine⟨ha,List.pairwise_singleton _ _,fun p hp' p2 hp2=>?_⟩;rw [D5.mp hp2];show apB p.1 p.2 an ((an + 1 + fn:Nat):Int)=true;rw [Ry];exact J3.mp hb p hp'
   · rw [if_neg (by simpa using c1)];exact skip _ (by omega)
 · obtain⟨s7,s8,s9,ps,rfl,hp,ha,hl,hm⟩:=hI;rw [b7] at hl hm;generalize hA:ps.map prP=A;generalize hB:(ps.flatMap fun p=>[p.1,p.2]).map pinN=B;have Al:A.length=ps.length:=by rw [<- hA,A9]
   dsimp only;refine Y0 (fun i env m'=>∃s4 s10 s11 s12,∃ds:List Nat,env=[some (.v (.pot (q + 1))),some (.v (.tup Z)),some (.v (.int r)),some (.v (.int (Z.length:Int))),s4,some (.own B),some (.own ((Y4 zs ps ds).map evP)),s7,s8,s9,s10,s11,s12]/\(s4=some (.own A)\/s4=some (.v (.lst A)))/\ds.Nodup/\(∀d∈ds,d < i/\d∉ps.flatMap fun p=>[p.1,p.2])/\(∀d,d < i->d∉(ps.flatMap fun p=>[p.1,p.2])->(∃p∈ps,p.1 < d/\d < p.2)->d∈ds)/\ds.length<=i/\m'<=m + i) _ 0 _ _ ⟨some (.own A),none,none,none,[],by unfold Y4;simp,.inl rfl,DB,(fun _ z=>by cases z),(fun _ z=>by omega),by simp,by omega⟩ (fun i x env m' N ex hI hN=>?_) (fun env m' hI=>?_)
   · obtain⟨y,ey,rfl⟩:=IP ex;rw [<- hZ] at ey;obtain⟨z,ez,rfl⟩:=Ax ey;obtain⟨s4,s10,s11,s12,ds,rfl,h4,nd,hd,hw,dl,hm'⟩:=hI;have hi:=(D7.mp ez).1;have enm:z=nm zs i:=by have:=CS hi;rw [ez] at this;exact L8 this
     subst enm;generalize hC:(Y4 zs ps ds).map evP=C;have Cl:C.length=ps.length + ds.length:=by rw [<- hC,A9];unfold Y4;rw [D4,A9,A9]
     have drop1:∀m'',m''<=m' + 1->i∉(ps.flatMap fun p=>[p.1,p.2])->∀b:Bool,N [some (.v (.pot (q + 1))),some (.v (.tup Z)),some (.v (.int r)),some (.v (.int (Z.length:Int))),some (.v (.lst A)),some (.own B),some (.own (C++[PV.tup [PV.str (A4 "drop"),PV.str (nm zs i)]])),s7,s8,s9,some (.v (.int (i:Int))),some (.v (.str (nm zs i))),some (.v (.bl b))] m'':=fun m'' hm'' hni b=>by
       refine hN _ _ ⟨some (.v (.lst A)),some (.v (.int (i:Int))),some (.v (.str (nm zs i))),some (.v (.bl b)),ds++[i],?_,.inr rfl,?_,fun d hd'=>?_,fun d h1 h2 h3=>?_,by rw [D4,N4];omega,by omega⟩
       · have:(Y4 zs ps (ds++[i])).map evP=C++[PV.tup [PV.str (A4 "drop"),PV.str (nm zs i)]]:=by
           rw [<- hC];unfold Y4;rw [N6,N6,N6,N6,P1];rfl
         rw [this]
       · rw [AR];refine⟨nd,by simp,fun a ha b hb e=>?_⟩;rw [D5.mp hb] at e;have:=(hd a ha).1;omega
       · rcases F9.mp hd' with hd' | hd'
         · exact⟨by have:=(hd d hd').1;omega,(hd d hd').2⟩
         · rw [D5.mp hd'];exact⟨by omega,hni⟩
       · by_cases c:d < 0 + i
         · exact Z0 _ (hw d c h2 h3)
         · exact K4 _ (D5.mpr (by omega))
     have stay:∀m'',m''<=m' + 1->(i∉(ps.flatMap fun p=>[p.1,p.2])->¬∃p∈ps,p.1 < i/\i < p.2)->∀b:Bool,N [some (.v (.pot (q + 1))),some (.v (.tup Z)),some (.v (.int r)),some (.v (.int (Z.length:Int))),some (.v (.lst A)),some (.own B),some (.own C),s7,s8,s9,some (.v (.int (i:Int))),some (.v (.str (nm zs i))),some (.v (.bl b))] m'':=fun m'' hm'' hni b=>by
       refine hN _ _ ⟨some (.v (.lst A)),some (.v (.int (i:Int))),some (.v (.str (nm zs i))),some (.v (.bl b)),ds,by rw [hC],.inr rfl,nd,fun d hd'=>⟨by have:=(hd d hd').1;omega,(hd d hd').2⟩,fun d h1 h2 h3=>?_,by omega,by omega⟩
       by_cases c:d < 0 + i
       · exact hw d c h2 h3
       · have:d=i:=by omega
         subst this;exact absurd h3 (hni h2)
     have key:(ps.any fun p=>decide (p.1 < i) && decide (i < p.2))=true↔∃p∈ps,p.1 < i/\i < p.2:=by
       rw [k5];simp only [P2,decide_eq_true_eq]
     rcases h4 with rfl | rfl <;> walk_at "pu"
     all_goals
       refine⟨by omega,?_⟩;rw [<- hA];refine Os (fun p:Nat×Nat=>PV.int (p.1:Int)) (fun p=>PV.int (p.2:Int)) (fun p=>PV.bl (decide (p.1 < i) && decide (i < p.2))) ps _ _ _ _ (fun p hp' m'' Q hQ=>?_) ?_
       · walk_at "pu"
         by_cases c1:p.1 < i
         · rw [if_pos (decide_eq_true (by omega))];rw [decide_eq_true c1,k9] at hQ;rw [show decide ((i:Int) < (p.2:Int))=decide (i < p.2) by rw [decide_eq_decide];omega];exact hQ
         · rw [if_neg (by simp;omega)];rw [decide_eq_false c1,Z1] at hQ;exact hQ
       · rw [AC];dsimp only;rw [K_];generalize hb:(ps.any fun p=>decide (p.1 < i) && decide (i < p.2))=b at key ⊢;rw [hA,<- hB];refine⟨rfl,cmpN _ _,?_⟩;rw [memN,hB]
         by_cases ci:i∈ps.flatMap fun p=>[p.1,p.2]
         · rw [decide_eq_true ci];exact stay m' (by omega) (fun z=>absurd ci z) b
         · rw [decide_eq_false ci];refine if_t rfl ?_;cases b with
           | true=>exact if_t rfl ⟨⟨_,rfl⟩,by omega,drop1 m' (by omega) ci true⟩
           | false =>
             refine if_f rfl ⟨by omega,fun e e0 e1=>?_⟩
             by_cases ce:e=0
             · exact if_t (decide_eq_true ce) ⟨⟨_,rfl⟩,by omega,drop1 (m' + 1) (by omega) ci false⟩
             · exact if_f (decide_eq_false ce) (stay (m' + 1) (by omega) (fun _ z=>by cases key.mpr z) false)
   · obtain⟨s4,s10,s11,s12,ds,rfl,h4,nd,hd,hw,dl,hm'⟩:=hI;rw [Gy,Q1,Zl] at hd hw dl hm';dsimp only;have Cl:((Y4 zs ps ds).map evP).length=ps.length + ds.length:=by rw [A9];unfold Y4;rw [D4,A9,A9]
     refine⟨by rw [Cl];omega,Px _,fun ys hys=>?_⟩;obtain⟨es,rfl,pe⟩:=Py hys;exact h ps ds es _ ⟨hp,ha,nd,hd,hw⟩ pe hys.2 (by omega) (by omega) (by omega)
def Dh:pS:=(qSeq (qIfS (qAnd (qB (qOp (wEq 4) (qV 4) (qC (.int 1)))) (qB (qOp (wEq 4) (qOp wIx (qV 10) (qC (.int 0))) (qC (.str (A4 "touch")))))) (O2 (V2 11 (qTup (A0 (qC (.str (A4 "touch"))) (A0 (qOp wIx (qV 10) (qC (.int 2))) (A0 (qOp wIx (qV 10) (qC (.int 1))) qNil)))))) qNx)
   (qSeq (qIfS (qB (qOp (wEq 4) (qV 4) (qC (.int 2)))) (O2 (Bx 11 (qV 9))) qNx)
   (qSeq (qIfS (qAnd (qB (qOp (wEq 4) (qV 4) (qC (.int 3)))) (qB (qOp (wIn 4 true) (qV 7) (qV 10)))) (O2 (V2 11 (qOp wAdd (qSl (qV 10) qNo (K3 (qOp wSub (qUn wLen (qV 10)) (qC (.int 1))))) (qTup (A0 (qV 7) qNil))))) qNx)
   (qRet (qUn X6 (qL (Az (qO 11))))))))
def Di:pS:=(qSeq (qIfS (qOr (qB (qOp wGt (qV 4) (qC (.int 3)))) (qB (qOp (wEq 4) (qV 5) (qUn wLen (qV 2))))) (qRet (qUn X6 (qL (Az (qL (qCat (qL (R5 (qV 2))) (qV 9))))))) qNx)
   (qSeq (qPar 10 11 (sV (qOp wIx (qV 2) (qV 5))) (sO (R5 (qOp wAdd (qSl (qV 2) qNo (K3 (qV 5))) (qSl (qV 2) (K3 (qOp wAdd (qV 5) (qC (.int 1)))) qNo))))) Dh))
theorem RB (es:List Ev):BE (es.map evP):=by
 refine⟨fun x hx=>?_,fun x hx y hy=>?_⟩
 · obtain⟨e,_,rfl⟩:=F5.mp hx;exact⟨evK e,rfl,ev_ne e⟩
 · obtain⟨e,_,rfl⟩:=F5.mp hx;obtain⟨f,_,rfl⟩:=F5.mp hy;show Al (keyP (.tup ((evK e).map kP))) (keyP (.tup ((evK f).map kP)));rw [b9,b9];exact ev_al e f
theorem Fk {R:List PV->Prop}{xs:List Ev}(hl:xs.length<=63)(h:∀es':List Ev,(∀e∈es',e∈xs)->SrE es'->es'.length<=xs.length->R (es'.map evP)):(xs.map evP).length<=63/\BE (xs.map evP)/\∀ys,SrtS ys (xs.map evP)->R ys:=by
 refine⟨by rw [A9];exact hl,RB xs,fun ys hys=>?_⟩;obtain⟨es',rfl,he⟩:=JI xs ys fun y hy=>(hys.2.1 y).mp hy;refine h es' he hys.2.2 ?_;have:=hys.1.length_le_of_subset fun y hy=>(hys.2.1 y).mp hy;rw [A9,A9] at this;exact this
theorem RC {q n:Nat}{a1 a2 a3 a5 a6 a8:Option Pu.Slot}{way:Int}{one:Str}{e1 e:Ev}{rs:List Ev}{R:PV->Nat->Prop}{NX:Pu.Env->Nat->Prop}(hr:rs.length<=60)(ho:C8 one)(g1:Good e1)(ge:Good e)(hg:∀e∈rs,Good e)(h:∀es':List Ev,(∀e∈es',Good e)->SrE es'->es'.length<=rs.length + 1->R (shP es') n) :
   Dh { nx:=NX,rt:=R } [some (.v (.pot (q + 1))),a1,a2,a3,some (.v (.int way)),a5,a6,some (.v (.str one)),a8,some (.v (.lst [evP e1])),some (.v (evP e)),some (.own (rs.map evP))] n:=by
 have fin0:(rs.map evP).length<=63/\BE (rs.map evP)/\∀ys,SrtS ys (rs.map evP)->R (.tup ys) n:=Fk (R:=fun ys=>R (.tup ys) n) (by omega) fun es' h1 hs h2=>h es' (fun e he=>hg e (h1 e he)) hs (by omega)
 have fin1:∀x:Ev,Good x->(rs.map evP++[evP x]).length<=63/\BE (rs.map evP++[evP x])/\∀ys,SrtS ys (rs.map evP++[evP x])->R (.tup ys) n:=fun x gx=>by
   have:=Fk (R:=fun ys=>R (.tup ys) n) (xs:=rs++[x]) (by rw [D4,N4];omega) fun es' h1 hs h2=>h es' (fun e he=>?_) hs (by rw [D4,N4] at h2;omega)
   · rw [N6] at this;exact this
   · rcases F9.mp (h1 e he) with z | z
     · exact hg e z
     · rw [D5.mp z];exact gx
 have Sl:(rs.map evP).length=rs.length:=A9 ..
 have ways:(decide (way=1)=true/\decide (way=2)=false/\decide (way=3)=false)\/(decide (way=1)=false/\decide (way=2)=true/\decide (way=3)=false)\/(decide (way=1)=false/\decide (way=2)=false/\decide (way=3)=true)\/(decide (way=1)=false/\decide (way=2)=false/\decide (way=3)=false):=by
   by_cases c1:way=1
   · subst c1;exact .inl ⟨rfl,rfl,rfl⟩
   · by_cases c2:way=2
     · subst c2;exact .inr (.inl ⟨rfl,rfl,rfl⟩)
     · by_cases c3:way=3
       · subst c3;exact .inr (.inr (.inl ⟨rfl,rfl,rfl⟩))
       · exact .inr (.inr (.inr ⟨decide_eq_false c1,decide_eq_false c2,decide_eq_false c3⟩))
 unfold Dh;have f1:=fin1 e1 g1;generalize hP:evP e1=P at *;cases e with
 | d x =>
   have f3:=fin1 (.d one) ho;rw [V5] at f3 ⊢;generalize hS:rs.map evP=S at *;walk_at "pu";rcases ways with⟨b1,b2,b3⟩ | ⟨b1,b2,b3⟩ | ⟨b1,b2,b3⟩ | ⟨b1,b2,b3⟩ <;> simp only [b1,b2,b3,He,reduceIte,F7]
   · exact fin0
   · exact⟨⟨_,rfl⟩,by omega,f1⟩
   · refine CO (zs:=[DROP,x]) rfl ?_;dsimp only
     by_cases c:one∈[DROP,x]
     · rw [decide_eq_true c];exact fin0
     · rw [decide_eq_false c];rw [show cutP [PV.str DROP,PV.str x] none (some (((2:Nat):Int) - 1))=[PV.str DROP] from rfl];exact⟨⟨_,rfl⟩,by simp,by omega,f3⟩
   · exact fin0
 | t x y =>
   have f2:=fin1 (.t y x) ⟨fun z=>ge.1 z.symm,ge.2.2,ge.2.1⟩;have f3:=fun(z:x≠one)=>fin1 (.t x one) ⟨z,ge.2.1,ho⟩;rw [N1] at f2 f3 ⊢;generalize hS:rs.map evP=S at *;walk_at "pu";rcases ways with⟨b1,b2,b3⟩ | ⟨b1,b2,b3⟩ | ⟨b1,b2,b3⟩ | ⟨b1,b2,b3⟩ <;> simp only [b1,b2,b3,Pz,reduceIte,F7]
   · exact⟨⟨_,rfl⟩,by omega,f2⟩
   · exact⟨⟨_,rfl⟩,by omega,f1⟩
   · refine CO (zs:=[D6,x,y]) rfl ?_;dsimp only
     by_cases c:one∈[D6,x,y]
     · rw [decide_eq_true c];exact fin0
     · rw [decide_eq_false c];rw [show cutP [PV.str D6,PV.str x,PV.str y] none (some (((3:Nat):Int) - 1))=[PV.str D6,PV.str x] from rfl];exact⟨⟨_,rfl⟩,by simp,by omega,f3 fun z=>c (by rw [z];simp)⟩
   · exact fin0
theorem RD {q n:Nat}{a1 a3 a6 a8:Option Pu.Slot}{way:Int}{pl:Nat}{one:Str}{e1:Ev}{es:List Ev}{R:PV->Nat->Prop}{NX:Pu.Env->Nat->Prop}(hl:es.length<=60)(hp:pl<=es.length)(ho:C8 one)(g1:Good e1)(hg:∀e∈es,Good e)(h:∀es':List Ev,(∀e∈es',Good e)->SrE es'->es'.length<=es.length + 1->R (shP es') n) :
   Di { nx:=NX,rt:=R } [some (.v (.pot (q + 1))),a1,some (.v (.tup (es.map evP))),a3,some (.v (.int way)),some (.v (.int (pl:Int))),a6,some (.v (.str one)),a8,some (.v (.lst [evP e1])),none,none] n:=by
 have f1:(es.map evP++[evP e1]).length<=63/\BE (es.map evP++[evP e1])/\∀ys,SrtS ys (es.map evP++[evP e1])->R (.tup ys) n:=by
   have:=Fk (R:=fun ys=>R (.tup ys) n) (xs:=es++[e1]) (by rw [D4,N4];omega) fun es' h1 hs h2=>h es' (fun e he=>?_) hs (by rw [D4,N4] at h2;omega)
   · rw [N6] at this;exact this
   · rcases F9.mp (h1 e he) with z | z
     · exact hg e z
     · rw [D5.mp z];exact g1
 have fu:∀(hlt:pl < es.length),Dh { nx:=NX,rt:=R } [some (.v (.pot (q + 1))),a1,some (.v (.tup (es.map evP))),a3,some (.v (.int way)),some (.v (.int (pl:Int))),a6,some (.v (.str one)),a8,some (.v (.lst [evP e1])),some (.v (evP es[pl])),some (.own ((es.take pl++es.drop (pl + 1)).map evP))] n:=fun hlt=>by
   have ll:(es.take pl++es.drop (pl + 1)).length=es.length - 1:=by rw [D4,P9,W8];omega
   refine RC (by omega) ho g1 (hg _ (x4 hlt)) (fun e he=>?_) fun es' h1 hs h2=>h es' h1 hs (by omega);rcases F9.mp he with z | z
   · exact hg e (BU z)
   · exact hg e (Dw z)
 unfold Di;generalize Dh=U at *;have ai:∀hlt:pl < es.length,atI (es.map evP) (pl:Int)=some (evP es[pl]):=fun hlt=>FZ (by rw [F4,C4 hlt];rfl);have c1:=JM (es.map evP) pl;have c2:=JN (es.map evP) (pl + 1);have cm:(es.take pl++es.drop (pl + 1)).map evP=(es.map evP).take pl++(es.map evP).drop (pl + 1):=by rw [N6,List.map_take,List.map_drop]
 generalize hP:evP e1=P at *;have El:(es.map evP).length=es.length:=A9 ..;generalize hE:es.map evP=E at *;walk_at "pu";have r1:E.length<=999999:=by omega
 by_cases d1:3 < way
 · exact if_t (decide_eq_true d1) ⟨r1,f1⟩
 · refine if_f (decide_eq_false d1) ?_
   by_cases d2:(pl:Int)=(E.length:Int)
   · exact if_t (decide_eq_true d2) ⟨r1,f1⟩
   · refine if_f (decide_eq_false d2) ?_;have hlt:pl < es.length:=by omega
     have e2:cutP E (some ((pl:Int) + 1)) none=E.drop (pl + 1):=by rw [<- c2];rfl
     rw [ai hlt,c1,e2];have:=fu hlt;rw [cm] at this;exact⟨by rw [P9,W8];omega,this⟩
theorem RE:Kp=(qSeq (qPar 4 5 (sV (B0 b__law_draw (A0 (qV 0) (A0 (qC (.int 6)) qNil)))) (sV (B0 b__law_draw (A0 (qV 0) (A0 (qOp wAdd (qUn wLen (qV 2)) (qC (.int 1))) qNil)))))
   (qSeq (qSet 6 (qL (qCat (qL (R5 (qV 1))) (qL (R5 (qV 3))))))
   (qSeq (qPar 7 8 (sV (qOp wIx (qV 6) (B0 b__law_draw (A0 (qV 0) (A0 (qUn wLen (qV 6)) qNil))))) (sV (qOp wIx (qV 6) (B0 b__law_draw (A0 (qV 0) (A0 (qUn wLen (qV 6)) qNil))))))
   (qSeq (qSet 9 (qIf (qOr (qB (qOp (wEq 4) (qV 7) (qV 8))) (qB (qOp (wEq 4) (B0 b__law_draw (A0 (qV 0) (A0 (qC (.int 3)) qNil))) (qC (.int 0))))) (qL (qLst (A0 (qTup (A0 (qC (.str (A4 "drop"))) (A0 (qV 7) qNil))) qNil))) (qL (qLst (A0 (qTup (A0 (qC (.str (A4 "touch"))) (A0 (qV 7) (A0 (qV 8) qNil)))) qNil))))) Di)))):=rfl
theorem m_bent {q n:Nat}{st sp:List Str}{es:List Ev}{R:PV->Nat->Prop}(h1:1<=(st++sp).length)(h2:(st++sp).length<=100)(hb:∀z∈st++sp,C8 z)(he:es.length<=60)(hg:∀e∈es,Good e)(hn:n<=999990000)(h:∀(es':List Ev) n',(∀e∈es',Good e)->SrE es'->es'.length<=es.length + 1->n'<=n + 10->R (shP es') n'):Ho [.pot (q + 1),rowP st,shP es,rowP sp] n R:=by
 refine⟨rfl,?_⟩;rw [RE];have hs0:shP es=.tup (es.map evP):=rfl;have hr0:rowP st=.tup (st.map PV.str):=rfl;have hr1:rowP sp=.tup (sp.map PV.str):=rfl
 have fin:∀(way:Int) (at_:Int) (one:Str) (e1:Ev) (n':Nat) (a1 a3 a6 a8:Option Pu.Slot),0<=at_->at_ < (es.map evP).length + 1->C8 one->Good e1->n'<=n + 10->Di { nx:=fun _ m=>R PV.non m,rt:=R } [some (.v (.pot (q + 1))),a1,some (.v (.tup (es.map evP))),a3,some (.v (.int way)),some (.v (.int at_)),a6,some (.v (.str one)),a8,some (.v (.lst [evP e1])),none,none] n':=fun way at_ one e1 n' a1 a3 a6 a8 p0 p1 ho g1 hn'=>by
   obtain⟨pl,rfl⟩:=Ck p0;rw [A9] at p1;exact RD he (by omega) ho g1 hg fun es' g hs l=>h es' n' g hs l hn'
 generalize hE:es.map evP=E at *;have El:E.length=es.length:=by rw [<- hE,A9]
 have hat:∀d:Int,0<=d->d < (st.map PV.str++sp.map PV.str).length->∃z:Str,atI (st.map PV.str++sp.map PV.str) d=some (.str z)/\C8 z:=fun d d0 d1=>by
   obtain⟨x,hx,ex⟩:=CF d0 d1;rw [<- N6] at hx;obtain⟨z,hz,rfl⟩:=F5.mp hx;exact⟨z,ex,hb z hz⟩
 generalize hA:st.map PV.str=A at *;generalize hB:sp.map PV.str=B at *;have ABl:A.length + B.length=(st++sp).length:=by rw [<- hA,<- hB,A9,A9,D4]
 have ABl2:(A++B).length=(st++sp).length:=by rw [D4,ABl]
 rw [hs0,hr0,hr1];generalize hT:Di=T at *;walk_at "pu";refine⟨by omega,fun way w0 w1=>⟨by omega,fun pl p0 p1=>⟨by omega,by omega,fun a a0 a1=>?_⟩⟩⟩;obtain⟨x,ex,bx⟩:=hat a a0 a1;rw [ex];refine⟨by omega,fun b b0 b1=>?_⟩;obtain⟨y,ey,by_⟩:=hat b b0 b1;rw [ey];refine gd2 rfl rfl ?_;rw [i4]
 by_cases c:x=y
 · exact if_t (decide_eq_true c) (fin way pl x (.d x) _ _ _ _ _ p0 p1 bx bx (by omega))
 · refine if_f (decide_eq_false c) ⟨by omega,fun d d0 d1=>?_⟩
   by_cases c2:d=0
   · exact if_t (decide_eq_true c2) (fin way pl x (.d x) _ _ _ _ _ p0 p1 bx bx (by omega))
   · exact if_f (decide_eq_false c2) (fin way pl x (.t x y) _ _ _ _ _ p0 p1 bx ⟨c,bx,by_⟩ (by omega))
theorem RF {st:List Str}{r:Int}:∀(es:List Ev) (k:Nat) (o:List Str),(∀e∈es,Good e)->wlk st r es k o=none->(es.flatMap evB).Nodup/\∀b∈es.flatMap evB,b∈st/\b∉o:=by
 intro xq
 induction xq with
 | nil =>
   intro _ _ _ _;exact⟨DB,fun _ z=>by cases z⟩
 | cons e es ih =>
   intro k o hg h;have h':(if lcan st r o e=true then wlk st r es (k + 1) (o++evB e) else some k)=none:=h
   by_cases c:lcan st r o e=true
   · rw [if_pos c] at h';obtain⟨i1,i2⟩:=ih (k + 1) (o++evB e) (fun x hx=>hg x (C3 _ hx)) h';have hm:=Ld c;have ge:=hg e B8
     have ne:(evB e).Nodup:=by
       cases e with
       | d x=>simp [evB]
       | t x y=>have:x≠y:=ge.1;simp [evB,this]
     rw [AS];refine⟨AR.mpr ⟨ne,i1,fun a ha b hb e'=>?_⟩,fun b hb=>?_⟩
     · subst e';exact(i2 a hb).2 (K4 _ ha)
     · rcases F9.mp hb with hb | hb
       · exact hm b hb
       · exact⟨(i2 b hb).1,fun z=>(i2 b hb).2 (Z0 _ z)⟩
   · rw [if_neg c] at h';cases h'
theorem Lk {st:List Str}{x y:Str}(h:ixS st y < ixS st x):btw st x y=btwU st x y:=by
 unfold btw btwU;rw [show max (ixS st x) (ixS st y)=ixS st x by omega,show min (ixS st x) (ixS st y)=ixS st y by omega]
theorem HC {st out:List Str}{r:Int}{x y:Str}:lcan st r out (.t x y)=true↔(x∈st/\x∉out)/\(y∈st/\y∉out)/\ixS st y < ixS st x/\((btwU st x y).length:Int)<=r/\∀z∈btwU st x y,z∈out:=by
 constructor
 · intro h;have hm:=Ld h;unfold lcan at h;rw [P2,P2,P2] at h;have h1:=of_decide_eq_true h.2.1;rw [Lk h1] at h;exact⟨hm x (by simp [evB]),hm y (by simp [evB]),h1,of_decide_eq_true h.2.2.1,fun z hz=>of_decide_eq_true (J3.mp h.2.2.2 z hz)⟩
 · rintro⟨⟨a1,a2⟩,⟨b1,b2⟩,c,d,e⟩;unfold lcan;dsimp only;rw [Lk c];simp only [P2,decide_eq_true_eq,J3,evB,C5,x5,or_false,Ch,decide_eq_false_iff_not];refine⟨fun b hb=>?_,c,d,e⟩;rcases hb with rfl | rfl
   · exact⟨a1,a2⟩
   · exact⟨b1,b2⟩
theorem RG {st out:List Str}{r:Int}{x:Str}:lcan st r out (.d x)=true↔x∈st/\x∉out:=by
 rw [lc_d];simp
theorem Lm {st:List Str}{r:Int}:∀(p:List Ev) (e:Ev) (s:List Ev) (k:Nat) (o:List Str),wlk st r (p++e::s) k o=none->lcan st r (o++p.flatMap evB) e=true:=by
 intro xq
 induction xq with
 | nil =>
   intro e s k o h;have h':(if lcan st r o e=true then wlk st r s (k + 1) (o++evB e) else some k)=none:=h
   by_cases c:lcan st r o e=true
   · simpa using c
   · rw [if_neg c] at h';cases h'
 | cons a p ih =>
   intro e s k o h;have h':(if lcan st r o a=true then wlk st r (p++e::s) (k + 1) (o++evB a) else some k)=none:=h
   by_cases c:lcan st r o a=true
   · rw [if_pos c] at h';have:=ih e s (k + 1) (o++evB a) h';rw [P1] at this;exact this
   · rw [if_neg c] at h';cases h'
theorem RH {st:List Str}{r:Int}{f:List Ev}(nd:st.Nodup)(hg:∀e∈f,Good e)(h:wlk st r f 0 []=none):V6 r st f:=by
 obtain⟨f1,f2⟩:=RF f 0 [] hg h;have fr:Fair st f:=⟨f1,fun b hb=>(f2 b hb).1⟩
 have at_:∀x y,Ev.t x y∈f->∃p s,f=p++.t x y::s/\ixS st y < ixS st x/\((btwU st x y).length:Int)<=r/\∀z∈btwU st x y,z∈p.flatMap evB:=fun x y he=>by
   obtain⟨p,s,e⟩:=List.append_of_mem he;have:=Lm p (.t x y) s 0 [] (by rw [<- e];exact h);rw [BY] at this;obtain⟨_,_,a,b,c⟩:=HC.mp this;exact⟨p,s,e,a,b,c⟩
 -- a later one lies not between
 have later:∀x y x' y',Ev.t x y∈f->Ev.t x' y'∈f->(∃p s,f=p++.t x y::s/\Ev.t x' y'∈s/\∀z∈btwU st x y,z∈p.flatMap evB)->x'∉btwU st x y/\y'∉btwU st x y:=fun x y x' y' _ _ ⟨p,s,e,hs,hb⟩=>by
   have nd2:=fr.nd;rw [e,BV,AS] at nd2;have dis:=(AR.mp nd2).2.2;have no:∀z∈evB (.t x' y'),z∉btwU st x y:=fun z hz hb'=>dis z (hb z hb') z (K4 _ (R9.mpr ⟨_,hs,hz⟩)) rfl;exact⟨no x' (by simp [evB]),no y' (by simp [evB])⟩
 refine⟨fr,fun x y he=>?_,fun x y he=>?_,fun x y he z hz=>?_,fun x y x' y' he he'=>?_⟩
 · obtain⟨p,s,e,a,b,c⟩:=at_ x y he;exact a
 · obtain⟨p,s,e,a,b,c⟩:=at_ x y he;exact b
 · obtain⟨p,s,e,a,b,c⟩:=at_ x y he;rw [e,BV];exact Z0 _ (c z hz)
 · obtain⟨hx,hy⟩:=fr.tx he;obtain⟨hx',hy'⟩:=fr.tx he';obtain⟨p,s,e,a,b,c⟩:=at_ x y he;obtain⟨p',s',e',a',b',c'⟩:=at_ x' y' he'
   by_cases ce:Ev.t x' y'=Ev.t x y
   · cases ce;rw [i6 nd hx hy,i6 nd hx hy];omega
   · have hm:=he';rw [e] at hm;rcases F9.mp hm with hp | hs
     · -- the other one was ahead
       obtain⟨p1,s1,e1⟩:=List.append_of_mem hp;have e2:f=p1++.t x' y'::(s1++.t x y::s):=by rw [e,e1];simp
       have pre:=Lm p1 (.t x' y') (s1++.t x y::s) 0 [] (by rw [<- e2];exact h);rw [BY] at pre;obtain⟨_,_,_,_,c2⟩:=HC.mp pre;obtain⟨n1,n2⟩:=later x' y' x y he' he ⟨p1,_,e2,by simp,c2⟩;rw [i6 nd hx' hy'] at n1 n2;rw [i6 nd hx hy,i6 nd hx hy]
       have q:∀z∈evB (.t x y),∀z'∈evB (.t x' y'),z∈st->z'∈st->ixS st z≠ixS st z':=fun z hz z' hz' m m' ez=>by
         have:=JK m m' ez;subst this;exact ce (HB fr.nd _ he' _ he hz' hz)
       have q1:=q x (by simp [evB]) x' (by simp [evB]) hx hx';have q2:=q x (by simp [evB]) y' (by simp [evB]) hx hy';have q3:=q y (by simp [evB]) x' (by simp [evB]) hy hx';have q4:=q y (by simp [evB]) y' (by simp [evB]) hy hy';simp only [hx,hy,hx',hy',true_and] at n1 n2 ⊢;omega
     · rcases C5.mp hs with hs | hs
       · exact absurd hs ce
       · obtain⟨n1,n2⟩:=later x y x' y' he he' ⟨p,s,e,hs,c⟩;exact⟨fun z=>absurd z n1,fun z=>absurd z n2⟩
theorem RI {st:List Str}{r:Int}{es:List Ev}{x y x' y' z:Str}(nd:st.Nodup)(so:V6 r st es)(he:Ev.t x y∈es)(he':Ev.t x' y'∈es)(hz:z∈btwU st x y)(hz':z∈evB (.t x' y')):(btwU st x' y').length < (btwU st x y).length:=by
 obtain⟨hx,hy⟩:=so.fair.tx he;obtain⟨hx',hy'⟩:=so.fair.tx he';have a:=so.ahead x y he;have a':=so.ahead x' y' he';have pl:=so.plain x y x' y' he he'
 have both:x'∈btwU st x y/\y'∈btwU st x y:=by
   simp only [evB,C5,x5,or_false] at hz';rcases hz' with rfl | rfl
   · exact⟨hz,pl.mp hz⟩
   · exact⟨pl.mpr hz,hz⟩
 obtain⟨_,b1,b2⟩:=(i6 nd hx hy).mp both.1;obtain⟨_,b3,b4⟩:=(i6 nd hx hy).mp both.2;rw [Ki hx hy a,Ki hx' hy' a'];omega
theorem RJ {st:List Str}{r:Int}{es f l:List Ev}(nd:st.Nodup)(so:V6 r st es)(pm:(f++l).Perm es)(hl:∀e∈l,lcan st r (f.flatMap evB) e=false):l=[]:=by
 have fr2:=so.fair.perm pm;have nd2:=fr2.nd;rw [BV] at nd2;have dis:=(AR.mp nd2).2.2
 have hin:∀e∈l,∀b∈evB e,b∈st/\b∉f.flatMap evB:=fun e he b hb=>
   ⟨fr2.sub b (R9.mpr ⟨e,K4 _ he,hb⟩),fun z=>dis b z b (R9.mpr ⟨e,he,hb⟩) rfl⟩
 have nod:∀x,Ev.d x∉l:=fun x hx=>by
   have h1:=hl _ hx;rw [RG.mpr (hin _ hx x (by simp [evB]))] at h1;cases h1
 have not:∀(k:Nat) (x y:Str),(btwU st x y).length<=k->Ev.t x y∉l:=by
   intro k
   induction k using Nat.strongRecOn with
   | _ k ih =>
     intro x y hk he;have hes:Ev.t x y∈es:=pm.mem_iff.mp (K4 _ he);have h1:=hl _ he
     have:lcan st r (f.flatMap evB) (.t x y)=true:=HC.mpr ⟨hin _ he x (by simp [evB]),hin _ he y (by simp [evB]),so.ahead x y hes,so.near x y hes,fun z hz=>by
       obtain⟨e',he',hz'⟩:=R9.mp (so.full x y hes z hz);rcases F9.mp (pm.mem_iff.mpr he') with h | h
       · exact R9.mpr ⟨e',h,hz'⟩
       · cases e' with
         | d w=>exact absurd h (nod w)
         | t x' y' =>
           have lt:=RI nd so hes he' hz hz'
           exact absurd h (ih (btwU st x' y').length (by omega) x' y' (B3 _))⟩
     rw [this] at h1;cases h1
 cases l with
 | nil=>rfl
 | cons e l =>
   cases e with
   | d x=>exact absurd B8 (nod x)
   | t x y=>exact absurd B8 (not _ x y (B3 _))
def sel (lo hi:Nat):Nat->List Str->List Str
 | _,[]=>[]
 | k,z::zs=>if lo < k/\k < hi then z::sel lo hi (k + 1) zs else sel lo hi (k + 1) zs
theorem sel_eq {lo hi:Nat}:∀(zs:List Str) (k:Nat),sel lo hi k zs=(zs.take (hi - k)).drop (lo + 1 - k):=by
 intro xq
 induction xq with
 | nil =>
   intro k;simp [sel]
 | cons z zs ih =>
   intro k;unfold sel;rw [ih (k + 1)]
   by_cases c:k < hi
   · rw [show hi - k=(hi - (k + 1)) + 1 by omega,List.take_succ_cons]
     by_cases c2:lo < k
     · rw [if_pos ⟨c2,c⟩,show lo + 1 - k=0 by omega,show lo + 1 - (k + 1)=0 by omega,BZ,BZ]
     · rw [if_neg (by omega),show lo + 1 - k=(lo + 1 - (k + 1)) + 1 by omega,List.drop_succ_cons]
   · rw [if_neg (by omega),show hi - k=0 by omega,show hi - (k + 1)=0 by omega];simp
theorem Ln {a b n:Nat}:∀(zs:List Str) (k:Nat) (s0 s1:Option Pu.Slot) (R:List PV->Nat->Prop),R ((sel (min a b) (max a b) k zs).map PV.str) n->O7 (gTp 2 (gCn (gN 0) (gCn (gN 1) gNl))) (qB (d9 wLt wLt (qOp wMin (qV 2) (qV 3)) (qV 0) (qOp wMax (qV 2) (qV 3)))) (qV 1) (((zs.map PV.str).zipIdx k).map fun y=>PV.tup [.int (y.2:Nat),y.1]) [s0,s1,some (.v (.int (a:Int))),some (.v (.int (b:Int)))] n R
 | [],k,s0,s1,R,h=>h
 | z :: zs, k, s0, s1, R, h => by
   rw [E9,List.zipIdx_cons,E9];have ih:=fun R' q=>Ln (a:=a) (b:=b) (n:=n) zs (k + 1) (some (.v (.int (k:Int)))) (some (.v (.str z))) R' q;generalize ((zs.map PV.str).zipIdx (k + 1)).map (fun y=>PV.tup [.int (y.2:Nat),y.1])=Z at *;unfold O7;unfold sel at h;have e1:(if(b:Int) < a then(b:Int) else a)=((min a b:Nat):Int):=by split <;> omega
   have e2:(if(b:Int) > a then(b:Int) else a)=((max a b:Nat):Int):=by split <;> omega
   walk_at "pu";rw [e1,e2]
   by_cases c1:min a b < k
   · refine if_t (decide_eq_true (by omega)) ?_
     by_cases c2:k < max a b
     · refine if_t (decide_eq_true (by omega)) (ih _ ?_);rw [if_pos ⟨c1,c2⟩] at h;exact h
     · refine if_f (decide_eq_false (by omega)) (ih _ ?_);rw [if_neg (by omega)] at h;exact h
   · refine if_f (decide_eq_false (by omega)) (ih _ ?_);rw [if_neg (by omega)] at h;exact h
theorem RK {st:List Str}{x y:Str}{n:Nat}{R:PV->Nat->Prop}(hs:st.length<=100)(hx:x∈st)(hy:y∈st)(h:R (.lst ((btwU st x y).map PV.str)) n):Fh [rowP st,evP (.t x y)] n R:=by
 refine⟨rfl,?_⟩;unfold KQ;have hix:∀z∈st,∀{R:PV->Prop},R (.int (ixS st z))->u5 (.tup (st.map PV.str)) (.str z) R:=fun z hz {R} q=>m_ix rfl hz (by omega) q;have hr0:rowP st=.tup (st.map PV.str):=rfl;have cs:=fun R' q=>Ln (a:=ixS st x) (b:=ixS st y) (n:=n) st 0 none none R' q;rw [sel_eq,Nat.sub_zero,Nat.sub_zero] at cs;have eb:(st.take (max (ixS st x) (ixS st y))).drop (min (ixS st x) (ixS st y) + 1)=btwU st x y:=rfl;rw [eb] at cs;have el:(p9 (st.map PV.str)).length=st.length:=by rw [Gy,A9]
 have ee:p9 (st.map PV.str)=((st.map PV.str).zipIdx 0).map fun y=>PV.tup [.int (y.2:Nat),y.1]:=rfl;rw [<- ee] at cs;generalize hE:p9 (st.map PV.str)=E at *;generalize hZ:st.map PV.str=Z at *;rw [hr0,N1];walk_at "pu";refine⟨⟨_,rfl⟩,hix x hx ?_⟩;refine⟨⟨_,rfl⟩,hix y hy ?_⟩
 try dsimp only
 rw [hE];exact⟨by omega,cs _ h⟩
theorem HD {d:Nat}{neg:Bool}{X:PV}{ys:List PV}{R:PV->Prop}(h1:cmpb d X=true)(h2:ys.all (cmpb d)=true)(h:R (.bl (if neg then !memP X ys else memP X ys))):wIn d neg X (.tup ys) R:=by
 cases X <;> exact⟨h1,h2,h⟩
theorem cmp_bs (bs:List Str):(bs.map PV.str).all (cmpb 4)=true:=BD bs 4
theorem RL {es:List Ev}{X T:PV}{n:Nat}(hX:cmpb 4 X=true)(hT:∀{R:PV->Prop},R X->wIx T (.int 1) R)(R:List PV->Nat->Prop)(h:R ((es.filter fun e=>memP X ((evB e).map PV.str)).map evP) n) :
   O7 (gN 0) (qB (qOp (wIn 4 false) (qOp wIx (qV 1) (qC (.int 1))) (qSl (qV 0) (K3 (qC (.int 1))) qNo))) (qV 0) (es.map evP) [none,some (.v T)] n R:=by
 refine CM evP (fun e=>memP X ((evB e).map PV.str)) es none n R (fun e he m Q hQ=>?_) h;cases hev:evP e with
 | tup xs =>
   have ec:=Hz e hev;rw [hev] at hQ;simp only [qB,qOp,qV,qC,qSl,K3,qNo,wSl,Dv,AM];refine hT ?_;rw [ec];exact HD hX (cmp_bs _) hQ
 | _=>cases e <;> cases hev
theorem ltr_le:∀k:Nat,k < 26->(!decide ((⟨#[97 + k]⟩:Str).cps.toList < (A4 "a").cps.toList))=true/\(!decide ((A4 "z").cps.toList < (⟨#[97 + k]⟩:Str).cps.toList))=true:=by decide +kernel
theorem Fm {z:Str}{n:Nat}{R:PV->Nat->Prop}(hz:C8 z)(h:R (.bl true) n):BG [.str z] n R:=by
 refine⟨rfl,?_⟩;unfold KF;obtain⟨h1,h2,h3⟩:=hz;have lx:z.length=z.cps.toList.length:=Bm z;have d1:decide ((1:Int)<=(z.length:Int))=true:=decide_eq_true (by omega);have d2:decide ((z.length:Int)<=8)=true:=decide_eq_true (by omega);have hlen:z.length<=1000000:=by omega
 walk_at "pu";simp only [hlen,d1,d2,true_and,reduceIte,y4,F7];refine⟨?_,by rw [A9];omega,?_⟩
 · rw [<- Array.all_toList];exact J3.mpr fun c hc=>decide_eq_true (Ca (h3 c hc).2 (by decide))
 · refine NN (fun _=>.bl true) _ _ _ _ (fun y hy m Q hQ=>?_) ?_
   · obtain⟨c,hc,rfl⟩:=F5.mp hy;have hc:=h3 c hc;unfold Ltr at hc;have:=ltr_le (c - 97) (by omega);rw [show 97 + (c - 97)=c by omega] at this;obtain⟨l1,l2⟩:=this;walk_at "pu";simp only [l1,l2];exact hQ
   · have e:=AC (z.cps.toList.map fun c=>PV.str ⟨#[c]⟩) fun _=>true;rw [e];dsimp only;rw [Dd,J3.mpr fun _ _=>rfl];exact h
theorem m_ist {x y:Str}{n:Nat}{R:PV->Nat->Prop}(hx:C8 x)(hy:C8 y)(h:R (.bl (!decide (x=y))) n):Hs [evP (.t x y)] n R:=by
 refine⟨rfl,?_⟩;unfold KH;rw [N1];walk_at "pu";exact if_f (by decide) (Fm hx (if_t rfl (Fm hy (if_t rfl h))))
theorem Lo {x y:Str}{es:List Ev}{E:List PV}(hE:es.map evP=E){R:PV->Prop}(q1:Ev.t x y∈es->R (.bl false))(q2:Ev.t x y∉es->R (.bl true)):wIn 4 true (.tup [.str D6,.str x,.str y]) (.tup E) R:=by
 subst hE;refine⟨rfl,De es 3,?_⟩
 have me:memP (.tup [.str D6,.str x,.str y]) (es.map evP)=true↔Ev.t x y∈es:=by
   unfold memP;rw [List.any_map,k5];exact⟨fun⟨a,ha,q⟩=>by rw [<- Lc (b:=.t x y) q];exact ha,fun h=>⟨_,h,Hy (.t x y)⟩⟩
 cases h:memP (.tup [.str D6,.str x,.str y]) (es.map evP) with
 | true=>exact q1 (me.mp h)
 | false=>exact q2 fun z=>by rw [me.mpr z] at h;cases h
theorem RM {st:List Str}{es:List Ev}{x y:Str}{n:Nat}{R:PV->Nat->Prop}(q:∀b:Bool,(b=true↔Tin st es x y)->R (.bl b) n):CZ [rowP st,shP es,evP (.t x y)] n R:=by
 refine⟨rfl,?_⟩;unfold KR;have hr0:rowP st=.tup (st.map PV.str):=rfl;have hs0:shP es=.tup (es.map evP):=rfl;generalize hE:es.map evP=E at *;generalize hZ:st.map PV.str=Z at *;rw [hr0,hs0,N1];walk_at "pu";refine if_f (by decide) (Lo hE (fun c=>if_f rfl (Y1 hZ ?_)) fun c=>if_t rfl (q false ⟨nofun,fun h=>absurd h.1 c⟩))
 by_cases c1:x∈st
 · exact if_t (decide_eq_true c1) (Y1 hZ (q _ (by rw [decide_eq_true_eq];exact⟨fun h=>⟨c,c1,h⟩,fun h=>h.2.2⟩)))
 · exact if_f (decide_eq_false c1) (q false ⟨nofun,fun h=>absurd h.2.1 c1⟩)
theorem Fn {st:List Str}{es:List Ev}{x y:Str}{n:Nat}{R:PV->Nat->Prop}(hx:C8 x)(hy:C8 y)(hg:∀e∈es,Good e)(q:∀b:Bool,(b=true↔Tin st es x y)->R (.bl b) n):c7 [rowP st,shP es,evP (.t x y)] n R:=by
 refine⟨rfl,?_⟩;unfold KI;have hr0:rowP st=.tup (st.map PV.str):=rfl;have hs0:shP es=.tup (es.map evP):=rfl;generalize hE:es.map evP=E at *;generalize hZ:st.map PV.str=Z at *;rw [hr0,hs0,N1];walk_at "pu";refine m_ist hx hy ?_
 by_cases c0:x=y
 · exact if_t (by rw [decide_eq_true c0];rfl) (q false ⟨nofun,fun h=>absurd c0 (hg _ h.1).1⟩)
 refine if_f (by rw [decide_eq_false c0];rfl) (Lo hE (fun c=>if_f rfl (Y1 hZ ?_)) fun c=>if_t rfl (q false ⟨nofun,fun h=>absurd h.1 c⟩))
 by_cases c1:x∈st
 · exact if_t (decide_eq_true c1) (Y1 hZ (q _ (by rw [decide_eq_true_eq];exact⟨fun h=>⟨c,c1,h⟩,fun h=>h.2.2⟩)))
 · exact if_f (decide_eq_false c1) (q false ⟨nofun,fun h=>absurd h.2.1 c1⟩)
theorem Lp (es:List Ev)(b:Str):(es.filter fun e=>memP (.str b) ((evB e).map PV.str))=es.filter fun e=>decide (b∈evB e):=by
 congr 1
 funext e
 exact CN
theorem i23 {R:PV->Prop}(q:R (.bl false)):wIn 4 true (.int ((2:Nat):Int)) (.tup [.int 2,.int 3]) R:=HD rfl rfl q
theorem i33 {R:PV->Prop}(q:R (.bl false)):wIn 4 true (.int ((3:Nat):Int)) (.tup [.int 2,.int 3]) R:=HD rfl rfl q
def rsB:Rs->List Str
 | .strange b=>[b]
 | .twice b=>[b]
 | .wrong x y=>[x,y]
 | .far x y=>[x,y]
 | .stays x y z=>[x,y,z]
 | .cross x y x' y'=>[x,y,x',y']
theorem RN {w:Rs}{W b:Str}{r:Int}{st:List Str}{es:List Ev}{n:Nat}{R:PV->Nat->Prop}(hw:(W=A4 "strange"/\w=.strange b)\/(W=A4 "twice"/\w=.twice b))(hb:C8 b)(hg:∀e∈es,Good e)(hl:es.length<=1000)(q:∀c:Bool,(c=true↔isRs r st es w)->R (.bl c) n):Hr [rowP st,shP es,.str W,.str b] n R:=by
 refine⟨rfl,?_⟩;unfold KG;have hr0:rowP st=.tup (st.map PV.str):=rfl;generalize hS:shP es=S;generalize hZ:st.map PV.str=Z at *;rw [hr0];walk_at "pu";refine Fm hb (if_f rfl ?_);rw [<- hS];refine Dg hl ?_;have tx:=GI (es.flatMap evB);rcases hw with⟨rfl,rfl⟩ | ⟨rfl,rfl⟩
 · refine if_t (decide_eq_true rfl) (CP rfl ?_)
   by_cases c:b∈es.flatMap evB
   · exact if_t (decide_eq_true c) (CO hZ (q _ (by rw [Ch,decide_eq_false_iff_not];exact⟨fun h=>⟨c,h⟩,fun h=>h.2⟩)))
   · exact if_f (decide_eq_false c) (q false ⟨nofun,fun h=>absurd h.1 c⟩)
 · refine if_f wsb ⟨⟨_,rfl⟩,?_⟩;dsimp only;rw [tx];refine q _ ?_;have e:=Fj b hg;unfold cntS at e;rw [e,decide_eq_true_eq];show _↔2<=_;omega
theorem RO {w:Rs}{W x y:Str}{r:Int}{st:List Str}{es:List Ev}{n:Nat}{R:PV->Nat->Prop}(hw:(W=A4 "wrong"/\w=.wrong x y)\/(W=A4 "far"/\w=.far x y))(hx:C8 x)(hy:C8 y)(hg:∀e∈es,Good e)(hs:st.length<=100)(q:∀c:Bool,(c=true↔isRs r st es w)->R (.bl c) n):Ht [rowP st,.int r,shP es,.str W,evP (.t x y)] n R:=by
 refine⟨rfl,?_⟩;unfold KJ;have mk:∀{R:PV->Nat->Prop},(∀b:Bool,(b=true↔Tin st es x y)->R (.bl b) n)->c7 [rowP st,shP es,evP (.t x y)] n R:=fun q=>Fn hx hy hg q;have mw:=fun hx hy (R:PV->Nat->Prop) q=>Le (st:=st) (x:=x) (y:=y) (n:=n) (R:=R) hs hx hy q;have mf:=fun hx hy (R:PV->Nat->Prop) q=>m_far (st:=st) (x:=x) (y:=y) (r:=r) (n:=n) (R:=R) hs hx hy q;generalize hS:shP es=S at *;generalize hZ:rowP st=Z at *;generalize hT:evP (.t x y)=T at *;have nt:∀{P:Prop},¬Tin st es x y->(false=true↔Tin st es x y/\P):=fun h=>⟨nofun,fun z=>absurd z.1 h⟩;rcases hw with⟨rfl,rfl⟩ | ⟨rfl,rfl⟩
 · walk_at "pu";refine mk fun b hb=>?_;cases b with
   | false=>exact if_t rfl (q false (nt fun z=>nomatch hb.mpr z))
   | true =>
     have ti:=hb.mp rfl;exact if_f rfl (mw ti.2.1 ti.2.2 _ (q _ (by rw [decide_eq_true_eq];exact⟨fun h=>⟨ti,h⟩,fun h=>h.2⟩)))
 · walk_at "pu";refine mk fun b hb=>?_;cases b with
   | false=>exact if_t rfl (q false (nt fun z=>nomatch hb.mpr z))
   | true =>
     have ti:=hb.mp rfl;exact if_f rfl (mf ti.2.1 ti.2.2 _ (q _ (by rw [decide_eq_true_eq];exact⟨fun h=>⟨ti,h⟩,fun h=>h.2⟩)))
theorem RP {x y z:Str}{r:Int}{st:List Str}{es:List Ev}{n:Nat}{R:PV->Nat->Prop}(hx:C8 x)(hy:C8 y)(hz:C8 z)(hg:∀e∈es,Good e)(hs:st.length<=100)(hl:es.length<=1000)(q:∀c:Bool,(c=true↔isRs r st es (.stays x y z))->R (.bl c) n):Hu [rowP st,shP es,evP (.t x y),.str z] n R:=by
 refine⟨rfl,?_⟩;unfold KK;have mk:∀{R:PV->Nat->Prop},(∀b:Bool,(b=true↔Tin st es x y)->R (.bl b) n)->c7 [rowP st,shP es,evP (.t x y)] n R:=fun q=>Fn hx hy hg q;have mw:=fun hx hy (R:PV->Nat->Prop) q=>Df (st:=st) (x:=x) (y:=y) (n:=n) (R:=R) hs hx hy q;have mo:=fun(R:PV->Nat->Prop) q=>Dg (es:=es) (n:=n) (R:=R) hl q;generalize hS:shP es=S at *;generalize hZ:rowP st=Z at *;generalize hT:evP (.t x y)=T at *;walk_at "pu";refine mk fun b hb=>?_;cases b with
 | false=>exact if_t rfl (q false ⟨nofun,fun h=>nomatch hb.mpr h.1⟩)
 | true =>
   have ti:=hb.mp rfl;refine if_f rfl (Fm hz (if_f rfl (mw ti.2.1 ti.2.2 _ (Y1 rfl ?_))))
   by_cases c:z∈btwU st x y
   · exact if_t (decide_eq_true c) (mo _ (EN rfl (q _ (by rw [Ch,decide_eq_false_iff_not];exact⟨fun h=>⟨ti,c,h⟩,fun h=>h.2.2⟩))))
   · exact if_f (decide_eq_false c) (q false ⟨nofun,fun h=>absurd h.2.1 c⟩)
theorem RQ {x y x' y':Str}{r:Int}{st:List Str}{es:List Ev}{n:Nat}{R:PV->Nat->Prop}(hx:C8 x)(hy:C8 y)(hx':C8 x')(hy':C8 y')(hg:∀e∈es,Good e)(hs:st.length<=100)(q:∀c:Bool,(c=true↔isRs r st es (.cross x y x' y'))->R (.bl c) n):Hv [rowP st,shP es,evP (.t x y),evP (.t x' y')] n R:=by
 refine⟨rfl,?_⟩;unfold KL;have mk:∀{R:PV->Nat->Prop},(∀b:Bool,(b=true↔Tin st es x y)->R (.bl b) n)->c7 [rowP st,shP es,evP (.t x y)] n R:=fun q=>Fn hx hy hg q;have mk':∀{R:PV->Nat->Prop},(∀b:Bool,(b=true↔Tin st es x' y')->R (.bl b) n)->c7 [rowP st,shP es,evP (.t x' y')] n R:=fun q=>Fn hx' hy' hg q;have mc:=fun hx hy (R:PV->Nat->Prop) q q'=>Lj (st:=st) (x:=x) (y:=y) (x':=x') (y':=y') (n:=n) (R:=R) hs hx hy q q';generalize hS:shP es=S at *;generalize hZ:rowP st=Z at *;generalize hT:evP (.t x y)=T at *;generalize hU:evP (.t x' y')=U at *;walk_at "pu";refine mk fun b hb=>?_;cases b with
 | false=>exact if_t rfl (q false ⟨nofun,fun h=>nomatch hb.mpr h.1⟩)
 | true =>
   have ti:=hb.mp rfl;refine if_f rfl (mk' fun b hb'=>?_);cases b with
   | false=>exact if_t rfl (q false ⟨nofun,fun h=>nomatch hb'.mpr h.2.1⟩)
   | true=>exact if_f rfl (mc ti.2.1 ti.2.2 _ (fun h=>q false ⟨nofun,fun z=>absurd (h z.2.2.1) z.2.2.2⟩) fun h h'=>q true ⟨fun _=>⟨ti,hb'.mp rfl,h,h'⟩,fun _=>rfl⟩)
theorem RS {w:Rs}{r:Int}{st:List Str}{es:List Ev}{n:Nat}{R:PV->Nat->Prop}(hw:∀z∈rsB w,C8 z)(hg:∀e∈es,Good e)(hs:st.length<=100)(hl:es.length<=1000)(q:∀c:Bool,(c=true↔isRs r st es w)->R (.bl c) n):BH [rowP st,.int r,shP es,rsP w] n R:=by
 refine⟨rfl,?_⟩;unfold KN;have m1:=fun W b hw' (hb:C8 b) (R:PV->Nat->Prop) q=>RN (w:=w) (W:=W) (b:=b) (r:=r) (st:=st) (es:=es) (n:=n) (R:=R) hw' hb hg hl q;have m2:=fun W x y hw' (hx:C8 x) (hy:C8 y) (R:PV->Nat->Prop) q=>RO (w:=w) (W:=W) (x:=x) (y:=y) (r:=r) (st:=st) (es:=es) (n:=n) (R:=R) hw' hx hy hg hs q;have m3:=fun x y z (hx:C8 x) (hy:C8 y) (hz:C8 z) (R:PV->Nat->Prop) q=>RP (x:=x) (y:=y) (z:=z) (r:=r) (st:=st) (es:=es) (n:=n) (R:=R) hx hy hz hg hs hl q;have m4:=fun x y x' y' (hx:C8 x) (hy:C8 y) (hx':C8 x') (hy':C8 y') (R:PV->Nat->Prop) q=>RQ (x:=x) (y:=y) (x':=x') (y':=y') (r:=r) (st:=st) (es:=es) (n:=n) (R:=R) hx hy hx' hy' hg hs q;generalize hS:shP es=S at *;generalize hZ:rowP st=Z at *;have ok:∀{z:Str} {zs:List Str} {A B:Prop},z∈zs->A->wIn 4 false (.str z) (.tup (zs.map PV.str)) fun v=>match v with | .bl b=>if b=true then A else B | _=>False:=fun h a=>Y1 rfl (if_t (decide_eq_true h) a)
 have no:∀{z:Str} {zs:List Str} {A B:Prop},z∉zs->B->wIn 4 false (.str z) (.tup (zs.map PV.str)) fun v=>match v with | .bl b=>if b=true then A else B | _=>False:=fun h a=>Y1 rfl (if_f (decide_eq_false h) a)
 cases w with
 | strange b =>
   unfold rsP;walk_at "pu";exact i23 (if_f rfl (if_t (decide_eq_true rfl) (ok (zs:=[_,_]) (by simp) (m1 _ b (.inl ⟨rfl,rfl⟩) (hw b (by simp [rsB])) _ q))))
 | twice b =>
   unfold rsP;walk_at "pu";exact i23 (if_f rfl (if_t (decide_eq_true rfl) (ok (zs:=[_,_]) (by simp) (m1 _ b (.inr ⟨rfl,rfl⟩) (hw b (by simp [rsB])) _ q))))
 | wrong x y =>
   rw [show rsP (.wrong x y)=.tup [.str (A4 "wrong"),evP (.t x y)] from rfl];generalize hT:evP (.t x y)=T at *;walk_at "pu";rw [show atI [T] 0=some T from rfl];dsimp only;have:=m2 _ x y (.inl ⟨rfl,rfl⟩) (hw x (by simp [rsB])) (hw y (by simp [rsB])) _ q;rw [hT] at this;exact i23 (if_f rfl (if_t (decide_eq_true rfl) (no (zs:=[_,_]) (by decide +kernel) (if_t (decide_eq_true rfl) (ok (zs:=[_,_]) (by simp) this)))))
 | far x y =>
   rw [show rsP (.far x y)=.tup [.str (A4 "far"),evP (.t x y)] from rfl];generalize hT:evP (.t x y)=T at *;walk_at "pu";rw [show atI [T] 0=some T from rfl];dsimp only;have:=m2 _ x y (.inr ⟨rfl,rfl⟩) (hw x (by simp [rsB])) (hw y (by simp [rsB])) _ q;rw [hT] at this;exact i23 (if_f rfl (if_t (decide_eq_true rfl) (no (zs:=[_,_]) (by decide +kernel) (if_t (decide_eq_true rfl) (ok (zs:=[_,_]) (by simp) this)))))
 | stays x y z =>
   rw [show rsP (.stays x y z)=.tup [.str (A4 "stays"),evP (.t x y),.str z] from rfl];generalize hT:evP (.t x y)=T at *;walk_at "pu";have:=m3 x y z (hw x (by simp [rsB])) (hw y (by simp [rsB])) (hw z (by simp [rsB])) _ q;rw [hT] at this;exact i33 (if_f rfl (if_f (by decide) (if_f (by decide) this)))
 | cross x y x' y' =>
   rw [show rsP (.cross x y x' y')=.tup [.str (A4 "cross"),evP (.t x y),evP (.t x' y')] from rfl];generalize hT:evP (.t x y)=T at *;generalize hU:evP (.t x' y')=U at *;walk_at "pu";have:=m4 x y x' y' (hw x (by simp [rsB])) (hw y (by simp [rsB])) (hw x' (by simp [rsB])) (hw y' (by simp [rsB])) _ q;rw [hT,hU] at this;exact i33 (if_f rfl (if_f (by decide) (if_f (by decide) this)))
theorem RT {r:Int}{st:List Str}{es:List Ev}{w:Rs}{n:Nat}{R:PV->Nat->Prop}(hs:st.length<=100)(hl:es.length<=1000)(q:∀c:Bool,(c=true↔isRs r st es w)->R (.bl c) n):C_ [rowP st,.int r,shP es,rsP w] n R:=by
 refine⟨rfl,?_⟩;have hr0:rowP st=.tup (st.map PV.str):=rfl;have hs0:shP es=.tup (es.map evP):=rfl;have El:(es.map evP).length=es.length:=A9 ..;have cm:=fun X T h1 h2 R' q'=>RL (es:=es) (X:=X) (T:=T) (n:=n) h1 h2 R' q';have ni:∀{z:Str} {R:PV->Prop},R (.bl (!decide (z∈st)))->wIn 4 true (.str z) (.tup (st.map PV.str)) R:=fun q=>CO rfl q;have lt:∀{x y:Str} {R:PV->Nat->Prop},(∀b:Bool,(b=true↔Tin st es x y)->R (.bl b) n)->CZ [.tup (st.map PV.str),.tup (es.map evP),.tup [.str D6,.str x,.str y]] n R:=fun q=>RM q;have lb:∀{x y:Str} {R:PV->Nat->Prop},x∈st->y∈st->R (.lst ((btwU st x y).map PV.str)) n->Fh [.tup (st.map PV.str),.tup [.str D6,.str x,.str y]] n R:=fun hx hy q=>RK hs hx hy q;have hix:∀z∈st,∀{R:PV->Prop},R (.int (ixS st z))->u5 (.tup (st.map PV.str)) (.str z) R:=fun z hz {R} q=>m_ix rfl hz (by omega) q;rw [hr0,hs0];generalize hE:es.map evP=E at *;generalize hZ:st.map PV.str=Z at *;have nt:∀{x y:Str} {b:Bool} {P:Prop},(b=true↔Tin st es x y)->b=false->(false=true↔Tin st es x y/\P):=fun h e=>⟨nofun,fun z=>by rw [h.mpr z.1] at e;cases e⟩;cases w with
 | strange b =>
   unfold rsP;have c1:=cm (.str b) (.tup [.str (A4 "strange"),.str b]) rfl (fun q=>q);rw [Lp] at c1
   have pos:0 < ((es.filter fun e=>decide (b∈evB e)).map evP).length↔b∈es.flatMap evB:=by
     rw [A9,List.length_pos_iff_exists_mem,R9];exact exists_congr fun e=>by rw [N5,decide_eq_true_eq]
   generalize (es.filter fun e=>decide (b∈evB e)).map evP=M at *;unfold AA;walk_at "pd";refine⟨by decide,i23 (if_f rfl ⟨by omega,c1 _ ?_⟩)⟩
   by_cases c:0 < M.length
   · refine if_t (decide_eq_true (by omega)) (ni ?_)
     by_cases c2:b∈st
     · exact if_f (by rw [decide_eq_true c2];rfl) (q false ⟨nofun,fun h=>absurd c2 h.2⟩)
     · exact if_t (by rw [decide_eq_false c2];rfl) (q true ⟨fun _=>⟨pos.mp c,c2⟩,fun _=>rfl⟩)
   · exact if_f (decide_eq_false (by omega)) (q false ⟨nofun,fun h=>absurd (pos.mpr h.1) c⟩)
 | twice b =>
   unfold rsP;have c1:=cm (.str b) (.tup [.str (A4 "twice"),.str b]) rfl (fun q=>q);rw [Lp] at c1
   have pos:1 < ((es.filter fun e=>decide (b∈evB e)).map evP).length↔isRs r st es (.twice b):=by
     rw [A9];exact Iff.rfl
   generalize (es.filter fun e=>decide (b∈evB e)).map evP=M at *;unfold AA;walk_at "pd";refine⟨by decide,i23 (if_f rfl ⟨by omega,c1 _ ?_⟩)⟩
   by_cases c:1 < M.length
   · exact if_t (decide_eq_true (by omega)) (q true ⟨fun _=>pos.mp c,fun _=>rfl⟩)
   · exact if_f (decide_eq_false (by omega)) (q false ⟨nofun,fun h=>absurd (pos.mpr h) c⟩)
 | wrong x y =>
   rw [show rsP (.wrong x y)=.tup [.str (A4 "wrong"),.tup [.str D6,.str x,.str y]] from rfl];have c1:=cm (.tup [.str D6,.str x,.str y]) (.tup [.str (A4 "wrong"),.tup [.str D6,.str x,.str y]]) rfl (fun q=>q);generalize (es.filter fun e=>memP (.tup [.str D6,.str x,.str y]) ((evB e).map PV.str)).map evP=M at *;unfold AA;walk_at "pd";refine⟨by decide,i23 (if_f rfl ⟨by omega,c1 _ ?_⟩)⟩;refine lt fun b hb=>?_;cases b with
   | false=>exact if_t rfl (q false (nt hb rfl))
   | true =>
     have ti:=hb.mp rfl;refine if_f rfl (lb ti.2.1 ti.2.2 ?_);exact⟨⟨_,rfl⟩,hix y ti.2.2 ⟨⟨_,rfl⟩,hix x ti.2.1 (q _ (by rw [decide_eq_true_eq];exact⟨fun h=>⟨ti,by omega⟩,fun h=>by have:=h.2;omega⟩))⟩⟩
 | far x y =>
   rw [show rsP (.far x y)=.tup [.str (A4 "far"),.tup [.str D6,.str x,.str y]] from rfl];have c1:=cm (.tup [.str D6,.str x,.str y]) (.tup [.str (A4 "far"),.tup [.str D6,.str x,.str y]]) rfl (fun q=>q);generalize (es.filter fun e=>memP (.tup [.str D6,.str x,.str y]) ((evB e).map PV.str)).map evP=M at *;unfold AA;walk_at "pd";refine⟨by decide,i23 (if_f rfl ⟨by omega,c1 _ ?_⟩)⟩;refine lt fun b hb=>?_;cases b with
   | false=>exact if_t rfl (q false (nt hb rfl))
   | true =>
     have ti:=hb.mp rfl;refine if_f rfl (lb ti.2.1 ti.2.2 ?_);dsimp only;rw [A9];exact q _ (by rw [decide_eq_true_eq];exact⟨fun h=>⟨ti,h⟩,fun h=>h.2⟩)
 | stays x y z =>
   rw [show rsP (.stays x y z)=.tup [.str (A4 "stays"),.tup [.str D6,.str x,.str y],.str z] from rfl];have c1:=cm (.tup [.str D6,.str x,.str y]) (.tup [.str (A4 "stays"),.tup [.str D6,.str x,.str y],.str z]) rfl (fun q=>q);generalize (es.filter fun e=>memP (.tup [.str D6,.str x,.str y]) ((evB e).map PV.str)).map evP=M at *;unfold AA;walk_at "pd";refine⟨by decide,i33 (if_f rfl ⟨by omega,c1 _ ?_⟩)⟩;refine lt fun b hb=>?_;cases b with
   | false=>exact if_t rfl (q false (nt hb rfl))
   | true =>
     have ti:=hb.mp rfl;refine if_f rfl (lb ti.2.1 ti.2.2 (CP rfl ?_))
     by_cases c:z∈btwU st x y
     · refine if_t (decide_eq_true c) ⟨by omega,?_⟩;rw [<- hE];refine Ez evP (fun e=>.bl (decide (z∈evB e))) es _ n _ (fun e he m Q hQ=>?_) ?_
       · cases hev:evP e with
         | tup xs =>
           have ec:=Hz e hev;rw [hev] at hQ;walk_at "pu";rw [ec];exact Y1 rfl hQ
         | _=>cases e <;> cases hev
       · rw [AC];dsimp only;rw [K_];refine q _ ?_;rw [Ch,Bool.eq_false_iff,Ne,k5];refine⟨fun h=>⟨ti,c,fun hz=>?_⟩,fun h ⟨e,he,hz⟩=>h.2.2 (R9.mpr ⟨e,he,of_decide_eq_true hz⟩)⟩;obtain⟨e,he,hz⟩:=R9.mp hz;exact h ⟨e,he,decide_eq_true hz⟩
     · exact if_f (decide_eq_false c) (q false ⟨nofun,fun h=>absurd h.2.1 c⟩)
 | cross x y x' y' =>
   rw [show rsP (.cross x y x' y')=.tup [.str (A4 "cross"),.tup [.str D6,.str x,.str y],.tup [.str D6,.str x',.str y']] from rfl];have c1:=cm (.tup [.str D6,.str x,.str y]) (.tup [.str (A4 "cross"),.tup [.str D6,.str x,.str y],.tup [.str D6,.str x',.str y']]) rfl (fun q=>q);generalize (es.filter fun e=>memP (.tup [.str D6,.str x,.str y]) ((evB e).map PV.str)).map evP=M at *;unfold AA;walk_at "pd";refine⟨by decide,i33 (if_f rfl ⟨by omega,c1 _ ?_⟩)⟩;refine lt fun b hb=>?_;cases b with
   | false=>exact if_t rfl (q false (nt hb rfl))
   | true =>
     have ti:=hb.mp rfl;refine if_f rfl (lb ti.2.1 ti.2.2 (lt fun b hb'=>?_));cases b with
     | false=>exact if_t rfl (q false ⟨nofun,fun h=>nomatch hb'.mpr h.2.1⟩)
     | true =>
       refine if_f rfl ?_;have e1:cutP [PV.str D6,PV.str x,PV.str y] (some 1) none++cutP [PV.str D6,PV.str x',PV.str y'] (some 1) none=[.str x,.str y,.str x',.str y']:=rfl
       have l1:(cutP [PV.str D6,PV.str x,PV.str y] (some 1) none).length + (cutP [PV.str D6,PV.str x',PV.str y'] (some 1) none).length<=1000000:=by
         show(2:Nat) + 2<=1000000
         decide
       rw [e1];refine⟨l1,?_⟩;rw [show N7 [.str x,.str y,.str x',.str y']=some [x,y,x',y'] from rfl];dsimp only;refine⟨by simp,?_⟩
       by_cases c:four x y x' y'
       · refine if_t (by rw [GM];exact decide_eq_true c) ?_;rw [show atI [PV.str x,.str y,.str x',.str y'] 2=some (.str x') from rfl,show atI [PV.str x,.str y,.str x',.str y'] 3=some (.str y') from rfl];dsimp only;refine CP rfl (CP rfl (q _ ?_));rw [GN,Ch,decide_eq_false_iff_not,decide_eq_decide];exact⟨fun h=>⟨ti,hb'.mp rfl,c,h⟩,fun h=>h.2.2.2⟩
       · exact if_f (by rw [GM];exact decide_eq_false c) (q false ⟨nofun,fun h=>absurd h.2.2.1 c⟩)
theorem V7 (h:∀U:pS,U=q->p { D with nx:=fun e m=>U D e m } env n):qSeq p q D env n:=h q rfl
theorem Lq {b:Str}:∀{l:List Str},l.Nodup->cntS b l<=1
 | [],_=>by show(0:Int)<=1;decide
 | y :: l, nd => by
   obtain⟨n1,n2⟩:=T0.mp nd;have ih:=Lq (b:=b) n2;rw [i7]
   by_cases c:y=b
   · subst c;rw [if_pos rfl]
     by_cases z:cntS y l=0
     · omega
     · exfalso
       have:∀l:List Str,y∉l->cntS y l=0:=fun l=>by
         induction l with
         | nil=>intro _;rfl
         | cons a l ih =>
           intro h;rw [i7,if_neg (fun e=>h (by rw [e];exact B8)),ih fun z=>h (C3 _ z)]
           rfl
       exact z (this l n1)
   · rw [if_neg c];omega
theorem Lr {r:Int}{st:List Str}{es:List Ev}{w:Rs}(hg:∀e∈es,Good e)(h:isRs r st es w):¬V6 r st es:=fun so=>by
 cases w with
 | strange b=>exact h.2 (so.fair.sub b h.1)
 | twice b =>
   have h2:2<=(es.filter fun e=>decide (b∈evB e)).length:=h;have:=Lq (b:=b) so.fair.nd;rw [Fj b hg] at this;omega
 | wrong x y=>have:=so.ahead x y h.1.1;have:=h.2;omega
 | far x y=>have:=so.near x y h.1.1;have:=h.2;omega
 | stays x y z=>exact h.2.2 (so.full x y h.1.1 z h.2.1)
 | cross x y x' y'=>exact h.2.2.2 (so.plain x y x' y' h.1.1 h.2.1.1)
theorem Ls {e:Ev}(h:Good e):∀b∈evB e,C8 b:=by
 cases e with
 | d x=>intro b hb;rw [D5.mp hb];exact h
 | t x y =>
   intro b hb;rcases C5.mp hb with rfl | hb
   · exact h.2.1
   · rw [D5.mp hb];exact h.2.2
theorem RU {r:Int}{st:List Str}{es:List Ev}{w:Rs}(hst:RowS st)(hg:∀e∈es,Good e)(h:isRs r st es w):∀z∈rsB w,C8 z:=by
 have gb:∀z∈es.flatMap evB,C8 z:=fun z hz=>by obtain⟨e,he,hz⟩:=R9.mp hz;exact Ls (hg e he) z hz
 have gt:∀{x y},Tin st es x y->C8 x/\C8 y:=fun h=>⟨hst.2 _ h.2.1,hst.2 _ h.2.2⟩;cases w with
 | strange b=>intro z hz;rw [D5.mp hz];exact gb b h.1
 | twice b =>
   intro z hz;rw [D5.mp hz];have h:2<=(es.filter fun e=>decide (b∈evB e)).length:=h;obtain⟨e,he⟩:=List.exists_mem_of_length_pos (show 0 < (es.filter fun e=>decide (b∈evB e)).length by omega);obtain⟨he,hb⟩:=N5.mp he;exact Ls (hg e he) b (of_decide_eq_true hb)
 | wrong x y=>have:=gt h.1;simp [rsB,this]
 | far x y=>have:=gt h.1;simp [rsB,this]
 | stays x y z=>have:=gt h.1;have:=hst.2 z (BU (Dw h.2.1));simp [*,rsB]
 | cross x y x' y'=>have:=gt h.1;have:=gt h.2.1;simp [*,rsB]
theorem RV {r:Int}{st:List Str}{es:List Ev}{ws:List Rs}{n:Nat}{R:PV->Nat->Prop}(hs:st.length<=63)(hst:RowS st)(hg:∀e∈es,Good e)(hl:es.length<=60)(hw:∀w∈ws,∀z∈rsB w,C8 z)(q:R (.bl true) n):Da [rowP st,.int r,shP es,.lst (ws.map rsP)] n R:=by
 refine⟨rfl,?_⟩;have mo:∀{R:PV->Nat->Prop},(V6 r st es->∀ts:List Ev,ts.Perm (es.filter isTo)->(ts.Pairwise fun a b=>evL st a<=evL st b)->R (.tup [.str (A4 "course"),.tup ((es.filter isDr++ts).map evP)]) n)->(∀w,isRs r st es w->R (.tup [.str (A4 "unsound"),rsP w]) n)->Fe [rowP st,.int r,shP es] n R:=fun q q'=>Rx hs hst.1 hg (by omega) q q';have mc:∀{R:PV->Nat->Prop},(∀f l:List Ev,(f++l).Perm es->wlk st r f 0 []=none->(∀e∈l,lcan st r (f.flatMap evB) e=false)->R (.tup [.lst (f.map evP),.lst (l.map evP)]) n)->Fg [rowP st,.int r,shP es] n R:=fun q=>Ro (by omega) (by omega) q;have mr:∀{w:Rs} {R:PV->Nat->Prop},(∀c:Bool,(c=true↔isRs r st es w)->R (.bl c) n)->C_ [rowP st,.int r,shP es,rsP w] n R:=fun q=>RT (by omega) (by omega) q;have mw:∀{w:Rs} {R:PV->Nat->Prop},(∀z∈rsB w,C8 z)->(∀c:Bool,(c=true↔isRs r st es w)->R (.bl c) n)->BH [rowP st,.int r,shP es,rsP w] n R:=fun h q=>RS h hg (by omega) (by omega) q
 have fin:∀(W S T:PV) (good:Bool) (s6 s7:Option Pu.Slot),W=rowP st->S=shP es->(good=true->V6 r st es)->qSeq (qFor (qIl (qV 3)) (gN 6) (qSeq (qSet 7 (B0 BH (A0 (qV 0) (A0 (qV 1) (A0 (qV 2) (A0 (qV 6) qNil))))))
   (qSeq (qIfS (qOr (qNot (qB (qUn (wIsi "bool") (qV 7)))) (qB (qOp (wNe 4) (qV 7) (B0 C_ (A0 (qV 0) (A0 (qV 1) (A0 (qV 2) (A0 (qV 6) qNil)))))))) (qRet (qC (.bl false))) qNx)
   (qIfS (qAnd (t7 (qV 4)) (t7 (qV 7))) (qRet (qC (.bl false))) qNx)))) (qRet (qC (.bl true))) { nx:=fun _ m=>R PV.non m,rt:=R } [some (.v W),some (.v (.int r)),some (.v S),some (.v (.lst (ws.map rsP))),some (.v (.bl good)),some (.v T),s6,s7] n:=by
   intro W S T good s6 s7 hW hS so;rw [<- hW,<- hS] at mr mw;walk_at "pu";refine Y0 (fun i env m=>∃s6 s7,env=[some (.v W),some (.v (.int r)),some (.v S),some (.v (.lst (ws.map rsP))),some (.v (.bl good)),some (.v T),s6,s7]/\m=n) _ 0 _ _ ⟨_,_,rfl,rfl⟩ (fun i x env m N ex hI hN=>?_) (fun env m hI=>?_)
   · obtain⟨s6,s7,rfl,rfl⟩:=hI;obtain⟨w,ew,rfl⟩:=Ax ex;have mr':=fun R' q'=>mr (w:=w) (R:=R') q';have mw':=fun R' q'=>mw (w:=w) (R:=R') (hw w (J6 ew)) q';generalize rsP w=P at *;walk_at "pu";refine mw' _ fun c hc=>?_;walk_at "pu";refine mr' _ fun c' hc'=>?_;have e:c=c':=k8.mpr (hc.trans hc'.symm);subst e;have nx:=hN _ _ ⟨some (.v P),some (.v (.bl c)),rfl,rfl⟩;refine if_f (by rw [GN];simp) ?_;cases good with
     | false=>exact nx
     | true =>
       refine if_t rfl ?_;cases c with
       | false=>exact nx
       | true=>exact absurd (so rfl) (Lr hg (hc.mp rfl))
   · obtain⟨s6,s7,rfl,rfl⟩:=hI;walk_at "pu";exact q
 have fin':=fun T good s6 s7 so=>fin _ _ T good s6 s7 rfl rfl so;clear fin;unfold KS;refine V7 fun U hU=>?_;generalize hW:rowP st=W at *;generalize hS:shP es=S at *;generalize hL:PV.lst (ws.map rsP)=L at *;walk_at "pu";refine mc fun f l pm wf hl'=>?_;have ce:(l.map evP).all (cmpb 3)=true:=De l 2;have en:eqPs (l.map evP) []=l.isEmpty:=by cases l <;> rfl
 generalize f.map evP=F at *;generalize l.map evP=LL at *;walk_at "pu";refine gd2 ce rfl ?_;rw [en];refine mo (fun sd ts pt ot=>?_) fun w hw=>?_
 · rw [RJ hst.1 sd pm hl'];generalize (es.filter isDr++ts).map evP=C at *;subst hU;refine V7 fun U hU=>?_;walk_at "pu";subst hU;exact fin' _ true _ _ fun _=>sd
 · cases l with
   | nil =>
     rw [S6] at pm;exact absurd ((RH hst.1 (fun e he=>hg e (pm.mem_iff.mp he)) wf).perm pm.symm) (Lr hg hw)
   | cons x l =>
     have mw':=fun R' q'=>mw (w:=w) (R:=R') (RU hst hg hw) q';subst hU;refine V7 fun U hU=>?_;generalize rsP w=P at *;walk_at "pu";refine mw' _ fun c hc=>?_;have:=hc.mpr hw;subst this;subst hU;exact fin' _ false _ _ nofun
theorem RW {q n:Nat}{bs:List Str}{es:List Ev}{R:PV->Nat->Prop}(hb:∀z∈bs,C8 z)(b1:1<=bs.length)(b2:bs.length<=100)(hg:∀e∈es,Good e)(hl:es.length<=1000)(hn:n<=999990000)(h:∀x y n',C8 x->C8 y->n'<=n + 3->R (evP (.t x y)) n'):CW [.pot (q + 1),shP es,rowP bs] n R:=by
 refine⟨rfl,?_⟩;unfold Kq;have hs0:shP es=.tup (es.map evP):=rfl;have hr0:rowP bs=.tup (bs.map PV.str):=rfl;have El:(es.map evP).length=es.length:=A9 ..;have Bl:(bs.map PV.str).length=bs.length:=A9 ..
 have hat:∀d:Int,0<=d->d < (bs.map PV.str).length->∃z:Str,atI (bs.map PV.str) d=some (.str z)/\C8 z:=fun d d0 d1=>by
   obtain⟨x,hx,ex⟩:=CF d0 d1;obtain⟨z,hz,rfl⟩:=F5.mp hx;exact⟨z,ex,hb z hz⟩
 have cf:∀(R:List PV->Nat->Prop),R ((es.filter isTo).map evP) n->O7 (gN 0) (qB (qOp (wEq 4) (qOp wIx (qV 0) (qC (.int 0))) (qC (.str (A4 "touch"))))) (qV 0) (es.map evP) [none] n R:=fun R h=>by
   refine CM evP isTo _ _ _ _ (fun e he m Q hQ=>?_) h;cases e with
   | d x=>rw [V5] at *;walk_at "pu";rw [He];exact hQ
   | t x y=>rw [N1] at *;walk_at "pu";exact hQ
 have ce:=De (es.filter isTo) 2;have en:eqPs ((es.filter isTo).map evP) []=(es.filter isTo).isEmpty:=by cases es.filter isTo <;> rfl
 have hev:∀d:Int,0<=d->d < ((es.filter isTo).map evP).length->∃x y,atI ((es.filter isTo).map evP) d=some (.tup [.str D6,.str x,.str y])/\C8 x/\C8 y:=fun d d0 d1=>by
   obtain⟨v,hv,ex⟩:=CF d0 d1;obtain⟨e,he,rfl⟩:=F5.mp hv;obtain⟨he,ht⟩:=N5.mp he;cases e with
   | d x=>cases ht
   | t x y=>exact⟨x,y,ex,(hg _ he).2⟩
 have tl:((es.filter isTo).map evP).length<=es.length:=by rw [A9];exact Fx ..
 have te:(es.filter isTo).isEmpty=false->0 < ((es.filter isTo).map evP).length:=by rw [A9];cases es.filter isTo <;> simp
 generalize hE:es.map evP=E at *;generalize hB:bs.map PV.str=B at *;generalize (es.filter isTo).map evP=F at *;generalize (es.filter isTo).isEmpty=emp at *;rw [hs0,hr0];walk_at "pu";refine⟨by omega,cf _ ?_⟩
 have last:∀m:Nat,m<=n + 1->(0 < (B.length:Int)/\(B.length:Int) < 1000000/\m < 1000000000)/\∀d:Int,0<=d->d < (B.length:Int)->match atI B d with
     | some z => (0 < (B.length : Int) /\ (B.length : Int) < 1000000 /\ m + 1 < 1000000000) /\ ∀ d : Int, 0 <= d -> d < (B.length : Int) -> match atI B d with
       | some z'=>R (.tup [.str (A4 "touch"),z,z']) (m + 1 + 1)
       | none=>False
     | none=>False:=fun m hm=>by
   refine⟨⟨by omega,by omega,by omega⟩,fun d d0 d1=>?_⟩;obtain⟨x,ex,bx⟩:=hat d d0 d1;rw [ex];refine⟨⟨by omega,by omega,by omega⟩,fun d d0 d1=>?_⟩;obtain⟨y,ey,by_⟩:=hat d d0 d1;rw [ey];exact h x y _ bx by_ (by omega)
 refine gd2 ce rfl ?_;rw [en];cases emp with
 | true=>exact if_f rfl (last n (by omega))
 | false =>
   have tp:=te rfl;refine if_t rfl ⟨by omega,fun d d0 d1=>?_⟩
   by_cases c:0 < d
   · refine if_t (decide_eq_true c) ⟨⟨by omega,by omega,by omega⟩,fun d d0 d1=>?_⟩;obtain⟨x,y,ex,bx,by_⟩:=hev d d0 d1;rw [ex];refine⟨by omega,fun d d0 d1=>?_⟩
     by_cases c:0 < d
     · exact if_t (decide_eq_true c) (h x y _ bx by_ (by omega))
     · exact if_f (decide_eq_false c) (h y x _ by_ bx (by omega))
   · exact if_f (decide_eq_false c) (last (n + 1) (by omega))
theorem RX {q n:Nat}{bs:List Str}{es:List Ev}{R:PV->Nat->Prop}(hb:∀z∈bs,C8 z)(b1:1<=bs.length)(b2:bs.length<=100)(hg:∀e∈es,Good e)(hl:es.length<=1000)(hn:n<=999980000)(h:∀(w:Rs) n',(∀z∈rsB w,C8 z)->n'<=n + 8->R (rsP w) n'):EY [.pot (q + 1),shP es,rowP bs] n R:=by
 refine⟨rfl,?_⟩;unfold Ks;have hr0:rowP bs=.tup (bs.map PV.str):=rfl;have Bl:(bs.map PV.str).length=bs.length:=A9 ..
 have hat:∀d:Int,0<=d->d < (bs.map PV.str).length->∃z:Str,atI (bs.map PV.str) d=some (.str z)/\C8 z:=fun d d0 d1=>by
   obtain⟨x,hx,ex⟩:=CF d0 d1;obtain⟨z,hz,rfl⟩:=F5.mp hx;exact⟨z,ex,hb z hz⟩
 have mt:∀{m:Nat} {R:PV->Nat->Prop},m<=n + 5->(∀x y n',C8 x->C8 y->n'<=m + 3->R (evP (.t x y)) n')->CW [.pot (q + 1),shP es,rowP bs] m R:=fun hm h=>RW hb b1 b2 hg hl (by omega) h;rw [hr0] at mt ⊢;generalize hB:bs.map PV.str=B at *;generalize hS:shP es=S at *;walk_at "pu";refine⟨by omega,fun way w0 w1=>⟨⟨by omega,by omega,by omega⟩,fun d d0 d1=>?_⟩⟩;obtain⟨z,ez,bz⟩:=hat d d0 d1;rw [ez]
 by_cases c:way < 2
 · refine if_t (decide_eq_true c) ?_
   by_cases c0:way=0
   · subst c0;exact h (.strange z) _ (by simp [rsB,bz]) (by omega)
   · have c1:way=1:=by omega
     subst c1;exact h (.twice z) _ (by simp [rsB,bz]) (by omega)
 · refine if_f (decide_eq_false c) (mt (by omega) fun x y n1 bx by_ h1=>mt (by omega) fun x' y' n2 bx' by' h2=>?_);have cs:way=2\/way=3\/way=4\/way=5:=by omega
   rcases cs with rfl | rfl | rfl | rfl
   · exact h (.wrong x y) _ (by simp [rsB,bx,by_]) (by omega)
   · exact h (.far x y) _ (by simp [rsB,bx,by_]) (by omega)
   · exact h (.stays x y z) _ (by simp [rsB,bx,by_,bz]) (by omega)
   · exact h (.cross x y x' y') _ (by simp [rsB,bx,by_,bx',by']) (by omega)
theorem m_law (ns:List Int)(hl:ns.length<=63):Hw ⟨fun _ _=>False,fun r _=>r=.bl true,fun _ _=>False,fun _ _=>False⟩ (t5 ["_law_script","_law_k","_law_pot_here","_law_many","_law_boats_here","_law_reach","_law_start","_law_sheet_here","_law_more","_law_far","_law_reasons"] [.scr ns]) 0:=by
 unfold Hw;refine V7 fun V hV=>?_
 have hc:(cutP ns none (some 5)).length<=5:=by
   unfold cutP;rw [sx_int (by decide),P9];show min (min 5 ns.length - 0) _<=5;omega
 simp only [qFor];walk_at "pd";refine⟨⟨by rw [A9];omega,by rw [A9];omega⟩,?_⟩;rw [A9];refine Y0 (fun i env m=>∃s1 s2 s3 s4 s5 s6 s7 s8 s9 s10,env=[some (.v (.scr ns)),s1,s2,s3,s4,s5,s6,s7,s8,s9,s10]/\m<=i * 10000) _ 0 _ _ ⟨none,none,none,none,none,none,none,none,none,none,rfl,by omega⟩ (fun i x env m N ex hI hN=>?_) (fun env m hI=>?_)
 · obtain⟨hi,rfl⟩:=CD ex;obtain⟨s1,s2,s3,s4,s5,s6,s7,s8,s9,s10,rfl,hm⟩:=hI;refine V7 fun U hU=>?_;walk_at "pu";refine⟨⟨by omega,by omega⟩,fun q=>?_⟩;subst hU;refine V7 fun U hU=>?_;walk_at "pu";refine⟨by omega,fun a a0 a1=>⟨by omega,fun b b0 b1=>⟨by omega,fun c c0 c1=>?_⟩⟩⟩
   have mk:∃k:Nat,atI [PV.int (1 + a),PV.int (10 + b)] (if decide (c=0)=true then 1 else 0)=some (.int (k:Int))/\1<=k/\k<=14:=by
     by_cases c2:c=0
     · refine⟨(10 + b).toNat,?_,by omega,by omega⟩;rw [if_pos (decide_eq_true c2),show((10 + b).toNat:Int)=10 + b by omega]
       rfl
     · refine⟨(1 + a).toNat,?_,by omega,by omega⟩;rw [if_neg (by simpa using c2),show((1 + a).toNat:Int)=1 + a by omega]
       rfl
   obtain⟨k,ek,k1,k2⟩:=mk;rw [ek];subst hU;refine V7 fun U hU=>?_;walk_at "pu";refine Rh (by omega) (by omega) (by omega) fun zs n1 lz rz h1=>⟨by omega,fun d d0 d1=>?_⟩
   have mr:∃r:Int,atI [PV.int d,PV.int 7] (if decide (9 < (k:Int))=true then 1 else 0)=some (.int r)/\0<=r/\r<=7:=by
     by_cases c2:9 < (k:Int)
     · rw [if_pos (decide_eq_true c2)];exact⟨7,rfl,by omega,by omega⟩
     · rw [if_neg (by simpa using c2)];exact⟨d,rfl,by omega,by omega⟩
   obtain⟨r,er,r0,r7⟩:=mr;rw [er];dsimp only;subst hU;refine V7 fun U hU=>?_;have hr0:rowP zs=.tup (zs.map PV.str):=rfl;have e1:cutP (zs.map PV.str) none (some (k:Int))=(zs.take k).map PV.str:=by rw [Gv,JM]
   have e2:cutP (zs.map PV.str) (some (k:Int)) none=(zs.drop k).map PV.str:=by rw [Gv,JN]
   have l1:(zs.take k).length=k:=by rw [P9];omega
   have l2:(zs.drop k).length=2:=by rw [W8];omega
   have rz1:RowS (zs.take k):=⟨rz.1.sublist (List.take_sublist _ _),fun z hz=>rz.2 z (BU hz)⟩;rw [hr0];walk_at "pu";rw [e1];subst hU;refine V7 fun U hU=>?_;have Zl:(zs.map PV.str).length=k + 2:=by rw [A9];omega
   generalize hZ:zs.map PV.str=Z at *;generalize hA:(zs.take k).map PV.str=A at *;walk_at "pu";rw [<- hA];refine RA (zs:=zs.take k) (by omega) (by omega) r0 r7 (by omega) fun ps ds es n2 sd pe se l3 l4 h2=>?_;have hg:∀e∈es,Good e:=fun e he=>Snd.good rz1 sd e (pe.mem_iff.mp he);have le:es.length<=48:=by rw [pe.length_eq];unfold Y4;rw [D4,A9,A9];omega
   clear pe sd;rw [show PV.tup ((zs.take k).map PV.str)=rowP (zs.take k) from rfl];subst hU;refine V7 fun U hU=>?_;walk_at "pu";refine⟨by omega,fun d d0 d1=>⟨by omega,?_⟩⟩;refine Y0 (fun u env m2=>∃v8 es,env=[some (.v (.scr ns)),some (.v (.int (0 + i))),some (.v (.pot (q + 1))),some (.v (.int k)),some (.v (.tup Z)),some (.v (.int r)),some (.v (rowP (zs.take k))),some (.v (shP es)),v8,s9,s10]/\(∀e∈es,Good e)/\es.length<=48 + u/\m2<=n2 + 1 + 10 * u) _ 0 _ _ ⟨s8,es,rfl,hg,by omega,by omega⟩ (fun u x env m2 N2 ex2 hI hN2=>?_) (fun env m2 hI=>?_)
   · obtain⟨hu,rfl⟩:=CD ex2;obtain⟨v8,es,rfl,hg,le,h3⟩:=hI;rw [Q1] at hN2 le h3;have u3:u < 3:=by omega
     generalize hE1:shP es=S1;generalize hR:rowP (zs.take k)=W at *;walk_at "pu";rw [e2,<- hE1,<- hR];refine m_bent (st:=zs.take k) (sp:=zs.drop k) (by rw [D4];omega) (by rw [D4];omega) (fun z hz=>?_) (by omega) hg (by omega) fun es' n' hg' se' le' hn'=>?_
     · rw [Fw] at hz;exact rz.2 z hz
     · rw [hR];exact hN2 _ _ ⟨_,es',rfl,hg',by omega,by omega⟩
   · obtain⟨v8,es,rfl,hg,le,h3⟩:=hI;rw [Q1,b7] at le h3;have dd:Int.toNat d<=2:=by omega
     dsimp only;subst hU;refine V7 fun U hU=>?_
     have fin:∀(D:Aj) (es:List Ev) (m3:Nat) (v9:Option Pu.Slot),D.nx=N->(∀e∈es,Good e)->es.length<=60->m3<=m2 + 5->U D [some (.v (.scr ns)),some (.v (.int (0 + i))),some (.v (.pot (q + 1))),some (.v (.int k)),some (.v (.tup Z)),some (.v (.int r)),some (.v (rowP (zs.take k))),some (.v (shP es)),v8,v9,s10] m3:=fun D es m3 v9 hD hg le h4=>by
       subst hU;refine V7 fun U hU=>?_
       have ml:∀{m:Nat} {R:PV->Nat->Prop},m<=999980000->(∀(w:Rs) n',(∀z∈rsB w,C8 z)->n'<=m + 8->R (rsP w) n')->EY [.pot (q + 1),shP es,.tup Z] m R:=fun hm h=>by
         have:=RX (q:=q) (bs:=zs) (es:=es) rz.2 (by omega) (by omega) hg (by omega) hm h;rw [hr0] at this;exact this
       have rt:∀{st:List Str} {ws:List Rs} {m:Nat} {R:PV->Nat->Prop},RowS st->st.length<=63->(∀w∈ws,∀z∈rsB w,C8 z)->R (.bl true) m->Da [rowP st,.int r,shP es,.lst (ws.map rsP)] m R:=fun a b c d=>RV b a hg le c d;have rt1:=fun ws m R=>rt (st:=zs.take k) (ws:=ws) (m:=m) (R:=R) rz1 (by omega);have rt2:=fun ws m R=>rt (st:=(zs.take k).reverse) (ws:=ws) (m:=m) (R:=R) (rz1.perm (List.reverse_perm _)) (by rw [Dx];omega);clear rt;have w1:rowP (zs.take k)=.tup A:=(congrArg PV.tup hA:_);have w2:rowP (zs.take k).reverse=.tup A.reverse:=by rw [<- hA,<- List.map_reverse,rowP]
       rw [w1] at rt1 ⊢;rw [w2] at rt2;generalize hE1:shP es=S1 at *;walk_at "pu";refine⟨by rw [b7];decide,IV (fun y=>∃w,y=rsP w/\∀z∈rsB w,C8 z) 8 999980000 _ _ _ _ (fun y hy m Q hm hQ=>?_) (by rw [b7,show Int.toNat 30=30 from rfl];omega) fun ys n3 yl hp hn3=>?_⟩
       · walk_at "pu";exact ml hm fun w n' hw hn'=>hQ _ _ ⟨w,rfl,hw⟩ hn'
       · rw [b7,show Int.toNat 30=30 from rfl] at hn3
         obtain⟨ws,rfl,hw⟩:∃ws:List Rs,ys=ws.map rsP/\∀w∈ws,∀z∈rsB w,C8 z:=by
           clear hn3 yl
           induction ys with
           | nil=>exact⟨[],rfl,nofun⟩
           | cons y ys ih =>
             obtain⟨w,rfl,hw⟩:=hp y B8;obtain⟨ws,rfl,hws⟩:=ih fun a ha=>hp a (C3 _ ha);exact⟨w::ws,rfl,fun a ha=>(C5.mp ha).elim (fun e=>by rw [e];exact hw) (hws a)⟩
         have rt1:=fun R=>rt1 ws n3 R hw;have rt2:=fun R=>rt2 ws n3 R hw;generalize ws.map rsP=L at *;subst hU;walk_at "pu";refine rt1 _ (if_f rfl (rt2 _ (if_f rfl ?_)));rw [hD];exact hN _ _ ⟨_,_,_,_,_,_,_,_,_,_,rfl,by omega⟩
     have w1:rowP (zs.take k)=.tup A:=(congrArg PV.tup hA:_);have hs0:shP es=.tup (es.map evP):=rfl;have Al:A.length=k:=by rw [<- hA,A9,l1]
     have at_:∀{j:Nat},j < k->atI A (j:Int)=some (.str (nm (zs.take k) j)):=fun h=>at_nm hA (by omega);rw [w1] at fin ⊢
     by_cases c9:9 < (k:Int)
     · generalize hE1:es.map evP=E at *;rw [hs0];walk_at "pu";refine if_t (decide_eq_true c9) ⟨⟨by omega,by omega,by omega⟩,fun d d0 d1=>?_⟩;obtain⟨j,rfl⟩:=Ck d0;have a8:=at_ (j:=8 + j) (by omega);have a0:=at_ (j:=0) (by omega);rw [show(8:Int) + (j:Int)=((8 + j:Nat):Int) by omega,a8,show atI A 0=_ from a0];dsimp only;have e:E++[.tup [.str (A4 "touch"),.str (nm (zs.take k) (8 + j)),.str (nm (zs.take k) 0)]]=(es++[Ev.t (nm (zs.take k) (8 + j)) (nm (zs.take k) 0)]).map evP:=by rw [N6,hE1];rfl
       rw [e];have El:E.length=es.length:=by rw [<- hE1,A9]
       refine⟨by omega,Fk (by rw [D4,N4];omega) fun es' h1 _ h2=>fin _ es' _ _ rfl (fun x hx=>?_) (by rw [D4,N4] at h2;omega) (by omega)⟩;rcases F9.mp (h1 x hx) with z | z
       · exact hg x z
       · rw [D5.mp z];exact⟨fun e=>by have:=JJ rz1.1 (by omega) (by omega) e;omega,rz1.2 _ (CT (by omega)),rz1.2 _ (CT (by omega))⟩
     · generalize hE1:shP es=S1 at *;walk_at "pu";exact if_f (decide_eq_false c9) (by rw [<- hE1];exact fin _ es m2 _ rfl hg (by omega) (by omega))
 · subst hV
   rfl
end Tb
end
section
namespace Tb
open PySem L2 Pu
section
variable {P:C6}{w:World}{K:A3}{mg:Str->Option Value}{base:Heap}
theorem ok_pot (F:Fn0 K mg "_law_pot" (top 24))(m_len:mg "len"=none)(m_abs:mg "abs"=none)(m_int:mg "int"=none):Kn P w K mg base "_law_pot" 1 ["_law_script","_law_k"] (Pu.Eo K):=by
 have sc:R1 ["_law_script","_law_k","_law_cell","_law_size","_law_own"] ["_law_script","_law_k"] (E5 (top 24)):=⟨rfl,rfl,rfl,by decide +kernel,rfl,by decide +kernel,by decide +kernel⟩;refine F.ok sc (fun vs H Q E h=>?_) (fun _ _ _ _ _ _=>bd2 fun _ _=>rfl) (fun f cdv A outer s H vs Q E hr h=>?_)
 · obtain⟨a,ns,k,rfl,_⟩:=h
   rfl
 obtain⟨a,ns,k,rfl,hS,h0,h1,q⟩:=h
 refine⟨_,(X5 (o4 (i:=2) sc.nd rfl (Or.inl rfl) (FK (Cq FS (pv 1) (Z5 Ih rfl m_len D_ (E1 (pv 0) F8)) (B5 _)) (d7 o8 (pv 0) (pv 1) (fun _ _=>rfl)) G9))
     (X5 (o4 (i:=3) sc.nd rfl (Or.inl rfl) (J7 o5 (J7 o6 G9 (Z5 Mv rfl m_abs bt_abs (E1 (pv 2) F8))) (Bj HS rfl m_int Is (E1 (HP FS (pv 2) G9 (B5 _)) F8))))
     (X5 (o4 (i:=4) sc.nd rfl (Or.inl rfl) (FK (Cq op_ge (pv 3) (J7 op_pow G9 G9) (B5 _)) (pv 3) G9))
     (DV (DW (HU (E1 (pv 4) (E1 (J7 o5 (J7 o5 (J7 Ac (pv 3) G9) (J7 o6 G9 (pv 1))) G9) (E1 G9 F8))))))))),?_⟩
 refine Iu (fun v=>∃c:Int,v=.int c) (fun key=>?_) ?_
 · refine⟨_,rfl,_,rfl,a,_,rfl,.inl hS,_,_,rfl,rfl,_,rfl,?_⟩;refine ite2 (fun c=>?_) (fun c=>?_)
   · have c':k < (((ns.map V.int).length:Nat):Int):=of_decide_eq_true c;rw [A9] at c';obtain⟨v,qa⟩:=at_map (ns:=ns) h0 c';exact⟨_,rfl,_,rfl,a,_,_,_,rfl,rfl,hS,qa,key _ ⟨_,rfl⟩⟩
   · exact key _ ⟨0,rfl⟩
 rintro v ⟨c,rfl⟩;refine⟨_,rfl,_,rfl,_,_,rfl,rfl,.inl ⟨by decide,by decide⟩,?_⟩;refine⟨_,rfl,_,_,rfl,rfl,.inr ⟨_,rfl,?_⟩⟩;refine⟨_,_,rfl,rfl,?_⟩;dsimp only [K8];generalize hz:(2:Int) * (if c < 0 then -c else c) + (if decide (c < 0)=true then 1 else 0)=z;have z0:0<=z:=by rw [<- hz];split <;> split <;> omega
 have m0:=Aa z (show(2305843009213693951:Int)≠0 by decide);have m1:=z9 z (show(0:Int) < 2305843009213693951 by decide);refine Iu (fun v=>∃o:Int,v=.int o/\0<=o) (fun key=>?_) ?_
 · refine⟨_,rfl,_,_,rfl,rfl,⟨by decide,by decide,by decide⟩,_,_,rfl,rfl,_,rfl,?_⟩;exact ite2 (fun _=>⟨_,rfl,key _ ⟨_,rfl,z0⟩⟩) (fun _=>key _ ⟨_,rfl,by decide⟩)
 rintro v ⟨o,rfl,o0⟩;refine⟨_,rfl,_,rfl,_,_,rfl,rfl,(by show(0:Int) < 2305843009213693951;decide),_,rfl,_,_,rfl,rfl,.inl ⟨by decide,by decide⟩,_,_,rfl,rfl,_,_,rfl,rfl,(by show 3<=B9;decide),fun p hp=>?_⟩;exact q p _ _ hp ⟨o0,by omega,by omega,by decide,by decide⟩
theorem RY (F:Fn0 K mg "_law_draw" (top 25)):Kn P w K mg base "_law_draw" 1 ["_law_pot_here","_law_many"] (D9 K potL Bv):=by
 refine NL ?_;have sc:R1 ["_law_pot_here","_law_many","_law_digit","_law_go","_law_mixed"] ["_law_pot_here","_law_many"] (E5 (top 25)):=⟨rfl,rfl,rfl,by decide +kernel,rfl,by decide +kernel,by decide +kernel⟩;refine F.ok sc (fun vs H Q E h=>?_) (fun _ _ _ _ _ _=>bd2 fun _ _=>rfl) (fun f cdv A outer s H vs Q E hr h=>?_)
 · obtain⟨p,own,seed,go,many,rfl,_⟩:=h
   rfl
 obtain⟨p,own,seed,go,many,rfl,hp,⟨o0,s0,s1,g0,g1⟩,g2,n0,n1,q⟩:=h
 refine⟨_,(X5 (ps_if (Cq op_gt (d7 o8 (pv 0) G9 (fun _ _=>rfl)) G9 (B5 _)) (X5 (o4 (i:=2) sc.nd rfl (Or.inl rfl) (J7 Ac (d7 o8 (pv 0) G9 (fun _ _=>rfl)) (pv 1)))
     (X5 (FP (J7 FR (d7 o8 (pv 0) G9 (fun _ _=>rfl)) (pv 1)) (FO (pv 0) G9 Gb))
     (DV (DW (pv 2))))) HN)
     (X5 (FP (J7 o5 (d7 o8 (pv 0) G9 (fun _ _=>rfl)) G9) (FO (pv 0) G9 Gb))
     (X5 (o4 (i:=3) sc.nd rfl (Or.inl rfl) (d7 o8 (pv 0) G9 (fun _ _=>rfl)))
     (X5 (o4 (i:=4) sc.nd rfl (Or.inl rfl) (J7 Ac (J7 o6 (J7 o5 (d7 o8 (pv 0) G9 (fun _ _=>rfl)) (J7 o6 G9 (pv 3))) (J7 o5 (J7 o6 (J7 o6 (pv 3) (pv 3)) G9) G9)) G9))
     (X5 (o4 (i:=4) sc.nd rfl (Or.inl rfl) (J7 Ac (J7 o6 (pv 4) (J7 o5 (J7 Ac (pv 4) G9) (pv 3))) G9))
     (DV (DW (J7 Ac (J7 FR (pv 4) G9) (pv 1))))))))),?_⟩
 refine⟨_,rfl,p,_,0,_,rfl,rfl,SqL.of hp,rfl,_,_,rfl,rfl,_,rfl,?_⟩;refine ite2 (fun c=>?_) (fun c=>?_)
 · refine⟨_,rfl,p,_,0,_,rfl,rfl,SqL.of hp,rfl,_,rfl,_,_,rfl,rfl,n0,?_⟩;refine⟨_,rfl,p,_,0,_,rfl,rfl,SqL.of hp,rfl,_,rfl,_,_,rfl,rfl,⟨n0,by omega⟩,?_⟩;refine⟨_,rfl,p,_,0,0,rfl,rfl,hp,rfl,?_⟩;refine⟨_,rfl,?_⟩;exact q _ _ _ _ (Aa _ (by omega)) (z9 _ n0) ⟨Int.ediv_nonneg o0 (by omega),s0,s1,g0,g1⟩ (by omega)
 · refine⟨_,rfl,p,_,2,_,rfl,rfl,SqL.of hp,rfl,_,_,rfl,rfl,?_⟩;refine⟨_,rfl,p,_,2,2,rfl,rfl,hp,rfl,?_⟩;refine⟨_,rfl,p,_,2,_,rfl,rfl,SqL.of E8,rfl,?_⟩;refine⟨_,rfl,p,_,1,_,rfl,rfl,SqL.of E8,rfl,_,rfl,_,_,rfl,rfl,.inl ⟨by decide,by decide⟩,_,_,rfl,rfl,?_⟩;refine⟨_,rfl,_,rfl,_,_,rfl,rfl,.inl ⟨by omega,by omega⟩,_,_,rfl,rfl,.inr ⟨by decide,by decide⟩,_,_,rfl,rfl,_,_,rfl,rfl,.inl ⟨by omega,by omega⟩,_,_,rfl,rfl,(by show(0:Int) < 2305843009213693921;decide),?_⟩;dsimp only [K8];generalize (seed + 40503 * (go + 1)) * ((go + 1) * (go + 1) * 65539 + 97)=y;have m0:=Aa y (show(2305843009213693921:Int)≠0 by decide);have m1:=z9 y (show(0:Int) < 2305843009213693921 by decide);generalize y % 2305843009213693921=z at m0 m1 ⊢;refine⟨_,rfl,_,rfl,_,_,rfl,rfl,(by show(0:Int) < 1000003;decide),_,rfl,_,_,rfl,rfl,_,_,rfl,rfl,.inl ⟨by omega,by omega⟩,_,_,rfl,rfl,(by show(0:Int) < 2305843009213693907;decide),?_⟩;refine⟨_,rfl,_,_,rfl,rfl,⟨by decide,by decide⟩,_,rfl,_,_,rfl,rfl,n0,?_⟩;exact q _ _ _ _ (Aa _ (by omega)) (z9 _ n0) ⟨o0,s0,s1,by omega,by omega⟩ (by omega)
theorem RZ {Pt:Addr}{lpos:Pos}{qual:Str}(F:Fn0 K mg "_law_draw" (top 25)):Kn P w K mg base "_law_draw" 1 ["_law_pot_here","_law_many"] (D9 K (tabK potL Pt lpos qual) BC):=Pj (RY F) rfl
end
end Tb
end
section
namespace Pu
open PySem PySem.Spec L2
section
variable {T:PotK}{ι:Type}{K:A3}{F:ι->Cx}{e:Expr}{es:List Expr}{st:Stmt}{pe:pE}{pl:pA}{pos:Pos}{np:Bool}{x:Str}
theorem qv (i:Nat)(h:∀z,EW (F z) (.Name x pos) (tVar i):=by exact fun _=>vw _):QE T K F (.Name x pos) (qV i):=qe_var i h
theorem qf {p:Pos}{f:pF}{ps:List Str}{k j:Nat}{P:C6}{w:World}{K0:A3}{mg:Str->Option Value}{base:Heap}{A:Around}(hG:Kn P w K0 mg base x k ps (D9 K T f))(hr:Room j A)(ha:QA T K F (e::es) pl)(hF:∀z,(F z).prog=P/\(F z).w=w/\(F z).K=K0/\(F z).mg=mg/\(F z).base=base/\(F z).A=A:=by exact fun _=>⟨rfl,rfl,rfl,rfl,rfl,rfl⟩)(hk:k<=j:=by decide)(hg:∀z,Gl (F z) x:=by intro _;rfl)(hdb:(x == ("__debug__":Str))=false:=by decide)(hs:E4 e=true:=by rfl)(hpl:∀z,(backTo pos (E3 es (F z).env)).any (·.1)=false:=by intro _;rfl):QE T K F (.Call (.Name x p) (e::es) [] pos) (B0 f pl):=qe_fn (fun z=>by obtain⟨h1,h2,h3,h4,h5,_⟩:=hF z;rw [h1,h2,h3,h4,h5];exact hG) (fun z=>by rw [(hF z).2.2.2.2.2];exact hr) hk hg ha hdb hs hpl
theorem gn (i:Nat){N:List Str}(hN:N.Nodup)(hNF:∀z,(F z).N=N:=by exact fun _=>rfl)(hi:∀z,(F z).N[i]?=some x:=by intro _;rfl)(hx:∀z,Loc (F z).env.scope x:=by intro _;first | exact Or.inl rfl | exact Or.inr rfl)(hf:∀z,(F z).fn x=true\/(F z).env.scope.names.lookup x=some .local:=by intro _;first | exact .inl rfl | exact .inr rfl | assumption):QG K F (.Name x pos) (gN i):=NC fun z=>Z7 i (hNF z▸hN) (hi z) (hx z) (hf z)
theorem sws (i:Nat){pos':Pos}{N:List Str}(hN:N.Nodup)(hNF:∀z,(F z).N=N:=by exact fun _=>rfl)(hi:∀z,(F z).N[i]?=some x:=by intro _;rfl)(hx:∀z,Loc (F z).env.scope x:=by intro _;first | exact Or.inl rfl | exact Or.inr rfl)(hs:∀z,j8 e (some (.Name x pos')) pos.line (F z).env=pure false:=by intro _;rfl)(hf:∀z,(F z).fn x=true\/(F z).env.scope.names.lookup x=some .local:=by intro _;first | exact .inl rfl | exact .inr rfl | assumption)(z:ι)(te:TE)(h:EW (F z) e te):SW (F z) (.Assign [.Name x pos'] e pos) (tAsg te (K8 i)):=sw_set (hNF z▸hN) (hi z) (hx z) (hs z) (hf z) te h
end
section
variable {P:C6}{w:World}{K:A3}{mg:Str->Option Value}{base:Heap}{T:PotK}{x:Str}{st:Stmt}{N ps:List Str}{k:Nat}{body:pS}
theorem fnk (F0:Fn0 K mg x st)(h:R1 N ps (E5 st)->∀(f:Addr) (cdv:Value) (A:Around) (outer:List PySem.Env) (s:Shared) (H:Hp) (E:XK),Room k (A.deeper (DK x (E5 st) s.heap.objs.size f cdv))->
     QSs T false K (fun _:Unit=>(cxOf CX0 P w K mg base N x (E5 st) f cdv A outer s H E).nox) (M3 st) body) (sc:R1 N ps (E5 st):=by exact⟨rfl,rfl,rfl,by decide +kernel,rfl,by decide +kernel,by decide +kernel⟩)
   (bd:∀(kV doc pm:Value) (an:Option Addr) (cdv ct:Value) (us:List Value),us.length=ps.length->W3 (U4 x x (R3 st) (M3 st) (E5 st) .none kV doc pm an cdv ct) ⟨us,[]⟩=pure (ps.zip us):=by intro _ _ _ _ _ _;first | exact bd1 fun _=>rfl | exact bd2 fun _ _=>rfl | exact bd3 fun _ _ _=>rfl | exact bd4 fun _ _ _ _=>rfl | exact bd5 fun _ _ _ _ _=>rfl) :
   Kn P w K mg base x (k + 1) ps (D9 K T (fnP N ps body)):=fn_ok F0 sc bd (h sc)
end
end Pu
end
section
namespace Tb
open PySem L2 Pu
section
variable (P:C6)(w:World)(K:A3)(mg:Str->Option Value)(base:Heap)(Pt:Addr)
abbrev R_:Prop:=Kn P w K mg base "_law_pot" 1 ["_law_script","_law_k"] (Eo K)
abbrev AD:Prop:=Kn P w K mg base "_law_draw" 1 ["_law_pot_here","_law_many"] (D9 K (tabK potL Pt lamP lamQ) BC)
abbrev Lu:Prop:=Kn P w K mg base "_law_apart" 1 ["_law_one","_law_other"] (D9 K (tabK potL Pt lamP lamQ) Hl)
abbrev Lv:Prop:=Kn P w K mg base "_law_sheet" 2 ["_law_pot_here","_law_start","_law_reach"] (D9 K (tabK potL Pt lamP lamQ) Hm)
abbrev Lw:Prop:=Kn P w K mg base "_law_shuffled" 2 ["_law_pot_here","_law_some"] (D9 K (tabK potL Pt lamP lamQ) EX)
abbrev Ly:Prop:=Kn P w K mg base "_law_boats" 3 ["_law_pot_here","_law_many"] (D9 K (tabK potL Pt lamP lamQ) Hn)
abbrev Lz:Prop:=Kn P w K mg base "_law_bent" 2 ["_law_pot_here","_law_start","_law_sheet_here","_law_spare"] (D9 K (tabK potL Pt lamP lamQ) Ho)
abbrev LA:Prop:=Kn P w K mg base "_law_touch" 2 ["_law_pot_here","_law_sheet_here","_law_boats_here"] (D9 K (tabK potL Pt lamP lamQ) CW)
abbrev LB:Prop:=Kn P w K mg base "_law_reason" 3 ["_law_pot_here","_law_sheet_here","_law_boats_here"] (D9 K (tabK potL Pt lamP lamQ) EY)
abbrev BI:Prop:=Kn P w K mg base "boats_of" 1 ["events"] (D9 K (tabK potL Pt lamP lamQ) u8)
abbrev LC:Prop:=Kn P w K mg base "boat_reason" 2 ["start","sheet"] (D9 K (tabK potL Pt lamP lamQ) EZ)
abbrev HE:Prop:=Kn P w K mg base "touches_of" 1 ["events"] (D9 K (tabK potL Pt lamP lamQ) BF)
abbrev HF:Prop:=Kn P w K mg base "is_wrong" 1 ["start","touch"] (D9 K (tabK potL Pt lamP lamQ) E_)
abbrev BJ:Prop:=Kn P w K mg base "between" 1 ["start","touch"] (D9 K (tabK potL Pt lamP lamQ) Y3)
abbrev HG:Prop:=Kn P w K mg base "is_far" 2 ["start","reach","touch"] (D9 K (tabK potL Pt lamP lamQ) Fa)
abbrev LD:Prop:=Kn P w K mg base "touch_reason" 3 ["start","reach","sheet","touch"] (D9 K (tabK potL Pt lamP lamQ) Fb)
abbrev HH:Prop:=Kn P w K mg base "is_cross" 2 ["start","one","other"] (D9 K (tabK potL Pt lamP lamQ) CY)
abbrev LE:Prop:=Kn P w K mg base "cross_reason" 3 ["start","touch","touches"] (D9 K (tabK potL Pt lamP lamQ) Fc)
abbrev LF:Prop:=Kn P w K mg base "reason_of" 4 ["start","reach","sheet"] (D9 K (tabK potL Pt lamP lamQ) Fd)
abbrev LG:Prop:=Kn P w K mg base "order_of" 5 ["start","reach","sheet"] (D9 K (tabK potL Pt lamP lamQ) Fe)
abbrev Fo:Prop:=Kn P w K mg base "is_boat" 1 ["thing"] (D9 K (tabK potL Pt lamP lamQ) BG)
abbrev LH:Prop:=Kn P w K mg base "shows_boat" 2 ["start","sheet","word","thing"] (D9 K (tabK potL Pt lamP lamQ) Hr)
abbrev LI:Prop:=Kn P w K mg base "is_touch" 2 ["thing"] (D9 K (tabK potL Pt lamP lamQ) Hs)
abbrev Fp:Prop:=Kn P w K mg base "is_known" 3 ["start","sheet","thing"] (D9 K (tabK potL Pt lamP lamQ) c7)
abbrev LJ:Prop:=Kn P w K mg base "shows_touch" 4 ["start","reach","sheet","word","thing"] (D9 K (tabK potL Pt lamP lamQ) Ht)
abbrev LK:Prop:=Kn P w K mg base "shows_stays" 4 ["start","sheet","touch","thing"] (D9 K (tabK potL Pt lamP lamQ) Hu)
abbrev LM:Prop:=Kn P w K mg base "shows_cross" 4 ["start","sheet","one","other"] (D9 K (tabK potL Pt lamP lamQ) Hv)
abbrev LN:Prop:=Kn P w K mg base "shows_unsound" 5 ["start","reach","sheet","thing"] (D9 K (tabK potL Pt lamP lamQ) BH)
abbrev LO:Prop:=Kn P w K mg base "_law_can" 1 ["_law_start","_law_reach","_law_out","_law_event"] (D9 K (tabK potL Pt lamP lamQ) Ff)
abbrev LP:Prop:=Kn P w K mg base "_law_course" 2 ["_law_start","_law_reach","_law_sheet_here"] (D9 K (tabK potL Pt lamP lamQ) Fg)
abbrev LQ:Prop:=Kn P w K mg base "_law_between" 1 ["_law_start","_law_event"] (D9 K (tabK potL Pt lamP lamQ) Fh)
abbrev LR:Prop:=Kn P w K mg base "_law_is_touch" 1 ["_law_start","_law_sheet_here","_law_thing"] (D9 K (tabK potL Pt lamP lamQ) CZ)
abbrev LS:Prop:=Kn P w K mg base "_law_is_reason" 2 ["_law_start","_law_reach","_law_sheet_here","_law_thing"] (D9 K (tabK potL Pt lamP lamQ) C_)
abbrev LT:Prop:=Kn P w K mg base "_law_right" 6 ["_law_start","_law_reach","_law_sheet_here","_law_reasons"] (D9 K (tabK potL Pt lamP lamQ) Da)
end
section
variable {P:C6}{w:World}{K:A3}{mg:Str->Option Value}{base:Heap}{Pt cd:Addr}
theorem Sa (F0:Fn0 K mg "_law_apart" (top 28)):Lu P w K mg base Pt:=fnk F0 fun sc _ _ _ _ _ _ _ hr=>(A8 (Bt (fun _=>X8) (F6 (A2 (qv 0) (A2 (qv 1) A7))) (Z8 (fun _=>rfl) (L0 (Z8 (fun _=>rfl) (L0 (gn 2 sc.nd) (L0 (gn 3 sc.nd) X7))) (L0 (Z8 (fun _=>rfl) (L0 (gn 4 sc.nd) (L0 (gn 5 sc.nd) X7))) X7))))
   (B2 (B7 (Gs (E2 cLt (qv 3) (QE.r (qv 4)) (B5 _)) (Gs (E2 cLt (qv 5) (QE.r (qv 2)) (B5 _)) (Gs (P6 (E2 cLt (qv 2) (QE.r (qv 4)) (B5 _)) (P5 (E2 cLt (qv 5) (QE.r (qv 3)) (B5 _)))) (P5 (P6 (E2 cLt (qv 4) (QE.r (qv 2)) (B5 _)) (P5 (E2 cLt (qv 3) (QE.r (qv 5)) (B5 _)))))))))))
theorem Sc (F0:Fn0 K mg "_law_sheet" (top 29))(g1:AD P w K mg base Pt)(g2:Lu P w K mg base Pt)(m1:mg "all"=none)(m2:mg "any"=none)(m4:mg "enumerate"=none)(m7:mg "len"=none)(m11:mg "range"=none)(m13:mg "sorted"=none)(m15:mg "tuple"=none):Lv P w K mg base Pt:=fnk F0 fun sc _ _ _ _ _ _ _ hr=>(A8 (JC [3,4,5,6] (fun _=>X8) (fun _=>JB K rfl (As (Z7 3 sc.nd rfl (Or.inl rfl)) (As (Z7 4 sc.nd rfl (Or.inl rfl)) (As (Z7 5 sc.nd rfl (Or.inl rfl)) (As (Z7 6 sc.nd rfl (Or.inl rfl)) pgs_n))))) (Ar (ql_v (G4 (fun _=>rfl) (fun _=>m7) (QE.r (qv 1)))) (Ar (ql_o (M4 A7)) (Ar (ql_o (M4 A7)) (Ar (ql_o (M4 A7)) Jz)))))
   (A8 (X9 (fun _=>rfl) (Ai (fun _=>rfl) (fun _=>m11) (qf g1 hr (A2 (qv 0) (A2 (J5 (qv 3) A6) A7)))) (gn 7 sc.nd) (A8 (Bt (fun _=>X8) (F6 (A2 (qf g1 hr (A2 (qv 0) (A2 (qv 3) A7))) (A2 (J5 A6 (qf g1 hr (A2 (qv 0) (A2 (J5 (qv 2) A6) A7)))) A7))) (Z8 (fun _=>rfl) (L0 (gn 8 sc.nd) (L0 (gn 9 sc.nd) X7))))
   (B2 (D3 (QW.qt (T6 (C7 cLt (J5 (qv 8) (qv 9)) (QE.r (qv 3)) (B5 _)) (T5 (J8 (OM (Kj Jx) (Ei (fun _=>rfl) (fun _=>rfl) (fun _=>m1) (QE.r (QN.ee (a9 (N:=["_law_one","_law_at","_law_far"]) (cs:=[none,some 8,some 9]) (fun _=>Q3 rfl rfl rfl rfl ⟨rfl,⟨rfl,trivial⟩⟩ rfl rfl rfl) (fun _=>rfl) (Ah (qv 4)) (gn 0 (show M8 (["_law_one","_law_at","_law_far"]:List Str) by decide +kernel)) e9 (qf g2 hr (A2 (F6 (A2 (qv 1) (A2 (J5 (qv 1) (qv 2)) A7))) (A2 (qv 0) A7)))))))))))) (A8 (V1 (fun _=>V0) (t3 4 (fun _=>vw 4) (F6 (A2 (qv 8) (A2 (J5 (qv 8) (qv 9)) A7)))))
   (A8 (V1 (fun _=>V0) (GO 5 (fun _=>vw 5) (QN.ee (M4 (A2 (qv 8) (A2 (J5 (qv 8) (qv 9)) A7))))))
   (B2 (V1 (fun _=>V0) (t3 6 (fun _=>vw 6) (F6 (A2 D1 (A2 (C2 (qv 1) (J5 (qv 8) (qv 9))) (A2 (C2 (qv 1) (qv 8)) A7))))))))) D2))))
   (A8 (X9 (fun _=>rfl) (Je (fun _=>rfl) (fun _=>m4) (qv 1)) (Z8 (fun _=>rfl) (L0 (gn 10 sc.nd) (L0 (gn 11 sc.nd) X7))) (A8 (Bu 4 (G5 12 (sws 12 sc.nd) (IM (fun _=>rfl) (fun _=>rfl) (fun _=>m2) (QE.r (QN.ee (a9 (N:=["_law_a","_law_b","_law_place"]) (cs:=[none,none,some 10]) (fun _=>Q3 rfl rfl rfl rfl ⟨rfl,trivial⟩ rfl rfl rfl) (fun _=>rfl) (Ah (qv 4)) (Z8 (fun _=>rfl) (L0 (gn 0 (show M8 (["_law_a","_law_b","_law_place"]:List Str) by decide +kernel)) (L0 (gn 1 (show M8 (["_law_a","_law_b","_law_place"]:List Str) by decide +kernel)) X7))) e9 (IF cLt cLt (qv 0) (qv 2) (qv 1))))))))
   (B2 (D3 (QW.qt (T6 (C7 (T4 4 fun _=>hr) (qv 10) (O5 5 fun _=>vw 5) rfl) (T5 (QW.qt (N8 (Es (QE.r (qv 12))) (P4 (C7 (cEq 4 fun _=>hr) (qf g1 hr (A2 (qv 0) (A2 A6 A7))) (QE.r A6) (B5 _)))))))) (B2 (V1 (fun _=>V0) (t3 6 (fun _=>vw 6) (F6 (A2 D1 (A2 (qv 11) A7)))))) D2))))
   (B2 (B7 (Br (fun _=>rfl) (fun _=>m15) (QE.r (QN.ee (Jv (fun _=>rfl) (fun _=>m13) (O5 6 fun _=>vw 6))))))))))
theorem Sd (F0:Fn0 K mg "_law_shuffled" (top 26))(g1:AD P w K mg base Pt)(m7:mg "len"=none)(m8:mg "list"=none)(m15:mg "tuple"=none):Lw P w K mg base Pt:=fnk F0 fun sc _ _ _ _ _ _ _ hr=>(A8 (i3 2 3 (fun _=>h9 (i:=2) (j:=3) rfl sc.nd rfl rfl (by decide) rfl rfl rfl) (ql_o (p8 (fun _=>rfl) (fun _=>m8) (QE.r (qv 1)))) (ql_o (M4 A7)))
   (A8 (NH (Nx (cNe 4 fun _=>hr) (O5 2 fun _=>vw 2) (QE.r (QN.ee (M4 A7))) (B5 _)) (B2 (V1 (fun _=>V0) (t3 3 (fun _=>vw 3) (NI 2 (fun _=>vw 2) (qf g1 hr (A2 (qv 0) (A2 (G4 (fun _=>rfl) (fun _=>m7) (O5 2 fun _=>vw 2)) A7))))))))
   (B2 (B7 (Br (fun _=>rfl) (fun _=>m15) (O5 3 fun _=>vw 3))))))
theorem Se (F0:Fn0 K mg "_law_boats" (top 27))(g1:AD P w K mg base Pt)(g4:Lw P w K mg base Pt)(m11:mg "range"=none):Ly P w K mg base Pt:=fnk F0 fun sc _ _ _ _ _ _ _ hr=>(A8 (NO 2 3 (fun _=>X8) (fun _=>gw_two K 2 3 rfl (Z7 2 sc.nd rfl (Or.inr rfl)) (Z7 3 sc.nd rfl (Or.inl rfl))) (ql_v D1) (ql_o (M4 A7)))
   (A8 (NK 4 5 6 (fun _=>NJ (i:=4) (j:=5) (k:=6) rfl sc.nd rfl rfl rfl (by decide) (by decide) (by decide) rfl rfl rfl rfl) (qf g1 hr (A2 (qv 0) (A2 A6 A7))) (ql_v (qf g1 hr (A2 (qv 0) (A2 A6 A7)))) (ql_v (J5 A6 (qf g1 hr (A2 (qv 0) (A2 A6 A7))))))
   (A8 (i3 7 8 (fun _=>h9 (i:=7) (j:=8) rfl sc.nd rfl rfl (by decide) rfl rfl rfl) (ql_v (qf g1 hr (A2 (qv 0) (A2 (qv 6) A7)))) (ql_v (C2 (qv 2) (qf g1 hr (A2 (qv 0) (A2 A6 A7))))))
   (A8 (X9 (fun _=>rfl) (Ai (fun _=>rfl) (fun _=>m11) (qv 1)) (gn 9 sc.nd) (A8 (G5 10 (sws 10 sc.nd) (C2 (qv 2) (Gn (J5 (qv 5) (Ec A6 (qv 9))) A6)))
   (A8 (D3 (C7 (cEq 4 fun _=>hr) (qv 4) (QE.r A6) (B5 _)) (B2 (G5 10 (sws 10 sc.nd) (J5 (qv 10) (NM D1 (QE.r (QN.ee (a9 (N:=["_law_j","_law_letters","_law_pot_here"]) (cs:=[none,some 2,some 0]) (fun _=>Q3 rfl rfl rfl rfl ⟨rfl,⟨rfl,trivial⟩⟩ rfl rfl rfl) (fun _=>rfl) (Ai (fun _=>rfl) (fun _=>m11) (qf g1 hr (A2 (qv 0) (A2 A6 A7)))) (gn 0 (show M8 (["_law_j","_law_letters","_law_pot_here"]:List Str) by decide +kernel)) e9 (C2 (qv 1) (qf g1 hr (A2 (qv 2) (A2 A6 A7))))))))))) D2)
   (A8 (D3 (C7 (cEq 4 fun _=>hr) (qv 4) (QE.r A6) (B5 _)) (B2 (G5 10 (sws 10 sc.nd) (Ec (C2 (qv 2) (Gn (J5 (qv 5) (Nv (qv 9) A6)) A6)) (J5 A6 (Gn (qv 9) A6))))) D2)
   (A8 (D3 (C7 cGt (qv 4) (QE.r A6) (B5 _)) (B2 (G5 10 (sws 10 sc.nd) (J5 (J5 (Ec (qv 8) (qv 7)) (qv 10)) (Ec (qv 8) (Cz (Cz (qv 6) A6) (qv 7)))))) D2)
   (B2 (V1 (fun _=>V0) (t3 3 (fun _=>vw 3) (qv 10)))))))))
   (A8 (G5 11 (sws 11 sc.nd) (C2 (QN.ee (M4 (A2 D1 (A2 D1 (A2 D1 (A2 D1 (A2 D1 (A2 D1 (A2 D1 A7))))))))) (qf g1 hr (A2 (qv 0) (A2 A6 A7)))))
   (A8 (D3 (QW.qt (T6 (C7 (cEq 4 fun _=>hr) (qf g1 hr (A2 (qv 0) (A2 A6 A7))) (QE.r A6) (B5 _)) (T5 (C7 (T4 4 fun _=>hr) (qv 11) (O5 3 fun _=>vw 3) rfl)))) (B2 (qs_put 3 (fun _=>X8) (qv 11) (fun _=>gw_at (vw 3)) (qf g1 hr (A2 (qv 0) (A2 (qv 1) A7))))) D2)
   (B2 (Bu 3 (B7 (qf g4 hr (A2 (qv 0) (A2 (qv 3) A7))))))))))))
theorem Sf (F0:Fn0 K mg "_law_bent" (top 35))(g1:AD P w K mg base Pt)(m7:mg "len"=none)(m8:mg "list"=none)(m12:mg "set"=none)(m13:mg "sorted"=none)(m15:mg "tuple"=none):Lz P w K mg base Pt:=fnk F0 fun sc _ _ _ _ _ _ _ hr=>(A8 (i3 4 5 (fun _=>h9 (i:=4) (j:=5) rfl sc.nd rfl rfl (by decide) rfl rfl rfl) (ql_v (qf g1 hr (A2 (qv 0) (A2 A6 A7)))) (ql_v (qf g1 hr (A2 (qv 0) (A2 (J5 (G4 (fun _=>rfl) (fun _=>m7) (QE.r (qv 2))) A6) A7)))))
   (A8 (G5 6 (sws 6 sc.nd) (QN.ee (Ep (QE.r (QN.ee (p8 (fun _=>rfl) (fun _=>m8) (QE.r (qv 1))))) (QE.r (QN.ee (p8 (fun _=>rfl) (fun _=>m8) (QE.r (qv 3))))))))
   (A8 (i3 7 8 (fun _=>h9 (i:=7) (j:=8) rfl sc.nd rfl rfl (by decide) rfl rfl rfl) (ql_v (C2 (qv 6) (qf g1 hr (A2 (qv 0) (A2 (G4 (fun _=>rfl) (fun _=>m7) (QE.r (qv 6))) A7))))) (ql_v (C2 (qv 6) (qf g1 hr (A2 (qv 0) (A2 (G4 (fun _=>rfl) (fun _=>m7) (QE.r (qv 6))) A7))))))
   (A8 (G5 9 (sws 9 sc.nd) (Gu (QW.qt (N8 (C7 (cEq 4 fun _=>hr) (qv 7) (QE.r (qv 8)) (B5 _)) (P4 (C7 (cEq 4 fun _=>hr) (qf g1 hr (A2 (qv 0) (A2 A6 A7))) (QE.r A6) (B5 _))))) (QN.ee (M4 (A2 (F6 (A2 D1 (A2 (qv 7) A7))) A7))) (QN.ee (M4 (A2 (F6 (A2 D1 (A2 (qv 7) (A2 (qv 8) A7)))) A7)))))
   (A8 (D3 (QW.qt (N8 (C7 cGt (qv 4) (QE.r A6) (B5 _)) (P4 (C7 (cEq 4 fun _=>hr) (qv 5) (QE.r (G4 (fun _=>rfl) (fun _=>m7) (QE.r (qv 2)))) (B5 _))))) (B2 (B7 (Br (fun _=>rfl) (fun _=>m15) (QE.r (QN.ee (Hh (fun _=>rfl) (fun _=>hr) (fun _=>rfl) (fun _=>m13) (fun _=>rfl) (fun _=>m12) (QE.r (QN.ee (Ep (QE.r (QN.ee (p8 (fun _=>rfl) (fun _=>m8) (QE.r (qv 2))))) (QE.r (qv 9))))))))))) D2)
   (A8 (i3 10 11 (fun _=>h9 (i:=10) (j:=11) rfl sc.nd rfl rfl (by decide) rfl rfl rfl) (ql_v (C2 (qv 2) (qv 5))) (ql_o (p8 (fun _=>rfl) (fun _=>m8) (QE.r (J5 (Q4 (qv 2) T7 (O6 (qv 5))) (Q4 (qv 2) (O6 (J5 (qv 5) A6)) T7))))))
   (A8 (D3 (QW.qt (T6 (C7 (cEq 4 fun _=>hr) (qv 4) (QE.r A6) (B5 _)) (T5 (C7 (cEq 4 fun _=>hr) (C2 (qv 10) A6) (QE.r D1) (B5 _))))) (B2 (V1 (fun _=>V0) (t3 11 (fun _=>vw 11) (F6 (A2 D1 (A2 (C2 (qv 10) A6) (A2 (C2 (qv 10) A6) A7))))))) D2)
   (A8 (D3 (C7 (cEq 4 fun _=>hr) (qv 4) (QE.r A6) (B5 _)) (B2 (V1 (fun _=>V0) (GO 11 (fun _=>vw 11) (qv 9)))) D2)
   (A8 (D3 (QW.qt (T6 (C7 (cEq 4 fun _=>hr) (qv 4) (QE.r A6) (B5 _)) (T5 (C7 (T4 4 fun _=>hr) (qv 7) (QE.r (qv 10)) rfl)))) (B2 (V1 (fun _=>V0) (t3 11 (fun _=>vw 11) (J5 (Q4 (qv 10) T7 (O6 (Cz (G4 (fun _=>rfl) (fun _=>m7) (QE.r (qv 10))) A6))) (F6 (A2 (qv 7) A7)))))) D2)
   (B2 (B7 (Br (fun _=>rfl) (fun _=>m15) (QE.r (QN.ee (Hh (fun _=>rfl) (fun _=>hr) (fun _=>rfl) (fun _=>m13) (fun _=>rfl) (fun _=>m12) (O5 11 fun _=>vw 11))))))))))))))))
theorem Sg (F0:Fn0 K mg "_law_touch" (top 36))(g1:AD P w K mg base Pt)(m7:mg "len"=none):LA P w K mg base Pt:=fnk F0 fun sc _ _ _ _ _ _ _ hr=>(A8 (Ew 3 (Eu (N:=["_law_event"]) (cs:=[none]) (fun _=>Q3 rfl rfl rfl rfl trivial rfl rfl rfl) (fun _=>rfl) (Z9 (qv 1)) (gn 0 (show M8 (["_law_event"]:List Str) by decide +kernel)) (Bs (C7 (cEq 4 fun _=>hr) (C2 (qv 0) A6) (QE.r D1) (B5 _))) (qv 0)) (fun _=>sc.nd) (fun _=>rfl) (fun _=>Or.inl rfl))
   (A8 (D3 (QW.qt (T6 (C7 (cNe 4 fun _=>hr) (qv 3) (QE.r (QN.ee (M4 A7))) (B5 _)) (T5 (C7 cGt (qf g1 hr (A2 (qv 0) (A2 A6 A7))) (QE.r A6) (B5 _))))) (A8 (G5 4 (sws 4 sc.nd) (C2 (qv 3) (qf g1 hr (A2 (qv 0) (A2 (G4 (fun _=>rfl) (fun _=>m7) (QE.r (qv 3))) A7)))))
   (B2 (B7 (Gu (C7 cGt (qf g1 hr (A2 (qv 0) (A2 A6 A7))) (QE.r A6) (B5 _)) (qv 4) (F6 (A2 D1 (A2 (C2 (qv 4) A6) (A2 (C2 (qv 4) A6) A7)))))))) D2)
   (B2 (B7 (F6 (A2 D1 (A2 (C2 (qv 2) (qf g1 hr (A2 (qv 0) (A2 (G4 (fun _=>rfl) (fun _=>m7) (QE.r (qv 2))) A7)))) (A2 (C2 (qv 2) (qf g1 hr (A2 (qv 0) (A2 (G4 (fun _=>rfl) (fun _=>m7) (QE.r (qv 2))) A7)))) A7))))))))
theorem Sh (F0:Fn0 K mg "_law_reason" (top 37))(g1:AD P w K mg base Pt)(g7:LA P w K mg base Pt)(m7:mg "len"=none):LB P w K mg base Pt:=fnk F0 fun sc _ _ _ _ _ _ _ hr=>(A8 (i3 3 4 (fun _=>h9 (i:=3) (j:=4) rfl sc.nd rfl rfl (by decide) rfl rfl rfl) (ql_v (qf g1 hr (A2 (qv 0) (A2 A6 A7)))) (ql_v (C2 (qv 2) (qf g1 hr (A2 (qv 0) (A2 (G4 (fun _=>rfl) (fun _=>m7) (QE.r (qv 2))) A7))))))
   (A8 (D3 (C7 cLt (qv 3) (QE.r A6) (B5 _)) (B2 (B7 (F6 (A2 (C2 (QN.ee (M4 (A2 D1 (A2 D1 A7)))) (qv 3)) (A2 (qv 4) A7))))) D2)
   (A8 (i3 5 6 (fun _=>h9 (i:=5) (j:=6) rfl sc.nd rfl rfl (by decide) rfl rfl rfl) (ql_v (qf g7 hr (A2 (qv 0) (A2 (qv 1) (A2 (qv 2) A7))))) (ql_v (qf g7 hr (A2 (qv 0) (A2 (qv 1) (A2 (qv 2) A7))))))
   (B2 (B7 (C2 (QN.ee (M4 (A2 (F6 (A2 D1 (A2 (qv 5) A7))) (A2 (F6 (A2 D1 (A2 (qv 5) A7))) (A2 (F6 (A2 D1 (A2 (qv 5) (A2 (qv 4) A7)))) (A2 (F6 (A2 D1 (A2 (qv 5) (A2 (qv 6) A7)))) A7)))))) (Cz (qv 3) A6)))))))
theorem Si (F0:Fn0 K mg "boats_of" (top 5)):BI P w K mg base Pt:=fnk F0 fun sc _ _ _ _ _ _ _ hr=>(B2 (B7 (QN.ee (Pb (N:=["event","boat"]) (cs:=[none,none]) (fun _=>Q3 rfl rfl rfl rfl trivial rfl rfl rfl) (fun _=>rfl) (Z9 (qv 0)) (gn 0 (show M8 (["event","boat"]:List Str) by decide +kernel)) (Z9 (Q4 (qv 0) (O6 A6) T7)) (gn 1 (show M8 (["event","boat"]:List Str) by decide +kernel)) e9 (qv 1)))))
theorem Sj (F0:Fn0 K mg "boat_reason" (top 11))(g9:BI P w K mg base Pt):LC P w K mg base Pt:=fnk F0 fun sc _ _ _ _ _ _ _ hr=>(A8 (G5 2 (sws 2 sc.nd) (qf g9 hr (A2 (qv 1) A7)))
   (A8 (X9 (fun _=>rfl) (Ah (qv 2)) (gn 3 sc.nd) (A8 (D3 (C7 (T4 4 fun _=>hr) (qv 3) (QE.r (qv 0)) rfl) (B2 (B7 (F6 (A2 D1 (A2 (qv 3) A7))))) D2)
   (B2 (D3 (C7 cGt (IX (qv 2) (qv 3)) (QE.r A6) (B5 _)) (B2 (B7 (F6 (A2 D1 (A2 (qv 3) A7))))) D2))))
   (B2 (B7 Af))))
theorem Sk (F0:Fn0 K mg "touches_of" (top 6)):HE P w K mg base Pt:=fnk F0 fun sc _ _ _ _ _ _ _ hr=>(B2 (B7 (QN.ee (a9 (N:=["event"]) (cs:=[none]) (fun _=>Q3 rfl rfl rfl rfl trivial rfl rfl rfl) (fun _=>rfl) (Z9 (qv 0)) (gn 0 (show M8 (["event"]:List Str) by decide +kernel)) (Bs (C7 (cEq 4 fun _=>hr) (C2 (qv 0) A6) (QE.r D1) (B5 _))) (qv 0)))))
theorem Sm (F0:Fn0 K mg "is_wrong" (top 8)):HF P w K mg base Pt:=fnk F0 fun sc _ _ _ _ _ _ _ hr=>(B2 (B7 (E2 cGt (c6 (qv 0) (C2 (qv 1) A6)) (QE.r (c6 (qv 0) (C2 (qv 1) A6))) (B5 _))))
theorem Sn (F0:Fn0 K mg "between" (top 7))(m13:mg "sorted"=none):BJ P w K mg base Pt:=fnk F0 fun sc _ _ _ _ _ _ _ hr=>(A8 (Bt (fun _=>X8) (QN.ee (Jv (fun _=>rfl) (fun _=>m13) (QE.r (QN.ee (M4 (A2 (c6 (qv 0) (C2 (qv 1) A6)) (A2 (c6 (qv 0) (C2 (qv 1) A6)) A7))))))) (qg_lst (fun _=>rfl) (L0 (gn 2 sc.nd) (L0 (gn 3 sc.nd) X7))))
   (B2 (B7 (Q4 (qv 0) (O6 (J5 (qv 2) A6)) (O6 (qv 3))))))
theorem So (F0:Fn0 K mg "is_far" (top 9))(g13:BJ P w K mg base Pt)(m7:mg "len"=none):HG P w K mg base Pt:=fnk F0 fun sc _ _ _ _ _ _ _ hr=>(B2 (B7 (E2 cGt (G4 (fun _=>rfl) (fun _=>m7) (QE.r (qf g13 hr (A2 (qv 0) (A2 (qv 2) A7))))) (QE.r (qv 1)) (B5 _))))
theorem Sq (F0:Fn0 K mg "touch_reason" (top 12))(g12:HF P w K mg base Pt)(g14:HG P w K mg base Pt)(g9:BI P w K mg base Pt)(g13:BJ P w K mg base Pt):LD P w K mg base Pt:=fnk F0 fun sc _ _ _ _ _ _ _ hr=>(A8 (D3 (J8 (qf g12 hr (A2 (qv 0) (A2 (qv 3) A7)))) (B2 (B7 (F6 (A2 D1 (A2 (qv 3) A7))))) D2)
   (A8 (D3 (J8 (qf g14 hr (A2 (qv 0) (A2 (qv 1) (A2 (qv 3) A7))))) (B2 (B7 (F6 (A2 D1 (A2 (qv 3) A7))))) D2)
   (A8 (G5 4 (sws 4 sc.nd) (qf g9 hr (A2 (qv 2) A7)))
   (A8 (X9 (fun _=>rfl) (Z9 (qf g13 hr (A2 (qv 0) (A2 (qv 3) A7)))) (gn 5 sc.nd) (B2 (D3 (C7 (T4 4 fun _=>hr) (qv 5) (QE.r (qv 4)) rfl) (B2 (B7 (F6 (A2 D1 (A2 (qv 3) (A2 (qv 5) A7)))))) D2)))
   (B2 (B7 Af))))))
theorem Sr (F0:Fn0 K mg "is_cross" (top 10))(g9:BI P w K mg base Pt)(g13:BJ P w K mg base Pt)(m7:mg "len"=none)(m12:mg "set"=none):HH P w K mg base Pt:=fnk F0 fun sc _ _ _ _ _ _ _ hr=>(A8 (D3 (C7 (cNe 4 fun _=>hr) (QP (fun _=>rfl) (fun _=>rfl) (fun _=>m7) (fun _=>rfl) (fun _=>m12) (qf g9 hr (A2 (F6 (A2 (qv 1) (A2 (qv 2) A7))) A7))) (QE.r A6) (B5 _)) (B2 (B7 K5)) D2)
   (A8 (G5 3 (sws 3 sc.nd) (qf g13 hr (A2 (qv 0) (A2 (qv 1) A7))))
   (B2 (B7 (E2 (cNe 4 fun _=>hr) (E2 (cIn 4 fun _=>hr) (C2 (qv 2) A6) (QE.r (qv 3)) rfl) (QE.r (E2 (cIn 4 fun _=>hr) (C2 (qv 2) A6) (QE.r (qv 3)) rfl)) (B5 _))))))
theorem Ss (F0:Fn0 K mg "cross_reason" (top 13))(g16:HH P w K mg base Pt):LE P w K mg base Pt:=fnk F0 fun sc _ _ _ _ _ _ _ hr=>(A8 (X9 (fun _=>rfl) (Ah (qv 2)) (gn 3 sc.nd) (B2 (D3 (J8 (qf g16 hr (A2 (qv 0) (A2 (qv 1) (A2 (qv 3) A7))))) (B2 (B7 (F6 (A2 D1 (A2 (qv 1) (A2 (qv 3) A7)))))) D2)))
   (B2 (B7 Af)))
theorem Su (F0:Fn0 K mg "reason_of" (top 14))(g10:LC P w K mg base Pt)(g11:HE P w K mg base Pt)(g17:LE P w K mg base Pt)(g15:LD P w K mg base Pt):LF P w K mg base Pt:=fnk F0 fun sc _ _ _ _ _ _ _ hr=>(A8 (G5 3 (sws 3 sc.nd) (qf g10 hr (A2 (qv 0) (A2 (qv 2) A7))))
   (A8 (D3 (C7 Gp (qv 3) (QE.r Af) (B5 _)) (B2 (B7 (qv 3))) D2)
   (A8 (G5 4 (sws 4 sc.nd) (qf g11 hr (A2 (qv 2) A7)))
   (A8 (X9 (fun _=>rfl) (Ah (qv 4)) (gn 5 sc.nd) (A8 (G5 3 (sws 3 sc.nd) (qe_orT (qf g15 hr (A2 (qv 0) (A2 (qv 1) (A2 (qv 2) (A2 (qv 5) A7))))) (P5 (qf g17 hr (A2 (qv 0) (A2 (qv 5) (A2 (qv 4) A7)))))))
   (B2 (D3 (C7 Gp (qv 3) (QE.r Af) (B5 _)) (B2 (B7 (qv 3))) D2))))
   (B2 (B7 Af))))))
theorem Sv (F0:Fn0C K mg "order_of" (top 15) cd)(hC:PySem.W.CodeHd base cd Pt)(hB:base.BuiltinsAt mg Pt)(g18:LF P w K mg base Pt)(g11:HE P w K mg base Pt)(g13:BJ P w K mg base Pt)(m7:mg "len"=none)(m13:mg "sorted"=none)(m15:mg "tuple"=none):LG P w K mg base Pt:=by
 have sc:R1 ["start","reach","sheet","reason","drops","inner_first"] ["start","reach","sheet"] (E5 (top 15)):=⟨rfl,rfl,rfl,by decide +kernel,rfl,by decide +kernel,by decide +kernel⟩
 exact fn_okC F0 sc (fun _ _ _ _ _ _=>bd3 fun _ _ _=>rfl) (k:=4) (body:=Hq) (fun f A outer s H E hr=>(A8 (G5 3 (sws 3 sc.nd) (qf g18 hr (A2 (qv 0) (A2 (qv 1) (A2 (qv 2) A7)))))
   (A8 (D3 (C7 Gp (qv 3) (QE.r Af) (B5 _)) (B2 (B7 (F6 (A2 D1 (A2 (qv 3) A7))))) D2)
   (A8 (Ew 4 (Eu (N:=["event"]) (cs:=[none]) (fun _=>Q3 rfl rfl rfl rfl trivial rfl rfl rfl) (fun _=>rfl) (Z9 (qv 2)) (gn 0 (show M8 (["event"]:List Str) by decide +kernel)) (Bs (C7 (cEq 4 fun _=>hr) (C2 (qv 0) A6) (QE.r D1) (B5 _))) (qv 0)) (fun _=>sc.nd) (fun _=>rfl) (fun _=>Or.inl rfl))
   (A8 (G5 5 (sws 5 sc.nd) (QN.ee (Po (x:="touch") (y:="start") (iy:=0) (c:=fun _=>s.heap.objs.size + 1) (QE.r (qf g11 hr (A2 (qv 2) A7))) (G4 (fun _=>rfl) (fun _=>m7) (QE.r (qe_fn (fun _=>g13) (fun _=>Pv hr) (by decide) (fun _=>rfl) (A2 (qv 1) (A2 (qv 0) A7))))) (Pw rfl rfl rfl rfl rfl rfl (by decide +kernel) (by decide +kernel)) (fun _=>hr) (fun _=>rfl) (fun _=>rfl) (fun _=>rfl) (fun _ _ _ _ _=>rfl) (fun _=>rfl) (fun _=>rfl) (fun _=>rfl) (fun _=>hC) (fun _=>hB) (fun _=>rfl) (fun _=>m13) (fun _=>rfl))))
   (B2 (B7 (F6 (A2 D1 (A2 (Br (fun _=>rfl) (fun _=>m15) (QE.r (QN.ee (Ep (QE.r (qv 4)) (QE.r (qv 5)))))) A7))))))))))
theorem Sw (F0:Fn0 K mg "is_boat" (top 2))(m1:mg "all"=none)(m6:mg "isinstance"=none)(m7:mg "len"=none)(m14:mg "str"=none)(c0:Num0 mg "MOST_LETTERS" 8):Fo P w K mg base Pt:=fnk F0 fun sc _ _ _ _ _ _ _ hr=>(A8 (D3 (QW.qt (N8 (K9 (J8 (e6 (n:="str") (by decide) (fun _=>rfl) (fun _=>m6) (qv 0) (fun _=>tyw rfl m14 Ea)))) (P4 (K9 (IG cLe cLe A6 (G4 (fun _=>rfl) (fun _=>m7) (QE.r (qv 0))) (qe_num (fun _=>c0) fun _=>rfl)))))) (B2 (B7 K5)) D2)
   (B2 (B7 (Ei (fun _=>rfl) (fun _=>rfl) (fun _=>m1) (QE.r (QN.ee (a9 (N:=["sign"]) (cs:=[none]) (fun _=>Q3 rfl rfl rfl rfl trivial rfl rfl rfl) (fun _=>rfl) (qi_str (qv 0)) (gn 0 (show M8 (["sign"]:List Str) by decide +kernel)) e9 (IF cLe cLe D1 (qv 0) D1))))))))
theorem Sx (F0:Fn0 K mg "shows_boat" (top 17))(g20:Fo P w K mg base Pt)(g9:BI P w K mg base Pt):LH P w K mg base Pt:=fnk F0 fun sc _ _ _ _ _ _ _ hr=>(A8 (D3 (K9 (J8 (qf g20 hr (A2 (qv 3) A7)))) (B2 (B7 K5)) D2)
   (A8 (G5 4 (sws 4 sc.nd) (qf g9 hr (A2 (qv 1) A7)))
   (A8 (D3 (C7 (cEq 4 fun _=>hr) (qv 2) (QE.r D1) (B5 _)) (B2 (B7 (P6 (E2 (cIn 4 fun _=>hr) (qv 3) (QE.r (qv 4)) rfl) (P5 (E2 (T4 4 fun _=>hr) (qv 3) (QE.r (qv 0)) rfl))))) D2)
   (B2 (B7 (E2 cGt (IX (qv 4) (qv 3)) (QE.r A6) (B5 _)))))))
theorem Sy (F0:Fn0 K mg "is_touch" (top 4))(g20:Fo P w K mg base Pt)(m6:mg "isinstance"=none)(m7:mg "len"=none)(m14:mg "str"=none)(m15:mg "tuple"=none):LI P w K mg base Pt:=fnk F0 fun sc _ _ _ _ _ _ _ hr=>(A8 (D3 (QW.qt (N8 (K9 (J8 (e6 (n:="tuple") (by decide) (fun _=>rfl) (fun _=>m6) (qv 0) (fun _=>tyw rfl m15 Cu)))) (P4 (C7 (cNe 4 fun _=>hr) (G4 (fun _=>rfl) (fun _=>m7) (QE.r (qv 0))) (QE.r A6) (B5 _))))) (B2 (B7 K5)) D2)
   (A8 (Bt (fun _=>X8) (qv 0) (Z8 (fun _=>rfl) (L0 (gn 1 sc.nd) (L0 (gn 2 sc.nd) (L0 (gn 3 sc.nd) X7)))))
   (A8 (D3 (QW.qt (N8 (K9 (J8 (e6 (n:="str") (by decide) (fun _=>rfl) (fun _=>m6) (qv 1) (fun _=>tyw rfl m14 Ea)))) (P4 (C7 (cNe 4 fun _=>hr) (qv 1) (QE.r D1) (B5 _))))) (B2 (B7 K5)) D2)
   (B2 (B7 (P6 (qf g20 hr (A2 (qv 2) A7)) (P6 (qf g20 hr (A2 (qv 3) A7)) (P5 (E2 (cNe 4 fun _=>hr) (qv 2) (QE.r (qv 3)) (B5 _))))))))))
theorem Sz (F0:Fn0 K mg "is_known" (top 18))(g22:LI P w K mg base Pt):Fp P w K mg base Pt:=fnk F0 fun sc _ _ _ _ _ _ _ hr=>(A8 (D3 (QW.qt (N8 (K9 (J8 (qf g22 hr (A2 (qv 2) A7)))) (P4 (C7 (T4 4 fun _=>hr) (qv 2) (QE.r (qv 1)) rfl)))) (B2 (B7 K5)) D2)
   (B2 (B7 (P6 (E2 (cIn 4 fun _=>hr) (C2 (qv 2) A6) (QE.r (qv 0)) rfl) (P5 (E2 (cIn 4 fun _=>hr) (C2 (qv 2) A6) (QE.r (qv 0)) rfl))))))
theorem SA (F0:Fn0 K mg "shows_touch" (top 19))(g23:Fp P w K mg base Pt)(g12:HF P w K mg base Pt)(g14:HG P w K mg base Pt):LJ P w K mg base Pt:=fnk F0 fun sc _ _ _ _ _ _ _ hr=>(A8 (D3 (K9 (J8 (qf g23 hr (A2 (qv 0) (A2 (qv 2) (A2 (qv 4) A7)))))) (B2 (B7 K5)) D2)
   (A8 (D3 (C7 (cEq 4 fun _=>hr) (qv 3) (QE.r D1) (B5 _)) (B2 (B7 (qf g12 hr (A2 (qv 0) (A2 (qv 4) A7))))) D2)
   (B2 (B7 (qf g14 hr (A2 (qv 0) (A2 (qv 1) (A2 (qv 4) A7))))))))
theorem SC (F0:Fn0 K mg "shows_stays" (top 20))(g20:Fo P w K mg base Pt)(g23:Fp P w K mg base Pt)(g9:BI P w K mg base Pt)(g13:BJ P w K mg base Pt):LK P w K mg base Pt:=fnk F0 fun sc _ _ _ _ _ _ _ hr=>(A8 (D3 (QW.qt (N8 (K9 (J8 (qf g23 hr (A2 (qv 0) (A2 (qv 1) (A2 (qv 2) A7)))))) (P4 (K9 (J8 (qf g20 hr (A2 (qv 3) A7))))))) (B2 (B7 K5)) D2)
   (B2 (B7 (P6 (E2 (cIn 4 fun _=>hr) (qv 3) (QE.r (qf g13 hr (A2 (qv 0) (A2 (qv 2) A7)))) rfl) (P5 (E2 (T4 4 fun _=>hr) (qv 3) (QE.r (qf g9 hr (A2 (qv 1) A7))) rfl))))))
theorem SD (F0:Fn0 K mg "shows_cross" (top 21))(g23:Fp P w K mg base Pt)(g16:HH P w K mg base Pt):LM P w K mg base Pt:=fnk F0 fun sc _ _ _ _ _ _ _ hr=>(A8 (D3 (QW.qt (N8 (K9 (J8 (qf g23 hr (A2 (qv 0) (A2 (qv 1) (A2 (qv 2) A7)))))) (P4 (K9 (J8 (qf g23 hr (A2 (qv 0) (A2 (qv 1) (A2 (qv 3) A7))))))))) (B2 (B7 K5)) D2)
   (B2 (B7 (qf g16 hr (A2 (qv 0) (A2 (qv 2) (A2 (qv 3) A7)))))))
theorem SE (F0:Fn0 K mg "shows_unsound" (top 22))(g21:LH P w K mg base Pt)(g24:LJ P w K mg base Pt)(g25:LK P w K mg base Pt)(g26:LM P w K mg base Pt)(m6:mg "isinstance"=none)(m7:mg "len"=none)(m14:mg "str"=none)(m15:mg "tuple"=none):LN P w K mg base Pt:=fnk F0 fun sc _ _ _ _ _ _ _ hr=>(A8 (D3 (QW.qt (N8 (K9 (J8 (e6 (n:="tuple") (by decide) (fun _=>rfl) (fun _=>m6) (qv 3) (fun _=>tyw rfl m15 Cu)))) (N8 (C7 (T4 4 fun _=>hr) (G4 (fun _=>rfl) (fun _=>m7) (QE.r (qv 3))) (QE.r (F6 (A2 A6 (A2 A6 A7)))) rfl) (P4 (K9 (J8 (e6 (n:="str") (by decide) (fun _=>rfl) (fun _=>m6) (C2 (qv 3) A6) (fun _=>tyw rfl m14 Ea)))))))) (B2 (B7 K5)) D2)
   (A8 (Q_ 4 5 (fun _=>X8) (fun _=>QZ K rfl sc.nd rfl rfl (Or.inl rfl) (Or.inl rfl)) (qv 3))
   (A8 (D3 (QW.qt (T6 (C7 (cEq 4 fun _=>hr) (G4 (fun _=>rfl) (fun _=>m7) (O5 5 fun _=>vw 5)) (QE.r A6) (B5 _)) (T5 (C7 (cIn 4 fun _=>hr) (qv 4) (QE.r (F6 (A2 D1 (A2 D1 A7)))) rfl)))) (B2 (B7 (qf g21 hr (A2 (qv 0) (A2 (qv 2) (A2 (qv 4) (A2 (Bq (O5 5 fun _=>vw 5) A6) A7))))))) D2)
   (A8 (D3 (QW.qt (T6 (C7 (cEq 4 fun _=>hr) (G4 (fun _=>rfl) (fun _=>m7) (O5 5 fun _=>vw 5)) (QE.r A6) (B5 _)) (T5 (C7 (cIn 4 fun _=>hr) (qv 4) (QE.r (F6 (A2 D1 (A2 D1 A7)))) rfl)))) (B2 (B7 (qf g24 hr (A2 (qv 0) (A2 (qv 1) (A2 (qv 2) (A2 (qv 4) (A2 (Bq (O5 5 fun _=>vw 5) A6) A7)))))))) D2)
   (A8 (D3 (QW.qt (T6 (C7 (cEq 4 fun _=>hr) (G4 (fun _=>rfl) (fun _=>m7) (O5 5 fun _=>vw 5)) (QE.r A6) (B5 _)) (T5 (C7 (cEq 4 fun _=>hr) (qv 4) (QE.r D1) (B5 _))))) (B2 (B7 (qf g25 hr (A2 (qv 0) (A2 (qv 2) (A2 (Bq (O5 5 fun _=>vw 5) A6) (A2 (Bq (O5 5 fun _=>vw 5) A6) A7))))))) D2)
   (A8 (D3 (QW.qt (T6 (C7 (cEq 4 fun _=>hr) (G4 (fun _=>rfl) (fun _=>m7) (O5 5 fun _=>vw 5)) (QE.r A6) (B5 _)) (T5 (C7 (cEq 4 fun _=>hr) (qv 4) (QE.r D1) (B5 _))))) (B2 (B7 (qf g26 hr (A2 (qv 0) (A2 (qv 2) (A2 (Bq (O5 5 fun _=>vw 5) A6) (A2 (Bq (O5 5 fun _=>vw 5) A6) A7))))))) D2)
   (B2 (B7 K5))))))))
theorem SF (F0:Fn0 K mg "_law_can" (top 30))(m1:mg "all"=none)(m7:mg "len"=none):LO P w K mg base Pt:=fnk F0 fun sc _ _ _ _ _ _ _ hr=>(A8 (D3 (K9 (J8 (Ei (fun _=>rfl) (fun _=>rfl) (fun _=>m1) (QE.r (QN.ee (a9 (N:=["_law_boat","_law_start","_law_out"]) (cs:=[none,some 0,some 2]) (fun _=>Q3 rfl rfl rfl rfl ⟨rfl,⟨rfl,trivial⟩⟩ rfl rfl rfl) (fun _=>rfl) (Z9 (Q4 (qv 3) (O6 A6) T7)) (gn 0 (show M8 (["_law_boat","_law_start","_law_out"]:List Str) by decide +kernel)) e9 (P6 (E2 (cIn 4 fun _=>hr) (qv 0) (QE.r (qv 1)) rfl) (P5 (E2 (T4 4 fun _=>hr) (qv 0) (QE.r (qv 2)) rfl))))))))) (B2 (B7 K5)) D2)
   (A8 (D3 (C7 (cEq 4 fun _=>hr) (C2 (qv 3) A6) (QE.r D1) (B5 _)) (B2 (B7 K5)) D2)
   (A8 (i3 4 5 (fun _=>h9 (i:=4) (j:=5) rfl sc.nd rfl rfl (by decide) rfl rfl rfl) (ql_v (c6 (qv 0) (C2 (qv 3) A6))) (ql_v (c6 (qv 0) (C2 (qv 3) A6))))
   (A8 (G5 6 (sws 6 sc.nd) (Q4 (qv 0) (O6 (J5 (qv 5) A6)) (O6 (qv 4))))
   (B2 (B7 (P6 (E2 cLt (qv 5) (QE.r (qv 4)) (B5 _)) (P6 (E2 cLe (G4 (fun _=>rfl) (fun _=>m7) (QE.r (qv 6))) (QE.r (qv 1)) (B5 _)) (P5 (Ei (fun _=>rfl) (fun _=>rfl) (fun _=>m1) (QE.r (QN.ee (a9 (N:=["_law_boat","_law_out"]) (cs:=[none,some 2]) (fun _=>Q3 rfl rfl rfl rfl ⟨rfl,trivial⟩ rfl rfl rfl) (fun _=>rfl) (Z9 (qv 6)) (gn 0 (show M8 (["_law_boat","_law_out"]:List Str) by decide +kernel)) e9 (E2 (cIn 4 fun _=>hr) (qv 0) (QE.r (qv 1)) rfl))))))))))))))
theorem SG (F0:Fn0 K mg "_law_course" (top 31))(g28:LO P w K mg base Pt)(m7:mg "len"=none)(m8:mg "list"=none)(m11:mg "range"=none):LP P w K mg base Pt:=fnk F0 fun sc _ _ _ _ _ _ _ hr=>(A8 (JC [3,4,5] (fun _=>X8) (fun _=>JB K rfl (As (Z7 3 sc.nd rfl (Or.inl rfl)) (As (Z7 4 sc.nd rfl (Or.inr rfl)) (As (Z7 5 sc.nd rfl (Or.inl rfl)) pgs_n)))) (Ar (ql_o (p8 (fun _=>rfl) (fun _=>m8) (QE.r (qv 2)))) (Ar (ql_o (M4 A7)) (Ar (ql_o (M4 A7)) Jz))))
   (A8 (X9 (fun _=>rfl) (Ai (fun _=>rfl) (fun _=>m11) (G4 (fun _=>rfl) (fun _=>m7) (QE.r (qv 2)))) (gn 6 sc.nd) (A8 (Ew 7 (OP (Kj Jx) (Eu (N:=["_law_event","_law_start","_law_reach","_law_out"]) (cs:=[none,some 0,some 1,some 4]) (fun _=>Q3 rfl rfl rfl rfl ⟨rfl,⟨rfl,⟨rfl,trivial⟩⟩⟩ rfl rfl rfl) (fun _=>rfl) (Ah (qv 3)) (gn 0 (show M8 (["_law_event","_law_start","_law_reach","_law_out"]:List Str) by decide +kernel)) (Bs (J8 (qf g28 hr (A2 (qv 1) (A2 (qv 2) (A2 (qv 3) (A2 (qv 0) A7))))))) (qv 0))) (fun _=>sc.nd) (fun _=>rfl) (fun _=>Or.inl rfl))
   (A8 (D3 (C7 (cEq 4 fun _=>hr) (qv 7) (QE.r (QN.ee (M4 A7))) (B5 _)) (B2 (Bu 3 (Bu 5 (B7 (F6 (A2 (qv 5) (A2 (qv 3) A7))))))) D2)
   (A8 (V1 (fun _=>V0) (t3 5 (fun _=>vw 5) (C2 (qv 7) A6)))
   (A8 (V1 (fun _=>V0) (GO 4 (fun _=>vw 4) (QN.ee (p8 (fun _=>rfl) (fun _=>m8) (QE.r (Q4 (C2 (qv 7) A6) (O6 A6) T7))))))
   (B2 (V1 (fun _=>V0) (OU 4 3 (fun _=>hr) (fun _=>vw 3) (C2 (qv 7) A6)))))))))
   (B2 (Bu 3 (Bu 5 (B7 (F6 (A2 (qv 5) (A2 (qv 3) A7)))))))))
theorem SH (F0:Fn0 K mg "_law_between" (top 33))(m4:mg "enumerate"=none)(m9:mg "max"=none)(m10:mg "min"=none):LQ P w K mg base Pt:=fnk F0 fun sc _ _ _ _ _ _ _ hr=>(A8 (Bt (fun _=>X8) (F6 (A2 (c6 (qv 0) (C2 (qv 1) A6)) (A2 (c6 (qv 0) (C2 (qv 1) A6)) A7))) (Z8 (fun _=>rfl) (L0 (gn 2 sc.nd) (L0 (gn 3 sc.nd) X7))))
   (B2 (B7 (QN.ee (a9 (N:=["_law_place","_law_boat","_law_one","_law_other"]) (cs:=[none,none,some 2,some 3]) (fun _=>Q3 rfl rfl rfl rfl ⟨rfl,⟨rfl,trivial⟩⟩ rfl rfl rfl) (fun _=>rfl) (Je (fun _=>rfl) (fun _=>m4) (qv 0)) (Z8 (fun _=>rfl) (L0 (gn 0 (show M8 (["_law_place","_law_boat","_law_one","_law_other"]:List Str) by decide +kernel)) (L0 (gn 1 (show M8 (["_law_place","_law_boat","_law_one","_law_other"]:List Str) by decide +kernel)) X7))) (Bs (IG cLt cLt (qe_min (fun _=>rfl) (fun _=>rfl) (fun _=>m10) (qv 2) (qv 3)) (qv 0) (qe_max (fun _=>rfl) (fun _=>rfl) (fun _=>m9) (qv 2) (qv 3)))) (qv 1))))))
theorem SI (F0:Fn0 K mg "_law_is_touch" (top 32))(m6:mg "isinstance"=none)(m7:mg "len"=none)(m15:mg "tuple"=none):LR P w K mg base Pt:=fnk F0 fun sc _ _ _ _ _ _ _ hr=>(A8 (D3 (QW.qt (N8 (K9 (J8 (e6 (n:="tuple") (by decide) (fun _=>rfl) (fun _=>m6) (qv 2) (fun _=>tyw rfl m15 Cu)))) (N8 (C7 (cNe 4 fun _=>hr) (G4 (fun _=>rfl) (fun _=>m7) (QE.r (qv 2))) (QE.r A6) (B5 _)) (P4 (C7 (T4 4 fun _=>hr) (qv 2) (QE.r (qv 1)) rfl))))) (B2 (B7 K5)) D2)
   (B2 (B7 (P6 (E2 (cIn 4 fun _=>hr) (C2 (qv 2) A6) (QE.r (qv 0)) rfl) (P5 (E2 (cIn 4 fun _=>hr) (C2 (qv 2) A6) (QE.r (qv 0)) rfl))))))
theorem SJ (F0:Fn0 K mg "_law_is_reason" (top 34))(g31:LR P w K mg base Pt)(g30:LQ P w K mg base Pt)(m2:mg "any"=none)(m6:mg "isinstance"=none)(m7:mg "len"=none)(m12:mg "set"=none)(m14:mg "str"=none)(m15:mg "tuple"=none):LS P w K mg base Pt:=fnk F0 fun sc _ _ _ _ _ _ _ hr=>(A8 (D3 (QW.qt (N8 (K9 (J8 (e6 (n:="tuple") (by decide) (fun _=>rfl) (fun _=>m6) (qv 3) (fun _=>tyw rfl m15 Cu)))) (N8 (C7 (T4 4 fun _=>hr) (G4 (fun _=>rfl) (fun _=>m7) (QE.r (qv 3))) (QE.r (F6 (A2 A6 (A2 A6 A7)))) rfl) (P4 (K9 (J8 (e6 (n:="str") (by decide) (fun _=>rfl) (fun _=>m6) (C2 (qv 3) A6) (fun _=>tyw rfl m14 Ea)))))))) (B2 (B7 K5)) D2)
   (A8 (G5 4 (sws 4 sc.nd) (G4 (fun _=>rfl) (fun _=>m7) (QE.r (QN.ee (a9 (N:=["_law_event","_law_thing"]) (cs:=[none,some 3]) (fun _=>Q3 rfl rfl rfl rfl ⟨rfl,trivial⟩ rfl rfl rfl) (fun _=>rfl) (Z9 (qv 2)) (gn 0 (show M8 (["_law_event","_law_thing"]:List Str) by decide +kernel)) (Bs (C7 (cIn 4 fun _=>hr) (C2 (qv 1) A6) (QE.r (Q4 (qv 0) (O6 A6) T7)) rfl)) (qv 0))))))
   (A8 (D3 (QW.qt (N8 (C7 (cEq 4 fun _=>hr) (C2 (qv 3) A6) (QE.r D1) (B5 _)) (P4 (C7 (cEq 4 fun _=>hr) (C2 (qv 3) A6) (QE.r D1) (B5 _))))) (A8 (G5 5 (sws 5 sc.nd) (Gu (C7 (cEq 4 fun _=>hr) (C2 (qv 3) A6) (QE.r D1) (B5 _)) (P6 (E2 cGt (qv 4) (QE.r A6) (B5 _)) (P5 (E2 (T4 4 fun _=>hr) (C2 (qv 3) A6) (QE.r (qv 0)) rfl))) (E2 cGt (qv 4) (QE.r A6) (B5 _))))
   (B2 (B7 (P6 (qv 5) (P5 (E2 (cEq 4 fun _=>hr) (G4 (fun _=>rfl) (fun _=>m7) (QE.r (qv 3))) (QE.r A6) (B5 _))))))) D2)
   (A8 (D3 (K9 (J8 (qf g31 hr (A2 (qv 0) (A2 (qv 2) (A2 (C2 (qv 3) A6) A7)))))) (B2 (B7 K5)) D2)
   (A8 (G5 6 (sws 6 sc.nd) (qf g30 hr (A2 (qv 0) (A2 (C2 (qv 3) A6) A7))))
   (A8 (D3 (QW.qt (T6 (C7 (cEq 4 fun _=>hr) (G4 (fun _=>rfl) (fun _=>m7) (QE.r (qv 3))) (QE.r A6) (B5 _)) (T5 (C7 (cEq 4 fun _=>hr) (C2 (qv 3) A6) (QE.r D1) (B5 _))))) (B2 (B7 (E2 cGt (c6 (qv 0) (C2 (C2 (qv 3) A6) A6)) (QE.r (c6 (qv 0) (C2 (C2 (qv 3) A6) A6))) (B5 _)))) D2)
   (A8 (D3 (C7 (cEq 4 fun _=>hr) (G4 (fun _=>rfl) (fun _=>m7) (QE.r (qv 3))) (QE.r A6) (B5 _)) (B2 (B7 (P6 (E2 (cEq 4 fun _=>hr) (C2 (qv 3) A6) (QE.r D1) (B5 _)) (P5 (E2 cGt (G4 (fun _=>rfl) (fun _=>m7) (QE.r (qv 6))) (QE.r (qv 1)) (B5 _)))))) D2)
   (A8 (D3 (C7 (cEq 4 fun _=>hr) (C2 (qv 3) A6) (QE.r D1) (B5 _)) (B2 (B7 (P6 (E2 (cIn 4 fun _=>hr) (C2 (qv 3) A6) (QE.r (qv 6)) rfl) (P5 (qe_not (IM (fun _=>rfl) (fun _=>rfl) (fun _=>m2) (QE.r (QN.ee (a9 (N:=["_law_event","_law_thing"]) (cs:=[none,some 3]) (fun _=>Q3 rfl rfl rfl rfl ⟨rfl,trivial⟩ rfl rfl rfl) (fun _=>rfl) (Z9 (qv 2)) (gn 0 (show M8 (["_law_event","_law_thing"]:List Str) by decide +kernel)) e9 (E2 (cIn 4 fun _=>hr) (C2 (qv 1) A6) (QE.r (Q4 (qv 0) (O6 A6) T7)) rfl)))))))))) D2)
   (A8 (D3 (QW.qt (N8 (C7 (cNe 4 fun _=>hr) (C2 (qv 3) A6) (QE.r D1) (B5 _)) (P4 (K9 (J8 (qf g31 hr (A2 (qv 0) (A2 (qv 2) (A2 (C2 (qv 3) A6) A7))))))))) (B2 (B7 K5)) D2)
   (A8 (G5 7 (sws 7 sc.nd) (J5 (Q4 (C2 (qv 3) A6) (O6 A6) T7) (Q4 (C2 (qv 3) A6) (O6 A6) T7)))
   (B2 (B7 (P6 (E2 (cEq 4 fun _=>hr) (Og 7 (fun _=>rfl) (fun _=>rfl) (fun _=>m7) (fun _=>rfl) (fun _=>m12) fun _=>vw 7) (QE.r A6) (B5 _)) (P5 (E2 (cNe 4 fun _=>hr) (E2 (cIn 4 fun _=>hr) (C2 (qv 7) A6) (QE.r (qv 6)) rfl) (QE.r (E2 (cIn 4 fun _=>hr) (C2 (qv 7) A6) (QE.r (qv 6)) rfl)) (B5 _))))))))))))))))
theorem SK (F0:Fn0 K mg "_law_right" (top 38))(g29:LP P w K mg base Pt)(g19:LG P w K mg base Pt)(g27:LN P w K mg base Pt)(g32:LS P w K mg base Pt)(m3:mg "bool"=none)(m6:mg "isinstance"=none):LT P w K mg base Pt:=fnk F0 fun sc _ _ _ _ _ _ _ hr=>(A8 (i3 4 5 (fun _=>h9 (i:=4) (j:=5) rfl sc.nd rfl rfl (by decide) rfl rfl rfl) (ql_v (E2 (cEq 4 fun _=>hr) (C2 (qf g29 hr (A2 (qv 0) (A2 (qv 1) (A2 (qv 2) A7)))) A6) (QE.r (QN.ee (M4 A7))) (B5 _))) (ql_v (qf g19 hr (A2 (qv 0) (A2 (qv 1) (A2 (qv 2) A7))))))
   (A8 (D3 (QW.qt (T6 (K9 (Es (QE.r (qv 4)))) (T5 (C7 cNotB (qf g27 hr (A2 (qv 0) (A2 (qv 1) (A2 (qv 2) (A2 (C2 (qv 5) A6) A7))))) (QE.r K5) (B5 _))))) (B2 (B7 K5)) D2)
   (A8 (X9 (fun _=>rfl) (Ah (qv 3)) (gn 6 sc.nd) (A8 (G5 7 (sws 7 sc.nd) (qf g27 hr (A2 (qv 0) (A2 (qv 1) (A2 (qv 2) (A2 (qv 6) A7))))))
   (A8 (D3 (QW.qt (N8 (K9 (J8 (e6 (n:="bool") (by decide) (fun _=>rfl) (fun _=>m6) (qv 7) (fun _=>tyw rfl m3 Ni)))) (P4 (C7 (cNe 4 fun _=>hr) (qv 7) (QE.r (qf g32 hr (A2 (qv 0) (A2 (qv 1) (A2 (qv 2) (A2 (qv 6) A7)))))) (B5 _))))) (B2 (B7 K5)) D2)
   (B2 (D3 (QW.qt (T6 (Es (QE.r (qv 4))) (T5 (Es (QE.r (qv 7)))))) (B2 (B7 K5)) D2)))))
   (B2 (B7 K5)))))
theorem k_law (F0:Fn0 K mg "law" (top 39))(g0:R_ P w K mg base)(g1:AD P w K mg base Pt)(g5:Ly P w K mg base Pt)(g3:Lv P w K mg base Pt)(g6:Lz P w K mg base Pt)(g8:LB P w K mg base Pt)(g33:LT P w K mg base Pt)(m5:mg "int"=none)(m7:mg "len"=none)(m8:mg "list"=none)(m11:mg "range"=none)(m12:mg "set"=none)(m13:mg "sorted"=none)(m15:mg "tuple"=none):Kn P w K mg base "law" 7 ["_law_script"] (EM K Pt):=by
 have sc:R1 ["_law_script","_law_k","_law_pot_here","_law_many","_law_boats_here","_law_reach","_law_start","_law_sheet_here","_law_more","_law_far","_law_reasons"] ["_law_script"] (E5 (top 39)):=⟨rfl,rfl,rfl,by decide +kernel,rfl,by decide +kernel,by decide +kernel⟩
 exact Ps (T:=potL) (Pt:=Pt) (lpos:=lamP) (qual:=lamQ) F0 sc (fun _ _ _ _ _ _=>bd1 fun _=>rfl) (k:=6) (body:=Hw) (fun _ _ _ _ _ _ _ hr=>(A8 (X9 (fun _=>rfl) (Ai (fun _=>rfl) (fun _=>m11) (J5 A6 (G4 (fun _=>rfl) (fun _=>m7) (QE.r (Q4 (qv 0) T7 (O6 A6)))))) (gn 1 sc.nd) (A8 (QQ 2 (sws 2 sc.nd) (fun _=>g0) (fun _=>hr) (by decide) (fun _=>rfl) (qv 0) (qv 1))
   (A8 (G5 3 (sws 3 sc.nd) (C2 (QN.ee (M4 (A2 (J5 A6 (qf g1 hr (A2 (qv 2) (A2 A6 A7)))) (A2 (J5 A6 (qf g1 hr (A2 (qv 2) (A2 A6 A7)))) A7)))) (IL (fun _=>rfl) (fun _=>m5) (QE.r (E2 (cEq 4 fun _=>hr) (qf g1 hr (A2 (qv 2) (A2 A6 A7))) (QE.r A6) (B5 _))))))
   (A8 (Bt (fun _=>X8) (F6 (A2 (qf g5 hr (A2 (qv 2) (A2 (J5 (qv 3) A6) A7))) (A2 (C2 (QN.ee (M4 (A2 (qf g1 hr (A2 (qv 2) (A2 A6 A7))) (A2 A6 A7)))) (IL (fun _=>rfl) (fun _=>m5) (QE.r (E2 cGt (qv 3) (QE.r A6) (B5 _))))) A7))) (Z8 (fun _=>rfl) (L0 (gn 4 sc.nd) (L0 (gn 5 sc.nd) X7))))
   (A8 (G5 6 (sws 6 sc.nd) (Q4 (qv 4) T7 (O6 (qv 3))))
   (A8 (G5 7 (sws 7 sc.nd) (qf g3 hr (A2 (qv 2) (A2 (qv 6) (A2 (qv 5) A7)))))
   (A8 (X9 (fun _=>rfl) (Ai (fun _=>rfl) (fun _=>m11) (qf g1 hr (A2 (qv 2) (A2 A6 A7)))) (gn 8 sc.nd) (B2 (G5 7 (sws 7 sc.nd) (qf g6 hr (A2 (qv 2) (A2 (qv 6) (A2 (qv 7) (A2 (Q4 (qv 4) (O6 (qv 3)) T7) A7))))))))
   (A8 (D3 (C7 cGt (qv 3) (QE.r A6) (B5 _)) (A8 (G5 9 (sws 9 sc.nd) (F6 (A2 D1 (A2 (C2 (qv 6) (J5 A6 (qf g1 hr (A2 (qv 2) (A2 (Cz (qv 3) A6) A7))))) (A2 (C2 (qv 6) A6) A7)))))
   (B2 (G5 7 (sws 7 sc.nd) (Br (fun _=>rfl) (fun _=>m15) (QE.r (QN.ee (Hh (fun _=>rfl) (fun _=>hr) (fun _=>rfl) (fun _=>m13) (fun _=>rfl) (fun _=>m12) (QE.r (QN.ee (Ep (QE.r (QN.ee (p8 (fun _=>rfl) (fun _=>m8) (QE.r (qv 7))))) (QE.r (QN.ee (M4 (A2 (qv 9) A7)))))))))))))) D2)
   (A8 (Ew 10 (Eu (N:=["_law_tour","_law_pot_here","_law_sheet_here","_law_boats_here"]) (cs:=[none,some 2,some 7,some 4]) (fun _=>Q3 rfl rfl rfl rfl ⟨rfl,⟨rfl,⟨rfl,trivial⟩⟩⟩ rfl rfl rfl) (fun _=>rfl) (Ai (fun _=>rfl) (fun _=>m11) A6) (gn 0 (show M8 (["_law_tour","_law_pot_here","_law_sheet_here","_law_boats_here"]:List Str) by decide +kernel)) e9 (qf g8 hr (A2 (qv 1) (A2 (qv 2) (A2 (qv 3) A7))))) (fun _=>sc.nd) (fun _=>rfl) (fun _=>Or.inl rfl))
   (B2 (D3 (QW.qt (N8 (K9 (J8 (qf g33 hr (A2 (qv 6) (A2 (qv 5) (A2 (qv 7) (A2 (qv 10) A7))))))) (P4 (K9 (J8 (qf g33 hr (A2 (qe_rev (QE.r (qv 6))) (A2 (qv 5) (A2 (qv 7) (A2 (qv 10) A7)))))))))) (B2 (B7 K5)) D2)))))))))))
   (B2 (B7 K5)))) m_law
end
end Tb
open PySem PySem.W PyProof.Rows L2 Tb
set_option hygiene false in
local macro_rules | `(tactic| walk_at "F")=>`(tactic| (dsimp only [KOf];refine' fn0_mk KX G ?a ?l ?c ?k;(case a=>k_is);(case l=>k_is);(case c=>k_is);(case k=>k_is)))
set_option hygiene false in
local macro_rules | `(tactic| walk_at "Z")=>`(tactic| (refine PySem.W.mg_none_of (K:=KOf KX) KX G ?_;dsimp only [KOf];k_is))
abbrev Tb.rwp:=PySem.Challenge.rw_touchboats_k09_reasons_shown.prog
set_option maxRecDepth 100000 in
set_option maxHeartbeats 0 in
theorem PySem.Challenge.cw_touchboats_k09_reasons_shown_holds : PySem.Challenge.rw_touchboats_k09_reasons_shown.Holds := by
 w_on;o_law;k_head;(case hw=>w_witness2)
 k_fill
 refine Pr (l:=PySem.Challenge.rw_touchboats_k09_reasons_shown) (x:="_law_script") (k:=7) rfl rfl ⟨rfl,by decide,by decide,rfl⟩ (by decide) ?F
 case F=>
   intro w mg h KX G;have f0:Fn0 (KOf KX) mg "_law_pot" (top 24):=by walk_at "F"
   have f1:Fn0 (KOf KX) mg "_law_draw" (top 25):=by walk_at "F"
   have f2:Fn0 (KOf KX) mg "_law_apart" (top 28):=by walk_at "F"
   have f3:Fn0 (KOf KX) mg "_law_sheet" (top 29):=by walk_at "F"
   have f4:Fn0 (KOf KX) mg "_law_shuffled" (top 26):=by walk_at "F"
   have f5:Fn0 (KOf KX) mg "_law_boats" (top 27):=by walk_at "F"
   have f6:Fn0 (KOf KX) mg "_law_bent" (top 35):=by walk_at "F"
   have f7:Fn0 (KOf KX) mg "_law_touch" (top 36):=by walk_at "F"
   have f8:Fn0 (KOf KX) mg "_law_reason" (top 37):=by walk_at "F"
   have f9:Fn0 (KOf KX) mg "boats_of" (top 5):=by walk_at "F"
   have f10:Fn0 (KOf KX) mg "boat_reason" (top 11):=by walk_at "F"
   have f11:Fn0 (KOf KX) mg "touches_of" (top 6):=by walk_at "F"
   have f12:Fn0 (KOf KX) mg "is_wrong" (top 8):=by walk_at "F"
   have f13:Fn0 (KOf KX) mg "between" (top 7):=by walk_at "F"
   have f14:Fn0 (KOf KX) mg "is_far" (top 9):=by walk_at "F"
   have f15:Fn0 (KOf KX) mg "touch_reason" (top 12):=by walk_at "F"
   have f16:Fn0 (KOf KX) mg "is_cross" (top 10):=by walk_at "F"
   have f17:Fn0 (KOf KX) mg "cross_reason" (top 13):=by walk_at "F"
   have f18:Fn0 (KOf KX) mg "reason_of" (top 14):=by walk_at "F"
   have f20:Fn0 (KOf KX) mg "is_boat" (top 2):=by walk_at "F"
   have f21:Fn0 (KOf KX) mg "shows_boat" (top 17):=by walk_at "F"
   have f22:Fn0 (KOf KX) mg "is_touch" (top 4):=by walk_at "F"
   have f23:Fn0 (KOf KX) mg "is_known" (top 18):=by walk_at "F"
   have f24:Fn0 (KOf KX) mg "shows_touch" (top 19):=by walk_at "F"
   have f25:Fn0 (KOf KX) mg "shows_stays" (top 20):=by walk_at "F"
   have f26:Fn0 (KOf KX) mg "shows_cross" (top 21):=by walk_at "F"
   have f27:Fn0 (KOf KX) mg "shows_unsound" (top 22):=by walk_at "F"
   have f28:Fn0 (KOf KX) mg "_law_can" (top 30):=by walk_at "F"
   have f29:Fn0 (KOf KX) mg "_law_course" (top 31):=by walk_at "F"
   have f30:Fn0 (KOf KX) mg "_law_between" (top 33):=by walk_at "F"
   have f31:Fn0 (KOf KX) mg "_law_is_touch" (top 32):=by walk_at "F"
   have f32:Fn0 (KOf KX) mg "_law_is_reason" (top 34):=by walk_at "F"
   have f33:Fn0 (KOf KX) mg "_law_right" (top 38):=by walk_at "F"
   have f34:Fn0 (KOf KX) mg "law" (top 39):=by walk_at "F"
   have m0:mg "abs"=none:=by walk_at "Z"
   have m1:mg "all"=none:=by walk_at "Z"
   have m2:mg "any"=none:=by walk_at "Z"
   have m3:mg "bool"=none:=by walk_at "Z"
   have m4:mg "enumerate"=none:=by walk_at "Z"
   have m5:mg "int"=none:=by walk_at "Z"
   have m6:mg "isinstance"=none:=by walk_at "Z"
   have m7:mg "len"=none:=by walk_at "Z"
   have m8:mg "list"=none:=by walk_at "Z"
   have m9:mg "max"=none:=by walk_at "Z"
   have m10:mg "min"=none:=by walk_at "Z"
   have m11:mg "range"=none:=by walk_at "Z"
   have m12:mg "set"=none:=by walk_at "Z"
   have m13:mg "sorted"=none:=by walk_at "Z"
   have m14:mg "str"=none:=by walk_at "Z"
   have m15:mg "tuple"=none:=by walk_at "Z"
   have c0:Num0 mg "MOST_LETTERS" 8:=by
     refine' Nu (K:=KOf KX) KX G ?a
     (case a=>(dsimp only [KOf];k_is))
   refine⟨top 39,"order_of",top 15,f34,?zc,?zp,fun _ _ _ _ _ _ s u=>.of_eq rfl,fun cd f19 base kb nb hC hB=>?_⟩
   case zc=>
     refine' ⟨_,Pq KX G ?a ?l ?c ?k,?h⟩
     (case a=>k_is);(case l=>k_is);(case c=>k_is);(case k=>k_is);(case h=>kernel_rfl)
   case zp=>kernel_rfl
   have g0:=ok_pot (P:=rwp) (w:=w) (base:=base) f0 m7 m0 m5;have g1:=RZ (Pt:=ptOf hC) (lpos:=lamP) (qual:=lamQ) (P:=rwp) (w:=w) (base:=base) f1;have g2:=Sa (Pt:=ptOf hC) (P:=rwp) (w:=w) (base:=base) f2;have g3:=Sc (Pt:=ptOf hC) (P:=rwp) (w:=w) (base:=base) f3 g1 g2 m1 m2 m4 m7 m11 m13 m15;have g4:=Sd (Pt:=ptOf hC) (P:=rwp) (w:=w) (base:=base) f4 g1 m7 m8 m15;have g5:=Se (Pt:=ptOf hC) (P:=rwp) (w:=w) (base:=base) f5 g1 g4 m11;have g6:=Sf (Pt:=ptOf hC) (P:=rwp) (w:=w) (base:=base) f6 g1 m7 m8 m12 m13 m15;have g7:=Sg (Pt:=ptOf hC) (P:=rwp) (w:=w) (base:=base) f7 g1 m7;have g8:=Sh (Pt:=ptOf hC) (P:=rwp) (w:=w) (base:=base) f8 g1 g7 m7;have g9:=Si (Pt:=ptOf hC) (P:=rwp) (w:=w) (base:=base) f9;have g10:=Sj (Pt:=ptOf hC) (P:=rwp) (w:=w) (base:=base) f10 g9;have g11:=Sk (Pt:=ptOf hC) (P:=rwp) (w:=w) (base:=base) f11;have g12:=Sm (Pt:=ptOf hC) (P:=rwp) (w:=w) (base:=base) f12;have g13:=Sn (Pt:=ptOf hC) (P:=rwp) (w:=w) (base:=base) f13 m13;have g14:=So (Pt:=ptOf hC) (P:=rwp) (w:=w) (base:=base) f14 g13 m7;have g15:=Sq (Pt:=ptOf hC) (P:=rwp) (w:=w) (base:=base) f15 g12 g14 g9 g13;have g16:=Sr (Pt:=ptOf hC) (P:=rwp) (w:=w) (base:=base) f16 g9 g13 m7 m12;have g17:=Ss (Pt:=ptOf hC) (P:=rwp) (w:=w) (base:=base) f17 g16
   have g18:=Su (Pt:=ptOf hC) (P:=rwp) (w:=w) (base:=base) f18 g10 g11 g17 g15;have g19:=Sv (Pt:=ptOf hC) (P:=rwp) (w:=w) (base:=base) f19 hC hB g18 g11 g13 m7 m13 m15;have g20:=Sw (Pt:=ptOf hC) (P:=rwp) (w:=w) (base:=base) f20 m1 m6 m7 m14 c0;have g21:=Sx (Pt:=ptOf hC) (P:=rwp) (w:=w) (base:=base) f21 g20 g9;have g22:=Sy (Pt:=ptOf hC) (P:=rwp) (w:=w) (base:=base) f22 g20 m6 m7 m14 m15;have g23:=Sz (Pt:=ptOf hC) (P:=rwp) (w:=w) (base:=base) f23 g22;have g24:=SA (Pt:=ptOf hC) (P:=rwp) (w:=w) (base:=base) f24 g23 g12 g14;have g25:=SC (Pt:=ptOf hC) (P:=rwp) (w:=w) (base:=base) f25 g20 g23 g9 g13;have g26:=SD (Pt:=ptOf hC) (P:=rwp) (w:=w) (base:=base) f26 g23 g16;have g27:=SE (Pt:=ptOf hC) (P:=rwp) (w:=w) (base:=base) f27 g21 g24 g25 g26 m6 m7 m14 m15;have g28:=SF (Pt:=ptOf hC) (P:=rwp) (w:=w) (base:=base) f28 m1 m7;have g29:=SG (Pt:=ptOf hC) (P:=rwp) (w:=w) (base:=base) f29 g28 m7 m8 m11;have g30:=SH (Pt:=ptOf hC) (P:=rwp) (w:=w) (base:=base) f30 m4 m9 m10;have g31:=SI (Pt:=ptOf hC) (P:=rwp) (w:=w) (base:=base) f31 m6 m7 m15;have g32:=SJ (Pt:=ptOf hC) (P:=rwp) (w:=w) (base:=base) f32 g31 g30 m2 m6 m7 m12 m14 m15;have g33:=SK (Pt:=ptOf hC) (P:=rwp) (w:=w) (base:=base) f33 g29 g19 g27 g32 m3 m6
   exact k_law (Pt:=ptOf hC) (P:=rwp) (w:=w) (base:=base) f34 g0 g1 g5 g3 g6 g8 g33 m5 m7 m8 m11 m12 m13 m15
end
